import PyProof.Rows.All
import Wide.All
import OpenK.AllK
import Wide.FinOn
import Lean
import PyProof.EqAt
import PyProof.EqKinds
import PyProof.TupleCall
import PySem.Challenge.RW_easelroom_k66_whole_maps_carry_drawings
set_option Elab.async false
set_option linter.all false
set_option genSizeOf false
set_option maxRecDepth 100000
set_option maxHeartbeats 0
local macro_rules | `(tactic| lia) => `(tactic| first | lia (splits := 9) | omega)
open Option renaming some→Dn,none→Go
open PySem renaming wpAny_bind→Aj,Value→JI,Shared→Ab,Spec→aiO,wpAny_pure→HI,Program→IW,starEach→J9,SetTable→T8,mainGlobals→KC,Around→Ig,sizeLine→JN,wpAny→Bh,model→Bu,World→IV,wpAny_mono→Lp,wpAny_field→N8,wpAny_holding→Ot,NameKind→Qh,boot_len→R7,cellsFrom→Nu,wpAny_callSpecial?_slot→Xq,mem_of_lookup→X5,assignEach→QF,FuncData→Nv,Builtin→YD,compareOp→PJ,wpAny_newObj_type→XJ,tupleKeyHash→Sq,wpAny_Call_Name_kw→Xz,wpAny_call_entry→XD,PassesOwn→sV,foldedSetIterable→Xx,wpAny_seqItems→WM,binaryOp→Qy,backTo→Mi,wpAny_setState_of→Yj,wpAny_pyIter_list→Yi,bootBuiltins→X3,Paired→Wy,wpAny_setField→Y6,wpAny_setField_rec→Zj,wpAny_passesOwn→Yq,wpAny_execs_nil→Yp,intKind→RJ,codeAny_mono→Xl,wpAny_truthy_bool→Zi,wpAny_standAt→YC,wpAny_loadPart_at→Zh,wpAny_attempt→Y9,sysModules→WL,behindInMarks→Y8,wpAny_of_eq→Xd,wpAny_specialOf→Z4,cLine→Nb,isSubtype_type→Z3,wpAny_isInstance→Zu,rawInt→RL,attributeBase→ZW,wpAny_rule→Y5,typeLookup_type→Zy,swapsWith→Xe,sliceBounds→Yg,sizeLine_eq→Ye,excClassObj→Yd,codeAny→TY,IsPair→Rq,wpAny_call→YZ,wpAny_throw→Z8,Keyword→W9,holding→Ww
open PySem.W renaming Frag→BW,nsIn→Lw,Looks→WX,mg_none_of→Rz,findIn→R8,excIn→R6,keepIn→Ry,mg_of→SN,mroIn→X8,looks_mroIn→Za,clsIn→Xj,fnOf→Xi,codeIn→Z6,isFn→Yz,typeIn→Zt
open PySem.Heap renaming get?_push_of_some→JV,lt_size→Jb,get?_push_size→Mf,get?_update_other→Ru,get?_update_self→S7,SameBut→RK,size_push→Uk,get?_none_of_le→qY,ExtBut→ZF
open List renaming length_map→Ik,getElem?_eq_getElem→MH,getElem?_map→Ju,length_append→Le,getElem?_eq_some_iff→Oi,size_toArray→Mp,getElem?_append_left→Rx,mem_of_getElem?→Qz,getElem?_append_right→Sv,getD_eq_getElem?_getD→Ss,mem_cons→ML,take_succ→Nj,mem_cons_of_mem→RN,length_cons→PL,take_length→QG,mem_map→Nm,mem_singleton→Ri,map_cons→Od,map_append→R9,not_mem_nil→RQ,length_singleton→Tp,mem_cons_self→T9,replicate→RP,map_congr_left→Uo,mem_append_right→X7,length_take→Ti,mem_append→Tf,range→Qv,nodup_cons→WT,all_eq_true→XF,lookup_cons→Xv,mem_range→XC,mem_filter→Xr,length→Tj,getElem_mem→YH,length_range'→Yy,getElem?_take→Yx,mem_append_left→Zo,map_map→X4,eq_nil_of_length_eq_zero→ur,length_replicate→lR,append_nil→Yh,getElem?_of_mem→qj,drop_eq_getElem_cons→v7,any_eq_true→Zg,length_set→Ze,getElem?_replicate→ux,forIn_cons→Zc,foldl_cons→Zb,take_of_length_le→uE,mem_flatMap→Zv,getElem?_set_ne→tO,any_cons→Z1
open Nat renaming lt_of_lt_of_le→Ke,le_refl→JL,le_trans→Jz,ne_of_lt→KZ,le_of_ble_eq_true→S6,lt_irrefl→Rg,not_lt_zero→Te,ne_of_gt→SJ,zero_le→T7,lt_of_le_of_lt→Yw,le_of_lt→Xg,eq_of_beq_eq_true→fM,le_succ→Xk,beq→Rb,zero_add→YW,sub_self→YS,ble_eq→Yc,ble→Wx
open Int renaming mul_eq_zero→Jq,mul_ne_zero→O6,mul_zero→RM,eq_ofNat_of_zero_le→oJ,emod_lt_of_pos→ZX,emod_nonneg→Ys,gcd→T3,zero_mul→ZR,mul_comm→ZJ
open Classical renaming byContradiction→QK,epsilon_spec→qJ
open Option.some renaming inj→Ma
open Option renaming map_eq_some_iff→Rv
open Bool renaming false_ne_true→RT,and_eq_true→Uj,not_eq_true→Zf,and_false→Zz
open PyProof.Rows renaming slot_tuple_getitem→YL,callWith_type1→Zk,SortKind→YX,Keyed→Ol,kindOf→Rt,SortSt→S9,AllBare→W8,envOfC→T4
open PySem.SeqAt renaming EqAt→YK,ne_of_list_tuple→uI
open PySem.Obj renaming data_mapFields→Tn,isFreed_of_fields→X6,cls_mapFields→Zx
open PySem.Builtin.SmallTypes renaming nextOf→YG
open PySem.PassesOwn renaming never→T6
open Ne renaming symm→LI
open PySem.Heap.SameBut renaming update→Xo
open PySem.SetTable renaming bits→T5,insertAt→Y0,layClean→alp,probe→Z7,runEnd→Zw
open PySem.Calls renaming Name_function_global→Zr,loadGlobal_global→oU
open PySem.F renaming slot_tuple_iterator_next→vX,excBase_ValueError→uJ,store_object→jf,slot_zip_next→uG,called_set→YM
open False renaming elim→Td
open PySem.PyData renaming keyHash→Y7
open PyProof.Rows.F renaming plain_set_update_loop→mR
open PySem.SetTable.layClean renaming free→vP
open Prod.mk renaming injEq→Yo
open PySem.Code renaming quiet_builtin→qM
open Lean renaming maxHeartbeats→amh
namespace L2
open PySem PySem.Spec PyProof.Rows
noncomputable abbrev Key:=Sum Int Str
noncomputable def Js:Key->JI->Bool
 | .inl k,v=>Value.isInt k v
 | .inr x,v=>Value.isStrOf x v
noncomputable def aiy (w:IV):Key->Int
 | .inl k=>hashInt k
 | .inr x=>hashStr w x
theorem cF:∀{k v},Js k v=true->(∃i t,k=Sum.inl i/\v=Value.int i t)\/(∃x t,k=Sum.inr x/\v=Value.str x t)
 | .inl i,v,h=>by
  obtain⟨t,e⟩:=Value.isInt_shape h;simp_all
 | .inr x,v,h=>by
  obtain⟨t,e⟩:=Value.isStrOf_shape h;simp_all
theorem zaN (i)(t):Js (.inl i) (.int i t)=true:=by simp[Js,Value.isInt]
theorem zbf (x)(t):Js (.inr x) (.str x t)=true:=by simp[Js,Value.isStrOf]
theorem ad6 (a b):decide ((Sum.inl a:Key)=Sum.inl b)=(a==b):=by grind
theorem aec (a b:Str):decide ((Sum.inr a:Key)=Sum.inr b)=decide (a=b):=by simp_all
theorem abT (a)(b):decide ((Sum.inl a:Key)=Sum.inr b)=false:=rfl
theorem ab4 (a)(b):decide ((Sum.inr a:Key)=Sum.inl b)=false:=rfl
noncomputable def cQ (prog:IW)(w:IV):PySem.KeyKind prog w Key where
 is:=Js
 hash:=aiy w
 inj:=λv a b ha hb=>by
  rcases cF ha with⟨i,t,rfl,rfl⟩|⟨x,t,rfl,rfl⟩
  rcases cF hb with⟨j,u,rfl,e⟩|⟨y,u,rfl,e⟩
  injection e with e1 _;rw[e1]
  exact nomatch e
  rcases cF hb with⟨j,u,rfl,e⟩|⟨y,u,rfl,e⟩
  exact nomatch e
  injection e with e1 _;rw[e1]
 byValue:=λk v h=>by
  rcases cF h with⟨i,t,rfl,rfl⟩|⟨x,t,rfl,rfl⟩<;>rfl
 pyHash:=λhv h=>by
  rcases cF hv with⟨i,t,rfl,rfl⟩|⟨x,t,rfl,rfl⟩
  exact wpAny_pyHash_int h;exact wpAny_pyHash_str h
 eqBool:=λhu hv h=>by
  rcases cF hu with⟨i,t,rfl,rfl⟩|⟨x,t,rfl,rfl⟩
  rcases cF hv with⟨j,u,rfl,rfl⟩|⟨y,u,rfl,rfl⟩
  rw[ad6]at h;exact wpAny_eqBool_int h;rw[abT]at h;exact SeqAt.EqAt.int_str i t y u _ _ _ _ h;rcases cF hv with⟨j,u,rfl,rfl⟩|⟨y,u,rfl,rfl⟩
  rw[ab4]at h;exact SeqAt.EqAt.str_int x t j u _ _ _ _ h;rw[aec]at h;exact wpAny_eqBool_str h
 «strs»:=λk x t v h=>by
  rcases cF h with⟨i,u,rfl,e⟩|⟨y,u,rfl,e⟩
  exact nomatch e
  injection e with e1 _
  subst e1;cases v<;>rfl
theorem zai (prog)(w)(i)(t):(cQ prog w).is (.inl i) (.int i t)=true:=zaN i t
theorem zak (prog)(w)(x)(t):(cQ prog w).is (.inr x) (.str x t)=true:=zbf x t
inductive V where
 | non|bl (b:Bool)|int (i:Int)|str (x:Str)|byt (b:Array UInt8)|flt (b:UInt64)|ref (a:Addr)|ty (n:String)
 deriving DecidableEq
noncomputable def RelV:V->JI->Prop
 | .non,u=>u=Value.none
 | .bl b,u=>u=Value.bool b
 | .int i,u=>∃t,u=Value.int i t
 | .str x,u=>∃t,u=Value.str x t
 | .byt b,u=>∃t,u=Value.bytes b t
 | .flt b,u=>∃t,u=Value.float b t
 | .ref a,u=>u=Value.ref a
 | .ty n,u=>u=Value.type n
noncomputable abbrev CZ:List V->List JI->Prop:=Wy RelV
variable {xs:List V}{us:List JI}
theorem CZ.length {xs}{us}(r:CZ xs us):xs.length=us.length:=Paired.length r
theorem CZ.get:∀{xs}{us}{i:Nat}{x},CZ xs us->xs[i]?=Dn x->∃u,us[i]?=Dn u/\RelV x u
 | _,_,0,_,.cons r _,e=>by simp at e;subst e;exact⟨_,rfl,r⟩
 | _,_,i+1,x,.cons _ t,e=>by
  obtain⟨u,h1,h2⟩:=CZ.get t (by simpa using e)
  simp_all
variable {u:JI}
theorem CZ.set {x}{u}(r:RelV x u):∀{xs}{us}(i),CZ xs us->CZ (xs.set i x) (us.set i u)
 | _,_,_,.nil=>.nil
 | _,_,0,.cons _ t=>.cons r t
 | _,_,i+1,.cons q t=>.cons q (CZ.set r i t)
theorem CZ.append:∀{xs ys}{us ws},CZ xs us->CZ ys ws->CZ (xs++ys) (us++ws)
 | _,_,_,_,.nil,s=>s
 | _,_,_,_,.cons r t,s=>.cons r (CZ.append t s)
theorem CZ.take:∀{xs}{us}(n),CZ xs us->CZ (xs.take n) (us.take n)
 | _,_,0,_|_,_,_+1,.nil=>.nil
 | _,_,n+1,.cons r t=>.cons r (CZ.take n t)
theorem CZ.drop:∀{xs}{us}(n),CZ xs us->CZ (xs.drop n) (us.drop n)
 | _,_,0,r=>r
 | _,_,_+1,.nil=>.nil
 | _,_,n+1,.cons _ t=>CZ.drop n t
noncomputable def aav:Option V->Option JI->Prop
 | some v,Dn u=>RelV v u
 | none,Go=>True
 | _,_=>False
variable {κ:Type}
noncomputable def KV:List (κ×V)->List (κ×JI)->Prop:=Wy λ(p:κ×V) (q:κ×JI)=>p.1=q.1/\RelV p.2 q.2
noncomputable def kV:Key->V
 | .inl i=>.int i
 | .inr x=>.str x
inductive HO where
 | lst (xs:List V)
 | tup (xs:List V)
 | dK (kvs:List (Key×V))|dT (kvs:List (List Key×V))
 | set (S:Int->Bool) (n:Nat)
 | ins (C dx:Addr) (fs:List (Str×V))
 | own (x:Addr)
 | xd (fs:List (Str×V))
 | met (f x:Addr)
 | rng (lo hi:Int)
 | frz (o:Obj) (u:HO)
 | tbl (ps:Array JI)
 | ext (φ:Heap->Prop)
noncomputable abbrev Hp:=Addr->Option HO
noncomputable def Iz (H:Hp)(a:Addr)(o:HO):Hp:=λb=>if b=a then Dn o else H b
variable {a:Addr}{H:Hp}
theorem aV {o}:Iz H a o a=Dn o:=by unfold Iz;rw[if_pos rfl]
variable {b:Addr}
theorem aJ {o}(h:b≠a):Iz H a o b=H b:=by unfold Iz;rw[if_neg h]
theorem aO {o}(h:H a=Dn o)(h':H b=Go):a≠b:=by lia
section
variable (P:IW)(w:IV)
noncomputable def Uh (h:Heap)(a:Addr)(items:Array JI):Prop:=∃o,h.get? a=Dn o/\o.cls=.type "tuple"/\(∃n,o.data=.seq items n)/\o.dict=Go
theorem Uh.tup {h}{items}(x:Uh h a items):IsTup h a items:=let⟨o,ho,J,G,_⟩:=x;⟨o,ho,J,G⟩
theorem Uh.new (h:Heap)(items):Uh (h.push {cls:=.type "tuple",data:=.seq items}) h.objs.size items:=⟨_,Mf _ rfl,rfl,⟨_,rfl⟩,rfl⟩
noncomputable def gD (H:Hp)(h:Heap)(a:Addr):HO->Prop
 | .lst xs=>xs.length<=JN/\∃(its:List JI) (n:Nat),CZ xs its/\h.get? a=Dn {cls:=.type "list",data:=.seq its.toArray n}
 | .tup xs=>xs.length<=JN/\∃its:List JI,CZ xs its/\Uh h a its.toArray
 | .dK kvs=>kvs.length<=JN/\(a==WL)=false/\∃vs,KV kvs vs/\h.DictOf (cQ P w) a vs
 | .dT kvs=>kvs.length<=JN/\(a==WL)=false/\∃xs:List (List Key×Addr×JI),
   Wy (λ(p:List Key×V) (q:List Key×Addr×JI)=>p.1=q.1/\H q.2.1=Dn (.tup (p.1.map kV))/\RelV p.2 q.2.2) kvs xs /\
   ∃o es ep,h.get? a=Dn o/\o.ExactDict/\o.data=.dict es ep/\es.toList=xs.map (entryOfKey (tupleKind (cQ P w)))/\(xs.map (·.1)).Nodup
 | .set S n=>h.SetOf (RJ P w) a S n
 | .ins C dx fs=>H dx=Dn (.own a)/\fs.length<=1000/\dx≠a/\h.get? a=Dn (PySem.W.instObj C dx) /\
   ∃mA,h.Ns1 dx mA/\(∀f,aav (fs.lookup f) (mA f))/\PySem.Within mA (fs.map (·.1))
 | .own _=>∃o,h.get? a=Dn o
 | .xd fs=>∃mA,h.Ns1 a mA/\∀f,aav (fs.lookup f) (mA f)
 | .rng lo hi=>∃t u v,h.get? a=Dn {cls:=.type "range",data:=.fields #[.int lo t,.int hi u,.int 1 v]}
 | .frz o u=>h.get? a=Dn o/\gD H h a u
 | .tbl ps=>h.get? a=Dn {cls:=.none,data:=.fields ps}
 | .met f x=>h.get? a=Dn (PySem.W.methodObj (.ref f) (.ref x))
 | .ext φ=>φ h/\(∃o,h.get? a=Dn o)/\∀h1 h2:Heap,φ h1->(∀o,h1.get? a=Dn o->h2.get? a=Dn o)->φ h2
noncomputable def MP (H:Hp)(h:Heap):Prop:=∀a o,H a=Dn o->gD P w H h a o
end
variable {h:Heap}
section
variable {P:IW}{w:IV}{H':Hp}{h':Heap}{o:HO}
theorem gD.lt (x:gD P w H h a o):a<h.objs.size:=by
 cases o with
 | lst xs=>obtain⟨_,_,_,_,e⟩:=x;exact Jb e
 | tup xs=>obtain⟨_,_,_,p⟩:=x;exact p.tup.lt
 | dK kvs|dT kvs=>obtain⟨_,_,_,_,o,_,_,e,_⟩:=x;exact Jb e
 | set S n=>obtain⟨o,_,_,_,e,_⟩:=x;exact Jb e
 | ins C dx fs=>obtain⟨_,_,_,e,_⟩:=x;exact Jb e
 | own y=>obtain⟨_,e⟩:=x;exact Jb e
 | xd fs=>obtain⟨_,⟨_,_,_,e,_⟩,_⟩:=x;exact Jb e
 | rng lo hi=>obtain⟨_,_,_,e⟩:=x;exact Jb e
 | frz J u=>obtain⟨e,_⟩:=x;exact Jb e
 | tbl ps|met f y=>exact Jb x
 | ext G=>obtain⟨_,⟨_,e⟩,_⟩:=x;exact Jb e
theorem Paired.mapP {Y U}{F G}:∀{O:List Y}{J:List U},Wy F O J->(∀a b,F a b->G a b)->Wy G O J
 | _,_,.nil,_=>.nil
 | _,_,.cons r t,f=>.cons (f _ _ r) (Paired.mapP t f)
theorem gD.stay (x:gD P w H h a o)(k:∀b u,(b=a\/H b=Dn (.own a))->h.get? b=Dn u->h'.get? b=Dn u)
  (ho:∀b,H b=Dn (.own a)->H' b=Dn (.own a)) (ht:∀b xs,H b=Dn (.tup xs)->H' b=Dn (.tup xs)):gD P w H' h' a o:=by
 induction o with
 | lst xs=>obtain⟨z,its,n,r,e⟩:=x;exact⟨z,its,n,r,k _ _ (.inl rfl) e⟩
 | tup xs=>obtain⟨z,its,r,G,e,c⟩:=x;exact⟨z,its,r,G,k _ _ (.inl rfl) e,c⟩
 | dK kvs=>obtain⟨z,y,J,r,G,es,ep,e,c⟩:=x;exact⟨z,y,J,r,G,es,ep,k _ _ (.inl rfl) e,c⟩
 | dT kvs=>
  obtain⟨z,y,xs,r,G,es,ep,e,c⟩:=x;exact⟨z,y,xs,Paired.mapP r λp q z=>⟨z.1,ht _ _ z.2.1,z.2.2⟩,G,es,ep,k _ _ (.inl rfl) e,c⟩
 | set S n=>obtain⟨G,es,ep,t,e,c⟩:=x;exact⟨G,es,ep,t,k _ _ (.inl rfl) e,c⟩
 | ins C dx fs=>
  obtain⟨d,z,O,e,mA,⟨od,es,ep,e2,c⟩,r⟩:=x;exact⟨ho _ d,z,O,k _ _ (.inl rfl) e,mA,⟨od,es,ep,k _ _ (.inr d) e2,c⟩,r⟩
 | own y=>obtain⟨G,e⟩:=x;exact⟨G,k _ _ (.inl rfl) e⟩
 | xd fs=>obtain⟨mA,⟨od,es,ep,e,c⟩,r⟩:=x;exact⟨mA,⟨od,es,ep,k _ _ (.inl rfl) e,c⟩,r⟩
 | rng lo hi=>obtain⟨t,u,v,e⟩:=x;exact⟨t,u,v,k _ _ (.inl rfl) e⟩
 | frz G u U=>obtain⟨e,q⟩:=x;exact⟨k _ _ (.inl rfl) e,U q⟩
 | tbl ps|met f y=>
  have e:=x;exact k a _ (.inl rfl) e
 | ext Y=>obtain⟨p,⟨o,e⟩,st⟩:=x;exact⟨st _ _ p λo q=>k _ _ (.inl rfl) q,⟨o,k _ _ (.inl rfl) e⟩,st⟩
theorem MP.lt (x:MP P w H h)(e:H a=Dn o):a<h.objs.size:=(x a o e).lt
theorem MP.fresh (x:MP P w H h)(e:h.objs.size<=a):H a=Go:=by
 cases q:H a with
 | none=>rfl
 | some u=>exact absurd (Ke (x.lt q) e) (Rg _)
theorem MP.kept (x:MP P w H h)(k:∀b u,h.get? b=Dn u->h'.get? b=Dn u):MP P w H h':=λa o e=>
 (x a o e).stay (λb u _ q=>k b u q) (λ_ q=>q) λ_ _ q=>q
theorem MP.laid (x:MP P w H h)(k:∀b u,h.get? b=Dn u->h'.get? b=Dn u)(U:h.objs.size<=a)(G:gD P w (Iz H a o) h' a o):MP P w (Iz H a o) h':=λb u e=>by
 have J:=x.fresh U;by_cases O:b=a
 subst O;rw[aV]at e;cases e;exact G;rw[aJ O]at e;exact(x b u e).stay (λc v _ q=>k c v q) (λc q=>aJ (aO q J) ▸ q) λc xs q=>aJ (aO q J) ▸ q
end
variable {h':Heap}{H':Hp}{P:IW}{w:IV}
noncomputable def Rd (H:Hp)(a:Addr)(u:HO):Prop:=H a=Dn u\/∃o,H a=Dn (.frz o u)
theorem Rd.ok {u}(r:Rd H a u)(x:MP P w H h):gD P w H h a u:=by
 rcases r with r|⟨o,r⟩
 exact x a u r;obtain⟨_,q⟩:=x a _ r;exact q
noncomputable def Mut:Option HO->Prop
 | some (.lst _)=>True
 | some (.dK _)=>True
 | some (.dT _)=>True
 | some (.set _ _)=>True
 | some (.ins _ _ _)=>True
 | some (.ext _)=>True
 | some (.xd _)=>True
 | _=>False
section
variable {x e:Addr}{o':HO}
theorem MP.write (f:MP P w H h)(J:Mut (H x))(i:e=x\/H e=Dn (.own x))(k:∀b u,b≠e->h.get? b=Dn u->h'.get? b=Dn u)(U:∃u,h'.get? e=Dn u)
  (O:gD P w (Iz H x o') h' x o'):MP P w (Iz H x o') h':=λb u q=>by
 have G:∀c y,H c=Dn (.own y)->c≠x:=λc y r z=>by subst z;rw[r]at J;exact J
 by_cases d:b=x
 subst d;rw[aV]at q;cases q;exact O;rw[aJ d]at q;by_cases Y:b=e
 have a:H b=Dn (.own x):=by
  simp_all
 rw[q]at a;cases a;obtain⟨v,g⟩:=U;exact⟨v,Y ▸ g⟩;refine(f b u q).stay (λc v j r=>k c v ?_ r) (λc r=>aJ (G c b r) ▸ r) λc xs r=>by rw[aJ ((λc xs r z=>by subst z;rw[r]at J;exact J) c xs r)];exact r
 grind
end
structure Un (fs ex:List Addr) (H H':Hp) (h h':Heap):Prop where
 keep:∀b o,h.get? b=Dn o->H b=Go->b∉fs->b∉ex->h'.get? b=Dn o
 slot:∀b o,h.get? b=Dn o->H b=Go->b∈fs->b∉ex->∃sl,h'.get? b=Dn {o with slots:=sl}
 free:∀b o,h.get? b=Dn o->H b=Go->b∉ex->H' b=Go
 there:∀b o,h.get? b=Dn o->b∉ex->∃o',h'.get? b=Dn o'
 tups:∀b xs,H b=Dn (.tup xs)->H' b=Dn (.tup xs)
 frzs:∀b o u,H b=Dn (.frz o u)->H' b=Dn (.frz o u)
 tbls:∀b ps,H b=Dn (.tbl ps)->∃more,H' b=Dn (.tbl (ps++more))
section
variable {fs fs' ex ex':List Addr}{H1 H2:Hp}{h1 h2:Heap}{x e:Addr}{o:HO}
theorem Un.any (u:Un fs ex H H1 h h1){G}(q:h.get? b=Dn G)(n:H b=Go)(J:b∉ex):∃sl,h1.get? b=Dn {G with slots:=sl}:=by
 by_cases O:b∈fs
 exact u.slot b G q n O J;exact⟨G.slots,u.keep b G q n O J⟩
theorem Un.kept (k:∀b u,h.get? b=Dn u->h'.get? b=Dn u):Un fs ex H H h h':=
 ⟨λb G q _ _ _=>k b G q,λb G q _ _ _=>⟨G.slots,k b G q⟩,λ_ _ _ n _=>n,λb G q _=>⟨G,k b G q⟩,λ_ _ q=>q,λ_ _ _ q=>q,λ_ ps q=>⟨#[],by rw[q];simp⟩⟩
theorem Un.refl:Un fs ex H H h h:=Un.kept λ_ _ q=>q
theorem Un.laid (k:∀b u,h.get? b=Dn u->h'.get? b=Dn u)(f:h.objs.size<=a)(J:H a=Go):Un fs ex H (Iz H a o) h h' where
 keep:=λb u q _ _ _=>k b u q
 slot:=λb u q _ _ _=>⟨u.slots,k b u q⟩
 free:=λb u q n _=>aJ (KZ (Ke (Jb q) f)) ▸ n
 there:=λb u q _=>⟨u,k b u q⟩
 tups:=λb xs q=>aJ (aO q J) ▸ q
 frzs:=λb u xs q=>aJ (aO q J) ▸ q
 tbls:=λb ps q=>⟨#[],by rw[aJ (aO q J),q];simp⟩
theorem Un.write (G:Mut (H x))(a:e=x\/H e=Dn (.own x))(k:∀b u,b≠e->h.get? b=Dn u->h'.get? b=Dn u)(Y:∃u,h'.get? e=Dn u):Un fs ex H (Iz H x o) h h':=by
 have U:∀b,H b=Go->b≠x:=λb n z=>by subst z;rw[n]at G;exact G
 have O:∀b,H b=Go->b≠e:=λb n z=>by
  simp_all
 have J:∀b u,H b=Dn u->¬Mut (Dn u)->b≠x:=λb u q nm z=>by subst z;rw[q]at G;exact nm G
 refine⟨λb u q n _ _=>k b u (O b n) q,λb u q n _ _=>⟨u.slots,k b u (O b n) q⟩,λb u q n _=>aJ (U b n) ▸ n,λb u q _=>?_,
  λb xs q=>aJ (J b _ q λz=>z) ▸ q,λb u xs q=>aJ (J b _ q λz=>z) ▸ q,λb ps q=>⟨#[],by rw[aJ (J b _ q λz=>z),q];simp⟩⟩
 grind
end
noncomputable def trk (h:Heap)(H:Hp):List Addr:=(Qv h.objs.size).filter λa=>(H a).isSome
noncomputable def aaJ (h:Heap)(H:Hp):Heap:=PySem.W.hideAll h (trk h H)
theorem ajb (h)(H):(aaJ h H).objs.size=h.objs.size:=PySem.W.hideAll_size _ _
theorem ajB {o}(e:h.get? b=Dn o)(n:H b=Go):(aaJ h H).get? b=Dn o:=
 PySem.W.hideAll_get _ e λhm=>by
  have q:=(Xr.mp hm).2;simp_all
theorem aaz {o}(e:(aaJ h H).get? b=Dn o):h.get? b=Dn o/\H b=Go:=by
 have e':=PySem.W.of_hideAll _ e;refine⟨e',?_⟩;cases q:H b with
 | none=>rfl
 | some x=>
  have z:(aaJ h H).get? b=Go:=PySem.W.hideAll_none _ (Xr.mpr ⟨XC.mpr (Jb e'),by simp[q]⟩);simp_all
structure Mod (K:BW) (mg:Str->Option JI) (base:Heap):Prop where
 kin:K.In base
 glob:base.Ns KC mg
 blt:∃mb,base.Ns builtinsNs mb/\∀x:Str,x ≠ "__name__"->mb x=X3 x
 nolimit:base.NoLimit
structure Cx where
 prog:IW
 w:IV
 K:BW
 mg:Str->Option JI
 base:Heap
 A:Ig
 N:List Str
 s₀:Ab
 H₀:Hp
 env:Env
 outer:List Env
 stack:List Env
 ex:List Addr
 fn:Str->Bool
 calm:Bool
 pn:List (Addr×Obj)
 xe:JI->Ab->Prop
noncomputable def frs (l:List Env):List Addr:=l.filterMap (·.frame)
noncomputable abbrev Cx.fs (X:Cx):List Addr:=frs X.outer
noncomputable def Vis (sc:Scope)(x:Str):Prop:=sc.names.lookup x=Dn .local\/sc.names.lookup x=Dn .cell\/sc.names.lookup x=Dn .free
noncomputable def Loc (sc:Scope)(x:Str):Prop:=sc.names.lookup x=Dn .local\/sc.names.lookup x=Dn .cell
noncomputable def Look (env:Env)(h:Heap)(m:Str->Option JI)(x:Str)(u:JI):Prop:=
 (env.kindOf x=Dn .local/\m x=Dn u)\/((env.kindOf x=Dn .cell\/env.kindOf x=Dn .free)/\∃c,env.cells.lookup x=Dn c/\h.IsCell c (Dn u))
inductive Rn (H:Hp):JI->Prop
 | nil:Rn H .none
 | cons {c:Addr}{o:Obj}{u:HO}{vs:Array JI}{z:JI}(h1:H c=Dn (.frz o u)) (h2:o.data=.fields vs) (h3:vs[2]?=Dn z) (t:Rn H z):Rn H (.ref c)
theorem Rn.mono {v}(c:Rn H v)(k:∀a o u,H a=Dn (.frz o u)->H' a=Dn (.frz o u)):Rn H' v:=by
 induction c with
 | nil=>exact .nil
 | cons h1 h2 J _ G=>exact .cons (k _ _ _ h1) h2 J G
noncomputable def Still (H:Hp)(v:JI):Prop:=(∃a,v=.ref a)/\Rn H v
noncomputable def Quiet (A:Ig)(H:Hp):Prop:=∀v,A.handled=Dn v->Still H v
structure Cx.Ok (X:Cx):Prop where
 mod:Mod X.K X.mg X.base
 kind:X.env.scope.kind=.function
 glob:X.env.globals=KC
 blt:X.env.builtins=builtinsNs
 above:X.s₀.heap.objs.size<=X.env.locals
 inj:∀x y c,X.env.cells.lookup x=Dn c->X.env.cells.lookup y=Dn c->x=y
 has:∀x,(X.env.kindOf x=Dn .cell\/X.env.kindOf x=Dn .free)->∃c,X.env.cells.lookup x=Dn c
 cab:∀x c,X.fn x=true->X.env.cells.lookup x=Dn c->X.s₀.heap.objs.size<=c
 hd:X.calm=true->X.A.handled=Go
 qt:Quiet X.A X.H₀
 frames:X.A.frames=Dn X.stack
 stk:X.stack=X.outer\/(X.stack=X.env::X.outer/\X.env.frame=Dn X.env.locals)
 exf:∀b∈X.ex,b≠X.env.locals/\∀x c,X.env.cells.lookup x=Dn c->c≠b
 bs:∀b o,X.base.get? b=Dn o->X.s₀.heap.get? b=Dn o/\X.H₀ b=Go
 bsz:X.base.objs.size<=X.s₀.heap.objs.size
 noex:∀b o,X.base.get? b=Dn o->b∉X.ex
 exfs:∀b∈X.ex,b∉X.fs
 funs:X.s₀.heap.FunFrames X.base X.outer
 frf:∀b∈X.fs,X.H₀ b=Go
structure Al (X:Cx) (aor:List (Addr×Obj)) (σ:List (Option V)) (H:Hp) (s:Ab):Prop where
 ok:X.Ok
 os:s.os=X.s₀.os
 bare:W8 s.gens
 base:Un X.fs X.ex X.H₀ H X.s₀.heap s.heap
 loc:∃m,s.heap.Ns X.env.locals m/\∀(i:Nat) (x:Str) (v:V),X.N[i]?=Dn x->σ[i]?=Dn (Dn v)->Vis X.env.scope x->∃u,RelV v u/\Look X.env s.heap m x u
 cell:∀x c,X.env.cells.lookup x=Dn c->∃v,s.heap.IsCell c v
 free:H X.env.locals=Go
 freeC:∀x c,X.env.cells.lookup x=Dn c->H c=Go
 pin:∀p∈X.pn++aor,s.heap.get? p.1=Dn p.2/\H p.1=Go/\p.1≠X.env.locals/\p.1∉X.fs/\∀v,p.2.data≠.cell v
 hok:MP X.prog X.w H s.heap
 len:σ.length=X.N.length
section
variable {X:Cx}{aor:List (Addr×Obj)}{σ:List (Option V)}{s:Ab}
theorem Cx.Ok.nofr (G:X.Ok){o}(e:X.base.get? b=Dn o):b∉X.fs:=λhb=>by
 have:=(G.funs.mem hb).1
 simp_all
theorem Al.bs (I:Al X aor σ H s):∀b o,X.base.get? b=Dn o->s.heap.get? b=Dn o/\H b=Go:=λb o e=>
 ⟨I.base.keep b o (I.ok.bs b o e).1 (I.ok.bs b o e).2 (I.ok.nofr e) (I.ok.noex b o e),I.base.free b o (I.ok.bs b o e).1 (I.ok.bs b o e).2 (I.ok.noex b o e)⟩
theorem Al.qt0 (I:Al X aor σ H s):Quiet X.A H:=λv e=>⟨(I.ok.qt v e).1,(I.ok.qt v e).2.mono I.base.frzs⟩
theorem Al.bk (I:Al X aor σ H s):∀b o,X.base.get? b=Dn o->s.heap.get? b=Dn o:=λb o e=>(I.bs b o e).1
theorem Al.mod (I:Al X aor σ H s):Mod X.K X.mg X.base:=I.ok.mod
theorem Al.kIn (I:Al X aor σ H s):X.K.In s.heap:=I.ok.mod.kin.keeps I.bk
theorem Al.lt (I:Al X aor σ H s):X.env.locals<s.heap.objs.size:=let⟨_,G,_⟩:=I.loc;G.lt
theorem Al.sz (I:Al X aor σ H s):X.s₀.heap.objs.size<=s.heap.objs.size:=Jz I.ok.above (Xg I.lt)
theorem Al.nofs (I:Al X aor σ H s)(h:s.heap.objs.size<=a):a∉X.fs:=λhb=>by
 obtain⟨_,o,ho,_⟩:=I.ok.funs.mem hb;exact absurd (Ke (Jb ho)<|Jz I.sz h)<|Rg _
theorem Al.cne (I:Al X aor σ H s):∀x c,X.env.cells.lookup x=Dn c->c≠X.env.locals:=λx c e z=>by
 obtain⟨v,o,ho,O⟩:=I.cell x c e;obtain⟨m,⟨o',es,ep,G,J,_⟩,_⟩:=I.loc;simp_all
theorem Al.funs (I:Al X aor σ H s):s.heap.FunFrames X.base X.outer:=by
 have U:∀(l:List Env),(∀b∈frs l,b∈X.fs)->X.s₀.heap.FunFrames X.base l->s.heap.FunFrames X.base l:=by
  intro l;induction l with
  | nil=>intro _ _;trivial
  | cons env r Y=>
   intro hs hl;obtain⟨d,⟨L,o,G,c,ho,f⟩,a⟩:=hl;have O:=hs L (by unfold frs;rw[List.filterMap_cons,G];exact T9);obtain⟨sl,e⟩:=I.base.slot L o ho (I.ok.frf L O) O λz=>I.ok.exfs L z O
   exact⟨d,⟨L,_,G,c,e,f⟩,Y (λb J=>hs b (by unfold frs;rw[List.filterMap_cons,G];exact RN _ J)) a⟩
 exact U _ (λ_ J=>J) I.ok.funs
theorem Al.stack (I:Al X aor σ H s):s.heap.FunFrames X.base X.stack:=by
 rcases I.ok.stk with e|⟨e,J⟩
 rw[e];exact I.funs;rw[e];obtain⟨m,G,_⟩:=I.loc;refine .cons (by rw[I.ok.kind];decide) J G ?_ I.funs;exact qY<|Jz I.ok.bsz I.ok.above
theorem Al.stkSub (I:Al X aor σ H s):∀b∈frs X.stack,b∈X.env.locals::X.fs:=λb G=>by
 rcases I.ok.stk with e|⟨e,J⟩
 simp_all
 rw[e]at G;unfold frs at G
 rwa[List.filterMap_cons,J]at G
theorem Al.stkFree (I:Al X aor σ H s):∀b∈frs X.stack,H b=Go:=λb G=>by
 rcases ML.mp (I.stkSub b G)with e|G
 rw[e];exact I.free;obtain⟨_,o,ho,_⟩:=I.ok.funs.mem G;exact I.base.free b o ho (I.ok.frf b G) λz=>I.ok.exfs b z G
theorem Al.stepG {Q t'}{d'}{ch:List Addr}(I:Al X aor σ H s)
  (Y:∀b∈ch,(b∈X.ex\/X.s₀.heap.get? b=Go)/\b≠X.env.locals/\(∀x c,X.env.cells.lookup x=Dn c->c≠b)/\∀p∈X.pn++aor,p.1≠b)
  (U:∀b o,b≠X.env.locals->b∉X.fs->b∉ch->s.heap.get? b=Dn o->H b=Go->h'.get? b=Dn o)
  (h:∀b o,b≠X.env.locals->b∈X.fs->b∉ch->s.heap.get? b=Dn o->H b=Go->∃sl,h'.get? b=Dn {o with slots:=sl}) (J:∀b o,b∉ch->s.heap.get? b=Dn o->H b=Go->H' b=Go)
  (j:∀b o,b∉ch->s.heap.get? b=Dn o->∃o',h'.get? b=Dn o')
  (w:∀b xs,H b=Dn (.tup xs)->H' b=Dn (.tup xs)) (C:∀b o u,H b=Dn (.frz o u)->H' b=Dn (.frz o u)) (y:∀b ps,H b=Dn (.tbl ps)->∃B,H' b=Dn (.tbl (ps++B)))
  (ns:∀m,s.heap.Ns X.env.locals m->h'.Ns X.env.locals m) (E:MP X.prog X.w H' h') (S:W8 Q) :
  Al X aor σ H' {s with heap:=h',gens:=Q,drawn:=d',toks:=t'}:=by
 have A:∀b o,X.s₀.heap.get? b=Dn o->b≠X.env.locals:=λb o e=>KZ (Ke (Jb e) I.ok.above)
 have g:∀b o,X.s₀.heap.get? b=Dn o->b∉X.ex->b∉ch:=λb o e G t=>by
  rcases(Y b t).1 with z|z
  exact G z;rw[z]at e;cases e
 have f:∀x c,X.env.cells.lookup x=Dn c->∀v,s.heap.IsCell c v->h'.IsCell c v:=λx c e v a=>by
  obtain⟨o,ho,F⟩:=a;have O:=λz=>(Y c z).2.2.1 x c e rfl
  by_cases P:c∈X.fs
  obtain⟨sl,q⟩:=h c o (I.cne x c e) P O ho (I.freeC x c e);exact⟨_,q,F⟩;exact⟨o,U c o (I.cne x c e) P O ho<|I.freeC x c e,F⟩
 refine⟨I.ok,I.os,S,⟨λb o e n t G=>(U b o (A b o e) t (g b o e G) (I.base.keep b o e n t G)<|I.base.free b o e n G),λb o e n t G=>?_,λb o e n G=>?_,λb o e G=>?_,λb xs e=>w b xs<|I.base.tups b xs e,λb o xs e=>C b o xs<|I.base.frzs b o xs e,λb ps e=>?_⟩,?_,λx c e=>?_,?_,λx c e=>?_,λp M=>?_,E,I.len⟩;obtain⟨sl,e1⟩:=I.base.slot b o e n t G;obtain⟨D,e2⟩:=h b _ (A b o e) t (g b o e G) e1 (I.base.free b o e n G);exact⟨D,e2⟩;obtain⟨o',e1⟩:=I.base.there b o e G;exact J b o' (g b o e G) e1<|I.base.free b o e n G
 obtain⟨o',e1⟩:=I.base.there b o e G;exact j b o' (g b o e G) e1;obtain⟨m1,e1⟩:=I.base.tbls b ps e;obtain⟨m2,e2⟩:=y b _ e1;exact⟨m1++m2,by rw[e2,Array.append_assoc]⟩;obtain⟨m,R,hl⟩:=I.loc;refine⟨m,ns m R,λi x v e1 e2 e3=>?_⟩;obtain⟨u,r,l⟩:=hl i x v e1 e2 e3;refine⟨u,r,?_⟩;rcases l with l|⟨k,c,e,z⟩
 exact .inl l;exact .inr ⟨k,c,e,f x c e _ z⟩;obtain⟨v,z⟩:=I.cell x c e;exact⟨v,f x c e v z⟩;obtain⟨m,⟨o,_,_,ho,_⟩,_⟩:=I.loc;exact J _ o (λz=>(Y _ z).2.1 rfl) ho I.free;obtain⟨v,o,ho,F⟩:=I.cell x c e;exact J c o (λz=>(Y c z).2.2.1 x c e rfl) ho<|I.freeC x c e
 obtain⟨e,n,L,K,d⟩:=I.pin p M;have O:=λz=>(Y _ z).2.2.2 p M rfl
 exact⟨U _ _ L K O e n,J _ _ O e n,L,K,d⟩
theorem Al.step {i:Array GenState}{t':Nat}{d':Drawn}{ch:List Addr}(I:Al X aor σ H s)
  (d:∀b∈ch,(b∈X.ex\/X.s₀.heap.objs.size<=b)/\b≠X.env.locals/\(∀x c,X.env.cells.lookup x=Dn c->c≠b)/\∀p∈X.pn++aor,p.1≠b)
  (a:∀b o,b≠X.env.locals->b∉X.fs->b∉ch->s.heap.get? b=Dn o->H b=Go->h'.get? b=Dn o)
  (U:∀b o,b≠X.env.locals->b∈X.fs->b∉ch->s.heap.get? b=Dn o->H b=Go->∃sl,h'.get? b=Dn {o with slots:=sl}) (f:∀b o,b∉ch->s.heap.get? b=Dn o->H b=Go->H' b=Go)
  (G:∀b o,b∉ch->s.heap.get? b=Dn o->∃o',h'.get? b=Dn o')
  (J:∀b xs,H b=Dn (.tup xs)->H' b=Dn (.tup xs)) (e:∀b o u,H b=Dn (.frz o u)->H' b=Dn (.frz o u)) (O:∀b ps,H b=Dn (.tbl ps)->∃Y,H' b=Dn (.tbl (ps++Y)))
  (ns:∀m,s.heap.Ns X.env.locals m->h'.Ns X.env.locals m) (g:MP X.prog X.w H' h') (j:W8 i) :
  Al X aor σ H' {s with heap:=h',gens:=i,drawn:=d',toks:=t'}:=
 I.stepG (λb z=>⟨(d b z).1.imp id λq=>qY q,(d b z).2⟩) a U f G J e O ns g j
theorem Al.un {t'}(I:Al X aor σ H s)(u:Un X.fs [] H H' s.heap h')(J:MP X.prog X.w H' h'):Al X aor σ H' {s with heap:=h',toks:=t'}:=by
 obtain⟨m,⟨o,es,ep,ho,r⟩,_⟩:=I.loc;obtain⟨sl,f⟩:=u.any ho I.free (by simp);exact I.step (ch:=[]) nofun (λb o _ O _ e n=>u.keep b o e n O (by simp)) (λb o _ O _ e n=>u.slot b o e n O (by simp)) (λb o _ e n=>u.free b o e n (by simp)) (λb o _ e=>u.there b o e (by simp)) u.tups u.frzs u.tbls (λm' d=>by
  obtain⟨o',U,Y,G,c⟩:=d;rw[ho]at G;cases G;exact⟨_,U,Y,f,c⟩) J I.bare
theorem Al.call {g t'}{d'}{ch}(I:Al X aor σ H s)(u:Un (frs X.stack) ch H H' s.heap h')(U:MP X.prog X.w H' h')(j:W8 g)
  (O:∀b∈ch,(b∈X.ex\/X.s₀.heap.objs.size<=b)/\b≠X.env.locals/\(∀x c,X.env.cells.lookup x=Dn c->c≠b)/\∀p∈X.pn++aor,p.1≠b) :
  Al X aor σ H' {s with heap:=h',gens:=g,drawn:=d',toks:=t'}:=by
 obtain⟨m,⟨o,es,ep,ho,r⟩,_⟩:=I.loc;obtain⟨sl,Y⟩:=u.any ho I.free λz=>(O _ z).2.1 rfl
 exact I.step O (λb o Y k G e n=>u.keep b o e n (λz=>(ML.mp (I.stkSub b z)).elim Y k) G) (λb o _ _ G e n=>u.any e n G) (λb o G e n=>u.free b o e n G) (λb o G e=>u.there b o e G) u.tups u.frzs u.tbls (λm' i=>by
  obtain⟨o',a,d,J,h⟩:=i;rw[ho]at J;cases J;exact⟨_,a,d,Y,h⟩) U j
theorem Al.turned {t'}{it}(I:Al X aor σ H s)(k:∀b o,b≠it->s.heap.get? b=Dn o->h'.get? b=Dn o)(U:H it=Go)(a:it≠X.env.locals)
  (h1:it∈X.ex\/X.s₀.heap.objs.size<=it) (h2:∀x c,X.env.cells.lookup x=Dn c->c≠it) (f:∀p∈X.pn++aor,p.1≠it):Al X aor σ H {s with heap:=h',toks:=t'}:=by
 have J:∀b u,H b=Dn u->b≠it:=λb u e z=>by rw[z,U]at e;cases e
 refine I.step (ch:=[it]) (λb d=>?_) (λb o _ _ G e _=>k b o (λz=>G<|by simp[z]) e) (λb o _ _ G e _=>⟨o.slots,k b o (λz=>G<|by simp[z]) e⟩) (λ_ _ _ _ n=>n)
  (λb o G e=>⟨o,k b o (λz=>G (by simp[z])) e⟩) (λ_ _ e=>e) (λ_ _ _ e=>e) (λb ps e=>⟨#[],by rw[e];simp⟩) (λm Y=>?_) (λb u e=>?_) I.bare
 grind
 obtain⟨o,es,ep,ho,r⟩:=Y;exact⟨o,es,ep,k _ o (LI a) ho,r⟩;refine(I.hok b u e).stay (λc v G q=>k c v ?_ q) (λ_ q=>q) λ_ _ q=>q;rcases G with z|z
 simp_all
 exact J c _ z
theorem Al.tok (I:Al X aor σ H s)(t):Al X aor σ H {s with toks:=t}:=I.un Un.refl I.hok
theorem Al.kept {t'}(I:Al X aor σ H s)(k:∀b u,s.heap.get? b=Dn u->h'.get? b=Dn u):Al X aor σ H {s with heap:=h',toks:=t'}:=I.un (Un.kept k) (I.hok.kept k)
theorem Al.laid {a:Addr}{o:HO}{t':Nat}(I:Al X aor σ H s)(k:∀b u,s.heap.get? b=Dn u->h'.get? b=Dn u)(J:s.heap.objs.size<=a)(G:gD X.prog X.w (Iz H a o) h' a o) :
  Al X aor σ (Iz H a o) {s with heap:=h',toks:=t'}:=I.un (Un.laid k J (I.hok.fresh J)) (I.hok.laid k J G)
theorem Al.write {x e o}{t'}(I:Al X aor σ H s)(O:Mut (H x))(Y:e=x\/H e=Dn (.own x))(k:∀b u,b≠e->s.heap.get? b=Dn u->h'.get? b=Dn u)(G:∃u,h'.get? e=Dn u)
  (J:gD X.prog X.w (Iz H x o) h' x o):Al X aor σ (Iz H x o) {s with heap:=h',toks:=t'}:=I.un (Un.write O Y k G) (I.hok.write O Y k G J)
theorem Al.weak {σ'}(I:Al X aor σ H s)(hl:σ'.length=σ.length)(w:∀(i:Nat) v,σ'[i]?=Dn (Dn v)->σ[i]?=Dn (Dn v)):Al X aor σ' H s:=
 ⟨I.ok,I.os,I.bare,I.base,let⟨m,J,G⟩:=I.loc;⟨m,J,λi x v e1 e2 e3=>G i x v e1 (w i v e2) e3⟩,I.cell,I.free,I.freeC,I.pin,I.hok,hl.trans I.len⟩
theorem Al.pins_of {pins'}(I:Al X aor σ H s)(h:∀p∈pins',s.heap.get? p.1=Dn p.2/\H p.1=Go/\p.1≠X.env.locals/\p.1∉X.fs/\∀v,p.2.data≠.cell v):Al X pins' σ H s:=
 ⟨I.ok,I.os,I.bare,I.base,I.loc,I.cell,I.free,I.freeC,λp G=>(Tf.mp G).elim (λz=>I.pin p (Zo _ z)) (h p),I.hok,I.len⟩
theorem Ej {N:List Str}(G:N.Nodup){i j:Nat}{x}(a:N[i]?=Dn x)(b:N[j]?=Dn x):i=j:=by
 obtain⟨h1,e1⟩:=Oi.mp a;obtain⟨h2,e2⟩:=Oi.mp b;exact(List.getElem_inj G).mp (e1.trans e2.symm)
theorem zT {M A}{E i x v}{Q}(I:Al X aor σ H s)(hN:X.N.Nodup)(hi:X.N[i]?=Dn x)(hx:Loc X.env.scope x)(r:RelV v u)
  (h:∀s',Al X aor (σ.set i (Dn v)) H s'->(∃a,RK a s.heap s'.heap/\(a=X.env.locals\/X.env.cells.lookup x=Dn a))->Q () s') (hf:X.fn x=true\/X.env.scope.names.lookup x=Dn .local:=by first|exact .inl rfl|exact .inr rfl|assumption):Bh M A (storeName X.env x u) Q E s:=by
 obtain⟨m,hn,hl⟩:=I.loc;have hiσ:i < σ.length:=by rw[I.len];exact(Oi.mp hi).1
 have cne:=I.cne;have tracked:∀{a:Addr}{h':Heap},(∃o,s.heap.get? a=Dn o/\H a=Go)->RK a _ h'->MP _ _ H h':=λ{a h'} ha hs b ob e=>by
  obtain⟨_,_,hfree⟩:=ha;refine(I.hok b ob e).stay (λc w' hc q=>(hs.2 c ?_).trans q) (λ_ q=>q) λ_ _ q=>q;rintro rfl;rcases hc with rfl|hc
  rw[hfree]at e;cases e;rw[hfree]at hc;cases hc
 rcases hx with hk|hk
 refine wpAny_storeName_local hk hn (λh' hn' hs=>?_) (by rw[I.ok.kind];rfl);obtain⟨oL,_,_,hoL,_⟩:=hn;refine h _ ⟨I.ok,I.os,I.bare,⟨λb o e n hb hx=>?_,λb o e n hb hx=>?_,I.base.free,λb o e hx=>?_,I.base.tups,I.base.frzs,I.base.tbls⟩,⟨_,hn',λj y v' e1 e2 e3=>?_⟩,λy c e=>?_,I.free,I.freeC,λp hp=>?_,tracked ⟨oL,hoL,I.free⟩ hs,by simpa using I.len⟩ ⟨_,hs,.inl rfl⟩;exact(hs.2 b<|KZ<|Ke (Jb e) I.ok.above).trans (I.base.keep b o e n hb hx);obtain⟨sl,e1⟩:=I.base.slot b o e n hb hx;exact⟨sl,(hs.2 b<|KZ<|Ke (Jb e) I.ok.above).trans e1⟩;obtain⟨o',e1⟩:=I.base.there b o e hx;exact⟨o',(hs.2 b<|KZ<|Ke (Jb e) I.ok.above).trans e1⟩;by_cases hj:j=i
 subst hj;rw[hi]at e1;cases e1;rw[List.getElem?_set_self hiσ]at e2;cases e2;exact⟨u,r,.inl ⟨hk,by simp⟩⟩;rw[tO (LI hj)]at e2;obtain⟨u',r',q⟩:=hl j y v' e1 e2 e3;refine⟨u',r',?_⟩;rcases q with⟨k,e⟩|⟨k,c,e,z⟩
 refine .inl ⟨k,?_⟩;have:y≠x:=λe=>hj (Ej hN e1 (e ▸ hi))
 simp[this,e];exact .inr ⟨k,c,e,z.sameBut hs<|cne y c e⟩;obtain⟨w',z⟩:=I.cell y c e;exact⟨w',z.sameBut hs<|cne y c e⟩;obtain⟨e,n,ne,nf,d⟩:=I.pin p hp;exact⟨(hs.2 p.1 ne).trans e,n,ne,nf,d⟩;have hfn:X.fn x=true:=by
  rcases hf with z|z
  exact z;rw[z]at hk;cases hk
 obtain⟨c,hc⟩:=I.ok.has x (.inl hk);obtain⟨w',z⟩:=I.cell x c hc;refine wpAny_storeName_cell I.ok.kind hk hc z<|λh' hc' hs=>?_
 obtain⟨oc,hoc,hocd⟩:=z;refine h {s with heap:=h'} ⟨I.ok,I.os,I.bare,⟨λb o e n hb hx=>?_,λb o e n hb hx=>?_,I.base.free,λb o e hx=>?_,I.base.tups,I.base.frzs,I.base.tbls⟩,⟨m,hn.sameBut hs<|LI<|cne x c hc,λj y v' e1 e2 e3=>?_⟩,λy c' e=>?_,I.free,I.freeC,λp hp=>?_,tracked ⟨oc,hoc,I.freeC x c hc⟩ hs,by simpa using I.len⟩ ⟨c,hs,.inr hc⟩;exact(hs.2 b<|KZ<|Ke (Jb e)<|I.ok.cab x c hfn hc).trans (I.base.keep b o e n hb hx);obtain⟨sl,e1⟩:=I.base.slot b o e n hb hx;exact⟨sl,(hs.2 b<|KZ<|Ke (Jb e)<|I.ok.cab x c hfn hc).trans e1⟩;obtain⟨o',e1⟩:=I.base.there b o e hx;exact⟨o',(hs.2 b<|KZ<|Ke (Jb e)<|I.ok.cab x c hfn hc).trans e1⟩;by_cases hj:j=i
 subst hj;rw[hi]at e1;cases e1;rw[List.getElem?_set_self hiσ]at e2;cases e2;exact⟨u,r,.inr ⟨.inl hk,c,hc,hc'⟩⟩;rw[tO (LI hj)]at e2;obtain⟨u',r',q⟩:=hl j y v' e1 e2 e3;refine⟨u',r',?_⟩;rcases q with q|⟨k,c',e,z'⟩
 exact .inl q;refine .inr ⟨k,c',e,z'.sameBut hs ?_⟩;rintro rfl;exact hj<|Ej hN e1<|I.ok.inj _ _ _ e hc ▸ hi
 by_cases hcc:c'=c
 subst hcc;exact⟨_,hc'⟩;obtain⟨w2,z2⟩:=I.cell y c' e;exact⟨w2,z2.sameBut hs hcc⟩;obtain⟨e,n,ne,nf,d⟩:=I.pin p hp;refine⟨(hs.2 p.1 ?_).trans e,n,ne,nf,d⟩;intro q;rw[q,hoc]at e;exact d w'<|(Ma e) ▸ hocd
theorem mZ {M:Model}{A:Ig}{E:JI->Ab->Prop}{i:Nat}{x:Str}{v:V}{Q:Unit->Ab->Prop}(I:Al X aor σ H s)(hN:X.N.Nodup)(hi:X.N[i]?=Dn x)(hx:Loc X.env.scope x)(r:RelV v u)
  (h:∀s',Al X aor (σ.set i (Dn v)) H s'->Q () s') (hf:X.fn x=true\/X.env.scope.names.lookup x=Dn .local:=by first|exact .inl rfl|exact .inr rfl|assumption):Bh M A (storeName X.env x u) Q E s:=
 zT I hN hi hx r (λs' I' _=>h s' I') hf
theorem Al.call' {s'}{ch}(I:Al X aor σ H s)(ho:s'.os=s.os)(u:Un (frs X.stack) ch H H' s.heap s'.heap)(G:MP X.prog X.w H' s'.heap)(O:W8 s'.gens)
  (J:∀b∈ch,(b∈X.ex\/X.s₀.heap.objs.size<=b)/\b≠X.env.locals/\(∀x c,X.env.cells.lookup x=Dn c->c≠b)/\∀p∈X.pn++aor,p.1≠b):Al X aor σ H' s':=by
 obtain⟨h',Y,d',U,o'⟩:=s';subst ho;exact I.call u G O J
end
variable {X:Cx}{aor:List (Addr×Obj)}{M:Model}{i j:Nat}{E:JI->Ab->Prop}{s':Ab}{A:Ig}
noncomputable abbrev XK:=JI->Option Addr->Hp->Prop
noncomputable abbrev St:=List (Option V)
noncomputable abbrev VK:=V->Hp->Prop
noncomputable abbrev TE:=St->Hp->VK->Prop
noncomputable abbrev TT:=St->Hp->(Bool->Hp->Prop)->Prop
noncomputable abbrev TA:=St->Hp->(List V->Hp->Prop)->Prop
structure Ends where
 nx:St->Hp->Prop
 rt:VK
 bk:St->Hp->Prop:=λ_ _=>False
 ct:St->Hp->Prop:=λ_ _=>False
noncomputable abbrev TS:=Ends->St->Hp->Prop
noncomputable def EP (X:Cx)(aor:List (Addr×Obj))(σ:St)(Q:VK)(u:JI)(s':Ab):Prop:=∃v H',Al X aor σ H' s'/\RelV v u/\Q v H'
noncomputable def TP (X:Cx)(aor:List (Addr×Obj))(σ:St)(Q:Bool->Hp->Prop)(b:Bool)(s':Ab):Prop:=∃H',Al X aor σ H' s'/\Q b H'
noncomputable def zae (X:Cx)(aor:List (Addr×Obj))(σ:St)(Q:List V->Hp->Prop)(us:List JI)(s':Ab):Prop:=∃G H',Al X aor σ H' s'/\CZ G us/\Q G H'
noncomputable def SP (X:Cx)(aor:List (Addr×Obj))(D:Ends)(f:Flow)(s':Ab):Prop:=
 match f with
 | .next=>∃σ' H',Al X aor σ' H' s'/\D.nx σ' H'
 | .brk=>∃σ' H',Al X aor σ' H' s'/\D.bk σ' H'
 | .cont=>∃σ' H',Al X aor σ' H' s'/\D.ct σ' H'
 | .ret u=>∃v σ' H',Al X aor σ' H' s'/\RelV v u/\D.rt v H'
noncomputable def PE (X:Cx)(e:Expr)(t:TE):Prop:=
 ∀(aor:List (Addr×Obj)) (s:Ab) (σ:St) (H:Hp) (Q:VK),Al X aor σ H s->t σ H Q->Bh (Bu X.prog X.w) X.A (eval e X.env) (EP X aor σ Q) X.xe s
noncomputable def PT (X:Cx)(e:Expr)(t:TT):Prop:=
 ∀(aor:List (Addr×Obj)) (s:Ab) (σ:St) (H:Hp) (Q:Bool->Hp->Prop),Al X aor σ H s->t σ H Q->Bh (Bu X.prog X.w) X.A (isTrue e X.env (eval e X.env)) (TP X aor σ Q) X.xe s
noncomputable def PW (X:Cx)(e:Expr)(t:TT):Prop:=
 ∀(G:Sem JI) (aor:List (Addr×Obj)) (s:Ab) (σ:St) (H:Hp) (Q:Bool->Hp->Prop),Al X aor σ H s->t σ H Q->Bh (Bu X.prog X.w) X.A (isTrue e X.env G) (TP X aor σ Q) X.xe s
variable {e:Expr}
theorem PW.pt {t}(h:PW X e t):PT X e t:=h _
noncomputable def PA (X:Cx)(es:List Expr)(t:TA):Prop:=
 ∀(pos:Pos) (aor:List (Addr×Obj)) (s:Ab) (σ:St) (H:Hp) (Q:List V->Hp->Prop),Al X aor σ H s->t σ H Q->Bh (Bu X.prog X.w) X.A (spliced (Mi pos (J9 es X.env))) (zae X aor σ Q) X.xe s
noncomputable def PS (X:Cx)(st:Stmt)(t:TS):Prop:=
 ∀(aor:List (Addr×Obj)) (s:Ab) (σ:St) (H:Hp) (D:Ends),Al X aor σ H s->t D σ H->Bh (Bu X.prog X.w) X.A (exec st X.env) (SP X aor D) X.xe s
noncomputable def RB (X:Cx)(st:List Stmt)(t:TS):Prop:=
 ∀(aor:List (Addr×Obj)) (s:Ab) (σ:St) (H:Hp) (D:Ends),Al X aor σ H s->t D σ H->Bh (Bu X.prog X.w) X.A (execs st X.env) (SP X aor D) X.xe s
theorem JC {G:Type}{t:Sem G}{Q J:G->Ab->Prop}{s:Ab}(h:Bh M A t Q E s)(O:∀a s,Q a s->J a s):Bh M A t J E s:=Lp h O λ_ _ x=>x
section
noncomputable def ad0 (i:Nat):TE:=fun σ H Q=>∃v,σ[i]?=Dn (Dn v)/\Q v H
noncomputable def tC (v:V):TE:=λ_ H Q=>Q v H
theorem acA {x}{pos}(hN:X.N[i]?=Dn x)(hv:Vis X.env.scope x)(hd:(x==("__debug__" : Str))=false:=by decide)(hcd:(x==("__classdict__" : Str))=false:=by decide):PE X (.Name x pos) (ad0 i):=by
 intro aor s σ H Q I h;obtain⟨v,e,h⟩:=h;obtain⟨m,hn,hl⟩:=I.loc;obtain⟨u,r,l⟩:=hl i x v hN e hv;have fin:EP X aor σ Q u s:=⟨v,H,I,r,h⟩
 rcases l with⟨hk,hm⟩|⟨hk,c,hc,hcell⟩
 exact wpAny_Name (wpAny_loadName_local I.ok.kind hk hn hm fin) hd;rcases hk with hk|hk
 exact wpAny_Name (wpAny_loadName_cell I.ok.kind hk hc hcell fin) hd;exact wpAny_Name (wpAny_loadName_free I.ok.kind hk hc hcell fin hcd) hd
theorem aed {i j pos}:PE X (.Constant (.int i) j pos) (tC (.int i)):=λ_ _ _ H _ I h=>wpAny_Constant_int ⟨.int i,H,I.tok _,⟨_,rfl⟩,h⟩
theorem af4 {b j pos}:PE X (.Constant (.bool b) j pos) (tC (.bl b)):=λ_ _ _ H _ I h=>Constant_bool ⟨.bl b,H,I,rfl,h⟩
theorem adn {j pos}:PE X (.Constant .none j pos) (tC .non):=λ_ _ _ H _ I h=>Constant_none ⟨.non,H,I,rfl,h⟩
theorem Vn {x j pos}:PE X (.Constant (.str x) j pos) (tC (.str x)):=λ_ _ _ H _ I h=>Calls.Constant_str ⟨.str x,H,I.tok _,⟨_,rfl⟩,h⟩
noncomputable def Gl (X:Cx)(x:Str):Prop:=X.env.kindOf x=Dn .globalImplicit
theorem lU {s}{σ:St}{x}{pos}{Q}(I:Al X aor σ H s)(hg:Gl X x)(hm:X.mg x=Dn u)(h:Q u s)
  (hd:(x==("__debug__" : Str))=false:=by decide):Bh (Bu X.prog X.w) X.A (eval (.Name x pos) X.env) Q E s:=
 Zr I.ok.kind hg (oU (I.ok.glob ▸ I.mod.glob.keeps I.bk) hm h) hd
theorem pR {s}{σ:St}{x}{pos}{Q}(I:Al X aor σ H s)(hg:Gl X x)(hm:X.mg x=Go)(hv:X3 x=Dn u)(h:Q u s)
  (hn:x ≠ "__name__":=by decide) (hd:(x==("__debug__" : Str))=false:=by decide):Bh (Bu X.prog X.w) X.A (eval (.Name x pos) X.env) Q E s:=by
 obtain⟨mb,h1,h2⟩:=I.mod.blt;exact Zr I.ok.kind hg (Calls.loadGlobal_builtin (I.ok.glob ▸ I.mod.glob.keeps I.bk) hm (I.ok.blt ▸ h1.keeps I.bk) ((h2 x hn).trans hv) h) hd
theorem Cr {x:Str}{v:V}{pos:Pos}(hg:Gl X x)(hm:X.mg x=Dn u)(r:RelV v u)(hd:(x==("__debug__" : Str))=false:=by decide):PE X (.Name x pos) (tC v):=
 λ_ _ _ H _ I h=>lU I hg hm ⟨v,H,I,r,h⟩ hd
theorem MF {x v}{pos}(hg:Gl X x)(hm:X.mg x=Go)(hv:X3 x=Dn u)(r:RelV v u)(hn:x ≠ "__name__":=by decide)(hd:(x==("__debug__" : Str))=false:=by decide):PE X (.Name x pos) (tC v):=
 λ_ _ _ H _ I h=>pR I hg hm hv ⟨v,H,I,r,h⟩ hn hd
variable {a b:Expr}{ta tb:TE}{pos:Pos}
variable {tA tB':TT}{rest:List Expr}
noncomputable def ahF (t u:TT):TT:=fun σ H Q=>t σ H λc H1=>if c=true then u σ H1 Q else Q false H1
noncomputable def tOr (t u:TT):TT:=fun σ H Q=>t σ H λc H1=>if c=true then Q true H1 else u σ H1 Q
noncomputable def aiq (t:TT):TT:=fun σ H Q=>t σ H λc H1=>Q (!c) H1
theorem aml (ha:PT X a tA):PW X (.BoolOp .And [a] pos) tA:=by
 intro G aor s σ H Q I h;refine isTrue_and<|JC (ha aor s σ H Q I h) λc J e=>?_
 cases c with
 | true=>exact isTrue_and_nil e
 | false=>exact e
theorem acJ (ha:PT X a tA):PW X (.BoolOp .Or [a] pos) tA:=by
 intro G aor s σ H Q I h;refine isTrue_or<|JC (ha aor s σ H Q I h) λc J e=>?_
 cases c with
 | false=>exact isTrue_or_nil e
 | true=>exact e
theorem acG (ha:PT X a tA)(Y:PW X (.BoolOp .And (b::rest) pos) tB'):PW X (.BoolOp .And (a::b::rest) pos) (ahF tA tB'):=by
 intro O aor s σ H Q I h;refine isTrue_and<|JC (ha aor s σ H _ I h) λc U d=>?_;obtain⟨H1,J,G⟩:=d
 cases c with
 | true=>exact Y O aor U σ H1 Q J G
 | false=>exact⟨H1,J,G⟩
theorem af7 (ha:PT X a tA)(Y:PW X (.BoolOp .Or (b::rest) pos) tB'):PW X (.BoolOp .Or (a::b::rest) pos) (tOr tA tB'):=by
 intro O aor s σ H Q I h;refine isTrue_or<|JC (ha aor s σ H _ I h) λc U d=>?_;obtain⟨H1,J,G⟩:=d
 cases c with
 | true=>exact⟨H1,J,G⟩
 | false=>exact Y O aor U σ H1 Q J G
theorem abM (ha:PT X a tA):PT X (.UnaryOp .Not a pos) (aiq tA):=by
 intro aor s σ H Q I h;exact isTrue_not<|ha aor s σ H _ I h
noncomputable def afl (ta tb:TE):TE:=fun σ H Q=>ta σ H λx H1=>∃c,x=.bl c/\if c=true then tb σ H1 Q else Q (.bl false) H1
noncomputable def afW (ta:TE):TE:=fun σ H Q=>ta σ H λx H1=>∃c,x=.bl c/\Q (.bl (!c)) H1
theorem ach {G t}(h:PE X a t):PE X (.BoolOp G [a] pos) t:=λaor s σ H Q I J=>BoolOp_one (h aor s σ H Q I J)
theorem aa1 (ha:PE X a ta)(Y:PE X (.BoolOp .And (b::rest) pos) tb):PE X (.BoolOp .And (a::b::rest) pos) (afl ta tb):=by
 intro aor s σ H Q I h;refine BoolOp_and<|JC (ha aor s σ H _ I h) λv O d=>?_;obtain⟨x,H1,J,U,G⟩:=d
 obtain⟨c,rfl,G⟩:=G;cases U;refine Zi ?_;cases c with
 | true=>exact Y aor O σ H1 Q J G
 | false=>exact⟨.bl false,H1,J,rfl,G⟩
theorem adO (ha:PE X a ta):PE X (.UnaryOp .Not a pos) (afW ta):=by
 intro aor s σ H Q I h;refine UnaryOp_<|JC (ha aor s σ H _ I h) λv U b=>?_;obtain⟨x,H1,O,J,G⟩:=b
 obtain⟨c,rfl,G⟩:=G;cases J;exact not_of<|Zi ⟨.bl<|!c,H1,O,rfl,G⟩
noncomputable def tIf (t:TT)(ta tb:TE):TE:=fun σ H Q=>t σ H λc H1=>if c=true then ta σ H1 Q else tb σ H1 Q
theorem akn {c:Expr}(U:PT X c tA)(ha:PE X a ta)(Y:PE X b tb):PE X (.IfExp c a b pos) (tIf tA ta tb):=by
 intro aor s σ H Q I h;refine wpAny_IfExp<|JC (U aor s σ H _ I h) λd G e=>?_;obtain⟨H1,O,J⟩:=e
 cases d with
 | true=>exact ha aor G σ H1 Q O J
 | false=>exact Y aor G σ H1 Q O J
end
variable {pos:Pos}{σ:St}{ta:TE}{Q:JI->Ab->Prop}
noncomputable def Kh (K:BW)(H:Hp)(a:Addr)(xs:List V):Prop:=
 Rd H a (.lst xs) \/
  ∃(o:Obj) (its:Array JI) (n:Nat),K.lookup a=Dn o/\o.cls=.type "list"/\o.dict=Go/\o.data=.seq its n/\its.size<=JN/\CZ xs its.toList
noncomputable def Lq (K:BW)(H:Hp)(a:Addr)(xs:List V):Prop:=
 Rd H a (.tup xs) \/
  ∃(o:Obj) (its:Array JI) (n:Nat),K.lookup a=Dn o/\o.cls=.type "tuple"/\o.data=.seq its n/\its.size<=JN/\CZ xs its.toList/\o.dict=Go
noncomputable def aiC:JI->Option V
 | .none=>Dn .non
 | .bool b=>Dn (.bl b)
 | .int i _=>Dn (.int i)
 | .str x _=>Dn (.str x)
 | .bytes b _=>Dn (.byt b)
 | .float b _=>Dn (.flt b)
 | .ref a=>Dn (.ref a)
 | .type n=>Dn (.ty n)
 | _=>Go
theorem RelV.abs {x:V}(r:RelV x u):aiC u=Dn x:=by
 cases x with
 | non|bl _|ref _|ty _=>cases r;rfl
 | int _|str _|byt _|flt _=>obtain⟨t,rfl⟩:=r;rfl
theorem RelV.inj {x y}(r:RelV x u)(q:RelV y u):x=y:=Ma (r.abs.symm.trans q.abs)
theorem CZ.inj:∀{xs ys us},CZ xs us->CZ ys us->xs=ys
 | _,_,_,.nil,.nil=>rfl
 | _,_,_,.cons r t,.cons J G=>by rw[r.inj J,CZ.inj t G]
section
variable {s:Ab}{ys:List V}
theorem Kh.of {K}(h:H a=Dn (.lst xs)):Kh K H a xs:=.inl (.inl h)
theorem Lq.of {K:BW}(h:H a=Dn (.tup xs)):Lq K H a xs:=.inl (.inl h)
theorem Al.list (I:Al X aor σ H s)(h:Kh X.K H a xs):∃its,CZ xs its/\PlainL s.heap a its.toArray/\xs.length<=JN:=by
 rcases h with h|⟨o,its,n,G,O,J,hs,U,r⟩
 obtain⟨z,its,n,r,e⟩:=h.ok I.hok;exact⟨its,r,⟨_,n,e,rfl,rfl,rfl⟩,z⟩;refine⟨its.toList,r,⟨o,n,I.kIn a o G,O,J,by simpa using hs⟩,?_⟩;have e:=r.length;simp_all
theorem Al.tupO (I:Al X aor σ H s)(h:Lq X.K H a xs):∃its,CZ xs its/\Uh s.heap a its.toArray/\xs.length<=JN:=by
 rcases h with h|⟨o,its,n,G,O,hs,U,r,J⟩
 obtain⟨z,its,r,p⟩:=h.ok I.hok;grind
 refine⟨its.toList,r,⟨o,I.kIn a o G,O,⟨n,by simpa using hs⟩,J⟩,?_⟩;have e:=r.length;simp_all
theorem Al.tuple (I:Al X aor σ H s)(h:Lq X.K H a xs):∃its,CZ xs its/\IsTup s.heap a its.toArray/\xs.length<=JN:=let⟨its,r,p,z⟩:=I.tupO h;⟨its,r,p.tup,z⟩
theorem Al.list_inj (I:Al X aor σ H s)(h:Kh X.K H a xs)(h':Kh X.K H a ys):xs=ys:=by
 obtain⟨its,r,⟨o,n,e,_,_,d⟩,_⟩:=I.list h;obtain⟨G,J,⟨o',U,e',_,_,d'⟩,_⟩:=I.list h';rw[e]at e';cases e';rw[d]at d';injection d' with O _
 have:=by simpa using congrArg Array.toList O
 subst this;exact r.inj J
theorem Al.tuple_inj (I:Al X aor σ H s)(h:Lq X.K H a xs)(h':Lq X.K H a ys):xs=ys:=by
 obtain⟨its,r,⟨o,e,_,n,d⟩,_⟩:=I.tuple h;obtain⟨G,J,⟨o',e',_,U,d'⟩,_⟩:=I.tuple h';rw[e]at e';cases e';rw[d]at d';injection d' with O _
 have:=by simpa using congrArg Array.toList O
 subst this;exact r.inj J
end
variable {K:BW}
noncomputable abbrev Cx.wish (X:Cx)(E:JI->Ab->Prop):Cx:={X with xe:=E}
noncomputable abbrev Cx.nox (X:Cx):Cx:=X.wish λ_ _=>False
theorem Cx.Ok.wish {X:Cx}(G:X.Ok)(E):(X.wish E).Ok:=
 ⟨G.mod,G.kind,G.glob,G.blt,G.above,G.inj,G.has,G.cab,G.hd,G.qt,G.frames,G.stk,G.exf,G.bs,G.bsz,G.noex,G.exfs,G.funs,G.frf⟩
theorem Cx.Ok.unwish (G:(X.wish E).Ok):X.Ok:=
 ⟨G.mod,G.kind,G.glob,G.blt,G.above,G.inj,G.has,G.cab,G.hd,G.qt,G.frames,G.stk,G.exf,G.bs,G.bsz,G.noex,G.exfs,G.funs,G.frf⟩
section
variable {s:Ab}
theorem Al.wish (I:Al X aor σ H s)(E):Al (X.wish E) aor σ H s:=⟨I.ok.wish E,I.os,I.bare,I.base,I.loc,I.cell,I.free,I.freeC,I.pin,I.hok,I.len⟩
theorem Al.unwish (I:Al (X.wish E) aor σ H s):Al X aor σ H s:=⟨I.ok.unwish,I.os,I.bare,I.base,I.loc,I.cell,I.free,I.freeC,I.pin,I.hok,I.len⟩
theorem SP.unwish {D f s'}(h:SP (X.wish E) aor D f s'):SP X aor D f s':=by
 cases f with
 | next|brk|cont=>obtain⟨G,H',I,q⟩:=h;exact⟨G,H',I.unwish,q⟩
 | ret u=>obtain⟨v,G,H',I,r,q⟩:=h;exact⟨v,G,H',I.unwish,r,q⟩
theorem RB.nox {st t}(h:RB X.nox st t):RB X st t:=λaor s σ H D I G=>
 Lp (h aor s σ H D (I.wish _) G) (λ_ _ q=>q.unwish) λ_ _ z=>Td z
end
section
variable {st:Stmt}{rest:List Stmt}{t u:TS}{te:TE}
noncomputable def afx:TS:=λD σ H=>D.nx σ H
noncomputable def ahQ (t u:TS):TS:=λD σ H=>t {D with nx:=u D} σ H
theorem amG:RB X [] afx:=λ_ _ σ H _ I h=>Yp ⟨σ,H,I,h⟩
theorem Dz (h1:PS X st t)(h2:RB X rest u):RB X (st::rest) (ahQ t u):=by
 intro aor s σ H D I h;refine wpAny_execs_cons<|JC (h1 aor s σ H {D with nx:=u D} I h) λf J q=>?_
 cases f with
 | next=>
  obtain⟨G,H',O,q⟩:=q;exact h2 aor J G H' D O q
 | ret v|brk|cont=>exact q
theorem Bt (h1:PS X st t):RB X [st] t:=by
 intro aor s σ H D I h;refine wpAny_execs_cons<|JC (h1 aor s σ H D I h) λf G q=>?_
 cases f with
 | next=>exact Yp q
 | ret v|brk|cont=>exact q
theorem Al.quiet {s}(I:Al X aor σ H s):interactive X.env=false:=by simp[interactive,I.ok.kind]
noncomputable def afZ (te:TE):TS:=λD σ H=>te σ H λ_ H1=>D.nx σ H1
theorem ajT (he:PE X e te)(hs:Xe e Go pos.line X.env=pure false:=by rfl):PS X (.Expr e pos) (afZ te):=by
 intro aor s σ H D I h;exact wpAny_Expr_any (JC (he aor s σ H _ I h) λv s1 a=>by obtain⟨x,H1,I1,r1,q1⟩:=a;exact ⟨σ,H1,I1,q1⟩) I.quiet hs
noncomputable def ah1 (te:TE):TS:=λD σ H=>te σ H D.rt
theorem U7 (O:PE X e te):PS X (.Return (Dn e) pos) (ah1 te):=by
 intro aor s σ H D I h;exact wpAny_Return_some<|JC (O aor s σ H _ I h) λv Y a=>by obtain⟨x,H1,U,G,J⟩:=a;exact ⟨x,σ,H1,U,G,J⟩
noncomputable def aiu (c:TT)(t u:TS):TS:=λD σ H=>c σ H λb H1=>if b=true then t D σ H1 else u D σ H1
theorem ad8 {c}{a b tc}(U:PT X c tc)(ha:RB X a t)(Y:RB X b u):PS X (.If c a b pos) (aiu tc t u):=by
 intro aor s σ H D I h;refine wpAny_If<|JC (U aor s σ H _ I h) λd G e=>?_;obtain⟨H1,O,J⟩:=e
 cases d with
 | true=>exact ha aor G σ H1 D O J
 | false=>exact Y aor G σ H1 D O J
end
noncomputable abbrev TG:=V->St->Hp->(St->Hp->Prop)->Prop
noncomputable abbrev WY:=List V->St->Hp->(St->Hp->Prop)->Prop
noncomputable def PG (X:Cx)(G:Expr)(t:TG):Prop:=
 ∀(aor:List (Addr×Obj)) (s:Ab) (σ:St) (H:Hp) (v:V) (u:JI) (Q:St->Hp->Prop),Al X aor σ H s->RelV v u->t v σ H Q ->
  Bh (Bu X.prog X.w) X.A (assign G X.env u) (λ_ s'=>∃σ' H',Al X aor σ' H' s'/\Q σ' H') X.xe s
noncomputable def XM (X:Cx)(ts:List Expr)(t:WY):Prop:=
 ∀(aor:List (Addr×Obj)) (s:Ab) (σ:St) (H:Hp) (G:List V) (us:List JI) (Q:St->Hp->Prop),Al X aor σ H s->CZ G us->t G σ H Q ->
  Bh (Bu X.prog X.w) X.A (assignInOrder ((QF ts X.env).map (·.2)) us) (λ_ s'=>∃σ' H',Al X aor σ' H' s'/\Q σ' H') X.xe s
noncomputable abbrev aaL:=V->V->V->Hp->(Hp->Prop)->Prop
noncomputable def aeM (X:Cx)(t:aaL):Prop:=
 ∀(aor:List (Addr×Obj)) (s:Ab) (σ:St) (H:Hp) (o i v:V) (G J u:JI) (Q:Hp->Prop),Al X aor σ H s->RelV o G->RelV i J->RelV v u->t o i v H Q ->
  Bh (Bu X.prog X.w) X.A (setItem G J u) (λ_ s'=>∃H',Al X aor σ H' s'/\Q H') X.xe s
section
noncomputable def KJ (i:Nat):TG:=λv σ H Q=>Q (σ.set i (Dn v)) H
theorem oW {x:Str}(hN:X.N.Nodup)(hi:X.N[i]?=Dn x)(hx:Loc X.env.scope x)(hf:X.fn x=true\/X.env.scope.names.lookup x=Dn .local:=by first|exact .inl rfl|exact .inr rfl|assumption):PG X (.Name x pos) (KJ i):=by
 intro aor s σ H v u Q I r h;exact wpAny_assign_Name<|mZ I hN hi hx r (λs' I'=>⟨_,H,I',h⟩) hf
noncomputable def ahV:WY:=λvs σ H Q=>vs=[]/\Q σ H
noncomputable def afQ (t:TG)(u:WY):WY:=λvs σ H Q=>∃v r,vs=v::r/\t v σ H fun σ' H'=>u r σ' H' Q
theorem O5:XM X [] ahV:=by
 intro aor s σ H G us Q I r h;obtain⟨e,h⟩:=h;exact assignInOrder_nil ⟨σ,H,I,h⟩
theorem xU {es t u}(h1:PG X e t)(h2:XM X es u)
  (hs:(QF (e::es) X.env).map (·.2)=assign e X.env::(QF es X.env).map (·.2):=by rfl):XM X (e::es) (afQ t u):=by
 intro aor s σ H vs us Q I r h;obtain⟨v,vr,e1,h⟩:=h;subst e1;cases r with
 | cons r rr=>
  exact hs ▸ assignInOrder_cons (JC (h1 aor s σ H _ _ _ I r h) λ_ s1 a=>by obtain⟨σ1,H1,I1,q1⟩:=a;exact (h2 aor s1 σ1 H1 _ _ Q I1 rr q1))
noncomputable def aic (K:BW)(n:Nat)(t:WY):TG:=λv σ H Q=>∃a xs,v=.ref a/\Lq K H a xs/\xs.length=n/\t xs σ H Q
theorem adC {es:List Expr}{k:Nat}{t:WY}{n:Nat}(hc:X.calm=true)(h:XM X es t)
  (hn:(QF es X.env).length=n:=by rfl) (hst:(QF es X.env).findIdx? (·.1)=Go:=by rfl):PG X (.Tuple es k pos) (aic X.K n t):=by
 intro aor s σ H v u Q I r hw;obtain⟨a,xs,e1,hq,hl,hw⟩:=hw;subst e1;cases r;obtain⟨its,rv,ht,hz⟩:=I.tuple hq;exact assign_Tuple_tuple (I.ok.hd hc) ht (by simp[hn,<-hl,rv.length]) hst λh' hx=>(h aor _ σ H xs _ Q (I.kept λb o e=>hx b o (KZ<|Jb e) e) (by simpa using rv) hw)
noncomputable def aio (to G:TE)(t:aaL):TG:=λv σ H Q=>to σ H λo H1=>G σ H1 λi H2=>t o i v H2 λH3=>Q σ H3
theorem aaS {o i to ti t}(ho:PE X o to)(hi:PE X i ti)(hs:aeM X t)
  (ha:∀v,assign (.Subscript o i pos) X.env v=(do
   let ov <-Ww [v] (eval o X.env)
   let iv <-Ww [v,ov] (eval i X.env)
   standAt pos
   Ww [v,ov,iv] (setItem ov iv v)
   release [v,ov,iv] []):=by intro _;rfl):PG X (.Subscript o i pos) (aio to ti t):=by
 intro aor s σ H v u Q I r h;rw[ha];exact Aj<|Ot<|JC (ho aor s σ H _ I h) λov s1 a=>by obtain⟨x,H1,I1,r1,q1⟩:=a;exact (Aj<|Ot<|JC (hi aor s1 σ H1 _ I1 q1) λiv s2 b=>by obtain⟨y,H2,I2,r2,q2⟩:=b;exact (Aj<|YC<|Aj<|Ot<|JC (hs aor s2 σ H2 x y v ov iv u _ I2 r1 r2 r q2) λ_ s3 c=>by obtain⟨H3,I3,q3⟩:=c;exact (wpAny_release ⟨σ,H3,I3,q3⟩)))
noncomputable def abE (te:TE)(g:TG):TS:=λD σ H=>te σ H λx H1=>g x σ H1 D.nx
theorem acI {tg te g}(he:PE X e te)(hg:PG X tg g)(hs:swapsWithSole [tg] e pos.line X.env=pure false:=by rfl)(hw:swappedStores [tg] e X.env=pure Go:=by rfl)
  (h1:(QF [tg] X.env).map (·.2)=[assign tg X.env]:=by rfl):PS X (.Assign [tg] e pos) (abE te g):=by
 intro aor s σ H D I h;exact wpAny_Assign_stores (JC (he aor s σ H _ I h) λv s1 a=>by obtain⟨x,H1,I1,r1,q1⟩:=a;exact (h1 ▸ JC (hg aor s1 σ H1 x v _ I1 r1 q1) λ_ s2 q=>q)) hs hw
theorem V7 {x te}{pos'}(hN:X.N.Nodup)(hi:X.N[i]?=Dn x)(hx:Loc X.env.scope x)(he:PE X e te)(hs:Xe e (Dn (.Name x pos')) pos.line X.env=pure false:=by rfl)(hf:X.fn x=true\/X.env.scope.names.lookup x=Dn .local:=by first|exact .inl rfl|exact .inr rfl|assumption):
  PS X (.Assign [.Name x pos'] e pos) (abE te (KJ i)):=by
 intro aor s σ H D I h;exact wpAny_Assign_Name (JC (he aor s σ H _ I h) λv s1 a=>by obtain⟨y,H1,I1,r1,q1⟩:=a;exact (mZ I1 hN hi hx r1 (λs2 I2=>⟨_,H1,I2,q1⟩) hf)) hs
noncomputable def agY (i j:Nat)(ta:TA):TS:=λD σ H=>ta σ H λvs H1=>∃v w,vs=[v,w]/\D.nx ((σ.set i (Dn v)).set j (Dn w)) H1
theorem acR {x y}{a b ta}{px py pt}{kt k2 pt2}(hc:X.calm=true)(hN:X.N.Nodup)(hi:X.N[i]?=Dn x)(hj:X.N[j]?=Dn y)(hij:i≠j)
  (hx:X.env.scope.names.lookup x=Dn .local) (hy:X.env.scope.names.lookup y=Dn .local) (ha:PA X [a,b] ta)
  (hw:swappedStores [.Tuple [.Name x px,.Name y py] kt pt] (.Tuple [a,b] k2 pt2) X.env=pure (Dn [x,y]))
  (hs:swapsWithSole [.Tuple [.Name x px,.Name y py] kt pt] (.Tuple [a,b] k2 pt2) pos.line X.env=pure false:=by rfl) :
  PS X (.Assign [.Tuple [.Name x px,.Name y py] kt pt] (.Tuple [a,b] k2 pt2) pos) (agY i j ta):=by
 intro aor s σ H D I h;refine Aj<|YC ?_
 refine Aj<|HI ?_
 refine Aj<|Tuple_<|JC (ha _ aor s σ H _ I h) λus s1 c=>?_;obtain⟨vs,H1,I1,r1,q1⟩:=c
 obtain⟨v,w,e1,q1⟩:=q1;subst e1;obtain⟨u1,u2,rfl,rv,rw'⟩:∃u1 u2,us=[u1,u2]/\RelV v u1/\RelV w u2:=by
  cases r1 with
  | cons p q=>
   cases q with
   | cons p' q'=>
    cases q'
    exact⟨_,_,rfl,p,p'⟩
 refine XJ ?_ (by show 2<=JN;decide);have I2:Al X aor σ H1 {s1 with heap:=s1.heap.push {cls:=.type "tuple",data:=.seq [u1,u2].toArray} }:=I1.kept λb o e=>JV _ e
 rw[hw];show Bh (Bu X.prog X.w) X.A (do rule "assign.swapped-stores";let items <-unpackItems _ 2 Go;assignInOrder [λv=>bindName X.env y v,λv=>bindName X.env x v] items.reverse;pure Flow.next) _ _ _;refine Aj<|Y5<|Aj<|unpackItems_tuple (items:=#[u1,u2]) (I.ok.hd hc) (IsTup.new s1.heap _) λh' hx'=>?_
 have I3:=I2.kept (t':=s1.toks) λb o e=>hx' b o (KZ (Jb e)) e
 refine Aj<|assignInOrder_cons<|wpAny_bindName<|mZ I3 hN hj (.inl hy) rw' (λs2 I4=>?_)<|.inr hy
 refine assignInOrder_cons<|wpAny_bindName<|mZ I4 hN hi (.inl hx) rv (λs3 I5=>assignInOrder_nil<|HI ?_)<|.inr hx
 rw[List.set_comm _ _ (LI hij)]at I5;exact⟨_,H1,I5,q1⟩
end
variable {o tg:Expr}{es:List Expr}{k n:Nat}{pos':Pos}
section
noncomputable def abZ (c:TT)(tb:TS):TS:=λD σ H=>∃W:Nat->St->Hp->Prop,(∃m,W m σ H)/\∀m σ H,W m σ H ->
 c σ H λb H1=>if b=true then ∃N:St->Hp->Prop,(∀σ' H',N σ' H'->∃G,G<m/\W G σ' H')/\tb {D with nx:=N,ct:=N,bk:=D.nx} σ H1 else D.nx σ H1
theorem zbJ {c:Expr}{body:List Stmt}{tc:TT}{tb:TS}(e:sV (Bu X.prog X.w) X.A X.env X.xe)(t:PT X c tc)(u:RB X body tb):PS X (.While c body [] pos) (abZ tc tb):=by
 intro aor s σ H D I h;obtain⟨W,⟨p,k⟩,U⟩:=h;refine wpAny_While<|codeAny_whileLoop (λn s'=>∃O H',Al X aor O H' s'/\W n O H') ?_ p ⟨σ,H,I,k⟩
 rintro n m ⟨G,H1,y,w1⟩;refine Yq e<|JC (t aor m G H1 _ y<|U n G H1 w1) λb l a=>?_;obtain⟨H2,g,Y⟩:=a
 cases b with
 | true=>
  obtain⟨N,w,Y⟩:=Y;refine Yq e<|JC (u aor l G H2 _ g Y) λf z d=>?_
  cases f with
  | next|cont=>
   obtain⟨J,i,x,o⟩:=d;obtain⟨q,r,j⟩:=w J i o;exact⟨q,r,J,i,x,j⟩
  | brk|ret v=>exact d
 | false=>
  exact Yp ⟨G,H2,g,Y⟩
end
variable {body:List Stmt}
theorem wF:entryFor table "proto.unchain" = Dn YD.«proto.unchain»:=entryFor_of_tree (by kernel_rfl)
inductive JK (h:Heap):List Addr->JI->Prop
 | nil:JK h [] .none
 | cons {c:Addr}{o:Obj}{vs:Array JI}{z:JI}{l:List Addr}(ho:h.get? c=Dn o) (hd:o.data=.fields vs) (h2:vs[2]?=Dn z) (t:JK h l z):JK h (c::l) (.ref c)
theorem JK.keep {l v}(c:JK h l v)(k:∀a∈l,∀o,h.get? a=Dn o->h'.get? a=Dn o):JK h' l v:=by
 induction c with
 | nil=>exact .nil
 | cons ho J h2 t G=>exact .cons (k _ (by simp) _ ho) J h2 (G λa O=>k a (by simp[O]))
theorem JK.there {l:List Addr}{v:JI}(c:JK h l v):∀a∈l,∃o,h.get? a=Dn o:=by
 induction c with
 | nil=>intro a G;cases G
 | @cons c o J z l ho U h2 t O=>
  simp_all
noncomputable def Bo (A:Ig)(h:Heap):Prop:=∀v,A.handled=Dn v->∃a l,v=.ref a/\JK h l v
theorem Rn.heap {v}(c:Rn H v)(x:MP P w H h):∃l,JK h l v:=by
 induction c with
 | nil=>exact⟨[],.nil⟩
 | cons h1 h2 J _ G=>obtain⟨l,t⟩:=G;exact⟨_,.cons (x _ _ h1).1 h2 J t⟩
theorem ajj (q:Quiet A H)(x:MP P w H h):Bo A h:=λv e=>by
 obtain⟨⟨a,h1⟩,c⟩:=q v e;obtain⟨l,t⟩:=c.heap x;grind
noncomputable def Lnk (h:Heap)(x y:JI):Prop:=∃(c:Addr) (o:Obj) (G:Array JI),x=.ref c/\h.get? c=Dn o/\o.data=.fields G/\G[2]?=Dn y
inductive Ur (h:Heap):JI->JI->Prop
 | refl {x:JI}:Ur h x x
 | step {x y z:JI}(a:Lnk h x y) (b:Ur h y z):Ur h x z
variable {z:JI}
theorem Ur.snoc {x y}(a:Ur h x y)(b:Lnk h y z):Ur h x z:=by
 induction a with
 | refl=>exact .step b .refl
 | step l _ G=>exact .step l (G b)
theorem Ur.one {x y}(a:Ur h x y)(b:Lnk h y z):∃u,Lnk h x u/\Ur h u z:=by
 cases a with
 | refl=>exact⟨z,b,.refl⟩
 | step l r=>exact⟨_,l,r.snoc b⟩
variable {R:Result->Ab->Prop}{prog:IW}
theorem vo {s}{e}(h:R (.ok (.ret .none)) s):∀{l o},JK s.heap l o->e∉l->(∃a,o=.ref a)->∀G tg,(tg=false->Ur s.heap G o)->(tg=true->∃y,Lnk s.heap G y/\Ur s.heap y o) ->
  TY (Bu prog w) A (.builtin "proto.unchain" ⟨[.ref e,o,G,.bool tg],[]⟩) R s:=by
 intro l o c;induction c with
 | nil=>rintro _ ⟨a,z⟩;cases z
 | @cons c o n z l ho k h2 t j=>
  intro g _ G tg p ht;have i:Lnk _ _ z:=⟨c,o,n,rfl,ho,k,h2⟩
  refine codeAny_builtin wF<|Aj<|N8 ho k h2 ?_
  by_cases f:z=.none
  subst f;refine Aj<|HI<|HI ?_
  exact h
  ·obtain⟨d,rfl,b⟩:∃d,z=.ref d/\d∈l:=by
    cases t with
    | nil=>exact absurd rfl f
    | cons=>exact⟨_,rfl,by simp⟩
   have m:¬(Value.ref d==Value.ref e)=true:=λq=>by
    have:=Value.ref.inj (beq_iff_eq.mp q)
    exact g (by rw[<-this];simp[b])
   rw[if_neg m];by_cases zs:(Value.ref d==G)=true
   ·rw[if_pos zs];refine Aj<|Y5 ?_
    first
     | (refine Aj (HI (HI ?_));exact h)
   ·rw[if_neg zs];have J:e∉l:=λq=>g (by simp[q])
    cases tg with
    | true=>
     obtain⟨y,⟨u,os,ss,rfl,Y,U,O⟩,r⟩:=ht rfl;exact Aj<|N8 Y U O<|HI ⟨qM _<|by decide +kernel,(j J ⟨d,rfl⟩ y false (λ_=>r.snoc i) nofun)⟩
    | false=>
     exact Aj<|HI<|HI ⟨qM _<|by decide +kernel,(j J ⟨d,rfl⟩ G true nofun λ_=>(p rfl).one i)⟩
variable {oe:Obj}
theorem zaG {Y:Type}{s:Ab}{e:Addr}{ws:Array JI}{h0:Heap}{Q:Y->Ab->Prop}(i:Bo A h0)(k0:∀b o,h0.get? b=Dn o->s.heap.get? b=Dn o)(k:h0.get? e=Go)(J:s.heap.get? e=Dn oe)(O:oe.data=.fields ws)(g:2<ws.size)
  (h:∀h',(∀b,b≠e->h'.get? b=s.heap.get? b)->(∃o',h'.get? e=Dn o'/\o'.cls=oe.cls/\o'.dict=oe.dict/\((A.handled=Go/\h'=s.heap)\/∃v,A.handled=Dn v/\o'.data=.fields (ws.setIfInBounds 2 v)))->E (.ref e) {s with heap:=h'}):Bh (Bu prog w) A (raiseNew (.ref e):Sem Y) Q E s:=by
 refine Aj<|wpAny_handled ?_
 cases hh:A.handled with
 | none=>
  exact Aj<|HI<|Z8<|h _ (λ_ _=>rfl) ⟨oe,J,rfl,rfl,.inl ⟨hh,rfl⟩⟩
 | some v=>
  obtain⟨a,l,rfl,U⟩:=i v hh;have c:e∉l:=λq=>by obtain⟨o,z⟩:=U.there e q;rw[k]at z;cases z
  dsimp only;have f:(Value.ref a != Value.ref e)=true:=by
   simp only[bne_iff_ne];intro q;exact c<|Value.ref.inj q ▸ ((by cases U with|cons=>simp))
  rw[if_pos f];refine Aj<|Ot<|wpAny_runValue<|vo (Aj<|Aj<|wpAny_load J ?_) (U.keep λb _ o z=>k0 b o z) c ⟨a,rfl⟩ _ false (λ_=>.refl) nofun
  rw[O];dsimp only;rw[if_pos g];refine wpAny_update J<|Z8 ?_
  have G:=Tn O (·.setIfInBounds 2 (Value.ref a));exact h _ (λb j=>Ru _ _<|LI j) ⟨_,S7 _ J<|X6 G,Zx _ _,by obtain⟨c0,m,dt,sl⟩:=oe;cases O;rfl,.inr ⟨_,hh,G⟩⟩
theorem ajD {s}{it}{x left G}{Q}(hh:Bo A s.heap)(hit:IsRangeIter s.heap it x left G)(J:left<=0)
  (U:∀h',ZF it s.heap h'->Q Go {s with heap:=h'}):Bh (Bu prog w) A (pyNext (.ref it)) Q E s:=by
 have hT:s.TypeIs (.ref it) "range_iterator":=⟨_,hit,rfl⟩
 refine Aj (Y9 (Xq hT F.slot_range_iterator_next
  (XD F.slot_range_iterator_next hT F.entry_range_iterator_next ?_ (F.args_range_iterator_next_1 _))))
 show Bh _ _ (field (.ref it) 0 >>= _) _ _ s;refine Aj<|N8 hit rfl (x:=RL x) rfl ?_
 refine Aj<|N8 hit rfl (x:=RL left) rfl ?_
 refine Aj<|N8 hit rfl (x:=RL G) rfl ?_
 show Bh _ _ (if left<=0 then _ else _) _ _ s;rw[if_pos J];refine Aj<|Y5 ?_
 refine Aj ?_;refine Aj ?_;refine Aj (m:=firstArgMember _ _)<|Xd (a:=Value.none) (by first|rfl|(simp only[firstArgMember];rfl)) ?_
 refine XJ ?_<|by size_fits
 refine zaG (A:=A.in1) (h0:=s.heap) hh (λb o q=>JV _<|JV _ q) (qY<|by simp[Heap.push]) (Mf _ rfl) rfl (by simp;lia) λh' h1 c=>?_;obtain⟨o',h2,Y,_⟩:=c;refine Aj<|Zu (T := "StopIteration") (b:=true) ⟨_,h2,Y⟩ isSubtype_stop ?_
 refine HI<|U _ λb o d e=>?_
 rw[h1 b ?_];exact JV _<|JV _ e
 have:=Jb e
 exact KZ<|Ke this<|by simp[Heap.push]
structure It where
 go:Nat->Hp->Prop
 yld:Nat->Hp->V->Hp->Prop
 stop:Nat->Hp->Prop
 cm:Bool
noncomputable def JR (X:Cx)(aor:List (Addr×Obj))(H:Hp)(b:Addr):Prop:=
 H b=Go/\b≠X.env.locals/\b∉X.fs/\(b∈X.ex\/X.s₀.heap.objs.size<=b)/\(∀x c,X.env.cells.lookup x=Dn c->c≠b)/\∀p∈X.pn++aor,p.1≠b
theorem Al.fpOk {s}(I:Al X aor σ H s)(G:s.heap.objs.size<=b)(O:H' b=Go):JR X aor H' b:=by
 refine⟨O,SJ<|Ke I.lt G,I.nofs G,.inr<|Jz I.sz G,λx c e z=>?_,λp J z=>(absurd (Ke (Jb (I.pin p J).1)<|z ▸ G)<|Rg _)⟩;obtain⟨v,q⟩:=I.cell x c e;exact absurd (Ke q.lt<|z ▸ G)<|Rg _
structure Turn (P:IW) (w:IV) (K:BW) (tg:Expr) (J:It) (fp:List Addr) (it:Addr) (tn:Nat->Heap->Prop):Prop where
 mem:it∈fp
 obj:∀i h,tn i h->∀b∈fp,∃o,h.get? b=Dn o/\∀v,o.data≠.cell v
 keep:∀i h h',tn i h->(∀b∈fp,∀o,h.get? b=Dn o->h'.get? b=Dn o)->tn i h'
 item:∀(X:Cx),X.prog=P->X.w=w->X.K=K->(J.cm=true->X.calm=true)->∀(i:Nat) (aor:List (Addr×Obj)) (s:Ab) (σ:St) (H:Hp) (E:JI->Ab->Prop),Al X aor σ H s->(∀b∈fp,JR X aor H b)->tn i s.heap->J.go i H ->
  Bh (Bu P w) X.A (pyNext (.ref it)) (λr s1=>∃u,r=Dn u /\
   Bh (Bu P w) X.A (letOwnedTupleGo tg (.ref it) u) (λ_ s2=>∃x H',Al X aor σ H' s2/\RelV x u/\J.yld i H x H'/\tn (i+1) s2.heap/\∀b∈fp,H' b=Go) E s1) E s
 done:∀(X:Cx),X.prog=P->X.w=w->X.K=K->(J.cm=true->X.calm=true)->∀(i:Nat) (aor:List (Addr×Obj)) (s:Ab) (σ:St) (H:Hp) (E:JI->Ab->Prop),Al X aor σ H s->(∀b∈fp,JR X aor H b)->tn i s.heap->J.stop i H ->
  Bh (Bu P w) X.A (pyNext (.ref it)) (λr s1=>r=Go/\Al X aor σ H s1) E s
 self:∀(A:Ig) (i:Nat) (s:Ab) (Q:JI->Ab->Prop) (E:JI->Ab->Prop),tn i s.heap->Q (.ref it) s->Bh (Bu P w) A (pyIter (.ref it)) Q E s
noncomputable abbrev TI:=St->Hp->(It->Hp->Prop)->Prop
noncomputable def PIE (X:Cx)(aor:List (Addr×Obj))(σ:St)(tg:Expr)(R:It->Hp->Prop)(G:JI)(U:Ab):Prop:=
 ∃(it:Addr) (fp:List Addr) (O:Nat->Heap->Prop) (J:It) (H':Hp),G=.ref it/\Al X aor σ H' U/\Turn X.prog X.w X.K tg J fp it O/\O 0 U.heap/\(∀b∈fp,JR X aor H' b)/\R J H'
noncomputable def PI (X:Cx)(tg iter:Expr)(wi:TI):Prop:=
 ∀(aor:List (Addr×Obj)) (s:Ab) (σ:St) (H:Hp) (R:It->Hp->Prop),Al X aor σ H s->wi σ H R ->
  Bh (Bu X.prog X.w) X.A (eval iter X.env) (λv G=>Bh (Bu X.prog X.w) X.A (pyIter v) (PIE X aor σ tg R) X.xe G) X.xe s
theorem KD {s}{it o}{n}{J}{Q}(ho:s.heap.get? it=Dn o)(Y:o.cls=.type n)(U:o.data=.fields J)
    (O:["enumerate", "zip", "dict_itemiterator", "dict_reverseitemiterator", "odict_iterator", "itertools.zip_longest", "itertools.pairwise"].contains n=false) (G:Q () s):Bh M A (letOwnedTupleGo tg (.ref it) u) Q E s:=by
  cases tg<;>first
    | exact HI G
    | (cases u<;>first
        | exact HI G
        | (refine Aj (wpAny_load ho ?_)
           rw[Y,U];show Bh M A (if _=true then _ else _) Q E s;rw[if_neg (by intro h;rw[O]at h;cases h)];exact HI G))
noncomputable def Itl (K:BW)(a:Addr):It:=
 ⟨λi H=>∃xs x,Kh K H a xs/\xs[i]?=Dn x,λi H x H'=>H'=H/\∀xs,Kh K H a xs->xs[i]?=Dn x,λi H=>∃xs,Kh K H a xs/\xs.length<=i,true⟩
noncomputable def Itt (K:BW)(a:Addr):It:=
 ⟨λi H=>∃xs x,Lq K H a xs/\xs[i]?=Dn x,λi H x H'=>H'=H/\∀xs,Lq K H a xs->xs[i]?=Dn x,λi H=>∃xs,Lq K H a xs/\xs.length<=i,true⟩
noncomputable def Itr (lo:Int)(n:Nat):It:=⟨λi _=>i<n,λi H x H'=>H'=H/\x=.int (lo+i),λi _=>n<=i,false⟩
theorem zbd (a it:Addr):Turn P w K tg (Itl K a) [it] it (λi h=>h.IsListIter it a i) where
 mem:=by simp
 obj:=λi h st b G=>by
  obtain⟨o,e,c,d⟩:=st;simp_all
 keep:=λi h h' st k=>st.at λo e=>k it (by simp) o e
 item:=by
  intro X j f l v i aor s σ H E I U st g;subst j f l;obtain⟨xs,x,O,t⟩:=g;obtain⟨its,Y,p,D⟩:=I.list O;obtain⟨u,L,A⟩:=Y.get t;obtain⟨m,f1,f2,f3,f4,f5⟩:=U it (by simp);refine wpAny_pyNext_list_item st p.isList (by simpa using L) λh' J z=>?_;obtain⟨o,e,c,d⟩:=id J;exact⟨u,rfl,KD e c d (by decide) ⟨x,H,(I.turned (λb o G e=>(z.2 b G).trans e) m f1 f3 f4 f5),A,⟨rfl,λys F=>by rwa[I.list_inj F O]⟩,J,λb G=>(U b G).1⟩⟩
 done:=by
  intro X j f l v i aor s σ H E I U st g;subst j f l;obtain⟨xs,O,t⟩:=g;obtain⟨its,Y,p,D⟩:=I.list O;obtain⟨m,f1,f2,f3,f4,f5⟩:=U it (by simp);have hl:=Y.length;exact wpAny_pyNext_list_end (I.ok.hd<|v rfl) st p.isList (by simp;lia) λh' M=>⟨rfl,I.turned (λb o G e=>M b o G e) m f1 f3 f4 f5⟩
 self:=λ_ _ _ _ _ st h=>wpAny_pyIter_listiter st h
theorem ajd (a it:Addr):Turn P w K tg (Itt K a) [it] it (λi h=>h.IsTupleIter it a i) where
 mem:=by simp
 obj:=λi h st b G=>by
  obtain rfl:=by simpa using G
  obtain⟨o,e,c,d⟩:=st;exact⟨o,e,λv z=>by rw[d]at z;cases z⟩
 keep:=λi h h' st k=>st.at λo e=>k it (by simp) o e
 item:=by
  intro X l g m v i aor s σ H E I U st j;subst l g m;obtain⟨xs,x,O,f⟩:=j;obtain⟨its,Y,p,F⟩:=I.tuple O;obtain⟨u,M,B⟩:=Y.get f;obtain⟨n,f1,f2,f3,f4,f5⟩:=U it (by simp);refine wpAny_pyNext_tuple_item st p (by simpa using M) λh' J A=>?_;obtain⟨o,e,c,d⟩:=id J;exact⟨u,rfl,KD e c d (by decide) ⟨x,H,(I.turned (λb o G e=>(A.2 b G).trans e) n f1 f3 f4 f5),B,⟨rfl,λys L=>I.tuple_inj L O ▸ f⟩,J,λb G=>(U b G).1⟩⟩
 done:=by
  intro X l g m v i aor s σ H E I U st j;subst l g m;obtain⟨xs,O,f⟩:=j;obtain⟨its,Y,p,F⟩:=I.tuple O;obtain⟨n,f1,f2,f3,f4,f5⟩:=U it (by simp);have hl:=Y.length;exact wpAny_pyNext_tuple_end (I.ok.hd<|v rfl) st p (by simp;lia) λh' N=>⟨rfl,I.turned (λb o G e=>N b o G e) n f1 f3 f4 f5⟩
 self:=λ_ _ _ _ _ st h=>wpAny_pyIter_tupleiter st h
theorem zaB (it:Addr)(lo:Int)(n:Nat):Turn P w K tg (Itr lo n) [it] it (λi h=>IsRangeIter h it (lo+(i:Nat)*1) ((n:Int)-(i:Nat)) 1) where
 mem:=by simp
 obj:=λi h st b hb=>by
  obtain rfl:=by simpa using hb
  exact⟨_,st,λv z=>by
   cases z⟩
 keep:=λi h h' st k=>k it (by simp) _ st
 item:=by
  intro X hP hw hK hc i aor s σ H E I hf st hg;obtain⟨f0,f1,f2,f3,f4,f5⟩:=hf it (by simp);refine wpAny_pyNext_range_item st (by have:i<n:=hg;lia) λh' st' kk=>?_;have I1:Al X aor σ H {s with heap:=h',toks:=s.toks+1}:=I.turned (λb o hb e=>(kk.2 b hb).trans e) f0 f1 f3 f4 f5;have st2:IsRangeIter h' it (lo+((i+1:Nat):Int)*1) ((n:Int)-((i+1:Nat):Int)) 1:=by
   have e1:lo+((i+1:Nat):Int)*1=lo+((i:Nat):Int)*1+1:=by lia
   have e2:(n:Int)-((i+1:Nat):Int)=(n:Int)-((i:Nat):Int)-1:=by lia
   rwa[e1,e2]
  refine⟨_,rfl,KD st' rfl rfl (by decide) ⟨.int _,H,I1,⟨s.toks,?_⟩,⟨rfl,rfl⟩,st2,λb hb=>(hf b hb).1⟩⟩;rw[Int.mul_one]
 done:=by
  intro X hP hw hK hc i aor s σ H E I hf st hg;obtain⟨f0,f1,f2,f3,f4,f5⟩:=hf it (by simp);exact ajD (ajj I.qt0 I.hok) st (by have:n<=i:=hg;lia) λh' eb=>⟨rfl,I.turned (λb o hb e=>eb b o hb e) f0 f1 f3 f4 f5⟩
 self:=λ_ _ _ _ _ st h=>wpAny_pyIter_rangeiter st h
section
theorem DK {s}{R lo hi t u v tk}(I:Al X aor σ H s)(h1:-(2^62)<=lo)(h2:lo<2^62)(U:-(2^62)<=hi)(O:hi<2^62)
  (q:R (Itr lo (hi-lo).toNat) H):Bh (Bu X.prog X.w) X.A (pyIter (.ref s.heap.objs.size)) (PIE X aor σ tg R) E {s with heap:=s.heap.push {cls:=.type "range",data:=.fields #[.int lo t,.int hi u,.int 1 v]},toks:=tk}:=by
 refine wpAny_pyIter_range (IsRange.new ..) (small_one h1 h2 U O) ?_;have G:Al X aor σ H {s with heap:=s.heap.push {cls:=.type "range",data:=.fields #[.int lo t,.int hi u,.int 1 v]},toks:=tk}:=I.kept λb o e=>JV _ e
 refine⟨(s.heap.push {cls:=.type "range",data:=.fields #[.int lo t,.int hi u,.int 1 v]}).objs.size,[(s.heap.push {cls:=.type "range",data:=.fields #[.int lo t,.int hi u,.int 1 v]}).objs.size],_,_,H,rfl,
  G.kept λb o e=>JV _ e,zaB _ lo (hi-lo).toNat,?_,λb J=>?_,q⟩
 have e1:lo+((0:Nat):Int)*1=lo:=by simp
 have e2:(((hi-lo).toNat:Nat):Int)-((0:Nat):Int)=Builtin.Range.rangeSize lo hi 1:=by rw[rangeSize_one];split<;>lia
 rw[e1,e2];exact Mf _ rfl;have e:b=(s.heap.push {cls:=.type "range",data:=.fields #[.int lo t,.int hi u,.int 1 v]}).objs.size:=by simpa using J
 subst e;exact G.fpOk (JL _)<|G.hok.fresh<|JL _
noncomputable def ae7 (ta:TA):TI:=fun σ H R=>ta σ H λvs H1=>∃j:Int,vs=[.int j]/\-(2^62)<=j/\j<2^62/\R (Itr 0 j.toNat) H1
noncomputable def afL (ta:TA):TI:=fun σ H R=>ta σ H λvs H1=>∃i j:Int,vs=[.int i,.int j]/\(-(2^62)<=i/\i<2^62/\-(2^62)<=j/\j<2^62)/\R (Itr i (j-i).toNat) H1
theorem aja {a ta p}(hg:Gl X "range")(hm:X.mg "range" = Go)(ha:PA X [a] ta)(hs:J9 [a] X.env=[(false,eval a X.env)]:=by rfl):PI X tg (.Call (.Name "range" p) [a] [] pos) (ae7 ta):=by
 intro aor s σ H R I h;refine Call_<|pR I hg hm boot_range<|Zk (JC (ha pos aor s σ H _ I h) λus s1 b=>?_) hs rfl;obtain⟨vs,H1,I1,r1,q1⟩:=b
 obtain⟨j,e,q1,q2,q⟩:=q1;subst e;cases r1 with
 | cons r rr=>
  cases rr;obtain⟨t,rfl⟩:=r;exact call_range_1<|DK I1 (by lia) (by lia) q1 q2<|by simpa using q
theorem aje {a b ta p}(hg:Gl X "range")(hm:X.mg "range" = Go)(ha:PA X [a,b] ta)(hs:J9 [a,b] X.env=[(false,eval a X.env),(false,eval b X.env)]:=by rfl)(hs2:J9 [b] X.env=[(false,eval b X.env)]:=by rfl):
  PI X tg (.Call (.Name "range" p) [a,b] [] pos) (afL ta):=by
 intro aor s σ H R I h;refine Call_<|pR I hg hm boot_range<|Zk (JC (ha pos aor s σ H _ I h) λus s1 c=>?_) (by rw[hs,hs2]) (by rw[hs2];rfl);obtain⟨vs,H1,I1,r1,q1⟩:=c
 obtain⟨i,j,e,⟨q1,q2,q3,q4⟩,q⟩:=q1;subst e;cases r1 with
 | cons r rr=>
  cases rr with
  | cons r' rr=>
   cases rr;obtain⟨t,rfl⟩:=r;obtain⟨t',rfl⟩:=r';exact call_range_2<|DK I1 q1 q2 q3 q4 q
noncomputable def aij (wi:TI)(g:TG)(tb:TS):TS:=λD σ H=>wi σ H λJ H1=>∃W:Nat->Nat->St->Hp->Prop,(∃m,W 0 m σ H1)/\∀i m σ H,W i m σ H ->
 (J.stop i H/\D.nx σ H)\/(J.go i H/\∃N:St->Hp->Prop,(∀σ' H',N σ' H'->∃O,O<m/\W (i+1) O σ' H')/\∀x H',J.yld i H x H'->g x σ H' fun G H2=>tb {D with nx:=N,ct:=N,bk:=D.nx} G H2)
noncomputable def Hq (fp:List Addr)(h:Heap):List (Addr×Obj):=fp.filterMap λb=>(h.get? b).map λo=>(b,o)
theorem jU {fp:List Addr}{o:Obj}(G:b∈fp)(e:h.get? b=Dn o):(b,o)∈Hq fp h:=List.mem_filterMap.mpr ⟨b,G,by rw[e];rfl⟩
theorem zaY {fp p}(G:p∈Hq fp h):p.1∈fp/\h.get? p.1=Dn p.2:=by
 obtain⟨b,J,e⟩:=List.mem_filterMap.mp G;cases q:h.get? b with
 | none=>rw[q]at e;cases e
 | some o=>
  grind
theorem Al.pinned {s}{fp}(I:Al X aor σ H s)(J:∀b∈fp,JR X aor H b)(ho:∀b∈fp,∃o,s.heap.get? b=Dn o/\∀v,o.data≠.cell v):Al X (aor++Hq fp s.heap) σ H s:=
 I.pins_of λp G=>(Tf.mp G).elim (λz=>I.pin p (X7 _ z)) λz=>by
  obtain⟨O,e⟩:=zaY z;obtain⟨U,f1,f2,_⟩:=J _ O;grind
theorem Al.unpinned {G s}(I:Al X (aor++G) σ H s):Al X aor σ H s:=I.pins_of λp J=>I.pin p (X7 _ (Zo _ J))
theorem Vo {iter wi g}{tb}(hp:sV (Bu X.prog X.w) X.A X.env X.xe)(hc:X.calm=true)(hi:PI X tg iter wi)(hg:PG X tg g)(hb:RB X body tb)
  (hs:∀x,Xx iter X.env x=pure x:=by intro _;rfl):PS X (.For tg iter body [] pos) (aij wi g tb):=by
 intro aor s σ H D I h;refine wpAny_For (JC (hi aor s σ H _ I h) λv s1 h1=>JC h1 λitv s2 h2=>?_) hs;obtain⟨it,fp,tn,J,H2,e,I2,T,st2,f2,W,⟨m0,w0⟩,turn⟩:=h2;subst e;have stat:∀{H':Hp},(∀b∈fp,H' b=Go)->∀b∈fp,JR X aor H' b:=λhn b hb=>⟨hn b hb,(f2 b hb).2⟩
 refine codeAny_forLoop_any (λn s'=>∃i σ' H',Al X aor σ' H' s'/\tn i s'.heap/\(∀b∈fp,H' b=Go)/\W i n σ' H') ?_ m0 ⟨0,σ,H2,I2,st2,λb hb=>(f2 b hb).1,w0⟩;rintro n s3 ⟨i,σ3,H3,I3,st3,fr3,w3⟩;rcases turn i n σ3 H3 w3 with⟨stop,qn⟩|⟨go,N,hN,step⟩
 ·refine Yq hp<|JC (T.done X rfl rfl rfl (λ_=>hc) i aor s3 σ3 H3 _ I3 (stat fr3) st3 stop) λr s4 a=>?_;obtain⟨hr,I4⟩:=a
  subst hr;exact Yp ⟨σ3,H3,I4,qn⟩
 ·refine Yq hp<|JC (T.item X rfl rfl rfl (λ_=>hc) i aor s3 σ3 H3 _ I3 (stat fr3) st3 go) λr s4 c=>?_;obtain⟨u,hr,h4⟩:=c
  subst hr;refine Yq hp<|JC h4 λ_ s5 ⟨x,H5,I5,r5,y5,st5,fr5⟩=>(Yq hp<|JC (hg _ s5 σ3 H5 x u _ (I5.pinned (stat fr5)<|T.obj _ _ st5) r5<|step x H5 y5) λ_ s6 ⟨σ6,H6,I6,q6⟩=>(Yq hp<|JC (hb _ s6 σ6 H6 _ I6 q6) λf s7 q7=>?_))
  have again:∀{σ7:St}{H7:Hp},Al X _ σ7 H7 s7->N σ7 H7->∃m,m<n/\∃i σ' H',Al X aor σ' H' s7/\tn i _/\(∀b∈fp,H' b=Go)/\W i m σ' H':=λ{σ7 H7} I7 n7=>by
   obtain⟨m',hm,w7⟩:=hN σ7 H7 n7;refine⟨m',hm,i+1,σ7,H7,I7.unpinned,T.keep _ _ _ st5 λb hb o e=>(I7.pin _<|X7 _<|X7 _<|jU hb e).1,λb hb=>?_,w7⟩;obtain⟨o,e,d⟩:=T.obj _ _ st5 b hb;exact(I7.pin _<|X7 _<|X7 _<|jU hb e).2.1
  cases f with
  | next|cont=>obtain⟨σ7,H7,I7,n7⟩:=q7;exact again I7 n7
  | brk=>obtain⟨σ7,H7,I7,q7⟩:=q7;exact⟨σ7,H7,I7.unpinned,q7⟩
  | ret v=>obtain⟨x7,σ7,H7,I7,r7,q7⟩:=q7;exact⟨x7,σ7,H7,I7.unpinned,r7,q7⟩
end
noncomputable abbrev R2:=V->V->Hp->VK->Prop
noncomputable def Mv (X:Cx)(f:JI->JI->Sem JI)(r:R2):Prop:=
 ∀(aor:List (Addr×Obj)) (s:Ab) (σ:St) (H:Hp) (x y:V) (v u:JI) (Q:VK),Al X aor σ H s->RelV x v->RelV y u->r x y H Q ->
  Bh (Bu X.prog X.w) X.A (f v u) (EP X aor σ Q) X.xe s
noncomputable def UnR (X:Cx)(f:JI->Sem JI)(r:V->Hp->VK->Prop):Prop:=
 ∀(aor:List (Addr×Obj)) (s:Ab) (σ:St) (H:Hp) (x:V) (v:JI) (Q:VK),Al X aor σ H s->RelV x v->r x H Q ->
  Bh (Bu X.prog X.w) X.A (f v) (EP X aor σ Q) X.xe s
noncomputable def jX (X:Cx)(f:JI)(r:List V->Hp->VK->Prop):Prop:=
 ∀(aor:List (Addr×Obj)) (s:Ab) (σ:St) (H:Hp) (xs:List V) (us:List JI) (Q:VK),Al X aor σ H s->CZ xs us->r xs H Q ->
  Bh (Bu X.prog X.w) X.A (call f us) (EP X aor σ Q) X.xe s
noncomputable def ais (X:Cx)(r:V->Hp->(Bool->Hp->Prop)->Prop):Prop:=
 ∀(aor:List (Addr×Obj)) (s:Ab) (σ:St) (H:Hp) (x:V) (v:JI) (Q:Bool->Hp->Prop),Al X aor σ H s->RelV x v->r x H Q ->
  Bh (Bu X.prog X.w) X.A (truthy v) (TP X aor σ Q) X.xe s
noncomputable def tOp (r:R2)(ta tb:TE):TE:=fun σ H Q=>ta σ H λx H1=>tb σ H1 λy H2=>r x y H2 Q
noncomputable def tUn (r:V->Hp->VK->Prop)(ta:TE):TE:=fun σ H Q=>ta σ H λx H1=>r x H1 Q
noncomputable def rI (C:Int->Int->Prop)(g:Int->Int->V):R2:=λx y H Q=>∃i j,x=.int i/\y=.int j/\C i j/\Q (g i j) H
noncomputable def Xb (g:Int->Int->V):R2:=λx y H Q=>∃i j,x=.int i/\y=.int j/\Q (g i j) H
noncomputable def rU (g:Int->V):V->Hp->VK->Prop:=λx H Q=>∃i,x=.int i/\Q (g i) H
section
variable {a b c:Expr}{tb tc:TE}
theorem agu (ha:PE X a ta)(k:PE X b tb){s:Ab}{R:V->V->Hp->Prop}(I:Al X aor σ H s)
  (h:ta σ H λx H1=>tb σ H1 λy H2=>R x y H2) {Q:JI->Ab->Prop}{f:JI->JI->Sem JI}
  (j:∀v u O x y H2,Al X aor σ H2 O->RelV x v->RelV y u->R x y H2->Bh (Bu X.prog X.w) X.A (f v u) Q X.xe O) :
  Bh (Bu X.prog X.w) X.A (eval a X.env) (λv J=>Bh (Bu X.prog X.w) X.A (eval b X.env) (λu G=>Bh (Bu X.prog X.w) X.A (f v u) Q X.xe G) X.xe J) X.xe s:=JC (ha aor s σ H _ I h) λv U c=>by obtain⟨x,H1,m,e,i⟩:=c;exact (JC (k aor U σ H1 _ m i) λu O d=>by obtain⟨y,H2,l,Y,g⟩:=d;exact (j v u O x y H2 l e Y g))
theorem aeU {G r}(ho:Mv X (Qy G) r)(ha:PE X a ta)(Y:PE X b tb):PE X (.BinOp a G b pos) (tOp r ta tb):=by
 intro aor s σ H Q I h;exact wpAny_BinOp<|agu ha Y I h λv u J x y H2 c U O q=>ho aor J σ H2 x y v u Q c U O q
theorem agl {G}{r}(ho:UnR X (unaryOp G) r)(ha:PE X a ta):PE X (.UnaryOp G a pos) (tUn r ta):=by
 intro aor s σ H Q I h;exact UnaryOp_<|JC (ha aor s σ H _ I h) λv J b=>by obtain⟨x,H1,Y,O,U⟩:=b;exact ho aor J σ H1 x v Q Y O U
theorem opI {f C}{g:Int->Int->Int}
  (G:∀i j t u s  (Q) (E),C i j->Q (.int (g i j) s.toks) {s with toks:=s.toks+1}->Bh (Bu X.prog X.w) X.A (f (.int i t) (.int j u)) Q E s) :
  Mv X f (rI C λi j=>.int (g i j)):=by
 intro aor s σ H x y v u Q I U O h;obtain⟨i,j,rfl,rfl,Y,q⟩:=h;obtain⟨t,rfl⟩:=U;obtain⟨J,rfl⟩:=O;exact G i j t J s _ _ Y ⟨.int _,H,I.tok _,⟨_,rfl⟩,q⟩
theorem ahh {f}{g:Int->Int->Int}
  (G:∀i j t u s  (Q) (E),Q (.int (g i j) s.toks) {s with toks:=s.toks+1}->Bh (Bu X.prog X.w) X.A (f (.int i t) (.int j u)) Q E s) :
  Mv X f (Xb λi j=>.int (g i j)):=by
 intro aor s σ H x y v u Q I U O h;obtain⟨i,j,rfl,rfl,q⟩:=h;obtain⟨t,rfl⟩:=U;obtain⟨J,rfl⟩:=O;exact G i j t J s _ _ ⟨.int _,H,I.tok _,⟨_,rfl⟩,q⟩
theorem aeS {f}{g:Int->Int->Bool}
  (G:∀i j t u s  (Q) (E),Q (.bool (g i j)) s->Bh (Bu X.prog X.w) X.A (f (.int i t) (.int j u)) Q E s) :
  Mv X f (Xb λi j=>.bl (g i j)):=by
 intro aor s σ H x y v u Q I U O h;obtain⟨i,j,rfl,rfl,q⟩:=h;obtain⟨t,rfl⟩:=U;obtain⟨J,rfl⟩:=O;exact G i j t J s _ _ ⟨.bl _,H,I,rfl,q⟩
noncomputable def ag8 (i j:Int):Prop:=0<=j/\j<=1000000/\i.natAbs<2^64
theorem acV:Mv X (Qy .Add) (Xb λi j=>.int (i+j)):=ahh λ_ _ _ _ _ _ _ q=>add_int q
theorem abf:Mv X (Qy .Sub) (Xb λi j=>.int (i-j)):=ahh λ_ _ _ _ _ _ _ q=>sub_int q
theorem amU:Mv X (Qy .Mod) (rI (λ_ j=>j≠0) λi j=>.int (i.fmod j)):=opI λ_ _ _ _ _ _ _ G q=>mod_int' G q
theorem adK:Mv X (Qy .Pow) (rI ag8 λi j=>.int (i^j.toNat)):=opI λ_ _ _ _ _ _ _ G q=>pow_int_small G.1 G.2.1 G.2.2 q
theorem unI {f}{g:Int->Int}
  (G:∀i t s  (Q) (E),Q (.int (g i) s.toks) {s with toks:=s.toks+1}->Bh (Bu X.prog X.w) X.A (f (.int i t)) Q E s) :
  UnR X f (rU λi=>.int (g i)):=by
 intro aor s σ H x v Q I J h;obtain⟨i,rfl,q⟩:=h;obtain⟨t,rfl⟩:=J;exact G i t s _ _ ⟨.int<|g i,H,I.tok _,⟨_,rfl⟩,q⟩
theorem acj:UnR X (unaryOp .USub) (rU λi=>.int (-i)):=unI λ_ _ _ _ _ q=>neg_int q
theorem Fo {s Q}{k G}(I:Al X aor σ H s)(q:Q (.bl k) H)(e:k=G):EP X aor σ Q (.bool G) s:=by
 subst e;exact⟨.bl k,H,I,rfl,q⟩
theorem ago:Mv X (PJ .Lt) (Xb λi j=>.bl (decide (i<j))):=aeS λ_ _ _ _ _ _ _ q=>lt_int q
theorem aeV:Mv X (PJ .LtE) (Xb λi j=>.bl (decide (i<=j))):=aeS λ_ _ _ _ _ _ _ q=>le_int q
theorem afD:Mv X (PJ .Gt) (Xb λi j=>.bl (decide (j<i))):=aeS λ_ _ _ _ _ _ _ q=>gt_int q
theorem afT:Mv X (PJ .GtE) (Xb λi j=>.bl (decide (j<=i))):=aeS λ_ _ _ _ _ _ _ q=>ge_int q
theorem aaY:Mv X (PJ .Is) (λx y H Q=>y=.non/\Q (.bl (decide (x=.non))) H):=by
 intro aor s σ H x y v u Q I J G h;obtain⟨rfl,q⟩:=h;cases G;refine is_none_gen<|Fo I q ?_
 cases x<;>first
  | (obtain⟨t,rfl⟩:=J;rfl)
theorem Mv.or {f r O}(h:Mv X f r)(h':Mv X f O):Mv X f (λx y H Q=>r x y H Q\/O x y H Q):=by
 intro aor s σ H x y v u Q I J G q;rcases q with q|q
 exact h aor s σ H x y v u Q I J G q;exact h' aor s σ H x y v u Q I J G q
theorem Qm (b){op}(h:op≠.In:=by decide)(h2:op≠.NotIn:=by decide):Y8 op b=false:=by
 have e1:(op==CmpOp.In)=false:=by cases op<;>first|rfl|exact absurd rfl h
 have e2:(op==CmpOp.NotIn)=false:=by cases op<;>first|rfl|exact absurd rfl h2
 cases b<;>simp[Y8,e1,e2]
theorem akZ {G r}(ho:Mv X (PJ G) r)(ha:PE X a ta)(c:PE X b tb)(Y:Y8 G b=false):PE X (.Compare a [G] [b] pos) (tOp r ta tb):=by
 intro aor s σ H Q I h;exact wpAny_Compare1 (agu ha c I h λv u J x y H2 d U O q=>ho aor J σ H2 x y v u Q d U O q) Y
noncomputable def afM (t:TE):TT:=fun σ H Q=>t σ H λx H'=>∃k,x=.bl k/\Q k H'
theorem akl {G r}(ho:Mv X (PJ G) r)(ha:PE X a ta)(l:PE X b tb)(j:Y8 G b=false):PT X (.Compare a [G] [b] pos) (afM (tOp r ta tb)):=by
 intro aor s σ H Q I h;refine wpAny_isTrue_Compare1 (JC (ha aor s σ H _ I h) λv O ⟨x,H1,o,c,i⟩=>JC (l aor O σ H1 _ o i) λu J ⟨y,H2,n,Y,g⟩=>
  JC (ho aor J σ H2 x y v u _ n c Y g) λc q d=>?_) j;obtain⟨z,p,m,U,k,e,f⟩:=d
 subst e;cases U;exact Zi ⟨p,m,f⟩
noncomputable def aht (K:BW)(x:V)(H:Hp)(k:Bool):Prop:=
 match x with
 | .non=>k=false
 | .bl b=>k=b
 | .int i=>k=(i != 0)
 | .str y=>y.length<=JN/\k=((y.length:Int) != 0)
 | .byt y=>y.size<=JN/\k=((y.size:Int) != 0)
 | .ref p=>(∃xs,Kh K H p xs/\k=!xs.isEmpty)\/(∃xs,Lq K H p xs/\k=!xs.isEmpty)\/∃kvs,H p=Dn (.dK kvs)/\k=!kvs.isEmpty
 | _=>False
theorem zaL {kvs}{vs:List (κ×JI)}(r:KV kvs vs):(!vs.isEmpty)=!kvs.isEmpty:=by
 cases r<;>rfl
theorem uL {its}(r:CZ xs its):(!its.toArray.isEmpty)=!xs.isEmpty:=by
 cases r<;>simp
theorem rK:(JN)<2^63:=by decide
theorem acn:ais X (λx H Q=>∃k,aht X.K x H k/\Q k H):=by
 intro aor s σ H x v Q I G h;obtain⟨k,e,q⟩:=h;have hs:JN=16777216:=Ye;cases x with
 | non=>
  cases G;have e':k=false:=e;subst e';exact truthy_none ⟨H,I,q⟩
 | bl b=>
  cases G;have e':k=b:=e;subst e';exact Zi ⟨H,I,q⟩
 | int i=>
  obtain⟨t,rfl⟩:=G;have e':k=(i != 0):=e;subst e';exact PySem.P.truthy_int ⟨H,I,q⟩
 | str y=>
  obtain⟨t,rfl⟩:=G;obtain⟨a,e'⟩:y.length<=JN/\k=((y.length:Int) != 0):=e;subst e';exact PySem.P.truthy_str (by lia) ⟨H,I.tok _,q⟩
 | byt y=>
  obtain⟨t,rfl⟩:=G;obtain⟨a,e'⟩:y.size<=JN/\k=((y.size:Int) != 0):=e;subst e';exact PySem.W.truthy_bytes (by lia) ⟨H,I.tok _,q⟩
 | ref p=>
  cases G;have e':(∃xs,Kh X.K H p xs/\k=!xs.isEmpty)\/(∃xs,Lq X.K H p xs/\k=!xs.isEmpty)\/∃kvs,H p=Dn (.dK kvs)/\k=!kvs.isEmpty:=e
  rcases e' with⟨xs,J,e'⟩|⟨xs,J,e'⟩|⟨kvs,J,e'⟩
  subst e';obtain⟨its,r,U,Y⟩:=I.list J;have O:=r.length;exact wpAny_truthy_list U.isList (by simp only[Mp];lia) ⟨H,I.tok _,by rw[uL r];exact q⟩;subst e';obtain⟨its,r,U,Y⟩:=I.tuple J;have O:=r.length;exact truthy_tuple U (by simp only[Mp];lia) ⟨H,I.tok _,by rw[uL r];exact q⟩;subst e';obtain⟨Y,c,vs,r,m⟩:kvs.length<=JN/\(p==WL)=false/\∃vs,KV kvs vs/\s.heap.DictOf (cQ X.prog X.w) p vs:=I.hok p _ J
  have O:kvs.length=vs.length:=Paired.length r;exact wpAny_truthy_dict c m (by lia) ⟨H,I.tok _,by rw[zaL r];exact q⟩
 | _=>exact(show False from e).elim
theorem akB (ha:PE X a ta)(Y:∀G,isTrue a X.env G=(do let v <-G;standAt a.pos;Ww [v] (truthy v))):
  PT X a (fun σ H Q=>ta σ H λx H'=>∃k,aht X.K x H' k/\Q k H'):=by
 intro aor s σ H Q I h;exact isTrue_plain (JC (ha aor s σ H _ I h) λv J b=>by obtain⟨x,H1,c,O,U⟩:=b;exact acn aor J σ H1 x v Q c O U)<|Y _
theorem vals1 {x:V}(r:CZ [x] us):∃u,us=[u]/\RelV x u:=by
 cases r with
 | cons J G=>cases G;exact⟨_,rfl,J⟩
theorem vals2 {x y}(r:CZ [x,y] us):∃u w',us=[u,w']/\RelV x u/\RelV y w':=by
 cases r with
 | cons U O=>
  cases O with
  | cons J G=>cases G;exact⟨_,_,rfl,U,J⟩
theorem zbv:jX X (.builtin "abs") (λxs H Q=>∃i,xs=[.int i]/\Q (.int (if i<0 then -i else i)) H):=by
 intro aor s σ H xs us Q I r h;obtain⟨i,rfl,q⟩:=h;obtain⟨u,rfl,t,rfl⟩:=vals1 r;exact call_abs_int λu tk=>⟨.int _,H,I.tok _,⟨_,rfl⟩,q⟩
theorem akh (G:X.calm=true):jX X (.builtin "max") (λxs H Q=>∃i j,xs=[.int i,.int j]/\Q (.int (if j>i then j else i)) H):=by
 intro aor s σ H xs us Q I r h;obtain⟨i,j,rfl,q⟩:=h;obtain⟨u,w',rfl,⟨t,rfl⟩,J,rfl⟩:=vals2 r;refine max_two_ints (I.ok.hd G) λh' tk k=>⟨_,H,I.kept k,?_,q⟩;by_cases hj:j>i
 rw[if_pos hj,if_pos hj];exact⟨_,rfl⟩;rw[if_neg hj,if_neg hj];exact⟨_,rfl⟩
theorem ajh (G:X.calm=true):jX X (.builtin "min") (λxs H Q=>∃i j,xs=[.int i,.int j]/\Q (.int (if j<i then j else i)) H):=by
 intro aor s σ H xs us Q I r h;obtain⟨i,j,rfl,q⟩:=h;obtain⟨u,w',rfl,⟨t,rfl⟩,J,rfl⟩:=vals2 r;refine min_two_ints (I.ok.hd G) λh' tk k=>⟨_,H,I.kept k,?_,q⟩;by_cases hj:j<i
 rw[if_pos hj,if_pos hj];exact⟨_,rfl⟩;rw[if_neg hj,if_neg hj];exact⟨_,rfl⟩
theorem ajL:jX X (.type "int") (λxs H Q=>(∃i,xs=[.int i]/\Q (.int i) H)\/∃k,xs=[.bl k]/\Q (.int (if k then 1 else 0)) H):=by
 intro aor s σ H xs us Q I r h;rcases h with⟨i,rfl,q⟩|⟨k,rfl,q⟩
 obtain⟨u,rfl,t,rfl⟩:=vals1 r;exact call_int_int ⟨.int i,H,I,⟨_,rfl⟩,q⟩;obtain⟨u,rfl,G⟩:=vals1 r;cases G;exact call_int_bool ⟨.int _,H,I.tok _,⟨_,rfl⟩,q⟩
end
variable {dx:Addr}{mA:Str->Option JI}
theorem zbe (n:h.Ns1 dx mA):∃od,h.get? dx=Dn od/\∀name,PySem.W.lookIn name od=Dn (mA name):=by
 obtain⟨o,es,ep,ho,Y,U,_,O⟩:=n;refine⟨o,ho,λname=>?_⟩;have e:=O name;unfold nsFind findBy at e;rw[<-Array.find?_toList]at e;unfold PySem.W.lookIn;rw[Y];dsimp only;split
 rename_i y q;simp_all
 rename_i q;rw[q]at e;have a:es.toList.any (·.refKey)=false:=by
  rw[List.any_eq_false];intro y J;obtain⟨z,t,G⟩:=U y (Array.mem_toList_iff.mp J);simp[DictEntry.refKey,G]
 simp_all
section
variable {s:Ab}{x C f:Addr}{name:Str}{v:JI}
end
variable {C f:Addr}{name:Str}
theorem aav.some_of {v}{o}(r:aav (Dn v) o):∃u,o=Dn u/\RelV v u:=by
 cases o with
 | none=>cases r
 | some u=>exact⟨u,rfl,r⟩
theorem ajo {v}(r:RelV v u):PySem.W.handedIn u=true:=by
 cases v with
 | non|ref a|ty n=>cases r;rfl
 | bl b=>cases r;rfl
 | int i|byt b|flt b=>obtain⟨t,e⟩:=r;cases e;rfl
 | str x=>obtain⟨t,e⟩:=r;cases e;rfl
section
variable {fs fs':List (Str×V)}
end
section
variable {s:Ab}{fs:List (Str×V)}{f:Str}{v:V}
theorem amP {env:Env}{f:Str}{s:Ab}(J:ZW e f env (eval e env)=eval e env)
  (h:Bh (Bu prog w) A (eval e env) (λo G=>Bh (Bu prog w) A (getAttr o f true) Q E G) E s):Bh (Bu prog w) A (eval (.Attribute e f pos) env) Q E s:=
 Attribute_any_ h (by rw[arm_eval_Attribute,J])
end
section
variable {value:Expr}{f:Str}{tpos:Pos}{tv:TE}
end
section
variable {s:Ab}{c:JI}{b:Bool}
end
structure gQ (k:Nat) (A:Ig):Prop where
 hd:9<=k->A.handled=Go
 dp:A.depth+3*k+5<recursionLimit
 un:A.units+16*k+200<Nb
theorem gQ.mono (r:gQ k A)(h:j<=k):gQ j A:=⟨λz=>r.hd (Jz z h),by have:=r.dp;lia,by have:=r.un;lia⟩
theorem gQ.deeper {k A}(r:gQ (k+1) A)(env):gQ k (A.deeper env):=
 ⟨λz=>r.hd (Nat.le_succ_of_le z),by have:=r.dp;show _+1+3*k+5<_;lia,by have:=r.un;show _+3+16*k+200<_;lia⟩
variable {kw:List (Str×JI)}
theorem zax:(A.under (.builtin "type.__call__" ⟨.ref C::us,kw⟩)).depth=A.depth+1:=by rfl
theorem zat:(A.under (.builtin "type.__call__" ⟨.ref C::us,kw⟩)).units=A.units+1:=rfl
theorem gQ.make (r:gQ (k+1) A)(C)(us)(kw):gQ k (A.under (.builtin "type.__call__" ⟨.ref C::us,kw⟩)):=
 ⟨λz=>r.hd (Nat.le_succ_of_le z),by have:=r.dp;rw[zax];lia,by have:=r.un;rw[zat];lia⟩
theorem gQ.calm (r:gQ k A)(h:9<=k):A.handled.isNone=true:=by rw[r.hd h];rfl
theorem gQ.depth {k A}(r:gQ k A):A.depth<recursionLimit:=by have:=r.dp;lia
theorem gQ.units {k:Nat}{A:Ig}(r:gQ k A):A.units+64<Nb:=by have:=r.un;lia
noncomputable def ag6:TA:=λ_ H Q=>Q [] H
noncomputable def aft (ta:TE)(tr:TA):TA:=fun σ H Q=>ta σ H λx H1=>tr σ H1 λxs H2=>Q (x::xs) H2
section
variable {te:TE}{t:TA}
theorem Nk:PA X [] ag6:=λ_ _ _ _ H Q I h=>Calls.spliced_nil ⟨[],H,I,.nil,h⟩
theorem rT (ha:PE X e te)(hr:PA X es t)(hs:J9 (e::es) X.env=(false,eval e X.env)::J9 es X.env:=by rfl):PA X (e::es) (aft te t):=by
 intro pos aor s σ H Q I h;exact hs ▸ Calls.spliced_cons (JC (ha aor s σ H _ I h) λu s1 a=>by obtain⟨x,H1,I1,r1,q1⟩:=a;exact (JC (hr pos aor s1 σ H1 _ I1 q1) λus s2 b=>by obtain⟨xs,H2,I2,r2,q2⟩:=b;exact ⟨x::xs,H2,I2,.cons r1 r2,q2⟩))
noncomputable def ah2 (t:TA):TE:=fun σ H Q=>t σ H λxs H1=>xs.length<=JN/\∀p,H1 p=Go->Q (.ref p) (Iz H1 p (.tup xs))
noncomputable def ahM (t:TA):TE:=fun σ H Q=>t σ H λxs H1=>xs.length<=JN/\∀p,H1 p=Go->Q (.ref p) (Iz H1 p (.lst xs))
theorem abG {J}(h:PA X es t):PE X (.Tuple es J pos) (ah2 t):=by
 intro aor s σ H Q I O;refine wpAny_Tuple_spliced<|JC (h pos aor s σ H _ I O) λus U ⟨xs,H1,G,r,z,q⟩=>⟨r.length ▸ z,(⟨.ref _,Iz H1 _ _,G.laid (λb u e=>JV _ e) (JL _) ?_,rfl,q _<|G.hok.fresh<|JL _⟩)⟩
 exact⟨z,us,r,_,Mf _ rfl,rfl,⟨_,rfl⟩,rfl⟩
theorem V6 (h:PA X es t):PE X (.List es pos) (ahM t):=by
 intro aor s σ H Q I J;refine wpAny_List_spliced<|JC (h pos aor s σ H _ I J) λus O ⟨xs,H1,G,r,z,q⟩=>⟨r.length ▸ z,.ref _,Iz H1 _ _,G.laid (λb u e=>JV _ e) (JL _) ?_,rfl,q _<|G.hok.fresh<|JL _⟩
 exact⟨z,us,0,r,Mf _ rfl⟩
end
variable {t:TA}
noncomputable abbrev Sp:=List V->Hp->VK->XK->Prop
noncomputable abbrev Wt:=Option JI->List Env->Hp->Ab->XK->JI->Ab->Prop
structure aaH (P:IW) (w:IV) (K:BW) (mg:Str->Option JI) (base:Heap) (A:Ig) (outer:List Env) (s:Ab) (H:Hp):Prop where
 frames:A.frames=Dn outer
 mod:Mod K mg base
 bs:∀b o,base.get? b=Dn o->s.heap.get? b=Dn o/\H b=Go
 bsz:base.objs.size<=s.heap.objs.size
 funs:s.heap.FunFrames base outer
 frf:∀b∈frs outer,H b=Go
 hok:MP P w H s.heap
 bare:W8 s.gens
 qt:Quiet A H
noncomputable def CE (outer:List Env)(P:IW)(w:IV)(H:Hp)(s:Ab)(Q:VK)(u:JI)(s':Ab):Prop:=
 ∃v H',s'.os=s.os/\W8 s'.gens/\Un (frs outer) [] H H' s.heap s'.heap/\MP P w H' s'.heap/\RelV v u/\Q v H'
noncomputable def zal (CX:Wt)(hd:Option JI)(outer:List Env)(P:IW)(w:IV)(H:Hp)(s:Ab)(Q:VK)(E:XK)(r:Result)(s':Ab):Prop:=
 match r with
 | .ok (.ret u)=>CE outer P w H s Q u s'
 | .ok _=>False
 | .error e=>CX hd outer H s E e s'
structure jO (P:IW) (w:IV) (K:BW) (mg:Str->Option JI) (base:Heap) (CX:Wt) (k:Nat) (f:Addr) (fd:Nv) (ps:List Str) (sp:Sp):Prop where
 len:∀vs H Q E,sp vs H Q E->vs.length=ps.length
 run:∀(A:Ig) (outer:List Env) (s:Ab) (H:Hp) (args:Args) (us:List JI) (vs:List V) (Q:VK) (E:XK),gQ k A->aaH P w K mg base A outer s H->BindsTo s fd args (ps.zip us)->CZ vs us->sp vs H Q E ->
  TY (Bu P w) A (.call (.ref f) args) (zal CX A.handled outer P w H s Q E) s
variable {CX:Wt}{base:Heap}{sp:Sp}{mg:Str->Option JI}{fd:Nv}
theorem jO.mono {P w K}{mg base CX}{j k f fd}{ps sp}(F:jO P w K mg base CX j f fd ps sp)(h:j<=k) :
  jO P w K mg base CX k f fd ps sp:=⟨F.len,λA outer s H G us J Q E O=>F.run A outer s H G us J Q E (O.mono h)⟩
theorem jO.imp {ps sp'}(F:jO P w K mg base CX k f fd ps sp)
  (h:∀vs H Q E,sp' vs H Q E->sp vs H Q E):jO P w K mg base CX k f fd ps sp':=
 ⟨λvs H Q E q=>F.len vs H Q E (h _ _ _ _ q),λA outer s H G us vs Q E O U Y J hs=>F.run A outer s H G us vs Q E O U Y J (h _ _ _ _ hs)⟩
variable {outer:List Env}
theorem aaH.make {s}(e:aaH P w K mg base A outer s H)(C)(us)(kw):
  aaH P w K mg base (A.under (.builtin "type.__call__" ⟨.ref C::us,kw⟩)) outer s H:=⟨by first|exact e.frames|(simpa using _),e.mod,e.bs,e.bsz,e.funs,e.frf,e.hok,e.bare,e.qt⟩
section
variable {s:Ab}
theorem Al.env0 (I:Al X aor σ H s):aaH X.prog X.w X.K X.mg X.base X.A X.stack s H:=
 ⟨I.ok.frames,I.ok.mod,I.bs,Jz I.ok.bsz I.sz,I.stack,I.stkFree,I.hok,I.bare,I.qt0⟩
theorem Al.after {Q}(I:Al X aor σ H s)(h:CE X.stack X.prog X.w H s Q u s'):EP X aor σ Q u s':=by
 obtain⟨v,H',os,G,U,O,r,q⟩:=h;obtain⟨hh,g,d,t,J⟩:=s';obtain rfl:J=s.os:=os;exact⟨v,H',I.call U O G nofun,r,q⟩
end
noncomputable def Xn (sp:Sp)(dvs:List V)(E:XK)(t:TA):TE:=fun σ H Q=>t σ H λvs H1=>sp (vs++dvs) H1 Q E
noncomputable def Binds (K:BW)(fd:Nv)(ps:List Str)(ds:List JI):Prop:=
 ∀(s:Ab) (us:List JI),K.In s.heap->(us++ds).length=ps.length->BindsTo s fd ⟨us,[]⟩ (ps.zip (us++ds))
theorem Binds.all {ps}(h:∀us,us.length=ps.length->bindArgs fd ⟨us,[]⟩=pure (ps.zip us)):Binds K fd ps []:=λs us _ hl=>by
 rw[Yh]at hl|-
 exact .of_eq<|h us hl
noncomputable def Passes (CX:Wt)(X:Cx)(E:XK):Prop:=∀(aor:List (Addr×Obj)) (σ:St) (H:Hp) (s:Ab) (e:JI) (s':Ab),Al X aor σ H s->CX X.A.handled X.stack H s E e s'->X.xe e s'
section
variable {ps:List Str}{dvs:List V}{ds:List JI}{E:XK}{x m:Str}{p apos:Pos}
theorem Wf {s Q}{J}(F:jO X.prog X.w X.K X.mg X.base CX k f fd ps sp)(Y:gQ k X.A)(b:Binds X.K fd ps ds)(a:CZ dvs ds)(U:Passes CX X E)
  (I:Al X aor σ H s) (r:CZ J us) (h:sp (J++dvs) H Q E):Bh (Bu X.prog X.w) X.A (call (.ref f) us) (EP X aor σ Q) X.xe s:=by
 have O:=r.append a;refine YZ<|Xl (F.run _ _ s H ⟨us,[]⟩ _ _ Q E Y I.env0 (b s us I.kIn<|O.length ▸ F.len _ _ _ _ h) O h) λr s' G=>?_
 cases r with
 | error e=>exact U aor σ H s e s' I G
 | ok fl=>
  cases fl with
  | ret u=>exact I.after G
  | next|brk|cont=>exact Td G
theorem akP (F:jO X.prog X.w X.K X.mg X.base CX k f fd ps sp)(hr:gQ k X.A)(hg:Gl X x)(hm:X.mg x=Dn (.ref f))(hk:Ry X.K (.ref f)=true)(hb:Binds X.K fd ps ds)(hd:CZ dvs ds)(hx:Passes CX X E)
  (ha:PA X (e::es) t) (hdb:(x==("__debug__" : Str))=false:=by decide) (he:J9 (e::es) X.env=(false,eval e X.env)::J9 es X.env:=by rfl) (hpl:(Mi pos (J9 es X.env)).any (·.1)=false:=by rfl) :
  PE X (.Call (.Name x p) (e::es) [] pos) (Xn sp dvs E t):=by
 intro aor s σ H Q I h;exact Xz<|lU I hg hm (PySem.W.callWith_K I.ok.mod.kin hk (JC (ha pos aor s σ H _ I h) λus s1 a=>by obtain⟨vs,H1,I1,r,q⟩:=a;exact ⟨I1.kIn,(Wf F hr hb hd hx I1 r q)⟩) he hpl) hdb
theorem akf (F:jO X.prog X.w X.K X.mg X.base CX k f fd ps sp)(hr:gQ k X.A)(hg:Gl X x)(hm:X.mg x=Dn (.ref f))(hk:Ry X.K (.ref f)=true)(hb:Binds X.K fd ps ds)(hd:CZ dvs ds)(hx:Passes CX X E)
  (hdb:(x==("__debug__" : Str))=false:=by decide):PE X (.Call (.Name x p) [] [] pos) (Xn sp dvs E ag6):=by
 intro aor s σ H Q I h;exact Xz<|lU I hg hm (PySem.W.callWith_K0 I.kIn hk<|Wf F hr hb hd hx I .nil h) hdb
end
variable {apos:Pos}
section
variable {ps ks:List Str}{E:XK}{x m:Str}{p kpos:Pos}{kws:List W9}{te:TE}{tk:TA}{nm:Option Str}
variable {g:List JI->List JI->List JI}{gV:List V->List V->List V}
end
structure gM (N P:List Str) (sc:Scope):Prop where
 kind:sc.kind=.function
 co:sc.isCoroutine=false
 gen:sc.isGenerator=false
 nd:N.Nodup
 pre:N.take P.length=P
 par:∀x∈P,sc.names.lookup x=Dn .local\/sc.names.lookup x=Dn .cell
 nofree:∀y∈sc.names,y.2≠.free
theorem zK {Rt x}:∀{G m},(∀v,(x,v)∉G)->bindL Rt G m x=m x
 | [],_,_=>rfl
 | (n,v)::r,m,h=>by
  unfold bindL;rw[zK λw J=>h w (RN _ J)];split
  grind
  rfl
theorem Ak {Rt:Str->Option Qh}{x:Str}:∀{G:List (Str×JI)}{m:Str->Option JI},(∀v,(x,v)∉G)->bindC Rt G m x=m x
 | [],_,_=>rfl
 | (n,v)::r,m,h=>by
  unfold bindC;rw[Ak λw J=>h w (RN _ J)];split
  rfl;grind
theorem yO {Rt x v}:∀{P:List Str}{G}{i:Nat}{m},P.Nodup->P[i]?=Dn x->G[i]?=Dn v->Rt x=Dn .local ->
  bindL Rt (P.zip G) m x=Dn v
 | p::P,w::G,0,m,J,h1,h2,O=>by
  simp at h1 h2;subst h1;subst h2;show bindL Rt ((p,w)::P.zip G) m p=_;unfold bindL;rw[zK λv U=>(WT.mp J).1 (List.of_mem_zip U).1,if_pos O];simp
 | p::P,w::G,i+1,m,J,h1,h2,O=>by
  unfold bindL;exact yO (WT.mp J).2 (by simpa using h1) (by simpa using h2) O
theorem Af {Rt x v}:∀{P:List Str}{G}{i:Nat}{m},P.Nodup->P[i]?=Dn x->G[i]?=Dn v->Rt x≠Dn .local ->
  bindC Rt (P.zip G) m x=Dn v
 | p::P,w::G,0,m,J,h1,h2,O=>by
  simp at h1 h2;subst h1;subst h2;show bindC Rt ((p,w)::P.zip G) m p=_;unfold bindC;rw[Ak λv U=>(WT.mp J).1 (List.of_mem_zip U).1,if_neg O];simp
 | p::P,w::G,i+1,m,J,h1,h2,O=>by
  unfold bindC;exact Af (WT.mp J).2 (by simpa using h1) (by simpa using h2) O
noncomputable def start (N:List Str)(G:List V):St:=G.map Dn++RP (N.length-G.length) Go
noncomputable def J5 (CX:Wt)(P:IW)(w:IV)(K:BW)(mg:Str->Option JI)(base:Heap)(N:List Str)(qual:Str)(scope:Scope)(f:Addr)(J:JI)(A:Ig)(outer:List Env)(s:Ab)(H:Hp)(E:XK):Cx where
 prog:=P
 w:=w
 K:=K
 mg:=mg
 base:=base
 A:=A.deeper (T4 qual scope s.heap.objs.size f J)
 N:=N
 s₀:=s
 H₀:=H
 env:=T4 qual scope s.heap.objs.size f J
 outer:=outer
 stack:=T4 qual scope s.heap.objs.size f J::outer
 ex:=[]
 calm:=A.handled.isNone
 fn:=λ_=>true
 pn:=[]
 xe:=λe s'=>Bh (Bu P w) (A.deeper (T4 qual scope s.heap.objs.size f J)) (leaving (T4 qual scope s.heap.objs.size f J) e) (λ_ G=>CX A.handled outer H s E e G) (λe' G=>CX A.handled outer H s E e' G) s'
theorem Et {sc:Scope}{x}(h:sc.names.lookup x=Dn .cell):∃c,(Nu n sc.names []).lookup x=Dn c:=Option.isSome_iff_exists.mp (PySem.W.cellsFrom_some _ n [] (.inl h))
variable {scope:Scope}{qual:Str}
theorem amo {N ps g}{s s1 E}{J}
  (S:gM N ps scope) (G:aaH P w K mg base A outer s H) (hl:J.length=ps.length) (r:CZ J us)
  (x:InCallC s s.heap.objs.size (bindL (T4 qual scope s.heap.objs.size f g).kindOf (ps.zip us) λ_=>Go) (Nu (s.heap.objs.size+1) scope.names []) (bindC (T4 qual scope s.heap.objs.size f g).kindOf (ps.zip us) λ_=>Go) s1) :
  Al (J5 CX P w K mg base N qual scope f g A outer s H E) [] (start N J) H s1:=by
 have n:=by have:=congrArg Tj S.pre;rw[Ti]at this;lia
 obtain⟨h1,tk,rfl,l⟩:=x.done;have O:∀b:Addr,b∉(J5 CX P w K mg base N qual scope f g A outer s H E).ex:=λb z=>absurd (show b∈([]:List Addr)from z) (by simp)
 refine⟨⟨G.mod,S.kind,rfl,rfl,JL _,λy z c h1 h2=>?_,λy Y=>?_,λy c _ h=>?_,Option.isNone_iff_eq_none.mp,G.qt,Around.frames_deeper G.frames,.inr ⟨rfl,rfl⟩,λb z=>absurd z (O b),G.bs,G.bsz,λb _ _=>O b,λb z=>absurd z (O b),G.funs,G.frf⟩,
  rfl,G.bare,Un.kept l,⟨_,x.toInCall.ns,λi y v h1 h2 t=>?_⟩,λy c h=>⟨_,x.cell y c h⟩,G.hok.fresh (JL _),λy c h=>?_,λp d=>absurd (show p∈([]:List _)from d) (by simp),G.hok.kept l,?_⟩
 exact name_of_addr x.apart (X5 h1)<|X5 h2
 rcases Y with Y|Y
 exact Et Y;exact absurd rfl<|S.nofree _<|X5 Y
 exact Xg<|x.above y c<|X5 h
 ·have hi:i<J.length:=by
   unfold start at h2;by_cases hi:i<J.length
   exact hi;rw[Sv (by simpa using hi),ux]at h2;split at h2<;>cases h2
  have o:J[i]?=Dn v:=by
   unfold start at h2;rw[Rx (by simpa using hi),Ju]at h2;cases e:J[i]? with
   | none=>rw[e]at h2;cases h2
   | some a=>rw[e]at h2;cases h2;rfl
  obtain⟨u,j,m⟩:=r.get o;have d:ps[i]?=Dn y:=by
   rw[<-S.pre,List.getElem?_take_of_lt (by lia)];exact h1
  have U:=S.pre ▸ S.nd.sublist (List.take_sublist _ _);refine⟨u,m,?_⟩;rcases S.par y (Qz d)with k|k
  exact .inl ⟨k,yO U d j k⟩;obtain⟨c,e⟩:=Et k;refine .inr ⟨.inl k,c,e,?_⟩;have q:=x.cell y c e;rw[Af U d j (by show scope.names.lookup y≠_;rw[k];decide)]at q;exact q
 exact G.hok.fresh<|Xg<|x.above y c<|X5 h
 unfold start;show _=N.length;rw[Le,Ik,lR];lia
variable {od:Option Addr}
theorem aa3 {G}{D kV l B O ct R I}
  {p N ps sp}(T:K.lookup f=Dn ⟨R,od,.func (Xi name qual G body scope D kV l B I O ct),p⟩) (z:Z6 K O qual=true) (S:gM N ps scope)
  (g:∀Y H Q E,sp Y H Q E->Y.length=ps.length)
  (d:∀A  (outer) (s) (H) (Y) (Q) (E),gQ k (A.deeper (T4 qual scope s.heap.objs.size f O))->sp Y H Q E ->
   ∃t,RB (J5 CX P w K mg base N qual scope f O A outer s H E) body t/\t {nx:=λ_ H'=>Q .non H',rt:=Q} (start N Y) H) :
  jO P w K mg base CX (k+1) f (Xi name qual G body scope D kV l B I O ct) ps sp:=by
 refine⟨g,λA outer s H F us Y Q E C j hb r h=>?_⟩;have L:=j.mod.kin.keeps λb o e=>(j.bs b o e).1
 have c:∀y∈ps.zip us,scope.names.lookup y.1=Dn .local\/(scope.names.lookup y.1=Dn .cell/\((Nu (s.heap.objs.size+1) _ []).lookup y.1).isSome=true):=λa W=>by
  obtain⟨n,v⟩:=a;rcases S.par n (List.of_mem_zip W).1 with q|q
  exact .inl q;exact .inr ⟨q,PySem.W.cellsFrom_some _ _ _<|.inl q⟩
 refine codeAny_call_function C.depth (L _ _ T) rfl S.co S.gen rfl (PySem.W.codeRec_of L z)<|hb _ _ _ _<|wpAny_newFunctionEnv_cells S.kind c λenv Z M x=>?_
 subst Z;refine⟨(j.mod.nolimit.keeps λb o e=>(j.bs b o e).1).keeps x.toInCall.keep,codeAny_func ?_⟩;obtain⟨t,ht,X⟩:=d A outer s H Y Q E (C.deeper _) h;refine Lp (ht [] M _ H _ (amo S j (g _ _ _ _ h) r x) X) (λfl s' hs=>?_) λe s' hs=>hs;have i:∀{U:St}{H':Hp}{v:V}{u:JI},Al (J5 CX P w K mg base N qual scope f O A outer s H E) [] U H' s'->RelV v u->Q v H'->CE outer P w H s Q u s':=
  λ{U H' v u} J m q=>⟨v,H',J.os,J.bare,J.base,J.hok,m,q⟩
 cases fl with
 | ret u=>
  obtain⟨v,U,H',J,m,q⟩:=hs;exact i J m q
 | next=>
  obtain⟨U,H',J,q⟩:=hs;exact i (v:=V.non) J rfl q
 | brk|cont=>
  obtain⟨_,_,_,q⟩:=hs;exact Td q
section
variable {x:Str}{p:Pos}{id T:String}{r:List V->Hp->VK->Prop}
noncomputable def tCB (r:List V->Hp->VK->Prop)(t:TA):TE:=fun σ H Q=>t σ H λvs H1=>r vs H1 Q
theorem HB (hc:jX X (.builtin id) r)(hg:Gl X x)(hm:X.mg x=Go)(hv:X3 x=Dn (.builtin id))(ha:PA X (e::es) t)(hn:x ≠ "__name__":=by decide)(hdb:(x==("__debug__" : Str))=false:=by decide)
  (he:J9 (e::es) X.env=(false,eval e X.env)::J9 es X.env:=by rfl) (hpl:(Mi pos (J9 es X.env)).any (·.1)=false:=by rfl):PE X (.Call (.Name x p) (e::es) [] pos) (tCB r t):=by
 intro aor s σ H Q I h;exact Xz<|pR I hg hm hv (PyProof.Rows.callWith_builtin1 (JC (ha pos aor s σ H _ I h) λus s1 a=>by obtain⟨vs,H1,I1,r1,q1⟩:=a;exact hc aor s1 σ H1 vs us Q I1 r1 q1) he hpl) hn hdb
theorem zU (hc:jX X (.type T) r)(hg:Gl X x)(hm:X.mg x=Go)(hv:X3 x=Dn (.type T))(ha:PA X (e::es) t)(hn:x ≠ "__name__":=by decide)(hdb:(x==("__debug__" : Str))=false:=by decide)
  (he:J9 (e::es) X.env=(false,eval e X.env)::J9 es X.env:=by rfl) (hpl:(Mi pos (J9 es X.env)).any (·.1)=false:=by rfl):PE X (.Call (.Name x p) (e::es) [] pos) (tCB r t):=by
 intro aor s σ H Q I h;exact Xz<|pR I hg hm hv (Zk (JC (ha pos aor s σ H _ I h) λus s1 a=>by obtain⟨vs,H1,I1,r1,q1⟩:=a;exact hc aor s1 σ H1 vs us Q I1 r1 q1) he hpl) hn hdb
end
end L2
namespace HT
open PySem PyProof.Rows
section
open PySem.SeqAt
open PySem.AutoSeq1 (wpAny_loadPart')
open PySem.MeetsSeq PySem.MeetsSeq2 PySem.MeetsSeq3
end
section
variable {prog:IW}{w:IV}{A:Ig}{E:JI->Ab->Prop}{s:Ab}
theorem YQ {t b}{J ws}{Q}(ht:IsTup s.heap t J.toArray)(k:IsTup s.heap b ws.toArray)(f:J≠[])
  (h1:ws=[]->Q (.ref t) s) (h2:ws≠[]->Q (.ref s.heap.objs.size) {s with heap:=s.heap.push {cls:=.type "tuple",data:=.seq (J++ws).toArray} })
  (hsz:J.length+ws.length<=JN):Bh (Bu prog w) A (Qy .Add (.ref t) (.ref b)) Q E s:=by
 obtain⟨⟨cls,dd,data,sl⟩,ho,j,n,i⟩:=ht;obtain⟨⟨h,U,d,O⟩,G,c,n2,a⟩:=k;subst j i c a;have e:J.toArray++ws.toArray=(J++ws).toArray:=by simp
 by_cases Y:ws=[]
 exact concat_meets ⟨_,ho,rfl⟩ ⟨_,G,rfl⟩ noFill_tuple_add seq_tuple_add PySem.F.slot_tuple_add PySem.F.entry_tuple_add (PySem.F.args_tuple_add_2 _ _)
  (tuple_addW1 t b _ _ n n2 dd U sl O (by simpa using f) (by simp[Y])) ⟨ho,G,h1 Y⟩
 refine concat_meets ⟨_,ho,rfl⟩ ⟨_,G,rfl⟩ noFill_tuple_add seq_tuple_add PySem.F.slot_tuple_add PySem.F.entry_tuple_add (PySem.F.args_tuple_add_2 _ _)
  (tuple_addW2 t b _ _ n n2 dd U sl O (by simpa using f) (by simpa using Y) hsz) ⟨ho,G,?_⟩
 simp_all
noncomputable def sIx (n d:Nat):Option Int->Nat
 | none=>d
 | some v=>if v<0 then(v+(n:Int)).toNat else min v.toNat n
theorem Fj (n d):sIx n d Go=d:=rfl
theorem M5 (n d k:Nat):sIx n d (Dn (k))=min k n:=rfl
theorem La (v:Int)(n d:Nat):(if v<0 then max (v+(n:Int)) 0 else min v (n:Int))=((sIx n d (Dn v):Nat):Int):=by
 show _=(((if v<0 then(v+(n:Int)).toNat else min _ n):Nat):Int);grind
theorem aiW (lo hi)(n:Nat):Builtin.Slice.sliceAdjust lo hi 1 (n)=(((sIx n 0 lo):Int),((sIx n n hi):Int)):=by
 refine Prod.ext ?_ ?_
 ·cases lo with
  | none=>rfl
  | some v=>exact La v n 0
 ·cases hi with
  | none=>rfl
  | some v=>exact La v n n
theorem zaI (i j:Nat):Builtin.Slice.slicePlaces (i) (j) 1=j-i:=by
 unfold Builtin.Slice.slicePlaces;lia
theorem vI {v}{o}{Q}(p:IsPart v o)(h:Q o s):Bh (Bu prog w) A (Builtin.Slice.slicePartIndex v) Q E s:=by
 cases p with
 | none=>exact slicePart_none h
 | int i t=>exact slicePart_int h
theorem je {sl}{U O}{lo hi}{n:Nat}{Q}(hs:s.heap.IsSliceOf sl U O .none)(a:IsPart U lo)(Y:IsPart O hi)
  (h:Q (((sIx n 0 lo):Int),1,sIx n n hi-sIx n 0 lo) s):Bh (Bu prog w) A (Builtin.Slice.sliceApplied (.ref sl) (pure (n))) Q E s:=by
 obtain⟨os,G,b,J⟩:=hs;refine Aj<|Aj<|N8 G J rfl<|Aj<|N8 G J rfl<|Aj<|N8 G J rfl<|HI ?_
 refine Aj<|slicePart_none ?_
 rw[if_neg (by decide)];refine Aj<|vI a<|Aj<|vI Y<|Aj<|HI ?_
 show Bh _ _ (match Builtin.Slice.sliceAdjust lo hi 1 _ with|(lo,hi)=>pure (lo,(1:Int),Builtin.Slice.slicePlaces lo hi 1)) _ _ s;rw[aiW lo hi n];show Bh _ _ (pure _) _ _ s;rw[zaI];exact HI h
theorem zbH (xs:Array JI)(i k:Nat):((Qv k).filterMap λ(m:Nat)=>xs[((i)+(m:Int)*1).toNat]?).toArray=((xs.toList.drop i).take k).toArray:=by
 have e:(λ(m:Nat)=>xs[((i:Int)+(m:Int)*1).toNat]?)=λm=>xs[i+m]?:=by
  funext m;have:((i:Int)+(m:Int)*1).toNat=i+m:=by lia
  rw[this]
 rw[e];have:=pick_run xs i k
 rw[List.filterMap_map]at this;have e2:((λx=>xs[x]?) ∘λx=>i+x)=λm=>xs[i+m]?:=rfl
 simp_all
theorem oN {t sl:Addr}{items:Array JI}{a Y:JI}{lo hi:Option Int}{Q:JI->Ab->Prop}(ht:IsTup s.heap t items)(hs:s.heap.IsSliceOf sl a Y .none)(d:IsPart a lo)(c:IsPart Y hi)
  (hw:¬(sIx items.size 0 lo=0/\sIx items.size items.size hi=items.size))
  (h:Q (.ref s.heap.objs.size) {s with heap:=s.heap.push {cls:=.type "tuple",data:=.seq ((items.toList.drop (sIx items.size 0 lo)).take (sIx items.size items.size hi-sIx items.size 0 lo)).toArray} })
  (hsz:items.size<=JN):Bh (Bu prog w) A (getItem (.ref t) (.ref sl)) Q E s:=by
 have G:=by
  show((items.toList.drop (sIx items.size 0 lo)).take (sIx items.size items.size hi-sIx items.size 0 lo)).toArray.size<=JN;rw[Mp,Ti,List.length_drop,Array.length_toList];omega
 obtain⟨os,J,U,e⟩:=id hs;unfold getItem;try with_reducible refine Ot (Aj (wpAny_sequenceKey ht.typeIs (by decide) ?_))
 refine Aj (Xq ht.typeIs YL
  (XD YL ht.typeIs entry_tuple_getitem ?_ (args_tuple_getitem _ _)))
 show Bh _ _ (Builtin.Tuple.tupleItemsOf _ >>= _) _ _ s;refine Aj<|tupleItemsOf_ ht<|Aj<|wpAny_typeOf ⟨os,J,U⟩<|Aj<|je hs d c ?_
 have O:¬((((sIx items.size 0 lo:Nat):Int)==0&&(1:Int)==1&&(sIx items.size items.size hi-sIx items.size 0 lo)==items.size)=true):=by
  intro q;rw[Uj,Uj]at q;have g:=eq_of_beq q.1.1;have f:=eq_of_beq q.2;exact hw ⟨by omega,by omega⟩
 show Bh _ _ (if _=true then _ else _) _ _ s;rw[if_neg O,zbH];first
  | exact Aj (XJ (Aj (HI (HI ⟨_,rfl,HI h⟩))) G)
end
end HT
namespace L2
open PySem PySem.Spec PyProof.Rows
noncomputable abbrev TO:=St->Hp->(Option Int->Hp->Prop)->Prop
noncomputable def PO (X:Cx)(e:Option Expr)(t:TO):Prop:=
 ∀(aor:List (Addr×Obj)) (s:Ab) (σ:St) (H:Hp) (Q:Option Int->Hp->Prop),Al X aor σ H s->t σ H Q ->
  Bh (Bu X.prog X.w) X.A (evalPart e X.env) (λu s'=>∃o H',Al X aor σ H' s'/\IsPart u o/\Q o H') X.xe s
noncomputable def amE:TO:=λ_ H Q=>Q Go H
noncomputable def afq (t:TE):TO:=fun σ H Q=>t σ H λx H1=>∃i,x=.int i/\Q (Dn i) H1
section
variable {X:Cx}{e:Expr}{te:TE}{lo hi:Option Expr}{tl th:TO}{pos p2:Pos}
theorem amH:PO X Go amE:=by
 intro aor s σ H Q I h;exact HI ⟨Go,H,I,.none,h⟩
theorem ajS (h:PE X e te):PO X (Dn e) (afq te):=by
 intro aor s σ H Q I O;refine JC (h aor s σ H _ I O) λu Y a=>?_;obtain⟨x,H1,U,G,J⟩:=a;obtain⟨i,rfl,q⟩:=J;obtain⟨t,rfl⟩:=G;exact⟨Dn i,H1,U,.int i t,q⟩
noncomputable def Wj (X:Cx)(r:V->Option Int->Option Int->Hp->VK->Prop):Prop:=
 ∀(aor:List (Addr×Obj)) (s:Ab) (σ:St) (H:Hp) (x:V) (v J G:JI) (lo hi:Option Int) (sl:Addr) (Q:VK),Al X aor σ H s->RelV x v->s.heap.IsSliceOf sl J G .none->IsPart J lo->IsPart G hi->r x lo hi H Q ->
  ∃T id,typeLookup (.type T) "__getitem__" = pure (Dn (.builtin id))/\s.TypeIs v T/\Bh (Bu X.prog X.w) X.A (getItem v (.ref sl)) (EP X aor σ Q) X.xe s
theorem Wj.or {r U}(h:Wj X r)(h':Wj X U):Wj X (λx lo hi H Q=>r x lo hi H Q\/U x lo hi H Q):=by
 intro aor s σ H x v J G lo hi sl Q I O hs a Y q;rcases q with q|q
 exact h aor s σ H x v J G lo hi sl Q I O hs a Y q;exact h' aor s σ H x v J G lo hi sl Q I O hs a Y q
noncomputable def tSl (r:V->Option Int->Option Int->Hp->VK->Prop)(te:TE)(tl th:TO):TE:=fun σ H Q=>te σ H λx H1=>tl σ H1 λl H2=>th σ H2 λu G=>r x l u G Q
theorem ala {r}(j:Wj X r)(m:PE X e te)(hl:PO X lo tl)(i:PO X hi th):PE X (.Subscript e (.Slice lo hi Go p2) pos) (tSl r te tl th):=by
 intro aor s σ H Q I h;refine Subscript_<|JC (m aor s σ H _ I h) λv Y ⟨x,H1,t,a,d⟩=>(wpAny_Slice<|JC (hl aor Y σ H1 _ t d) λvl U ⟨l,H2,p,g,c⟩=>JC (i aor U σ H2 _ p c) λvu J ⟨u,O,o,f,b⟩=>(HI ?_))
 have n:Al X aor σ O {J with heap:=J.heap.push {cls:=.type "slice",data:=.fields #[vl,vu,.none]} }:=o.kept λb w q=>JV _ q
 obtain⟨T,id,hT,ht,k⟩:=j aor {J with heap:=J.heap.push {cls:=.type "slice",data:=.fields #[vl,vu,.none]} } σ O x v vl vu l u _ Q n a (Heap.IsSliceOf.new ..) g f b;exact tail_any ht hT k<|by with_unfolding_all rfl
noncomputable def Xf (xs:List V)(lo hi:Option Int):List V:=(xs.drop (HT.sIx xs.length 0 lo)).take (HT.sIx xs.length xs.length hi-HT.sIx xs.length 0 lo)
theorem qT (xs:List V)(lo hi:Option Int):(Xf xs lo hi).length<=xs.length:=by
 unfold Xf;rw[Ti,List.length_drop];lia
noncomputable def aia (K:BW):V->Option Int->Option Int->Hp->VK->Prop:=λx lo hi H Q=>∃a xs,x=.ref a/\Lq K H a xs /\
 ¬(HT.sIx xs.length 0 lo=0/\HT.sIx xs.length xs.length hi=xs.length)/\∀p,H p=Go->Q (.ref p) (Iz H p (.tup (Xf xs lo hi)))
theorem acp:Wj X (aia X.K):=by
 intro aor s σ H x v e d lo hi sl Q I J hs U O h;obtain⟨a,xs,rfl,b,c,q⟩:=h;cases J;obtain⟨its,r,ht,Y⟩:=I.tuple b;have G:its.toArray.size=xs.length:=r.length.symm;refine⟨"tuple",_,YL.lookup,ht.typeIs,(HT.oN ht hs U O (G ▸ c) ?_<|by rwa[G])⟩;rw[G];refine⟨.ref _,_,I.laid (λb f q=>JV _ q) (JL _) ?_,rfl,q _<|I.hok.fresh<|JL _⟩;exact⟨Jz (qT xs lo hi) Y,_,(r.drop _).take _,Uh.new _ _⟩
noncomputable def afr (K:BW):R2:=λx y H Q=>∃a b xs ys,x=.ref a/\y=.ref b/\Lq K H a xs/\Lq K H b ys/\xs≠[]/\xs.length+ys.length<=JN /\
 (ys=[]->Q (.ref a) H)/\(ys≠[]->∀p,H p=Go->Q (.ref p) (Iz H p (.tup (xs++ys))))
theorem CZ.nil_iff {xs}{us}(r:CZ xs us):us=[]↔xs=[]:=by
 cases r with
 | nil|cons _ _=>simp
theorem zcd:Mv X (Qy .Add) (afr X.K):=by
 intro aor s σ H x y v u Q I c Y h;obtain⟨a,b,xs,ys,rfl,rfl,j,i,g,U,e,d⟩:=h;cases c;cases Y;obtain⟨its,J,f,_⟩:=I.tuple j;obtain⟨O,G,p2,_⟩:=I.tuple i;refine HT.YQ f p2 (λz=>g<|J.nil_iff.mp z) (λz=>⟨.ref a,H,I,rfl,e<|G.nil_iff.mp z⟩) (λz=>?_) (by rw[<-J.length,<-G.length];exact U);refine⟨.ref _,_,I.laid (λb k q=>JV _ q) (JL _) ?_,rfl,d (λw=>z<|G.nil_iff.mpr w) _<|I.hok.fresh<|JL _⟩;exact⟨Le ▸ U,_,J.append G,Uh.new _ _⟩
end
noncomputable def Ro (n:Nat)(i:Int):Option Nat:=if 0<=i then(if i<n then Dn i.toNat else Go)else if -(n:Int)<=i then Dn (i+n).toNat else Go
noncomputable def OD {α:Type}(xs:List α)(i:Int):Option α:=(Ro xs.length i).bind λj=>xs[j]?
theorem LR {n i j}(h:Ro n i=Dn j):seqIndex? i n=Dn j/\j<n/\-(n)<=i/\i<n:=by
 unfold Ro at h;by_cases G:0<=i
 rw[if_pos G]at h;by_cases h1:i<n
 rw[if_pos h1]at h;have e:=Ma h;exact⟨by rw[seqIndex_of G h1,e],by lia,by lia,h1⟩;simp_all
 rw[if_neg G]at h;by_cases h1:-(n:Int)<=i
 rw[if_pos h1]at h;have e:=Ma h;exact⟨by rw[seqIndex_neg (by lia) h1,e],by lia,h1,by lia⟩;simp_all
theorem Bs {G}{xs i}{v:G}(h:OD xs i=Dn v):∃j,seqIndex? i xs.length=Dn j/\xs[j]?=Dn v/\j<xs.length/\-(xs.length:Int)<=i/\i<xs.length:=by
 unfold OD at h;cases e:Ro _ i with
 | none=>rw[e]at h;cases h
 | some j=>
  rw[e]at h;obtain⟨h1,h2,O,J⟩:=LR e;simp_all
theorem bM {G}{xs}{j:Nat}{v:G}(h:xs[j]?=Dn v):OD xs (j)=Dn v:=by
 have hj:=(Oi.mp h).1;have e:Ro xs.length (j:Int)=Dn j:=by
  unfold Ro;simp_all
 unfold OD;rw[e];exact h
theorem amN {G:Type}(xs:List G)(v:G):OD (xs++[v]) (-1)=Dn v:=by
 have hl:(xs++[v]).length=xs.length+1:=by simp
 have e:Ro (xs++[v]).length (-1)=Dn xs.length:=by
  unfold Ro;rw[if_neg (by decide),if_pos (by lia)];congr 1
  lia
 unfold OD;rw[e];simp
noncomputable def Cp (b:Expr):Prop:=∀o i,subscripted b false o i=operate [o,i] (getItem o i)
noncomputable def XR (X:Cx)(r:R2):Prop:=
 ∀(value G:Expr) (aor:List (Addr×Obj)) (s:Ab) (σ:St) (H:Hp) (x y:V) (v u:JI) (Q:VK),Al X aor σ H s->RelV x v->RelV y u->r x y H Q ->
  subscripted G false v u=operate [v,u] (getItem v u)->Bh (Bu X.prog X.w) X.A (subscriptTail value G v u) (EP X aor σ Q) X.xe s
noncomputable def MtR (X:Cx)(id:String)(r:V->List V->Hp->VK->Prop):Prop:=
 ∀(aor:List (Addr×Obj)) (s:Ab) (σ:St) (H:Hp) (x:V) (xs:List V) (v:JI) (us:List JI) (Q:VK),Al X aor σ H s->RelV x v->CZ xs us->r x xs H Q ->
  Bh (Bu X.prog X.w) X.A (call (.builtin id) (v::us)) (EP X aor σ Q) X.xe s
section
variable {X:Cx}{a b:Expr}{ta tb:TE}{pos:Pos}
theorem XR.or {r U:R2}(h:XR X r)(h':XR X U):XR X (λx y H Q=>r x y H Q\/U x y H Q):=by
 intro value G aor s σ H x y v u Q I O J q hs;rcases q with q|q
 exact h value G aor s σ H x y v u Q I O J q hs;exact h' value G aor s σ H x y v u Q I O J q hs
theorem afI {r}(U:XR X r)(ha:PE X a ta)(Y:PE X b tb)(hs:Cp b):PE X (.Subscript a b pos) (tOp r ta tb):=by
 intro aor s σ H Q I h;exact Subscript_<|agu ha Y I h λv u G x y H2 c O J q=>U a b aor G σ H2 x y v u Q c O J q<|hs _ _
noncomputable def ahm (K:BW):R2:=λx y H Q=>∃p xs i v,x=.ref p/\y=.int i/\Kh K H p xs/\OD xs i=Dn v/\Q v H
noncomputable def agN (K:BW):R2:=λx y H Q=>∃p xs i v,x=.ref p/\y=.int i/\Lq K H p xs/\OD xs i=Dn v/\Q v H
noncomputable def agP:R2:=λx y H Q=>∃z i c,x=.str z/\y=.int i/\z.length<=JN/\OD z.cps.toList i=Dn c/\Q (.str ⟨#[c]⟩) H
theorem alg:XR X (ahm X.K):=by
 intro value J aor s σ H x y v u Q I c b h hs;obtain⟨p,xs,i,z,rfl,rfl,d,e,q⟩:=h;cases c;obtain⟨t,rfl⟩:=b;obtain⟨its,r,U,k⟩:=I.list d;obtain⟨j,h1,h2,m,g,f⟩:=Bs e;obtain⟨w,a,O⟩:=r.get h2;have hl:=r.length;have l:=rK;have G:EP X aor σ Q w s:=⟨z,H,I,O,q⟩
 by_cases Y:0<=i
 have hj:=by
  rw[seqIndex_of Y f]at h1;exact Ma h1
 exact item_listR U.isList Y (by lia) (by rw[hj];simpa using a) G hs;have hj:(i+(its.toArray.size:Int)).toNat=j:=by
  rw[seqIndex_neg (by lia) g]at h1;simp_all
 exact subscriptTail_builtinR U.isList.typeIs slot_list_getitem.lookup
  (wpAny_getItem_list_neg U.isList (by lia) (by rw[Mp]<;>lia) (by lia) (by rw[hj];simpa using a) ⟨rfl,G⟩) hs
theorem ac9:XR X (agN X.K):=by
 intro value G aor s σ H x y v u Q I Y U h hs;obtain⟨p,xs,i,z,rfl,rfl,a,b,q⟩:=h;cases Y;obtain⟨t,rfl⟩:=U;obtain⟨its,r,O,d⟩:=I.tuple a;obtain⟨j,h1,h2,k,g,f⟩:=Bs b;obtain⟨w,c,J⟩:=r.get h2;have e:=rK;exact subscriptTail_builtinR O.typeIs slot_tuple_getitem.lookup
  (getItem_tuple O (by lia) (by lia) (by rw[Mp,<-r.length];exact h1) (by simpa using c) ⟨rfl,z,H,I,J,q⟩) hs
theorem acU:XR X agP:=by
 intro value G aor s σ H x y v u Q I O J h hs;obtain⟨z,i,c,rfl,rfl,d,U,q⟩:=h;obtain⟨t,rfl⟩:=O;obtain⟨b,rfl⟩:=J;obtain⟨j,h1,h2,f,a,Y⟩:=Bs U;have hl:z.cps.toList.length=z.length:=by simp[Str.length]
 rw[hl]at h1 a Y;have e:=rK;exact tail_any (typeIs_str s z t) slot_str_getitem.lookup (getItem_str (by
  rw[(decide_eq_false (by lia)),(decide_eq_false (by lia)),Bool.or_false]) (by rw[h1];simpa using h2) ⟨.str ⟨#[c]⟩,H,I.tok _,⟨_,rfl⟩,q⟩) hs
noncomputable def rIx (K:BW):R2:=λx y H Q=>ahm K x y H Q\/agN K x y H Q\/agP x y H Q
theorem adQ:XR X (rIx X.K):=alg.or (ac9.or acU)
theorem zao (its:List JI)(n j)(u):Obj.mapSeq (·.setIfInBounds j u) {cls:=.type "list",data:=.seq its.toArray n}={cls:=.type "list",data:=.seq (its.set j u).toArray n}:=by
 simp[Obj.mapSeq]
theorem Al.lst {aor}{σ:St}{H s}{p}{xs}(I:Al X aor σ H s)(h:H p=Dn (.lst xs)) :
  ∃(its:List JI) (n:Nat),CZ xs its/\s.heap.get? p=Dn {cls:=.type "list",data:=.seq its.toArray n}/\xs.length<=JN:=by
 obtain⟨z,its,n,r,e⟩:=I.hok p _ h;simp_all
theorem Al.lstUpd {aor:List (Addr×Obj)}{σ:St}{H:Hp}{s:Ab}{p:Addr}{xs ys:List V}{its G:List JI}{n J:Nat}{f:Obj->Obj}(I:Al X aor σ H s)(h:H p=Dn (.lst xs))
  (ho:s.heap.get? p=Dn {cls:=.type "list",data:=.seq its.toArray n}) (O:f {cls:=.type "list",data:=.seq its.toArray n}={cls:=.type "list",data:=.seq G.toArray J}) (r:CZ ys G) (Y:ys.length<=JN) (t:Nat) :
  Al X aor σ (Iz H p (.lst ys)) {s with heap:=s.heap.update p f,toks:=t}:=by
 have e:(s.heap.update p f).get? p=Dn {cls:=.type "list",data:=.seq G.toArray J}:=by
  rw[S7 f ho (by rw[O]<;>rfl),O]
 refine I.write (by rw[h];trivial) (.inl rfl) (λb u a q=>(Ru _ _<|LI a).trans q) ⟨_,e⟩ ?_;exact⟨Y,G,J,r,e⟩
noncomputable def abp:V->V->V->Hp->(Hp->Prop)->Prop:=λo i v H Q=>∃p xs k j,o=.ref p/\i=.int k/\H p=Dn (.lst xs)/\Ro xs.length k=Dn j/\Q (Iz H p (.lst (xs.set j v)))
theorem set_list:aeM X abp:=by
 intro aor s σ H o i v d e u Q I ro c b h;obtain⟨p,xs,k,j,rfl,rfl,J,hj,q⟩:=h;cases ro;obtain⟨t,rfl⟩:=c;obtain⟨its,n,r,ho,f⟩:=I.lst J;obtain⟨h1,h2,U,O⟩:=LR hj;have hl:=r.length;have g:=rK;have a:=
  I.lstUpd J ho (zao its n j u) (r.set b j) (by rwa[Ze]) s.toks
 by_cases Y:0<=k
 have G:=by
  rw[seqIndex_of Y O]at h1;exact Ma h1
 exact PySem.W.ki_setAt ho Y (by lia) (by rw[Mp,<-hl];exact O)<|G ▸ ⟨_,a,q⟩
 have G:(k+(its.toArray.size:Int)).toNat=j:=by
  rw[seqIndex_neg (by lia) U]at h1;simp_all
 exact PySem.W.ki_setBack ho (by lia) (by rw[Mp,<-hl];exact U) (by lia)<|G ▸ ⟨_,a,q⟩
theorem zO (lo hi)(n):(Yg lo hi Go n).1=((HT.sIx n 0 lo:Nat):Int)/\(Yg lo hi Go n).2.1=((HT.sIx n n hi:Nat):Int)/\(Yg lo hi Go n).2.2=1:=by
 refine⟨?_,?_,rfl⟩
 ·cases lo with
  | none=>simp[Yg,HT.sIx]
  | some i=>
   simp[Yg,HT.sIx];grind
 ·cases hi with
  | none=>simp[Yg,HT.sIx]
  | some i=>
   simp[Yg,HT.sIx];grind
theorem akU (its:List JI)(lo hi):slicePick its.toArray lo hi Go=((its.drop (HT.sIx its.length 0 lo)).take (HT.sIx its.length its.length hi-HT.sIx its.length 0 lo)).toArray:=by
 obtain⟨h1,h2,G⟩:=zO lo hi _;unfold slicePick;rw[h1,h2,G];simp only[sliceRange_one,pick_run]<;>rfl
noncomputable def ahX (K:BW):V->Option Int->Option Int->Hp->VK->Prop:=λx lo hi H Q=>∃a xs,x=.ref a/\Kh K H a xs/\∀p,H p=Go->Q (.ref p) (Iz H p (.lst (Xf xs lo hi)))
theorem zbT:Wj X (ahX X.K):=by
 intro aor s σ H x v d c lo hi sl Q I J hs U O h;obtain⟨a,xs,rfl,b,q⟩:=h;cases J;obtain⟨its,r,ht,Y⟩:=I.list b;have G:=r.length;refine⟨"list",_,slot_list_getitem.lookup,ht.isList.typeIs,?_⟩;refine wpAny_getItem_list_slice ht.isList hs U O .none (by simp) ?_ (by rw[Mp]<;>lia);rw[akU,<-G];refine⟨.ref _,_,I.laid (λb e q=>JV _ q) (JL _) ?_,rfl,q _<|I.hok.fresh<|JL _⟩;exact⟨Jz (qT xs lo hi) Y,_,0,(r.drop _).take _,Mf _ rfl⟩
noncomputable def Ow:V->Bool
 | .non=>true
 | .bl _=>true
 | .int _=>true
 | .str _=>true
 | _=>false
noncomputable def eqV:V->V->Bool
 | .non,.non=>true
 | .bl a,.bl b=>a==b
 | .bl a,.int b=>(if a then 1 else 0)==b
 | .int a,.bl b=>a==(if b then 1 else 0)
 | .int a,.int b=>a==b
 | .str a,.str b=>a==b
 | _,_=>false
theorem acE {A s}{y x}{u v}(O:RelV y u)(G:RelV x v)(Y:Ow y=true)(U:Ow x=true):YK A s u v (eqV y x):=by
 cases y with
 | non=>
  cases O;cases x with
  | non=>cases G;exact SeqAt.EqAt.same _
  | bl b=>cases G;exact SeqAt.EqAt.none_bool b
  | int b=>obtain⟨t,rfl⟩:=G;exact SeqAt.EqAt.none_int b t
  | str b=>obtain⟨t,rfl⟩:=G;exact SeqAt.EqAt.none_str b t
  | _=>exact absurd (show false=true from U) RT
 | bl a=>
  cases O;cases x with
  | non=>cases G;exact SeqAt.EqAt.bool_none a
  | bl b=>cases G;exact SeqAt.EqAt.bool_bool a b
  | int b=>obtain⟨t,rfl⟩:=G;exact SeqAt.EqAt.bool_int a b t
  | str b=>obtain⟨t,rfl⟩:=G;exact SeqAt.EqAt.bool_str a b t
  | _=>exact absurd (show false=true from U) RT
 | int a=>
  obtain⟨J,rfl⟩:=O;cases x with
  | non=>cases G;exact SeqAt.EqAt.int_none a J
  | bl b=>cases G;exact SeqAt.EqAt.int_bool a J b
  | int b=>obtain⟨t,rfl⟩:=G;exact SeqAt.EqAt.int_int a J b t
  | str b=>obtain⟨t,rfl⟩:=G;exact SeqAt.EqAt.int_str a J b t
  | _=>exact absurd (show false=true from U) RT
 | str a=>
  obtain⟨J,rfl⟩:=O;cases x with
  | non=>cases G;exact SeqAt.EqAt.str_none a J
  | bl b=>cases G;exact SeqAt.EqAt.str_bool a J b
  | int b=>obtain⟨t,rfl⟩:=G;exact SeqAt.EqAt.str_int a J b t
  | str b=>obtain⟨t,rfl⟩:=G;exact SeqAt.EqAt.str_str a J b t
  | _=>exact absurd (show false=true from U) RT
 | _=>exact absurd (show false=true from Y) RT
theorem yZ:jX X (.builtin "len") (λxs H Q=>∃p ys,xs=[.ref p]/\(Kh X.K H p ys\/Lq X.K H p ys)/\Q (.int ys.length) H):=by
 intro aor s σ H xs us Q I r h;obtain⟨p,ys,rfl,J,q⟩:=h;obtain⟨u,rfl,Y⟩:=vals1 r;cases Y;have b:=rK;rcases J with J|J
 obtain⟨its,O,U,a⟩:=I.list J;have G:=O.length;exact Calls.call_len_list U.isList (by simp<;>lia) ⟨.int _,H,I.tok _,⟨s.toks+1,by rw[Mp,G]⟩,q⟩;obtain⟨its,O,U,a⟩:=I.tuple J;have G:=O.length;exact len_tuple U (by simp<;>lia) ⟨.int _,H,I.tok _,⟨s.toks+1,by rw[Mp,G]⟩,q⟩
theorem aiI:jX X (.type "list") (λxs H Q=>∃p ys,xs=[.ref p]/\(Kh X.K H p ys\/Lq X.K H p ys)/\∀l,H l=Go->Q (.ref l) (Iz H l (.lst ys))):=by
 intro aor s σ H xs us Q I r h;obtain⟨p,ys,rfl,U,q⟩:=h;obtain⟨u,rfl,m⟩:=vals1 r;cases m;have Y:∀(its:List JI),CZ ys its->ys.length<=JN->∀(h':Heap) (c':Nat),(∀b o',s.heap.get? b=Dn o'->h'.get? b=Dn o') ->
   h'.get? s.heap.objs.size=Dn {cls:=.type "list",dict:=Go,data:=.seq _ c',slots:=#[]}->EP X aor σ Q _ {s with heap:=h'}:=λits G O h' c' J e=>
  ⟨.ref _,_,I.laid J (JL _) (show gD _ _ _ h' _ (.lst ys)from⟨O,its,c',G,e⟩),rfl,q _ (I.hok.fresh (JL _))⟩
 rcases U with U|U
 obtain⟨its,G,c,O⟩:=I.list U;have g:=G.length;obtain⟨o,ho,f,n,d⟩:=c.isList;exact call_list_seq p (.inl rfl) ho f d (λh' c' J e=>Y its G O h' c' J e) (by simp<;>lia);obtain⟨its,G,c,O⟩:=I.tuple U;have g:=G.length;obtain⟨o,ho,f,n,d⟩:=c;exact call_list_seq p (.inr rfl) ho f d (λh' c' J e=>Y its G O h' c' J e) (by simp<;>lia)
theorem xH:jX X (.type "tuple") (λxs H Q=>∃p ys,xs=[.ref p]/\((Kh X.K H p ys/\∀l,H l=Go->Q (.ref l) (Iz H l (.tup ys)))\/(Lq X.K H p ys/\Q (.ref p) H))):=by
 intro aor s σ H xs us Q I r h;obtain⟨p,ys,rfl,h⟩:=h;obtain⟨u,rfl,a⟩:=vals1 r;cases a;rcases h with⟨O,q⟩|⟨O,q⟩
 obtain⟨its,G,J,U⟩:=I.list O;have c:=G.length;refine call_tuple_list J.isList (λh' b=>?_) (by simp<;>lia);have Y:=I.kept (t':=s.toks) b;have d:=
  Y.laid (t':=s.toks) (λb o e=>JV _ e) (JL _) (show gD _ _ _ _ _ (.tup ys)from⟨U,its,G,Uh.new _ _⟩)
 exact⟨.ref _,_,d,rfl,q _<|Y.hok.fresh<|JL _⟩;obtain⟨its,G,J,U⟩:=I.tuple O;exact call_tuple_same J ⟨.ref p,H,I,rfl,q⟩
noncomputable def tyV (K:BW)(T:String)(x:V)(H:Hp):Prop:=match x with
 | .str _=>T = "str"
 | .int _=>T = "int"
 | .ref p=>(T = "list"/\∃xs,Kh K H p xs)\/(T = "tuple"/\∃o,K.lookup p=Dn o/\o.cls=.type "tuple"/\o.dict=Go) \/
   (T = "dict"/\((∃kvs,H p=Dn (.dK kvs))\/∃kvs,H p=Dn (.dT kvs)))\/(T = "set"/\∃S n,H p=Dn (.set S n))
 | _=>False
theorem ab8 {aor}{σ:St}{H s}{T x}{v}(I:Al X aor σ H s)(r:RelV x v)(ty:tyV X.K T x H):
  s.TypeIs v T/\∀a,v=.ref a->∃O,s.heap.get? a=Dn O/\O.dict=Go:=by
 cases x with
 | str z=>
  obtain⟨t,rfl⟩:=r;cases ty;exact⟨typeIs_str s z t,nofun⟩
 | int i=>
  obtain⟨t,rfl⟩:=r;cases ty;exact⟨typeIs_int s i t,nofun⟩
 | ref p=>
  cases r;rcases ty with⟨rfl,xs,Y⟩|⟨rfl,o,G,b,U⟩|⟨rfl,G⟩|⟨rfl,S,n,G⟩
  obtain⟨its,_,J,_⟩:=I.list Y;refine⟨J.isList.typeIs,λa e=>?_⟩;cases e;obtain⟨o,n,e,c,U,_⟩:=J
  simp_all
  refine⟨⟨o,I.kIn p o G,b⟩,λa e=>?_⟩;cases e;exact⟨o,I.kIn _ o G,U⟩;have z:∃o,s.heap.get? p=Dn o/\o.ExactDict:=by
   rcases G with⟨kvs,G⟩|⟨kvs,G⟩
   obtain⟨_,_,_,_,o,_,_,e,ex,_⟩:=I.hok p _ G
   simp_all
   obtain⟨_,_,_,_,o,_,_,e,ex,_⟩:=I.hok p _ G;simp_all
  obtain⟨o,e,ex⟩:=z;refine⟨⟨o,e,ex.1⟩,λa e2=>?_⟩;cases e2;exact⟨o,e,ex.2.1⟩;obtain⟨o,_,_,_,e,ex,_⟩:=I.hok p _ G;refine⟨⟨o,e,ex.1⟩,λa e2=>?_⟩;cases e2;exact⟨o,e,ex.2.1⟩
 | _=>exact Td ty
noncomputable def tBM (K:BW)(T:String)(r:V->List V->Hp->VK->Prop)(to:TE)(t:TA):TE:=fun σ H Q=>to σ H λx H1=>tyV K T x H1/\t σ H1 λxs H2=>r x xs H2 Q
variable {o e:Expr}{es:List Expr}{to:TE}{t:TA}{name:Str}{apos aot:Pos}{T id:String}{r:V->List V->Hp->VK->Prop}
theorem agp (pa:PlainAttrs T)(slot:Slot T name id)(hty:typeOf (.builtin id)=pure (.type "method_descriptor"))(hm:MtR X id r)(ho:PE X o to)(ha:PA X (e::es) t)
  (hbase:ZW o name X.env (eval o X.env)=eval o X.env:=by rfl)
  (hfew:((Mi aot (J9 (e::es) X.env)).all (λx=>!x.1)&&(backToKw aot (keywordEach [] X.env)).all (λx=>x.1.isSome)
   && decide ((e::es).length+([]:List W9).length+(if([]:List W9).isEmpty then 0 else 1)<30))=true:=by rfl)
  (hline:(apos.endLine==aot.line)=true:=by rfl) (hs:J9 (e::es) X.env=(false,eval e X.env)::J9 es X.env:=by rfl) (hplain:(Mi aot (J9 es X.env)).any (·.1)=false:=by rfl) :
  PE X (.Call (.Attribute o name apos) (e::es) [] aot) (tBM X.K T r to t):=by
 intro aor s σ H Q I h;refine wpAny_Call_method_late hbase hfew hline rfl<|JC (ho aor s σ H _ I h) λv s1 a=>?_;obtain⟨x,H1,I1,r1,ty,q1⟩:=a
 obtain⟨h1,h2⟩:=ab8 I1 r1 ty;refine⟨T,id,pa,slot,hty,h1,h2,?_⟩;have hA:=ha aot aor s1 σ H1 _ I1 q1;rw[hs]at hA|-
 refine Calls.callWith_builtin (by show(false||(Mi aot<|J9 es X.env).any (·.1))=false;rw[hplain]<;>rfl)<|Calls.evalArgs_plain ?_
 exact JC hA λus s2 b=>by obtain⟨vs,H2,I2,r2,q2⟩:=b;exact hm aor s2 σ H2 x vs v us Q I2 r1 r2 q2
end
noncomputable def MtM (X:Cx)(id:String)(r:V->List V->Hp->VK->Prop):Prop:=
 ∀(aor:List (Addr×Obj)) (s:Ab) (σ:St) (H:Hp) (x:V) (xs:List V) (v:JI) (us:List JI) (Q:VK),Al X aor σ H s->RelV x v->CZ xs us->r x xs H Q ->
  Bh (Bu X.prog X.w) X.A (call (.builtin id) (v::us)) (EP X aor σ Q) X.xe s
theorem CZ.one:∀{x}{us},CZ [x] us->∃u,us=[u]/\RelV x u
 | _,_,.cons r .nil=>⟨_,rfl,r⟩
section
variable {X:Cx}{aor:List (Addr×Obj)}{σ:St}{H:Hp}{s:Ab}{l b:Addr}{xs ys zs:List V}
theorem Al.lset {its G:List JI}{n}{f t'}(I:Al X aor σ H s)(c:H l=Dn (.lst xs))
  (e:s.heap.get? l=Dn {cls:=.type "list",data:=.seq its.toArray n}) (a:f its.toArray=G.toArray) (U:CZ ys G) (O:ys.length<=JN) :
  Al X aor σ (Iz H l (.lst ys)) {s with heap:=s.heap.update l (Obj.mapSeq f),toks:=t'}:=by
 have q:=PySem.IsL.update e f;rw[a]at q;refine I.write (c ▸ trivial) (.inl rfl) (λb' u b Y=>(Ru _ _<|LI b).trans Y) ⟨_,q⟩ ?_;exact⟨O,G,_,U,q⟩
theorem Al.lnew {its:List JI}{t':Nat}(I:Al X aor σ H s)(O:CZ ys its)(J:ys.length<=JN):
  Al X aor σ (Iz H s.heap.objs.size (.lst ys)) {s with heap:=s.heap.push {cls:=.type "list",data:=.seq its.toArray},toks:=t'}:=
 I.laid (λ_ _ q=>JV _ q) (JL _) ⟨J,its,0,O,Mf _ rfl⟩
theorem Al.fresh (I:Al X aor σ H s):H s.heap.objs.size=Go:=I.hok.fresh (JL _)
theorem Al.lstM (I:Al X aor σ H s)(G:H l=Dn (.lst xs)):xs.length<=JN/\∃(its:List JI) (n:Nat),CZ xs its/\xs.length=its.length/\s.heap.get? l=Dn {cls:=.type "list",data:=.seq its.toArray n}:=by
 obtain⟨z,its,n,r,e⟩:=I.hok l _ G;exact⟨z,its,n,r,r.length,e⟩
theorem akd {n}(h:n<=JN):Builtin.List.listTooLong n=false:=decide_eq_false (by lia)
end
section
variable {X:Cx}
noncomputable def NP:V->List V->Hp->VK->Prop:=λx G H Q=>∃l xs y,x=.ref l/\G=[y]/\H l=Dn (.lst xs)/\xs.length<JN/\Q .non (Iz H l (.lst (xs++[y])))
theorem zH:MtM X "list.append" NP:=by
 intro aor s σ H x Y v us Q I J O h;obtain⟨l,xs,y,rfl,rfl,G,a,q⟩:=h;cases J;obtain⟨u,rfl,U⟩:=O.one;obtain⟨z,its,n,r,hl,e⟩:=I.lstM G;refine call_meets F.slot_list_append ⟨_,e,rfl⟩ F.entry_list_append (F.args_list_append_2 _ _) (PySem.list_append l _ n u (by rw[Mp];lia)) ⟨e,?_⟩;refine⟨.non,_,I.lset G e (by simp) (r.append<|.cons U .nil) ?_,rfl,q⟩;grind
noncomputable def QV:V->List V->Hp->VK->Prop:=λx G H Q=>∃l b xs zs,x=.ref l/\G=[.ref b]/\H l=Dn (.lst xs)/\H b=Dn (.lst zs)/\xs.length+zs.length<=JN/\Q .non (Iz H l (.lst (xs++zs)))
theorem ajg:MtM X "list.extend" QV:=by
 intro aor s σ H x j v us Q I Y a h;obtain⟨l,b,xs,zs,rfl,rfl,U,g,k,q⟩:=h;cases Y;obtain⟨u,rfl,c⟩:=a.one;cases c;obtain⟨z,its,n,r,hl,e⟩:=I.lstM U;obtain⟨i,G,n2,d,f,e2⟩:=I.lstM g;have O:its.toArray.size+G.toArray.size<=JN:=by rw[Mp,Mp];lia
 have J:¬(!its.toArray.isEmpty&&Builtin.List.listTooLong (its.toArray.size+G.toArray.size))=true:=by
  rw[akd O,Zz];exact RT
 refine call_meets F.slot_list_extend ⟨_,e,rfl⟩ F.entry_list_extend (F.args_list_extend_2 _ _)
  (AutoSeq1.list_extend_list_list_0 l _ n b _ n2 J (by lia) (by lia)) ⟨e,e2,?_⟩
 refine⟨.non,_,I.lset U e (by simp) (r.append d) ?_,rfl,q⟩;simp_all
noncomputable def aib:R2:=λx y H Q=>∃l b xs zs,x=.ref l/\y=.ref b/\H l=Dn (.lst xs)/\H b=Dn (.lst zs)/\xs.length+zs.length<=JN/\∀p,H p=Go->Q (.ref p) (Iz H p (.lst (xs++zs)))
theorem acS:Mv X (Qy .Add) aib:=by
 intro aor s σ H x y v u Q I O J h;obtain⟨l,b,xs,zs,rfl,rfl,a,c,g,q⟩:=h;cases O;cases J;obtain⟨z,its,n,r,hl,e⟩:=I.lstM a;obtain⟨f,G,n2,U,Y,e2⟩:=I.lstM c;refine PySem.P.add_list e e2 ?_ (by rw[Mp,Mp];lia);have d:its.toArray++G.toArray=(its++G).toArray:=by simp
 rw[d];exact⟨.ref _,_,I.lnew (r.append U) (by rw[Le];omega),rfl,q _ I.fresh⟩
end
section
variable {prog:IW}{w:IV}{A:Ig}{E:JI->Ab->Prop}{s:Ab}
end
section
variable {X:Cx}
end
end L2
namespace Att
open PySem PySem.W PySem.Calls PyProof.Rows
theorem amq {P h}:∀ns G,WellAll P h G (ns.map WData.int)->IntsAre G ns:=by
 intro ns;induction ns with
 | nil=>
  intro G w;cases w;exact .nil
 | cons n ns J=>
  intro G w;cases w with
  | cons a b=>
   cases a;exact .cons _ _<|J _ b
theorem akq {l:OpenLaw}{n:Nat}(f:l.most=Dn n){P:Params}{h:Heap}{args:List WData}{G:List JI}
  (J:l.row.toRowW.claim.pre args=true) (U:WellAll P h G args) :
  ∃a c ns,G=[Value.ref a]/\args=[WData.list (ns.map WData.int)]/\h.get? a=Dn {cls:=.type "list",data:=.seq c.toArray}/\IntsAre c ns/\ns.length<=n:=by
 obtain⟨d,r,rfl,h1,h2⟩:=hasAllW_cons ((pre_splitW J).1);obtain rfl:=hasAllW_nil h2;obtain⟨xs,rfl,i⟩:=hasW_list h1;obtain⟨ns,rfl⟩:=items_int i;have b:=by
  have Y:=by
   have Y:=(holds_andW ((pre_splitW J).2)).1
   rwa[f]at Y
  have g:=condW_of Y (w_not (w_lt w_lit (w_len_list (w_arg rfl))));first
   | (simp at g;lia)
 cases U with
 | cons w1 e=>
  cases e;cases w1 with
  | list ho O=>exact⟨_,_,ns,rfl,rfl,ho,amq ns _ O,b⟩
theorem zbb (l:OpenLaw)(args):l.row.toRowW.claim.post args (.bool true) args=true:=
 postW_of
  (show WShape.has [] _ .bool=true by first|rfl|decide|simp)
  (w_eq_bool (w_res rfl) w_lit) rfl
theorem BL {l:OpenLaw}{n q}{loose}{XP YP d}
  (C:l.most=Dn n) (s:d.params.defaults=[])
  (i:∀w  (O J) (mg mb) (h) (o) (k j b) (a) (c) (ns),
   Ground q loose [] XP w O mg mb J.heap->YP w J.heap ->
   J.heap.get? h=Dn o->o.data=.func (docDef d.name d.params d.body d.scope k j b)->J.heap.CodeRec j d.name->mg d.name=Dn (.ref h) ->
   J.heap.get? a=Dn {cls:=.type "list",data:=.seq c.toArray}->IntsAre c ns->ns.length<=n->J.gens=#[] ->
   TY (Bu l.prog w) callerA (.call (.ref h) ⟨[.ref a],[]⟩) (λr s'=>r=.ok (.ret (.bool true))/\OldK J.heap s'.heap/\s'.os=J.os/\W8 s'.gens) J) :
  WalkO q loose XP YP l.row.toRowW d [] (λf c=>PySem.call f c):=by
 intro w O J mg mb G Y h o k j b L kV ho H t y p F z v as e x A m E;obtain rfl:L=.none:=Dflts.none y s;obtain rfl:kV=.none:=Dflts.noKw y;obtain⟨a,c,ns,rfl,rfl,g,U,u⟩:=akq C e m;refine enter_call<|Xl (i w O J mg mb h o k j b a c ns G Y ho (fd_plain H) t p g U u F) λr s' B=>?_
 obtain⟨rfl,h2,K,I⟩:=B;exact⟨.inl ⟨.bool true,.bool true,[],rfl,λ_=>rfl,.bool true,zbb l _,λ_=>⟨List.Pairwise.nil,λ_ D=>(nomatch D)⟩⟩,h2,K,I⟩
section
variable {prog:IW}{w:IV}{A:Ig}{E:JI->Ab->Prop}{s:Ab}{K:Frag}
end
end Att
variable {XP:(Str->Option JI)->Heap->Prop}{loose:List Str}{YP:IV->Heap->Prop}
namespace L2
open PySem PySem.Spec PyProof.Rows
theorem yt:∀{G}{ns},IntsAre G ns->CZ (ns.map V.int) G
 | _,_,.nil=>.nil
 | _,_,.cons n t h=>.cons ⟨t,rfl⟩ (yt h)
noncomputable def Only (H:Hp):Prop:=∀b,H b=Go\/∃o xs,H b=Dn (.frz o (.lst xs))
variable {ns:List Int}
theorem ajX {P w K}{mg mb CX k}{D a fd x sp s₁}{c}
  (N:K.In s₁.heap) (i:s₁.heap.Ns KC mg) (J:s₁.heap.Ns builtinsNs mb) (B:∀x:Str,x ≠ "__name__"->mb x=X3 x) (j:s₁.heap.NoLimit) (W:s₁.gens=#[])
  (ha:s₁.heap.get? a=Dn {cls:=.type "list",data:=.seq c.toArray}) (hi:IntsAre c ns) (hl:ns.length<=JN) (T:gQ k callerA)
  (F:∀base,K.In base->base.Ns KC mg->jO P w K mg base CX k D fd [x] sp) (Y:∀s u,BindsTo s fd ⟨[u],[]⟩ [(x,u)])
  (y:∀H,Only H->Kh K H a (ns.map V.int)->sp [.ref a] H (λv _=>v=.bl true) λ_ _ _=>False)
  (C:∀H e s',CX Go [] H s₁ (λ_ _ _=>False) e s'->False) :
  TY (Bu P w) callerA (.call (.ref D) ⟨[.ref a],[]⟩) (λr s'=>r=.ok (.ret (.bool true))/\OldK s₁.heap s'.heap/\s'.os=s₁.os/\W8 s'.gens) s₁:=by
 have I:=yt hi;have U:∀H:Hp,Only H->Kh K H a (ns.map V.int)->MP P w H s₁.heap->(∀b,H b≠Go->b=a)->(H a≠Go->K.lookup a=Go) ->
   TY (Bu P w) callerA (.call (.ref D) ⟨[.ref a],[]⟩) (λr s'=>r=.ok (.ret (.bool true))/\OldK s₁.heap s'.heap/\s'.os=s₁.os/\W8 s'.gens) s₁:=by
  intro H L X g M Z;have G:∀{b:Addr}{o:Obj},s₁.heap.get? b=Dn o->H b=Go->(aaJ _ H).get? b=Dn o:=λe n=>ajB e n
  have t:∀{b:Addr}{o:Obj}{es:Array DictEntry}{ep:Nat},s₁.heap.get? b=Dn o->o.data=.dict es ep->H b=Go:=λ{b o es ep} e d=>by
   cases q:H b with
   | none=>rfl
   | some u=>
    cases M b (by rw[q];simp)
    rw[ha]at e;cases e;cases d
  have O:∀{b:Addr}{m:Str->Option JI},s₁.heap.Ns b m->(aaJ _ H).Ns b m:=λ{b m} ⟨o,es,ep,e,d,r⟩=>⟨o,es,ep,G e (t e d),d,r⟩
  have l:=λb o e=>G (N b o e) (by
   cases q:H b with
   | none=>rfl
   | some u=>
    cases M b (by rw[q];simp)
    rw[Z (by rw[q];simp)]at e;cases e)
  refine Xl ((F _ l<|O i).run callerA [] s₁ H ⟨[.ref a],[]⟩ [.ref a] [.ref a] _ _ T ⟨rfl,⟨l,O i,⟨mb,O J,B⟩,let⟨mc,h1,h2⟩:=j;⟨mc,O h1,h2⟩⟩,λb o e=>aaz e,Nat.le_of_eq<|ajb _ _,trivial,λb J=>absurd (show b∈([]:List Addr)from J)<|by simp,g,.of_eq W,λv e=>(nomatch e)⟩ (Y s₁ _) (.cons rfl .nil) (y H L X)) λr s' h=>?_;cases r with
  | error e=>exact(C H e s' h).elim
  | ok fl=>
   cases fl with
   | next|brk|cont=>exact Td h
   | ret u=>
    obtain⟨v,H',os,p,E,f,R,q⟩:=h;cases q;obtain rfl:u=Value.bool true:=R;refine⟨rfl,OldK.of_keep λb o e=>?_,os,p⟩;cases q:H b with
    | none=>exact E.keep b o e q (by intro z;exact absurd (show b∈([]:List Addr)from z) (by simp)) (by simp)
    | some u=>
     rcases L b with z|⟨S,xs,z⟩
     rw[q]at z;cases z;obtain⟨e1,_⟩:=g b _ z;obtain⟨e2,_⟩:=f b _ (E.frzs b S _ z);rw[e]at e1;cases e1;exact e2
 cases A:K.lookup a with
 | some o=>
  have e:=N a o A;rw[ha]at e;cases e;refine U _ (λ_=>.inl rfl) (.inr ⟨_,c.toArray,_,A,rfl,rfl,rfl,by rw[Mp,hi.length];exact hl,by simpa using I⟩) (λb u z=>by have Q:=z;cases Q) (λb z=>absurd rfl z) λz=>absurd rfl z
 | none=>
  refine U (λb=>if b=a then Dn _ else Go) (λb=>?_) (.inl<|.inr ⟨{cls:=.type "list",data:=.seq c.toArray},if_pos rfl⟩) (λb u z=>?_) (λb z=>?_) λ_=>A;by_cases J:b=a
  exact .inr ⟨_,_,if_pos J⟩;exact .inl<|if_neg J
  by_cases J:b=a
  cases(if_pos J).symm.trans z
  subst J;exact⟨ha,by rwa[Ik],c,_,I,ha⟩;cases(if_neg J).symm.trans z
  by_cases J:b=a
  exact J;exact absurd (if_neg J) z
theorem Qu {l:PySem.W.OpenLaw}{n k q}{d}{K:Params->BW}{CX:IV->Wt}{sp:IV->Sp}{x}
  (A:l.most=Dn n) (i:n<=JN) (m:d.params.defaults=[]) (z:gQ k callerA)
  (E:∀w  (h),YP w h->(K w.params).In h)
  (F:∀w  (mg) (c) (h),(K w.params).In h->h.Ns KC mg->mg d.name=Dn (.ref c) ->
   ∃fd,(∀s u,BindsTo s fd ⟨[u],[]⟩ [(x,u)]) /\
    ∀base,(K w.params).In base->base.Ns KC mg->jO l.prog w (K w.params) mg base (CX w) k c fd [x] (sp w))
  (g:∀w H  (a) (ns:List Int),ns.length<=n->Only H->Kh (K w.params) H a (ns.map V.int)->sp w [.ref a] H (λv _=>v=.bl true) λ_ _ _=>False)
  (p:∀w H s e  (s'),CX w Go [] H s (λ_ _ _=>False) e s'->False) :
  PySem.W.WalkO q loose XP YP l.row.toRowW d [] (λf r=>PySem.call f r):=by
 refine Att.BL A m λw t O mg mb c o P R N a r ns G Y ho Q C j U J b B=>?_;have y:=E w _ Y;obtain⟨fd,D,M⟩:=F w mg c _ y G.T.g j;exact ajX y G.T.g G.T.b G.T.builtins G.T.nolimit B U J (Jz b i) z M D (λH L I=>g w H a ns b L I) λH e s'=>p w H O e s'
end L2
namespace L2
open PySem PySem.Spec PyProof.Rows
noncomputable def lK (s:Stmt):Arguments:=match s with
 | .FunctionDef _ a _ _ _ _ _ _ _ _=>a
 | _=>{posonlyargs:=[],args:=[],vararg:=Go,kwonlyargs:=[],kw_defaults:=[],kwarg:=Go,defaults:=[]}
noncomputable def dJ (s:Stmt):List Stmt:=match s with
 | .FunctionDef _ _ b _ _ _ _ _ _ _=>b
 | _=>[]
noncomputable def aX (s:Stmt):Scope:=match s with
 | .FunctionDef _ _ _ _ _ _ sc _ _ _=>sc
 | _=>{kind:=.function,names:=[],isGenerator:=false,isCoroutine:=false}
noncomputable abbrev Q8:Wt:=λ_ _ _ _ _ _ _=>False
noncomputable abbrev E0:XK:=λ_ _ _=>False
theorem YF {X:Cx}:Passes Q8 X E0:=λ_ _ _ _ _ _ _ h=>h.elim
structure W2 (K:BW) (x qual:Str) (st:Stmt) (f:Addr) (fd:Nv):Prop where
 ex:∃(oc:JI) (od:Option Addr) (kV doc pm:JI) (an:Option Addr) (cdv ct:JI) (osl:Array (Option JI)),
  fd=Xi x qual (lK st) (dJ st) (aX st) .none kV doc pm an cdv ct/\K.lookup f=Dn ⟨oc,od,.func fd,osl⟩/\Z6 K cdv qual=true
 kp:Ry K (.ref f)=true
section
variable {P:IW}{w:IV}{K:BW}{mg:Str->Option JI}{base:Heap}
theorem W2.ok {x qual st f fd}{N ps k sp}(F:W2 K x qual st f fd)(S:gM N ps (aX st))(U:∀J H Q E,sp J H Q E->J.length=ps.length)
  (O:∀G A  (outer) (s) (H) (J) (Q) (E),gQ k (A.deeper (T4 qual (aX st) s.heap.objs.size f G))->sp J H Q E ->
   ∃t,RB (J5 Q8 P w K mg base N qual (aX st) f G A outer s H E).nox (dJ st) t/\t {nx:=λ_ H'=>Q .non H',rt:=Q} (start N J) H):jO P w K mg base Q8 (k+1) f fd ps sp:=by
 obtain⟨i,od,kV,e,g,l,G,j,b,rfl,c,a⟩:=F.ex;refine aa3 c a S U λA outer s H J Q E d Y=>?_;obtain⟨t,h,q⟩:=O G A outer s H J Q E d Y;exact⟨t,h.nox,q⟩
theorem W2.binds {x qual st f fd}{ps}(F:W2 K x qual st f fd)
  (h:∀kV G O  (U) (J ct) (us),us.length=ps.length->bindArgs (Xi x qual (lK st) (dJ st) (aX st) .none kV G O U J ct) ⟨us,[]⟩=pure (ps.zip us)):Binds K fd ps []:=by
 obtain⟨b,od,kV,G,O,U,J,ct,Y,rfl,c,a⟩:=F.ex;exact .all<|h kV G O U J ct
theorem Hi {x qual:Str}{st:Stmt}{f:Addr}{a:JI}{od Y:Option Addr}{O:Array (Option JI)}{kV J U G ct:JI}(l:K.lookup f=Dn ⟨a,od,.func (Xi x qual (lK st) (dJ st) (aX st) .none kV J U Y G ct),O⟩)
  (c:Z6 K G qual=true) (k:Ry K (.ref f)=true):W2 K x qual st f (Xi x qual (lK st) (dJ st) (aX st) .none kV J U Y G ct):=⟨⟨a,od,kV,J,U,Y,G,ct,O,rfl,l,c⟩,k⟩
end
section
variable {X:Cx}
theorem pv (i){x}{pos}(hN:X.N[i]?=Dn x:=by rfl)(hv:Vis X.env.scope x:=by first|exact Or.inl rfl|exact Or.inr (Or.inl rfl)|exact Or.inr (Or.inr rfl))(hd:(x==("__debug__" : Str))=false:=by decide)
  (hcd:(x==("__classdict__" : Str))=false:=by decide):PE X (.Name x pos) (ad0 i):=acA hN hv hd hcd
end
noncomputable def Xu (env:Env):List (Str×Qh)->List (Str×Addr)->List (Str×Addr)
 | [],cs=>cs
 | (n,k)::r,cs=>Xu env r (if(k==NameKind.free)=true then(n,(env.cells.lookup n).getD 0)::cs else cs)
noncomputable def Vj (scope:Scope)(env:Env):List (Str×Addr):=Xu env scope.names []
theorem xT {env}{p}:∀l  (G),p∈Xu env l G->p∈G\/((p.1,NameKind.free)∈l/\p.2=(env.cells.lookup p.1).getD 0)
 | [],G,h=>.inl h
 | (n,k)::r,G,h=>by
  rcases xT r _ h with h|⟨h1,h2⟩
  grind
  simp_all
theorem Gp {env x}:∀l  (G),((x,NameKind.free)∈l\/∃c,(x,c)∈G)->∃c,(x,c)∈Xu env l G
 | [],G,h=>by
  rcases h with h|h
  simp_all
  exact h
 | (n,k)::r,G,h=>by
  refine Gp r _ ?_;grind
variable {c:Addr}
theorem iJ {x}{c}:∀{l:List (Str×Addr)},(x,c)∈l->∃c',l.lookup x=Dn c'
 | (n,d)::r,h=>by
  by_cases e:x=n
  simp_all
  rcases ML.mp h with q|q
  injection q with G _
  simp_all
  obtain⟨c',h'⟩:=iJ q;refine⟨c',?_⟩
  rwa[Xv,(beq_eq_false_iff_ne.mpr e)]
theorem Qc {scope:Scope}{env:Env}(h:∀y∈scope.names,y.2=NameKind.free->∃c,env.cells.lookup y.1=Dn c):closureFor scope env=pure (Vj scope env):=by
 unfold closureFor Vj;have U:∀(l:List _) (G:List _),(∀y∈l,y.2=NameKind.free->∃c,env.cells.lookup y.1=Dn c) ->
   (forIn l G (λ(x:Str×Qh) (G:List _)=>(if(x.2==NameKind.free)=true then cellOf env x.1 >>= λc=>pure (ForInStep.yield ((x.1,c)::G))else pure (ForInStep.yield G):Sem _)))=pure (Xu env l G):=by
  intro l;induction l with
  | nil=>intro G _;rfl
  | cons x r Y=>
   intro G hl;obtain⟨n,k⟩:=x;rw[Zc];have a:=λy b=>hl y (RN _ b)
   by_cases J:(k==NameKind.free)=true
   obtain⟨c,d⟩:=hl _ T9 (by simpa using J);have O:=d;have e1:cellOf env n=pure c:=by unfold cellOf;rw[O]
   simp only[J,if_true,e1,pure_bind];rw[Y _ a];simp[Xu,J,O];simp only[J,if_false,pure_bind,Bool.false_eq_true];rw[Y _ a];simp[Xu,J]
 simpa using(U _ [] h)
theorem jB {y}{c}:∀{names n}{acc},(y,c)∈Nu n names acc↔(y,c)∈acc\/(y,c)∈Nu n names []
 | [],n,acc=>by simp[Nu]
 | (name,G)::r,n,acc=>by
  unfold Nu;split
  rw[jB,jB (acc:=[(name,n)])];grind
  exact jB
theorem CT {y}{c}:∀{names n},(y,c)∈Nu n names []->(y,NameKind.cell)∈names
 | (name,G)::r,n,h=>by
  unfold Nu at h;split at h
  rename_i J;rcases jB.mp h with q|q
  simp_all
  exact RN _<|CT q
  exact RN _<|CT h
theorem MK {y}:∀{names n},(y,NameKind.cell)∈names->∃c,(y,c)∈Nu n names []
 | (name,G)::r,n,h=>by
  unfold Nu;rcases ML.mp h with q|q
  cases q;exact⟨n,jB.mpr<|.inl T9⟩;split
  obtain⟨c,J⟩:=MK q;exact⟨c,jB.mpr<|.inr J⟩;exact MK q
variable {names:List (Str×Qh)}
theorem adE {h y}(e:(y,c)∈Nu h.objs.size names []):(pushCells h names).IsCell c Go/\h.objs.size<=c:=
 (cellsFrom_ok names h _ [] ⟨λ_ _ z=>by simp at z,List.Pairwise.nil⟩ (JL _)).empty y c e
theorem zbL {n:Nat}{y z:Str}(e:(y,c)∈Nu n names [])(e':(z,c)∈Nu n names []):y=z:=by
 have G:∀(k:Nat),∃h:Heap,h.objs.size=k:=λk=>by
  induction k with
  | zero=>exact⟨{(default:Heap)with objs:=#[]},rfl⟩
  | succ k U=>
   obtain⟨h,e⟩:=U;exact⟨h.push {cls:=.type "cell",data:=.cell Go},by rw[Uk,e]⟩
 obtain⟨h,rfl⟩:=G n;exact name_of_addr (cellsFrom_ok names h _ [] ⟨λ_ _ z=>by simp at z,List.Pairwise.nil⟩<|JL _).apart e e'
variable {closure:List (Str×Addr)}
theorem zbm {M A}{E s}{scope}{globals qual}{func code J}{builtins}{Q}
  (Y:Q {scope:=scope,locals:=s.heap.objs.size,globals:=globals,cells:=Nu (s.heap.objs.size+1) scope.names closure,qual:=qual,func:=func,code:=J.code,frame:=J.frame,builtins:=J.builtins} {s with heap:=pushCells (s.heap.push {cls:=.type "dict",data:=.dict #[]}) scope.names}) :
  Bh M A (newFunctionEnv scope globals closure [] qual func code (Dn J) builtins) Q E s:=by
 simp only[newFunctionEnv];refine Aj<|wpAny_alloc ?_
 refine Aj<|wpAny_layCells _ (λname G cells=>by cases U:G==NameKind.cell<;>simp) _ _ _ _ ?_
 exact Uk .. ▸ Aj (HI<|HI Y)
noncomputable def blk (X:Cx)(scope:Scope)(O:List Str)(C:Addr)(s:Ab)(H:Hp)(ex:List Addr):Cx where
 prog:=X.prog
 w:=X.w
 K:=X.K
 mg:=X.mg
 base:=X.base
 A:=X.A
 N:=O
 s₀:=s
 H₀:=H
 env:=compEnvC scope (Nu (C+1) scope.names (Vj scope X.env)) C X.env
 outer:=X.stack
 stack:=X.stack
 ex:=ex
 fn:=λy=>decide (scope.names.lookup y=Dn .cell)
 calm:=X.calm
 pn:=[]
 xe:=λ_ _=>False
structure jy (X:Cx) (scope:Scope) (x:List Str) (ix:List Nat):Prop where
 kind:scope.kind=.function
 own:∀y∈x,scope.names.lookup y=Dn .local\/scope.names.lookup y=Dn .cell
 names:∀y∈scope.names,scope.names.lookup y.1=Dn y.2
 free:∀y∈scope.names,y.2=.free->X.env.scope.names.lookup y.1=Dn .cell\/X.env.scope.names.lookup y.1=Dn .free
 ixs:∀i∈ix,scope.names.lookup (X.N.getD i "")=Dn .free
 nd:(x++ix.map λi=>X.N.getD i "").Nodup
noncomputable def Ie:List Str->Bool
 | []=>true
 | x::r=>!(r.contains x)&&Ie r
noncomputable def ahr (sc:Scope)(N:List Str)(scope:Scope)(x:List Str)(ix:List Nat):Bool:=
 decide (scope.kind=.function)&&x.all (λy=>decide (scope.names.lookup y=Dn .local)||decide (scope.names.lookup y=Dn .cell)) &&
 scope.names.all (λy=>decide (scope.names.lookup y.1=Dn y.2)) &&
 scope.names.all (λy=>!decide (y.2=.free)||decide (sc.names.lookup y.1=Dn .cell)||decide (sc.names.lookup y.1=Dn .free)) &&
 ix.all (λi=>decide (scope.names.lookup (N.getD i "")=Dn .free))&&Ie (x++ix.map λi=>N.getD i "")
theorem zx:∀{l},Ie l=true->l.Nodup
 | [],_=>List.nodup_nil
 | x::r,h=>by
  unfold Ie at h;rw[Uj]at h;refine WT.mpr ⟨λhm=>?_,zx h.2⟩;simp_all
variable {ix:List Nat}
theorem cB {X}{scope x}(h:ahr X.env.scope X.N scope x ix=true):jy X scope x ix:=by
 unfold ahr at h;simp only[Uj,XF,decide_eq_true_eq,Bool.or_eq_true]at h;obtain⟨⟨⟨⟨⟨h1,Y⟩,U⟩,b⟩,O⟩,J⟩:=h;exact⟨h1,λy G=>Y y G,λy G=>U y G,λy G a=>(by grind),λi hi=>O i hi,zx J⟩
noncomputable def Nr (ix:List Nat)(σ:St):St:=ix.map λi=>(σ[i]?).getD Go
noncomputable abbrev jG (X:Cx)(x:List Str)(ix:List Nat):List Str:=x++ix.map λi=>X.N.getD i ""
theorem gJ {scope:Scope}{env:Env}{x:Str}:∀{names:List (Str×Qh)}{k:Qh},
  (names.map λ(p:Str×Qh)=>if(p.2==NameKind.free&&env.scope.kind==.function&&env.kindOf p.1==Dn .cell)=true then(p.1,NameKind.cell)else(p.1,p.2)).lookup x=Dn k ->
  names.lookup x=Dn k\/(k=.cell/\names.lookup x=Dn .free)
 | (n,Y)::r,k,h=>by
  rw[Od]at h;cases G:x==n with
  | true=>
   grind
  | false=>
   have h':(r.map λ(p:Str×Qh)=>if(p.2==NameKind.free&&env.scope.kind==.function&&env.kindOf p.1==Dn .cell)=true then(p.1,NameKind.cell)else(p.1,p.2)).lookup x=Dn k:=by
    by_cases J:(Y==NameKind.free&&env.scope.kind==.function&&env.kindOf n==Dn .cell)=true
    rw[if_pos J]at h;simpa only[Xv,G]using h;rw[if_neg J]at h;simpa only[Xv,G]using h
   rcases gJ (scope:=scope) h' with q|⟨U,O⟩
   grind
   exact .inr ⟨U,by simpa[Xv,G]using O⟩
theorem pX {env:Env}{x}:∀{names:List (Str×Qh)},names.lookup x=Dn .free ->
  (names.map λ(p)=>if(p.2==NameKind.free&&env.scope.kind==.function&&env.kindOf p.1==Dn .cell)=true then(p.1,NameKind.cell)else(p.1,p.2)).lookup x=Dn .cell \/
  (names.map λ(p)=>if(p.2==NameKind.free&&env.scope.kind==.function&&env.kindOf p.1==Dn .cell)=true then(p.1,NameKind.cell)else(p.1,p.2)).lookup x=Dn .free
 | (n,J)::r,h=>by
  rw[Od];cases G:x==n with
  | true=>
   grind
  | false=>
   have O:=pX (env:=env) (by simpa[Xv,G]using h);grind
theorem pI {env:Env}{x}:∀{names:List (Str×Qh)},names.lookup x=Dn .cell ->
  (names.map λ(p)=>if(p.2==NameKind.free&&env.scope.kind==.function&&env.kindOf p.1==Dn .cell)=true then(p.1,NameKind.cell)else(p.1,p.2)).lookup x=Dn .cell
 | (n,J)::r,h=>by
  rw[Od];cases G:x==n with
  | true=>
   simp_all
  | false=>
   have O:=pI (env:=env) (show r.lookup x=Dn .cell by simpa[Xv,G]using h);grind
section
variable {X:Cx}{aor:List (Addr×Obj)}{σ:St}{H:Hp}{s:Ab}{scope:Scope}{x:List Str}{C:Addr}{fp:List Addr}
theorem Ph (B:jy X scope x ix){y}(G:y∈x):Loc (relabel scope X.env) y/\(decide (scope.names.lookup y=Dn .cell)=true\/(relabel scope X.env).names.lookup y=Dn .local):=by
 rcases B.own y G with q|q
 have:=lookup_relabel_local (env:=X.env) q
 exact⟨.inl this,.inr this⟩;exact⟨.inr<|pI q,.inl<|decide_eq_true q⟩
theorem wW (I:Al X aor σ H s)(B:jy X scope x ix):∀y∈scope.names,y.2=NameKind.free->∃c,X.env.cells.lookup y.1=Dn c:=λy G J=>I.ok.has _ (B.free y G J)
theorem ac7 (I:Al X aor σ H s)(B:jy X scope x ix){y}(h:(y,c)∈Vj scope X.env):X.env.cells.lookup y=Dn c:=by
 rcases xT _ [] h with q|⟨G,J⟩
 simp_all
 obtain⟨c',e⟩:=wW I B _ G rfl;simp_all
theorem pU (I:Al X aor σ H s)(B:jy X scope x ix){y}(h:(Nu (C+1) scope.names (Vj scope X.env)).lookup y=Dn c):X.env.cells.lookup y=Dn c\/(y,c)∈Nu (C+1) scope.names []:=
 (jB.mp (X5 h)).imp_left (ac7 I B)
theorem Kc {n y}(e:(y,c)∈Nu n names []):n<=c:=by
 have G:∀(names:List _) (n:Nat),(y,c)∈Nu n names []->n<=c:=by
  intro names;induction names with
  | nil=>intro n h;simp[Nu]at h
  | cons a r J=>
   intro n h;unfold Nu at h;split at h
   rcases jB.mp h with q|q
   simp_all
   grind
   exact J n h
 exact G names n e
theorem aak (B:jy X scope x ix){y}(J:scope.names.lookup y=Dn .free)(h:(y,c)∈Nu (C+1) scope.names []):False:=by
 have:=B.names _ (CT h)
 simp_all
theorem GF {y}(h:scope.names.lookup y=Dn .free\/scope.names.lookup y=Dn .cell):∃c,(Nu (C+1) scope.names (Vj scope X.env)).lookup y=Dn c:=by
 rcases h with h|h
 obtain⟨c,G⟩:=Gp _ [] (.inl (X5 h));exact iJ<|jB.mpr<|.inl G
 obtain⟨c,G⟩:=MK (X5 h);exact iJ<|jB.mpr<|.inr G
theorem abt (I:Al X aor σ H s)(B:jy X scope x ix)(Y:s.heap.objs.size<=C)(U:∀b∈fp,JR X aor H b)(ho:∀b∈fp,∃o,s.heap.get? b=Dn o):
  (blk X scope (jG X x ix) C s H fp).Ok where
 mod:=I.ok.mod
 kind:=B.kind
 glob:=I.ok.glob
 blt:=I.ok.blt
 above:=Y
 inj:=λy z c h1 h2=>by
  have D:∀{y z:Str},X.env.cells.lookup y=Dn c->(z,c)∈Nu _ scope.names []->False:=λ{y z} e q=>by
   obtain⟨v,w⟩:=I.cell y c e;exact absurd (Ke w.lt<|Jz (Jz Y<|Xk C)<|Kc q)<|Rg _
  rcases pU I B h1 with O|O
  rcases pU I B h2 with J|J
  exact I.ok.inj y z c O J;grind
  rcases pU I B h2 with J|J
  grind
  exact zbL O J
 has:=λy t=>by
  rcases t with q|q
  rcases gJ (scope:=scope) q with r|⟨_,r⟩
  exact GF<|.inr r
  exact GF<|.inl r
  rcases gJ (scope:=scope) q with r|⟨r,_⟩
  exact GF<|.inl r
  cases r
 cab:=λy c U h=>by
  rcases jB.mp (X5 h)with q|q
  rcases xT _ [] q with q|⟨O,_⟩
  exact nomatch q
  have:=B.names _ O
  rw[(of_decide_eq_true U)]at this;cases this;exact Jz (Jz Y<|Xk C)<|Kc q
 hd:=I.ok.hd
 qt:=I.qt0
 frames:=I.ok.frames
 stk:=.inl rfl
 exf:=λb G=>by
  obtain⟨o,e⟩:=ho b G;refine⟨KZ<|Ke (Jb e) Y,λy c h=>?_⟩;rcases pU I B h with q|q
  exact(U b G).2.2.2.2.1 y c q;intro z;rw[z]at q;exact absurd (Ke (Jb e)<|Jz (Jz Y<|Xk C)<|Kc q)<|Rg _
 bs:=I.bs
 bsz:=Jz I.ok.bsz I.sz
 noex:=λb o e G=>by
  rcases(U b G).2.2.2.1 with q|q
  exact I.ok.noex b o e q;exact absurd (Ke (Jb e)<|Jz I.ok.bsz q)<|Rg _
 exfs:=λb G z=>by
  obtain⟨_,h1,h2,_⟩:=U b G;rcases ML.mp (I.stkSub b z)with e|e
  exact h1 e;exact h2 e
 funs:=I.stack
 frf:=I.stkFree
theorem alY {D:Addr}{h1:Heap}{tk:Nat}{m:Str->Option JI}(I:Al X aor σ H s)(B:jy X scope x ix)(F:(blk X scope (jG X x ix) C s H fp).Ok)
  (d:D=s.heap.objs.size) (k:∀b o,s.heap.get? b=Dn o->h1.get? b=Dn o) (hl:h1.get? D=Dn {cls:=.type "list",data:=.seq #[]}) (n:h1.Ns C m) (A:C≠D) (M:s.heap.objs.size<=C) (w:∀y c,(y,c)∈Nu (C+1) scope.names []->h1.IsCell c Go) :
  Al (blk X scope (jG X x ix) C s H fp) [] (RP x.length Go++Nr ix σ) (Iz H D (.lst [])) {s with heap:=h1,toks:=tk} where
 ok:=F
 os:=rfl
 bare:=I.bare
 base:=Un.laid k (d ▸ JL _) (I.hok.fresh (d ▸ JL _))
 loc:=by
  refine⟨m,n,λi y v e1 e2 e3=>?_⟩;by_cases O:i<x.length
  rw[Rx (by simpa using O),ux,if_pos O]at e2;cases e2
  ·rw[Sv (by simpa using O),lR]at e2;have J:=by
    have z:(x++ix.map λi=>X.N.getD i "")[i]?=Dn y:=e1
    rwa[Sv (by simpa using O)]at z
   generalize i-x.length=j at J e2;unfold Nr at e2;rw[Ju]at J e2;cases hj:ix[j]? with
   | none=>rw[hj]at e2;cases e2
   | some i'=>
    rw[hj]at J e2;simp only[Option.map_some,Option.some.injEq]at J e2;have hi:σ[i']?=Dn (Dn v):=by
     cases q:σ[i']? with
     | none=>rw[q]at e2;cases e2
     | some z=>rw[q]at e2;exact congrArg Dn e2
    have Y:=by
     have:=(Oi.mp hi).1
     rwa[I.len]at this
    have hn:X.N[i']?=Dn y:=by
     rw[Ss,MH Y,Option.getD_some]at J;rw[MH Y,J]
    have G:=by
     have:=B.ixs i' (Qz hj)
     rwa[J]at this
    have K:=B.free _ (X5 G) rfl;have l:Vis X.env.scope y:=by
     rcases K with q|q
     exact .inr<|.inl q
     exact .inr<|.inr q
    obtain⟨m',_,t⟩:=I.loc;obtain⟨u,r,V⟩:=t i' y v hn hi l;refine⟨u,r,?_⟩;rcases V with⟨q,_⟩|⟨_,c,hc,U⟩
    have R:X.env.scope.names.lookup y=Dn .local:=q;rcases K with z|z<;>(rw[R]at z;cases z)
    obtain⟨c',a⟩:=GF (.inl G);have e:=(pU I B a).resolve_right λz=>aak B G z
    rw[hc]at e;cases e;refine .inr ⟨pX G,c,a,?_⟩;obtain⟨o,ho,f⟩:=U;exact⟨o,k c o ho,f⟩
 cell:=λy c h=>by
  rcases pU I B h with q|q
  obtain⟨v,o,ho,f⟩:=I.cell y c q;exact⟨v,o,k c o ho,f⟩;exact⟨Go,w y c q⟩
 free:=by
  show Iz H D _ C=Go;exact aJ A ▸ I.hok.fresh M
 freeC:=λy c h=>by
  rcases pU I B h with q|q
  obtain⟨v,o,ho,f⟩:=I.cell y c q;exact aJ (d ▸ KZ (Jb ho)) ▸ I.freeC y c q;have g:=Ke (Nat.lt_succ_of_le M) (Kc q);exact aJ (d ▸ SJ g) ▸ I.hok.fresh (Xg g)
 pin:=λp Z=>absurd (show p∈([]:List _)from Z) (by simp)
 hok:=I.hok.laid k (d ▸ JL _) ⟨T7 _,[],0,.nil,hl⟩
 len:=by
  show(RP _ Go++Nr ix σ).length=(jG X x ix).length;simp[Nr]
theorem Ly {σ':St}{H' s'}{h'}{p'}(I:Al X aor σ H s)(U:s.heap.objs.size<=C)(O:∀b∈fp,JR X aor H b)(J:Al (blk X scope (jG X x ix) C s H fp) p' σ' H' s')
  (hs:RK C s'.heap h'):Al X aor σ H' {s' with heap:=h'}:=by
 refine(I.call' J.os J.base J.hok J.bare λb G=>⟨(O b G).2.2.2.1,(O b G).2.1,(O b G).2.2.2.2.1,(O b G).2.2.2.2.2⟩).turned (λb o G e=>(hs.2 b G).trans e) J.free (SJ<|Ke I.lt U) (.inr<|Jz I.sz U) (λy c e z=>?_) (λp a z=>(absurd (Ke (Jb (I.pin p a).1)<|z ▸ U)<|Rg _));obtain⟨v,q⟩:=I.cell y c e;exact absurd (Ke q.lt<|z ▸ U)<|Rg _
end
variable {D:Addr}
noncomputable def aaB (X:Cx)(ifs:List Expr)(t:TT):Prop:=
 ∀(aor:List (Addr×Obj)) (s:Ab) (σ:St) (H:Hp) (Q:Bool->Hp->Prop),Al X aor σ H s->t σ H Q ->
  Bh (Bu X.prog X.w) X.A (forIn ifs true λc r=>if r=true then do let G <-isTrue c X.env (eval c X.env);pure (ForInStep.yield G)else pure (ForInStep.yield r)) (TP X aor σ Q) X.xe s
noncomputable def ahS:TT:=λ_ H Q=>Q true H
theorem amJ {X}:aaB X [] ahS:=λ_ _ _ H _ I h=>HI ⟨H,I,h⟩
theorem aau {X}{c t}(h:PT X c t):aaB X [c] t:=λaor s σ H Q I G=>Aj (Aj (JC (h aor s σ H Q I G) λb J q=>HI (HI q)))
noncomputable def agx (n:Nat)(own:V->Hp->List V->Prop)(ix:List Nat)(tt:TT)(te:TE)(σ:St)(Q:VK)(J:It)(H1:Hp)(D:Addr):Prop:=∃W:Nat->Nat->List V->Hp->Prop,(∃m,W 0 m [] (Iz H1 D (.lst [])))/\∀i m ys H,W i m ys H->H D=Dn (.lst ys) ->
 (J.stop i H/\Q (.ref D) H)\/(J.go i H/\ys.length<JN/\∀x H',J.yld i H x H'->∃O,own x H' O/\O.length=n/\tt (O.map Dn++Nr ix σ) H' λb H2=>
  if b=true then te (O.map Dn++Nr ix σ) H2 (λv U=>U D=Dn (.lst ys)/\∃G,G<m/\W (i+1) G (ys++[v]) (Iz U D (.lst (ys++[v]))))
  else H2 D=Dn (.lst ys)/\∃G,G<m/\W (i+1) G ys H2)
noncomputable def wLC (n:Nat)(own:V->Hp->List V->Prop)(ix:List Nat)(tt:TT)(te:TE)(σ:St)(Q:VK)(J:It)(H1:Hp):Prop:=∀D,H1 D=Go->agx n own ix tt te σ Q J H1 D
noncomputable def tLC (n:Nat)(own:V->Hp->List V->Prop)(ix:List Nat)(wi:TI)(tt:TT)(te:TE):TE:=fun σ H Q=>wi σ H λJ H1=>wLC n own ix tt te σ Q J H1
noncomputable def Z9 (n:Nat)(own:V->Hp->List V->Prop):TG:=λv σ H N=>∃G,own v H G/\G.length=n/\N (G.map Dn++σ.drop n) H
variable {elt:Expr}{ifs:List Expr}
theorem zaZ {P w A}{R s}{G iter scope pos}{it acc env}(o:Nat->Ab->Prop)
  (g:∀n s,o n s->Bh (Bu P w) A (pyNext it) (λr O=>match r with
   | none=>R (.ok .next) O
   | some v=>Bh (Bu P w) A (letOwnedTupleGo G it v) (λ_ U=>Bh (Bu P w) A (assign G env v) (λ_ b=>
     Bh (Bu P w) A (forIn ifs true λc r=>if r=true then do let ok <-isTrue c env (eval c env);pure (ForInStep.yield ok)else pure (ForInStep.yield r)) (λok J=>
      if ok=true then Bh (Bu P w) A (eval elt env) (λx a=>
       Bh (Bu P w) A (call (.builtin "list.append") [acc,x]) (λ_ Y=>∃m,m<n/\o m Y) (notedBy (Bu P w) A env λe s'=>R (.error e) s') a) (notedBy (Bu P w) A env λe s'=>R (.error e) s') J
      else ∃m,m<n/\o m J) (notedBy (Bu P w) A env λe s'=>R (.error e) s') b) (notedBy (Bu P w) A env λe s'=>R (.error e) s') U) (notedBy (Bu P w) A env λe s'=>R (.error e) s') O) (notedBy (Bu P w) A env λe s'=>R (.error e) s') s)
  (n) (h:o n s):TY (Bu P w) A (.compLoop (.ListComp elt [⟨G,iter,ifs,0⟩] scope pos) 0 it acc env) R s:=by
 refine codeAny_loop rfl o (λn s p=>?_) n h;show Bh _ A _ _ _ s;refine wpAny_noted ?_;rw[compTurn_list];refine Aj<|YC<|Aj<|Lp (g n s p) (λr O f=>?_) λ_ _ z=>z
 cases r with
 | none=>exact HI f
 | some v=>
  refine Aj<|Lp f (λ_ U l=>Aj<|Lp l (λ_ b k=>Aj<|Lp k (λok J d=>?_) λ_ _ z=>z) λ_ _ z=>z) λ_ _ z=>z
  cases ok with
  | false=>exact HI ⟨rfl,d⟩
  | true=>exact Aj (Aj (Lp d (λx a j=>Aj (Lp j (λ_ Y i=>HI (HI ⟨rfl,i⟩)) λ_ _ z=>z)) λ_ _ z=>z))
section
variable {X:Cx}{scope:Scope}{x:List Str}{iter tg:Expr}{px pos:Pos}{wi:TI}{tt:TT}{te:TE}{own:V->Hp->List V->Prop}
theorem K3 {aor}{σ:St}{s₂ H2}{it}{fp}{tn J Q}{E}{RR:JI->Addr->Result->Ab->Prop}
  (hc:J.cm=true->X.calm=true) (B:jy X scope x ix) (hg:∀C s H fp,PG (blk X scope (jG X x ix) C s H fp) tg (Z9 x.length own)) (ht:∀C s H fp,aaB (blk X scope (jG X x ix) C s H fp) ifs tt) (he:∀C s H fp,PE (blk X scope (jG X x ix) C s H fp) elt te)
  (I2:Al X aor σ H2 s₂) (T:Turn X.prog X.w X.K tg J fp it tn) (S:tn 0 s₂.heap) (f2:∀b∈fp,JR X aor H2 b) (hq:wLC x.length own ix tt te σ Q J H2)
  (hRR:∀D C s' σ' H' p',s₂.heap.objs.size<=C->Al (blk X scope (jG X x ix) C s₂ H2 fp) p' σ' H' s'->Q (.ref D) H'->RR (.ref D) C (.ok .next) s') :
  Bh (Bu X.prog X.w) X.A (newList []) (λacc s₃=>Bh (Bu X.prog X.w) X.A (newFunctionEnv scope X.env.globals (Vj scope X.env) [] X.env.qual Go .none (Dn X.env)) (λcenv m=>
   TY (Bu X.prog X.w) X.A (.compStart (.ListComp elt [⟨tg,iter,ifs,0⟩] scope pos) 0 (.ref it) acc {cenv with scope:=relabel scope X.env}) (RR acc cenv.locals) m) E s₃) E s₂:=by
 refine XJ<|zbm ?_
 generalize hH2:s₂.heap.push {cls:=.type "list",dict:=Go,data:=.seq ([]:List JI).toArray}=G;generalize hh1:pushCells (G.push {cls:=.type "dict",data:=.dict #[]}) scope.names=O;have N:O.Ns G.objs.size (λ_=>Go):=by
  obtain⟨o,es,ep,ho,r⟩:=Heap.Ns.new G (.type "dict");exact⟨o,es,ep,by rw[<-hh1];exact pushCells_keeps _ _ _ _ ho,r⟩
 have L:∀b o,G.get? b=Dn o->O.get? b=Dn o:=λb o e=>by rw[<-hh1];exact pushCells_keeps _ _ _ _ (JV _ e)
 have hce:∀y c,(y,c)∈Nu (G.objs.size+1) scope.names []->O.IsCell c Go:=λy c e=>by
  rw[<-hh1];exact(adE (h:=G.push {cls:=.type "dict",data:=.dict #[]}) (by rw[Uk];exact e)).1
 have hC:G.objs.size=s₂.heap.objs.size+1:=by rw[<-hH2,Uk]
 have hDC:s₂.heap.objs.size≠G.objs.size:=by rw[hC];exact KZ (Nat.lt_succ_self _)
 have Y:s₂.heap.objs.size<=G.objs.size:=by rw[hC];exact Xk _
 have Z:∀b o,s₂.heap.get? b=Dn o->O.get? b=Dn o:=λb o e=>L b o (hH2 ▸ JV _ e)
 have hacc:O.get? s₂.heap.objs.size=Dn {cls:=.type "list",data:=.seq #[]}:=L _ _ (hH2 ▸ Mf _ rfl);have hob:∀b∈fp,∃o,s₂.heap.get? b=Dn o:=λb A=>let⟨o,e,_⟩:=T.obj 0 _ S b A;⟨o,e⟩
 have ok:=abt (C:=G.objs.size) I2 B Y f2 hob;obtain⟨W,⟨m0,w0⟩,turn⟩:=hq s₂.heap.objs.size (I2.hok.fresh (JL _));have K:∀{H':Hp},(∀b∈fp,H' b=Go)->∀b∈fp,JR (blk X scope (jG X x ix) G.objs.size s₂ H2 fp) [] H' b:=λ{H'} hn b A=>by
  obtain⟨o,e⟩:=hob b A;obtain⟨_,g1,g2,g3,g4,g5⟩:=f2 b A;refine⟨hn b A,KZ<|Ke (Jb e) Y,λz=>?_,.inl A,λy c h=>?_,λp hp=>absurd (show p∈([]:List (Addr×Obj))from hp)<|by simp⟩;rcases ML.mp (I2.stkSub b z)with q|q
  exact g1 q;exact g2 q;rcases pU I2 B h with q|q
  exact g4 y c q;intro z;rw[z]at q;exact absurd (Ke (Jb e)<|Jz (Jz Y<|Xk _)<|Kc q)<|Rg _
 have P:∀s₃:Ab,s₃={s₂ with heap:=O} ->
   TY (Bu X.prog X.w) X.A (.compLoop (.ListComp elt [⟨tg,iter,ifs,0⟩] scope pos) 0 (.ref it) (.ref s₂.heap.objs.size) (compEnvC scope (Nu (G.objs.size+1) scope.names (Vj scope X.env)) G.objs.size X.env))
    (RR (.ref s₂.heap.objs.size) G.objs.size) s₃:=by
  rintro s₃ rfl;have J0:=alY (fp:=fp) (C:=G.objs.size) (tk:=s₂.toks) I2 B ok rfl Z hacc N (LI hDC) Y hce;have fr0:∀b∈fp,Iz H2 s₂.heap.objs.size (.lst []) b=Go:=λb A=>by
   obtain⟨o,e⟩:=hob b A;rw[aJ (KZ (Jb e))];exact(f2 b A).1
  refine zaZ (λk s'=>∃i ys H',Al (blk X scope (jG X x ix) G.objs.size s₂ H2 fp) [] (RP x.length Go++Nr ix σ) H' s'/\tn i s'.heap/\(∀b∈fp,H' b=Go)/\H' s₂.heap.objs.size=Dn (.lst ys)/\W i k ys H') ?_ m0
   ⟨0,[],_,J0,T.keep 0 _ _ S (λb _ o e=>Z b o e),fr0,aV,w0⟩
  rintro n m ⟨i,ys,H4,I4,st4,fr4,hD4,w4⟩;rcases turn i n ys H4 w4 hD4 with⟨stop,qn⟩|⟨go,hz,step⟩
  ·refine JC (T.done (blk X scope (jG X x ix) G.objs.size s₂ H2 fp) rfl rfl rfl hc i [] m _ H4 _ I4 (K fr4) st4 stop) λr s5 a=>?_;obtain⟨hr,I5⟩:=a;subst hr;exact hRR _ _ s5 _ H4 [] Y I5 qn
  ·refine JC (T.item (blk X scope (jG X x ix) G.objs.size s₂ H2 fp) rfl rfl rfl hc i [] m _ H4 _ I4 (K fr4) st4 go) λr s5 f=>?_;obtain⟨u,hr,h5⟩:=f;subst hr;refine Lp h5 (λ_ s6 g=>?_) λ_ _ z=>z;obtain⟨xv,H6,I6,r6,y6,R,fr6⟩:=g;have I6':=I6.pinned (K fr6) (T.obj _ _ R);obtain⟨vs,hov,hvl,q7⟩:=step xv H6 y6;have fgt:∀{U:St}{I:Hp}{s9:Ab}{p9:List (Addr×Obj)},U.length=x.length->Al (blk X scope (jG X x ix) G.objs.size s₂ H2 fp) p9 (U++Nr ix σ) I s9->Al (blk X scope (jG X x ix) G.objs.size s₂ H2 fp) p9 (RP x.length Go++Nr ix σ) I s9:=λ{U I s9 p9} hl I9=>
    I9.weak (by simp[hl]) λk v e=>by
     by_cases hk:k<x.length
     rw[Rx (by simpa using hk),ux,if_pos hk]at e;cases e;rw[Sv (by simpa using hk),lR]at e;rw[Sv (by rw[hl];lia),hl];exact e
   refine Lp (hg _ _ _ _ _ s6 _ H6 xv u (fun U I=>U=vs.map Dn++(RP x.length (Go:Option V)++Nr ix σ).drop x.length/\I=H6) I6' r6 ⟨vs,hov,hvl,rfl,rfl⟩) (λ_ s7 j=>?_) λ_ _ z=>z.elim;obtain⟨σ7,H7,I7,e7,e8⟩:=j;subst e7 e8;rw[List.drop_left' (by simp)]at I7;have hml:(vs.map Dn).length=x.length:=by rw[Ik];exact hvl
   refine Lp (ht _ _ _ _ _ s7 _ H7 _ I7 q7) (λb s8 l=>?_) λ_ _ z=>z.elim;obtain⟨H8,I8,q8⟩:=l;have w:∀{I:Hp}{s9:Ab}{U:St},Al (blk X scope (jG X x ix) G.objs.size s₂ H2 fp) ([]++Hq fp s6.heap) U I s9->tn (i+1) s9.heap/\∀b∈fp,I b=Go:=λ{I s9 U} I9=>by
    refine⟨T.keep _ _ _ R λb A o e=>(I9.pin (b,o)<|X7 _<|X7 _<|jU A e).1,λb A=>?_⟩;obtain⟨o,e,d⟩:=T.obj _ _ R b A;exact(I9.pin (b,o)<|X7 _<|X7 _<|jU A e).2.1
   cases b with
   | false=>
    rw[if_neg RT]at q8|-
    obtain⟨hD8,m',hm,w8⟩:=q8;obtain⟨t8,f8⟩:=w I8;exact⟨m',hm,i+1,ys,H8,fgt hml I8.unpinned,t8,f8,hD8,w8⟩
   | true=>
    rw[if_pos rfl]at q8|-
    refine Lp (he _ _ _ _ _ s8 _ H8 _ I8 q8) (λu9 s9 t=>?_) λ_ _ z=>z.elim;obtain⟨v9,I,I9,r9,hD9,m',hm,w9⟩:=t;refine Lp (zH (X:=blk X scope (jG X x ix) G.objs.size s₂ H2 fp) _ s9 _ I (.ref s₂.heap.objs.size) [v9] _ [u9] (λ_ H'=>H'=Iz I s₂.heap.objs.size (.lst<|ys++[v9])) I9 rfl (.cons r9 .nil) ⟨_,ys,v9,rfl,rfl,hD9,hz,rfl⟩) (λ_ s10 F=>?_) λ_ _ z=>z.elim;obtain⟨_,H10,I10,_,e10⟩:=F;subst e10;obtain⟨t10,f10⟩:=w I10;exact⟨m',hm,i+1,ys++[v9],_,fgt hml I10.unpinned,t10,f10,aV,w9⟩
 exact codeAny_compStart_list (P _ rfl)<|T.self _ 0 _ _ _ (T.keep 0 _ _ S<|λb _ o e=>Z b o e)<|P _ rfl
theorem afC (ix:List Nat)(hc:X.calm=true)(B:jy X scope x ix)(hg:∀C s H fp,PG (blk X scope (jG X x ix) C s H fp) tg (Z9 x.length own))(hi:PI X tg iter wi)(ht:∀C s H fp,aaB (blk X scope (jG X x ix) C s H fp) ifs tt)(he:∀C s H fp,PE (blk X scope (jG X x ix) C s H fp) elt te)
  (hs:∀v,Xx iter X.env v=pure v:=by intro _;rfl):PE X (.ListComp elt [⟨tg,iter,ifs,0⟩] scope pos) (tLC x.length own ix wi tt te):=by
 intro aor s σ H Q I h;refine wpAny_comprehension_free rfl hs (Qc<|wW I B) B.kind (λy hy hk=>by rw[B.names y hy,hk])<|JC (hi aor s σ H _ I h) λv s1 h1=>JC h1 λitv s2 h2=>?_
 obtain⟨it,fp,tn,J,H2,e,I2,T,st2,f2,hq⟩:=h2;subst e;refine K3 (λ_=>hc) B hg ht he I2 T st2 f2 hq λD C s' σ' H' p' hC I' q'=>?_;obtain⟨m,hn,_⟩:=I'.loc;exact⟨m,hn,λh' hs'=>⟨.ref D,H',Ly I2 hC f2 I' hs',rfl,q'⟩⟩
theorem aeX (ix){i y}{py spos}(hN:X.N.Nodup)(hi':X.N[i]?=Dn y)(hy:Loc X.env.scope y)(hc:X.calm=true)(B:jy X scope x ix)(hg:∀C s H fp,PG (blk X scope (jG X x ix) C s H fp) tg (Z9 x.length own))(hi:PI X tg iter wi)
  (ht:∀C s H fp,aaB (blk X scope (jG X x ix) C s H fp) ifs tt) (he:∀C s H fp,PE (blk X scope (jG X x ix) C s H fp) elt te)
  (hsw:Xe (.ListComp elt [⟨tg,iter,ifs,0⟩] scope pos) (Dn (.Name y py)) spos.line X.env=pure true:=by rfl)
  (hf:X.fn y=true\/X.env.scope.names.lookup y=Dn .local:=by first|exact .inl rfl|exact .inr rfl|assumption)
  (hs:∀v,Xx iter X.env v=pure v:=by intro _;rfl):PS X (.Assign [.Name y py] (.ListComp elt [⟨tg,iter,ifs,0⟩] scope pos) spos) (abE (tLC x.length own ix wi tt te) (KJ i)):=by
 intro aor s σ H D I h;rw[exec_Assign_Name_used _ _ _ _ hsw];refine Aj<|YC<|Aj<|Aj<|Lp (wpAny_comprehension_free rfl hs (Qc<|wW I B) B.kind (λy hy hk=>by rw[B.names y hy,hk])<|JC (hi aor s σ H _ I h) λv s1 h1=>JC h1 λitv s2 h2=>?_) (λ_ s' hq=>HI<|HI hq) λ_ _ e=>e
 obtain⟨it,fp,tn,J,H2,e,I2,T,st2,f2,hq⟩:=h2;subst e;refine K3 (λ_=>hc) B hg ht he I2 T st2 f2 hq λD' C s' σ' H' p' hC I' q'=>?_;obtain⟨m,hn,_⟩:=I'.loc;have cneC:∀z c,X.env.cells.lookup z=Dn c->c≠C:=λz c e q=>by
  obtain⟨v,w⟩:=I2.cell z c e;exact absurd (Ke w.lt<|q ▸ hC)<|Rg _
 have lneC:=KZ (Ke I2.lt hC);refine wpAny_assign_Name<|zT (v:=.ref D') (Ly I2 hC f2 I'<|.refl ..) hN hi' hy rfl (λs'' I'' hsb=>?_) hf
 obtain⟨a,hsb,ha⟩:=hsb;have haC:C≠a:=by
  rcases ha with rfl|ha
  exact LI lneC;exact LI<|cneC _ _ ha
 exact⟨m,hn.sameBut hsb haC,λh' hs'=>⟨_,H',(I''.turned (λb o hb e=>(hs'.2 b hb).trans e) I'.free (LI lneC) (.inr<|Jz I2.sz hC) cneC<|λp hp z=>(absurd (Ke (Jb (I2.pin p hp).1)<|z ▸ hC)<|Rg _)),q'⟩⟩
end
noncomputable def Sm (n:Nat)(i:Int):Prop:=i.natAbs<2^n
theorem Sm.bits {n i}(h:Sm n i):Builtin.Int.intBits i<=n:=by
 unfold Builtin.Int.intBits;by_cases e:i=0
 simp_all
 rw[(beq_eq_false_iff_ne.mpr e)];have:=(Nat.log2_lt (by lia)).mpr h
 simp;lia
variable {m:Nat}
theorem Sm.mono {n:Nat}{i:Int}(h:Sm m i)(G:m<=n):Sm n i:=Ke h (Nat.pow_le_pow_right (by decide) G)
theorem Sm.mul {n}{i j}(h:Sm m i)(h':Sm n j):Sm (m+n) (i*j):=by
 unfold Sm at *;rw[Int.natAbs_mul,Nat.pow_add];by_cases e:j.natAbs=0
 exact e ▸ Nat.mul_pos (Nat.pow_pos<|by decide) (Nat.pow_pos<|by decide);exact Ke (Nat.mul_lt_mul_of_pos_right h<|Nat.pos_of_ne_zero e)<|Nat.mul_le_mul_left _<|Xg h'
theorem Sm.add {n}{i j}(h:Sm m i)(h':Sm n j):Sm (max m n+1) (i+j):=by
 have h1:=h.mono (Nat.le_max_left m n);have h2:=h'.mono (Nat.le_max_right m n);unfold Sm at *;omega
theorem Sm.neg {n i}(h:Sm n i):Sm n (-i):=by unfold Sm at *;rw[Int.natAbs_neg];exact h
theorem Sm.sub {n}{i j}(h:Sm m i)(h':Sm n j):Sm (max m n+1) (i-j):=h.add h'.neg
theorem Sm.zero {n}:Sm n 0:=Nat.pow_pos (by decide)
theorem Oz {n:Nat}{i:Int}(h1:-(2^n:Int)<i)(h2:i<(2^n:Int)):Sm n i:=by
 unfold Sm;grind
theorem Sm.le {n}{i j}(h:Sm n i)(hj:j.natAbs<=i.natAbs):Sm n j:=Yw hj h
noncomputable def fY (i j:Int):Prop:=∃m n,m<=1000000/\n<=1000000/\Sm m i/\Sm n j
theorem fY.ok {i j}(h:fY i j):IntMulOk i j:=by
 obtain⟨m,n,J,G,h1,h2⟩:=h;exact .of_bits (by have:=h1.bits;lia) (by have:=h2.bits;lia)
noncomputable def Ov (_ j:Int):Prop:=j≠0/\∃n,n<=8000/\Sm n j
theorem alV {n j}(G:n<=8000)(h:Sm n j):j.natAbs.log2<9000:=by
 by_cases e:j.natAbs=0
 simp_all
 have:=(Nat.log2_lt e).mpr h
 lia
section
variable {X:Cx}
theorem amj:Mv X (Qy .Mult) (rI fY λi j=>.int (i*j)):=opI λ_ _ _ _ _ _ _ G q=>mul_int q G.ok
theorem zaW:Mv X (Qy .FloorDiv) (rI Ov λi j=>.int (i.fdiv j)):=opI λi j _ _ _ _ _ J q=>by
 obtain⟨h1,n,G,h2⟩:=J;exact floordiv_int h1 q<|.inl<|PyProof.noPylong_of_log2<|alV G h2
theorem rR:∀{bs:List Bool}{its}{i:Nat}{v},CZ (bs.map V.bl) its->its[i]?=Dn v->∃b,bs[i]?=Dn b/\v=.bool b
 | [],_,_,_,.nil,e=>by simp at e
 | b::bs,_,0,_,.cons r _,e=>by simp at e;subst e;exact⟨b,rfl,r⟩
 | _::bs,_,i+1,v,.cons _ t,e=>by
  obtain⟨b,h1,h2⟩:=rR t (by simpa using e);simp_all
theorem zaq:∀(bs:List Bool),((Qv bs.length).all λi=>(bs[i]?).getD true)=bs.all id:=λbs=>by
 rw[Bool.eq_iff_iff,XF,XF];constructor;intro h b J;obtain⟨i,hi,rfl⟩:=List.mem_iff_getElem.mp J
 simp_all
 intro h i hi;have G:=XC.mp hi;have:=h bs[i] (YH G)
 simpa[G]using this
theorem zbo (c:X.calm=true):jX X (.builtin "all") (λxs H Q=>∃(p:Addr) (bs:List Bool),xs=[.ref p]/\Kh X.K H p (bs.map V.bl)/\Q (.bl (bs.all id)) H):=by
 intro aor s σ H xs us Q I r h;obtain⟨p,bs,rfl,d,q⟩:=h;obtain⟨u,rfl,U⟩:=vals1 r;cases U;obtain⟨its,J,Y,g⟩:=I.list d;have G:its.length=bs.length:=by rw[<-J.length,Ik]
 have hl:=Y.isList;refine call_all_walk<|Yi hl ?_
 refine⟨s.heap.objs.size,[s.heap.objs.size,p],[s.heap.objs.size],its.toArray.size,_,_,λi=>(bs[i]?).getD true,rfl,Walks.list (A:=X.A.in1) (I.ok.hd c) _ p (KZ (by obtain⟨_,e,_⟩:=hl;exact Jb e)) _,
  ⟨⟨_,Mf _ rfl,rfl,rfl⟩,hl.push _⟩,λi v s' j k f O=>?_,λh' tk a=>?_⟩
 obtain⟨b,e,rfl⟩:=rR J (by simpa using f);simp[e]at O;exact Zi O;have e:((Qv its.toArray.size).all λi=>(bs[i]?).getD true)=bs.all id:=by
  rw[Mp,G];exact zaq bs
 rw[e];refine⟨.bl _,H,I.kept<|λb x e=>?_,rfl,q⟩;exact a b x (λhm=>by rw[Ri.mp hm]at e;exact Rg _ (Jb e))<|JV _ e
noncomputable def ag1 (K:BW)(H:Hp):V->String->Bool->Prop
 | .int _,T,b=>(T = "int"/\b=true)\/(T = "bool"/\b=false)\/(T = "tuple"/\b=false)\/(T = "list"/\b=false)
 | .bl _,T,b=>(T = "int"/\b=true)\/(T = "bool"/\b=true)\/(T = "tuple"/\b=false)\/(T = "list"/\b=false)
 | .str _,T,b=>(T = "int"/\b=false)\/(T = "bool"/\b=false)\/(T = "tuple"/\b=false)\/(T = "list"/\b=false)
 | .non,T,b=>(T = "int"/\b=false)\/(T = "bool"/\b=false)\/(T = "tuple"/\b=false)\/(T = "list"/\b=false)
 | .ref p,T,b=>(∃xs,Lq K H p xs/\((T = "int"/\b=false)\/(T = "bool"/\b=false)\/(T = "tuple"/\b=true)\/(T = "list"/\b=false))) \/
   (∃xs,Kh K H p xs/\((T = "int"/\b=false)\/(T = "bool"/\b=false)\/(T = "tuple"/\b=false)\/(T = "list"/\b=true)))
 | _,_,_=>False
theorem zbz:jX X (.builtin "isinstance") (λxs H Q=>∃x T b,xs=[x,.ty T]/\ag1 X.K H x T b/\Q (.bl b) H):=by
 intro aor s σ H xs us Q I r h;obtain⟨x,T,b,rfl,hi,q⟩:=h;obtain⟨u,w',rfl,G,O⟩:=vals2 r;cases O;have k0:EP X aor σ Q _ s:=⟨.bl b,H,I,rfl,q⟩
 have k1:EP X aor σ Q _ {s with toks:=s.toks+1}:=⟨.bl b,H,I.tok _,rfl,q⟩
 cases x with
 | int i=>
  obtain⟨t,rfl⟩:=G;rcases hi with⟨rfl,rfl⟩|⟨rfl,rfl⟩|⟨rfl,rfl⟩|⟨rfl,rfl⟩
  exact IsiPair.int_int k0;exact IsiPair.int_bool k1;exact IsiPair.int_tuple k1;exact IsiPair.int_list k1
 | bl i=>
  cases G;rcases hi with⟨rfl,rfl⟩|⟨rfl,rfl⟩|⟨rfl,rfl⟩|⟨rfl,rfl⟩
  first|exact IsiPair.bool_int k0|exact _ k1
  first|exact IsiPair.bool_bool k0|exact _ k1
  exact IsiPair.bool_tuple k1;exact IsiPair.bool_list k1
 | str i=>
  obtain⟨t,rfl⟩:=G;rcases hi with⟨rfl,rfl⟩|⟨rfl,rfl⟩|⟨rfl,rfl⟩|⟨rfl,rfl⟩
  exact IsiPair.str_int k1;exact IsiPair.str_bool k1;exact IsiPair.str_tuple k1;exact IsiPair.str_list k1
 | non=>
  cases G;rcases hi with⟨rfl,rfl⟩|⟨rfl,rfl⟩|⟨rfl,rfl⟩|⟨rfl,rfl⟩
  exact IsiPair.NoneType_int k1;exact IsiPair.NoneType_bool k1;exact IsiPair.NoneType_tuple k1;exact IsiPair.NoneType_list k1
 | ref p=>
  cases G;rcases hi with⟨xs,J,hi⟩|⟨xs,J,hi⟩
  obtain⟨its,_,⟨o,e,c,_⟩,_⟩:=I.tuple J;rcases hi with⟨rfl,rfl⟩|⟨rfl,rfl⟩|⟨rfl,rfl⟩|⟨rfl,rfl⟩
  exact IsiPair.tuple_int e c k1;exact IsiPair.tuple_bool e c k1;exact IsiPair.tuple_tuple e c k0;exact IsiPair.tuple_list e c k1;obtain⟨its,_,U,_⟩:=I.list J;obtain⟨o,e,c,_⟩:=U.isList;rcases hi with⟨rfl,rfl⟩|⟨rfl,rfl⟩|⟨rfl,rfl⟩|⟨rfl,rfl⟩
  exact IsiPair.list_int e c k1;exact IsiPair.list_bool e c k1;exact IsiPair.list_tuple e c k1;exact IsiPair.list_list e c k0
 | _=>exact hi.elim
end
inductive W where
 | non|bl (b:Bool)|int (i:Int)|str (x:Str)|ty (n:String)|tup (ws:List W)|lst (ws:List W)|loc (n:Nat)|kls (ws:List W)|exc (n:Str)
 | exa (n:Str) (ws:List W)
 | fnv (f:Addr) (i:Nat)
inductive Cell where
 | lst (ws:List W)|obj (C:Addr) (fs:List (Str×W))|dct (kvs:List (Key×W))
 | dtt (kvs:List (List Int×W))
structure Gh where
 nx:Nat
 c:Nat->Option Cell
structure Mu where
 f:Nat->Option Addr
 hid:Addr->Prop
noncomputable def aiv (K:BW)(p:Addr)(xs:List V):Prop:=
 ∃(o:Obj) (its:Array JI) (n:Nat),K.lookup p=Dn o/\o.cls=.type "list"/\o.dict=Go/\o.data=.seq its n/\its.size<=JN/\CZ xs its.toList
noncomputable def Frz (H:Hp)(μ:Mu)(p:Addr)(xs:List V):Prop:=H p=Dn (.lst xs)/\(∀n,μ.f n≠Dn p)/\¬μ.hid p
noncomputable def Frk (K:BW)(H:Hp)(p:Addr)(xs:List V):Prop:=(∃o,H p=Dn (.frz o (.lst xs)))\/aiv K p xs
variable {μ:Mu}
theorem Frz.sq {K:BW}{H:Hp}{p:Addr}{xs:List V}(h:Frz H μ p xs):Kh K H p xs:=.inl (.inl h.1)
theorem Frk.sq {K H}{p}{xs}(h:Frk K H p xs):Kh K H p xs:=by
 rcases h with h|h
 exact .inl<|.inr h
 exact .inr h
def O8:List JI:=[.type "ValueError",.type "Exception",.type "BaseException",.type "object"]
noncomputable def iy (K:BW)(C:Addr)(n:Str):Bool:=Lw K KC n==Dn (Dn (.ref C))&&Zt K (.ref C)==Dn (.type "type")&&match Xj K C with
 | some cd=>cd.name==n&&cd.mro.contains (.type "BaseException")
 | none=>false
noncomputable def jm (K:BW)(C:Addr)(n:Str):Bool:=iy K C n&&(match Xj K C with
 | some cd=>(match cd.mro with
  | [.ref C',.ref R,a,b,c,d]=>C'==C&&[a,b,c,d]==O8&&Lw K KC "EaselError"==Dn (Dn (.ref R))&&(Xj K R).any (λc=>c.name==("EaselError" : Str))
  | _=>false)
 | none=>false)&&R8 K (.ref C) "__getattribute__"==Dn (Dn (.builtin "BaseException.__getattribute__"))&&R8 K (.ref C) "__getattr__"==Dn Go&&R8 K (.ref C) "__class__"==Dn (Dn (.builtin "object.__class__"))&&PySem.W.specialIn K (.builtin "object.__class__") "__get__"==Dn (Dn (.builtin "getset_descriptor.__get__"))
 && PySem.W.takesIn K (.builtin "object.__class__")==Dn true
noncomputable def Dp (n:Str):List Str:=if n = "Apart" then["word", "places"]else["at"]
noncomputable def Zm (K:BW)(C:Addr)(n:Str):Bool:=jm K C n&&PySem.W.hasDictIn K C&&(Dp n).all λf=>R8 K (.ref C) f==Dn Go
noncomputable def Xoa (K:BW)(o:Obj)(n:Str)(dd:Addr):Prop:=∃C,o.cls=.ref C/\o.dict=Dn dd/\PySem.W.notCls o=true/\Zm K C n=true
noncomputable def Xob (K:BW)(o:Obj)(n:Str):Prop:=∃C,o.cls=.ref C/\o.dict=Go/\PySem.W.notCls o=true/\jm K C n=true
mutual
noncomputable def CR (K:BW)(H:Hp)(μ:Mu):W->V->Prop
 | .non,v=>v=.non
 | .bl b,v=>v=.bl b
 | .int i,v=>v=.int i
 | .str x,v=>v=.str x
 | .ty n,v=>v=.ty n
 | .tup ws,v=>∃p xs,v=.ref p/\Lq K H p xs/\aY K H μ ws xs
 | .lst ws,v=>∃p xs,v=.ref p/\Frz H μ p xs/\aY K H μ ws xs
 | .kls ws,v=>∃p xs,v=.ref p/\Frk K H p xs/\aY K H μ ws xs
 | .loc n,v=>∃p,v=.ref p/\μ.f n=Dn p
 | .exc n,v=>∃p o u,v=.ref p/\H p=Dn (.frz o u)/\Xob K o n
 | .exa n ws,v=>∃p o u dd ns xs,v=.ref p/\H p=Dn (.frz o u)/\Xoa K o n dd/\H dd=Dn (.xd (List.zip ns xs))/\ns=Dp n/\ns.length=xs.length/\aY K H μ ws xs
 | .fnv f _,v=>v=.ref f
noncomputable def aY (K:BW)(H:Hp)(μ:Mu):List W->List V->Prop
 | [],xs=>xs=[]
 | w::ws,xs=>∃v vs,xs=v::vs/\CR K H μ w v/\aY K H μ ws vs
end
section
variable {K:BW}{H H' H1 H2:Hp}{μ' μ1 μ2:Mu}{h h':Gh}{w:W}{ws:List W}{v:V}{xs:List V}
theorem aY.len:∀{ws:List W}{xs:List V},aY K H μ ws xs->ws.length=xs.length
 | [],xs,h=>by
  have e:=h;rw[e];rfl
 | w::ws,xs,h=>by
  obtain⟨v,G,e,_,h⟩:=h;rw[e,PL,PL,aY.len h]
theorem aY.get:∀{ws xs}{i:Nat}{w},aY K H μ ws xs->ws[i]?=Dn w->∃v,xs[i]?=Dn v/\CR K H μ w v
 | a::ws,xs,0,w,h,e=>by
  obtain⟨v,G,e1,r,_⟩:=h;simp_all
 | a::ws,xs,i+1,w,h,e=>by
  obtain⟨v,G,e1,_,h⟩:=h;subst e1;obtain⟨u,h1,h2⟩:=aY.get h (by simpa using e)
  simp_all
theorem aY.nil:aY K H μ [] []:=rfl
theorem aY.cons (r:CR K H μ w v)(h:aY K H μ ws xs):aY K H μ (w::ws) (v::xs):=⟨v,xs,rfl,r,h⟩
theorem aY.append:∀{ws xs us ys},aY K H μ ws xs->aY K H μ us ys->aY K H μ (ws++us) (xs++ys)
 | [],xs,us,ys,h,g=>by
  subst h;exact g
 | w::ws,xs,us,ys,h,g=>by
  obtain⟨v,G,e,r,h⟩:=h;subst e;exact aY.cons r<|aY.append h g
theorem aY.one (r:CR K H μ w v):aY K H μ [w] [v]:=aY.cons r aY.nil
theorem aY.set (r:CR K H μ w v):∀{ws:List W}{xs:List V}(i:Nat),aY K H μ ws xs->aY K H μ (ws.set i w) (xs.set i v)
 | [],xs,i,h=>by subst h;exact aY.nil
 | a::ws,xs,0,h=>by
  obtain⟨u,G,e,_,h⟩:=h;subst e;exact aY.cons r h
 | a::ws,xs,i+1,h=>by
  obtain⟨u,G,e,q,h⟩:=h;subst e;exact aY.cons q<|aY.set r i h
theorem aY.take:∀{ws xs}(n),aY K H μ ws xs->aY K H μ (ws.take n) (xs.take n)
 | _,_,0,_=>aY.nil
 | [],xs,n+1,h=>by subst h;exact aY.nil
 | a::ws,xs,n+1,h=>by
  obtain⟨u,G,e,q,h⟩:=h;subst e;exact aY.cons q<|aY.take n h
theorem aY.drop:∀{ws xs}(n),aY K H μ ws xs->aY K H μ (ws.drop n) (xs.drop n)
 | _,_,0,h=>h
 | [],xs,n+1,h=>by subst h;exact aY.nil
 | a::ws,xs,n+1,h=>by
  obtain⟨u,G,e,q,h⟩:=h;subst e;exact aY.drop n h
structure Ex0 (K:BW) (H:Hp) (μ:Mu) (H':Hp) (μ':Mu):Prop where
 t:∀p xs,Lq K H p xs->Lq K H' p xs
 l:∀p xs,Frz H μ p xs->Frz H' μ' p xs
 k:∀p xs,Frk K H p xs->Frk K H' p xs
 m:∀n p,μ.f n=Dn p->μ'.f n=Dn p
 x:∀p o u,H p=Dn (.frz o u)->H' p=Dn (.frz o u)
 y:∀p fs,H p=Dn (.xd fs)->H' p=Dn (.xd fs)
structure Ex (K:BW) (H:Hp) (μ:Mu) (H':Hp) (μ':Mu):Prop extends Ex0 K H μ H' μ' where
 o:∀p u,μ.hid p->H p=Dn u->μ'.hid p/\H' p=Dn u
mutual
theorem CR.ex (e:Ex0 K H μ H' μ'):∀{w:W}{v:V},CR K H μ w v->CR K H' μ' w v
 | .non,_,h=>by rw[CR]at h|-;exact h
 | .bl _,_,h=>by rw[CR]at h|-;exact h
 | .int _,_,h=>by rw[CR]at h|-;exact h
 | .str _,_,h=>by rw[CR]at h|-;exact h
 | .ty _,_,h=>by rw[CR]at h|-;exact h
 | .tup ws,_,h=>by
  rw[CR]at h|-
  obtain⟨p,xs,e1,hs,hr⟩:=h;exact⟨p,xs,e1,e.t _ _ hs,aY.ex e hr⟩
 | .lst ws,_,h=>by
  rw[CR]at h|-
  obtain⟨p,xs,e1,hs,hr⟩:=h;exact⟨p,xs,e1,e.l _ _ hs,aY.ex e hr⟩
 | .kls ws,_,h=>by
  rw[CR]at h|-
  obtain⟨p,xs,e1,hs,hr⟩:=h;exact⟨p,xs,e1,e.k _ _ hs,aY.ex e hr⟩
 | .loc n,_,h=>by
  rw[CR]at h|-
  obtain⟨p,e1,hm⟩:=h;exact⟨p,e1,e.m _ _ hm⟩
 | .exc n,_,h=>by
  rw[CR]at h|-
  obtain⟨p,o,u,e1,hm,hx⟩:=h;exact⟨p,o,u,e1,e.x _ _ _ hm,hx⟩
 | .exa n ws,_,h=>by
  rw[CR]at h|-
  obtain⟨p,o,u,dd,ns,xs,e1,hm,hx,hd,e2,e3,hr⟩:=h;exact⟨p,o,u,dd,ns,xs,e1,e.x _ _ _ hm,hx,e.y _ _ hd,e2,e3,aY.ex e hr⟩
 | .fnv _ _,_,h=>by rw[CR]at h|-;exact h
theorem aY.ex (e:Ex0 K H μ H' μ'):∀{ws:List W}{xs:List V},aY K H μ ws xs->aY K H' μ' ws xs
 | [],_,h=>by rw[aY]at h|-;exact h
 | w::ws,_,h=>by
  rw[aY]at h|-
  obtain⟨v,vs,e1,r,h⟩:=h;exact⟨v,vs,e1,CR.ex e r,aY.ex e h⟩
end
structure Ji (K:BW) (H:Hp) (μ:Mu) (H':Hp) (μ':Mu):Prop where
 r:∀w v,CR K H μ w v->CR K H' μ' w v
 o:∀p u,μ.hid p->H p=Dn u->μ'.hid p/\H' p=Dn u
theorem Ji.refl:Ji K H μ H μ:=⟨λ_ _ h=>h,λ_ _ h g=>⟨h,g⟩⟩
theorem Ji.trans (a:Ji K H μ H1 μ1)(b:Ji K H1 μ1 H2 μ2):Ji K H μ H2 μ2:=
 ⟨λw v h=>b.r w v (a.r w v h),λp u h g=>let⟨h1,G⟩:=a.o p u h g;b.o p u h1 G⟩
theorem Ex.ext (e:Ex K H μ H' μ'):Ji K H μ H' μ':=⟨λ_ _ h=>CR.ex e.toEx0 h,e.o⟩
theorem Ji.s (e:Ji K H μ H' μ'):∀{ws xs},aY K H μ ws xs->aY K H' μ' ws xs
 | [],_,h=>h
 | w::ws,_,h=>by
  obtain⟨v,G,e1,r,h⟩:=h;exact⟨v,G,e1,e.r _ _ r,Ji.s e h⟩
noncomputable def aeK:Option HO->Prop
 | some (.lst _)=>True
 | some (.dK _)=>True
 | some (.ins _ _ _)=>True
 | some (.ext _)=>True
 | _=>False
noncomputable def uz {κ:Type}(K:BW)(H:Hp)(μ:Mu):List (κ×W)->List (κ×V)->Prop:=Wy λ(p:κ×W) (q:κ×V)=>p.1=q.1/\CR K H μ p.2 q.2
noncomputable def aiw (x:List Int×Addr×JI):DictEntry:=⟨reduceHash (Builtin.Tuple.tupleHashOf (x.1.map hashInt)),.ref x.2.1,x.2.2⟩
noncomputable def ah4 (a:Addr)(xs:List (List Int×Addr×JI))(h:Heap):Prop:=xs.length<=JN/\(a==WL)=false/\(xs.map (·.1)).Nodup/\∃o es ep,h.get? a=Dn o/\o.ExactDict/\o.data=.dict es ep/\es.toList=xs.map aiw
noncomputable def vL (K:BW)(H:Hp)(μ:Mu)(p:Addr):Cell->Prop
 | .lst ws=>∃xs,H p=Dn (.lst xs)/\aY K H μ ws xs
 | .obj C fs=>∃dx fvs,H p=Dn (.ins C dx fvs)/\uz K H μ fs fvs
 | .dct kvs=>∃kvv,H p=Dn (.dK kvv)/\uz K H μ kvs kvv
 | .dtt kvs=>∃xs vs,H p=Dn (.ext (ah4 p xs))/\kvs.map (·.1)=xs.map (·.1)/\CZ vs (xs.map (·.2.2))/\aY K H μ (kvs.map λx=>W.tup (x.1.map W.int)) (xs.map λx=>V.ref x.2.1)/\aY K H μ (kvs.map (·.2)) vs
structure Iu (K:BW) (μ:Mu) (H:Hp) (h:Gh):Prop where
 inj:∀m n p,μ.f m=Dn p->μ.f n=Dn p->m=n
 dom:∀n p,μ.f n=Dn p->n<h.nx
 trk:∀n p,μ.f n=Dn p->aeK (H p)
 cel:∀n c,h.c n=Dn c->∃p,μ.f n=Dn p/\vL K H μ p c
 hd:∀p,μ.hid p->(∃xs,H p=Dn (.lst xs))/\∀n,μ.f n≠Dn p
theorem vL.ext {p c}(e:Ji K H μ H' μ')(G:H' p=H p)(x:vL K H μ p c):vL K H' μ' p c:=by
 cases c with
 | lst ws=>obtain⟨xs,a,b⟩:=x;exact⟨xs,G.trans a,e.s b⟩
 | obj C fs=>obtain⟨dx,fvs,a,b⟩:=x;exact⟨dx,fvs,G.trans a,Paired.mapP b λ_ _ z=>⟨z.1,e.r _ _ z.2⟩⟩
 | dct kvs=>obtain⟨kvv,a,b⟩:=x;exact⟨kvv,G.trans a,Paired.mapP b λ_ _ z=>⟨z.1,e.r _ _ z.2⟩⟩
 | dtt kvs=>obtain⟨xs,J,a,b,c,d,f⟩:=x;exact⟨xs,J,G.trans a,b,c,e.s d,e.s f⟩
theorem Rd.laid {p q:Addr}{o u:HO}(G:H p=Go)(r:Rd H q u):Rd (Iz H p o) q u:=by
 have J:q≠p:=by
  rcases r with r|⟨_,r⟩
  exact aO r G;exact aO r G
 unfold Rd
 rwa[aJ J]
theorem Ex.laid {p:Addr}{o:HO}(G:H p=Go):Ex K H μ (Iz H p o) μ where
 t:=λq xs h=>by
  rcases h with h|h
  exact .inl<|h.laid G
  exact .inr h
 l:=λq xs h=>⟨aJ (aO h.1 G) ▸ h.1,h.2⟩
 k:=λq xs h=>by
  rcases h with⟨o',h⟩|h
  exact .inl ⟨o',aJ (aO h G) ▸ h⟩;exact .inr h
 m:=λ_ _ h=>h
 x:=λq o' u e=>aJ (aO e G) ▸ e
 y:=λq fs e=>aJ (aO e G) ▸ e
 o:=λq u z e=>⟨z,aJ (aO e G) ▸ e⟩
theorem Iu.laid {p:Addr}{o:HO}(R:Iu K μ H h)(G:H p=Go):Iu K μ (Iz H p o) h where
 inj:=R.inj
 dom:=R.dom
 trk:=λn q e=>by
  have:=R.trk n q e
  rw[aJ (λz=>by subst z;rw[G]at this;exact this)];exact this
 cel:=λn c e=>by
  obtain⟨q,e1,x⟩:=R.cel n c e;have:=R.trk n q e1
  exact⟨q,e1,x.ext (Ex.laid G).ext (aJ (λz=>by subst z;rw[G]at this;exact this))⟩
 hd:=λq z=>by
  obtain⟨⟨xs,e⟩,g⟩:=R.hd q z;exact⟨⟨xs,aJ (aO e G) ▸ e⟩,g⟩
theorem CR.tupNew {p}(G:H p=Go)(r:aY K H μ ws xs):CR K (Iz H p (.tup xs)) μ (.tup ws) (.ref p):=⟨p,xs,rfl,Lq.of aV,(Ex.laid G).ext.s r⟩
theorem CR.lstNew {p}(R:Iu K μ H h)(G:H p=Go)(r:aY K H μ ws xs):CR K (Iz H p (.lst xs)) μ (.lst ws) (.ref p):=by
 refine⟨p,xs,rfl,⟨aV,λn e=>?_,λz=>?_⟩,(Ex.laid G).ext.s r⟩;have:=R.trk n p e
 rwa[G]at this
 obtain⟨⟨xs,e⟩,_⟩:=R.hd p z;simp_all
noncomputable def Mu.put (μ:Mu)(n:Nat)(p:Addr):Mu:=⟨λm=>if m=n then Dn p else μ.f m,μ.hid⟩
theorem Mu.put_same {n:Nat}{p:Addr}:(μ.put n p).f n=Dn p:=by show(if n=n then Dn p else μ.f n)=_;rw[if_pos rfl]
theorem Mu.put_ne {n}{p}(e:m≠n):(μ.put n p).f m=μ.f m:=by show(if m=n then Dn p else μ.f m)=_;rw[if_neg e]
noncomputable def Gh.new (h:Gh)(c:Cell):Gh:=⟨h.nx+1,λm=>if m=h.nx then Dn c else h.c m⟩
noncomputable def Gh.set (h:Gh)(n:Nat)(c:Cell):Gh:=⟨h.nx,λm=>if m=n then Dn c else h.c m⟩
theorem Iu.dead (R:Iu K μ H h){n}(G:h.nx<=n):μ.f n=Go:=by
 cases e:μ.f n with
 | none=>rfl
 | some p=>exact absurd (R.dom n p e) (by lia)
theorem Ex.newCell {p:Addr}{o:HO}(R:Iu K μ H h)(G:H p=Go):Ex K H μ (Iz H p o) (μ.put h.nx p) where
 t:=λq xs z=>(Ex.laid (μ:=μ) G).t q xs z
 l:=λq xs z=>by
  have O:=aO z.1 G;refine⟨aJ O ▸ z.1,λn e=>?_,z.2.2⟩;by_cases J:n=h.nx
  subst J;rw[Mu.put_same]at e;simp_all
  rw[Mu.put_ne J]at e;exact z.2.1 n e
 k:=λq xs z=>(Ex.laid (μ:=μ) G).k q xs z
 m:=λn q e=>by
  rw[Mu.put_ne (λz=>by subst z;rw[R.dead (JL _)]at e;cases e)];exact e
 x:=λq o' u e=>aJ (aO e G) ▸ e
 y:=λq fs e=>aJ (aO e G) ▸ e
 o:=λq u z e=>⟨z,aJ (aO e G) ▸ e⟩
theorem Iu.newCell {p:Addr}{o:HO}{c:Cell}(R:Iu K μ H h)(O:H p=Go)(mo:aeK (Dn o))(i:vL K (Iz H p o) (μ.put h.nx p) p c):Iu K (μ.put h.nx p) (Iz H p o) (h.new c) where
 inj:=λm n q Y J=>by
  by_cases a:m=h.nx
  by_cases G:n=h.nx
  rw[a,G];rw[a,Mu.put_same]at Y;rw[Mu.put_ne G]at J;cases Ma Y
  have:=R.trk n _ J
  rw[O]at this;cases this;rw[Mu.put_ne a]at Y;by_cases G:n=h.nx
  rw[G,Mu.put_same]at J;obtain rfl:=Ma J;have:=R.trk m _ Y
  rw[O]at this;cases this;rw[Mu.put_ne G]at J;exact R.inj m n q Y J
 dom:=λn q e=>by
  show n<h.nx+1;by_cases G:n=h.nx
  lia;rw[Mu.put_ne G]at e;have:=R.dom n q e
  lia
 trk:=λn q e=>by
  by_cases G:n=h.nx
  rw[G,Mu.put_same]at e;obtain rfl:=Ma e;rw[aV];exact mo;rw[Mu.put_ne G]at e;have:=R.trk n q e
  have U:q≠p:=λz=>by subst z;rw[O]at this;exact this
  rw[aJ U];exact this
 cel:=λn d e=>by
  have e:(if n=h.nx then Dn c else h.c n)=Dn d:=e;by_cases G:n=h.nx
  rw[if_pos G]at e;obtain rfl:=Ma e;exact⟨p,by rw[G,Mu.put_same],i⟩;rw[if_neg G]at e;obtain⟨q,e1,x⟩:=R.cel n d e;have:=R.trk n q e1
  have U:q≠p:=λz=>by subst z;rw[O]at this;exact this
  exact⟨q,by rwa[Mu.put_ne G],x.ext (Ex.newCell R O).ext (aJ U)⟩
 hd:=λq z=>by
  obtain⟨⟨xs,e⟩,g⟩:=R.hd q z;have U:=aO e O;refine⟨⟨xs,aJ U ▸ e⟩,λn J=>?_⟩;by_cases G:n=h.nx
  rw[G,Mu.put_same]at J;grind
  rw[Mu.put_ne G]at J;exact g n J
theorem Rd.kept {p q o u}(mo:aeK (H p))(r:Rd H q u)(G:q≠p):Rd (Iz H p o) q u:=by
 unfold Rd
 rwa[aJ G]
theorem Ex.write {n:Nat}{p:Addr}{o:HO}(R:Iu K μ H h)(G:μ.f n=Dn p):Ex K H μ (Iz H p o) μ where
 t:=λq xs z=>by
  rcases z with z|z
  refine .inl<|z.kept (R.trk n p G) λe=>?_
  subst e;have:=R.trk n q G
  rcases z with r|⟨_,r⟩<;>rw[r]at this<;>exact this
  exact .inr z
 l:=λq xs z=>⟨by rw[aJ (λe=>z.2.1 n (by rwa[e]))];exact z.1,z.2⟩
 k:=λq xs z=>by
  rcases z with⟨o',z⟩|z
  refine .inl ⟨o',?_⟩;rw[aJ (λe=>?_)];exact z;subst e;have:=R.trk n q G
  rwa[z]at this
  exact .inr z
 m:=λ_ _ e=>e
 x:=λq o' u e=>by
  rw[aJ (λy=>?_)];exact e;subst y;have:=R.trk n q G
  rwa[e]at this
 y:=λq fs e=>by
  rw[aJ (λy=>?_)];exact e;subst y;have:=R.trk n q G
  rwa[e]at this
 o:=λq u z e=>⟨z,by rw[aJ (λy=>(R.hd q z).2 n (by rwa[y]))];exact e⟩
theorem Iu.write {n:Nat}{p:Addr}{o:HO}{c:Cell}(R:Iu K μ H h)(G:μ.f n=Dn p)(mo:aeK (Dn o))(b:vL K (Iz H p o) μ p c):Iu K μ (Iz H p o) (h.set n c) where
 inj:=R.inj
 dom:=R.dom
 trk:=λm q e=>by
  by_cases z:q=p
  subst z;rw[aV];exact mo;rw[aJ z];exact R.trk m q e
 cel:=λm d e=>by
  have e:(if m=n then Dn c else h.c m)=Dn d:=e;by_cases J:m=n
  simp_all
  rw[if_neg J]at e;obtain⟨q,e1,x⟩:=R.cel m d e;exact⟨q,e1,x.ext (Ex.write R G).ext (aJ (λz=>by subst z;exact J (R.inj m n q e1 G)))⟩
 hd:=λq z=>by
  obtain⟨⟨xs,e⟩,g⟩:=R.hd q z;exact⟨⟨xs,by rw[aJ<|λy=>g n<|by rwa[y]];exact e⟩,g⟩
mutual
noncomputable def Lo (k:Nat):W->Prop
 | .tup ws=>N5 k ws
 | .lst ws=>N5 k ws
 | .kls ws=>N5 k ws
 | .exa _ ws=>N5 k ws
 | .loc n=>n<k
 | _=>True
noncomputable def N5 (k:Nat):List W->Prop
 | []=>True
 | w::ws=>Lo k w/\N5 k ws
end
mutual
theorem CR.lo {k:Nat}(hd:∀n p,μ.f n=Dn p->n<k):∀{w:W}{v:V},CR K H μ w v->Lo k w
 | .non,_,_=>by rw[Lo]<;>first|trivial|(intros;contradiction)
 | .bl _,_,_=>by rw[Lo]<;>first|trivial|(intros;contradiction)
 | .int _,_,_=>by rw[Lo]<;>first|trivial|(intros;contradiction)
 | .str _,_,_=>by rw[Lo]<;>first|trivial|(intros;contradiction)
 | .ty _,_,_=>by rw[Lo]<;>first|trivial|(intros;contradiction)
 | .exc _,_,_=>by rw[Lo]<;>first|trivial|(intros;contradiction)
 | .fnv _ _,_,_=>by rw[Lo]<;>first|trivial|(intros;contradiction)
 | .exa _ ws,_,h=>by
  rw[CR]at h;obtain⟨_,_,_,_,_,_,_,_,_,_,_,_,hr⟩:=h;rw[Lo];exact aY.lo hd hr
 | .tup ws,_,h=>by
  rw[CR]at h;obtain⟨p,xs,_,_,hr⟩:=h;rw[Lo];exact aY.lo hd hr
 | .lst ws,_,h=>by
  rw[CR]at h;obtain⟨p,xs,_,_,hr⟩:=h;rw[Lo];exact aY.lo hd hr
 | .kls ws,_,h=>by
  rw[CR]at h;obtain⟨p,xs,_,_,hr⟩:=h;rw[Lo];exact aY.lo hd hr
 | .loc n,_,h=>by
  rw[CR]at h;obtain⟨p,_,hm⟩:=h;rw[Lo];exact hd n p hm
theorem aY.lo {k:Nat}(hd:∀n p,μ.f n=Dn p->n<k):∀{ws:List W}{xs:List V},aY K H μ ws xs->N5 k ws
 | [],_,_=>by rw[N5];trivial
 | w::ws,_,h=>by
  rw[aY]at h;obtain⟨v,vs,_,r,h⟩:=h;rw[N5];exact⟨CR.lo hd r,aY.lo hd h⟩
end
noncomputable def Mu.cut (μ:Mu)(k:Nat):Mu:=⟨λn=>if n<k then μ.f n else Go,μ.hid⟩
theorem Mu.cut_some {k n p}(e:(μ.cut k).f n=Dn p):n<k/\μ.f n=Dn p:=by
 have e:(if n<k then μ.f n else Go)=Dn p:=e;simp_all
mutual
theorem CR.cut {k:Nat}:∀{w:W}{v:V},CR K H μ w v->Lo k w->CR K H (μ.cut k) w v
 | .non,_,h,_=>by rw[CR]at h|-;exact h
 | .bl _,_,h,_=>by rw[CR]at h|-;exact h
 | .int _,_,h,_=>by rw[CR]at h|-;exact h
 | .str _,_,h,_=>by rw[CR]at h|-;exact h
 | .ty _,_,h,_=>by rw[CR]at h|-;exact h
 | .exc _,_,h,_=>by rw[CR]at h|-;exact h
 | .fnv _ _,_,h,_=>by rw[CR]at h|-;exact h
 | .exa _ ws,_,h,l=>by
  rw[CR]at h|-
  rw[Lo]at l;obtain⟨p,o,u,dd,ns,xs,e1,hm,hx,hd,e2,e3,hr⟩:=h;exact⟨p,o,u,dd,ns,xs,e1,hm,hx,hd,e2,e3,aY.cut hr l⟩
 | .tup ws,_,h,l=>by
  rw[CR]at h|-
  rw[Lo]at l;obtain⟨p,xs,e1,hs,hr⟩:=h;exact⟨p,xs,e1,hs,aY.cut hr l⟩
 | .lst ws,_,h,l=>by
  rw[CR]at h|-
  rw[Lo]at l;obtain⟨p,xs,e1,hs,hr⟩:=h;exact⟨p,xs,e1,⟨hs.1,λn e=>hs.2.1 n (Mu.cut_some e).2,hs.2.2⟩,aY.cut hr l⟩
 | .kls ws,_,h,l=>by
  rw[CR]at h|-
  rw[Lo]at l;obtain⟨p,xs,e1,hs,hr⟩:=h;exact⟨p,xs,e1,hs,aY.cut hr l⟩
 | .loc n,_,h,l=>by
  rw[CR]at h|-
  rw[Lo]at l;obtain⟨p,e1,hm⟩:=h;refine⟨p,e1,?_⟩;show(if n<k then μ.f n else Go)=Dn p;rw[if_pos l];exact hm
theorem aY.cut {k:Nat}:∀{ws:List W}{xs:List V},aY K H μ ws xs->N5 k ws->aY K H (μ.cut k) ws xs
 | [],_,h,_=>by rw[aY]at h|-;exact h
 | w::ws,_,h,l=>by
  rw[aY]at h|-
  rw[N5]at l;obtain⟨v,vs,e1,r,h⟩:=h;exact⟨v,vs,e1,CR.cut r l.1,aY.cut h l.2⟩
end
end
variable {ws:List W}{μ' μ1:Mu}
section
variable {K:BW}{H H' H1 H2:Hp}{μ2:Mu}{h h':Gh}{w:W}{v:V}{xs ys:List V}{p:Addr}
noncomputable def Mu.hide (μ:Mu)(p:Addr):Mu:=⟨μ.f,λq=>q=p\/μ.hid q⟩
noncomputable def Mu.unhide (μ:Mu)(p:Addr):Mu:=⟨μ.f,λq=>q≠p/\μ.hid q⟩
structure aaP (p:Addr) (K:BW) (H:Hp) (μ:Mu) (H':Hp) (μ':Mu):Prop where
 r:∀w v,CR K H μ w v->CR K H' μ' w v
 o:∀q u,q≠p->μ.hid q->H q=Dn u->μ'.hid q/\H' q=Dn u
theorem Ji.x (a:Ji K H μ H1 μ1)(J:¬μ.hid p)(b:aaP p K H1 μ1 H2 μ2):Ji K H μ H2 μ2:=
 ⟨λw v z=>b.r w v (a.r w v z),λq u z e=>let⟨G,e1⟩:=a.o q u z e;b.o q u (λy=>J (y ▸ z)) G e1⟩
theorem Ji.hide {o}(G:H p=Go):Ji K H μ (Iz H p o) (μ.hide p):=Ex.ext {
 t:=λq xs z=>(Ex.laid (μ:=μ) G).t q xs z
 l:=λq xs z=>by
  have J:=aO z.1 G;refine⟨aJ J ▸ z.1,z.2.1,λy=>?_⟩;rcases y with y|y
  exact J y;exact z.2.2 y
 k:=λq xs z=>(Ex.laid (μ:=μ) G).k q xs z
 m:=λ_ _ e=>e
 x:=λq o' u e=>aJ (aO e G) ▸ e
 y:=λq fs e=>aJ (aO e G) ▸ e
 o:=λq u z e=>⟨.inr z,aJ (aO e G) ▸ e⟩}
theorem Iu.nohid (R:Iu K μ H h)(G:H p=Go):¬μ.hid p:=λz=>by
 obtain⟨⟨xs,e⟩,_⟩:=R.hd p z;simp_all
theorem Iu.hide (R:Iu K μ H h)(G:H p=Go):Iu K (μ.hide p) (Iz H p (.lst xs)) h where
 inj:=R.inj
 dom:=R.dom
 trk:=(R.laid G).trk
 cel:=λn c e=>by
  obtain⟨q,e1,x⟩:=R.cel n c e;have:=R.trk n q e1
  exact⟨q,e1,x.ext (Ji.hide G)<|aJ (λz=>by subst z;rw[G]at this;exact this)⟩
 hd:=λq z=>by
  rcases z with z|z
  subst z;refine⟨⟨xs,aV⟩,λn e=>?_⟩;have:=R.trk n q e
  rwa[G]at this
  exact(R.laid G).hd q z
theorem Ex0.grow (R:Iu K μ H h)(J:μ.hid p):Ex0 K H μ (Iz H p (.lst ys)) μ where
 t:=λq xs z=>by
  rcases z with z|z
  refine .inl ?_;unfold Rd;rw[aJ (λy=>?_)];exact z;subst y;obtain⟨⟨G,e⟩,_⟩:=R.hd q J;rcases z with r|⟨_,r⟩<;>rw[e]at r<;>cases r
  exact .inr z
 l:=λq xs z=>⟨by rw[aJ (λy=>z.2.2 (by rwa[y]))];exact z.1,z.2⟩
 k:=λq xs z=>by
  rcases z with⟨o',z⟩|z
  refine .inl ⟨o',?_⟩;rw[aJ (λy=>?_)];exact z;subst y;obtain⟨⟨G,e⟩,_⟩:=R.hd q J;simp_all
  exact .inr z
 m:=λ_ _ e=>e
 x:=λq o' u e=>by
  rw[aJ (λy=>?_)];exact e;subst y;obtain⟨⟨G,e'⟩,_⟩:=R.hd q J;simp_all
 y:=λq fs e=>by
  rw[aJ (λy=>?_)];exact e;subst y;obtain⟨⟨G,e'⟩,_⟩:=R.hd q J;simp_all
theorem aaP.grow (R:Iu K μ H h)(J:μ.hid p):aaP p K H μ (Iz H p (.lst ys)) μ:=
 ⟨λ_ _ z=>CR.ex (Ex0.grow R J) z,λq u G z e=>⟨z,aJ G ▸ e⟩⟩
theorem Iu.grow (R:Iu K μ H h)(G:μ.hid p):Iu K μ (Iz H p (.lst ys)) h where
 inj:=R.inj
 dom:=R.dom
 trk:=λn q e=>by
  have J:q≠p:=λz=>(R.hd p G).2 n (z ▸ e)
  rw[aJ J];exact R.trk n q e
 cel:=λn c e=>by
  obtain⟨q,e1,x⟩:=R.cel n c e;have J:q≠p:=λz=>(R.hd p G).2 n (z ▸ e1)
  refine⟨q,e1,?_⟩;cases c with
  | lst ws=>obtain⟨xs,a,b⟩:=x;exact⟨xs,(aJ J).trans a,aY.ex (Ex0.grow R G) b⟩
  | obj C fs=>obtain⟨dx,fvs,a,b⟩:=x;exact⟨dx,fvs,(aJ J).trans a,Paired.mapP b λ_ _ z=>⟨z.1,CR.ex (Ex0.grow R G) z.2⟩⟩
  | dct kvs=>obtain⟨kvv,a,b⟩:=x;exact⟨kvv,(aJ J).trans a,Paired.mapP b λ_ _ z=>⟨z.1,CR.ex (Ex0.grow R G) z.2⟩⟩
  | dtt kvs=>obtain⟨xs,O,a,b,c,d,f⟩:=x;exact⟨xs,O,(aJ J).trans a,b,c,aY.ex (Ex0.grow R G) d,aY.ex (Ex0.grow R G) f⟩
 hd:=λq z=>by
  by_cases e:q=p
  subst e;exact⟨⟨ys,aV⟩,(R.hd q G).2⟩;rw[aJ e];exact R.hd q z
theorem Ex0.unhide:Ex0 K H μ H (μ.unhide p) where
 t:=λ_ _ z=>z
 l:=λq xs z=>⟨z.1,z.2.1,λy=>z.2.2 y.2⟩
 k:=λ_ _ z=>z
 m:=λ_ _ e=>e
 x:=λ_ _ _ e=>e
 y:=λ_ _ e=>e
theorem aaP.unhide:aaP p K H μ H (μ.unhide p):=⟨λ_ _ z=>CR.ex Ex0.unhide z,λq u G z e=>⟨⟨G,z⟩,e⟩⟩
theorem Iu.unhide (R:Iu K μ H h):Iu K (μ.unhide p) H h where
 inj:=R.inj
 dom:=R.dom
 trk:=R.trk
 cel:=λn c e=>by
  obtain⟨q,e1,x⟩:=R.cel n c e;refine⟨q,e1,?_⟩;cases c with
  | lst ws=>obtain⟨xs,a,b⟩:=x;exact⟨xs,a,aY.ex Ex0.unhide b⟩
  | obj C fs=>obtain⟨dx,fvs,a,b⟩:=x;exact⟨dx,fvs,a,Paired.mapP b λ_ _ z=>⟨z.1,CR.ex Ex0.unhide z.2⟩⟩
  | dct kvs=>obtain⟨kvv,a,b⟩:=x;exact⟨kvv,a,Paired.mapP b λ_ _ z=>⟨z.1,CR.ex Ex0.unhide z.2⟩⟩
  | dtt kvs=>obtain⟨xs,G,a,b,c,d,f⟩:=x;exact⟨xs,G,a,b,c,aY.ex Ex0.unhide d,aY.ex Ex0.unhide f⟩
 hd:=λq z=>R.hd q z.2
theorem CR.built (R:Iu K μ H h)(G:μ.hid p)(e:H p=Dn (.lst xs))(r:aY K H μ ws xs):CR K H (μ.unhide p) (.lst ws) (.ref p):=⟨p,xs,rfl,⟨e,(R.hd p G).2,λz=>z.1 rfl⟩,aY.ex Ex0.unhide r⟩
end
noncomputable abbrev Sw:=List (Option W)
noncomputable abbrev WK:=W->Gh->Prop
noncomputable abbrev ME:=Sw->Gh->WK->Prop
noncomputable abbrev MT:=Sw->Gh->(Bool->Gh->Prop)->Prop
noncomputable abbrev MA:=Sw->Gh->(List W->Gh->Prop)->Prop
structure bI where
 nx:Sw->Gh->Prop
 rt:WK
 bk:Sw->Gh->Prop:=λ_ _=>False
 ct:Sw->Gh->Prop:=λ_ _=>False
noncomputable abbrev MS:=bI->Sw->Gh->Prop
noncomputable abbrev MG:=W->Sw->Gh->(Sw->Gh->Prop)->Prop
noncomputable abbrev TF:=List W->Sw->Gh->(Sw->Gh->Prop)->Prop
structure Xw where
 cls:Str
 fs:List (Str×W)
noncomputable abbrev Bm:=Xw->Gh->Prop
noncomputable abbrev AP:=List W->Gh->WK->Bm->Prop
noncomputable def EF:Bm:=λ_ _=>False
structure Slots (K:BW) (H:Hp) (μ:Mu) (σw:Sw) (σ:St):Prop where
 len:σw.length=σ.length
 get:∀(i:Nat) (w:W),σw[i]?=Dn (Dn w)->∃v,σ[i]?=Dn (Dn v)/\CR K H μ w v
inductive DQ (K:BW) (H:Hp) (μ:Mu) (Q:WK) (v:V) (H':Hp):Prop where
 | mk (μ':Mu) (w:W) (h':Gh) (e:Ji K H μ H' μ') (R:Iu K μ' H' h') (r:CR K H' μ' w v) (q:Q w h'):DQ K H μ Q v H'
inductive DB (K:BW) (H:Hp) (μ:Mu) (Q:Bool->Gh->Prop) (b:Bool) (H':Hp):Prop where
 | mk (μ':Mu) (h':Gh) (e:Ji K H μ H' μ') (R:Iu K μ' H' h') (q:Q b h'):DB K H μ Q b H'
inductive DA (K:BW) (H:Hp) (μ:Mu) (Q:List W->Gh->Prop) (vs:List V) (H':Hp):Prop where
 | mk (μ':Mu) (ws:List W) (h':Gh) (e:Ji K H μ H' μ') (R:Iu K μ' H' h') (r:aY K H' μ' ws vs) (q:Q ws h'):DA K H μ Q vs H'
inductive DN (K:BW) (H:Hp) (μ:Mu) (N:Sw->Gh->Prop) (σ':St) (H':Hp):Prop where
 | mk (μ':Mu) (σw':Sw) (h':Gh) (e:Ji K H μ H' μ') (R:Iu K μ' H' h') (S:Slots K H' μ' σw' σ') (q:N σw' h'):DN K H μ N σ' H'
section
variable {K:BW}{H H' H1 H2:Hp}{μ2:Mu}{h h' h1:Gh}{w:W}{v:V}{σ:St}{σw:Sw}
theorem Slots.ext (S:Slots K H μ σw σ)(e:Ji K H μ H' μ'):Slots K H' μ' σw σ:=⟨S.len,λi w q=>let⟨v,a,b⟩:=S.get i w q;⟨v,a,e.r _ _ b⟩⟩
theorem Slots.set (S:Slots K H μ σw σ)(r:CR K H μ w v)(i):Slots K H μ (σw.set i (Dn w)) (σ.set i (Dn v)):=by
 refine⟨by rw[Ze,Ze,S.len],λj u q=>?_⟩;rw[List.getElem?_set]at q|-
 by_cases G:i=j
 rw[if_pos G]at q|-
 by_cases hl:i < σw.length
 rw[if_pos hl]at q;rw[if_pos (S.len ▸ hl)];simp_all
 simp_all
 rw[if_neg G]at q|-
 exact S.get j u q
theorem DQ.trans {Q}(e:Ji K H μ H1 μ1)(q:DQ K H1 μ1 Q v H'):DQ K H μ Q v H':=let⟨μ',w,h',a,b,c,d⟩:=q;⟨μ',w,h',e.trans a,b,c,d⟩
theorem DB.trans {Q b}(e:Ji K H μ H1 μ1)(q:DB K H1 μ1 Q b H'):DB K H μ Q b H':=let⟨μ',h',a,b,c⟩:=q;⟨μ',h',e.trans a,b,c⟩
theorem DN.trans {N σ'}(e:Ji K H μ H1 μ1)(q:DN K H1 μ1 N σ' H'):DN K H μ N σ' H':=let⟨μ',w,h',a,b,c,d⟩:=q;⟨μ',w,h',e.trans a,b,c,d⟩
end
variable {σw:Sw}
inductive tD (K:BW) (m:ME) (σ:St) (H:Hp) (Q:VK):Prop where
 | mk (μ:Mu) (h:Gh) (σw:Sw) (Qw:WK) (R:Iu K μ H h) (S:Slots K H μ σw σ) (x:m σw h Qw) (k:∀v H',DQ K H μ Qw v H'->Q v H'):tD K m σ H Q
inductive tDT (K:BW) (m:MT) (σ:St) (H:Hp) (Q:Bool->Hp->Prop):Prop where
 | mk (μ:Mu) (h:Gh) (σw:Sw) (Qw:Bool->Gh->Prop) (R:Iu K μ H h) (S:Slots K H μ σw σ) (x:m σw h Qw) (k:∀b H',DB K H μ Qw b H'->Q b H'):tDT K m σ H Q
inductive tDA (K:BW) (m:MA) (σ:St) (H:Hp) (Q:List V->Hp->Prop):Prop where
 | mk (μ:Mu) (h:Gh) (σw:Sw) (Qw:List W->Gh->Prop) (R:Iu K μ H h) (S:Slots K H μ σw σ) (x:m σw h Qw) (k:∀vs H',DA K H μ Qw vs H'->Q vs H'):tDA K m σ H Q
inductive tDG (K:BW) (g:MG) (v:V) (σ:St) (H:Hp) (N:St->Hp->Prop):Prop where
 | mk (μ:Mu) (h:Gh) (σw:Sw) (w:W) (Nw:Sw->Gh->Prop) (R:Iu K μ H h) (S:Slots K H μ σw σ) (r:CR K H μ w v) (x:g w σw h Nw) (k:∀σ' H',DN K H μ Nw σ' H'->N σ' H'):tDG K g v σ H N
inductive ag4 (K:BW) (g:TF) (vs:List V) (σ:St) (H:Hp) (N:St->Hp->Prop):Prop where
 | mk (μ:Mu) (h:Gh) (σw:Sw) (ws:List W) (Nw:Sw->Gh->Prop) (R:Iu K μ H h) (S:Slots K H μ σw σ) (r:aY K H μ ws vs) (x:g ws σw h Nw) (k:∀σ' H',DN K H μ Nw σ' H'->N σ' H'):ag4 K g vs σ H N
structure zR (K:BW) (H:Hp) (μ:Mu) (Dw:bI) (D:Ends):Prop where
 nx:∀σ' H',DN K H μ Dw.nx σ' H'->D.nx σ' H'
 rt:∀v H',DQ K H μ Dw.rt v H'->D.rt v H'
 bk:∀σ' H',DN K H μ Dw.bk σ' H'->D.bk σ' H'
 ct:∀σ' H',DN K H μ Dw.ct σ' H'->D.ct σ' H'
inductive tDS (K:BW) (m:MS) (D:Ends) (σ:St) (H:Hp):Prop where
 | mk (μ:Mu) (h:Gh) (σw:Sw) (Dw:bI) (R:Iu K μ H h) (S:Slots K H μ σw σ) (x:m Dw σw h) (k:zR K H μ Dw D):tDS K m D σ H
theorem zR.trans {K}{H H1 μ μ1 Dw}{D}(k:zR K H μ Dw D)(e:Ji K H μ H1 μ1):zR K H1 μ1 Dw D:=
 ⟨λ_ _ q=>k.nx _ _ (q.trans e),λ_ _ q=>k.rt _ _ (q.trans e),λ_ _ q=>k.bk _ _ (q.trans e),λ_ _ q=>k.ct _ _ (q.trans e)⟩
section
variable {X:Cx}{e:Expr}{es:List Expr}{st:Stmt}{sts:List Stmt}
theorem PE.of {t t'}(h:PE X e t)(k:∀σ H Q,t' σ H Q->t σ H Q):PE X e t':=λaor s σ H Q I q=>h aor s σ H Q I (k σ H Q q)
theorem PT.of {t t':TT}(h:PT X e t)(k:∀σ H Q,t' σ H Q->t σ H Q):PT X e t':=λaor s σ H Q I q=>h aor s σ H Q I (k σ H Q q)
theorem PW.of {t t'}(h:PW X e t)(k:∀σ H Q,t' σ H Q->t σ H Q):PW X e t':=λwh aor s σ H Q I q=>h wh aor s σ H Q I (k σ H Q q)
theorem PA.of {t t'}(h:PA X es t)(k:∀σ H Q,t' σ H Q->t σ H Q):PA X es t':=λpos aor s σ H Q I q=>h pos aor s σ H Q I (k σ H Q q)
theorem PG.of {t t'}(h:PG X e t)(k:∀v σ H Q,t' v σ H Q->t v σ H Q):PG X e t':=λaor s σ H v u Q I r q=>h aor s σ H v u Q I r (k v σ H Q q)
theorem XM.of {t t'}(h:XM X es t)(k:∀v σ H Q,t' v σ H Q->t v σ H Q):XM X es t':=λaor s σ H v u Q I r q=>h aor s σ H v u Q I r (k v σ H Q q)
theorem PS.of {t t'}(h:PS X st t)(k:∀D σ H,t' D σ H->t D σ H):PS X st t':=λaor s σ H D I q=>h aor s σ H D I (k D σ H q)
theorem RB.of {t t':TS}(h:RB X sts t)(k:∀D σ H,t' D σ H->t D σ H):RB X sts t':=λaor s σ H D I q=>h aor s σ H D I (k D σ H q)
end
noncomputable abbrev DE (X:Cx)(e:Expr)(m:ME):Prop:=PE X e (tD X.K m)
noncomputable abbrev DT (X:Cx)(e:Expr)(m:MT):Prop:=PT X e (tDT X.K m)
noncomputable abbrev DWt (X:Cx)(e:Expr)(m:MT):Prop:=PW X e (tDT X.K m)
noncomputable abbrev NQ (X:Cx)(es:List Expr)(m:MA):Prop:=PA X es (tDA X.K m)
noncomputable abbrev DG (X:Cx)(e:Expr)(m:MG):Prop:=PG X e (tDG X.K m)
noncomputable abbrev aeD (X:Cx)(es:List Expr)(m:TF):Prop:=XM X es (ag4 X.K m)
noncomputable abbrev DS (X:Cx)(st:Stmt)(m:MS):Prop:=PS X st (tDS X.K m)
noncomputable abbrev Tw (X:Cx)(st:List Stmt)(m:MS):Prop:=RB X st (tDS X.K m)
section
variable {X:Cx}{e a b c:Expr}{ma mb mc:ME}{pos:Pos}
noncomputable def ao (i:Nat):ME:=fun σ h Q=>match σ[i]? with
 | some (Dn w)=>Q w h
 | _=>False
noncomputable def mC (w:W):ME:=λ_ h Q=>Q w h
theorem dv (i)(G:PE X e (ad0 i)):DE X e (ao i):=G.of fun σ H Q a=>by
 obtain⟨μ,h,σw,J,R,S,m,k⟩:=a;unfold ao at m;cases q:σw[i]? with
 | none=>rw[q]at m;exact m.elim
 | some o=>
  rw[q]at m;cases o with
  | none=>cases m
  | some w=>
   obtain⟨v,h1,h2⟩:=S.get i w q;exact⟨v,h1,k _ _ ⟨μ,w,h,.refl,R,h2,m⟩⟩
theorem dc {w v}(G:PE X e (tC v))(r:∀H μ,CR X.K H μ w v):DE X e (mC w):=G.of fun σ H Q a=>by obtain⟨μ,h,σw,J,R,S,m,k⟩:=a;exact k _ _ ⟨μ,w,h,.refl,R,r H μ,m⟩
theorem au {i}{j pos}:DE X (.Constant (.int i) j pos) (mC (.int i)):=dc aed λ_ _=>by rw[CR]
theorem Vw {i}{j pos}:DE X (.Constant (.bool i) j pos) (mC (.bl i)):=dc af4 λ_ _=>by rw[CR]
theorem Yn {j pos}:DE X (.Constant .none j pos) (mC .non):=dc adn λ_ _=>by rw[CR]
theorem aQ {i}{j pos}:DE X (.Constant (.str i) j pos) (mC (.str i)):=dc Vn λ_ _=>by rw[CR]
noncomputable abbrev M2:=W->W->Gh->WK->Prop
noncomputable def Mk (r:M2)(ma mb:ME):ME:=fun σ h Q=>ma σ h λx h1=>mb σ h1 λy h2=>r x y h2 Q
noncomputable def ahb (K:BW)(r:R2)(mr:M2):Prop:=∀{H:Hp}{μ:Mu}{h:Gh}{x y:V}{J G:W}{O:WK}{Q:VK},Iu K μ H h->CR K H μ J x->CR K H μ G y->mr J G h O ->
 (∀v H',DQ K H μ O v H'->Q v H')->r x y H Q
theorem two {K σ H Q}{mr}{G:V->V->Hp->Prop}(h:tD K (Mk mr ma mb) σ H Q)
  (k:∀{H2 μ2 h2 x y}{O J U},Iu K μ2 H2 h2->CR K H2 μ2 O x->CR K H2 μ2 J y->mr O J h2 U->(∀v H',DQ K H2 μ2 U v H'->Q v H')->G x y H2) :
  tD K ma σ H λx H1=>tD K mb σ H1 λy H2=>G x y H2:=by
 obtain⟨μ,g,σw,U,R,S,m,q⟩:=h;exact⟨μ,g,σw,_,R,S,m,λx H1 a=>by obtain⟨μ1,O,h1,e1,d,c,m1⟩:=a;exact ⟨μ1,h1,σw,_,d,S.ext e1,m1,λy H2 b=>by obtain⟨μ2,J,h2,e2,R2,Y,m2⟩:=b;exact (k R2 (e2.r _ _ c) Y m2 λv H' z=>q _ _<|(z.trans e2).trans e1)⟩⟩
noncomputable def Qi (X:Cx)(f:JI->JI->Sem JI)(mr:M2):Prop:=∃r,Mv X f r/\ahb X.K r mr
theorem bG {G mr}(ho:Qi X (Qy G) mr)(ha:DE X a ma)(U:DE X b mb):DE X (.BinOp a G b pos) (Mk mr ma mb):=by
 obtain⟨r,o,s⟩:=ho;exact(aeU o ha U).of fun σ H Q h=>two h λR O J m k=>s R O J m k
theorem afo {G mr}(ho:Qi X (PJ G) mr)(ha:DE X a ma)(Y:DE X b mb)(U:Y8 G b=false):DE X (.Compare a [G] [b] pos) (Mk mr ma mb):=by
 obtain⟨r,o,s⟩:=ho;exact(akZ o ha Y U).of fun σ H Q h=>two h λR O J m k=>s R O J m k
noncomputable def bC (m:ME):MT:=fun σ h Q=>m σ h λw h1=>match w with
 | .bl c=>Q c h1
 | _=>False
theorem amu {K σ H m}{Q}(h:tDT K (bC m) σ H Q):tD K m σ H λx H'=>∃k,x=.bl k/\Q k H':=by
 obtain⟨μ,g,σw,O,R,S,mm,q⟩:=h;refine⟨μ,g,σw,_,R,S,mm,λv H' a=>?_⟩;obtain⟨μ1,w,h1,e1,J,G,m1⟩:=a;cases w with
 | bl c=>rw[CR]at G;exact⟨c,G,q _ _ ⟨μ1,h1,e1,J,m1⟩⟩
 | _=>exact m1.elim
theorem U5 {G mr}(ho:Qi X (PJ G) mr)(ha:DE X a ma)(Y:DE X b mb)(U:Y8 G b=false):DT X (.Compare a [G] [b] pos) (bC (Mk mr ma mb)):=by
 obtain⟨r,o,s⟩:=ho;exact(akl o ha Y U).of fun σ H Q h=>two (amu h) λR O J m k=>s R O J m k
noncomputable def K8 (c:Bool)(a b:Prop):Prop:=match c with
 | true=>a
 | false=>b
noncomputable def br (c:Bool)(a b:Prop):Prop:=(c=true->a)/\(c=false->b)
theorem mY {c}{a b}(e:c=true)(x:a):br c a b:=⟨λ_=>x,λz=>by rw[e]at z;cases z⟩
theorem cY {c}{a b}(e:c=false)(x:b):br c a b:=⟨λz=>(by rw[e]at z;cases z),λ_=>x⟩
theorem Ir {c}[Decidable c]{a b}(x:c->a)(y:¬c->b):br (decide c) a b:=⟨λe=>x (of_decide_eq_true e),λe=>y (of_decide_eq_false e)⟩
noncomputable def agH (t u:MT):MT:=fun σ h Q=>t σ h λc h1=>br c (u σ h1 Q) (Q false h1)
noncomputable def mOr (t u:MT):MT:=fun σ h Q=>t σ h λc h1=>br c (Q true h1) (u σ h1 Q)
noncomputable def ZV (t:MT):MT:=fun σ h Q=>t σ h λc h1=>Q (!c) h1
variable {tA tB':MT}{rest:List Expr}
theorem zcb (ha:DT X a tA):DWt X (.BoolOp .And [a] pos) tA:=aml ha
theorem En (ha:DT X a tA):DWt X (.BoolOp .Or [a] pos) tA:=acJ ha
theorem acB (ha:DT X a tA)(J:DWt X (.BoolOp .And (b::rest) pos) tB'):DWt X (.BoolOp .And (a::b::rest) pos) (agH tA tB'):=(acG ha J).of fun σ H Q e=>by
 obtain⟨μ,g,σw,O,R,S,m,q⟩:=e;refine⟨μ,g,σw,_,R,S,m,λc H1 d=>?_⟩;obtain⟨μ1,h1,e1,G,m1⟩:=d;cases c with
 | true=>
  exact⟨μ1,h1,σw,_,G,S.ext e1,m1.1 rfl,λb H' z=>q _ _<|z.trans e1⟩
 | false=>
  exact q _ _ ⟨μ1,h1,e1,G,m1.2 rfl⟩
theorem RD (ha:DT X a tA)(J:DWt X (.BoolOp .Or (b::rest) pos) tB'):DWt X (.BoolOp .Or (a::b::rest) pos) (mOr tA tB'):=(af7 ha J).of fun σ H Q e=>by
 obtain⟨μ,g,σw,O,R,S,m,q⟩:=e;refine⟨μ,g,σw,_,R,S,m,λc H1 d=>?_⟩;obtain⟨μ1,h1,e1,G,m1⟩:=d;cases c with
 | true=>
  exact q _ _ ⟨μ1,h1,e1,G,m1.1 rfl⟩
 | false=>
  exact⟨μ1,h1,σw,_,G,S.ext e1,m1.2 rfl,λb H' z=>q _ _<|z.trans e1⟩
theorem yM (ha:DT X a tA):DT X (.UnaryOp .Not a pos) (ZV tA):=(abM ha).of fun σ H Q ⟨μ,g,σw,J,R,S,m,q⟩=>
 ⟨μ,g,σw,_,R,S,m,λc H1 b=>by obtain⟨μ1,h1,e1,G,m1⟩:=b;exact q _ _ ⟨μ1,h1,e1,G,m1⟩⟩
noncomputable def Yv (a b:ME):ME:=fun σ h Q=>a σ h λx h1=>match x with
 | .bl true=>b σ h1 Q
 | .bl false=>Q (.bl false) h1
 | _=>False
noncomputable def K1 (a:ME):ME:=fun σ h Q=>a σ h λx h1=>match x with
 | .bl c=>Q (.bl (!c)) h1
 | _=>False
theorem afw {G}(h:DE X a ma):DE X (.BoolOp G [a] pos) ma:=ach h
theorem afd (ha:DE X a ma)(O:DE X (.BoolOp .And (b::rest) pos) mb):DE X (.BoolOp .And (a::b::rest) pos) (Yv ma mb):=(aa1 ha O).of fun σ H Q e=>by
 obtain⟨μ,g,σw,U,R,S,m,q⟩:=e;refine⟨μ,g,σw,_,R,S,m,λv H1 d=>?_⟩;obtain⟨μ1,w,h1,e1,G,J,m1⟩:=d;cases w with
 | bl c=>
  refine⟨c,J,?_⟩;cases c with
  | true=>rw[if_pos rfl];exact⟨μ1,h1,σw,_,G,S.ext e1,m1,λb H' z=>q _ _ (z.trans e1)⟩
  | false=>rw[if_neg RT];exact q _ _ ⟨μ1,.bl false,h1,e1,G,by rw[CR],m1⟩
 | _=>exact m1.elim
theorem ZQ (ha:DE X a ma):DE X (.UnaryOp .Not a pos) (K1 ma):=(adO ha).of fun σ H Q d=>by
 obtain⟨μ,g,σw,O,R,S,m,q⟩:=d;refine⟨μ,g,σw,_,R,S,m,λv H1 b=>?_⟩;obtain⟨μ1,w,h1,e1,J,G,m1⟩:=b;cases w with
 | bl c=>rw[CR]at G;exact⟨c,G,q _ _ ⟨μ1,.bl (!c),h1,e1,J,by rw[CR],m1⟩⟩
 | _=>exact m1.elim
noncomputable def mIf (t:MT)(a b:ME):ME:=fun σ h Q=>t σ h λc h1=>br c (a σ h1 Q) (b σ h1 Q)
theorem agL (J:DT X c tA)(ha:DE X a ma)(O:DE X b mb):DE X (.IfExp c a b pos) (mIf tA ma mb):=(akn J ha O).of fun σ H Q e=>by
 obtain⟨μ,g,σw,U,R,S,m,q⟩:=e;refine⟨μ,g,σw,_,R,S,m,λc H1 d=>?_⟩;obtain⟨μ1,h1,e1,G,m1⟩:=d;cases c with
 | true=>
  exact⟨μ1,h1,σw,_,G,S.ext e1,m1.1 rfl,λb H' z=>q _ _<|z.trans e1⟩
 | false=>
  exact⟨μ1,h1,σw,_,G,S.ext e1,m1.2 rfl,λb H' z=>q _ _<|z.trans e1⟩
noncomputable def mUn (r:W->Gh->WK->Prop)(a:ME):ME:=fun σ h Q=>a σ h λx h1=>r x h1 Q
noncomputable def aeN:W->Gh->WK->Prop:=λx h Q=>match x with
 | .int i=>Q (.int (-i)) h
 | _=>False
theorem adT (ha:DE X a ma):DE X (.UnaryOp .USub a pos) (mUn aeN ma):=(agl acj ha).of fun σ H Q c=>by
 obtain⟨μ,g,σw,O,R,S,m,q⟩:=c;refine⟨μ,g,σw,_,R,S,m,λv H1 b=>?_⟩;obtain⟨μ1,w,h1,e1,J,G,m1⟩:=b;cases w with
 | int i=>rw[CR]at G;exact⟨i,G,q _ _ ⟨μ1,.int (-i),h1,e1,J,by rw[CR],m1⟩⟩
 | _=>exact m1.elim
noncomputable def aG:MA:=λ_ h Q=>Q [] h
noncomputable def aj (a:ME)(r:MA):MA:=fun σ h Q=>a σ h λx h1=>r σ h1 λxs h2=>Q (x::xs) h2
variable {es:List Expr}{mr:MA}
theorem cT:NQ X [] aG:=Nk.of fun σ H Q a=>by obtain⟨μ,g,σw,G,R,S,m,q⟩:=a;exact q _ _ ⟨μ,[],g,.refl,R,.nil,m⟩
theorem bV (ha:DE X e ma)(hr:NQ X es mr)(hs:J9 (e::es) X.env=(false,eval e X.env)::J9 es X.env:=by rfl):NQ X (e::es) (aj ma mr):=(rT ha hr hs).of fun σ H Q a=>by obtain⟨μ,g,σw,Qw,R,S,m,q⟩:=a;exact ⟨μ,g,σw,_,R,S,m,λv H1 b=>by obtain⟨μ1,w,h1,e1,R1,r1,m1⟩:=b;exact ⟨μ1,h1,σw,_,R1,S.ext e1,m1,λvs H2 c=>by obtain⟨μ2,ws,h2,e2,R2,r2,m2⟩:=c;exact (q _ _ ⟨μ2,w::ws,h2,e1.trans e2,R2,.cons (e2.r _ _ r1) r2,m2⟩)⟩⟩
noncomputable def fV (n:Nat)(P:Prop):Prop:=K8 (Wx n 1000) P (n<=JN/\P)
theorem fV.ok {n}{P}(h:fV n P):n<=JN/\P:=by
 unfold fV at h;cases e:Wx n 1000 with
 | true=>rw[e]at h;exact⟨Jz (S6 e) (by decide),h⟩
 | false=>rw[e]at h;exact h
theorem fV.mk {n}{P}(G:n<=JN)(h:P):fV n P:=by
 unfold fV;cases e:Wx n 1000 with
 | true=>exact h
 | false=>exact⟨G,h⟩
noncomputable def Ec (t:MA):ME:=fun σ h Q=>t σ h λws h1=>fV ws.length (Q (.tup ws) h1)
noncomputable def oh (t:MA):ME:=fun σ h Q=>t σ h λws h1=>fV ws.length (Q (.lst ws) h1)
noncomputable def oX (t:MA):ME:=fun σ h Q=>t σ h λws h1=>fV ws.length (Q (.loc h1.nx) (h1.new (.lst ws)))
theorem vQ {U}(h:NQ X es mr):DE X (.Tuple es U pos) (Ec mr):=(abG h).of fun σ H Q ⟨μ,g,σw,b,R,S,m,q⟩=>
 ⟨μ,g,σw,_,R,S,m,λvs H1 a=>by obtain⟨μ1,ws,h1,e1,Y,O,J⟩:=a;exact ⟨O.len ▸ J.ok.1,λp G=>q _ _ ⟨μ1,.tup ws,h1,e1.trans (Ex.laid G).ext,Y.laid G,.tupNew G O,J.ok.2⟩⟩⟩
theorem dY (h:NQ X es mr):DE X (.List es pos) (oh mr):=(V6 h).of fun σ H Q ⟨μ,g,σw,Y,R,S,m,q⟩=>
 ⟨μ,g,σw,_,R,S,m,λvs H1 a=>by obtain⟨μ1,ws,h1,e1,U,O,J⟩:=a;exact ⟨O.len ▸ J.ok.1,λp G=>q _ _ ⟨μ1,.lst ws,h1,e1.trans (Ex.laid G).ext,U.laid G,.lstNew U G O,J.ok.2⟩⟩⟩
theorem abL {K H h}{p}{xs}(R:Iu K μ H h)(G:H p=Go)(r:aY K H μ ws xs):
  Iu K (μ.put h.nx p) (Iz H p (.lst xs)) (h.new (.lst ws)):=R.newCell G trivial ⟨xs,aV,(Ex.newCell R G).ext.s r⟩
theorem mW (h:NQ X es mr):DE X (.List es pos) (oX mr):=(V6 h).of fun σ H Q ⟨μ,g,σw,Y,R,S,m,q⟩=>
 ⟨μ,g,σw,_,R,S,m,λvs H1 a=>by obtain⟨μ1,ws,h1,e1,U,J,G⟩:=a;exact ⟨J.len ▸ G.ok.1,λp O=>q _ _ ⟨μ1.put _ p,.loc _,h1.new _,e1.trans (Ex.newCell U O).ext,abL U O J,⟨p,rfl,Mu.put_same⟩,G.ok.2⟩⟩⟩
inductive lift (K:BW) (ms:AP) (vs:List V) (H:Hp) (Q:VK) (E:XK):Prop where
 | mk (μ:Mu) (h:Gh) (ws:List W) (Qw:WK) (R:Iu K μ H h) (r:aY K H μ ws vs) (x:ms ws h Qw EF) (k:∀v H',DQ K H μ Qw v H'->Q v H'):lift K ms vs H Q E
noncomputable def aF (ms:AP)(E:Bm)(ma:MA):ME:=fun σ h Q=>ma σ h λws h1=>ms ws h1 Q E
theorem call_of {K:BW}{σ:St}{H:Hp}{Q:VK}{E:XK}{ms:AP}{ma:MA}(h:tD K (aF ms EF ma) σ H Q):Xn (lift K ms) [] E (tDA K ma) σ H Q:=by
 obtain⟨μ,g,σw,O,R,S,m,q⟩:=h;refine⟨μ,g,σw,_,R,S,m,λvs H1 a=>?_⟩;obtain⟨μ1,ws,h1,e1,J,G,m1⟩:=a;rw[Yh];exact⟨μ1,h1,ws,O,J,G,m1,λv H' z=>q _ _<|z.trans e1⟩
theorem acZ {k}{f fd}{ps ms x p}(F:jO X.prog X.w X.K X.mg X.base Q8 k f fd ps (lift X.K ms))(hr:gQ k X.A)(hg:Gl X x)(hm:X.mg x=Dn (.ref f))(hk:Ry X.K (.ref f)=true)
  (hb:Binds X.K fd ps []) (ha:NQ X (e::es) mr) (hdb:(x==("__debug__" : Str))=false:=by decide) (he:J9 (e::es) X.env=(false,eval e X.env)::J9 es X.env:=by rfl) (hpl:(Mi pos (J9 es X.env)).any (·.1)=false:=by rfl) :
  DE X (.Call (.Name x p) (e::es) [] pos) (aF ms EF mr):=(akP F hr hg hm hk hb .nil YF ha hdb he hpl).of λ_ _ _ h=>call_of h
theorem zbU {k}{f fd}{ps ms x p}(F:jO X.prog X.w X.K X.mg X.base Q8 k f fd ps (lift X.K ms))(hr:gQ k X.A)(hg:Gl X x)(hm:X.mg x=Dn (.ref f))(hk:Ry X.K (.ref f)=true)
  (hb:Binds X.K fd ps []) (hdb:(x==("__debug__" : Str))=false:=by decide):DE X (.Call (.Name x p) [] [] pos) (aF ms EF aG):=(akf F hr hg hm hk hb .nil YF hdb).of fun σ H Q ⟨μ,g,σw,Qw,R,S,m,q⟩=>
 ⟨μ,g,[],Qw,R,.nil,m,q⟩
noncomputable def aeH (h:Gh)(w:W):Option Bool:=match w with
 | .non=>Dn false
 | .bl b=>Dn b
 | .int i=>Dn (i != 0)
 | .tup ws=>Dn (!ws.isEmpty)
 | .lst ws=>Dn (!ws.isEmpty)
 | .kls ws=>Dn (!ws.isEmpty)
 | .loc n=>(match h.c n with
  | some (.lst ws)=>Dn (!ws.isEmpty)
  | _=>Go)
 | _=>Go
noncomputable def J3 (m:ME):MT:=fun σ h Q=>m σ h λw h1=>match aeH h1 w with
 | some b=>Q b h1
 | none=>False
theorem aY.emp {K H}{xs}(r:aY K H μ ws xs):ws.isEmpty=xs.isEmpty:=by
 have:=r.len
 cases ws<;>cases xs<;>first|rfl|cases this
theorem lg (he:DE X e ma)(h:∀whole,isTrue e X.env whole=(do let v <-whole;standAt e.pos;Ww [v] (truthy v)):=by intro _;rfl):DT X e (J3 ma):=(akB he h).of fun σ H Q d=>by
 obtain⟨μ,g,σw,Qw,R,S,m,q⟩:=d;refine⟨μ,g,σw,_,R,S,m,λv H1 a=>?_⟩;obtain⟨μ1,w,h1,e1,R1,r1,m1⟩:=a;split at m1
 ·rename_i b eb;refine⟨b,?_,q _ _ ⟨μ1,h1,e1,R1,m1⟩⟩;cases w with
  | non|bl c|int c=>rw[CR]at r1;subst r1;cases eb;rfl
  | tup ws=>
   obtain⟨p,xs,ev,hs,rs⟩:=r1;subst ev;cases eb;exact .inr<|.inl ⟨xs,hs,by rw[rs.emp]⟩
  | lst ws|kls ws=>
   obtain⟨p,xs,ev,hs,rs⟩:=r1;subst ev;cases eb;exact .inl ⟨xs,hs.sq,by rw[rs.emp]⟩
  | loc n=>
   obtain⟨p,ev,hm⟩:=r1;subst ev;unfold aeH at eb;dsimp only at eb;cases ec:h1.c n with
   | none=>rw[ec]at eb;cases eb
   | some cl=>
    rw[ec]at eb;cases cl with
    | lst ws=>
     cases eb;obtain⟨p',hm',xs,hx,rs⟩:=R1.cel n _ ec;cases by rw[hm]at hm';exact(Ma hm').symm
     exact .inl ⟨xs,.of hx,by rw[rs.emp]⟩
    | _=>cases eb
  | _=>cases eb
 cases m1
noncomputable abbrev MC:=List W->Gh->WK->Prop
noncomputable def Jl (r:MC)(ma:MA):ME:=fun σ h Q=>ma σ h λws h1=>r ws h1 Q
noncomputable def agZ (K:BW)(r:List V->Hp->VK->Prop)(mr:MC):Prop:=∀{H:Hp}{μ:Mu}{h:Gh}{G:List V}{ws:List W}{J:WK}{Q:VK},Iu K μ H h->aY K H μ ws G->mr ws h J->(∀v H',DQ K H μ J v H'->Q v H')->r G H Q
noncomputable def lC (X:Cx)(f:JI)(mr:MC):Prop:=∃r,jX X f r/\agZ X.K r mr
theorem acO {K σ H Q}{r mc ma}(s:agZ K r mc)(h:tD K (Jl mc ma) σ H Q):tCB r (tDA K ma) σ H Q:=by
 obtain⟨μ,g,σw,O,R,S,m,q⟩:=h;exact⟨μ,g,σw,_,R,S,m,λvs H1 a=>by obtain⟨μ1,ws,h1,e1,J,G,m1⟩:=a;exact s J G m1 λv H' z=>q _ _<|z.trans e1⟩
theorem aal {x:Str}{p:Pos}{id:String}{mc:MC}(hc:lC X (.builtin id) mc)(hg:Gl X x)(hm:X.mg x=Go)(hv:X3 x=Dn (.builtin id))(ha:NQ X (e::es) mr)(hn:x ≠ "__name__":=by decide)(hdb:(x==("__debug__" : Str))=false:=by decide)
  (he:J9 (e::es) X.env=(false,eval e X.env)::J9 es X.env:=by rfl) (hpl:(Mi pos (J9 es X.env)).any (·.1)=false:=by rfl):DE X (.Call (.Name x p) (e::es) [] pos) (Jl mc mr):=by
 obtain⟨r,c,s⟩:=hc;exact(HB c hg hm hv ha hn hdb he hpl).of λ_ _ _ h=>acO s h
theorem xP {x p}{T mc}(hc:lC X (.type T) mc)(hg:Gl X x)(hm:X.mg x=Go)(hv:X3 x=Dn (.type T))(ha:NQ X (e::es) mr)(hn:x ≠ "__name__":=by decide)(hdb:(x==("__debug__" : Str))=false:=by decide)
  (he:J9 (e::es) X.env=(false,eval e X.env)::J9 es X.env:=by rfl) (hpl:(Mi pos (J9 es X.env)).any (·.1)=false:=by rfl):DE X (.Call (.Name x p) (e::es) [] pos) (Jl mc mr):=by
 obtain⟨r,c,s⟩:=hc;exact(zU c hg hm hv ha hn hdb he hpl).of λ_ _ _ h=>acO s h
end
variable {mr:MA}{ma:ME}{ms:AP}
section
variable {X:Cx}{e a b c tg:Expr}{mb mc:ME}{pos:Pos}{es:List Expr}
noncomputable def kI (i:Nat):MG:=λw σ h N=>N (σ.set i (Dn w)) h
theorem Cu {i}(G:PG X e (KJ i)):DG X e (kI i):=G.of λv σ H N a=>by obtain⟨μ,h,σw,w,J,R,S,r,m,k⟩:=a;exact k _ _ ⟨μ,σw.set i _,h,.refl,R,S.set r i,m⟩
noncomputable def agb:TF:=λws σ h N=>match ws with
 | []=>N σ h
 | _=>False
noncomputable def Tz (g:MG)(r:TF):TF:=λws σ h N=>match ws with
 | w::ws'=>g w σ h fun σ1 h1=>r ws' σ1 h1 N
 | []=>False
theorem akb:aeD X [] agb:=O5.of λvs σ H N a=>by
 obtain⟨μ,h,σw,ws,G,R,S,r,m,k⟩:=a;cases ws with
 | nil=>rw[aY]at r;exact⟨r,k _ _ ⟨μ,σw,h,.refl,R,S,m⟩⟩
 | cons w ws=>cases m
theorem EY {g u}(h1:DG X e g)(h2:aeD X es u)(hs:(QF (e::es) X.env).map (·.2)=assign e X.env::(QF es X.env).map (·.2):=by rfl):aeD X (e::es) (Tz g u):=(xU h1 h2 hs).of λvs σ H N a=>by
 obtain⟨μ,h,σw,ws,Nw,R,S,r,m,k⟩:=a;cases ws with
 | nil=>cases m
 | cons w ws=>
  obtain⟨v,vr,ev,r1,r2⟩:=r;exact⟨v,vr,ev,μ,h,σw,w,_,R,S,r1,m,fun σ1 H1 b=>by obtain⟨μ1,σw1,h1,e1,R1,S1,m1⟩:=b;exact ⟨μ1,h1,σw1,ws,_,R1,S1,e1.s r2,m1,fun σ2 H2 z=>k _ _<|z.trans e1⟩⟩
noncomputable abbrev aaR:=W->W->W->Gh->(Gh->Prop)->Prop
noncomputable def Qj (K:BW)(t:aaL)(ms:aaR):Prop:=∀{H:Hp}{μ:Mu}{h:Gh}{o i v:V}{G wi w:W}{J:Gh->Prop}{N:Hp->Prop},Iu K μ H h->CR K H μ G o->CR K H μ wi i->CR K H μ w v->ms G wi w h J ->
 (∀H',(∃μ' h',Ji K H μ H' μ'/\Iu K μ' H' h'/\J h')->N H')->t o i v H N
noncomputable def Jk (mo mi:ME)(ms:aaR):MG:=λw σ h N=>mo σ h λo h1=>mi σ h1 λi h2=>ms o i w h2 λh3=>N σ h3
theorem jE {o i mo mi t}{ms}(ho:DE X o mo)(hi:DE X i mi)(hs:aeM X t)(hm:Qj X.K t ms)
  (ha:∀v,assign (.Subscript o i pos) X.env v=(do
   let ov <-Ww [v] (eval o X.env)
   let iv <-Ww [v,ov] (eval i X.env)
   standAt pos
   Ww [v,ov,iv] (setItem ov iv v)
   release [v,ov,iv] []):=by intro _;rfl):DG X (.Subscript o i pos) (Jk mo mi ms):=
 (aaS ho hi hs ha).of λv σ H N a=>by obtain⟨μ,h,σw,w,Nw,R,S,r,m,k⟩:=a;exact ⟨μ,h,σw,_,R,S,m,λo H1 b=>by obtain⟨μ1,wo,h1,e1,R1,r1,m1⟩:=b;exact ⟨μ1,h1,σw,_,R1,S.ext e1,m1,λi H2 c=>by obtain⟨μ2,wi,h2,e2,R2,r2,m2⟩:=c;exact (hm R2 (e2.r _ _ r1) r2 (e2.r _ _ (e1.r _ _ r)) m2 λH3 d=>by obtain⟨μ3,h3,e3,R3,m3⟩:=d;exact (k _ _ ⟨μ3,σw,h3,(e1.trans e2).trans e3,R3,S.ext ((e1.trans e2).trans e3),m3⟩))⟩⟩
noncomputable def Iw:aaR:=λo i w h N=>match o,i with
 | .loc n,.int k=>(match h.c n with
  | some (.lst ws)=>(match Ro ws.length k with
   | some j=>N (h.set n (.lst (ws.set j w)))
   | none=>False)
  | _=>False)
 | _,_=>False
theorem Iu.lstAt {K:BW}{H:Hp}{h:Gh}{n:Nat}(R:Iu K μ H h)(e:h.c n=Dn (.lst ws)):∃p xs,μ.f n=Dn p/\H p=Dn (.lst xs)/\aY K H μ ws xs:=by
 obtain⟨p,e1,xs,e2,r⟩:=R.cel n _ e;simp_all
theorem xW {K}:Qj K abp Iw:=by
 intro H μ h o i v a wi w e N R ro b r m k;cases a with
 | loc n=>
  cases wi with
  | int z=>
   obtain⟨p,d,J⟩:=ro;unfold Iw at m;dsimp only at m;cases U:h.c n with
   | none=>rw[U]at m;cases m
   | some cl=>
    rw[U]at m;cases cl with
    | lst ws=>
     dsimp only at m;obtain⟨p',xs,G,c,Y⟩:=R.lstAt U;obtain rfl:=by rw[J]at G;exact(Ma G).symm
     cases O:Ro _ z with
     | none=>rw[O]at m;exact m.elim
     | some j=>
      rw[O]at m;refine⟨p',xs,z,j,d,b,c,Y.len ▸ O,k _ ⟨μ,_,(Ex.write R J).ext,R.write J trivial ?_,m⟩⟩;exact⟨_,aV,aY.set ((Ex.write R J).ext.r _ _ r) j<|(Ex.write R J).ext.s Y⟩
    | _=>cases m
  | _=>exact m.elim
 | _=>exact m.elim
variable {st:Stmt}{rest body:List Stmt}{m1 m2:MS}{t:MT}
noncomputable def bK:MS:=λD σ h=>D.nx σ h
noncomputable def aU (m u:MS):MS:=λD σ h=>m {D with nx:=u D} σ h
theorem bD:Tw X [] bK:=amG.of λD σ H a=>by obtain⟨μ,h,σw,Dw,R,S,m,k⟩:=a;exact k.nx _ _ ⟨μ,σw,h,.refl,R,S,m⟩
theorem aD (h1:DS X st m1):Tw X [st] m1:=Bt h1
theorem aq (h1:DS X st m1)(h2:Tw X rest m2):Tw X (st::rest) (aU m1 m2):=(Dz h1 h2).of λD σ H a=>by
 obtain⟨μ,h,σw,Dw,R,S,m,k⟩:=a;refine⟨μ,h,σw,_,R,S,m,?_,k.rt,k.bk,k.ct⟩;rintro J H' ⟨μ1,G,h1,e1,U,O,m1⟩;exact⟨μ1,h1,G,Dw,U,O,m1,k.trans e1⟩
noncomputable def oE (m:ME):MS:=λD σ h=>m σ h λ_ h1=>D.nx σ h1
theorem jj (he:DE X e ma)(hs:Xe e Go pos.line X.env=pure false:=by rfl):DS X (.Expr e pos) (oE ma):=(ajT he hs).of λD σ H ⟨μ,h,σw,Dw,R,S,m,k⟩=>
 ⟨μ,h,σw,_,R,S,m,λv H1 a=>by obtain⟨μ1,w,h1,e1,R1,_,m1⟩:=a;exact k.nx _ _ ⟨μ1,σw,h1,e1,R1,S.ext e1,m1⟩⟩
noncomputable def bN (m:ME):MS:=λD σ h=>m σ h D.rt
theorem aH (G:DE X e ma):DS X (.Return (Dn e) pos) (bN ma):=(U7 G).of λD σ H a=>by obtain⟨μ,h,σw,Dw,R,S,m,k⟩:=a;exact ⟨μ,h,σw,_,R,S,m,k.rt⟩
noncomputable def d7 (t:MT)(a b:MS):MS:=λD σ h=>t σ h λc h1=>br c (a D σ h1) (b D σ h1)
theorem cX {a b}(J:DT X c t)(ha:Tw X a m1)(O:Tw X b m2):DS X (.If c a b pos) (d7 t m1 m2):=(ad8 J ha O).of λD σ H e=>by
 obtain⟨μ,h,σw,Dw,R,S,m,k⟩:=e;refine⟨μ,h,σw,_,R,S,m,λb H1 d=>?_⟩;obtain⟨μ1,h1,e1,G,q⟩:=d;cases b with
 | true=>rw[if_pos rfl];exact⟨μ1,h1,σw,Dw,G,S.ext e1,q.1 rfl,k.trans e1⟩
 | false=>rw[if_neg RT];exact⟨μ1,h1,σw,Dw,G,S.ext e1,q.2 rfl,k.trans e1⟩
noncomputable def jA (x:Str)(E:Bm):MS:=λ_ _ h=>E ⟨x,[]⟩ h
noncomputable def bF (m:ME)(g:MG):MS:=λD σ h=>m σ h λw h1=>g w σ h1 D.nx
theorem aa9 {K σ H}{D m g}(q:tDS K (bF m g) D σ H):abE (tD K m) (tDG K g) D σ H:=by
 obtain⟨μ,h,σw,Dw,R,S,m,k⟩:=q;exact⟨μ,h,σw,_,R,S,m,λv H1 a=>by obtain⟨μ1,w,h1,e1,O,J,m1⟩:=a;exact ⟨μ1,h1,σw,w,_,O,S.ext e1,J,m1,fun G H' z=>k.nx _ _<|z.trans e1⟩⟩
theorem jt {g}(he:DE X e ma)(hg:DG X tg g)(hs:swapsWithSole [tg] e pos.line X.env=pure false:=by rfl)(hw:swappedStores [tg] e X.env=pure Go:=by rfl)
  (h1:(QF [tg] X.env).map (·.2)=[assign tg X.env]:=by rfl):DS X (.Assign [tg] e pos) (bF ma g):=(acI he hg hs hw h1).of λ_ _ _ q=>aa9 q
theorem Uv {K:BW}{σ:St}{H:Hp}{D:Ends}{m:ME}{t:TE}{i:Nat}(ht:∀σ H Q,tD K m σ H Q->t σ H Q)(q:tDS K (bF m (kI i)) D σ H):abE t (KJ i) D σ H:=by
 obtain⟨μ,h,σw,Dw,R,S,m,k⟩:=q;exact ht _ _ _ ⟨μ,h,σw,_,R,S,m,λv H1 a=>by obtain⟨μ1,w,h1,e1,J,G,m1⟩:=a;exact k.nx _ _ ⟨μ1,σw.set i _,h1,e1,J,(S.ext e1).set G i,m1⟩⟩
theorem Ln {i x}{pos'}(hN:X.N.Nodup)(hi:X.N[i]?=Dn x)(hx:Loc X.env.scope x)(he:DE X e ma)(hs:Xe e (Dn (.Name x pos')) pos.line X.env=pure false:=by rfl)
  (hf:X.fn x=true\/X.env.scope.names.lookup x=Dn .local:=by first|exact .inl rfl|exact .inr rfl|assumption) :
  DS X (.Assign [.Name x pos'] e pos) (bF ma (kI i)):=(V7 hN hi hx he hs hf).of λ_ _ _ q=>Uv (λ_ _ _ z=>z) q
noncomputable def agS (i j:Nat)(ta:MA):MS:=λD σ h=>ta σ h λws h1=>match ws with
 | [v,w]=>D.nx ((σ.set i (Dn v)).set j (Dn w)) h1
 | _=>False
theorem zaX {i j ta}(f:PS X st (agY i j (tDA X.K ta))):DS X st (agS i j ta):=f.of λD σ H b=>by
 obtain⟨μ,h,σw,Dw,R,S,m,k⟩:=b;refine⟨μ,h,σw,_,R,S,m,λvs H1 a=>?_⟩;obtain⟨μ1,ws,h1,e1,l,e,m1⟩:=a;split at m1
 obtain⟨v,n,g,Y,d⟩:=e;obtain⟨O,J,G,U,c⟩:=d;subst c G g;exact⟨v,O,rfl,k.nx _ _ ⟨μ1,_,h1,e1,l,((S.ext e1).set Y i).set U j,m1⟩⟩;cases m1
noncomputable def Hl (t:MT)(b:MS):MS:=λD σ h=>∃J:Nat->Sw->Gh->Prop,(∃m,J m σ h)/\∀m σ h,J m σ h ->
 t σ h λc h1=>br c (b {D with nx:=fun σ' h'=>∃G,G<m/\J G σ' h',ct:=fun σ' h'=>∃G,G<m/\J G σ' h',bk:=D.nx} σ h1) (D.nx σ h1)
theorem wN {body pos}(s:sV (Bu X.prog X.w) X.A X.env X.xe)(v:DT X c t)(w:Tw X body m1):DS X (.While c body [] pos) (Hl t m1):=(zbJ s v w).of λD σ H d=>by
 obtain⟨μ,h,σw,Dw,R,S,m,k⟩:=d;obtain⟨j,⟨r,p⟩,f⟩:=m;refine⟨λn G H'=>DN _ H μ (j n) G H',⟨r,μ,σw,h,.refl,R,S,p⟩,λn l H1 ⟨μ1,J,h1,e1,B,i,w1⟩=>⟨μ1,h1,J,_,B,i,f n J h1 w1,λb H2 a=>?_⟩⟩;obtain⟨μ2,h2,e2,R2,q⟩:=a;have U:=e1.trans e2;cases b with
 | true=>
  refine⟨fun G H'=>∃Y,Y<n/\DN _ H μ _ G H',λ_ _ z=>z,μ2,h2,J,_,R2,i.ext e2,q.1 rfl,?_⟩;have O:∀(G:St) (H':Hp),DN _ H2 μ2 (fun G h'=>∃Y,Y<n/\j Y G h') G H'->∃Y,Y<n/\DN _ H μ _ G H':=fun G H' ⟨g,e,x,e3,A,y,Y,u,o⟩=>
   ⟨Y,u,g,e,x,U.trans e3,A,y,o⟩
  exact⟨O,λv H' z=>k.rt _ _<|z.trans U,fun G H' z=>k.nx _ _<|z.trans U,O⟩
 | false=>
  exact k.nx _ _ ⟨μ2,J,h2,U,R2,i.ext e2,q.2 rfl⟩
structure Src where
 ws:List W
 cell:Option (Nat×List W)
noncomputable def Src.chk (s:Src)(h:Gh):Prop:=match s.cell with
 | none=>True
 | some n=>h.c n.1=Dn (.lst n.2)
noncomputable abbrev MI:=Sw->Gh->(Src->Gh->Prop)->Prop
noncomputable def aaM (K:BW)(J:It)(O:Src)(H:Hp)(μ:Mu):Prop:=∀{H2:Hp}{μ2:Mu}{h2:Gh}{i:Nat},Ji K H μ H2 μ2->Iu K μ2 H2 h2->O.chk h2 ->
 (∀w,O.ws[i]?=Dn w->J.go i H2/\∀x U,J.yld i H2 x U->∃G,Ji K H2 μ2 U G/\Iu K G U h2/\CR K U G w x)/\(O.ws.length<=i->J.stop i H2)
inductive DI (K:BW) (H:Hp) (μ:Mu) (Rw:Src->Gh->Prop) (J:It) (H':Hp):Prop where
 | mk (μ':Mu) (src:Src) (h':Gh) (e:Ji K H μ H' μ') (R:Iu K μ' H' h') (o:aaM K J src H' μ') (q:Rw src h'):DI K H μ Rw J H'
inductive tDI (K:BW) (mi:MI) (σ:St) (H:Hp) (R:It->Hp->Prop):Prop where
 | mk (μ:Mu) (h:Gh) (σw:Sw) (Rw:Src->Gh->Prop) (q:Iu K μ H h) (S:Slots K H μ σw σ) (x:mi σw h Rw) (k:∀J H',DI K H μ Rw J H'->R J H'):tDI K mi σ H R
noncomputable abbrev TJ (X:Cx)(tg iter:Expr)(mi:MI):Prop:=PI X tg iter (tDI X.K mi)
theorem PI.of {iter t t'}(h:PI X tg iter t)(k:∀σ H R,t' σ H R->t σ H R):PI X tg iter t':=λaor s σ H R I q=>h aor s σ H R I (k σ H R q)
noncomputable def d9 (h:Gh):W->Option (List W)
 | .lst ws=>Dn ws
 | .kls ws=>Dn ws
 | .loc n=>(match h.c n with
  | some (.lst ws)=>Dn ws
  | _=>Go)
 | _=>Go
noncomputable def view (h:Gh):W->Option (List W)
 | .tup ws=>Dn ws
 | .lst ws=>Dn ws
 | .kls ws=>Dn ws
 | .loc n=>d9 h (.loc n)
 | _=>Go
noncomputable def Aw (h:Gh):W->Option Src
 | .tup ws=>Dn ⟨ws,Go⟩
 | .lst ws=>Dn ⟨ws,Go⟩
 | .kls ws=>Dn ⟨ws,Go⟩
 | .loc n=>(match h.c n with
  | some (.lst ws)=>Dn ⟨ws,Dn (n,ws)⟩
  | _=>Go)
 | _=>Go
theorem alc {K H}{p}(r:CR K H μ (.lst ws) (.ref p)):aaM K (Itl K p) ⟨ws,Go⟩ H μ:=by
 intro H2 μ2 h2 i e R2 _;obtain⟨q,xs,b,G,J⟩:=(e.r _ _ r)
 cases b;refine⟨λw Y=>?_,λhl=>⟨xs,G.sq,J.len ▸ hl⟩⟩;obtain⟨v,O,U⟩:=J.get Y;refine⟨⟨xs,v,G.sq,O⟩,λx c a=>?_⟩;obtain⟨e3,y⟩:=a;subst e3;have:=y xs G.sq
 rw[O]at this;cases this;exact⟨μ2,.refl,R2,U⟩
theorem akt {K:BW}{H:Hp}{p:Addr}(r:CR K H μ (.kls ws) (.ref p)):aaM K (Itl K p) ⟨ws,Go⟩ H μ:=by
 intro H2 μ2 h2 i e R2 _;obtain⟨q,xs,b,G,J⟩:=(e.r _ _ r)
 cases b;refine⟨λw Y=>?_,λhl=>⟨xs,G.sq,J.len ▸ hl⟩⟩;obtain⟨v,O,U⟩:=J.get Y;refine⟨⟨xs,v,G.sq,O⟩,λx c a=>?_⟩;obtain⟨e3,y⟩:=a;subst e3;have:=y xs G.sq
 rw[O]at this;cases this;exact⟨μ2,.refl,R2,U⟩
theorem ajc {K H}{p n}(r:CR K H μ (.loc n) (.ref p)):aaM K (Itl K p) ⟨ws,Dn (n,ws)⟩ H μ:=by
 intro H2 μ2 h2 i e R2 f;obtain⟨q,d,b⟩:=(e.r _ _ r)
 cases d;obtain⟨p',xs,G,J,O⟩:=R2.lstAt f;obtain rfl:=by rw[b]at G;exact(Ma G).symm
 refine⟨λw c=>?_,λhl=>⟨xs,.of J,O.len ▸ hl⟩⟩;obtain⟨v,U,Y⟩:=O.get c;refine⟨⟨xs,v,.of J,U⟩,λx g a=>?_⟩;obtain⟨e3,y⟩:=a;subst e3;have:=y xs (.of J)
 rw[U]at this;cases this;exact⟨μ2,.refl,R2,Y⟩
theorem zcc {K H}{p}(r:CR K H μ (.tup ws) (.ref p)):aaM K (Itt K p) ⟨ws,Go⟩ H μ:=by
 intro H2 μ2 h2 i e R2 _;obtain⟨q,xs,b,G,J⟩:=(e.r _ _ r)
 cases b;refine⟨λw Y=>?_,λhl=>⟨xs,G,J.len ▸ hl⟩⟩;obtain⟨v,O,U⟩:=J.get Y;refine⟨⟨xs,v,G,O⟩,λx c a=>?_⟩;obtain⟨e3,y⟩:=a;subst e3;have:=y xs G
 rw[O]at this;cases this;exact⟨μ2,.refl,R2,U⟩
noncomputable def ahJ (K:BW)(tl:TE):TI:=fun σ H R=>tl σ H λx H1=>(∃a,x=.ref a/\(∃xs,Kh K H1 a xs)/\R (Itl K a) H1)\/(∃a,x=.ref a/\(∃xs,Lq K H1 a xs)/\R (Itt K a) H1)
theorem adA {l tl}(hl:PE X l tl):PI X tg l (ahJ X.K tl):=by
 intro aor s σ H R I h;refine JC (hl aor s σ H _ I h) λv J c=>?_;obtain⟨x,H1,G,Y,d⟩:=c;rcases d with⟨a,e,⟨xs,O⟩,q⟩|⟨a,e,⟨xs,O⟩,q⟩
 subst e;cases Y;obtain⟨its,b,p,f⟩:=G.list O;refine Yi p.isList ⟨J.heap.objs.size,[J.heap.objs.size],_,_,H1,rfl,G.kept λb o e=>JV _ e,zbd a _,⟨_,Mf _ rfl,rfl,rfl⟩,λb U=>?_,q⟩;obtain rfl:=by simpa using U
 exact G.fpOk (JL _)<|G.hok.fresh<|JL _
 subst e;cases Y;obtain⟨its,b,p,f⟩:=G.tuple O;refine wpAny_pyIter_tuple p ⟨J.heap.objs.size,[J.heap.objs.size],_,_,H1,rfl,G.kept λb o e=>JV _ e,ajd a _,⟨_,Mf _ rfl,rfl,rfl⟩,λb U=>?_,q⟩;obtain rfl:=by simpa using U
 exact G.fpOk (JL _)<|G.hok.fresh<|JL _
noncomputable def K5 (m:ME):MI:=fun σ h R=>m σ h λw h1=>match Aw h1 w with
 | some s=>R s h1
 | none=>False
theorem bY {l:Expr}(hl:DE X l ma):TJ X tg l (K5 ma):=PI.of (adA hl) fun σ H Q b=>by
 obtain⟨μ,h,σw,g,R,S,m,k⟩:=b;refine⟨μ,h,σw,_,R,S,m,λv H1 a=>?_⟩;obtain⟨μ1,w,h1,e1,Y,J,m1⟩:=a;cases w with
 | tup ws=>
  have G:=J;obtain⟨p,xs,O,hs,_⟩:=J;subst O;exact .inr ⟨p,rfl,⟨xs,hs⟩,k _ _ ⟨μ1,⟨ws,Go⟩,h1,e1,Y,zcc G,m1⟩⟩
 | lst ws=>
  have G:=J;obtain⟨p,xs,O,hs,_⟩:=J;subst O;exact .inl ⟨p,rfl,⟨xs,hs.sq⟩,k _ _ ⟨μ1,⟨ws,Go⟩,h1,e1,Y,alc G,m1⟩⟩
 | kls ws=>
  have G:=J;obtain⟨p,xs,O,hs,_⟩:=J;subst O;exact .inl ⟨p,rfl,⟨xs,hs.sq⟩,k _ _ ⟨μ1,⟨ws,Go⟩,h1,e1,Y,akt G,m1⟩⟩
 | loc n=>
  have G:=J;obtain⟨p,O,e⟩:=J;subst O;unfold Aw at m1;dsimp only at m1;cases c:h1.c n with
  | none=>rw[c]at m1;cases m1
  | some cl=>
   rw[c]at m1;cases cl with
   | lst ws=>
    obtain⟨p',xs,U,d,f⟩:=Y.lstAt c;obtain rfl:=by rw[e]at U;exact(Ma U).symm
    exact .inl ⟨p',rfl,⟨xs,.of d⟩,k _ _ ⟨μ1,⟨ws,Dn _⟩,h1,e1,Y,ajc G,m1⟩⟩
   | _=>cases m1
 | _=>exact m1.elim
noncomputable def Bc (lo:Int)(n:Nat):List W:=(Qv n).map λ(k:Nat)=>.int (lo+(k:Int))
theorem Vt {K H}{lo n}:aaM K (Itr lo n) ⟨Bc lo n,Go⟩ H μ:=by
 intro H2 μ2 h2 i e R2 _;refine⟨λw G=>?_,λhl=>?_⟩;have hi:=by
  have:=(Oi.mp G).1
  simpa[Bc]using this
 have J:=by
  unfold Bc at G;rw[Ju,List.getElem?_range hi]at G;exact(Ma G).symm
 subst J;refine⟨hi,λx O a=>?_⟩;obtain⟨e3,y⟩:=a;subst e3;exact⟨μ2,.refl,R2,by rwa[CR]⟩;have:=by simpa[Bc]using hl
 exact this
noncomputable def Ay (j:Int)(P:Prop):Prop:=K8 (decide (-1000<=j)&&decide (j<=1000)) P ((-(2^62)<=j/\j<2^62)/\P)
theorem Ay.ok {j}{P}(h:Ay j P):(-(2^62)<=j/\j<2^62)/\P:=by
 unfold Ay at h;cases e:(decide (-1000<=j)&&decide (j<=1000))with
 | true=>
  rw[e]at h;rw[Uj,decide_eq_true_iff,decide_eq_true_iff]at e;exact⟨⟨by lia,by omega⟩,h⟩
 | false=>rw[e]at h;exact h
theorem Ay.mk {j}{P}(h1:-(2^62)<=j)(h2:j<2^62)(h:P):Ay j P:=by
 unfold Ay;cases e:(decide (-1000<=j)&&decide (j<=1000))with
 | true=>exact h
 | false=>exact⟨⟨h1,h2⟩,h⟩
noncomputable def lH (ma:MA):MI:=fun σ h R=>ma σ h λws h1=>match ws with
 | [.int j]=>Ay j (R ⟨Bc 0 j.toNat,Go⟩ h1)
 | _=>False
noncomputable def CN (ma:MA):MI:=fun σ h R=>ma σ h λws h1=>match ws with
 | [.int i,.int j]=>Ay i (Ay j (R ⟨Bc i (j-i).toNat,Go⟩ h1))
 | _=>False
theorem zaV {a}{p pos}(hg:Gl X "range")(hm:X.mg "range" = Go)(ha:NQ X [a] mr)(hs:J9 [a] X.env=[(false,eval a X.env)]:=by rfl):TJ X tg (.Call (.Name "range" p) [a] [] pos) (lH mr):=
 PI.of (aja hg hm ha hs) fun σ H Q c=>by
  obtain⟨μ,h,σw,Rw,R,S,m,k⟩:=c;refine⟨μ,h,σw,_,R,S,m,λvs H1 b=>?_⟩;obtain⟨μ1,ws,h1,e1,R1,r1,m1⟩:=b;split at m1
  rename_i j;obtain⟨v,vr,ev,ra,r1⟩:=r1;subst ev r1 ra;exact⟨j,rfl,m1.ok.1.1,m1.ok.1.2,k _ _ ⟨μ1,_,h1,e1,R1,Vt,m1.ok.2⟩⟩;cases m1
theorem rP {a b}{p pos}(hg:Gl X "range")(hm:X.mg "range" = Go)(ha:NQ X [a,b] mr)(hs:J9 [a,b] X.env=[(false,eval a X.env),(false,eval b X.env)]:=by rfl)(hs2:J9 [b] X.env=[(false,eval b X.env)]:=by rfl):
  TJ X tg (.Call (.Name "range" p) [a,b] [] pos) (CN mr):=
 PI.of (aje hg hm ha hs hs2) fun σ H Q d=>by
  obtain⟨μ,h,σw,Rw,R,S,m,k⟩:=d;refine⟨μ,h,σw,_,R,S,m,λvs H1 c=>?_⟩;obtain⟨μ1,ws,h1,e1,R1,r1,m1⟩:=c;split at m1
  rename_i i j;obtain⟨v,vr,ev,ra,r1⟩:=r1;obtain⟨v',vr',ev',rb,r1⟩:=r1;subst ev ev' r1 ra rb;exact⟨i,j,rfl,⟨m1.ok.1.1,m1.ok.1.2,m1.ok.2.ok.1.1,m1.ok.2.ok.1.2⟩,k _ _ ⟨μ1,_,h1,e1,R1,Vt,m1.ok.2.ok.2⟩⟩;cases m1
noncomputable def Src.go (s:Src)(h:Gh)(P:Prop):Prop:=match s.cell with
 | none=>P
 | some n=>h.c n.1=Dn (.lst n.2)/\P
theorem Src.go_ok {s:Src}{h}{P}(x:s.go h P):s.chk h/\P:=by
 unfold Src.go at x;unfold Src.chk;lia
noncomputable def fW (s:Src)(g:MG)(b:MS)(D:bI):List W->Sw->Gh->Prop
 | [],σ,h=>s.go h (D.nx σ h)
 | w::r,σ,h=>s.go h (g w σ h fun σ1 h1=>b {D with nx:=fW s g b D r,ct:=fW s g b D r,bk:=D.nx} σ1 h1)
noncomputable def vh (mi:MI)(g:MG)(b:MS):MS:=λD σ h=>mi σ h λs h1=>fW s g b D s.ws σ h1
theorem jz {iter}{body mi g}{mb0}{pos}(hp:sV (Bu X.prog X.w) X.A X.env X.xe)(hc:X.calm=true)(hi:TJ X tg iter mi)(hg:DG X tg g)(hb:Tw X body mb0)
  (hs:∀x,Xx iter X.env x=pure x:=by intro _;rfl):DS X (.For tg iter body [] pos) (vh mi g mb0):=(Vo hp hc hi hg hb hs).of λD σ H a=>by
 obtain⟨μ,h,σw,Dw,R,S,m,k⟩:=a;refine⟨μ,h,σw,_,R,S,m,λJ H1 ⟨μ1,src,h1,e1,R1,ok,m1⟩=>⟨λi n σ' H'=>n=src.ws.length-i/\i<=src.ws.length/\DN _ H1 μ1 (fW src g mb0 Dw<|src.ws.drop i) σ' H',⟨src.ws.length,by simp,T7 _,μ1,σw,h1,.refl,R1,S.ext e1,m1⟩,?_⟩⟩;rintro i n σ2 H2 ⟨hn,hle,μ2,σw2,h2,e2,R2,S2,m2⟩;by_cases hlt:i<src.ws.length
 rw[v7 hlt]at m2;obtain⟨ck,m2⟩:=Src.go_ok m2;obtain⟨hgo,hy⟩:=(ok e2 R2 ck).1 src.ws[i] (MH hlt);refine .inr ⟨hgo,fun σ' H'=>DN _ H2 μ2 _ σ' H',fun σ' H' z=>⟨src.ws.length-(i+1),by lia,rfl,hlt,z.trans e2⟩,λx H3 y=>?_⟩;obtain⟨μ3,e3,R3,rx⟩:=hy x H3 y;refine⟨μ3,h2,σw2,src.ws[i],_,R3,S2.ext e3,rx,m2,fun σ4 H4 ⟨μ4,σw4,h4,e4,R4,S4,m4⟩=>?_⟩;have e24:=e3.trans e4;have e14:=(e1.trans e2).trans e24;exact⟨μ4,h4,σw4,_,R4,S4,m4,fun σ' H' z=>z.trans e24,λv H' z=>k.rt _ _<|z.trans e14,fun σ' H' z=>k.nx _ _<|z.trans e14,fun σ' H' z=>z.trans e24⟩;have ei:i=src.ws.length:=by lia
 subst ei;rw[List.drop_length]at m2;obtain⟨ck,m2⟩:=Src.go_ok m2;exact .inl ⟨(ok e2 R2 ck).2 (JL _),k.nx _ _ ⟨μ2,σw2,h2,e1.trans e2,R2,S2,m2⟩⟩
noncomputable def uq (ix:List Nat)(σ:Sw):Sw:=ix.map λi=>(σ[i]?).getD Go
theorem Slots.blk {K H σ}(S:Slots K H μ σw σ):∀{ws G},aY K H μ ws G->Slots K H μ (ws.map Dn++uq ix σw) (G.map Dn++Nr ix σ):=by
 intro ws G r;have hl:=r.len;refine⟨by simp[uq,Nr,hl],λi u q=>?_⟩;by_cases hi:i<ws.length
 rw[Rx (by simpa using hi),Ju]at q;have J:ws[i]?=Dn u:=by
  simp_all
 obtain⟨v,Y,U⟩:=r.get J;grind
 ·rw[Sv (by simpa using hi),Ik]at q;rw[Sv (by rw[Ik];lia),Ik,<-hl];generalize i-ws.length=i at q|-
  unfold uq at q;unfold Nr;rw[Ju]at q|-
  cases e:ix[i]? with
  | none=>rw[e]at q;cases q
  | some j=>
   rw[e]at q;cases e2:σw[j]? with
   | none=>simp[e2]at q
   | some o=>
    obtain rfl:=by simpa[e2]using q
    obtain⟨O,h1,h2⟩:=S.get j u e2
    simp_all
noncomputable def gU:MT:=λ_ h Q=>Q true h
noncomputable def zL (s:Src)(own:W->Option (List W))(ix:List Nat)(tt:MT)(te:ME)(σ:Sw)(Q:WK):List W->List W->Gh->Prop
 | [],acc,h=>s.go h (Q (.lst acc) h)
 | w::r,acc,h=>s.go h (match own w with
  | some vs=>tt (vs.map Dn++uq ix σ) h λc h1=>K8 c (te (vs.map Dn++uq ix σ) h1 λv h2=>zL s own ix tt te σ Q r (acc++[v]) h2) (zL s own ix tt te σ Q r acc h1)
  | none=>False)
noncomputable def Jg (own:W->Option (List W))(ix:List Nat)(mi:MI)(tt:MT)(te:ME):ME:=fun σ h Q=>mi σ h λs h1=>fV s.ws.length (zL s own ix tt te σ Q s.ws [] h1)
noncomputable def O7 (K:BW)(n:Nat)(own:V->Hp->List V->Prop)(J:W->Option (List W)):Prop:=∀{H:Hp}{μ:Mu}{w:W}{v:V}{ws:List W},CR K H μ w v->J w=Dn ws->∃G,own v H G/\G.length=n/\aY K H μ ws G
noncomputable def Jr (w:W):Option (List W):=Dn [w]
noncomputable def owT (n:Nat)(w:W):Option (List W):=match w with
 | .tup ws=>(match Rb ws.length n with
  | true=>Dn ws
  | false=>Go)
 | _=>Go
noncomputable def ov1:V->Hp->List V->Prop:=λv _ G=>G=[v]
noncomputable def ovT (K:BW):V->Hp->List V->Prop:=λv H G=>∃a,v=.ref a/\Lq K H a G
theorem qW {K}:O7 K 1 ov1 Jr:=by
 intro H μ w v ws r e;cases e;exact⟨[v],rfl,rfl,.one r⟩
theorem aen {K}{n}:O7 K n (ovT K) (owT n):=by
 intro H μ w v ws r e;cases w with
 | tup us=>
  unfold owT at e;dsimp only at e;cases G:Rb _ n with
  | false=>rw[G]at e;cases e
  | true=>
   rw[G]at e;cases e;obtain⟨p,xs,O,hs,J⟩:=r;exact⟨xs,⟨p,O,hs⟩,J.len ▸ fM G,J⟩
 | _=>cases e
noncomputable abbrev abw (X:Cx)(ifs:List Expr)(m:MT):Prop:=aaB X ifs (tDT X.K m)
theorem iw:abw X [] gU:=λaor s σ H Q I a=>by obtain⟨μ,h,σw,G,R,S,m,k⟩:=a;exact amJ aor s σ H Q I (k _ _ ⟨μ,h,.refl,R,m⟩)
theorem iH (h:DT X c t):abw X [c] t:=aau h
theorem aa2 {K:BW}{σ:St}{H:Hp}{Q:VK}{n:Nat}{own:V->Hp->List V->Prop}{o:W->Option (List W)}{mi:MI}{tt:MT}{te:ME}(oo:O7 K n own o)(q:tD K (Jg o ix mi tt te) σ H Q):tLC n own ix (tDI K mi) (tDT K tt) (tD K te) σ H Q:=by
 obtain⟨μ,h,σw,Qw,R,S,m,k⟩:=q;refine⟨μ,h,σw,_,R,S,m,λJ H1 a=>?_⟩;obtain⟨μ1,G,h1,e1,X,I,u⟩:=a;obtain⟨hz,m1⟩:=u.ok;intro D B;have L:=X.nohid B;refine⟨λi n ys H'=>n=G.ws.length-i/\i<=G.ws.length/\ys.length<=i/\H' D=Dn (.lst ys)/\∃μ' acc h',Ji K H1 μ1 H' μ'/\Iu K μ' H' h'/\μ'.hid D/\aY K H' μ' acc ys/\zL G o ix tt te σw Qw (G.ws.drop i) acc h',
  ⟨G.ws.length,by simp,T7 _,JL _,aV,μ1.hide D,[],h1,(Ji.hide B),X.hide B,.inl rfl,.nil,m1⟩,?_⟩
 rintro i n' ys H2 ⟨hn,hle,hys,e,μ2,acc,h2,e2,R2,O,t,m2⟩ _;by_cases U:i<G.ws.length
 ·rw[v7 U]at m2;obtain⟨E,m2⟩:=Src.go_ok m2;obtain⟨z,hy⟩:=(I e2 R2 E).1 G.ws[i] (MH U);refine .inr ⟨z,by lia,λx H3 y=>?_⟩;obtain⟨r,e3,R3,rx⟩:=hy x H3 y;cases C:o G.ws[i]with
  | none=>rw[C]at m2;exact m2.elim
  | some us=>
   rw[C]at m2;obtain⟨vs,w,v,s⟩:=oo rx C;have P:=(S.ext (e1.trans (e2.trans e3))).blk (ix:=ix) s;refine⟨vs,w,v,r,h2,_,_,R3,P,m2,λb H4 c=>?_⟩;obtain⟨g,N,e4,T,M⟩:=c;have Y:=e3.trans e4;obtain⟨j,l⟩:=Y.o D _ O e;cases b with
   | false=>
    exact⟨l,G.ws.length-(i+1),by lia,rfl,U,by lia,l,g,acc,N,e2.trans Y,T,j,Y.s t,M⟩
   | true=>
    refine⟨g,N,_,_,T,P.ext e4,M,λv H5 d=>?_⟩;obtain⟨p,Z,h5,e5,F,r5,m5⟩:=d;have f:=Y.trans e5;obtain⟨J,A⟩:=f.o D _ O e;exact⟨A,G.ws.length-(i+1),by lia,rfl,U,by simp;omega,aV,p,acc++[Z],h5,(e2.trans f).x L (aaP.grow F J),F.grow J,J,(aY.ex (Ex0.grow F J)<|aY.append (f.s t)<|aY.one r5),m5⟩
 have ei:i=G.ws.length:=by lia
 subst ei;rw[List.drop_length]at m2;obtain⟨E,m2⟩:=Src.go_ok m2;exact .inl ⟨(I e2 R2 E).2 (JL _),k _ _ ⟨μ2.unhide D,.lst acc,h2,e1.trans<|e2.x L .unhide,R2.unhide,CR.built R2 O e t,m2⟩⟩
variable {scope:Scope}{x:Str}{xs:List Str}{iter:Expr}{px:Pos}{mi:MI}{tt:MT}{te:ME}
theorem qQ (B:jy X scope [x] ix)(C)(s)(H)(fp):PG (blk X scope (jG X [x] ix) C s H fp) (.Name x px) (Z9 1 ov1):=by
 obtain⟨O,J⟩:=Ph B (y:=x) (by simp);rintro aor s' σ H' v u Q I r ⟨Y,U,hl,q⟩;cases U;refine oW (i:=0) B.nd rfl O J aor s' σ H' v u Q I r ?_;have G:σ.length=(jG X [x] ix).length:=I.len;cases σ with
 | nil=>simp at G
 | cons o σ=>exact q
theorem ade {y}{py pt kt}(hc:X.calm=true)(B:jy X scope [x,y] ix)(C)(s)(H)(fp)
  (h1:∀env,(QF [.Name x px,.Name y py] env).map (·.2)=assign (.Name x px) env::(QF [.Name y py] env).map (·.2):=by intro _;rfl)
  (h2:∀env,(QF [.Name y py] env).map (·.2)=assign (.Name y py) env::(QF [] env).map (·.2):=by intro _;rfl)
  (h3:∀env,(QF [.Name x px,.Name y py] env).length=2:=by intro _;rfl) (h4:∀env,(QF [.Name x px,.Name y py] env).findIdx? (·.1)=Go:=by intro _;rfl) :
  PG (blk X scope (jG X [x,y] ix) C s H fp) (.Tuple [.Name x px,.Name y py] kt pt) (Z9 2 (ovT X.K)):=by
 obtain⟨o1,u1⟩:=Ph B (y:=x) (by simp);obtain⟨o2,u2⟩:=Ph B (y:=y) (by simp);rintro aor s' σ H' v u Q I r ⟨vs,⟨a,ea,ha⟩,hl,q⟩;refine adC (X:=blk X scope _ C s H fp) hc (xU (oW (i:=0) B.nd rfl o1 u1) (xU (oW (i:=1) B.nd rfl o2 u2) O5<|h2 _)<|h1 _) (h3 _) (h4 _) aor s' σ H' v u Q I r ⟨a,vs,ea,ha,hl,?_⟩;match vs,hl,q with
 | [v1,v2],_,q=>
  match σ,I.len,q with
  | _::_::σ,_,q=>exact⟨v1,[v2],rfl,v2,[],rfl,rfl,q⟩
theorem agB {own ow}(ix)(hc:X.calm=true)(B:jy X scope xs ix)(oo:O7 X.K xs.length own ow)(hg:∀C s H fp,PG (blk X scope (jG X xs ix) C s H fp) tg (Z9 xs.length own))(hi:TJ X tg iter mi)
  (ht:∀C s H fp,abw (blk X scope (jG X xs ix) C s H fp) ifs tt) (he:∀C s H fp,DE (blk X scope (jG X xs ix) C s H fp) elt te)
  (hs:∀v,Xx iter X.env v=pure v:=by intro _;rfl):DE X (.ListComp elt [⟨tg,iter,ifs,0⟩] scope pos) (Jg ow ix mi tt te):=(afC ix hc B hg hi ht he hs).of λ_ _ _ q=>aa2 oo q
theorem uF {own ow}(ix){i y}{py spos}(hN:X.N.Nodup)(hi':X.N[i]?=Dn y)(hy:Loc X.env.scope y)(hc:X.calm=true)(B:jy X scope xs ix)(oo:O7 X.K xs.length own ow)
  (hg:∀C s H fp,PG (blk X scope (jG X xs ix) C s H fp) tg (Z9 xs.length own)) (hi:TJ X tg iter mi)
  (ht:∀C s H fp,abw (blk X scope (jG X xs ix) C s H fp) ifs tt) (he:∀C s H fp,DE (blk X scope (jG X xs ix) C s H fp) elt te)
  (hsw:Xe (.ListComp elt [⟨tg,iter,ifs,0⟩] scope pos) (Dn (.Name y py)) spos.line X.env=pure true:=by rfl)
  (hf:X.fn y=true\/X.env.scope.names.lookup y=Dn .local:=by first|exact .inl rfl|exact .inr rfl|assumption)
  (hs:∀v,Xx iter X.env v=pure v:=by intro _;rfl):DS X (.Assign [.Name y py] (.ListComp elt [⟨tg,iter,ifs,0⟩] scope pos) spos) (bF (Jg ow ix mi tt te) (kI i)):=
 (aeX ix hN hi' hy hc B hg hi ht he hsw hf hs).of λ_ _ _ q=>Uv (λ_ _ _ z=>aa2 oo z) q
theorem agy {κ:Type}{K:BW}{H0 H:Hp}{μ0 μ:Mu}{k:Nat}(G:∀n p,μ0.f n=Dn p->n<k):∀{fs:List (κ×W)}{O J:List (κ×V)},uz K H0 μ0 fs O->uz K H μ fs J->uz K H (μ.cut k) fs J
 | [],_,_,_,.nil=>.nil
 | _::_,_,_,.cons a b,.cons c d=>.cons ⟨c.1,CR.cut c.2 (CR.lo G a.2)⟩ (agy G b d)
noncomputable def wG (pure:Bool)(h:Gh)(w:W)(h':Gh)(Q:WK):Prop:=match pure with
 | false=>Q w h'
 | true=>(∀n c,n<h.nx->h.c n=Dn c->h'.c n=Dn c)/\((Lo h.nx w/\Q w h)\/∃n ws,w=.loc n/\h.nx<=n/\h'.c n=Dn (.lst ws)/\N5 h.nx ws/\Q (.lst ws) h)
noncomputable def JH (n N:Nat)(G:Bool)(body:Bm->MS):AP:=λws h Q E=>K8 (Rb ws.length n)
 (body E {nx:=λ_ h'=>wG G h .non h' Q,rt:=λw h'=>wG G h w h' Q} (ws.map Dn++RP (N-ws.length) Go) h) False
theorem Er {n N}{G}{body h Q E}(x:JH n N G body ws h Q E):ws.length=n /\
  body E {nx:=λ_ h'=>wG G h .non h' Q,rt:=λw h'=>wG G h w h' Q} (ws.map Dn++RP (N-ws.length) Go) h:=by
 unfold JH at x;cases e:Rb _ n with
 | true=>rw[e]at x;exact⟨fM e,x⟩
 | false=>rw[e]at x;exact x.elim
theorem Iu.cut {K:BW}{H H':Hp}{μ μ':Mu}{h h':Gh}(R:Iu K μ H h)(O:Iu K μ' H' h')(e:Ji K H μ H' μ')(q:∀n c,h.c n=Dn c->h'.c n=Dn c):Iu K (μ'.cut h.nx) H' h where
 inj:=λm n p a b=>O.inj m n p (Mu.cut_some a).2 (Mu.cut_some b).2
 dom:=λn p a=>(Mu.cut_some a).1
 trk:=λn p a=>O.trk n p (Mu.cut_some a).2
 cel:=λn c a=>by
  obtain⟨k,l,U⟩:=R.cel n c a;obtain⟨p,m,x⟩:=O.cel n c (q n c a);refine⟨p,by show(if n<h.nx then μ'.f n else Go)=Dn p;rw[if_pos<|R.dom n k l];exact m,?_⟩;cases c with
  | lst ws=>
   obtain⟨i,_,G⟩:=U;obtain⟨xs,J,r⟩:=x;exact⟨xs,J,aY.cut r<|aY.lo R.dom G⟩
  | obj C fs=>
   obtain⟨s,g,_,G⟩:=U;obtain⟨dx,Y,J,r⟩:=x;exact⟨dx,Y,J,agy R.dom G r⟩
  | dct kvs=>
   obtain⟨g,_,G⟩:=U;obtain⟨Y,J,r⟩:=x;exact⟨Y,J,agy R.dom G r⟩
  | dtt kvs=>
   obtain⟨_,_,_,_,_,u,g⟩:=U;obtain⟨xs,j,a,b,c,d,f⟩:=x;exact⟨xs,j,a,b,c,aY.cut d<|aY.lo R.dom u,aY.cut f<|aY.lo R.dom g⟩
 hd:=λp z=>⟨(O.hd p z).1,λn a=>(O.hd p z).2 n (Mu.cut_some a).2⟩
theorem Ji.cut {K}{H H' μ μ' h}(R:Iu K μ H h)(e:Ji K H μ H' μ'):Ji K H μ H' (μ'.cut h.nx):=
 ⟨λw v r=>CR.cut (e.r w v r) (CR.lo R.dom r),λp u z a=>e.o p u z a⟩
theorem wM {K:BW}{H H':Hp}{h h':Gh}{w:W}{v:V}{Q:WK}{G:Bool}(R:Iu K μ H h)(e:Ji K H μ H' μ')(J:Iu K μ' H' h')(r:CR K H' μ' w v)(x:wG G h w h' Q):DQ K H μ Q v H':=by
 cases G with
 | false=>exact⟨μ',w,h',e,J,r,x⟩
 | true=>
  obtain⟨Y,⟨lo,q⟩|⟨n,ws,g,k,j,lo,q⟩⟩:=x;all_goals have b:=λn c a=>Y n c (let⟨p,m,_⟩:=R.cel n c a;R.dom n p m) a
  exact⟨μ'.cut _,w,h,e.cut R,R.cut J e b,CR.cut r lo,q⟩;subst g;refine⟨μ'.cut _,.lst ws,h,e.cut R,R.cut J e b,?_,q⟩;obtain⟨p,i,U⟩:=r;obtain⟨p',xs,O,f,d⟩:=J.lstAt j;obtain rfl:=by rw[U]at O;exact(Ma O).symm
  refine⟨p',xs,i,⟨f,λm a=>?_,λz=>(J.hd p' z).2 n U⟩,aY.cut d lo⟩;obtain⟨a1,a2⟩:=Mu.cut_some a;have:=J.inj m n p' a2 U
  lia
theorem rm {K H}{N}:∀{ws G},aY K H μ ws G->Slots K H μ (ws.map Dn++RP (N.length-ws.length) Go) (start N G):=by
 intro ws G r;have hl:=r.len;refine⟨by simp[start,hl],λi w q=>?_⟩;by_cases hi:i<ws.length
 rw[Rx (by simpa using hi)]at q;have O:ws[i]?=Dn w:=by
  simp_all
 obtain⟨v,U,J⟩:=r.get O;refine⟨v,?_,J⟩;unfold start;rw[Rx (by rw[Ik];lia),Ju,U];rfl;rw[Sv (by simpa using hi),ux]at q;simp_all
theorem ahl {P w K}{mg base}{x qual st f fd}{N ps k}{O}{body}(F:W2 K x qual st f fd)(S:gM N ps (aX st))
  (g:∀cdv A  (outer) (s) (H) (E),gQ k (A.deeper (T4 qual (aX st) s.heap.objs.size f cdv)) ->
   Tw (J5 Q8 P w K mg base N qual (aX st) f cdv A outer s H E).nox (dJ st) (body EF)):jO P w K mg base Q8 (k+1) f fd ps (lift K (JH ps.length N.length O body)):=by
 refine F.ok S (λvs H Q E b=>by obtain⟨μ,h,ws,i,R,r,m,k⟩:=b;rw[<-r.len];exact(Er m).1)<|λcdv A outer s H j Q E e a=>?_;obtain⟨μ,h,ws,i,R,r,d,k⟩:=a
 obtain⟨hl,m⟩:=Er d;refine⟨_,g cdv A outer s H E e,μ,h,_,_,R,rm r,m,?_,?_,?_,?_⟩;rintro J H' ⟨μ1,G,h1,e1,U,Y,m1⟩;exact k _ _<|wM R e1 U (by rw[CR]) m1
 rintro v H' ⟨μ1,w1,h1,e1,U,c,m1⟩;exact k _ _<|wM R e1 U c m1
 rintro J H' ⟨μ1,G,h1,e1,U,Y,m1⟩;exact m1.elim;rintro J H' ⟨μ1,G,h1,e1,U,Y,m1⟩;exact m1.elim
end
variable {H0:Hp}{mo te:ME}{mi:MI}{tt:MT}{kt:Nat}
section
variable {X:Cx}{K:BW}
theorem DQ.int {H μ h}{i Q}(R:Iu K μ H h)(q:Q (.int i) h):DQ K H μ Q (.int i) H:=⟨μ,.int i,h,.refl,R,by rw[CR],q⟩
theorem DQ.bl {H μ h}{i Q}(R:Iu K μ H h)(q:Q (.bl i) h):DQ K H μ Q (.bl i) H:=⟨μ,.bl i,h,.refl,R,by rw[CR],q⟩
noncomputable def kB (g:Int->Int->Bool):M2:=λx y h Q=>match x,y with
 | .int i,.int j=>Q (.bl (g i j)) h
 | _,_=>False
noncomputable def Az:M2:=λx y h Q=>match x,y with
 | .int i,.int j=>Q (.int (i-j)) h
 | _,_=>False
theorem oV:Qi X (Qy .Sub) Az:=⟨_,abf,by
 intro H μ h x y U O Y Q R J G m k;unfold Az at m;split at m
 exact⟨_,_,J,G,k _ _<|.int R m⟩;cases m⟩
noncomputable def dz:M2:=λx y h Q=>match x,y with
 | .int i,.int j=>fY i j/\Q (.int (i*j)) h
 | _,_=>False
theorem bJ:Qi X (Qy .Mult) dz:=⟨_,amj,by
 intro H μ h x y U O Y Q R J G m k;unfold dz at m;split at m
 exact⟨_,_,J,G,m.1,k _ _<|.int R m.2⟩;cases m⟩
noncomputable def Fd:M2:=λx y h Q=>match x,y with
 | .int i,.int j=>Ov i j/\Q (.int (i.fdiv j)) h
 | _,_=>False
theorem vO:Qi X (Qy .FloorDiv) Fd:=⟨_,zaW,by
 intro H μ h x y U O Y Q R J G m k;unfold Fd at m;split at m
 exact⟨_,_,J,G,m.1,k _ _<|.int R m.2⟩;cases m⟩
noncomputable def zF:M2:=λx y h Q=>match x,y with
 | .int i,.int j=>j≠0/\Q (.int (i.fmod j)) h
 | _,_=>False
theorem qg:Qi X (Qy .Mod) zF:=⟨_,amU,by
 intro H μ h x y U O Y Q R J G m k;unfold zF at m;split at m
 exact⟨_,_,J,G,m.1,k _ _<|.int R m.2⟩;cases m⟩
noncomputable def agr:M2:=λx y h Q=>match x,y with
 | .int i,.int j=>ag8 i j/\Q (.int (i^j.toNat)) h
 | _,_=>False
theorem af0:Qi X (Qy .Pow) agr:=⟨_,adK,by
 intro H μ h x y U O Y Q R J G m k;unfold agr at m;split at m
 exact⟨_,_,J,G,m.1,k _ _<|.int R m.2⟩;cases m⟩
noncomputable def kLt:M2:=λx y h Q=>match x,y with
 | .int i,.int j=>Q (.bl (decide (i<j))) h
 | _,_=>False
theorem ZK:Qi X (PJ .Lt) kLt:=⟨_,ago,by
 intro H μ h x y U O Y Q R J G m k;unfold kLt at m;split at m
 exact⟨_,_,J,G,k _ _<|.bl R m⟩;cases m⟩
noncomputable def kLe:M2:=λx y h Q=>match x,y with
 | .int i,.int j=>Q (.bl (decide (i<=j))) h
 | _,_=>False
theorem ahG:Qi X (PJ .LtE) kLe:=⟨_,aeV,by
 intro H μ h x y U O Y Q R J G m k;unfold kLe at m;split at m
 exact⟨_,_,J,G,k _ _<|.bl R m⟩;cases m⟩
noncomputable def W6:M2:=λx y h Q=>match x,y with
 | .int i,.int j=>Q (.bl (decide (j<i))) h
 | _,_=>False
theorem Z5:Qi X (PJ .Gt) W6:=⟨_,afD,by
 intro H μ h x y U O Y Q R J G m k;unfold W6 at m;split at m
 exact⟨_,_,J,G,k _ _<|.bl R m⟩;cases m⟩
noncomputable def kGe:M2:=λx y h Q=>match x,y with
 | .int i,.int j=>Q (.bl (decide (j<=i))) h
 | _,_=>False
theorem ain:Qi X (PJ .GtE) kGe:=⟨_,afT,by
 intro H μ h x y U O Y Q R J G m k;unfold kGe at m;split at m
 exact⟨_,_,J,G,k _ _<|.bl R m⟩;cases m⟩
theorem aY.ne_nil {H}{xs}(r:aY K H μ ws xs):xs=[]↔ws=[]:=by
 have:=r.len
 grind
noncomputable def BZ:M2:=λx y h Q=>match y with
 | .int i=>(match view h x with
  | some ws=>(match OD ws i with
   | some w=>Q w h
   | none=>False)
  | none=>False)
 | _=>False
theorem aY.at {H μ}{ws xs i w}(r:aY K H μ ws xs)(e:OD ws i=Dn w):∃v,OD xs i=Dn v/\CR K H μ w v:=by
 unfold OD at e|-
 rw[<-r.len];cases q:Ro _ i with
 | none=>rw[q]at e;cases e
 | some j=>rw[q]at e;exact r.get e
theorem dU {H h w v}(R:Iu K μ H h)(r:CR K H μ w v)(e:d9 h w=Dn ws):∃p xs,v=.ref p/\Kh K H p xs/\aY K H μ ws xs:=by
 cases w with
 | lst us|kls us=>
  obtain⟨p,xs,O,hs,J⟩:=r;cases e;exact⟨p,xs,O,hs.sq,J⟩
 | loc n=>
  obtain⟨p,O,a⟩:=r;unfold d9 at e;dsimp only at e;cases U:h.c n with
  | none=>rw[U]at e;cases e
  | some cl=>
   rw[U]at e;cases cl with
   | lst us=>
    cases e;obtain⟨p',xs,G,Y,J⟩:=R.lstAt U;obtain rfl:=by rw[a]at G;exact(Ma G).symm
    exact⟨p',xs,O,.of Y,J⟩
   | _=>cases e
 | _=>cases e
theorem Cj {H h w v}(R:Iu K μ H h)(r:CR K H μ w v)(e:view h w=Dn ws):∃p xs,v=.ref p/\(Kh K H p xs\/Lq K H p xs)/\aY K H μ ws xs:=by
 cases w with
 | tup us=>
  obtain⟨p,xs,J,hs,G⟩:=r;cases e;grind
 | lst us|kls us|loc n=>
  obtain⟨p,xs,J,hs,G⟩:=dU R r e;grind
 | _=>cases e
theorem ab0:ahb K (rIx K) BZ:=by
 intro H μ h x y e d f Q R U J m k;unfold BZ at m;split at m
 rename_i i;split at m
 rename_i ws c;split at m
 rename_i w b;obtain⟨p,xs,ex,hs,a⟩:=Cj R U c;obtain⟨v,O,Y⟩:=a.at b;have G:=k _ _ ⟨μ,w,h,.refl,R,Y,m⟩;rcases hs with hs|hs
 exact .inl ⟨p,xs,i,v,ex,J,hs,O,G⟩;exact .inr<|.inl ⟨p,xs,i,v,ex,J,hs,O,G⟩
 cases m;cases m;cases m
theorem afv {a b mb}{pos}(ha:DE X a ma)(O:DE X b mb)(hs:Cp b):DE X (.Subscript a b pos) (Mk BZ ma mb):=(afI adQ ha O hs).of fun σ H Q h=>two h λR J G m k=>ab0 R J G m k
noncomputable abbrev MO:=Sw->Gh->(Option Int->Gh->Prop)->Prop
noncomputable def tDO (K:BW)(m:MO):TO:=fun σ H Q=>∃μ h σw G,Iu K μ H h/\Slots K H μ σw σ/\m σw h G/\∀o H',(∃μ' h',Ji K H μ H' μ'/\Iu K μ' H' h'/\G o h')->Q o H'
noncomputable abbrev DO (X:Cx)(e:Option Expr)(m:MO):Prop:=PO X e (tDO X.K m)
theorem PO.of {e t t'}(h:PO X e t)(k:∀σ H Q,t' σ H Q->t σ H Q):PO X e t':=by
 unfold PO at h|-
 intros
 grind
noncomputable def dD:MO:=λ_ h Q=>Q Go h
noncomputable def iQ (m:ME):MO:=fun σ h Q=>m σ h λw h1=>match w with
 | .int i=>Q (Dn i) h1
 | _=>False
theorem fJ:DO X Go dD:=PO.of amH fun σ H Q a=>by obtain⟨μ,h,σw,G,R,S,m,k⟩:=a;exact k _ _ ⟨μ,h,.refl,R,m⟩
theorem cH {e}(J:DE X e ma):DO X (Dn e) (iQ ma):=PO.of (ajS J) fun σ H Q b=>by
 obtain⟨μ,h,σw,U,R,S,m,k⟩:=b;refine⟨μ,h,σw,_,R,S,m,λv H1 a=>?_⟩;obtain⟨μ1,w,h1,e1,O,G,m1⟩:=a;split at m1
 exact⟨_,G,k _ _ ⟨μ1,h1,e1,O,m1⟩⟩;cases m1
noncomputable def J4 (xs:List W)(lo hi:Option Int):List W:=(xs.drop (HT.sIx xs.length 0 lo)).take (HT.sIx xs.length xs.length hi-HT.sIx xs.length 0 lo)
noncomputable def RX (r:W->Option Int->Option Int->Gh->WK->Prop)(m:ME)(l u:MO):ME:=fun σ h Q=>m σ h λx h1=>l σ h1 λlo h2=>u σ h2 λhi G=>r x lo hi G Q
theorem aY.cutv {H}{xs}(r:aY K H μ ws xs)(lo hi):aY K H μ (J4 ws lo hi) (Xf xs lo hi):=by
 unfold J4 Xf;exact r.len ▸ (r.drop _).take _
end
mutual
noncomputable def Jf:W->W->Bool
 | .non,.non=>true
 | .bl a,.bl b=>a==b
 | .bl a,.int b=>(if a then 1 else 0)==b
 | .int a,.bl b=>a==(if b then 1 else 0)
 | .int a,.int b=>a==b
 | .str a,.str b=>a==b
 | .tup a,.tup b=>oA a b
 | .lst a,.lst b=>oA a b
 | _,_=>false
noncomputable def oA:List W->List W->Bool
 | [],[]=>true
 | a::as,b::bs=>Jf a b&&oA as bs
 | _,_=>false
end
noncomputable def Jc:Nat->W->Bool
 | _,.non=>true
 | _,.bl _=>true
 | _,.int _=>true
 | _,.str _=>true
 | n+1,.tup ws=>ws.all (Jc n)
 | n+1,.lst ws=>ws.all (Jc n)
 | _,_=>false
mutual
noncomputable def Dt (K:BW)(H:Hp):W->V->Prop
 | .non,v=>v=.non
 | .bl b,v=>v=.bl b
 | .int i,v=>v=.int i
 | .str x,v=>v=.str x
 | .tup ws,v=>∃p xs,v=.ref p/\Lq K H p xs/\Mg K H ws xs
 | .lst ws,v=>∃p xs,v=.ref p/\Kh K H p xs/\Mg K H ws xs
 | .ty _,_=>False
 | .kls _,_=>False
 | .loc _,_=>False
 | .exc _,_=>False
 | .exa _ _,_=>False
 | .fnv _ _,_=>False
noncomputable def Mg (K:BW)(H:Hp):List W->List V->Prop
 | [],xs=>xs=[]
 | w::ws,xs=>∃v vs,xs=v::vs/\Dt K H w v/\Mg K H ws vs
end
section
variable {X:Cx}{K:BW}{H:Hp}{h:Gh}
theorem Mg.len:∀{ws xs},Mg K H ws xs->ws.length=xs.length
 | [],xs,h=>by
  have e:=h;rw[e];rfl
 | w::ws,xs,h=>by
  obtain⟨v,G,e,_,h⟩:=h;rw[e,PL,PL,Mg.len h]
theorem Mg.get:∀{ws:List W}{xs:List V}{i:Nat}{w:W},Mg K H ws xs->ws[i]?=Dn w->∃v,xs[i]?=Dn v/\Dt K H w v
 | a::ws,xs,0,w,h,e=>by
  obtain⟨v,G,e1,r,_⟩:=h;simp_all
 | a::ws,xs,i+1,w,h,e=>by
  obtain⟨v,G,e1,_,h⟩:=h;subst e1;obtain⟨u,h1,h2⟩:=Mg.get h (by simpa using e)
  simp_all
theorem yF {n}(G:∀{w v},CR K H μ w v->Jc n w=true->Dt K H w v):∀{ws xs},aY K H μ ws xs->ws.all (Jc n)=true->Mg K H ws xs
 | [],_,h,_=>by rwa[Mg]
 | w::ws,_,h,p=>by
  obtain⟨v,J,e,r,h⟩:=h;rw[List.all_cons,Uj]at p;exact⟨v,J,e,G r p.1,yF G h p.2⟩
theorem Rm:∀n  {w v},CR K H μ w v->Jc n w=true->Dt K H w v:=by
 intro n;induction n with
 | zero=>
  intro w v r p;cases w with
  | non|bl _|int _|str _=>rw[CR]at r;exact r
  | _=>simp[Jc]at p
 | succ n J=>
  intro w v r p;cases w with
  | non|bl _|int _|str _=>rw[CR]at r;exact r
  | tup ws=>
   obtain⟨p',xs,e,hs,G⟩:=r;exact⟨p',xs,e,hs,yF J G<|by simpa[Jc]using p⟩
  | lst ws=>
   obtain⟨p',xs,e,hs,G⟩:=r;exact⟨p',xs,e,hs.sq,yF J G<|by simpa[Jc]using p⟩
  | _=>simp[Jc]at p
theorem wj:∀{a b},a.length≠b.length->oA a b=false
 | [],_::_,_|_::_,[],_=>by simp[oA]
 | a::as,b::bs,h=>by
  rw[oA,wj (by simpa using h),Zz]
noncomputable def ael (a b:List W)(j:Nat):Bool:=Jf (a.getD j .non) (b.getD j .non)
theorem xG:∀{a b},a.length=b.length->(Qv a.length).all (ael a b)=oA a b
 | [],[],_=>by simp[oA]
 | a::as,b::bs,h=>by
  rw[oA,<-xG (by simpa using h),PL,List.range_succ_eq_map,List.all_cons,List.all_map];rfl
mutual
theorem HN {aor:List (Addr×Obj)}{s:Ab}{σ:St}(I:Al X aor σ H s):∀{w u:W}{v:V},Dt X.K H w v->Dt X.K H u v->Jf w u=true
 | .non,u,v,h,g=>by rw[Dt]at h;subst h;cases u<;>rw[Dt]at g<;>first|rfl|exact g.elim|(obtain⟨_,_,g,_⟩:=g;cases g;done)|(cases g;done)
 | .bl b,u,v,h,g=>by rw[Dt]at h;subst h;cases u<;>rw[Dt]at g<;>first|(injection g with g;simp[Jf,g];done)|exact g.elim|(obtain⟨_,_,g,_⟩:=g;cases g;done)|(cases g;done)
 | .int b,u,v,h,g=>by rw[Dt]at h;subst h;cases u<;>rw[Dt]at g<;>first|(injection g with g;simp[Jf,g];done)|exact g.elim|(obtain⟨_,_,g,_⟩:=g;cases g;done)|(cases g;done)
 | .str b,u,v,h,g=>by rw[Dt]at h;subst h;cases u<;>rw[Dt]at g<;>first|(injection g with g;simp[Jf,g];done)|exact g.elim|(obtain⟨_,_,g,_⟩:=g;cases g;done)|(cases g;done)
 | .tup ws,u,v,h,g=>by
  rw[Dt]at h;obtain⟨p,xs,e,hs,ds⟩:=h;subst e;cases u with
  | tup us=>
   rw[Dt]at g;obtain⟨p',xs',e',hs',ds'⟩:=g;cases e'
   have:=I.tuple_inj hs hs'
   subst this;rw[Jf];exact rJ I ds ds'
  | lst us=>
   rw[Dt]at g;obtain⟨p',xs',e',hs',ds'⟩:=g;cases e'
   obtain⟨_,_,t,_⟩:=I.tuple hs;obtain⟨_,_,l,_⟩:=I.list hs';exact absurd rfl<|uI l.isList<|show s.heap.IsTuple _ _ from t
  | ty _=>rw[Dt]at g;exact g.elim
  | loc _=>rw[Dt]at g;exact g.elim
  | kls _=>rw[Dt]at g;exact g.elim
  | _=>rw[Dt]at g;cases g
 | .lst ws,u,v,h,g=>by
  rw[Dt]at h;obtain⟨p,xs,e,hs,ds⟩:=h;subst e;cases u with
  | lst us=>
   rw[Dt]at g;obtain⟨p',xs',e',hs',ds'⟩:=g;cases e'
   have:=I.list_inj hs hs'
   subst this;rw[Jf];exact rJ I ds ds'
  | tup us=>
   rw[Dt]at g;obtain⟨p',xs',e',hs',ds'⟩:=g;cases e'
   obtain⟨_,_,t,_⟩:=I.tuple hs';obtain⟨_,_,l,_⟩:=I.list hs;exact absurd rfl<|uI l.isList<|show s.heap.IsTuple _ _ from t
  | ty _=>rw[Dt]at g;exact g.elim
  | loc _=>rw[Dt]at g;exact g.elim
  | kls _=>rw[Dt]at g;exact g.elim
  | _=>rw[Dt]at g;cases g
 | .ty _,_,_,h,_=>by rw[Dt]at h;exact h.elim
 | .loc _,_,_,h,_=>by rw[Dt]at h;exact h.elim
 | .exc _,_,_,h,_=>by rw[Dt]at h;exact h.elim
 | .exa _ _,_,_,h,_=>by rw[Dt]at h;exact h.elim
 | .kls _,_,_,h,_=>by rw[Dt]at h;exact h.elim
theorem rJ {aor:List (Addr×Obj)}{s:Ab}{σ:St}(I:Al X aor σ H s):∀{ws us:List W}{vs:List V},Mg X.K H ws vs->Mg X.K H us vs->oA ws us=true
 | [],us,vs,h,g=>by
  rw[Mg]at h;subst h;cases us with
  | nil=>rfl
  | cons _ _=>rw[Mg]at g;obtain⟨_,_,g,_⟩:=g;cases g
 | w::ws,us,vs,h,g=>by
  rw[Mg]at h;obtain⟨v,vs',e,h1,h2⟩:=h;subst e;cases us with
  | nil=>rw[Mg]at g;cases g
  | cons u us=>
   rw[Mg]at g;obtain⟨v',vs'',e',g1,g2⟩:=g;cases e'
   rw[oA,HN I h1 g1,rJ I h2 g2];rfl
end
theorem amA {n}(h:Jc n (.lst ws)=true):∃m,n=m+1/\ws.all (Jc m)=true:=by
 cases n with
 | zero=>simp[Jc]at h
 | succ m=>exact⟨m,rfl,by simpa[Jc]using h⟩
theorem GK {s A}{n}{us}{xs ys}{its G}(h:Mg K H ws xs)(g:Mg K H us ys)(l:ws.all (Jc n)=true)(p2:us.all (Jc n)=true)(c:CZ xs its)(Y:CZ ys G)
  (J:∀{w u v x}{a b},Dt K H w v->Dt K H u x->Jc n w=true->Jc n u=true->RelV v a->RelV x b->YK A s a b (Jf w u)) :
  ∀j h1  (h2:j<G.toArray.size),YK A s its.toArray[j] G.toArray[j] (ael ws us j):=by
 intro j h1 h2;have f:j<ws.length:=by rw[h.len,c.length];simpa using h1
 have d:j<us.length:=by rw[g.len,Y.length];simpa using h2
 obtain⟨v,m,dv⟩:=h.get (MH f);obtain⟨x,ex,dx⟩:=g.get (MH d);obtain⟨a,p,k⟩:=c.get m;obtain⟨b,o,i⟩:=Y.get ex;have U:its.toArray[j]=a:=by simpa using(Oi.mp p).2
 have O:G.toArray[j]=b:=by simpa using(Oi.mp o).2
 have e:ael ws us j=Jf ws[j] us[j]:=by
  unfold ael
  simp_all
 rw[U,O,e];exact J dv dx (XF.mp l _<|YH f) (XF.mp p2 _<|YH d) k i
theorem size_of {xs}{its}(d:Mg K H ws xs)(r:CZ xs its):its.toArray.size=ws.length:=by
 rw[d.len,r.length];simp
theorem alB {us}:((Qv (min ws.length us.length)).all (ael ws us)&&ws.length==us.length)=oA ws us:=by
 by_cases e:ws.length=us.length
 rw[<-e,Nat.min_self,xG e];simp;rw[wj e,(beq_eq_false_iff_ne.mpr e),Zz]
inductive Kd (s:Ab):W->JI->Prop where
 | non:Kd s .non .none
 | bl (b:Bool):Kd s (.bl b) (.bool b)
 | int (i:Int) (t:Tok):Kd s (.int i) (.int i t)
 | str (x:Str) (t:Tok):Kd s (.str x) (.str x t)
 | tup (ws:List W) {p:Addr}{its:Array JI}(q:s.heap.IsTuple p its):Kd s (.tup ws) (.ref p)
 | lst (ws:List W) {p:Addr}{its:Array JI}(q:s.heap.IsList p its):Kd s (.lst ws) (.ref p)
theorem Ag {aor:List (Addr×Obj)}{s:Ab}{σ:St}(I:Al X aor σ H s){w:W}{v:V}{a:JI}(d:Dt X.K H w v)(r:RelV v a):Kd s w a:=by
 cases w with
 | non=>rw[Dt]at d;subst d;cases r;exact .non
 | bl b=>rw[Dt]at d;subst d;cases r;exact .bl b
 | int b=>rw[Dt]at d;subst d;obtain⟨t,rfl⟩:=r;exact .int b t
 | str b=>rw[Dt]at d;subst d;obtain⟨t,rfl⟩:=r;exact .str b t
 | tup ws=>rw[Dt]at d;obtain⟨p,xs,e,hs,_⟩:=d;subst e;cases r;obtain⟨its,_,q,_⟩:=I.tuple hs;exact .tup ws q
 | lst ws=>rw[Dt]at d;obtain⟨p,xs,e,hs,_⟩:=d;subst e;cases r;obtain⟨its,_,q,_⟩:=I.list hs;exact .lst ws q.isList
 | _=>rw[Dt]at d;exact d.elim
noncomputable def sq1:W->Bool
 | .tup _=>true
 | .lst _=>true
 | _=>false
noncomputable def tM:W->W->Bool
 | .tup _,.tup _=>true
 | .lst _,.lst _=>true
 | _,_=>false
noncomputable def aeJ (w u:W):Bool:=!(sq1 w||sq1 u)
open SeqAt.EqAt in
theorem UJ {s A}{w u}{a b}(G:A.units<Nb)(k1:Kd s w a)(k2:Kd s u b)(h:tM w u=false)(f:aeJ w u=false):YK A s a b (Jf w u):=by
 cases k1<;>cases k2<;>try (first|(cases h;done)|(cases f;done))
 apply none_tuple<;>assumption
 apply none_list<;>assumption
 apply bool_tuple<;>assumption
 apply bool_list<;>assumption
 apply int_tuple<;>assumption
 apply int_list<;>assumption
 apply str_tuple<;>assumption
 apply str_list<;>assumption
 apply tuple_none<;>assumption
 apply tuple_bool<;>assumption
 apply tuple_int<;>assumption
 apply tuple_str<;>assumption
 apply tuple_list<;>assumption
 apply list_none<;>assumption
 apply list_bool<;>assumption
 apply list_int<;>assumption
 apply list_str<;>assumption
 apply list_tuple<;>assumption
open SeqAt.RcAt in
theorem ad3 {s A}{w u}{a b}(G:A.units<Nb)(k1:Kd s w a)(k2:Kd s u b)(h:tM w u=false):SeqAt.RcAt A s a b (Jf w u):=by
 cases k1<;>cases k2<;>try (first|(cases h;done))
 apply none_none<;>assumption
 apply none_bool<;>assumption
 apply none_int<;>assumption
 apply none_str<;>assumption
 apply none_tuple<;>assumption
 apply none_list<;>assumption
 apply bool_none<;>assumption
 apply bool_bool<;>assumption
 apply bool_int<;>assumption
 apply bool_str<;>assumption
 apply bool_tuple<;>assumption
 apply bool_list<;>assumption
 apply int_none<;>assumption
 apply int_bool<;>assumption
 apply int_int<;>assumption
 apply int_str<;>assumption
 apply int_tuple<;>assumption
 apply int_list<;>assumption
 apply str_none<;>assumption
 apply str_bool<;>assumption
 apply str_int<;>assumption
 apply str_str<;>assumption
 apply str_tuple<;>assumption
 apply str_list<;>assumption
 apply tuple_none<;>assumption
 apply tuple_bool<;>assumption
 apply tuple_int<;>assumption
 apply tuple_str<;>assumption
 apply tuple_list<;>assumption
 apply list_none<;>assumption
 apply list_bool<;>assumption
 apply list_int<;>assumption
 apply list_str<;>assumption
 apply list_tuple<;>assumption
open SeqAt.RcNeAt in
theorem aeo {s:Ab}{A:Ig}{w u:W}{a b:JI}(G:A.units<Nb)(k1:Kd s w a)(k2:Kd s u b)(h:tM w u=false):SeqAt.RcNeAt A s a b (!Jf w u):=by
 cases k1<;>cases k2<;>try (first|(cases h;done))
 apply none_none<;>assumption
 apply none_bool<;>assumption
 apply none_int<;>assumption
 apply none_str<;>assumption
 apply none_tuple<;>assumption
 apply none_list<;>assumption
 apply bool_none<;>assumption
 apply bool_bool<;>assumption
 apply bool_int<;>assumption
 apply bool_str<;>assumption
 apply bool_tuple<;>assumption
 apply bool_list<;>assumption
 apply int_none<;>assumption
 apply int_bool<;>assumption
 apply int_int<;>assumption
 apply int_str<;>assumption
 apply int_tuple<;>assumption
 apply int_list<;>assumption
 apply str_none<;>assumption
 apply str_bool<;>assumption
 apply str_int<;>assumption
 apply str_str<;>assumption
 apply str_tuple<;>assumption
 apply str_list<;>assumption
 apply tuple_none<;>assumption
 apply tuple_bool<;>assumption
 apply tuple_int<;>assumption
 apply tuple_str<;>assumption
 apply tuple_list<;>assumption
 apply list_none<;>assumption
 apply list_bool<;>assumption
 apply list_int<;>assumption
 apply list_str<;>assumption
 apply list_tuple<;>assumption
theorem yw:∀{w u},tM w u=true->(∃ws us,w=.tup ws/\u=.tup us)\/∃ws us,w=.lst ws/\u=.lst us
 | .tup ws,.tup us,_=>.inl ⟨ws,us,rfl,rfl⟩
 | .lst ws,.lst us,_=>.inr ⟨ws,us,rfl,rfl⟩
noncomputable def wV:V->W
 | .bl b=>.bl b
 | .int b=>.int b
 | .str b=>.str b
 | _=>.non
theorem afX {v x}(h:Ow v=true)(g:Ow x=true):Jf (wV v) (wV x)=eqV v x:=by
 cases v<;>first|(cases h;done)|(cases x<;>first|(cases g;done)|rfl)
theorem Vr {w v}(d:Dt K H w v)(h:sq1 w=false):Ow v=true/\w=wV v:=by
 cases w with
 | tup _|lst _=>cases h
 | non|bl _|int _|str _=>rw[Dt]at d;subst d;exact⟨rfl,rfl⟩
 | _=>rw[Dt]at d;cases d
theorem VD {s A}{w u v x}{a b}(U:Dt K H w v)(Y:Dt K H u x)(G:aeJ w u=true)(O:RelV v a)(J:RelV x b):YK A s a b (Jf w u):=by
 have G:=Bool.or_eq_false_iff.mp (Eq.mp (Bool.not_eq_true' _) G);have⟨f1,e1⟩:=Vr U G.1;have⟨f2,e2⟩:=Vr Y G.2;rw[e1,e2,afX f1 f2];exact acE O J f1 f2
theorem Ut {aor:List (Addr×Obj)}{s:Ab}{σ:St}(I:Al X aor σ H s){n:Nat}{A:Ig}{w u:W}{v x:V}{a b:JI}(l:∀{w u:W}{v x:V}{a b:JI},Dt X.K H w v->Dt X.K H u x->Jc n w=true->Jc n u=true->RelV v a->RelV x b->YK A.in1 s a b (Jf w u))(g:A.units<Nb)(h2:tM w u=true)(y:Dt X.K H w v)(z:Dt X.K H u x)(j:Jc (n+1) w=true)(k:Jc (n+1) u=true)(t:RelV v a)(r:RelV x b):∃p q,v=.ref p/\x=.ref q/\a=.ref p/\b=.ref q/\SeqAt.RcAt A s a b (Jf w u)/\SeqAt.RcNeAt A s a b (!Jf w u):=by
 rcases yw h2 with⟨ws,us,rfl,rfl⟩|⟨ws,us,rfl,rfl⟩<;>obtain⟨p,o,rfl,i,O⟩:=y<;>obtain⟨q,m,rfl,h,c⟩:=z<;>cases t<;>cases r<;>refine⟨p,q,rfl,rfl,rfl,rfl,?_⟩<;>rw[Jf]<;>rw[Jc]at j k
 obtain⟨Y,G,f,_⟩:=I.tuple i;obtain⟨U,J,d,_⟩:=I.tuple h;have it:=GK O c j k G J l;rw[<-alB,<-size_of O G,<-size_of c J];exact⟨.tuples f d g it,.tuples f d g it⟩;obtain⟨Y,G,f,_⟩:=I.list i;obtain⟨U,J,d,_⟩:=I.list h;by_cases hl:ws.length=us.length
 have it:=GK O c j k G J l;have e:Y.toArray.size=U.toArray.size:=by rw[size_of O G,size_of c J,hl]
 rw[<-xG hl,<-size_of O G];exact⟨.lists f.isList d.isList e g it,.lists f.isList d.isList e g it⟩;rw[wj hl];have e:(Y.toArray.size != U.toArray.size)=true:=by rw[size_of O G,size_of c J];exact bne_iff_ne.mpr hl
 exact⟨.lists_lengths f.isList d.isList e g,.lists_lengths f.isList d.isList e g⟩
theorem Nx {w u}(h:tM w u=true):∀{n},Jc n w=true->∃m,n=m+1
 | 0,p=>by rcases yw h with⟨_,_,rfl,_⟩|⟨_,_,rfl,_⟩<;>cases p
 | m+1,_=>⟨m,rfl⟩
theorem aep {aor s}{σ:St}(I:Al X aor σ H s):∀n  {A}{w u v x}{a b},A.units+n<Nb->Dt X.K H w v->Dt X.K H u x->Jc n w=true->Jc n u=true->RelV v a->RelV x b->YK A s a b (Jf w u):=by
 intro n;induction n with
 | zero=>
  intro A w u v x a b Y G J d f U O;by_cases c:aeJ w u=true
  exact VD G J c U O;by_cases h2:tM w u=true
  obtain⟨m,e⟩:=Nx h2 d;cases e;exact UJ Y (Ag I G U) (Ag I J O) (Zf _ ▸ h2)<|Zf _ ▸ c
 | succ n h=>
  intro A w u v x a b Y G J d f U O;by_cases c:aeJ w u=true
  exact VD G J c U O;by_cases h2:tM w u=true
  obtain⟨p,q,rfl,rfl,rfl,rfl,z,_⟩:=Ut I (h (by rw[Nat.add_assoc,Nat.add_comm 1];exact Y)) (Yw (Nat.le_add_right _ _) Y) h2 G J d f U O;by_cases g:p=q
  subst g;rw[HN I G J];exact SeqAt.EqAt.same _;exact SeqAt.EqAt.of_refs g z;exact UJ (Yw (Nat.le_add_right _ _) Y) (Ag I G U) (Ag I J O) (Zf _ ▸ h2)<|Zf _ ▸ c
theorem rcN {aor s}{σ:St}(I:Al X aor σ H s){A}{w u v x}{a b}{p:Prop}(c:A.units+(m+1)<Nb)(G:A.units<Nb)(h2:tM w u=true)(d:Dt X.K H w v)(e:Dt X.K H u x)(U:Jc (m+1) w=true)(Y:Jc (m+1) u=true)(O:RelV v a)(J:RelV x b)(f:SeqAt.RcAt A s a b (Jf w u)/\SeqAt.RcNeAt A s a b (!Jf w u)->p):p:=by
 obtain⟨_,_,_,_,_,_,z⟩:=Ut I (aep I m (by rw[Nat.add_assoc,Nat.add_comm 1];exact c)) G h2 d e U Y O J;exact f z
theorem afh {aor s}{σ:St}(I:Al X aor σ H s)(n){A}{w u v x}{a b}(Y:A.units+n<Nb)(c:Dt X.K H w v)(d:Dt X.K H u x)(U:Jc n w=true)(e:Jc n u=true)(O:RelV v a)(J:RelV x b):SeqAt.RcAt A s a b (Jf w u):=by
 have G:=Yw (Nat.le_add_right _ _) Y;by_cases h2:tM w u=true
 obtain⟨m,rfl⟩:=Nx h2 U;exact rcN I Y G h2 c d U e O J (·.1);exact ad3 G (Ag I c O) (Ag I d J)<|Zf _ ▸ h2
theorem akK {aor s}{σ:St}(I:Al X aor σ H s)(n){A}{w u v x}{a b}(Y:A.units+n<Nb)(c:Dt X.K H w v)(d:Dt X.K H u x)(U:Jc n w=true)(e:Jc n u=true)(O:RelV v a)(J:RelV x b):SeqAt.RcNeAt A s a b (!Jf w u):=by
 have G:=Yw (Nat.le_add_right _ _) Y;by_cases h2:tM w u=true
 obtain⟨m,rfl⟩:=Nx h2 U;exact rcN I Y G h2 c d U e O J (·.2);exact aeo G (Ag I c O) (Ag I d J)<|Zf _ ▸ h2
noncomputable def Ko (h:Gh):W->Option W
 | .loc n=>(match h.c n with
  | some (.lst ws)=>Dn (.lst ws)
  | _=>Go)
 | w=>Dn w
theorem wk {w d v}{n}(R:Iu K μ H h)(r:CR K H μ w v)(e:Ko h w=Dn d)(p:Jc n d=true):Dt K H d v:=by
 have G:Ko h w=Dn w->Dt K H d v:=λz=>by
  rw[z]at e;cases e;exact Rm n r p
 cases w with
 | loc m=>
  unfold Ko at e;dsimp only at e;cases O:h.c m with
  | none=>rw[O]at e;cases e
  | some cl=>
   rw[O]at e;cases cl with
   | lst us=>
    cases e;obtain⟨p',xs,J,Y,U⟩:=R.lstAt O;obtain⟨q,b,a⟩:=r;cases by rw[a]at J;exact(Ma J).symm
    obtain⟨k,rfl,p⟩:=amA p;exact⟨p',xs,b,.of Y,yF (Rm k) U p⟩
   | _=>cases e
 | _=>exact G rfl
noncomputable def ahj (K:BW)(G:Bool):R2:=λx y H Q=>∃w u,Dt K H w x/\Dt K H u y/\Jc 30 w=true/\Jc 30 u=true/\Q (.bl (if G then !Jf w u else Jf w u)) H
theorem adw (U:X.A.units+30<Nb):Mv X (PJ .Eq) (ahj X.K false):=by
 rintro aor s σ H x y v u Q I J G ⟨w,w',a,Y,O,p2,q⟩;exact afh I 30 U a Y O p2 J G _ _ _ _<|Fo I q rfl
theorem aej (U:X.A.units+30<Nb):Mv X (PJ .NotEq) (ahj X.K true):=by
 rintro aor s σ H x y v u Q I J G ⟨w,w',a,Y,O,p2,q⟩;exact akK I 30 U a Y O p2 J G _ _ _ _<|Fo I q rfl
noncomputable def Jx:M2:=λx y h Q=>match Ko h x,Ko h y with
 | some a,Dn b=>K8 (Jc 30 a&&Jc 30 b) (Q (.bl (Jf a b)) h) False
 | _,_=>False
noncomputable def Oj:M2:=λx y h Q=>match Ko h x,Ko h y with
 | some a,Dn b=>K8 (Jc 30 a&&Jc 30 b) (Q (.bl (!Jf a b)) h) False
 | _,_=>False
theorem jr (U:X.A.units+30<Nb):Qi X (PJ .Eq) Jx:=⟨_,adw U,by
 intro H μ h x y e d f Q R O J m k;unfold Jx at m;split at m
 ·rename_i a b c Y;cases G:(Jc 30 a&&Jc 30 b)with
  | true=>
   rw[G]at m;rw[Uj]at G;exact⟨a,b,wk R O c G.1,wk R J Y G.2,G.1,G.2,k _ _<|.bl R m⟩
  | false=>rw[G]at m;cases m
 cases m⟩
theorem Io (U:X.A.units+30<Nb):Qi X (PJ .NotEq) Oj:=⟨_,aej U,by
 intro H μ h x y e d f Q R O J m k;unfold Oj at m;split at m
 ·rename_i a b c Y;cases G:(Jc 30 a&&Jc 30 b)with
  | true=>
   rw[G]at m;rw[Uj]at G;exact⟨a,b,wk R O c G.1,wk R J Y G.2,G.1,G.2,k _ _<|.bl R m⟩
  | false=>rw[G]at m;cases m
 cases m⟩
theorem agW {A}{k}(G:gQ k A):A.units+30<Nb:=by have:=G.units;lia
end
section
variable {X:Cx}{K:BW}
theorem jY {H w}{G}(r:aY K H μ [w] G):∃v,G=[v]/\CR K H μ w v:=by
 obtain⟨v,J,U,O,r⟩:=r;subst r;simp_all
theorem Rh {H}{w u}{G}(r:aY K H μ [w,u] G):∃v x,G=[v,x]/\CR K H μ w v/\CR K H μ u x:=by
 obtain⟨v,J,Y,U,r⟩:=r;obtain⟨x,e,O⟩:=jY r;grind
theorem fY.of {i j n}(hi:Sm m i)(hj:Sm n j)(J:m<=1000000)(G:n<=1000000):fY i j:=⟨m,n,J,G,hi,hj⟩
theorem Sm.lit {i}(h:Wx (i.natAbs+1) (2^64)=true):Sm 64 i:=by
 have:=S6 h
 assumption
noncomputable def Jw:MC:=λws h Q=>match ws with
 | [w]=>(match view h w with
  | some xs=>Q (.int (xs.length:Int)) h
  | none=>False)
 | _=>False
theorem iB:lC X (.builtin "len") Jw:=⟨_,yZ,by
 intro H μ h U ws Y Q R r m k;unfold Jw at m;split at m
 split at m
 rename_i w _ xs O;obtain⟨v,e,G⟩:=jY r;obtain⟨p,ys,ex,hs,J⟩:=Cj R G O;subst e ex;exact⟨p,ys,rfl,hs,J.len ▸ k _ _ (.int R m)⟩;cases m;cases m⟩
noncomputable def Sh:MC:=λws h Q=>match ws with
 | [.int i]=>Q (.int (if i<0 then -i else i)) h
 | _=>False
theorem JQ:lC X (.builtin "abs") Sh:=⟨_,zbv,by
 intro H μ h J ws O Q R r m k;unfold Sh at m;split at m
 obtain⟨v,e,G⟩:=jY r;subst e G;exact⟨_,rfl,k _ _<|.int R m⟩;cases m⟩
noncomputable def aeC:MC:=λws h Q=>match ws with
 | [.int i,.int j]=>Q (.int (if j>i then j else i)) h
 | _=>False
theorem agc (O:X.calm=true):lC X (.builtin "max") aeC:=⟨_,akh O,by
 intro H μ h U ws Y Q R r m k;unfold aeC at m;split at m
 obtain⟨v,x,e,J,G⟩:=Rh r;subst e J G;exact⟨_,_,rfl,k _ _<|.int R m⟩;cases m⟩
noncomputable def aeB:MC:=λws h Q=>match ws with
 | [.int i,.int j]=>Q (.int (if j<i then j else i)) h
 | _=>False
theorem af2 (O:X.calm=true):lC X (.builtin "min") aeB:=⟨_,ajh O,by
 intro H μ h U ws Y Q R r m k;unfold aeB at m;split at m
 obtain⟨v,x,e,J,G⟩:=Rh r;subst e J G;exact⟨_,_,rfl,k _ _<|.int R m⟩;cases m⟩
noncomputable def QB:List W->Option (List Bool)
 | []=>Dn []
 | .bl b::ws=>(QB ws).map (b::·)
 | _=>Go
theorem Cg {H μ}:∀{ws xs}{bs},aY K H μ ws xs->QB ws=Dn bs->xs=bs.map V.bl
 | [],xs,bs,r,e=>by
  cases e;exact r
 | w::ws,xs,bs,r,e=>by
  obtain⟨v,O,J,G,r⟩:=r;cases w with
  | bl b=>
   rw[QB]at e;cases q:QB ws with
   | none=>rw[q]at e;cases e
   | some U=>
    rw[q]at e;cases e;rw[J,G,Cg r q];rfl
  | _=>cases e
noncomputable def aco:MC:=λws h Q=>match ws with
 | [w]=>(match d9 h w with
  | some us=>(match QB us with
   | some bs=>Q (.bl (bs.all id)) h
   | none=>False)
  | none=>False)
 | _=>False
theorem afO (O:X.calm=true):lC X (.builtin "all") aco:=⟨_,zbo O,by
 intro H μ h a ws b Q R r m k;unfold aco at m;split at m
 split at m
 split at m
 rename_i w _ us U _ bs Y;obtain⟨v,e,G⟩:=jY r;obtain⟨p,ys,ex,hs,J⟩:=dU R G U;subst e ex;exact⟨p,bs,rfl,Cg J Y ▸ hs,k _ _<|.bl R m⟩;cases m;cases m;cases m⟩
noncomputable def aeR (h:Gh)(w:W)(T:String):Option Bool:=match w with
 | .int _=>if T = "int" then Dn true else if T = "bool"\/T = "tuple"\/T = "list" then Dn false else Go
 | .bl _=>if T = "int"\/T = "bool" then Dn true else if T = "tuple"\/T = "list" then Dn false else Go
 | .str _=>if T = "int"\/T = "bool"\/T = "tuple"\/T = "list" then Dn false else Go
 | .non=>if T = "int"\/T = "bool"\/T = "tuple"\/T = "list" then Dn false else Go
 | .tup _=>if T = "tuple" then Dn true else if T = "int"\/T = "bool"\/T = "list" then Dn false else Go
 | w=>(match d9 h w with
  | some _=>if T = "list" then Dn true else if T = "int"\/T = "bool"\/T = "tuple" then Dn false else Go
  | none=>Go)
theorem ajn {H:Hp}{h:Gh}{w:W}{v:V}{T:String}{b:Bool}(R:Iu K μ H h)(r:CR K H μ w v)(e:aeR h w T=Dn b):ag1 K H v T b:=by
 unfold aeR at e;split at e
 subst r;split at e
 rename_i t;subst t;cases e;exact .inl ⟨rfl,rfl⟩;split at e
 rename_i t;cases e;rcases t with t|t|t<;>subst t
 exact .inr<|.inl ⟨rfl,rfl⟩
 exact .inr<|.inr<|.inl ⟨rfl,rfl⟩
 exact .inr<|.inr<|.inr ⟨rfl,rfl⟩
 cases e;subst r;split at e
 rename_i t;cases e;rcases t with t|t<;>subst t
 exact .inl ⟨rfl,rfl⟩;exact .inr<|.inl ⟨rfl,rfl⟩
 split at e
 rename_i t;cases e;rcases t with t|t<;>subst t
 exact .inr<|.inr<|.inl ⟨rfl,rfl⟩
 exact .inr<|.inr<|.inr ⟨rfl,rfl⟩
 cases e;subst r;split at e
 rename_i t;cases e;rcases t with t|t|t|t<;>subst t
 exact .inl ⟨rfl,rfl⟩;exact .inr<|.inl ⟨rfl,rfl⟩
 exact .inr<|.inr<|.inl ⟨rfl,rfl⟩
 exact .inr<|.inr<|.inr ⟨rfl,rfl⟩
 cases e;subst r;split at e
 rename_i t;cases e;rcases t with t|t|t|t<;>subst t
 exact .inl ⟨rfl,rfl⟩;exact .inr<|.inl ⟨rfl,rfl⟩
 exact .inr<|.inr<|.inl ⟨rfl,rfl⟩
 exact .inr<|.inr<|.inr ⟨rfl,rfl⟩
 cases e;obtain⟨p,xs,G,hs,_⟩:=r;subst G;refine .inl ⟨xs,hs,?_⟩;split at e
 rename_i t;subst t;cases e;exact .inr (.inr (.inl ⟨rfl,rfl⟩));split at e
 rename_i t;cases e;rcases t with t|t|t<;>subst t
 exact .inl ⟨rfl,rfl⟩;exact .inr<|.inl ⟨rfl,rfl⟩
 exact .inr<|.inr<|.inr ⟨rfl,rfl⟩
 cases e;split at e
 rename_i ws G;obtain⟨p,xs,ex,hs,_⟩:=dU R r G;subst ex;refine .inr ⟨xs,hs,?_⟩;split at e
 rename_i t;subst t;cases e;exact .inr (.inr (.inr ⟨rfl,rfl⟩));split at e
 rename_i t;cases e;rcases t with t|t|t<;>subst t
 exact .inl ⟨rfl,rfl⟩;exact .inr<|.inl ⟨rfl,rfl⟩
 exact .inr<|.inr<|.inl ⟨rfl,rfl⟩
 cases e;cases e
noncomputable def aaE:MC:=λws h Q=>match ws with
 | [w,.ty T]=>(match aeR h w T with
  | some b=>Q (.bl b) h
  | none=>False)
 | _=>False
theorem aci:lC X (.builtin "isinstance") aaE:=⟨_,zbz,by
 intro H μ h U ws Y Q R r m k;unfold aaE at m;split at m
 split at m
 rename_i w T _ b O;obtain⟨v,x,e,J,G⟩:=Rh r;subst e G;exact⟨v,T,b,rfl,(ajn R J O),k _ _<|.bl R m⟩;cases m;cases m⟩
noncomputable def pB:MC:=λws h Q=>match ws with
 | [.tup us]=>Q (.tup us) h
 | [w]=>(match d9 h w with
  | some us=>Q (.tup us) h
  | none=>False)
 | _=>False
theorem uc:lC X (.type "tuple") pB:=⟨_,xH,by
 intro H μ h Y ws a Q R r m k;unfold pB at m;split at m
 obtain⟨v,e,G⟩:=jY r;have J:=G;obtain⟨p,xs,ex,hs,O⟩:=G;subst e ex;exact⟨p,xs,rfl,.inr ⟨hs,k _ _ ⟨μ,_,h,.refl,R,J,m⟩⟩⟩;split at m
 rename_i w _ _ us U;obtain⟨v,e,G⟩:=jY r;obtain⟨p,ys,ex,hs,O⟩:=dU R G U;subst e ex;exact⟨p,ys,rfl,.inl ⟨hs,λl hl=>k _ _ ⟨μ,_,h,(Ex.laid hl).ext,R.laid hl,.tupNew hl O,m⟩⟩⟩;cases m;cases m⟩
noncomputable def Ii:MC:=λws h Q=>match ws with
 | [w]=>(match view h w with
  | some us=>Q (.lst us) h
  | none=>False)
 | _=>False
theorem Ls:lC X (.type "list") Ii:=⟨_,aiI,by
 intro H μ h U ws Y Q R r m k;unfold Ii at m;split at m
 split at m
 rename_i w _ xs O;obtain⟨v,e,G⟩:=jY r;obtain⟨p,ys,ex,hs,J⟩:=Cj R G O;subst e ex;exact⟨p,ys,rfl,hs,λl hl=>k _ _ ⟨μ,_,h,(Ex.laid hl).ext,R.laid hl,.lstNew R hl J,m⟩⟩;exact m.elim;cases m⟩
noncomputable abbrev MM:=W->List W->Gh->WK->Prop
noncomputable def afy (K:BW)(r:V->List V->Hp->VK->Prop)(mr:MM):Prop:=∀{H:Hp}{μ:Mu}{h:Gh}{x:V}{J:List V}{G:W}{ws:List W}{O:WK}{Q:VK},Iu K μ H h->CR K H μ G x->aY K H μ ws J->mr G ws h O->(∀v H',DQ K H μ O v H'->Q v H')->r x J H Q
noncomputable def JX (h:Gh)(w:W)(P:Prop):Prop:=match w with
 | .loc n=>(match h.c n with
  | some (.lst _)=>P
  | _=>False)
 | _=>False
theorem Hz {H h w v}{P}(R:Iu K μ H h)(r:CR K H μ w v)(e:JX h w P):tyV K "list" v H/\P:=by
 unfold JX at e;split at e
 split at e
 rename_i n _ ws Y;obtain⟨p,U,O⟩:=r;obtain⟨p',xs,G,J,a⟩:=R.lstAt Y;have ep:=by rw[O]at G;exact(Ma G).symm
 subst ep U;exact⟨.inl ⟨rfl,xs,.of J⟩,e⟩;cases e;cases e
noncomputable def Cy (r:MM)(mo:ME)(ma:MA):ME:=fun σ h Q=>mo σ h λx h1=>JX h1 x (ma σ h1 λxs h2=>r x xs h2 Q)
variable {o e:Expr}{es:List Expr}{ma:MA}{name:Str}{apos aot:Pos}{id:String}{r:V->List V->Hp->VK->Prop}{mr:MM}
theorem ahf (slot:Slot "list" name id)(hty:typeOf (.builtin id)=pure (.type "method_descriptor"))(hm:MtR X id r)(hs:afy X.K r mr)(ho:DE X o mo)(ha:NQ X (e::es) ma)
  (hbase:ZW o name X.env (eval o X.env)=eval o X.env:=by rfl)
  (hfew:((Mi aot (J9 (e::es) X.env)).all (λx=>!x.1)&&(backToKw aot (keywordEach [] X.env)).all (λx=>x.1.isSome)
   && decide ((e::es).length+([]:List W9).length+(if([]:List W9).isEmpty then 0 else 1)<30))=true:=by rfl)
  (hline:(apos.endLine==aot.line)=true:=by rfl) (hst:J9 (e::es) X.env=(false,eval e X.env)::J9 es X.env:=by rfl) (hplain:(Mi aot (J9 es X.env)).any (·.1)=false:=by rfl) :
  DE X (.Call (.Attribute o name apos) (e::es) [] aot) (Cy mr mo ma):=(agp PySem.F.plainAttrs_list slot hty hm ho ha hbase hfew hline hst hplain).of fun σ H Q a=>by
 obtain⟨μ,h,σw,Qw,R,S,m,k⟩:=a;exact⟨μ,h,σw,_,R,S,m,λv H1 b=>by obtain⟨μ1,w,h1,e1,R1,r1,il⟩:=b;exact ⟨(Hz R1 r1 il).1,μ1,h1,σw,_,R1,S.ext e1,((Hz R1 r1 il).2),λvs H2 c=>by obtain⟨μ2,ws,h2,e2,R2,r2,m2⟩:=c;exact hs R2 (e2.r _ _ r1) r2 m2 λv H' z=>k _ _<|(z.trans e2).trans e1⟩⟩
noncomputable def dF:MM:=λx ws h Q=>match x,ws with
 | .loc n,[w]=>(match h.c n with
  | some (.lst us)=>us.length<JN/\Q .non (h.set n (.lst (us++[w])))
  | _=>False)
 | _,_=>False
theorem YT {H h}{n v}{us}(R:Iu K μ H h)(r:CR K H μ (.loc n) v)(J:h.c n=Dn (.lst us)):∃p xs,v=.ref p/\μ.f n=Dn p/\H p=Dn (.lst xs)/\aY K H μ us xs:=by
 obtain⟨p,a,Y⟩:=r;obtain⟨p',xs,G,U,O⟩:=R.lstAt J;simp_all
theorem DQ.wrote {H h}{n}{p}{us xs Q w v}(R:Iu K μ H h)(G:μ.f n=Dn p)(O:aY K H μ us xs)(J:CR K H μ w v)(q:Q w (h.set n (.lst us))):DQ K H μ Q v (Iz H p (.lst xs)):=
 ⟨μ,w,h.set n (.lst us),(Ex.write R G).ext,R.write G trivial ⟨xs,aV,(Ex.write R G).ext.s O⟩,(Ex.write R G).ext.r _ _ J,q⟩
theorem amy:afy K NP dF:=by
 intro H μ h x e d ws f Q R J U m k;unfold dF at m;split at m
 split at m
 rename_i n w _ us c;obtain⟨p,xs,ex,a,Y,G⟩:=YT R J c;obtain⟨v,b,O⟩:=jY U;exact⟨p,xs,v,ex,b,Y,G.len ▸ m.1,k _ _<|.wrote R a (G.append<|.one O) (by rw[CR]) m.2⟩;cases m;cases m
theorem jT (ho:DE X o mo)(ha:NQ X [e] ma)
  (hbase:ZW o "append" X.env (eval o X.env)=eval o X.env:=by rfl)
  (hfew:((Mi aot (J9 [e] X.env)).all (λx=>!x.1)&&(backToKw aot (keywordEach [] X.env)).all (λx=>x.1.isSome)
   && decide (([e]:List Expr).length+([]:List W9).length+(if([]:List W9).isEmpty then 0 else 1)<30))=true:=by rfl)
  (hline:(apos.endLine==aot.line)=true:=by rfl) (hst:J9 [e] X.env=(false,eval e X.env)::J9 [] X.env:=by rfl) (hplain:(Mi aot (J9 [] X.env)).any (·.1)=false:=by rfl) :
  DE X (.Call (.Attribute o "append" apos) [e] [] aot) (Cy dF mo ma):=ahf PySem.F.slot_list_append PySem.F.type_list_append zH amy ho ha hbase hfew hline hst hplain
end
section
variable {X:Cx}{K:BW}
theorem adR:Mv X (PJ .Is) (λx y H Q=>∃c b,x=.bl c/\y=.bl b/\Q (.bl (c==b)) H):=by
 rintro aor s σ H x y v u Q I J G ⟨c,b,ex,O,q⟩;subst ex O;cases J;cases G;exact is_bool<|Fo I q rfl
noncomputable def Xm:W->Bool
 | .non=>true
 | _=>false
theorem zbY {H:Hp}{w:W}{v:V}(r:CR K H μ w v):decide (v=.non)=Xm w:=by
 cases w with
 | non|bl _|int _|str _|ty _|fnv _ _=>rw[CR]at r;subst r;rfl
 | tup _|lst _|kls _=>rw[CR]at r;obtain⟨_,_,e,_⟩:=r;subst e;rfl
 | loc _=>rw[CR]at r;obtain⟨_,e,_⟩:=r;subst e;rfl
 | exc _=>rw[CR]at r;obtain⟨_,_,_,e,_⟩:=r;subst e;rfl
 | exa _ _=>rw[CR]at r;obtain⟨_,_,_,_,_,_,e,_⟩:=r;subst e;rfl
noncomputable def kIs:M2:=λx y h Q=>match x,y with
 | .bl c,.bl b=>Q (.bl (c==b)) h
 | w,.non=>Q (.bl (Xm w)) h
 | _,_=>False
theorem agT:Qi X (PJ .Is) kIs:=⟨_,adR.or aaY,by
 intro H μ h x y U O Y Q R J G m k;unfold kIs at m;split at m
 exact .inl ⟨_,_,J,G,k _ _<|.bl R m⟩;exact zbY J ▸ .inr ⟨G,k _ _<|.bl R m⟩;cases m⟩
theorem zau (bs:List Bool):((Qv bs.length).any λi=>(bs[i]?).getD true)=bs.any id:=by
 rw[Bool.eq_iff_iff,Zg,Zg];constructor;rintro⟨i,hi,e⟩;have G:=XC.mp hi;exact⟨bs[i],YH G,by simpa[G]using e⟩;rintro⟨b,J,e⟩;obtain⟨i,hi,rfl⟩:=List.mem_iff_getElem.mp J;exact⟨i,XC.mpr hi,by simpa[hi]using e⟩
theorem zaS (c:X.calm=true):jX X (.builtin "any") (λxs H Q=>∃(p:Addr) (bs:List Bool),xs=[.ref p]/\Kh X.K H p (bs.map V.bl)/\Q (.bl (bs.any id)) H):=by
 rintro aor s σ H xs us Q I r ⟨p,bs,e,d,q⟩;subst e;obtain⟨u,rfl,U⟩:=vals1 r;cases U;obtain⟨its,J,Y,g⟩:=I.list d;have G:its.length=bs.length:=by rw[<-J.length,Ik]
 have hl:=Y.isList;refine call_any_walk<|Yi hl ?_
 refine⟨s.heap.objs.size,[s.heap.objs.size,p],[s.heap.objs.size],its.toArray.size,_,_,λi=>(bs[i]?).getD true,rfl,Walks.list (A:=X.A.in1) (I.ok.hd c) _ p (KZ (by obtain⟨_,e,_⟩:=hl;exact Jb e)) _,
  ⟨⟨_,Mf _ rfl,rfl,rfl⟩,hl.push _⟩,λi v s' h j f O=>?_,λh' tk a=>?_⟩
 obtain⟨b,e,rfl⟩:=rR J (by simpa using f);simp[e]at O;exact Zi O;have e:((Qv its.toArray.size).any λi=>(bs[i]?).getD true)=bs.any id:=by
  rw[Mp,G];exact zau bs
 rw[e];refine⟨.bl _,H,I.kept<|λb x e=>?_,rfl,q⟩;exact a b x (λhm=>by rw[Ri.mp hm]at e;exact Rg _ (Jb e))<|JV _ e
noncomputable def aay:MC:=λws h Q=>match ws with
 | [w]=>(match d9 h w with
  | some us=>(match QB us with
   | some bs=>Q (.bl (bs.any id)) h
   | none=>False)
  | none=>False)
 | _=>False
theorem ada (O:X.calm=true):lC X (.builtin "any") aay:=⟨_,zaS O,by
 intro H μ h a ws b Q R r m k;unfold aay at m;split at m
 split at m
 split at m
 rename_i w _ us U _ bs Y;obtain⟨v,e,G⟩:=jY r;obtain⟨p,ys,ex,hs,J⟩:=dU R G U;subst e ex;exact⟨p,bs,rfl,Cg J Y ▸ hs,k _ _<|.bl R m⟩;cases m;cases m;cases m⟩
theorem zbD:Mv X (Qy .Add) (λx y H Q=>∃a b ys,x=.ref a/\y=.ref b/\Lq X.K H a []/\Lq X.K H b ys/\Q (.ref b) H):=by
 rintro aor s σ H x y v u Q I g f ⟨a,b,ys,ex,p,o,m,q⟩;subst ex p;cases g;cases f;obtain⟨its,h,i,_⟩:=I.tuple o;obtain⟨j,t,p2,_⟩:=I.tuple m;cases h;obtain⟨⟨r,dd,d,sl⟩,ho,l,n,k⟩:=i;obtain⟨⟨e,Y,c,J⟩,G,U,n2,O⟩:=p2;subst l k U O;exact concat_meets ⟨_,ho,rfl⟩ ⟨_,G,rfl⟩ noFill_tuple_add seq_tuple_add PySem.F.slot_tuple_add PySem.F.entry_tuple_add (PySem.F.args_tuple_add_2 _ _)
  (tuple_addW0 a b _ _ n n2 dd Y sl J (by simp)) ⟨ho,G,.ref b,H,I,rfl,q⟩
noncomputable def QZ (h:Gh):W->Option (List W)
 | .lst ws=>Dn ws
 | .loc n=>(match h.c n with
  | some (.lst ws)=>Dn ws
  | _=>Go)
 | _=>Go
theorem Ck {H h w v}(R:Iu K μ H h)(r:CR K H μ w v)(e:QZ h w=Dn ws):∃p xs,v=.ref p/\H p=Dn (.lst xs)/\aY K H μ ws xs:=by
 cases w with
 | lst us=>
  obtain⟨p,xs,O,hs,J⟩:=r;cases e;exact⟨p,xs,O,hs.1,J⟩
 | loc n=>
  unfold QZ at e;dsimp only at e;cases G:h.c n with
  | none=>rw[G]at e;cases e
  | some cl=>
   rw[G]at e;cases cl with
   | lst us=>
    cases e;obtain⟨p,xs,O,_,U,J⟩:=YT R r G;simp_all
   | _=>cases e
 | _=>cases e
noncomputable def cj:M2:=λx y h Q=>match x,y with
 | .int i,.int j=>Q (.int (i+j)) h
 | .tup [],.tup b=>Q (.tup b) h
 | .tup (a0::a),.tup b=>fV (a.length+1+b.length) (Q (.tup (a0::a++b)) h)
 | x,y=>(match QZ h x,QZ h y with
  | some a,Dn b=>fV (a.length+b.length) (Q (.lst (a++b)) h)
  | _,_=>False)
theorem bU:Qi X (Qy .Add) cj:=⟨_,(acV.or (zbD.or zcd)).or acS,by
 intro H μ h x y n j r Q R c Y m k;unfold cj at m;split at m
 exact .inl<|.inl ⟨_,_,c,Y,k _ _<|.int R m⟩
 have U:=Y;obtain⟨p,xs,ex,e,G⟩:=c;obtain⟨q,ys,O,d,J⟩:=Y;subst G;rw[O]at U;exact .inl<|.inr<|.inl ⟨p,q,ys,ex,O,e,d,k _ _ ⟨μ,_,h,.refl,R,U,m⟩⟩
 rename_i o a b;have f:=c;obtain⟨p,xs,ex,e,G⟩:=c;obtain⟨q,ys,O,d,J⟩:=Y;refine .inl<|.inr<|.inr ⟨p,q,xs,ys,ex,O,e,d,λz=>(by have:=G.ne_nil.mp z;cases this),by rw[<-G.len,<-J.len];exact m.ok.1,λz=>?_,λz l hl=>?_⟩
 cases J.ne_nil.mp z
 refine k _ _ ⟨μ,.tup _,h,.refl,R,?_,m.ok.2⟩
 rwa[Yh,<-ex]
 exact k _ _ ⟨μ,_,h,(Ex.laid hl).ext,R.laid hl,.tupNew hl<|G.append J,m.ok.2⟩;split at m
 rename_i a b i g;obtain⟨p,xs,ex,e,G⟩:=Ck R c i;obtain⟨q,ys,O,d,J⟩:=Ck R Y g;exact .inr ⟨p,q,xs,ys,ex,O,e,d,by rw[<-G.len,<-J.len];exact m.ok.1,λl hl=>k _ _ ⟨μ,_,h,(Ex.laid hl).ext,R.laid hl,.lstNew R hl<|G.append J,m.ok.2⟩⟩;cases m⟩
noncomputable def iT:MM:=λx ws h Q=>match x,ws with
 | .loc n,[w]=>(match h.c n,QZ h w with
  | some (.lst us),Dn zs=>fV (us.length+zs.length) (Q .non (h.set n (.lst (us++zs))))
  | _,_=>False)
 | _,_=>False
theorem ajZ:afy K QV iT:=by
 intro H μ h x j i ws l Q R O Y m k;unfold iT at m;split at m
 split at m
 rename_i n w _ _ us zs g d;obtain⟨p,xs,ex,c,b,J⟩:=YT R O g;obtain⟨v,f,U⟩:=jY Y;obtain⟨q,ys,e,a,G⟩:=Ck R U d;subst e;exact⟨p,q,xs,ys,ex,f,b,a,by rw[<-J.len,<-G.len];exact m.ok.1,k _ _<|.wrote R c (J.append G) (by rw[CR]) m.ok.2⟩;cases m;cases m
variable {o e:Expr}{ma:MA}{apos aot:Pos}
theorem GP (ho:DE X o mo)(ha:NQ X [e] ma)
  (hbase:ZW o "extend" X.env (eval o X.env)=eval o X.env:=by rfl)
  (hfew:((Mi aot (J9 [e] X.env)).all (λx=>!x.1)&&(backToKw aot (keywordEach [] X.env)).all (λx=>x.1.isSome)
   && decide (([e]:List Expr).length+([]:List W9).length+(if([]:List W9).isEmpty then 0 else 1)<30))=true:=by rfl)
  (hline:(apos.endLine==aot.line)=true:=by rfl) (hst:J9 [e] X.env=(false,eval e X.env)::J9 [] X.env:=by rfl) (hplain:(Mi aot (J9 [] X.env)).any (·.1)=false:=by rfl) :
  DE X (.Call (.Attribute o "extend" apos) [e] [] aot) (Cy iT mo ma):=ahf PySem.F.slot_list_extend PySem.F.type_list_extend ajg ajZ ho ha hbase hfew hline hst hplain
end
noncomputable def YJ (K:BW):Sp:=λvs H Q _=>∃(a:Addr) (ns:List Int),vs=[.ref a]/\Kh K H a (ns.map V.int)/\Only H/\ns.length<=63/\∀H',Q (.bl true) H'
noncomputable def g0:Gh:=⟨0,λ_=>Go⟩
noncomputable def μ0:Mu:=⟨λ_=>Go,λ_=>False⟩
theorem ah3 {K:BW}{H:Hp}:Iu K μ0 H g0 where
 inj:=nofun
 dom:=nofun
 trk:=nofun
 cel:=nofun
 hd:=λp h=>Td h
theorem Ae {K H μ}:∀ns:List Int,aY K H μ (ns.map W.int) (ns.map V.int)
 | []=>.nil
 | n::ns=>.cons (by rw[CR]) (Ae ns)
theorem zcf {P w K}{mg base k}{f fd}{ps}
  (J:∀ns:List Int,ns.length<=63->ms [.kls (ns.map W.int)] g0 (λw _=>w=.bl true) EF) (F:jO P w K mg base Q8 k f fd ps (lift K ms)):jO P w K mg base Q8 k f fd ps (YJ K):=
 F.imp λvs H Q E b=>by
  obtain⟨a,ns,e,G,O,hl,q⟩:=b;subst e;refine⟨μ0,g0,[.kls _],_,ah3,.one ?_,J ns hl,λv H' ⟨μ',w',h',_,_,r,e⟩=>?_⟩;refine⟨a,ns.map _,rfl,?_,Ae ns⟩;rcases G with(G|G)|G
  rcases O a with z|⟨o,xs,z⟩<;>rw[G]at z<;>cases z
  exact .inl G;exact .inr G;subst e r;exact q H'
inductive Sk where
 | l|t
noncomputable def Sk.sq (k:Sk)(h:Heap)(a:Addr)(its:Array JI):Prop:=match k with
 | .l=>h.IsList a its
 | .t=>h.IsTuple a its
noncomputable def Sk.it (k:Sk)(h:Heap)(i a:Addr)(n:Nat):Prop:=match k with
 | .l=>h.IsListIter i a n
 | .t=>h.IsTupleIter i a n
noncomputable def Sk.nm:Sk->String
 | .l => "list_iterator"
 | .t => "tuple_iterator"
section
variable {P:IW}{w:IV}{A:Ig}{E:JI->Ab->Prop}{s:Ab}{k k1 k2:Sk}
theorem Sk.it_at {h h':Heap}{i a:Addr}{n:Nat}(x:k.it h i a n)(e:∀o,h.get? i=Dn o->h'.get? i=Dn o):k.it h' i a n:=by
 cases k with
 | l|t=>obtain⟨o,ho,r⟩:=x;exact⟨o,e o ho,r⟩
theorem Sk.sq_at {h h' a}{its}(x:k.sq h a its)(e:∀o,h.get? a=Dn o->h'.get? a=Dn o):k.sq h' a its:=by
 cases k with
 | l|t=>obtain⟨o,ho,r⟩:=x;exact⟨o,e o ho,r⟩
theorem Sk.it_obj {h}{i a n}(x:k.it h i a n):∃o,h.get? i=Dn o/\o.cls=.type k.nm/\o.data=.fields #[.ref a,.int n 0]:=by
 cases k with
 | l|t=>exact x
theorem zbF {it t i}{its x}{Q}(hi:s.heap.IsTupleIter it t i)(ht:s.heap.IsTuple t its)(a:its[i]?=Dn x)
  (q:∀h',h'.IsTupleIter it t (i+1)->RK it s.heap h'->Q x {s with heap:=h'}):Bh (Bu P w) A (YG (.ref it)) Q E s:=by
 obtain⟨o,J,b,G⟩:=id hi;obtain⟨c,O,_,d,U⟩:=ht;refine Aj (Xq hi.typeIs vX
  (XD vX hi.typeIs PySem.F.entry_tuple_iterator_next ?_ (PySem.F.args_tuple_iterator_next_1 _)))
 show Bh _ _ (field _ 0 >>= _) _ _ s;refine Aj<|N8 J G rfl<|Aj<|N8 J G rfl<|Aj<|WM O U ?_
 simp[a];refine Aj<|Y6 J G (by simp)<|HI ⟨x,rfl,HI<|q _ ?_<|Xo ..⟩
 exact⟨_,S7 _ J<|X6<|Tn G _,(Zx ..).trans b,by rw[Tn G];simp[RL]⟩
theorem yX {it t i}{its}{Q}(hh:A.handled=Go)(hi:s.heap.IsTupleIter it t i)(ht:s.heap.IsTuple t its)(a:its[i]?=Go)
  (q:∀h' e,ZF it s.heap h'->(∃o,h'.get? e=Dn o/\o.cls=.type "StopIteration")->E (.ref e) {s with heap:=h'}):Bh (Bu P w) A (YG (.ref it)) Q E s:=by
 obtain⟨o,J,d,U⟩:=id hi;obtain⟨b,G,_,c,O⟩:=ht;refine Aj (Xq hi.typeIs vX
  (XD vX hi.typeIs PySem.F.entry_tuple_iterator_next ?_ (PySem.F.args_tuple_iterator_next_1 _)))
 show Bh _ _ (field (.ref it) 0 >>= _) _ _ s;refine Aj<|N8 J U rfl ?_
 refine Aj<|N8 J U rfl ?_
 refine Aj<|WM G O ?_
 simp only[Int.toNat_natCast,a];refine Aj<|Y5<|Aj<|Y6 J U (by simp) ?_
 refine Aj ?_;refine Aj (m:=firstArgMember _ _)<|Xd (by first|rfl|(rfl)) ?_
 refine XJ ?_<|by size_fits
 refine Aj<|wpAny_handled ?_
 first|rw[hh]|rw[hh]
 refine Aj<|HI<|Z8 ?_
 exact q _ _ (((Xo ..).extBut.push _).push _) ⟨_,Mf _ rfl,rfl⟩
theorem Sk.next {it a i}{its x}{Q}(hi:k.it s.heap it a i)(hs:k.sq s.heap a its)(G:its[i]?=Dn x)
  (q:∀h',k.it h' it a (i+1)->RK it s.heap h'->Q x {s with heap:=h'}):Bh (Bu P w) A (YG (.ref it)) Q E s:=by
 cases k with
 | l=>exact wpAny_nextOf_list_item hi hs G q
 | t=>exact zbF hi hs G q
theorem Sk.stop {it a:Addr}{i:Nat}{its:Array JI}{Q:JI->Ab->Prop}(hh:A.handled=Go)(hi:k.it s.heap it a i)(hs:k.sq s.heap a its)(G:its[i]?=Go)
  (q:∀h' e,ZF it s.heap h'->(∃o,h'.get? e=Dn o/\o.cls=.type "StopIteration")->E (.ref e) {s with heap:=h'}):Bh (Bu P w) A (YG (.ref it)) Q E s:=by
 cases k with
 | l=>exact wpAny_nextOf_list_end hh hi hs G q
 | t=>exact yX hh hi hs G q
theorem Sk.iter {a}{its}{Q}(hs:k.sq s.heap a its)
  (q:Q (.ref s.heap.objs.size) {s with heap:=s.heap.push {cls:=.type k.nm,data:=.fields #[.ref a,.int 0 0]} }):Bh (Bu P w) A (pyIter (.ref a)) Q E s:=by
 cases k with
 | l=>exact Yi hs q
 | t=>exact wpAny_pyIter_tuple hs q
structure Zap (z TI TO i1 i2:Addr):Prop where
 a1:TI≠z
 a2:TO≠z
 a3:i1≠z
 a4:i2≠z
 a5:TI≠TO
 a6:TI≠i1
 a7:TI≠i2
 a8:TO≠i1
 a9:TO≠i2
 b1:i1≠i2
structure Off (a z TO i1 i2:Addr):Prop where
 z:a≠z
 o:a≠TO
 i:a≠i1
 j:a≠i2
theorem ajW {z TI TO r p V T n1 n2}{xs ys x y a b}{Q}(D:Zap z TI TO r p)(o1:Off V z TO r p)(o2:Off T z TO r p)
  (L:IsZip s.heap z TI TO .none) (gI:Rq s.heap TI (.ref r) (.ref p)) (gO:Rq s.heap TO a b) (g1:k1.it s.heap r V n1) (g2:k2.it s.heap p T n2) (gx:k1.sq s.heap V xs) (gy:k2.sq s.heap T ys)
  (hx:xs[n1]?=Dn x) (hy:ys[n2]?=Dn y)
  (q:∀h',IsZip h' z TI TO (RL s.heap.objs.size)->Rq h' TO x y->k1.it h' r V (n1+1)->k2.it h' p T (n2+1)->Rq h' s.heap.objs.size x y->h'.objs.size=s.heap.objs.size+1 ->
   (∀c o,c≠z->c≠TO->c≠r->c≠p->s.heap.get? c=Dn o->h'.get? c=Dn o)->Q (Dn (.ref s.heap.objs.size)) {s with heap:=h'}) :
  Bh (Bu P w) A (pyNext (.ref z)) Q E s:=by
 have gT:s.TypeIs (.ref z) "zip":=⟨_,L,rfl⟩
 refine Aj<|Y9<|Xq (name:=Str.ofString "__next__") gT uG<|XD uG gT PySem.F.entry_zip_next ?_<|PySem.F.args_zip_next_1 _
 show Bh _ _ (field (.ref z) 2 >>= _) _ _ _;refine Aj<|N8 L rfl (x:=.bool false) rfl ?_
 refine Aj<|N8 L rfl (x:=.ref TI) rfl ?_
 refine Aj<|WM gI rfl ?_
 refine Aj ?_;refine Aj<|N8 L rfl (x:=.none) rfl<|HI ?_
 refine Aj<|Y5 ?_
 refine Aj<|N8 L rfl (x:=.ref TO) rfl ?_
 refine Aj<|Zj L (by simp) λh₁ N G=>?_
 refine Aj ?_
 -- S first one
 refine Aj<|Aj<|wpAny_onRaise ?_
 show Bh _ _ (YG (.ref r) >>= _) _ _ _;refine Aj<|Sk.next (k:=k1) (s:={s with heap:=h₁}) (Sk.it_at g1 λo e=>G.extBut _ o D.a3 e) (Sk.sq_at gx λo e=>G.extBut _ o o1.z e) hx λh₂ K O=>HI ?_
 have n:Rq h₂ TO a b:=O.extBut _ _ D.a8 (G.extBut _ _ D.a2 gO);refine Aj<|WM n rfl ?_
 refine Aj<|wpAny_updateSeq_pair n λh₃ f J=>?_
 replace f:Rq h₃ TO x b:=f;refine Aj<|wpAny_letGo<|HI ?_
 -- S X one
 refine Aj<|Aj<|wpAny_onRaise ?_
 show Bh _ _ (YG (.ref p) >>= _) _ _ _;refine Aj (Sk.next (k:=k2) (s:={s with heap:=h₃}) (Sk.it_at g2 λo e=>J.extBut _ o D.a9.symm (O.extBut _ o D.b1.symm (G.extBut _ o D.a4 e)))
  (Sk.sq_at gy λo e=>J.extBut _ o o2.o (O.extBut _ o o2.i (G.extBut _ o o2.z e))) hy λh₄ H d=>HI ?_)
 have m:Rq h₄ TO x b:=d.extBut _ _ D.a9 f;refine Aj<|WM m rfl ?_
 refine Aj<|wpAny_updateSeq_pair m λh₅ U Y=>?_
 replace U:Rq h₅ TO x y:=U;refine Aj<|wpAny_letGo<|HI<|HI ?_
 -- S pair is Z out
 refine Aj<|WM U rfl ?_
 refine Aj<|wpAny_newTuple ?_
 have v:h₅.objs.size=s.heap.objs.size:=by rw[Y.1,d.1,J.1,O.1,G.1]
 have u:IsZip h₅ z TI TO .ellipsis:=Y.extBut _ _ D.a2.symm (d.extBut _ _ D.a4.symm (J.extBut _ _ D.a2.symm (O.extBut _ _ D.a3.symm N)));have t:∀c o,c≠z->c≠TO->c≠r->c≠p->s.heap.get? c=Dn o->h₅.get? c=Dn o:=λc o c1 c2 c3 c4 e=>Y.extBut _ _ c2 (d.extBut _ _ c4 (J.extBut _ _ c2 (O.extBut _ _ c3 (G.extBut _ _ c1 e))))
 have I:k1.it h₅ r V (n1+1):=Sk.it_at K λo e=>Y.extBut _ o D.a8.symm (d.extBut _ o D.b1 (J.extBut _ o D.a8.symm e))
 have F:k2.it h₅ p T (n2+1):=Sk.it_at H λo e=>Y.extBut _ o D.a9.symm e
 have R:z<h₅.objs.size:=Jb u;show Bh _ _ (Builtin.SmallTypes.ownedTupleHandOut (.ref z) (.ref h₅.objs.size) >>= _) _ _ _;refine Aj ?_;unfold Builtin.SmallTypes.ownedTupleHandOut;have M:IsZip (h₅.push {cls:=.type "tuple",data:=.seq #[x,y]}) z TI TO .ellipsis:=JV _ u;refine Aj<|Zj M (by simp) λh₇ h j=>?_
 replace h:IsZip h₇ z TI TO (RL h₅.objs.size):=h;refine Zj h (by simp) λh₈ g i=>?_;replace g:IsZip h₈ z TI TO (RL h₅.objs.size):=g;have W:∀c o,c≠z->h₅.get? c=Dn o->h₈.get? c=Dn o:=λc o c1 e=>i.extBut _ _ c1 (j.extBut _ _ c1 (JV _ e))
 have C:Rq h₈ h₅.objs.size x y:=i.extBut _ _ (SJ R) (j.extBut _ _ (SJ R) (Mf _ rfl));have l:h₈.objs.size=h₅.objs.size+1:=by rw[i.1,j.1,Uk]
 rw[v]at g C l;refine HI ⟨_,rfl,HI ?_⟩;show Q (Dn (.ref h₅.objs.size)) _;rw[v];exact q h₈ g (W _ _ D.a2 U) (Sk.it_at I λo e=>W _ o D.a3 e) (Sk.it_at F λo e=>W _ o D.a4 e) C l λc o c1 c2 c3 c4 e=>W c o c1<|t c o c1 c2 c3 c4 e
theorem akm {z TI TO j t v H n1 n2}{xs ys a b}{Q}(hh:A.handled=Go)(D:Zap z TI TO j t)(W:Off v z TO j t)(F:Off H z TO j t)
  (u:IsZip s.heap z TI TO .none) (gI:Rq s.heap TI (.ref j) (.ref t)) (gO:Rq s.heap TO a b) (g1:k1.it s.heap j v n1) (g2:k2.it s.heap t H n2) (gx:k1.sq s.heap v xs) (gy:k2.sq s.heap H ys)
  (B:xs[n1]?=Go\/ys[n2]?=Go)
  (q:∀h',(∀c o,c≠z->c≠TO->c≠j->c≠t->s.heap.get? c=Dn o->h'.get? c=Dn o)->Q Go {s with heap:=h'}):Bh (Bu P w) A (pyNext (.ref z)) Q E s:=by
 have V:s.TypeIs (.ref z) "zip":=⟨_,u,rfl⟩
 have C:∀(h':Heap) (e:Addr),(∀c o,c≠z->c≠TO->c≠j->c≠t->s.heap.get? c=Dn o->h'.get? c=Dn o)->(∃o,h'.get? e=Dn o/\o.cls=.type "StopIteration") ->
   Bh (Bu P w) A (do if <-isInstance (.ref e) (.type "StopIteration")then pure Go else throw (.ref e)) Q E {s with heap:=h'}:=λh' e S ⟨o,ho,Z⟩=>
  Aj (Zu (T := "StopIteration") (b:=true) ⟨o,ho,Z⟩ isSubtype_stop (HI (q _ S)))
 refine Aj<|Y9<|Xq (name:=Str.ofString "__next__") V uG<|XD uG V PySem.F.entry_zip_next ?_<|PySem.F.args_zip_next_1 _
 show Bh _ _ (field (.ref z) 2 >>= _) _ _ _;refine Aj<|N8 u rfl (x:=.bool false) rfl ?_
 refine Aj<|N8 u rfl (x:=.ref TI) rfl ?_
 refine Aj<|WM gI rfl ?_
 refine Aj ?_;refine Aj<|N8 u rfl (x:=.none) rfl<|HI ?_
 refine Aj<|Y5 ?_
 refine Aj<|N8 u rfl (x:=.ref TO) rfl ?_
 refine Aj<|Zj u (by simp) λh₁ n O=>?_
 refine Aj ?_;simp only[List.zipIdx_cons,List.zipIdx_nil,Zc,List.forIn_nil];refine Aj<|Aj<|wpAny_onRaise ?_
 show Bh _ _ (YG (.ref j) >>= _) _ _ _;have i:k1.it h₁ j v n1:=Sk.it_at g1 λo e=>O.extBut _ o D.a3 e
 have f:k1.sq h₁ v xs:=Sk.sq_at gx λo e=>O.extBut _ o W.z e
 cases I:xs[n1]? with
 | none=>
  refine Aj<|Sk.stop (k:=k1) (s:={s with heap:=h₁}) hh i f I λh₂ e G K=>?_
  obtain⟨oe,U,d⟩:=K;have m:IsZip h₂ z TI TO .ellipsis:=G _ _ D.a3.symm n;have N:e≠z:=λy=>by subst y;rw[m]at U;cases U;simp at d
  refine Zj m (by simp) λh₃ _ J=>C h₃ e (λc o c1 _ R _ y=>J.extBut _ _ c1<|G _ _ R<|O.extBut _ _ c1 y) ⟨oe,J.extBut _ _ N U,d⟩
 | some x=>
  have X:ys[n2]?=Go:=by
   rcases B with h|h
   rw[I]at h;cases h;exact h
  refine Aj<|Sk.next (k:=k1) (s:={s with heap:=h₁}) i f I λh₂ M G=>HI ?_
  have g:Rq h₂ TO a b:=G.extBut _ _ D.a8 (O.extBut _ _ D.a2 gO);refine Aj<|WM g rfl ?_
  refine Aj<|wpAny_updateSeq_pair g λh₃ L J=>?_
  refine Aj<|wpAny_letGo<|HI ?_
  refine Aj<|Aj<|wpAny_onRaise ?_
  show Bh _ _ (YG (.ref t) >>= _) _ _ _;refine Aj (Sk.stop (k:=k2) (s:={s with heap:=h₃}) hh (Sk.it_at g2 λo e=>J.extBut _ o D.a9.symm (G.extBut _ o D.b1.symm (O.extBut _ o D.a4 e)))
   (Sk.sq_at gy λo e=>J.extBut _ o F.o (G.extBut _ o F.i (O.extBut _ o F.z e))) X λh₄ e r K=>?_)
  obtain⟨oe,U,d⟩:=K;have l:IsZip h₄ z TI TO .ellipsis:=r _ _ D.a4.symm (J.extBut _ _ D.a2.symm (G.extBut _ _ D.a3.symm n));have N:e≠z:=λy=>by subst y;rw[l]at U;cases U;simp at d
  refine Zj l (by simp) λh₅ _ p=>C h₅ e (λc o c1 c2 R c4 y=>p.extBut _ _ c1<|r _ _ c4<|J.extBut _ _ c2<|G.extBut _ _ R<|O.extBut _ _ c1 y) ⟨oe,p.extBut _ _ N U,d⟩
noncomputable abbrev zh1 (k1:Sk)(h:Heap)(G:Addr):Heap:=h.push {cls:=.type k1.nm,data:=.fields #[.ref G,.int 0 0]}
noncomputable abbrev zh2 (k1 k2:Sk)(h:Heap)(J G:Addr):Heap:=(zh1 k1 h J).push {cls:=.type k2.nm,data:=.fields #[.ref G,.int 0 0]}
noncomputable abbrev zh3 (k1 k2:Sk)(h:Heap)(G J:Addr):Heap:=(zh2 k1 k2 h G J).push {cls:=.type "tuple",data:=.seq #[.ref h.objs.size,.ref (zh1 k1 h G).objs.size]}
noncomputable abbrev zh4 (k1 k2:Sk)(h:Heap)(J G:Addr):Heap:=(zh3 k1 k2 h J G).push {cls:=.type "tuple",data:=.seq #[.none,.none]}
noncomputable abbrev zh5 (k1 k2:Sk)(h:Heap)(J G:Addr):Heap:=(zh4 k1 k2 h J G).push {cls:=.type "zip",data:=.fields #[.none,.bool false,.bool false,.ref (zh2 k1 k2 h J G).objs.size,.ref (zh3 k1 k2 h J G).objs.size]}
theorem alh (G J)(xs ys):Meets (YD.«zip.__new__» ⟨[.type "zip",.ref G,.ref J],[]⟩) (λ_ R s=>k1.sq s.heap G xs/\k2.sq s.heap J ys /\
   R (.ok (.ret (.ref (zh4 k1 k2 s.heap G J).objs.size))) {s with heap:=zh5 k1 k2 s.heap G J}):=
 .of_wp λprog w A R s h=>by
  obtain⟨b,g,d,tk,os⟩:=s;obtain⟨U,O,h⟩:=h;have a:=sub_zip;have f:k1.sq (Shared.heap ⟨b,g,d,tk,os⟩) G xs:=U;have Y:k2.sq (Shared.heap ⟨b.push {cls:=.type k1.nm,data:=.fields #[.ref G,.int 0 0]},g,d,tk,os⟩) J ys:=Sk.sq_at O λo e=>JV _ e
  wp_walk using Sk.iter f,Sk.iter Y
  exact⟨_,rfl,h⟩
theorem ajV {G J:Addr}{xs ys:Array JI}{Q:JI->Ab->Prop}(U:k1.sq s.heap G xs)(O:k2.sq s.heap J ys)
  (q:∀h',IsZip h' (s.heap.objs.size+4) (s.heap.objs.size+2) (s.heap.objs.size+3) .none->Rq h' (s.heap.objs.size+2) (.ref s.heap.objs.size) (.ref (s.heap.objs.size+1)) ->
   Rq h' (s.heap.objs.size+3) .none .none->k1.it h' s.heap.objs.size G 0->k2.it h' (s.heap.objs.size+1) J 0->h'.objs.size=s.heap.objs.size+5 ->
   (∀c o,s.heap.get? c=Dn o->h'.get? c=Dn o)->Q (.ref (s.heap.objs.size+4)) {s with heap:=h'}):Bh (Bu P w) A (call (.type "zip") [.ref G,.ref J]) Q E s:=by
 refine callType_new PySem.F.called_zip (by decide) (PySem.F.typeCall_zip_2 _ _) (PySem.F.newCall_zip_2 _ _) (λobj=>PySem.F.args_object_init_3 obj _ _) PySem.F.entry_zip_new (alh G J xs ys) ⟨U,O,?_⟩;have e1:(zh1 k1 s.heap G).objs.size=s.heap.objs.size+1:=Uk ..;have e2:(zh2 k1 k2 s.heap G J).objs.size=s.heap.objs.size+2:=by rw[Uk,e1]
 have e3:(zh3 k1 k2 s.heap G J).objs.size=s.heap.objs.size+3:=by rw[Uk,e2]
 have e4:(zh4 k1 k2 s.heap G J).objs.size=s.heap.objs.size+4:=by rw[Uk,e3]
 have f5:(zh5 k1 k2 s.heap G J).get? (zh4 k1 k2 _ G J).objs.size=Dn _:=Mf _ rfl;have f4:(zh5 k1 k2 s.heap G J).get? (zh3 k1 k2 _ G J).objs.size=Dn _:=JV _ (Mf _ rfl);have f3:(zh5 k1 k2 s.heap G J).get? (zh2 k1 k2 _ G J).objs.size=Dn _:=JV _ (JV _ (Mf _ rfl));have f2:(zh5 k1 k2 s.heap G J).get? (zh1 k1 s.heap G).objs.size=Dn _:=JV _ (JV _ (JV _ (Mf _ rfl)));have f1:(zh5 k1 k2 _ G J).get? s.heap.objs.size=Dn _:=JV _ (JV _ (JV _ (JV _ (Mf _ rfl))));rw[e2,e3,e4]at f5;rw[e1,e2]at f3;rw[e3]at f4;rw[e1]at f2;rw[e4];refine⟨⟨_,f5,rfl⟩,q _ f5 f3 f4 ?_ ?_ (by rw[Uk,e4]) λc o x=>JV _<|JV _<|JV _<|JV _<|JV _ x⟩
 ·cases k1 with
  | l=>exact⟨_,f1,rfl,rfl⟩
  | t=>exact⟨_,f1,rfl,rfl⟩
 ·cases k2 with
  | l=>exact⟨_,f2,rfl,rfl⟩
  | t=>exact⟨_,f2,rfl,rfl⟩
end
section
variable {X:Cx}{aor:List (Addr×Obj)}{σ:St}{H:Hp}{s:Ab}{h':Heap}
theorem Al.turnedL {t'}{ch:List Addr}(I:Al X aor σ H s)(k:∀b o,b∉ch->s.heap.get? b=Dn o->h'.get? b=Dn o)(J:∀b∈ch,JR X aor H b):Al X aor σ H {s with heap:=h',toks:=t'}:=by
 have U:∀b u,H b=Dn u->b∉ch:=λb u e z=>by rw[(J b z).1]at e;cases e
 refine I.step (λb a=>?_) (λb o _ _ G e _=>k b o G e) (λb o _ _ G e _=>⟨o.slots,k b o G e⟩) (λ_ _ _ _ n=>n)
  (λb o G e=>⟨o,k b o G e⟩) (λ_ _ e=>e) (λ_ _ _ e=>e) (λb ps e=>⟨#[],by rw[e];simp⟩) (λm Y=>?_) (λb u e=>?_) I.bare
 obtain⟨_,f1,_,f3,f4,f5⟩:=J b a;exact⟨f3,f1,f4,f5⟩;obtain⟨o,es,ep,ho,r⟩:=Y;exact⟨o,es,ep,k _ o (λz=>(J _ z).2.1 rfl) ho,r⟩;refine(I.hok b u e).stay (λc v G q=>k c v ?_ q) (λ_ q=>q) λ_ _ q=>q;grind
end
noncomputable def Sk.v (k:Sk)(K:BW)(H:Hp)(a:Addr)(xs:List V):Prop:=match k with
 | .l=>Kh K H a xs
 | .t=>Lq K H a xs
theorem Al.sk {X}{aor}{σ:St}{H s}{k:Sk}{a}{xs}(I:Al X aor σ H s)(h:k.v X.K H a xs):∃its,CZ xs its/\k.sq s.heap a its.toArray:=by
 cases k with
 | l=>obtain⟨its,r,p,_⟩:=I.list h;exact⟨its,r,p.isList⟩
 | t=>obtain⟨its,r,p,_⟩:=I.tuple h;exact⟨its,r,p⟩
theorem Al.sk_inj {X}{aor}{σ:St}{H s}{k:Sk}{a}{xs ys}(I:Al X aor σ H s)(h:k.v X.K H a xs)(g:k.v X.K H a ys):xs=ys:=by
 cases k with
 | l=>exact I.list_inj h g
 | t=>exact I.tuple_inj h g
noncomputable def Itz (K:BW)(k1 k2:Sk)(J G:Addr):It:=
  ⟨λi H=>∃xs ys x y,k1.v K H J xs/\k2.v K H G ys/\xs[i]?=Dn x/\ys[i]?=Dn y,
   λi H v H'=>∃p x y,H p=Go/\v=.ref p/\H'=Iz H p (.tup [x,y])/\(∀xs,k1.v K H J xs->xs[i]?=Dn x)/\∀ys,k2.v K H G ys->ys[i]?=Dn y,
   λi H=>∃xs ys,k1.v K H J xs/\k2.v K H G ys/\(xs.length<=i\/ys.length<=i),true⟩
noncomputable def ags (k1 k2:Sk)(z TI TO J G U O:Addr)(n:Nat)(h:Heap):Prop:=IsZip h z TI TO .none/\Rq h TI (.ref J) (.ref G)/\(∃a b,Rq h TO a b)/\k1.it h J U n/\k2.it h G O n
variable {elts:List Expr}
theorem amK {P:IW}{w:IV}{K:BW}{pos:Pos}{k1 k2:Sk}{z TI TO Y U A t:Addr}(D:Zap z TI TO Y U)(o1:Off A z TO Y U)(o2:Off t z TO Y U):
  Turn P w K (.Tuple elts kt pos) (Itz K k1 k2 A t) [z,TI,TO,Y,U] z (ags k1 k2 z TI TO Y U A t) where
 mem:=by simp
 obj:=λi h st b G=>by
  obtain⟨g,f,⟨a,b',j⟩,m,l⟩:=st;simp at G;rcases G with rfl|rfl|rfl|rfl|rfl
  exact⟨_,g,nofun⟩;exact⟨_,f,λv y=>by cases y⟩;exact⟨_,j,nofun⟩;obtain⟨o,e,_,d⟩:=Sk.it_obj m;exact⟨o,e,λv y=>by rw[d]at y;cases y⟩;obtain⟨o,e,_,d⟩:=Sk.it_obj l;exact⟨o,e,λv y=>by rw[d]at y;cases y⟩
 keep:=λi h h' st k=>by
  obtain⟨g,f,⟨a,b,j⟩,m,l⟩:=st;exact⟨k z (by simp) _ g,k TI (by simp) _ f,⟨a,b,k TO (by simp) _ j⟩,Sk.it_at m λo e=>k Y (by simp) o e,Sk.it_at l λo e=>k U (by simp) o e⟩
 item:=by
  intro X V S W O i aor s σ H E I F st T;subst V S W;obtain⟨g,f,⟨a,b,j⟩,m,l⟩:=st;obtain⟨xs,ys,x,y,C,B,ex,ey⟩:=T;obtain⟨its,N,Q⟩:=I.sk C;obtain⟨R,M,p2⟩:=I.sk B;obtain⟨u,hu,ru⟩:=N.get ex;obtain⟨v,hv,rv⟩:=M.get ey;refine ajW D o1 o2 g f j m l Q p2 (x:=u) (y:=v) (by simpa using hu) (by simpa using hv) λh1 z1 O1 g1' Z T1 L J=>⟨_,rfl,?_⟩;have lt:∀b∈[z,TI,TO,Y,U],s.heap.objs.size≠b:=λb G=>by
   simp at G;rcases G with rfl|rfl|rfl|rfl|rfl
   exact(SJ<|Jb g);exact SJ<|Jb f
   exact SJ<|Jb j
   obtain⟨o,e,_⟩:=Sk.it_obj m;exact SJ (Jb e);obtain⟨o,e,_⟩:=Sk.it_obj l;exact SJ (Jb e)
  have all:∀c o,c∉[z,TI,TO,Y,U]->s.heap.get? c=Dn o->h1.get? c=Dn o:=λc o O e=>
   J c o (λq=>O (by simp[q])) (λq=>O (by simp[q])) (λq=>O (by simp[q])) (λq=>O (by simp[q])) e
  refine wpAny_letOwnedTupleGo_zip z1 λh2 z2 n=>?_;have I1:Al X aor σ (Iz H s.heap.objs.size (.tup [x,y])) {s with heap:=s.heap.push {cls:=.type "tuple",data:=.seq #[u,v]} }:=
   I.laid (λb o e=>JV _ e) (JL _) ⟨(by show 2<=JN;decide),[u,v],.cons ru (.cons rv .nil),⟨_,Mf _ rfl,rfl,⟨_,rfl⟩,rfl⟩⟩
  have p:∀b∈[z,TI,TO,Y,U],JR X aor (Iz H s.heap.objs.size (.tup [x,y])) b:=λb G=>⟨by rw[aJ (LI (lt b G))];exact(F b G).1,(F b G).2⟩
  have I2:=by
   refine Al.turnedL (h':=h2) (t':=s.toks) I1 (λb o G e=>?_) p;have bz:b≠z:=λq=>G (by simp[q])
   rcases Heap.get?_push_cases e with⟨rfl,rfl⟩|e'
   exact n.extBut _ _ bz T1;exact n.extBut _ _ bz<|all b o G e'
  refine⟨.ref s.heap.objs.size,_,I2,rfl,⟨s.heap.objs.size,x,y,(I.hok.fresh<|JL _),rfl,rfl,λxs' q=>by rw[I.sk_inj q C];exact ex,λys' q=>by rw[I.sk_inj q B];exact ey⟩,?_,λb G=>(p b G).1⟩;exact⟨z2,n.extBut _ _ D.a1<|J _ _ D.a1 D.a5 D.a6 D.a7 f,⟨u,v,n.extBut _ _ D.a2 O1⟩,Sk.it_at g1' λo e=>n.extBut _ o D.a3 e,Sk.it_at Z λo e=>n.extBut _ o D.a4 e⟩
 done:=by
  intro X V S W O i aor s σ H E I F st T;subst V S W;obtain⟨g,f,⟨a,b,j⟩,m,l⟩:=st;obtain⟨xs,ys,C,B,r⟩:=T;obtain⟨its,N,Q⟩:=I.sk C;obtain⟨R,M,p2⟩:=I.sk B;have A:=N.length;have t:=M.length;refine akm (I.ok.hd<|O rfl) D o1 o2 g f j m l Q p2 (r.imp (λq=>by simp;lia) λq=>by simp;lia) λh1 J=>⟨rfl,I.turnedL (t':=s.toks) (λc o O e=>?_) F⟩;exact J c o (λq=>O<|by simp[q]) (λq=>O<|by simp[q]) (λq=>O<|by simp[q]) (λq=>O<|by simp[q]) e
 self:=λ_ _ _ _ _ st h=>wpAny_pyIter_zip st.1 h
section
variable {X:Cx}{K:BW}
noncomputable def sqk (K:BW)(H:Hp)(x:V)(k:Sk)(a:Addr):Prop:=x=.ref a/\∃xs,k.v K H a xs
noncomputable def ahK (K:BW)(ta:TA):TI:=fun σ H R=>ta σ H λvs H1=>∃x y k1 k2 a b,vs=[x,y]/\sqk K H1 x k1 a/\sqk K H1 y k2 b/\R (Itz K k1 k2 a b) H1
theorem Sk.sq_lt {k:Sk}{h a}{its}(x:k.sq h a its):a<h.objs.size:=by
 cases k with
 | l|t=>obtain⟨o,e,_⟩:=x;exact Jb e
theorem lO {a b:Nat}(h:a≠b):(show Addr from a)≠(show Addr from b):=h
theorem abz (n:Nat):Zap (n+4) (n+2) (n+3) n (n+1) where
 a1:=lO (show n+2≠n+4 by lia)
 a2:=lO (show n+3≠n+4 by lia)
 a3:=lO (show n≠n+4 by lia)
 a4:=lO (show n+1≠n+4 by lia)
 a5:=lO (show n+2≠n+3 by lia)
 a6:=lO (show n+2≠n by lia)
 a7:=lO (show n+2≠n+1 by lia)
 a8:=lO (show n+3≠n by lia)
 a9:=lO (show n+3≠n+1 by lia)
 b1:=lO (show n≠n+1 by lia)
theorem o7 {a n:Nat}(h:a<n):Off a (n+4) (n+3) n (n+1) where
 z:=lO (show a≠n+4 by lia)
 o:=lO (show a≠n+3 by lia)
 i:=lO (show a≠n by lia)
 j:=lO (show a≠n+1 by lia)
theorem af8 {n c}(h:c∈([n+4,n+2,n+3,n,n+1]:List Nat)):n<=c:=by grind
theorem ad7 {e1 e2 ta}{p pos tpos}(hg:Gl X "zip")(hm:X.mg "zip" = Go)(ha:PA X [e1,e2] ta)
  (hs:J9 [e1,e2] X.env=(false,eval e1 X.env)::J9 [e2] X.env:=by rfl) (hpl:(Mi pos (J9 [e2] X.env)).any (·.1)=false:=by rfl) :
  PI X (.Tuple elts kt tpos) (.Call (.Name "zip" p) [e1,e2] [] pos) (ahK X.K ta):=by
 intro aor s σ H R I h;refine Xz<|pR I hg hm boot_zip (Zk (JC (ha pos aor s σ H _ I h) λus s1 ⟨vs,H1,I1,r1,q1⟩=>?_) hs hpl) (by decide)<|by decide
 obtain⟨x,y,k1,k2,a,b,ev,⟨ex,xs,hx⟩,⟨ey,ys,hy⟩,q⟩:=q1;subst ev ex ey;obtain⟨u1,u2,eu,ru1,ru2⟩:=vals2 r1;subst eu;cases ru1;cases ru2;obtain⟨its,r1,p1⟩:=I1.sk hx;obtain⟨jts,r2,p2⟩:=I1.sk hy;have la:=Sk.sq_lt p1;have lb:=Sk.sq_lt p2;refine ajV p1 p2 λh' gz gI gO g1 g2 size all=>(wpAny_pyIter_zip gz ?_);generalize hn:s1.heap.objs.size=n at gz gI gO g1 g2 size la lb|-
 refine⟨n+4,[n+4,n+2,n+3,n,n+1],_,_,H1,rfl,(I1.kept all),amK (abz n) (o7 la)<|o7 lb,⟨gz,gI,⟨_,_,gO⟩,g1,g2⟩,λc hc=>?_,q⟩;have hc':=af8 hc;exact I1.fpOk (hn ▸ hc')<|I1.hok.fresh<|hn ▸ hc'
noncomputable def vN:List W->List W->List W
 | a::as,b::bs=>.tup [a,b]::vN as bs
 | _,_=>[]
theorem Ge:∀{as bs:List W}{i:Nat}{w:W},(vN as bs)[i]?=Dn w->∃a b,as[i]?=Dn a/\bs[i]?=Dn b/\w=.tup [a,b]
 | a::as,b::bs,0,w,e=>⟨a,b,rfl,rfl,(Ma e).symm⟩
 | a::as,b::bs,i+1,w,e=>by
  obtain⟨x,y,h1,h2,G⟩:=Ge (by simpa[vN]using e);simp_all
theorem Ez:∀{as bs},(vN as bs).length=min as.length bs.length
 | [],bs|_::_,[]=>by simp[vN]
 | a::as,b::bs=>by rw[vN,PL,Ez,PL,PL];lia
noncomputable def rD:W->Option (List W)
 | .tup ws=>Dn ws
 | .lst ws=>Dn ws
 | .kls ws=>Dn ws
 | _=>Go
theorem G8 {H w v}(r:CR K H μ w v)(e:rD w=Dn ws):∃k a,v=.ref a/\∀{H2 μ2},Ji K H μ H2 μ2->∃xs,Sk.v k K H2 a xs/\aY K H2 μ2 ws xs:=by
 cases w with
 | tup us=>
  cases e;have O:=r;obtain⟨p,xs,G,hs,J⟩:=r;subst G;refine⟨.t,p,rfl,λ{H2 μ2} x=>?_⟩;obtain⟨q,ys,G,hs,J⟩:=(x.r _ _ O)
  cases G;exact⟨ys,hs,J⟩
 | lst us|kls us=>
  cases e;have O:=r;obtain⟨p,xs,G,hs,J⟩:=r;subst G;refine⟨.l,p,rfl,λ{H2 μ2} x=>?_⟩;obtain⟨q,ys,G,hs,J⟩:=(x.r _ _ O)
  cases G;exact⟨ys,hs.sq,J⟩
 | _=>cases e
noncomputable def Vb (h:Gh)(x y:W):Option Src:=match rD x,rD y with
 | some as,Dn bs=>Dn ⟨vN as bs,Go⟩
 | none,Dn bs=>(match x with
  | .loc n=>(match h.c n with
   | some (.lst as)=>Dn ⟨vN as bs,Dn (n,as)⟩
   | _=>Go)
  | _=>Go)
 | _,_=>Go
theorem amF {H h w v}{o}(R:Iu K μ H h)(r:CR K H μ w v)(e:(rD w=Dn ws/\o=Go)\/∃n,w=.loc n/\h.c n=Dn (.lst ws)/\o=Dn (n,ws)):
  ∃k a,v=.ref a/\∀{H2 μ2 h2},Ji K H μ H2 μ2->Iu K μ2 H2 h2->Src.chk ⟨ws,o⟩ h2->∃xs,Sk.v k K H2 a xs/\aY K H2 μ2 ws xs:=by
 rcases e with⟨e,rfl⟩|⟨n,rfl,i,rfl⟩
 obtain⟨k,a,O,f⟩:=G8 r e;exact⟨k,a,O,λx _ _=>f x⟩;have Y:=r;obtain⟨p,O,g⟩:=r;subst O;refine⟨.l,p,rfl,λ{H2 μ2 h2} x R2 d=>?_⟩;obtain⟨q,c,J⟩:=(x.r _ _ Y)
 cases c;obtain⟨p',xs,G,b,U⟩:=R2.lstAt d;cases by rw[J]at G;exact(Ma G).symm
 exact⟨xs,.of b,U⟩
theorem amT {h:Gh}{x y:W}{s:Src}(e:Vb h x y=Dn s):∃as bs o,s=⟨vN as bs,o⟩/\((rD x=Dn as/\o=Go)\/∃n,x=.loc n/\h.c n=Dn (.lst as)/\o=Dn (n,as))/\rD y=Dn bs:=by
 unfold Vb at e;grind
noncomputable def aeL (ma:MA):MI:=fun σ h R=>ma σ h λws h1=>match ws with
 | [x,y]=>(match Vb h1 x y with
  | some s=>R s h1
  | none=>False)
 | _=>False
theorem V1 {e1 e2}{p pos tpos}(hg:Gl X "zip")(hm:X.mg "zip" = Go)(ha:NQ X [e1,e2] mr)
  (hs:J9 [e1,e2] X.env=(false,eval e1 X.env)::J9 [e2] X.env:=by rfl) (hpl:(Mi pos (J9 [e2] X.env)).any (·.1)=false:=by rfl) :
  TJ X (.Tuple elts kt tpos) (.Call (.Name "zip" p) [e1,e2] [] pos) (aeL mr):=PI.of (ad7 hg hm ha hs hpl) fun σ H Q e=>by
 obtain⟨μ,h,σw,Rw,R,S,m,k⟩:=e;refine⟨μ,h,σw,_,R,S,m,λvs H1 c=>?_⟩;obtain⟨μ1,ws,h1,e1,R1,r1,m1⟩:=c;split at m1
 split at m1
 rename_i x y _ s es;obtain⟨as,bs,o,rfl,ea,eb⟩:=amT es;obtain⟨v,u,ev,rv,ru⟩:=Rh r1;obtain⟨ka,a,e3,fa⟩:=amF R1 rv ea;obtain⟨kb,b,e4,fb⟩:=G8 ru eb;have ck1:Src.chk ⟨as,o⟩ h1:=by
  rcases ea with⟨_,rfl⟩|⟨n,_,ec,rfl⟩
  exact trivial;exact ec
 obtain⟨xs,hxs,_⟩:=fa .refl R1 ck1;obtain⟨ys,hys,_⟩:=fb .refl;refine⟨v,u,ka,kb,a,b,ev,⟨e3,xs,hxs⟩,⟨e4,ys,hys⟩,k _ _ ⟨μ1,⟨vN as bs,o⟩,h1,e1,R1,?_,m1⟩⟩;intro H2 μ2 h2 i e2 R2 ck;obtain⟨xs2,hxs2,rxs⟩:=fa e2 R2 ck;obtain⟨ys2,hys2,rys⟩:=fb e2;refine⟨λw ew=>?_,λhl=>⟨xs2,ys2,hxs2,hys2,?_⟩⟩;obtain⟨p1,p2,ep1,ep2,rfl⟩:=Ge ew;obtain⟨q1,eq1,rq1⟩:=rxs.get ep1;obtain⟨q2,eq2,rq2⟩:=rys.get ep2;refine⟨⟨xs2,ys2,q1,q2,hxs2,hys2,eq1,eq2⟩,λx' H3 d=>?_⟩;obtain⟨pa,x1,x2,hp,ex',eH3,f1,f2⟩:=d;have g1:=f1 xs2 hxs2;have g2:=f2 ys2 hys2;rw[eq1]at g1;rw[eq2]at g2;cases g1;cases g2;subst ex' eH3;exact⟨μ2,(Ex.laid hp).ext,R2.laid hp,.tupNew hp<|.cons rq1<|.one rq2⟩;have l1:=rxs.len;have l2:=rys.len;have:=Ez ▸ hl
 lia;cases m1;cases m1
end
variable {e1 e2:Expr}
section
variable {X:Cx}{K:BW}
theorem QX:∀{ns:List Int}{its i}{v:JI},CZ (ns.map V.int) its->its[i]?=Dn v->∃t,v=.int (ns.getD i 0) t
 | [],_,_,_,.nil,e=>by simp at e
 | n::ns,_,0,_,.cons r _,e=>by
  simp at e;subst e;exact r
 | _::ns,_,i+1,v,.cons _ t,e=>by
  obtain⟨G,h⟩:=QX t (by simpa using e)
  simp_all
theorem rM (ns:List Int):∀k,k<=ns.length->preSum (λi=>ns.getD i 0) k=(ns.take k).sum
 | 0,_=>by simp[preSum]
 | k+1,h=>by
  rw[preSum,rM ns k (by lia),Nj,List.sum_append,MH _];show _=_+(ns[k]+0);grind
theorem aiV (f:X.calm=true):jX X (.builtin "sum") (λxs H Q=>∃(p:Addr) (ns:List Int),xs=[.ref p]/\Kh X.K H p (ns.map V.int)/\Q (.int ns.sum) H):=by
 rintro aor s σ H xs us Q I r ⟨p,ns,e,g,q⟩;subst e;obtain⟨u,rfl,Y⟩:=vals1 r;cases Y;obtain⟨its,O,a,k⟩:=I.list g;have J:its.length=ns.length:=by rw[<-O.length,Ik]
 have hl:=a.isList;have G:p<s.heap.objs.size:=by obtain⟨_,e,_⟩:=hl;exact Jb e
 refine call_sum_walkAnyS<|Yi hl ?_
 refine⟨s.heap.objs.size,[s.heap.objs.size,p],[s.heap.objs.size],_,its.toArray.size,_,_,λi=>ns.getD i 0,rfl,(Walks.list (A:=X.A.in1) (I.ok.hd f) _ p (KZ G) _).toS,
  ⟨⟨_,Mf _ rfl,rfl,rfl⟩,hl.push _⟩,λb l=>?_,λi v h=>QX O (by simpa using h),λs' U hm=>?_⟩
 rw[Uk];grind
 have e:preSum (λi=>ns.getD i 0) its.toArray.size=ns.sum:=by rw[Mp,J,rM ns _ (JL _),QG]
 rw[e];obtain⟨hh,m,dd,tt,j⟩:=s';have c:=hm.gens;have d:=hm.drawn;have ho:=hm.os;subst c d ho;refine⟨.int _,H,I.kept<|λb x e=>?_,⟨U,rfl⟩,q⟩;exact hm.heap b x (λhm=>by rw[Ri.mp hm]at e;exact Rg _ (Jb e))<|JV _ e
noncomputable def z8:List W->Option (List Int)
 | []=>Dn []
 | .int i::ws=>(z8 ws).map (i::·)
 | _=>Go
theorem HW {H μ}:∀{ws xs}{ns},aY K H μ ws xs->z8 ws=Dn ns->xs=ns.map V.int
 | [],xs,ns,r,e=>by
  cases e;exact r
 | w::ws,xs,ns,r,e=>by
  obtain⟨v,O,J,G,r⟩:=r;cases w with
  | int b=>
   rw[z8]at e;cases q:z8 ws with
   | none=>rw[q]at e;cases e
   | some U=>
    rw[q]at e;cases e;rw[J,G,HW r q];rfl
  | _=>cases e
noncomputable def Z0:MC:=λws h Q=>match ws with
 | [w]=>(match d9 h w with
  | some us=>(match z8 us with
   | some ns=>Q (.int ns.sum) h
   | none=>False)
  | none=>False)
 | _=>False
theorem adF (O:X.calm=true):lC X (.builtin "sum") Z0:=⟨_,aiV O,by
 intro H μ h a ws b Q R r m k;unfold Z0 at m;split at m
 split at m
 split at m
 rename_i w _ us U _ ns Y;obtain⟨v,e,G⟩:=jY r;obtain⟨p,ys,ex,hs,J⟩:=dU R G U;subst e ex;exact⟨p,ns,rfl,HW J Y ▸ hs,k _ _<|.int R m⟩;cases m;cases m;cases m⟩
end
theorem El:Manifest.owners.lookup (String.ofList ['d','e','s','r','e','v','e','r'].reverse)=Dn Manifest.sig_reversed:=by kernel_rfl
theorem Vp:mroOf (.type "reversed")=pure [.type "reversed",.type "object"]:=by
 rw[mroOf_type]
 kernel_rfl
theorem abx:typeLookup (.type "reversed") "__new__" = pure (Dn (.builtin "reversed.__new__")):=by
 rw[Zy,builtinLookup_eq_fast]
 kernel_rfl
theorem dZ:Slot "reversed" "__next__" "reversed.__next__":=
  .of (owner := "reversed") (n := "__next__")
    (by rw[Zy,builtinLookup_eq_fast]
        kernel_rfl)
    (by decide +kernel) (by decide +kernel)
    (by decide +kernel)
    (by first
        | exact .inl (by decide +kernel)
        | exact .inr _)
    (by rw[Z3]
        kernel_rfl)
theorem nM:entryFor table "reversed.__next__" = Dn YD.«reversed.__next__»:=entryFor_of_tree (by kernel_rfl)
theorem pQ (a):argsOk "reversed.__next__" ⟨[a],[]⟩:=by
 unfold argsOk;rw[signature?_of (n:=['_','_','t','x','e','n','_','_']) (by kernel_rfl) El]
 kernel_rfl
theorem pW:Slot "reversed" "__iter__" "reversed.__iter__":=
  .of (owner := "reversed") (n := "__iter__")
    (by rw[Zy]
        kernel_rfl)
    (by decide +kernel) (by decide +kernel)
    (by decide +kernel)
    (by first
        | exact .inl (by decide +kernel)
        | exact .inr _)
    (by rw[Z3]
        kernel_rfl)
theorem yr (a):argsOk "reversed.__iter__" ⟨[a],[]⟩:=by
 unfold argsOk;rw[signature?_of (n:=['_','_','r','e','t','i','_','_']) (by kernel_rfl) El]
 kernel_rfl
theorem wX:entryFor table "reversed.__iter__" = Dn YD.«dict_keyiterator.__iter__»:=
  entryFor_alias (id' := "dict_keyiterator.__iter__") (by kernel_rfl)
    (by first
        | rfl
        | decide +kernel
        | (unfold G.splitOn;simp +decide [G.splitOnAux]))
    (by decide +kernel) (by kernel_rfl)
theorem zam (a:JI):checkTypeCall "reversed" ⟨[a],[]⟩=pure ():=by kernel_rfl
theorem zaz (a):checkBuiltinCall "reversed.__new__" ⟨[.type "reversed",a],[]⟩=pure ():=by kernel_rfl
theorem yS:entryFor table "reversed.__new__" = Dn YD.«reversed.__new__»:=entryFor_of_tree (by kernel_rfl)
theorem adk:isSubtype (.type "reversed") (.type "reversed")=pure true:=by
 rw[Z3]
 kernel_rfl
theorem ajk:typeLookup (.type "tuple") "__reversed__" = pure Go:=by
 rw[Zy,builtinLookup_eq_fast]
 kernel_rfl
theorem aiJ:isSubtype (.type "tuple") (.type "dict")=pure false:=by
 rw[Z3]
 kernel_rfl
noncomputable def Ym (l:Addr)(i:Int):Obj:={cls:=.type "reversed",data:=.fields #[.ref l,RL i]}
noncomputable def Li (h:Heap)(a l:Addr)(i:Int):Prop:=∃o,h.get? a=Dn o/\o.cls=.type "reversed"/\o.data=.fields #[.ref l,RL i]
section
variable {P:IW}{w:IV}{A:Ig}{E:JI->Ab->Prop}{s:Ab}
theorem Li.typeIs {a l i}(x:Li s.heap a l i):s.TypeIs (.ref a) "reversed":=let⟨o,g,c,_⟩:=x;⟨o,g,c⟩
theorem Li.at {h h' a l i}(x:Li h a l i)(e:∀o,h.get? a=Dn o->h'.get? a=Dn o):Li h' a l i:=let⟨o,g,r⟩:=x;⟨o,e _ g,r⟩
theorem zbC (a:JI):Builtin.SmallTypes.newClass "reversed" ⟨[.type "reversed",a],[]⟩=pure (.type "reversed",[a]):=by
 unfold Builtin.SmallTypes.newClass;simp[adk];rfl
theorem zbQ:Slot "reversed" "__init__" "object.__init__":=
  .of (owner := "object") (n := "__init__")
    (by rw[Zy]
        kernel_rfl)
    (by decide +kernel) (by decide +kernel)
    (by decide +kernel)
    (by first
        | exact .inl (by decide +kernel)
        | exact .inr _)
    (by rw[Z3]
        kernel_rfl)
theorem ajt:TypeCalled "reversed" "reversed.__new__" "object.__init__":=
  ⟨by decide +kernel,by decide +kernel,⟨_,_,Vp⟩,madeBy_type Vp abx (by decide +kernel),by decide +kernel,
    by rw[Z3]
       kernel_rfl,zbQ⟩
theorem akc (l)(xs):Meets (YD.«reversed.__new__» ⟨[.type "reversed",.ref l],[]⟩) (λ_ R s=>IsTup s.heap l xs/\(xs.size:Int)<2^63 /\
   R (.ok (.ret (.ref s.heap.objs.size))) {s with heap:=s.heap.push (Ym l ((xs.size:Int)-1)),toks:=s.toks+1+1}):=by
 refine .of_wp λprog w A R s a=>?_;obtain⟨ht,G,q⟩:=a;refine Aj<|Xd (zbC _)<|Aj<|Xd rfl<|Aj<|Xd rfl<|Aj<|Z4 ht.typeIs ajk<|Aj<|Aj<|Zu ht.typeIs aiJ<|Aj<|Z4 ht.typeIs YL.lookup<|HI<|Aj<|len_tuple ht G<|Aj<|Xd rfl<|Aj ?_
 show Bh _ _ (newObj _ (.fields #[.ref l,RL _])) _ _ _;exact XJ (HI ⟨_,rfl,q⟩)<|by size_fits
theorem zbB {l}{xs}{Q}(ht:IsTup s.heap l xs)(G:(xs.size:Int)<2^63)
  (q:Q (.ref s.heap.objs.size) {s with heap:=s.heap.push (Ym l ((xs.size:Int)-1)),toks:=s.toks+1+1}):Bh (Bu P w) A (call (.type "reversed") [.ref l]) Q E s:=callType_new ajt (by decide) (zam _) (zaz _) (λobj=>PySem.F.args_object_init_2 obj _) yS (akc l xs) ⟨ht,G,⟨_,Mf _ rfl,rfl⟩,q⟩
theorem zbx {it l}{i:Nat}{xs x}{Q}(hi:Li s.heap it l (i))(ht:IsTup s.heap l xs)(U:(xs.size:Int)<2^63)(O:xs[i]?=Dn x)
  (q:∀h',Li h' it l ((i)-1)->RK it s.heap h'->Q (Dn x) {s with heap:=h',toks:=s.toks+1}):Bh (Bu P w) A (pyNext (.ref it)) Q E s:=by
 obtain⟨o,J,b,G⟩:=id hi;have a:=(Array.getElem?_eq_some_iff.mp O).1;refine Aj (Y9 (Xq hi.typeIs dZ
  (XD dZ hi.typeIs nM ?_ (pQ _))))
 refine Aj<|Xd rfl ?_
 refine Aj<|N8 J G rfl<|Aj<|N8 J G rfl ?_
 refine Aj<|Z4 ht.typeIs YL.lookup<|Aj<|wpAny_mkInt<|Aj<|Y9<|getItem_tuple ht (by lia) (by lia) ?_ O ?_
 exact(seqIndex_of (by lia)<|by lia);refine Aj<|N8 J G rfl<|Aj<|Y6 J G (by simp)<|HI ⟨x,rfl,HI<|q _ ?_<|Xo ..⟩
 exact⟨_,S7 _ J<|X6<|Tn G _,(Zx ..).trans b,by rw[Tn G];simp⟩
theorem zaf {it l:Addr}{Q:Option JI->Ab->Prop}(hh:A.handled=Go)(hi:Li s.heap it l (-1))
  (q:∀h',ZF it s.heap h'->Q Go {s with heap:=h'}):Bh (Bu P w) A (pyNext (.ref it)) Q E s:=by
 obtain⟨o,J,e,G⟩:=id hi;refine Aj (Y9 (Xq (name:=Str.ofString "__next__") hi.typeIs dZ
  (XD dZ hi.typeIs nM ?_ (pQ _))))
 refine Aj<|Xd (a:=(Value.ref it,([]:List JI))) (by rfl) ?_
 refine Aj<|N8 J G (x:=.ref l) rfl ?_
 refine Aj<|N8 J G (x:=RL (-1)) rfl ?_
 refine Aj<|Y5 ?_
 refine Aj ?_;refine Aj<|Y6 J G (by simp) ?_
 have c:=S7 (λo=>o.mapFields λx=>x.setIfInBounds 1 (RL (-1))) J (X6 (Tn G _));refine Y6 c (Tn G _) (by simp) ?_;refine Aj ?_;refine Aj ?_;refine Aj (XJ (by
  refine Aj (m:=firstArgMember _ _)<|Xd (a:=Value.none) (by rfl)<|XJ ?_<|by size_fits
  refine Aj (wpAny_handled (by
   first
    | rw[hh]
   refine Aj<|HI<|Z8 ?_
   refine Aj<|Zu (T := "StopIteration") (b:=true) ⟨_,Mf _ rfl,rfl⟩ isSubtype_stop<|HI<|q _ ?_
   intro b O Y d;exact JV _ (JV _ ((Xo ..).extBut b O Y ((Xo ..).extBut b O Y d))))) ) (by size_fits))
theorem Em {it l i}{Q}(hi:Li s.heap it l i)(q:Q (.ref it) s):Bh (Bu P w) A (pyIter (.ref it)) Q E s:=wpAny_pyIter_slot hi.typeIs pW (XD pW hi.typeIs wX (HI ⟨_,rfl, "reversed",_,hi.typeIs,dZ.lookup,q⟩) (yr _))
end
noncomputable def Itv (K:BW)(n:Nat)(l:Addr):It:=
  ⟨λi H=>i<n/\∃xs x,Lq K H l xs/\xs.length=n/\xs[n-1-i]?=Dn x,
   λi H v H'=>H'=H/\∀xs,Lq K H l xs->xs[n-1-i]?=Dn v,
   λi _=>n<=i,true⟩
noncomputable def aix (n:Nat)(it l:Addr)(i:Nat)(h:Heap):Prop:=i<=n/\Li h it l ((n:Int)-1-(i:Int))
theorem ajw {P:IW}{w:IV}{K:BW}{tg:Expr}{n:Nat}{it l:Addr}(N:l≠it):Turn P w K tg (Itv K n l) [it] it (aix n it l) where
 mem:=by simp
 obj:=λi h st b G=>by
  obtain⟨_,o,g,_,d⟩:=st;rw[Ri]at G;subst G;exact⟨o,g,λv y=>by rw[d]at y;cases y⟩
 keep:=λi h h' st k=>⟨st.1,st.2.at λo e=>k it (by simp) o e⟩
 item:=by
  intro X t m v p i aor s σ H E I J st U;subst t m v;obtain⟨O,xs,x,j,V,ex⟩:=U;obtain⟨its,r,C,W⟩:=I.tuple j;obtain⟨u,M,B⟩:=r.get ex;have hl:=r.length;have e1:(n:Int)-1-(i:Int)=((n-1-i:Nat):Int):=by lia
  have hi:=st.2;rw[e1]at hi;have Z:=rK;refine zbx hi C (by simp;lia) (by simpa using M) λh1 Y A=>⟨u,rfl,?_⟩;have e2:((n-1-i:Nat):Int)-1=(n:Int)-1-((i+1:Nat):Int):=by lia
  rw[e2]at Y;obtain⟨o,Q,S,R⟩:=id Y;refine KD Q S R (by decide) ⟨x,H,I.turnedL (λb o G e=>A.extBut b o (λq=>G<|by simp[q]) e) J,B,⟨rfl,λys L=>?_⟩,⟨O,Y⟩,λb G=>(J b G).1⟩
  rwa[I.tuple_inj L j]
 done:=by
  intro X t m v p i aor s σ H E I J st U;have hi:=st.2;have e1:(n:Int)-1-(i:Int)=-1:=by
   have:=st.1
   have:n<=i:=U
   lia
  rw[e1]at hi;exact zaf (I.ok.hd<|p rfl) hi λh1 T=>⟨rfl,I.turnedL (λb o G e=>T b o (λq=>G<|by simp[q]) e) J⟩
 self:=λ_ _ _ _ _ st h=>Em st.2 h
section
variable {X:Cx}{K:BW}
end
section
variable {X:Cx}
end
noncomputable def Itw (K:BW)(n:Nat)(l:Addr):It:=
  ⟨λi H=>i<n/\∃xs x,Kh K H l xs/\xs.length=n/\xs[n-1-i]?=Dn x,
   λi H v H'=>H'=H/\∀xs,Kh K H l xs->xs[n-1-i]?=Dn v,
   λi _=>n<=i,true⟩
noncomputable def ahN (n:Nat)(it l:Addr)(i:Nat)(h:Heap):Prop:=i<=n/\h.IsRevIter it l ((n:Int)-1-(i:Int))
theorem aiS {P:IW}{w:IV}{K:BW}{tg:Expr}{n:Nat}{it l:Addr}(N:l≠it):Turn P w K tg (Itw K n l) [it] it (ahN n it l) where
 mem:=by simp
 obj:=λi h st b G=>by
  obtain⟨_,o,g,_,d⟩:=st;rw[Ri]at G;subst G;exact⟨o,g,λv y=>by rw[d]at y;cases y⟩
 keep:=λi h h' st k=>⟨st.1,st.2.at λo e=>k it (by simp) o e⟩
 item:=by
  intro X t m v p i aor s σ H E I J st U;subst t m v;obtain⟨O,xs,x,j,V,ex⟩:=U;obtain⟨its,r,C,W⟩:=I.list j;obtain⟨u,M,B⟩:=r.get ex;have e1:(n:Int)-1-(i:Int)=((n-1-i:Nat):Int):=by lia
  have hi:=st.2;rw[e1]at hi;refine wpAny_pyNext_rev_item hi C.isList (by simpa using M) λh1 Y A=>⟨u,rfl,?_⟩;have e2:((n-1-i:Nat):Int)-1=(n:Int)-1-((i+1:Nat):Int):=by lia
  rw[e2]at Y;obtain⟨o,Q,S,R⟩:=id Y;refine KD Q S R (by decide) ⟨x,H,I.turnedL (λb o G e=>A.extBut b o (λq=>G<|by simp[q]) e) J,B,⟨rfl,λys L=>?_⟩,⟨O,Y⟩,λb G=>(J b G).1⟩
  rwa[I.list_inj L j]
 done:=by
  intro X t m v p i aor s σ H E I J st U;have hi:=st.2;have e1:(n:Int)-1-(i:Int)=-1:=by
   have:=st.1
   have:n<=i:=U
   lia
  rw[e1]at hi;exact wpAny_pyNext_rev_end (I.ok.hd<|p rfl) hi λh1 T=>⟨rfl,I.turnedL (λb o G e=>T b o (λq=>G<|by simp[q]) e) J⟩
 self:=λ_ _ _ _ _ st h=>wpAny_pyIter_revIter st.2 h
section
variable {X:Cx}{K:BW}
noncomputable def afJ (K:BW)(ta:TA):TI:=fun σ H R=>ta σ H λvs H1=>∃a xs,vs=[.ref a]/\((Lq K H1 a xs/\R (Itv K xs.length a) H1)\/(Kh K H1 a xs/\R (Itw K xs.length a) H1))
theorem amI {tg ta}{p pos}(hg:Gl X "reversed")(hm:X.mg "reversed" = Go)(ha:PA X [e1] ta)
  (hs:J9 [e1] X.env=(false,eval e1 X.env)::J9 [] X.env:=by rfl) (hpl:(Mi pos (J9 [] X.env)).any (·.1)=false:=by rfl) :
  PI X tg (.Call (.Name "reversed" p) [e1] [] pos) (afJ X.K ta):=by
 intro aor s σ H R I h;refine Xz<|pR I hg hm boot_reversed (Zk (JC (ha pos aor s σ H _ I h) λus s1 ⟨vs,H1,I1,r1,q1⟩=>?_) hs hpl) (by decide)<|by decide
 obtain⟨a,xs,ev,hx⟩:=q1;subst ev;obtain⟨u1,eu,ru1⟩:=vals1 r1;subst eu;cases ru1;rcases hx with⟨hx,q⟩|⟨hx,q⟩
 obtain⟨its,r,pl,hz⟩:=I1.tuple hx;have hl:=r.length;have hn:=rK;refine zbB pl (by simp;lia) ?_;have gi:Li (s1.heap.push (Ym a ((its.toArray.size:Int)-1))) s1.heap.objs.size a ((xs.length:Int)-1-((0:Nat):Int)):=by
  refine⟨_,Mf _ rfl,rfl,?_⟩;show Data.fields #[.ref a,RL _]=_;rw[Mp,<-hl];simp
 refine Em gi ?_;refine⟨_,[s1.heap.objs.size],_,_,H1,rfl,I1.kept<|λb o e=>JV _ e,ajw<|KZ (by obtain⟨_,e,_⟩:=pl;exact Jb e),⟨T7 _,gi⟩,λc hc=>?_,q⟩;rw[Ri]at hc;subst hc;exact I1.fpOk (JL _)<|I1.hok.fresh<|JL _
 obtain⟨its,r,pl,hz⟩:=I1.list hx;refine call_reversed_list pl.isList ?_;have gi:(s1.heap.push (revObj a ((its.toArray.size:Int)-1))).IsRevIter s1.heap.objs.size a ((xs.length:Int)-1-((0:Nat):Int)):=by
  refine⟨_,Mf _ rfl,rfl,?_⟩;show Data.fields #[.ref a,RL _]=_;rw[Mp,<-r.length];simp
 refine wpAny_pyIter_revIter gi ?_;refine⟨_,[s1.heap.objs.size],_,_,H1,rfl,I1.kept<|λb o e=>JV _ e,aiS<|KZ (by obtain⟨_,e,_⟩:=pl.isList;exact Jb e),⟨T7 _,gi⟩,λc hc=>?_,q⟩;rw[Ri]at hc;subst hc;exact I1.fpOk (JL _)<|I1.hok.fresh<|JL _
noncomputable def abu (ma:MA):MI:=fun σ h R=>ma σ h λws h1=>match ws with
 | [.tup us]=>R ⟨us.reverse,Go⟩ h1
 | [.lst us]=>R ⟨us.reverse,Go⟩ h1
 | _=>False
theorem alR {tg}{p pos}(hg:Gl X "reversed")(hm:X.mg "reversed" = Go)(ha:NQ X [e1] mr)
  (hs:J9 [e1] X.env=(false,eval e1 X.env)::J9 [] X.env:=by rfl) (hpl:(Mi pos (J9 [] X.env)).any (·.1)=false:=by rfl) :
  TJ X tg (.Call (.Name "reversed" p) [e1] [] pos) (abu mr):=PI.of (amI hg hm ha hs hpl) fun σ H Q f=>by
 obtain⟨μ,h,σw,Rw,R,S,m,k⟩:=f;refine⟨μ,h,σw,_,R,S,m,λvs H1 c=>?_⟩;obtain⟨μ1,ws,h1,e1,R1,r1,m1⟩:=c;split at m1
 rename_i us;obtain⟨v,ev,rv⟩:=jY r1;have rv0:=rv;obtain⟨a,xs,ea,hx,rs⟩:=rv;subst ev ea;have hl:=rs.len;refine⟨a,xs,rfl,.inl ⟨hx,k _ _ ⟨μ1,⟨us.reverse,Go⟩,h1,e1,R1,?_,m1⟩⟩⟩;intro H2 μ2 h2 i e2 R2 _;have r2:=e2.r _ _ rv0;obtain⟨b,ys,eb,hy,ry⟩:=r2;cases eb;have hl2:=ry.len;refine⟨λw ew=>?_,λhle=>?_⟩;have hi:=by
  have:=(Oi.mp ew).1
  simpa using this
 rw[List.getElem?_reverse hi]at ew;obtain⟨v,hv,rv⟩:=ry.get ew;refine⟨⟨by lia,ys,v,hy,by lia,show xs.length-1-i=us.length-1-i by lia ▸ hv⟩,λx H3 d=>?_⟩;obtain⟨e3,y⟩:=d;subst e3;have:=y ys hy
 rw[show _-1-i=us.length-1-i by lia,hv]at this;cases this;exact⟨μ2,.refl,R2,rv⟩;have:=by simpa using hle
 show _<=i;lia;rename_i us;obtain⟨v,ev,rv⟩:=jY r1;have rv0:=rv;obtain⟨a,xs,ea,hx,rs⟩:=rv;subst ev ea;have hl:=rs.len;refine⟨a,xs,rfl,.inr ⟨hx.sq,k _ _ ⟨μ1,⟨us.reverse,Go⟩,h1,e1,R1,?_,m1⟩⟩⟩;intro H2 μ2 h2 i e2 R2 _;have r2:=e2.r _ _ rv0;obtain⟨b,ys,eb,hy,ry⟩:=r2;cases eb;have hl2:=ry.len;refine⟨λw ew=>?_,λhle=>?_⟩;have hi:=by
  have:=(Oi.mp ew).1
  simpa using this
 rw[List.getElem?_reverse hi]at ew;obtain⟨v,hv,rv⟩:=ry.get ew;refine⟨⟨by lia,ys,v,hy.sq,by lia,show xs.length-1-i=us.length-1-i by lia ▸ hv⟩,λx H3 e=>?_⟩;obtain⟨e3,y⟩:=e;subst e3;have:=y ys hy.sq
 rw[show _-1-i=us.length-1-i by lia,hv]at this;cases this;exact⟨μ2,.refl,R2,rv⟩;have:=by simpa using hle
 show _<=i;lia;cases m1
end
theorem Kz {K H}:aY K H μ [] []:=rfl
theorem jZ {K:BW}{H:Hp}{w:W}{v:V}{G:List V}(h:CR K H μ w v)(t:aY K H μ ws G):aY K H μ (w::ws) (v::G):=⟨v,G,rfl,h,t⟩
theorem J1 {K H}{i}:CR K H μ (.int i) (.int i):=rfl
theorem ZM {K H}{i}:CR K H μ (.str i) (.str i):=rfl
variable {sl:Array (Option JI)}
theorem nF {K}{a}{its n}{xs}(h:K.lookup a=Dn ⟨.type "tuple",Go,.seq its n,sl⟩)(G:its.size<=JN)(J:CZ xs its.toList)(O:∀H μ,aY K H μ ws xs):∀H μ,CR K H μ (.tup ws) (.ref a):=by
 intro H μ;exact⟨a,xs,rfl,.inr ⟨_,its,n,h,rfl,rfl,G,J,rfl⟩,O H μ⟩
theorem J2 {i}{t}:RelV (.int i) (.int i t):=⟨t,rfl⟩
theorem WW {i:Str}{t}:RelV (.str i) (.str i t):=⟨t,rfl⟩
theorem aeO {a}:RelV (.ref a) (.ref a):=rfl
section
variable {prog:IW}{w:IV}{A:Ig}{E:JI->Ab->Prop}{s:Ab}
theorem Ah {it t}{items}(J:t≠it):∀n i s  (Q),s.heap.IsListIter it t i->s.heap.IsList t items->i+n<=items.size ->
  (∀h',h'.IsListIter it t (i+n)->RK it s.heap h'->Q ((items.toList.drop i).take n) {s with heap:=h'})->Bh (Bu prog w) A (draw (.ref it) n) Q E s
 | 0,i,s,Q,hit,_,_,b=>HI (by simpa using b _ hit (Heap.SameBut.refl ..))
 | n+1,i,s,Q,hit,ht,d,b=>by
  have a:i<items.size:=by lia
  refine Aj<|wpAny_pyNext_list_item hit ht (x:=items[i]) (by simp) λh1 U G=>(Aj<|Ot<|Ah J n _ _ _ U (ht.at λo e=>G.extBut _ o J e) (by lia) λh2 O Y=>HI ?_)
  have f:items.toList.drop i=items[i]::items.toList.drop (i+1):=by simp[v7,a]
  have:=b h2 (show i+(n+1)=i+1+n by lia ▸ O) (G.trans Y)
  rwa[f]at this
theorem alD {t}{items}{Q}(hh:A.handled=Go)(ht:s.heap.IsList t items)
  (c:∀h',ZF s.heap.objs.size s.heap h'->Q items.toList {s with heap:=h'}):Bh (Bu prog w) A (unpackItems (.ref t) items.size Go) Q E s:=by
 have J:t≠s.heap.objs.size:=by obtain⟨o,ho,_⟩:=ht;exact KZ (Jb ho)
 refine Aj ?_;refine Aj<|Z4 ht.typeIs slot_list_iter.lookup<|HI<|Aj<|Ot<|Yi ht<|Aj<|Ot<|Ah J _ 0 _ _ ⟨_,Mf _ rfl,rfl,rfl⟩ (ht.at λo e=>JV _ e) (by lia) λh1 O G=>?_
 rw[(uE (by simp)),if_neg (by simp)];refine Aj<|Ot<|wpAny_pyNext_list_end hh O (ht.at λo e=>G.extBut _ o J<|JV _ e) (by simp) λh2 U=>?_
 refine HI<|c h2 λb o a e=>U b o a<|G.extBut b o a<|JV _ e
theorem alj {env:Env}{O}{pos:Pos}{t:Addr}{items:Array JI}{Q:Unit->Ab->Prop}(hh:A.handled=Go)(ht:s.heap.IsList t items)
  (U:(QF elts env).length=items.size) (G:(QF elts env).findIdx? (·.1)=Go)
  (h:∀h',ZF s.heap.objs.size s.heap h'->Bh (Bu prog w) A (assignInOrder ((QF elts env).map (·.2)) items.toList) Q E {s with heap:=h'}) :
  Bh (Bu prog w) A (assign (.Tuple elts O pos) env (.ref t)) Q E s:=by
 refine Aj<|YC ?_
 unfold unpack;rw[U,G];exact Aj<|Ot<|alD hh ht h
end
section
variable {X:Cx}{pos:Pos}
noncomputable def agD (K:BW)(n:Nat)(t:WY):TG:=λv σ H Q=>∃a xs,v=.ref a/\(Lq K H a xs\/Kh K H a xs)/\xs.length=n/\t xs σ H Q
theorem akX {es k t}{n}(hc:X.calm=true)(h:XM X es t)
  (hn:(QF es X.env).length=n:=by rfl) (hst:(QF es X.env).findIdx? (·.1)=Go:=by rfl):PG X (.Tuple es k pos) (agD X.K n t):=by
 intro aor s σ H v u Q I r hw;obtain⟨a,xs,e1,hq,hl,hw⟩:=hw;subst e1;cases r;rcases hq with hq|hq
 obtain⟨its,rv,ht,hz⟩:=I.tuple hq;exact assign_Tuple_tuple (I.ok.hd hc) ht (by simp[hn,<-hl,rv.length]) hst λh' hx=>(h aor _ σ H xs _ Q (I.kept λb o e=>hx b o (KZ<|Jb e) e) (by simpa using rv) hw);obtain⟨its,rv,ht,hz⟩:=I.list hq;exact alj (I.ok.hd hc) ht.isList (by simp[hn,<-hl,rv.length]) hst λh' hx=>(h aor _ σ H xs _ Q (I.kept λb o e=>hx b o (KZ<|Jb e) e) (by simpa using rv) hw)
noncomputable def Jj (n:Nat)(g:TF):MG:=λw σ h N=>match w with
 | .tup ws=>K8 (Rb ws.length n) (g ws σ h N) False
 | .lst ws=>K8 (Rb ws.length n) (g ws σ h N) False
 | .loc j=>(match h.c j with
  | some (.lst ws)=>K8 (Rb ws.length n) (g ws σ h N) False
  | _=>False)
 | _=>False
theorem aac {es k g}{n}(hc:X.calm=true)(h:aeD X es g)(hn:(QF es X.env).length=n:=by rfl)(hst:(QF es X.env).findIdx? (·.1)=Go:=by rfl):DG X (.Tuple es k pos) (Jj n g):=
 (akX (n:=n) hc h hn hst).of λv σ H N a=>by
  obtain⟨μ,h,σw,w,Nw,R,S,r,m,k⟩:=a;cases w with
  | tup ws=>
   obtain⟨p,xs,e1,hs,hr⟩:=r;have m:K8 _ _ False:=m;cases en:Rb ws.length n with
   | true=>rw[en]at m;exact⟨p,xs,e1,.inl hs,hr.len ▸ fM en,μ,h,σw,ws,Nw,R,S,hr,m,k⟩
   | false=>rw[en]at m;exact(m).elim
  | lst ws=>
   obtain⟨p,xs,e1,hs,hr⟩:=r;have m:K8 _ _ False:=m;cases en:Rb ws.length n with
   | true=>rw[en]at m;exact⟨p,xs,e1,.inr hs.sq,hr.len ▸ fM en,μ,h,σw,ws,Nw,R,S,hr,m,k⟩
   | false=>rw[en]at m;exact(m).elim
  | loc j=>
   have m:(match h.c j with
    | some (.lst ws)=>K8 _ _ False
    | _=>False):=m
   split at m
   ·rename_i ws ec;obtain⟨p,xs,e1,hs,hr⟩:=dU R r (show d9 h (.loc j)=Dn ws by simp only[d9,ec]);cases en:Rb ws.length n with
    | true=>rw[en]at m;exact⟨p,xs,e1,.inr hs,hr.len ▸ fM en,μ,h,σw,ws,Nw,R,S,hr,m,k⟩
    | false=>rw[en]at m;exact(m).elim
   exact m.elim
  | _=>exact m.elim
end
section
variable {K:BW}{H:Hp}{h:Gh}{p:Addr}{xs:List V}
end
section
variable {X:Cx}{tg iter:Expr}{pos:Pos}{scope:Scope}{xs:List Str}
end
noncomputable def JM:Expr->Bool
 | .Starred _ _=>true
 | _=>false
theorem aM {e:Expr}{es:List Expr}{env:Env}(h:JM e=false):J9 (e::es) env=(false,eval e env)::J9 es env:=by
 cases e<;>first|rfl|cases h
theorem V5 {e}{env}(h:JM e=false):J9 [e] env=[(false,eval e env)]:=(aM h).trans rfl
noncomputable def noStar:List Expr->Bool
 | []=>true
 | e::r=>!JM e&&noStar r
theorem cC {pos env}:∀{es},noStar es=true->(Mi pos (J9 es env)).any (·.1)=false
 | [],_=>rfl
 | e::r,h=>by
  rw[noStar,Uj,Bool.not_eq_true']at h;rw[aM h.1];show(false||(Mi pos _).any _)=false;rw[cC h.2];rfl
theorem yK {aot e}{env}(h:JM e=false):((Mi aot (J9 [e] env)).all (λx=>!x.1)&&(backToKw aot (keywordEach [] env)).all (λx=>x.1.isSome)
   && decide (([e]:List Expr).length+([]:List W9).length+(if([]:List W9).isEmpty then 0 else 1)<30))=true:=by
 rw[V5 h];rfl
section
variable {prog:IW}{w:IV}{A:Ig}{E:JI->Ab->Prop}{s:Ab}
open HT in
theorem alv {t sl}{items Y U}{lo hi Q}(ht:IsTup s.heap t items)(hs:s.heap.IsSliceOf sl Y U .none)(b:IsPart Y lo)(a:IsPart U hi)
  (h0:sIx items.size 0 lo=0) (h1:sIx items.size items.size hi=items.size) (h:Q (.ref t) s):Bh (Bu prog w) A (getItem (.ref t) (.ref sl)) Q E s:=by
 obtain⟨os,J,O,c⟩:=id hs;unfold getItem;try with_reducible refine Ot ?_
 refine Aj<|wpAny_sequenceKey ht.typeIs (by decide) ?_
 refine Aj (Xq ht.typeIs YL
  (XD YL ht.typeIs entry_tuple_getitem ?_ (args_tuple_getitem _ _)))
 show Bh _ _ (Builtin.Tuple.tupleItemsOf _ >>= _) _ _ s;refine Aj<|tupleItemsOf_ ht ?_
 refine Aj<|wpAny_typeOf ⟨os,J,O⟩ ?_
 refine Aj<|je hs b a ?_
 have G:((((sIx items.size 0 lo:Nat):Int)==0&&(1:Int)==1&&(sIx items.size items.size hi-sIx items.size 0 lo)==items.size)=true):=by
  rw[h0,h1];simp
 show Bh _ _ (if _=true then _ else _) _ _ s;rw[if_pos G];refine Aj<|Aj<|wpAny_typeOf ht.typeIs<|HI ?_
 refine Aj<|Y5 ?_
 first
  | exact Aj (HI (HI ⟨_,rfl,HI h⟩))
end
section
variable {X:Cx}
noncomputable def aip (K:BW):V->Option Int->Option Int->Hp->VK->Prop:=λx lo hi H Q=>∃a xs,x=.ref a/\Lq K H a xs /\
 HT.sIx xs.length 0 lo=0/\HT.sIx xs.length xs.length hi=xs.length/\Q x H
theorem ajR:Wj X (aip X.K):=by
 intro aor s σ H x v d c lo hi sl Q I J hs U O h;obtain⟨a,xs,rfl,Y,b,h1,q⟩:=h;cases J;obtain⟨its,r,ht,e⟩:=I.tuple Y;have G:its.toArray.size=xs.length:=r.length.symm;exact⟨"tuple",_,YL.lookup,ht.typeIs,(alv ht hs U O (G ▸ b) (G ▸ h1) ⟨.ref a,H,I,rfl,q⟩)⟩
noncomputable def yd (x:W)(lo hi:Option Int)(h:Gh)(Q:WK):Prop:=match x with
 | .tup ws=>Q (.tup (J4 ws lo hi)) h
 | x=>(match d9 h x with
  | some ws=>Q (.lst (J4 ws lo hi)) h
  | none=>False)
theorem mX {e}{lo hi ml mh}{p2 pos}(y:DE X e ma)(hl:DO X lo ml)(w:DO X hi mh):DE X (.Subscript e (.Slice lo hi Go p2) pos) (RX yd ma ml mh):=
 (ala (Wj.or (Wj.or zbT acp) ajR) y hl w).of fun σ H Q b=>by
  obtain⟨μ,h,σw,s,R,S,m,k⟩:=b;refine⟨μ,h,σw,_,R,S,m,λx H1 ⟨μ1,t,h1,e1,B,v,m1⟩=>(⟨μ1,h1,σw,_,B,S.ext e1,m1,λlo H2 ⟨μ2,h2,e2,R2,m2⟩=>(⟨μ2,h2,σw,_,R2,(S.ext e1).ext e2,m2,λhi d a=>?_⟩)⟩)⟩;obtain⟨G,U,e3,Y,O⟩:=a;have J:=(e1.trans e2).trans e3;have i:=e3.r _ _ (e2.r _ _ v);have j:∀f,CR X.K d G f x->(match d9 U f with
    | some ws=>s (.lst (J4 ws lo hi)) U
    | none=>False)->∃p xs,x=.ref p/\Kh X.K d p xs/\∀l,d l=Go->Q (.ref l) (Iz d l (.lst (Xf xs lo hi))):=by
   intro f u n;split at n
   rename_i ws z;obtain⟨p,xs,ex,hs,c⟩:=dU Y u z;exact⟨p,xs,ex,hs,λl hl=>k _ _ ⟨G,_,U,J.trans (Ex.laid hl).ext,Y.laid hl,.lstNew Y hl<|c.cutv lo hi,n⟩⟩;cases n
  cases t with
  | tup ws=>
   have O:s _ U:=O;have g:=i;obtain⟨p,xs,ex,r,c⟩:=i;have hl:=c.len;by_cases o:HT.sIx xs.length 0 lo=0/\HT.sIx xs.length xs.length hi=xs.length
   have A:J4 ws lo hi=ws:=by
    unfold J4;grind
   rw[A]at O;exact .inr ⟨p,xs,ex,r,o.1,o.2,k _ _ ⟨G,.tup ws,U,J,Y,g,O⟩⟩;exact .inl<|.inr ⟨p,xs,ex,r,o,λq q=>k _ _ ⟨G,.tup _,U,J.trans (Ex.laid q).ext,Y.laid q,.tupNew q<|c.cutv lo hi,O⟩⟩
  | _=>exact .inl (.inl (j _ i O))
noncomputable def Xp:MC:=λws h Q=>match ws with
 | [.int i]=>Q (.int i) h
 | [.bl b]=>Q (.int (if b then 1 else 0)) h
 | _=>False
theorem SM:lC X (.type "int") Xp:=⟨_,ajL,by
 intro H μ h J ws O Q R r m k;unfold Xp at m;split at m
 obtain⟨v,e,G⟩:=jY r;subst e G;exact .inl ⟨_,rfl,k _ _<|.int R m⟩;obtain⟨v,e,G⟩:=jY r;subst e G;exact .inr ⟨_,rfl,k _ _<|.int R m⟩;cases m⟩
noncomputable def Mz (i j:Int):Prop:=fY i j\/Sm 64 i\/Sm 64 j
theorem Mz.ok {i j:Int}(h:Mz i j):IntMulOk i j:=by
 rcases h with h|h|h
 exact h.ok;exact .of_left h.bits;exact .of_right h.bits
theorem aax:Mv X (Qy .Mult) (rI Mz λi j=>.int (i*j)):=opI λ_ _ _ _ _ _ _ G q=>mul_int q G.ok
noncomputable def M7:M2:=λx y h Q=>match x,y with
 | .int i,.int j=>Mz i j/\Q (.int (i*j)) h
 | _,_=>False
theorem Uz:Qi X (Qy .Mult) M7:=⟨_,aax,by
 intro H μ h x y U O Y Q R J G m k;unfold M7 at m;split at m
 exact⟨_,_,J,G,m.1,k _ _<|.int R m.2⟩;cases m⟩
end
noncomputable def Cz (Z:JI->Prop)(G:Array JI):Prop:=∃z,G[2]?=Dn z/\Z z
variable {Z:JI->Prop}
theorem Cz.size {Z}{G}(c:Cz Z G):2<G.size:=let⟨_,e,_⟩:=c;(Array.getElem?_eq_some_iff.mp e).1
variable {Z':JI->Prop}
theorem Cz.mono {vs}(c:Cz Z vs)(k:∀z,Z z->Z' z):Cz Z' vs:=let⟨z,e,h⟩:=c;⟨z,e,k z h⟩
noncomputable def XO (h:Heap)(P:Addr->Prop)(Z:JI->Prop)(e C:Addr)(od:Option Addr):Prop:=P e/\∃(oe:Obj) (G:Array JI),h.get? e=Dn oe/\oe.cls=.ref C/\oe.dict=od/\oe.data=.fields G/\G.size<=1000/\Cz Z G /\
 (G[1]?=Dn .none\/∃(T:Addr) (J:Obj) (ts:Array JI),G[1]?=Dn (.ref T)/\T≠e/\P T/\h.get? T=Dn J/\J.data=.fields ts/\3<ts.size)
noncomputable def XN (h:Heap)(P:Addr->Prop)(Z:JI->Prop)(e C:Addr)(od:Option Addr):Prop:=P e/\∃(oe:Obj) (G:Array JI),h.get? e=Dn oe/\oe.cls=.ref C/\oe.dict=od/\oe.data=.fields G/\G.size<=1000/\Cz Z G /\
 ∃(T:Addr) (J:Obj) (ts:Array JI),G[1]?=Dn (.ref T)/\T≠e/\P T/\h.get? T=Dn J/\J.data=.fields ts/\3<ts.size
theorem XN.xo {h:Heap}{P:Addr->Prop}{e C:Addr}{od:Option Addr}(x:XN h P Z e C od):XO h P Z e C od:=by
 obtain⟨p,oe,G,a,b,c,d,f,g,k⟩:=x;exact⟨p,oe,G,a,b,c,d,f,g,.inr k⟩
theorem XO.mono {h}{P G Z Z' e C}{od}(x:XO h P Z e C od)(k:∀b,P b->G b)(l:∀z,Z z->Z' z):XO h G Z' e C od:=by
 obtain⟨p,oe,i,a,b,c,d,f,g,z⟩:=x;refine⟨k _ p,oe,i,a,b,c,d,f,g.mono l,?_⟩;rcases z with z|⟨T,j,ts,Y,U,O,J⟩
 exact .inl z;exact .inr ⟨T,j,ts,Y,U,k _ O,J⟩
theorem XN.mono {h}{P G Z Z' e C}{od}(x:XN h P Z e C od)(k:∀b,P b->G b)(l:∀z,Z z->Z' z):XN h G Z' e C od:=by
 obtain⟨p,oe,i,a,b,c,d,f,g,T,j,ts,Y,U,O,J⟩:=x;exact⟨k _ p,oe,i,a,b,c,d,f,g.mono l,T,j,ts,Y,U,k _ O,J⟩
structure Tq (P:Addr->Prop) (fs:List Addr) (h h':Heap):Prop where
 keep:∀b o,¬P b->b∉fs->h.get? b=Dn o->h'.get? b=Dn o
 slot:∀b o,¬P b->h.get? b=Dn o->∃sl,h'.get? b=Dn {o with slots:=sl}
 there:∀b o,h.get? b=Dn o->∃o',h'.get? b=Dn o'
theorem Tq.refl {P fs h}:Tq P fs h h:=⟨λ_ _ _ _ e=>e,λ_ o _ e=>⟨o.slots,e⟩,λ_ o e=>⟨o,e⟩⟩
theorem Tq.trans {P fs h h1 h2}(a:Tq P fs h h1)(b:Tq P fs h1 h2):Tq P fs h h2:=
 ⟨λc o n m e=>b.keep c o n m (a.keep c o n m e),λc o n e=>let⟨_,e1⟩:=a.slot c o n e;let⟨sl,e2⟩:=b.slot c _ n e1;⟨sl,e2⟩,λc o e=>let⟨G,e1⟩:=a.there c o e;b.there c G e1⟩
section
variable {M:Model}{A:Ig}{E:JI->Ab->Prop}{s:Ab}{P:Addr->Prop}{e C:Addr}{od:Option Addr}
theorem zbp {fl fs}{Q}(x:XN s.heap P Z e C od)(h:∀h',XN h' P Z e C od->Tq P fs s.heap h'->Q () {s with heap:=h'}):Bh M A (setFlight (.ref e) fl) Q E s:=by
 obtain⟨p,oe,k,d,m,U,g,l,h2,T,r,ts,h1,J,Y,hT,G,j⟩:=x;refine Aj<|N8 d g h1<|Y6 hT G j<|h _ ?_ ?_
 have O:=Tn G (·.setIfInBounds 3 (fl.elim Value.none λf=>RL f));refine⟨p,oe,k,?_,m,U,g,l,h2,T,_,_,h1,J,Y,S7 _ hT<|X6 O,O,by simpa using j⟩;rw[Ru _ _ J];exact d;have a:∀b,¬P b->T≠b:=λb n q=>n (q ▸ Y)
 refine⟨λb o n _ q=>by rwa[Ru _ _<|a b n],λb o n q=>⟨o.slots,by rwa[Ru _ _<|a b n]⟩,λb o q=>?_⟩;by_cases i:T=b
 subst i;exact⟨_,S7 _ hT<|X6<|Tn G _⟩;exact⟨o,by rwa[Ru _ _ i]⟩
theorem Dy {base env}{outer L oe}{f d}{Y}{Q}
  (t:A.frames=Dn (env::outer)) (hl:s.heap.FunFrames base (env::outer)) (K:env.frame=Dn L) (v:P e) (y:s.heap.get? e=Dn oe) (N:oe.cls=.ref C) (u:oe.dict=od) (j:oe.data=.fields f) (I:f.size<=1000) (h2:Cz Z f)
  (H:∀b,s.heap.get? b=Go->P b) (h:∀h',XN h' P Z e C od->Tq P (frs (env::outer)) s.heap h'->Q () {s with heap:=h'}) :
  Bh M A (do let a <-frameOf env;let pl <-entryPlaceOf L Y;let b <-EntryCells.newEntry d a .none (RL L) .none pl;setField (.ref e) 1 b) Q E s:=by
 have g:1<f.size:=Nat.lt_trans (by decide) h2.size;have i:e∉(env::outer).filterMap (·.frame):=λhm=>by
  obtain⟨_,o,ho,r⟩:=hl.mem hm;rw[y]at ho;injection ho with ho;subst ho;exact r f j
 refine Aj<|wpAny_frameOf_fun t hl K λh₁ G=>(Aj<|wpAny_entryPlaceOf λpl p=>(Aj<|XJ ?_<|p.sizeOk5 _ _ _ _ _))
 have O:=(G.2.1 e i).trans y;have J:=JV (h:=h₁) {cls:=.type "traceback",dict:=Go,data:=.fields ([d,.ref L,.none,RL L,.none]++(if pl.isEmpty then RP 6 Value.none else pl)).toArray} O;refine Y6 J j g<|h _ ?_ ?_
 have k:=SJ (Jb O);have U:=Tn j (·.setIfInBounds 1 (Value.ref h₁.objs.size));refine⟨v,_,_,S7 _ J (X6 U),by rwa[Zx],?_,U,by simpa using I,(let⟨z,e2,l⟩:=h2;⟨z,by rw[Array.getElem?_setIfInBounds_ne (by decide)];exact e2,l⟩),h₁.objs.size,_,_,by simp[g],k,
  H _ (qY (G.1 ▸ JL _)),(Ru _ _ (LI k)).trans (Mf h₁ rfl),rfl,by simp<;>lia⟩
 obtain⟨c,dd,dt,sl⟩:=oe;cases j;exact u;have w:∀b,¬P b->e≠b:=λb n q=>n (q ▸ v)
 refine⟨λb o n m q=>?_,λb o n q=>?_,λb o q=>?_⟩;rw[Ru _ _ (w b n)];exact JV _<|(G.2.1 b m).trans q
 obtain⟨sl,e1⟩:=G.2.2 b o q;exact⟨sl,by rw[Ru _ _<|w b n];exact JV _ e1⟩;obtain⟨sl,e1⟩:=G.2.2 b o q;by_cases B:e=b
 subst B;exact⟨_,S7 _ J<|X6<|Tn j _⟩;exact⟨_,Ru _ _ B ▸ JV _ e1⟩
theorem alF {base env}{outer L}{Q}(a:A.frames=Dn (env::outer))(hl:s.heap.FunFrames base (env::outer))(j:env.frame=Dn L)(x:XO s.heap P Z e C od)
  (l:∀b,s.heap.get? b=Go->P b) (B:∀b∈frs (env::outer),¬P b) (h:∀h',XN h' P Z e C od->Tq P (frs (env::outer)) s.heap h'->Q () {s with heap:=h'}):Bh M A (noteFrame (.ref e) env) Q E s:=by
 obtain⟨p,oe,w,c,k,U,d,g,h2,z⟩:=x;unfold noteFrame;simp only[j];rcases z with h1|⟨T,y,ts,h1,Y,f,hT,O,t⟩
 refine Aj<|N8 c d h1 ?_
 exact Dy a hl j p c k U d g h2 l h;refine Aj<|N8 c d h1 ?_
 refine Aj<|N8 hT O (x:=ts[3]) (by simp) ?_
 by_cases q:(ts[3]==RL L)=true
 rw[if_pos q];exact HI<|h _ ⟨p,oe,w,c,k,U,d,g,h2,T,y,ts,h1,Y,f,hT,O,t⟩ .refl
 rw[if_neg q];refine Aj<|Y6 hT O t ?_
 have G:∀b,b≠T->(s.heap.update T (Obj.mapFields (·.setIfInBounds 3 Value.none))).get? b=s.heap.get? b:=λb J=>Ru _ _ (LI J)
 have m:∀b,¬P b->b≠T:=λb n q=>n (q ▸ f)
 have st:Tq P (frs (env::outer)) s.heap (s.heap.update T (Obj.mapFields (·.setIfInBounds 3 Value.none))):=by
  refine⟨λb o n _ q=>(G b<|m b n).trans q,λb o n q=>⟨o.slots,(G b<|m b n).trans q⟩,λb o q=>?_⟩;by_cases J:T=b
  subst J;exact⟨_,S7 _ hT<|X6<|Tn O _⟩;exact⟨o,(G b<|LI J).trans q⟩
 refine Dy a (hl.of_keeps λb o J i=>⟨o,(G b λq=>?_).trans J,rfl⟩) j p ((G e<|LI Y).trans c) k U d g h2 (λb q=>?_) λh' v u=>h h' v<|st.trans u
 rw[q,hT]at J;injection J with J;subst J;exact i ts O
 by_cases J:b=T
 rw[J];exact f;exact l b<|(G b J).symm.trans q
end
variable {L:Addr}{fl:Option Addr}
theorem gD.obj {P w H}{h a o}(x:gD P w H h a o):∃ob,h.get? a=Dn ob:=by
 cases o with
 | lst xs=>obtain⟨_,_,_,_,e⟩:=x;exact⟨_,e⟩
 | tup xs=>obtain⟨_,_,_,ob,e,_⟩:=x;exact⟨_,e⟩
 | dK kvs|dT kvs=>obtain⟨_,_,_,_,o,_,_,e,_⟩:=x;exact⟨_,e⟩
 | set S n=>obtain⟨o,_,_,_,e,_⟩:=x;exact⟨_,e⟩
 | ins C dx fs=>obtain⟨_,_,_,e,_⟩:=x;exact⟨_,e⟩
 | own y=>obtain⟨_,e⟩:=x;exact⟨_,e⟩
 | xd fs=>obtain⟨_,⟨_,_,_,e,_⟩,_⟩:=x;exact⟨_,e⟩
 | rng lo hi=>obtain⟨_,_,_,e⟩:=x;exact⟨_,e⟩
 | frz ob u=>obtain⟨e,_⟩:=x;exact⟨_,e⟩
 | tbl ps|met f y=>exact⟨_,x⟩
 | ext G=>obtain⟨_,⟨_,e⟩,_⟩:=x;exact⟨_,e⟩
section
variable {X:Cx}{aor:List (Addr×Obj)}{σ:St}{H H':Hp}{s s':Ab}{b e C:Addr}{od:Option Addr}
structure New (X:Cx) (aor:List (Addr×Obj)) (H:Hp) (b:Addr):Prop where
 h:H b=Go
 s:b∈X.ex\/X.s₀.heap.get? b=Go
 l:b≠X.env.locals
 c:∀x c,X.env.cells.lookup x=Dn c->c≠b
 p:∀p∈X.pn++aor,p.1≠b
 f:b∉X.fs
theorem Al.newOf (I:Al X aor σ H s)(G:s.heap.get? b=Go):New X aor H b where
 h:=by
  cases q:H b with
  | none=>rfl
  | some u=>obtain⟨U,e⟩:=(I.hok b u q).obj;rw[G]at e;cases e
 s:=by
  by_cases J:b∈X.ex
  exact .inl J
  ·cases q:X.s₀.heap.get? b with
   | none=>exact .inr rfl
   | some o=>obtain⟨o',e⟩:=I.base.there b o q J;rw[G]at e;cases e
 l:=λz=>by obtain⟨m,⟨o,_,_,ho,_⟩,_⟩:=I.loc;rw[<-z,G]at ho;cases ho
 c:=λx c e z=>by obtain⟨v,o,ho,_⟩:=I.cell x c e;rw[z,G]at ho;cases ho
 p:=λp O z=>by have ho:=(I.pin p O).1;rw[z,G]at ho;cases ho
 f:=λhm=>by obtain⟨_,o,ho,_⟩:=I.funs.mem hm;rw[G]at ho;cases ho
open Classical in
theorem Al.stp {h':Heap}(I:Al X aor σ H s)(st:Tq (New X aor H) (frs X.stack) s.heap h'):Al X aor σ H {s with heap:=h'}:=by
 have G:∀b o,s.heap.get? b=Dn o->b∉(Qv _).filter (λb=>decide _)->¬New X aor H b:=λb o e n z=>
  n (Xr.mpr ⟨XC.mpr (Jb e),decide_eq_true z⟩)
 refine I.stepG (λb d=>?_) (λb o f a J e n=>?_) (λb o _ _ J e _=>st.slot b o (G b o e J) e) (λ_ _ _ _ n=>n)
  (λb o _ e=>st.there b o e) (λ_ _ q=>q) (λ_ _ _ q=>q) (λ_ ps q=>⟨#[],by rw[q];simp⟩) (λm Y=>?_) (λb u q=>?_) I.bare
 have z:=of_decide_eq_true (Xr.mp d).2;exact⟨z.s,z.l,z.c,z.p⟩;exact st.keep b o (G b o e J) (λz=>(ML.mp<|I.stkSub b z).elim f a) e;obtain⟨o,es,ep,ho,r⟩:=Y;obtain⟨sl,q⟩:=st.slot _ o (λz=>z.l rfl) ho;exact⟨_,es,ep,q,r⟩;refine(I.hok b u q).stay (λc v J r=>?_) (λ_ q=>q) λ_ _ q=>q;have U:H c≠Go:=by
  lia
 exact st.keep c v (λz=>U z.h) (λz=>U<|I.stkFree c z) r
inductive Qk (N:Addr->Prop) (H:Hp):JI->Prop
 | nil:Qk N H .none
 | cons {c:Addr}{o:Obj}{u:HO}{vs:Array JI}{z:JI}(n:N c) (h1:H c=Dn (.frz o u)) (h2:o.data=.fields vs) (h3:vs[2]?=Dn z) (t:Qk N H z):Qk N H (.ref c)
theorem Qk.mono {N G H H' z}(c:Qk N H z)(k:∀a,N a->G a)(J:∀a o u,H a=Dn (.frz o u)->H' a=Dn (.frz o u)):Qk G H' z:=by
 induction c with
 | nil=>exact .nil
 | cons n h1 h2 U _ O=>exact .cons (k _ n) (J _ _ _ h1) h2 U O
inductive Rc (H:Hp):JI->Addr->Prop
 | here {c:Addr}{o:Obj}{u:HO}(h1:H c=Dn (.frz o u)):Rc H (.ref c) c
 | next {c b:Addr}{o:Obj}{u:HO}{vs:Array JI}{z:JI}(h1:H c=Dn (.frz o u)) (h2:o.data=.fields vs) (h3:vs[2]?=Dn z) (t:Rc H z b):Rc H (.ref c) b
theorem Rc.frz {H v}{b}(r:Rc H v b):∃o u,H b=Dn (.frz o u):=by
 induction r with
 | here h1=>exact⟨_,_,h1⟩
 | next _ _ _ _ G=>exact G
theorem Rn.rc {H v}(c:Rn H0 v)(k:∀a o u,H0 a=Dn (.frz o u)->H a=Dn (.frz o u)):∀{b},Rc H v b->Rc H0 v b:=by
 induction c with
 | nil=>intro b r;cases r
 | cons h1 h2 G _ Y=>
  intro b r;cases r with
  | here _=>exact .here h1
  | next U O J t=>
   rw[(k _ _ _ h1)]at U;cases U;rw[h2]at O;cases O;rw[G]at J;cases J;exact .next h1 h2 G<|Y t
theorem Rn.chx {N:Addr->Prop}{H:Hp}{v:JI}(c:Rn H v)(k:∀b,Rc H v b->N b):Qk N H v:=by
 induction c with
 | nil=>exact .nil
 | cons h1 h2 G _ J=>exact .cons (k _ (.here h1)) h1 h2 G (J λb r=>k b (.next h1 h2 G r))
theorem Qk.rc {N H v}(c:Qk N H v):∀{b},Rc H v b->N b:=by
 induction c with
 | nil=>intro b r;cases r
 | cons n h1 h2 J _ G=>
  intro b r;cases r with
  | here _=>exact n
  | next Y U O t=>
   simp_all
noncomputable def RcO (H:Hp)(G:Option JI)(b:Addr):Prop:=∃v,G=Dn v/\Rc H v b
noncomputable def W0 (X:Cx)(c:Addr):Prop:=(c∈X.ex\/X.s₀.heap.get? c=Go)\/RcO X.H₀ X.A.handled c
structure FX (X:Cx) (aor:List (Addr×Obj)) (σ:St) (H:Hp) (s:Ab) (e C:Addr) (od:Option Addr):Prop where
 inv:Al X aor σ H s
 xo:XO s.heap (New X aor H) (Qk (W0 X) H) e C od
structure FN (X:Cx) (aor:List (Addr×Obj)) (σ:St) (H:Hp) (s:Ab) (e C:Addr) (od:Option Addr):Prop where
 inv:Al X aor σ H s
 xn:XN s.heap (New X aor H) (Qk (W0 X) H) e C od
theorem FN.fx (F:FN X aor σ H s e C od):FX X aor σ H s e C od:=⟨F.inv,F.xn.xo⟩
noncomputable def Top (X:Cx):Prop:=X.stack=X.env::X.outer/\X.env.frame=Dn X.env.locals
theorem FX.note {M A}{E}{Q}(F:FX X aor σ H s e C od)(ht:Top X)(U:A.frames=Dn X.stack)(h:∀h',FN X aor σ H {s with heap:=h'} e C od->Q () {s with heap:=h'}):
  Bh M A (noteFrame (.ref e) X.env) Q E s:=by
 have G:=F.inv.stack;rw[ht.1]at G U;refine alF U G ht.2 F.xo (λb O=>F.inv.newOf O) (λb O z=>?_) λh' x st=>h h' ⟨F.inv.stp<|ht.1 ▸ st,x⟩;rcases ML.mp (F.inv.stkSub b (ht.1 ▸ O))with q|q
 exact z.l q;exact z.f q
theorem FN.flight {M A}{E}{Q}(F:FN X aor σ H s e C od)(h:∀h',FN X aor σ H {s with heap:=h'} e C od->Q () {s with heap:=h'}):
  Bh M A (setFlight (.ref e) fl) Q E s:=zbp F.xn λh' x st=>h h' ⟨F.inv.stp st,x⟩
noncomputable def Ws (P:IW)(w:IV):Wt:=λhd outer H s E e s'=>∃(a C:Addr) (od:Option Addr) (H':Hp),e=.ref a/\s'.os=s.os/\W8 s'.gens/\Un (frs outer) [] H H' s.heap s'.heap/\MP P w H' s'.heap /\
 XN s'.heap (λb=>H' b=Go/\s.heap.get? b=Go) (Qk (λb=>s.heap.get? b=Go\/RcO H hd b) H') a C od/\E (.ref C) od H'
theorem FX.leave {M}{a E}(F:FX X aor σ H s e C od)(ht:Top X)(O:X.ex=[])(U:E (.ref C) od H):
  Bh M X.A (leaving X.env (.ref e)) (λ_ J=>Ws X.prog X.w X.A.handled X.outer X.H₀ X.s₀ E (.ref e) J) a s:=by
 refine Aj<|F.note ht F.inv.ok.frames λh1 Y=>Y.flight λh2 G=>?_
 have I:=G.inv;refine⟨e,C,od,H,rfl,I.os,I.bare,by have:=I.base;rw[O]at this;exact this,I.hok,G.xn.mono (λb z=>⟨z.h,?_⟩)<|λz c=>c.mono (λb q=>?_) λ_ _ _ q=>q,U⟩;rcases z.s with q|q
 simp_all
 exact q;rcases q with(q|q)|q
 simp_all
 exact .inl q;exact .inr q
theorem Al.cxx {E:XK}{O:JI}(I:Al X aor σ H s)(h:Ws X.prog X.w X.A.handled X.stack H s E O s'):∃(a C:Addr) (od:Option Addr) (H':Hp),O=.ref a/\FN X aor σ H' s' a C od/\E (.ref C) od H':=by
 obtain⟨a,C,od,H',e1,os,G,U,J,x,Y⟩:=h;refine⟨a,C,od,H',e1,⟨I.call' os U J G nofun,x.mono (λb z=>?_) λz c=>c.mono (λb q=>q.elim (λq=>.inl (I.newOf q).s) λd=>by obtain⟨v,e,r⟩:=d;exact .inr ⟨v,e,(I.ok.qt v e).2.rc I.base.frzs r⟩) λ_ _ _ q=>q⟩,Y⟩;have n:=I.newOf z.2;exact⟨z.1,n.s,n.l,n.c,n.p,n.f⟩
end
variable {N:Addr->Prop}{bm:List JI}{newId:String}
noncomputable def exG (K:BW)(C:Addr)(bmB:List JI)(newId:String)(f:Addr->Bool):Bool:=match K.lookup C with
 | some ⟨.type "type",_,.cls cd,sl⟩=>(match cd.mro,sl.toList with
  | .ref C'::bm,[_,_,_,_,Dn (.builtin n),_]=>C'==C&&n==newId&&!cd.hasDel&&PySem.W.tailIn K bmB bm&&PySem.W.nsOkIn K cd.ns&&f cd.ns
  | _,_=>false)
 | _=>false
theorem exo_ {K}{h C}{f}(X:K.In h)(q:exG K C bm newId f=true):
  ∃(tl:List JI) (N:Addr) (nm U:Str) (bs:List JI) (a:Bool) (sn:List Str) (sub:List JI) (ab:Bool) (col:Option Bool) (dd:Option Addr) (k0 k1 k2 k3 k5:Option JI),
   K.lookup C=Dn (Yd nm U C N bs tl a sn sub ab col dd k0 k1 k2 k3 k5 newId)/\PySem.W.nsOkIn K N=true/\f N=true/\OwnTail h bm tl:=by
 unfold exG at q;split at q
 rename_i dd g sl ho;split at q
 rename_i C' b k0 k1 k2 k3 n k5 c hs;simp at q;obtain⟨⟨⟨⟨⟨rfl,rfl⟩,G⟩,ht⟩,J⟩,O⟩:=q;obtain⟨nm,bs,d,ns,U,a,sn,sub,ab,col,e⟩:=g;dsimp only at c G J O;subst c G;have Y:sl=#[k0,k1,k2,k3,Dn (.builtin n),k5]:=by
  grind
 subst Y;exact⟨b,ns,nm,U,bs,a,sn,sub,ab,col,dd,k0,k1,k2,k3,k5,ho,J,O,PySem.W.tail_of_in X ht⟩;cases q;cases q
theorem amm {K}{h C}(X:K.In h)(q:R6 K C bm newId=true):
  ∃(tl:List JI) (N:Addr) (nm G:Str) (bs:List JI) (J:Bool) (sn:List Str) (sub:List JI) (ab:Bool) (col:Option Bool) (dd:Option Addr) (k0 k1 k2 k3 k5:Option JI) (mN:Str->Option JI),
   K.lookup C=Dn (Yd nm G C N bs tl J sn sub ab col dd k0 k1 k2 k3 k5 newId)/\h.Ns N mN/\mN "__init__" = Go/\OwnTail h bm tl:=by
 obtain⟨tl,N,nm,G,bs,J,sn,sub,ab,col,dd,k0,k1,k2,k3,k5,ho,a1,a2,a3⟩:=exo_ (f:=λz=>Lw K z "__init__"==Dn Go) X q;exact⟨tl,N,nm,G,bs,J,sn,sub,ab,col,dd,k0,k1,k2,k3,k5,_,ho,.of_isNs<|PySem.W.isNs_of_in X a1,PySem.W.nsMap_none_of_in X a1<|eq_of_beq a2,a3⟩
section
variable {X:Cx}{aor:List (Addr×Obj)}{σ:St}{H:Hp}{s:Ab}{C:Addr}{x:Str}{np aot pos:Pos}{e:Expr}{es:List Expr}{t:TA}
theorem zaJ {Q}{R:Hp->Prop}(hc:X.calm=true)(hg:Gl X x)(hm:X.mg x=Dn (.ref C))(hq:R6 X.K C O8 "ValueError.__new__" = true)(ha:PA X (e::es) t)
  (I:Al X aor σ H s) (h:t σ H λvs H1=>vs.length<=JN/\R H1) (hx:∀a H1 s',FX X aor σ H1 s' a C Go->R H1->X.xe (.ref a) s')
  (hdb:(x==("__debug__" : Str))=false:=by decide) (he:J9 (e::es) X.env=(false,eval e X.env)::J9 es X.env:=by rfl) (hpl:(Mi aot (J9 es X.env)).any (·.1)=false:=by rfl) :
  Bh (Bu X.prog X.w) X.A (exec (.Raise (Dn (.Call (.Name x np) (e::es) [] aot)) Go pos) X.env) Q X.xe s:=by
 obtain⟨tl,N,nm,qn,bs,hd,sn,sub,ab,col,dd,k0,k1,k2,k3,k5,mN,hC,hN,hni,T⟩:=amm I.mod.kin hq;refine wpAny_Raise_call_subT (nm:=nm) (q:=qn) (N:=N) (bs:=bs) (hdct:=hd) (sn:=sn) (sub:=sub) (ab:=ab) (col:=col) (dd:=dd) (k0:=k0) (k1:=k1) (k2:=k2) (k3:=k3) (k5:=k5)
  uJ (T.hasType uJ.hasBase) (I.ok.hd hc) (by rw[he];show(false||(Mi aot _).any _)=false;rw[hpl];rfl) hni (lU I hg hm ⟨rfl,?_⟩ hdb)
 have g:=ha aot aor s σ H _ I h;rw[he]at g|-
 refine Calls.evalArgs_plain<|JC g λus s2 ⟨vs,H2,I2,r,z,k⟩=>⟨rfl,?_,I2.kIn _ _ hC,hN.keeps I2.bk,T.keeps I2.bk,λh' a M=>hx a H2 _ ⟨I2.kept M.keeps,?_⟩ k⟩
 rw[<-r.length];exact z;obtain⟨tt,h1,h2,h3⟩:=M.there;exact⟨I2.newOf M.new,_,_,h1,rfl,rfl,rfl,by simp,⟨.none,rfl,.nil⟩,.inl rfl⟩
end
variable {np:Pos}
noncomputable def aaQ (K:BW)(H:Hp)(μ:Mu)(C:Addr)(n:Str)(od:Option Addr)(fs:List (Str×W)):Prop:=
 (od=Go/\fs=[])\/∃dd ws xs,od=Dn dd/\Zm K C n=true/\fs=(Dp n).zip ws/\ws.length=(Dp n).length/\(Dp n).length=xs.length/\H dd=Dn (.xd ((Dp n).zip xs))/\aY K H μ ws xs
noncomputable def XT (X:Cx)(H:Hp)(μ:Mu)(Γ:St->Prop)(E:Bm):JI->Ab->Prop:=λev s=>∃(a C:Addr) (n:Str) (od:Option Addr) (fs:List (Str×W)) (aor:List (Addr×Obj)) (σ:St) (H':Hp) (μ':Mu) (h':Gh),ev=.ref a/\FX X aor σ H' s a C od/\jm X.K C n=true/\Γ σ /\
 Ji X.K H μ H' μ'/\Iu X.K μ' H' h'/\aaQ X.K H' μ' C n od fs/\E ⟨n,fs⟩ h'
variable {Γ:St->Prop}
theorem XT.trans {X}{H H1 μ μ1}{Γ E}{G s}(x:XT X H1 μ1 Γ E G s)(e:Ji X.K H μ H1 μ1):XT X H μ Γ E G s:=by
 obtain⟨a,C,n,od,fs,aor,σ,H',μ',h',h1,h2,Y,U,O,J⟩:=x;exact⟨a,C,n,od,fs,aor,σ,H',μ',h',h1,h2,Y,U,e.trans O,J⟩
noncomputable def tDX (X:Cx)(Γ:St->Prop)(m:Bm->ME):TE:=fun σ H Q=>Γ σ/\∃μ h σw J E,Iu X.K μ H h/\Slots X.K H μ σw σ/\m E σw h J/\(∀v H',DQ X.K H μ J v H'->Q v H')/\∀G s',XT X H μ Γ E G s'->X.xe G s'
noncomputable def ahp (X:Cx)(Γ:St->Prop)(m:Bm->MS):TS:=λD σ H=>Γ σ/\∃μ h σw Dw E,Iu X.K μ H h/\Slots X.K H μ σw σ/\m E Dw σw h/\zR X.K H μ Dw D/\∀G s',XT X H μ Γ E G s'->X.xe G s'
noncomputable abbrev DEx (X:Cx)(Γ:St->Prop)(e:Expr)(m:Bm->ME):Prop:=PE X e (tDX X Γ m)
noncomputable abbrev Wq (X:Cx)(Γ:St->Prop)(st:Stmt)(m:Bm->MS):Prop:=PS X st (ahp X Γ m)
noncomputable abbrev Jm (X:Cx)(Γ:St->Prop)(st:List Stmt)(m:Bm->MS):Prop:=RB X st (ahp X Γ m)
noncomputable def zB (K:BW)(ms:AP):Sp:=λvs H Q E=>∃μ h ws G J,Iu K μ H h/\aY K H μ ws vs/\ms ws h G J/\(∀v H',DQ K H μ G v H'->Q v H') /\
 ∀(C:Addr) (n:Str) (od:Option Addr) (fs:List (Str×W)) (H':Hp),jm K C n=true->(∃μ' h',Ji K H μ H' μ'/\Iu K μ' H' h'/\aaQ K H' μ' C n od fs/\J ⟨n,fs⟩ h')->E (.ref C) od H'
theorem jO.tame {P w K}{mg base k}{f fd}{ps}(F:jO P w K mg base (Ws P w) k f fd ps (zB K ms)):jO P w K mg base Q8 k f fd ps (lift K ms):=by
 have J:∀vs H Q E,lift K ms vs H Q E->zB K ms vs H Q E0:=λvs H Q E a=>by obtain⟨μ,h,ws,d,R,r,m,q⟩:=a;exact ⟨μ,h,ws,d,EF,R,r,m,q,λ_ _ _ _ _ _ b=>by obtain⟨_,_,_,_,_,z⟩:=b;exact z⟩
 refine⟨λvs H Q E q=>F.len vs H Q E0<|J _ _ _ _ q,λA outer s H G us vs Q E U c Y O hs=>Xl (F.run A outer s H G us vs Q E0 U c Y O<|J _ _ _ _ hs) λr s' h=>?_⟩;cases r with
 | error e=>obtain⟨_,_,_,_,_,_,_,_,_,_,z⟩:=h;exact z
 | ok fl=>cases fl<;>exact h
section
variable {X:Cx}{e c:Expr}{es:List Expr}{pos:Pos}{st:Stmt}{rest:List Stmt}
theorem wU {k:Nat}{f:Addr}{fd:Nv}{ps:List Str}{x:Str}{p:Pos}(F:jO X.prog X.w X.K X.mg X.base (Ws X.prog X.w) k f fd ps (zB X.K ms))(hr:gQ k X.A)(hg:Gl X x)(hm:X.mg x=Dn (.ref f))(hk:Ry X.K (.ref f)=true)
  (hb:Binds X.K fd ps []) (ha:NQ X (e::es) mr) (hdb:(x==("__debug__" : Str))=false:=by decide) (he:J9 (e::es) X.env=(false,eval e X.env)::J9 es X.env:=by rfl) (hpl:(Mi pos (J9 es X.env)).any (·.1)=false:=by rfl) :
  DEx X Γ (.Call (.Name x p) (e::es) [] pos) (λE=>aF ms E mr):=by
 rintro aor s σ H Q I ⟨hσ,μ,h,σw,Qw,E,R,S,m,q,kx⟩;refine Xz<|lU I hg hm ?_ hdb
 refine PySem.W.callWith_K I.ok.mod.kin hk (JC (ha pos aor s σ H _ I ⟨μ,h,σw,_,R,S,m,λ_ _ z=>z⟩) λus s1 ⟨vs,H1,I1,r,μ1,ws,h1,e1,R1,r1,m1⟩=>⟨I1.kIn,?_⟩) he hpl;have sp:zB X.K ms (vs++[]) H1 Q (λCv od H'=>∃(C:Addr) (n:Str) (fs:List _) (μ':Mu) (h':Gh),Cv=.ref C/\jm X.K C n=true/\Ji X.K H1 μ1 H' μ'/\Iu X.K μ' H' h'/\aaQ X.K H' μ' C n od fs/\E ⟨n,fs⟩ h'):=by
  rw[Yh];exact⟨μ1,h1,ws,Qw,E,R1,r1,m1,λv H' z=>q _ _<|z.trans e1,λC n od fs H' hx b=>by obtain⟨μ',h',z⟩:=b;exact ⟨C,n,fs,μ',h',rfl,hx,z⟩⟩
 have r2:=r.append .nil;refine YZ<|Xl (F.run X.A _ s1 H1 ⟨us,[]⟩ _ _ Q _ hr I1.env0 (hb s1 us I1.kIn<|r2.length ▸ F.len _ _ _ _ sp) r2 sp) λr s' hq=>?_
 cases r with
 | error ev=>
  obtain⟨a,C,od,H',e2,F2,C',n,fs,μ',h',e3,hx,e4,R4,k4⟩:=I1.cxx (E:=λCv od H'=>∃(C:Addr) (n:Str) (fs:List _) (μ':Mu) (h':Gh),Cv=.ref C/\jm X.K C n=true/\Ji X.K H1 μ1 H' μ'/\Iu X.K μ' H' h'/\aaQ _ H' μ' C n od fs/\E ⟨n,fs⟩ h') hq;cases e3;exact kx ev s' ⟨a,C,n,od,fs,aor,σ,H',μ',h',e2,F2.fx,hx,hσ,e1.trans e4,R4,k4⟩
 | ok fl=>
  cases fl with
  | ret u=>exact I1.after hq
  | next=>exact Td hq
  | brk=>exact Td hq
  | cont=>exact Td hq
theorem dj {m}(h:DS X st m):Wq X Γ st (λ_=>m):=h.of λD σ H a=>by obtain⟨_,μ,h,σw,Dw,_,R,S,m,k,_⟩:=a;exact ⟨μ,h,σw,Dw,R,S,m,k⟩
theorem cG:Jm X Γ [] (λ_=>bK):=bD.of λD σ H a=>by obtain⟨_,μ,h,σw,Dw,_,R,S,m,k,_⟩:=a;exact ⟨μ,h,σw,Dw,R,S,m,k⟩
theorem aR {m}(h:Wq X Γ st m):Jm X Γ [st] m:=Bt h
theorem aP {m1 m2}(J:∀σ,Γ σ)(h1:Wq X Γ st m1)(h2:Jm X Γ rest m2):Jm X Γ (st::rest) (λE=>aU (m1 E) (m2 E)):=(Dz h1 h2).of λD σ H a=>by
 obtain⟨g,μ,h,σw,Dw,E,R,S,m,k,O⟩:=a;refine⟨g,μ,h,σw,_,E,R,S,m,⟨?_,k.rt,k.bk,k.ct⟩,O⟩;rintro U H' ⟨μ1,G,h1,e1,b,Y,m1⟩;exact⟨J _,μ1,h1,G,Dw,E,b,Y,m1,k.trans e1,λev s' z=>O ev s'<|z.trans e1⟩
theorem fU {ma}(J:DEx X Γ e ma):Wq X Γ (.Return (Dn e) pos) (λE=>bN (ma E)):=(U7 J).of λD σ H a=>by obtain⟨g,μ,h,σw,Dw,E,R,S,m,k,G⟩:=a;exact ⟨g,μ,h,σw,_,E,R,S,m,k.rt,G⟩
theorem eZ {a b:List Stmt}{t:MT}{m1 m2:Bm->MS}(O:DT X c t)(ha:Jm X Γ a m1)(U:Jm X Γ b m2):Wq X Γ (.If c a b pos) (λE=>d7 t (m1 E) (m2 E)):=(ad8 O ha U).of λD σ H e=>by
 obtain⟨g,μ,h,σw,Dw,E,R,S,m,k,G⟩:=e;refine⟨μ,h,σw,_,R,S,m,λb H1 d=>?_⟩;obtain⟨μ1,h1,e1,J,q⟩:=d;cases b with
 | true=>rw[if_pos rfl];exact⟨g,μ1,h1,σw,Dw,E,J,S.ext e1,q.1 rfl,k.trans e1,λev s' z=>G ev s' (z.trans e1)⟩
 | false=>rw[if_neg RT];exact⟨g,μ1,h1,σw,Dw,E,J,S.ext e1,q.2 rfl,k.trans e1,λev s' z=>G ev s' (z.trans e1)⟩
theorem wQ {ma i x}{pos'}(hN:X.N.Nodup)(hi:X.N[i]?=Dn x)(hx:Loc X.env.scope x)(he:DEx X Γ e ma)(hs:Xe e (Dn (.Name x pos')) pos.line X.env=pure false:=by rfl)
  (hf:X.fn x=true\/X.env.scope.names.lookup x=Dn .local:=by first|exact .inl rfl|exact .inr rfl|assumption):Wq X Γ (.Assign [.Name x pos'] e pos) (λE=>bF (ma E) (kI i)):=
 (V7 hN hi hx he hs hf).of λD σ H ⟨g,μ,h,σw,Dw,E,R,S,m,k,kx⟩=>
  ⟨g,μ,h,σw,_,E,R,S,m,λv H1 a=>by obtain⟨μ1,w,h1,e1,R1,r1,m1⟩:=a;exact k.nx _ _ ⟨μ1,σw.set i _,h1,e1,R1,(S.ext e1).set r1 i,m1⟩,kx⟩
theorem cZ {C}{x v}{j aot p1}(hc:X.calm=true)(hg:Gl X x)(hm:X.mg x=Dn (.ref C))(hq:R6 X.K C O8 "ValueError.__new__" = true)(hx:jm X.K C x=true)(hdb:(x==("__debug__" : Str))=false:=by decide):
  Wq X Γ (.Raise (Dn (.Call (.Name x np) [.Constant (.str v) j p1] [] aot)) Go pos) (λE=>jA x E):=by
 rintro aor s σ H D I ⟨g,μ,h,σw,Dw,E,R,S,m,k,kx⟩;refine zaJ (R:=λH1=>∃μ1 h1,Ji _ H μ H1 μ1/\Iu _ μ1 H1 h1/\E ⟨x,[]⟩ h1) hc hg hm hq (bV aQ cT rfl) I ⟨μ,h,σw,λws h1=>ws.length=1/\E ⟨x,[]⟩ h1,R,S,⟨rfl,m⟩,λvs H' c=>by obtain⟨μ1,ws,h1,e1,R1,r1,l1,m1⟩:=c;exact ⟨by rw[<-r1.len,l1];decide,μ1,h1,e1,R1,m1⟩⟩ (λa H1 s' F b=>?_) hdb rfl rfl;obtain⟨μ1,h1,e1,R1,m1⟩:=b;exact kx _ s' ⟨a,C,x,Go,[],aor,σ,H1,μ1,h1,rfl,F,hx,g,e1,R1,.inl ⟨rfl,rfl⟩,m1⟩
end
theorem afa {P w K}{mg base}{x qual st f fd}{N ps k}{Y}{body}(F:W2 K x qual st f fd)(S:gM N ps (aX st))
  (u:∀G A  (outer) (s) (H) (E),gQ k (A.deeper (T4 qual (aX st) s.heap.objs.size f G)) ->
   Jm (J5 (Ws P w) P w K mg base N qual (aX st) f G A outer s H E) (λ_=>True) (dJ st) body):jO P w K mg base (Ws P w) (k+1) f fd ps (zB K (JH ps.length N.length Y body)):=by
 obtain⟨L,od,kV,y,I,V,G,T,j,rfl,o,d⟩:=F.ex;refine aa3 o d S (λvs H Q E c=>by obtain⟨μ,h,ws,z,g,R,r,m,_,_⟩:=c;rw[<-r.len];exact(Er m).1) λA outer s H D Q E t b=>?_;obtain⟨μ,h,ws,z,g,R,r,l,k,p⟩:=b;obtain⟨hl,m⟩:=Er l;refine⟨_,u G A outer s H E t,trivial,μ,h,_,_,g,R,rm r,m,⟨?_,?_,?_,?_⟩,?_⟩;rintro O H' ⟨μ1,J,h1,e1,U,e,m1⟩;exact k _ _<|wM R e1 U (by rw[CR]) m1
 rintro v H' ⟨μ1,w1,h1,e1,U,i,m1⟩;exact k _ _<|wM R e1 U i m1
 rintro O H' ⟨μ1,J,h1,e1,U,e,m1⟩;exact m1.elim;rintro O H' ⟨μ1,J,h1,e1,U,e,m1⟩;exact m1.elim;rintro M s' ⟨a,C,n,od,fs,aor,O,H',μ',h',rfl,B,q,_,e1,U,m1⟩;exact B.leave ⟨rfl,rfl⟩ rfl<|p C n od fs H' q ⟨μ',h',e1,U,m1⟩
noncomputable abbrev Cx.tr (X:Cx)(aor:List (Addr×Obj))(xe:JI->Ab->Prop):Cx:={X with pn:=X.pn++aor,xe:=xe}
noncomputable abbrev Cx.hnd (X:Cx)(a:Addr)(H0:Hp):Cx:={X with A:=X.A.mark (Dn (.ref a)),H₀:=H0,calm:=false}
noncomputable def qN (a:Addr)(o:Obj):HO:=.ext λh=>h.get? a=Dn o
section
variable {X:Cx}{aor pins':List (Addr×Obj)}{σ:St}{H:Hp}{s:Ab}{xe:JI->Ab->Prop}{a C:Addr}{o:Obj}{u:HO}
theorem Cx.Ok.tr (G:X.Ok)(aor)(xe):(X.tr aor xe).Ok:=
 ⟨G.mod,G.kind,G.glob,G.blt,G.above,G.inj,G.has,G.cab,G.hd,G.qt,G.frames,G.stk,G.exf,G.bs,G.bsz,G.noex,G.exfs,G.funs,G.frf⟩
theorem Cx.Ok.untr (G:(X.tr aor xe).Ok):X.Ok:=
 ⟨G.mod,G.kind,G.glob,G.blt,G.above,G.inj,G.has,G.cab,G.hd,G.qt,G.frames,G.stk,G.exf,G.bs,G.bsz,G.noex,G.exfs,G.funs,G.frf⟩
theorem Al.tr (I:Al X aor σ H s):Al (X.tr aor xe) [] σ H s:=⟨I.ok.tr aor xe,I.os,I.bare,I.base,I.loc,I.cell,I.free,I.freeC,λp J=>I.pin p (by
 have G:=J;rw[Yh]at G;exact G),I.hok,I.len⟩
theorem Al.untr (I:Al (X.tr aor xe) pins' σ H s):Al X aor σ H s:=⟨I.ok.untr,I.os,I.bare,I.base,I.loc,I.cell,I.free,I.freeC,λp G=>I.pin p (Zo _ G),I.hok,I.len⟩
theorem New.untr {b}(n:New (X.tr aor xe) pins' H b):New X aor H b:=⟨n.h,n.s,n.l,n.c,λp G=>n.p p (Zo _ G),n.f⟩
theorem FX.untr {e}{od}(F:FX (X.tr aor xe) pins' σ H s e C od):FX X aor σ H s e C od:=⟨F.inv.untr,F.xo.mono (λ_ n=>n.untr) λ_ z=>z⟩
theorem SP.untr {D f s'}(h:SP (X.tr aor xe) [] D f s'):SP X aor D f s':=by
 cases f with
 | next|brk|cont=>obtain⟨G,H',I,q⟩:=h;exact⟨G,H',I.untr,q⟩
 | ret v=>obtain⟨v,G,H',I,r,q⟩:=h;exact⟨v,G,H',I.untr,r,q⟩
structure Uq (X:Cx) (H0:Hp):Prop where
 s0:∀b ob,X.s₀.heap.get? b=Dn ob->H0 b=X.H₀ b
 tups:∀b xs,X.H₀ b=Dn (.tup xs)->H0 b=Dn (.tup xs)
 frzs:∀b ob v,X.H₀ b=Dn (.frz ob v)->H0 b=Dn (.frz ob v)
 tbls:∀b ps,X.H₀ b=Dn (.tbl ps)->H0 b=Dn (.tbl ps)
noncomputable def abK (X:Cx):Prop:=∀v,X.A.handled=Dn v->Qk (W0 X) X.H₀ v
theorem abK.ok (G:X.Ok):abK X:=λv e=>(G.qt v e).2.chx λb r=>.inr ⟨v,e,r⟩
theorem Qk.lst {H z}(c:Qk N H z):∃l:List Addr,(∀b∈l,N b/\∃o u,H b=Dn (.frz o u))/\∀H0,(∀b∈l,H0 b=H b)->Qk N H0 z:=by
 induction c with
 | nil=>exact⟨[],λb G=>absurd G (by simp),λ_ _=>.nil⟩
 | @cons c o u U z n h1 h2 O _ J=>
  obtain⟨l,p,q⟩:=J;refine⟨c::l,λb G=>?_,λH0 k=>.cons n ((k c<|by simp).trans h1) h2 O<|q H0 λb G=>k b<|by simp[G]⟩;rcases ML.mp G with rfl|G
  simp_all
  exact p b G
theorem Qk.chn {H z}(c:Qk N H z):Rn H z:=by
 induction c with
 | nil=>exact .nil
 | cons _ h1 h2 J _ G=>exact .cons h1 h2 J G
open Classical in
theorem Al.hnd {w z}(I:Al X aor σ H s)(n:New X aor H a)(Y:X.ex=[])(ho:s.heap.get? a=Dn o)(T:o.data=.fields w)(h2:w[2]?=Dn z)(ch:Qk (W0 X) H z) :
  ∃H0,Uq X H0/\(∀b,W0 (X.hnd a H0) b->W0 X b)/\Al (X.hnd a H0) aor σ (Iz H a (.frz o (qN a o))) s:=by
 obtain⟨C,f,P⟩:=ch.lst;have y:X.s₀.heap.get? a=Go:=by
  rcases n.s with q|q
  rw[Y]at q;cases q;exact q
 let l:List Addr:=C.filter λb=>decide (X.s₀.heap.get? b=Go)
 have D:∀b∈l,X.s₀.heap.get? b=Go:=λb G=>of_decide_eq_true (Xr.mp G).2
 have lp:∀b∈l,True/\∃o u,H b=Dn (.frz o u):=λb G=>⟨trivial,(f b (Xr.mp G).1).2⟩
 have Q:∀b∈l,b≠a:=λb G q=>by
  obtain⟨_,_,_,e⟩:=lp b G;rw[q,n.h]at e;cases e
 let H0:Hp:=λb=>if b=a then Dn (.frz o (qN a o))else if b∈l then H b else X.H₀ b
 have h:H0 a=Dn (.frz o (qN a o)):=if_pos rfl;have d:∀b∈l,H0 b=H b:=λb G=>(if_neg (Q b G)).trans (if_pos G)
 have U:∀b,b≠a->b∉l->H0 b=X.H₀ b:=λb h1 t=>(if_neg h1).trans (if_neg t)
 have B:∀b J,X.s₀.heap.get? b=Dn J->b≠a:=λb J e z=>by rw[z,y]at e;cases e
 have A:∀b J,X.s₀.heap.get? b=Dn J->b∉l:=λb J e z=>by rw[D b z]at e;cases e
 have O:∀b J,X.s₀.heap.get? b=Dn J->H0 b=X.H₀ b:=λb J e=>U b (B b J e) (A b J e)
 have M:∀b∈X.fs,b≠a:=λb G z=>n.f (by rw[<-z];exact G)
 have i:∀b∈X.fs,b∉l:=λb G z=>by
  obtain⟨_,J,ho,_⟩:=I.ok.funs.mem G;exact A b J ho z
 have R:∀b J v,X.H₀ b=Dn (.frz J v)->H0 b=Dn (.frz J v):=λb J v e=>by
  have e1:=I.base.frzs b J v e;by_cases G:b=a
  rw[G,n.h]at e1;cases e1;by_cases hl:b∈l
  rw[d b hl];exact e1;rw[U b G hl];exact e
 have kt:∀b xs,X.H₀ b=Dn (.tup xs)->H0 b=Dn (.tup xs):=λb xs e=>by
  have e1:=I.base.tups b xs e;by_cases G:b=a
  rw[G,n.h]at e1;cases e1;by_cases hl:b∈l
  rw[d b hl];exact e1;rw[U b G hl];exact e
 have S:∀b ps,X.H₀ b=Dn (.tbl ps)->H0 b=Dn (.tbl ps):=λb ps e=>by
  obtain⟨_,e1⟩:=I.base.tbls b ps e;by_cases G:b=a
  rw[G,n.h]at e1;cases e1;by_cases hl:b∈l
  obtain⟨_,_,_,e2⟩:=lp b hl;rw[e1]at e2;cases e2;rw[U b G hl];exact e
 have m:∀b∈C,H0 b=H b:=λb G=>by
  by_cases q:X.s₀.heap.get? b=Go
  exact d b<|Xr.mpr ⟨G,decide_eq_true q⟩
  have N:b≠a:=λz=>q (by rw[z];exact y)
  rw[U b N (λz=>q (D b z))];rcases(f b G).1 with(z|z)|⟨v,_,r⟩
  rw[Y]at z;cases z;exact absurd z q;obtain⟨o',F,e⟩:=r.frz;rw[e];exact(I.base.frzs b o' F e).symm
 have g:Qk (W0 X) H0 (.ref a):=.cons (.inl n.s) h T h2 (P H0 m);have L:∀b,W0 (X.hnd a H0) b->W0 X b:=λb q=>by
  rcases q with q|⟨v,e,r⟩
  exact .inl q;cases e;exact g.rc r
 have K:(X.hnd a H0).Ok:=by
  have k:=I.ok;refine⟨k.mod,k.kind,k.glob,k.blt,k.above,k.inj,k.has,k.cab,λz=>(nomatch z),λv e=>?_,k.frames,k.stk,k.exf,λb J e=>?_,k.bsz,k.noex,k.exfs,k.funs,λb G=>?_⟩;cases e;exact⟨⟨a,rfl⟩,g.chn⟩;obtain⟨e1,e2⟩:=k.bs b J e;exact⟨e1,(O b J e1).trans e2⟩;exact(U b (M b G)<|i b G).trans (k.frf b G)
 refine⟨H0,⟨O,kt,R,S⟩,L,K,I.os,I.bare,⟨λb J e z j Y=>I.base.keep b J e ((O b J e).symm.trans z) j Y,λb J e z j Y=>I.base.slot b J e ((O b J e).symm.trans z) j Y,λb J e z Y=>?_,I.base.there,λb xs z=>?_,λb J v z=>?_,λb ps z=>?_⟩,I.loc,I.cell,?_,λx c e=>?_,λp E=>?_,λb v z=>?_,I.len⟩;rw[aJ (B b J e)];exact I.base.free b J e ((O b J e).symm.trans z) Y;have z:H0 b=Dn (.tup xs):=z;by_cases G:b=a
 rw[G,h]at z;cases z;rw[aJ G];by_cases hl:b∈l
 rw[d b hl]at z;exact z;rw[U b G hl]at z;exact I.base.tups b xs z;have z:H0 b=Dn (.frz J v):=z;by_cases G:b=a
 rw[G,h]at z;rw[G,aV];exact z;rw[aJ G];by_cases hl:b∈l
 rw[d b hl]at z;exact z;rw[U b G hl]at z;exact I.base.frzs b J v z;have z:H0 b=Dn (.tbl ps):=z;by_cases G:b=a
 rw[G,h]at z;cases z;rw[aJ G];by_cases hl:b∈l
 obtain⟨_,_,_,e2⟩:=lp b hl;rw[d b hl,e2]at z;cases z;rw[U b G hl]at z;exact I.base.tbls b ps z;rw[aJ (LI n.l)];exact I.free;rw[aJ (n.c x c e)];exact I.freeC x c e;obtain⟨h1,t,V⟩:=I.pin p E;exact⟨h1,(aJ<|n.p p E).trans t,V⟩;by_cases G:b=a
 subst G;rw[aV]at z;cases z;exact⟨ho,ho,⟨o,ho⟩,λh1 h2 q k=>k o q⟩;rw[aJ G]at z;exact(I.hok b v z).stay (λ_ _ _ q=>q) (λc q=>by rw[aJ (aO q n.h)];exact q) λc xs q=>by rw[aJ (aO q n.h)];exact q
theorem Al.unhnd (Y:X.Ok)(k:Uq X H0)(I:Al (X.hnd a H0) pins' σ H s):Al X pins' σ H s:=by
 have O:∀b G,X.s₀.heap.get? b=Dn G->X.H₀ b=Go->(X.hnd a H0).H₀ b=Go:=λb G e z=>(k.s0 b G e).trans z
 exact⟨Y,I.os,I.bare,⟨λb G e z U J=>I.base.keep b G e (O b G e z) U J,λb G e z U J=>I.base.slot b G e (O b G e z) U J,λb G e z J=>I.base.free b G e (O b G e z) J,I.base.there,λb xs z=>I.base.tups b xs<|k.tups b xs z,λb G v z=>I.base.frzs b G v<|k.frzs b G v z,λb ps z=>I.base.tbls b ps<|k.tbls b ps z⟩,I.loc,I.cell,I.free,I.freeC,I.pin,I.hok,I.len⟩
noncomputable def Xh (σ:St):St:=σ.map λ_=>Go
theorem Al.lost {Y h' t'}(I:Al X aor σ H s)(g:h'.Ns X.env.locals Y)(d:RK X.env.locals s.heap h'):Al X aor (Xh σ) H {s with heap:=h',toks:=t'}:=by
 have G:∀b o,X.s₀.heap.get? b=Dn o->b≠X.env.locals:=λb o e=>KZ (Ke (Jb e) I.ok.above)
 have k:∀b o,b≠X.env.locals->s.heap.get? b=Dn o->h'.get? b=Dn o:=λb o j e=>(d.2 b j).trans e
 refine⟨I.ok,I.os,I.bare,⟨λb o e z O J=>k b o (G b o e)<|I.base.keep b o e z O J,λb o e z O J=>?_,I.base.free,λb o e J=>?_,I.base.tups,I.base.frzs,I.base.tbls⟩,⟨Y,g,λi x v _ e2 _=>?_⟩,λx c e=>?_,I.free,I.freeC,λp f=>?_,λb v z=>?_,?_⟩;obtain⟨sl,e1⟩:=I.base.slot b o e z O J;simp_all
 obtain⟨o',e1⟩:=I.base.there b o e J;exact⟨o',k b _ (G b o e) e1⟩
 ·unfold Xh at e2;rw[Ju]at e2;cases q:σ[i]? with
  | none|some w=>rw[q]at e2;cases e2
 obtain⟨v,U,ho,h⟩:=I.cell x c e;exact⟨v,U,k c U (I.cne x c e) ho,h⟩;obtain⟨h1,h2,r,n⟩:=I.pin p f;simp_all
 have l:∀c w,H c=Dn w->c≠X.env.locals:=λc w e q=>by rw[q,I.free]at e;cases e
 refine(I.hok b v z).stay (λc w m q=>k c w ?_ q) (λ_ q=>q) λ_ _ q=>q;grind
 unfold Xh;rw[Ik];exact I.len
end
variable {xe:JI->Ab->Prop}
section
variable {prog:IW}{w:IV}{A:Ig}{E:JI->Ab->Prop}{s:Ab}{K:BW}{x:Addr}{ox:Obj}
end
noncomputable def Jt (n d:Str):Bool:=n==d||d == "EaselError"
section
variable {K:BW}{C:Addr}{n d:Str}
theorem Bg (h:iy K D d=true):Lw K KC d=Dn (Dn (.ref D))/\Zt K (.ref D)=Dn (.type "type")/\∃G,Xj K D=Dn G/\G.name=d/\G.mro.contains (.type "BaseException")=true:=by
 unfold iy at h;grind
theorem aaj (h:jm K C n=true):iy K C n=true/\(∃J R,Xj K C=Dn J/\J.mro=.ref C::.ref R::O8/\Lw K KC "EaselError" = Dn (Dn (.ref R))/\∃cr,Xj K R=Dn cr/\cr.name = "EaselError") /\
  R8 K (.ref C) "__getattribute__" = Dn (Dn (.builtin "BaseException.__getattribute__"))/\R8 K (.ref C) "__getattr__" = Dn Go/\R8 K (.ref C) "__class__" = Dn (Dn (.builtin "object.__class__"))/\PySem.W.specialIn K (.builtin "object.__class__") "__get__" = Dn (Dn (.builtin "getset_descriptor.__get__"))/\PySem.W.takesIn K (.builtin "object.__class__")=Dn true:=by
 unfold jm at h;simp at h;obtain⟨⟨⟨⟨⟨⟨h1,h2⟩,a⟩,G⟩,Y⟩,U⟩,O⟩:=h;refine⟨h1,?_,a,G,Y,U,O⟩;split at h2
 split at h2
 simp at h2;obtain⟨⟨⟨e1,e2⟩,e3⟩,e4⟩:=h2;obtain⟨cr,c,b⟩:=PySem.W.any_some e4;simp_all
 cases h2;cases h2
theorem Qd (h:jm K C n=true)(b:iy K D d=true):X8 K C (.ref D)=Dn (Jt n d):=by
 obtain⟨O,⟨j,R,J,Y,f,cr,c,U⟩,_⟩:=aaj h;obtain⟨n1,_,e,G,nm,_⟩:=Bg O;obtain⟨i,_,dd,a,g,_⟩:=Bg b;rw[J]at G;cases G;unfold X8;rw[J,Option.bind_some,Y];show Dn _=Dn _;unfold Jt;have e1:(Value.ref C::Value.ref R::O8).contains (.ref D)=((Value.ref D==Value.ref C)||((Value.ref D==Value.ref R)||false)):=by
  rfl
 rw[e1,Bool.or_false];have a1:(Value.ref D==Value.ref C)=(n==d):=by
  grind
 have a2:(Value.ref D==Value.ref R)=(d == "EaselError"):=by
  grind
 rw[a1,a2]
theorem tR {M A}{E s}{e oe}{Q}(X:K.In s.heap)(g:s.heap.get? e=Dn oe)(O:oe.cls=.ref C)(h:jm K C n=true)(b:iy K D d=true)(U:Q (Jt n d) s):
  Bh M A (excMatches (.ref e) (.ref D)) Q E s:=by
 obtain⟨_,ht,dd,G,_,a⟩:=Bg b;have p:WX M s.heap (typeOf (.ref D)) (.type "type"):=PySem.W.looks_typeIn X ht;have o:WX M s.heap (isSubtype (.ref C) (.ref D)) (Jt n d):=Za X (Qd h b);have m:WX M s.heap (isSubtype (.ref D) (.type "BaseException")) true:=Za X (by
  unfold X8;rw[G,Option.bind_some,a,if_neg];intro q;rw[List.isEmpty_iff]at q;rw[q]at a;cases a)
 have Y:∃c' d' J,K.lookup D=Dn ⟨c',d',.cls dd,J⟩:=by
  unfold Xj at G;split at G
  rename_i c' d' i J ho;cases G;exact⟨c',d',J,ho⟩;cases G
 obtain⟨c',d',J,ho⟩:=Y;have l:WX M s.heap (isType (.ref D)) true:=by
  intro u r t s' k q;exact Aj<|wpAny_loadPart (k _ _<|X _ _ ho)<|HI q
 have j:WX M s.heap (typeOf (.ref e)) (.ref C):=O ▸ (PySem.W.Looks.ld g).andThen .now;have f:=tc_notTuple;refine Aj ?_;refine Aj<|PySem.W.Looks.at p ?_
 rw[f];refine HI ?_;refine Aj<|HI ?_
 dsimp only;rw[Zc];refine Aj<|Aj ?_
 refine Aj<|Aj<|PySem.W.Looks.at l ?_
 rw[if_pos rfl];refine PySem.W.Looks.at m ?_;rw[if_neg (by decide)];refine HI ?_;dsimp only;rw[List.forIn_nil];refine HI ?_;refine Aj<|PySem.W.Looks.at j ?_
 rw[Zc];refine Aj<|Aj<|Aj<|PySem.W.Looks.at o ?_
 cases c:Jt n d with
 | true=>
  rw[c]at U;rw[if_pos rfl];exact HI<|HI<|HI U
 | false=>
  rw[c]at U;rw[if_neg RT];refine HI ?_;dsimp only;rw[List.forIn_nil];exact HI<|HI U
end
variable {suite:List Stmt}{b₀:Stmt}{d:Str}
theorem akr {prog:IW}{w:IV}{A:Ig}{E:JI->Ab->Prop}{s:Ab}{env:Env}{K:BW}{e C:Addr}{n y:Str}{t:Expr}{pos:Pos}{rest:List ExceptHandler}{Q:Flow->Ab->Prop}
  (j:jm K C n=true) (m:iy K D d=true) (hi:Jt n d=true)
  (h:Bh (Bu prog w) (A.mark (Dn (.ref e))) (eval t env) (λc G=>c=.ref D/\K.In G.heap/\(∃oe,G.heap.get? e=Dn oe/\oe.cls=.ref C) /\
   Bh (Bu prog w) (A.mark (Dn (.ref e))) (setFlight (.ref e) Go) (λ_ O=>
     Bh (Bu prog w) (A.mark (Dn (.ref e))) (storeName env y (.ref e)) (λ_ J=>
      Bh (Bu prog w) (A.mark (Dn (.ref e))) (execs (b₀::suite) env)
       (λf Y=>Bh (Bu prog w) A (do bindName env y .none;unbindBehindTheSuite env y pos) (λ_ U=>Q f U) E Y) (λ_ _=>False) J) (λ_ _=>False) O) (λ_ _=>False) G) (λ_ _=>False) s) :
  Bh (Bu prog w) A (handleBy (.ref e) env (.ExceptHandler (Dn t) (Dn y) (b₀::suite) pos::rest)) Q E s:=by
 refine wpAny_handleBy_cons (codeAny_handlers_test<|Lp h (λc G g=>?_) λ_ _ z=>z.elim) (by intro q;cases q);obtain⟨rfl,X,⟨oe,l,i⟩,k⟩:=g;refine tR X l i j m ?_;rw[hi];exact codeAny_handlers_suite_as<|Lp k (λ_ O b=>Lp b (λ_ J a=>Lp a (λ_ _ z=>z) λ_ _ z=>z.elim) λ_ _ z=>z.elim) λ_ _ z=>z.elim
noncomputable def bI.lost (D:bI):bI:={D with nx:=fun σ h=>D.nx (σ.map λ_=>Go) h,bk:=fun σ h=>D.bk (σ.map λ_=>Go) h,ct:=fun σ h=>D.ct (σ.map λ_=>Go) h}
noncomputable def TV (x:Xw):W:=match x.fs with
 | []=>.exc x.cls
 | f::fs=>.exa x.cls ((f::fs).map (·.2))
theorem O4 {J G:Type}:∀{l:List J}{m:List G},m.length=l.length->(l.zip m).map (·.2)=m
 | [],[],_=>rfl
 | a::l,b::m,h=>by rw[List.zip_cons_cons,Od,O4 (by simpa using h)]
theorem abj {n}(h:ws.length=(Dp n).length):TV ⟨n,(Dp n).zip ws⟩=.exa n ws:=by
 have e:=O4 h;unfold TV;cases q:(Dp n).zip ws with
 | nil=>
  rw[q]at e;cases ws with
  | nil=>exact absurd (ur h.symm) (by unfold Dp;split<;>simp)
  | cons _ _=>cases e
 | cons f fs=>
  simp_all
section
variable {X:Cx}{body:List Stmt}{y:Str}{hpos pos:Pos}{i:Nat}{mb:Bm->MS}{mh:MS}
end
variable {mh:MS}{hpos:Pos}{mb:Bm->MS}
theorem vY {k A}{a}(r:gQ k A)(h:8<=k):gQ 8 (A.mark (Dn (.ref a))):=⟨nofun,by have:=r.dp;show A.depth+_<_;lia,by have:=r.un;show A.units+_<_;lia⟩
section
variable {X:Cx}{a:Expr}{pos p:Pos}
end
section
variable {X:Cx}{tg:Expr}{scope:Scope}{xs:List Str}{pos p ppos:Pos}
end
section
variable {prog:IW}{w:IV}{A:Ig}{E:JI->Ab->Prop}{s:Ab}
end
section
variable {X:Cx}
end
section
variable {X:Cx}{K:BW}{o e:Expr}{ma:MA}{apos aot:Pos}
variable {H:Hp}{aor:List (Addr×Obj)}{s:Ab}{σ:St}
mutual
theorem Pu (I:Al X aor σ H s):∀{w u:W}{v:V},Dt X.K H w v->Dt X.K H u v->w=u
 | .non,u,v,h,g=>by rw[Dt]at h;subst h;cases u<;>rw[Dt]at g<;>first|rfl|exact g.elim|(obtain⟨_,_,g,_⟩:=g;cases g;done)|(cases g;done)
 | .bl b,u,v,h,g=>by rw[Dt]at h;subst h;cases u<;>rw[Dt]at g<;>first|(injection g with g;rw[g];done)|exact g.elim|(obtain⟨_,_,g,_⟩:=g;cases g;done)|(cases g;done)
 | .int b,u,v,h,g=>by rw[Dt]at h;subst h;cases u<;>rw[Dt]at g<;>first|(injection g with g;rw[g];done)|exact g.elim|(obtain⟨_,_,g,_⟩:=g;cases g;done)|(cases g;done)
 | .str b,u,v,h,g=>by rw[Dt]at h;subst h;cases u<;>rw[Dt]at g<;>first|(injection g with g;rw[g];done)|exact g.elim|(obtain⟨_,_,g,_⟩:=g;cases g;done)|(cases g;done)
 | .tup ws,u,v,h,g=>by
  rw[Dt]at h;obtain⟨p,xs,e,hs,ds⟩:=h;subst e;cases u with
  | tup us=>
   rw[Dt]at g;obtain⟨p',xs',e',hs',ds'⟩:=g;cases e'
   have:=I.tuple_inj hs hs'
   subst this;rw[xu I ds ds']
  | lst us=>
   rw[Dt]at g;obtain⟨p',xs',e',hs',ds'⟩:=g;cases e'
   obtain⟨_,_,t,_⟩:=I.tuple hs;obtain⟨_,_,l,_⟩:=I.list hs';exact absurd rfl<|uI l.isList<|show s.heap.IsTuple _ _ from t
  | ty _=>rw[Dt]at g;exact g.elim
  | loc _=>rw[Dt]at g;exact g.elim
  | kls _=>rw[Dt]at g;exact g.elim
  | exc _=>rw[Dt]at g;exact g.elim
  | exa _ _=>rw[Dt]at g;exact g.elim
  | _=>rw[Dt]at g;cases g
 | .lst ws,u,v,h,g=>by
  rw[Dt]at h;obtain⟨p,xs,e,hs,ds⟩:=h;subst e;cases u with
  | lst us=>
   rw[Dt]at g;obtain⟨p',xs',e',hs',ds'⟩:=g;cases e'
   have:=I.list_inj hs hs'
   subst this;rw[xu I ds ds']
  | tup us=>
   rw[Dt]at g;obtain⟨p',xs',e',hs',ds'⟩:=g;cases e'
   obtain⟨_,_,t,_⟩:=I.tuple hs';obtain⟨_,_,l,_⟩:=I.list hs;exact absurd rfl<|uI l.isList<|show s.heap.IsTuple _ _ from t
  | ty _=>rw[Dt]at g;exact g.elim
  | loc _=>rw[Dt]at g;exact g.elim
  | kls _=>rw[Dt]at g;exact g.elim
  | exc _=>rw[Dt]at g;exact g.elim
  | exa _ _=>rw[Dt]at g;exact g.elim
  | _=>rw[Dt]at g;cases g
 | .ty _,_,_,h,_=>by rw[Dt]at h;exact h.elim
 | .kls _,_,_,h,_=>by rw[Dt]at h;exact h.elim
 | .loc _,_,_,h,_=>by rw[Dt]at h;exact h.elim
 | .exc _,_,_,h,_=>by rw[Dt]at h;exact h.elim
 | .exa _ _,_,_,h,_=>by rw[Dt]at h;exact h.elim
theorem xu (I:Al X aor σ H s):∀{ws us:List W}{vs:List V},Mg X.K H ws vs->Mg X.K H us vs->ws=us
 | [],us,vs,h,g=>by
  have e:vs=[]:=by rw[Mg]at h;exact h
  subst e;cases us with
  | nil=>rfl
  | cons u us=>rw[Mg]at g;obtain⟨_,_,e,_⟩:=g;cases e
 | w::ws,us,vs,h,g=>by
  rw[Mg]at h;obtain⟨v,vs',e,d,ds⟩:=h;subst e;cases us with
  | nil=>
   have e:v::vs'=[]:=by rw[Mg]at g;exact g
   cases e
  | cons u us=>
   rw[Mg]at g;obtain⟨v2,vs2,e2,d2,ds2⟩:=g;cases e2;rw[Pu I d d2,xu I ds ds2]
end
theorem FQ:∀{us xs}{its},Mg X.K H us xs->CZ xs its->∀a u,(a,u)∈its.zip us->∃v,RelV v a/\Dt X.K H u v/\u∈us
 | [],_,its,_,_,a,u,m=>absurd m (by simp)
 | w::us,xs,its,d,r,a,u,m=>by
  obtain⟨v,J,e,f,ds⟩:=d;subst e;cases r with
  | cons U G=>
   rcases ML.mp m with m|m
   grind
   obtain⟨O,c,b,Y⟩:=FQ ds G a u m;grind
theorem uP {J G:Type}:∀{xs:List J}{ys:List G},xs.length=ys.length->∀a∈xs,∃b,(a,b)∈xs.zip ys
 | x::xs,y::ys,h,a,m=>by
  rcases ML.mp m with rfl|m
  simp_all
  obtain⟨b,q⟩:=uP (Nat.succ.inj h) a m;exact⟨b,RN _ q⟩
end
section
variable {X:Cx}{iter tg:Expr}{scope:Scope}{pos:Pos}{xs:List Str}
end
section
variable {X:Cx}{e:Expr}{es:List Expr}{pos:Pos}
noncomputable def acH (X:Cx)(Γ:St->Prop)(m:Bm->MA):TA:=fun σ H Q=>Γ σ/\∃μ h σw O E,Iu X.K μ H h/\Slots X.K H μ σw σ/\m E σw h O/\(∀G H',DA X.K H μ O G H'->Q G H')/\∀J s',XT X H μ Γ E J s'->X.xe J s'
theorem zbM {me}(ha:DEx X Γ e me)(hr:NQ X es mr)(hs:J9 (e::es) X.env=(false,eval e X.env)::J9 es X.env:=by rfl):PA X (e::es) (acH X Γ λE=>aj (me E) mr):=(rT ha hr hs).of fun σ H Q a=>by obtain⟨g,μ,h,σw,Qw,E,R,S,m,q,kx⟩:=a;exact ⟨g,μ,h,σw,_,E,R,S,m,λv H1 b=>by obtain⟨μ1,w,h1,e1,R1,r1,m1⟩:=b;exact ⟨μ1,h1,σw,_,R1,S.ext e1,m1,λvs H2 c=>by obtain⟨μ2,ws,h2,e2,R2,r2,m2⟩:=c;exact q _ _ ⟨μ2,w::ws,h2,e1.trans e2,R2,⟨v,vs,rfl,e2.r _ _ r1,r2⟩,m2⟩⟩,kx⟩
variable {mr:Bm->MA}
end
section
variable {X:Cx}{K:BW}{H:Hp}{aor:List (Addr×Obj)}{s:Ab}{σ:St}
theorem QJ {J G:Type}{p q}:∀{xs:List J}{ys:List G},xs.length=ys.length->(∀a b,(a,b)∈xs.zip ys->p a=q b)->xs.any p=ys.any q
 | [],[],_,_=>rfl
 | a::xs,b::ys,h,e=>by
  rw[Z1,Z1,QJ (Nat.succ.inj h) λa' b' m=>e a' b' (RN _ m),e a b T9]
theorem alo (I:Al X aor σ H s){us xs}{its w y}{b}(O:Mg X.K H us xs)(r:CZ xs its)(hw:Dt X.K H w y)(h:RelV y b)(e:us.all (Jc 20)=true)(Y:Jc 20 w=true){A}(k:A.units+20<Nb):
  ∃J,(∀a,a∈its->YK A s a b (J a))/\its.any J=us.any (λu=>Jf u w):=by
 have hl:its.length=us.length:=by rw[<-r.length,O.len]
 let J:JI->Bool:=λa=>@decide (∃u,(a,u)∈its.zip us/\Jf u w=true) (Classical.propDecidable _)
 have G:∀a u,(a,u)∈its.zip us->J a=Jf u w:=by
  intro a u m;cases c:Jf u w with
  | true=>exact(@decide_eq_true_iff _ (Classical.propDecidable _)).mpr ⟨u,m,c⟩
  | false=>
   refine(@decide_eq_false_iff_not _ _).mpr λd=>?_;obtain⟨g,m2,o⟩:=d;obtain⟨q,U,f,_⟩:=FQ O r a u m;obtain⟨p,i,n,_⟩:=FQ O r a g m2;obtain rfl:=U.inj i;rw[Pu I f n,o]at c;cases c
 refine⟨J,λa l=>?_,QJ hl G⟩;obtain⟨u,m⟩:=uP hl a l;obtain⟨v,U,f,j⟩:=FQ O r a u m;exact G a u m ▸ aep I 20 k f hw (XF.mp e u j) Y U h
noncomputable def aif (K:BW)(G:Bool):R2:=λx y H Q=>∃p xs us w,y=.ref p/\Kh K H p xs/\Mg K H us xs/\Dt K H w x/\us.all (Jc 20)=true/\Jc 20 w=true/\Q (.bl (if G then !(us.any λu=>Jf u w)else us.any λu=>Jf u w)) H
theorem amB (g:X.A.units+30<Nb):Mv X (PJ .NotIn) (aif X.K true):=by
 intro aor s σ H x y v u Q I U O h;obtain⟨p,xs,us,w,rfl,b,d,G,a,p2,q⟩:=h;cases O;obtain⟨its,r,Y,f⟩:=I.list b;obtain⟨J,c,e⟩:=alo I d r G U a p2 (A:=X.A.in1) (by show _+1+20<Nb;lia);refine SeqAt.notIn_listAt J Y.isList (λw G=>c w<|by simpa using G) ⟨.bl _,H,I,rfl,?_⟩
 rwa[show its.toArray.any J=its.any J by simp,e]
noncomputable def Bk:M2:=λx y h Q=>match d9 h y with
 | some us=>K8 (Jc 20 x&&us.all (Jc 20)) (Q (.bl (!(us.any λu=>Jf u x))) h) False
 | none=>False
theorem Vz (Y:X.A.units+30<Nb):Qi X (PJ .NotIn) Bk:=⟨_,amB Y,by
 intro H μ h x y G b d Q R O J m k;unfold Bk at m;split at m
 ·rename_i us a;obtain⟨p,xs,ex,hs,U⟩:=dU R J a;cases c:(Jc 20 G&&us.all _)with
  | true=>
   rw[c]at m;rw[Uj]at c;exact⟨p,xs,us,G,ex,hs,yF (Rm 20) U c.2,Rm 20 O c.1,c.2,c.1,k _ _<|.bl R m⟩
  | false=>rw[c]at m;cases m
 cases m⟩
end
section
variable {X:Cx}{K:BW}{H:Hp}{h:Gh}
end
section
variable {X:Cx}{K:BW}{o e e':Expr}{ma:MA}{apos aot:Pos}
end
noncomputable def JW (m:Nat):List Nat:=(Qv 8).filter λj=>m.testBit j
noncomputable def rk (m j:Nat):Nat:=((Qv j).filter λi=>m.testBit i).length
theorem qD:∀m:Fin 256,∀j:Fin 8,SetTable.below (JW m).toArray j=rk m j/\(JW m)[rk m j]?=(if m.val.testBit j then Dn j.val else(JW m)[rk m j]?)/\(m.val.testBit j=false->(JW m)[rk m j]?≠Dn j.val):=by decide +kernel
theorem xZ:∀m:Fin 256,∀j:Fin 8,m.val.testBit j=false->(JW m).take (rk m j)++j.val::(JW m).drop (rk m j)=JW (m.val ||| 2^j.val)/\m.val ||| 2^j.val<256:=by decide +kernel
theorem gZ {j}:j∈JW m↔j<8/\m.testBit j=true:=by unfold JW;simp
theorem Dd {t:T8}{j}(G:t.place=(JW m).toArray)(O:t.dummies=#[])(J:m<256)(hj:j<8):t.slot j=if m.testBit j then .live (rk m j)else .empty:=by
 obtain⟨a,b,c⟩:=qD ⟨m,J⟩ ⟨j,hj⟩;unfold SetTable.slot;rw[G,O,a];cases e:m.testBit j with
 | true=>
  simp_all
 | false=>
  rw[if_neg RT,if_neg (by simpa using c e),if_neg (by simp[SetTable.has])]
theorem agj {j}(G:m<256)(h:j∈JW m):(JW m)[rk m j]?=Dn j:=by
 obtain⟨hj,e⟩:=gZ.mp h;have b:=(qD ⟨m,G⟩ ⟨j,hj⟩).2.1
 rwa[e]at b
noncomputable def pq (h:Int):Nat->Nat×Nat
 | 0=>(T5 h % 8,T5 h)
 | n+1=>SetTable.leap 7 (pq h n).1 (pq h n).2
noncomputable def pb (h:Int)(n:Nat):SetTable.Probe:=⟨(pq h n).1,0,(pq h n).1,(pq h n).2,Go⟩
theorem wC (h:Int):∀n,(pq h n).1<8
 | 0|n+1=>Nat.mod_lt _ (by decide)
theorem Mh (i):Zw 7 i-i=0:=by
 unfold Zw;simp_all
theorem Hv {t:T8}(G:t.mask=7)(h):t.probeStart h=pb h 0:=by
 unfold SetTable.probeStart pb pq;rw[G];simp[Mh]
theorem Oc {t:T8}(G:t.mask=7)(h)(n):t.advance (pb h n)=pb h (n+1):=by
 unfold SetTable.advance pb;rw[G];simp only[Mh];rfl
theorem Lr (h):∀n,(pq h n).2=T5 h / 32^n
 | 0=>by simp[pq]
 | n+1=>by
  show(pq h n).2 / 32=_;rw[Lr h n,Nat.div_div_eq_div_mul,Nat.pow_succ]
theorem akO (h)(n)(G:13<=n):(pq h n).2=0:=by
 rw[Lr];apply Nat.div_eq_of_lt;have h1:T5 h<2^64:=by
  unfold T5;lia
 have h2:32^13<=32^n:=Nat.pow_le_pow_right (by decide) G;lia
noncomputable def lcg:Nat->Nat->Nat
 | i,0=>i
 | i,k+1=>(lcg i k*5+1) % 8
theorem Vq (h):∀k,(pq h (13+k)).1=lcg (pq h 13).1 k
 | 0=>rfl
 | k+1=>by
  show((pq h (13+k)).1*5+1+(pq h (13+k)).2 / 32) % (7+1)=_;rw[akO h _ (by lia),Vq h k];rfl
theorem alK:∀i:Fin 8,∀j:Fin 8,∃k:Fin 8,lcg i k=j.val:=by decide +kernel
theorem aa6 (h){j}(hj:j<8):∃n,n<21/\(pq h n).1=j:=by
 obtain⟨k,e⟩:=alK ⟨(pq h 13).1,wC h 13⟩ ⟨j,hj⟩;exact⟨13+k.val,by lia,by rwa[Vq]⟩
theorem least {P:Nat->Bool}:∀B,(∃n,n<B/\P n=true)->∃N,N<B/\P N=true/\∀n,n<N->P n=false
 | B+1,⟨n,h,e⟩=>by
  by_cases q:∃n,n<B/\P n=true
  obtain⟨N,a,b,c⟩:=least B q;grind
  grind
theorem road (h)(J:∃j,j<8/\m.testBit j=false):∃N,N<21/\m.testBit (pq h N).1=false/\∀n,n<N->m.testBit (pq h n).1=true:=by
 obtain⟨j,hj,e⟩:=J;obtain⟨n,G,O⟩:=aa6 h hj;obtain⟨N,a,b,c⟩:=least (P:=λn=>!m.testBit (pq h n).1) 21 ⟨n,G,by simp[O,e]⟩;grind
theorem Ei:∀m:Fin 256,(JW m).length<8->∃j:Fin 8,m.val.testBit j=false:=by decide +kernel
theorem wu:∀m:Fin 256,∀j:Fin 8,m.val.testBit j=false->(JW (m.val ||| 2^j.val)).length=(JW m).length+1:=by decide +kernel
theorem FJ:∀m:Fin 256,∀j i:Fin 8,(m.val ||| 2^j.val).testBit i=(m.val.testBit i||decide (i.val=j.val)):=by grind
theorem Es {t}{m}(Y:t.mask=7)(U:t.place=(JW m).toArray)(f:t.dummies=#[])(g:m<256)(G)(h):∀d n J,d<J->m.testBit (pq h (n+d)).1=false->(∀i,i<d->m.testBit (pq h (n+i)).1=true) ->
  ((∀i,i<d->G (rk m (pq h (n+i)).1)≠h)/\Z7.go t G h J (pb h n)=Dn (.empty (pq h (n+d)).1 Go)) \/
  ∃i,i<d/\G (rk m (pq h (n+i)).1)=h/\(∀j,j<i->G (rk m (pq h (n+j)).1)≠h)/\Z7.go t G h J (pb h n)=Dn (.candidate (pq h (n+i)).1 (rk m (pq h (n+i)).1) (pb h (n+i+1)))
 | 0,n,J+1,_,e,_=>by
  refine .inl ⟨λi hi=>absurd hi<|Te _,?_⟩;unfold Z7.go;have:t.slot (pb h n).j=.empty:=by
   show t.slot (pq h n).1=_;rw[Dd U f g (wC h n),show m.testBit (pq h n).1=false from e];rfl
  rw[this];rfl
 | d+1,n,J+1,o,e,l=>by
  have k:m.testBit (pq h n).1=true:=l 0 (by lia);have hs:t.slot (pb h n).j=.live (rk m (pq h n).1):=by
   show t.slot (pq h n).1=_;rw[Dd U f g (wC h n),k];rfl
  unfold Z7.go;rw[hs];dsimp only;by_cases q:G (rk m (pq h n).1)=h
  refine .inr ⟨0,by lia,q,λj hj=>absurd hj<|Te _,?_⟩;rw[if_pos (by simp[q]),Oc Y];rfl
  ·rw[if_neg (by simp[q]),Oc Y];have O:∀i,n+1+i=n+(i+1):=λi=>by lia
   rcases Es Y U f g G h d _ J (by lia) (by rwa[O]) (λi hi=>by rw[O];exact l (i+1) (by lia))with⟨a,b⟩|⟨i,hi,a,b,c⟩
   ·refine .inl ⟨λi hi=>?_,by rw[b,O]⟩;cases i with
    | zero=>exact q
    | succ i=>have:=a i (by lia);rw[O]at this;exact this
   ·refine .inr ⟨i+1,by lia,by rwa[<-O],λj hj=>?_,by rw[c,O]⟩;cases j with
    | zero=>exact q
    | succ j=>have:=b j (by lia);rw[O]at this;exact this
section
variable {prog:IW}{w:IV}{A:Ig}{E:JI->Ab->Prop}{s:Ab}{ka:Nat->List Int}{ad:Nat->Addr}{t:T8}{a b:Addr}{k:List Int}
noncomputable abbrev TK (prog:IW)(w:IV)(h:Heap)(k:List Int)(a:Addr):Prop:=IsTupleKey (RJ prog w) h k a
noncomputable def hT (prog:IW)(w:IV)(k:List Int):Int:=Sq (RJ prog w) k
noncomputable def elL (prog:IW)(w:IV)(m:Nat)(ka:Nat->List Int)(ad:Nat->Addr):List (Int×JI):=(JW m).map λj=>(hT prog w (ka j),Value.ref (ad j))
structure V9 (prog:IW) (w:IV) (h:Heap) (m:Nat) (ka:Nat->List Int) (ad:Nat->Addr) (t:T8):Prop where
 mask:t.mask=7
 place:t.place=(JW m).toArray
 dum:t.dummies=#[]
 m8:m<256
 few:(JW m).length<=4
 key:∀j,j∈JW m->TK prog w h (ka j) (ad j)
 way:∀j,j∈JW m->∃n,(pq (hT prog w (ka j)) n).1=j/\∀i,i<n->m.testBit (pq (hT prog w (ka j)) i).1=true
theorem V9.fits {h}(T:V9 prog w h m ka ad t):t.fits (elL prog w m ka ad).toArray.size=true:=by
 unfold SetTable.fits SetTable.fill elL;rw[T.place,T.dum,T.mask];have:=T.few
 simp;lia
theorem V9.at {h}(T:V9 prog w h m ka ad t){j}(hj:j∈JW m):(elL prog w m ka ad).toArray[rk m j]?=Dn (hT prog w (ka j),Value.ref (ad j)):=by
 have:=agj T.m8 hj
 simp[elL,this]
theorem Aq {d:Nat}{Q:Bool->Ab->Prop}(Y:TK prog w s.heap k b)(h:Q false s):Bh (Bu prog w) A (ofAClassStatement (d+1) (.ref b)) Q E s:=by
 have O:=Y.typeIs;obtain⟨o,items,n,ho,_,f,hi⟩:=Y;unfold ofAClassStatement;refine Aj<|wpAny_typeOf O<|Aj<|HI<|Aj<|WM ho f<|Aj ?_
 rw[<-Array.forIn_toList];refine wpAny_forIn_list _ (λrest r s'=>r.1=Go/\s'=s/\∀v∈rest,carriedByValue v=true) _ ?_ ?_ _ _ ⟨rfl,rfl,hi.byValue⟩
 ·rintro v rest r s' ⟨U,rfl,G⟩;have c:=G v T9;have e:ofAClassStatement d v=pure false:=by
   cases v with
   | ref a=>simp[carriedByValue]at c
   | _=>unfold ofAClassStatement;rfl
  rw[e];exact HI ⟨rfl,rfl,λu J=>G u<|RN _ J⟩
 rintro⟨i,g⟩ s' ⟨U,rfl,_⟩;subst U;exact HI h
theorem zy {d}{Q}(Y:TK prog w s.heap k b)(h:Q true s):Bh (Bu prog w) A (hashByValue (d+1) (.ref b)) Q E s:=by
 have U:=Y.typeIs;obtain⟨o,items,n,ho,_,a,hi⟩:=Y;refine Aj<|Z4 U F.slot_tuple_hash.lookup<|Aj<|WM ho a<|Aj ?_
 rw[<-Array.forIn_toList];refine wpAny_forIn_list _ (λrest r s'=>r.1=Go/\s'=s/\∃ks,ItemsAre (RJ prog w) ks rest) _ ?_ ?_ _ _ ⟨rfl,rfl,k,hi⟩
 ·rintro v rest r s' ⟨O,rfl,ks,G⟩;cases G with
  | @cons k0 _ J _ h1 h2=>
   have e:hashByValue d v=pure true:=by
    obtain⟨tk,rfl⟩:=Value.isInt_shape h1;cases d<;>rfl
   rw[e];exact HI ⟨rfl,rfl,J,h2⟩
 rintro⟨f,c⟩ s' ⟨O,rfl,_⟩;simp only at O;subst O;exact HI h
theorem zar {l}{Q}(Y:TK prog w s.heap k b)(hl:∀y∈l,∃c J,y=.ref c/\TK prog w s.heap J c)(h:Q false s):Bh (Bu prog w) A (searchCouldBeSeen (.ref b) l) Q E s:=by
 refine Aj<|wpAny_forIn_list _ (λrest r s'=>r.1=Go/\s'=s/\∀y∈rest,∃c J,y=.ref c/\TK prog w _ J c) _ ?_ ?_ _ _ ⟨rfl,rfl,hl⟩
 rintro v rest r s' ⟨U,rfl,G⟩;obtain⟨c,J,rfl,a⟩:=G v T9;have tl:=λu O=>G u (RN _ O)
 dsimp only;split
 exact HI ⟨rfl,rfl,tl⟩;exact Aj<|wpAny_eqIsQuiet_tuple Y<|Aj<|wpAny_eqIsQuiet_tuple a<|Aj<|Aq Y<|Aj<|Aq a<|HI ⟨rfl,rfl,tl⟩
 rintro⟨e,d⟩ s' ⟨U,rfl,_⟩;subst U;exact HI h
theorem jH {o}{ep h}{Q}(hh:h=hT prog w k)(I:A.units<Nb)(ho:s.heap.get? a=Dn o)(C:o.data=.set (elL prog w m ka ad).toArray ep t)(T:V9 prog w s.heap m ka ad t)(v:TK prog w s.heap k b){N}(R:m.testBit (pq h N).1=false)(hl:∀n,n<N->m.testBit (pq h n).1=true)
  (U:(∃j,j∈JW m/\ka j=k)->Q (.there Go) s) (F:(∀n,n<N->ka (pq h n).1≠k)->Q (.free (pq h N).1 false) s) :
  ∀G n  (st),st.getD (t.probeStart h)=pb h n->n<=N->N-n<G->N<200->(∀i,i<n->ka (pq h i).1≠k)->Bh (Bu prog w) A (setSearchFrom a (.ref b) h true G st) Q E s
 | G+1,n,st,es,hn,hf,h2,L=>by
  refine Aj<|Yj ho C T.fits ?_
  dsimp only;have Z:t.gaveWay=false:=by unfold SetTable.gaveWay;rw[T.mask];rfl
  rw[Z];simp only[Bool.false_eq_true,if_false];rw[es];have K:∀i,i<N->(pq h i).1∈JW m:=λi hi=>gZ.mpr ⟨wC h i,hl i hi⟩
  have H:∀i,i<N->((((elL prog w m ka ad).toArray[rk m (pq h i).1]?).map (·.1)).getD 0)=hT prog w (ka (pq h i).1):=λi hi=>by rw[T.at (K i hi)];rfl
  have J:10*SetTable.turns t.mask=220:=by rw[T.mask];rfl
  have go:=Es T.mask T.place T.dum T.m8 (λi=>(((elL prog w m ka ad).toArray[i]?).map (·.1)).getD 0) h (N-n) n 220 (by lia) (by rw[show n+(N-n)=N by lia];exact R) (λi hi=>hl _ (by lia));generalize M:t.probe _ h (pb h n)=P;rcases go with⟨l,e⟩|⟨i,hi,hc,d,e⟩
  have e':t.probe (λi=>(((elL prog w m ka ad).toArray[i]?).map (·.1)).getD 0) h (pb h n)=Dn (.empty (pq h N).1 Go):=by
   unfold Z7;rw[J,e,show n+(N-n)=N by lia]
  have D:P=Dn (.empty (pq h N).1 Go):=M.symm.trans e';subst D;refine HI<|F λi hi z=>?_
  by_cases q:i<n
  exact L i q z;refine l (i-n) (by lia) ?_;rw[show n+(i-n)=i by lia,H i hi,z,hh]
  ·have e':t.probe (λi=>(((elL prog w m ka ad).toArray[i]?).map (·.1)).getD 0) h (pb h n)=Dn (.candidate (pq h (n+i)).1 (rk m (pq h (n+i)).1) (pb h (n+i+1))):=by
    unfold Z7;rw[J,e]
   have D:P=_:=M.symm.trans e';subst D;have hj:=K (n+i) (by lia);have u:=T.key _ hj;dsimp only;rw[T.at hj];dsimp only;have f:t.slot (pq h (n+i)).1=.live (rk m (pq h (n+i)).1):=by rw[Dd T.place T.dum T.m8 (wC h _),(gZ.mp hj).2,if_pos rfl]
   have O:t.sameMemory t.moves t.mask=Dn true:=by unfold SetTable.sameMemory;rw[if_pos (by simp)]
   have B:∀y∈List.map (λx=>x.snd) (Array.filter (λx=>x.fst==h) (elL prog w m ka ad).toArray).toList,∃c V,y=.ref c/\TK prog w s.heap V c:=by
    intro y W;obtain⟨p,X,rfl⟩:=Nm.mp W;have g:p∈elL prog w m ka ad:=by
     have:=(Array.mem_filter.mp (Array.mem_toList_iff.mp X)).1
     simpa using this
    obtain⟨j,Y,rfl⟩:=Nm.mp g;exact⟨_,_,rfl,T.key j Y⟩
   split
   all_goals try (refine Aj (zar v B ?_);simp only[Bool.false_eq_true,if_false])
   all_goals
    refine Aj<|Ot<|wpAny_eqBool_tuple I u v ?_
    refine Aj<|Yj ho C T.fits ?_
    dsimp only;rw[Bool.true_and];by_cases q:ka (pq h (n+i)).1=k
    rw[if_pos (decide_eq_true q)];exact HI<|U ⟨_,hj,q⟩
    rw[if_neg (by rw[decide_eq_false q];exact RT),O];dsimp only;rw[if_pos rfl,f];dsimp only;rw[T.at hj];dsimp only;refine Aj<|wpAny_isSame_ref_self ?_
    rw[if_pos rfl];refine Aj<|HI ?_
    dsimp only;rw[if_neg (by rw[decide_eq_false q];exact RT)];refine jH hh I ho C T v R hl U F G (n+i+1) _ rfl (by lia) (by lia) h2 λj Y z=>?_;by_cases r:j<n
    exact L j r z;by_cases S:j=n+i
    rw[S]at z;exact q z;refine d (j-n) (by lia) ?_;rw[show n+(j-n)=j by lia,H j (by lia),z,hh]
noncomputable def Q0 (es:Array (Int×JI))(ep:Nat)(t:T8):Obj:={cls:=.type "set",dict:=Go,data:=.set es ep t}
noncomputable def qP (prog:IW)(w:IV)(h:Heap)(a:Addr)(m:Nat)(ka:Nat->List Int)(ad:Nat->Addr):Prop:=∃ep t,h.get? a=Dn (Q0 (elL prog w m ka ad).toArray ep t)/\V9 prog w h m ka ad t
theorem TK.ne {h:Heap}{es:Array (Int×JI)}{ep:Nat}(G:TK prog w h k b)(ho:h.get? a=Dn (Q0 es ep t)):b≠a:=by
 rintro rfl;obtain⟨o,_,_,e,J,_⟩:=G;rw[ho]at e;cases e;exact absurd (show Value.type "set" = Value.type "tuple" from J)<|by decide
theorem TK.same {h h'}{es ep}(G:TK prog w h k b)(ho:h.get? a=Dn (Q0 es ep t))(hs:RK a h h'):TK prog w h' k b:=by
 have J:=TK.ne G ho;obtain⟨o,i,n,e,r⟩:=G;exact⟨o,i,n,(hs.2 b J).trans e,r⟩
theorem Vh {j}(O:m<256)(hj:j<8)(J:m.testBit j=false):Y0 (elL prog w m ka ad).toArray (rk m j) (hT prog w k,Value.ref b)=(elL prog w (m ||| 2^j) (λi=>if i=j then k else ka i) (λi=>if i=j then b else ad i)).toArray:=by
 apply Array.ext';rw[SetTable.toList_insertAt];unfold elL;rw[<-((xZ ⟨m,O⟩ ⟨j,hj⟩ J).1)];simp;have G:∀i∈JW m,i≠j:=λi hi z=>by rw[z]at hi;rw[(gZ.mp hi).2]at J;cases J
 have U:(JW m).map (λi=>(hT prog w (if i=j then k else ka i),Value.ref (if i=j then b else ad i)))=(JW m).map λi=>(hT prog w _,Value.ref (ad i)):=Uo λi hi=>by rw[if_neg (G i hi),if_neg (G i hi)]
 rw[U]
theorem zap {Q}(V:A.units<Nb)(S:qP prog w s.heap a m ka ad)(W:TK prog w s.heap k b)(h3:(JW m).length<=3)
  (H:(∃j,j∈JW m/\ka j=k)->∀tk,Q false {s with toks:=tk})
  (Z:(∀j,j∈JW m->ka j≠k)->∀h' j tk,RK a s.heap h'->j<8->m.testBit j=false->qP prog w h' a (m ||| 2^j) (λi=>if i=j then k else ka i) (λi=>if i=j then b else ad i)->Q true {s with heap:=h',toks:=tk}) :
  Bh (Bu prog w) A (setAdd a (.ref b)) Q E s:=by
 obtain⟨ep,t,ho,T⟩:=S;refine Ot<|Aj<|wpAny_pyHash_tuple V W ?_
 refine Ot ?_;generalize f:({s with toks:=s.toks+(k.length+1)}:Ab)=s1;have r:s1.heap=s.heap:=by rw[<-f]
 have U:s1.heap.get? a=Dn (Q0 (elL prog w m ka ad).toArray ep t):=by rw[r];exact ho
 have F:V9 prog w s1.heap m ka ad t:=by rw[r];exact T
 have g:TK prog w s1.heap k b:=by rw[r];exact W
 refine Aj<|Yj U rfl F.fits ?_
 obtain⟨P,L⟩:=Ei ⟨m,T.m8⟩ (by show(JW m).length<8;lia);obtain⟨N,hN,G,C⟩:=road (m:=m) (Sq (RJ prog w) k) ⟨P.val,P.isLt,L⟩;refine Aj<|jH (h:=Sq (RJ prog w) k) rfl V U rfl F g G C (λy=>?_) (λn=>?_) 100000 0 Go (by rw[Option.getD_none];exact Hv T.mask _) (by lia) (by lia) (by lia) λi hi=>absurd hi<|Te _
 rw[<-f];exact HI<|H y _
 dsimp only;have x:∀j,j∈JW m->ka j≠k:=λj hj z=>by
  obtain⟨i,e,l⟩:=T.way j hj;have r:hT prog w (ka j)=Sq (RJ prog w) k:=by rw[z];rfl
  rw[r]at e l;rcases Nat.lt_trichotomy i N with q|q|q
  exact n i q (by rw[e];exact z);rw[q]at e;rw[e,(gZ.mp hj).2]at G;cases G;rw[l N q]at G;cases G
 refine Aj<|Yj U rfl F.fits ?_
 have J:=wC (Sq (RJ prog w) k) N;generalize K:(pq (Sq (RJ prog w) k) N).fst=j at G J|-
 have v:t.put j=({t with place:=(JW (m ||| 2^j)).toArray},rk m j):=by
  unfold SetTable.put;have e1:=(qD ⟨m,T.m8⟩ ⟨j,J⟩).1;have e2:=(xZ ⟨m,T.m8⟩ ⟨j,J⟩ G).1;have e3:Y0 (JW m).toArray (rk m j) j=(JW (m ||| 2^j)).toArray:=by
   apply Array.ext';rw[SetTable.toList_insertAt,e2]
  rw[T.place,T.dum,e1];dsimp only;rw[e3,if_neg (by simp[SetTable.has])]
 have c:({t with place:=(JW (m ||| 2^j)).toArray}:T8).tooFull=false:=by
  have e:=wu ⟨m,T.m8⟩ ⟨j,J⟩ G;unfold SetTable.tooFull SetTable.fill;rw[T.mask,T.dum];simp only[Mp,e];simp;lia
 rw[v];have u:∀{R:Unit->Ab->Prop},(∀h',RK a s.heap h'->qP prog w h' a (m ||| 2^j) (λi=>if i=j then k else ka i) (λi=>if i=j then b else ad i)->R () {s1 with heap:=h'})->Bh (Bu prog w) A (storeSet a (Y0 (elL prog w m ka ad).toArray (rk m j) (Sq (RJ prog w) k,Value.ref b)) {t with place:=(JW (m ||| 2^j)).toArray}) R E s1:=by
  intro R hR;have e:=wu ⟨m,T.m8⟩ ⟨j,J⟩ G;dsimp only at e;have X:=Vh (prog:=prog) (w:=w) (ka:=ka) (ad:=ad) (k:=k) (b:=b) T.m8 J G;unfold hT at X;rw[X];refine wpAny_storeSet_of U rfl (hR _ ?_ ?_) ?_;rw[r];exact Xo ..;have O:RK a s1.heap (s1.heap.update a (Obj.putSet (elL prog w (m ||| 2^j) (λi=>if i=j then k else ka i) (λi=>if i=j then b else ad i)).toArray {t with place:=(JW (m ||| 2^j)).toArray})):=Xo ..;refine⟨ep+1,{t with place:=(JW (m ||| 2^j)).toArray},?_,⟨T.mask,rfl,T.dum,(xZ ⟨m,T.m8⟩ ⟨j,J⟩ G).2,by rw[e];lia,λi hi=>?_,λi hi=>?_⟩⟩;have:=S7 (Obj.putSet (elL prog w (m ||| 2^j) (λi=>if i=j then k else ka i) (λi=>if i=j then b else ad i)).toArray {t with place:=(JW (m ||| 2^j)).toArray}) U (by rw[putSet_of _ _ rfl];rfl)
  exact this;obtain⟨Y,p⟩:=gZ.mp hi;have o:=FJ ⟨m,T.m8⟩ ⟨j,J⟩ ⟨i,Y⟩;by_cases z:i=j
  simp only[if_pos z];exact TK.same g U O;simp only[if_neg z];refine TK.same (F.key i<|gZ.mpr ⟨Y,?_⟩) U O;rw[p,decide_eq_false z,Bool.or_false]at o;exact o.symm;obtain⟨Y,p⟩:=gZ.mp hi;have M:∀n,n<8->m.testBit n=true->(m ||| 2^j).testBit n=true:=λn I hb=>by
   have:=FJ ⟨m,T.m8⟩ ⟨j,J⟩ ⟨n,I⟩
   rw[this,hb];rfl
  have o:=FJ ⟨m,T.m8⟩ ⟨j,J⟩ ⟨i,Y⟩;dsimp only at o;by_cases z:i=j
  simp only[if_pos z];exact⟨N,by rw[z];exact K,λn I=>M _ (wC _ _)<|C n I⟩;simp only[if_neg z];rw[p,decide_eq_false z,Bool.or_false]at o;obtain⟨n,e1,e2⟩:=T.way i (gZ.mpr ⟨Y,o.symm⟩);exact⟨n,e1,λi hi=>M _ (wC _ _)<|e2 i hi⟩;have e9:(elL prog w (m ||| 2^j) (λi=>if i=j then k else ka i) (λi=>if i=j then b else ad i)).toArray.size=(JW m).length+1:=by
   unfold elL;rw[Mp,Ik,e]
  rw[e9,Ye];lia
 have D:∀h',RK a s.heap h'->qP prog w h' a (m ||| 2^j) (λi=>if i=j then k else ka i) (λi=>if i=j then b else ad i)->Q true {s1 with heap:=h'}:=λh' O B=>by
  rw[<-f];exact Z x h' j _ O J G B
 split
 refine Aj<|zy g ?_
 rw[if_pos rfl,c];refine Aj<|u λh' O B=>?_
 exact HI<|D h' O B
 refine Aj<|HI ?_
 rw[if_pos rfl,c];refine Aj<|u λh' O B=>?_
 exact HI<|D h' O B
end
variable {ep:Nat}{ad:Nat->Addr}{ka:Nat->List Int}
noncomputable def Ql (acc:List (List Int))(k:List Int):List (List Int):=if k∈acc then acc else acc++[k]
noncomputable def TX (l:List (List Int)):List (List Int):=l.foldl Ql []
theorem jW:∀(l acc:List (List Int)),(l.foldl Ql acc).length<=acc.length+l.length
 | [],acc=>by simp
 | k::r,acc=>by
  have:=jW r (Ql acc k)
  unfold Ql at this|-
  grind
section
variable {prog:IW}{w:IV}{A:Ig}{E:JI->Ab->Prop}{R:Result->Ab->Prop}
structure Jd (prog:IW) (w:IV) (z:Nat) (h:Heap) (S:Addr) (seen:List (List Int)) (m:Nat) (ka:Nat->List Int) (ad:Nat->Addr):Prop where
 set:qP prog w h S m ka ad
 low:∀j,j∈JW m->ad j<z
 mem:∀k,k∈seen↔∃j,j∈JW m/\ka j=k
 len:(JW m).length=seen.length
theorem Jd.keep {z:Nat}{h h':Heap}{S:Addr}{seen:List (List Int)}(B:Jd prog w z h S seen m ka ad)(U:∀o,h.get? S=Dn o->h'.get? S=Dn o)(hl:∀b o,b<z->h.get? b=Dn o->h'.get? b=Dn o):Jd prog w z h' S seen m ka ad:=by
 obtain⟨⟨ep,t,ho,T⟩,G,J,O⟩:=B;refine⟨⟨ep,t,U _ ho,T.mask,T.place,T.dum,T.m8,T.few,λj hj=>?_,T.way⟩,G,J,O⟩;obtain⟨o,i,n,e,r⟩:=T.key j hj;exact⟨o,i,n,hl _ _ (G j hj) e,r⟩
end
variable {S:Addr}{seen:List (List Int)}
section
variable {prog:IW}{w:IV}{A:Ig}{E:JI->Ab->Prop}{s:Ab}
noncomputable abbrev Vy (G:Bool):Obj:={cls:=.type "set",dict:=Go,data:=.set #[] 0 (.fresh 0 0 G)}
theorem amR {h:Heap}{a:Addr}{G:Bool}(ho:h.get? a=Dn (Vy G)):qP prog w h a 0 (λ_=>[]) (λ_=>0):=
 ⟨0,.fresh 0 0 G,ho,rfl,rfl,rfl,by decide,by decide,λj hj=>absurd hj (by simp[JW]),nofun⟩
end
section
variable {X:Cx}{K:BW}
noncomputable def ad5 (K:BW)(H:Hp):List V->List (List Int)->Prop:=Wy λv k=>∃b,v=.ref b/\Lq K H b (k.map V.int)
noncomputable def agv (a:Addr)(n:Nat):HO:=.ext λh=>∃es ep t,h.get? a=Dn (Q0 es ep t)/\t.fits es.size=true/\es.size=n
theorem Gg {prog:IW}{w:IV}:∀{k:List Int}{us:List JI},CZ (k.map V.int) us->ItemsAre (RJ prog w) k us
 | [],_,.nil=>.nil
 | i::k,_,.cons r t=>by
  obtain⟨tk,rfl⟩:=r;exact .cons (intKind_is _ _ _ _)<|Gg t
theorem yQ {J G}{F}:∀{l}{k:List G}{j:Nat}{x:J},Wy F l k->l[j]?=Dn x->∃y,k[j]?=Dn y/\F x y
 | _,_,0,_,.cons r _,e=>by simp at e;subst e;exact⟨_,rfl,r⟩
 | _,_,j+1,x,.cons _ t,e=>by
  obtain⟨y,a,b⟩:=yQ t (by simpa using e);exact⟨y,by simpa using a,b⟩
theorem ajx {xs}{us}(r:CZ xs us){j:Nat}{u}(e:us[j]?=Dn u):∃x,xs[j]?=Dn x/\RelV x u:=by
 have hl:=r.length;have hj:=(Oi.mp e).1;have G:j<xs.length:=by lia
 obtain⟨y,a,b⟩:=CZ.get r (MH G);simp_all
theorem zba:jX X (.builtin "len") (λxs H Q=>∃(a:Addr) (n:Nat),xs=[.ref a]/\H a=Dn (agv a n)/\n<=1000/\Q (.int n) H):=by
 intro aor s σ H xs us Q I r h;obtain⟨a,n,rfl,J,U,q⟩:=h;obtain⟨u,rfl,G⟩:=vals1 r;cases G;obtain⟨⟨es,ep,t,ho,O,e⟩,_⟩:=I.hok a _ J;exact call_len_set ho ⟨rfl,rfl,rfl⟩ rfl O (by lia) ⟨.int n,H,I.tok _,⟨_,by rw[e]⟩,q⟩
noncomputable def Ip:List W->Option (List Int)
 | []=>Dn []
 | .int i::r=>(Ip r).map (i::·)
 | _=>Go
noncomputable def yP:List W->Option (List (List Int))
 | []=>Dn []
 | .tup ws::r=>(match Ip ws,yP r with
  | some k,Dn l=>Dn (k::l)
  | _,_=>Go)
 | _=>Go
theorem GX {H:Hp}{μ:Mu}:∀{ws:List W}{xs:List V}{k:List Int},aY K H μ ws xs->Ip ws=Dn k->xs=k.map V.int
 | [],xs,k,r,e=>by
  cases e;exact r
 | w::ws,xs,k,r,e=>by
  obtain⟨v,O,J,G,r⟩:=r;cases w with
  | int b=>
   rw[Ip]at e;cases q:Ip ws with
   | none=>rw[q]at e;cases e
   | some U=>
    rw[q]at e;cases e;rw[J,G,GX r q];rfl
  | _=>cases e
theorem Gk {H μ}:∀{ws xs}{kss},aY K H μ ws xs->yP ws=Dn kss->ad5 K H xs kss
 | [],xs,k,r,e=>by
  cases e;exact r ▸ .nil
 | w::ws,xs,kss,r,e=>by
  obtain⟨v,Y,U,O,r⟩:=r;cases w with
  | tup us=>
   obtain⟨p,ys,e1,hs,J⟩:=O;rw[yP]at e;cases q:Ip us with
   | none=>rw[q]at e;cases e
   | some k=>
    cases G:yP ws with
    | none=>rw[q,G]at e;cases e
    | some l=>
     rw[q,G]at e;cases e;exact U ▸ .cons ⟨p,e1,GX J q ▸ hs⟩ (Gk r G)
  | _=>cases e
end
section
variable {κ:Type}[DecidableEq κ]
noncomputable def Vv (kvs:List (κ×V))(k:κ):Option V:=(kvs.find? λkv=>decide (kv.1=k)).map (·.2)
noncomputable def Q9 (kvs:List (κ×V))(k:κ)(v:V):List (κ×V):=
 if(kvs.any λkv=>decide (kv.1=k))=true then kvs.map (λkv=>if kv.1=k then(kv.1,v)else kv)else kvs++[(k,v)]
theorem G7 {p}{r}{k:κ}(e:p.1=k):Vv (p::r) k=Dn p.2:=by simp[Vv,e]
theorem Gm {p}{r}{k:κ}(e:¬p.1=k):Vv (p::r) k=Vv r k:=by simp[Vv,e]
theorem tX (kvs)(k:κ)(v):(Q9 kvs k v).length<=kvs.length+1:=by
 unfold Q9;grind
theorem KV.val {kvs G}(r:KV kvs G)(k:κ):aav (Vv kvs k) (valueAt G k):=by
 induction r with
 | nil=>exact True.intro
 | @cons p q ps qs h t J=>
  obtain⟨h1,h2⟩:=h;by_cases e:p.1=k
  have e':=h1.symm.trans e;have b:valueAt (q::qs) k=Dn q.2:=by simp[valueAt,e']
  rw[G7 e,b];exact h2;have e':¬q.1=k:=λz=>e (h1.trans z)
  have b:valueAt (q::qs) k=valueAt qs k:=by simp[valueAt,e']
  rw[Gm e,b];exact J
theorem KV.any {kvs G}(r:KV kvs G)(k:κ):(kvs.any λkv=>decide (kv.1=k))=G.any λkv=>decide (kv.1=k):=by
 induction r with
 | nil=>rfl
 | cons h t J=>rw[Z1,Z1,J,h.1]
theorem KV.repl {kvs:List (κ×V)}{G:List (κ×JI)}(r:KV kvs G)(k:κ){y:V}{u:JI}(O:RelV y u):
  KV (kvs.map λkv=>if kv.1=k then(kv.1,y)else kv) (G.map λkv=>if kv.1=k then(kv.1,u)else kv):=by
 induction r with
 | nil=>exact .nil
 | @cons p q ps qs h t J=>
  rw[Od];refine .cons ?_ J;lia
theorem KV.put {kvs G}(r:KV kvs G)(k:κ){y}{u}(J:RelV y u):KV (Q9 kvs k y) (stored G k u):=by
 unfold Q9 stored;rw[r.any k];by_cases e:(G.any λkv=>decide (kv.1=k))=true
 rw[if_pos e,if_pos e];exact r.repl k J;rw[if_neg e,if_neg e];exact Paired.snoc r ⟨rfl,J⟩
theorem KV.length {kvs}{G:List (κ×JI)}(r:KV kvs G):kvs.length=G.length:=Paired.length r
end
theorem QM {P w}{k u}(r:RelV (kV k) u):(cQ P w).is k u=true:=by
 cases k with
 | inl i=>obtain⟨t,e⟩:=r;subst e;exact zai P w i t
 | inr x=>obtain⟨t,e⟩:=r;subst e;exact zak P w x t
section
variable {P:IW}{w:IV}{H:Hp}{h:Heap}{a:Addr}
theorem agd {u}(G:MP P w H h)(e:Rd H a u):gD P w H h a u:=e.ok G
theorem aer {kvs}(G:MP P w H h)(e:Rd H a (.dK kvs)):kvs.length<=JN/\(a==WL)=false/\∃vs,KV kvs vs/\h.DictOf (cQ P w) a vs:=
 agd G e
theorem ado {kvs}(G:MP P w H h)(e:H a=Dn (.dK kvs)):kvs.length<=JN/\(a==WL)=false/\∃vs,KV kvs vs/\h.DictOf (cQ P w) a vs:=aer G (.inl e)
end
section
variable {X:Cx}{aor:List (Addr×Obj)}{σ:St}{H:Hp}{s:Ab}{a:Addr}{y v:V}{u r:JI}{o:Option V}{A:Ig}{E:JI->Ab->Prop}
theorem Al.big (I:Al X aor σ H s):WL<s.heap.objs.size:=Nat.lt_trans (by decide) ((I.mod.glob.keeps I.bk).lt)
theorem KY {h' t' G}(I:Al X aor σ H s)(U:Mut (H a))(hs:RK a s.heap h')(Y:∃q,h'.get? a=Dn q)(J:gD X.prog X.w (Iz H a G) h' a G):
  Al X aor σ (Iz H a G) {s with heap:=h',toks:=t'}:=
 I.write U (.inl rfl) (λb q c z=>(hs.2 b c).trans z) Y J
theorem UG {P w}{H'}{h'}{kvs G}(z:kvs.length<=JN)(O:(a==WL)=false)(J:KV kvs G)(dd:h'.DictOf (cQ P w) a G):
  gD P w H' h' a (.dK kvs):=⟨z,O,G,J,dd⟩
end
section
variable {X:Cx}{aor:List (Addr×Obj)}{σ:St}{H:Hp}{s:Ab}{a:Addr}{kvs:List (Key×V)}{k:Key}{u:JI}{A:Ig}{E:JI->Ab->Prop}
end
noncomputable def aeG (i:Expr):Prop:=∀G J,subscripted i false G J=operate [G,J] (getItem G J)
theorem Qq {prog w A}{E s}{env}{value G pos}{T id}{Q}
  (hl:typeLookup (.type T) "__getitem__" = pure (Dn (.builtin id))) (hs:aeG G)
  (h:Bh (Bu prog w) A (eval value env) (λo U=>Bh (Bu prog w) A (eval G env) (λi s₂=>s₂.TypeIs o T/\Bh (Bu prog w) A (getItem o i) Q E s₂) E U) E s) :
  Bh (Bu prog w) A (eval (.Subscript value G pos) env) Q E s:=by
 refine Subscript_<|Lp h (λo U a=>Lp a (λi s₂ J=>?_) λ_ _ x=>x) λ_ _ x=>x
 obtain⟨hT,J⟩:=J;refine Aj<|Aj<|Z4 hT hl ?_
 have b:Bh (Bu prog w) A (subscripted G false o i) (λr O=>Bh (Bu prog w) A (letTemporaryGo value o r >>= λ_=>pure r) Q E O) E s₂:=hs o i ▸ wpAny_operating (Lp J (λr O Y=>Aj (wpAny_letTemporaryGo (HI Y))) λ_ _ x=>x);first
  | exact HI (Aj b)
  | exact Aj b
section
variable {X:Cx}{o i e value:Expr}{pos pos' tpos:Pos}{td ty tv:TE}
end
theorem Fw {P w H}(h:Heap)(G:WL<h.objs.size):gD P w H (h.push {cls:=.type "dict",data:=.dict #[]}) h.objs.size (.dK []):=
 ⟨T7 _,beq_eq_false_iff_ne.mpr (LI (KZ G)),[],.nil,Heap.DictOf.new h⟩
noncomputable def adq:TE:=λ_ H Q=>∀p,H p=Go->Q (.ref p) (Iz H p (.dK []))
section
variable {X:Cx}{pos:Pos}
theorem zbu:PE X (.Dict [] [] pos) adq:=λaor s σ H Q I h=>
 wpAny_Dict_empty ⟨.ref _,_,I.laid (λ_ _ q=>JV _ q) (JL _) (Fw _ I.big),rfl,h _ (I.hok.fresh (JL _))⟩
end
noncomputable def Gu:List (TE×TE)->St->Hp->(List (V×V)->Hp->Prop)->Prop
 | [],_,H,Q=>Q [] H
 | (tk,tv)::r,σ,H,Q=>tk σ H λx H1=>tv σ H1 λy H2=>Gu r σ H2 λps H3=>Q ((x,y)::ps) H3
noncomputable abbrev VV:List (V×V)->List (JI×JI)->Prop:=Wy λp q=>RelV p.1 q.1/\RelV p.2 q.2
noncomputable def PPs (X:Cx)(pos:Pos)(keys:List (Option Expr))(G:List Expr)(trs:List (TE×TE)):Prop:=
 ∀(aor:List (Addr×Obj)) (s:Ab) (σ:St) (H:Hp) (Q:List (V×V)->Hp->Prop),Al X aor σ H s->Gu trs σ H Q ->
  Bh (Bu X.prog X.w) X.A (evalPairs (pairTrees keys G X.env pos)) (λvs s'=>∃ps H',Al X aor σ H' s'/\VV ps vs/\Q ps H') X.xe s
theorem amC {X}{pos}:PPs X pos [] [] []:=λaor s σ H Q I h=>pairTrees_nil_walk ⟨[],H,I,.nil,h⟩
variable {ks:List (Option Expr)}{trs:List (TE×TE)}
theorem akQ {X:Cx}{pos:Pos}{k v:Expr}{J:List Expr}{tk tv:TE}(i:PE X k tk)(f:PE X v tv)(g:PPs X pos ks J trs):
  PPs X pos (Dn k::ks) (v::J) ((tk,tv)::trs):=λaor s σ H Q I h=>
 pairTrees_cons_walk (JC (i aor s σ H _ I h) λu U ⟨x,H1,m,b,e⟩=>JC (f aor U σ H1 _ m e) λw2 O ⟨y,H2,l,Y,d⟩=>
  JC (g aor O σ H2 _ l d) λws o a=>by obtain⟨ps,n,j,G,c⟩:=a;exact ⟨(x,y)::ps,n,j,.cons ⟨b,Y⟩ G,c⟩)
noncomputable def ud (kvs G:List (Key×V)):List (Key×V):=G.foldl (λacc J=>Q9 acc J.1 J.2) kvs
theorem KV.merge:∀{G O kvs J},KV G O->KV kvs J->KV (ud kvs G) (merged J O):=by
 intro G O kvs J r;induction r generalizing kvs J with
 | nil=>intro q;exact q
 | @cons p q ps qs h t Y=>
  intro U;have e:KV (Q9 kvs p.1 p.2) (stored J q.1 q.2):=by
   have:=U.put p.1 h.2
   simp_all
  exact Y e
theorem nA:∀G kvs,(ud kvs G).length<=kvs.length+G.length
 | [],kvs=>by show kvs.length<=kvs.length+0;lia
 | p::r,kvs=>by
  have h1:=nA r (Q9 kvs p.1 p.2);have h2:=tX kvs p.1 p.2;show(ud _ r).length<=_;grind
theorem uU {P w}:∀{kvs ws},VV (kvs.map λkv=>(kV kv.1,kv.2)) ws->∃G,Carries (cQ P w) ws G/\KV kvs G
 | [],_,r=>by cases r;exact⟨[],True.intro,.nil⟩
 | p::kvs,_,r=>by
  cases r with
  | @cons a b as bs h t=>
   obtain⟨G,c,q⟩:=uU t;obtain⟨O,J⟩:=b;exact⟨(p.1,J)::G,⟨QM h.1,rfl,c⟩,.cons ⟨rfl,h.2⟩ q⟩
noncomputable def agF (trs:List (TE×TE)):TE:=fun σ H Q=>∀p,H p=Go->Gu trs σ (Iz H p (.dK [])) λps H2=>H2 p=Dn (.dK [])/\∃kvs:List (Key×V),ps=kvs.map (λkv=>(kV kv.1,kv.2))/\kvs.length<=15/\Q (.ref p) (Iz H2 p (.dK (ud [] kvs)))
variable {keys:List (Option Expr)}
theorem zbR {X}{pos}{G}(h:PPs X pos keys G trs)(J:keys.all (·.isSome)=true)(hl:keys.length=G.length)(h0:keys≠[])
  (Y:keys.length<=15):PE X (.Dict keys G pos) (agF trs):=by
 intro aor s σ H Q I q;refine wpAny_Dict_walk (knd:=cQ _ _) J hl h0 Y<|JC (h aor _ σ _ _ (I.laid (λ_ _ q=>JV _ q) (JL _)<|Fw _ I.big)<|q _<|I.hok.fresh<|JL _) λws n a=>?_;obtain⟨ps,H2,b,U,e,kvs,ep,o,i⟩:=a
 subst ep;obtain⟨f,c,rk⟩:=uU U;obtain⟨z,m,d,g,dd⟩:=ado b.hok e;cases g;refine⟨f,c,dd,λh' O hs=>⟨.ref _,_,?_,rfl,i⟩⟩;have k:(ud [] kvs).length<=JN:=by
  have h1:=nA kvs [];rw[List.length_nil]at h1;rw[Ye];lia
 exact KY b (e ▸ True.intro) hs (let⟨q,_,_,l,_⟩:=O;⟨q,l⟩)<|UG k m (rk.merge .nil) O
noncomputable def aey:W->Option Key
 | .int i=>Dn (.inl i)
 | .str x=>Dn (.inr x)
 | _=>Go
noncomputable def lA (kvs:List (Key×W))(k:Key):Option W:=(kvs.find? λkv=>decide (kv.1=k)).map (·.2)
noncomputable def Wz (kvs:List (Key×W))(k:Key)(w:W):List (Key×W):=
 if(kvs.any λkv=>decide (kv.1=k))=true then kvs.map (λkv=>if kv.1=k then(kv.1,w)else kv)else kvs++[(k,w)]
section
variable {K:BW}{H:Hp}{kvs:List (Key×W)}{kvv:List (Key×V)}{k:Key}{w:W}{v:V}
theorem xJ (r:CR K H μ w v)(e:aey w=Dn k):v=kV k:=by
 cases w with
 | int i|str x=>rw[CR]at r;cases e;exact r
 | _=>cases e
theorem uz.val (r:uz K H μ kvs kvv)(e:lA kvs k=Dn w):∃v,Vv kvv k=Dn v/\CR K H μ w v:=by
 induction r with
 | nil=>cases e
 | @cons p q ps qs h t G=>
  by_cases z:p.1=k
  have e1:lA (p::ps) k=Dn p.2:=by simp[lA,z]
  rw[e1]at e;cases e;exact⟨q.2,G7<|h.1.symm.trans z,h.2⟩;have e1:lA (p::ps) k=lA ps k:=by simp[lA,z]
  rw[e1]at e;obtain⟨v,a,b⟩:=G e;exact⟨v,by rwa[Gm<|λy=>z<|h.1.trans y],b⟩
theorem uz.any (r:uz K H μ kvs kvv)(k):(kvs.any λkv=>decide (kv.1=k))=(kvv.any λkv=>decide (kv.1=k)):=by
 induction r with
 | nil=>rfl
 | @cons p q ps qs h t G=>rw[Z1,Z1,G,h.1]
theorem uz.repl (r:uz K H μ kvs kvv)(J:CR K H μ w v)(k):uz K H μ (kvs.map λkv=>if kv.1=k then(kv.1,w)else kv) (kvv.map λkv=>if kv.1=k then(kv.1,v)else kv):=by
 induction r with
 | nil=>exact .nil
 | @cons p q ps qs h t G=>
  rw[Od];refine .cons ?_ G;grind
theorem uz.put (r:uz K H μ kvs kvv)(G:CR K H μ w v)(k):uz K H μ (Wz kvs k w) (Q9 kvv k v):=by
 unfold Wz Q9;rw[<-r.any k];by_cases e:(kvs.any λkv=>decide (kv.1=k))=true
 rw[if_pos e,if_pos e];exact r.repl G k;rw[if_neg e,if_neg e];exact Paired.snoc r ⟨rfl,G⟩
theorem Iu.dctAt {h:Gh}{n:Nat}(R:Iu K μ H h)(e:h.c n=Dn (.dct kvs)):∃p kvv,μ.f n=Dn p/\H p=Dn (.dK kvv)/\uz K H μ kvs kvv:=by
 obtain⟨p,e1,xs,e2,r⟩:=R.cel n _ e;simp_all
end
section
variable {X:Cx}{a b:Expr}{mb:ME}{pos:Pos}
noncomputable def TQ:M2:=λx y h Q=>match x,aey y with
 | .loc n,Dn k=>(match h.c n with
  | some (.dct kvs)=>(match lA kvs k with
   | some w=>Q w h
   | none=>False)
  | _=>False)
 | _,_=>False
theorem amr {o i td ty}(ho:PE X o td)(hi:PE X i ty)(hs:aeG i):PE X (.Subscript o i pos) (fun σ H Q=>td σ H λx H1=>ty σ H1 λy H2=>∃a kvs k v,x=.ref a/\Rd H2 a (.dK kvs)/\y=kV k/\Vv kvs k=Dn v/\Q v H2):=by
 intro aor s σ H Q I h;refine Qq PySem.F.slot_dict_getitem.lookup hs<|JC (ho aor s σ H _ I h) λu U ⟨x,H1,m,c,f⟩=>JC (hi aor U σ H1 _ m f) λiv p b=>?_;obtain⟨y,H2,O,Y,a,kvs,k,v,ex,e,j,l,d⟩:=b
 subst ex j;obtain rfl:u=Value.ref a:=c;obtain⟨z,q,n,J,dd⟩:=aer O.hok e;obtain⟨w',g,G⟩:=aav.some_of (l ▸ J.val k);exact⟨dd.typeIs,wpAny_getItem_of (QM Y) dd.mapOf g ⟨v,H2,O.tok _,G,d⟩⟩
theorem Uc (ha:DE X a ma)(g:DE X b mb)(hs:aeG b):DE X (.Subscript a b pos) (Mk TQ ma mb):=(amr ha g hs).of fun σ H Q h=>two h λ{H2 μ2 h2 x y o l q} R Y U m k=>by
 unfold TQ at m;split at m
 rename_i n c e;split at m
 rename_i kvs j;split at m
 rename_i w i;obtain⟨p,kvv,f,d,O⟩:=R.dctAt j;obtain⟨p',e1,G⟩:=Y;obtain rfl:=by rw[f]at G;exact(Ma G).symm
 obtain⟨v,e2,J⟩:=O.val i;exact⟨p',kvv,c,v,e1,.inl d,xJ U e,e2,k _ _ ⟨μ2,w,h2,.refl,R,J,m⟩⟩;cases m;cases m;cases m
noncomputable def ace:aaL:=λo i v H N=>∃a kvs k,o=.ref a/\H a=Dn (.dK kvs)/\i=kV k/\kvs.length<JN/\N (Iz H a (.dK (Q9 kvs k v)))
theorem set_dict:aeM X ace:=by
 rintro aor s σ H o i v Y j u Q I ro U O ⟨a,kvs,k,f,e,g,l,q⟩;subst f g;obtain rfl:Y=Value.ref a:=ro;obtain⟨z,d,h,G,dd⟩:=ado I.hok e;refine wpAny_setItem_pairs (hsz:=(G.length ▸ z)) (QM U) dd λh' J hs=>⟨_,?_,q⟩;exact KY I (e ▸ True.intro) hs (let⟨q,_,_,c,_⟩:=J;⟨q,c⟩)<|UG (by have:=tX kvs k v;lia) d (G.put k O) J
noncomputable def p8:aaR:=λo i w h N=>match o,aey i with
 | .loc n,Dn k=>(match h.c n with
  | some (.dct kvs)=>fV (kvs.length+1) (N (h.set n (.dct (Wz kvs k w))))
  | _=>False)
 | _,_=>False
theorem gB {K}:Qj K ace p8:=by
 intro H μ h o i v d wi w f N R ro Y r m k;unfold p8 at m;split at m
 rename_i n U e;split at m
 rename_i kvs b;obtain⟨p,kvv,J,a,O⟩:=R.dctAt b;obtain⟨p',e1,G⟩:=ro;obtain rfl:=by rw[J]at G;exact(Ma G).symm
 refine⟨p',kvv,U,e1,a,xJ Y e,?_,k _ ⟨μ,_,(Ex.write R J).ext,R.write (c:=.dct _) J trivial ⟨_,aV,(uz.put (Paired.mapP O λ_ _ z=>⟨z.1,(Ex.write R J).ext.r _ _ z.2⟩) ((Ex.write R J).ext.r _ _ r) U)⟩,m.ok.2⟩⟩;have:=m.ok.1
 rw[Paired.length O]at this;lia;cases m;cases m
noncomputable def mDs:List (Key×ME)->MA
 | [],_,h,Q=>Q [] h
 | p::r,σ,h,Q=>p.2 σ h λw h1=>mDs r σ h1 λws h2=>Q (w::ws) h2
noncomputable def mkD:List (Key×ME)->List W->List (Key×W)->List (Key×W)
 | p::r,w::ws,acc=>mkD r ws (Wz acc p.1 w)
 | _,_,acc=>acc
noncomputable def PB (r:List (Key×ME)):ME:=fun σ h Q=>mDs r σ (h.new (.dct [])) λws h2=>match h2.c h.nx with
 | some (.dct [])=>Q (.loc h.nx) (h2.set h.nx (.dct (mkD r ws [])))
 | _=>False
inductive RW (X:Cx):List (Option Expr)->List Expr->List (Key×ME)->Prop
 | nil:RW X [] [] []
 | cons {x:Str} {j pos} {v:Expr}{m:ME}{ks:List (Option Expr)}{vs:List Expr}{r:List (Key×ME)}(h:DE X v m) (t:RW X ks vs r):RW X (Dn (.Constant (.str x) j pos)::ks) (v::vs) ((.inr x,m)::r)
noncomputable def trD (K:BW)(r:List (Key×ME)):List (TE×TE):=r.map λp=>(tC (kV p.1),tD K p.2)
theorem RW.pps {G}{r}(h:RW X ks G r):PPs X pos ks G (trD X.K r):=by
 induction h with
 | nil=>exact amC
 | cons h t J=>exact akQ Vn h J
theorem RW.all {ks J}{r}(h:RW X ks J r):ks.all (·.isSome)=true/\ks.length=J.length/\ks.length=r.length:=by
 induction h with
 | nil=>exact⟨rfl,rfl,rfl⟩
 | cons h t G=>exact⟨by rw[List.all_cons,G.1];rfl,by rw[PL,PL,G.2.1],by rw[PL,PL,G.2.2]⟩
theorem Eu {K:BW}:∀{r:List (Key×ME)}{σ:St}{H:Hp}{μ:Mu}{h:Gh}{σw:Sw}{G:List W->Gh->Prop}{Q:List (V×V)->Hp->Prop},Iu K μ H h->Slots K H μ σw σ->mDs r σw h G ->
  (∀(J:List V) (ws:List W) (H':Hp) (μ':Mu) (h':Gh),Ji K H μ H' μ'->Iu K μ' H' h'->aY K H' μ' ws J->J.length=r.length->G ws h'->Q ((r.zip J).map λp=>(kV p.1.1,p.2)) H')->Gu (trD K r) σ H Q
 | [],σ,H,μ,h,σw,G,Q,R,S,m,k=>k [] [] H μ h .refl R aY.nil rfl m
 | p::r,σ,H,μ,h,σw,G,Q,R,S,m,k=>⟨μ,h,σw,_,R,S,m,λv H1 a=>by obtain⟨μ1,w,h1,e1,Y,U,m1⟩:=a;exact (Eu Y (S.ext e1) m1 λvs ws H2 μ2 h2 e2 R2 O hl q=>(k _ _ H2 μ2 h2 (e1.trans e2) R2 (aY.cons (e2.r _ _ U) O) (by rw[PL,PL,hl]) q))⟩
theorem Vx {K H μ}:∀{r ws J}{acc}{G},aY K H μ ws J->J.length=r.length->uz K H μ acc G ->
  uz K H μ (mkD r ws acc) (ud G ((r.zip J).map λp=>(p.1.1,p.2)))
 | [],ws,J,acc,G,O,hl,Y=>by
  assumption
 | p::r,ws,J,acc,G,O,hl,Y=>by
  cases ws with
  | nil=>rw[aY]at O;subst O;cases hl
  | cons w ws=>
   obtain⟨v,a,e,b,U⟩:=O;subst e;exact Vx (r:=r) U (by simpa using hl)<|Y.put b _
theorem U3 {U}{r}(h:RW X ks U r)(h0:ks≠[])(O:ks.length<=15):DE X (.Dict ks U pos) (PB r):=
 (zbR h.pps h.all.1 h.all.2.1 h0 O).of fun σ H Q a p Y=>by
  obtain⟨μ,g,σw,n,R,S,m,q⟩:=a;have l:Iu _ _ (Iz H p (.dK [])) (g.new (.dct [])):=R.newCell Y trivial ⟨[],aV,.nil⟩;have e1:=(Ex.newCell (o:=.dK []) R Y).ext;refine Eu l (S.ext e1) m λvs' ws H2 μ2 h2 e2 R2 d hl z=>?_;split at z
  rename_i k;obtain⟨p',kvv,J,j,e⟩:=R2.dctAt k;have f:CR X.K (Iz H p (.dK [])) (μ.put g.nx p) (.loc _) (.ref p):=⟨p,rfl,Mu.put_same⟩
  obtain⟨i,ep,G⟩:=(e2.r _ _ f)
  cases ep;obtain rfl:=by rw[G]at J;exact(Ma J).symm
  cases e;refine⟨j,(r.zip vs').map (λp=>(p.1.1,p.2)),by rw[X4];rfl,?_,?_⟩;rw[Ik,List.length_zip,hl,<-h.all.2.2,Nat.min_self];exact O;have b:=(Ex.write (o:=.dK (ud [] ((r.zip vs').map (λp=>(p.1.1,p.2))))) R2 G).ext;exact q _ _ ⟨μ2,.loc _,_,(e1.trans e2).trans b,R2.write (c:=.dct _) G trivial ⟨_,aV,(Vx (b.s d) hl .nil)⟩,⟨p',rfl,G⟩,z⟩;cases z
end
inductive DW (w:IV) (K:BW):List DictEntry->List (Key×W)->Prop
 | nil:DW w K [] []
 | cons {x:Str} {t} {v:V}{u:JI}{d:W}{es:List DictEntry}{tbl:List (Key×W)}(r:RelV v u) (q:∀H μ,CR K H μ d v) (h:DW w K es tbl):DW w K (⟨Y7 w.params x,.str x t,u⟩::es) ((.inr x,d)::tbl)
noncomputable def aeA (w:IV)(K:BW)(a:Addr)(tbl:List (Key×W)):Prop:=(a==WL)=false/\(tbl.map (·.1)).Nodup/\tbl.length<=JN/\∃es n,K.lookup a=Dn ⟨.type "dict",Go,.dict es n,#[]⟩/\DW w K es.toList tbl
variable {tbl:List (Key×W)}
theorem DW.pairs {P w K}{es}(h:DW w K es tbl):
  (∀e∈es,∃k,(cQ P w).is k e.key=true/\e.hash=(cQ P w).hash k)/\∃G kvv,Pairs (cQ P w) es G/\KV kvv G/\(∀H μ,uz K H μ tbl kvv)/\G.map (·.1)=tbl.map (·.1):=by
 induction h with
 | nil=>exact⟨λe z=>(nomatch z),[],[],.nil,.nil,λ_ _=>.nil,rfl⟩
 | @cons x t v u d es tbl r q h O=>
  obtain⟨h1,G,kvv,h2,a,Y,U⟩:=O;have J:(cQ P w).is (.inr x) _=true:=QM ⟨t,rfl⟩;refine⟨λe z=>?_,(.inr x,u)::G,(.inr x,v)::kvv,.cons J rfl h2,.cons ⟨rfl,r⟩ a,λH μ=>.cons ⟨rfl,q H μ⟩<|Y H μ,by rw[Od,Od,U]⟩;rcases ML.mp z with z|z
  subst z;exact⟨.inr x,J,rfl⟩;exact h1 e z
theorem aeA.dict {X}{aor}{σ:St}{H s}{a}(T:aeA X.w X.K a tbl)(I:Al X aor σ H s):
  ∃G kvv,s.heap.DictOf (cQ X.prog X.w) a G/\KV kvv G/\∀H μ,uz X.K H μ tbl kvv:=by
 obtain⟨_,J,_,es,n,hl,O⟩:=T;obtain⟨h1,G,kvv,h2,b,Y,U⟩:=O.pairs;exact⟨G,kvv,⟨_,es,n,I.kIn _ _ hl,⟨rfl,rfl,rfl⟩,rfl,λe z=>h1 e<|Array.mem_toList_iff.mpr z,h2,U ▸ J⟩,b,Y⟩
section
variable {X:Cx}{b:Expr}{mb:ME}{pos p:Pos}{x:Str}{a:Addr}
noncomputable def aeP (tbl:List (Key×W))(mb:ME):ME:=fun σ h Q=>mb σ h λy h1=>match aey y with
 | some k=>(match lA tbl k with
  | some w=>Q w h1
  | none=>False)
 | none=>False
theorem agm (T:aeA X.w X.K a tbl)(hg:Gl X x)(hm:X.mg x=Dn (.ref a))(hb:DE X b mb)(hs:aeG b)(hd:(x==("__debug__" : Str))=false:=by decide):DE X (.Subscript (.Name x p) b pos) (aeP tbl mb):=by
 rintro aor s σ H Q I ⟨μ,g,σw,Qw,R,S,m,q⟩;refine Qq PySem.F.slot_dict_getitem.lookup hs<|JC ((Cr hg hm rfl hd:PE X _ (tC<|.ref a)) aor s σ H (λv H'=>v=.ref a/\H'=H) I ⟨rfl,rfl⟩) λu s1 c=>?_;obtain⟨v1,H1,I1,rx,ev,eH⟩:=c
 subst ev eH;obtain rfl:u=Value.ref a:=rx;refine JC (hb aor s1 σ H1 _ I1 ⟨μ,g,σw,_,R,S,m,λy H2 z=>z⟩) λiv s2 d=>?_;obtain⟨y,H2,I2,ry,μ2,wy,h2,e2,R2,r2,z⟩:=d;obtain⟨vs,kvv,dd,rel,rf⟩:=T.dict I2;split at z
 rename_i k ek;split at z
 rename_i w ew;cases xJ r2 ek
 obtain⟨v,ev,rv⟩:=(rf H2 μ2).val ew;obtain⟨w',hw,rw'⟩:=aav.some_of (ev ▸ rel.val k);exact⟨dd.typeIs,wpAny_getItem_of (QM ry) dd.mapOf hw ⟨v,H2,I2.tok _,rw',q _ _ ⟨μ2,w,h2,e2,R2,rv,z⟩⟩⟩;cases z;cases z
end
section
variable {X:Cx}{pos p p':Pos}{x:Str}{a:Addr}
end
section
variable {X:Cx}
end
section
variable {X:Cx}{K:BW}{H:Hp}{h:Gh}
end
section
variable {X:Cx}{a b c:Expr}{mb mc:ME}{pos:Pos}
end
section
variable {K:BW}{H:Hp}{fs:List (Str×W)}{fvs:List (Str×V)}{f:Str}{w:W}{v:V}
end
section
variable {X:Cx}{e o value:Expr}{es:List Expr}{mv:ME}{f:Str}{C:Addr}{pos pos' apos:Pos}
end
section
variable {prog:IW}{w:IV}{A:Ig}{E:JI->Ab->Prop}{s:Ab}
end
section
variable {X:Cx}
end
section
variable {X:Cx}{e:Expr}{me:ME}{x:Str}{a:Addr}{p pos:Pos}
end
section
variable {X:Cx}{C:Addr}{o e:Expr}{es:List Expr}{pos apos:Pos}
end
section
variable {X:Cx}{aor:List (Addr×Obj)}{σ:St}{H:Hp}{s:Ab}{K:BW}
end
section
variable {X:Cx}{a b o i:Expr}{mb:ME}{td ty:TE}{pos:Pos}
end
section
variable {prog:IW}{w:IV}{A:Ig}{E:JI->Ab->Prop}{s:Ab}
end
section
variable {X:Cx}
end
noncomputable def reo (es:Array (Int×JI))(laid:Option (T8×Array Nat)):Sem (Array (Int×JI)×T8):=do
 let Dn (t,order):=laid|unsupported "internal:set-table-without-room"
 let es':=order.filterMap (es[·]?)
 if es'.size != es.size then unsupported "internal:set-table-lost-an-element"
 pure (es',t)
theorem ajQ (a)(G):setRelay a G=(do
 let(es,_,t) <-setState a
 if SetTable.sizeAbove G>JN then unsupported "set:memory"
 let(es,t) <-reo es (t.relaid (es.map (·.1)) G)
 storeSet a es t):=rfl
noncomputable def ps (h:Int):Nat->Nat×Nat
 | 0=>(T5 h % 32,T5 h)
 | n+1=>SetTable.leap 31 (ps h n).1 (ps h n).2
theorem ac2 (h):∀n,(ps h n).1<32
 | 0|n+1=>Nat.mod_lt _ (by decide)
theorem Ni (h:Int):∀n,(ps h n).2=T5 h / 32^n
 | 0=>by simp[ps]
 | n+1=>by
  show(ps h n).2 / 32=_;rw[Ni h n,Nat.div_div_eq_div_mul,Nat.pow_succ]
theorem alI (h)(n)(G:13<=n):(ps h n).2=0:=by
 rw[Ni];apply Nat.div_eq_of_lt;have h1:T5 h<2^64:=by
  unfold T5;lia
 have h2:32^13<=32^n:=Nat.pow_le_pow_right (by decide) G;lia
noncomputable def lcs:Nat->Nat->Nat
 | i,0=>i
 | i,k+1=>(lcs i k*5+1) % 32
theorem V2 (h):∀k,(ps h (13+k)).1=lcs (ps h 13).1 k
 | 0=>rfl
 | k+1=>by
  show((ps h (13+k)).1*5+1+(ps h (13+k)).2 / 32) % (31+1)=_;rw[alI h _ (by lia),V2 h k];rfl
theorem ake:∀i:Fin 32,∀j:Fin 32,∃k:Fin 32,lcs i k=j.val:=by decide +kernel
theorem aee (h){j}(hj:j<32):∃n,n<45/\(ps h n).1=j:=by
 obtain⟨k,e⟩:=ake ⟨(ps h 13).1,ac2 h 13⟩ ⟨j,hj⟩;exact⟨13+k.val,by lia,by rwa[V2]⟩
theorem abk {i:Nat}(h:i<32):i<=Zw 31 i/\Zw 31 i<32:=by
 unfold Zw;grind
theorem KH (owner)(h):∀d n G,d<G->owner.getD (ps h (n+d)).1 (Dn 0)=Go->∃j,j<32/\owner.getD j (Dn 0)=Go/\vP 31 owner G (ps h n).1 (ps h n).2=Dn j
 | d,n,G+1,J,e=>by
  unfold vP;have hl:=abk (ac2 h n);cases q:(Qv _).find? λk=>(owner.getD _ _).isNone with
  | some k=>
   have h2:=XC.mp (List.mem_of_find?_eq_some q);exact⟨(ps h n).1+k,by omega,by simpa using(List.find?_some q),rfl⟩
  | none=>
   cases d with
   | zero=>
    rw[List.find?_eq_none]at q;refine absurd ?_<|q 0<|XC.mpr<|by omega
    rw[Nat.add_zero]at e|-
    simp_all
   | succ d=>
    exact KH owner h d _ G (by lia)<|show n+1+d=n+(d+1) by lia ▸ e
variable {owner:Array (Option Nat)}
theorem alO (h){j}(hj:j<32)(e:owner.getD j (Dn 0)=Go):∃j,j<32/\owner.getD j (Dn 0)=Go/\vP 31 owner (SetTable.turns 31) (T5 h % (31+1)) (T5 h)=Dn j:=by
 obtain⟨n,J,G⟩:=aee h hj;have:=KH owner h n 0 46 (by lia) (by rw[YW,G];exact e)
 exact this
noncomputable def liv (o:Array (Option Nat)):List (Nat×Nat):=(Qv 32).filterMap λj=>(o.getD j Go).map (j,·)
theorem VN {f g:Nat->Option (Nat×Nat)}{j}(Y:f j=Go)(U:(g j).isSome=true)(J:∀i,i≠j->g i=f i):∀l:List Nat,l.Nodup->(l.filterMap g).length=(l.filterMap f).length+(if j∈l then 1 else 0)
 | [],_=>by simp
 | a::l,G=>by
  rw[WT]at G;have O:=VN Y U J l G.2;by_cases z:a=j
  subst z;rw[if_neg G.1]at O;rw[if_pos (T9 ..)];obtain⟨y,b⟩:=Option.isSome_iff_exists.mp U
  simp_all
  ·have e1:(if j∈a::l then 1 else 0)=(if j∈l then 1 else 0):=by
    simp[show ¬j=a from λq=>z q.symm]
   rw[e1];cases q:f a with
   | none=>rw[List.filterMap_cons_none (by rw[J a z,q]),List.filterMap_cons_none q];exact O
   | some y=>rw[List.filterMap_cons_some (by rw[J a z,q]),List.filterMap_cons_some q,PL,PL];lia
theorem VL {f:Nat->Option (Nat×Nat)}{g:Nat->Nat×Nat}:∀l:List Nat,(∀j∈l,f j=Dn (g j))->l.filterMap f=l.map g
 | [],_=>rfl
 | a::l,h=>by rw[List.filterMap_cons_some (h a (T9 ..)),Od,VL l λj hj=>h j (RN _ hj)]
structure Lay (o:Array (Option Nat)) (k:Nat):Prop where
 sz:o.size=32
 len:(liv o).length=k
 low:∀p,p∈liv o->p.2<k
theorem Lay.room {o k}(L:Lay o k)(U:k<32):∃j,j<32/\o.getD j (Dn 0)=Go:=by
 apply QK;intro J;have G:∀j,j<32->∃v,o.getD j Go=Dn v:=λj hj=>by
  cases q:o.getD j Go with
  | some v=>exact⟨v,rfl⟩
  | none=>
   refine absurd ⟨j,hj,?_⟩ J;simp[(L.sz ▸ hj)]at q|-
   exact q
 have e:liv o=(Qv 32).map λj=>(j,(o.getD j Go).getD 0):=by
  refine VL _ λj hj=>?_;obtain⟨v,O⟩:=G j (XC.mp hj);rw[O];rfl
 have:=L.len
 simp_all
theorem Lay.put {o k j}(L:Lay o k)(hj:j<32)(e:o.getD j (Dn 0)=Go):Lay (o.setIfInBounds j (Dn k)) (k+1):=by
 have J:o.getD j Go=Go:=by
  grind
 have e1:(o.setIfInBounds j (Dn k)).getD j Go=Dn k:=by
  simp[(L.sz ▸ hj)]
 have e2:∀i,i≠j->(o.setIfInBounds j (Dn k)).getD i Go=o.getD i Go:=λi hi=>by
  rw[Array.getD_eq_getD_getElem?,Array.getD_eq_getD_getElem?,Array.getElem?_setIfInBounds_ne (LI hi)]
 refine⟨by rw[Array.size_setIfInBounds];exact L.sz,?_,?_⟩;have:=VN (f:=λi=>(o.getD i Go).map _) (g:=λi=>((o.setIfInBounds j _).getD i Go).map (i,·)) (by rw[J];rfl) (by rw[e1];rfl) (λi hi=>by rw[e2 i hi]) (Qv 32) List.nodup_range
 rw[if_pos (XC.mpr hj)]at this;have l:=L.len;unfold liv at l|-
 lia;intro p G;obtain⟨i,hi,ep⟩:=List.mem_filterMap.mp G;by_cases z:i=j
 rw[z,e1]at ep;cases ep;exact Nat.lt_succ_self _;rw[e2 i z]at ep;have:=L.low p (List.mem_filterMap.mpr ⟨i,hi,ep⟩)
 lia
theorem DR:∀(hs:List Int) (o) (k),Lay o k->k+hs.length<32->∃o',Lay o' (k+hs.length)/\hs.foldl (λ(acc) h=>do
  let(owner,k) <-acc
  let j <-vP 31 owner (SetTable.turns 31) (T5 h % (31+1)) (T5 h)
  pure (owner.setIfInBounds j (Dn k),k+1)) (Dn (o,k))=Dn (o',k+hs.length)
 | [],o,k,L,_=>⟨o,L,rfl⟩
 | h::hs,o,k,L,hl=>by
  rw[PL]at hl;obtain⟨O,G,J⟩:=L.room (by lia);obtain⟨j,hj,e,U⟩:=alO h G J;obtain⟨o',Y,e'⟩:=DR hs _ _ (L.put hj e) (by lia);grind
theorem lay0:Lay (Array.replicate 32 Go) 0:=⟨by simp,by decide +kernel,λp G=>by
 have:liv (Array.replicate 32 Go)=[]:=by decide +kernel
 rw[this]at G;cases G⟩
theorem zce (f mv:Nat)(J U:Bool)(hs:Array Int)(h:hs.size<32):∃t G,SetTable.laid 31 f mv J U hs=Dn (t,G)/\t.place.size=hs.size/\t.dummies=#[]/\t.mask=31/\G.size=hs.size/\∀i,i∈G->i<hs.size:=by
 obtain⟨o,L,e⟩:=DR hs.toList _ 0 lay0 (by simpa using h);have a:alp 31 hs=Dn o:=by
  unfold alp;simp_all
 have O:(0+hs.toList.length)=hs.size:=by simp
 rw[O]at L;refine⟨_,_,by unfold SetTable.laid;rw[a];rfl,?_,rfl,rfl,?_,?_⟩;rw[Mp,Ik];exact L.len;rw[Mp,Ik];exact L.len;intro i hi;rw[List.mem_toArray]at hi;obtain⟨p,Y,rfl⟩:=Nm.mp hi;exact L.low p Y
noncomputable def Ij (h:Heap)(a:Addr)(n:Nat):Prop:=∃es ep t,h.get? a=Dn (Q0 es ep t)/\t.fits es.size=true/\es.size=n
theorem zcg {J:Type}(es:Array J)(G:Array Nat)(h:∀i,i∈G->i<es.size):(G.filterMap (es[·]?)).size=G.size:=by simp_all
section
variable {prog:IW}{w:IV}{A:Ig}{E:JI->Ab->Prop}{s:Ab}{a:Addr}
theorem zag {es t}{Q}(ho:s.heap.get? a=Dn (Q0 es ep t))(Y:t.fits es.size=true)(c:es.size<32)
  (h:∀h',RK a s.heap h'->Ij h' a es.size->Q () {s with heap:=h'}):Bh (Bu prog w) A (setRelay a 20) Q E s:=by
 rw[ajQ];refine Aj<|Yj ho rfl Y ?_
 dsimp only;obtain⟨J,G,f,h1,h2,g,d,b⟩:=zce _ _ _ _ (es.map _) (by simpa using c);have e:t.relaid _ 20=Dn (J,G):=f;rw[e];have hs:(G.filterMap (es[·]?)).size=es.size:=by
  rw[zcg es G (λi hi=>by have:=b i hi;simpa using this),d];simp
 have O:reo es (Dn (J,G))=pure (G.filterMap (es[·]?),J):=by
  unfold reo;dsimp only;rw[hs];simp
 rw[O];refine wpAny_storeSet_of ho rfl (h _ (Xo ..) ?_) (by rw[hs,Ye];lia);refine⟨G.filterMap _,ep+1,J,?_,?_,hs⟩;have:=S7 (Obj.putSet (G.filterMap (es[·]?)) J) ho rfl
 exact this;unfold SetTable.fits SetTable.fill;rw[h1,h2];simp;lia
end
section
variable {prog:IW}{w:IV}{A:Ig}{E:JI->Ab->Prop}{s:Ab}{t:T8}{a b:Addr}{k:List Int}
theorem zah {Q}(P:A.units<Nb)(S:qP prog w s.heap a m ka ad)(W:TK prog w s.heap k b)(D:(JW m).length=4)
  (H:(∃j,j∈JW m/\ka j=k)->∀tk,Q false {s with toks:=tk})
  (no:(∀j,j∈JW m->ka j≠k)->∀h' tk,RK a s.heap h'->Ij h' a 5->Q true {s with heap:=h',toks:=tk}) :
  Bh (Bu prog w) A (setAdd a (.ref b)) Q E s:=by
 obtain⟨ep,t,ho,T⟩:=S;refine Ot<|Aj<|wpAny_pyHash_tuple P W ?_
 refine Ot ?_;generalize d:({s with toks:=s.toks+(k.length+1)}:Ab)=s1;have g:s1.heap=s.heap:=by rw[<-d]
 have O:s1.heap.get? a=Dn (Q0 (elL prog w m ka ad).toArray ep t):=by rw[g];exact ho
 have L:V9 prog w s1.heap m ka ad t:=by rw[g];exact T
 have v:TK prog w s1.heap k b:=by rw[g];exact W
 refine Aj<|Yj O rfl L.fits ?_
 obtain⟨M,I⟩:=Ei ⟨m,T.m8⟩ (by show(JW m).length<8;lia);obtain⟨N,hN,G,K⟩:=road (m:=m) _ ⟨M.val,M.isLt,I⟩;refine Aj<|jH (h:=Sq (RJ prog w) k) rfl P O rfl L v G K (λy=>?_) (λn=>?_) 100000 0 Go (by rw[Option.getD_none];exact Hv T.mask _) (by lia) (by lia) (by lia) λi hi=>absurd hi<|Te _
 rw[<-d];exact HI<|H y _
 dsimp only;have u:∀j,j∈JW m->ka j≠k:=λj hj z=>by
  obtain⟨i,e,l⟩:=T.way j hj;have g:hT prog w (ka j)=Sq (RJ prog w) k:=by rw[z];rfl
  rw[g]at e l;rcases Nat.lt_trichotomy i N with q|q|q
  exact n i q (by rw[e];exact z);rw[q]at e;rw[e,(gZ.mp hj).2]at G;cases G;rw[l N q]at G;cases G
 refine Aj<|Yj O rfl L.fits ?_
 have U:=wC (Sq (RJ prog w) k) N;generalize hjj:(pq _ N).fst=j at G U|-
 have r:t.put j=({t with place:=(JW (m ||| 2^j)).toArray},rk m j):=by
  unfold SetTable.put;have e1:=(qD ⟨m,T.m8⟩ ⟨j,U⟩).1;have e2:=(xZ ⟨m,T.m8⟩ ⟨j,U⟩ G).1;have e3:Y0 (JW m).toArray (rk m j) j=(JW (m ||| 2^j)).toArray:=by
   apply Array.ext';rw[SetTable.toList_insertAt,e2]
  rw[T.place,T.dum,e1];dsimp only;rw[e3,if_neg (by simp[SetTable.has])]
 have e:=wu ⟨m,T.m8⟩ ⟨j,U⟩ G;dsimp only at e;have Y:({t with place:=(JW (m ||| 2^j)).toArray}:T8).tooFull=true:=by
  unfold SetTable.tooFull SetTable.fill;rw[T.mask,T.dum];simp only[Mp,e,D];decide
 rw[r];have C:(elL prog w m ka ad).toArray.size+1=5:=by
  unfold elL;rw[Mp,Ik,D]
 have F:(Y0 (elL prog w m ka ad).toArray (rk m j) (Sq (RJ prog w) k,Value.ref b)).size=5:=by
  have Z:=Vh (prog:=prog) (w:=w) (ka:=ka) (ad:=ad) (k:=k) (b:=b) T.m8 U G;unfold hT at Z;rw[Z];unfold elL;rw[Mp,Ik,e,D]
 have X:SetTable.grown 5=20:=by decide
 have o:∀{R:Unit->Ab->Prop},(∀h',RK a s.heap h'->h'.get? a=Dn (Q0 (Y0 (elL prog w m ka ad).toArray (rk m j) (Sq (RJ prog w) k,Value.ref b)) (ep+1) {t with place:=(JW (m ||| 2^j)).toArray})->R () {s1 with heap:=h'})->Bh (Bu prog w) A (storeSet a (Y0 (elL prog w m ka ad).toArray (rk m j) (Sq (RJ prog w) k,Value.ref b)) {t with place:=(JW (m ||| 2^j)).toArray}) R E s1:=by
  intro R hR;refine wpAny_storeSet_of O rfl (hR _ (by rw[g];exact Xo ..) ?_) (by rw[F,Ye];decide);have:=S7 (Obj.putSet (Y0 (elL prog w m ka ad).toArray (rk m j) (Sq (RJ prog w) k,Value.ref b)) {t with place:=(JW (m ||| 2^j)).toArray}) O (by rfl)
  rw[putSet_of _ _ rfl]at this;exact this
 have f:({t with place:=(JW (m ||| 2^j)).toArray}:T8).fits (Y0 (elL prog w m ka ad).toArray (rk m j) (Sq (RJ prog w) k,Value.ref b)).size=true:=by
  rw[F];unfold SetTable.fits SetTable.fill;rw[T.mask,T.dum];simp only[Mp,e,D];decide
 have B:∀h1,RK a s.heap h1->h1.get? a=Dn (Q0 _ (ep+1) {t with place:=(JW _).toArray})->Bh (Bu prog w) A (setRelay a 20) (λ_ s'=>Q true s') E {s1 with heap:=h1}:=λh1 J x=>by
  refine zag x f (by rw[F];decide) λh' p V=>?_;rw[F]at V;rw[<-d];exact no u h' _ (J.trans p) V
 split
 refine Aj<|zy v ?_
 rw[if_pos rfl,Y];refine Aj<|o λh' J x=>?_
 rw[C,X];refine Aj<|Lp (B h' J x) (λ_ s' z=>HI z) λ_ _ z=>z
 refine Aj<|HI ?_
 rw[if_pos rfl,Y];refine Aj<|o λh' J x=>?_
 rw[C,X];refine Aj<|Lp (B h' J x) (λ_ s' z=>HI z) λ_ _ z=>z
end
section
variable {prog:IW}{w:IV}{A:Ig}{E:JI->Ab->Prop}{R:Result->Ab->Prop}
theorem Ij.of {z}{h}(B:Jd prog w z h S seen m ka ad):Ij h S seen.length:=by
 obtain⟨⟨ep,t,ho,T⟩,_,_,G⟩:=B;exact⟨_,ep,t,ho,T.fits,by unfold elL;rw[Mp,Ik,G]⟩
theorem vU {l I}{items i n s}(hh:A.in1.handled=Go)(J:l≠I)(U:I≠S)(h:i=items.size)(st:s.heap.IsListIter I l i/\s.heap.IsList l items)(B:Ij s.heap S n)
  (f:∀h' tk,Ij h' S n->(∀b o,b≠S->b≠I->s.heap.get? b=Dn o->h'.get? b=Dn o)->R (.ok (.ret .none)) {s with heap:=h',toks:=tk}) :
  TY (Bu prog w) A (.builtin "set.update.loop" ⟨[.ref S,.ref I],[]⟩) R s:=by
 subst h;refine codeAny_builtin F.entry_set_update_loop ?_;rw[Around.under_plainId mR _];refine Aj<|((Walks.list hh I l J items).toS).done s _ _ st λs' d=>?_
 obtain⟨h',p,d',G,c⟩:=s';obtain⟨j,k,m,g,_⟩:=d;subst k;subst m;subst g;have Y:=λb o O e=>j b o (by simpa using O) e
 obtain⟨es,ep,t,ho,q⟩:=B;exact HI<|f h' G ⟨es,ep,t,Y S _ (LI U) ho,q⟩ λb o _ O e=>Y b o O e
theorem sZ {l I S:Addr}{z:Nat}{items:Array JI}{kss:List (List Int)}(hh:A.in1.handled=Go)(Z:A.in1.units<Nb)(c:l≠I)(h:l≠S)(U:I≠S)(C:z<=S)(g:z<=I)(h4:kss.length<=5)(M:items.size=kss.length) :
  ∀(rest:List (List Int)) (i) (s) (seen) (m) (ka) (ad),i+rest.length=kss.length->seen.length<=i ->
   (∀j v,items[i+j]?=Dn v->∃b k,v=.ref b/\rest[j]?=Dn k/\b<z/\TK prog w s.heap k b)->(s.heap.IsListIter I l i/\s.heap.IsList l items)->Jd prog w z s.heap S seen m ka ad ->
   (∀h' tk,Ij h' S (rest.foldl Ql seen).length->(∀b o,b≠S->b≠I->s.heap.get? b=Dn o->h'.get? b=Dn o)->R (.ok (.ret .none)) {s with heap:=h',toks:=tk}) ->
   TY (Bu prog w) A (.builtin "set.update.loop" ⟨[.ref S,.ref I],[]⟩) R s
 | [],i,s,seen,m,ka,ad,hi,_,_,st,B,K=>by
  refine vU hh c U (by rw[M];simpa using hi) st (Ij.of B) λh' tk N f=>K h' tk N f
 | k0::rest,i,s,seen,m,ka,ad,hi,hsl,hit,st,B,K=>by
  have W:=(Walks.list (prog:=prog) (w:=w) hh I l c items).toS;rw[PL]at hi;refine codeAny_builtin F.entry_set_update_loop ?_;show Bh _ A.in1 (pyNext (.ref I) >>= _) _ _ s;refine Aj<|W.item i s _ _ (by lia) st λv s' L d hm=>?_
  obtain⟨b,k,rfl,ek,O,hk⟩:=hit 0 v L;simp only[List.getElem?_cons_zero,Option.some.injEq]at ek;subst ek;obtain⟨h1,g',d',G,os'⟩:=s';obtain⟨eh,eg,ed,eo,_⟩:=hm;simp only at eg ed eo;subst eg;subst ed;subst eo;have Y:∀b o,b≠I->s.heap.get? b=Dn o->h1.get? b=Dn o:=λb o O e=>eh b o (by simpa using O) e
  have X:∀{k b},b<z->TK prog w s.heap k b->TK prog w h1 k b:=λ{k b} O ⟨o,i,n,e,r⟩=>⟨o,i,n,Y b o (KZ (Ke O g)) e,r⟩
  have V:=B.keep (h':=h1) (λo e=>Y S o (LI U) e) λb o O e=>Y b o (KZ (Ke O g)) e
  by_cases H:(JW m).length<=3
  rotate_left
  have Q:(JW m).length=4:=by rw[B.len]at H|-;lia
  have hr:rest=[]:=ur (by rw[B.len]at H;lia);subst hr;show Bh _ A.in1 (Ww [Value.ref b] (setAdd S (.ref b)) >>= _) _ _ _;refine Aj<|Ot<|zah (s:={s with heap:=h1,toks:=G}) Z V.set (X O hk) Q (λy tk=>?_) λn h2 tk hs N=>?_
  refine HI ⟨plainId_quiet mR _,?_⟩;have e:Ql seen k0=seen:=by unfold Ql;rw[if_pos ((B.mem k0).mpr y)]
  refine vU (i:=i+1) (s:={s with heap:=h1,toks:=tk}) hh c U (by rw[M,<-hi];rfl) d (Ij.of V) λh' G N f=>?_;refine K h' G (by rw[Zb,e];exact N) λb o x u e=>f b o x u<|Y b o u e
  refine HI ⟨plainId_quiet mR _,?_⟩;have nm:¬k0∈seen:=λhm=>by
   obtain⟨j,hj,e⟩:=(B.mem k0).mp hm;exact n j hj e
  have e:Ql seen k0=seen++[k0]:=by unfold Ql;rw[if_neg nm]
  have k2:∀b o,b≠S->h1.get? b=Dn o->h2.get? b=Dn o:=λb o O e=>(hs.2 b O).trans e
  have l5:(seen++[k0]).length=5:=by rw[Le,<-B.len,Q];rfl
  refine vU (i:=i+1) (s:={s with heap:=h2,toks:=tk}) hh c U (by rw[M,<-hi];rfl) ?_ N λh' G hN' f=>?_;exact(W.frame _ {s with heap:=h1,toks:=G} h2 G d (JL _) λb O o e=>k2 b o (by
   simp only[ML,RQ,or_false]at O;rcases O with rfl|rfl
   exact U;exact h) e)
  refine K h' G (by rw[Zb,e];show Ij h' S (seen++[k0]).length;rw[l5];exact hN') λb o x u e=>f b o x u<|k2 b o x<|Y b o u e
  show Bh _ A.in1 (Ww [Value.ref b] (setAdd S (.ref b)) >>= _) _ _ _;refine Aj<|Ot<|zap (s:={s with heap:=h1,toks:=G}) Z V.set (X O hk) H (λy tk=>?_) λn h2 j tk hs p E hS=>?_
  refine HI ⟨plainId_quiet mR _,?_⟩;have e:Ql seen k0=seen:=by unfold Ql;rw[if_pos ((B.mem k0).mpr y)]
  refine sZ hh Z c h U C g h4 M rest (i+1) {s with heap:=h1,toks:=tk} seen m ka ad (by lia) (by lia) (λj v L=>?_) d V λh' G B' f=>?_;obtain⟨b',k',e1,e2,e3,e4⟩:=hit (j+1) v (by rw[<-L];congr 1;lia);exact⟨b',k',e1,by simpa using e2,e3,X e3 e4⟩;refine K h' G (by rw[Zb,e];exact B') λb o h1 h2 e=>f b o h1 h2<|Y b o h2 e
  refine HI ⟨plainId_quiet mR _,?_⟩;have nm:¬k0∈seen:=λhm=>by
   obtain⟨j,hj,e⟩:=(B.mem k0).mp hm;exact n j hj e
  have e:Ql seen k0=seen++[k0]:=by unfold Ql;rw[if_neg nm]
  obtain⟨ep,t,ho,T⟩:=id V.set;have m8:=T.m8;have D:∀i,i<8->(m ||| 2^j).testBit i=(m.testBit i||decide (i=j)):=λi hi=>FJ ⟨m,m8⟩ ⟨j,p⟩ ⟨i,hi⟩
  have a:∀i,i∈JW (m ||| 2^j)↔i∈JW m\/i=j:=λi=>by
   rw[gZ,gZ];constructor;rintro⟨P,O⟩;rw[D i P,Bool.or_eq_true,decide_eq_true_eq]at O;exact O.elim (λq=>.inl ⟨P,q⟩) .inr;rintro(⟨P,O⟩|rfl);exact⟨P,by rw[D i P,O];rfl⟩;exact⟨p,by rw[D i p,decide_eq_true rfl,Bool.or_true]⟩
  have nj:∀i,i∈JW m->i≠j:=λi hi z=>by rw[z]at hi;rw[(gZ.mp hi).2]at E;cases E
  have B2:Jd prog w z h2 S (seen++[k0]) (m ||| 2^j) (λi=>if i=j then k0 else ka i) (λi=>if i=j then b else ad i):=by
   refine⟨hS,λi hi=>?_,λk=>?_,?_⟩;rcases(a i).mp hi with q|q
   simp only[if_neg (nj i q)];exact B.low i q;simp only[if_pos q];exact O;rw[Tf,Ri,B.mem k];constructor;rintro(⟨i,hi,e⟩|rfl);exact⟨i,(a i).mpr (.inl hi),by simp only[if_neg<|nj i hi];exact e⟩;exact⟨j,(a j).mpr (.inr rfl),by simp⟩;rintro⟨i,hi,e⟩;rcases(a i).mp hi with q|q
   simp only[if_neg (nj i q)]at e;exact .inl ⟨i,q,e⟩;simp only[if_pos q]at e;exact .inr e.symm;have:=wu ⟨m,m8⟩ ⟨j,p⟩ E
   dsimp only at this;rw[this,B.len,Le];rfl
  have k2:∀b o,b≠S->h1.get? b=Dn o->h2.get? b=Dn o:=λb o O e=>(hs.2 b O).trans e
  refine sZ hh Z c h U C g h4 M rest (i+1) {s with heap:=h2,toks:=tk} (seen++[k0]) _ _ _ (by lia) (by rw[Le,Tp];lia) (λj v L=>?_) ?_ B2 λh' G B' f=>?_;obtain⟨b',k',e1,e2,e3,e4⟩:=hit (j+1) v (by rw[<-L];congr 1;lia);obtain⟨o,i,n,e,r⟩:=X e3 e4;exact⟨b',k',e1,by simpa using e2,e3,o,i,n,k2 b' o (KZ<|Ke e3 C) e,r⟩;exact(W.frame _ {s with heap:=h1,toks:=G} h2 G d (JL _) λb O o e=>k2 b o (by
   simp only[ML,RQ,or_false]at O;rcases O with rfl|rfl
   exact U;exact h) e)
  refine K h' G (by rw[Zb,e];exact B') λb o x u e=>f b o x u<|k2 b o x<|Y b o u e
end
variable {kss:List (List Int)}
section
variable {prog:IW}{w:IV}{A:Ig}{E:JI->Ab->Prop}{s:Ab}
theorem zaO {l}{z:Nat}{items d}{Q}(hh:A.handled=Go)(X:A.units+5<Nb)(P:kss.length<=5)(M:items.size=kss.length)(f:z<=S)(Y:s.heap.get? S=Dn (Vy d))(hl:s.heap.IsList l items)(J:l<z)
  (hit:∀(j:Nat) (v),items[j]?=Dn v->∃b k,v=.ref b/\kss[j]?=Dn k/\b<z/\TK prog w s.heap k b)
  (h:∀h' tk,Ij h' S (TX kss).length->(∀b o,b≠S->s.heap.get? b=Dn o->h'.get? b=Dn o)->Q Value.none {s with heap:=h',toks:=tk}) :
  TY (Bu prog w) A (.call (.builtin "set.__init__") ⟨[.ref S,.ref l],[]⟩) (wants Q E) s:=by
 have ht:s.TypeIs (.ref S) "set":=⟨_,Y,rfl⟩
 refine codeAny_call_builtin YM.init.plain F.entry_set_init<|check_set_init_1 ht ?_
 obtain⟨H,g,q,W,p⟩:=id hl;obtain⟨C,a,c,U⟩:=H;subst q;subst p;have V:=F.sub_list_set;have T:=F.sub_list_frozenset;have R:(Value.type "list"==Value.type "dict")=false:=by decide
 unfold YD.«set.__init__» noKeywords Builtin.Frozenset.updateFrom;generalize y:pyIter=PI
 wp_walk
 subst y;refine Yi hl ?_;refine Aj<|wpAny_runValue ?_
 have m:l≠s.heap.objs.size:=KZ (Jb g);have u:s.heap.objs.size≠S:=LI (KZ (Jb Y));have x:=JV {cls:=.type "list_iterator",data:=.fields #[.ref l,.int 0 0]} Y;have G:∀b o,s.heap.get? b=Dn o->(s.heap.push {cls:=.type "list_iterator",data:=.fields #[.ref l,.int 0 0]}).get? b=Dn o:=λb o e=>JV _ e
 have t:=Jb Y;refine sZ (l:=l) (I:=s.heap.objs.size) (z:=z) (kss:=kss) (by simp[hh]) (by simp;lia) m (λe=>?_) u f (Jz f<|Xg t) P M kss 0 _ [] 0 _ _ (by simp) (by simp) (λj v L=>?_) ⟨⟨_,Mf _ rfl,rfl,rfl⟩,hl.push _⟩ ⟨amR x,λj hj=>absurd hj<|by simp[JW],λk=>by simp[JW],by simp[JW]⟩ λh' tk B K=>?_;rw[e]at J;exact absurd (Ke J f) (Rg _);obtain⟨b,k,e1,e2,e3,o,i,n,e4,r⟩:=hit j v (by rw[<-L];congr 1;lia);exact⟨b,k,e1,e2,e3,o,i,n,G b o e4,r⟩;refine HI<|HI ?_
 exact h h' tk B λb o N e=>K b o N (KZ<|Jb e)<|G b o e
theorem aiL {l}{items Q}(hh:A.handled=Go)(C:A.units+10<Nb)(y:kss.length<=5)(x:items.size=kss.length)(hl:s.heap.IsList l items)
  (hit:∀(j:Nat) (v),items[j]?=Dn v->∃b k,v=.ref b/\kss[j]?=Dn k/\TK prog w s.heap k b)
  (h:∀h' tk,Ij h' s.heap.objs.size (TX kss).length->(∀b o,s.heap.get? b=Dn o->h'.get? b=Dn o)->Q (.ref s.heap.objs.size) {s with heap:=h',toks:=tk}) :
  Bh (Bu prog w) A (call (.type "set") [.ref l]) Q E s:=by
 have Y:=YM.made;have g:=YM.sub;have I:=YM.notType;have H:=YM.canCreate;have D:=F.typeCall_set_1 (.ref l);refine YZ<|codeAny_of_tree ?_
 show Bh _ _ (callAny (.type "set") _) _ _ _;refine HI ⟨qM _<|by decide +kernel,codeAny_builtin F.entry_type_call ?_⟩;rw[Around.under_plain (weight_type_call_type "set" [.ref l] []) rfl];repeat(any_goals(first|assumption|wp_step))
 refine Xl (code_set_new_1 (.ref l) (E:=E) (Q₁:=λu d=>∃led:Bool,u=.ref s.heap.objs.size/\d={s with heap:=s.heap.push (Vy led)}) λled=>⟨led,rfl,rfl⟩) λr d U=>?_;cases r with
 | error e=>exact U
 | ok fl=>
  cases fl with
  | ret u=>
   obtain⟨led,rfl,rfl⟩:=U;have m:(s.heap.push (Vy led)).get? s.heap.objs.size=Dn (Vy led):=Mf _ rfl;have ht:Shared.TypeIs {s with heap:=s.heap.push (Vy led)} (.ref s.heap.objs.size) "set":=⟨_,m,rfl⟩
   have L:=YM.init.lookup;have K:=YM.init.bind (.ref s.heap.objs.size);repeat(any_goals(first|assumption|wp_step))
   have a:∀b o,s.heap.get? b=Dn o->(s.heap.push (Vy led)).get? b=Dn o:=λb o e=>JV _ e
   obtain⟨f,J,q⟩:=id hl;refine Xl (zaO (E:=E) (s:={s with heap:=s.heap.push (Vy led)}) (z:=s.heap.objs.size) (kss:=kss) (Q:=λr c=>r=.none/\∃h' tk,c={s with heap:=h',toks:=tk}/\Ij h' s.heap.objs.size (TX kss).length/\∀b o,s.heap.get? b=Dn o->h'.get? b=Dn o) (by simp[hh]) (by simp;lia) y x (JL _) m ⟨f,a l f J,q⟩ (Jb J) (λj v t=>?_) λh' tk B O=>⟨rfl,h',tk,rfl,B,λb o e=>O b o (KZ<|Jb e)<|a b o e⟩) λr2 c G=>?_;obtain⟨b,k,e1,e2,o,i,n,e3,r⟩:=hit j v t;exact⟨b,k,e1,e2,Jb e3,o,i,n,a b o e3,r⟩
   ·cases r2 with
    | error e=>exact G
    | ok f2=>
     cases f2 with
     | ret r=>
      obtain⟨rfl,h',tk,rfl,B,O⟩:=G;repeat(any_goals(first|assumption|wp_step))
      exact h h' tk B O
     | _=>exact G.elim
  | _=>exact U.elim
end
section
variable {X:Cx}{K:BW}
theorem zaF (y:X.calm=true)(E:X.A.units+30<Nb):jX X (.type "set") (λxs H Q=>∃p ys kss,xs=[.ref p]/\Kh X.K H p ys/\ad5 X.K H ys kss/\kss.length<=5/\∀l,H l=Go->Q (.ref l) (Iz H l (agv l (TX kss).length))):=by
 intro aor s σ H xs us Q I r h;obtain⟨p,ys,kss,rfl,i,ht,A,q⟩:=h;obtain⟨u,rfl,G⟩:=vals1 r;cases G;obtain⟨its,O,f,D⟩:=I.list i;have e1:=O.length;have e2:=Paired.length ht;refine aiL (I.ok.hd y) (by lia) A (by rw[Mp];lia) f.isList (λj v Y=>?_) λh' tk B g=>?_;rw[List.getElem?_toArray]at Y;obtain⟨x,ex,G⟩:=ajx O Y;obtain⟨k,C,b,rfl,z⟩:=yQ ht ex;cases G;obtain⟨U,e,⟨o,ho,J,n,w⟩,_⟩:=I.tuple z;exact⟨b,k,rfl,C,o,_,_,ho,J,w,Gg e⟩;obtain⟨es,ep,t,ho,m,j⟩:=B;exact⟨.ref _,_,I.laid g (JL _)<|show gD _ _ _ h' _ (agv _ (TX kss).length)from⟨⟨es,ep,t,ho,m,j⟩,⟨_,ho⟩,λh1 h2 d k=>by obtain⟨es,ep,t,a,b,c⟩:=d;exact ⟨es,ep,t,k _ a,b,c⟩⟩,rfl,q _<|I.hok.fresh<|JL _⟩
noncomputable def nP:MC:=λws h Q=>match ws with
 | [w]=>(match d9 h w with
  | some us=>(match yP us with
   | some kss=>kss.length<=5/\Q (.int (TX kss).length) h
   | none=>False)
  | none=>False)
 | _=>False
theorem zbc {e}{n p2 k G}(r:X.calm=true)(o:X.A.units+30<Nb)(c:Gl X "len")(O:X.mg "len" = Go)(Y:Gl X "set")(J:X.mg "set" = Go)(ha:DE X e ma)
  (f:J9 [e] X.env=(false,eval e X.env)::J9 [] X.env) (d:J9 [Expr.Call (.Name "set" p2) [e] [] G] X.env=(false,eval (Expr.Call (.Name "set" p2) [e] [] G) X.env)::J9 [] X.env) :
  DE X (.Call (.Name "len" n) [.Call (.Name "set" p2) [e] [] G] [] k) (Jl nP (aj ma aG)):=
 (HB zba c O R7 (rT (zU (zaF r o) Y J (by rfl) (rT ha Nk f) (by decide) (by decide) f) Nk d) (by decide) (by decide) d).of fun σ H Q b=>by
  obtain⟨μ,g,σw,u,R,S,m,q⟩:=b;refine⟨μ,g,σw,_,R,S,m,λv H1 a=>?_⟩;obtain⟨μ1,w,h1,e1,h,j,m1⟩:=a;have m1:nP [w] h1 u:=m1;unfold nP at m1;dsimp only at m1;split at m1
  rename_i us s;split at m1
  rename_i kss t;obtain⟨p,ys,ex,hs,i⟩:=dU h j s;subst ex;refine⟨p,ys,kss,rfl,hs,Gk i t,m1.1,λl hl=>?_⟩;have U:=jW kss [];refine⟨l,(TX kss).length,rfl,aV,?_,q _ _ ⟨μ1,.int (TX kss).length,h1,e1.trans (Ex.laid hl).ext,h.laid hl,by rw[CR],m1.2⟩⟩;unfold TX;simp at U;lia;exact m1.elim;exact m1.elim
end
section
variable {X:Cx}{K:BW}{o e:Expr}{apos aot:Pos}
end
noncomputable def Ho:List JI->Bool
 | .ref _::r=>Ho r
 | l=>l==[.type "ValueError",.type "Exception",.type "BaseException",.type "object"]
theorem ajM (y)(l):Ho l=true->refuseLoop y "__setattr__" l=pure ():=by
 induction l with
 | nil=>intro e;cases e
 | cons v r G=>
  intro e;cases v with
  | ref c=>
   rw[refuseLoop_ref];exact G e
  | _=>
   exact eq_of_beq e ▸ PySem.F.store_ValueError.passes y
theorem abb (l):Ho l=true->l.contains (.type "object")=true:=by
 induction l with
 | nil=>intro e;cases e
 | cons v r G=>
  intro e;cases v with
  | ref c=>
   rw[List.contains_cons,G e];exact Bool.or_true _
  | _=>
   rw[eq_of_beq e];decide +kernel
noncomputable def W4 (K:BW)(C:Addr):Bool:=(Xj K C).any λcd=>Ho cd.mro
section
variable {prog:IW}{w:IV}{A:Ig}{s:Ab}{K:BW}{x C:Addr}{R:Result->Ab->Prop}
theorem agf {d}{dd nm}{G u}(X:K.In s.heap)(I:PySem.W.InstAt s.heap x d C dd)(e:W4 K C=true)(ht:R8 K (.ref C) nm=Dn Go)
  (h:Bh (Bu prog w) A.in1 (PySem.Builtin.ObjectAttr.storeInOwnDict (.ref x) (.ref C) (.str nm G) nm u false)
   (λf1 J=>match f1 with
    | .done y=>R (.ok y) J
    | .again c1=>c1.quiet=true/\TY (Bu prog w) A c1 R J) (λe1 J=>R (.error e1) J) s) :
  TY (Bu prog w) A (.call (.builtin "object.__setattr__") ⟨[.ref x,.str nm G,u],[]⟩) R s:=by
 obtain⟨c0,c,ho⟩:=PySem.W.any_some e;have a:c0.mro.isEmpty=false:=by
  cases q:c0.mro with
  | nil=>rw[q]at ho;cases ho
  | cons _ _=>rfl
 have O:X8 K C (.type "object")=Dn true:=by
  unfold X8;rw[c,Option.bind_some,if_neg (by rw[a];decide),abb _ ho]
 have Y:WX (Bu prog w) s.heap (isInstance (.ref x) (.type "object")) true:=I.type.andThen (Za X O);refine codeAny_call_builtin jf.slot.plain jf.entry ?_;refine PySem.W.check_slot (i := "object.__setattr__") (owner := "object") (n := "__setattr__") (self:=.ref x) (rest:=[.str nm G,u]) (kw:=[]) jf.kind jf.split Y (jf.args (.ref x) (.str nm G) u) ?_;have U:WX (Bu prog w) s.heap (mroOf (.ref C)) c0.mro:=(PySem.W.looks_clsIn X c).andThen .now;rw[PySem.W.osa_eq,refuse_eq];refine Aj<|Aj<|I.type.here<|Aj<|U.here ?_
 rw[ajM _ _ ho];refine HI<|Aj<|I.type.here<|Aj<|(PySem.W.looks_findIn X ht).here (Aj ?_)
 exact HI h
end
variable {nm:Str}
section
variable {prog:IW}{w:IV}{A:Ig}{E:JI->Ab->Prop}{s:Ab}{K:BW}{x dx C f:Addr}{mA:Str->Option JI}{name:Str}{v:JI}
theorem alL {fs}{Q}(X:K.In s.heap)(i:s.heap.get? x=Dn ⟨.ref C,Go,.fields fs,sl⟩)
  (hs:R8 K (.ref C) "__setattr__" = Dn (Dn (.builtin "object.__setattr__"))) (F:W4 K C=true) (ht:R8 K (.ref C) name=Dn Go) (hh:PySem.W.hasDictIn K C=true)
  (h:∀h',h'.get? x=Dn ⟨.ref C,Dn s.heap.objs.size,.fields fs,sl⟩->h'.Ns1 s.heap.objs.size (λy=>if y=name then Dn v else Go)->(∀b o,b≠x->s.heap.get? b=Dn o->h'.get? b=Dn o)->Q () {s with heap:=h',toks:=s.toks+2}) :
  Bh (Bu prog w) A (setAttr (.ref x) name v) Q E s:=by
 have J:PySem.W.InstAt s.heap x ⟨.ref C,Go,.fields fs,sl⟩ C Go:=⟨i,rfl,rfl,trivial⟩
 refine PySem.W.set_plain X J hs<|agf (s:={s with toks:=s.toks+1}) X J F ht ?_
 obtain⟨T,I,n⟩:=PySem.W.any_some hh;refine Aj<|HI<|Aj<|Aj<|wpAny_loadPart i<|Aj<|PySem.W.Looks.here (s:={s with toks:=s.toks+1}) (PySem.W.looks_clsIn X I) ?_
 rw[n];obtain⟨G,g,d,t,os⟩:=s;refine Aj<|wpAny_alloc' ?_
 have k:x<G.objs.size:=Jb i;have U:(G.push {cls:=.type "dict",data:=.dict #[]}).get? x=Dn ⟨.ref C,Go,.fields fs,sl⟩:=JV _ i;have N:(G.push {cls:=.type "dict",data:=.dict #[]}).get? G.objs.size=Dn {cls:=.type "dict",data:=.dict #[]}:=Mf _ rfl;refine Aj<|wpAny_update' U ?_
 refine HI ?_;show Bh _ _ (Builtin.ObjectAttr.storeInDict G.objs.size (Value.str name t) name v) _ _ _;have a:G.objs.size≠x:=SJ k;generalize r:(G.push {cls:=.type "dict",data:=.dict #[]}).update x (λo=>{o with dict:=Dn G.objs.size})=j;have L:j.get? x=Dn ⟨.ref C,Dn G.objs.size,.fields fs,sl⟩:=by rw[<-r];exact S7 _ U rfl
 have M:j.Ns1 G.objs.size (λ_=>Go):=by
  refine⟨{cls:=.type "dict",data:=.dict #[]},#[],_,?_,rfl,(λe H=>absurd H<|by simp),?_,λ_=>rfl⟩;rw[<-r,Ru _ _ (LI a)];exact N;unfold UniqKeys;simp
 have D:∀b o,b≠x->G.get? b=Dn o->j.get? b=Dn o:=λb o q e=>by rw[<-r,Ru _ _ (LI q)];exact JV _ e
 refine Aj<|HI<|Aj ?_
 refine wpAny_nsSet1 (s:=⟨j,g,d,t+1,os⟩) M λh' c Y=>?_;obtain⟨S,P,R,l,m,p⟩:=c.count (PySem.Within.cons name v (show PySem.Within (λ_=>Go) []from λ_ z=>absurd rfl z));refine Aj<|wpAny_lookBehind l (by rw[m];exact pastItsLine_dict (Jz p<|by simp[Ye])) ?_
 exact HI (h h' ((Y.2 x (LI a)).trans L) c λb o q e=>by
  by_cases f:b=G.objs.size
  rw[f]at e;exact absurd (Jb e) (Rg _);exact(Y.2 b f).trans (D b o q e))
end
section
variable {prog:IW}{w:IV}{A:Ig}{E:JI->Ab->Prop}{s:Ab}{K:BW}{x:Addr}{ox:Obj}
theorem zbj {Q od name v}{J}(X:K.In s.heap)(I:PySem.W.InstAt s.heap x ox D od)(a:R8 K (.ref D) "__getattribute__" = Dn (Dn (.builtin "BaseException.__getattribute__")))(Y:R8 K (.ref D) "__getattr__" = Dn Go)
  (c:PySem.W.findObj K D od name=Dn (.value v)) (hh:PySem.W.handedIn v=true) (e:X8 K D (.type "BaseException")=Dn true)
  (h:Q v {s with toks:=s.toks+1}):Bh (Bu prog w) A (getAttr (.ref x) name J) Q E s:=by
 obtain⟨l,g,d,t,os⟩:=s;have b:=I.type (M:=Bu prog w);have k:=PySem.W.looks_findIn (M:=Bu prog w) X a;have j:=PySem.W.looks_findIn (M:=Bu prog w) X Y;have i:=PySem.W.looks_find (M:=Bu prog w) X I c;have f:=Za (M:=Bu prog w) X e;unfold getAttr getAttrBy;refine Aj<|wpAny_mkText<|Ot<|Aj<|PySem.W.Looks.at b<|Aj<|PySem.W.Looks.at k ?_
 show Bh _ _ (if(onTheHeap (Value.ref D)&&(Value.builtin "BaseException.__getattribute__"==Value.builtin "object.__getattribute__"))=true then _ else getAttrByItsOwn _ _ _ _ _ _) _ _ _;have U:(Value.builtin "BaseException.__getattribute__"==Value.builtin "object.__getattribute__")=false:=by decide +kernel
 rw[U,Zz,if_neg RT];unfold getAttrByItsOwn;refine Aj<|show Bh _ _ (typeLookup (Value.ref D) "__getattr__") _ _ _ from PySem.W.Looks.at j ?_
 refine Aj<|Y9<|Ot ?_
 unfold callGetattribute;rw[show onTheHeap (Value.builtin "BaseException.__getattribute__")=false from rfl,Zz,if_neg RT];unfold boundAndCalled;rw[PySem.F.attrBase_ValueError.ga.bind (.ref x)];refine Aj<|HI ?_
 dsimp only;refine YZ<|codeAny_call_builtin PySem.F.attrBase_ValueError.ga.plain F.entry_bexc_ga ?_
 have Y:builtinKind "BaseException.__getattribute__" = Dn .slot:=by decide +kernel
 have G:splitId "BaseException.__getattribute__" = Dn ("BaseException", "__getattribute__"):=by decide +kernel
 have m:=F.args_bexc_ga (.ref x) (.str name t);simp only[checkBuiltinCall,Y,G];show Bh (Bu prog w) A.in1 (isInstance (Value.ref x) (Value.type "BaseException") >>= _) _ _ _;refine Aj ?_;unfold isInstance;refine Aj<|PySem.W.Looks.at b<|PySem.W.Looks.at f ?_
 rw[if_neg (by decide)];change Bh (Bu prog w) A.in1 (match Manifest.signature? "BaseException.__getattribute__" with
  | some O=>Bind.checkArgs "BaseException.__getattribute__" O ⟨[Value.ref x,Value.str name t],[]⟩
  | x=>pure ()) _ _ _
 repeat(any_goals(first|assumption|(with_reducible refine Zh I.at_ ?_;rw[I.cls])|with_reducible refine PySem.W.Looks.at i ?_|wp_step))
 show Bh _ _ (handedOut v) _ _ _;rw[PySem.W.handedOut_of hh];exact HI h
end
section
variable {prog:IW}{w:IV}{A:Ig}{E:JI->Ab->Prop}{h:Heap}{g:Array GenState}{d:Drawn}{t:Nat}{os:OsState}
variable {q:Str}{C N:Addr}{bs bmB:List JI}{hdct:Bool}{sn:List Str}{sub:List JI}{ab:Bool}{col:Option Bool}{dd:Option Addr}{k0 k1 k2 k3 k5:Option JI}{B initId:String}{K:BW}{f:Addr}
noncomputable abbrev Rp (C:Addr)(a:Addr):Obj:={cls:=.ref C,data:=.fields #[.ref a,.none,.none,.none,.bool false,.none]}
theorem alW (F:ExcBaseFacts B newId initId bmB)(T:OwnTail h bmB bm){mN rest}{Q}(X:K.In h)(U:Zt K (.ref f)=Dn (.type "function"))
  (c0:h.get? C=Dn (Yd nm q C N bs bm hdct sn sub ab col dd k0 k1 k2 k3 k5 newId)) (c:h.Ns N mN) (hi:mN "__init__" = Dn (.ref f))
  (e:Bh (Bu prog w) A (call (.ref f) (.ref (h.objs.size+1)::rest)) (λr s'=>r=.none/\Q (.done (.ret (.ref (h.objs.size+1)))) s') E ⟨(h.push {cls:=.type "tuple",data:=.seq rest.toArray}).push (Rp C h.objs.size),g,d,t,os⟩) (Y:rest.length<=JN) :
  Bh (Bu prog w) A (YD.«type.__call__» ⟨.ref C::rest,[]⟩) Q E ⟨h,g,d,t,os⟩:=by
 have O:∀b o,h.get? b=Dn o->((h.push {cls:=.type "tuple",data:=.seq rest.toArray}).push (Rp C h.objs.size)).get? b=Dn o:=λb o z=>JV _ (JV _ z)
 have c1:=O _ _ c0;have n1:=c.keeps O;have j:=T.keeps O;have i:K.In ((h.push {cls:=.type "tuple",data:=.seq rest.toArray}).push (Rp C h.objs.size)):=λa o z=>O a o (X a o z)
 have J:((h.push {cls:=.type "tuple",data:=.seq rest.toArray}).push (Rp C h.objs.size)).get? (h.objs.size+1)=Dn (Rp C h.objs.size):=by heap_get
 have own:(Value.ref C::bm).contains (.ref C)=true:=by rw[List.contains_cons];simp
 repeat(first|wp_step|(with_reducible refine G c0 ?_)|(with_reducible refine Zh c0 ?_))
 refine codeAny_call_builtin_code (qM _ F.quiet)<|wpAny_check_new_subT F T c0<|codeAny_exc_new_subT F T c0 ?_ Y
 show Bh _ _ _ _ _ _;unfold isInstance;repeat(first|wp_step|(with_reducible refine Zh J ?_)|(with_reducible refine wpAny_isSubtype_exc c1 ?_;rw[own]))
 refine(show Bh _ _ (typeLookup (.ref C) _) _ _ _ from wpAny_typeLookup_tail c1 n1 j F.mroIs F.init.lookup ?_);rw[hi];refine Ot<|Aj<|PySem.W.Looks.here (s:=⟨_,g,d,t,os⟩) (PySem.W.bind_fn i (.ref<|h.objs.size+1) U) ?_
 refine Aj<|Lp e (λr s' z=>?_) λ_ _ z=>z
 rw[z.1];exact HI<|show Bh _ _ (ret<|Value.ref<|h.objs.size+1) _ _ _ from HI z.2
theorem wL (F:ExcBaseFacts B newId initId bmB)(T:OwnTail h bmB bm){mN:Str->Option JI}{rest:List JI}{Q:JI->Ab->Prop}(X:K.In h)(G:Zt K (.ref f)=Dn (.type "function"))
  (c0:h.get? C=Dn (Yd nm q C N bs bm hdct sn sub ab col dd k0 k1 k2 k3 k5 newId)) (O:h.Ns N mN) (hi:mN "__init__" = Dn (.ref f))
  (U:Bh (Bu prog w) (A.under (.builtin "type.__call__" ⟨.ref C::rest,[]⟩)) (call (.ref f) (.ref (h.objs.size+1)::rest)) (λr s'=>r=.none/\Q (.ref (h.objs.size+1)) s') E ⟨(h.push {cls:=.type "tuple",data:=.seq rest.toArray}).push (Rp C h.objs.size),g,d,t,os⟩) (J:rest.length<=JN) :
  Bh (Bu prog w) A (call (.ref C) rest) Q E ⟨h,g,d,t,os⟩:=by
 have b:Shared.TypeIs ⟨h,g,d,t,os⟩ (.ref C) "type":=⟨_,c0,rfl⟩
 have a:=tc_bind (.ref C);have Y:=tc_lookup;refine YZ<|codeAny_of_tree<|show Bh _ _ (callAny (.ref C) _) _ _ _ from ?_
 repeat(any_goals(first|(with_reducible refine Zh c0 ?_)|assumption|wp_step))
 exact⟨rfl,codeAny_call_builtin_at (qM _<|by decide +kernel) entry_typeCall<|wpAny_check_type_call_sub c0<|alW F T X G c0 O hi U J⟩
end
variable {hdct:Bool}{sn:List Str}{sub:List JI}{dd:Option Addr}{col:Option Bool}{mN:Str->Option JI}{initId:String}
section
variable {prog:IW}{w:IV}{M:Model}{A:Ig}{E:JI->Ab->Prop}{s:Ab}{env:Env}{K:BW}{f:Addr}
variable {q:Str}{C N:Addr}{bs bmB:List JI}{ab:Bool}{k0 k1 k2 k3 k5:Option JI}{B:String}
noncomputable def QtE (A:Ig)(h:Heap)(e:Addr):Prop:=∀v,A.handled=Dn v->∃a l,v=.ref a/\JK h l v/\e∉l
theorem Rn.heapL {P w H}{h v}(c:Rn H v)(x:MP P w H h):∃l,JK h l v/\∀a∈l,H a≠Go:=by
 induction c with
 | nil=>exact⟨[],.nil,λa G=>absurd G (by simp)⟩
 | @cons c o u U z h1 h2 O _ J=>
  obtain⟨l,t,k⟩:=J;refine⟨_,.cons (x _ _ h1).1 h2 O t,λa G=>?_⟩;rcases ML.mp G with rfl|G
  rw[h1];exact λq=>nomatch q
  exact k a G
theorem Quiet.qte {A P w H}{h e}(q:Quiet A H)(x:MP P w H h)(G:H e=Go):QtE A h e:=λv z=>by
 obtain⟨⟨a,h1⟩,c⟩:=q v z;obtain⟨l,t,k⟩:=c.heapL x;exact⟨a,l,h1,t,λy=>k e y G⟩
theorem zaK {d oe}{ws e}{Q}(i:QtE A s.heap e)(J:s.heap.get? e=Dn oe)(O:oe.data=.fields ws)(g:2<ws.size)
  (h:∀h',(∀b,b≠e->h'.get? b=s.heap.get? b)->(∃o',h'.get? e=Dn o'/\o'.cls=oe.cls/\o'.dict=oe.dict/\((A.handled=Go/\h'=s.heap)\/∃v,A.handled=Dn v/\o'.data=.fields (ws.setIfInBounds 2 v)))->E (.ref e) {s with heap:=h'}):Bh (Bu prog w) A (raiseNew (.ref e):Sem d) Q E s:=by
 refine Aj<|wpAny_handled ?_
 cases hh:A.handled with
 | none=>
  exact Aj<|HI<|Z8<|h _ (λ_ _=>rfl) ⟨oe,J,rfl,rfl,.inl ⟨hh,rfl⟩⟩
 | some v=>
  obtain⟨a,l,rfl,c,U⟩:=i v hh;dsimp only;have f:(Value.ref a != Value.ref e)=true:=by
   simp only[bne_iff_ne];intro q;exact U<|Value.ref.inj q ▸ ((by cases c with|cons=>simp))
  rw[if_pos f];refine Aj<|Ot<|wpAny_runValue<|vo (Aj<|Aj<|wpAny_load J ?_) c U ⟨a,rfl⟩ _ false (λ_=>.refl) nofun
  rw[O];dsimp only;rw[if_pos g];refine wpAny_update J<|Z8 ?_
  have G:=Tn O (·.setIfInBounds 2 (Value.ref a));exact h _ (λb j=>Ru _ _<|LI j) ⟨_,S7 _ J<|X6 G,Zx _ _,by obtain⟨c0,k,dt,sl⟩:=oe;cases O;rfl,.inr ⟨_,hh,G⟩⟩
noncomputable def Rsd (A:Ig)(C:Addr)(e:Addr)(t:Addr)(od:Option Addr)(h h':Heap):Prop:=(∀b,b≠e->h'.get? b=h.get? b)/\∃o',h'.get? e=Dn o'/\o'.cls=.ref C/\o'.dict=od/\((A.handled=Go/\h'=h)\/∃v,A.handled=Dn v/\o'.data=.fields (#[.ref t,.none,.none,.none,.bool false,.none].setIfInBounds 2 v))
theorem alu {x}{Q}(f:bm.contains (.type "BaseException")=true)
  (h:Bh (Bu prog w) A x (λv G=>∃e t od,v=.ref e/\G.heap.get? C=Dn (Yd nm q C N bs bm hdct sn sub ab col dd k0 k1 k2 k3 k5 newId)/\G.heap.get? e=Dn {Rp C t with dict:=od}/\QtE A G.heap e /\
   ∀h',Rsd A C e t od G.heap h'->E (.ref e) {G with heap:=h'}) E s):Bh (Bu prog w) A (raiseStmt env (Dn x) Go) Q E s:=by
 have J:(Value.ref C::bm).contains (.type "BaseException")=true:=by rw[List.contains_cons,f];simp
 refine Aj<|Lp h (λv G b=>?_) λ_ _ z=>z;obtain⟨e,t,od,g,Y,U,d,z⟩:=b
 subst g;obtain⟨h1,o,p,m,n⟩:=G;repeat(first|wp_step|(with_reducible refine Zh U ?_)|(with_reducible refine Zh Y ?_)|(with_reducible refine wpAny_isSubtype_exc Y ?_;rw[J]))
 exact zaK d U rfl (by simp) λh' a c=>by obtain⟨o',l,k,j,i⟩:=c;exact z h' ⟨a,o',l,k,j,i⟩
theorem zay (F:ExcBaseFacts B newId initId bmB){x:Str}{aot pos:Pos}{args:List Expr}{Q:Flow->Ab->Prop}
  (p:bm.contains (.type "BaseException")=true) (e:(Mi aot (J9 args env)).any (·.1)=false) (g:Zt K (.ref f)=Dn (.type "function")) (hi:mN "__init__" = Dn (.ref f))
  (h:Bh (Bu prog w) A (eval (.Name x np) env) (λfv O=>fv=.ref C/\Bh (Bu prog w) A (evalArgs (.ref C) true (Mi aot (J9 args env)) [])
   (λa G=>(a.kw=[]/\a.pos.length<=JN/\K.In G.heap)/\(G.heap.get? C=Dn (Yd nm q C N bs bm hdct sn sub ab col dd k0 k1 k2 k3 k5 newId)/\G.heap.Ns N mN/\OwnTail G.heap bmB bm) /\
    Bh (Bu prog w) (A.under (.builtin "type.__call__" ⟨.ref C::a.pos,[]⟩)) (call (.ref f) (.ref (G.heap.objs.size+1)::a.pos)) (λr J=>r=.none/\∃od,J.heap.get? C=Dn (Yd nm q C N bs bm hdct sn sub ab col dd k0 k1 k2 k3 k5 newId)/\J.heap.get? (G.heap.objs.size+1)=Dn {Rp C G.heap.objs.size with dict:=od}/\QtE A J.heap (G.heap.objs.size+1)/\∀h',Rsd A C (G.heap.objs.size+1) G.heap.objs.size od J.heap h'->E (.ref (G.heap.objs.size+1)) {J with heap:=h'}) E
     {G with heap:=(G.heap.push {cls:=.type "tuple",data:=.seq a.pos.toArray}).push (Rp C G.heap.objs.size)}) E O) E s) :
  Bh (Bu prog w) A (exec (.Raise (Dn (.Call (.Name x np) args [] aot)) Go pos) env) Q E s:=by
 refine Aj<|YC<|alu (nm:=nm) (q:=q) (C:=C) (N:=N) (bs:=bs) (hdct:=hdct) (sn:=sn) (sub:=sub) (ab:=ab) (col:=col) (dd:=dd) (k0:=k0) (k1:=k1) (k2:=k2) (k3:=k3) (k5:=k5) (newId:=newId) p<|Aj<|Lp (wpAny_Call_ofName<|Lp h (λfv O b=>?_) λ_ _ z=>z) (λv J U=>Aj<|YC<|HI U) λ_ _ z=>z;obtain⟨u,c⟩:=b
 subst u;refine Aj<|Ot<|Lp c (λa G ⟨⟨t,i,X⟩,⟨k,o,T⟩,Y⟩=>Aj<|YC ?_) λ_ _ z=>z
 obtain⟨v,y⟩:=a;cases t;simp only[e];refine Aj<|wpAny_keeperOf_exc k<|Aj<|wL F T X g k o hi (Lp Y (λr J j=>⟨j.1,?_⟩) λ_ _ z=>z) i
 obtain⟨_,od,n,m,l⟩:=j;exact Aj<|Ot<|wpAny_point<|HI ⟨_,_,od,rfl,n,m,l⟩
end
theorem aan {K}{h N}{m n v}(X:K.In h)(G:h.Ns N m)(e:Lw K N n=Dn (Dn v)):m n=Dn v:=by
 obtain⟨o,es,ep,ho,O,_,J⟩:=G;unfold Lw at e;split at e
 rename_i z;have y:=X _ _ z;rw[ho]at y;cases y;cases O;split at e
 rename_i U;cases e;have:=J n
 unfold nsFind findBy at this;simp_all
 simp_all
 cases e
noncomputable def Im (K:BW)(C fi:Addr)(bmB:List JI)(newId:String):Bool:=exG K C bmB newId λz=>Lw K z "__init__"==Dn (Dn (.ref fi))
variable {fi:Addr}
theorem alq {K}{h C}(X:K.In h)(q:Im K C fi bm newId=true):
  ∃(tl:List JI) (N:Addr) (nm G:Str) (bs:List JI) (J:Bool) (sn:List Str) (sub:List JI) (ab:Bool) (col:Option Bool) (dd:Option Addr) (k0 k1 k2 k3 k5:Option JI) (mN:Str->Option JI),
   K.lookup C=Dn (Yd nm G C N bs tl J sn sub ab col dd k0 k1 k2 k3 k5 newId)/\h.Ns N mN/\mN "__init__" = Dn (.ref fi)/\OwnTail h bm tl:=by
 obtain⟨tl,N,nm,G,bs,J,sn,sub,ab,col,dd,k0,k1,k2,k3,k5,ho,a1,a2,a3⟩:=exo_ X q;exact⟨tl,N,nm,G,bs,J,sn,sub,ab,col,dd,k0,k1,k2,k3,k5,_,ho,.of_isNs<|PySem.W.isNs_of_in X a1,aan X (.of_isNs<|PySem.W.isNs_of_in X a1)<|eq_of_beq a2,a3⟩
noncomputable def exN (e C a:Addr):HO:=.ext λh=>h.get? e=Dn (Rp C a)
noncomputable def exD (e C a dx:Addr):HO:=.ext λh=>h.get? e=Dn {Rp C a with dict:=Dn dx}
noncomputable def aex (K:BW)(C:Addr)(f:Str):Bool:=R8 K (.ref C) "__setattr__"==Dn (Dn (.builtin "object.__setattr__"))&&W4 K C&&R8 K (.ref C) f==Dn Go&&PySem.W.hasDictIn K C
noncomputable def ac4 (C:Addr)(f:Str)(ta tv:TE):TS:=λD σ H=>tv σ H λy H1=>ta σ H1 λx H2=>∃e a,x=.ref e/\H2 e=Dn (exN e C a)/\∀dx,H2 dx=Go->dx≠e->D.nx σ (Iz (Iz H2 dx (.xd [(f,y)])) e (exD e C a dx))
section
variable {X:Cx}{o value:Expr}{f:Str}{C:Addr}{pos pos':Pos}{ta tv:TE}
theorem aad (hx:aex X.K C f=true)(ha:PE X o ta)(hv:PE X value tv)(hs:Xe value (Dn (.Attribute o f pos')) pos.line X.env=pure false:=by rfl):PS X (.Assign [.Attribute o f pos'] value pos) (ac4 C f ta tv):=by
 unfold aex at hx;simp at hx;obtain⟨⟨⟨x1,x2⟩,x3⟩,x4⟩:=hx;intro aor s σ H D I h;refine plainObj_wpAny_Assign_Attribute (JC (hv aor s σ H _ I h) λu s1 ⟨y,H1,I1,ry,q⟩=>JC (ha aor s1 σ H1 _ I1 q) λov s2 c=>?_) hs;obtain⟨x,H2,I2,rx,e,a,ex,ee,q2⟩:=c;subst ex;obtain rfl:ov=Value.ref e:=rx;have ho:=(I2.hok e _ ee).1;have ne:=SJ (Jb ho);refine alL I2.kIn ho x1 x2 x3 x4 λh' hX hN kp=>⟨σ,_,?_,q2 _ (I2.hok.fresh<|JL _) ne⟩;have m2:∀b,b≠e->(h'.update e λ_=>Rp C a).get? b=h'.get? b:=λb hb=>Ru _ _ (LI hb)
 have Ia:Al X aor σ (Iz H2 s2.heap.objs.size (.xd [(f,y)])) {s2 with heap:=h'.update e λ_=>Rp C a,toks:=s2.toks+2}:=by
  refine I2.laid (λb z hz=>?_) (JL _) ⟨_,hN.at<|λod z=>m2 _ ne ▸ z,λg=>?_⟩;by_cases hb:b=e
  subst hb;rw[ho]at hz;rw[(S7 _ hX rfl)];exact hz;rw[m2 b hb];exact kp b z hb hz;rw[Xv];by_cases hg:g=f
  subst hg;rw[if_pos rfl,beq_self_eq_true];exact ry;rw[if_neg hg,show(g==f)=false from by simpa using hg];trivial
 exact Ia.write (by rw[aJ<|LI ne,ee];exact True.intro) (.inl rfl) (λb z hb hz=>m2 b hb ▸ hz) ⟨_,hX⟩ ⟨hX,⟨_,hX⟩,λh1 h2 z k=>k _ z⟩
end
noncomputable def spI (C:Addr)(f:Str):Sp:=λvs H Q _=>∃e a v,vs=[.ref e,v]/\H e=Dn (exN e C a)/\∀dx,H dx=Go->dx≠e->Q .non (Iz (Iz H dx (.xd [(f,v)])) e (exD e C a dx))
theorem akW {P w K}{mg base}{x qual st fd}{n1 n2 f C k}(F:W2 K x qual st fi fd)(S:gM [n1,n2] [n1,n2] (aX st))
  (U:∀cdv A  (outer) (s) (H) (E),gQ k (A.deeper (T4 qual (aX st) s.heap.objs.size fi cdv)) ->
   RB (J5 Q8 P w K mg base [n1,n2] qual (aX st) fi cdv A outer s H E).nox (dJ st) (ac4 C f (ad0 0) (ad0 1))):jO P w K mg base Q8 (k+1) fi fd [n1,n2] (spI C f):=by
 refine F.ok S (λvs H Q E c=>by obtain⟨e,a,v,G,_⟩:=c;rw[G];rfl) λcdv A outer s H Y Q E J b=>?_;obtain⟨e,a,v,G,O,q⟩:=b;subst G;exact⟨_,U cdv A outer s H E J,v,rfl,.ref e,rfl,e,a,rfl,O,q⟩
noncomputable def forget (H:Hp)(e:Addr):Hp:=λb=>if b=e then Go else H b
theorem iG {H}{e}:forget H e e=Go:=by unfold forget;rw[if_pos rfl]
theorem cM {H:Hp}{e b:Addr}(h:b≠e):forget H e b=H b:=by unfold forget;rw[if_neg h]
section
variable {X:Cx}{aor:List (Addr×Obj)}{σ:St}{H:Hp}{s:Ab}{e:Addr}
theorem Al.forget {d}{O:St}{H0 f}(I:Al X aor σ H s)(a:H e=Dn (.ext d))(Y:Al X aor O H0 f)(h0:H0 e=Go)(g:X.s₀.heap.get? e=Go):Al X aor σ (L2.forget H e) s:=by
 have U:∀b u,H0 b=Dn u->b≠e:=λb u z y=>by rw[y,h0]at z;cases z
 refine⟨I.ok,I.os,I.bare,⟨I.base.keep,I.base.slot,λb J z y h=>?_,I.base.there,λb xs z=>?_,λb J v z=>?_,λb ps z=>?_⟩,I.loc,I.cell,?_,λx c z=>?_,λp i=>?_,λb v z=>?_,I.len⟩;rw[cM ((λb J z y=>by rw[y,g]at z;cases z) b J z)];exact I.base.free b J z y h;rw[cM (U b _ (Y.base.tups b xs z))];exact I.base.tups b xs z;rw[cM (U b _ (Y.base.frzs b J v z))];exact I.base.frzs b J v z;obtain⟨_,q⟩:=Y.base.tbls b ps z;rw[cM (U b _ q)];exact I.base.tbls b ps z;by_cases G:X.env.locals=e
 rw[G];exact iG;rw[cM G];exact I.free;by_cases G:c=e
 rw[G];exact iG;rw[cM G];exact I.freeC x c z;obtain⟨h1,k,j⟩:=I.pin p i;refine⟨h1,?_,j⟩;by_cases G:p.1=e
 simp_all
 rw[cM G];exact k;by_cases G:b=e
 rw[G,iG]at z;cases z;rw[cM G]at z;exact(I.hok b v z).stay (λ_ _ _ q=>q) (λc q=>by rw[cM (λy=>by rw[y,a]at q;cases q)];exact q) λc xs q=>by rw[cM (λy=>by rw[y,a]at q;cases q)];exact q
end
section
variable {X:Cx}{aor:List (Addr×Obj)}{σ:St}{H:Hp}{s:Ab}{C:Addr}{x f:Str}{aot pos:Pos}{e:Expr}{t:TA}{k:Nat}{fd:Nv}{ps:List Str}
theorem zaA {Q}{R:V->Hp->Prop}(hn:abK X)(hex:X.ex=[])(hg:Gl X x)(hm:X.mg x=Dn (.ref C))(hq:Im X.K C fi O8 "ValueError.__new__" = true)(hfn:Yz X.K (.ref fi)=true)
  (Fi:jO X.prog X.w X.K X.mg X.base Q8 k fi fd ps (spI C f)) (hr:gQ (k+1) X.A) (hb:Binds X.K fd ps []) (ha:PA X [e] t) (I:Al X aor σ H s) (h:t σ H λvs H1=>∃v,vs=[v]/\R v H1)
  (hx:∀a dx H1 s' v,FX X aor σ (Iz H1 dx (.xd [(f,v)])) s' a C (Dn dx)->H1 dx=Go->R v H1->X.xe (.ref a) s')
  (hdb:(x==("__debug__" : Str))=false:=by decide) (he:J9 [e] X.env=(false,eval e X.env)::J9 [] X.env:=by rfl) :
  Bh (Bu X.prog X.w) X.A (exec (.Raise (Dn (.Call (.Name x np) [e] [] aot)) Go pos) X.env) Q X.xe s:=by
 obtain⟨tl,N,nm,qn,bs,hd,sn,sub,ab,col,dd,k0,k1,k2,k3,k5,mN,hC,hN,hni,T⟩:=alq I.mod.kin hq;refine zay (K:=X.K) (f:=fi) (C:=C) (nm:=nm) (q:=qn) (N:=N) (bs:=bs) (bm:=tl) (hdct:=hd) (sn:=sn) (sub:=sub) (ab:=ab) (col:=col) (dd:=dd) (k0:=k0) (k1:=k1) (k2:=k2) (k3:=k3) (k5:=k5)
  uJ (mN:=mN) (T.hasType uJ.hasBase) (by rw[he];rfl) (beq_iff_eq.mp hfn) hni (lU I hg hm ⟨rfl,?_⟩ hdb)
 have g:=ha aot aor s σ H _ I h;rw[he]at g|-
 refine Calls.evalArgs_plain<|JC g λus s2 d=>?_;obtain⟨vs,H2,I2,r,v,ev,kk⟩:=d
 subst ev;obtain⟨u,rfl,ru⟩:=vals1 r;refine⟨⟨rfl,by simp[Ye],I2.kIn⟩,⟨I2.kIn _ _ hC,hN.keeps I2.bk,T.keeps I2.bk⟩,?_⟩;have self:=by
  have:=Mf (s2.heap.push {cls:=.type "tuple",data:=.seq [u].toArray}) (o:=Rp C s2.heap.objs.size) rfl
  rwa[Uk]at this
 have nw:=I2.newOf (b:=s2.heap.objs.size+1) (qY (Xk _));have I3:Al X aor σ (Iz H2 (s2.heap.objs.size+1) (exN (s2.heap.objs.size+1) C s2.heap.objs.size)) {s2 with heap:=(s2.heap.push {cls:=.type "tuple",data:=.seq [u].toArray}).push (Rp C s2.heap.objs.size),toks:=s2.toks}:=
  I2.laid (λb z hz=>JV _ (JV _ hz)) (Xk _) ⟨self,⟨_,self⟩,λh1 h2 z q=>q _ z⟩
 have sp:spI C f [.ref (s2.heap.objs.size+1),v] _ (λr H4=>r=.non/\∃dx,H2 dx=Go/\dx≠s2.heap.objs.size+1/\H4=Iz (Iz _ dx (.xd [(f,v)])) (s2.heap.objs.size+1) (exD (s2.heap.objs.size+1) C s2.heap.objs.size dx)) E0:=
  ⟨_,_,v,rfl,aV,λdx h1 h2=>⟨rfl,dx,by rw[aJ h2]at h1;exact h1,h2,rfl⟩⟩
 have r2:CZ [V.ref (s2.heap.objs.size+1),v] [Value.ref (s2.heap.objs.size+1),u]:=.cons rfl (.cons ru .nil);refine YZ<|Xl (Fi.run _ X.stack _ _ ⟨[Value.ref<|s2.heap.objs.size+1,u],[]⟩ [Value.ref<|s2.heap.objs.size+1,u] _ _ E0 (hr.make C [u] []) (I3.env0.make C [u] []) (hb _ [Value.ref<|s2.heap.objs.size+1,u] I3.kIn (by rw[<-Fi.len _ _ _ _ sp];rfl)) r2 sp) λr s' hq'=>?_
 cases r with
 | error ev=>exact YF aor σ _ _ ev s' I3 hq'
 | ok fl=>
  cases fl with
  | ret uv=>
   obtain⟨v',H',I4,rv,ev,dx,h1,h2,eH⟩:=I3.after hq';subst ev eH;have he4:=(I4.hok (s2.heap.objs.size+1) _ aV).1;have s0:X.s₀.heap.get? (s2.heap.objs.size+1)=Go:=by
    rcases nw.s with q|q
    rw[hex]at q;cases q;exact q
   have I5:=I4.forget aV I2 nw.h s0;have eF:forget (Iz (Iz (Iz H2 (s2.heap.objs.size+1) (exN (s2.heap.objs.size+1) C s2.heap.objs.size)) dx (.xd [(f,v)])) (s2.heap.objs.size+1) (exD (s2.heap.objs.size+1) C s2.heap.objs.size dx)) (s2.heap.objs.size+1)=Iz H2 dx (.xd [(f,v)]):=by
    funext b;by_cases hbe:b=s2.heap.objs.size+1
    rw[hbe,iG,aJ (LI h2)];exact nw.h.symm;rw[cM hbe,aJ hbe];by_cases hbd:b=dx
    rw[hbd,aV,aV];rw[aJ hbd,aJ hbd,aJ hbe]
   rw[eF]at I5;have ne5:Iz H2 dx (.xd [(f,v)]) (s2.heap.objs.size+1)=Go:=by rw[aJ (LI h2)];exact nw.h
   have n5:New X aor (Iz H2 dx (.xd [(f,v)])) (s2.heap.objs.size+1):=⟨ne5,nw.s,nw.l,nw.c,nw.p,nw.f⟩
   refine⟨rv,Dn dx,I4.kIn _ _ hC,he4,Quiet.qte (A:=X.A) I5.qt0 I5.hok ne5,λh' i=>?_⟩;obtain⟨rs,o',b1,b2,b3,b4⟩:=i;have st:Tq (New X aor (Iz H2 dx (.xd [(f,v)]))) (frs X.stack) s'.heap h':=by
    have nn:∀b,¬New X aor (Iz H2 dx (.xd [(f,v)])) b->b≠s2.heap.objs.size+1:=λb q z=>q (by rw[z];exact n5)
    refine⟨λb o q _ z=>(rs b<|nn b q).trans z,λb o q z=>⟨o.slots,(rs b<|nn b q).trans z⟩,λb o z=>?_⟩;by_cases hb:b=s2.heap.objs.size+1
    rw[hb];exact⟨o',b1⟩;exact⟨o,(rs b hb).trans z⟩
   refine hx _ dx H2 _ v ⟨I5.stp st,n5,o',?_⟩ h1 kk;rcases b4 with⟨_,rfl⟩|⟨y,hy,hd'⟩
   rw[he4]at b1;cases b1;exact⟨_,he4,rfl,rfl,rfl,by simp,⟨.none,rfl,.nil⟩,.inl rfl⟩;exact⟨_,b1,b2,b3,hd',by simp,⟨y,by simp,(hn y hy).mono (λ_ q=>q) I5.base.frzs⟩,.inl<|by simp⟩
  | next=>exact Td hq'
  | brk=>exact Td hq'
  | cont=>exact Td hq'
end
noncomputable def BX (x f:Str)(ma:ME)(E:Bm):MS:=λ_ σ h=>ma σ h λw h1=>E ⟨x,[(f,w)]⟩ h1
section
variable {X:Cx}{e:Expr}{pos:Pos}
theorem zas {C:Addr}{x f:Str}{aot:Pos}{k:Nat}{fd:Nv}{ps:List Str}(hn:abK X)(hex:X.ex=[])(hg:Gl X x)(hm:X.mg x=Dn (.ref C))(hq:Im X.K C fi O8 "ValueError.__new__" = true)(hfn:Yz X.K (.ref fi)=true)
  (Fi:jO X.prog X.w X.K X.mg X.base Q8 k fi fd ps (spI C f)) (hr:gQ (k+1) X.A) (hb:Binds X.K fd ps []) (hx:Zm X.K C x=true) (hf:Dp x=[f]) (ha:DE X e ma) (hdb:(x==("__debug__" : Str))=false:=by decide) (he:J9 [e] X.env=(false,eval e X.env)::J9 [] X.env:=by rfl) :
  Wq X Γ (.Raise (Dn (.Call (.Name x np) [e] [] aot)) Go pos) (λE=>BX x f ma E):=by
 rintro aor s σ H D I ⟨g,μ,h,σw,Dw,E,R,S,m,k,kx⟩;have hxc:=by
  have:=hx
  unfold Zm at this;simp at this;exact this.1.1
 refine zaA (R:=λv H1=>∃μ1 w h1,Ji X.K H μ H1 μ1/\Iu X.K μ1 H1 h1/\CR X.K H1 μ1 w v/\E ⟨x,[(f,w)]⟩ h1) hn hex hg hm hq hfn Fi hr hb (bV ha cT he) I ⟨μ,h,σw,λws h1=>∃w,ws=[w]/\E ⟨x,[(f,w)]⟩ h1,R,S,?_,λvs H' ⟨μ1,ws,h1,e1,R1,r1,w,ew,m1⟩=>?_⟩ (λa dx H1 s' v F hdx ⟨μ1,w,h1,e1,R1,r1,m1⟩=>?_) hdb he;exact(show ma σw h λw h1=>aG σw h1 λws h2=>∃w',(w::ws)=[w']/\E ⟨x,[(f,w')]⟩ h2 from by
  have:(λw h1=>E ⟨x,[(f,w)]⟩ h1)=(λ(w:W) (h1:Gh)=>aG σw h1 λws h2=>∃w',(w::ws)=[w']/\E ⟨x,[(f,w')]⟩ h2):=by
   funext w h1;apply propext;constructor;exact λz=>⟨w,rfl,z⟩;rintro⟨w',ew,z⟩;simp_all
  exact this ▸ m)
 subst ew;obtain⟨v,vr,ev,rv,r0⟩:=r1;subst r0;grind
 have ex:Ji X.K H1 μ1 (Iz H1 dx (.xd [(f,v)])) μ1:=(Ex.laid hdx).ext;refine kx _ s' ⟨a,C,x,Dn dx,[(f,w)],aor,σ,_,μ1,h1,rfl,F,hxc,g,e1.trans ex,R1.laid hdx,.inr ⟨dx,[w],[v],rfl,hx,by rw[hf];rfl,by rw[hf];rfl,by rw[hf];rfl,?_,aY.one<|ex.r _ _ r1⟩,m1⟩;exact hf ▸ aV
end
noncomputable def Yl (f:Str)(ma:ME):ME:=fun σ h Q=>ma σ h λw h1=>match w with
 | .exa n ws=>(match((Dp n).zip ws).lookup f with
  | some v=>Q v h1
  | none=>False)
 | _=>False
theorem uN {K H μ}{f v}:∀{ns:List Str}{ws xs},aY K H μ ws xs->(ns.zip ws).lookup f=Dn v->∃x,(ns.zip xs).lookup f=Dn x/\CR K H μ v x
 | n::ns,w::ws,xs,r,e=>by
  obtain⟨u,us,rfl,G,r⟩:=r;rw[List.zip_cons_cons,Xv]at e|-
  cases q:f==n with
  | true=>rw[q]at e;cases e;exact⟨u,rfl,G⟩
  | false=>rw[q]at e;exact uN r e
theorem Pq {f}{v:W}:∀{ns:List Str}{ws},(ns.zip ws).lookup f=Dn v->f∈ns
 | n::ns,w::ws,e=>by
  rw[List.zip_cons_cons,Xv]at e;cases q:f==n with
  | true=>rw[beq_iff_eq.mp q];exact T9 ..
  | false=>rw[q]at e;exact RN _ (Pq e)
section
variable {X:Cx}{e:Expr}{f:Str}{pos:Pos}
theorem acP (ha:DE X e ma)(hb:ZW e f X.env (eval e X.env)=eval e X.env:=by rfl):DE X (.Attribute e f pos) (Yl f ma):=by
 rintro aor s σ H Q I ⟨μ,h,σw,Qw,R,S,m,q⟩;refine amP hb<|JC (ha aor s σ H _ I ⟨μ,h,σw,_,R,S,m,λ_ _ z=>z⟩) λu s1 a=>?_;obtain⟨x,H1,I1,rx,μ1,w,h1,e1,R1,r1,m1⟩:=a
 cases w with
 | exa n ws=>
  dsimp only at m1;split at m1
  ·rename_i v el;obtain⟨p,o,uu,dd,ns,xs,ev,hp,⟨C,hcl,hdi,hnc,hxa⟩,hdd,en,hln,rs⟩:=r1;subst ev en;obtain rfl:u=Value.ref p:=rx;obtain⟨y,ey,ry⟩:=uN rs el;obtain⟨mA,hns,hrel⟩:=(I1.hok dd _ hdd)
   have ry2:=hrel f;rw[ey]at ry2;cases qm:mA f with
   | none=>rw[qm]at ry2;cases ry2
   | some uv=>
    rw[qm]at ry2;obtain⟨od,hod,hl⟩:=zbe hns;unfold Zm at hxa;simp at hxa;obtain⟨⟨hxc,hhd⟩,hall⟩:=hxa;obtain⟨_,⟨cd,Rr,hc,hmm,_⟩,hg,hg',_⟩:=aaj hxc;have hB:X8 X.K C (.type "BaseException")=Dn true:=by
     unfold X8;rw[hc,Option.bind_some,hmm];rfl
    exact zbj I1.kIn ⟨(I1.hok p _ hp).1,hcl,hnc,by rwa[hdi]⟩ hg hg' (PySem.W.findObj_own hhd (hall f<|Pq el) rfl<|by rw[hl,qm]) (ajo ry2) hB ⟨y,H1,I1.tok _,ry2,q _ _ ⟨μ1,v,h1,e1,R1,ry,m1⟩⟩
  cases m1
 | _=>cases m1
end
section
variable {X:Cx}
end
section
variable {X:Cx}{tg:Expr}
theorem ami {iter}{body g}{mb0 pos}(hp:sV (Bu X.prog X.w) X.A X.env X.xe)(hc:X.calm=true)(hΓ:∀σ,Γ σ)(hi:TJ X tg iter mi)(hg:DG X tg g)(hb:Jm X Γ body mb0)
  (hs:∀x,Xx iter X.env x=pure x:=by intro _;rfl):Wq X Γ (.For tg iter body [] pos) (λE=>vh mi g (mb0 E)):=(Vo hp hc hi hg hb hs).of λD σ H a=>by
 obtain⟨_,μ,h,σw,Dw,E,R,S,m,k,kx⟩:=a;refine⟨μ,h,σw,_,R,S,m,λJ H1 ⟨μ1,src,h1,e1,R1,ok,m1⟩=>⟨λi n σ' H'=>n=src.ws.length-i/\i<=src.ws.length/\DN _ H1 μ1 (fW src g _ Dw<|src.ws.drop i) σ' H',⟨src.ws.length,by simp,T7 _,μ1,σw,h1,.refl,R1,S.ext e1,m1⟩,?_⟩⟩;rintro i n σ2 H2 ⟨hn,hle,μ2,σw2,h2,e2,R2,S2,m2⟩;by_cases hlt:i<src.ws.length
 rw[v7 hlt]at m2;obtain⟨ck,m2⟩:=Src.go_ok m2;obtain⟨hgo,hy⟩:=(ok e2 R2 ck).1 src.ws[i] (MH hlt);refine .inr ⟨hgo,fun σ' H'=>DN _ H2 μ2 _ σ' H',fun σ' H' z=>⟨src.ws.length-(i+1),by lia,rfl,hlt,z.trans e2⟩,λx H3 y=>?_⟩;obtain⟨μ3,e3,R3,rx⟩:=hy x H3 y;refine⟨μ3,h2,σw2,src.ws[i],_,R3,S2.ext e3,rx,m2,fun σ4 H4 ⟨μ4,σw4,h4,e4,R4,S4,m4⟩=>?_⟩;have e24:=e3.trans e4;have e14:=(e1.trans e2).trans e24;exact⟨hΓ _,μ4,h4,σw4,_,E,R4,S4,m4,⟨fun σ' H' z=>z.trans e24,λv H' z=>k.rt _ _<|z.trans e14,fun σ' H' z=>k.nx _ _<|z.trans e14,fun σ' H' z=>z.trans e24⟩,λev s' z=>kx ev s'<|z.trans e14⟩;have ei:i=src.ws.length:=by lia
 subst ei;rw[List.drop_length]at m2;obtain⟨ck,m2⟩:=Src.go_ok m2;exact .inl ⟨(ok e2 R2 ck).2 (JL _),k.nx _ _ ⟨μ2,σw2,h2,e1.trans e2,R2,S2,m2⟩⟩
end
noncomputable def Ite (K:BW)(l:Addr):It:=
  ⟨λi H=>∃xs x,Kh K H l xs/\xs[i]?=Dn x,
   λi H v H'=>∃p x,H p=Go/\v=.ref p/\H'=Iz H p (.tup [.int (i:Int),x])/\∀xs,Kh K H l xs->xs[i]?=Dn x,
   λi H=>∃xs,Kh K H l xs/\xs.length<=i,true⟩
noncomputable def ahT (e it l:Addr)(n:Nat)(h:Heap):Prop:=(∃G,IsEnum h e it (n:Int) G)/\h.IsListIter it l n
theorem aiX {P:IW}{w:IV}{K:BW}{pos:Pos}{e it l:Addr}(F:e≠it):Turn P w K (.Tuple elts kt pos) (Ite K l) [e,it] e (ahT e it l) where
 mem:=by simp
 obj:=λi h st b G=>by
  obtain⟨⟨U,O⟩,o,J,_,d⟩:=st;simp at G;rcases G with rfl|rfl
  exact⟨_,O,nofun⟩;exact⟨o,J,λv y=>by rw[d]at y;cases y⟩
 keep:=λi h h' st k=>⟨⟨_,k e (by simp) _ st.1.choose_spec⟩,st.2.at λo q=>k it (by simp) o q⟩
 item:=by
  intro X t n v N i aor s σ H E I f st p;subst t n v;obtain⟨⟨U,O⟩,J⟩:=st;obtain⟨xs,x,c,ex⟩:=p;obtain⟨its,r,m,hz⟩:=I.list c;obtain⟨u,hu,S⟩:=r.get ex;refine wpAny_pyNext_enum_item O J m.isList (by simpa using hu) F λh1 go A T1 g a=>⟨_,rfl,?_⟩;refine wpAny_letOwnedTupleGo_enum go λh2 ge2 j=>?_;have I1:Al X aor σ (Iz H _ (.tup [.int _,x])) {s with heap:=s.heap.push {cls:=.type "tuple",data:=.seq #[.int _ _,u]},toks:=s.toks+1}:=
   I.laid (λb o q=>JV _ q) (JL _) ⟨(by show 2<=JN;decide),[.int (i:Int) s.toks,u],.cons ⟨_,rfl⟩ (.cons S .nil),⟨_,Mf _ rfl,rfl,⟨_,rfl⟩,rfl⟩⟩
  have Z:∀b∈[e,it],s.heap.objs.size≠b:=λb G=>by
   simp at G;rcases G with rfl|rfl
   exact(SJ<|Jb O);exact(by obtain⟨o,q,_⟩:=J;exact SJ (Jb q))
  have Y:∀b∈[e,it],JR X aor (Iz H _ (.tup [.int (i:Int),x])) b:=λb G=>⟨by rw[aJ (LI (Z b G))];exact(f b G).1,(f b G).2⟩
  have I2:=by
   refine Al.turnedL (h':=h2) (t':=s.toks+1) I1 (λb o G q=>?_) Y;have B:b≠e:=λq=>G (by simp[q])
   rcases Heap.get?_push_cases q with⟨rfl,rfl⟩|T
   exact j.extBut _ _ B T1;exact j.extBut _ _ B<|a b o B (λq=>G<|by simp[q]) T
  refine⟨.ref s.heap.objs.size,_,I2,rfl,⟨s.heap.objs.size,x,(I.hok.fresh<|JL _),rfl,rfl,λxs' q=>I.list_inj q c ▸ ex⟩,?_,λb G=>(Y b G).1⟩;exact⟨⟨_,by rwa[Int.natCast_add]⟩,A.at λo q=>j.extBut _ o (LI F) q⟩
 done:=by
  intro X t n v N i aor s σ H E I f st p;subst t n v;obtain⟨⟨U,O⟩,J⟩:=st;obtain⟨xs,c,hl⟩:=p;obtain⟨its,r,m,hz⟩:=I.list c;have hn:=r.length;refine wpAny_pyNext_enum_end (I.ok.hd<|N rfl) O J m.isList (by simp;lia) λh1 eb=>⟨rfl,I.turnedL (λb o G q=>eb b o (λz=>G<|by simp[z]) q) f⟩
 self:=λ_ _ _ _ _ st h=>wpAny_pyIter_enum st.1.choose_spec h
section
variable {X:Cx}{K:BW}
noncomputable def afA (K:BW)(ta:TA):TI:=fun σ H R=>ta σ H λvs H1=>∃a xs,vs=[.ref a]/\Kh K H1 a xs/\R (Ite K a) H1
theorem akR {ta}{p pos tpos}(hg:Gl X "enumerate")(hm:X.mg "enumerate" = Go)(ha:PA X [e1] ta)
  (hs:J9 [e1] X.env=(false,eval e1 X.env)::J9 [] X.env:=by rfl) (hpl:(Mi pos (J9 [] X.env)).any (·.1)=false:=by rfl) :
  PI X (.Tuple elts kt tpos) (.Call (.Name "enumerate" p) [e1] [] pos) (afA X.K ta):=by
 intro aor s σ H R I h;refine Xz<|pR I hg hm boot_enumerate (Zk (JC (ha pos aor s σ H _ I h) λus s1 ⟨vs,H1,I1,r1,q1⟩=>?_) hs hpl) (by decide)<|by decide
 obtain⟨a,xs,ev,hx,q⟩:=q1;subst ev;obtain⟨u1,eu,ru1⟩:=vals1 r1;subst eu;cases ru1;obtain⟨its,r,pl,hz⟩:=I1.list hx;refine call_enumerate_list pl.isList λh' ge gi size all=>(wpAny_pyIter_enum ge ?_);generalize hn:s1.heap.objs.size=n at ge gi size|-
 refine⟨n+1,[n+1,n],_,_,H1,rfl,(I1.kept all),aiX<|lO<|show n+1≠n by lia,⟨⟨_,ge⟩,gi⟩,λc hc=>?_,q⟩;have hc':n<=c:=by
  grind
 exact I1.fpOk (hn ▸ hc')<|I1.hok.fresh<|hn ▸ hc'
noncomputable def Ue:Nat->List W->List W
 | _,[]=>[]
 | i,a::as=>.tup [.int (i:Int),a]::Ue (i+1) as
theorem Bv:∀{as:List W}{j i:Nat}{w:W},(Ue j as)[i]?=Dn w->∃a,as[i]?=Dn a/\w=.tup [.int ((j+i:Nat):Int),a]
 | a::as,j,0,w,e=>⟨a,rfl,(Ma e).symm⟩
 | a::as,j,i+1,w,e=>by
  obtain⟨x,h1,h2⟩:=Bv (by simpa[Ue]using e);grind
theorem CQ:∀{as j},(Ue j as).length=as.length
 | [],_=>rfl
 | a::as,j=>by rw[Ue,PL,CQ,PL]
noncomputable def enS (h:Gh)(x:W):Option Src:=match x with
 | .lst as=>Dn ⟨Ue 0 as,Go⟩
 | .kls as=>Dn ⟨Ue 0 as,Go⟩
 | .loc n=>(match h.c n with
  | some (.lst as)=>Dn ⟨Ue 0 as,Dn (n,as)⟩
  | _=>Go)
 | _=>Go
theorem ab5 {H h w v}{s}(R:Iu K μ H h)(r:CR K H μ w v)(e:enS h w=Dn s):
  ∃a ws o,v=.ref a/\s=⟨Ue 0 ws,o⟩/\Src.chk ⟨ws,o⟩ h/\∀{H2 μ2 h2},Ji K H μ H2 μ2->Iu K μ2 H2 h2->Src.chk ⟨ws,o⟩ h2->∃xs,Kh K H2 a xs/\aY K H2 μ2 ws xs:=by
 cases w with
 | lst us=>
  cases(e)
  have O:=r;obtain⟨p,xs,G,hs,J⟩:=r;subst G;refine⟨p,us,Go,rfl,rfl,trivial,λ{H2 μ2 h2} x _ _=>?_⟩;obtain⟨q,ys,G,hs,J⟩:=(x.r _ _ O)
  cases G;exact⟨ys,hs.sq,J⟩
 | kls us=>
  cases e;have O:=r;obtain⟨p,xs,G,hs,J⟩:=r;subst G;refine⟨p,us,Go,rfl,rfl,trivial,λ{H2 μ2 h2} x _ _=>?_⟩;obtain⟨q,ys,G,hs,J⟩:=(x.r _ _ O)
  cases G;exact⟨ys,hs.sq,J⟩
 | loc n=>
  have e:(match h.c n with
   | some (.lst as)=>Dn _
   | _=>Go)=Dn s:=e
  split at e
  rename_i as d;cases e;have O:=r;obtain⟨p,G,g⟩:=r;subst G;refine⟨p,as,Dn _,rfl,rfl,d,λ{H2 μ2 h2} x R2 f=>?_⟩;obtain⟨q,c,Y⟩:=(x.r _ _ O)
  cases c;obtain⟨p',xs,U,b,J⟩:=R2.lstAt f;cases by rw[Y]at U;exact(Ma U).symm
  exact⟨xs,.of b,J⟩;cases e
 | _=>cases e
noncomputable def ZG (ma:MA):MI:=fun σ h R=>ma σ h λws h1=>match ws with
 | [x]=>(match enS h1 x with
  | some s=>R s h1
  | none=>False)
 | _=>False
theorem ali {p pos tpos}(hg:Gl X "enumerate")(hm:X.mg "enumerate" = Go)(ha:NQ X [e1] mr)
  (hs:J9 [e1] X.env=(false,eval e1 X.env)::J9 [] X.env:=by rfl) (hpl:(Mi pos (J9 [] X.env)).any (·.1)=false:=by rfl) :
  TJ X (.Tuple elts kt tpos) (.Call (.Name "enumerate" p) [e1] [] pos) (ZG mr):=PI.of (akR hg hm ha hs hpl) fun σ H Q d=>by
 obtain⟨μ,h,σw,Rw,R,S,m,k⟩:=d;refine⟨μ,h,σw,_,R,S,m,λvs H1 b=>?_⟩;obtain⟨μ1,ws,h1,e1,R1,r1,m1⟩:=b;split at m1
 split at m1
 rename_i x _ s es;obtain⟨v,ev,rv⟩:=jY r1;obtain⟨a,as,o,ea,es',ck1,fa⟩:=ab5 R1 rv es;subst es' ea;obtain⟨xs,hxs,_⟩:=fa .refl R1 ck1;refine⟨a,xs,ev,hxs,k _ _ ⟨μ1,⟨Ue 0 as,o⟩,h1,e1,R1,?_,m1⟩⟩;intro H2 μ2 h2 i e2 R2 ck;obtain⟨xs2,hxs2,rxs⟩:=fa e2 R2 ck;refine⟨λw ew=>?_,λhl=>⟨xs2,hxs2,?_⟩⟩;obtain⟨p1,ep1,rfl⟩:=Bv ew;obtain⟨q1,eq1,rq1⟩:=rxs.get ep1;refine⟨⟨xs2,q1,hxs2,eq1⟩,λx' H3 c=>?_⟩;obtain⟨pa,x1,hp,ex',eH3,f1⟩:=c;have g1:=f1 xs2 hxs2;rw[eq1]at g1;cases g1;subst ex' eH3;rw[YW];exact⟨μ2,(Ex.laid hp).ext,R2.laid hp,.tupNew hp<|.cons (by rw[CR])<|.one rq1⟩;have l1:=rxs.len;have:=CQ ▸ hl
 lia;cases m1;cases m1
end
section
variable {X:Cx}{pos p:Pos}{e:Expr}{es:List Expr}{k:Nat}{fs:List (Addr×AP)}
end
section
variable {P:IW}{w:IV}{A:Ig}{E:JI->Ab->Prop}{s:Ab}{kd:YX}{rk:JI->Nat}{good:JI->Prop}
structure Within (a b:Array Ol) (lo hi:Nat):Prop where
 perm:b.Perm a
 out:∀k,k<lo\/hi<=k->b[k]?=a[k]?
end
variable {good:JI->Prop}{kd:YX}
section
variable {P:IW}{w:IV}{A:Ig}{E:JI->Ab->Prop}{s:Ab}{rk:JI->Nat}
end
section
variable {P:IW}{w:IV}{A:Ig}{E:JI->Ab->Prop}{s:Ab}{d it:Addr}{es:Array DictEntry}{i:Nat}
end
section
variable {P:IW}{w:IV}{A:Ig}{E:JI->Ab->Prop}{s:Ab}{rk:JI->Nat}
end
section
variable {rk:JI->Nat}
noncomputable def SL (rk:JI->Nat)(l:List Ol):Prop:=l.Pairwise λx y=>rk x.1<rk y.1
end
section
variable {P:IW}{w:IV}{A:Ig}{E:JI->Ab->Prop}{s:Ab}{rk:JI->Nat}
structure Two (rk:JI->Nat) (good:JI->Prop) (a b:Array Ol):Prop where
 sa:SL rk a.toList
 sb:SL rk b.toList
 ga:∀p∈a.toList,good p.1
 gb:∀p∈b.toList,good p.1
 ne:∀x∈a.toList,∀y∈b.toList,rk x.1≠rk y.1
end
section
variable {rk:JI->Nat}
end
section
variable {P:IW}{w:IV}{A:Ig}{E:JI->Ab->Prop}{s:Ab}{rk:JI->Nat}
end
section
variable {P:IW}{w:IV}{A:Ig}{E:JI->Ab->Prop}{s:Ab}
structure KyT (T:Heap->JI->List Int->Prop):Prop where
 fn:∀{h:Heap}{v:JI}{k l:List Int},T h v k->T h v l->k=l
 of:∀{h h':Heap}{v:JI}{k:List Int},T h v k->(∀b o,o.cls=.type "tuple"->h.get? b=Dn o->h'.get? b=Dn o)->T h' v k
section
variable {T:Heap->JI->List Int->Prop}(F:KyT T)
include F
end
end
section
variable {X:Cx}{K:BW}
end
section
variable {X:Cx}{o:Expr}{ma:MA}{apos aot:Pos}
end
section
variable {X:Cx}{K:BW}
variable {o e:Expr}{ma:MA}{apos aot:Pos}
end
section
variable {prog:IW}{w:IV}{A:Ig}{R:Result->Ab->Prop}{E:JI->Ab->Prop}{I:Addr}{ns:List Int}{its:List JI}
noncomputable def Gr (ns:List Int)(j:Nat)(b:Int):Prop:=b∈ns/\∀k,k<j->ns.getD k 0<=b
end
section
variable {X:Cx}
end
section
open AutoSeq1 (wpAny_loadPart')
end
section
variable {prog:IW}{w:IV}{A:Ig}{E:JI->Ab->Prop}{s:Ab}
end
section
variable {X:Cx}{K:BW}
end
section
variable {prog:IW}{w:IV}{A:Ig}{R:Result->Ab->Prop}{I:Addr}{its:List JI}
end
section
variable {X:Cx}{K:BW}
end
section
variable {X:Cx}
end
section
variable {prog:IW}{w:IV}{A:Ig}{E:JI->Ab->Prop}{s:Ab}
end
section
variable {X:Cx}{K:BW}
end
section
variable {prog:IW}{w:IV}{A:Ig}{E:JI->Ab->Prop}{s:Ab}{r l:Addr}{items:Array JI}
end
section
variable {X:Cx}
end
section
variable {P:IW}{w:IV}{A:Ig}{E:JI->Ab->Prop}{s:Ab}
end
section
variable {X:Cx}{K:BW}
noncomputable def Yb:ME:=λ_ h Q=>Q (.loc h.nx) (h.new (.dct []))
theorem acs {pos}:DE X (.Dict [] [] pos) Yb:=zbu.of fun σ H Q a p G=>by
 obtain⟨μ,g,σw,O,R,S,m,q⟩:=a;have J:Iu _ _ (Iz H p (.dK [])) (g.new (.dct [])):=R.newCell G trivial ⟨[],aV,.nil⟩;exact q _ _ ⟨_,.loc _,_,(Ex.newCell R G).ext,J,⟨p,rfl,Mu.put_same⟩,m⟩
end
section
variable {X:Cx}{o:Expr}{ma:MA}{apos aot:Pos}
end
section
variable {prog:IW}{w:IV}{A:Ig}{R:Result->Ab->Prop}{E:JI->Ab->Prop}{I:Addr}{ns:List Int}{its:List JI}
end
section
variable {X:Cx}
end
section
variable {X:Cx}{a b o i:Expr}{mb:ME}{td ty:TE}{pos:Pos}
end
section
variable {P:IW}{w:IV}{A:Ig}{E:JI->Ab->Prop}{s:Ab}
end
section
variable {X:Cx}
end
noncomputable def Fk (P:IW)(w:IV)(K:BW)(mg:Str->Option JI)(base:Heap)(k:Nat)(x:Str)(ms:AP):Prop:=∃f fd ps,jO P w K mg base Q8 k f fd ps (lift K ms)/\mg x=Dn (.ref f)/\Ry K (.ref f)=true/\Binds K fd ps []
noncomputable def At (K:BW)(mg:Str->Option JI)(x:Str)(st:Stmt)(ps:List Str):Prop:=∃f fd,W2 K x x st f fd/\mg x=Dn (.ref f)/\Binds K fd ps []
section
variable {X:Cx}{e e3 e4:Expr}{es:List Expr}{mb mc md:ME}{pos:Pos}{k:Nat}{zl:List Str}{x:Str}{p:Pos}
theorem vV (i)(hN:X.N[i]?=Dn x:=by with_unfolding_all rfl)(hv:Vis X.env.scope x:=by with_unfolding_all first|exact Or.inl rfl|exact Or.inr (Or.inl rfl)|exact Or.inr (Or.inr rfl))(hd:(x==("__debug__" : Str))=false:=by decide)(hcd:(x==("__classdict__" : Str))=false:=by decide):DE X (.Name x pos) (ao i):=dv i (pv i hN hv hd hcd)
theorem aC (h1:DE X e ma)(h2:NQ X es mr)(s:JM e=false:=by with_unfolding_all rfl):NQ X (e::es) (aj ma mr):=bV h1 h2 (aM s)
theorem a1 (h1:DE X e ma)(s:JM e=false:=by with_unfolding_all rfl):NQ X [e] (aj ma aG):=aC h1 cT s
theorem a2 (h1:DE X e ma)(h2:DE X e2 mb)(s1:JM e=false:=by with_unfolding_all rfl)(s2:JM e2=false:=by with_unfolding_all rfl):NQ X [e,e2] (aj ma (aj mb aG)):=aC h1 (a1 h2 s2) s1
theorem a3 (h1:DE X e ma)(h2:DE X e2 mb)(h3:DE X e3 mc)(s1:JM e=false:=by with_unfolding_all rfl)(s2:JM e2=false:=by with_unfolding_all rfl)(s3:JM e3=false:=by with_unfolding_all rfl):NQ X [e,e2,e3] (aj ma (aj mb (aj mc aG))):=aC h1 (a2 h2 h3 s2 s3) s1
theorem Di {j:Nat}(F:Fk X.prog X.w X.K X.mg X.base j x ms)(ha:NQ X (e::es) mr)(hr:gQ k X.A:=by with_unfolding_all assumption)(hk:j<=k:=by decide)(hg:Gl X x:=by with_unfolding_all rfl)(hdb:(x==("__debug__" : Str))=false:=by decide)(h1:JM e=false:=by with_unfolding_all rfl)(h2:noStar es=true:=by with_unfolding_all rfl):
  DE X (.Call (.Name x p) (e::es) [] pos) (aF ms EF mr):=by
 obtain⟨f,fd,ps,a,b,c,d⟩:=F;exact acZ (a.mono hk) hr hg b c d ha hdb (aM h1)<|cC h2
theorem Lz {id mc}(hc:lC X (.builtin id) mc)(hv:X3 x=Dn (.builtin id))(ha:NQ X (e::es) mr)(z:∀n∈zl,X.mg n=Go:=by with_unfolding_all assumption)(hz:x∈zl:=by decide)(hg:Gl X x:=by with_unfolding_all rfl)(hn:x ≠ "__name__":=by decide)(hdb:(x==("__debug__" : Str))=false:=by decide)
  (h1:JM e=false:=by with_unfolding_all rfl) (h2:noStar es=true:=by with_unfolding_all rfl):DE X (.Call (.Name x p) (e::es) [] pos) (Jl mc mr):=aal hc hg (z _ hz) hv ha hn hdb (aM h1) (cC h2)
theorem dct {T mc}(hc:lC X (.type T) mc)(hv:X3 x=Dn (.type T))(ha:NQ X (e::es) mr)(z:∀n∈zl,X.mg n=Go:=by with_unfolding_all assumption)(hz:x∈zl:=by decide)(hg:Gl X x:=by with_unfolding_all rfl)(hn:x ≠ "__name__":=by decide)(hdb:(x==("__debug__" : Str))=false:=by decide)
  (h1:JM e=false:=by with_unfolding_all rfl) (h2:noStar es=true:=by with_unfolding_all rfl):DE X (.Call (.Name x p) (e::es) [] pos) (Jl mc mr):=xP hc hg (z _ hz) hv ha hn hdb (aM h1) (cC h2)
theorem JB (i){pos'}(he:DE X e ma)(hN:X.N.Nodup:=by with_unfolding_all assumption)(hi:X.N[i]?=Dn x:=by with_unfolding_all rfl)(hx:Loc X.env.scope x:=by with_unfolding_all first|exact Or.inl rfl|exact Or.inr rfl)(hs:Xe e (Dn (.Name x pos')) pos.line X.env=pure false:=by with_unfolding_all rfl)
  (hf:X.fn x=true\/X.env.scope.names.lookup x=Dn .local:=by with_unfolding_all first|exact .inl rfl|exact .inr rfl):DS X (.Assign [.Name x pos'] e pos) (bF ma (kI i)):=Ln hN hi hx he hs hf
theorem Ui (i)(hN:X.N.Nodup:=by with_unfolding_all assumption)(hi:X.N[i]?=Dn x:=by with_unfolding_all rfl)(hx:Loc X.env.scope x:=by with_unfolding_all first|exact Or.inl rfl|exact Or.inr rfl)(hf:X.fn x=true\/X.env.scope.names.lookup x=Dn .local:=by with_unfolding_all first|exact .inl rfl|exact .inr rfl):DG X (.Name x pos) (kI i):=Cu (oW hN hi hx hf)
theorem Bl {a b}(ha:DE X a ma)(hb:DE X b mb)(hs:Cp b:=by with_unfolding_all (intro _ _;rfl)):DE X (.Subscript a b pos) (Mk BZ ma mb):=afv ha hb hs
theorem Jo {a b:Expr}{op:CmpOp}{m2:M2}(ho:Qi X (PJ op) m2)(ha:DE X a ma)(hb:DE X b mb)(hm:Y8 op b=false:=by with_unfolding_all first|exact Qm _|rfl):DT X (.Compare a [op] [b] pos) (bC (Mk m2 ma mb)):=U5 ho ha hb hm
theorem Sx {a b op m2}(ho:Qi X (PJ op) m2)(ha:DE X a ma)(hb:DE X b mb)(hm:Y8 op b=false:=by with_unfolding_all first|exact Qm _|rfl):DE X (.Compare a [op] [b] pos) (Mk m2 ma mb):=afo ho ha hb hm
theorem dl1 {scope iter}(ix)(hi:TJ X (.Name x p) iter mi)(ht:∀C s H fp,abw (blk X scope (jG X [x] ix) C s H fp) ifs tt)(he:∀C s H fp,DE (blk X scope (jG X [x] ix) C s H fp) elt te)(B:jy X scope [x] ix:=by with_unfolding_all exact cB rfl)(hc:X.calm=true:=by with_unfolding_all assumption)
  (hs:∀v,Xx iter X.env v=pure v:=by with_unfolding_all (intro _;rfl)):DE X (.ListComp elt [⟨.Name x p,iter,ifs,0⟩] scope pos) (Jg Jr ix mi tt te):=agB ix hc B qW (qQ B) hi ht he hs
theorem RZ {scope iter}(ix)(hi:TJ X (.Name x p) iter mi)(he:∀C s H fp,DE (blk X scope (jG X [x] ix) C s H fp) elt te)(B:jy X scope [x] ix:=by with_unfolding_all exact cB rfl)(hc:X.calm=true:=by with_unfolding_all assumption)
  (hs:∀v,Xx iter X.env v=pure v:=by with_unfolding_all (intro _;rfl)):DE X (.ListComp elt [⟨.Name x p,iter,[],0⟩] scope pos) (Jg Jr ix mi gU te):=dl1 ix hi (λ_ _ _ _=>iw) he B hc hs
theorem qq (hr:gQ k X.A:=by with_unfolding_all assumption):X.A.units+30<Nb:=agW hr
theorem hh (hc:X.calm=true:=by with_unfolding_all assumption):X.calm=true:=hc
theorem Wv {a:Expr}{tg:Expr}(ha:NQ X [a] mr)(z:∀n∈zl,X.mg n=Go:=by with_unfolding_all assumption)(hz:("range" : Str)∈zl:=by decide)(hg:Gl X "range":=by with_unfolding_all rfl)(hs:JM a=false:=by with_unfolding_all rfl):TJ X tg (.Call (.Name "range" p) [a] [] pos) (lH mr):=zaV hg (z _ hz) ha (V5 hs)
end
theorem fk {P w K}{mg base x}{st}{ps zl:List Str}(N){k}{pure}{body}(T:At K mg x st ps)(z:∀n∈zl,mg n=Go)
  (hb:∀f cdv A  (outer) (s) (H) (E),gQ k (A.deeper (T4 x (aX st) s.heap.objs.size f cdv))->N.Nodup->(J5 Q8 P w K mg base N x (aX st) f cdv A outer s H E).nox.calm=true->(∀n∈zl,mg n=Go)->Tw (J5 Q8 P w K mg base N x (aX st) f cdv A outer s H E).nox (dJ st) (body EF))
  (S:gM N ps (aX st):=by exact⟨rfl,rfl,rfl,by decide +kernel,rfl,by decide +kernel,by decide +kernel⟩) (hk:9<=k:=by decide):Fk P w K mg base (k+1) x (JH ps.length N.length pure body):=by
 obtain⟨f,fd,F,m,b⟩:=T;exact⟨f,fd,ps,ahl F S λcdv A outer s H E hr=>hb f cdv A outer s H E hr S.nd (hr.calm hk) z,m,F.kp,b⟩
section
variable {X:Cx}{e:Expr}
end
section
variable {X:Cx}{o:Expr}{ma:MA}{apos aot:Pos}
end
section
variable {X:Cx}
end
section
variable {prog:IW}{w:IV}{A:Ig}{E:JI->Ab->Prop}{s:Ab}
end
section
variable {X:Cx}{K:BW}
end
section
variable {X:Cx}{c:Expr}{t:MT}
end
section
variable {X:Cx}
variable {o e:Expr}{es:List Expr}{ma:MA}{name:Str}{apos aot:Pos}{id:String}{r:V->List V->Hp->VK->Prop}{mr:MM}
end
section
variable {X:Cx}{e:Expr}{es:List Expr}{pos p:Pos}{k j:Nat}{x y:Str}{f:Addr}{fs:List (Addr×AP)}
end
theorem dc0 {X}{pos p k j x}(F:Fk X.prog X.w X.K X.mg X.base j x ms)(hr:gQ k X.A:=by with_unfolding_all assumption)(hk:j<=k:=by decide)(hg:Gl X x:=by with_unfolding_all rfl)(hdb:(x==("__debug__" : Str))=false:=by decide):DE X (.Call (.Name x p) [] [] pos) (aF ms EF aG):=by
 obtain⟨f,fd,ps,a,b,c,d⟩:=F;exact zbU (a.mono hk) hr hg b c d hdb
section
variable {X:Cx}
end
section
variable {X:Cx}{tg:Expr}
end
section
variable {prog:IW}{w:IV}{A:Ig}{E:JI->Ab->Prop}{s:Ab}
end
section
variable {X:Cx}
end
section
variable {X:Cx}{K:BW}
end
theorem zbi {prog w A}{E s}{env K}{e C n}{t}{pos}{rest Q}
  (a:jm K C n=true) (g:iy K D d=true) (hi:Jt n d=true)
  (h:Bh (Bu prog w) (A.mark (Dn (.ref e))) (eval t env) (λc G=>c=.ref D/\K.In G.heap/\(∃oe,G.heap.get? e=Dn oe/\oe.cls=.ref C) /\
   Bh (Bu prog w) (A.mark (Dn (.ref e))) (setFlight (.ref e) Go) (λ_ J=>
      Bh (Bu prog w) (A.mark (Dn (.ref e))) (execs (b₀::suite) env) Q (notedBy (Bu prog w) (A.mark (Dn (.ref e))) env (cameBackBy (Bu prog w) A env E)) J) (λ_ _=>False) G) (λ_ _=>False) s) :
  Bh (Bu prog w) A (handleBy (.ref e) env (.ExceptHandler (Dn t) Go (b₀::suite) pos::rest)) Q E s:=by
 refine wpAny_handleBy_cons (codeAny_handlers_test<|Lp h (λc G U=>?_) λ_ _ z=>z.elim) (by intro q;cases q);obtain⟨rfl,X,⟨oe,f,Y⟩,b⟩:=U;refine tR X f Y a g ?_;rw[hi];exact codeAny_handlers_suite<|Lp b (λ_ J O=>Lp O (λ_ _ z=>z) λ_ _ z=>z) λ_ _ z=>z.elim
noncomputable def Wr (d:Str)(mb mh:Bm->MS)(E:Bm):MS:=λD σ h=>mb (λx h'=>K8 (Jt x.cls d) (mh E D σ h') False) D σ h
noncomputable abbrev Cx.hndE (X:Cx)(a:Addr)(H0:Hp)(xe:JI->Ab->Prop):Cx:={X with A:=X.A.mark (Dn (.ref a)),H₀:=H0,calm:=false,xe:=xe}
section
variable {X:Cx}{body:List Stmt}{pos:Pos}{mh:Bm->MS}
theorem Al.hndE {aor}{σ:St}{H s}{a H0}{xe}(I:Al (X.hnd a H0) aor σ H s):Al (X.hndE a H0 xe) aor σ H s:=
 ⟨⟨I.ok.mod,I.ok.kind,I.ok.glob,I.ok.blt,I.ok.above,I.ok.inj,I.ok.has,I.ok.cab,I.ok.hd,I.ok.qt,I.ok.frames,I.ok.stk,I.ok.exf,I.ok.bs,I.ok.bsz,I.ok.noex,I.ok.exfs,I.ok.funs,I.ok.frf⟩,I.os,I.bare,I.base,I.loc,I.cell,I.free,I.freeC,I.pin,I.hok,I.len⟩
theorem Al.unhndE {aor}{σ:St}{H s}{a}(I:Al (X.hndE a H0 xe) aor σ H s):Al (X.hnd a H0) aor σ H s:=
 ⟨⟨I.ok.mod,I.ok.kind,I.ok.glob,I.ok.blt,I.ok.above,I.ok.inj,I.ok.has,I.ok.cab,I.ok.hd,I.ok.qt,I.ok.frames,I.ok.stk,I.ok.exf,I.ok.bs,I.ok.bsz,I.ok.noex,I.ok.exfs,I.ok.funs,I.ok.frf⟩,I.os,I.bare,I.base,I.loc,I.cell,I.free,I.freeC,I.pin,I.hok,I.len⟩
theorem New.unE {aor H}{a b}(n:New (X.hndE a H0 xe) aor H b):New X aor H b:=⟨n.h,n.s,n.l,n.c,n.p,n.f⟩
theorem FN.unE {aor σ H s}{a e C}{od H0}{xe}(G:X.Ok)(k:Uq X H0)(J:∀b,W0 (X.hnd a H0) b->W0 X b)(F:FN (X.hndE a H0 xe) aor σ H s e C od):FN X aor σ H s e C od:=
 ⟨Al.unhnd G k F.inv.unhndE,F.xn.mono (λ_ n=>n.unE) λ_ z=>z.mono (λb q=>J b q) λ_ _ _ q=>q⟩
theorem SP.unE {aor:List (Addr×Obj)}{a:Addr}{De:Ends}{f:Flow}{s':Ab}(J:X.Ok)(k:Uq X H0)(h:SP (X.hndE a H0 xe) aor De f s'):SP X aor De f s':=by
 cases f with
 | next|brk|cont=>obtain⟨G,H',I,q⟩:=h;exact⟨G,H',Al.unhnd J k I.unhndE,q⟩
 | ret v=>obtain⟨v,G,H',I,r,q⟩:=h;exact⟨v,G,H',Al.unhnd J k I.unhndE,r,q⟩
theorem ako (hg:Gl X d)(hm:X.mg d=Dn (.ref D))(hxd:iy X.K D d=true)(ht:Top X)(hx:X.ex=[])(hΓ:∀σ,Γ σ)
  (hb:∀aor xe σ0,Jm (X.tr aor xe) (fun σ=>σ=σ0) body mb) (hh:∀a H0 xe,abK (X.hndE a H0 xe)->Jm (X.hndE a H0 xe) (λ_=>True) (b₀::suite) mh) (hdb:(d==("__debug__" : Str))=false:=by decide) :
  Wq X Γ (.Try body [.ExceptHandler (Dn (.Name d np)) Go (b₀::suite) hpos] [] [] pos) (λE=>Wr d mb mh E):=by
 rintro aor s σ H De I ⟨hσ,μ,h,σw,Dw,E,R,S,m,k,kx⟩;refine wpAny_Try_except<|JC (hb aor _ σ [] s σ H De I.tr ⟨rfl,μ,h,σw,Dw,_,R,S,m,k,λev s' xt=>?_⟩) λf s' q=>?_
 ·obtain⟨a,C,n,od,fs,pins',σ',H',μ',h',rfl,F,hxc,rfl,e1,R1,xd,q⟩:=xt;have F:=F.untr;cases hix:Jt n d with
  | false=>
   rw[hix]at q;cases q
  | true=>
  rw[hix]at q;refine F.note ht F.inv.ok.frames λh1 F1=>F1.flight λh2 F2=>?_;obtain⟨_,oe0,vs0,he0,hc0,_⟩:=F2.xn;refine zbi hxc hxd hix<|Zr F2.inv.ok.kind hg (oU (F2.inv.ok.glob ▸ F2.inv.mod.glob.keeps F2.inv.bk) hm ⟨rfl,F2.inv.kIn,⟨oe0,he0,hc0⟩,(F2.flight λh3 F3=>?_)⟩) hdb
  obtain⟨nw,oe,vs,he,hc,hdd,hdt,_,⟨zz,hv2,hzz⟩,_⟩:=F3.xn;obtain⟨H0,hok,hnw,Ih⟩:=F3.inv.hnd nw hx he hdt hv2 hzz;have Hn:=nw.h;have e2:Ji _ H μ (Iz H' a (.frz oe (qN a oe))) μ':=e1.trans (Ex.laid Hn).ext;refine Lp (hh a H0 (notedBy _ _ _ _) (.ok Ih.hndE.ok) aor _ _ _ De Ih.hndE
   ⟨trivial,μ',h',σw,Dw,E,R1.laid Hn,S.ext e2,q,k.trans e2,λev s5 xt=>?_⟩) (λf s5 q5=>SP.unE F3.inv.ok hok q5) λ_ _ z=>z
  obtain⟨b,C2,n2,od2,fs2,pins2,σ2,H2,μ2,hh2,rfl,G,hx2,_,e3,R2,xd2,q2⟩:=xt;refine G.note ⟨ht.1,ht.2⟩ G.inv.ok.frames λh4 G1=>?_;have G2:=G1.unE F3.inv.ok hok hnw;obtain⟨_,o2,v2,g1,g2,g3,g4,g5,g6,T,oT,tt,g7,g8⟩:=G2.xn;exact Aj<|N8 g1 g4 g7<|G2.flight λh5 G3=>(kx _ _ ⟨b,C2,n2,od2,fs2,pins2,σ2,H2,μ2,hh2,rfl,G3.fx,hx2,hΓ _,e2.trans e3,R2,xd2,q2⟩)
 ·have q:=SP.untr q;cases f with
  | next=>exact Yp q
  | brk|cont|ret v=>exact q
end
section
variable {X:Cx}{aor:List (Addr×Obj)}{σ:St}{H:Hp}{s:Ab}
theorem Al.drop {m i y}{v h' t'}(I:Al X aor σ H s)(l:X.N.Nodup)(hi:X.N[i]?=Dn y)(g:s.heap.Ns X.env.locals m)(b:h'.Ns X.env.locals (λx=>if x=y then v else m x))(U:RK X.env.locals s.heap h'):
  Al X aor (σ.set i Go) H {s with heap:=h',toks:=t'}:=by
 have J:=I.lost (t':=t') b U;obtain⟨Y,O,hl⟩:=I.loc;have z:Y=m:=by
  obtain⟨o,es,ep,ho,B,_,A⟩:=g;obtain⟨o',p,t,G,k,_,h⟩:=O;rw[ho]at G;grind
 subst z;refine⟨J.ok,J.os,J.bare,J.base,⟨_,b,λj x w h1 h2 n=>?_⟩,J.cell,J.free,J.freeC,J.pin,J.hok,by rw[Ze];exact I.len⟩;have a:j≠i:=λq=>by
  rw[q,List.getElem?_set]at h2;split at h2
  split at h2<;>cases h2
  exact absurd rfl ‹¬i=i›
 rw[tO (LI a)]at h2;obtain⟨u,e,f⟩:=hl j x w h1 h2 n;refine⟨u,e,?_⟩;rcases f with⟨k1,k2⟩|⟨k1,c,k2,k3⟩
 exact .inl ⟨k1,by show(if x=y then v else Y x)=Dn u;rw[if_neg<|λq=>a<|(List.getElem?_inj (Oi.mp h1).1 l).mp (by rw[h1,hi,q])];exact k2⟩;refine .inr ⟨k1,c,k2,?_⟩;obtain⟨o,ho,r⟩:=k3;exact⟨o,(U.2 c<|I.cne x c k2).trans ho,r⟩
end
noncomputable def bI.drop (D:bI)(i:Nat):bI:={D with nx:=fun σ h=>D.nx (σ.set i Go) h,bk:=fun σ h=>D.bk (σ.set i Go) h,ct:=fun σ h=>D.ct (σ.set i Go) h}
noncomputable def ZC (i:Nat)(d:Str)(mb:Bm->MS)(mh:MS):MS:=λD σ h=>mb (λx h'=>K8 (Jt x.cls d) (mh (D.drop i) (σ.set i (Dn (TV x))) h') False) D σ h
theorem Slots.drop {K H σ}(S:Slots K H μ σw σ)(i):Slots K H μ (σw.set i Go) (σ.set i Go):=by
 refine⟨by rw[Ze,Ze,S.len],λj w q=>?_⟩;by_cases e:i=j
 grind
 rw[tO e]at q|-
 exact S.get j w q
section
variable {X:Cx}{body:List Stmt}{y:Str}{pos:Pos}{i:Nat}
theorem ams (hN:X.N.Nodup)(hi:X.N[i]?=Dn y)(hy:X.env.scope.names.lookup y=Dn .local)(hg:Gl X d)(hm:X.mg d=Dn (.ref D))(hxd:iy X.K D d=true)(ht:Top X)(hx:X.ex=[])
  (hb:∀aor xe σ0,Jm (X.tr aor xe) (fun σ=>σ=σ0) body mb) (hh:∀a H0,Tw (X.hnd a H0).nox (b₀::suite) mh) (hdb:(d==("__debug__" : Str))=false:=by decide) :
  DS X (.Try body [.ExceptHandler (Dn (.Name d np)) (Dn y) (b₀::suite) hpos] [] [] pos) (ZC i d mb mh):=by
 rintro aor s σ H De I ⟨μ,h,σw,Dw,R,S,m,k⟩;refine wpAny_Try_except<|JC (hb aor _ σ [] s σ H De I.tr ⟨rfl,μ,h,σw,Dw,_,R,S,m,k,λev s' xt=>?_⟩) λf s' q=>?_
 ·obtain⟨a,C,n,od,fs,pins',σ',H',μ',h',rfl,F,hxc,rfl,e1,R1,xd,q⟩:=xt;have F:=F.untr;cases hix:Jt n d with
  | false=>
   rw[hix]at q;exact q.elim
  | true=>
  rw[hix]at q;refine F.note ht F.inv.ok.frames λh1 F1=>F1.flight λh2 F2=>?_;obtain⟨_,oe0,vs0,he0,hc0,_⟩:=F2.xn;refine akr hxc hxd hix ?_;refine Zr F2.inv.ok.kind hg (oU (F2.inv.ok.glob ▸ F2.inv.mod.glob.keeps F2.inv.bk) hm ⟨rfl,F2.inv.kIn,⟨oe0,he0,hc0⟩,?_⟩) hdb;refine F2.flight λh3 F3=>?_;obtain⟨nw,oe,vs,he,hc,hdd,hdt,_,⟨zz,hv2,hzz⟩,_⟩:=F3.xn;obtain⟨H0,hok,_,Ih⟩:=F3.inv.hnd nw hx he hdt hv2 hzz;have Hn:=nw.h;refine mZ (X:=X.hnd a H0) (v:=.ref a) Ih hN hi (.inl hy) rfl (λs4 I4=>?_)<|.inr hy
  have e2:Ji X.K H μ (Iz H' a (.frz oe (qN a oe))) μ':=e1.trans (Ex.laid Hn).ext;have rx:CR X.K (Iz H' a (.frz oe (qN a oe))) μ' (TV ⟨n,fs⟩) (.ref a):=by
   have nc:PySem.W.notCls oe=true:=by
    unfold PySem.W.notCls;rw[hdt]
   rcases xd with⟨rfl,rfl⟩|⟨dd,ws,xs,rfl,hxa,rfl,hl1,hl2,hdx,rs⟩
   exact⟨a,oe,_,rfl,aV,C,hc,hdd,nc,hxc⟩;rw[abj hl1,CR];exact⟨a,oe,_,dd,_,xs,rfl,aV,⟨C,hc,hdd,nc,hxa⟩,aJ (aO hdx Hn) ▸ hdx,rfl,hl2,(Ex.laid Hn).ext.s rs⟩
  refine Lp (hh a H0 aor s4 _ _ ⟨fun σ5 H5=>De.nx (σ5.set i Go) H5,De.rt,fun σ5 H5=>De.bk (σ5.set i Go) H5,fun σ5 H5=>De.ct (σ5.set i Go) H5⟩ (I4.wish _)
   ⟨μ',h',σw.set i (Dn _),Dw.drop i,R1.laid Hn,(S.ext e2).set rx i,q,⟨?_,?_,?_,?_⟩⟩) (λf s5 q5=>?_) λ_ _ z=>z.elim
  rintro σ5 H5 ⟨μ5,σw5,h5,e5,R5,S5,m5⟩;exact k.nx _ _ ⟨μ5,_,h5,e2.trans e5,R5,S5.drop i,m5⟩;rintro v H5 ⟨μ5,w5,h5,e5,R5,r5,m5⟩;exact k.rt _ _ ⟨μ5,w5,h5,e2.trans e5,R5,r5,m5⟩;rintro σ5 H5 ⟨μ5,σw5,h5,e5,R5,S5,m5⟩;exact k.bk _ _ ⟨μ5,_,h5,e2.trans e5,R5,S5.drop i,m5⟩;rintro σ5 H5 ⟨μ5,σw5,h5,e5,R5,S5,m5⟩;exact k.ct _ _ ⟨μ5,_,h5,e2.trans e5,R5,S5.drop i,m5⟩
  ·have gone:∀{σ5:St}{H5:Hp}{Q5:Unit->Ab->Prop},Al (X.hnd a H0).nox aor σ5 H5 s5->(∀s6,Al X aor _ H5 s6->Q5 () s6)->Bh (Bu X.prog X.w) X.A (do bindName X.env y .none;unbindBehindTheSuite X.env y hpos) Q5 X.xe s5:=λ{σ5 H5 Q5} I5 h5=>by
    have I5':=I5.unwish;obtain⟨mm,hns,_⟩:=I5'.loc;refine wpAny_nameGoes_keeps hy hns (by rw[F.inv.ok.kind];rfl) λh6 v6 hn6 sb6=>h5 _<|Al.unhnd F3.inv.ok hok<|I5'.drop hN hi hns hn6 sb6
   cases f with
   | next=>obtain⟨σ5,H5,I5,z⟩:=q5;exact gone I5 λs6 I6=>⟨_,H5,I6,z⟩
   | brk=>obtain⟨σ5,H5,I5,z⟩:=q5;exact gone I5 λs6 I6=>⟨_,H5,I6,z⟩
   | cont=>obtain⟨σ5,H5,I5,z⟩:=q5;exact gone I5 λs6 I6=>⟨_,H5,I6,z⟩
   | ret v=>obtain⟨x5,σ5,H5,I5,r5,z⟩:=q5;exact gone I5 λs6 I6=>⟨x5,_,H5,I6,r5,z⟩
 ·have q:=SP.untr q;cases f with
  | next=>exact Yp q
  | brk=>exact q
  | cont=>exact q
  | ret v=>exact q
end
noncomputable def Rj (P:IW)(w:IV)(K:BW)(mg:Str->Option JI)(base:Heap)(k:Nat)(x:Str)(ms:AP):Prop:=∃f fd ps,jO P w K mg base (Ws P w) k f fd ps (zB K ms)/\mg x=Dn (.ref f)/\Ry K (.ref f)=true/\Binds K fd ps []
theorem Rj.tame {P w K}{mg base k x ms}(F:Rj P w K mg base k x ms):Fk P w K mg base k x ms:=
 let⟨f,fd,ps,a,b⟩:=F
 ⟨f,fd,ps,a.tame,b⟩
theorem J7 {X}{e}{es pos k x p j}(F:Rj X.prog X.w X.K X.mg X.base j x ms)(ha:NQ X (e::es) mr)(hr:gQ k X.A:=by with_unfolding_all assumption)(hk:j<=k:=by decide)(hg:Gl X x:=by with_unfolding_all rfl)(hdb:(x==("__debug__" : Str))=false:=by decide)(h1:JM e=false:=by with_unfolding_all rfl)(h2:noStar es=true:=by with_unfolding_all rfl):
  DEx X Γ (.Call (.Name x p) (e::es) [] pos) (λE=>aF ms E mr):=by
 obtain⟨f,fd,ps,a,b,c,d⟩:=F;exact wU (a.mono hk) hr hg b c d ha hdb (aM h1)<|cC h2
theorem Ud {P w K}{mg base x}{st}{ps zl:List Str}(N){k}{pure}{body}(T:At K mg x st ps)(z:∀n∈zl,mg n=Go)
  (hb:∀f cdv A  (outer) (s) (H) (E),gQ k (A.deeper (T4 x (aX st) s.heap.objs.size f cdv))->N.Nodup->(J5 (Ws P w) P w K mg base N x (aX st) f cdv A outer s H E).calm=true->(∀n∈zl,mg n=Go)->Jm (J5 (Ws P w) P w K mg base N x (aX st) f cdv A outer s H E) (λ_=>True) (dJ st) body)
  (S:gM N ps (aX st):=by exact⟨rfl,rfl,rfl,by decide +kernel,rfl,by decide +kernel,by decide +kernel⟩) (hk:9<=k:=by decide):Rj P w K mg base (k+1) x (JH ps.length N.length pure body):=by
 obtain⟨f,fd,F,m,b⟩:=T;exact⟨f,fd,ps,afa F S λcdv A outer s H E hr=>hb f cdv A outer s H E hr S.nd (hr.calm hk) z,m,F.kp,b⟩
section
variable {prog:IW}{w:IV}{A:Ig}{E:JI->Ab->Prop}{s:Ab}{env:Env}
variable {q:Str}{C N:Addr}{bs bmB:List JI}{ab:Bool}{k0 k1 k2 k3 k5:Option JI}{B:String}
end
section
variable {X:Cx}{aor:List (Addr×Obj)}{σ:St}{H:Hp}{s:Ab}{C:Addr}{x:Str}{aot pos:Pos}{e:Expr}{es:List Expr}{t:TA}
end
section
variable {X:Cx}{pos:Pos}
end
section
variable {X:Cx}{y:Str}{pos:Pos}{i:Nat}{aor:List (Addr×Obj)}{σ:St}{H H':Hp}{s:Ab}{a C:Addr}{n:Str}{od:Option Addr}{fs:List (Str×W)}{h':Gh}{Dw:bI}{De:Ends}{rest:List ExceptHandler}
end
section
variable {X:Cx}{body:List Stmt}{b₁:Stmt}{suite':List Stmt}{y y' d':Str}{np' hpos' pos:Pos}{i i':Nat}{D':Addr}{mh':MS}
end
section
variable {prog:IW}{w:IV}{A:Ig}{E:JI->Ab->Prop}{s:Ab}{K:BW}{x dx C:Addr}{mA:Str->Option JI}{name:Str}{v:JI}
end
section
variable {X:Cx}{o value:Expr}{f:Str}{C:Addr}{pos pos':Pos}{ta tv:TE}
end
section
variable {X:Cx}{aor:List (Addr×Obj)}{σ:St}{H:Hp}{s:Ab}{C:Addr}{x f g:Str}{aot pos:Pos}{e e':Expr}{t:TA}{k:Nat}{fd:Nv}{ps:List Str}
end
section
variable {X:Cx}{e e':Expr}{pos:Pos}{ma:MA}
end
section
variable {X:Cx}{K:BW}{o e:Expr}{ma:MA}{apos aot:Pos}
end
section
variable {prog:IW}{w:IV}{A:Ig}{E:JI->Ab->Prop}{s:Ab}
noncomputable abbrev fmS (ns:List Int)(n:Nat):List Int:=firstMet (λi=>ns.getD i 0) n
end
section
variable {X:Cx}{K:BW}
noncomputable def dn (ns:List Int):Nat:=(fmS ns ns.length).length
end
section
variable {X:Cx}{e:Expr}{es:List Expr}{pos:Pos}
theorem GJ {mr}(hΓ:∀σ,Γ σ)(ha:DE X e ma)(hr:PA X es (acH X Γ mr))(hs:J9 (e::es) X.env=(false,eval e X.env)::J9 es X.env:=by rfl):PA X (e::es) (acH X Γ λE=>aj ma (mr E)):=(rT ha hr hs).of fun σ H Q a=>by obtain⟨g,μ,h,σw,Qw,E,R,S,m,q,kx⟩:=a;exact ⟨μ,h,σw,_,R,S,m,λv H1 b=>by obtain⟨μ1,w,h1,e1,R1,r1,m1⟩:=b;exact ⟨hΓ _,μ1,h1,σw,_,E,R1,S.ext e1,m1,λvs H2 c=>by obtain⟨μ2,ws,h2,e2,R2,r2,m2⟩:=c;exact q _ _ ⟨μ2,w::ws,h2,e1.trans e2,R2,⟨v,vs,rfl,e2.r _ _ r1,r2⟩,m2⟩,λev s' xt=>kx ev s' (xt.trans e1)⟩⟩
theorem zbO {mr:Bm->MA}{k:Nat}{f:Addr}{fd:Nv}{ps:List Str}{x:Str}{p:Pos}(F:jO X.prog X.w X.K X.mg X.base (Ws X.prog X.w) k f fd ps (zB X.K ms))(hr:gQ k X.A)(hg:Gl X x)(hm:X.mg x=Dn (.ref f))(hk:Ry X.K (.ref f)=true)
  (hb:Binds X.K fd ps []) (ha:PA X (e::es) (acH X Γ mr)) (hdb:(x==("__debug__" : Str))=false:=by decide) (he:J9 (e::es) X.env=(false,eval e X.env)::J9 es X.env:=by rfl) (hpl:(Mi pos (J9 es X.env)).any (·.1)=false:=by rfl) :
  DEx X Γ (.Call (.Name x p) (e::es) [] pos) (λE=>aF ms E (mr E)):=by
 rintro aor s σ H Q I ⟨hσ,μ,h,σw,Qw,E,R,S,m,q,kx⟩;refine Xz<|lU I hg hm (PySem.W.callWith_K I.ok.mod.kin hk (JC (ha pos aor s σ H _ I ⟨hσ,μ,h,σw,_,E,R,S,m,λ_ _ z=>z,kx⟩) λus s1 ⟨vs,H1,I1,r,μ1,ws,h1,e1,R1,r1,m1⟩=>⟨I1.kIn,?_⟩) he hpl) hdb
 have sp:zB X.K ms (vs++[]) H1 Q (λCv od H'=>∃(C:Addr) (n:Str) (fs:List _) (μ':Mu) (h':Gh),Cv=.ref C/\jm X.K C n=true/\Ji X.K H1 μ1 H' μ'/\Iu X.K μ' H' h'/\aaQ X.K H' μ' C n od fs/\E ⟨n,fs⟩ h'):=by
  rw[Yh];exact⟨μ1,h1,ws,Qw,E,R1,r1,m1,λv H' z=>q _ _<|z.trans e1,λC n od fs H' hx b=>by obtain⟨μ',h',z⟩:=b;exact ⟨C,n,fs,μ',h',rfl,hx,z⟩⟩
 have r2:=r.append .nil;refine YZ<|Xl (F.run X.A _ s1 H1 ⟨us,[]⟩ _ _ Q _ hr I1.env0 (hb s1 us I1.kIn<|r2.length ▸ F.len _ _ _ _ sp) r2 sp) λr s' hq=>?_
 cases r with
 | error ev=>
  obtain⟨a,C,od,H',e2,F2,C',n,fs,μ',h',e3,hx,e4,R4,k4⟩:=I1.cxx (E:=λCv od H'=>∃(C:Addr) (n:Str) (fs:List _) (μ':Mu) (h':Gh),Cv=.ref C/\jm _ C n=true/\Ji _ H1 μ1 H' μ'/\Iu X.K μ' H' h'/\aaQ X.K H' μ' C n od fs/\E ⟨n,fs⟩ h') hq;cases e3;exact kx ev s' ⟨a,C,n,od,fs,aor,σ,H',μ',h',e2,F2.fx,hx,hσ,e1.trans e4,R4,k4⟩
 | ok fl=>
  cases fl with
  | ret u=>exact I1.after hq
  | next|brk|cont=>exact Td hq
theorem ail {mr k x p j}(F:Rj X.prog X.w X.K X.mg X.base j x ms)(ha:PA X (e::es) (acH X Γ mr))(hr:gQ k X.A:=by with_unfolding_all assumption)(hk:j<=k:=by decide)(hg:Gl X x:=by with_unfolding_all rfl)(hdb:(x==("__debug__" : Str))=false:=by decide)(h1:JM e=false:=by with_unfolding_all rfl)(h2:noStar es=true:=by with_unfolding_all rfl):
  DEx X Γ (.Call (.Name x p) (e::es) [] pos) (λE=>aF ms E (mr E)):=by
 obtain⟨f,fd,ps,a,b,c,d⟩:=F;exact zbO (a.mono hk) hr hg b c d ha hdb (aM h1)<|cC h2
end
section
variable {X:Cx}{zl:List Str}{x:Str}{p q pos:Pos}{a:Expr}{es:List Expr}
end
section
variable {X:Cx}{body:List Stmt}{y:Str}{pos:Pos}{i:Nat}
end
theorem FN.push {X}{aor σ H s}{e C}{od}(F:FN X aor σ H s e C od)(o):FN X aor σ H {s with heap:=s.heap.push o} e C od:=by
 refine⟨F.inv.stp ⟨λb u _ _ q=>JV _ q,λb u _ q=>⟨u.slots,JV _ q⟩,λb u q=>⟨u,JV _ q⟩⟩,?_⟩;obtain⟨p,oe,Y,d,g,J,f,c,h2,T,b,ts,h1,G,a,hT,O,h⟩:=F.xn;exact⟨p,oe,Y,JV _ d,g,J,f,c,h2,T,b,ts,h1,G,a,JV _ hT,O,h⟩
section
variable {K:BW}{C D':Addr}{n d':Str}
theorem PN {M}{s:Ab}(X:K.In s.heap)(h:jm K C n=true)(U:iy K D d=true):WX M s.heap (isSubtype (.ref C) (.ref D)) (Jt n d)/\WX M s.heap (isSubtype (.ref D) (.type "BaseException")) true/\WX M s.heap (isType (.ref D)) true:=by
 obtain⟨_,ht,dd,J,_,Y⟩:=Bg U;have O:∃c' d' G,K.lookup D=Dn ⟨c',d',.cls dd,G⟩:=by
  unfold Xj at J;grind
 obtain⟨c',d',G,ho⟩:=O;refine⟨Za X<|Qd h U,Za X ?_,?_⟩;unfold X8;grind
 intro c a b s' k q;exact Aj<|wpAny_loadPart (k _ _<|X _ _ ho)<|HI q
theorem yI {M A}{E s}{e a oe}{Q}(X:K.In s.heap)(hT:IsTup s.heap a #[.ref D,.ref D'])(c:s.heap.get? e=Dn oe)(O:oe.cls=.ref C)(h:jm K C n=true)(f:iy K D d=true)(Y:iy K D' d'=true)(G:Q (Jt n d||Jt n d') s):
  Bh M A (excMatches (.ref e) (.ref a)) Q E s:=by
 obtain⟨a1,a2,a3⟩:=PN X h f;obtain⟨k,j,i⟩:=PN X h Y;have l:WX M s.heap (typeOf (.ref e)) (.ref C):=O ▸ (PySem.W.Looks.ld c).andThen .now;obtain⟨o,ho,g,m,J⟩:=hT;refine Aj<|Zu ⟨o,ho,g⟩ isSubtype_tuple_tuple ?_
 refine Aj<|WM ho J ?_
 dsimp
 refine Aj<|HI ?_
 refine Aj<|Aj ?_
 refine Aj<|Aj<|PySem.W.Looks.at a3<|PySem.W.Looks.at a2<|HI ?_
 dsimp only;refine Aj<|Aj<|Aj<|PySem.W.Looks.at i<|PySem.W.Looks.at j<|HI ?_
 dsimp only;refine HI<|Aj<|PySem.W.Looks.at l ?_
 rw[Zc];refine Aj<|Aj<|Aj<|PySem.W.Looks.at a1 ?_
 cases b:Jt n d with
 | true=>
  rw[b]at G;exact if_pos rfl ▸ HI (HI<|HI G)
 | false=>
  rw[b]at G;rw[if_neg RT];refine HI ?_;dsimp only;rw[Zc];refine Aj<|Aj<|PySem.W.Looks.at k ?_
  cases U:Jt n d' with
  | true=>
   exact U ▸ if_pos rfl ▸ HI (HI<|HI G)
  | false=>
   rw[U]at G;rw[if_neg RT];refine HI ?_;dsimp only;rw[List.forIn_nil];exact HI<|HI G
theorem aiT {prog w A}{E s}{env e t}{pos}{rest Q}
  (f:jm K C n=true) (j:iy K D d=true) (b:iy K D' d'=true) (hi:(Jt n d||Jt n d')=true)
  (h:Bh (Bu prog w) (A.mark (Dn (.ref e))) (eval t env) (λc G=>∃a,c=.ref a/\IsTup G.heap a #[.ref D,.ref D']/\K.In G.heap/\(∃oe,G.heap.get? e=Dn oe/\oe.cls=.ref C) /\
   Bh (Bu prog w) (A.mark (Dn (.ref e))) (setFlight (.ref e) Go) (λ_ J=>
      Bh (Bu prog w) (A.mark (Dn (.ref e))) (execs (b₀::suite) env) Q (notedBy (Bu prog w) (A.mark (Dn (.ref e))) env (cameBackBy (Bu prog w) A env E)) J) (λ_ _=>False) G) (λ_ _=>False) s) :
  Bh (Bu prog w) A (handleBy (.ref e) env (.ExceptHandler (Dn t) Go (b₀::suite) pos::rest)) Q E s:=by
 refine wpAny_handleBy_cons (codeAny_handlers_test<|Lp h (λc G U=>?_) λ_ _ z=>z.elim) (by intro q;cases q);obtain⟨a,rfl,hT,X,⟨oe,i,Y⟩,g⟩:=U;refine yI X hT i Y f j b ?_;rw[hi];exact codeAny_handlers_suite<|Lp g (λ_ J O=>Lp O (λ_ _ z=>z) λ_ _ z=>z) λ_ _ z=>z.elim
end
noncomputable def XH (d d':Str)(mb:Bm->MS)(mh:MS):MS:=λD σ h=>mb (λx h'=>K8 (Jt x.cls d||Jt x.cls d') (mh D σ h') False) D σ h
theorem zbV {X:Cx}{body:List Stmt}{d':Str}{np' tpos pos:Pos}{kk:Nat}{D':Addr}(hg:Gl X d)(hm:X.mg d=Dn (.ref D))(hxd:iy X.K D d=true)(hg':Gl X d')(hm':X.mg d'=Dn (.ref D'))(hxd':iy X.K D' d'=true)(ht:Top X)(hx:X.ex=[])
  (hb:∀aor xe σ0,Jm (X.tr aor xe) (fun σ=>σ=σ0) body mb) (hh:∀a H0 xe,Tw (X.hndE a H0 xe) (b₀::suite) mh) (hdb:(d==("__debug__" : Str))=false:=by decide) (hdb':(d'==("__debug__" : Str))=false:=by decide) :
  DS X (.Try body [.ExceptHandler (Dn (.Tuple [.Name d np,.Name d' np'] kk tpos)) Go (b₀::suite) hpos] [] [] pos) (XH d d' mb mh):=by
 rintro aor s σ H De I ⟨μ,h,σw,Dw,R,S,m,k⟩;refine wpAny_Try_except<|JC (hb aor _ σ [] s σ H De I.tr ⟨rfl,μ,h,σw,Dw,_,R,S,m,k,λev s' xt=>?_⟩) λf s' q=>?_
 ·obtain⟨a,C,n,od,fs,pins',σ',H',μ',h',rfl,F,hxc,rfl,e1,R1,xd,q⟩:=xt;have F:=F.untr;cases hix:(Jt n d||Jt n d')with
  | false=>rw[hix]at q;exact q.elim
  | true=>
  rw[hix]at q;refine F.note ht F.inv.ok.frames λh1 F1=>F1.flight λh2 F2=>?_;refine aiT hxc hxd hxd' hix ?_;refine Tuple_<|spliced_more<|Zr F2.inv.ok.kind hg (oU (F2.inv.ok.glob ▸ F2.inv.mod.glob.keeps F2.inv.bk) hm ?_) hdb
  refine spliced_more<|Zr F2.inv.ok.kind hg' (oU (by rw[F2.inv.ok.glob];exact F2.inv.mod.glob.keeps F2.inv.bk) hm'<|spliced_none ?_) hdb'
  refine XJ ⟨_,rfl,IsTup.new _ _,?_⟩;have F2':=F2.push {cls:=.type "tuple",dict:=Go,data:=.seq [Value.ref D,.ref D'].toArray};obtain⟨_,oe0,vs0,he0,hc0,_⟩:=F2'.xn;refine⟨F2'.inv.kIn,⟨oe0,he0,hc0⟩,?_⟩;refine F2'.flight λh3 F3=>?_;obtain⟨nw,oe,vs,he,hc,hdd,hdt,_,⟨zz,hv2,hzz⟩,_⟩:=F3.xn;obtain⟨H0,hok,hnw,Ih⟩:=F3.inv.hnd nw hx he hdt hv2 hzz;have Hn:H' a=Go:=nw.h;have e2:Ji X.K H μ (Iz H' a (.frz oe (qN a oe))) μ':=e1.trans (Ex.laid Hn).ext;exact Lp (hh a H0 _ aor _ _ _ De Ih.hndE ⟨μ',h',σw,Dw,R1.laid Hn,S.ext e2,q,k.trans e2⟩) (λf s5 q5=>SP.unE F3.inv.ok hok q5) λ_ _ z=>z
 ·have q:=SP.untr q;cases f with
  | next=>exact Yp q
  | brk=>exact q
  | cont=>exact q
  | ret v=>exact q
section
variable {X:Cx}
variable {e a:Expr}{es:List Expr}{mb:ME}
end
section
variable {X:Cx}{o e:Expr}{ma:Bm->MA}{apos aot:Pos}
end
section
variable {X:Cx}
variable {c a b e:Expr}{es:List Expr}{mb:ME}{pos pos' p:Pos}
end
section
variable {X:Cx}
end
section
variable {P:IW}{w:IV}{A:Ig}{E:JI->Ab->Prop}{s:Ab}
end
section
variable {X:Cx}{K:BW}
end
end L2
namespace My
open PySem L2 PyProof.Rows
noncomputable def pA:List (Key×W):=[(.inr "free",(.str "spot")),(.inr "join",(.str "line")),(.inr "meet",(.str "spot")),(.inr "curve",(.str "curve")),(.inr "about",(.str "line")),(.inr "pole",(.str "spot")),(.inr "other",(.str "spot"))]
noncomputable def rC:W:=(.tup [(.tup [(.int 1),(.int 0),(.int 0)]),(.tup [(.int 0),(.int 1),(.int 0)]),(.tup [(.int 0),(.int 0),(.int 1)]),(.tup [(.int 1),(.int 1),(.int 1)])])
noncomputable def top (i:Nat):Stmt:=PySem.Challenge.pw_easelroom_k66_whole_maps_carry_drawings.main.body.getD i (.Pass ⟨0,0,0,0⟩)
noncomputable def ahU (i j:Nat):Stmt:=match top i with
 | .ClassDef _ _ _ b _ _ _ _ _ _ _=>b.getD j (.Pass ⟨0,0,0,0⟩)
 | s=>s
noncomputable abbrev Wi:Stmt:=top 89
noncomputable abbrev gC:Stmt:=ahU 5 0
theorem alC:gM ["self", "at"] ["self", "at"] (aX gC):=⟨rfl,rfl,rfl,by decide +kernel,rfl,by decide +kernel,by decide +kernel⟩
noncomputable def alm (E:Bm):MS:=
  (bN (ao 0))
noncomputable def iZ:AP:=JH 2 3 false λE=>
  (aU (bF (Jl Sh (aj (ao 0) aG)) (kI 0))
  (aU (bF (Jl Sh (aj (ao 1) aG)) (kI 1))
  (aU (Hl (bC (Mk Oj (ao 1) (mC (.int 0)))) (aU (bF (Mk zF (ao 0) (ao 1)) (kI 2))
  (aU (bF (ao 1) (kI 0))
  (bF (ao 2) (kI 1)))))
  (alm E))))
noncomputable def jc:AP:=iZ
noncomputable def tH (G:AP)(E:Bm):MS:=
  (bN (ao 1))
noncomputable def yx (G:AP):AP:=JH 1 3 false λE=>
  (aU (bF (mC (.int 0)) (kI 1))
  (aU (vh (K5 (ao 0)) (kI 2) (bF (aF G E (aj (ao 2) (aj (ao 1) aG))) (kI 1)))
  (tH G E)))
noncomputable def yE:AP:=yx jc
noncomputable def kE (E:Bm):MS:=
  (bN (mC (.bl false)))
noncomputable def pY:AP:=JH 1 2 false λE=>
  (aU (vh (abu (aj (ao 0) aG)) (kI 1) (d7 (bC (Mk Oj (ao 1) (mC (.int 0)))) (bN (Mk kLt (ao 1) (mC (.int 0)))) bK))
  (kE E))
noncomputable def p7:AP:=pY
noncomputable def z7 (J G:AP)(E:Bm):MS:=
  (bN (Jl pB (aj (Jg Jr [1] (K5 (ao 0)) gU (Mk Fd (ao 0) (ao 1))) aG)))
noncomputable def aju (J G:AP)(E:Bm):MS:=
  (aU (d7 (J3 (aF G EF (aj (ao 0) aG))) (bF (mUn aeN (ao 1)) (kI 1)) bK)
  (z7 J G E))
noncomputable def Ci (G J:AP):AP:=JH 1 2 false λE=>
  (aU (bF (aF G EF (aj (ao 0) aG)) (kI 1))
  (aU (d7 (bC (Mk Jx (ao 1) (mC (.int 0)))) (jA "Nothing" E) bK)
  (aju G J E)))
noncomputable def eE:AP:=Ci yE p7
noncomputable def N7:AP:=JH 2 2 false λE=>
  (bN (Mk cj (Mk cj (Mk dz (Mk BZ (ao 0) (mC (.int 0))) (Mk BZ (ao 1) (mC (.int 0)))) (Mk dz (Mk BZ (ao 0) (mC (.int 1))) (Mk BZ (ao 1) (mC (.int 1))))) (Mk dz (Mk BZ (ao 0) (mC (.int 2))) (Mk BZ (ao 1) (mC (.int 2))))))
noncomputable def Ai:AP:=N7
noncomputable def BK:AP:=JH 2 2 false λE=>
  (bN (Ec (aj (Mk Az (Mk dz (Mk BZ (ao 0) (mC (.int 1))) (Mk BZ (ao 1) (mC (.int 2)))) (Mk dz (Mk BZ (ao 0) (mC (.int 2))) (Mk BZ (ao 1) (mC (.int 1))))) (aj (Mk Az (Mk dz (Mk BZ (ao 0) (mC (.int 2))) (Mk BZ (ao 1) (mC (.int 0)))) (Mk dz (Mk BZ (ao 0) (mC (.int 0))) (Mk BZ (ao 1) (mC (.int 2))))) (aj (Mk Az (Mk dz (Mk BZ (ao 0) (mC (.int 0))) (Mk BZ (ao 1) (mC (.int 1)))) (Mk dz (Mk BZ (ao 0) (mC (.int 1))) (Mk BZ (ao 1) (mC (.int 0))))) aG)))))
noncomputable def oF:AP:=BK
noncomputable def Uy (J G:AP):AP:=JH 3 3 false λE=>
  (bN (aF J E (aj (aF G E (aj (ao 0) (aj (ao 1) aG))) (aj (ao 2) aG))))
noncomputable def U0:AP:=Uy Ai oF
noncomputable def zP (G:AP):AP:=JH 2 2 false λE=>
  (bN (Mk Jx (aF G E (aj (ao 0) (aj (ao 1) aG))) (mC (.int 0))))
noncomputable def rQ:AP:=zP Ai
noncomputable def xR (J G:AP)(E:Bm):MS:=
  (aU (bF (aF G E (aj (Mk BZ (ao 0) (mC (.int 0))) (aj (Mk BZ (ao 1) (mC (.int 0))) aG))) (kI 2))
  (bN (Jl aco (aj (Jg Jr [2] (K5 (ao 1)) gU (Mk Jx (aF J E (aj (ao 1) (aj (ao 0) aG))) (mC (.int 0)))) aG))))
noncomputable def tG (J G:AP):AP:=JH 1 3 false λE=>
  (aU (bF (Jg Jr [0] (K5 (ao 0)) (bC (Mk Oj (ao 0) (Mk BZ (ao 1) (mC (.int 0))))) (ao 0)) (kI 1))
  (aU (d7 (ZV (J3 (ao 1))) (bN (mC (.bl true))) bK)
  (xR J G E)))
noncomputable def iW:AP:=tG Ai oF
noncomputable def yG (G:AP):AP:=JH 1 1 false λE=>
  (bN (aF G E (aj (ao 0) aG)))
noncomputable def mV:AP:=yG iW
noncomputable def kW (G:AP):AP:=JH 1 1 false λE=>
  (bN (aF G E (aj (ao 0) aG)))
noncomputable def kO:AP:=kW iW
noncomputable def akJ (J G:AP)(E:Bm):MS:=
  (bN (aF J E (aj (aF G EF (aj (ao 0) (aj (ao 1) aG))) aG)))
noncomputable def iR (J G:AP):AP:=JH 2 2 false λE=>
  (aU (d7 (bC (Mk Jx (ao 0) (ao 1))) (jA "Alike" E) bK)
  (akJ J G E))
noncomputable def iM:AP:=iR eE oF
noncomputable def Wb (G:AP):AP:=JH 2 2 false λE=>
  (bN (aF G E (aj (ao 0) (aj (ao 1) aG))))
noncomputable def Nq:AP:=Wb iM
noncomputable def Mj (G:AP):AP:=JH 2 2 false λE=>
  (bN (aF G E (aj (ao 0) (aj (ao 1) aG))))
noncomputable def yU:AP:=Mj iM
noncomputable def uM (E:Bm):MS:=
  (bN (ao 2))
noncomputable def Ef:AP:=JH 2 7 true λE=>
  (aU (bF (oh (aj (Ec aG) aG)) (kI 2))
  (aU (vh (lH (aj (ao 1) aG)) (kI 3) (aU (bF (oX aG) (kI 4))
  (aU (vh (K5 (ao 2)) (kI 5) (aU (bF (mIf (bC (Mk W6 (ao 3) (mC (.int 0)))) (Mk cj (Mk BZ (ao 5) (Mk Az (ao 3) (mC (.int 1)))) (mC (.int 1))) (mC (.int 0))) (kI 6))
  (oE (Cy iT (ao 4) (aj (Jg Jr [5] (CN (aj (ao 6) (aj (ao 0) aG))) gU (Mk cj (ao 1) (Ec (aj (ao 0) aG)))) aG)))))
  (bF (ao 4) (kI 2)))))
  (uM E)))
noncomputable def DY:AP:=Ef
noncomputable def HS:AP:=JH 2 2 false λE=>
  (bN (Jg Jr [0] (K5 (ao 1)) gU (Mk BZ (ao 1) (ao 0))))
noncomputable def Fx:AP:=HS
noncomputable def rO:AP:=JH 1 1 false λE=>
  (bN (Mk kLt (Jl nP (aj (ao 0) aG)) (Jl Jw (aj (ao 0) aG))))
noncomputable def lW:AP:=rO
noncomputable def iV (O G J:AP):AP:=JH 2 2 false λE=>
  (bN (Jl aay (aj (Jg Jr [0] (K5 (aF G E (aj (Jl Jw (aj (ao 0) aG)) (aj (ao 1) aG)))) gU (aF O E (aj (aF J E (aj (ao 1) (aj (ao 0) aG))) aG))) aG)))
noncomputable def iU:AP:=iV mV DY Fx
noncomputable def yj:AP:=JH 1 1 false λE=>
  (bN (oh (aj (RX yd (ao 0) (iQ (mC (.int 0))) (iQ (mC (.int 3)))) (aj (RX yd (ao 0) (iQ (mC (.int 3))) (iQ (mC (.int 6)))) (aj (RX yd (ao 0) (iQ (mC (.int 6))) (iQ (mC (.int 9)))) aG)))))
noncomputable def jq:AP:=yj
noncomputable def Ac (J G:AP):AP:=JH 1 2 false λE=>
  (aU (bF (aF G E (aj (ao 0) aG)) (kI 1))
  (bN (aF J E (aj (Mk BZ (ao 1) (mC (.int 0))) (aj (Mk BZ (ao 1) (mC (.int 1))) (aj (Mk BZ (ao 1) (mC (.int 2))) aG))))))
noncomputable def mQ:AP:=Ac U0 jq
noncomputable def zav (J G:AP)(E:Bm):MS:=
  (bN (ao 1))
noncomputable def Hf (J G:AP):AP:=JH 1 2 false λE=>
  (aU (bF (aF J E (aj (ao 0) aG)) (kI 1))
  (aU (d7 (bC (Mk Jx (aF G EF (aj (ao 1) aG)) (mC (.int 0)))) (jA "NoMap" E) bK)
  (zav J G E)))
noncomputable def FW:AP:=Hf eE mQ
noncomputable def iu (G J:AP):AP:=JH 2 2 false λE=>
  (bN (Jg Jr [1] (K5 (aF J E (aj (ao 0) aG))) gU (aF G E (aj (ao 0) (aj (ao 1) aG)))))
noncomputable def bH:AP:=iu Ai jq
noncomputable def zG:AP:=JH 1 1 false λE=>
  (bN (Jg Jr [0] (lH (aj (mC (.int 9)) aG)) gU (Mk BZ (ao 1) (Mk cj (Mk dz (mC (.int 3)) (Mk zF (ao 0) (mC (.int 3)))) (Mk Fd (ao 0) (mC (.int 3)))))))
noncomputable def mG:AP:=zG
noncomputable def alx (G O J:AP)(E:Bm):MS:=
  (bN (ao 3))
noncomputable def fP (J G O:AP):AP:=JH 2 5 true λE=>
  (aU (bF (aF G E (aj (aF O E (aj (ao 1) aG)) aG)) (kI 2))
  (aU (bF (oX aG) (kI 3))
  (aU (vh (K5 (aF G E (aj (ao 0) aG))) (kI 4) (oE (Cy iT (ao 3) (aj (Jg Jr [4] (K5 (ao 2)) gU (aF J E (aj (ao 1) (aj (ao 0) aG)))) aG))))
  (alx J G O E))))
noncomputable def fD:AP:=fP Ai jq mG
noncomputable def Hh (G J:AP):AP:=JH 1 2 false λE=>
  (aU (bF (aF J E (aj (ao 0) aG)) (kI 1))
  (bN (Mk cj (Mk cj (aF G E (aj (Mk BZ (ao 1) (mC (.int 1))) (aj (Mk BZ (ao 1) (mC (.int 2))) aG))) (aF G E (aj (Mk BZ (ao 1) (mC (.int 2))) (aj (Mk BZ (ao 1) (mC (.int 0))) aG)))) (aF G E (aj (Mk BZ (ao 1) (mC (.int 0))) (aj (Mk BZ (ao 1) (mC (.int 1))) aG))))))
noncomputable def jN:AP:=Hh oF jq
noncomputable def adf (J G:AP):AP:=JH 2 2 false λE=>
  (bN (aF J E (aj (aF G E (aj (ao 0) (aj (ao 1) aG))) aG)))
noncomputable def abg:AP:=adf eE bH
noncomputable def uV (O G J:AP):AP:=JH 2 2 false λE=>
  (bN (aF O E (aj (aF G E (aj (aF J E (aj (ao 0) aG)) (aj (ao 1) aG))) aG)))
noncomputable def vA:AP:=uV eE bH jN
noncomputable def VJ (O G J:AP):AP:=JH 1 1 false λE=>
  (bN (aF O E (aj (aF G E (aj (aF J E (aj (ao 0) aG)) aG)) aG)))
noncomputable def Uw:AP:=VJ eE mG jN
noncomputable def Lb:AP:=JH 0 0 false λE=>
  (bN (Jl Ii (aj (mC rC) aG)))
noncomputable def Ku:AP:=Lb
noncomputable def Dc:AP:=JH 2 6 false λE=>
  (aU (bF (Mk BZ (ao 1) (mC (.int 0))) (kI 2))
  (aU (bF (Mk BZ (ao 1) (mC (.int 1))) (kI 3))
  (aU (bF (Mk BZ (ao 1) (mC (.int 2))) (kI 4))
  (aU (bF (Mk cj (Mk cj (Mk dz (Mk dz (Mk BZ (ao 0) (mC (.int 0))) (ao 2)) (ao 2)) (Mk dz (Mk dz (Mk BZ (ao 0) (mC (.int 2))) (ao 3)) (ao 3))) (Mk dz (Mk dz (Mk BZ (ao 0) (mC (.int 5))) (ao 4)) (ao 4))) (kI 5))
  (bN (Mk cj (Mk cj (Mk cj (ao 5) (Mk dz (Mk dz (Mk BZ (ao 0) (mC (.int 1))) (ao 2)) (ao 3))) (Mk dz (Mk dz (Mk BZ (ao 0) (mC (.int 3))) (ao 2)) (ao 4))) (Mk dz (Mk dz (Mk BZ (ao 0) (mC (.int 4))) (ao 3)) (ao 4))))))))
noncomputable def Qt:AP:=Dc
noncomputable def nG (G:AP):AP:=JH 2 2 false λE=>
  (bN (Mk Jx (aF G E (aj (ao 0) (aj (ao 1) aG))) (mC (.int 0))))
noncomputable def iC:AP:=nG Qt
noncomputable def ou:AP:=JH 2 2 false λE=>
  (bN (Ec (aj (Mk dz (Mk BZ (ao 0) (mC (.int 0))) (Mk BZ (ao 1) (mC (.int 0)))) (aj (Mk cj (Mk dz (Mk BZ (ao 0) (mC (.int 0))) (Mk BZ (ao 1) (mC (.int 1)))) (Mk dz (Mk BZ (ao 0) (mC (.int 1))) (Mk BZ (ao 1) (mC (.int 0))))) (aj (Mk dz (Mk BZ (ao 0) (mC (.int 1))) (Mk BZ (ao 1) (mC (.int 1)))) (aj (Mk cj (Mk dz (Mk BZ (ao 0) (mC (.int 0))) (Mk BZ (ao 1) (mC (.int 2)))) (Mk dz (Mk BZ (ao 0) (mC (.int 2))) (Mk BZ (ao 1) (mC (.int 0))))) (aj (Mk cj (Mk dz (Mk BZ (ao 0) (mC (.int 1))) (Mk BZ (ao 1) (mC (.int 2)))) (Mk dz (Mk BZ (ao 0) (mC (.int 2))) (Mk BZ (ao 1) (mC (.int 1))))) (aj (Mk dz (Mk BZ (ao 0) (mC (.int 2))) (Mk BZ (ao 1) (mC (.int 2)))) aG))))))))
noncomputable def vJ:AP:=ou
noncomputable def uX:AP:=JH 1 1 false λE=>
  (bN (Ec (aj (Mk dz (mC (.int 2)) (Mk BZ (ao 0) (mC (.int 0)))) (aj (Mk BZ (ao 0) (mC (.int 1))) (aj (Mk BZ (ao 0) (mC (.int 3))) (aj (Mk BZ (ao 0) (mC (.int 1))) (aj (Mk dz (mC (.int 2)) (Mk BZ (ao 0) (mC (.int 2)))) (aj (Mk BZ (ao 0) (mC (.int 4))) (aj (Mk BZ (ao 0) (mC (.int 3))) (aj (Mk BZ (ao 0) (mC (.int 4))) (aj (Mk dz (mC (.int 2)) (Mk BZ (ao 0) (mC (.int 5)))) aG)))))))))))
noncomputable def dO:AP:=uX
noncomputable def pO (J G:AP):AP:=JH 3 3 false λE=>
  (bN (aF J E (aj (ao 1) (aj (aF G E (aj (ao 0) (aj (ao 2) aG))) aG))))
noncomputable def gA:AP:=pO Ai bH
noncomputable def uO (J G:AP):AP:=JH 1 1 false λE=>
  (bN (Mk Oj (aF J E (aj (aF G E (aj (ao 0) aG)) aG)) (mC (.int 0))))
noncomputable def jQ:AP:=uO mQ dO
noncomputable def Dh (J G O:AP):AP:=JH 1 7 false λE=>
  (aU (bF (aF G E (aj (Mk BZ (ao 0) (mC (.int 0))) (aj (Mk BZ (ao 0) (mC (.int 1))) aG))) (kI 1))
  (aU (bF (aF G E (aj (Mk BZ (ao 0) (mC (.int 2))) (aj (Mk BZ (ao 0) (mC (.int 3))) aG))) (kI 2))
  (aU (bF (aF G E (aj (Mk BZ (ao 0) (mC (.int 0))) (aj (Mk BZ (ao 0) (mC (.int 2))) aG))) (kI 3))
  (aU (bF (aF G E (aj (Mk BZ (ao 0) (mC (.int 1))) (aj (Mk BZ (ao 0) (mC (.int 3))) aG))) (kI 4))
  (aU (bF (Mk dz (aF J E (aj (ao 1) (aj (Mk BZ (ao 0) (mC (.int 4))) aG))) (aF J E (aj (ao 2) (aj (Mk BZ (ao 0) (mC (.int 4))) aG)))) (kI 5))
  (aU (bF (Mk dz (aF J E (aj (ao 3) (aj (Mk BZ (ao 0) (mC (.int 4))) aG))) (aF J E (aj (ao 4) (aj (Mk BZ (ao 0) (mC (.int 4))) aG)))) (kI 6))
  (bN (Jg (owT 2) [5,6] (aeL (aj (aF O E (aj (ao 3) (aj (ao 4) aG))) (aj (aF O E (aj (ao 1) (aj (ao 2) aG))) aG))) gU (Mk Az (Mk dz (ao 2) (ao 0)) (Mk dz (ao 3) (ao 1)))))))))))
noncomputable def M9:AP:=Dh Ai oF vJ
noncomputable def ajs (J O U G:AP)(E:Bm):MS:=
  (bN (aF J E (aj (aF G EF (aj (ao 0) aG)) aG)))
noncomputable def sG (U O G J:AP)(E:Bm):MS:=
  (aU (d7 (J3 (aF G EF (aj (ao 0) (aj (mC (.int 4)) aG)))) (jA "FourOnLine" E) bK)
  (ajs U O G J E))
noncomputable def zZ (U G O J:AP):AP:=JH 1 1 false λE=>
  (aU (d7 (J3 (aF G EF (aj (ao 0) aG))) (jA "Alike" E) bK)
  (sG U G O J E))
noncomputable def tL:AP:=zZ eE lW iU M9
noncomputable def rF (Y U G J O:AP):AP:=JH 2 4 false λE=>
  (aU (bF (aF J E (aj (ao 0) aG)) (kI 2))
  (aU (bF (aF G E (aj (aF U E (aj (ao 2) aG)) (aj (aF G E (aj (aF O E (aj (ao 1) aG)) (aj (ao 2) aG))) aG))) (kI 3))
  (bN (aF Y E (aj (oh (aj (Mk BZ (ao 3) (mC (.int 0))) (aj (Mk dz (mC (.int 2)) (Mk BZ (ao 3) (mC (.int 1)))) (aj (Mk BZ (ao 3) (mC (.int 4))) (aj (Mk dz (mC (.int 2)) (Mk BZ (ao 3) (mC (.int 2)))) (aj (Mk dz (mC (.int 2)) (Mk BZ (ao 3) (mC (.int 5)))) (aj (Mk BZ (ao 3) (mC (.int 8))) aG))))))) aG)))))
noncomputable def yC:AP:=rF eE mG fD Uw dO
noncomputable def zN:AP:=JH 2 2 false λE=>
  (bN (aeP pA (Mk BZ (Mk BZ (ao 0) (ao 1)) (mC (.int 0)))))
noncomputable def Aa:AP:=zN
noncomputable def tW:AP:=JH 1 1 false λE=>
  (bN (Jg Jr [0] (lH (aj (Jl Jw (aj (ao 0) aG)) aG)) (bC (Mk Jx (Mk BZ (Mk BZ (ao 1) (ao 0)) (mC (.int 0))) (mC (.str "free")))) (ao 0)))
noncomputable def qR:AP:=tW
noncomputable def jx (G:AP):AP:=JH 1 1 false λE=>
  (bN (mIf (J3 (Jl aay (aj (Jg Jr [] (K5 (ao 0)) gU (Mk Oj (ao 0) (mC (.int 0)))) aG))) (aF G E (aj (ao 0) aG)) (mC .non)))
noncomputable def fG:AP:=jx eE
noncomputable def ame (G J O:AP)(E:Bm):MS:=
  (bN (ao 2))
noncomputable def pH (G J O:AP):AP:=JH 2 3 false λE=>
  (aU (bF (aF O EF (aj (aF G EF (aj (aF J EF (aj (ao 0) aG)) (aj (ao 1) aG))) aG)) (kI 2))
  (aU (d7 (bC (Mk kIs (ao 2) (mC .non))) (jA "Knot" E) bK)
  (ame G J O E)))
noncomputable def jC:AP:=pH bH dO fG
noncomputable def amc (U G O J Y:AP)(E:Bm):MS:=
  (bN (aF U E (aj (aF G EF (aj (aF O EF (aj (aF J EF (aj (ao 0) aG)) aG)) (aj (ao 1) aG))) aG)))
noncomputable def oY (Y J U O G:AP):AP:=JH 2 2 false λE=>
  (aU (d7 (ZV (J3 (aF G EF (aj (ao 0) aG)))) (jA "NotRound" E) bK)
  (amc Y J U O G E))
noncomputable def jK:AP:=oY eE bH jN dO jQ
noncomputable def gH (J G:AP):AP:=JH 2 3 false λE=>
  (aU (bF (Jg Jr [0] (K5 (RX yd (aF G E aG) dD (iQ (mC (.int 3))))) (bC (Mk Oj (ao 0) (ao 1))) (aF J E (aj (ao 1) (aj (ao 0) aG)))) (kI 2))
  (bN (Mk BZ (Jg Jr [1] (K5 (ao 2)) (bC (Mk Oj (ao 0) (ao 1))) (ao 0)) (mC (.int 0)))))
noncomputable def kY:AP:=gH yU Ku
noncomputable def lX (G J O Y a U:AP)(E:Bm):MS:=
  (bN (ao 7))
noncomputable def mJ (Y a J G U O:AP)(E:Bm):MS:=
  (aU (bF (aF J EF (aj (ao 0) aG)) (kI 3))
  (aU (bF (aF O EF (aj (ao 2) (aj (ao 1) aG))) (kI 4))
  (aU (bF (aF G EF (aj (ao 3) (aj (ao 4) (aj (ao 4) aG)))) (kI 5))
  (aU (bF (Mk dz (mC (.int 2)) (aF G EF (aj (ao 3) (aj (ao 1) (aj (ao 4) aG))))) (kI 6))
  (aU (bF (aF U EF (aj (Jg (owT 2) [5,6] (aeL (aj (ao 1) (aj (ao 4) aG))) gU (Mk Az (Mk dz (ao 2) (ao 0)) (Mk dz (ao 3) (ao 1)))) aG)) (kI 7))
  (aU (d7 (bC (Mk kIs (ao 7) (mC .non))) (jA "InCurve" E) bK)
  (lX Y a J G U O E)))))))
noncomputable def lM (G J O Y a U:AP):AP:=JH 3 8 false λE=>
  (aU (d7 (mOr (ZV (J3 (aF J EF (aj (ao 0) (aj (ao 1) aG))))) (ZV (J3 (aF G EF (aj (ao 1) (aj (ao 2) aG)))))) (jA "NotOn" E) bK)
  (mJ G J O Y a U E))
noncomputable def lG:AP:=lM rQ iC dO gA fG kY
noncomputable def jh (J O U Y a G:AP)(E:Bm):MS:=
  (bN (aF G E (aj (Mk BZ (ao 2) (mC (.int 0))) (aj (Mk BZ (ao 2) (mC (.int 1))) (aj (aF J E (aj (Mk BZ (ao 2) (mC (.int 1))) (aj (Mk BZ (ao 2) (mC (.int 2))) aG))) aG)))))
noncomputable def fB (a J O U G Y:AP)(E:Bm):MS:=
  (aU (d7 (bC (Mk Jx (Mk BZ (ao 0) (mC (.int 0))) (mC (.str "pole")))) (bN (aF G E (aj (Mk BZ (ao 2) (mC (.int 0))) (aj (Mk BZ (ao 2) (mC (.int 1))) aG)))) bK)
  (jh a J O U G Y E))
noncomputable def dh (a J O G Y U:AP)(E:Bm):MS:=
  (aU (d7 (bC (Mk Jx (Mk BZ (ao 0) (mC (.int 0))) (mC (.str "about")))) (bN (aF G E (aj (Mk BZ (ao 2) (mC (.int 0))) (aj (Mk BZ (ao 2) (mC (.int 1))) aG)))) bK)
  (fB a J O G Y U E))
noncomputable def cI (a J G O Y U:AP)(E:Bm):MS:=
  (aU (d7 (bC (Mk Jx (Mk BZ (ao 0) (mC (.int 0))) (mC (.str "curve")))) (bN (aF G E (aj (ao 2) aG))) bK)
  (dh a J G O Y U E))
noncomputable def bT (a G J O Y U:AP)(E:Bm):MS:=
  (aU (d7 (bC (Mk Jx (Mk BZ (ao 0) (mC (.int 0))) (mC (.str "meet")))) (bN (aF G E (aj (Mk BZ (ao 2) (mC (.int 0))) (aj (Mk BZ (ao 2) (mC (.int 1))) aG)))) bK)
  (cI a G J O Y U E))
noncomputable def aN (G J O U a Y:AP):AP:=JH 2 3 false λE=>
  (aU (bF (Jg Jr [1] (K5 (RX yd (ao 0) (iQ (mC (.int 1))) dD)) gU (Mk BZ (ao 1) (ao 0))) (kI 2))
  (aU (d7 (bC (Mk Jx (Mk BZ (ao 0) (mC (.int 0))) (mC (.str "join")))) (bN (aF G E (aj (Mk BZ (ao 2) (mC (.int 0))) (aj (Mk BZ (ao 2) (mC (.int 1))) aG)))) bK)
  (bT G J O U a Y E)))
noncomputable def mU:AP:=aN Nq yU tL jC jK lG
noncomputable def vG (G:AP)(E:Bm):MS:=
  (bN (ao 2))
noncomputable def xO (G:AP):AP:=JH 2 7 true λE=>
  (aU (bF (oX aG) (kI 2))
  (aU (bF (mC (.int 0)) (kI 3))
  (aU (vh (ZG (aj (ao 0) aG)) (Jj 2 (Tz (kI 4) (Tz (kI 5) agb))) (d7 (bC (Mk Jx (Mk BZ (ao 5) (mC (.int 0))) (mC (.str "free")))) (aU (oE (Cy dF (ao 2) (aj (Mk BZ (ao 1) (ao 3)) aG)))
  (bF (Mk cj (ao 3) (mC (.int 1))) (kI 3))) (aU (Wr "EaselError" (λE=>(bF (aF G E (aj (ao 5) (aj (ao 2) aG))) (kI 6))) (λE=>(BX "Stuck" "at" (ao 4) E)) E)
  (oE (Cy dF (ao 2) (aj (ao 6) aG))))))
  (vG G E))))
noncomputable def Eo:AP:=xO mU
noncomputable def pZ (J O G:AP):AP:=JH 2 3 false λE=>
  (aU (bF (RX yd (ao 1) dD (iQ (Jl Jw (aj (RX yd (aF G E (aj (ao 0) aG)) dD (iQ (mC (.int 4)))) aG)))) (kI 2))
  (bN (Yv (K1 (aF J E (aj (ao 2) aG))) (K1 (aF O E (aj (ao 2) (aj (mC (.int 3)) aG)))))))
noncomputable def pL:AP:=pZ lW iU qR
noncomputable def zm (O G J:AP):AP:=JH 2 2 false λE=>
  (bN (Mk Jx (aF J E (aj (aF O E (aj (aF G E (aj (ao 1) aG)) aG)) (aj (ao 0) (aj (ao 0) aG)))) (mC (.int 0))))
noncomputable def yN:AP:=zm jN dO gA
noncomputable def yV (O J a U G b Y:AP)(E:Bm):MS:=
  (bN (K1 (aF G E (aj (Mk BZ (ao 3) (mC (.int 0))) aG))))
noncomputable def uf (U J a Y O b G:AP)(E:Bm):MS:=
  (aU (d7 (bC (Mk Jx (Mk BZ (ao 2) (mC (.int 0))) (mC (.str "touch")))) (bN (aF G E (aj (Mk BZ (ao 3) (mC (.int 0))) (aj (Mk BZ (ao 3) (mC (.int 1))) aG)))) bK)
  (yV U J a Y O b G E))
noncomputable def nZ (U J G Y O b a:AP)(E:Bm):MS:=
  (aU (d7 (bC (Mk Jx (Mk BZ (ao 2) (mC (.int 0))) (mC (.str "bunch")))) (bN (aF G E (aj (ao 3) aG))) bK)
  (uf U J G Y O b a E))
noncomputable def jJ (O G a U J b Y:AP)(E:Bm):MS:=
  (aU (d7 (bC (Mk Jx (Mk BZ (ao 2) (mC (.int 0))) (mC (.str "row")))) (bN (aF G E (aj (ao 3) aG))) bK)
  (nZ O G a U J b Y E))
noncomputable def fQ (G U b J Y O a:AP)(E:Bm):MS:=
  (aU (d7 (bC (Mk Jx (Mk BZ (ao 2) (mC (.int 0))) (mC (.str "on")))) (aU (d7 (bC (Mk Jx (aF O E (aj (ao 0) (aj (Mk BZ (ao 2) (mC (.int 2))) aG))) (mC (.str "line")))) (bN (aF G E (aj (Mk BZ (ao 3) (mC (.int 0))) (aj (Mk BZ (ao 3) (mC (.int 1))) aG)))) bK)
  (bN (aF J E (aj (Mk BZ (ao 3) (mC (.int 1))) (aj (Mk BZ (ao 3) (mC (.int 0))) aG))))) bK)
  (jJ G U b J Y O a E))
noncomputable def BJ (O G a U J b Y:AP):AP:=JH 3 4 false λE=>
  (aU (bF (Jg Jr [1] (K5 (RX yd (ao 2) (iQ (mC (.int 1))) dD)) gU (Mk BZ (ao 1) (ao 0))) (kI 3))
  (aU (d7 (bC (Mk Jx (Mk BZ (ao 2) (mC (.int 0))) (mC (.str "same")))) (bN (Mk Jx (Mk BZ (ao 3) (mC (.int 0))) (Mk BZ (ao 3) (mC (.int 1))))) bK)
  (fQ O G a U J b Y E)))
noncomputable def M4:AP:=BJ rQ mV kO iC jQ Aa yN
noncomputable def aiR (E:Bm):MS:=
  (bN (mC (.int 0)))
noncomputable def Hu:AP:=JH 2 2 false λE=>
  (aU (d7 (bC (Mk kLt (ao 1) (Jl Jw (aj (ao 0) aG)))) (bN (Mk BZ (ao 0) (ao 1))) bK)
  (aiR E))
noncomputable def wJ:AP:=Hu
noncomputable def O2:AP:=JH 1 1 false λE=>
  (bN (oX (aj (Mk M7 (Jl Sh (aj (ao 0) aG)) (Jl Xp (aj (Mk kGe (Jl Sh (aj (ao 0) aG)) (Mk agr (mC (.int 10)) (mC (.int 18)))) aG))) (aj (Mk zF (Jl Sh (aj (ao 0) aG)) (mC (.int 2147483647))) aG))))
noncomputable def Cq:AP:=O2
noncomputable def ajC (E:Bm):MS:=
  (aU (bF (Mk zF (Mk cj (Mk dz (Mk BZ (ao 0) (mC (.int 1))) (mC (.int 48271))) (mC (.int 11))) (mC (.int 2147483647))) (Jk (ao 0) (mC (.int 1)) Iw))
  (bN (Mk zF (Mk Fd (Mk zF (Mk dz (Mk BZ (ao 0) (mC (.int 1))) (Mk cj (Mk Fd (Mk BZ (ao 0) (mC (.int 1))) (mC (.int 65536))) (mC (.int 7)))) (mC (.int 2147483629))) (mC (.int 32))) (ao 1))))
noncomputable def Fq:AP:=JH 2 3 false λE=>
  (aU (d7 (bC (Mk W6 (Mk BZ (ao 0) (mC (.int 0))) (mC (.int 0)))) (aU (bF (Mk zF (Mk BZ (ao 0) (mC (.int 0))) (ao 1)) (kI 2))
  (aU (bF (Mk Fd (Mk BZ (ao 0) (mC (.int 0))) (ao 1)) (Jk (ao 0) (mC (.int 0)) Iw))
  (bN (ao 2)))) bK)
  (ajC E))
noncomputable def jV:AP:=Fq
noncomputable def Gw:AP:=JH 1 2 false λE=>
  (aU (bF (PB [(.inr "free",(oh aG)),(.inr "join",(oh (aj (mC (.str "spot")) (aj (mC (.str "spot")) aG)))),(.inr "meet",(oh (aj (mC (.str "line")) (aj (mC (.str "line")) aG)))),(.inr "about",(oh (aj (mC (.str "curve")) (aj (mC (.str "spot")) aG))))]) (kI 1))
  (aU (bF (oh (aj (mC (.str "spot")) (aj (mC (.str "spot")) (aj (mC (.str "spot")) (aj (mC (.str "spot")) (aj (mC (.str "spot")) aG)))))) (Jk (ao 1) (mC (.str "curve")) p8))
  (aU (bF (oh (aj (mC (.str "curve")) (aj (mC (.str "line")) aG))) (Jk (ao 1) (mC (.str "pole")) p8))
  (aU (bF (oh (aj (mC (.str "curve")) (aj (mC (.str "spot")) (aj (mC (.str "spot")) aG)))) (Jk (ao 1) (mC (.str "other")) p8))
  (bN (Mk TQ (ao 1) (ao 0)))))))
noncomputable def G9:AP:=Gw
noncomputable def uT (E:Bm):MS:=
  (bN (Mk BZ (oh (aj (mC (.str "spot")) (aj (mC (.str "curve")) aG))) (Jl Xp (aj (Mk Jx (Mk BZ (ao 0) (mC (.int 0))) (mC (.str "curve"))) aG))))
noncomputable def yc:AP:=JH 1 1 false λE=>
  (aU (d7 (mOr (bC (Mk Jx (Mk BZ (ao 0) (mC (.int 0))) (mC (.str "join")))) (bC (Mk Jx (Mk BZ (ao 0) (mC (.int 0))) (mC (.str "about"))))) (bN (mC (.str "line"))) bK)
  (uT E))
noncomputable def nR:AP:=yc
noncomputable def xX (J G:AP):AP:=JH 3 4 false λE=>
  (aU (bF (Jg Jr [1,2] (lH (aj (Jl Jw (aj (ao 1) aG)) aG)) (bC (Mk Jx (aF G E (aj (Mk BZ (ao 1) (ao 0)) aG)) (ao 2))) (ao 0)) (kI 3))
  (bN (Mk BZ (ao 3) (aF J E (aj (ao 0) (aj (Jl Jw (aj (ao 3) aG)) aG))))))
noncomputable def qz:AP:=xX jV nR
noncomputable def zV (U G O J:AP)(E:Bm):MS:=
  (bN (Jl pB (aj (Mk cj (oh (aj (ao 5) aG)) (Jg Jr [0,1] (K5 (aF G E (aj (ao 5) aG))) gU (aF J E (aj (ao 1) (aj (ao 2) (aj (ao 0) aG)))))) aG)))
noncomputable def Dg (O G J U:AP):AP:=JH 3 7 false λE=>
  (aU (bF (Jg Jr [] (K5 (ao 1)) gU (aF J E (aj (ao 0) aG))) (kI 3))
  (aU (bF (oh (aj (mC (.str "join")) (aj (mC (.str "meet")) (aj (mC (.str "curve")) (aj (mC (.str "about")) (aj (mC (.str "pole")) (aj (mC (.str "other")) (aj (mC (.str "join")) (aj (mC (.str "meet")) (aj (mC (.str "join")) (aj (mC (.str "meet")) aG))))))))))) (kI 4))
  (aU (bF (Mk BZ (ao 4) (aF O E (aj (ao 0) (aj (mC (.int 10)) aG)))) (kI 5))
  (aU (bF (Jg Jr [3] (K5 (aF G E (aj (ao 5) aG))) (bC (Mk Bk (ao 0) (ao 1))) (ao 0)) (kI 6))
  (aU (d7 (mOr (bC (Mk kLt (Jl Jw (aj (ao 1) aG)) (ao 2))) (bC (Mk W6 (Jl Jw (aj (ao 6) aG)) (mC (.int 0))))) (bF (Mk BZ (oh (aj (mC (.str "join")) (aj (mC (.str "free")) aG))) (Jl Xp (aj (Mk kLt (Jl Jw (aj (ao 1) aG)) (ao 2)) aG))) (kI 5)) bK)
  (zV O G J U E))))))
noncomputable def Pk:AP:=Dg jV G9 nR qz
noncomputable def lY (E:Bm):MS:=
  (bN (ao 1))
noncomputable def qZ:AP:=JH 1 4 false λE=>
  (aU (bF (mC (.int 0)) (kI 1))
  (aU (vh (K5 (ao 0)) (kI 2) (aU (bF (Jl Sh (aj (ao 2) aG)) (kI 3))
  (Hl (bC (Mk W6 (ao 3) (mC (.int 0)))) (agS 1 3 (aj (ao 3) (aj (Mk zF (ao 1) (ao 3)) aG))))))
  (lY E)))
noncomputable def qI:AP:=qZ
noncomputable def sO (G:AP)(E:Bm):MS:=
  (bN (Jl pB (aj (Jg Jr [1] (K5 (ao 0)) gU (Mk Fd (ao 0) (ao 1))) aG)))
noncomputable def zE (G:AP):AP:=JH 1 3 false λE=>
  (aU (bF (aF G E (aj (ao 0) aG)) (kI 1))
  (aU (bF (Mk BZ (Jg Jr [] (K5 (ao 0)) (bC (Mk Oj (ao 0) (mC (.int 0)))) (ao 0)) (mUn aeN (mC (.int 1)))) (kI 2))
  (aU (d7 (bC (Mk kLt (ao 2) (mC (.int 0)))) (bF (Mk Az (mC (.int 0)) (ao 1)) (kI 1)) bK)
  (sO G E))))
noncomputable def yq:AP:=zE qI
noncomputable def oO (J G:AP)(E:Bm):MS:=
  (bN (aF G E (aj (ao 2) aG)))
noncomputable def oH (G J:AP)(E:Bm):MS:=
  (aU (d7 (bC (Mk Jx (ao 2) (oh (aj (mC (.int 0)) (aj (mC (.int 0)) (aj (mC (.int 0)) aG)))))) (bF (mC (.int 1)) (Jk (ao 2) (aF G E (aj (ao 0) (aj (mC (.int 3)) aG))) Iw)) bK)
  (oO G J E))
noncomputable def wB (G J:AP):AP:=JH 2 3 false λE=>
  (aU (bF (oX (aj (Mk Az (aF G E (aj (ao 0) (aj (mC (.int 5)) aG))) (mC (.int 2))) (aj (Mk Az (aF G E (aj (ao 0) (aj (mC (.int 5)) aG))) (mC (.int 2))) (aj (Mk BZ (oh (aj (mC (.int 0)) (aj (mC (.int 1)) (aj (mC (.int 1)) (aj (mC (.int 1)) (aj (mC (.int 2)) (aj (mC (.int 1)) (aj (mC (.int 3)) (aj (mC (.int 1)) aG))))))))) (aF G E (aj (ao 0) (aj (mC (.int 8)) aG)))) aG)))) (kI 2))
  (aU (d7 (bC (Mk W6 (ao 1) (mC (.int 0)))) (bF (oX (aj (Mk Az (aF G E (aj (ao 0) (aj (Mk dz (mC (.int 2)) (ao 1)) aG))) (ao 1)) (aj (Mk Az (aF G E (aj (ao 0) (aj (Mk dz (mC (.int 2)) (ao 1)) aG))) (ao 1)) (aj (aF G E (aj (ao 0) (aj (ao 1) aG))) aG)))) (kI 2)) bK)
  (oH G J E)))
noncomputable def Fl:AP:=wB jV yq
noncomputable def zA (E:Bm):MS:=
  (bN (Jl Z0 (aj (ao 3) aG)))
noncomputable def aiM (E:Bm):MS:=
  (aU (d7 (bC (Mk Jx (Mk BZ (ao 2) (mC (.int 0))) (mC (.str "other")))) (bN (Mk cj (Mk cj (Mk BZ (ao 3) (mC (.int 0))) (Mk BZ (ao 3) (mC (.int 1)))) (Mk dz (mC (.int 2)) (Mk BZ (ao 3) (mC (.int 2)))))) bK)
  (zA E))
noncomputable def zQ (E:Bm):MS:=
  (aU (d7 (bC (Mk Jx (Mk BZ (ao 2) (mC (.int 0))) (mC (.str "pole")))) (bN (Mk cj (Mk dz (mC (.int 2)) (Mk BZ (ao 3) (mC (.int 0)))) (Mk BZ (ao 3) (mC (.int 1))))) bK)
  (aiM E))
noncomputable def zJ (E:Bm):MS:=
  (aU (d7 (bC (Mk Jx (Mk BZ (ao 2) (mC (.int 0))) (mC (.str "curve")))) (bN (Mk dz (mC (.int 2)) (Jl Z0 (aj (ao 3) aG)))) bK)
  (zQ E))
noncomputable def vg:AP:=JH 3 4 false λE=>
  (aU (bF (Jg Jr [1] (K5 (RX yd (ao 2) (iQ (mC (.int 1))) dD)) gU (Mk BZ (ao 1) (ao 0))) (kI 3))
  (aU (d7 (bC (Mk Jx (Mk BZ (ao 2) (mC (.int 0))) (mC (.str "free")))) (bN (mC (.int 1))) bK)
  (zJ E)))
noncomputable def uY:AP:=vg
noncomputable def vK (U O J G:AP)(E:Bm):MS:=
  (bN (ao 4))
noncomputable def Hj (U O J G:AP):AP:=JH 4 8 true λE=>
  (aU (bF (oX aG) (kI 4))
  (aU (bF (oX aG) (kI 5))
  (aU (vh (lH (aj (ao 1) aG)) (kI 6) (aU (bF (aF J E (aj (aF O E (aj (aF U E (aj (ao 0) (aj (Mk cj (mC (.int 3)) (ao 6)) aG))) aG)) (aj (ao 4) (aj (ao 2) aG)))) (kI 7))
  (aU (d7 (bC (Mk W6 (aF G E (aj (ao 4) (aj (ao 5) (aj (ao 7) aG)))) (ao 3))) (bF (Ec (aj (mC (.str "join")) (aj (mC (.int 0)) (aj (Jl aeB (aj (mC (.int 1)) (aj (Mk Az (ao 2) (mC (.int 1))) aG))) aG)))) (kI 7)) bK)
  (aU (oE (Cy dF (ao 5) (aj (aF G E (aj (ao 4) (aj (ao 5) (aj (ao 7) aG)))) aG)))
  (oE (Cy dF (ao 4) (aj (ao 7) aG)))))))
  (vK U O J G E))))
noncomputable def Gy:AP:=Hj wJ Cq Pk uY
noncomputable def vq (E:Bm):MS:=
  (bN (Mk cj (ao 3) (Jg Jr [] (CN (aj (ao 4) (aj (ao 1) aG))) gU (Ec (aj (mC (.str "free")) aG)))))
noncomputable def Dm:AP:=JH 2 7 true λE=>
  (aU (bF Yb (kI 2))
  (aU (bF (oX aG) (kI 3))
  (aU (bF (mC (.int 0)) (kI 4))
  (aU (vh (CN (aj (ao 1) (aj (Jl Jw (aj (ao 0) aG)) aG))) (kI 5) (aU (vh (K5 (RX yd (Mk BZ (ao 0) (ao 5)) (iQ (mC (.int 1))) dD)) (kI 6) (Hl (agH (bC (Mk kLt (ao 6) (ao 1))) (bC (Mk kLe (ao 4) (ao 6)))) (aU (bF (Jl Jw (aj (ao 3) aG)) (Jk (ao 2) (ao 4) p8))
  (aU (oE (Cy dF (ao 3) (aj (Ec (aj (mC (.str "free")) aG)) aG)))
  (bF (Mk cj (ao 4) (mC (.int 1))) (kI 4))))))
  (aU (bF (Jl Jw (aj (ao 3) aG)) (Jk (ao 2) (ao 5) p8))
  (oE (Cy dF (ao 3) (aj (Jl pB (aj (Mk cj (oh (aj (Mk BZ (Mk BZ (ao 0) (ao 5)) (mC (.int 0))) aG)) (Jg Jr [2] (K5 (RX yd (Mk BZ (ao 0) (ao 5)) (iQ (mC (.int 1))) dD)) gU (Mk TQ (ao 1) (ao 0)))) aG)) aG))))))
  (vq E)))))
noncomputable def HD:AP:=Dm
noncomputable def lB (O J G:AP)(E:Bm):MS:=
  (bN (Jl pB (aj (Mk cj (oh (aj (ao 3) aG)) (Jg Jr [0,1] (K5 (Mk TQ (ao 5) (ao 3))) gU (aF G E (aj (ao 1) (aj (ao 2) (aj (ao 0) aG)))))) aG)))
noncomputable def qK (G J O:AP):AP:=JH 2 6 false λE=>
  (aU (bF (Jg Jr [] (K5 (ao 1)) gU (aF J E (aj (ao 0) aG))) (kI 2))
  (aU (bF (Mk BZ (oh (aj (mC (.str "same")) (aj (mC (.str "on")) (aj (mC (.str "row")) (aj (mC (.str "bunch")) (aj (mC (.str "touch")) (aj (mC (.str "parted")) (aj (mC (.str "row")) (aj (mC (.str "on")) aG))))))))) (aF G E (aj (ao 0) (aj (mC (.int 8)) aG)))) (kI 3))
  (aU (bF (Mk BZ (ao 2) (aF G E (aj (ao 0) (aj (Jl Jw (aj (ao 2) aG)) aG)))) (kI 4))
  (aU (bF (PB [(.inr "same",(oh (aj (ao 4) (aj (ao 4) aG)))),(.inr "row",(oh (aj (mC (.str "spot")) (aj (mC (.str "spot")) (aj (mC (.str "spot")) aG))))),(.inr "bunch",(oh (aj (mC (.str "line")) (aj (mC (.str "line")) (aj (mC (.str "line")) aG)))))]) (kI 5))
  (aU (bF (oh (aj (mC (.str "spot")) (aj (Mk BZ (oh (aj (mC (.str "line")) (aj (mC (.str "curve")) aG))) (aF G E (aj (ao 0) (aj (mC (.int 2)) aG)))) aG))) (Jk (ao 5) (mC (.str "on")) p8))
  (aU (bF (oh (aj (mC (.str "line")) (aj (mC (.str "curve")) aG))) (Jk (ao 5) (mC (.str "touch")) p8))
  (aU (bF (oh (aj (mC (.str "curve")) aG)) (Jk (ao 5) (mC (.str "parted")) p8))
  (aU (d7 (bC (Mk W6 (Jl Jw (aj (Jg Jr [2] (K5 (Mk TQ (ao 5) (ao 3))) (bC (Mk Bk (ao 0) (ao 1))) (ao 0)) aG)) (mC (.int 0)))) (bF (mC (.str "same")) (kI 3)) bK)
  (lB G J O E)))))))))
noncomputable def z9:AP:=qK jV nR qz
noncomputable def nC (G J:AP)(E:Bm):MS:=
  (bN (ao 2))
noncomputable def Kl (G J:AP):AP:=JH 1 3 false λE=>
  (aU (bF (Jg Jr [0] (lH (aj (mC (.int 9)) aG)) gU (Mk Az (aF J E (aj (ao 1) (aj (mC (.int 5)) aG))) (mC (.int 2)))) (kI 1))
  (aU (XH "NoMap" "Nothing" (λE=>(bF (aF G E (aj (ao 1) aG)) (kI 2))) (bF (Ec (aj (mC (.int 0)) (aj (mC (.int 1)) (aj (mC (.int 0)) (aj (mC (.int 1)) (aj (mC (.int 0)) (aj (mC (.int 0)) (aj (mC (.int 1)) (aj (mC (.int 1)) (aj (mC (.int 1)) aG)))))))))) (kI 2)))
  (nC G J E)))
noncomputable def Ml:AP:=Kl FW jV
noncomputable def yu (G:AP)(E:Bm):MS:=
  (bN (ao 2))
noncomputable def vC (G:AP):AP:=JH 2 4 false λE=>
  (aU (ZC 3 "Stuck" (λE=>(bF (aF G E (aj (Jl Ii (aj (ao 0) aG)) (aj (Jl Ii (aj (ao 1) aG)) aG))) (kI 2))) (bN (Yl "at" (ao 3))))
  (yu G E))
noncomputable def vd:AP:=vC Eo
noncomputable def zbr (i h g Y a d c e U O G J f b:AP)(E:Bm):MS:=
  (bN (mC (.bl true)))
noncomputable def Gb (i h g a G d c e Y U O J f b:AP)(E:Bm):MS:=
  (aU (vh (lH (aj (mC (.int 6)) aG)) (kI 15) (aU (bF (aF J E (aj (ao 5) (aj (ao 4) aG))) (kI 16))
  (d7 (bC (Mk Oj (aF G E (aj (ao 4) (aj (ao 9) (aj (ao 16) aG)))) (aF G E (aj (ao 4) (aj (ao 10) (aj (ao 16) aG)))))) (bN (mC (.bl false))) bK)))
  (zbr i h g a G d c e Y U O J f b E))
noncomputable def ajU (U O J d e h g G c b Y a i f:AP)(E:Bm):MS:=
  (aU (vh (lH (aj (Jl Jw (aj (ao 4) aG)) aG)) (kI 12) (aU (bF (aF G E (aj (Mk BZ (ao 4) (ao 12)) aG)) (kI 13))
  (aU (bF (mIf (bC (Mk Jx (ao 13) (mC (.str "curve")))) (aF J E (aj (ao 7) (aj (Mk BZ (ao 9) (ao 12)) aG))) (aF U E (aj (ao 7) (aj (Mk BZ (ao 9) (ao 12)) aG)))) (kI 14))
  (aU (d7 (bC (Mk Jx (ao 13) (mC (.str "line")))) (bF (aF O E (aj (ao 7) (aj (Mk BZ (ao 9) (ao 12)) aG))) (kI 14)) bK)
  (d7 (bC (Mk Oj (Mk BZ (ao 10) (ao 12)) (ao 14))) (bN (mC (.bl false))) bK)))))
  (Gb U O J d e h g G c b Y a i f E))
noncomputable def G6 (i h g Y a d c e U O G J f b:AP)(E:Bm):MS:=
  (aU (d7 (mOr (ZV (J3 (Jl aaE (aj (ao 10) (aj (mC (.ty "list")) aG))))) (bC (Mk Oj (Jl Jw (aj (ao 10) aG)) (Jl Jw (aj (ao 4) aG))))) (bN (mC (.bl false))) bK)
  (ajU i h g Y a d c e U O G J f b E))
noncomputable def Hy (i h g a b d c e Y U J O f G:AP)(E:Bm):MS:=
  (aU (bF (aF G E (aj (ao 4) (aj (ao 6) aG))) (kI 9))
  (aU (bF (aF G E (aj (ao 4) (aj (ao 8) aG))) (kI 10))
  (aU (d7 (J3 (Jl aaE (aj (ao 9) (aj (mC (.ty "int")) aG)))) (aU (d7 (bC (Mk Oj (ao 10) (ao 9))) (bN (mC (.bl false))) bK)
  (aU (bF (RX yd (ao 4) dD (iQ (ao 9))) (kI 4))
  (aU (bF (Jl Jw (aj (Jg Jr [] (K5 (ao 4)) (bC (Mk Jx (Mk BZ (ao 0) (mC (.int 0))) (mC (.str "free")))) (ao 0)) aG)) (kI 11))
  (aU (bF (aF G E (aj (ao 4) (aj (RX yd (ao 6) dD (iQ (ao 11))) aG))) (kI 9))
  (bF (aF G E (aj (ao 4) (aj (RX yd (ao 8) dD (iQ (ao 11))) aG))) (kI 10)))))) bK)
  (G6 i h g a b d c e Y U J O f G E))))
noncomputable def Qx (a i h G e O J g U d b c Y f:AP)(E:Bm):MS:=
  (aU (bF (aF J E (aj (aF O E (aj (ao 0) (aj (mC (.int 1)) aG))) aG)) (kI 5))
  (aU (bF (Jg Jr [5] (lH (aj (ao 1) aG)) gU (aF U E (aj (ao 1) (aj (mC (.int 0)) aG)))) (kI 6))
  (aU (bF (aF J E (aj (aF O E (aj (ao 0) (aj (mC (.int 2)) aG))) aG)) (kI 5))
  (aU (bF (aF Y E (aj (ao 5) aG)) (kI 7))
  (aU (bF (Jg Jr [7] (K5 (ao 6)) gU (aF a E (aj (ao 1) (aj (ao 0) aG)))) (kI 8))
  (aU (d7 (bC (Mk Oj (aF G E (aj (ao 4) (aj (ao 6) aG))) (aF G E (aj (ao 4) (aj (ao 8) aG))))) (bN (mC (.bl false))) bK)
  (Hy a i h G e O J g U d b c Y f E)))))))
noncomputable def Zq (i h g a b G d e Y O J U f c:AP):AP:=JH 1 17 false λE=>
  (aU (bF (Mk cj (mC (.int 2)) (Mk zF (aF G E (aj (ao 0) (aj (mC (.int 0)) aG))) (mC (.int 6)))) (kI 1))
  (aU (bF (Mk cj (mC (.int 16)) (Mk M7 (mC (.int 8)) (Jl Xp (aj (Mk Jx (Mk zF (Mk Fd (aF G E (aj (ao 0) (aj (mC (.int 0)) aG))) (mC (.int 96))) (mC (.int 8))) (mC (.int 5))) aG)))) (kI 2))
  (aU (bF (Jl aeC (aj (ao 1) (aj (Mk cj (mC (.int 1)) (Mk zF (Mk Fd (aF G E (aj (ao 0) (aj (mC (.int 0)) aG))) (mC (.int 6))) (ao 2))) aG))) (kI 3))
  (aU (bF (aF O E (aj (ao 0) (aj (ao 3) (aj (ao 1) (aj (mC (.int 32)) aG))))) (kI 4))
  (aU (d7 (bC (Mk Jx (Mk zF (Mk Fd (aF G E (aj (ao 0) (aj (mC (.int 0)) aG))) (mC (.int 1000))) (mC (.int 2))) (mC (.int 0)))) (bF (aF J E (aj (ao 4) (aj (ao 1) aG))) (kI 4)) bK)
  (Qx i h g a b G d e Y O J U f c E))))))
noncomputable def ZS:AP:=Zq abg vA yC pL M4 wJ Cq nR Fl Gy HD z9 Ml vd
noncomputable def zl:List Str:=["abs", "all", "any", "enumerate", "int", "isinstance", "len", "list", "max", "min", "range", "reversed", "set", "sum", "tuple", "zip"]
structure Ad where
 x_EaselError:Addr
 x_Nothing:Addr
 x_Alike:Addr
 x_NoMap:Addr
 x_Stuck:Addr
 x_FourOnLine:Addr
 x_Knot:Addr
 x_NotRound:Addr
 x_NotOn:Addr
 x_InCurve:Addr
 f_Stuck_init:Addr
 d_Stuck_init:Nv
structure Txt (P:IW) (w:IV) (K:BW) (mg:Str->Option JI) (base:Heap) (t:Ad):Prop where
 f0:At K mg "divisor_of_two" (top 12) ["one", "other"]
 f1:At K mg "divisor" (top 13) ["numbers"]
 f2:At K mg "ends_below" (top 14) ["numbers"]
 f3:At K mg "plain" (top 15) ["numbers"]
 f4:At K mg "dot" (top 17) ["one", "other"]
 f5:At K mg "cross" (top 18) ["one", "other"]
 f6:At K mg "turn" (top 19) ["one", "other", "third"]
 f7:At K mg "lies_on" (top 20) ["spot", "line"]
 f8:At K mg "share_one" (top 21) ["rows"]
 f9:At K mg "on_line" (top 22) ["spots"]
 f10:At K mg "through_spot" (top 23) ["lines"]
 f11:At K mg "plain_cross" (top 24) ["one", "other"]
 f12:At K mg "join" (top 25) ["one", "other"]
 f13:At K mg "meet" (top 26) ["one", "other"]
 f14:At K mg "rising" (top 28) ["many", "size"]
 f15:At K mg "picked" (top 29) ["things", "places"]
 f16:At K mg "has_alike" (top 30) ["things"]
 f17:At K mg "has_on_line" (top 31) ["spots", "size"]
 f18:At K mg "rows_of" (top 34) ["table"]
 f19:At K mg "size_of" (top 35) ["numbers"]
 f20:At K mg "map_of" (top 36) ["numbers"]
 f21:At K mg "table_times_row" (top 37) ["table", "row"]
 f22:At K mg "flipped" (top 38) ["table"]
 f23:At K mg "table_times_table" (top 39) ["one", "other"]
 f24:At K mg "turned" (top 40) ["table"]
 f25:At K mg "led" (top 41) ["by", "spot"]
 f26:At K mg "led_line" (top 42) ["by", "line"]
 f27:At K mg "back" (top 43) ["by"]
 f28:At K mg "tiles" (top 44) []
 f29:At K mg "worth" (top 46) ["curve", "spot"]
 f30:At K mg "is_on_curve" (top 47) ["curve", "spot"]
 f31:At K mg "together" (top 48) ["line", "other"]
 f32:At K mg "table_of" (top 49) ["curve"]
 f33:At K mg "both_sides" (top 50) ["table", "one", "other"]
 f34:At K mg "is_round" (top 51) ["curve"]
 f35:At K mg "mixed" (top 52) ["spots"]
 f36:At K mg "through" (top 53) ["spots"]
 f37:At K mg "carried" (top 54) ["by", "curve"]
 f38:At K mg "sort_of" (top 57) ["rows", "k"]
 f39:At K mg "free_rows" (top 58) ["rows"]
 f40:At K mg "plain_or_none" (top 60) ["numbers"]
 f41:At K mg "line_about" (top 61) ["curve", "spot"]
 f42:At K mg "spot_about" (top 62) ["curve", "line"]
 f43:At K mg "another_spot" (top 63) ["line", "spot"]
 f44:At K mg "other_end" (top 64) ["curve", "spot", "line"]
 f45:At K mg "made_by_row" (top 66) ["row", "things"]
 f46:At K mg "placed" (top 67) ["rows", "spots"]
 f47:At K mg "is_of_kind" (top 68) ["rows", "spots"]
 f48:At K mg "touches" (top 70) ["line", "curve"]
 f49:At K mg "holds" (top 71) ["rows", "things", "claim"]
 f50:At K mg "_law_cell" (top 73) ["_law_script", "_law_k"]
 f51:At K mg "_law_bag" (top 74) ["_law_cell_here"]
 f52:At K mg "_law_draw" (top 75) ["_law_bag_here", "_law_many"]
 f53:At K mg "_law_asks" (top 76) ["_law_word"]
 f54:At K mg "_law_sort" (top 77) ["_law_row_here"]
 f55:At K mg "_law_pick" (top 78) ["_law_bag_here", "_law_rows_here", "_law_sort_here"]
 f56:At K mg "_law_row" (top 79) ["_law_bag_here", "_law_rows_here", "_law_frees"]
 f57:At K mg "_law_divisor" (top 80) ["_law_numbers"]
 f58:At K mg "_law_plain" (top 81) ["_law_numbers"]
 f59:At K mg "_law_spot" (top 82) ["_law_bag_here", "_law_top"]
 f60:At K mg "_law_weight" (top 83) ["_law_rows_here", "_law_weights", "_law_row_here"]
 f61:At K mg "_law_rows" (top 84) ["_law_script", "_law_size", "_law_frees", "_law_most"]
 f62:At K mg "_law_amid" (top 85) ["_law_rows_here", "_law_frees"]
 f63:At K mg "_law_claim" (top 86) ["_law_bag_here", "_law_rows_here"]
 f64:At K mg "_law_map" (top 87) ["_law_bag_here"]
 f65:At K mg "_law_placed" (top 88) ["_law_rows_here", "_law_spots"]
 z:∀n∈zl,mg n=Go
 c_TILES:∃a,mg "TILES" = Dn (.ref a)/\∀H μ,CR K H μ rC (.ref a)
 K_MADE:∃a,mg "MADE" = Dn (.ref a)/\aeA w K a pA
 xm_EaselError:mg "EaselError" = Dn (.ref t.x_EaselError)
 xd_EaselError:iy K t.x_EaselError "EaselError" = true
 xm_Nothing:mg "Nothing" = Dn (.ref t.x_Nothing)
 xd_Nothing:iy K t.x_Nothing "Nothing" = true
 xc_Nothing:jm K t.x_Nothing "Nothing" = true
 xq_Nothing:R6 K t.x_Nothing O8 "ValueError.__new__" = true
 xm_Alike:mg "Alike" = Dn (.ref t.x_Alike)
 xd_Alike:iy K t.x_Alike "Alike" = true
 xc_Alike:jm K t.x_Alike "Alike" = true
 xq_Alike:R6 K t.x_Alike O8 "ValueError.__new__" = true
 xm_NoMap:mg "NoMap" = Dn (.ref t.x_NoMap)
 xd_NoMap:iy K t.x_NoMap "NoMap" = true
 xc_NoMap:jm K t.x_NoMap "NoMap" = true
 xq_NoMap:R6 K t.x_NoMap O8 "ValueError.__new__" = true
 xm_Stuck:mg "Stuck" = Dn (.ref t.x_Stuck)
 xd_Stuck:iy K t.x_Stuck "Stuck" = true
 xm_FourOnLine:mg "FourOnLine" = Dn (.ref t.x_FourOnLine)
 xd_FourOnLine:iy K t.x_FourOnLine "FourOnLine" = true
 xc_FourOnLine:jm K t.x_FourOnLine "FourOnLine" = true
 xq_FourOnLine:R6 K t.x_FourOnLine O8 "ValueError.__new__" = true
 xm_Knot:mg "Knot" = Dn (.ref t.x_Knot)
 xd_Knot:iy K t.x_Knot "Knot" = true
 xc_Knot:jm K t.x_Knot "Knot" = true
 xq_Knot:R6 K t.x_Knot O8 "ValueError.__new__" = true
 xm_NotRound:mg "NotRound" = Dn (.ref t.x_NotRound)
 xd_NotRound:iy K t.x_NotRound "NotRound" = true
 xc_NotRound:jm K t.x_NotRound "NotRound" = true
 xq_NotRound:R6 K t.x_NotRound O8 "ValueError.__new__" = true
 xm_NotOn:mg "NotOn" = Dn (.ref t.x_NotOn)
 xd_NotOn:iy K t.x_NotOn "NotOn" = true
 xc_NotOn:jm K t.x_NotOn "NotOn" = true
 xq_NotOn:R6 K t.x_NotOn O8 "ValueError.__new__" = true
 xm_InCurve:mg "InCurve" = Dn (.ref t.x_InCurve)
 xd_InCurve:iy K t.x_InCurve "InCurve" = true
 xc_InCurve:jm K t.x_InCurve "InCurve" = true
 xq_InCurve:R6 K t.x_InCurve O8 "ValueError.__new__" = true
 F_Stuck_init:W2 K "__init__" "Stuck.__init__" gC t.f_Stuck_init t.d_Stuck_init
 b_Stuck_init:Binds K t.d_Stuck_init ["self", "at"] []
 xi_Stuck:Im K t.x_Stuck t.f_Stuck_init O8 "ValueError.__new__" = true
 xf_Stuck:Yz K (.ref t.f_Stuck_init)=true
 xa_Stuck:Zm K t.x_Stuck "Stuck" = true
 xs_Stuck:aex K t.x_Stuck "at" = true
section
variable {P:IW}{w:IV}{K:BW}{mg:Str->Option JI}{base:Heap}{t:Ad}(T:Txt P w K mg base t)
include T
theorem amM:jO P w K mg base Q8 1 t.f_Stuck_init t.d_Stuck_init ["self", "at"] (spI t.x_Stuck "at"):=
 akW T.F_Stuck_init alC λcdv A outer s H E G=>Bt (aad T.xs_Stuck (pv 0) (pv 1) rfl)
theorem alf:Fk P w K mg base 10 "divisor_of_two" jc:=by
 refine fk ["one", "other", "rest"] T.f0 T.z ?_;intro _ _ _ _ _ _ _ J G O z;refine aq (JB 0<|Lz JQ boot_abs<|a1<|vV 0) ?_;refine aq (JB 1<|Lz JQ boot_abs<|a1<|vV 1) ?_;refine aq (wN T6 (Jo (Io qq) (vV 1) au)<|aq (JB 2<|bG qg (vV 0)<|vV 1)<|aq (JB 0<|vV 1)<|aD<|JB 1<|vV 2) ?_;exact aD<|aH<|vV 0
theorem zaw:Fk P w K mg base 11 "divisor" yE:=by
 refine fk ["numbers", "found", "number"] T.f1 T.z ?_;intro _ _ _ _ _ _ _ J G O z;exact aq (JB 1 au)<|aq (jz T6 hh (bY<|vV 0) (Ui 2)<|aD<|JB 1<|Di (alf T)<|a2 (vV 2)<|vV 1)<|aD<|aH<|vV 1
theorem wH:Fk P w K mg base 10 "ends_below" p7:=by
 refine fk ["numbers", "number"] T.f2 T.z ?_;intro _ _ _ _ _ _ _ J G O z;refine aq (jz T6 hh (alR (rfl) (T.z _<|by decide) (a1<|vV 0) (aM<|by rfl)<|cC<|by rfl) (Ui 1)<|aD<|cX (Jo (Io qq) (vV 1) au) (aD<|aH<|Sx ZK (vV 1) au) bD) ?_;exact aD<|aH Vw
theorem jk:Rj P w K mg base 12 "plain" eE:=by
 refine Ud (k:=11) ["numbers", "factor"] T.f3 T.z ?_;intro _ _ _ _ _ _ _ J G O z;refine aP (λ_=>trivial) ?_ ?_;exact dj<|JB 1<|Di (zaw T)<|a1<|vV 0
 refine aP (λ_=>trivial) ?_ ?_;exact eZ (Jo (jr qq) (vV 1) au) (aR<|cZ hh (by rfl) T.xm_Nothing T.xq_Nothing T.xc_Nothing) cG;refine aP (λ_=>trivial) ?_ ?_;exact dj<|cX (lg<|Di (wH T)<|a1<|vV 0) (aD<|JB 1<|adT<|vV 1) bD
 refine aR ?_;exact dj<|aH<|dct uc boot_tuple<|a1<|RZ [1] (bY<|vV 0)<|λ_ _ _ _=>(bG vO (vV 0)<|vV 1)
theorem nW:Fk P w K mg base 12 "plain" eE:=(jk T).tame
theorem kJ:Fk P w K mg base 10 "dot" Ai:=by
 refine fk ["one", "other"] T.f4 T.z ?_;intro _ _ _ _ _ _ _ J G O z;exact aD<|aH<|bG bU (bG bU (bG bJ (Bl (vV 0) au)<|Bl (vV 1) au)<|bG bJ (Bl (vV 0) au)<|Bl (vV 1) au)<|bG bJ (Bl (vV 0) au)<|Bl (vV 1) au
theorem dR:Fk P w K mg base 10 "cross" oF:=by
 refine fk (k:=9) ["one", "other"] T.f5 T.z ?_;intro _ _ _ _ _ _ _ J G O z;exact aD<|aH<|vQ<|a3 (bG oV (bG bJ (Bl (vV 0) au)<|Bl (vV 1) au)<|bG bJ (Bl (vV 0) au)<|Bl (vV 1) au) (bG oV (bG bJ (Bl (vV 0) au)<|Bl (vV 1) au)<|bG bJ (Bl (vV 0) au)<|Bl (vV 1) au)<|bG oV (bG bJ (Bl (vV 0) au)<|Bl (vV 1) au)<|bG bJ (Bl (vV 0) au)<|Bl (vV 1) au
theorem akj:Fk P w K mg base 11 "turn" U0:=by
 refine fk ["one", "other", "third"] T.f6 T.z ?_;intro _ _ _ _ _ _ _ J G O z;exact aD<|aH<|Di (kJ T)<|a2 (Di (dR T)<|a2 (vV 0)<|vV 1)<|vV 2
theorem vH:Fk P w K mg base 11 "lies_on" rQ:=by
 refine fk ["spot", "line"] T.f7 T.z ?_;intro _ _ _ _ _ _ _ J G O z;exact aD<|aH<|Sx (jr qq) (Di (kJ T)<|a2 (vV 0)<|vV 1) au
theorem pF:Fk P w K mg base 11 "share_one" iW:=by
 refine fk ["rows", "unlike", "shared"] T.f8 T.z ?_;intro _ _ _ _ _ _ _ J G O z;refine aq (uF [0] (i:=1) (by assumption) (by rfl) (by exact Or.inl rfl) hh (cB<|by rfl) qW (qQ<|cB<|by rfl) (bY<|vV 0) (λ_ _ _ _=>(iH<|Jo (Io qq) (vV 0)<|Bl (vV 1) au))<|λ_ _ _ _=>(vV 0)) ?_;refine aq (cX (yM<|lg<|vV 1) (aD<|aH Vw) bD) ?_;refine aq (JB 2<|Di (dR T)<|a2 (Bl (vV 0) au)<|Bl (vV 1) au) ?_;exact aD<|aH<|Lz (afO hh) boot_all<|a1<|RZ [2] (bY<|vV 1)<|λ_ _ _ _=>(Sx (jr qq) (Di (kJ T)<|a2 (vV 1)<|vV 0) au)
theorem uQ:Fk P w K mg base 12 "on_line" mV:=by
 refine fk ["spots"] T.f9 T.z ?_;intro _ _ _ _ _ _ _ J G O z;exact aD<|aH<|Di (pF T)<|a1<|vV 0
theorem alE:Fk P w K mg base 12 "through_spot" kO:=by
 refine fk ["lines"] T.f10 T.z ?_;intro _ _ _ _ _ _ _ J G O z;exact aD<|aH<|Di (pF T)<|a1<|vV 0
theorem jg:Rj P w K mg base 13 "plain_cross" iM:=by
 refine Ud ["one", "other"] T.f11 T.z ?_;intro _ _ _ _ _ _ _ J G O z;refine aP (λ_=>trivial) ?_ ?_;exact eZ (Jo (jr qq) (vV 0)<|vV 1) (aR<|cZ hh rfl T.xm_Alike T.xq_Alike T.xc_Alike) cG;exact aR<|fU<|J7 (jk T)<|a1<|Di (dR T)<|a2 (vV 0)<|vV 1
theorem Gf:Rj P w K mg base 14 "join" Nq:=by
 refine Ud ["one", "other"] T.f12 T.z ?_;intro _ _ _ _ _ _ _ J G O z;exact aR<|fU<|J7 (jg T)<|a2 (vV 0)<|vV 1
theorem Ey:Rj P w K mg base 14 "meet" yU:=by
 refine Ud ["one", "other"] T.f13 T.z ?_;intro _ _ _ _ _ _ _ J G O z;exact aR<|fU<|J7 (jg T)<|a2 (vV 0)<|vV 1
theorem amL:Fk P w K mg base 14 "meet" yU:=(Ey T).tame
theorem ajm:Fk P w K mg base 10 "rising" DY:=by
 refine fk (k:=9) ["many", "size", "found", "taken", "longer", "places", "first"] T.f14 T.z ?_;intro _ _ _ _ _ _ _ J G O z;refine aq ?_ ?_;with_reducible exact JB 2 (dY (a1 (vQ cT)))
 refine aq (jz T6 hh (Wv<|a1<|vV 1) (Ui 3)<|aq (JB 4<|mW cT)<|aq (jz T6 hh (bY<|vV 2) (Ui 5)<|aq (JB 6<|agL (Jo Z5 (vV 3) au) (bG bU (Bl (vV 5)<|bG oV (vV 3) au) au) au)<|aD<|jj<|GP (vV 4) (a1<|RZ [5] (rP (by rfl) (by exact T.z _ (by decide))<|a2 (vV 6)<|vV 0)<|λ_ _ _ _=>(bG bU (vV 1)<|vQ<|a1<|vV 0)) (by rfl) (yK<|by rfl) (by rfl) (aM<|by rfl)<|by rfl)<|aD<|JB 2<|vV 4) ?_;exact aD<|aH<|vV 2
theorem zaT:Fk P w K mg base 10 "picked" Fx:=by
 refine fk ["things", "places"] T.f15 T.z ?_;intro _ _ _ _ _ _ _ J G O z;exact aD<|aH<|RZ [0] (bY<|vV 1)<|λ_ _ _ _=>(Bl (vV 1)<|vV 0)
theorem o8:Fk P w K mg base 10 "has_alike" lW:=by
 refine fk ["things"] T.f16 T.z ?_;intro _ _ _ _ _ _ _ J G O z;exact aD<|aH<|Sx ZK (zbc hh qq rfl (T.z _<|by decide) rfl (T.z _<|by decide) (vV 0) (aM rfl)<|aM rfl)<|Lz iB R7<|a1<|vV 0
theorem j8:Fk P w K mg base 13 "has_on_line" iU:=by
 refine fk ["spots", "size"] T.f17 T.z ?_;intro _ _ _ _ _ _ _ J G O z;exact aD<|aH<|Lz (ada hh) boot_any<|a1<|RZ [0] (bY<|Di (ajm T)<|a2 (Lz iB R7<|a1<|vV 0)<|vV 1)<|λ_ _ _ _=>(Di (uQ T)<|a1<|Di (zaT T)<|a2 (vV 1)<|vV 0)
theorem gY:Fk P w K mg base 10 "rows_of" jq:=by
 refine fk ["table"] T.f18 T.z ?_;intro _ _ _ _ _ _ _ J G O z;exact aD<|aH<|dY<|a3 (mX (vV 0) (cH au)<|cH au) (mX (vV 0) (cH au)<|cH au)<|mX (vV 0) (cH au)<|cH au
theorem uZ:Fk P w K mg base 12 "size_of" mQ:=by
 refine fk ["numbers", "rows"] T.f19 T.z ?_;intro _ _ _ _ _ _ _ J G O z;exact aq (JB 1<|Di (gY T)<|a1<|vV 0)<|aD<|aH<|Di (akj T)<|a3 (Bl (vV 1) au) (Bl (vV 1) au)<|Bl (vV 1) au
theorem zaE:Rj P w K mg base 13 "map_of" FW:=by
 refine Ud ["numbers", "made"] T.f20 T.z ?_;intro _ _ _ _ _ _ _ J G O z;refine aP (λ_=>trivial) ?_ ?_;exact wQ (by assumption) (by rfl) (Or.inl rfl)<|J7 (jk T)<|a1<|vV 0
 refine aP (λ_=>trivial) ?_ ?_;exact eZ (Jo (jr qq) (Di (uZ T)<|a1<|vV 1) au) (aR<|cZ hh (by rfl) T.xm_NoMap T.xq_NoMap T.xc_NoMap) cG;refine aR ?_;exact dj<|aH<|vV 1
theorem bW:Fk P w K mg base 11 "table_times_row" bH:=by
 refine fk ["table", "row"] T.f21 T.z ?_;intro _ _ _ _ _ _ _ J G O z;exact aD<|aH<|RZ [1] (bY<|Di (gY T)<|a1<|vV 0)<|λ_ _ _ _=>(Di (kJ T)<|a2 (vV 0)<|vV 1)
theorem oG:Fk P w K mg base 10 "flipped" mG:=by
 refine fk ["table"] T.f22 T.z ?_;intro _ _ _ _ _ _ _ J G O z;exact aD<|aH<|RZ [0] (Wv<|a1 au)<|λ_ _ _ _=>(Bl (vV 1)<|bG bU (bG bJ au<|bG qg (vV 0) au)<|bG vO (vV 0) au)
theorem eV:Fk P w K mg base 11 "table_times_table" fD:=by
 refine fk ["one", "other", "columns", "numbers", "row"] T.f23 T.z ?_;intro _ _ _ _ _ _ _ J G O z;refine aq (JB 2<|Di (gY T)<|a1<|Di (oG T)<|a1<|vV 1) ?_;refine aq (JB 3<|mW cT) ?_;refine aq (jz T6 hh (bY<|Di (gY T)<|a1<|vV 0) (Ui 4)<|aD<|jj<|GP (vV 3) (a1<|RZ [4] (bY<|vV 2)<|λ_ _ _ _=>(Di (kJ T)<|a2 (vV 1)<|vV 0)) (by rfl) (yK<|by rfl) (by rfl) (aM<|by rfl)<|by rfl) ?_;exact aD<|aH<|vV 3
theorem mH:Fk P w K mg base 11 "turned" jN:=by
 refine fk ["table", "rows"] T.f24 T.z ?_;intro _ _ _ _ _ _ _ J G O z;refine aq (JB 1<|Di (gY T)<|a1<|vV 0) ?_;exact aD<|aH<|bG bU (bG bU (Di (dR T)<|a2 (Bl (vV 1) au)<|Bl (vV 1) au)<|Di (dR T)<|a2 (Bl (vV 1) au)<|Bl (vV 1) au)<|Di (dR T)<|a2 (Bl (vV 1) au)<|Bl (vV 1) au
theorem Uu:Fk P w K mg base 13 "led" abg:=by
 refine fk ["by", "spot"] T.f25 T.z ?_;intro _ _ _ _ _ _ _ J G O z;exact aD<|aH<|Di (nW T)<|a1<|Di (bW T)<|a2 (vV 0)<|vV 1
theorem zaj:Fk P w K mg base 13 "led_line" vA:=by
 refine fk ["by", "line"] T.f26 T.z ?_;intro _ _ _ _ _ _ _ J G O z;exact aD<|aH<|Di (nW T)<|a1<|Di (bW T)<|a2 (Di (mH T)<|a1<|vV 0)<|vV 1
theorem akD:Fk P w K mg base 13 "back" Uw:=by
 refine fk ["by"] T.f27 T.z ?_;intro _ _ _ _ _ _ _ J G O z;exact aD<|aH<|Di (nW T)<|a1<|Di (oG T)<|a1<|Di (mH T)<|a1<|vV 0
theorem akN:Fk P w K mg base 10 "tiles" Ku:=by
 refine fk [] T.f28 T.z ?_;intro _ _ _ _ _ _ _ Y U a z;obtain⟨O,J,G⟩:=T.c_TILES;exact aD<|aH<|dct Ls boot_list<|a1<|dc (Cr (rfl) J<|by rfl) G
theorem ajH:Fk P w K mg base 10 "worth" Qt:=by
 refine fk (k:=9) ["curve", "spot", "x", "y", "z", "squares"] T.f29 T.z ?_;intro _ _ _ _ _ _ _ J G O z;refine aq (JB 2<|Bl (vV 1) au) ?_;refine aq (JB 3<|Bl (vV 1) au) ?_;refine aq (JB 4<|Bl (vV 1) au) ?_;refine aq (JB 5<|bG bU (bG bU (bG bJ (bG bJ (Bl (vV 0) au)<|vV 2)<|vV 2)<|bG bJ (bG bJ (Bl (vV 0) au)<|vV 3)<|vV 3)<|bG bJ (bG bJ (Bl (vV 0) au)<|vV 4)<|vV 4) ?_;exact aD<|aH<|bG bU (bG bU (bG bU (vV 5)<|bG bJ (bG bJ (Bl (vV 0) au)<|vV 2)<|vV 3)<|bG bJ (bG bJ (Bl (vV 0) au)<|vV 2)<|vV 4)<|bG bJ (bG bJ (Bl (vV 0) au)<|vV 3)<|vV 4
theorem kZ:Fk P w K mg base 11 "is_on_curve" iC:=by
 refine fk ["curve", "spot"] T.f30 T.z ?_;intro _ _ _ _ _ _ _ J G O z;exact aD<|aH<|Sx (jr qq) (Di (ajH T)<|a2 (vV 0)<|vV 1) au
theorem tB:Fk P w K mg base 10 "together" vJ:=by
 refine fk (k:=9) ["line", "other"] T.f31 T.z ?_;intro _ _ _ _ _ _ _ J G O z;exact aD<|aH<|vQ<|aC (bG bJ (Bl (vV 0) au)<|Bl (vV 1) au)<|aC (bG bU (bG bJ (Bl (vV 0) au)<|Bl (vV 1) au)<|bG bJ (Bl (vV 0) au)<|Bl (vV 1) au)<|aC (bG bJ (Bl (vV 0) au)<|Bl (vV 1) au)<|a3 (bG bU (bG bJ (Bl (vV 0) au)<|Bl (vV 1) au)<|bG bJ (Bl (vV 0) au)<|Bl (vV 1) au) (bG bU (bG bJ (Bl (vV 0) au)<|Bl (vV 1) au)<|bG bJ (Bl (vV 0) au)<|Bl (vV 1) au)<|bG bJ (Bl (vV 0) au)<|Bl (vV 1) au
theorem dH:Fk P w K mg base 10 "table_of" dO:=by
 refine fk ["curve"] T.f32 T.z ?_;intro _ _ _ _ _ _ _ J G O z;exact aD<|aH<|vQ<|aC (bG bJ au<|Bl (vV 0) au)<|aC (Bl (vV 0) au)<|aC (Bl (vV 0) au)<|aC (Bl (vV 0) au)<|aC (bG bJ au<|Bl (vV 0) au)<|aC (Bl (vV 0) au)<|a3 (Bl (vV 0) au) (Bl (vV 0) au)<|bG bJ au<|Bl (vV 0) au
theorem iY:Fk P w K mg base 12 "both_sides" gA:=by
 refine fk ["table", "one", "other"] T.f33 T.z ?_;intro _ _ _ _ _ _ _ J G O z;exact aD<|aH<|Di (kJ T)<|a2 (vV 1)<|Di (bW T)<|a2 (vV 0)<|vV 2
theorem tV:Fk P w K mg base 13 "is_round" jQ:=by
 refine fk ["curve"] T.f34 T.z ?_;intro _ _ _ _ _ _ _ J G O z;exact aD<|aH<|Sx (Io qq) (Di (uZ T)<|a1<|Di (dH T)<|a1<|vV 0) au
theorem ajY:Fk P w K mg base 11 "mixed" M9:=by
 refine fk (k:=10) ["spots", "first", "second", "third", "last", "more", "less"] T.f35 T.z ?_;intro _ _ _ _ _ _ _ J G O z;refine aq (JB 1<|Di (dR T)<|a2 (Bl (vV 0) au)<|Bl (vV 0) au) ?_;refine aq (JB 2<|Di (dR T)<|a2 (Bl (vV 0) au)<|Bl (vV 0) au) ?_;refine aq (JB 3<|Di (dR T)<|a2 (Bl (vV 0) au)<|Bl (vV 0) au) ?_;refine aq (JB 4<|Di (dR T)<|a2 (Bl (vV 0) au)<|Bl (vV 0) au) ?_;refine aq (JB 5<|bG bJ (Di (kJ T)<|a2 (vV 1)<|Bl (vV 0) au)<|Di (kJ T)<|a2 (vV 2)<|Bl (vV 0) au) ?_;refine aq (JB 6<|bG bJ (Di (kJ T)<|a2 (vV 3)<|Bl (vV 0) au)<|Di (kJ T)<|a2 (vV 4)<|Bl (vV 0) au) ?_;exact aD<|aH<|agB [5,6] hh (cB<|by rfl) aen (ade hh<|cB<|by rfl) (V1 (by rfl) (by exact T.z _ (by decide)) (a2 (Di (tB T)<|a2 (vV 3)<|vV 4)<|Di (tB T)<|a2 (vV 1)<|vV 2) (aM<|by rfl)<|cC<|by rfl) (λ_ _ _ _=>iw)<|λ_ _ _ _=>(bG oV (bG bJ (vV 2)<|vV 0)<|bG bJ (vV 3)<|vV 1)
theorem zan:Rj P w K mg base 14 "through" tL:=by
 refine Ud (k:=13) ["spots"] T.f36 T.z ?_;intro _ _ _ _ _ _ _ J G O z;refine aP (λ_=>trivial) ?_ ?_;exact eZ (lg<|Di (o8 T)<|a1<|vV 0) (aR<|cZ hh (by rfl) T.xm_Alike T.xq_Alike T.xc_Alike) cG;refine aP (λ_=>trivial) ?_ ?_;exact eZ (lg<|Di (j8 T)<|a2 (vV 0) au) (aR<|cZ hh (by rfl) T.xm_FourOnLine T.xq_FourOnLine T.xc_FourOnLine) cG;refine aR ?_;exact fU<|J7 (jk T)<|a1<|Di (ajY T)<|a1<|vV 0
theorem aiN:Fk P w K mg base 14 "carried" yC:=by
 refine fk (k:=13) ["by", "curve", "behind", "table"] T.f37 T.z ?_;intro _ _ _ _ _ _ _ hr nd hc z;refine aq (JB 2<|Di (akD T)<|a1<|vV 0) ?_;refine aq (JB 3<|Di (eV T)<|a2 (Di (oG T)<|a1<|vV 2)<|Di (eV T)<|a2 (Di (dH T)<|a1<|vV 1)<|vV 2) ?_;exact aD<|aH<|Di (nW T)<|a1<|dY<|aC (Bl (vV 3) au)<|aC (bG bJ au<|Bl (vV 3) au)<|aC (Bl (vV 3) au)<|a3 (bG bJ au<|Bl (vV 3) au) (bG bJ au<|Bl (vV 3) au)<|Bl (vV 3) au
theorem zaC:Fk P w K mg base 10 "sort_of" Aa:=by
 refine fk ["rows", "k"] T.f38 T.z ?_;intro _ _ _ _ _ _ _ U O Y z;obtain⟨_,G,J⟩:=T.K_MADE;exact aD<|aH<|agm J rfl G (Bl (Bl (vV 0)<|vV 1) au) (by intro _ _;rfl)
theorem yL:Fk P w K mg base 10 "free_rows" qR:=by
 refine fk ["rows"] T.f39 T.z ?_;intro _ _ _ _ _ _ _ J G O z;exact aD<|aH<|dl1 [0] (Wv<|a1<|Lz iB R7<|a1<|vV 0) (λ_ _ _ _=>(iH<|Jo (jr qq) (Bl (Bl (vV 1)<|vV 0) au) aQ))<|λ_ _ _ _=>(vV 0)
theorem jd:Fk P w K mg base 13 "plain_or_none" fG:=by
 refine fk ["numbers"] T.f40 T.z ?_;intro _ _ _ _ _ _ _ J G O z;exact aD<|aH<|agL (lg<|Lz (ada hh) boot_any<|a1<|RZ [] (bY<|vV 0)<|λ_ _ _ _=>(Sx (Io qq) (vV 0) au)) (Di (nW T)<|a1<|vV 0) Yn
theorem amf:Rj P w K mg base 14 "line_about" jC:=by
 refine Ud ["curve", "spot", "line"] T.f41 T.z ?_;intro _ _ _ _ _ _ _ J G O z;refine aP (λ_=>trivial) ?_ ?_;exact dj<|JB 2<|Di (jd T)<|a1<|Di (bW T)<|a2 (Di (dH T)<|a1<|vV 0)<|vV 1
 refine aP (λ_=>trivial) ?_ ?_;exact eZ (Jo agT (vV 2) Yn) (aR<|cZ hh rfl T.xm_Knot T.xq_Knot T.xc_Knot) cG;refine aR ?_;exact dj<|aH<|vV 2
theorem alk:Rj P w K mg base 14 "spot_about" jK:=by
 refine Ud ["curve", "line"] T.f42 T.z ?_;intro _ _ _ _ _ _ _ J G O z;refine aP (λ_=>trivial) ?_ ?_;exact eZ (yM<|lg<|Di (tV T)<|a1<|vV 0) (aR<|cZ hh (by rfl) T.xm_NotRound T.xq_NotRound T.xc_NotRound) cG;refine aR ?_;exact fU<|J7 (jk T)<|a1<|Di (bW T)<|a2 (Di (mH T)<|a1<|Di (dH T)<|a1<|vV 0)<|vV 1
theorem alZ:Fk P w K mg base 15 "another_spot" kY:=by
 refine fk ["line", "spot", "met"] T.f43 T.z ?_;intro _ _ _ _ _ _ _ J G O z;refine aq (uF [0] (i:=2) (by assumption) (by rfl) (by exact Or.inl rfl) hh (cB<|by rfl) qW (qQ<|cB<|by rfl) (bY<|mX (dc0<|akN T) fJ<|cH au) (λ_ _ _ _=>(iH<|Jo (Io qq) (vV 0)<|vV 1))<|λ_ _ _ _=>(Di (amL T)<|a2 (vV 1)<|vV 0)) ?_;exact aD<|aH<|Bl (dl1 [1] (bY<|vV 2) (λ_ _ _ _=>(iH<|Jo (Io qq) (vV 0)<|vV 1))<|λ_ _ _ _=>(vV 0)) au
theorem alJ:Rj P w K mg base 16 "other_end" lG:=by
 refine Ud (k:=15) ["curve", "spot", "line", "table", "another", "own", "shared", "end"] T.f44 T.z ?_;intro _ _ _ _ _ _ _ J G O z;refine aP (λ_=>trivial) ?_ ?_;exact eZ (RD (yM<|lg<|Di (kZ T)<|a2 (vV 0)<|vV 1)<|En<|yM<|lg<|Di (vH T)<|a2 (vV 1)<|vV 2).pt (aR<|cZ hh (by rfl) T.xm_NotOn T.xq_NotOn T.xc_NotOn) cG;refine aP (λ_=>trivial) ?_ ?_;exact dj<|JB 3<|Di (dH T)<|a1<|vV 0
 refine aP (λ_=>trivial) ?_ ?_;exact dj<|JB 4<|Di (alZ T)<|a2 (vV 2)<|vV 1
 refine aP (λ_=>trivial) ?_ ?_;exact dj<|JB 5<|Di (iY T)<|a3 (vV 3) (vV 4)<|vV 4
 refine aP (λ_=>trivial) ?_ ?_;exact dj<|JB 6<|bG bJ au<|Di (iY T)<|a3 (vV 3) (vV 1)<|vV 4
 refine aP (λ_=>trivial) ?_ ?_;exact dj<|JB 7<|Di (jd T)<|a1<|agB [5,6] hh (cB<|by rfl) aen (ade hh<|cB<|by rfl) (V1 (by rfl) (by exact T.z _ (by decide)) (a2 (vV 1)<|vV 4) (aM<|by rfl)<|cC<|by rfl) (λ_ _ _ _=>iw)<|λ_ _ _ _=>(bG oV (bG bJ (vV 2)<|vV 0)<|bG bJ (vV 3)<|vV 1)
 refine aP (λ_=>trivial) ?_ ?_;exact eZ (Jo agT (vV 7) Yn) (aR<|cZ hh (by rfl) T.xm_InCurve T.xq_InCurve T.xc_InCurve) cG;refine aR ?_;exact dj<|aH<|vV 7
theorem ale:Rj P w K mg base 17 "made_by_row" mU:=by
 refine Ud (k:=16) ["row", "things", "told"] T.f45 T.z ?_;intro _ _ _ _ _ _ _ J G O z;refine aP (λ_=>trivial) ?_ ?_;exact dj<|uF [1] (i:=2) (by assumption) (by rfl) (by exact Or.inl rfl) hh (cB<|by rfl) qW (qQ<|cB<|by rfl) (bY<|mX (vV 0) (cH au) fJ) (λ_ _ _ _=>iw)<|λ_ _ _ _=>(Bl (vV 1)<|vV 0)
 refine aP (λ_=>trivial) ?_ ?_;exact eZ (Jo (jr qq) (Bl (vV 0) au) aQ) (aR<|fU<|J7 (Gf T)<|a2 (Bl (vV 2) au)<|Bl (vV 2) au) cG;refine aP (λ_=>trivial) ?_ ?_;exact eZ (Jo (jr qq) (Bl (vV 0) au) aQ) (aR<|fU<|J7 (Ey T)<|a2 (Bl (vV 2) au)<|Bl (vV 2) au) cG;refine aP (λ_=>trivial) ?_ ?_;exact eZ (Jo (jr qq) (Bl (vV 0) au) aQ) (aR<|fU<|J7 (zan T)<|a1<|vV 2) cG;refine aP (λ_=>trivial) ?_ ?_;exact eZ (Jo (jr qq) (Bl (vV 0) au) aQ) (aR<|fU<|J7 (amf T)<|a2 (Bl (vV 2) au)<|Bl (vV 2) au) cG;refine aP (λ_=>trivial) ?_ ?_;exact eZ (Jo (jr qq) (Bl (vV 0) au) aQ) (aR<|fU<|J7 (alk T)<|a2 (Bl (vV 2) au)<|Bl (vV 2) au) cG;refine aR ?_;exact fU<|ail (alJ T)<|GJ (λ_=>trivial) (Bl (vV 2) au) (GJ (λ_=>trivial) (Bl (vV 2) au) (zbM (J7 (Gf T)<|a2 (Bl (vV 2) au)<|Bl (vV 2) au) cT<|aM<|by rfl)<|aM<|by rfl)<|aM<|by rfl
theorem aji:Rj P w K mg base 18 "placed" Eo:=by
 refine Ud (k:=17) ["rows", "spots", "things", "free", "k", "row", "made"] T.f46 T.z ?_;intro _ _ _ _ _ _ _ hr nd hc z;obtain⟨_,_,_,o_made_by_rowX,m_made_by_rowX,k_made_by_rowX,b_made_by_rowX⟩:=ale T;refine aP (λ_=>trivial) ?_ ?_;exact dj<|JB 2<|mW cT
 refine aP (λ_=>trivial) ?_ ?_;exact dj<|JB 3 au
 refine aP (λ_=>trivial) ?_ ?_;exact(ami PassesOwn.leaving hc (λ_=>trivial) (ali (by rfl) (by exact T.z _ (by decide)) (bV (dv 0 (pv 0)) cT (aM (by rfl))) (aM (by rfl)) (cC (by rfl))) (aac hc (EY (Cu (oW (i:=4) nd (by rfl) (by exact Or.inl rfl))) (EY (Cu (oW (i:=5) nd (by rfl) (by exact Or.inl rfl))) akb))) (aR (eZ (U5 (jr (agW hr)) (afv (dv 5 (pv 5)) au (by intro _ _;rfl)) aQ (Qm _)) (aP (λ_=>trivial) (dj (jj (jT (dv 2 (pv 2)) (bV (afv (dv 1 (pv 1)) (dv 3 (pv 3)) (by intro _ _;rfl)) cT (aM (by rfl))) (by rfl) (yK (by rfl)) (by rfl) (aM (by rfl)) (by rfl)))) (aR (dj (Ln (i:=3) nd (by rfl) (by exact Or.inl rfl) (bG bU (dv 3 (pv 3)) au))))) (aP (λ_=>trivial) (ako (by rfl) T.xm_EaselError T.xd_EaselError ⟨rfl,rfl⟩ rfl (λ_=>trivial) (λaor xe σ0=>(aR (wQ (i:=6) nd (by rfl) (by exact Or.inl rfl) (wU (o_made_by_rowX.mono (by decide)) hr (by rfl) (by exact m_made_by_rowX) (by exact k_made_by_rowX) (by exact b_made_by_rowX) (bV (dv 5 (pv 5)) (bV (dv 2 (pv 2)) cT (aM (by rfl))) (aM (by rfl))) (by decide) (aM (by rfl)) (cC (by rfl)))))) (λa H0 xe hn=>by
 have hr:=vY (a:=a) hr (by decide);exact(aR (zas hn (by rfl) (by rfl) T.xm_Stuck T.xi_Stuck T.xf_Stuck ((amM T).mono (by decide)) hr (by exact T.b_Stuck_init) T.xa_Stuck (by rfl) (dv 4 (pv 4)))))) (aR (dj (jj (jT (dv 2 (pv 2)) (bV (dv 6 (pv 6)) cT (aM (by rfl))) (by rfl) (yK (by rfl)) (by rfl) (aM (by rfl)) (by rfl)))))))))
 refine aR ?_;exact dj<|aH<|vV 2
theorem mD:Fk P w K mg base 14 "is_of_kind" pL:=by
 refine fk ["rows", "spots", "first"] T.f47 T.z ?_;intro _ _ _ _ _ _ _ J G O z;exact aq (JB 2<|mX (vV 1) fJ<|cH<|Lz iB R7<|a1<|mX (Di (yL T)<|a1<|vV 0) fJ<|cH au)<|aD<|aH<|afd (ZQ<|Di (o8 T)<|a1<|vV 2)<|afw<|ZQ<|Di (j8 T)<|a2 (vV 2) au
theorem aiZ:Fk P w K mg base 13 "touches" yN:=by
 refine fk ["line", "curve"] T.f48 T.z ?_;intro _ _ _ _ _ _ _ J G O z;exact aD<|aH<|Sx (jr qq) (Di (iY T)<|a3 (Di (mH T)<|a1<|Di (dH T)<|a1<|vV 1) (vV 0)<|vV 0) au
theorem GC:Fk P w K mg base 14 "holds" M4:=by
 refine fk (k:=13) ["rows", "things", "claim", "told"] T.f49 T.z ?_;intro _ _ _ _ _ _ _ J G O z;refine aq (uF [1] (i:=3) (by assumption) (by rfl) (by exact Or.inl rfl) hh (cB<|by rfl) qW (qQ<|cB<|by rfl) (bY<|mX (vV 2) (cH au) fJ) (λ_ _ _ _=>iw)<|λ_ _ _ _=>(Bl (vV 1)<|vV 0)) ?_;refine aq (cX (Jo (jr qq) (Bl (vV 2) au) aQ) (aD<|aH<|Sx (jr qq) (Bl (vV 3) au)<|Bl (vV 3) au) bD) ?_;refine aq (cX (Jo (jr qq) (Bl (vV 2) au) aQ) (aq (cX (Jo (jr qq) (Di (zaC T)<|a2 (vV 0)<|Bl (vV 2) au) aQ) (aD<|aH<|Di (vH T)<|a2 (Bl (vV 3) au)<|Bl (vV 3) au) bD)<|aD<|aH<|Di (kZ T)<|a2 (Bl (vV 3) au)<|Bl (vV 3) au) bD) ?_;refine aq (cX (Jo (jr qq) (Bl (vV 2) au) aQ) (aD<|aH<|Di (uQ T)<|a1<|vV 3) bD) ?_;refine aq (cX (Jo (jr qq) (Bl (vV 2) au) aQ) (aD<|aH<|Di (alE T)<|a1<|vV 3) bD) ?_;refine aq (cX (Jo (jr qq) (Bl (vV 2) au) aQ) (aD<|aH<|Di (aiZ T)<|a2 (Bl (vV 3) au)<|Bl (vV 3) au) bD) ?_;exact aD<|aH<|ZQ<|Di (tV T)<|a1<|Bl (vV 3) au
theorem fj:Fk P w K mg base 10 "_law_cell" wJ:=by
 refine fk (k:=9) ["_law_script", "_law_k"] T.f50 T.z ?_;intro _ _ _ _ _ _ _ J G O z;exact aq (cX (Jo ZK (vV 1)<|Lz iB R7<|a1<|vV 0) (aD<|aH<|Bl (vV 0)<|vV 1) bD)<|aD<|aH au
theorem wI:Fk P w K mg base 10 "_law_bag" Cq:=by
 refine fk ["_law_cell_here"] T.f51 T.z ?_;intro _ _ _ _ _ _ _ J G O z;exact aD<|aH<|mW<|a2 (bG Uz (Lz JQ boot_abs<|a1<|vV 0)<|dct SM boot_int<|a1<|Sx ain (Lz JQ boot_abs<|a1<|vV 0)<|bG af0 au au)<|bG qg (Lz JQ boot_abs<|a1<|vV 0) au
theorem cu:Fk P w K mg base 10 "_law_draw" jV:=by
 refine fk (k:=9) ["_law_bag_here", "_law_many", "_law_found"] T.f52 T.z ?_;intro _ _ _ _ _ _ _ J G O z;refine aq (cX (Jo Z5 (Bl (vV 0) au) au) (aq (JB 2<|bG qg (Bl (vV 0) au)<|vV 1)<|aq (jt (bG vO (Bl (vV 0) au)<|vV 1)<|jE (vV 0) au set_list xW)<|aD<|aH<|vV 2) bD) ?_;refine aq (jt (bG qg (bG bU (bG bJ (Bl (vV 0) au) au) au) au)<|jE (vV 0) au set_list xW) ?_;exact aD<|aH<|bG qg (bG vO (bG qg (bG bJ (Bl (vV 0) au)<|bG bU (bG vO (Bl (vV 0) au) au) au) au) au)<|vV 1
theorem yW:Fk P w K mg base 10 "_law_asks" G9:=by
 refine fk (k:=9) ["_law_word", "_law_asks_here"] T.f53 T.z ?_;intro _ _ _ _ _ _ _ J G O z;refine aq ?_ ?_;with_reducible exact JB 1 (U3 (RW.cons (dY cT) (RW.cons (dY (a2 aQ aQ)) (RW.cons (dY (a2 aQ aQ)) (RW.cons (dY (a2 aQ aQ)) RW.nil)))) (by with_unfolding_all exact List.cons_ne_nil _ _) (by with_unfolding_all exact S6 rfl))
 refine aq (jt (dY<|aC aQ<|aC aQ<|a3 aQ aQ aQ)<|jE (vV 1) aQ set_dict gB) ?_;refine aq (jt (dY<|a2 aQ aQ)<|jE (vV 1) aQ set_dict gB) ?_;refine aq (jt (dY<|a3 aQ aQ aQ)<|jE (vV 1) aQ set_dict gB) ?_;exact aD<|aH<|Uc (vV 1) (vV 0) (by intro _ _;rfl)
theorem lZ:Fk P w K mg base 10 "_law_sort" nR:=by
 refine fk ["_law_row_here"] T.f54 T.z ?_;intro _ _ _ _ _ _ _ J G O z;refine aq (cX (RD (Jo (jr qq) (Bl (vV 0) au) aQ)<|En<|Jo (jr qq) (Bl (vV 0) au) aQ).pt (aD<|aH aQ) bD) ?_;exact aD<|aH<|Bl (dY<|a2 aQ aQ)<|dct SM boot_int<|a1<|Sx (jr qq) (Bl (vV 0) au) aQ
theorem zW:Fk P w K mg base 11 "_law_pick" qz:=by
 refine fk (k:=10) ["_law_bag_here", "_law_rows_here", "_law_sort_here", "_law_numbers"] T.f55 T.z ?_;intro _ _ _ _ _ _ _ J G O z;refine aq (uF [1,2] (i:=3) (by assumption) (by rfl) (by exact Or.inl rfl) hh (cB<|by rfl) qW (qQ<|cB<|by rfl) (Wv<|a1<|Lz iB R7<|a1<|vV 1) (λ_ _ _ _=>(iH<|Jo (jr qq) (Di (lZ T)<|a1<|Bl (vV 1)<|vV 0)<|vV 2))<|λ_ _ _ _=>(vV 0)) ?_;exact aD<|aH<|Bl (vV 3)<|Di (cu T)<|a2 (vV 0)<|Lz iB R7<|a1<|vV 3
theorem zby:Fk P w K mg base 12 "_law_row" Pk:=by
 refine fk (k:=11) ["_law_bag_here", "_law_rows_here", "_law_frees", "_law_sorts", "_law_words", "_law_word", "_law_lacking"] T.f56 T.z ?_;intro _ _ _ _ _ _ _ hr nd hc z;refine aq (JB 3<|RZ [] (bY<|vV 1)<|λ_ _ _ _=>(Di (lZ T)<|a1<|vV 0)) ?_;refine aq ?_ ?_;(refine JB 4 ?_;refine dY ?_;refine aC aQ ?_;refine aC aQ ?_;refine aC aQ ?_;refine aC aQ ?_;refine aC aQ ?_;refine aC aQ ?_;refine aC aQ ?_;exact a3 aQ aQ aQ);refine aq (JB 5<|Bl (vV 4)<|Di (cu T)<|a2 (vV 0) au) ?_;refine aq (uF [3] (i:=6) (by assumption) (by rfl) (by exact Or.inl rfl) hh (cB<|by rfl) qW (qQ<|cB<|by rfl) (bY<|Di (yW T)<|a1<|vV 5) (λ_ _ _ _=>(iH<|Jo (Vz qq) (vV 0)<|vV 1))<|λ_ _ _ _=>(vV 0)) ?_;refine aq (cX (RD (Jo ZK (Lz iB R7<|a1<|vV 1)<|vV 2)<|En<|Jo Z5 (Lz iB R7<|a1<|vV 6) au).pt (aD<|JB 5<|Bl (dY<|a2 aQ aQ)<|dct SM boot_int<|a1<|Sx ZK (Lz iB R7<|a1<|vV 1)<|vV 2) bD) ?_;exact aD<|aH<|dct uc boot_tuple<|a1<|bG bU (dY<|a1<|vV 5)<|RZ [0,1] (bY<|Di (yW T)<|a1<|vV 5)<|λ_ _ _ _=>(Di (zW T)<|a3 (vV 1) (vV 2)<|vV 0)
theorem zY:Fk P w K mg base 10 "_law_divisor" qI:=by
 refine fk (k:=9) ["_law_numbers", "_law_found", "_law_number", "_law_one"] T.f57 T.z ?_;intro _ _ _ _ _ _ _ J G O z;refine aq (JB 1 au) ?_;refine aq (jz T6 hh (bY<|vV 0) (Ui 2)<|aq (JB 3<|Lz JQ boot_abs<|a1<|vV 2)<|aD<|wN T6 (Jo Z5 (vV 3) au)<|aD<|zaX<|acR (i:=1) (j:=3) hh (by assumption) (by rfl) (by rfl) (by decide) (by rfl) (by rfl) (a2 (vV 3)<|bG qg (vV 1)<|vV 3)<|by rfl) ?_;exact aD<|aH<|vV 1
theorem aiU:Fk P w K mg base 11 "_law_plain" yq:=by
 refine fk (k:=10) ["_law_numbers", "_law_by", "_law_last"] T.f58 T.z ?_;intro _ _ _ _ _ _ _ J G O z;refine aq (JB 1<|Di (zY T)<|a1<|vV 0) ?_;refine aq (JB 2<|Bl (dl1 [] (bY<|vV 0) (λ_ _ _ _=>(iH<|Jo (Io qq) (vV 0) au))<|λ_ _ _ _=>(vV 0))<|adT au) ?_;refine aq (cX (Jo ZK (vV 2) au) (aD<|JB 1<|bG oV au<|vV 1) bD) ?_;exact aD<|aH<|dct uc boot_tuple<|a1<|RZ [1] (bY<|vV 0)<|λ_ _ _ _=>(bG vO (vV 0)<|vV 1)
theorem ajI:Fk P w K mg base 12 "_law_spot" Fl:=by
 refine fk (k:=11) ["_law_bag_here", "_law_top", "_law_row_here"] T.f59 T.z ?_;intro _ _ _ _ _ _ _ J G O z;refine aq ?_ ?_;with_reducible exact JB 2 (mW (a3 (bG oV (Di (by with_unfolding_all exact cu T) (a2 (vV 0) au)) au) (bG oV (Di (by with_unfolding_all exact cu T) (a2 (vV 0) au)) au) (Bl (dY (aC au (aC au (aC au (aC au (aC au (a3 au au au))))))) (Di (by with_unfolding_all exact cu T) (a2 (vV 0) au)))))
 refine aq (cX (Jo Z5 (vV 1) au) (aD<|JB 2<|mW<|a3 (bG oV (Di (cu T)<|a2 (vV 0)<|bG bJ au<|vV 1)<|vV 1) (bG oV (Di (cu T)<|a2 (vV 0)<|bG bJ au<|vV 1)<|vV 1)<|Di (cu T)<|a2 (vV 0)<|vV 1) bD) ?_;refine aq (cX (Jo (jr qq) (vV 2)<|dY<|a3 au au au) (aD<|jt au<|jE (vV 2) (Di (cu T)<|a2 (vV 0) au) set_list xW) bD) ?_;exact aD<|aH<|Di (aiU T)<|a1<|vV 2
theorem sH:Fk P w K mg base 10 "_law_weight" uY:=by
 refine fk (k:=9) ["_law_rows_here", "_law_weights", "_law_row_here", "_law_some"] T.f60 T.z ?_;intro _ _ _ _ _ _ _ J G O z;refine aq (uF [1] (i:=3) (by assumption) (by rfl) (by exact Or.inl rfl) hh (cB<|by rfl) qW (qQ<|cB<|by rfl) (bY<|mX (vV 2) (cH au) fJ) (λ_ _ _ _=>iw)<|λ_ _ _ _=>(Bl (vV 1)<|vV 0)) ?_;refine aq (cX (Jo (jr qq) (Bl (vV 2) au) aQ) (aD<|aH au) bD) ?_;refine aq (cX (Jo (jr qq) (Bl (vV 2) au) aQ) (aD<|aH<|bG bJ au<|Lz (adF hh) boot_sum<|a1<|vV 3) bD) ?_;refine aq (cX (Jo (jr qq) (Bl (vV 2) au) aQ) (aD<|aH<|bG bU (bG bJ au<|Bl (vV 3) au)<|Bl (vV 3) au) bD) ?_;refine aq (cX (Jo (jr qq) (Bl (vV 2) au) aQ) (aD<|aH<|bG bU (bG bU (Bl (vV 3) au)<|Bl (vV 3) au)<|bG bJ au<|Bl (vV 3) au) bD) ?_;exact aD<|aH<|Lz (adF hh) boot_sum<|a1<|vV 3
theorem zaU:Fk P w K mg base 13 "_law_rows" Gy:=by
 refine fk (k:=12) ["_law_script", "_law_size", "_law_frees", "_law_most", "_law_rows_here", "_law_weights", "_law_k", "_law_row_here"] T.f61 T.z ?_;intro _ _ _ _ _ _ _ J G O z;refine aq (JB 4<|mW cT) ?_;refine aq (JB 5<|mW cT) ?_;refine aq (jz T6 hh (Wv<|a1<|vV 1) (Ui 6)<|aq (JB 7<|Di (zby T)<|a3 (Di (wI T)<|a1<|Di (fj T)<|a2 (vV 0)<|bG bU au<|vV 6) (vV 4)<|vV 2)<|aq (cX (Jo Z5 (Di (sH T)<|a3 (vV 4) (vV 5)<|vV 7)<|vV 3) (aD<|JB 7<|vQ<|a3 aQ au<|Lz (af2 hh) boot_min<|a2 au<|bG oV (vV 2) au) bD)<|aq (jj<|jT (vV 5) (a1<|Di (sH T)<|a3 (vV 4) (vV 5)<|vV 7) (by rfl) (yK<|by rfl) (by rfl) (aM<|by rfl)<|by rfl)<|aD<|jj<|jT (vV 4) (a1<|vV 7) (by rfl) (yK<|by rfl) (by rfl) (aM<|by rfl)<|by rfl) ?_;exact aD<|aH<|vV 4
theorem aiY:Fk P w K mg base 10 "_law_amid" HD:=by
 refine fk (k:=9) ["_law_rows_here", "_law_frees", "_law_places", "_law_laid", "_law_ahead", "_law_k", "_law_number"] T.f62 T.z ?_;intro _ _ _ _ _ _ _ J G O z;refine aq ?_ ?_;with_reducible exact JB 2 acs
 refine aq (JB 3<|mW cT) ?_;refine aq (JB 4 au) ?_;refine aq (jz T6 hh (rP (by rfl) (by exact T.z _ (by decide))<|a2 (vV 1)<|Lz iB R7<|a1<|vV 0) (Ui 5)<|aq (jz T6 hh (bY<|mX (Bl (vV 0)<|vV 5) (cH au) fJ) (Ui 6)<|aD<|wN T6 (acB (Jo ZK (vV 6)<|vV 1)<|zcb<|Jo ahG (vV 4)<|vV 6).pt (aq (jt (Lz iB R7<|a1<|vV 3)<|jE (vV 2) (vV 4) set_dict gB)<|aq (jj<|jT (vV 3) (a1<|vQ<|a1 aQ) (by rfl) (yK<|by rfl) (by rfl) (aM<|by rfl)<|by rfl)<|aD<|JB 4<|bG bU (vV 4) au))<|aq (jt (Lz iB R7<|a1<|vV 3)<|jE (vV 2) (vV 5) set_dict gB)<|aD<|jj<|jT (vV 3) (a1<|dct uc boot_tuple<|a1<|bG bU (dY<|a1<|Bl (Bl (vV 0)<|vV 5) au)<|RZ [2] (bY<|mX (Bl (vV 0)<|vV 5) (cH au) fJ)<|λ_ _ _ _=>(Uc (vV 1) (vV 0) (by intro _ _;rfl))) (by rfl) (yK<|by rfl) (by rfl) (aM<|by rfl)<|by rfl) ?_;exact aD<|aH<|bG bU (vV 3)<|RZ [] (rP (by rfl) (by exact T.z _ (by decide))<|a2 (vV 4)<|vV 1)<|λ_ _ _ _=>(vQ<|a1 aQ)
theorem zaH:Fk P w K mg base 12 "_law_claim" z9:=by
 refine fk (k:=11) ["_law_bag_here", "_law_rows_here", "_law_sorts", "_law_word", "_law_first", "_law_asks_here"] T.f63 T.z ?_;intro _ _ _ _ _ _ _ hr nd hc z;refine aq (JB 2<|RZ [] (bY<|vV 1)<|λ_ _ _ _=>(Di (lZ T)<|a1<|vV 0)) ?_;refine aq (JB 3<|Bl (dY<|aC aQ<|aC aQ<|aC aQ<|aC aQ<|aC aQ<|a3 aQ aQ aQ)<|Di (cu T)<|a2 (vV 0) au) ?_;refine aq (JB 4<|Bl (vV 2)<|Di (cu T)<|a2 (vV 0)<|Lz iB R7<|a1<|vV 2) ?_;refine aq ?_ ?_;with_reducible exact JB 5 (U3 (RW.cons (dY (a2 (vV 4) (vV 4))) (RW.cons (dY (a3 aQ aQ aQ)) (RW.cons (dY (a3 aQ aQ aQ)) RW.nil))) (by with_unfolding_all exact List.cons_ne_nil _ _) (by with_unfolding_all exact S6 rfl))
 refine aq ?_ ?_;with_reducible exact jt (hs:=by with_unfolding_all rfl) (hw:=by with_unfolding_all rfl) (h1:=by with_unfolding_all rfl) (dY (a2 aQ (Bl (dY (a2 aQ aQ)) (Di (by with_unfolding_all exact cu T) (a2 (vV 0) au))))) (jE (ha:=by with_unfolding_all (intro _;rfl)) (vV 5) aQ set_dict gB)
 refine aq (jt (dY<|a2 aQ aQ)<|jE (vV 5) aQ set_dict gB) ?_;refine aq (jt (dY<|a1 aQ)<|jE (vV 5) aQ set_dict gB) ?_;refine aq (cX (Jo Z5 (Lz iB R7<|a1<|dl1 [2] (bY<|Uc (vV 5) (vV 3) (by intro _ _;rfl)) (λ_ _ _ _=>(iH<|Jo (Vz qq) (vV 0)<|vV 1))<|λ_ _ _ _=>(vV 0)) au) (aD<|JB 3 aQ) bD) ?_;exact aD<|aH<|dct uc boot_tuple<|a1<|bG bU (dY<|a1<|vV 3)<|RZ [0,1] (bY<|Uc (vV 5) (vV 3) (by intro _ _;rfl))<|λ_ _ _ _=>(Di (zW T)<|a3 (vV 1) (vV 2)<|vV 0)
theorem zbA:Fk P w K mg base 14 "_law_map" Ml:=by
 refine fk (k:=13) ["_law_bag_here", "_law_numbers", "_law_found"] T.f64 T.z ?_;intro _ _ _ _ _ _ _ hr nd hc z;obtain⟨_,_,_,o_map_ofX,m_map_ofX,k_map_ofX,b_map_ofX⟩:=zaE T;refine aq (uF [0] (i:=1) (by assumption) (by rfl) (by exact Or.inl rfl) hh (cB<|by rfl) qW (qQ<|cB<|by rfl) (Wv<|a1 au) (λ_ _ _ _=>iw)<|λ_ _ _ _=>(bG oV (Di (cu T)<|a2 (vV 1) au) au)) ?_;refine aq ((zbV (by rfl) T.xm_NoMap T.xd_NoMap (by rfl) T.xm_Nothing T.xd_Nothing ⟨rfl,rfl⟩ rfl (λaor xe σ0=>(aR (wQ (i:=2) nd (by rfl) (by exact Or.inl rfl) (wU (o_map_ofX.mono (by decide)) hr (by rfl) (by exact m_map_ofX) (by exact k_map_ofX) (by exact b_map_ofX) (bV (dv 1 (pv 1)) cT (aM (by rfl))) (by decide) (aM (by rfl)) (cC (by rfl)))))) (λa H0 xe=>by
  have hr:=vY (a:=a) hr (by decide);refine aD ?_;refine Ln (i:=2) nd (by rfl) (by exact Or.inl rfl) ?_;with_reducible exact vQ<|aC au<|aC au<|aC au<|aC au<|aC au<|aC au<|a3 au au au))) ?_
 exact aD<|aH<|vV 2
theorem iz:Fk P w K mg base 19 "_law_placed" vd:=by
 refine fk (k:=18) ["_law_rows_here", "_law_spots", "_law_things", "e"] T.f65 T.z ?_;intro _ _ _ _ _ _ _ hr nd hc z;obtain⟨_,_,_,o_placedX,m_placedX,k_placedX,b_placedX⟩:=aji T;refine aq ((ams (i:=3) nd (by rfl) (by rfl) (by rfl) T.xm_Stuck T.xd_Stuck ⟨rfl,rfl⟩ rfl (λaor xe σ0=>(aR (wQ (i:=2) nd (by rfl) (by exact Or.inl rfl) (wU (o_placedX.mono (by decide)) hr (by rfl) (by exact m_placedX) (by exact k_placedX) (by exact b_placedX) (bV (xP Ls (by rfl) (by exact T.z _ (by decide)) boot_list (bV (dv 0 (pv 0)) cT (aM (by rfl))) (by decide) (by decide) (aM (by rfl)) (cC (by rfl))) (bV (xP Ls (by rfl) (by exact T.z _ (by decide)) boot_list (bV (dv 1 (pv 1)) cT (aM (by rfl))) (by decide) (by decide) (aM (by rfl)) (cC (by rfl))) cT (aM (by rfl))) (aM (by rfl))) (by decide) (aM (by rfl)) (cC (by rfl)))))) (λa H0=>by
  have hr:=vY (a:=a) hr (by decide);exact(aD (aH (acP (dv 3 (pv 3)) (by rfl))))))) ?_
 exact aD<|aH<|vV 2
theorem abU {f:Addr}{fd:Nv}(F:W2 K "law" "law" Wi f fd):jO P w K mg base Q8 20 f fd ["_law_script"] (lift K ZS):=by
 have S:gM ["_law_script", "_law_frees", "_law_most", "_law_size", "_law_rows_here", "_law_bag_here", "_law_spots", "_law_by", "_law_others", "_law_things", "_law_found", "_law_many", "_law_k", "_law_sort_here", "_law_due", "_law_lap", "_law_claim_here"] ["_law_script"] (aX Wi):=⟨rfl,rfl,rfl,by decide +kernel,rfl,by decide +kernel,by decide +kernel⟩
 refine ahl (k:=19) F S λ_ _ _ _ _ _ hr=>?_;have hc:=hr.calm (by decide);have nd:=S.nd;have z:=T.z;refine aq (JB 1<|bG bU au<|bG qg (Di (fj T)<|a2 (vV 0) au) au) ?_;refine aq (JB 2<|bG bU au<|bG Uz au<|dct SM boot_int<|a1<|Sx (jr qq) (bG qg (bG vO (Di (fj T)<|a2 (vV 0) au) au) au) au) ?_;refine aq (JB 3<|Lz (agc hh) boot_max<|a2 (vV 1)<|bG bU au<|bG qg (bG vO (Di (fj T)<|a2 (vV 0) au) au)<|vV 2) ?_;refine aq (JB 4<|Di (zaU T)<|aC (vV 0)<|a3 (vV 3) (vV 1) au) ?_;refine aq (cX (Jo (jr qq) (bG qg (bG vO (Di (fj T)<|a2 (vV 0) au) au) au) au) (aD<|JB 4<|Di (aiY T)<|a2 (vV 4)<|vV 1) bD) ?_;refine aq (JB 5<|Di (wI T)<|a1<|Di (fj T)<|a2 (vV 0) au) ?_;refine aq (uF [5] (i:=6) (by assumption) (by rfl) (by exact Or.inl rfl) hh (cB<|by rfl) qW (qQ<|cB<|by rfl) (Wv<|a1<|vV 1) (λ_ _ _ _=>iw)<|λ_ _ _ _=>(Di (ajI T)<|a2 (vV 1) au)) ?_;refine aq (JB 5<|Di (wI T)<|a1<|Di (fj T)<|a2 (vV 0) au) ?_;refine aq (JB 7<|Di (zbA T)<|a1<|vV 5) ?_;refine aq (uF [7] (i:=8) (by assumption) (by rfl) (by exact Or.inl rfl) hh (cB<|by rfl) qW (qQ<|cB<|by rfl) (bY<|vV 6) (λ_ _ _ _=>iw)<|λ_ _ _ _=>(Di (Uu T)<|a2 (vV 1)<|vV 0)) ?_;refine aq (cX (Jo (Io qq) (Di (mD T)<|a2 (vV 4)<|vV 6)<|Di (mD T)<|a2 (vV 4)<|vV 8) (aD<|aH Vw) bD) ?_;refine aq (JB 9<|Di (iz T)<|a2 (vV 4)<|vV 6) ?_;refine aq (JB 10<|Di (iz T)<|a2 (vV 4)<|vV 8) ?_;refine aq (cX (lg<|Lz aci boot_isinstance<|a2 (vV 9)<|dc (MF (v:=.ty "int") (by rfl) (by exact T.z _ (by decide)) boot_int<|by rfl)<|λ_ _=>by rw[CR]) (aq (cX (Jo (Io qq) (vV 10)<|vV 9) (aD<|aH Vw) bD)<|aq (JB 4<|mX (vV 4) fJ<|cH<|vV 9)<|aq (JB 11<|Lz iB R7<|a1<|dl1 [] (bY<|vV 4) (λ_ _ _ _=>(iH<|Jo (jr qq) (Bl (vV 0) au) aQ))<|λ_ _ _ _=>(vV 0))<|aq (JB 9<|Di (iz T)<|a2 (vV 4)<|mX (vV 6) fJ<|cH<|vV 11)<|aD<|JB 10<|Di (iz T)<|a2 (vV 4)<|mX (vV 8) fJ<|cH<|vV 11) bD) ?_;refine aq (cX (RD (yM<|lg<|Lz aci boot_isinstance<|a2 (vV 10)<|dc (MF (v:=.ty "list") (by rfl) (by exact T.z _ (by decide)) boot_list<|by rfl)<|λ_ _=>by rw[CR])<|En<|Jo (Io qq) (Lz iB R7<|a1<|vV 10)<|Lz iB R7<|a1<|vV 4).pt (aD<|aH Vw) bD) ?_;refine aq (jz T6 hh (Wv<|a1<|Lz iB R7<|a1<|vV 4) (Ui 12)<|aq (JB 13<|Di (lZ T)<|a1<|Bl (vV 4)<|vV 12)<|aq (JB 14<|agL (Jo (jr qq) (vV 13) aQ) (Di (aiN T)<|a2 (vV 7)<|Bl (vV 9)<|vV 12)<|Di (Uu T)<|a2 (vV 7)<|Bl (vV 9)<|vV 12)<|aq (cX (Jo (jr qq) (vV 13) aQ) (aD<|JB 14<|Di (zaj T)<|a2 (vV 7)<|Bl (vV 9)<|vV 12) bD)<|aD<|cX (Jo (Io qq) (Bl (vV 10)<|vV 12)<|vV 14) (aD<|aH Vw) bD) ?_;refine aq (jz T6 hh (Wv<|a1 au) (Ui 15)<|aq (JB 16<|Di (zaH T)<|a2 (vV 5)<|vV 4)<|aD<|cX (Jo (Io qq) (Di (GC T)<|a3 (vV 4) (vV 9)<|vV 16)<|Di (GC T)<|a3 (vV 4) (vV 10)<|vV 16) (aD<|aH Vw) bD) ?_;exact aD<|aH Vw
end
variable {mg:Str->Option JI}{K:BW}
noncomputable def fO (x:Str)(s:Stmt)(J:JI)(od:Option Addr)(kV dc G:JI)(U:Option Addr)(O ct:JI)(sl:Array (Option JI)):Option Obj:=Dn ⟨J,od,.func (Xi x x (lK s) (dJ s) (aX s) .none kV dc G U O ct),sl⟩
noncomputable def sR (f:Addr):Option (Option JI):=Dn (Dn (.ref f))
noncomputable def alz (x q:Str)(s:Stmt)(J:JI)(od:Option Addr)(kV dc G:JI)(U:Option Addr)(O ct:JI)(sl:Array (Option JI)):Option Obj:=Dn ⟨J,od,.func (Xi x q (lK s) (dJ s) (aX s) .none kV dc G U O ct),sl⟩
noncomputable def cN (K:BW)(x:Str)(s:Stmt):Prop:=∃f O od kV dc J U G ct sl,Lw K KC x=sR f/\K.lookup f=fO x s O od kV dc J U G ct sl/\Z6 K G x=true/\Ry K (.ref f)=true
variable {x:Str}
theorem J8 {s f O}{od kV dc J}{U G ct}{sl}(a:Lw K KC x=sR f)(l:K.lookup f=fO x s O od kV dc J U G ct sl)(c:Z6 K G x=true)(k:Ry K (.ref f)=true):cN K x s:=⟨f,O,od,kV,dc,J,U,G,ct,sl,a,l,c,k⟩
theorem nl0 {us:List JI}(h:us.length=0):us=[]:=ur h
theorem nl1 {us:List JI}(h:us.length=1):∃a,us=[a]:=match us,h with
 | [a],_=>⟨a,rfl⟩
theorem nl2 {us:List JI}(h:us.length=2):∃a b,us=[a,b]:=match us,h with
 | [a,b],_=>⟨a,b,rfl⟩
theorem nl3 {us:List JI}(h:us.length=3):∃a b c,us=[a,b,c]:=match us,h with
 | [a,b,c],_=>⟨a,b,c,rfl⟩
theorem nl4 {us:List JI}(h:us.length=4):∃a b c d,us=[a,b,c,d]:=match us,h with
 | [a,b,c,d],_=>⟨a,b,c,d,rfl⟩
theorem bB {h}{st}{ps}(X:K.In h)(G:h.Ns KC mg)(H:cN K x st)(hb:∀kV doc pm  (an) (cdv ct) (us),us.length=ps.length->bindArgs (Xi x x (lK st) (dJ st) (aX st) .none kV doc pm an cdv ct) ⟨us,[]⟩=pure (ps.zip us):=by intro _ _ _ _ _ _ us hl;first|(obtain rfl:=nl0 hl;rfl)|(obtain⟨_,rfl⟩:=nl1 hl;rfl)|(obtain⟨_,_,rfl⟩:=nl2 hl;rfl)|(obtain⟨_,_,_,rfl⟩:=nl3 hl;rfl)|(obtain⟨_,_,_,_,rfl⟩:=nl4 hl;rfl)):At K mg x st ps:=by
 obtain⟨f,oc,od,kV,dc,pm,an,cd,ct,sl,a,l,c,k⟩:=H;exact⟨f,_,Hi (st:=st) l c k,SN X G a,(Hi (st:=st) l c k).binds hb⟩
theorem zc {n}{l}(a:mg n=Go)(b:∀m∈l,mg m=Go):∀m∈n::l,mg m=Go:=by simp_all
theorem all_mk {l:PySem.W.OpenLaw}{w:IV}{h:Heap}{fa:Addr}(hlaw:∀ns:List Int,ns.length<=63->ZS [.kls (ns.map W.int)] g0 (λw _=>w=.bl true) EF)(X:K.In h)(G:h.Ns KC mg)(hfa:mg "law" = Dn (.ref fa))
  (h0:cN K "divisor_of_two" (top 12))
  (h1:cN K "divisor" (top 13))
  (h2:cN K "ends_below" (top 14))
  (h3:cN K "plain" (top 15))
  (h4:cN K "dot" (top 17))
  (h5:cN K "cross" (top 18))
  (h6:cN K "turn" (top 19))
  (h7:cN K "lies_on" (top 20))
  (h8:cN K "share_one" (top 21))
  (h9:cN K "on_line" (top 22))
  (h10:cN K "through_spot" (top 23))
  (h11:cN K "plain_cross" (top 24))
  (h12:cN K "join" (top 25))
  (h13:cN K "meet" (top 26))
  (h14:cN K "rising" (top 28))
  (h15:cN K "picked" (top 29))
  (h16:cN K "has_alike" (top 30))
  (h17:cN K "has_on_line" (top 31))
  (h18:cN K "rows_of" (top 34))
  (h19:cN K "size_of" (top 35))
  (h20:cN K "map_of" (top 36))
  (h21:cN K "table_times_row" (top 37))
  (h22:cN K "flipped" (top 38))
  (h23:cN K "table_times_table" (top 39))
  (h24:cN K "turned" (top 40))
  (h25:cN K "led" (top 41))
  (h26:cN K "led_line" (top 42))
  (h27:cN K "back" (top 43))
  (h28:cN K "tiles" (top 44))
  (h29:cN K "worth" (top 46))
  (h30:cN K "is_on_curve" (top 47))
  (h31:cN K "together" (top 48))
  (h32:cN K "table_of" (top 49))
  (h33:cN K "both_sides" (top 50))
  (h34:cN K "is_round" (top 51))
  (h35:cN K "mixed" (top 52))
  (h36:cN K "through" (top 53))
  (h37:cN K "carried" (top 54))
  (h38:cN K "sort_of" (top 57))
  (h39:cN K "free_rows" (top 58))
  (h40:cN K "plain_or_none" (top 60))
  (h41:cN K "line_about" (top 61))
  (h42:cN K "spot_about" (top 62))
  (h43:cN K "another_spot" (top 63))
  (h44:cN K "other_end" (top 64))
  (h45:cN K "made_by_row" (top 66))
  (h46:cN K "placed" (top 67))
  (h47:cN K "is_of_kind" (top 68))
  (h48:cN K "touches" (top 70))
  (h49:cN K "holds" (top 71))
  (h50:cN K "_law_cell" (top 73))
  (h51:cN K "_law_bag" (top 74))
  (h52:cN K "_law_draw" (top 75))
  (h53:cN K "_law_asks" (top 76))
  (h54:cN K "_law_sort" (top 77))
  (h55:cN K "_law_pick" (top 78))
  (h56:cN K "_law_row" (top 79))
  (h57:cN K "_law_divisor" (top 80))
  (h58:cN K "_law_plain" (top 81))
  (h59:cN K "_law_spot" (top 82))
  (h60:cN K "_law_weight" (top 83))
  (h61:cN K "_law_rows" (top 84))
  (h62:cN K "_law_amid" (top 85))
  (h63:cN K "_law_claim" (top 86))
  (h64:cN K "_law_map" (top 87))
  (h65:cN K "_law_placed" (top 88))
  (h66:cN K "law" (top 89))
  (z_abs:Lw K KC "abs" = Dn Go)
  (z_all:Lw K KC "all" = Dn Go)
  (z_any:Lw K KC "any" = Dn Go)
  (E:Lw K KC "enumerate" = Dn Go)
  (z_int:Lw K KC "int" = Dn Go)
  (C:Lw K KC "isinstance" = Dn Go)
  (z_len:Lw K KC "len" = Dn Go)
  (z_list:Lw K KC "list" = Dn Go)
  (z_max:Lw K KC "max" = Dn Go)
  (z_min:Lw K KC "min" = Dn Go)
  (z_range:Lw K KC "range" = Dn Go)
  (z_reversed:Lw K KC "reversed" = Dn Go)
  (z_set:Lw K KC "set" = Dn Go)
  (z_sum:Lw K KC "sum" = Dn Go)
  (z_tuple:Lw K KC "tuple" = Dn Go)
  (z_zip:Lw K KC "zip" = Dn Go)
  {pA:Addr}{nk_MADE:Nat}{t_MADE_0:_}{qk_MADE_0:_}{t_MADE_1:_}{qk_MADE_1:_}{t_MADE_2:_}{qk_MADE_2:_}{t_MADE_3:_}{qk_MADE_3:_}{t_MADE_4:_}{qk_MADE_4:_}{t_MADE_5:_}{qk_MADE_5:_}{t_MADE_6:_}{qk_MADE_6:_}
  (gk_MADE:Lw K KC "MADE" = Dn (Dn (.ref pA))) (sk_MADE:(pA==WL)=false)
  (lk_MADE:K.lookup pA=Dn ⟨.type "dict",Go,.dict #[⟨Y7 w.params "free",.str "free" qk_MADE_0,(.str "spot" t_MADE_0)⟩,⟨Y7 w.params "join",.str "join" qk_MADE_1,(.str "line" t_MADE_1)⟩,⟨Y7 w.params "meet",.str "meet" qk_MADE_2,(.str "spot" t_MADE_2)⟩,⟨Y7 w.params "curve",.str "curve" qk_MADE_3,(.str "curve" t_MADE_3)⟩,⟨Y7 w.params "about",.str "about" qk_MADE_4,(.str "line" t_MADE_4)⟩,⟨Y7 w.params "pole",.str "pole" qk_MADE_5,(.str "spot" t_MADE_5)⟩,⟨Y7 w.params "other",.str "other" qk_MADE_6,(.str "spot" t_MADE_6)⟩] nk_MADE,#[]⟩)
  {rC:Addr}{slk_TILES:Array (Option JI)}{nk_TILES:Nat}{y:Addr}{slk_TILES_0:Array (Option JI)}{nk_TILES_0:Nat}{t_TILES_0_0:_}{t_TILES_0_1:_}{t_TILES_0_2:_}{x:Addr}{slk_TILES_1:Array (Option JI)}{nk_TILES_1:Nat}{Z:_}{V:_}{S:_}{u:Addr}{slk_TILES_2:Array (Option JI)}{nk_TILES_2:Nat}{R:_}{Q:_}{P:_}{t:Addr}{slk_TILES_3:Array (Option JI)}{nk_TILES_3:Nat}{N:_}{M:_}{L:_}
  (gk_TILES:Lw K KC "TILES" = Dn (Dn (.ref rC)))
  (lk_TILES:K.lookup rC=Dn ⟨.type "tuple",Go,.seq #[(.ref y),(.ref x),(.ref u),(.ref t)] nk_TILES,slk_TILES⟩)
  (lk_TILES_0:K.lookup y=Dn ⟨.type "tuple",Go,.seq #[(.int 1 t_TILES_0_0),(.int 0 t_TILES_0_1),(.int 0 t_TILES_0_2)] nk_TILES_0,slk_TILES_0⟩)
  (lk_TILES_1:K.lookup x=Dn ⟨.type "tuple",Go,.seq #[(.int 0 Z),(.int 1 V),(.int 0 S)] nk_TILES_1,slk_TILES_1⟩)
  (lk_TILES_2:K.lookup u=Dn ⟨.type "tuple",Go,.seq #[(.int 0 R),(.int 0 Q),(.int 1 P)] nk_TILES_2,slk_TILES_2⟩)
  (lk_TILES_3:K.lookup t=Dn ⟨.type "tuple",Go,.seq #[(.int 1 N),(.int 1 M),(.int 1 L)] nk_TILES_3,slk_TILES_3⟩)
  {g:Addr}
  {b:Addr}
  {m:Addr}
  {j:Addr}
  {Y:Addr}
  {J:Addr}
  {n:Addr}
  {O:Addr}
  {i:Addr}
  {d:Addr}
  {U:Addr}{odi_Stuck ani_Stuck:Option Addr}{sli_Stuck:Array (Option JI)}{oci_Stuck kVi_Stuck dci_Stuck pmi_Stuck B cti_Stuck:JI}
  (A:Lw K KC "EaselError" = sR g) (q:iy K g "EaselError" = true)
  (gx_Nothing:Lw K KC "Nothing" = sR b) (xd_Nothing:iy K b "Nothing" = true)
  (xc_Nothing:jm K b "Nothing" = true) (xq_Nothing:R6 K b O8 "ValueError.__new__" = true)
  (gx_Alike:Lw K KC "Alike" = sR m) (xd_Alike:iy K m "Alike" = true)
  (xc_Alike:jm K m "Alike" = true) (xq_Alike:R6 K m O8 "ValueError.__new__" = true)
  (gx_NoMap:Lw K KC "NoMap" = sR j) (xd_NoMap:iy K j "NoMap" = true)
  (xc_NoMap:jm K j "NoMap" = true) (xq_NoMap:R6 K j O8 "ValueError.__new__" = true)
  (gx_Stuck:Lw K KC "Stuck" = sR Y) (xd_Stuck:iy K Y "Stuck" = true)
  (z:Lw K KC "FourOnLine" = sR J) (p:iy K J "FourOnLine" = true)
  (r:jm K J "FourOnLine" = true) (o:R6 K J O8 "ValueError.__new__" = true)
  (gx_Knot:Lw K KC "Knot" = sR n) (xd_Knot:iy K n "Knot" = true)
  (xc_Knot:jm K n "Knot" = true) (xq_Knot:R6 K n O8 "ValueError.__new__" = true)
  (gx_NotRound:Lw K KC "NotRound" = sR O) (H:iy K O "NotRound" = true)
  (I:jm K O "NotRound" = true) (F:R6 K O O8 "ValueError.__new__" = true)
  (gx_NotOn:Lw K KC "NotOn" = sR i) (xd_NotOn:iy K i "NotOn" = true)
  (xc_NotOn:jm K i "NotOn" = true) (xq_NotOn:R6 K i O8 "ValueError.__new__" = true)
  (gx_InCurve:Lw K KC "InCurve" = sR d) (xd_InCurve:iy K d "InCurve" = true)
  (xc_InCurve:jm K d "InCurve" = true) (xq_InCurve:R6 K d O8 "ValueError.__new__" = true)
  (ai_Stuck:R8 K (.ref Y) "__init__" = sR U) (li_Stuck:K.lookup U=alz "__init__" "Stuck.__init__" gC oci_Stuck odi_Stuck kVi_Stuck dci_Stuck pmi_Stuck ani_Stuck B cti_Stuck sli_Stuck) (ci_Stuck:Z6 K B "Stuck.__init__" = true) (ki_Stuck:Ry K (.ref U)=true)
  (xi_Stuck:Im K Y U O8 "ValueError.__new__" = true) (xf_Stuck:Yz K (.ref U)=true) (xa_Stuck:Zm K Y "Stuck" = true) (xs_Stuck:aex K Y "at" = true)
  : ∃fd:Nv,(∀(s:Ab) (v:JI),BindsTo s fd ⟨[v],[]⟩ [("_law_script",v)])/\∀base:Heap,K.In base->base.Ns KC mg->jO l.prog w K mg base Q8 20 fa fd ["_law_script"] (YJ K):=by
 have D:=Hi (st:=gC) li_Stuck ci_Stuck ki_Stuck;have bi_Stuck:=D.binds (ps:=["self", "at"]) λ_ _ _ _ _ _ us hl=>match us,hl with|[_,_],_=>rfl
 have T:∀base,Txt l.prog w K mg base ⟨g,b,m,j,Y,J,n,O,i,d,U,_⟩:=λ_=>⟨bB X G h0,bB X G h1,bB X G h2,bB X G h3,bB X G h4,bB X G h5,bB X G h6,bB X G h7,bB X G h8,bB X G h9,bB X G h10,bB X G h11,bB X G h12,bB X G h13,bB X G h14,bB X G h15,bB X G h16,bB X G h17,bB X G h18,bB X G h19,bB X G h20,bB X G h21,bB X G h22,bB X G h23,bB X G h24,bB X G h25,bB X G h26,bB X G h27,bB X G h28,bB X G h29,bB X G h30,bB X G h31,bB X G h32,bB X G h33,bB X G h34,bB X G h35,bB X G h36,bB X G h37,bB X G h38,bB X G h39,bB X G h40,bB X G h41,bB X G h42,bB X G h43,bB X G h44,bB X G h45,bB X G h46,bB X G h47,bB X G h48,bB X G h49,bB X G h50,bB X G h51,bB X G h52,bB X G h53,bB X G h54,bB X G h55,bB X G h56,bB X G h57,bB X G h58,bB X G h59,bB X G h60,bB X G h61,bB X G h62,bB X G h63,bB X G h64,bB X G h65,zc (Rz X G z_abs) (zc (Rz X G z_all) (zc (Rz X G z_any) (zc (Rz X G E) (zc (Rz X G z_int) (zc (Rz X G C) (zc (Rz X G z_len) (zc (Rz X G z_list) (zc (Rz X G z_max) (zc (Rz X G z_min) (zc (Rz X G z_range) (zc (Rz X G z_reversed) (zc (Rz X G z_set) (zc (Rz X G z_sum) (zc (Rz X G z_tuple) (zc (Rz X G z_zip) (λ_ h=>nomatch h)))))))))))))))),⟨_,SN X G gk_TILES,λ_ _=>((nF lk_TILES (by simp<;>decide) (.cons aeO (.cons aeO (.cons aeO (.cons aeO .nil)))) λ_ _=>(jZ ((nF lk_TILES_0 (by simp<;>decide) (.cons J2 (.cons J2 (.cons J2 .nil))) λ_ _=>(jZ J1 (jZ J1 (jZ J1 Kz)))) _ _) (jZ ((nF lk_TILES_1 (by simp<;>decide) (.cons J2 (.cons J2 (.cons J2 .nil))) λ_ _=>(jZ J1 (jZ J1 (jZ J1 Kz)))) _ _) (jZ ((nF lk_TILES_2 (by simp<;>decide) (.cons J2 (.cons J2 (.cons J2 .nil))) λ_ _=>(jZ J1 (jZ J1 (jZ J1 Kz)))) _ _) (jZ ((nF lk_TILES_3 (by simp<;>decide) (.cons J2 (.cons J2 (.cons J2 .nil))) λ_ _=>(jZ J1 (jZ J1 (jZ J1 Kz)))) _ _) Kz))))) _ _)⟩,⟨_,SN X G gk_MADE,⟨sk_MADE,by decide +kernel,by decide,_,_,lk_MADE,(DW.cons WW (λ_ _=>ZM) (DW.cons WW (λ_ _=>ZM) (DW.cons WW (λ_ _=>ZM) (DW.cons WW (λ_ _=>ZM) (DW.cons WW (λ_ _=>ZM) (DW.cons WW (λ_ _=>ZM) (DW.cons WW (λ_ _=>ZM) DW.nil)))))))⟩⟩,SN X G A,q,SN X G gx_Nothing,xd_Nothing,xc_Nothing,xq_Nothing,SN X G gx_Alike,xd_Alike,xc_Alike,xq_Alike,SN X G gx_NoMap,xd_NoMap,xc_NoMap,xq_NoMap,SN X G gx_Stuck,xd_Stuck,SN X G z,p,r,o,SN X G gx_Knot,xd_Knot,xc_Knot,xq_Knot,SN X G gx_NotRound,H,I,F,SN X G gx_NotOn,xd_NotOn,xc_NotOn,xq_NotOn,SN X G gx_InCurve,xd_InCurve,xc_InCurve,xq_InCurve,D,bi_Stuck,xi_Stuck,xf_Stuck,xa_Stuck,xs_Stuck⟩
 obtain⟨f,oc,od,kV,dc,pm,an,cd,ct,sl,a,l,c,k⟩:=h66;have e:=hfa.symm.trans (SN X G a);cases e;exact⟨_,λs v=>.of_eq rfl,λbase _ _=>zcf hlaw<|abU (T base)<|Hi (st:=Wi) l c k⟩
variable {XP:(Str->Option JI)->Heap->Prop}
theorem walk {l:PySem.W.OpenLaw}{q}{loose}{YP d}{K:Params->BW}(U:l.most=Dn 63)(G:d.params.defaults=[])
  (Y:∀w  (h),YP w h->(K w.params).In h)
  (F:∀w  (mg) (J) (h),(K w.params).In h->h.Ns KC mg->mg d.name=Dn (.ref J) ->
   ∃fd,(∀s u,BindsTo s fd ⟨[u],[]⟩ [("_law_script",u)])/\∀base,(K w.params).In base->base.Ns KC mg->jO l.prog w (K w.params) mg base Q8 20 J fd ["_law_script"] (YJ (K w.params))) :
  PySem.W.WalkO q loose XP YP l.row.toRowW d [] (λf O=>PySem.call f O):=
 L2.Qu U (by decide) G ⟨λ_=>rfl,by decide,by decide⟩ Y F (λ_ _ a ns hl c b=>⟨a,ns,rfl,b,c,hl,λ_=>rfl⟩) λ_ _ _ _ _ z=>z
local macro_rules | `(tactic| trivial) => `(tactic| with_reducible exact Sm.lit (by decide))
local macro_rules | `(tactic| trivial) => `(tactic| with_reducible exact Sm.zero)
local macro_rules | `(tactic| trivial) => `(tactic| with_reducible exact Sm.neg (by trivial))
local macro_rules | `(tactic| trivial) => `(tactic| with_reducible exact Sm.sub (by trivial) (by trivial))
local macro_rules | `(tactic| trivial) => `(tactic| with_reducible exact Sm.add (by trivial) (by trivial))
local macro_rules | `(tactic| trivial) => `(tactic| with_reducible exact Sm.mul (by trivial) (by trivial))
local macro_rules | `(tactic| trivial) => `(tactic| with_reducible assumption)
theorem jL (h:Gh)(n)(c):(h.set n c).c n=Dn c:=by show(if n=n then Dn c else h.c n)=Dn c;rw[if_pos rfl]
variable {h:Gh}{m n:Nat}
theorem gk {c:Cell}(e:m≠n):(h.set n c).c m=h.c m:=by show(if m=n then Dn c else h.c m)=_;rw[if_neg e]
theorem yp (h:Gh)(c):(h.new c).c h.nx=Dn c:=by show(if _=h.nx then Dn c else h.c _)=Dn c;rw[if_pos rfl]
theorem sS {c}(e:m≠h.nx):(h.new c).c m=h.c m:=by show(if m=h.nx then Dn c else h.c m)=_;rw[if_neg e]
variable {ws:List W}
theorem jP (e:h.c n=Dn (.lst ws)):view h (.loc n)=Dn ws:=by simp[view,d9,e]
noncomputable def Tv (n:Nat)(h h':Gh):Prop:=h'.nx=h.nx/\∀m,m≠n->h'.c m=h.c m
theorem Tv.set {n:Nat}{h:Gh}{c:Cell}:Tv n h (h.set n c):=⟨rfl,λ_ e=>gk e⟩
theorem iI {a b:Int}(h:0<b):a.fmod b=a % b:=by lia
theorem GD {a b:Int}(h:0<b):a.fdiv b=a / b:=by lia
theorem Sg {A B c}(e:c=true)(h:A):K8 c A B:=by subst e;exact h
theorem acq {A B c}(e:c=false)(h:B):K8 c A B:=by subst e;exact h
theorem abW {c}[Decidable c]{A B}(h1:c->A)(h2:¬c->B):K8 (decide c) A B:=by
 by_cases h:c
 rw[decide_eq_true h];exact h1 h;rw[decide_eq_false h];exact h2 h
variable {g:MG}{D:bI}
theorem jF {U b}(I:Nat->Sw->Gh->Prop)
  (G:∀i w  (σ) (h) (N),(∀σ' h',I (i+1) σ' h'->N σ' h')->ws[i]?=Dn w->I i σ h->g w σ h fun O h1=>b {D with nx:=N,ct:=N,bk:=D.nx} O h1)
  (J:∀σ h,I ws.length σ h->D.nx σ h):∀{σ h},I 0 σ h->fW ⟨U,Go⟩ g b D ws σ h:=by
 induction ws generalizing I with
 | nil=>intro σ h Y;exact J σ h Y
 | cons w ws a=>
  intro σ h Y;exact G 0 w σ h _ (fun σ' h' q=>(a _ (λi w σ h N c e hi=>G (i+1) w σ h N c (by simpa using e) hi) (fun σ h q=>J σ h q) q)) rfl Y
variable {ix:List Nat}{te:ME}{tt:MT}{σ:Sw}{own:W->Option (List W)}{Q:WK}
theorem cU {Y}(I:Nat->List W->Gh->Prop)
  (G:∀i w  (acc) (h) (N:List W->Gh->Prop),(∀J h',I (i+1) J h'->N J h')->ws[i]?=Dn w->I i acc h ->
   ∃O,own w=Dn O/\tt (O.map Dn++uq ix σ) h λc h1=>K8 c (te (O.map Dn++uq ix σ) h1 λv h2=>N (acc++[v]) h2) (N acc h1))
  (U:∀acc h,I ws.length acc h->Q (.lst acc) h):∀{acc h},I 0 acc h->zL ⟨Y,Go⟩ own ix tt te σ Q ws acc h:=by
 induction ws generalizing I with
 | nil=>intro acc h a;exact U acc h a
 | cons w ws b=>
  intro acc h a;obtain⟨O,f,q⟩:=G 0 w acc h _ (λacc' h' q=>b _ (λi w acc h N d e hi=>G (i+1) w acc h N d (by simpa using e) hi) (λacc h q=>U acc h q) q) rfl a;show(match own w with
   | some O=>_
   | none=>False)
  rwa[f]
variable {i:Nat}{w:W}
theorem aki {lo}(e:(Bc lo n)[i]?=Dn w):i<n/\w=.int (lo+(i)):=by
 have hi:=by
  have:=(Oi.mp e).1
  simpa[Bc]using this
 unfold Bc at e
 simp_all
theorem HX {lo:Int}:(Bc lo n).length=n:=by simp[Bc]
variable {k:Int}{ns:List Int}
theorem ajy (h0:0<=k)(h1:k<((ns.map W.int).length:Int)):OD (ns.map W.int) k=Dn (.int (ns.getD k.toNat 0)):=by
 have e:(ns.map W.int)[k.toNat]?=Dn (.int (ns.getD k.toNat 0)):=by
  simp_all
 have:=bM e
 rwa[show((k.toNat:Nat):Int)=k by lia]at this
noncomputable def gF (f n:Int):Int:=((T3 n f:Nat):Int)
noncomputable def gL (ns:List Int):Int:=ns.foldl gF 0
theorem Oo (ns)(n):gL (ns++[n])=gF (gL ns) n:=by unfold gL;rw[List.foldl_append];rfl
theorem abB (f n:Int):0<=gF f n:=Int.natCast_nonneg _
theorem adX (ns):0<=gL ns:=by
 rcases List.eq_nil_or_concat ns with rfl|⟨l,a,rfl⟩
 exact Int.le_refl _;rw[List.concat_eq_append,Oo];exact abB _ _
theorem FT {x y}(J:0<=x)(G:0<y):T3 y (x.fmod y)=T3 x y/\0<=x.fmod y/\x.fmod y<y:=by
 rw[Int.fmod_eq_emod_of_nonneg x (Int.le_of_lt G)];refine⟨?_,Ys _<|by lia,ZX _ G⟩;obtain⟨m,rfl⟩:=oJ J;obtain⟨n,rfl⟩:=oJ (Int.le_of_lt G);rw[<-Int.natCast_emod,Int.gcd_natCast_natCast,Int.gcd_natCast_natCast,Nat.gcd_comm m n,Nat.gcd_rec n m,Nat.gcd_comm]
theorem Ka (a):0<=(if a<0 then -a else a):=by lia
theorem abs_eq (a):(if a<0 then -a else a)=(a.natAbs:Int):=by lia
theorem zbP (a b):T3 (if a<0 then -a else a) (if b<0 then -b else b)=T3 a b:=by
 rw[abs_eq,abs_eq];simp[T3]
theorem qL {x:Int}(h:0<=x):((T3 x 0:Nat):Int)=x:=by
 rw[Int.gcd_zero_right];lia
noncomputable def acF (c:AP):Prop:=∀{h:Gh}{a b:Int}{Q:WK}{E:Bm},Q (.int (gF b a)) h->c [.int a,.int b] h Q E
theorem ad4:acF iZ:=by
 intro h a b Q E q;refine⟨λm σ h'=>h'=h/\∃x y r,σ=[Dn<|.int x,Dn<|.int y,r]/\0<=x/\0<=y/\T3 x y=T3 a b/\m=y.toNat,⟨_,rfl,_,_,Go,rfl,Ka a,Ka b,zbP a b,rfl⟩,?_⟩;rintro m σ h' ⟨rfl,x,y,r,rfl,G,O,J,rfl⟩;refine⟨λe=>?_,λe=>?_⟩;have U:=by simpa[Jf]using e
 obtain⟨c,Y,d⟩:=FT G (by lia:0<y);refine⟨U,(x.fmod y).toNat,by lia,rfl,y,x.fmod y,_,rfl,O,Y,c.trans J,rfl⟩;cases by simpa[Jf]using e
 have:gF b a=x:=by unfold gF;rw[<-J];exact qL G
 rwa[this]at q
noncomputable def Ints (w:W)(ns:List Int):Prop:=w=.lst (ns.map .int)\/w=.tup (ns.map .int)
noncomputable def rY (c:AP):Prop:=∀{h:Gh}{w:W}{ns:List Int}{Q:WK}{E:Bm},Ints w ns->Q (.int (gL ns)) h->c [w] h Q E
theorem ints_get (e:(ns.map W.int)[i]?=Dn w):∃n,ns[i]?=Dn n/\w=.int n:=by
 rw[Ju]at e;grind
theorem Ng {n:Int}(e:ns[i]?=Dn n):gL (ns.take (i+1))=gF (gL (ns.take i)) n:=by
 rw[Nj,e,<-Oo];rfl
theorem yD {tw}(ht:acF tw):rY (yx tw):=by
 intro h w ns Q E U q;have G:fW ⟨ns.map .int,Go⟩ (kI 2) (bF (aF tw E (aj (ao 2) (aj (ao 1) aG))) (kI 1)) {nx:=tH tw E {nx:=λ_ h'=>Q .non h',rt:=λw h'=>Q w h'},rt:=λw h'=>Q w h'} (ns.map .int) [Dn w,Dn (.int 0),Go] h:=by
  refine jF (λi σ h'=>h'=h/\∃o,σ=[Dn w,Dn<|.int<|gL<|ns.take i,o]) ?_ ?_ ⟨rfl,Go,rfl⟩;rintro i x σ h' N Y e ⟨rfl,o,rfl⟩;obtain⟨n,a,rfl⟩:=ints_get e;refine ht<|Y _ _ ⟨rfl,Dn<|.int n,?_⟩
  rw[Ng a];rfl;rintro σ h' ⟨rfl,o,rfl⟩
  rwa[Ik,QG]
 rcases U with rfl|rfl<;>exact G
theorem abO (f n k)(G:0<=f):gF (f*(k.natAbs:Int)) (n*k)=gF f n*(k.natAbs:Int):=by
 unfold gF;congr 1
 unfold T3;rw[Int.natAbs_mul,Int.natAbs_mul,Int.natAbs_natCast,Nat.gcd_mul_right]
theorem Kv (k)(ns):gL (ns.map (· * k))=gL ns*(k.natAbs:Int):=by
 have:∀(ns:List Int) (f:Int),0<=f->(ns.map (· * k)).foldl gF (f*(k.natAbs:Int))=ns.foldl gF f*(k.natAbs:Int):=by
  intro ns;induction ns with
  | nil=>intro f _;rfl
  | cons n ns G=>intro f J;rw[Od,Zb,abO f n k J];exact G _ (abB _ _)
 have h:=this ns 0 (Int.le_refl _)
 rwa[ZR]at h
theorem agz {f n}(J:Sm m f)(G:Sm m n):Sm m (gF f n):=by
 unfold gF Sm at *;unfold T3;by_cases e:n.natAbs=0
 simp_all
 exact Yw (Nat.gcd_le_left _<|Nat.pos_of_ne_zero e) G
theorem ab6 (h:∀n∈ns,Sm m n):Sm m (gL ns):=by
 have:∀(ns:List Int) (f:Int),Sm m f->(∀n∈ns,Sm m n)->Sm m (ns.foldl gF f):=by
  intro ns;induction ns with
  | nil=>intro f G _;exact G
  | cons n ns J=>intro f G h;exact J _ (agz G (h n (by simp))) λx O=>h x (by simp[O])
 exact this ns 0 Sm.zero h
noncomputable def lD:List Int->Int
 | []=>0
 | n::ns=>if n=0 then lD ns else n
noncomputable def iD (ns:List Int):Int:=lD ns.reverse
noncomputable def K4 (ns:List Int):Prop:=gL ns=1/\0<iD ns
noncomputable def NZ (ns:List Int):Prop:=∃n∈ns,n≠0
theorem cV (G:k≠0)(x):x*k=0↔x=0:=by
 rw[Jq];exact⟨λh=>h.elim id λh=>absurd h G,.inl⟩
theorem zX {k}(G:k≠0):∀ns,lD (ns.map (· * k))=lD ns*k
 | []=>(ZR k).symm
 | n::ns=>by
  rw[Od,lD,lD];by_cases h:n=0
  rw[if_pos h,if_pos ((cV G n).mpr h),zX G ns];rw[if_neg h,if_neg (λe=>h ((cV G n).mp e))]
theorem sI (G:k≠0)(ns:List Int):iD (ns.map (· * k))=iD ns*k:=by
 unfold iD;rw[<-List.map_reverse,zX G]
theorem amW (h:NZ ns):lD ns≠0:=by
 induction ns with
 | nil=>obtain⟨n,G,_⟩:=h;cases G
 | cons a ns O=>
  rw[lD];by_cases e:a=0
  rw[if_pos e];refine O ?_;obtain⟨n,G,J⟩:=h;rcases ML.mp G with rfl|G
  lia;exact⟨n,G,J⟩;lia
theorem Gq (h:NZ ns):iD ns≠0:=by
 obtain⟨n,J,G⟩:=h;exact amW ⟨n,List.mem_reverse.mpr J,G⟩
theorem VF (f n):gF f n ∣ f/\gF f n ∣ n:=⟨Int.gcd_dvd_right ..,Int.gcd_dvd_left ..⟩
theorem VH:∀n∈ns,gL ns ∣ n:=by
 have:∀(ns:List Int) (f:Int),ns.foldl gF f ∣ f/\∀n∈ns,ns.foldl gF f ∣ n:=by
  intro ns;induction ns with
  | nil=>intro f;exact⟨Int.dvd_refl _,nofun⟩
  | cons a ns J=>
   intro f;obtain⟨h1,h2⟩:=J _;refine⟨Int.dvd_trans h1 (VF f a).1,λn G=>?_⟩;rcases ML.mp G with rfl|G
   exact Int.dvd_trans h1 (VF f n).2;exact h2 n G
 exact(this ns 0).2
theorem acf (h:NZ ns):0<gL ns:=by
 have U:=adX ns;obtain⟨n,G,J⟩:=h;have O:=VH n G;by_cases e:gL ns=0
 simp_all
 lia
theorem K4.nz (h:K4 ns):NZ ns:=by
 have:∀l:List Int,0<lD l->NZ l:=by
  intro l;induction l with
  | nil=>intro h;exact nomatch h
  | cons a l O=>
   intro h;rw[lD]at h;by_cases e:a=0
   rw[if_pos e]at h;obtain⟨n,J,G⟩:=O h;exact⟨n,RN _ J,G⟩;exact⟨a,by simp,e⟩
 obtain⟨n,J,G⟩:=this _ h.2;exact⟨n,List.mem_reverse.mp J,G⟩
theorem Ep {by'}(h:NZ ns)(O:by'=if iD ns<0 then 0-gL ns else gL ns):
  by'≠0/\K4 (ns.map (·.fdiv by'))/\ns=(ns.map (·.fdiv by')).map (· * by'):=by
 have g0:=acf h;have J:by'≠0:=by rw[O];split<;>lia
 have b:∀t,gL ns ∣ t->by' ∣ t:=λt ht=>by
  rw[O];split
  rw[Int.zero_sub];exact Int.neg_dvd.mpr ht;exact ht
 have e:ns=(ns.map (·.fdiv by')).map (· * by'):=by
  rw[X4];conv=>lhs;rw[<-List.map_id ns]
  refine Uo λn G=>?_;obtain⟨m,Y⟩:=b n (VH n G);show n=n.fdiv by'*by'
  conv=>lhs;rw[Y]
  conv=>rhs;rw[Y]
  rw[Int.mul_fdiv_cancel_left _ J,ZJ]
 refine⟨J,?_,e⟩;generalize a:ns.map (·.fdiv by')=ms at e;have e1:gL ns=gL ms*(by'.natAbs:Int):=by rw[e];exact Kv by' ms
 have e2:(by'.natAbs:Int)=gL ns:=by rw[O];split<;>lia
 have e3:iD ns=iD ms*by':=by rw[e];exact sI J ms
 have c:=Gq h;refine⟨?_,?_⟩;rw[e2]at e1;have U:gL ms*gL ns=1*gL ns:=by rw[<-e1,Int.one_mul]
 exact Int.eq_of_mul_eq_mul_right (by lia) U;by_cases hs:iD ns<0
 have:by'<0:=by lia
 by_cases q:0<iD ms
 exact q;have:=Int.mul_nonneg_of_nonpos_of_nonpos (show iD ms<=0 by lia) (Int.le_of_lt this)
 lia;have:0<by':=by lia
 by_cases q:0<iD ms
 exact q;have:=Int.mul_nonpos_of_nonpos_of_nonneg (show iD ms<=0 by lia) (Int.le_of_lt this)
 lia
theorem rG {k}(G:k≠0):∀{ns ms:List Int},ns.map (· * k)=ms.map (· * k)->ns=ms
 | [],[],_=>rfl
 | a::ns,b::ms,h=>by
  obtain⟨h1,h2⟩:=List.cons.inj h;rw[Int.eq_of_mul_eq_mul_right G h1,rG G h2]
variable {ms:List Int}
theorem Us (O:K4 ns)(U:K4 ms){s t}(hs:s≠0)(ht:t≠0)(h:ns.map (· * s)=ms.map (· * t)):ns=ms:=by
 have e1:gL ns*(s.natAbs:Int)=gL ms*(t.natAbs:Int):=by rw[<-Kv,<-Kv,h]
 rw[O.1,U.1]at e1;have e2:iD ns*s=iD ms*t:=by rw[<-sI hs,<-sI ht,h]
 have a:=O.2;have b:=U.2;have st:s=t:=by
  rcases Int.lt_or_gt_of_ne hs with J|J<;>rcases Int.lt_or_gt_of_ne ht with G|G
  lia;have x:=Int.mul_neg_of_pos_of_neg a J;have y:=Int.mul_pos b G;lia;have x:=Int.mul_pos a J;have y:=Int.mul_neg_of_pos_of_neg b G;lia;lia
 subst st;exact rG hs h
noncomputable def zf (c0:AP):Prop:=∀{h:Gh}{w:W}{ns:List Int}{m:Nat}{Q:WK}{E:Bm},Ints w ns->NZ ns->(∀n∈ns,Sm m n)->m<=8000->ns.length<=1000 ->
 (∀(ms:List Int) (k:Int),k≠0->ns=ms.map (· * k)->K4 ms->(∀n∈ms,Sm m n)->Q (.tup (ms.map .int)) h)->c0 [w] h Q E
theorem bZ (a b:Int):Jf (.int a) (.int b)=(a==b):=rfl
theorem gP {a a'}(h:Sm m a)(e:a=a'*k)(G:k≠0):Sm m a':=by
 refine h.le ?_;rw[e,Int.natAbs_mul];exact Nat.le_mul_of_pos_right _<|by lia
theorem Fz (h:∀n∈ns,Sm m n)(J:k≠0)(e:ns=ms.map (· * k)):∀n∈ms,Sm m n:=λn G=>
 gP (h _ (e ▸ Nm.mpr ⟨n,G,rfl⟩)) rfl J
theorem amO (h:NZ ns):OD ((ns.filter (·≠0)).map W.int) (-1)=Dn (.int (iD ns)):=by
 have G:∀l:List Int,lD l≠0->∃r,l.filter (·≠0)=lD l::r:=by
  intro l;induction l with
  | nil=>intro h;exact absurd rfl h
  | cons a l U=>
   intro h;rw[lD]at h|-
   by_cases e:a=0
   simp_all
   simp_all
 obtain⟨r,J⟩:=G _ (Gq h);have O:=by
  rw[List.filter_reverse]at J;have:=congrArg List.reverse J
  rwa[List.reverse_reverse,List.reverse_cons]at this
 rw[O,R9];exact amN _ _
theorem adG {G}(hs:Aw h w=Dn ⟨ns.map .int,Go⟩)(a:G≠0)(Y:m<=8000)(J:Sm m G)(d:ns.length<=JN)(U:σ[0]?=Dn (Dn w))(O:uq ix σ=[Dn (.int G)])(k:Q (.lst ((ns.map (·.fdiv G)).map .int)) h):
  Jg Jr ix (K5 (ao 0)) gU (Mk Fd (ao 0) (ao 1)) σ h Q:=by
 unfold Jg K5 ao;rw[U];dsimp only;rw[hs];refine fV.mk (by rwa[Ik])<|cU (λi acc h'=>h'=h/\acc=((ns.take i).map (·.fdiv G)).map W.int) ?_ (by simp_all) ⟨rfl,rfl⟩
 rintro i w acc h' N b e ⟨rfl,rfl⟩;obtain⟨n,c,rfl⟩:=ints_get e;refine⟨[.int n],rfl,?_⟩;rw[O];refine⟨⟨a,m,Y,J⟩,(b _ _ ⟨rfl,?_⟩)⟩;rw[Nj,c];simp
noncomputable def Yu (c0:AP):Prop:=∀{h:Gh}{w:W}{ns:List Int}{Q:WK}{E:Bm},Ints w ns->Q (.bl (decide (iD ns<0))) h->c0 [w] h Q E
theorem Ox:Yu pY:=by
 intro h w ns Q E Y q;have G:∀(l:List Int) (s:Src) (o:Option W),s.cell=Go->Q (.bl (decide (lD l<0))) h->fW s (kI 1) (d7 (bC (Mk Oj (ao 1) (mC (.int 0)))) (bN (Mk kLt (ao 1) (mC (.int 0)))) bK)
   {nx:=kE E {nx:=λ_ h'=>Q .non h',rt:=λw h'=>Q w h'},rt:=λw h'=>Q w h'} (l.map .int) [Dn w,o] h:=by
  intro l;induction l with
  | nil=>
   intro s o hs q;obtain⟨ws,ix⟩:=s;cases hs;exact q
  | cons n l U=>
   intro s o hs q;obtain⟨ws,ix⟩:=s;cases hs;rw[lD]at q;refine⟨λe=>?_,λe=>?_⟩;rw[bZ]at e
   rwa[if_neg (by simpa using e)]at q
   rw[bZ]at e;rw[if_pos (by simpa using e)]at q;exact U _ _ rfl q
 have k2:=G _ ⟨(ns.map .int).reverse,Go⟩ Go rfl q;rw[List.map_reverse]at k2;rcases Y with rfl|rfl<;>exact k2
theorem zp {dv b}(a:rY dv)(Y:Yu b):zf (Ci dv b):=by
 intro h w ns m Q E O c hs g hl q;have i:=acf c;have J:∀G,(G=if iD ns<0 then 0-gL ns else gL ns)->z7 dv b E {nx:=λ_ h'=>Q .non h',rt:=λw h'=>Q w h'} [Dn w,Dn (.int G)] h:=by
  intro G e
  obtain⟨U,f,d⟩:=Ep c e;show Jg Jr [1] _ gU _ [Dn w,Dn _] h _;refine adG (by rcases O with rfl|rfl<;>rfl) U g (by refine(ab6 hs).le ?_;rw[e];split<;>lia) (Jz hl<|by decide) rfl rfl ?_;exact q _ G U d f<|Fz hs U d
 refine a O ?_;refine cY (by rw[bZ];simp;lia) ?_;exact Y O<|Ir (λhl=>(J _<|by rw[if_pos hl,Int.zero_sub]))<|λhl=>(J _<|by rw[if_neg hl])
noncomputable abbrev Tr:=Int×Int×Int
noncomputable def tl (t:Tr):List Int:=[t.1,t.2.1,t.2.2]
noncomputable def tw (t:Tr):W:=.tup [.int t.1,.int t.2.1,.int t.2.2]
noncomputable def Pl (t:Tr):Prop:=K4 (tl t)
noncomputable def Bx (m:Nat)(t:Tr):Prop:=Sm m t.1/\Sm m t.2.1/\Sm m t.2.2
noncomputable def sc (k:Int)(t:Tr):Tr:=(t.1*k,t.2.1*k,t.2.2*k)
noncomputable def JT (u t:Tr):Prop:=∃k,k≠0/\u=sc k t
noncomputable def crs (p q:Tr):Tr:=(p.2.1*q.2.2-p.2.2*q.2.1,p.2.2*q.1-p.1*q.2.2,p.1*q.2.1-p.2.1*q.1)
noncomputable def dt3 (p q:Tr):Int:=p.1*q.1+p.2.1*q.2.1+p.2.2*q.2.2
theorem Bx.mono {m n t}(h:Bx m t)(e:m<=n):Bx n t:=⟨h.1.mono e,h.2.1.mono e,h.2.2.mono e⟩
theorem Bx.all {t:Tr}(h:Bx m t):∀n∈tl t,Sm m n:=by
 intro n G;simp[tl]at G;rcases G with rfl|rfl|rfl
 exact h.1;exact h.2.1;exact h.2.2
theorem Km {t:Tr}:t=(0,0,0)↔t.1=0/\t.2.1=0/\t.2.2=0:=by grind
theorem Um {t:Tr}(h:t≠(0,0,0)):NZ (tl t):=by
 by_cases a:t.1=0
 by_cases b:t.2.1=0
 by_cases c:t.2.2=0
 grind
 exact⟨_,by simp[tl],c⟩;exact⟨_,by simp[tl],b⟩;exact⟨_,by simp[tl],a⟩
theorem LK {t}(e:tl t=ms.map (· * k)):∃u,ms=tl u/\t=sc k u:=by
 match ms,congrArg Tj e,e with
 | [a,b,c],_,e=>
  simp[tl]at e;exact⟨(a,b,c),rfl,by obtain⟨x,y,z⟩:=t;simp only[sc];simp only at e;rw[e.1,e.2.1,e.2.2]⟩
variable {c0:AP}{u:Tr}{E:Bm}
theorem zf.tr (Y:zf c0)(hw:w=tw u\/w=.lst [.int u.1,.int u.2.1,.int u.2.2])(h0:u≠(0,0,0))(hs:Bx m u)(O:m<=8000)
  (q:∀t,Pl t->JT u t->Bx m t->Q (tw t) h):c0 [w] h Q E:=by
 refine Y ?_ (Um h0) hs.all O (show 3<=1000 by decide) λms k U e J G=>?_;rcases hw with rfl|rfl
 exact .inr rfl;exact .inl rfl;obtain⟨t,rfl,e'⟩:=LK e;exact q t J ⟨k,U,e'⟩ ⟨G _<|by simp[tl],G _<|by simp[tl],G _<|by simp[tl]⟩
theorem fu {t:Tr}(G:k≠0):sc k t=(0,0,0)↔t=(0,0,0):=by
 rw[Km,Km];show(t.1*k=0/\t.2.1*k=0/\t.2.2*k=0)↔_;rw[cV G,cV G,cV G]
theorem Pl.ne {t}(h:Pl t):t≠(0,0,0):=by
 rintro rfl;obtain⟨n,G,J⟩:=h.nz;simp[tl]at G;exact J G
variable {p q:Tr}
theorem sY (J:Pl p)(G:Pl q)(h1:JT u p)(h2:JT u q):p=q:=by
 obtain⟨s,hs,e⟩:=h1;obtain⟨t,ht,e'⟩:=h2;have h:sc s p=sc t q:=by rw[<-e,<-e']
 have:=Us J G hs ht (by
  have:=congrArg tl h
  simpa[tl,sc]using this)
 obtain⟨a,b,c⟩:=p;simp[tl]at this;simp_all
theorem JT.refl (t):JT t t:=⟨1,by decide,by simp[sc]⟩
theorem Y4 (a b)(t):sc a (sc b t)=sc (b*a) t:=by simp[sc,Int.mul_assoc]
variable {v:Tr}
theorem JT.trans {w}(h:JT u v)(h':JT v w):JT u w:=by
 obtain⟨s,hs,rfl⟩:=h;obtain⟨t,ht,rfl⟩:=h';exact⟨t*s,λe=>(Jq.mp e).elim ht hs,Y4 _ _ _⟩
theorem ray (U:p≠(0,0,0))(h:crs p q=(0,0,0)):∃s t,s≠0/\sc s q=sc t p:=by
 obtain⟨a,b,c⟩:=p;obtain⟨x,y,z⟩:=q;have h1:b*z-c*y=0:=congrArg (·.1) h;have h2:c*x-a*z=0:=congrArg (·.2.1) h;have Y:a*y-b*x=0:=congrArg (·.2.2) h;by_cases O:a=0
 by_cases J:b=0
 by_cases G:c=0
 simp_all
 refine⟨c,z,G,?_⟩;simp[sc];grind
 refine⟨b,y,J,?_⟩;simp[sc];grind
 refine⟨a,x,O,?_⟩;simp only[sc];refine Prod.ext ?_ (Prod.ext ?_ ?_)<;>grind
theorem wR (J:Pl p)(G:Pl q)(h:crs p q=(0,0,0)):p=q:=by
 obtain⟨s,t,hs,e⟩:=ray J.ne h;have ht:t≠0:=by
  rintro rfl;have:sc s q=(0,0,0):=by rw[e];simp[sc]
  exact G.ne<|(fu hs).mp this
 exact sY J G ⟨t,ht,rfl⟩ ⟨s,hs,e.symm⟩
theorem cO (J:Pl p)(G:Pl q)(h:p≠q):crs p q≠(0,0,0):=λe=>h (wR J G e)
theorem flat {n r:Tr}(l:n≠(0,0,0))(k:dt3 n p=0)(j:dt3 n q=0)(i:dt3 n r=0):dt3 (crs p q) r=0:=by
 obtain⟨n1,n2,g⟩:=n;obtain⟨Y,p2,U⟩:=p;obtain⟨O,J,G⟩:=q;obtain⟨c,b,a⟩:=r;simp[dt3,crs]at *;generalize m:(p2*G-U*J)*c+(U*O-Y*G)*b+(Y*J-p2*O)*a=d;have e1:n1*d=0:=by grind
 have e2:n2*d=0:=by grind
 have e3:g*d=0:=by grind
 by_cases h:d=0
 exact h;have f:∀x:Int,x*d=0->x=0:=λx e=>by
  rcases Jq.mp e with e|e
  exact e;lia
 simp_all
theorem cD (p q:Tr):dt3 p q=dt3 q p:=by simp[dt3,ZJ]
theorem rN (k)(p q):dt3 (sc k p) q=dt3 p q*k:=by simp[dt3,sc];grind
theorem dG (k)(p q):dt3 p (sc k q)=dt3 p q*k:=by simp[dt3,sc];grind
theorem Lh {t n}(h:JT u t):dt3 n u=0↔dt3 n t=0:=by
 obtain⟨k,G,rfl⟩:=h;rw[dG,cV G]
theorem mO (k l)(p q):crs (sc k p) (sc l q)=sc (k*l) (crs p q):=by
 simp[crs,sc];grind
theorem CK {t G t'}(h:JT u t)(h':JT G t'):JT (crs u G) (crs t t'):=by
 obtain⟨k,J,rfl⟩:=h;obtain⟨l,hl,rfl⟩:=h';exact⟨k*l,λe=>(Jq.mp e).elim J hl,mO ..⟩
theorem qw (a:Tr):crs a a=(0,0,0):=by
 simp[crs];grind
theorem mF (p q):dt3 (crs p q) p=0:=by simp[dt3,crs];grind
theorem xq (p q):dt3 (crs p q) q=0:=by simp[dt3,crs];grind
theorem gq (J:Bx m p)(G:Bx m q):Bx (m+m+1) (crs p q):=
 ⟨(J.2.1.mul G.2.2).sub (J.2.2.mul G.2.1) |>.mono (by lia),(J.2.2.mul G.1).sub (J.1.mul G.2.2) |>.mono (by lia),(J.1.mul G.2.1).sub (J.2.1.mul G.1) |>.mono (by lia)⟩
theorem JF (p q):Jf (tw p) (tw q)=decide (p=q):=by
 obtain⟨a,b,c⟩:=p;obtain⟨x,y,z⟩:=q;unfold tw;rw[Jf,oA,oA,oA,oA,bZ,bZ,bZ];grind
theorem afN (a b c):Jf (.lst [.int a,.int b,.int c]) (.lst [.int 0,.int 0,.int 0])=decide (a=0/\b=0/\c=0):=by
 rw[Jf,oA,oA,oA,oA,bZ,bZ,bZ];grind
noncomputable def Lk (c0:AP):Prop:=∀{h:Gh}{p q:Tr}{m:Nat}{Q:WK}{E:Bm},m<=10000->Bx m p->Bx m q->Q (tw (crs p q)) h->c0 [tw p,tw q] h Q E
noncomputable def QC (c0:AP):Prop:=∀{h:Gh}{p q:Tr}{m:Nat}{Q:WK}{E:Bm},m<=10000->Bx m p->Bx m q->Q (.int (dt3 p q)) h->c0 [tw p,tw q] h Q E
theorem ajP (e:h.c n=Dn (.lst ws)):d9 h (.loc n)=Dn ws:=by simp[d9,e]
theorem tY:Lk BK:=by
 intro h p q m Q E a J G k;obtain⟨d,c,b⟩:=J;obtain⟨Y,U,O⟩:=G
 (repeat(refine And.intro (fY.of (by trivial) (by trivial) (by lia) (by lia)) ?_))
 exact k
theorem QD:QC N7:=by
 intro h p q m Q E a J G k;obtain⟨d,c,b⟩:=J;obtain⟨Y,U,O⟩:=G
 (repeat(refine And.intro (fY.of (by trivial) (by trivial) (by lia) (by lia)) ?_))
 exact k
noncomputable def JoinOk (c0:AP):Prop:=∀{h:Gh}{p q:Tr}{m:Nat}{Q:WK}{E:Bm},m<=3900->Bx m p->Bx m q->Pl p->Pl q->p≠q->(∀t:Tr,Pl t->JT (crs p q) t->Bx (m+m+1) t->Q (tw t) h)->c0 [tw p,tw q] h Q E
variable {cr:AP}
theorem Dq {Y}(J:zf Y)(O:Lk cr):JoinOk (iR Y cr):=by
 intro h p q m Q E b sp U a pq G k;show br _ _ _;rw[JF];exact cY (decide_eq_false G)<|O (by lia) sp U<|J.tr (.inl rfl) (cO a pq G) (gq sp U) (by lia) k
theorem ad2 {G}(J:JoinOk G):JoinOk (Mj G):=by
 assumption
noncomputable def Pz (c0:AP):Prop:=∀{h:Gh}{p q:Tr}{m:Nat}{Q:WK}{E:Bm},m<=10000->Bx m p->Bx m q->Q (.bl (decide (dt3 p q=0))) h->c0 [tw p,tw q] h Q E
variable {dt:AP}
theorem Vf (G:QC dt):Pz (zP dt):=by
 intro h p q m Q E U O J k;refine G U O J ?_;assumption
noncomputable def AllP (ts:List Tr):Prop:=∀p∈ts,∀q∈ts,∀r∈ts,dt3 (crs q r) p=0
noncomputable def amt (ts:List Tr)(a b c:Nat):Prop:=∀p q r,ts[a]?=Dn p->ts[b]?=Dn q->ts[c]?=Dn r->dt3 (crs q r) p=0
open Classical in
noncomputable def fX (ts:List Tr):Bool:=decide (AllP ts)
variable {ts:List Tr}
open Classical in
theorem lJ (h:AllP ts):fX ts=true:=decide_eq_true h
open Classical in
theorem rz (h:¬AllP ts):fX ts=false:=decide_eq_false h
theorem lQ (p q r:Tr):dt3 (crs q r) p=dt3 (crs r p) q:=by simp[dt3,crs];grind
theorem ajv (p q r):dt3 (crs q r) p=- dt3 (crs r q) p:=by simp[dt3,crs];grind
theorem mL (p q):dt3 (crs q q) p=0:=by simp[dt3,crs];grind
theorem jw (H:∀k j i,k<j->j<i->amt ts k j i):AllP ts:=by
 intro p n q m r l;obtain⟨a,U⟩:=qj n;obtain⟨b,O⟩:=qj m;obtain⟨c,J⟩:=qj l;have G:∀{p q r:Tr},dt3 (crs q r) p=0->dt3 _ q=0:=λ{p q r} h=>by rwa[<-lQ]
 have Y:∀{p q r:Tr},dt3 (crs q r) p=0->dt3 _ p=0:=λ{p q r} h=>by rw[ajv,h];rfl
 have ab:a=b->p=q:=λe=>by subst e;rw[U]at O;exact Ma O
 have s:b=c->q=r:=λe=>by subst e;rw[O]at J;exact Ma J
 have t:a=c->p=r:=λe=>by subst e;rw[U]at J;exact Ma J
 by_cases h1:a=b
 rw[ab h1];exact G (mL r q);by_cases h2:b=c
 rw[s h2];exact mL p r;by_cases o:a=c
 rw[t o];exact G (G (mL q r));by_cases g:a<b
 by_cases f:b<c
 exact H a b c g f _ _ _ U O J;by_cases d:a<c
 exact Y<|H a c b d (by lia) _ _ _ U J O
 exact G<|H c a b (by lia) g _ _ _ J U O
 by_cases f:b<c
 by_cases d:a<c
 exact Y<|G<|H b a c (by lia) d _ _ _ O U J
 exact G<|G<|H b c a f (by lia) _ _ _ O J U
 exact Y<|G<|G<|H c b a (by lia) (by lia) _ _ _ J O U
theorem amV (ts)(h:ts.length<=2):AllP ts:=by
 refine jw λk j i h1 h2 p q r _ _ e=>?_;have:=(Oi.mp e).1
 lia
theorem aky {G}(h0:G∈ts)(U:u∈ts)(O:u≠G)(J:∀t∈ts,Pl t):(∀t∈ts,t≠G->dt3 (crs G u) t=0)↔AllP ts:=by
 refine⟨λH=>?_,λH t ht _=>H t ht G h0 u U⟩;have b:=cO (J _ h0) (J _ U) (LI O);have H':∀t∈ts,dt3 (crs G u) t=0:=λt ht=>by
  by_cases e:t=G
  subst e;rw[lQ,lQ];exact mL _ _;simp_all
 intro p J q a r Y;exact flat b (H' q a) (H' r Y)<|H' p J
theorem zbK {G:Tr}(H:∀t∈ts,t=G):AllP ts:=by
 intro p U q O r J;rw[H q O,H r J];exact mL _ _
theorem GR (e:(ts.map tw)[i]?=Dn w):∃t,ts[i]?=Dn t/\w=tw t:=by grind
theorem CJ:∀bs,QB (bs.map W.bl)=Dn bs
 | []=>rfl
 | b::bs=>by rw[Od,QB,CJ bs];rfl
theorem Dl {s}(I:Nat->List W->Gh->Prop)
  (a:∀i acc h,I i acc h->∀P,P->s.go h P)
  (G:∀i w  (acc) (h) (N:List W->Gh->Prop),(∀J h',I (i+1) J h'->N J h')->ws[i]?=Dn w->I i acc h ->
   ∃Y,own w=Dn Y/\tt (Y.map Dn++uq ix σ) h λc h1=>K8 c (te (Y.map Dn++uq ix σ) h1 λv h2=>N (acc++[v]) h2) (N acc h1))
  (U:∀acc h,I ws.length acc h->Q (.lst acc) h):∀{acc h},I 0 acc h->zL s own ix tt te σ Q ws acc h:=by
 induction ws generalizing I with
 | nil=>intro acc h O;exact a 0 acc h O _ (U acc h O)
 | cons w ws b=>
  intro acc h O;obtain⟨Y,f,q⟩:=G 0 w acc h _ (λacc' h' q=>b _ (λi=>a _) (λi w acc h N d e hi=>G (i+1) w acc h N d (by simpa using e) hi) (λacc h q=>U acc h q) q) rfl O;refine a 0 acc h O _ ?_
  rwa[f]
theorem afU (J:σ[i]?=Dn (Dn w))(hs:Aw h w=Dn ⟨ws,Go⟩)(G:ws.length<=JN)(k:zL ⟨ws,Go⟩ own ix gU te σ Q ws [] h):Jg own ix (K5 (ao i)) gU te σ h Q:=by
 unfold Jg K5 ao;rw[J];dsimp only;exact hs ▸ fV.mk G k
noncomputable def Ba (h:Gh)(w:W)(ts:List Tr):Prop:=w=.lst (ts.map tw)\/∃n,w=.loc n/\h.c n=Dn (.lst (ts.map tw))
theorem Ba.src (e:Ba h w ts):view h w=Dn (ts.map tw)/\∃s:Src,Aw h w=Dn s/\s.ws=ts.map tw/\∀P:Prop,P->s.go h P:=by
 rcases e with rfl|⟨n,rfl,e⟩
 exact⟨rfl,_,rfl,rfl,λ_ p=>p⟩;refine⟨jP e,⟨ts.map tw,Dn (n,ts.map tw)⟩,by simp[Aw,e],rfl,λP p=>⟨e,p⟩⟩
theorem Bj (G)(r):OD ((G::r).map tw) 0=Dn (tw G):=bM rfl
theorem zbg {G}{r}{b a}(e:Ba h w (G::r))(hl:(G::r).length<=1000)(q:Q (.lst (((G::r).filter (·≠G)).map tw)) h):
  Jg Jr [0] (K5 (ao 0)) (bC (Mk Oj (ao 0) (Mk BZ (ao 1) (mC (.int 0))))) (ao 0) [Dn w,b,a] h Q:=by
 obtain⟨d,s,es,c,j⟩:=e.src;generalize O:G::r=ts at *;have f:=O ▸ Bj _ _;show(match Aw h w with
  | some s=>_
  | none=>False)
 rw[es];show fV _ _;rw[c];refine fV.mk (by rw[Ik];exact Jz hl (by decide)) ?_;refine Dl (λi acc h'=>h'=h/\acc=((ts.take i).filter (·≠G)).map tw) ?_ ?_ ?_ ⟨rfl,rfl⟩;grind
 ·rintro i g acc h' N U e2 ⟨rfl,rfl⟩;obtain⟨t,Y,rfl⟩:=GR e2;refine⟨[tw t],rfl,?_⟩;show(match view h' w with
   | some ws=>(match OD ws 0 with
    | some w=>_
    | none=>False)
   | none=>False)
  rw[d];dsimp only;rw[f];show K8 (Jc 30 (tw t)&&Jc 30 (tw G)) _ False;rw[JF];show K8 (!decide _) _ _;by_cases J:t=G
  refine acq (by simp[J])<|U _ _ ⟨rfl,?_⟩
  rw[Nj,Y];simp[J];refine Sg (by simp[J])<|U _ _ ⟨rfl,?_⟩
  rw[Nj,Y];simp[J]
 simp_all
noncomputable def fL (c0:AP):Prop:=∀{h:Gh}{w:W}{ts:List Tr}{M:Nat}{Q:WK}{E:Bm},Ba h w ts->ts.length<=1000->M<=4000->(∀t∈ts,Pl t/\Bx M t)->Q (.bl (fX ts)) h->c0 [w] h Q E
theorem alw {a}(Y:QC a)(g:Lk cr):fL (tG a cr):=by
 intro h w ts M Q E e hl z hs q;match ts,e,hl,hs,q with
 | [],e,hl,hs,q=>
  obtain⟨m,s,es,l,k⟩:=e.src;rw[lJ (amV [] (by decide))]at q;show(match Aw h w with
   | some s=>_
   | none=>False)
  rw[es];show fV _ _;exact l ▸ k _ (mY rfl q)
 | O::r,e,hl,hs,q=>
  refine zbg e hl ?_;generalize U:O::r=ts at *;have d:O∈ts:=by rw[<-U];simp
  have G:∀t,t∈ts.filter (·≠O)↔t∈ts/\t≠O:=λt=>by simp
  have J:(ts.filter (·≠O)).length<=ts.length:=List.length_filter_le ..;generalize ts.filter _=us at G J;match us,G,J with
  | [],G,_=>
   rw[lJ (zbK λt ht=>by
    by_cases e:t=O
    exact e;exact absurd ((G t).mpr ⟨ht,e⟩) (by simp))]at q
   exact mY rfl q
  | u::us,G,J=>
   have c:=(G u).mp (by simp);refine cY rfl ?_;obtain⟨m,s,es,l,k⟩:=e.src;show(match view h w with
    | some ws=>(match OD ws 0 with
     | some w=>_
     | none=>False)
    | none=>False)
   rw[m];dsimp only;rw[show OD _ 0=Dn _ by rw[<-U];exact Bj _ _];show(match OD ((u::us).map tw) 0 with
    | some w=>_
    | none=>False)
   rw[Bj];refine g (by lia) (hs _ d).2 (hs _ c.1).2 ?_;have sc:=gq (hs _ d).2 (hs _ c.1).2;have it:=aky d c.1 c.2 λt ht=>(hs t ht).1
   generalize crs O u=n at sc it;generalize p:u::us=j at *;show Jg Jr [2] _ gU _ [Dn w,Dn _,Dn _] h _;refine afU rfl rfl (by rw[Ik];exact Jz (Jz J hl) (by decide)) ?_;refine cU (λi acc h'=>h'=h/\acc=((j.take i).map λt=>dt3 n t==0).map W.bl) ?_ ?_ ⟨rfl,rfl⟩;rintro i y acc h' N v e2 ⟨rfl,rfl⟩;obtain⟨t,o,rfl⟩:=GR e2;refine⟨[tw t],rfl,(Y (by lia) sc ((hs t ((G t).mp (Qz o)).1).2.mono (by lia)) ?_)⟩;show N _ h';rw[bZ];refine v _ _ ⟨rfl,?_⟩;rw[Nj,o];simp
   ·rintro acc h' ⟨rfl,rfl⟩;rw[Ik,QG];show(match QB _ with
     | some bs=>Q _ h'
     | none=>False)
    rw[CJ];have x:(j.map λt=>dt3 n t==0).all id=fX ts:=by
     by_cases H:AllP ts
     rw[lJ H,XF];intro b hb;obtain⟨t,ht,rfl⟩:=Nm.mp hb;have:=it.mpr H t ((G t).mp ht).1 ((G t).mp ht).2
     simp[this];rw[rz H];refine Bool.eq_false_iff.mpr λhb=>H<|it.mp λt ht f=>?_
     rw[XF]at hb;have:=hb _ (Nm.mpr ⟨t,(G t).mpr ⟨ht,f⟩,rfl⟩)
     simpa using this
    dsimp only
    rwa[x]
theorem zaQ {G}(J:fL G):fL (yG G):=by
 assumption
theorem Ib {s:Src}{b:MS}(I:Nat->Sw->Gh->Prop)(Y:∀i σ h,I i σ h->∀P:Prop,P->s.go h P)
  (G:∀(i:Nat) (w:W) (σ:Sw) (h:Gh) (N:Sw->Gh->Prop),(∀σ' h',I (i+1) σ' h'->N σ' h')->ws[i]?=Dn w->I i σ h->g w σ h fun U h1=>b {D with nx:=N,ct:=N,bk:=D.nx} U h1)
  (O:∀σ h,I ws.length σ h->D.nx σ h):∀{σ:Sw}{h:Gh},I 0 σ h->fW s g b D ws σ h:=by
 induction ws generalizing I with
 | nil=>intro σ h J;exact Y 0 σ h J _ (O σ h J)
 | cons w ws a=>
  intro σ h J;exact Y 0 σ h J _<|G 0 w σ h _ (fun σ' h' q=>(a _ (λi=>Y<|i+1) (λi w σ h N c e hi=>G _ w σ h N c (by simpa using e) hi) (fun σ h q=>O σ h q) q)) rfl J
variable {us:List W}
theorem adM (e:h.c n=Dn (.lst us))(G:us.length<JN)(k:Q .non (h.set n (.lst (us++[w])))):dF (.loc n) [w] h Q:=by
 show(match h.c n with
  | some (Cell.lst us)=>_
  | _=>False)
 simp_all
variable {zs:List W}
theorem Ek (e:h.c n=Dn (.lst us))(G:us.length+zs.length<=JN)(k:Q .non (h.set n (.lst (us++zs)))):iT (.loc n) [.lst zs] h Q:=by
 dsimp [iT]
 exact e ▸ fV.mk G k
variable {j:Int}{ma:MA}
theorem NK (b:∀R,ma σ h R=R [.int j] h)(h1:-(2^62)<=j)(h2:j<2^62)(a:j.toNat<=JN)(I:Nat->List W->Gh->Prop)
  (J:∀(i:Nat) (acc:List W) (h:Gh) (N:List W->Gh->Prop),(∀G h',I (i+1) G h'->N G h')->i<j.toNat->I i acc h ->
   ∃O,own (.int (i:Int))=Dn O/\tt (O.map Dn++uq ix σ) h λc h1=>K8 c (te (O.map Dn++uq ix σ) h1 λv h2=>N (acc++[v]) h2) (N acc h1))
  (Y:∀acc h,I j.toNat acc h->Q (.lst acc) h) (h0:I 0 [] h):Jg own ix (lH ma) tt te σ h Q:=by
 unfold Jg lH;rw[b];refine Ay.mk h1 h2<|fV.mk (HX ▸ a) ?_
 refine cU I (λi w acc h N d e hi=>?_) (λacc h q=>Y acc h (by rw[HX]at q;exact q)) h0;obtain⟨U,rfl⟩:=aki e;rw[Int.zero_add];exact J i acc h N d U hi
noncomputable abbrev Mt:=Tr×Tr×Tr
noncomputable def vm (M:Mt)(v:Tr):Tr:=(dt3 M.1 v,dt3 M.2.1 v,dt3 M.2.2 v)
noncomputable def tr (M:Mt):Mt:=((M.1.1,M.2.1.1,M.2.2.1),(M.1.2.1,M.2.1.2.1,M.2.2.2.1),(M.1.2.2,M.2.1.2.2,M.2.2.2.2))
noncomputable def mm (M N:Mt):Mt:=(vm (tr N) M.1,vm (tr N) M.2.1,vm (tr N) M.2.2)
noncomputable def K6 (M:Mt):Mt:=(crs M.2.1 M.2.2,crs M.2.2 M.1,crs M.1 M.2.1)
noncomputable def adj (M:Mt):Mt:=tr (K6 M)
noncomputable def det (M:Mt):Int:=dt3 (crs M.1 M.2.1) M.2.2
noncomputable def sM (k:Int)(M:Mt):Mt:=(sc k M.1,sc k M.2.1,sc k M.2.2)
noncomputable def Xc:Mt:=((1,0,0),(0,1,0),(0,0,1))
theorem W3 (h1:p.1=q.1)(h2:p.2.1=q.2.1)(G:p.2.2=q.2.2):p=q:=by grind
variable {M:Mt}
theorem mt3 {N:Mt}(h1:M.1=N.1)(h2:M.2.1=N.2.1)(G:M.2.2=N.2.2):M=N:=by grind
theorem rZ (x)(N)(v):dt3 (vm (tr N) x) v=dt3 x (vm N v):=by
 simp[dt3,vm,tr];grind
theorem j7 (M N)(v):vm (mm M N) v=vm M (vm N v):=W3 (rZ _ _ _) (rZ _ _ _) (rZ _ _ _)
theorem aeg (M):tr (tr M)=M:=rfl
theorem SX (M N):tr (mm M N)=mm (tr N) (tr M):=by
 refine mt3 (W3 ?_ ?_ ?_) (W3 ?_ ?_ ?_) (W3 ?_ ?_ ?_)<;>exact cD _ _
theorem ajG (A B C):mm (mm A B) C=mm A (mm B C):=by
 have f:∀x:Tr,vm (tr C) _=vm (tr (mm B C)) x:=λx=>by rw[SX,j7]
 exact mt3 (f _) (f _)<|f _
theorem sJ (M:Mt)(k:Int)(v:Tr):vm M (sc k v)=sc k (vm M v):=W3 (dG _ _ _) (dG _ _ _) (dG _ _ _)
theorem qb (M)(k)(v):vm (sM k M) v=sc k (vm M v):=W3 (rN _ _ _) (rN _ _ _) (rN _ _ _)
theorem wA (v):vm Xc v=v:=by
 simp[vm,Xc,dt3]
theorem vD (M):mm M (adj M)=sM (det M) Xc:=by
 simp[mm,vm,adj,tr,K6,det,sM,Xc,sc,dt3,crs];grind
theorem Gj (M):mm (adj M) M=sM (det M) Xc:=by
 simp[mm,vm,adj,tr,K6,det,sM,Xc,sc,dt3,crs];grind
theorem rH (M)(p q):crs (vm M p) (vm M q)=vm (K6 M) (crs p q):=by
 simp only[vm,K6,dt3,crs];refine W3 ?_ ?_ ?_<;>grind
theorem zbX (M:Mt)(x v:Tr):dt3 (vm (K6 M) x) (vm M v)=det M*dt3 x v:=by
 show dt3 (vm (tr (adj M)) x) _=_;rw[rZ,<-j7,Gj,qb,wA,dG,ZJ]
theorem Vc (M)(p q r):dt3 (crs (vm M p) (vm M q)) (vm M r)=det M*dt3 (crs p q) r:=by rw[rH,zbX]
theorem pP (M):det (tr M)=det M:=by
 simp[det,tr,dt3,crs];grind
theorem Nf (M N):det (mm M N)=det M*det N:=by
 show dt3 (crs (vm _ _) (vm _ _)) (vm _ _)=_;rw[Vc,pP,ZJ];rfl
theorem V0 (k)(M):det (sM k M)=det M*(k*k*k):=by
 simp[det,sM];rw[mO,rN,dG];grind
theorem nU (G:k≠0):det (sM k M)≠0↔det M≠0:=by
 rw[V0]
 simp_all
theorem abQ:det Xc=1:=rfl
theorem V4 (k)(M):K6 (sM k M)=sM (k*k) (K6 M):=mt3 (mO _ _ _ _) (mO _ _ _ _) (mO _ _ _ _)
theorem cR (h:det M≠0):det (adj M)≠0:=by
 have e:=Nf M (adj M);rw[vD,V0,abQ]at e;intro z;rw[z,RM,Int.one_mul]at e;exact(Jq.mp e).elim (λe=>(Jq.mp e).elim h h) h
theorem qp (h:det M≠0)(G:v≠(0,0,0)):vm M v≠(0,0,0):=by
 intro e;have e2:vm (adj M) (vm M v)=(0,0,0):=by rw[e];simp[vm,dt3]
 rw[<-j7,Gj,qb,wA]at e2;exact G<|(fu h).mp e2
noncomputable def ml (M:Mt):List Int:=tl M.1++(tl M.2.1++tl M.2.2)
noncomputable def mw (M:Mt):W:=.tup [.int M.1.1,.int M.1.2.1,.int M.1.2.2,.int M.2.1.1,.int M.2.1.2.1,.int M.2.1.2.2,.int M.2.2.1,.int M.2.2.2.1,.int M.2.2.2.2]
noncomputable def mwl (M:Mt):W:=.lst [.int M.1.1,.int M.1.2.1,.int M.1.2.2,.int M.2.1.1,.int M.2.1.2.1,.int M.2.1.2.2,.int M.2.2.1,.int M.2.2.2.1,.int M.2.2.2.2]
noncomputable def PlM (M:Mt):Prop:=K4 (ml M)
noncomputable def Kw (m:Nat)(M:Mt):Prop:=Bx m M.1/\Bx m M.2.1/\Bx m M.2.2
noncomputable def Wn (U M:Mt):Prop:=∃k,k≠0/\U=sM k M
theorem Kw.mono {m n M}(h:Kw m M)(e:m<=n):Kw n M:=⟨h.1.mono e,h.2.1.mono e,h.2.2.mono e⟩
theorem Kw.all {m M}(h:Kw m M):∀n∈ml M,Sm m n:=by
 intro n G;rcases Tf.mp G with G|G
 exact h.1.all n G;rcases Tf.mp G with G|G
 exact h.2.1.all n G;exact h.2.2.all n G
theorem afi (h:det M≠0):NZ (ml M):=by
 by_cases h1:M.1=(0,0,0)
 exact absurd (by unfold det;rw[h1];simp[crs,dt3]) h;obtain⟨n,J,G⟩:=Um h1;exact⟨n,Zo _ J,G⟩
theorem Va (e:ml M=ms.map (· * k)):∃N,ms=ml N/\M=sM k N:=by
 match ms,congrArg Tj e,e with
 | [a,b,c,d,e',f,g,h,i],_,e=>
  simp[ml,tl]at e;refine⟨((a,b,c),(d,e',f),(g,h,i)),rfl,?_⟩;obtain⟨e1,e2,e3,e4,Y,U,O,J,G⟩:=e;exact mt3 (W3 e1 e2 e3) (W3 e4 Y U)<|W3 O J G
theorem Wn.det {U M}(h:Wn U M):My.det U≠0↔My.det M≠0:=by
 obtain⟨k,G,rfl⟩:=h;exact nU G
theorem zf.mt (a:zf c0){U}(hw:w=mw U\/w=mwl U)(h0:My.det U≠0)(hs:Kw m U)(O:m<=8000)
  (q:∀M,PlM M->Wn U M->Kw m M->Q (mw M) h):c0 [w] h Q E:=by
 refine a ?_ (afi h0) hs.all O (show 9<=1000 by decide) λms k Y e J G=>?_;rcases hw with rfl|rfl
 exact .inr rfl;exact .inl rfl;obtain⟨M,rfl,e'⟩:=Va e;refine q M J ⟨k,Y,e'⟩ ⟨⟨G _ ?_,G _ ?_,G _ ?_⟩,⟨G _ ?_,G _ ?_,G _ ?_⟩,G _ ?_,G _ ?_,G _ ?_⟩<;>simp[ml,tl]
theorem ju (J:Bx m p)(G:Bx n q):Sm (m+n+2) (dt3 p q):=
 ((J.1.mul G.1).add (J.2.1.mul G.2.1)).add (J.2.2.mul G.2.2) |>.mono (by lia)
theorem Bq (h:Kw m M):Kw m (tr M):=⟨⟨h.1.1,h.2.1.1,h.2.2.1⟩,⟨h.1.2.1,h.2.1.2.1,h.2.2.2.1⟩,h.1.2.2,h.2.1.2.2,h.2.2.2.2⟩
theorem qd (h:Kw m M)(G:Bx n v):Bx (m+n+2) (vm M v):=⟨ju h.1 G,ju h.2.1 G,ju h.2.2 G⟩
theorem abJ {N}(h:Kw m M)(h':Kw n N):Kw (n+m+2) (mm M N):=⟨qd (Bq h') h.1,qd (Bq h') h.2.1,qd (Bq h') h.2.2⟩
theorem tE (h:Kw m M):Kw (m+m+1) (K6 M):=⟨gq h.2.1 h.2.2,gq h.2.2 h.1,gq h.1 h.2.1⟩
theorem aeh (h:Kw m M):Kw (m+m+1) (adj M):=Bq (tE h)
noncomputable def wz (h:Gh)(w:W)(ns:List Int):Prop:=w=.lst (ns.map .int)\/w=.tup (ns.map .int)\/∃n,w=.loc n/\h.c n=Dn (.lst (ns.map .int))
theorem wz.src (e:wz h w ns):∃s,Aw h w=Dn s/\s.ws=ns.map .int/\∀h',wz h' w ns->∀P,P->s.go h' P:=by
 rcases e with rfl|rfl|⟨n,rfl,e⟩
 exact⟨_,rfl,rfl,λ_ _ _ p=>p⟩;exact⟨_,rfl,rfl,λ_ _ _ p=>p⟩;refine⟨⟨ns.map .int,Dn (n,ns.map .int)⟩,by simp[Aw,e],rfl,λh' e' P p=>⟨?_,p⟩⟩;rcases e' with e'|e'|⟨m,e',q⟩
 cases e'
 cases e'
 simp_all
theorem zbq {b:MS}(U:σ[i]?=Dn (Dn w))(e:wz h w ns)(I:Nat->Sw->Gh->Prop)
  (a:∀i σ h',I i σ h'->wz h' w ns)
  (O:∀(i:Nat) (t:Int) (σ:Sw) (h:Gh) (N:Sw->Gh->Prop),(∀σ' h',I (i+1) σ' h'->N σ' h')->ns[i]?=Dn t->I i σ h->g (.int t) σ h fun G h1=>b {D with nx:=N,ct:=N,bk:=D.nx} G h1)
  (J:∀σ h,I ns.length σ h->D.nx σ h) (h0:I 0 σ h):vh (K5 (ao i)) g b D σ h:=by
 unfold vh K5 ao;rw[U];dsimp only;obtain⟨s,es,c,Y⟩:=e.src;rw[es];show fW s g b D _ σ h;rw[c];refine Ib I (λi σ h' hi=>Y h'<|a i σ h' hi) (λi w σ h N d e hi=>?_) (fun σ h q=>J σ h<|by rwa[Ik]at q) h0;obtain⟨t,f,rfl⟩:=ints_get e;grind
theorem Kg (U:σ[i]?=Dn (Dn w))(e:wz h w ns)(g:ns.length<=JN)(I:Nat->List W->Gh->Prop)
  (b:∀i acc h',I i acc h'->wz h' w ns)
  (J:∀i t  (acc) (h) (N:List W->Gh->Prop),(∀G h',I (i+1) G h'->N G h')->ns[i]?=Dn t->I i acc h ->
   tt (Dn (.int t)::uq ix σ) h λc h1=>K8 c (te (Dn (.int t)::uq ix σ) h1 λv h2=>N (acc++[v]) h2) (N acc h1))
  (O:∀acc h,I ns.length acc h->Q (.lst acc) h) (h0:I 0 [] h):Jg Jr ix (K5 (ao i)) tt te σ h Q:=by
 unfold Jg K5 ao;rw[U];dsimp only;obtain⟨s,es,d,Y⟩:=e.src;rw[es];show fV _ _;rw[d];refine fV.mk (by rwa[Ik])<|Dl I (λi acc h' hi=>Y h'<|b i acc h' hi) (λi w acc h N a e hi=>?_) (λacc h q=>O acc h<|by rwa[Ik]at q) h0
 obtain⟨t,f,rfl⟩:=ints_get e;exact⟨[.int t],rfl,J i t acc h N a f hi⟩
noncomputable def Ga (c:AP):Prop:=∀{h:Gh}{w:W}{ns:List Int}{Q:WK}{E:Bm},wz h w ns->Q (.int (gL ns)) h->c [w] h Q E
noncomputable def aeI (c0:AP):Prop:=∀{h:Gh}{w:W}{ns:List Int}{m:Nat}{Q:WK}{E:Bm},wz h w ns->NZ ns->(∀n∈ns,Sm m n)->m<=8000->ns.length<=1000 ->
 (∀(ms:List Int) (k:Int),k≠0->ns=ms.map (· * k)->K4 ms->(∀n∈ms,Sm m n)->Q (.tup (ms.map .int)) h)->c0 [w] h Q E
noncomputable def lw (t:Tr):W:=.lst [.int t.1,.int t.2.1,.int t.2.2]
noncomputable def Ua (b:Bool)(t:Tr):W:=if b then tw t else lw t
noncomputable def Wk (b:Bool)(M:Mt):W:=if b then mw M else mwl M
noncomputable def ae0 (c0:AP):Prop:=∀{h:Gh}{p q:Tr}{m:Nat}{Q:WK}{E:Bm}(b b':Bool),m<=10000->Bx m p->Bx m q->Q (tw (crs p q)) h->c0 [Ua b p,Ua b' q] h Q E
noncomputable def afB (c0:AP):Prop:=∀{h:Gh}{p q:Tr}{m:Nat}{Q:WK}{E:Bm}(b b':Bool),m<=10000->Bx m p->Bx m q->Q (.int (dt3 p q)) h->c0 [Ua b p,Ua b' q] h Q E
theorem Ht:ae0 BK:=by
 intro h p q m Q E b b' a J G k;obtain⟨e,d,c⟩:=J;obtain⟨Y,U,O⟩:=G;cases b<;>cases b'
 ·(repeat(refine And.intro (by exact fY.of (by trivial) (by trivial) (by lia) (by lia)) ?_;conv=>whnf))
  exact k
 ·(repeat(refine And.intro (by exact fY.of (by trivial) (by trivial) (by lia) (by lia)) ?_))
  exact k
 ·(repeat(refine And.intro (by exact fY.of (by trivial) (by trivial) (by lia) (by lia)) ?_))
  exact k
 ·(repeat(refine And.intro (by exact fY.of (by trivial) (by trivial) (by lia) (by lia)) ?_))
  exact k
theorem Wc:afB N7:=by
 intro h p q m Q E b b' a J G k;obtain⟨e,d,c⟩:=J;obtain⟨Y,U,O⟩:=G;cases b<;>cases b'
 ·(repeat(refine And.intro (fY.of (by trivial) (by trivial) (by lia) (by lia)) ?_))
  exact k
 ·(repeat(refine And.intro (fY.of (by trivial) (by trivial) (by lia) (by lia)) ?_))
  exact k
 ·(repeat(refine And.intro (by exact fY.of (by trivial) (by trivial) (by lia) (by lia)) ?_))
  exact k
 ·(repeat(refine And.intro (fY.of (by trivial) (by trivial) (by lia) (by lia)) ?_))
  exact k
noncomputable def Ao (c0:AP):Prop:=∀{h:Gh}{M:Mt}{Q:WK}{E:Bm}(b:Bool),Q (.lst [Ua b M.1,Ua b M.2.1,Ua b M.2.2]) h->c0 [Wk b M] h Q E
theorem HJ:Ao yj:=by
 intro h M Q E b k;cases b;exact k
 ·first
  | exact k
noncomputable def jR (c0:AP):Prop:=∀{h:Gh}{M:Mt}{m:Nat}{Q:WK}{E:Bm}(b:Bool),m<=10000->Kw m M->Q (mw (K6 M)) h->c0 [Wk b M] h Q E
variable {ro:AP}
theorem ajJ (G:ae0 cr)(J:Ao ro):jR (Hh cr ro):=by
 intro h M m Q E b O hs k;exact J b<|G b b O hs.2.1 hs.2.2<|G b b O hs.2.2 hs.1<|G b b O hs.1 hs.2.1 k
noncomputable def FZ (c0:AP):Prop:=∀{h:Gh}{M:Mt}{m:Nat}{Q:WK}{E:Bm}(b:Bool),m<=4000->Kw m M->Q (.int (det M)) h->c0 [Wk b M] h Q E
noncomputable def adx (c0:AP):Prop:=∀{h:Gh}{p q r:Tr}{m:Nat}{Q:WK}{E:Bm}(b:Bool),m<=4000->Bx m p->Bx m q->Bx m r->Q (.int (dt3 (crs p q) r)) h->c0 [Ua b p,Ua b q,Ua b r] h Q E
theorem akF (G:afB dt)(J:ae0 cr):adx (Uy dt cr):=by
 intro h p q r m Q E b a U O Y k;exact J b b (by lia) U O<|G true b (by lia) (gq U O) (Y.mono<|by lia) k
variable {tu:AP}
theorem w_size (G:adx tu)(J:Ao ro):FZ (Ac tu ro):=by
 intro h M m Q E b O hs k;exact J b<|G b O hs.1 hs.2.1 hs.2.2 k
noncomputable def Ds (c0:AP):Prop:=∀{h:Gh}{M:Mt}{Q:WK}{E:Bm}(b:Bool),Q (mwl (tr M)) h->c0 [Wk b M] h Q E
theorem alN {b}:∀(i:Nat) (w),[W.int M.1.1,.int M.2.1.1,.int M.2.2.1,.int M.1.2.1,.int M.2.1.2.1,.int M.2.2.2.1,.int M.1.2.2,.int M.2.1.2.2,.int M.2.2.2.2][i]?=Dn w->Q w h ->
  Mk BZ (ao 1) (Mk cj (Mk dz (mC (.int 3)) (Mk zF (ao 0) (mC (.int 3)))) (Mk Fd (ao 0) (mC (.int 3)))) [Dn (.int (i)),Dn (Wk b M)] h Q:=by
 have c:∀a b:Int,Wx _ _=true->Wx _ _=true->fY a b:=λa b h1 h2=>.of (Sm.lit h1) (Sm.lit h2) (by decide) (by decide)
 intro i w e q;match i,e with
 | 0,e|1,e|2,e|3,e|4,e|5,e|6,e|7,e|8,e=>
  obtain rfl:=Ma e;refine And.intro (by decide)<|And.intro (c _ _ rfl rfl)<|And.intro ⟨by decide,64,by decide,.lit rfl⟩ ?_
  cases b;exact q;exact q
theorem M6:Ds zG:=by
 intro h M Q E b k;show Jg Jr [0] (lH (aj (mC (.int 9)) aG)) gU (Mk BZ (ao 1) (Mk cj (Mk dz (mC _) (Mk zF (ao 0) (mC (.int 3)))) _)) [Dn _] h _;refine NK (λ_=>rfl) (by decide) (by decide) (by decide) (λi acc h'=>h'=h/\acc=[W.int M.1.1,.int M.2.1.1,.int M.2.2.1,.int M.1.2.1,.int M.2.1.2.1,.int M.2.2.2.1,.int M.1.2.2,.int M.2.1.2.2,.int M.2.2.2.2].take i) ?_ ?_ ⟨rfl,rfl⟩;rintro i acc h' N J G ⟨rfl,rfl⟩;refine⟨[.int _],rfl,(alN i _ (MH G) ?_)⟩
 simp_all
 rintro acc h' ⟨rfl,rfl⟩;exact k
noncomputable def ac0 (c0:AP):Prop:=∀{h:Gh}{M N:Mt}{m:Nat}{Q:WK}{E:Bm}(b b':Bool),m<=4000->Kw m M->Kw m N->Q (mwl (mm M N)) h->c0 [Wk b M,Wk b' N] h Q E
theorem agM {fl}(J:afB dt)(O:Ao ro)(Y:Ds fl):ac0 (fP dt ro fl):=by
 intro h M N m Q E b b' n a j k;have hT:=Bq j;refine Y b' ?_;refine O false ?_;refine O b ?_;have G:∀(g:Gh) (r:Tr) (i f d:Option W) (Q':WK),Bx m r->Q' (.lst [.int (dt3 r (tr N).1),.int (dt3 r (tr N).2.1),.int (dt3 r (tr N).2.2)]) g ->
   Jg Jr [4] (K5 (ao 2)) gU (aF dt E (aj (ao 1) (aj (ao 0) aG))) [i,f,Dn (.lst [lw (tr N).1,lw (tr N).2.1,lw (tr N).2.2]),d,Dn (Ua b r)] g Q':=by
  intro g r i f d Q' U q;refine J b false (by lia) U hT.1 ?_;refine J b false (by lia) U hT.2.1 ?_;refine J b false (by lia) U hT.2.2 ?_;exact q
 show(match(h.new (.lst [])).c h.nx with
  | some (Cell.lst us)=>_
  | _=>False)
 rw[yp];refine G _ _ _ _ _ _ a.1 ?_;dsimp only[aG];refine Ek (yp _ _) (by simp;decide) ?_;show(match((h.new (.lst [])).set h.nx _).c h.nx with
  | some (Cell.lst us)=>_
  | _=>False)
 rw[jL];refine G _ _ _ _ _ _ a.2.1 ?_;dsimp only[aG];refine Ek (jL _ _ _) (by simp;decide) ?_;show(match(((h.new (.lst [])).set h.nx _).set h.nx _).c h.nx with
  | some (Cell.lst us)=>_
  | _=>False)
 rw[jL];refine G _ _ _ _ _ _ a.2.2 ?_;dsimp only[aG];refine Ek (jL _ _ _) (by simp;decide) ?_;refine⟨λn c l e=>?_,.inr ⟨h.nx,_,rfl,JL _,jL _ _ _,?_,?_⟩⟩;rw[gk (by lia),gk (by lia),gk (by lia),sS (by lia)];exact e;simp[Lo,N5];have e:mwl (mm M N)=.lst [.int (dt3 M.1 (tr N).1),.int (dt3 M.1 (tr N).2.1),.int (dt3 M.1 (tr N).2.2),.int (dt3 M.2.1 (tr N).1),.int (dt3 M.2.1 (tr N).2.1),.int (dt3 M.2.1 (tr N).2.2),.int (dt3 M.2.2 (tr N).1),.int (dt3 M.2.2 (tr N).2.1),.int (dt3 M.2.2 (tr N).2.2)]:=by
  simp only[mwl,mm,vm,cD]
 rw[e]at k;exact k
noncomputable def Wg (c0:AP):Prop:=∀{h:Gh}{M:Mt}{m:Nat}{Q:WK}{E:Bm},m<=3000->Kw m M->det M≠0->(∀N,PlM N->Wn (adj M) N->Kw (m+m+1) N->Q (mw N) h)->c0 [mw M] h Q E
theorem ab2 {U fl}(J:zf U)(O:Ds fl)(G:jR tu):Wg (VJ U fl tu):=by
 intro h M m Q E a sM Y k;exact G true (by lia) sM<|O true<|J.mt (.inr rfl) (cR Y) (aeh sM) (by lia) k
noncomputable def tK (Q:Bool->Gh->Prop):WK:=λw h=>match w with
 | .bl c=>Q c h
 | _=>False
noncomputable def uK (Q:Bool->Gh->Prop):WK:=λw h=>match aeH h w with
 | some b=>Q b h
 | none=>False
noncomputable def aK (b:ME)(σ:Sw)(Q:WK):WK:=λx h=>match x with
 | .bl true=>b σ h Q
 | .bl false=>Q (.bl false) h
 | _=>False
noncomputable def nK (Q:WK):WK:=λx h=>match x with
 | .bl c=>Q (.bl (!c)) h
 | _=>False
noncomputable def iK (R:Src->Gh->Prop):WK:=λw h=>match Aw h w with
 | some s=>R s h
 | none=>False
noncomputable def pK (Q:Option Int->Gh->Prop):WK:=λw h=>match w with
 | .int i=>Q (Dn i) h
 | _=>False
noncomputable def ahD (g:MG)(b:MS)(D:bI)(σ:Sw):Src->Gh->Prop:=λs h=>fW s g b D s.ws σ h
noncomputable def lcK (own:W->Option (List W))(ix:List Nat)(tt:MT)(te:ME)(σ:Sw)(Q:WK):Src->Gh->Prop:=λs h=>fV s.ws.length (zL s own ix tt te σ Q s.ws [] h)
noncomputable def rgK (R:Src->Gh->Prop):List W->Gh->Prop:=λws h=>match ws with
 | [.int j]=>Ay j (R ⟨Bc 0 j.toNat,Go⟩ h)
 | _=>False
noncomputable def zpK (R:Src->Gh->Prop):List W->Gh->Prop:=λws h=>match ws with
 | [x,y]=>(match Vb h x y with
  | some s=>R s h
  | none=>False)
 | _=>False
theorem bw {m u}(x:m {D with nx:=u D} σ h):aU m u D σ h:=x
variable {N:Sw->Gh->Prop}
theorem cW {b c:Sw->Gh->Prop}{r:WK}(x:N σ h):bI.nx ⟨N,r,b,c⟩ σ h:=x
theorem V3 {b c r}(x:r w h):bI.rt ⟨N,r,b,c⟩ w h:=x
theorem dI (x:D.nx σ h):bK D σ h:=x
theorem bO {m}(x:m σ h λw h1=>g w σ h1 D.nx):bF m g D σ h:=x
theorem jD {m}(x:m σ h λ_ h1=>D.nx σ h1):oE m D σ h:=x
theorem dB {m}(x:m σ h D.rt):bN m D σ h:=x
theorem ajN {c}(x:E ⟨c,[]⟩ h):jA c E D σ h:=x
theorem eU {t}{a b}(x:t σ h λc h1=>br c (a D σ h1) (b D σ h1)):d7 t a b D σ h:=x
theorem ZL {t:MT}{a b:ME}(x:t σ h λc h1=>br c (a σ h1 Q) (b σ h1 Q)):mIf t a b σ h Q:=x
variable {mh:MS}{mb:Bm->MS}
theorem Qs {g}(e:w=.tup ws)(b:Rb ws.length n=true)(x:g ws σ h N):Jj n g w σ h N:=by
 subst e;unfold Jj;dsimp only
 rwa[b]
theorem Cw {r:TF}(x:g w σ h fun G h1=>r ws G h1 N):Tz g r (w::ws) σ h N:=x
theorem Vu (x:N σ h):agb [] σ h N:=x
theorem aA (e:σ[i]?=Dn (Dn w))(x:Q w h):ao i σ h Q:=by
 unfold ao
 rwa[e]
theorem dW (x:Q w h):mC w σ h Q:=x
theorem bA {r}{ma mb}(x:ma σ h λa h1=>mb σ h1 λb h2=>r a b h2 Q):Mk r ma mb σ h Q:=x
theorem aB {a r}{Q}(x:a σ h λw h1=>r σ h1 λws h2=>Q (w::ws) h2):aj a r σ h Q:=x
theorem aL {Q}(x:Q [] h):aG σ h Q:=x
theorem pD {P}(e:Wx n 1000=true)(x:P):fV n P:=by
 unfold fV
 rwa[e]
theorem GZ {t}(x:t σ h λws h1=>fV ws.length (Q (.tup ws) h1)):Ec t σ h Q:=x
theorem Ux {t}(x:t σ h λws h1=>fV ws.length (Q (.lst ws) h1)):oh t σ h Q:=x
theorem aZ {c:AP}(x:ma σ h λws h1=>c ws h1 Q E):aF c E ma σ h Q:=x
theorem fZ {r}(x:ma σ h λws h1=>r ws h1 Q):Jl r ma σ h Q:=x
theorem bR {m}{Q}(x:m σ h (tK Q)):bC m σ h Q:=x
theorem qH {c}{Q}(x:Q c h):tK Q (.bl c) h:=x
theorem Gv {m}{Q}(x:m σ h (uK Q)):J3 m σ h Q:=x
theorem aew {b}{Q}(e:aeH h w=Dn b)(x:Q b h):uK Q w h:=by
 unfold uK
 rwa[e]
theorem V8 {t:MT}{Q:Bool->Gh->Prop}(x:t σ h λc h1=>Q (!c) h1):ZV t σ h Q:=x
theorem VR {t u}{Q}(x:t σ h λc h1=>br c (u σ h1 Q) (Q false h1)):agH t u σ h Q:=x
theorem abv {t u}{Q}(x:t σ h λc h1=>br c (Q true h1) (u σ h1 Q)):mOr t u σ h Q:=x
theorem gj {Q}(x:Q true h):gU σ h Q:=x
theorem Oe {a:ME}(x:a σ h (nK Q)):K1 a σ h Q:=x
theorem aho {b}{c}(x:br c (b σ h Q) (Q (.bl false) h)):aK b σ Q (.bl c) h:=by
 cases c with
 | true=>exact x.1 rfl
 | false=>exact x.2 rfl
theorem agi {c}(x:Q (.bl (!c)) h):nK Q (.bl c) h:=x
theorem Yk {a b:Prop}(x:a):br true a b:=mY rfl x
theorem Tc {a b}(x:b):br false a b:=cY rfl x
theorem adI {a b}(x:b):br (!true) a b:=Tc x
theorem acu {a b}(x:a):br (!false) a b:=Yk x
theorem dg {a b}(x:a):K8 true a b:=x
theorem yJ {a b}(x:b):K8 false a b:=x
theorem Pj {i:Int}(x:Q (.int (i-j)) h):Az (.int i) (.int j) h Q:=x
theorem gK {i}(x:Q (.int (i+j)) h):cj (.int i) (.int j) h Q:=x
theorem Vi {i}(c:fY i j)(x:Q (.int (i*j)) h):dz (.int i) (.int j) h Q:=⟨c,x⟩
theorem NT {i}(c:Ov i j)(x:Q (.int (i.fdiv j)) h):Fd (.int i) (.int j) h Q:=⟨c,x⟩
theorem GQ {i}(c:j≠0)(x:Q (.int (i.fmod j)) h):zF (.int i) (.int j) h Q:=⟨c,x⟩
theorem adg {i}(x:Q (.bl (decide (i<j))) h):kLt (.int i) (.int j) h Q:=x
theorem abo {i:Int}(x:Q (.bl (decide (i>j))) h):W6 (.int i) (.int j) h Q:=x
theorem afu {i}(x:Q (.bl (decide (i=j))) h):Jx (.int i) (.int j) h Q:=x
theorem Yr {i}(x:Q (.bl (decide (i≠j))) h):Oj (.int i) (.int j) h Q:=by
 have e:(!Jf (.int i) (.int j))=decide (i≠j):=by rw[bZ];by_cases z:i=j<;>simp[z]
 show Q _ h
 rwa[e]
theorem Zd {i j}(x:Q (.bl (decide (i≠j))) h):Oj (.bl i) (.bl j) h Q:=by
 have e:(!Jf (.bl i) (.bl j))=decide (i≠j):=by cases i<;>cases j<;>rfl
 show Q _ h
 rwa[e]
theorem Ul (x:Q (.bl (decide (p≠q))) h):Oj (tw p) (tw q) h Q:=by
 have e:(!Jf (tw p) (tw q))=decide (p≠q):=by rw[JF];by_cases z:p=q<;>simp
 show Q _ h
 rwa[e]
theorem d8 {x}{i}(e:view h x=Dn ws)(a:OD ws i=Dn w)(k:Q w h):BZ x (.int i) h Q:=by
 unfold BZ;simp_all
theorem DP {T b}(e:aeR h w T=Dn b)(x:Q (.bl b) h):aaE [w,.ty T] h Q:=by
 unfold aaE;simp_all
theorem fH {xs}(e:view h w=Dn xs)(x:Q (.int (xs.length:Int)) h):Jw [w] h Q:=by
 unfold Jw;simp_all
theorem Hr (x:Q (.tup us) h):pB [.lst us] h Q:=x
variable {bs:List Bool}
theorem UW (e:d9 h w=Dn us)(b:QB us=Dn bs)(x:Q (.bl (bs.any id)) h):aay [w] h Q:=by
 unfold aay;simp_all
theorem U9 (e:d9 h w=Dn us)(b:z8 us=Dn ns)(x:Q (.int ns.sum) h):Z0 [w] h Q:=by
 unfold Z0;simp_all
theorem acK {b:Bool}(x:Q (.int (if b then 1 else 0)) h):Xp [.bl b] h Q:=x
theorem uW {mi b}(x:mi σ h (ahD g b D σ)):vh mi g b D σ h:=x
variable {o:Option (Nat×List W)}
theorem vf {b}(x:fW ⟨ws,o⟩ g b D ws σ h):ahD g b D σ ⟨ws,o⟩ h:=x
variable {R:Src->Gh->Prop}
theorem uy {m}(x:m σ h (iK R)):K5 m σ h R:=x
theorem J6 (e:Aw h w=Dn ⟨ws,o⟩)(x:R ⟨ws,o⟩ h):iK R w h:=by
 unfold iK
 rwa[e]
theorem rB (x:ma σ h (rgK R)):lH ma σ h R:=x
theorem ac5 (x:ma σ h (zpK R)):aeL ma σ h R:=x
variable {as:List W}
theorem afz {a b}{bs}(e:rD a=Dn as)(e':rD b=Dn bs)(z:vN as bs=zs)(x:R ⟨zs,Go⟩ h):zpK R [a,b] h:=by
 subst z;have es:Vb h a b=Dn ⟨vN as bs,Go⟩:=by unfold Vb;rw[e,e']
 unfold zpK;simp_all
theorem ag9 {bs}:vN [] bs=[]:=rfl
theorem afs {a b:W}{bs l:List W}(e:vN as bs=l):vN (a::as) (b::bs)=.tup [a,b]::l:=by rw[vN,e]
theorem qu {mi}(x:mi σ h (lcK own ix tt te σ Q)):Jg own ix mi tt te σ h Q:=x
theorem uD (e:Wx ws.length 1000=true)(x:zL ⟨ws,o⟩ own ix tt te σ Q ws [] h):lcK own ix tt te σ Q ⟨ws,o⟩ h:=pD e x
variable {acc:List W}
theorem ady (x:Q (.lst acc) h):zL ⟨ws,Go⟩ own ix tt te σ Q [] acc h:=x
theorem acC {r G}(e:own w=Dn G)(x:tt (G.map Dn++uq ix σ) h λc h1=>K8 c (te (G.map Dn++uq ix σ) h1 λv h2=>zL ⟨ws,Go⟩ own ix tt te σ Q r (acc++[v]) h2) (zL ⟨ws,Go⟩ own ix tt te σ Q r acc h1)):zL ⟨ws,Go⟩ own ix tt te σ Q (w::r) acc h:=by
 show match own w with
  | some G=>tt _ h λc h1=>K8 c _ _
  | none=>False
 rwa[e]
variable {body:Bm->MS}
theorem agJ {N}(hl:Rb ws.length n=true)(x:body E {nx:=λ_ h'=>Q .non h',rt:=Q} (ws.map Dn++RP (N-ws.length) Go) h):JH n N false body ws h Q E:=by
 unfold JH
 rwa[hl]
theorem tU {r m}{l u}(x:m σ h λa h1=>l σ h1 λlo h2=>u σ h2 λhi G=>r a lo hi G Q):RX r m l u σ h Q:=x
theorem fK {m}{Q}(x:m σ h (pK Q)):iQ m σ h Q:=x
theorem Kr {i}{Q}(x:Q (Dn i) h):pK Q (.int i) h:=x
theorem Om {c}[Decidable c]{a b}(x:¬c->a)(y:c->b):br (!decide c) a b:=⟨λe=>x (by simpa using e),λe=>y (by simpa using e)⟩
theorem aaD {G:Type}{a x:G}{l}:(a::l).set 0 x=x::l:=rfl
theorem aaI {G:Type}{a x:G}{l l'}(e:l.set n x=l'):(a::l).set (n+1) x=a::l':=by simp_all
theorem w6 {σ':Sw}(e:σ.set i (Dn w)=σ')(x:N σ' h):kI i w σ h N:=by
 subst e;exact x
theorem nV {σ'}(x:N σ' h)(e:σ.set i (Dn w)=σ':=by repeat(first|with_reducible exact aaD|with_reducible apply aaI)):kI i w σ h N:=w6 e x
noncomputable def ini (ws:List W)(n:Nat):Sw:=ws.map Dn++RP (n-ws.length) Go
theorem agV:ini [] 0=[]:=rfl
theorem ag5 {l}(e:ini [] n=l):ini [] (n+1)=Go::l:=by
 subst e;rfl
theorem ahg {l}(e:ini ws n=l):ini (w::ws) (n+1)=Dn w::l:=by
 subst e;unfold ini;simp_all
theorem mK {N}(hl:Rb ws.length n=true)(e:ini ws N=σ)(x:body E {nx:=λ_ h'=>Q .non h',rt:=Q} σ h):JH n N false body ws h Q E:=by
 subst e;exact agJ hl x
theorem K9 {mo mi ms}(x:mo σ h λo h1=>mi σ h1 λi h2=>ms o i w h2 λh3=>N σ h3):Jk mo mi ms w σ h N:=x
variable {ws':List W}
theorem Dk {j}{N}(e:h.c n=Dn (.lst ws))(i:Ro ws.length k=Dn j)(s:ws.set j w=ws')(x:∀g,g.c n=Dn (.lst ws')->(∀m,m≠n->g.c m=h.c m)->g.nx=h.nx->N g):Iw (.loc n) (.int k) w h N:=by
 subst s;show(match h.c n with
  | some (Cell.lst ws)=>(match Ro _ k with
   | some j=>N _
   | none=>False)
  | _=>False)
 rw[e];dsimp only;exact i ▸ x _ (jL _ _ _) (λ_ e=>gk e) rfl
theorem ait (e:h.c n=Dn (.lst ws))(x:R ⟨ws,Dn (n,ws)⟩ h):iK R (.loc n) h:=J6 (by simp[Aw,e]) x
theorem za {N}(hl:Rb ws.length n=true)(e:ini ws N=σ)(x:body E {nx:=λ_ h'=>wG true h .non h' Q,rt:=λw h'=>wG true h w h' Q} σ h):JH n N true body ws h Q E:=by
 subst e;unfold JH
 rwa[hl]
theorem nQ {a b}(x:Q (.bl (decide (a=b))) h):Jx (.str a) (.str b) h Q:=x
local macro_rules | `(tactic| rfl') => `(tactic| repeat (first
 | with_reducible (first|refine bw ?_|refine bO ?_|refine aZ ?_|refine aB ?_|refine aL ?_)
 | ((with_reducible apply aA);exact rfl)|with_reducible refine dW ?_|with_reducible refine bA ?_|with_reducible refine w6 (by repeat(first|with_reducible exact aaD|with_reducible apply aaI)) ?_|with_reducible (first|refine cW ?_|refine V3 ?_)
 | with_reducible (first|refine eU ?_|refine ZL ?_|refine dB ?_|refine jD ?_|refine dI ?_|refine ajN ?_)
 | with_reducible (first|refine bR ?_|refine qH ?_|refine Gv ?_)|((with_reducible apply aew);exact rfl)|with_reducible (first|refine V8 ?_|refine VR ?_|refine abv ?_|refine gj ?_)
 | with_reducible (first|refine Oe ?_|refine aho ?_|refine agi ?_)
 | with_reducible (first|refine Yk ?_|refine Tc ?_|refine adI ?_|refine acu ?_|refine dg ?_|refine yJ ?_)
 | with_reducible refine GZ ?_|with_reducible refine Ux ?_|((with_reducible apply pD);exact rfl)|with_reducible (first|refine fZ ?_)
 | ((with_reducible apply Qs);exact rfl;exact rfl)|with_reducible refine Cw ?_|with_reducible refine Vu ?_
 | with_reducible refine Pj ?_|with_reducible refine gK ?_|((with_reducible apply Vi);exact fY.of (by trivial) (by trivial) (by lia) (by lia))|with_reducible refine adg ?_|with_reducible refine abo ?_
 | with_reducible (first|refine afu ?_|refine Yr ?_|refine Zd ?_|refine Ul ?_)
 | ((with_reducible apply d8);exact rfl;exact rfl)|((with_reducible apply DP);exact rfl)|((with_reducible apply fH);exact rfl)|with_reducible refine Hr ?_|((with_reducible apply UW);exact rfl;exact rfl)|((with_reducible apply U9);exact rfl;exact rfl)|with_reducible refine acK ?_
 | with_reducible (first|refine uW ?_|refine vf ?_|refine uy ?_)|((with_reducible apply J6);exact rfl)|with_reducible (first|refine rB ?_|refine ac5 ?_)|((with_reducible apply afz);exact rfl;exact rfl;(repeat(first|with_reducible exact ag9|with_reducible exact aha|with_reducible apply afs)))
 | with_reducible refine qu ?_|((with_reducible apply uD);exact rfl)|with_reducible refine ady ?_|((with_reducible apply acC);exact rfl)|((with_reducible apply mK);exact rfl;repeat(first|with_reducible exact agV|with_reducible apply ahg|with_reducible apply ag5))|with_reducible (first|refine tU ?_|refine fK ?_|refine Kr ?_)|with_reducible refine aeW (by repeat(first|with_reducible exact aaD|with_reducible apply aaI)) (by repeat(first|with_reducible exact aaD|with_reducible apply aaI)) (by repeat(first|with_reducible exact aaD|with_reducible apply aaI)) ?_|((with_reducible apply agI);decide +kernel;(repeat(first|with_reducible exact aaD|with_reducible apply aaI)))|((with_reducible apply ae8);decide +kernel)|((with_reducible apply afY);decide +kernel)|((with_reducible apply agt);decide +kernel)|with_reducible refine K9 ?_|((with_reducible apply ait);(with_reducible assumption))|((with_reducible apply zbt);(with_reducible assumption))|((with_reducible apply zbw);(with_reducible assumption))|((with_reducible apply amd);(with_reducible assumption))|((with_reducible apply amn);(with_reducible assumption);exact rfl)|((with_reducible apply aeY);(with_reducible assumption);exact rfl)|((with_reducible apply ae6);(with_reducible assumption);exact rfl;(repeat(first|with_reducible exact ag9|with_reducible exact aha|with_reducible apply afs)))|((with_reducible apply za);exact rfl;(repeat(first|with_reducible exact agV|with_reducible apply ahg|with_reducible apply ag5)))|with_reducible (first|refine nQ ?_)|((with_reducible apply abF);decide +kernel)))
noncomputable def LQ (h:Gh)(n:Nat):Prop:=∃a b,h.c n=Dn (.lst [.int a,.int b])/\0<=b/\b<2147483647
noncomputable def uR (c:AP):Prop:=∀{h:Gh}{n:Nat}{many:Int}{Q:WK}{E:Bm},LQ h n->0<many->Sm 60 many->(∀d h',0<=d->d<many->LQ h' n->Tv n h h'->Q (.int d) h')->c [.loc n,.int many] h Q E
theorem zq:uR Fq:=by
 intro h n J Q E g Y hs k;obtain⟨a,b,e,l,j⟩:=g;have G:J≠0:=by lia
 have d:=jP e;have U:∀{h':Gh}{a b:Int},h'.c n=Dn (.lst [.int a,.int b])->0<=b->b<2147483647->LQ h' n:=λe i h1=>⟨_,_,e,i,h1⟩
 show(match view h (.loc n)with
  | some ws=>_
  | none=>False)
 rw[d];refine Ir (λ_=>?_)<|λ_=>?_
 ·show(match view h (.loc n)with
   | some ws=>_
   | none=>False)
  rw[d];refine And.intro G ?_;show(match view h (.loc n)with
   | some ws=>_
   | none=>False)
  rw[d];refine And.intro ⟨G,60,by decide,hs⟩ ?_;show(match h.c n with
   | some (Cell.lst ws)=>_
   | _=>False)
  rw[e];rw[iI Y];exact k _ _ (Ys _ G) (ZX _ Y) (U (jL _ _ _) l j) Tv.set
 ·show(match view h (.loc n)with
   | some ws=>_
   | none=>False)
  rw[d];refine And.intro (.of (m:=31) (n:=64) (Oz (by lia)<|by lia) (.lit rfl) (by decide)<|by decide) ?_;refine And.intro (show(2147483647:Int)≠0 by decide) ?_;show(match h.c n with
   | some (Cell.lst ws)=>_
   | _=>False)
  rw[e];have c0:0<=(b*48271+11).fmod 2147483647:=by rw[iI (by decide)];exact Ys _ (by decide)
  have c1:(b*48271+11).fmod 2147483647<2147483647:=by rw[iI (by decide)];exact ZX _ (by decide)
  have e2:(h.set n (.lst [.int a,.int ((b*48271+11).fmod 2147483647)])).c n=Dn (.lst [.int a,.int ((b*48271+11).fmod 2147483647)]):=jL _ _ _;have O:=jP e2;have f:Tv n h (h.set n (.lst [.int a,.int ((b*48271+11).fmod 2147483647)])):=Tv.set;show(match view (h.set n (.lst [.int a,.int ((b*48271+11).fmod 2147483647)])) (.loc n)with
   | some ws=>_
   | none=>False)
  rw[O];show(match view (h.set n (.lst [.int a,.int ((b*48271+11).fmod 2147483647)])) (.loc n)with
   | some ws=>_
   | none=>False)
  rw[O];generalize(b*48271+11).fmod 2147483647=c at *;refine And.intro ⟨by decide,64,by decide,.lit rfl⟩ ?_;have p:0<=c.fdiv 65536:=by rw[GD (by decide)];lia
  have o:c.fdiv 65536<2147483647:=by rw[GD (by decide)];lia
  refine And.intro (.of (m:=31) (n:=40) (Oz (by lia)<|by lia) (Oz (by lia)<|by omega) (by decide)<|by decide) ?_;refine And.intro (show(2147483629:Int)≠0 by decide) ?_;refine And.intro ⟨by decide,64,by decide,.lit rfl⟩ ?_;refine And.intro G ?_;rw[iI Y];exact k _ _ (Ys _ G) (ZX _ Y) (U e2 c0 c1) f
noncomputable def Cd (c:AP):Prop:=∀{h:Gh}{ns:List Int}{k:Int}{Q:WK}{E:Bm},0<=k->Q (.int (ns.getD k.toNat 0)) h->c [.kls (ns.map .int),.int k] h Q E
theorem Ve:Cd Hu:=by
 intro h ns k Q E G q;refine Ir (λhk=>?_)<|λhk=>?_
 conv=>whnf
 rwa[ajy G hk]
 have e:ns.getD k.toNat 0=0:=by
  simp_all
 rwa[e]at q
noncomputable abbrev C6:=Int×Int×Int×Int×Int×Int
noncomputable def Je (c:C6):W:=.tup [.int c.1,.int c.2.1,.int c.2.2.1,.int c.2.2.2.1,.int c.2.2.2.2.1,.int c.2.2.2.2.2]
noncomputable def Ja (c:C6):List Int:=[c.1,c.2.1,c.2.2.1,c.2.2.2.1,c.2.2.2.2.1,c.2.2.2.2.2]
noncomputable def Jp (m:Nat)(c:C6):Prop:=Sm m c.1/\Sm m c.2.1/\Sm m c.2.2.1/\Sm m c.2.2.2.1/\Sm m c.2.2.2.2.1/\Sm m c.2.2.2.2.2
noncomputable def bQ (c:C6):Mt:=((2*c.1,c.2.1,c.2.2.2.1),(c.2.1,2*c.2.2.1,c.2.2.2.2.1),(c.2.2.2.1,c.2.2.2.2.1,2*c.2.2.2.2.2))
theorem pJ {x}(h:Sm m x):Sm (m+1) (2*x):=by
 unfold Sm at h|-
 lia
theorem gW {c}(h:Jp m c):Kw (m+1) (bQ c):=by
 obtain⟨h1,h2,U,J,G,O⟩:=h;exact⟨⟨pJ h1,h2.mono<|by lia,J.mono<|by lia⟩,⟨h2.mono<|by lia,pJ U,G.mono<|by lia⟩,J.mono<|by lia,G.mono<|by lia,pJ O⟩
noncomputable def TabOk (c0:AP):Prop:=∀{h:Gh}{c:C6}{m:Nat}{Q:WK}{E:Bm},m<=5000->Jp m c->Q (mw (bQ c)) h->c0 [Je c] h Q E
theorem w_tab:TabOk uX:=by
 intro h c m Q E G hs k;obtain⟨h1,h2,Y,U,O,J⟩:=hs
 (repeat(refine And.intro (fY.of (by trivial) (by trivial) (by lia) (by lia)) ?_))
 exact k
noncomputable def CG (c0:AP):Prop:=∀{h:Gh}{M:Mt}{p:Tr}{m:Nat}{Q:WK}{E:Bm},m<=5000->Kw m M->Bx m p->Q (.lst [.int (vm M p).1,.int (vm M p).2.1,.int (vm M p).2.2]) h->c0 [mw M,tw p] h Q E
theorem afn (G:QC dt)(J:Ao ro):CG (iu dt ro):=by
 intro h M p m Q E U hs O k;exact J true<|G (by lia) hs.1 O<|G (by lia) hs.2.1 O<|G (by lia) hs.2.2 O k
noncomputable def ZP (c0:AP):Prop:=∀{h:Gh}{t:Tr}{m:Nat}{Q:WK}{E:Bm},m<=8000->Bx m t->(t≠(0,0,0)->∀u,Pl u->JT t u->Bx m u->Q (tw u) h)->(t=(0,0,0)->Q .non h)->c0 [.lst [.int t.1,.int t.2.1,.int t.2.2]] h Q E
theorem aei {J}(G:zf J):ZP (jx J):=by
 intro h t m Q E O hs k k0;obtain⟨a,b,c⟩:=t;show br _ _ _;by_cases e:(a,b,c)=((0,0,0):Tr)
 refine cY (by rw[(congrArg (·.1) e),(congrArg (·.2.1) e),(congrArg (·.2.2) e)];rfl) ?_;exact k0 e;refine mY ?_<|G.tr (.inr rfl) e hs O<|k e
 rw[bZ,bZ,bZ];grind
noncomputable def Mr (c0:AP):Prop:=∀{h:Gh}{c:C6}{p:Tr}{m:Nat}{Q:WK}{E:Bm},m<=3000->Jp m c->Bx m p->(vm (bQ c) p≠(0,0,0)->∀u,Pl u->JT (vm (bQ c) p) u->Bx (m+m+4) u->Q (tw u) h)->(vm (bQ c) p=(0,0,0)->E ⟨"Knot",[]⟩ h)->c0 [Je c,tw p] h Q E
variable {ta:AP}
theorem adV {tt a}(J:CG tt)(O:TabOk ta)(U:ZP a):Mr (pH tt ta a):=by
 intro h c p m Q E i Y b k g;exact O (by lia) Y<|J (by lia) (gW Y) (b.mono<|by lia)<|U (by lia) ((qd (gW Y)<|b.mono<|show m<=m+1 by lia).mono (by lia)) (λe u f G d=>(cY rfl<|k e u f G d)) λe=>(mY rfl<|g e)
noncomputable def wK (p q:Tr):C6:=(p.1*q.1,p.1*q.2.1+p.2.1*q.1,p.2.1*q.2.1,p.1*q.2.2+p.2.2*q.1,p.2.1*q.2.2+p.2.2*q.2.1,p.2.2*q.2.2)
theorem Jp.mono {m n c}(h:Jp m c)(e:m<=n):Jp n c:=⟨h.1.mono e,h.2.1.mono e,h.2.2.1.mono e,h.2.2.2.1.mono e,h.2.2.2.2.1.mono e,h.2.2.2.2.2.mono e⟩
theorem vR (J:Bx m p)(G:Bx m q):Jp (m+m+1) (wK p q):=
 ⟨(J.1.mul G.1).mono (by lia),((J.1.mul G.2.1).add (J.2.1.mul G.1)).mono (by lia),(J.2.1.mul G.2.1).mono (by lia),((J.1.mul G.2.2).add (J.2.2.mul G.1)).mono (by lia),((J.2.1.mul G.2.2).add (J.2.2.mul G.2.1)).mono (by lia),(J.2.2.mul G.2.2).mono (by lia)⟩
theorem Jp.all {c:C6}(h:Jp m c):∀n∈Ja c,Sm m n:=by
 intro n G;simp[Ja]at G;rcases G with rfl|rfl|rfl|rfl|rfl|rfl
 exact h.1;exact h.2.1;exact h.2.2.1;exact h.2.2.2.1;exact h.2.2.2.2.1;exact h.2.2.2.2.2
noncomputable def IK (c:C6)(p:Tr):Int:=c.1*p.1*p.1+c.2.2.1*p.2.1*p.2.1+c.2.2.2.2.2*p.2.2*p.2.2+c.2.1*p.1*p.2.1+c.2.2.2.1*p.1*p.2.2+c.2.2.2.2.1*p.2.1*p.2.2
noncomputable def abP (c0:AP):Prop:=∀{h:Gh}{c:C6}{p:Tr}{m:Nat}{Q:WK}{E:Bm},m<=4000->Jp m c->Bx m p->Q (.int (IK c p)) h->c0 [Je c,tw p] h Q E
theorem Nt:abP Dc:=by
 intro h c p m Q E a J G k;obtain⟨h1,h2,f,e,d,b⟩:=J;obtain⟨Y,U,O⟩:=G;unfold Dc;rfl'
 exact k
noncomputable def af5 (c0:AP):Prop:=∀{h:Gh}{c:C6}{p:Tr}{m:Nat}{Q:WK}{E:Bm},m<=4000->Jp m c->Bx m p->Q (.bl (decide (IK c p=0))) h->c0 [Je c,tw p] h Q E
theorem w_on {J}(G:abP J):af5 (nG J):=by
 intro h c p m Q E U Y O k;exact G U Y O k
theorem ae4 (c:C6)(p:Tr):IK (c.1*k,c.2.1*k,c.2.2.1*k,c.2.2.2.1*k,c.2.2.2.2.1*k,c.2.2.2.2.2*k) p=IK c p*k:=by
 simp[IK];grind
noncomputable def kC (k:Int)(c:C6):C6:=(c.1*k,c.2.1*k,c.2.2.1*k,c.2.2.2.1*k,c.2.2.2.2.1*k,c.2.2.2.2.2*k)
theorem zf.c6p (U:zf c0){c}(hw:w=.lst [.int c.1,.int c.2.1,.int c.2.2.1,.int c.2.2.2.1,.int c.2.2.2.2.1,.int c.2.2.2.2.2]\/w=Je c)(g:NZ (Ja c))(hs:Jp m c)(i:m<=8000)(k:∀x  (j),j≠0->c=kC j x->K4 (Ja x)->Jp m x->Q (Je x) h):c0 [w] h Q E:=by
 refine U (ns:=Ja c) hw g hs.all i (by show 6<=1000;decide) λms j hj J O G=>?_;have hl:ms.length=6:=by have:=congrArg Tj J;rw[Ik]at this;exact this.symm
 match ms,hl,G,J,O with
 | [f,e,d,b,a,Y],_,G,J,O=>
  refine k (f,e,d,b,a,Y) j hj ?_ O ⟨G _<|by simp,G _<|by simp,G _<|by simp,G _<|by simp,G _<|by simp,G _<|by simp⟩;obtain⟨r,q,p,o,n,l⟩:=c
  simpa[Ja,kC]using J
theorem xQ {x y}{s t}(J:K4 (Ja x))(G:K4 (Ja y))(hs:s≠0)(ht:t≠0)(e:kC s x=kC t y):x=y:=by
 obtain⟨j,i,h,g,f,d⟩:=x;obtain⟨c,b,a,Y,U,O⟩:=y
 simpa[Ja]using(Us J G hs ht (congrArg Ja e))
theorem P0 (k)(c)(p):IK (kC k c) p=IK c p*k:=ae4 c p
theorem qG (l o s):IK (wK l o) s=dt3 l s*dt3 o s:=by
 simp[IK,wK,dt3];grind
noncomputable def SQ (c0:AP):Prop:=∀{h:Gh}{c:C6}{m:Nat}{Q:WK}{E:Bm},m<=2000->Jp m c->Q (.bl (decide (det (bQ c)≠0))) h->c0 [Je c] h Q E
theorem zch {J}(hsz:FZ J)(G:TabOk ta):SQ (uO J ta):=by
 intro h c m Q E U O k;refine G (by lia) O<|hsz true (by lia) (gW O) ?_
 rfl'
 exact k
noncomputable def nH (c0:AP):Prop:=∀{h:Gh}{p q:Tr}{m:Nat}{Q:WK}{E:Bm},m<=3900->Bx m p->Bx m q->Pl p->Pl q->(p≠q->∀t:Tr,Pl t->JT (crs p q) t->Bx (m+m+1) t->Q (tw t) h)->(p=q->E ⟨"Alike",[]⟩ h)->c0 [tw p,tw q] h Q E
theorem yR {O}(G:zf O)(J:Lk cr):nH (iR O cr):=by
 intro h p q m Q E b sp U Y pq k a;by_cases e:p=q
 show br _ _ _;rw[JF];exact mY (decide_eq_true e)<|a e
 exact Dq G J b sp U Y pq e<|k e
theorem amD {G}(J:nH G):nH (Wb G):=by
 assumption
theorem aap {G}(J:nH G):nH (Mj G):=by
 assumption
theorem adJ (a b c:Int):crs (a,b,c) (1,0,0)=(0,c,-b):=by simp[crs]
theorem acM (a b c):crs (a,b,c) (0,1,0)=(-c,0,a):=by simp[crs]
theorem abI (a b c):crs (a,b,c) (0,0,1)=(b,-a,0):=by simp[crs]
theorem acy {l:Tr}(d:l≠(0,0,0))(h1:crs l (1,0,0)=(0,0,0)\/JT (crs l (1,0,0)) p)(h2:crs l (0,1,0)=(0,0,0)\/JT (crs l (0,1,0)) p)(G:crs l (0,0,1)=(0,0,0)\/JT (crs l (0,0,1)) p):False:=by
 obtain⟨a,b,c⟩:=l;obtain⟨x,y,z⟩:=p;rw[adJ]at h1;rw[acM]at h2;rw[abI]at G;simp only[JT,sc,Yo]at h1 h2 G;by_cases O:a=0
 by_cases Y:b=0
 have c0:c≠0:=λc0=>d (by rw[O,Y,c0])
 rcases h1 with h1|⟨k,J,e1,e2,e3⟩
 lia;rcases h2 with h2|⟨j,hj,f1,f2,f3⟩
 lia;rw[((Jq.mp e1.symm).resolve_right J)]at f1;lia;rcases h1 with h1|⟨k,J,e1,e2,e3⟩
 lia;rcases G with G|⟨j,hj,f1,f2,f3⟩
 exact Y G.1;rw[((Jq.mp e1.symm).resolve_right J)]at f1;lia;rcases h2 with h2|⟨k,J,e1,e2,e3⟩
 exact O h2.2.2;rcases G with G|⟨j,hj,f1,f2,f3⟩
 exact O<|by lia
 rw[((Jq.mp e2.symm).resolve_right J)]at f2;lia
theorem qU {r}{mo}(x:mo σ h λx h1=>JX h1 x (ma σ h1 λxs h2=>r x xs h2 Q)):Cy r mo ma σ h Q:=x
theorem lE {P}(e:h.c n=Dn (.lst us))(p:P):JX h (.loc n) P:=by
 simp[JX,e];exact p
theorem qO (J:∀R,ma σ h R=R ws h)(G:Wx ws.length 1000=true)(x:∀g:Gh,g.c h.nx=Dn (.lst ws)->(∀n,n≠h.nx->g.c n=h.c n)->g.nx=h.nx+1->Q (.loc h.nx) g):oX ma σ h Q:=by
 unfold oX;rw[J];exact pD G<|x _ (yp _ _) (λ_ e=>sS e) rfl
theorem agn (e:h.c n=Dn (.lst us))(G:us.length+zs.length<=1000)(k:∀g,g.c n=Dn (.lst (us++zs))->(∀m,m≠n->g.c m=h.c m)->g.nx=h.nx->Q .non g):iT (.loc n) [.lst zs] h Q:=
 Ek e (Jz G (by decide)) (k _ (jL _ _ _) (λ_ e=>gk e) rfl)
theorem Il (e:h.c n=Dn (.lst us))(G:us.length<=1000)(k:∀g,g.c n=Dn (.lst (us++[w]))->(∀m,m≠n->g.c m=h.c m)->g.nx=h.nx->Q .non g):dF (.loc n) [w] h Q:=
 adM e (Yw G (by decide)) (k _ (jL _ _ _) (λ_ e=>gk e) rfl)
noncomputable def rng (a m:Nat):List Nat:=List.range' a (m-a)
theorem xV {a x}:x∈rng a m↔a<=x/\x<m:=by
 unfold rng;grind
theorem Dv (a m:Nat):Bc (a) ((m)-(a:Int)).toNat=(rng a m).map λx:Nat=>W.int (x):=by
 unfold Bc rng;rw[List.range'_eq_map_range];simp
theorem akT (m:Nat):Bc 0 ((m:Nat):Int).toNat=(rng 0 m).map λx:Nat=>W.int (x:Int):=by
 have:=Dv 0 m
 exact this
noncomputable def ahw (R:Src->Gh->Prop):List W->Gh->Prop:=λws h=>match ws with
 | [.int i,.int j]=>Ay i (Ay j (R ⟨Bc i (j-i).toNat,Go⟩ h))
 | _=>False
theorem Bd (x:ma σ h (ahw R)):CN ma σ h R:=x
theorem Ny {a}(ha:a=(n:Int))(h1:n<=1000)(h2:m<=1000)(x:R ⟨(rng n m).map λx:Nat=>W.int (x),Go⟩ h):ahw R [.int a,.int (m)] h:=by
 subst ha;rw[<-Dv]at x;exact Ay.mk (by lia) (by lia)<|Ay.mk (by lia) (by lia) x
theorem N6 (h2:m<=1000)(x:R ⟨(rng 0 m).map λx:Nat=>W.int (x),Go⟩ h):rgK R [.int (m)] h:=by
 rw[<-akT]at x;exact Ay.mk (by lia) (by lia) x
noncomputable def nxt (l:List Nat):Nat:=match l.getLast? with
 | none=>0
 | some x=>x+1
noncomputable def grow (m:Nat)(l:List Nat):List (List Nat):=(rng (nxt l) m).map λp=>l++[p]
noncomputable def JG (m:Nat):Nat->List (List Nat)
 | 0=>[[]]
 | k+1=>(JG m k).flatMap (grow m)
noncomputable def vM (l:List Nat):W:=.tup (l.map λx:Nat=>.int (x:Int))
theorem nu {m}:∀{k}{l},l∈JG m k->l.length=k
 | 0,l,h=>by
  rw[JG,Ri]at h;rw[h];rfl
 | k+1,l,h=>by
  rw[JG,Zv]at h;obtain⟨u,G,hl⟩:=h;obtain⟨p,_,rfl⟩:=Nm.mp hl;rw[Le,nu G];rfl
theorem aaU:∀{k}{l},l∈JG m k->nxt l<=m
 | 0,l,h=>by
  rw[JG,Ri]at h;exact h ▸ T7 _
 | k+1,l,h=>by
  rw[JG,Zv]at h;obtain⟨u,hu,hl⟩:=h;obtain⟨p,hp,rfl⟩:=Nm.mp hl;have:=(xV.mp hp).2
  unfold nxt;simp;lia
theorem oR:∀m,m<=12->∀k,k<=4->(JG m k).length<=1000:=by
 have:(Qv 13).all (λm=>(Qv 5).all λk=>decide ((JG m k).length<=1000))=true:=by decide +kernel
 intro m G k J;rw[XF]at this;have h1:=this m (XC.mpr (by lia));grind
noncomputable def aeQ (h:Gh)(w:W)(ws:List W):Prop:=w=.lst ws\/∃n,w=.loc n/\h.c n=Dn (.lst ws)
theorem zbI {b}{Y:Type}{v}{xs:List Y}(a:σ[i]?=Dn (Dn w))(e:aeQ h w (xs.map v))(I:Nat->Sw->Gh->Prop)
  (f:∀i σ h',I i σ h'->aeQ h' w (xs.map v))
  (G:∀i x  (σ) (h) (N),(∀σ' h',I (i+1) σ' h'->N σ' h')->xs[i]?=Dn x->I i σ h->g (v x) σ h fun O h1=>b {D with nx:=N,ct:=N,bk:=D.nx} O h1)
  (U:∀σ h,I xs.length σ h->D.nx σ h) (h0:I 0 σ h):vh (K5 (ao i)) g b D σ h:=by
 unfold vh K5 ao;rw[a];dsimp only;have J:∀s:Src,Aw h w=Dn s->s.ws=xs.map v->(∀h',aeQ h' w (xs.map v)->∀P:Prop,P->s.go h' P)->(match Aw h w with
   | some s=>fW s g b D s.ws σ h
   | none=>False):=by
  intro s es j c;rw[es];show fW s g b D _ σ h;rw[j];refine Ib I (λi σ h' hi=>c h'<|f i σ h' hi) (λi w σ h N d e hi=>?_) (fun σ h q=>U σ h<|by rwa[Ik]at q) h0;rw[Ju]at e;cases q:xs[i]? with
  | none=>rw[q]at e;cases e
  | some x=>
   rw[q]at e;cases e;exact G i x σ h N d q hi
 rcases e with rfl|⟨n,rfl,e⟩
 exact J ⟨xs.map v,Go⟩ rfl rfl λ_ _ _ p=>p;refine J ⟨xs.map v,Dn (n,xs.map v)⟩ (by simp[Aw,e]) rfl λh' e' P p=>⟨?_,p⟩;rcases e' with e'|⟨k,e',q⟩
 cases e'
 simp_all
theorem ajl {a b}(G:a.length+b.length<=1000)(x:Q (.tup (a++b)) h):cj (.tup a) (.tup b) h Q:=by
 cases a with
 | nil=>exact x
 | cons J a=>exact fV.mk (Jz (by simpa using G) (by decide:1000<=JN)) x
variable {l:List Nat}
theorem aai (c:m<=12)(hl:l.length<=4)(b:nxt l<=m)(Y:σ[5]?=Dn (Dn (vM l)))(U:σ[6]?=Dn (Dn (.int (nxt l))))(h0:σ[0]?=Dn (Dn (.int (m))))(x:Q (.lst ((grow m l).map vM)) h):
  Jg Jr [5] (CN (aj (ao 6) (aj (ao 0) aG))) gU (Mk cj (ao 1) (Ec (aj (ao 0) aG))) σ h Q:=by
 refine qu<|Bd<|aB<|aA U<|aB<|aA h0<|aL ?_
 refine Ny rfl (by lia) (by lia) ?_;have J:uq [5] σ=[Dn (vM l)]:=by
  show[(σ[5]?).getD Go]=_;rw[Y];rfl
 have G:((rng (nxt l) m).map λx:Nat=>W.int (x:Int)).length<=JN:=by
  rw[Ik];unfold rng;rw[Yy];exact Jz (by lia) (by decide:12<=JN)
 refine fV.mk G ?_;refine cU (λi acc h'=>h'=h/\acc=(((rng (nxt l) m).take i).map λp=>l++[p]).map vM) ?_ ?_ ⟨rfl,rfl⟩
 ·rintro i w acc h' N O e ⟨rfl,rfl⟩;rw[Ju]at e;cases q:(rng (nxt l) m)[i]? with
  | none=>rw[q]at e;cases e
  | some p=>
   rw[q]at e;cases e;refine⟨[W.int (p:Int)],rfl,?_⟩;rw[J];refine gj<|dg<|bA<|aA rfl<|GZ<|aB<|aA rfl<|aL<|pD rfl ?_
   refine ajl (a:=l.map λx:Nat=>.int (x:Int)) (by rw[Ik];simp;lia) ?_;refine O _ _ ⟨rfl,?_⟩;rw[Nj,q];simp[vM]
 rintro acc h' ⟨rfl,rfl⟩;rw[Ik,QG];exact x
noncomputable def Bf (c0:AP):Prop:=∀{h:Gh}{m k:Nat}{Q:WK}{E:Bm},m<=12->k<=4->Q (.lst ((JG m k).map vM)) h->c0 [.int (m:Int),.int (k:Int)] h Q E
theorem akM (h:l.length=i+1):∃x,l.getLast?=Dn x/\OD (l.map λx:Nat=>W.int (x:Int)) (i:Int)=Dn (.int (x:Int)):=by
 have hi:i<l.length:=by lia
 refine⟨l[i],(by rw[List.getLast?_eq_getElem?,h,Nat.add_sub_cancel,MH hi]),?_⟩;exact bM (by rw[Ju,MH hi];rfl)
theorem agU (n):∀l:List Nat,N5 n (l.map λx:Nat=>W.int (x))
 | []=>by simp[N5]
 | x::l=>by
  have:=agU n l
  exact⟨by simp[Lo],this⟩
theorem zca (n)(l):Lo n (vM l):=agU n l
theorem xM (n):∀G:List (List Nat),N5 n (G.map vM)
 | []=>by simp[N5]
 | l::G=>by
  have:=xM n G
  exact⟨zca n l,this⟩
theorem lF {a x}(e:(rng a m)[i]?=Dn x):x=a+i/\x<m:=by
 unfold rng at e;grind
theorem DX:Bf Ef:=by
 intro h m k Q E z hk q;refine za rfl (σ:=[Dn<|.int (m:Int),Dn<|.int (k:Int),Go,Go,Go,Go,Go]) rfl ?_;refine nV<|cW ?_
 refine bw<|uW<|rB<|aB<|aA rfl<|aL<|N6 (by lia)<|vf ?_
 refine jF (λi σ h'=>∃w f d O J,σ=[Dn<|.int (m:Int),Dn<|.int (k:Int),Dn w,f,d,O,J]/\(w=.lst ((JG m i).map vM)\/∃n,w=.loc n/\h.nx<=n/\n<h'.nx/\h'.c n=Dn (.lst<|(JG m i).map vM))/\h.nx<=h'.nx/\∀n,n<h.nx->h'.c n=h.c n) ?_ ?_ ⟨_,_,_,_,_,rfl,.inl rfl,JL _,λ_ _=>rfl⟩
 ·rintro i V σ h' N R e ⟨w,f,d,O,J,rfl,a,y,ho⟩;rw[Ju]at e;cases o:(rng 0 k)[i]? with
  | none=>rw[o]at e;cases e
  | some i'=>
   rw[o]at e;cases e;obtain⟨A,M⟩:=lF o;rw[YW]at A;subst A;refine bw<|bO<|qO (ws:=[]) (λR=>rfl) rfl λg S u C=>?_
   have t:∀g':Gh,(∀n,n≠h'.nx->g'.c n=h'.c n)->aeQ g' w ((JG m i').map vM):=by
    intro g' P;rcases a with rfl|⟨n,rfl,h1,h2,G⟩
    exact .inl rfl;exact .inr ⟨n,rfl,by rw[P n<|by lia];exact G⟩
   refine zbI (i:=2) (w:=w) (v:=vM) (xs:=JG m i') rfl (t g u) (λj σ g'=>∃O J,σ=[Dn<|.int (m:Int),Dn<|.int (k:Int),Dn w,Dn<|.int (i':Int),Dn<|.loc h'.nx,O,J]/\g'.c h'.nx=Dn (.lst<|(((JG m i').take j).flatMap (grow m)).map vM)/\g'.nx=h'.nx+1/\∀n,n≠h'.nx->g'.c n=h'.c n) ?_ ?_ ?_ ⟨_,_,rfl,S,C,u⟩;rintro j σ g' ⟨O,J,rfl,h1,h2,G⟩;exact t g' G;rintro j l σ g' B p s ⟨O,J,rfl,h1,h2,G⟩;have ml:=Qz s;have ll:=nu ml;have H:=aaU ml;have Y:∀σ,σ=[Dn (.int (m:Int)),Dn (.int (k:Int)),Dn w,Dn (.int (i':Int)),Dn (.loc h'.nx),Dn (vM l),Dn (.int (nxt l:Int))]->oE (Cy iT (ao 4) (aj (Jg Jr [5] (CN (aj (ao 6) (aj (ao 0) aG))) gU (Mk cj (ao 1) (Ec (aj (ao 0) aG)))) aG)) {nx:=B,rt:=λw h'=>wG true h w h' Q,bk:=λ_ _=>False,ct:=B} σ g':=by
    rintro σ rfl;refine jD<|qU<|aA rfl<|lE h1<|aB<|aai z (by lia) H rfl rfl rfl<|aL<|agn h1 ?_ λg2 e2 F D=>?_
    rw[Ik,Ik,<-Le,show grow m l=[l].flatMap (grow m) by simp,<-List.flatMap_append];have L:(JG m i').take (j+1)=(JG m i').take j++[l]:=by rw[Nj,s];rfl
    rw[<-L];have K:=oR m z (i'+1) (by lia);rw[JG,<-List.take_append_drop (j+1) (JG m i'),List.flatMap_append,Le]at K;lia;refine p _ _ ⟨_,_,rfl,?_,by rw[D];exact h2,λn U=>by rw[F n U];exact G n U⟩;rw[e2,Nj,s,List.flatMap_append,R9];simp
   refine Ir (λhp=>?_) λhp=>?_;obtain⟨x,ex,T⟩:=akM (l:=l) (i:=i'-1) (by lia);have r:nxt l=x+1:=by unfold nxt;rw[ex]
   refine bA<|bA<|aA rfl<|bA<|aA rfl<|dW<|Pj<|d8 (x:=vM l) (i:=(i':Int)-1) (w:=.int (x:Int)) rfl ?_<|dW<|gK ?_
   rw[show(i':Int)-1=((i'-1:Nat):Int) by lia];exact T;refine w6 (σ':=[Dn<|.int (m:Int),Dn<|.int (k:Int),Dn w,Dn<|.int (i':Int),Dn<|.loc h'.nx,Dn<|vM l,Dn<|.int (nxt l:Int)]) (by rw[r];rfl)<|cW<|Y _ rfl
   have I:l=[]:=ur (by lia);have r:nxt l=0:=by rw[I];rfl
   refine dW ?_;refine w6 (σ':=[Dn<|.int (m:Int),Dn<|.int (k:Int),Dn w,Dn<|.int (i':Int),Dn<|.loc h'.nx,Dn<|vM l,Dn<|.int (nxt l:Int)]) (by rw[r];rfl)<|cW<|Y _ rfl
   rintro σ g' ⟨O,J,rfl,h1,h2,G⟩;rw[QG]at h1;refine cW ?_;refine bO ?_;refine aA rfl ?_;refine nV<|cW ?_
   exact R _ _ ⟨_,_,_,_,_,rfl,.inr ⟨_,rfl,y,by lia,h1⟩,by lia,λn U=>by rw[G n<|by lia];exact ho n U⟩
 rintro σ h' ⟨w,f,d,O,J,rfl,a,y,ho⟩;have hl:((rng 0 k).map λx:Nat=>W.int (x:Int)).length=k:=by
  rw[Ik];unfold rng;rw[Yy];lia
 rw[hl]at a;unfold uM;refine cW ?_;refine dB ?_;refine aA rfl ?_;refine V3 ?_;refine⟨λn c U e=>by rw[ho n U];exact e,?_⟩;rcases a with rfl|⟨n,rfl,h1,h2,G⟩
 exact .inl ⟨by rw[Lo];exact xM _ _,q⟩;exact .inr ⟨n,_,rfl,h1,G,xM _ _,q⟩
noncomputable def gt (ts:List Tr)(i:Nat):Tr:=ts.getD i (0,0,0)
noncomputable def OkT (m:Nat)(ts:List Tr):Prop:=∀t∈ts,Pl t/\Bx m t
theorem sU (hi:i<ts.length):gt ts i∈ts:=by
 unfold gt;simp_all
theorem ad9 (hi:i<ts.length):ts[i]?=Dn (gt ts i):=by
 unfold gt;simp_all
theorem Ba.at (e:Ba h w ts)(hi:i<ts.length)(k:Q (tw (gt ts i)) h):BZ w (.int (i)) h Q:=
 d8 e.src.1 (bM (by rw[Ju,ad9 hi];rfl)) k
theorem Yt (e:Ba h w ts)(k:Q (.int (ts.length:Int)) h):Jw [w] h Q:=by
 refine fH e.src.1 ?_
 rwa[Ik]
noncomputable def aao (c0:AP):Prop:=∀{h:Gh}{w:W}{ts:List Tr}{l:List Nat}{Q:WK}{E:Bm},Ba h w ts->(∀i∈l,i<ts.length)->l.length<=1000->Q (.lst ((l.map (gt ts)).map tw)) h->c0 [w,vM l] h Q E
theorem Ft:aao HS:=by
 intro h w ts l Q E e hl J q;refine fV.mk (by rw[Ik];exact Jz J (by decide)) ?_;refine cU (λi acc h'=>h'=h/\acc=((l.take i).map (gt ts)).map tw) ?_ ?_ ⟨rfl,rfl⟩
 ·rintro i U acc h' N O e2 ⟨rfl,rfl⟩;rw[Ju]at e2;cases G:l[i]? with
  | none=>rw[G]at e2;cases e2
  | some p=>
   rw[G]at e2;cases e2;refine⟨[W.int _],rfl,(gj<|bA<|aA rfl<|aA rfl<|e.at (hl p<|Qz G)<|O _ _ ⟨rfl,?_⟩)⟩;rw[Nj,G];simp
 rintro acc h' ⟨rfl,rfl⟩
 rwa[Ik,QG]
theorem wZ {m}:∀{k}{l},l∈JG m k->∀i∈l,i<m
 | 0,l,h=>by
  rw[JG]at h;simp_all
 | k+1,l,h=>by
  rw[JG,Zv]at h;obtain⟨u,hu,hl⟩:=h;obtain⟨p,hp,rfl⟩:=Nm.mp hl;intro i hi;rcases Tf.mp hi with hi|hi
  exact wZ hu i hi;exact Ri.mp hi ▸ (xV.mp hp).2
theorem Qn {k a b}{r}:l++[a,b]++r∈JG m k->a<b:=by
 intro h;induction k generalizing r with
 | zero=>
  rw[JG]at h;simp at h
 | succ k O=>
  rw[JG,Zv]at h;obtain⟨u,U,hl⟩:=h;obtain⟨p,G,e⟩:=Nm.mp hl;rcases List.eq_nil_or_concat r with rfl|⟨J,z,rfl⟩
  rw[Yh,show l++[a,b]=l++[a]++[b] by simp]at e;obtain⟨e1,e2⟩:=List.append_inj' e rfl;cases e2;subst e1;have:=(xV.mp G).1
  unfold nxt at this;grind
  rw[List.concat_eq_append,<-List.append_assoc]at e;obtain⟨e1,e2⟩:=List.append_inj' e rfl;grind
noncomputable def Hg (ts:List Tr):List Nat->Bool
 | [a,b,c]=>fX [gt ts a,gt ts b,gt ts c]
 | _=>false
theorem abm (p q r):fX [p,q,r]=decide (dt3 (crs p q) r=0):=by
 by_cases h:dt3 (crs p q) r=0
 rw[decide_eq_true h];refine lJ<|jw λk j i Y d a b c O J G=>?_
 have hi:=(Oi.mp G).1;simp only[PL,List.length_nil]at hi;have U:k=0/\j=1/\i=2:=by lia
 obtain⟨rfl,rfl,rfl⟩:=U;simp at O J G;subst O J G
 rwa[lQ,lQ]
 exact decide_eq_false h ▸ rz λa=>h<|a r (by simp) p (by simp) q<|by simp
noncomputable def yg (us:List Tr):Prop:=∃a b c,a<b/\b<c/\c<us.length/\dt3 (crs (gt us a) (gt us b)) (gt us c)=0
open Classical in
noncomputable def abY (us:List Tr):Bool:=decide (yg us)
open Classical in
theorem Px {us}(h:yg us):abY us=true:=decide_eq_true h
open Classical in
theorem Nh {us}(h:¬yg us):abY us=false:=decide_eq_false h
theorem aaq {a b c}(h1:a<b)(h2:b<c)(G:c<m):[a,b,c]∈JG m 3:=by
 have g:∀{k:Nat}{l:List Nat}{p:Nat},l∈JG m k->nxt l<=p->p<m->l++[p]∈JG m (k+1):=λ{k l p} hl h h'=>by
  rw[JG,Zv];exact⟨l,hl,Nm.mpr ⟨p,xV.mpr ⟨h,h'⟩,rfl⟩⟩
 exact g (g (g (l:=[]) (by rw[JG];simp) (T7 _)<|by lia) (show a+1<=b by lia)<|by lia) (show b+1<=c by lia) G
theorem ama {us}:((JG us.length 3).map (Hg us)).any id=abY us:=by
 by_cases h:yg us
 rw[Px h];obtain⟨a,b,c,h1,h2,U,O⟩:=h;rw[Zg];refine⟨true,Nm.mpr ⟨[a,b,c],aaq h1 h2 U,?_⟩,rfl⟩;show fX [gt us a,gt us b,gt us c]=true;rw[abm,decide_eq_true O]
 ·rw[Nh h];refine Bool.eq_false_iff.mpr λg=>h ?_;rw[Zg]at g;obtain⟨x,J,G⟩:=g;obtain⟨l,hl,rfl⟩:=Nm.mp J;match l,(nu hl)with
  | [a,b,c],_=>
   have G:fX [gt us a,gt us b,gt us c]=true:=G;rw[abm,decide_eq_true_eq]at G;exact⟨a,b,c,Qn (l:=[]) hl,Qn (l:=[a]) hl,wZ hl c<|by simp,G⟩
theorem LC {us:List Bool}(k:Q (.bl (us.any id)) h):aay [.lst (us.map .bl)] h Q:=UW rfl (CJ us) k
noncomputable def ahy (c0:AP):Prop:=∀{h:Gh}{w:W}{us:List Tr}{m:Nat}{Q:WK}{E:Bm},m<=4000->Ba h w us->us.length<=12->OkT m us->Q (.bl (abY us)) h->c0 [w,.int 3] h Q E
theorem w_has {g d f}(U:fL g)(J:Bf d)(O:aao f):ahy (iV g d f):=by
 intro h w us m Q E j e hl hs k;refine mK rfl rfl<|dB<|fZ<|aB<|qu<|uy<|aZ<|aB<|fZ<|aB<|aA rfl<|aL<|Yt e ?_
 refine aB<|aA rfl<|aL<|J hl (by decide)<|J6 rfl ?_
 refine fV.mk (by rw[Ik];exact Jz (oR _ hl 3<|by decide) (by decide)) ?_;refine cU (λi acc h'=>h'=h/\acc=(((JG us.length 3).take i).map (Hg us)).map W.bl) ?_ ?_ ⟨rfl,rfl⟩
 ·rintro i p acc h' N o e2 ⟨rfl,rfl⟩;rw[Ju]at e2;cases G:(JG us.length 3)[i]? with
  | none=>rw[G]at e2;cases e2
  | some l=>
   rw[G]at e2;cases e2;have ml:=Qz G;have li:=wZ ml;refine⟨[vM l],rfl,?_⟩;have Y:∀b:Bool,b=Hg us l->N ((((JG us.length 3).take i).map (Hg us)).map W.bl++[W.bl b]) h':=λb n=>o _ _ ⟨rfl,by rw[Nj,G,n];simp⟩
   match l,(nu ml)with
   | [a,b,c],_=>
    refine gj<|dg<|aZ<|aB<|aZ<|aB<|aA rfl<|aB<|aA rfl<|aL<|O e li (by simp) ?_
    refine aL<|U (.inl rfl) (by simp) j ?_<|Y _ rfl
    intro t ht;simp at ht;rcases ht with rfl|rfl|rfl
    exact hs _<|sU<|li a<|by simp
    exact hs _<|sU<|li b<|by simp
    exact hs _<|sU<|li c<|by simp
 rintro acc h' ⟨rfl,rfl⟩;rw[Ik,QG];refine aL<|LC ?_
 rw[ama];exact V3 k
theorem lN (J:Bx m p)(G:Bx n q):Bx (m+n+1) (crs p q):=
 ⟨((J.2.1.mul G.2.2).sub (J.2.2.mul G.2.1)).mono (by lia),((J.2.2.mul G.1).sub (J.1.mul G.2.2)).mono (by lia),((J.1.mul G.2.1).sub (J.2.1.mul G.1)).mono (by lia)⟩
theorem cJ {Q}(x:Q Go h):dD σ h Q:=x
theorem ab7 {lo hi}(e:J4 ws lo hi=us)(x:Q (.lst us) h):yd (.lst ws) lo hi h Q:=by
 subst e;exact x
structure Rd (a b c d e f:Tr):Prop where
 pa:Pl a
 pb:Pl b
 pc:Pl c
 pd:Pl d
 pe:Pl e
 pf:Pl f
 sa:Bx 60 a
 sb:Bx 60 b
 sc:Bx 60 c
 sd:Bx 60 d
 se:Bx 60 e
 sf:Bx 1800 f
noncomputable def BP (a b c:Tr):Int:=dt3 (crs a b) c
theorem ahx (u v w):BP u v w=BP v w u:=by
 simp[BP,crs,dt3];grind
noncomputable def aaG (a b c d:Tr):C6:=wK (crs a b) (crs c d)
noncomputable def aaC (a b c d:Tr):C6:=wK (crs a c) (crs b d)
theorem Fp {c}(Y:Jp m c)(U:Bx n p):Sm (m+n+n+5) (IK c p):=by
 obtain⟨h1,h2,e,d,b,a⟩:=Y;obtain⟨O,J,G⟩:=U;exact((((((h1.mul O).mul O).add ((e.mul J).mul J)).add ((a.mul G).mul G)).add ((h2.mul O).mul J)).add ((d.mul O).mul G)).add ((b.mul J).mul G) |>.mono (by lia)
noncomputable def ae9 (h t:Int)(o n:C6):C6:=(h*o.1-t*n.1,h*o.2.1-t*n.2.1,h*o.2.2.1-t*n.2.2.1,h*o.2.2.2.1-t*n.2.2.2.1,h*o.2.2.2.2.1-t*n.2.2.2.2.1,h*o.2.2.2.2.2-t*n.2.2.2.2.2)
theorem aln (h t)(o n)(x):IK (ae9 h t o n) x=h*IK o x-t*IK n x:=by
 simp only[IK,ae9];grind
theorem vp {c:C6}{x:Tr}(h:IK c x≠0):NZ (Ja c):=by
 obtain⟨c1,Y,U,O,J,G⟩:=c;by_cases z:c1=0/\Y=0/\U=0/\O=0/\J=0/\G=0
 obtain⟨rfl,rfl,rfl,rfl,rfl,rfl⟩:=z;refine absurd ?_ h;simp[IK];have:∃n∈[c1,Y,U,O,J,G],n≠0:=by
  by_cases g:c1=0
  by_cases f:Y=0
  by_cases e:U=0
  by_cases d:O=0
  by_cases b:J=0
  by_cases a:G=0
  lia;exact⟨G,by simp,a⟩;exact⟨J,by simp,b⟩;exact⟨O,by simp,d⟩;exact⟨U,by simp,e⟩;exact⟨Y,by simp,f⟩;exact⟨c1,by simp,g⟩
 exact this
noncomputable def G4 (s t:Int)(p q:Tr):Tr:=(s*p.1-t*q.1,s*p.2.1-t*q.2.1,s*p.2.2-t*q.2.2)
theorem eY (x y):BP x y y=0/\BP x x y=0/\BP x y x=0:=by
 refine⟨?_,?_,?_⟩<;>simp[BP,crs,dt3]<;>grind
theorem brr (s t)(u v p q):BP p q (G4 s t u v)=s*BP p q u-t*BP p q v:=by
 simp[BP,dt3,G4];grind
theorem fC (a b c):BP b c a=BP a b c:=(ahx a b c).symm
theorem aaZ (a b c):BP c a b=BP a b c:=ahx c a b
theorem eX (a b c:Tr):BP a c b=- BP a b c:=by
 simp[BP,crs,dt3];grind
theorem f1 (a b c d e):BP b d e*BP a c d-BP a d e*BP b c d=BP a b d*BP c d e:=by
 simp[BP,crs,dt3];grind
theorem f2 (a b c d e):BP a c e*BP a b d-BP a d e*BP a b c=BP a b e*BP a c d:=by
 simp[BP,crs,dt3];grind
theorem f3 (a b c d e):BP a b c*BP c d e+BP a c e*BP b c d=BP a c d*BP b c e:=by
 simp[BP,crs,dt3];grind
theorem f4 (a b c d e):BP a b e*BP b c d+BP a b c*BP b d e=BP a b d*BP b c e:=by
 simp[BP,crs,dt3];grind
theorem cl2 (b c l):crs (crs b c) l=G4 (dt3 l b) (dt3 l c) c b:=by
 simp[crs,dt3,G4];grind
noncomputable def uh (a b c d e:Tr):C6:=ae9 (IK (aaG a b c d) e) (IK (aaC a b c d) e) (aaC a b c d) (aaG a b c d)
theorem Og (a b c d e x):IK (uh a b c d e) x=BP a b e*BP c d e*(BP a c x*BP b d x)-BP a c e*BP b d e*(BP a b x*BP c d x):=by
 have J:∀x,IK (aaG a b c d) x=BP a b x*BP c d x:=λx=>qG _ _ _
 have G:∀x,IK (aaC a b c d) x=BP a c x*BP b d x:=λx=>qG _ _ _
 unfold uh;rw[aln,J,G,J,G]
theorem ab9 (U:JT u p)(O:JT v q)(G:Pl p)(pq:Pl q)(h:crs u v=(0,0,0)):p=q:=by
 by_cases e:p=q
 exact e;obtain⟨k,k0,rfl⟩:=U;obtain⟨j,J,rfl⟩:=O;rw[mO]at h;exact absurd ((fu<|O6 k0 J).mp h)<|cO G pq e
theorem abr (J:JT u p)(G:JT v q)(h:p=q):crs u v=(0,0,0):=by
 subst h;obtain⟨k,k0,rfl⟩:=J;obtain⟨j,O,rfl⟩:=G;rw[mO,qw];simp[sc]
section
variable {a b c d e l:Tr}
end
variable {a b d e:Tr}
structure G5 (ts:List Tr):Prop where
 pl:∀t∈ts,Pl t
 nd:ts.Nodup
 four:∀n:Tr,n≠(0,0,0)->∀x∈ts,∃y∈ts,y≠x/\dt3 n y≠0
theorem G5.perm {us}(G:G5 ts)(h:ts.Perm us):G5 us:=
 ⟨λt ht=>G.pl t (h.mem_iff.mpr ht),h.nodup_iff.mp G.nd,λn U x O=>let⟨y,J,q⟩:=G.four n U x (h.mem_iff.mpr O);⟨y,h.mem_iff.mp J,q⟩⟩
theorem G5.no (G:G5 ts){r s t}(h:∀y∈ts,y=p\/y=q\/y=r\/y=s\/y=t)(Y:p∈ts)(U:q∈ts)(ht:t∈ts)(pq:p≠q):¬(BP p q r=0/\BP p q s=0):=λz=>by
 obtain⟨y,O,J,d⟩:=G.four _ (cO (G.pl p Y) (G.pl q U) pq) t ht;rcases h y O with rfl|rfl|rfl|rfl|rfl
 exact d<|mF _ _
 exact d<|xq _ _
 exact d z.1;exact d z.2;exact J rfl
structure Br (a b c d e:Tr):Prop where
 n1:¬(BP a b c=0/\BP a b d=0)
 n2:¬(BP a b c=0/\BP a b e=0)
 n3:¬(BP a b d=0/\BP a b e=0)
 n4:¬(BP a b c=0/\BP a c d=0)
 n5:¬(BP a b c=0/\BP a c e=0)
 n6:¬(BP a c d=0/\BP a c e=0)
 n7:¬(BP a b d=0/\BP a c d=0)
 n8:¬(BP a b d=0/\BP a d e=0)
 n9:¬(BP a c d=0/\BP a d e=0)
 n10:¬(BP a b e=0/\BP a c e=0)
 n11:¬(BP a b e=0/\BP a d e=0)
 n12:¬(BP a c e=0/\BP a d e=0)
 n13:¬(BP a b c=0/\BP b c d=0)
 n14:¬(BP a b c=0/\BP b c e=0)
 n15:¬(BP b c d=0/\BP b c e=0)
 n16:¬(BP a b d=0/\BP b c d=0)
 n17:¬(BP a b d=0/\BP b d e=0)
 n18:¬(BP b c d=0/\BP b d e=0)
 n19:¬(BP a b e=0/\BP b c e=0)
 n20:¬(BP a b e=0/\BP b d e=0)
 n21:¬(BP b c e=0/\BP b d e=0)
 n22:¬(BP a c d=0/\BP b c d=0)
 n23:¬(BP a c d=0/\BP c d e=0)
 n24:¬(BP b c d=0/\BP c d e=0)
 n25:¬(BP a c e=0/\BP b c e=0)
 n26:¬(BP a c e=0/\BP c d e=0)
 n27:¬(BP b c e=0/\BP c d e=0)
 n28:¬(BP a d e=0/\BP b d e=0)
 n29:¬(BP a d e=0/\BP c d e=0)
 n30:¬(BP b d e=0/\BP c d e=0)
theorem G5.n5 {c:Tr}(G:G5 [a,b,c,d,e])(p q r s t:Tr)(z1:BP p q r=0)(z2:BP p q s=0)(pq:p≠q)(h:∀y∈[a,b,c,d,e],y=p\/y=q\/y=r\/y=s\/y=t:=by simp)(hp:p∈[a,b,c,d,e]:=by simp)(hq:q∈[a,b,c,d,e]:=by simp)(ht:t∈[a,b,c,d,e]:=by simp):False:=G.no h hp hq ht pq ⟨z1,z2⟩
theorem Br.of {c}(G:G5 [a,b,c,d,e]):Br a b c d e:=by
 have nd:=G.nd;simp only[WT,ML,RQ,or_false,not_or,not_false_eq_true,List.nodup_nil,and_true]at nd;obtain⟨⟨ab,ac,ad,ae⟩,⟨bc,bd,be⟩,⟨cd,ce⟩,de⟩:=nd;exact{
  n1:=λz=>G.n5 a b c d e z.1 z.2 ab
  n2:=λz=>G.n5 a b c e d z.1 z.2 ab
  n3:=λz=>G.n5 a b d e c z.1 z.2 ab
  n4:=λz=>G.n5 a c b d e (by rw[eX a b c,z.1];rfl) z.2 ac
  n5:=λz=>G.n5 a c b e d (by rw[eX a b c,z.1];rfl) z.2 ac
  n6:=λz=>G.n5 a c d e b z.1 z.2 ac
  n7:=λz=>G.n5 a d b c e (by rw[eX a b d,z.1];rfl) (by rw[eX a c d,z.2];rfl) ad
  n8:=λz=>G.n5 a d b e c (by rw[eX a b d,z.1];rfl) z.2 ad
  n9:=λz=>G.n5 a d c e b (by rw[eX a c d,z.1];rfl) z.2 ad
  n10:=λz=>G.n5 a e b c d (by rw[eX a b e,z.1];rfl) (by rw[eX a c e,z.2];rfl) ae
  n11:=λz=>G.n5 a e b d c (by rw[eX a b e,z.1];rfl) (by rw[eX a d e,z.2];rfl) ae
  n12:=λz=>G.n5 a e c d b (by rw[eX a c e,z.1];rfl) (by rw[eX a d e,z.2];rfl) ae
  n13:=λz=>G.n5 b c a d e (by rw[fC a b c];exact z.1) z.2 bc
  n14:=λz=>G.n5 b c a e d (by rw[fC a b c];exact z.1) z.2 bc
  n15:=λz=>G.n5 b c d e a z.1 z.2 bc
  n16:=λz=>G.n5 b d a c e (by rw[fC a b d];exact z.1) (by rw[eX b c d,z.2];rfl) bd
  n17:=λz=>G.n5 b d a e c (by rw[fC a b d];exact z.1) z.2 bd
  n18:=λz=>G.n5 b d c e a (by rw[eX b c d,z.1];rfl) z.2 bd
  n19:=λz=>G.n5 b e a c d (by rw[fC a b e];exact z.1) (by rw[eX b c e,z.2];rfl) be
  n20:=λz=>G.n5 b e a d c (by rw[fC a b e];exact z.1) (by rw[eX b d e,z.2];rfl) be
  n21:=λz=>G.n5 b e c d a (by rw[eX b c e,z.1];rfl) (by rw[eX b d e,z.2];rfl) be
  n22:=λz=>G.n5 c d a b e (by rw[fC a c d];exact z.1) (by rw[fC b c d];exact z.2) cd
  n23:=λz=>G.n5 c d a e b (by rw[fC a c d];exact z.1) z.2 cd
  n24:=λz=>G.n5 c d b e a (by rw[fC b c d];exact z.1) z.2 cd
  n25:=λz=>G.n5 c e a b d (by rw[fC a c e];exact z.1) (by rw[fC b c e];exact z.2) ce
  n26:=λz=>G.n5 c e a d b (by rw[fC a c e];exact z.1) (by rw[eX c d e,z.2];rfl) ce
  n27:=λz=>G.n5 c e b d a (by rw[fC b c e];exact z.1) (by rw[eX c d e,z.2];rfl) ce
  n28:=λz=>G.n5 d e a b c (by rw[fC a d e];exact z.1) (by rw[fC b d e];exact z.2) de
  n29:=λz=>G.n5 d e a c b (by rw[fC a d e];exact z.1) (by rw[fC c d e];exact z.2) de
  n30:=λz=>G.no (p:=d) (q:=e) (r:=b) (s:=c) (t:=a) (λy hy=>by simp only[ML,RQ,or_false]at hy;rcases hy with h|h|h|h|h<;>simp[h]) (by simp) (by simp) (by simp) de ⟨(by rw[fC b d e];exact z.1),(by rw[fC c d e];exact z.2)⟩}
section
variable {c:Tr}
theorem aah (a b c d e):∀x∈[a,b,c,d,e],IK (uh a b c d e) x=0:=by
 intro x G;simp at G;rw[Og];rcases G with rfl|rfl|rfl|rfl|rfl
 rw[(eY x c).2.2,(eY x b).2.2];simp;rw[(eY x d).2.2,(eY a x).1];simp;rw[(eY a x).1,(eY x d).2.2];simp;rw[(eY b x).1,(eY c x).1];simp;grind
theorem Ra (p q u v):BP p q (G4 1 (-1) u v)=BP p q u+BP p q v:=by
 rw[brr];lia
theorem Ax {x y:Int}(J:x≠0)(G:y≠0):x*y≠0:=O6 J G
theorem Vk (B:Br a b c d e):NZ (Ja (uh a b c d e)):=by
 have f:IK (uh a b c d e) (G4 1 (-1) a b)=- (BP a b e*BP c d e*(BP a b c*BP a b d)):=by
  rw[Og,Ra,Ra,Ra,Ra,(eY a c).2.2,(eY b d).2.2,(eY a b).2.2,(eY a b).1,eX a b c,fC a b d];grind
 have U:IK (uh a b c d e) (G4 1 (-1) c d)=- (BP a b e*BP c d e*(BP a c d*BP b c d)):=by
  rw[Og,Ra,Ra,Ra,Ra,(eY a c).1,(eY b d).1,(eY c d).2.2,(eY c d).1,eX b c d];grind
 have Y:IK (uh a b c d e) (G4 1 (-1) b d)=- (BP a c e*BP b d e*(BP a b d*BP b c d)):=by
  rw[Og,Ra,Ra,Ra,Ra,(eY b d).2.2,(eY b d).1,(eY a b).1,(eY c d).1,fC b c d];simp_all
 have O:IK (uh a b c d e) (G4 1 (-1) a c)=- (BP a c e*BP b d e*(BP a b c*BP a c d)):=by
  rw[Og,Ra,Ra,Ra,Ra,(eY a c).2.2,(eY a c).1,(eY a b).2.2,(eY c d).2.2,fC a c d];simp_all
 have G:∀{i:Int},i≠0->-i≠0:=λh z=>h (by lia)
 by_cases H:BP a b e*BP c d e=0
 have K:BP a c e*BP b d e≠0:=λK=>by
  rcases Jq.mp H with h|h<;>rcases Jq.mp K with k|k
  exact B.n10 ⟨h,k⟩;exact B.n20 ⟨h,k⟩;exact B.n26 ⟨k,h⟩;exact B.n30 ⟨k,h⟩
 by_cases z:BP a b d=0
 exact vp (x:=G4 1 (-1) a c) (by rw[O];exact G (Ax K<|Ax (λy=>B.n1 ⟨y,z⟩) λy=>B.n7 ⟨z,y⟩));by_cases J:BP b c d=0
 exact vp (x:=G4 1 (-1) a c) (by rw[O];exact G (Ax K<|Ax (λy=>B.n13 ⟨y,J⟩) λy=>B.n22 ⟨y,J⟩));exact vp (by rw[Y];exact G (Ax K<|Ax z J));by_cases z:BP a b c=0
 exact vp (by rw[U];exact G (Ax H<|Ax (λy=>B.n4 ⟨z,y⟩) λy=>B.n13 ⟨z,y⟩));by_cases J:BP a b d=0
 exact vp (by rw[U];exact G (Ax H<|Ax (λy=>B.n7 ⟨J,y⟩) λy=>B.n16 ⟨J,y⟩));exact vp (x:=G4 1 (-1) a b) (by rw[f];exact G (Ax H<|Ax z J))
noncomputable def pol (C:C6)(p q:Tr):Int:=dt3 (vm (bQ C) p) q
noncomputable def P3 (C:C6)(a b c:Tr):Tr:=(pol C a b,pol C a c,pol C b c)
noncomputable def uu (a b c x:Tr):Tr:=(BP x b c*BP a x c,BP x b c*BP a b x,BP a x c*BP a b x)
theorem adP (a b c x):(BP a b c*x.1,BP a b c*x.2.1,BP a b c*x.2.2)=(BP x b c*a.1+BP a x c*b.1+BP a b x*c.1,BP x b c*a.2.1+BP a x c*b.2.1+BP a b x*c.2.1,BP x b c*a.2.2+BP a x c*b.2.2+BP a b x*c.2.2):=by
 simp[BP,crs,dt3];grind
theorem aku (C:C6)(i j k:Int)(a b c:Tr):IK C (i*a.1+j*b.1+k*c.1,i*a.2.1+j*b.2.1+k*c.2.1,i*a.2.2+j*b.2.2+k*c.2.2)=i*i*IK C a+j*j*IK C b+k*k*IK C c+(i*j*pol C a b+i*k*pol C a c+j*k*pol C b c):=by
 simp[IK,pol,dt3,vm,bQ];grind
theorem zbS (C)(k)(x):IK C (k*x.1,k*x.2.1,k*x.2.2)=k*k*IK C x:=by
 simp[IK];grind
theorem agC {C}(ha:IK C a=0)(J:IK C b=0)(G:IK C c=0)(x):BP a b c*BP a b c*IK C x=dt3 (uu a b c x) (P3 C a b c):=by
 rw[<-zbS,adP,aku,ha,J,G];simp only[dt3,uu,P3];lia
theorem ah0 (a b c d e):crs (uu a b c d) (uu a b c e)=(BP a b d*BP a b e*(BP a b c*BP c d e),BP a c d*BP a c e*(BP a b c*BP b d e),BP b c d*BP b c e*(BP a b c*BP a d e)):=by
 have h2:=f2 a b c d e;have J:=f3 a b c d e;have G:=f4 a b c d e;simp[uu,crs];rw[aaZ b c d,aaZ b c e,eX a c d,eX a c e];grind
theorem air (B:Br a b c d e)(h:BP a b c≠0):crs (uu a b c d) (uu a b c e)≠(0,0,0):=by
 rw[ah0];intro z;simp at z;obtain⟨i,g,f⟩:=z;have j:BP a b d=0\/BP a b e=0\/BP c d e=0:=by
  rcases Jq.mp i with q|q
  exact(Jq.mp q).elim .inl λq=>.inr<|.inl q
  exact .inr<|.inr<|(Jq.mp q).resolve_left h
 have U:BP a c d=0\/BP a c e=0\/BP b d e=0:=by
  rcases Jq.mp g with q|q
  exact(Jq.mp q).elim .inl λq=>.inr<|.inl q
  exact .inr<|.inr<|(Jq.mp q).resolve_left h
 have Y:BP b c d=0\/BP b c e=0\/BP a d e=0:=by
  rcases Jq.mp f with q|q
  exact(Jq.mp q).elim .inl λq=>.inr<|.inl q
  exact .inr<|.inr<|(Jq.mp q).resolve_left h
 rcases j with J|J|J
 rcases U with G|G|G
 exact B.n7 ⟨J,G⟩;rcases Y with O|O|O
 exact B.n16 ⟨J,O⟩;exact B.n25 ⟨G,O⟩;exact B.n8 ⟨J,O⟩;exact B.n17 ⟨J,G⟩;rcases U with G|G|G
 rcases Y with O|O|O
 exact B.n22 ⟨G,O⟩;exact B.n19 ⟨J,O⟩;exact B.n11 ⟨J,O⟩;exact B.n10 ⟨J,G⟩;exact B.n20 ⟨J,G⟩;rcases U with G|G|G
 exact B.n23 ⟨G,J⟩;exact B.n26 ⟨G,J⟩;exact B.n30 ⟨G,J⟩
theorem ahZ (u v p):crs (crs u v) p=G4 (dt3 p u) (dt3 p v) v u:=cl2 u v p
theorem ab3 {n:Tr}(h0:n≠(0,0,0))(Y:crs n p=(0,0,0))(U:crs n q=(0,0,0)):crs p q=(0,0,0):=by
 obtain⟨n1,n2,f⟩:=n;obtain⟨e,p2,d⟩:=p;obtain⟨c,b,a⟩:=q;simp[crs]at Y U|-
 obtain⟨a1,a2,a3⟩:=Y;obtain⟨j,i,g⟩:=U;have G:∀{k x:Int},k≠0->k*x=0->x=0:=λh z=>(Jq.mp z).resolve_left h
 by_cases O:n1=0
 by_cases J:n2=0
 grind
 refine⟨G J ?_,G J ?_,G J ?_⟩<;>grind
 refine⟨G O ?_,G O ?_,G O ?_⟩<;>grind
theorem aeT (u v p q):dt3 u p*dt3 v q-dt3 v p*dt3 u q=dt3 (crs u v) (crs p q):=by
 simp[dt3,crs];grind
theorem ahA {C C'}(B:Br a b c d e)(h:BP a b c≠0)(G:∀x∈[a,b,c,d,e],IK C x=0)(J:∀x∈[a,b,c,d,e],IK C' x=0)(x y):IK C x*IK C' y=IK C y*IK C' x:=by
 have w:=agC (G a (by simp)) (G b (by simp)) (G c (by simp));have w':=agC (J a (by simp)) (J b (by simp)) (J c (by simp));have O:∀{C:C6},(∀x∈[a,b,c,d,e],IK C x=0)->crs (crs (uu a b c d) (uu a b c e)) _=(0,0,0):=λ{C} G=>by
  have w:=agC (G a (by simp)) (G b (by simp)) (G c (by simp));have Y:=w d;have U:=w e;rw[G d (by simp)]at Y;rw[G e (by simp)]at U;rw[ahZ,cD,<-Y,cD,<-U];simp[G4]
 have z:=ab3 (air B h) (O G) (O J);have k:=aeT (uu a b c x) (uu a b c y) (P3 C a b c) (P3 C' a b c);have f:dt3 (crs (uu a b c x) (uu a b c y)) ((0,0,0):Tr)=0:=by simp[dt3]
 refine Int.eq_of_mul_eq_mul_left (Ax (Ax h h)<|Ax h h) ?_;grind
theorem ah6 {C C'}(G:G5 [a,b,c,d,e])(U:∀x∈[a,b,c,d,e],IK C x=0)(J:∀x∈[a,b,c,d,e],IK C' x=0)(x y):IK C x*IK C' y=IK C y*IK C' x:=by
 have B:=Br.of G;by_cases h:BP a b c=0
 ·have p:[a,b,c,d,e].Perm [a,b,d,c,e]:=.cons _ (.cons _ (.swap _ _ _));exact ahA (Br.of<|G.perm p) (λz=>B.n1 ⟨h,z⟩) (λx O=>U x<|p.mem_iff.mpr O) (λx O=>J x<|p.mem_iff.mpr O) x y
 exact ahA B h U J x y
theorem VB {C C' s t}(h:∀x,s*IK C x=t*IK C' x):kC s C=kC t C':=by
 have h1:=h (1,0,0);have h2:=h (0,1,0);have U:=h (0,0,1);have O:=h (1,1,0);have J:=h (1,0,1);have G:=h (0,1,1);simp[IK]at h1 h2 U O J G;simp[kC];grind
theorem acg {C}(h:NZ (Ja C)):∃x,IK C x≠0:=by
 apply QK;intro n;have e:=VB (C':=(0,0,0,0,0,0)) (s:=1) (t:=1) λx=>by rw[(λx=>QK λz=>n ⟨x,z⟩) x];simp[IK]
 simp[kC]at e;obtain⟨n,G,J⟩:=h;simp[Ja]at G;lia
theorem Sd (h:K4 ns):NZ ns:=h.nz
theorem zbn {C C'}(G:G5 [a,b,c,d,e])(p:K4 (Ja C))(p':K4 (Ja C'))(f:∀x∈[a,b,c,d,e],IK C x=0)(U:∀x∈[a,b,c,d,e],IK C' x=0):C=C':=by
 obtain⟨y,Y⟩:=acg (Sd p);obtain⟨y',O⟩:=acg (Sd p');have k:=ah6 G f U;have J:IK C' y≠0:=λz=>by
  have:=k y y'
  rw[z,RM]at this;exact Ax Y O this
 exact xQ p p' J Y<|VB λx=>by grind
theorem f5 (a b c d e):BP a b e*BP c d e-BP a c e*BP b d e=- (BP a d e*BP b c e):=by
 simp[BP,crs,dt3];grind
end
variable {C C':C6}
theorem zM:∀(l acc:List (List Int)),((l.foldl Ql acc).length=acc.length+l.length↔(∀k∈l,k∉acc)/\l.Nodup)
 | [],acc=>by simp
 | k::r,acc=>by
  rw[Zb];have le:=jW r (Ql acc k);by_cases J:k∈acc
  have e:Ql acc k=acc:=by unfold Ql;rw[if_pos J]
  rw[e]at le|-
  constructor;grind
  simp_all
  have e:Ql acc k=acc++[k]:=by unfold Ql;rw[if_neg J]
  have G:=zM r (acc++[k]);rw[e];rw[Le,Tp]at G;rw[PL,show _+(r.length+1)=acc.length+1+r.length by lia,G,WT];grind
theorem acd:tl p=tl q↔p=q:=by
 obtain⟨a,b,c⟩:=p;obtain⟨d,e,f⟩:=q;simp[tl]
theorem Np:∀ts:List Tr,yP (ts.map tw)=Dn (ts.map tl)
 | []=>rfl
 | t::ts=>by
  rw[Od,tw,yP,Np ts];rfl
theorem ac1:∀{ts:List Tr},(ts.map tl).Nodup↔ts.Nodup
 | []=>by simp
 | t::ts=>by
  rw[Od,WT,WT,ac1];have:tl t∈ts.map tl↔t∈ts:=by
   rw[Nm];constructor;rintro⟨u,G,e⟩;rw[acd]at e
   rwa[<-e]
   grind
  rw[this]
theorem alA (ts:List Tr):decide (((TX (ts.map tl)).length:Int)<(ts.length:Int))=!decide ts.Nodup:=by
 have le:=jW (ts.map tl) [];have iff:=zM (ts.map tl) [];rw[ac1]at iff;simp at le iff;unfold TX;lia
theorem Ba.vl (e:Ba h w ts):d9 h w=Dn (ts.map tw):=by
 rcases e with rfl|⟨n,rfl,G⟩
 rfl;exact ajP G
theorem ah5 (e:Ba h w ts)(hl:ts.length<=5)(k:Q (.int ((TX (ts.map tl)).length:Nat)) h):nP [w] h Q:=by
 show(match d9 h w with
  | some us=>(match yP us with
   | some kss=>kss.length<=5/\Q _ h
   | none=>False)
  | none=>False)
 rw[e.vl];dsimp only;rw[Np];simp_all
noncomputable def Qe (c0:AP):Prop:=∀{h:Gh}{w:W}{ts:List Tr}{Q:WK}{E:Bm},Ba h w ts->ts.length<=5->Q (.bl (!decide ts.Nodup)) h->c0 [w] h Q E
theorem Eh:Qe rO:=by
 intro h w ts Q E e hl k;refine mK rfl rfl ?_;rfl'
 refine ah5 e hl ?_;rfl'
 refine Yt e ?_;rfl'
 rwa[alA]
noncomputable def Kf (ts:List Tr):List Nat->Bool
 | [a,b,c,d]=>fX [gt ts a,gt ts b,gt ts c,gt ts d]
 | _=>false
noncomputable def Fg (ts:List Tr):Bool:=((JG ts.length 4).map (Kf ts)).any id
noncomputable def ahq (c0:AP):Prop:=∀{h:Gh}{w:W}{us:List Tr}{m:Nat}{Q:WK}{E:Bm},m<=4000->Ba h w us->us.length<=12->OkT m us->Q (.bl (Fg us)) h->c0 [w,.int 4] h Q E
theorem abA {j f g}(U:fL j)(J:Bf f)(O:aao g):ahq (iV j f g):=by
 intro h w us m Q E n e hl hs k;refine mK rfl (σ:=[Dn w,Dn<|.int 4]) rfl<|dB<|fZ<|aB<|qu<|uy<|aZ<|aB<|fZ<|aB<|aA rfl<|aL<|Yt e ?_
 refine aB<|aA rfl<|aL<|J (m:=us.length) (k:=4) hl (by decide)<|J6 rfl ?_
 refine fV.mk (by rw[Ik];exact Jz (oR _ hl 4<|by decide) (by decide)) ?_;refine cU (λi acc h'=>h'=h/\acc=(((JG us.length 4).take i).map (Kf us)).map W.bl) ?_ ?_ ⟨rfl,rfl⟩
 ·rintro i q acc h' N p e2 ⟨rfl,rfl⟩;rw[Ju]at e2;cases G:(JG us.length 4)[i]? with
  | none=>rw[G]at e2;cases e2
  | some l=>
   rw[G]at e2;cases e2;have ml:=Qz G;have ll:=nu ml;have li:=wZ ml;refine⟨[vM l],rfl,?_⟩;have Y:∀b:Bool,b=Kf us l->N ((((JG us.length 4).take i).map (Kf us)).map W.bl++[W.bl b]) h':=λb o=>p _ _ ⟨rfl,by rw[Nj,G,o];simp⟩
   match l,ll with
   | [a,b,c,d],_=>
    refine gj<|dg<|aZ<|aB<|aZ<|aB<|aA rfl<|aB<|aA rfl<|aL<|O e li (by simp) ?_
    refine aL<|U (ts:=[gt us a,gt us b,gt us c,gt us d]) (M:=m) (.inl rfl) (by simp) n ?_<|Y _ rfl
    intro t ht;simp only[ML,RQ,or_false]at ht;rcases ht with rfl|rfl|rfl|rfl
    exact hs _<|sU<|li a<|by simp
    exact hs _<|sU<|li b<|by simp
    exact hs _<|sU<|li c<|by simp
    exact hs _<|sU<|li d<|by simp
 rintro acc h' ⟨rfl,rfl⟩;rw[Ik,QG];refine aL<|LC ?_
 exact V3 k
theorem abl:JG 5 4=[[0,1,2,3],[0,1,2,4],[0,1,3,4],[0,2,3,4],[1,2,3,4]]:=rfl
theorem aez (a b c d e):Fg [a,b,c,d,e]=(fX [a,b,c,d]||(fX [a,b,c,e]||(fX [a,b,d,e]||(fX [a,c,d,e]||fX [b,c,d,e])))):=by
 unfold Fg;rw[show([a,b,c,d,e]:List Tr).length=5 from rfl,abl];simp[Kf,gt]
theorem yh {n:Tr}(U:n≠(0,0,0))(h:∀t∈ts,dt3 n t=0):AllP ts:=λp O q J r G=>flat U (h q J) (h r G) (h p O)
theorem o7 {n:Tr}(G:n≠(0,0,0))(h:fX ts=false):∃y∈ts,dt3 n y≠0:=by
 apply QK;intro q;rw[lJ (yh G λt ht=>QK λz=>q ⟨t,ht,z⟩)]at h;cases h
theorem Sy {c}(j:∀t∈[a,b,c,d,e],Pl t)(U:[a,b,c,d,e].Nodup)(h:Fg [a,b,c,d,e]=false):G5 [a,b,c,d,e]:=by
 refine⟨j,U,λn O x Y=>?_⟩;rw[aez]at h;simp at h;obtain⟨h1,h2,m,l,k⟩:=h;simp at U;obtain⟨⟨ab,r,ad,q⟩,⟨p,o,n⟩,⟨i,g⟩,f⟩:=U;simp at Y;rcases Y with rfl|rfl|rfl|rfl|rfl
 obtain⟨y,J,G⟩:=o7 O k;grind
 obtain⟨y,J,G⟩:=o7 O l;grind
 obtain⟨y,J,G⟩:=o7 O m;simp at J;rcases J with rfl|rfl|rfl|rfl
 simp_all
 exact⟨y,by simp,p,G⟩;exact⟨y,by simp,LI i,G⟩;exact⟨y,by simp,LI g,G⟩;obtain⟨y,J,G⟩:=o7 O h2;simp at J;rcases J with rfl|rfl|rfl|rfl
 exact⟨y,by simp,ad,G⟩;exact⟨y,by simp,o,G⟩;exact⟨y,by simp,i,G⟩;exact⟨y,by simp,LI f,G⟩;obtain⟨y,J,G⟩:=o7 O h1;simp at J;rcases J with rfl|rfl|rfl|rfl
 exact⟨y,by simp,q,G⟩;exact⟨y,by simp,n,G⟩;exact⟨y,by simp,g,G⟩;exact⟨y,by simp,f,G⟩
theorem Hs {r s}(hp:Pl p)(hq:Pl q)(pq:p≠q):fX [p,q,r,s]=true↔BP p q r=0/\BP p q s=0/\BP p r s=0/\BP q r s=0:=by
 constructor;intro h;have all:=QK λz=>by rw[rz z]at h;cases h
 refine⟨all r (by simp) p (by simp) q<|by simp,all s (by simp) p (by simp) q<|by simp,all s (by simp) p (by simp) r<|by simp,all s (by simp) q (by simp) r<|by simp⟩;rintro⟨h1,h2,_,_⟩;refine lJ<|yh (cO hp hq pq) λt ht=>?_
 simp at ht;rcases ht with rfl|rfl|rfl|rfl
 exact mF _ _;exact xq _ _;exact h1;exact h2
noncomputable def acQ (c0:AP):Prop:=∀{h:Gh}{p q:Tr}{m:Nat}{Q:WK}{E:Bm},m<=4000->Bx m p->Bx m q->Q (Je (wK p q)) h->c0 [tw p,tw q] h Q E
theorem afH:acQ ou:=by
 intro h p q m Q E J sp G k;obtain⟨a1,a2,a3⟩:=sp;obtain⟨Y,U,O⟩:=G;unfold ou;rfl'
 exact k
noncomputable def aaK (m:Nat):Nat:=10*m+15
theorem alM {c}(f:Bx m a)(Y:Bx m b)(sc:Bx m c)(U:Bx m d)(O:Bx m e):Jp (aaK m) (uh a b c d e):=by
 have J:Jp (4*m+3) _:=Jp.mono (vR (gq f Y) (gq sc U)) (by lia);have G:Jp (4*m+3) _:=Jp.mono (vR (gq f sc) (gq Y U)) (by lia);have hh:Sm (6*m+8) _:=(Fp J O).mono (by lia);have ht:Sm (6*m+8) _:=(Fp G O).mono (by lia);unfold uh aaK;exact⟨((hh.mul G.1).sub (ht.mul J.1)).mono (by lia),((hh.mul G.2.1).sub (ht.mul J.2.1)).mono (by lia),((hh.mul G.2.2.1).sub (ht.mul J.2.2.1)).mono (by lia),((hh.mul G.2.2.2.1).sub (ht.mul J.2.2.2.1)).mono (by lia),((hh.mul G.2.2.2.2.1).sub (ht.mul J.2.2.2.2.1)).mono (by lia),((hh.mul G.2.2.2.2.2).sub (ht.mul J.2.2.2.2.2)).mono (by lia)⟩
noncomputable def c6L (c:C6):W:=.lst [.int c.1,.int c.2.1,.int c.2.2.1,.int c.2.2.2.1,.int c.2.2.2.2.1,.int c.2.2.2.2.2]
noncomputable def ahs (c0:AP):Prop:=∀{h:Gh}{w:W}{a b c d e:Tr}{m:Nat}{Q:WK}{E:Bm},Ba h w [a,b,c,d,e]->m<=790->Bx m a->Bx m b->Bx m c->Bx m d->Bx m e->Q (c6L (uh a b c d e)) h->c0 [w] h Q E
theorem alS {to:AP}(hdt:QC dt)(hcr:Lk cr)(hto:acQ to):ahs (Dh dt cr to):=by
 intro h w a b c d e m Q E src hm sa sb sc sd se k;have at0:∀{Q:WK},Q (tw a) h->BZ w (.int 0) h Q:=λ{Q} k=>src.at (i:=0) (by simp) k
 have at1:∀{Q:WK},Q (tw b) h->BZ w (.int 1) h Q:=λ{Q} k=>src.at (i:=1) (by simp) k
 have at2:∀{Q:WK},Q (tw c) h->BZ w (.int 2) h Q:=λ{Q} k=>src.at (i:=2) (by simp) k
 have at3:∀{Q:WK},Q (tw d) h->BZ w (.int 3) h Q:=λ{Q} k=>src.at (i:=3) (by simp) k
 have at4:∀{Q:WK},Q (tw e) h->BZ w (.int 4) h Q:=λ{Q} k=>src.at (i:=4) (by simp) k
 have s1:=gq sa sb;have s2:=gq sc sd;have s3:=gq sa sc;have s4:=gq sb sd;have d1:=ju s1 se;have d2:=ju s2 se;have d3:=ju s3 se;have d4:=ju s4 se;have so6:Jp (4*m+3) (aaG a b c d):=Jp.mono (vR s1 s2) (by lia);have st6:Jp (4*m+3) (aaC a b c d):=Jp.mono (vR s3 s4) (by lia);have v1:IK (aaG a b c d) e=dt3 (crs a b) e*dt3 (crs c d) e:=qG _ _ _;have v2:IK (aaC a b c d) e=dt3 (crs a c) e*dt3 (crs b d) e:=qG _ _ _;unfold uh at k;rw[v1,v2]at k;unfold Dh;refine mK rfl (σ:=[Dn w,Go,Go,Go,Go,Go,Go]) rfl ?_;rfl'
 refine at0 ?_;rfl'
 refine at1 ?_;rfl'
 refine hcr (m:=m) (by lia) sa sb ?_;rfl'
 refine at2 ?_;rfl'
 refine at3 ?_;rfl'
 refine hcr (m:=m) (by lia) sc sd ?_;rfl'
 refine at0 ?_;rfl'
 refine at2 ?_;rfl'
 refine hcr (m:=m) (by lia) sa sc ?_;rfl'
 refine at1 ?_;rfl'
 refine at3 ?_;rfl'
 refine hcr (m:=m) (by lia) sb sd ?_;rfl'
 refine at4 ?_;rfl'
 refine hdt (m:=m+m+1) (by lia) s1 (se.mono<|by lia) ?_;rfl'
 refine at4 ?_;rfl'
 refine hdt (m:=m+m+1) (by lia) s2 (se.mono<|by lia) ?_;rfl'
 refine at4 ?_;rfl'
 refine hdt (m:=m+m+1) (by lia) s3 (se.mono<|by lia) ?_;rfl'
 refine at4 ?_;rfl'
 refine hdt (m:=m+m+1) (by lia) s4 (se.mono<|by lia) ?_;have hh:Sm (8*m+10) (dt3 (crs a b) e*dt3 (crs c d) e):=(d1.mul d2).mono (by lia);have ht:Sm (8*m+10) (dt3 (crs a c) e*dt3 (crs b d) e):=(d3.mul d4).mono (by lia);rfl'
 refine hto (m:=m+m+1) (by lia) s3 s4 ?_;rfl'
 refine hto (m:=m+m+1) (by lia) s1 s2 ?_;generalize dt3 (crs a b) e*dt3 (crs c d) e=hr at hh k;generalize dt3 (crs a c) e*dt3 (crs b d) e=th at ht k;unfold aaG at k so6;unfold aaC at k st6;generalize wK (crs a b) (crs c d)=o at so6 k;generalize wK (crs a c) (crs b d)=t at st6 k;obtain⟨o1,o2,o3,o4,o5,o6⟩:=o;obtain⟨t1,t2,t3,t4,t5,t6⟩:=t;obtain⟨so1,so2,so3,so4,so5,so6⟩:=so6;obtain⟨st1,st2,st3,st4,st5,st6⟩:=st6;simp only at so1 so2 so3 so4 so5 so6 st1 st2 st3 st4 st5 st6;rfl'
 exact k
noncomputable def OJ (c0:AP):Prop:=∀{h:Gh}{w:W}{a b c d e:Tr}{m:Nat}{Q:WK}{E:Bm},Ba h w [a,b,c,d,e]->m<=790->OkT m [a,b,c,d,e]->(G5 [a,b,c,d,e]->∀(C:C6) (k:Int),k≠0->uh a b c d e=kC k C->K4 (Ja C)->Jp (aaK m) C->Q (Je C) h)->(¬[a,b,c,d,e].Nodup->E ⟨"Alike",[]⟩ h)->([a,b,c,d,e].Nodup->Fg [a,b,c,d,e]=true->E ⟨"FourOnLine",[]⟩ h)->c0 [w] h Q E
variable {ho:AP}
theorem ajF {l n mi}(U:zf l)(i:Qe n)(g:ahq ho)(Y:ahs mi):OJ (zZ l n ho mi):=by
 intro h w a b c d e m Q E J r hs k k1 k2;refine mK rfl (σ:=[Dn w]) rfl ?_;rfl'
 refine i J (by simp) ?_;by_cases O:[a,b,c,d,e].Nodup
 ·rw[decide_eq_true O];unfold sG;rfl'
  refine g (m:=m) (by lia) J (by simp) hs ?_;by_cases f:Fg [a,b,c,d,e]=true
  ·rw[f];rfl'
   exact k2 O f
  ·have f:=by simpa using f
   have G:=Sy (λt ht=>(hs t ht).1) O f;rw[f];rfl'
   refine Y J r (hs a<|by simp).2 (hs b<|by simp).2 (hs c<|by simp).2 (hs d<|by simp).2 (hs e<|by simp).2 ?_;refine U.c6p (m:=aaK m) (.inl rfl) (Vk<|Br.of G) (alM (hs a<|by simp).2 (hs b<|by simp).2 (hs c<|by simp).2 (hs d<|by simp).2 (hs e<|by simp).2) (by unfold aaK;lia) λC j q s p o=>?_;exact k G C j q s p o
 ·rw[decide_eq_false O];rfl'
  exact k1 O
noncomputable def pom (c:C6)(p q:Tr):Int:=dt3 p (vm (bQ c) q)
noncomputable def Ky (x:Int)(p:Tr)(y:Int)(q:Tr):Tr:=(x*p.1+y*q.1,x*p.2.1+y*q.2.1,x*p.2.2+y*q.2.2)
theorem tZ (c:C6)(p q:Tr)(x y:Int):IK c (Ky x p y q)=x*x*IK c p+y*y*IK c q+x*y*pom c p q:=by
 simp[IK,pom,dt3,vm,bQ,Ky];grind
theorem alG (c)(p q)(x y):pom c p (Ky x p y q)=x*(2*IK c p)+y*pom c p q:=by
 simp[IK,pom,dt3,vm,bQ,Ky];grind
theorem j9 (c)(k)(p):IK c (sc k p)=k*k*IK c p:=by
 simp[IK,sc];grind
theorem Hx (c)(k)(p q):pom c p (sc k q)=k*pom c p q:=by
 simp[pom,dt3,vm,sc];grind
theorem qC (c)(p):pom c p p=2*IK c p:=by
 simp[pom,dt3,vm,bQ,IK];grind
theorem MN (l p q)(x y):dt3 l (Ky x p y q)=x*dt3 l p+y*dt3 l q:=by
 simp[dt3,Ky];grind
theorem Pb (p q:Tr)(x y z w:Int):crs (Ky x p y q) (Ky z p w q)=sc (x*w-y*z) (crs p q):=by
 simp[crs,Ky,sc];grind
theorem agh {t:Tr}(h:t≠(0,0,0)):dt3 t t≠0:=by
 obtain⟨a,b,c⟩:=t;intro e;simp[dt3]at e;have n:∀x:Int,0<=x*x:=λx=>by
  rcases Int.le_total 0 x with q|q
  exact Int.mul_nonneg q q;have:=Int.mul_nonneg (show 0<=-x by lia) (show 0<=-x by lia)
  rwa[Int.neg_mul_neg]at this
 have O:=n a;have J:=n b;have G:=n c;have z:∀x:Int,x*x=0->x=0:=λx h=>(Jq.mp h).elim id id
 exact h<|by rw[z a<|by lia,z b<|by lia,z c<|by lia]
theorem span {l x:Tr}(U:l≠(0,0,0))(Y:Pl p)(a:Pl b)(G:b≠p)(lp:dt3 l p=0)(O:dt3 l b=0)(J:dt3 l x=0):∃k s t,k≠0/\sc k x=Ky s p t b:=by
 have c:=flat U lp O J;refine⟨dt3 _ _,dt3 (crs x b)<|crs p b,dt3 (crs p x)<|crs p b,agh<|cO Y a λe=>G e.symm,?_⟩;obtain⟨g,f,d⟩:=b;simp[dt3,crs]at c;simp[sc,Ky,dt3,crs];grind
theorem VG {x}{s t}(hp:Pl p)(hx:Pl x)(k0:k≠0)(e:sc k x=Ky s p t b)(ne:x≠p):t≠0:=by
 rintro rfl;have e':sc k x=sc s p:=by
  rw[e];simp[Ky,sc];grind
 have s0:s≠0:=by
  rintro rfl;refine hx.ne<|(fu k0).mp ?_
  rw[e'];simp[sc]
 exact ne<|sY hx hp ⟨k,k0,rfl⟩ ⟨s,s0,e'⟩
noncomputable def InC (c:C6)(l:Tr):Prop:=∀x,dt3 l x=0->IK c x=0
noncomputable def Q6 (c:C6)(p l u:Tr):Prop:=Pl u/\dt3 l u=0/\IK c u=0/\(∀x,Pl x->dt3 l x=0->IK c x=0->x=p\/x=u)/\∀x,Pl x->dt3 l x=0->x≠p->(u=p↔pom c p x=0)
theorem mz {a b:Int}(h:a*b=0)(h0:a≠0):b=0:=(Jq.mp h).resolve_left h0
theorem Vl {c}{l:Tr}(a:l≠(0,0,0))(d:Pl p)(f:Pl b)(O:b≠p)(lp:dt3 l p=0)(Y:dt3 l b=0)(G:IK c p=0)(J:IK c b=0)(g:pom c p b=0):InC c l:=by
 intro x U;obtain⟨k,s,t,k0,e⟩:=span a d f O lp Y U;have w:=j9 c k x;rw[e,tZ,G,J,g]at w;refine mz ?_<|O6 k0 k0
 lia
theorem abC {c l}(lp:dt3 l p=0)(G:dt3 l b=0)(i:InC c l):pom c p b=0:=by
 have e:=tZ c p b 1 1;rw[i _ lp,i _ G,i _ (by rw[MN,lp,G];rfl)]at e;lia
theorem aaV {c l}(lp:dt3 l p=0)(G:dt3 l b=0)(i:InC c l):Ky (pom c b b) p (-(2*pom c p b)) b=(0,0,0):=by
 rw[abC lp G i,abC G G i];simp[Ky]
theorem Mq {c}{l:Tr}(l0:l≠(0,0,0))(hp:Pl p)(hb:Pl b)(ne:b≠p)(lp:dt3 l p=0)(lb:dt3 l b=0)(wp:IK c p=0)(hu:Pl u)(par:JT (Ky (pom c b b) p (-(2*pom c p b)) b) u):Q6 c p l u:=by
 have c0:crs p b≠(0,0,0):=cO hp hb λe=>ne e.symm
 have lu:dt3 l u=0:=by
  rw[<-Lh par,MN,lp,lb];simp
 obtain⟨j,j0,e⟩:=par;rw[qC]at e;have cE:∀s t:Int,crs (Ky s p t b) u=(0,0,0)↔s*pom c p b+t*IK c b=0:=by
  intro s t;have q:crs (Ky s p t b) (sc j u)=sc (-2*(s*pom c p b+t*IK c b)) (crs p b):=by
   rw[<-e,Pb];grind
  have q1:crs (Ky s p t b) (sc j u)=sc j (crs (Ky s p t b) u):=by
   have:=mO 1 j (Ky s p t b) u
   simp only[Int.one_mul]at this;rw[<-this];simp[sc]
  rw[q1]at q;constructor;intro z;rw[z]at q;have:-2*(s*pom c p b+t*IK c b)=0:=QK λn=>c0 ((fu n).mp (by rw[<-q];simp[sc]))
  lia;intro z;refine(fu j0).mp ?_;rw[q,z];simp[sc]
 have onlyx:∀x,Pl x->dt3 l x=0->IK c x=0->x=p\/x=u:=by
  intro x px lx wx;obtain⟨k,s,t,k0,ex⟩:=span l0 hp hb ne lp lb lx;by_cases xp:x=p
  exact .inl xp;have t0:=VG hp px k0 ex xp;have w:=j9 c k x;rw[ex,tZ,wp,wx]at w;have z:s*pom c p b+t*IK c b=0:=mz (a:=t) (by grind) t0;have:=(cE s t).mpr z
  rw[<-ex]at this;refine .inr<|wR px hu<|(fu k0).mp ?_
  have q:=mO k 1 x u;have u1:sc 1 u=u:=by simp[sc]
  rw[u1,this,Int.mul_one]at q;exact q.symm
 have up:u=p↔pom c p b=0:=by
  constructor;rintro rfl;have:crs (Ky 1 u 0 b) u=(0,0,0):=by
   have:Ky 1 u 0 b=u:=by simp[Ky]
   rw[this,qw]
  have:=(cE 1 0).mp this
  lia;intro g;refine(wR hp hu ?_).symm;have:Ky 1 p 0 b=p:=by simp[Ky]
  rw[<-this];exact(cE 1 0).mpr (by lia)
 refine⟨hu,lu,?_,onlyx,?_⟩;have w:=j9 c j u;rw[<-e,tZ,wp]at w;refine mz (a:=j*j) ?_<|O6 j0 j0
 grind
 intro x px lx xp;obtain⟨k,s,t,k0,ex⟩:=span l0 hp hb ne lp lb lx;have t0:=VG hp px k0 ex xp;have w:=Hx c k p x;rw[ex,alG,wp]at w;rw[up];constructor;intro g;rw[g]at w;exact mz (a:=k) (by lia) k0;intro g;rw[g]at w;exact mz (a:=t) (by lia) t0
theorem ajf {c l}(O:Pl b)(J:dt3 l b=0)(G:b≠p)(h1:Q6 c p l u)(h2:Q6 c p l v):u=v:=by
 obtain⟨a1,a2,a3,g,f⟩:=h1;obtain⟨e,d,a,Y,U⟩:=h2;grind
noncomputable def acD (c0:AP):Prop:=∀{h:Gh}{Q:WK}{E:Bm},Q (.lst (([(1,0,0),(0,1,0),(0,0,1),(1,1,1)]:List Tr).map tw)) h->c0 [] h Q E
theorem aaw:acD Lb:=by
 intro h Q E k;exact k
noncomputable def adU (c0:AP):Prop:=∀{h:Gh}{l p:Tr}{m:Nat}{Q:WK}{E:Bm},1<=m->m<=2000->Bx m l->Pl l->Pl p->(∀b,Pl b->dt3 l b=0->b≠p->Bx (m+m+1) b->Q (tw b) h)->c0 [tw l,tw p] h Q E
variable {me:AP}
theorem afE {C}(hme:JoinOk me)(u:acD C):adU (gH me C):=by
 intro h l p m Q E h1 hm hl D pp k;have f:Sm m 1:=.mono (m:=1) (by unfold Sm;decide) h1;have U:Sm m 0:=.mono (m:=1) (by unfold Sm;decide) h1;have K:∀e∈([(1,0,0),(0,1,0),(0,0,1)]:List Tr),Bx m e/\Pl e:=by
  intro e c;simp only[ML,RQ,or_false]at c;rcases c with rfl|rfl|rfl
  exact⟨⟨f,U,U⟩,by unfold Pl K4;decide +kernel⟩;exact⟨⟨U,f,U⟩,by unfold Pl K4;decide +kernel⟩;exact⟨⟨U,U,f⟩,by unfold Pl K4;decide +kernel⟩
 unfold gH;rfl'
 refine u ?_;refine cJ ?_;rfl'
 refine ab7 (us:=([(1,0,0),(0,1,0),(0,0,1)]:List Tr).map tw) rfl ?_;refine J6 rfl<|uD rfl ?_
 refine cU (λi acc h'=>h'=h/\∃ts:List Tr,acc=ts.map tw/\ts.length<=i/\(∀t∈ts,Pl t/\dt3 l t=0/\Bx (m+m+1) t)/\∀j,j<i->∀e,([(1,0,0),(0,1,0),(0,0,1)]:List Tr)[j]?=Dn e->(crs l e=(0,0,0)\/∃t∈ts,JT (crs l e) t)) ?_ ?_ ⟨rfl,[],rfl,JL _,λt ht=>absurd ht<|by simp,λj hj=>absurd hj<|by lia⟩
 ·rintro i w acc h' N d B ⟨rfl,ts,rfl,O,good,G⟩;obtain⟨e,H,rfl⟩:=GR B;obtain⟨v,g⟩:=K e (Qz H);refine⟨[tw e],rfl,?_⟩;have nxt:∀ts':List Tr,ts'.length<=ts.length+1->(∀t∈ts,t∈ts')->(∀t∈ts',Pl t/\dt3 l t=0/\Bx (m+m+1) t)->(crs l e=(0,0,0)\/∃t∈ts',JT (crs l e) t)->N (ts'.map tw) h':=λts' q1 P M L=>d _ _ ⟨rfl,ts',rfl,by lia,M,λj hj e' J=>by
   by_cases q:j<i
   exact(G j q e' J).imp id λ⟨t,ht,Y⟩=>⟨t,P t ht,Y⟩;have X:j=i:=by lia
   rw[X,H]at J;cases J
   exact L⟩
  rfl'
  refine abW (λz=>?_) λz=>?_
  ·rfl'
   refine hme (m:=m) (by lia) hl v D g (λq=>z q.symm) λt Y a st=>?_;have:=nxt (ts++[t]) (by simp) (λx s=>Zo _ s) (λx s=>by
    rcases Tf.mp s with q|q
    exact good x q;rw[Ri.mp q];exact⟨Y,(Lh a).mp (by rw[cD];exact mF _ _),st⟩) (.inr ⟨t,by simp,a⟩)
   rw[R9]at this;exact this
  have W:e=l:=QK λq=>z q
  subst W;exact nxt ts (by lia) (λ_ h=>h) good<|.inl<|qw _
 ·rintro acc h' ⟨rfl,ts,rfl,O,good,G⟩;have ex:∃t∈ts,t≠p:=QK λn=>by
   have Z:∀t∈ts,t=p:=λt ht=>QK λq=>n ⟨t,ht,q⟩
   have o:∀j,j<3->∀e,([(1,0,0),(0,1,0),(0,0,1)]:List Tr)[j]?=Dn e->(crs l e=(0,0,0)\/JT (crs l e) p):=λj hj e c=>(G j hj e c).imp id λ⟨t,ht,Y⟩=>by rw[<-Z t ht];exact Y
   exact acy D.ne (o 0 (by decide) _ rfl) (o 1 (by decide) _ rfl)<|o 2 (by decide) _ rfl
  have O:ts.length<=3:=O;rfl'
  refine uD (Nat.ble_eq_true_of_le (by rw[Ik];lia)) ?_;refine cU (λi acc h2=>h2=h'/\acc=((ts.take i).filter (·≠p)).map tw) ?_ ?_ ⟨rfl,rfl⟩
  ·rintro i w acc h2 N d B ⟨rfl,rfl⟩;obtain⟨t,F,rfl⟩:=GR B;refine⟨[tw t],rfl,?_⟩;rfl'
   refine abW (λz=>?_) λz=>?_
   ·rfl'
    refine d _ _ ⟨rfl,?_⟩;rw[Nj,F];simp[z]
   refine d _ _ ⟨rfl,?_⟩;rw[Nj,F];simp[Classical.not_not.mp z]
  ·rintro acc h2 ⟨rfl,rfl⟩;rw[Ik,QG];cases q:ts.filter (·≠p)with
   | nil=>
    obtain⟨t,ht,I⟩:=ex;have:t∈ts.filter (·≠p):=Xr.mpr ⟨ht,by simp[I]⟩
    rw[q]at this;exact absurd this<|by simp
   | cons b r=>
    have R:b∈ts.filter (·≠p):=by rw[q];exact T9
    obtain⟨A,y⟩:=Xr.mp R;obtain⟨V,T,S⟩:=good b A;rw[Od];refine d8 (x:=.lst (tw b::r.map tw)) (i:=0) (w:=tw b) (ws:=tw b::r.map tw) rfl (by unfold OD Ro;simp) ?_;rfl'
    exact k b V T (by simpa using y) S
theorem adu:Ga qZ:=by
 intro h w ns Q E a q;suffices O:vh (K5 (ao 0)) _ _
   {nx:=lY E {nx:=λ_ h'=>Q .non h',rt:=λw h'=>Q w h'},rt:=λw h'=>Q w h'} [Dn w,Dn _,Go,Go] h from O
 refine zbq rfl a (λi σ h'=>h'=h/\∃J G,σ=[Dn w,Dn<|.int<|gL<|ns.take i,J,G]) (λi σ h' e=>e.1 ▸ a) ?_ ?_ ⟨rfl,Go,Go,rfl⟩;rintro i n σ h' N l r ⟨rfl,J,G,rfl⟩;have c:=adX (ns.take i);generalize k:gL _=f at c;refine⟨λm σ h2=>h2=h'/\∃x y,σ=[Dn w,Dn<|.int x,Dn _,Dn<|.int y]/\0<=x/\0<=y/\T3 x y=T3 n f/\m=y.toNat,⟨_,rfl,f,_,rfl,c,Ka n,?_,rfl⟩,?_⟩;rw[abs_eq,Int.gcd_comm];simp[T3];rintro m σ h2 ⟨rfl,x,y,rfl,Y,d,b,rfl⟩;refine⟨λe=>?_,λe=>?_⟩;have U:=by simpa using e
 obtain⟨p,o,s⟩:=FT Y U;refine⟨by lia,(⟨(x.fmod y).toNat,by lia,rfl,y,x.fmod y,rfl,d,o,p.trans b,rfl⟩)⟩;have U:y=0:=by
  have:=by simpa using e
  lia
 subst U;refine l _ _ ⟨rfl,Dn<|.int n,Dn<|.int 0,?_⟩;have:gL (ns.take (i+1))=x:=by rw[Ng r,k];unfold gF;rw[<-b];exact qL Y
 rw[this];rintro σ h' ⟨rfl,J,G,rfl⟩
 rwa[QG]
theorem akp {ld:AP}(hld:Ga ld):aeI (zE ld):=by
 intro h w ns m Q E hw h0 hs hm hl q;have hz:ns.length<=JN:=Jz hl (by decide);have fin:∀by',(by'=if iD ns<0 then 0-gL ns else gL ns)->∀o2,sO ld E {nx:=λ_ h'=>Q .non h',rt:=λw h'=>Q w h'} [Dn w,Dn (.int by'),o2] h:=by
  intro by' e o2
  obtain⟨hn,pl,eq⟩:=Ep h0 e;show Jg Jr [1] (K5 (ao 0)) gU _ [Dn w,Dn (.int by'),o2] h _;refine Kg (w:=w) rfl hw hz (λi acc h'=>h'=h/\acc=((ns.take i).map (·.fdiv by')).map W.int) (λi acc h' e=>e.1 ▸ hw) ?_ ?_ ⟨rfl,rfl⟩;rintro i t acc h' N hN et ⟨rfl,rfl⟩;refine And.intro ⟨hn,m,hm,(by refine(ab6 hs).le ?_;rw[e];split<;>lia)⟩ ?_;refine hN _ _ ⟨rfl,?_⟩;rw[Nj,et];simp;rintro acc h' ⟨rfl,rfl⟩;rw[QG];exact q _ by' hn eq pl<|Fz hs hn eq
 refine hld hw ?_;show Jg Jr [] (K5 (ao 0)) _ (ao 0) [Dn w,Dn _,Go] h _;refine Kg (w:=w) rfl hw hz (λi acc h'=>h'=h/\acc=((ns.take i).filter (·≠0)).map W.int) (λi acc h' e=>by rw[e.1];exact hw) ?_ ?_ ⟨rfl,rfl⟩;rintro i n acc h' N hN en ⟨rfl,rfl⟩;show K8 _ _ _;rw[bZ];by_cases h0:n=0
 refine acq (by simp[h0])<|hN _ _ ⟨rfl,?_⟩
 rw[Nj,en];simp[h0];refine Sg (by simp[h0])<|hN _ _ ⟨rfl,?_⟩
 rw[Nj,en];simp[h0]
 ·rintro acc h' ⟨rfl,rfl⟩;rw[QG];have el:=amO h0;generalize(ns.filter (·≠0)).map W.int=F at el;show(match OD F (-1)with
    | some w=>_
    | none=>False)
  rw[el];refine Ir (λhl=>?_)<|λhl=>?_
  exact fin _ (by rw[if_pos hl]) _;exact fin _ (by rw[if_neg hl]) _
theorem aeI.tr (U:aeI c0)(hw:h.c n=Dn (.lst [.int u.1,.int u.2.1,.int u.2.2]))(h0:u≠(0,0,0))(hs:Bx m u)(O:m<=8000)(k:∀t,Pl t->Bx m t->Q (tw t) h):c0 [.loc n] h Q E:=by
 refine U (ns:=tl u) (.inr<|.inr ⟨n,rfl,hw⟩) (Um h0) hs.all O (by simp[tl]) λms f Y e J G=>?_;obtain⟨v,rfl,_⟩:=LK e;exact k v J ⟨G _<|by simp[tl],G _<|by simp[tl],G _<|by simp[tl]⟩
noncomputable def WD (c0:AP):Prop:=∀{h:Gh}{a:Int}{Q:WK}{E:Bm},(∀h',LQ h' h.nx->h'.nx=h.nx+1->(∀m,m≠h.nx->h'.c m=h.c m)->Q (.loc h.nx) h')->c0 [.int a] h Q E
theorem acT:WD O2:=by
 intro h a Q E k;refine And.intro ⟨by decide,by decide,by decide⟩<|And.intro (.inr<|.inr ?_) ?_
 have g:∀b:Bool,Sm 64 (if b=true then(1:Int)else 0):=λb=>by
  cases b;exact Sm.zero;exact .lit rfl
 exact g _;refine And.intro (show _≠0 by decide)<|k _ ⟨_,_,yp _ _,?_,(by lia)⟩ rfl λm G=>sS G
 rw[iI (by decide)];exact Ys _ (by decide)
theorem amQ {t}(x:t σ h λws h1=>fV ws.length (Q (.loc h1.nx) (h1.new (.lst ws)))):oX t σ h Q:=x
theorem ix8 {d}(h0:0<=d)(h1:d<8)(k:∀j,0<=j->j<=3->Q (.int j) h):BZ (.lst [.int 0,.int 1,.int 1,.int 1,.int 2,.int 1,.int 3,.int 1]) (.int d) h Q:=by
 rcases(show d=0\/d=1\/d=2\/d=3\/d=4\/d=5\/d=6\/d=7 by lia)with rfl|rfl|rfl|rfl|rfl|rfl|rfl|rfl
 exact k 0 (by decide)<|by decide
 exact k 1 (by decide)<|by decide
 exact k 1 (by decide)<|by decide
 exact k 1 (by decide)<|by decide
 exact k 2 (by decide)<|by decide
 exact k 1 (by decide)<|by decide
 exact k 3 (by decide)<|by decide
 exact k 1 (by decide)<|by decide
theorem adN {a b c:Int}(e:h.c n=Dn (.lst [.int a,.int b,.int c]))(k:Q (.bl (decide ((a,b,c)=((0,0,0):Tr)))) h):Jx (.loc n) (.lst [.int 0,.int 0,.int 0]) h Q:=by
 have d:Ko h (.loc n)=Dn (.lst [.int a,.int b,.int c]):=by
  show(match h.c n with
   | some (.lst ws)=>Dn _
   | _=>Go)=_
  rw[e]
 unfold Jx;rw[d];show Q _ h
 rwa[afN,show decide _=decide ((a,b,c)=((0,0,0):Tr))from decide_eq_decide.mpr (by simp)]
noncomputable def Ob:List Str:=["free", "join", "meet", "curve", "about", "pole", "other"]
noncomputable def lV (x:Str):List Str:=if x = "join" then["spot", "spot"]else if x = "meet" then["line", "line"]else if x = "about" then["curve", "spot"]else
 if x = "curve" then["spot", "spot", "spot", "spot", "spot"]else if x = "pole" then["curve", "line"]else if x = "other" then["curve", "spot", "spot"]else[]
noncomputable def Nw1 (h h':Gh):Prop:=(∀m,m≠h.nx->h'.c m=h.c m)/\h'.nx=h.nx+1
noncomputable def YB (c0:AP):Prop:=∀{h:Gh}{x:Str}{Q:WK}{E:Bm},x∈Ob->(∀h',Nw1 h h'->Q (.lst ((lV x).map .str)) h')->c0 [.str x] h Q E
noncomputable def ahk:List (Key×W):=[(.inr "free",.lst []),(.inr "join",.lst [.str "spot",.str "spot"]),(.inr "meet",.lst [.str "line",.str "line"]),(.inr "about",.lst [.str "curve",.str "spot"]),
 (.inr "curve",.lst [.str "spot",.str "spot",.str "spot",.str "spot",.str "spot"]),(.inr "pole",.lst [.str "curve",.str "line"]),(.inr "other",.lst [.str "curve",.str "spot",.str "spot"])]
theorem akI (G:x∈Ob):lA ahk (.inr x)=Dn (.lst ((lV x).map .str)):=by
 unfold Ob at G;simp at G;rcases G with e|e|e|e|e|e|e<;>subst e<;>rfl
theorem adL:YB Gw:=by
 intro h x Q E J k;show(match(h.new _).c h.nx with
  | some (.dct [])=>_
  | _=>False)
 rw[yp];show(match(((h.new (.dct [])).set h.nx _).c h.nx)with
  | some (.dct kvs)=>_
  | _=>False)
 rw[jL];show(match((((h.new (.dct [])).set h.nx _).set h.nx _).c h.nx)with
  | some (.dct kvs)=>_
  | _=>False)
 rw[jL];show(match(((((h.new _).set h.nx (.dct _)).set h.nx _).set h.nx _).c h.nx)with
  | some (.dct kvs)=>_
  | _=>False)
 rw[jL];show(match((((((h.new (.dct [])).set h.nx _).set h.nx _).set h.nx _).set h.nx _).c h.nx)with
  | some (.dct kvs)=>_
  | _=>False)
 rw[jL];show(match lA ahk (.inr x)with
  | some w=>_
  | none=>False)
 rw[akI J];refine k _ ⟨λm G=>?_,rfl⟩;rw[gk G,gk G,gk G,gk G,sS G]
noncomputable def c7 (x:Str):Str:=if x = "join" then "line" else if x = "about" then "line" else if x = "curve" then "curve" else "spot"
noncomputable def uH (c0:AP):Prop:=∀{h:Gh}{x:Str}{ws:List W}{Q:WK}{E:Bm},x∈Ob->Q (.str (c7 x)) h->c0 [.tup (.str x::ws)] h Q E
theorem Fe:uH yc:=by
 intro h x ws Q E G k;unfold c7 at k;have ix:∀{Q':WK}{h':Gh},Q' (.str x) h'->BZ (.tup (.str x::ws)) (.int 0) h' Q':=λz=>d8 rfl (bM rfl) z
 unfold yc;rfl'
 refine ix<|dW<|nQ<|qH<|Ir (λe=>?_)<|λe=>?_
 ·rw[if_pos e]at k;rfl'
  exact k
 ·rw[if_neg e]at k;rfl'
  refine ix<|dW<|nQ<|qH<|Ir (λe=>?_)<|λe=>?_
  rw[if_pos e]at k;exact k
  ·rw[if_neg e]at k;unfold uT;rfl'
   refine ix<|dW<|nQ ?_
   by_cases e:x=("curve" : Str)
   rw[if_pos e]at k;rw[decide_eq_true e];exact k;rw[if_neg e]at k;rw[decide_eq_false e];exact k
theorem ajq (G:x∈Ob):lA pA (.inr x)=Dn (.str (c7 x)):=by
 unfold Ob at G;simp at G;rcases G with e|e|e|e|e|e|e<;>subst e<;>rfl
noncomputable def Row (w:W):Prop:=∃x ns,x∈Ob/\w=.tup (.str x::(ns:List Int).map .int)
noncomputable def srt:W->Str
 | .tup (.str x::_)=>c7 x
 | _ => ""
theorem Row.sort (r:Row w)(J:uH c0)(k:Q (.str (srt w)) h):c0 [w] h Q E:=by
 obtain⟨x,ns,G,e⟩:=r;subst e;exact J G k
noncomputable def nth (ss:List Str):W->Option Str
 | .int i=>if 0<=i then ss[i.toNat]? else Go
 | _=>Go
variable {ss:List Str}
theorem adp {v}(e:0<=v):nth ss (.int v)=ss[v.toNat]?:=by
 show(if 0<=v then ss[v.toNat]? else Go)=_;rw[if_pos e]
theorem agq {tbl mb}(e:lA tbl (.inr x)=Dn w)(m:∀R,R (.str x) h->mb σ h R)(k:Q w h):aeP tbl mb σ h Q:=m _ (by
 show(match lA tbl _ with
  | some w=>Q w h
  | none=>False)
 exact e ▸ k)
noncomputable def agO (c0:AP):Prop:=∀{h:Gh}{w r:W}{rws:List W}{j:Nat}{Q:WK}{E:Bm},view h w=Dn rws->rws[j]?=Dn r->Row r->Q (.str (srt r)) h->c0 [w,.int j] h Q E
theorem zaR:agO zN:=by
 intro h w r rws j Q E O U J k;obtain⟨x,ns,G,rfl⟩:=J;exact mK rfl rfl ((agq (ajq G) (λR q=>(bA<|bA<|aA rfl<|aA rfl<|d8 O (bM U)<|dW<|d8 rfl (bM rfl) q)) k:aeP pA _ _ _ _))
noncomputable def Jh (c0:AP):Prop:=∀{h:Gh}{b:Nat}{w1:W}{rws:List W}{s:Str}{Q:WK}{E:Bm},LQ h b->view h w1=Dn rws->(∀r∈rws,Row r)->rws.length<=24->(∃r∈rws,srt r=s) ->
 (∀(j:Nat) h',(rws.map srt)[j]?=Dn s->LQ h' b->Tv b h h'->Q (.int j) h')->c0 [.loc b,w1,.str s] h Q E
variable {c1:AP}
theorem alb (u:uR c0)(hs:uH c1):Jh (xX c0 c1):=by
 intro h b w1 rws s Q E v l o hl c k;unfold xX;rfl'
 refine fH l<|aL<|N6 (m:=rws.length) (by lia)<|uD (by rw[Ik];unfold rng;rw[Yy];exact Yc.mpr (by lia)) ?_
 refine cU (λi acc h'=>h'=h/\∃js:List Nat,acc=js.map (λj:Nat=>W.int (j:Int))/\js.length<=i/\((∃k,k<i/\∃r,rws[k]?=Dn r/\srt r=s)->js≠[])/\∀j∈js,(rws.map srt)[j]?=Dn s) ?_ ?_ ⟨rfl,[],rfl,JL _,λa=>by obtain⟨_,z,_⟩:=a;exact absurd z<|Te _,λj hj=>absurd hj<|by simp⟩;rintro i w acc h' N g e ⟨rfl,js,rfl,J,U,jo⟩;rw[Ju]at e;obtain⟨x,ex,rfl⟩:=Rv.mp e;have n:=(lF ex).1;have f:=(lF ex).2;rw[YW]at n;subst n;have G:rws[x]?=Dn rws[x]:=MH f;refine⟨[.int (x:Int)],rfl,?_⟩;refine bR<|bA<|aZ<|aB<|bA<|aA rfl<|aA rfl<|d8 l (bM G)<|aL<|(o _<|YH f).sort hs (aA rfl<|nQ<|qH ?_)
 by_cases z:srt rws[x]=s
 rw[decide_eq_true z];refine dg<|aA rfl<|g _ _ ⟨rfl,js++[x],by rw[R9];rfl,by rw[Le];exact Nat.succ_le_succ J,λ_ y=>?_,λj hj=>?_⟩
 exact absurd (congrArg Tj y) (by rw[Le];exact Nat.succ_ne_zero _);rcases Tf.mp hj with hj|hj
 exact jo j hj;rw[Ri.mp hj,Ju,G,Option.map_some,z];rw[decide_eq_false z];refine yJ<|g _ _ ⟨rfl,js,rfl,Nat.le_succ_of_le J,λ⟨q,Y,r,e1,e2⟩=>U ⟨q,?_,r,e1,e2⟩,jo⟩
 rcases Nat.lt_or_ge q x with y|y
 exact y;have:q=x:=by lia
 subst this;rw[G]at e1;cases e1;exact absurd e2 z
 ·rintro acc h' ⟨rfl,js,rfl,J,U,jo⟩;have hj:js≠[]:=by
   obtain⟨r,h1,h2⟩:=c;obtain⟨q,Y,e⟩:=List.getElem_of_mem h1;refine U ⟨q,?_,r,by rw[MH Y,e],h2⟩;rw[Ik];unfold rng;rw[Yy];exact Y
  have p:js.length<=24:=by
   rw[Ik]at J;unfold rng at J;rw[Yy]at J;lia
  have t:0<js.length:=List.length_pos_iff.mpr hj;rfl'
  rw[Ik];refine u v (by lia) (by unfold Sm;lia) λd h2 A B d ho=>?_;obtain⟨dn,rfl⟩:=oJ A;have O:dn<js.length:=by lia
  refine d8 (ws:=js.map λj:Nat=>W.int (j:Int)) (w:=.int (js[dn]:Int)) rfl (bM (by rw[Ju,MH O];rfl)) ?_;exact k _ _ (jo _<|YH O) d ho
noncomputable def ZD (c0:AP):Prop:=∀{h:Gh}{b n:Nat}{rws:List W}{s:Str}{Q:WK}{E:Bm},LQ h b->h.c n=Dn (.lst rws)->b≠n->(∀r∈rws,Row r)->rws.length<=24->(∃r∈rws,srt r=s) ->
 (∀(j:Nat) h',(rws.map srt)[j]?=Dn s->LQ h' b->Tv b h h'->Q (.int j) h')->c0 [.loc b,.loc n,.str s] h Q E
theorem Jh.r (h:Jh c0):ZD c0:=λhb O _ J hl G k=>h hb (jP O) J hl G k
noncomputable def Gr (b:Nat)(h h':Gh):Prop:=h.nx<=h'.nx/\∀m,m<h.nx->m≠b->h'.c m=h.c m
theorem Gr.trans {b}{h h1 h2}(x:Gr b h h1)(y:Gr b h1 h2):Gr b h h2:=⟨Jz x.1 y.1,λm J G=>(y.2 m (Ke J x.1) G).trans (x.2 m J G)⟩
theorem Tv.gr {b:Nat}{h1:Gh}(x:Tv b h h1):Gr b h h1:=⟨Nat.le_of_eq x.1.symm,λm _ G=>x.2 m G⟩
theorem Nw1.gr {b h1}(x:Nw1 h h1):Gr b h h1:=⟨x.2 ▸ Xk _,λm G _=>x.1 m (KZ G)⟩
theorem Nw1.bag {b h1}(x:Nw1 h h1)(G:LQ h b)(hl:b<h.nx):LQ h1 b:=by
 obtain⟨p,q,e,r⟩:=G;exact⟨p,q,(x.1 b<|KZ hl).trans e,r⟩
variable {rws:List W}
theorem acN (hs:uH c1)(hn:h.c n=Dn (.lst rws))(hr:∀r∈rws,Row r)(hl:rws.length<=24)(q:Q (.lst (rws.map λr=>.str (srt r))) h):
  lcK Jr [] gU (aF c1 E (aj (ao 0) aG)) σ Q ⟨rws,Dn (n,rws)⟩ h:=by
 refine fV.mk (Jz hl<|by decide)<|Dl (λi acc h'=>h'=h/\acc=(rws.take i).map λr=>.str<|srt r) ?_ ?_ (by simp_all) ⟨rfl,rfl⟩
 rintro i acc h' ⟨rfl,_⟩ P p;exact⟨hn,p⟩;rintro i w acc h' N hN ew ⟨rfl,rfl⟩;refine⟨[w],rfl,gj<|dg<|aZ<|aB<|aA rfl<|aL<|(hr w<|Qz ew).sort hs (hN _ _ ⟨rfl,?_⟩)⟩;rw[Nj,ew,R9];rfl
theorem ahO {y}{us:List Str}{a}(e:d9 h y=Dn (us.map .str))(k:Q (.bl (!decide (a∈us))) h):Bk (.str a) y h Q:=by
 have e1:(Jc 20 (.str a)&&(us.map W.str).all (Jc 20))=true:=by
  rw[Uj];refine⟨rfl,XF.mpr λw G=>?_⟩;obtain⟨x,_,rfl⟩:=Nm.mp G;rfl
 have e2:((us.map W.str).any λu=>Jf u (.str a))=decide (a∈us):=by
  rw[Bool.eq_iff_iff,Zg,decide_eq_true_iff];constructor;rintro⟨w,G,J⟩;obtain⟨x,U,rfl⟩:=Nm.mp G
  rwa[<-eq_of_beq J]
  intro O;exact⟨.str a,Nm.mpr ⟨a,O,rfl⟩,beq_self_eq_true a⟩
 unfold Bk;rw[e];show K8 _ _ _
 rwa[e1,e2]
theorem abH {us:List Str}(U:uq ix σ=[Dn (.lst (ss.map .str))])(hl:us.length<=24)(q:∀G:List Str,(G=[]->∀u∈us,u∈ss)->G.length<=24->Q (.lst (G.map .str)) h):
  lcK Jr ix (bC (Mk Bk (ao 0) (ao 1))) (ao 0) σ Q ⟨us.map .str,Go⟩ h:=by
 refine fV.mk (by rw[Ik];exact Jz hl (by decide)) ?_;refine cU (λi acc h'=>h'=h/\∃G:List Str,acc=G.map .str/\G.length<=i/\(G=[]->∀u∈us.take i,u∈ss)) ?_ ?_ ⟨rfl,[],rfl,JL _,λ_ u a=>by simp at a⟩;rintro i w acc h' N Y e ⟨rfl,G,rfl,ll,J⟩;rw[Ju]at e;obtain⟨u,b,rfl⟩:=Rv.mp e;refine⟨[.str u],rfl,?_⟩;rw[U];refine bR<|bA<|aA rfl<|aA rfl<|ahO rfl<|qH ?_
 by_cases z:u∈ss
 rw[decide_eq_true z];refine yJ<|Y _ _ ⟨rfl,G,rfl,Nat.le_succ_of_le ll,λe v O=>?_⟩
 rw[Nj]at O;rcases Tf.mp O with O|O
 simp_all
 simp_all
 rw[decide_eq_false z];refine dg<|aA rfl<|Y _ _ ⟨rfl,G++[u],by rw[R9];rfl,Le ▸ Nat.succ_le_succ ll,λy=>?_⟩
 exact absurd (congrArg Tj y)<|Le ▸ Nat.succ_ne_zero _
 rintro acc h' ⟨rfl,G,rfl,ll,J⟩;rw[Ik]at ll J;rw[QG]at J;exact q G J<|Jz ll hl
theorem rE (G:x∈Ob):(lV x).length<=24:=by
 unfold Ob at G;simp at G;rcases G with e|e|e|e|e|e|e<;>subst e<;>decide
theorem WR {a b}(G:a.length+b.length<=1000)(x:Q (.lst (a++b)) h):cj (.lst a) (.lst b) h Q:=fV.mk (Jz G (by decide:1000<=JN)) x
theorem Qo {c2 g}(ha:YB c1)(p:ZD g){b}{a2 a3 B A}(t:LQ h b)(q:h.c n=Dn (.lst rws))(c:b≠n)(y:b<h.nx)(l:n<h.nx)
  (o:∀r∈rws,Row r) (hl:rws.length<=24) (J:x∈Ob) (hs:∀s∈lV x,∃r∈rws,srt r=s) (k:∀(ns:List Int) h',(ns.map W.int).map (nth (rws.map srt))=(lV x).map Dn->LQ h' b->Gr b h h'->D.rt (.tup (.str x::ns.map .int)) h') :
  zV c0 c1 c2 g E D [Dn (.loc b),Dn (.loc n),a2,a3,B,Dn (.str x),A] h:=by
 refine ha J λh2 n2=>?_;refine fV.mk (by rw[Ik];exact Jz (rE J) (by decide)) ?_;refine cU (λi acc h'=>LQ h' b/\Tv b h2 h'/\∃ns:List Int,acc=ns.map .int/\ns.length=i/\(ns.map W.int).map (nth<|rws.map srt)=((lV x).take i).map Dn) ?_ ?_ ⟨(n2.bag t y),⟨rfl,λ_ _=>rfl⟩,[],rfl,rfl,rfl⟩;rintro i w acc h' N v e ⟨G,o',ns,rfl,Y,U⟩;rw[Ju]at e;obtain⟨u,f,rfl⟩:=Rv.mp e;refine⟨[.str u],rfl,gj<|dg<|aZ<|aB<|aA rfl<|aB<|aA rfl<|aB<|aA rfl<|aL<|p G ((o'.2 n<|LI c).trans ((n2.1 n<|KZ l).trans q)) c o hl (hs u<|Qz f) λj C jo O a=>?_ ⟩;exact v _ _ ⟨O,⟨a.1.trans o'.1,λm d=>(a.2 m d).trans (o'.2 m d)⟩,ns++[(j:Int)],by rw[R9];rfl,by rw[Le,Y];rfl,by rw[R9,R9,U,Nj,f,R9];show _++[nth _ _]=_;rw[adp<|Int.natCast_nonneg _,Int.toNat_natCast,jo];rfl⟩;rintro acc h' ⟨G,o',ns,rfl,Y,U⟩;have z:ns.length<=24:=by rw[Y,Ik];exact rE J
 refine WR (by rw[Ik];show 1+ns.length<=1000;lia) ?_;exact k ns h' (by rw[U,Ik,QG]) G<|n2.gr.trans o'.gr
noncomputable def ok1 (ss:List Str):W->Bool
 | .tup (.str x::ns)=>decide (x∈Ob)&&decide (ns.map (nth ss)=(lV x).map Dn)
 | _=>false
noncomputable def Jy:W->Bool
 | .tup (.str x::_)=>decide (x = "free")
 | _=>false
theorem WQ {ns:List W}(G:x∈Ob)(e:ns.map (nth ss)=(lV x).map Dn):ok1 ss (.tup (.str x::ns))=true:=by
 show(decide _&&decide _)=true;simp_all
noncomputable def Xa:List Str:=["join", "meet", "curve", "about", "pole", "other", "join", "meet", "join", "meet"]
theorem akG:∀i:Fin Xa.length,Xa[i]∈Ob:=by decide +kernel
noncomputable def ahz (c0:AP):Prop:=∀{h:Gh}{b n:Nat}{rws:List W}{fr:Int}{Q:WK}{E:Bm},LQ h b->h.c n=Dn (.lst rws)->b≠n->b<h.nx->n<h.nx->(∀r∈rws,Row r)->rws.length<=23 ->
 ((rws.length:Int)<fr\/∃r∈rws,srt r = "spot")->(∀r h',Row r->((rws.length:Int)<fr->srt r = "spot")->ok1 (rws.map srt) r=true->Jy r=decide ((rws.length:Int)<fr)->LQ h' b->Gr b h h'->Q r h')->c0 [.loc b,.loc n,.int fr] h Q E
theorem afF {c2 C}(I:uR c0)(ha:YB c1)(hs:uH c2)(m:ZD C):ahz (Dg c0 c1 c2 C):=by
 intro h b n rws fr Q E K y g D v i hl l k;unfold Dg;rfl'
 refine acN hs y i (by lia) ?_;rfl'
 refine I K (by decide) (by unfold Sm;decide) λd h1 N P p u=>?_;obtain⟨dn,rfl⟩:=oJ N;have O:dn<Xa.length:=by show dn<10;lia
 have a:Xa[dn]∈Ob:=akG ⟨dn,O⟩;have F:("free" : Str)∉Xa:=by decide
 generalize B:Xa[dn]=x at a;have q:Gr b h h1:=u.gr;have o:h1.c n=Dn (.lst rws):=(u.2 n (LI g)).trans y;rfl'
 refine d8 (ws:=Xa.map W.str) (w:=.str x) rfl (bM (by rw[Ju,MH O,B];rfl)) ?_;rfl'
 refine ha a λh2 n2=>?_;have nl1:n<h1.nx:=Ke v q.1;have t:b<h1.nx:=Ke D q.1;have J:h2.c n=Dn (.lst rws):=(n2.1 n (KZ nl1)).trans o;have U:LQ h2 b:=n2.bag p t;have d:Gr b h h2:=q.trans n2.gr;have j:=jP J;rfl'
 refine abH (ss:=rws.map srt) (by rw[X4];rfl) (rE a) λls H ll=>?_;have nl2:n<h2.nx:=Ke v d.1;have Y:b<h2.nx:=Ke D d.1;rfl'
 refine fH j ?_;rfl'
 refine Ir (λe=>?_)<|λe=>?_
 ·rfl'
  refine fH j ?_;rfl'
  rw[decide_eq_true e];refine Qo (c0:=c0) (c2:=c2) (x := "free") ha m U J g Y nl2 i (by lia) (by decide) (λs hs=>absurd (show s∈([]:List Str)from hs)<|by simp) λns A f G c=>?_;exact k _ _ ⟨"free",ns,by decide,rfl⟩ (λ_=>rfl) (WQ (by decide) f) (by rw[decide_eq_true e];rfl) G<|d.trans c
 ·rfl'
  refine Ir (λe'=>?_)<|λe'=>?_
  ·rfl'
   refine fH j ?_;rfl'
   rw[decide_eq_false e];refine Qo (c0:=c0) (c2:=c2) (x := "join") ha m U J g Y nl2 i (by lia) (by decide) (λs hs=>?_) λns A f G c=>?_;have es:s = "spot":=by
    have L:s∈(["spot", "spot"]:List Str):=hs
    simpa using L
   rw[es];exact l.resolve_left e;exact k _ _ ⟨"join",ns,by decide,rfl⟩ (λz=>absurd z e) (WQ (by decide) f) (by rw[decide_eq_false e];rfl) G<|d.trans c
  have M:ls=[]:=by
   rw[Ik]at e';exact List.length_eq_zero_iff.mp<|by lia
  refine Qo (c0:=c0) (c2:=c2) (x:=x) ha m U J g Y nl2 i (by lia) a (λs hs=>?_) λns A f G c=>?_;obtain⟨r,h1,h2⟩:=Nm.mp (H M s hs);exact⟨r,h1,h2⟩;exact k _ _ ⟨x,ns,a,rfl⟩ (λz=>absurd z e) (WQ a f) (by rw[decide_eq_false e];exact decide_eq_false (λz=>F<|z ▸ B ▸ YH O)) G<|d.trans c
theorem aat {i}(c:Mz i j)(x:Q (.int (i*j)) h):M7 (.int i) (.int j) h Q:=⟨c,x⟩
theorem aby {i:Int}(x:Q (.int (if j>i then j else i)) h):aeC [.int i,.int j] h Q:=x
noncomputable def ahC (c0:AP):Prop:=∀{h:Gh}{p q:Tr}{m:Nat}{Q:WK}{E:Bm},m<=10000->Bx m p->Bx m q->Q (.int (dt3 p q)) h->c0 [tw p,.lst [.int q.1,.int q.2.1,.int q.2.2]] h Q E
theorem adS:ahC N7:=by
 intro h p q m Q E O J G k;obtain⟨h1,h2,b⟩:=J;obtain⟨a,Y,U⟩:=G;unfold N7;rfl'
 exact k
noncomputable def Fb (c0:AP):Prop:=∀{h:Gh}{M:Mt}{p q:Tr}{m:Nat}{Q:WK}{E:Bm},m<=4000->Kw m M->Bx m p->Bx m q->Q (.int (dt3 p (vm M q))) h->c0 [mw M,tw p,tw q] h Q E
theorem abS {tt}(J:ahC dt)(G:CG tt):Fb (pO dt tt):=by
 intro h M p q m Q E a U Y O k;exact G (by lia) U O<|J (by lia) (Y.mono<|by lia) (qd U O) k
theorem acX {G}(J:fL G):fL (kW G):=by
 assumption
noncomputable def agR (c0:AP):Prop:=∀{h:Gh}{l:Tr}{c:C6}{m:Nat}{Q:WK}{E:Bm},m<=1600->Bx m l->Jp m c->Q (.bl (decide (dt3 l (vm (K6 (bQ c)) l)=0))) h->c0 [tw l,Je c] h Q E
theorem akY {bo}(htu:jR tu)(hta:TabOk ta)(hbo:Fb bo):agR (zm tu ta bo):=by
 intro h l c m Q E hm sl sc k;exact hta (by lia) sc<|htu true (by lia) (gW sc)<|hbo (by lia) (tE<|gW sc) (sl.mono<|by lia) (sl.mono<|by lia) k
inductive Cm:Str->List Str->List W->Prop->Prop
 | same {s:Str}{a b:W}(pa:Jc 30 a=true) (pb:Jc 30 b=true) (e:Jf a b=true↔a=b):Cm "same" [s,s] [a,b] (a=b)
 | onl {p l:Tr}(hp:Bx 1584 p) (hl:Bx 1584 l):Cm "on" ["spot", "line"] [tw p,tw l] (dt3 p l=0)
 | onc {p:Tr}{c:C6}(hp:Bx 1584 p) (hc:Jp 1584 c):Cm "on" ["spot", "curve"] [tw p,Je c] (IK c p=0)
 | row {p q r:Tr}(hp:Pl p/\Bx 1584 p) (hq:Pl q/\Bx 1584 q) (hr:Pl r/\Bx 1584 r):Cm "row" ["spot", "spot", "spot"] [tw p,tw q,tw r] (dt3 (crs p q) r=0)
 | bunch {p q r:Tr}(hp:Pl p/\Bx 1584 p) (hq:Pl q/\Bx 1584 q) (hr:Pl r/\Bx 1584 r):Cm "bunch" ["line", "line", "line"] [tw p,tw q,tw r] (dt3 (crs p q) r=0)
 | touch {l:Tr}{c:C6}(hl:Bx 1584 l) (hc:Jp 1584 c):Cm "touch" ["line", "curve"] [tw l,Je c] (dt3 l (vm (K6 (bQ c)) l)=0)
 | parted {c:C6}(hc:Jp 1584 c):Cm "parted" ["curve"] [Je c] (det (bQ c)=0)
theorem afc {r}:AllP [p,q,r]↔dt3 (crs p q) r=0:=by
 constructor;intro h;exact h r (by simp) p (by simp) q<|by simp
 intro h;refine jw λk j i Y hj a b c U O J=>?_;have hi:i<3:=by
  grind
 have G:k=0:=by lia
 have h1:j=1:=by lia
 have h2:i=2:=by lia
 subst G h1 h2;cases U;cases O;cases J
 rwa[lQ,lQ]
theorem U8 {r}{b}(e:b=fX [p,q,r]):b=true↔dt3 (crs p q) r=0:=by
 rw[<-afc];constructor;intro h;refine QK λn=>?_;rw[e,rz n]at h;cases h;intro h;rw[e,lJ h]
noncomputable def Told (thg:List W)(js:List Nat)(ws:List W):Prop:=js.map (λj=>thg[j]?)=ws.map Dn
variable {js:List Nat}{thg:List W}
theorem Told.len (t:Told thg js ws):js.length=ws.length:=by
 have:=congrArg Tj t
 rwa[Ik,Ik]at this
theorem Told.at {thg ws js}(t:Told thg js ws){i j:Nat}(e:js[i]?=Dn j):∃w,ws[i]?=Dn w/\thg[j]?=Dn w:=by
 have:=congrArg (λl=>l[i]?) t
 simp[e]at this;cases h:ws[i]? with
 | none=>rw[h]at this;cases this
 | some w=>
  simp_all
theorem Zn {w1}(G:uq ix σ=[Dn w1])(J:view h w1=Dn thg)(t:Told thg js ws)(hl:js.length<=100)(q:Q (.lst ws) h):
  lcK Jr ix gU (Mk BZ (ao 1) (ao 0)) σ Q ⟨js.map λj:Nat=>W.int (j),Go⟩ h:=by
 refine uD (by rw[Ik];exact Yc.mpr (by lia)) ?_;refine cU (λi acc h'=>h'=h/\acc=ws.take i) ?_ ?_ ⟨rfl,rfl⟩;rintro i u acc h' N O e ⟨rfl,rfl⟩;rw[Ju]at e;obtain⟨j,a,rfl⟩:=Rv.mp e;obtain⟨w,U,Y⟩:=t.at a;refine⟨[.int _],rfl,?_⟩;rw[G];refine gj<|dg<|bA<|aA rfl<|aA rfl<|d8 J (bM Y)<|O _ _ ⟨rfl,?_⟩
 rw[Nj,U];rfl;rintro acc h' ⟨rfl,rfl⟩
 rwa[Ik,t.len,QG]
noncomputable def aem (c0:AP):Prop:=∀{h:Gh}{w0 w1:W}{rws thg ws:List W}{x:Str}{due:List Str}{js:List Nat}{P:Prop}{Q:WK}{E:Bm},view h w0=Dn rws->view h w1=Dn thg->(∀r∈rws,Row r)->Told thg js ws->js.map (λj=>(rws.map srt)[j]?)=due.map Dn->Cm x due ws P->(∀b,(b=true↔P)->Q (.bl b) h)->c0 [w0,w1,.tup (.str x::js.map λj:Nat=>W.int (j:Int))] h Q E
theorem aiA {u}{ns}:J4 (u::ns) (Dn 1) Go=ns:=by
 unfold J4;rw[show(1:Int)=((1:Nat):Int)from rfl,HT.M5,HT.Fj,PL,Nat.min_eq_left (by lia),List.drop_succ_cons,List.drop_zero,uE (by lia)]
theorem sW {u:W}{ns:List W}(x:Q (.tup ns) h):yd (.tup (u::ns)) (Dn 1) Go h Q:=by
 show Q _ h
 rwa[aiA]
variable {h':Gh}
theorem Ks {ns R}(q:R (.str x) h'):BZ (.tup (.str x::ns)) (.int 0) h' R:=d8 rfl (bM rfl) q
theorem ahi {a}{ns R}(q:R a h'):BZ (.lst (a::ns)) (.int 0) h' R:=d8 rfl (bM rfl) q
theorem ag7 {a b}{ns R}(q:R b h'):BZ (.lst (a::b::ns)) (.int 1) h' R:=d8 rfl (bM rfl) q
theorem ae2 {a b}(O:Ko h a=Dn a)(J:Ko h b=Dn b)(G:Jc 30 a=true)(pb:Jc 30 b=true)(k:Q (.bl (Jf a b)) h):Jx a b h Q:=by
 unfold Jx;rw[O,J];show K8 _ _ False
 rwa[G,pb]
theorem Qa {a:W}(p:Jc n a=true):Ko h a=Dn a:=by
 cases a with
 | loc m=>cases n<;>cases p
 | _=>rfl
theorem on2 {a b}(G:js.map (λj=>ss[j]?)=[a,b].map Dn):∃j,js[1]?=Dn j/\(W.str "on"::js.map λj:Nat=>W.int (j))[2]?=Dn (.int (j))/\ss[j]?=Dn b:=by
 cases js with
 | nil=>cases G
 | cons i js=>
  cases js with
  | nil=>exact absurd (congrArg Tj G) (by simp)
  | cons j js=>
   simp_all
variable {li:AP}
theorem aar {v ts z y so to}(n:Pz li)(i:fL v)(d:fL ts)(t:af5 z)(s:SQ y)(Y:agO so)(f:agR to):aem (BJ li v ts z y so to):=by
 intro h B w1 rws thg ws x D js P Q E U b O ht A G k;have hl:js.length<=100:=by
  rw[ht.len];cases G<;>exact S6 rfl
 unfold BJ;refine mK rfl (σ:=[Dn B,Dn w1,Dn<|.tup (.str x::js.map λj:Nat=>W.int (j:Int)),Go]) rfl ?_;refine bw<|bO<|qu<|uy<|tU<|aA rfl<|fK<|dW<|Kr<|cJ<|sW<|J6 (ws:=js.map λj:Nat=>W.int (j:Int)) (o:=Go) rfl ?_
 refine Zn rfl b ht hl ?_;rfl'
 refine Ks ?_;rfl'
 cases G with
 | same u pb e=>
  refine mY (by decide +kernel) ?_;rfl'
  refine ae2 (Qa u) (Qa pb) u pb ?_;exact k _ e
 | @onl p l J hl=>
  refine cY (by decide +kernel) ?_;rfl'
  unfold fQ;rfl'
  refine Ks ?_;rfl'
  refine mY (by decide +kernel) ?_;rfl'
  obtain⟨j,C,e2,hj⟩:=on2 A;refine d8 (ws:=.str "on"::js.map λj:Nat=>W.int (j:Int)) (w:=.int (j:Int)) rfl (bM (j:=2) e2) ?_;obtain⟨r,a,es⟩:=Rv.mp (by rw[Ju]at hj;exact hj);rfl'
  refine Y U a (O r<|Qz a) ?_;rw[es];rfl'
  refine mY (by decide +kernel) ?_;rfl'
  refine n (m:=1584) (by decide) J hl ?_;exact k _<|by rw[decide_eq_true_iff]
 | @onc p c J G=>
  refine cY (by decide +kernel) ?_;rfl'
  unfold fQ;rfl'
  refine Ks ?_;rfl'
  refine mY (by decide +kernel) ?_;rfl'
  obtain⟨j,C,e2,hj⟩:=on2 A;refine d8 (ws:=.str "on"::js.map λj:Nat=>W.int (j:Int)) (w:=.int (j:Int)) rfl (bM (j:=2) e2) ?_;obtain⟨r,a,es⟩:=Rv.mp (by rw[Ju]at hj;exact hj);rfl'
  refine Y U a (O r<|Qz a) ?_;rw[es];rfl'
  refine cY (by decide +kernel) ?_;rfl'
  refine t (m:=1584) (by decide) G J ?_;exact k _<|by rw[decide_eq_true_iff]
 | @row p q r J g O=>
  refine cY (by decide +kernel) ?_;rfl'
  unfold fQ;rfl'
  refine Ks ?_;rfl'
  refine cY (by decide +kernel) ?_;rfl'
  unfold jJ;rfl'
  refine Ks ?_;rfl'
  refine mY (by decide +kernel) ?_;rfl'
  refine i (ts:=[p,q,r]) (M:=1584) (.inl rfl) (S6 rfl) (by decide) (λt ht=>?_)<|k _<|U8 rfl
  simp only[ML,RQ,or_false]at ht;rcases ht with rfl|rfl|rfl
  exact J;exact g;exact O
 | @bunch p q r J g O=>
  refine cY (by decide +kernel) ?_;rfl'
  unfold fQ;rfl'
  refine Ks ?_;rfl'
  refine cY (by decide +kernel) ?_;rfl'
  unfold jJ;rfl'
  refine Ks ?_;rfl'
  refine cY (by decide +kernel) ?_;rfl'
  unfold nZ;rfl'
  refine Ks ?_;rfl'
  refine mY (by decide +kernel) ?_;rfl'
  refine d (ts:=[p,q,r]) (M:=1584) (.inl rfl) (S6 rfl) (by decide) (λt ht=>?_)<|k _<|U8 rfl
  simp only[ML,RQ,or_false]at ht;rcases ht with rfl|rfl|rfl
  exact J;exact g;exact O
 | @touch l c hl G=>
  refine cY (by decide +kernel) ?_;rfl'
  unfold fQ;rfl'
  refine Ks ?_;rfl'
  refine cY (by decide +kernel) ?_;rfl'
  unfold jJ;rfl'
  refine Ks ?_;rfl'
  refine cY (by decide +kernel) ?_;rfl'
  unfold nZ;rfl'
  refine Ks ?_;rfl'
  refine cY (by decide +kernel) ?_;rfl'
  unfold uf;rfl'
  refine Ks ?_;rfl'
  refine mY (by decide +kernel) ?_;rfl'
  refine f (m:=1584) (by decide) hl G ?_;exact k _<|by rw[decide_eq_true_iff]
 | @parted c G=>
  refine cY (by decide +kernel) ?_;rfl'
  unfold fQ;rfl'
  refine Ks ?_;rfl'
  refine cY (by decide +kernel) ?_;rfl'
  unfold jJ;rfl'
  refine Ks ?_;rfl'
  refine cY (by decide +kernel) ?_;rfl'
  unfold nZ;rfl'
  refine Ks ?_;rfl'
  refine cY (by decide +kernel) ?_;rfl'
  unfold uf;rfl'
  refine Ks ?_;rfl'
  refine cY (by decide +kernel) ?_;rfl'
  unfold yV;rfl'
  refine s (m:=1584) (by decide) G ?_;rfl'
  refine k _ ?_;rw[Bool.not_eq_true',decide_eq_false_iff_not,Decidable.not_not]
theorem amx {d}{mh}(x:mb (λx h'=>K8 (Jt x.cls d) (mh E D σ h') False) D σ h):Wr d mb mh E D σ h:=x
theorem zaM {f ma}(k:ma σ h λw h1=>E ⟨x,[(f,w)]⟩ h1):BX x f ma E D σ h:=k
noncomputable def Kp (h h':Gh):Prop:=h.nx<=h'.nx/\∀m,m<h.nx->h'.c m=h.c m
noncomputable def Mk1 (c0:AP)(gold:List W)(r w:W):Prop:=∀{h:Gh}{n:Nat}{Q:WK}{E:Bm},h.c n=Dn (.lst gold)->Q w h->c0 [r,.loc n] h Q E
noncomputable def Rf (c0:AP)(gold:List W)(r:W):Prop:=∀{h:Gh}{n:Nat}{Q:WK}{E:Bm},h.c n=Dn (.lst gold)->(∀x,E ⟨x,[]⟩ h)->c0 [r,.loc n] h Q E
structure JD (c0:AP) (rws sps gold:List W):Prop where
 lo:∀k,N5 k gold
 len:rws.length<=30
 le:gold.length<=rws.length
 shp:∀r∈rws,∃x ns,r=.tup (.str x::ns)
 fr:∀i r,i<gold.length->rws[i]?=Dn r->Jy r=true->sps[(rws.take i).countP Jy]?=gold[i]?
 frx:∀r,rws[gold.length]?=Dn r->Jy r=false
 mak:∀i r w,i<gold.length->rws[i]?=Dn r->Jy r=false->gold[i]?=Dn w->Mk1 c0 (gold.take i) r w
theorem amS {ns}:Jy (.tup (.str x::ns))=Jf (.str x) (.str "free"):=rfl
theorem ajA {r}(e:rws[i]?=Dn r):(rws.take (i+1)).countP Jy=(rws.take i).countP Jy+(if Jy r then 1 else 0):=by
 rw[Nj,e];simp
variable {gold:List W}
theorem zbl {mr}{sps}(P:JD mr rws sps gold)(A:gold.length=rws.length->Q (.lst gold) h)
  (v:∀r,rws[gold.length]?=Dn r->Rf mr gold r/\∀h',Kp h h'->E ⟨"Stuck",[("at",.int (gold.length:Nat))]⟩ h'):xO mr [.lst rws,.lst sps] h Q E:=by
 have C:=P.len;have B:=P.le;refine za rfl (σ:=[Dn<|.lst rws,Dn<|.lst sps,Go,Go,Go,Go,Go]) rfl ?_;refine bw<|bO<|qO (ws:=[]) (λR=>rfl) rfl λg U u t=>?_
 refine jF (λi σ h'=>∃f g d b,σ=[Dn<|.lst rws,Dn<|.lst sps,Dn<|.loc h.nx,Dn<|.int f,g,d,b]/\f=(((rws.take i).countP Jy:Nat):Int)/\i<=gold.length/\h'.c h.nx=Dn (.lst<|gold.take i)/\h'.nx=h.nx+1/\∀m,m<h.nx->h'.c m=h.c m) ?_ ?_ ⟨_,_,_,_,rfl,rfl,T7 _,U,t,λm J=>u m<|KZ J⟩
 ·rintro i D σ h' N q e ⟨f,g,d,b,rfl,l,hi,G,k,ho⟩;obtain⟨r,O,rfl⟩:=Bv e;rw[YW];refine Qs rfl rfl<|Cw<|nV ?_
  refine Cw<|nV<|Vu ?_
  have Y:=ajA O;obtain⟨x,ns,rfl⟩:=P.shp r (Qz O);refine bR<|bA<|bA<|aA rfl<|dW<|Ks<|dW ?_
  cases fr:Jy (.tup (.str x::ns))with
  | true=>
   rw[fr,if_pos rfl]at Y;have p:i<gold.length:=by
    rcases Nat.lt_or_ge i gold.length with z|z
    exact z;have o:i=gold.length:=by lia
    rw[o]at O;rw[P.frx _ O]at fr;cases fr
   have U:gold[i]?=Dn gold[i]:=MH p;have es:=P.fr i _ p O fr;refine mY fr ?_;refine bw<|jD<|qU<|aA rfl<|lE G<|aB<|bA<|aA rfl<|aA rfl ?_
   subst l;refine d8 (ws:=sps) (w:=gold[i]) rfl (bM<|by rw[es,U])<|aL ?_
   refine Il G (by rw[Ti];lia) λg2 e2 j a=>?_;refine cW<|bO<|bA<|aA rfl<|dW<|gK ?_
   refine nV<|cW ?_
   refine q _ _ ⟨_,_,_,_,rfl,by rw[Y];lia,by lia,by rw[e2,Nj,U];rfl,by rw[a];exact k,λm J=>by rw[j m<|KZ J];exact ho m J⟩
  | false=>
   rw[fr,if_neg (by decide)]at Y;have n:=fr;rw[amS]at fr;refine cY fr ?_;refine bw<|amx<|bO<|aZ<|aB<|aA rfl<|aB<|aA rfl<|aL ?_
   by_cases hl:i<gold.length
   have U:gold[i]?=Dn gold[i]:=MH hl;refine P.mak i _ _ hl O n U G ?_;refine nV<|cW<|jD<|qU<|aA rfl<|lE G<|aB<|aA rfl<|aL ?_
   refine Il G (by rw[Ti];lia) λg2 e2 j a=>?_;refine cW<|q _ _ ⟨_,_,_,_,rfl,by rw[Y];exact l,by lia,by rw[e2,Nj,U];rfl,by rw[a];exact k,λm J=>by rw[j m<|KZ J];exact ho m J⟩
   have o:i=gold.length:=by lia
   subst o;rw[QG]at G;obtain⟨k1,k2⟩:=v _ O;refine k1 G λy=>?_;have:Jt y "EaselError" = true:=by unfold Jt;simp
   show K8 (Jt y "EaselError") _ False;rw[this];refine dg<|zaM<|aA rfl ?_
   exact k2 _ ⟨by lia,ho⟩
 rintro σ h' ⟨f,g,d,b,rfl,l,hi,G,k,ho⟩;rw[CQ]at hi G;have s:gold.length=rws.length:=Nat.le_antisymm P.le hi;rw[<-s,QG]at G;refine cW ?_;unfold vG;exact dB<|aA rfl<|V3 ⟨λm c J e=>by rw[ho m J];exact e,.inr ⟨h.nx,gold,rfl,JL _,G,P.lo _,A s⟩⟩
theorem aa7 (c):tr (bQ c)=bQ c:=rfl
theorem Bp (c):K6 (bQ c)=adj (bQ c):=by
 unfold adj;simp[K6,tr,bQ,crs];grind
noncomputable def Mx (c0:AP):Prop:=∀{h:Gh}{c:C6}{l:Tr}{m:Nat}{Q:WK}{E:Bm},m<=2000->Jp m c->Bx m l->l≠(0,0,0)->(det (bQ c)≠0->∀u,Pl u->JT (vm (adj (bQ c)) l) u->Bx (3*m+5) u->Q (tw u) h)->(det (bQ c)=0->E ⟨"NotRound",[]⟩ h)->c0 [Je c,tw l] h Q E
theorem ajK {pl tt}(hpl:zf pl)(htt:CG tt)(htu:jR tu)(hta:TabOk ta)(hro:SQ ro):Mx (oY pl tt tu ta ro):=by
 intro h c l m Q E hm hc hl l0 k kx;refine hro (by omega) hc<|Om (λe=>(kx<|Decidable.not_not.mp e))<|λe=>(hta (by lia) hc<|htu true (by lia) (gW hc)<|htt (by lia) (tE<|gW hc) (hl.mono<|by lia) ?_)
 have v0:vm (K6 (bQ c)) l≠(0,0,0):=by
  rw[Bp];exact qp (cR e) l0
 exact hpl.tr (.inr rfl) v0 ((qd (tE<|gW hc) hl).mono (by lia)) (by lia) λt pt par st=>(k e t pt (by rwa[<-Bp]) st)
theorem zbW (c:C6)(v:Tr):vm (bQ c) (vm (adj (bQ c)) v)=sc (det (bQ c)) v:=by
 rw[<-j7,vD,qb,wA]
theorem amk (c)(v):vm (adj (bQ c)) (vm (bQ c) v)=sc (det (bQ c)) v:=by
 rw[<-j7,Gj,qb,wA]
theorem abN (h:JT u v):JT (vm M u) (vm M v):=by
 obtain⟨k,G,rfl⟩:=h;exact⟨k,G,sJ _ _ _⟩
noncomputable def Oq (c0:AP):Prop:=∀{h:Gh}{c:C6}{p l:Tr}{n mc ml:Nat}{Q:WK}{E:Bm},n+mc+2*ml+2<=4000->n+mc+4*ml+10<=8000->1<=ml->ml<=1999->Jp mc c->Bx n p->Bx ml l->Pl p->Pl l->(IK c p=0->dt3 p l=0->¬InC c l->∀u,Q6 c p l u->Bx (n+mc+4*ml+10) u->Q (tw u) h)->(IK c p≠0\/dt3 p l≠0->E ⟨"NotOn",[]⟩ h)->(IK c p=0->dt3 p l=0->InC c l->E ⟨"InCurve",[]⟩ h)->c0 [Je c,tw p,tw l] h Q E
theorem Vg {s t}(J:Pl p)(O:Pl b)(G:b≠p)(e:Ky s p t b=(0,0,0)):s=0/\t=0:=by
 have k:∀x y:Int,s*y-t*x=0:=λx y=>QK λn=>(cO J O λe=>G e.symm) ((fu n).mp (by
  rw[<-Pb,e];simp[crs]))
 have h1:=k 0 1;have h2:=k 1 0;lia
theorem ad1 {W Z V an}(I:Pz li)(H:af5 W)(A:TabOk ta)(a:Fb Z)(B:ZP V)(P:adU an):Oq (lM li W ta Z V an):=by
 intro h c p l n mc ml Q E hn hmc X hml K J hl j s k k1 k2;unfold lM;rfl'
 refine H (m:=n+mc) (by lia) (K.mono<|by lia) (J.mono<|by lia) ?_;refine Om (λe=>?_)<|λwp=>?_
 ·rfl'
  exact k1<|.inl e
 rfl'
 refine I (m:=n+ml) (by lia) (J.mono<|by lia) (hl.mono<|by lia) ?_;rfl'
 refine Om (λe=>?_)<|λlp=>?_
 ·rfl'
  exact k1<|.inr e
 have U:dt3 l p=0:=by rw[cD];exact lp
 rfl'
 unfold mJ;rfl'
 refine A (m:=mc) (by lia) K ?_;rfl'
 refine P (m:=ml) (by omega) (by lia) hl s j λb pb v T G=>?_;have R:Kw (mc+1) (bQ c):=gW K;have G:Bx (ml+ml+1) b:=G;have Y:Bx (mc+2*ml+4) (vm (bQ c) b):=(qd R G).mono (by lia);have so:Sm (mc+4*ml+7) (pom c b b):=(ju G Y).mono (by lia);have sg:Sm (n+mc+2*ml+6) (pom c p b):=(ju J Y).mono (by lia);have s2:Sm (n+mc+2*ml+7) (2*pom c p b):=pJ sg;rfl'
 refine a (m:=mc+2*ml+2) (by lia) (R.mono<|by lia) (G.mono<|by lia) (G.mono<|by lia) ?_;rfl'
 refine a (m:=n+mc+2*ml+2) (by omega) (R.mono<|by lia) (J.mono<|by lia) (G.mono<|by lia) ?_;have eO:dt3 b (vm (bQ c) b)=pom c b b:=rfl;have eG:dt3 p (vm (bQ c) b)=pom c p b:=rfl;rw[eO,eG];have sE:Bx (n+mc+4*ml+10) (Ky (pom c b b) p (-(2*pom c p b)) b):=by
  have sn:Sm (n+mc+2*ml+7) (-(2*pom c p b)):=s2.le (by lia);exact⟨((so.mul J.1).add (sn.mul G.1)).mono (by lia),((so.mul J.2.1).add (sn.mul G.2.1)).mono (by lia),((so.mul J.2.2).add (sn.mul G.2.2)).mono (by lia)⟩
 have f:Ky (pom c b b) p (-(2*pom c p b)) b≠(0,0,0)->∀u,Pl u->JT (Ky (pom c b b) p (-(2*pom c p b)) b) u->Bx (n+mc+4*ml+10) u->Q (tw u) h:=λE0 u r O q=>k wp lp (λi=>E0 (aaV (b:=b) U v i)) u (Mq s.ne j pb T U v wp r O) q
 have d:Ky (pom c b b) p (-(2*pom c p b)) b=(0,0,0)->E ⟨"InCurve",[]⟩ h:=λE0=>k2 wp lp (by
  obtain⟨e1,e2⟩:=Vg j pb T E0;rw[qC]at e1;exact Vl s.ne j pb T U v wp (by lia) (by lia))
 generalize pom c b b=o at *;generalize pom c p b=g at *;obtain⟨p1,p2,p3⟩:=p;obtain⟨b1,b2,b3⟩:=b;obtain⟨F,D,C⟩:=J;obtain⟨N,M,L⟩:=G;simp only at F D C N M L;rfl'
 have S:∀x y z w:Int,x*y-z*w=x*y + -z*w:=λx y z w=>by rw[Int.sub_eq_add_neg,Int.neg_mul]
 rw[S,S,S];refine B (t:=Ky o (p1,p2,p3) (-(2*g)) (b1,b2,b3)) (m:=n+mc+4*ml+10) (by omega) sE (λE0 u r O q=>?_) λE0=>?_
 ·rfl'
  refine cY rfl ?_;rfl'
  unfold lX;rfl'
  exact f E0 u r O q
 ·rfl'
  refine mY rfl ?_;rfl'
  exact d E0
noncomputable def pln (t:Tr):Tr:=Classical.epsilon λu=>Pl u/\JT t u
theorem tQ {t}(p:Pl u)(h:JT t u):u=pln t:=by
 have z:=qJ (p:=λu=>Pl u/\JT t u) ⟨u,p,h⟩;exact sY p z.1 h z.2
noncomputable def abR (a b c d e:Tr):C6:=Classical.epsilon λC=>∃k:Int,k≠0/\uh a b c d e=kC k C/\K4 (Ja C)
theorem acz {c}(k0:k≠0)(G:uh a b c d e=kC k C)(p:K4 (Ja C)):C=abR a b c d e:=by
 obtain⟨j,O,e1,J⟩:=qJ (p:=λC=>∃k:Int,k≠0/\uh a b c d e=kC k C/\K4 (Ja C)) ⟨C,k,k0,G,p⟩;exact xQ p J k0 O<|G.symm.trans e1
theorem VP {c}(k0:k≠0)(J:uh a b c d e=kC k C):∀x∈[a,b,c,d,e],IK C x=0:=λx G=>by
 have:=aah a b c d e x G
 rw[J,P0]at this;exact(Jq.mp this).resolve_right k0
theorem zbh {L}(U:det (bQ C)≠0)(O:Pl p)(J:Pl u)(h1:JT (vm (bQ C) p) L)(h2:JT (vm (adj (bQ C)) L) u):u=p:=by
 have G:=(abN h1).trans h2;rw[amk]at G;exact sY J O G ⟨_,U,rfl⟩
theorem adb (k:Int)(p q:Tr):dt3 (sc k p) (sc k q)=k*k*dt3 p q:=by rw[rN,dG];grind
theorem akC (h:JT u v):dt3 u (vm M u)=0↔dt3 v (vm M v)=0:=by
 obtain⟨k,k0,rfl⟩:=h;have e:dt3 (sc k v) (vm M (sc k v))=k*k*dt3 v (vm M v):=by rw[sJ,adb]
 rw[e];constructor;intro z;exact(Jq.mp z).resolve_left (O6 k0 k0);simp_all
theorem Nz {l}(h:JT (crs p q) l):dt3 l p=0/\dt3 l q=0:=by
 obtain⟨k,k0,e⟩:=h;have J:dt3 (crs p q) p=0:=mF _ _;have G:dt3 (crs p q) q=0:=xq _ _;rw[e,rN]at J G;exact⟨(Jq.mp J).resolve_right k0,(Jq.mp G).resolve_right k0⟩
theorem qF (h0:u≠(0,0,0)):∃t,Pl t/\JT u t:=by
 obtain⟨O,G,e⟩:=Ep (Um h0) rfl;obtain⟨t,J,e'⟩:=LK e;exact⟨t,by unfold Pl;rw[<-J];exact G,_,O,e'⟩
theorem dX (h0:u≠(0,0,0)):Pl (pln u)/\JT u (pln u):=qJ (qF h0)
theorem Ou {t}(h:JT u t)(s:Bx m u):Bx m t:=by
 obtain⟨k,k0,rfl⟩:=h;exact⟨gP s.1 rfl k0,gP s.2.1 rfl k0,gP s.2.2 rfl k0⟩
theorem aa4 {c:C6}(g:NZ (Ja c)):∃C:C6,∃k:Int,k≠0/\c=kC k C/\K4 (Ja C):=by
 obtain⟨h,f,J⟩:=Ep g rfl;generalize G:(Ja c).map _=ms at *;have hl:ms.length=6:=by rw[<-G];rfl
 match ms,hl,J,f with
 | [d,b,a,Y,U,O],_,J,e=>
  refine⟨(d,b,a,Y,U,O),_,h,?_,e⟩;obtain⟨o,n,m,l,j,i⟩:=c
  simpa[Ja,kC]using J
noncomputable def Bb (x:Str)(js:List Nat):W:=.tup (.str x::js.map λj:Nat=>W.int (j:Int))
theorem vw (e:h.c n=Dn (.lst ws)):view h (.loc n)=Dn ws:=by simp[view,d9,e]
theorem fl4 {us}(h:fX us=true)(hs:∀t∈ts,t∈us):AllP ts:=λp O q J r G=>by
 have z:AllP us:=by
  refine QK λn=>?_;rw[rz n]at h;cases h
 exact z p (hs p O) q (hs q J) r<|hs r G
theorem rA {c r s t}(G:G5 [a,b,c,d,e])(m:∀y∈[a,b,c,d,e],y=p\/y=q\/y=r\/y=s\/y=t)(U:p∈[a,b,c,d,e])(O:q∈[a,b,c,d,e])(ht:t∈[a,b,c,d,e])(J:p≠q):fX [p,q,r,s]=false:=by
 cases h:fX [p,q,r,s]with
 | false=>rfl
 | true=>
  have z:=fl4 h λ_ h=>h
  exact absurd ⟨z r (by simp) p (by simp) q<|by simp,z s (by simp) p (by simp) q<|by simp⟩<|G.no m U O ht J
theorem Oh {c}(G:G5 [a,b,c,d,e]):Fg [a,b,c,d,e]=false:=by
 have O:=G.nd;simp only[WT,ML,RQ,not_or]at O;obtain⟨⟨ab,Y,ad,k⟩,⟨U,j,i⟩,⟨h,g⟩,f,_⟩:=O;rw[aez,rA G (λy J=>by simpa using J) (by simp) (by simp) (by simp) ab,rA G (t:=d) (λy J=>by grind) (by simp) (by simp) (by simp) ab,rA G (t:=c) (λy J=>by grind) (by simp) (by simp) (by simp) ab,rA G (t:=b) (λy J=>by grind) (by simp) (by simp) (by simp) Y,rA G (t:=a) (λy J=>by grind) (by simp) (by simp) (by simp) U];rfl
noncomputable def oen (C:C6)(p l:Tr):Tr:=Classical.epsilon λu=>Q6 C p l u
theorem Lj {l}(pq:Pl q)(G:p≠q)(h:JT (crs p q) l)(o:Q6 C p l u):u=oen C p l:=ajf pq (Nz h).2 (λe=>G e.symm) o (qJ ⟨u,o⟩)
theorem PK {l}(d:¬InC C l)(w:IK C p=0)(J:Pl p)(pq:Pl q)(U:Pl l)(Y:p≠q)(h:JT (crs p q) l):Q6 C p l (oen C p l)/\JT (Ky (pom C q q) p (-(2*pom C p q)) q) (oen C p l):=by
 obtain⟨b,a⟩:=Nz h;have O:q≠p:=λe=>Y e.symm
 have c0:Ky (pom C q q) p (-(2*pom C p q)) q≠(0,0,0):=λz=>by
  obtain⟨e1,e2⟩:=Vg J pq O z;rw[qC]at e1;exact d<|Vl U.ne J pq O b a w (by lia)<|by lia
 obtain⟨u,c,G⟩:=qF c0;have o:=Mq U.ne J pq O b a w c G;exact(Lj pq Y h o) ▸ ⟨o,G⟩
inductive Out:Str->List W->Option W->Prop
 | join {p q:Tr}(ne:p≠q):Out "join" [tw p,tw q] (Dn (tw (pln (crs p q))))
 | joinN {p:Tr}:Out "join" [tw p,tw p] Go
 | meet {p q:Tr}(ne:p≠q):Out "meet" [tw p,tw q] (Dn (tw (pln (crs p q))))
 | meetN {p:Tr}:Out "meet" [tw p,tw p] Go
 | curve {a b c d e:Tr}(G:G5 [a,b,c,d,e]):Out "curve" [tw a,tw b,tw c,tw d,tw e] (Dn (Je (abR a b c d e)))
 | curveN {a b c d e:Tr}(z:¬([a,b,c,d,e].Nodup/\Fg [a,b,c,d,e]=false)):Out "curve" [tw a,tw b,tw c,tw d,tw e] Go
 | about {C:C6}{p:Tr}(n0:vm (bQ C) p≠(0,0,0)):Out "about" [Je C,tw p] (Dn (tw (pln (vm (bQ C) p))))
 | aboutN {C:C6}{p:Tr}(z:vm (bQ C) p=(0,0,0)):Out "about" [Je C,tw p] Go
 | pole {C:C6}{l:Tr}(hd:det (bQ C)≠0):Out "pole" [Je C,tw l] (Dn (tw (pln (vm (adj (bQ C)) l))))
 | poleN {C:C6}{l:Tr}(hd:det (bQ C)=0):Out "pole" [Je C,tw l] Go
 | other {C:C6}{p q:Tr}(ne:p≠q) (w0:IK C p=0) (ni:¬InC C (pln (crs p q))):Out "other" [Je C,tw p,tw q] (Dn (tw (oen C p (pln (crs p q)))))
 | otherN {C:C6}{p q:Tr}(z:p=q\/IK C p≠0\/InC C (pln (crs p q))):Out "other" [Je C,tw p,tw q] Go
noncomputable def Tg (s:Str)(n:Nat)(w:W):Prop:=(s = "curve"/\10<=n/\∃C:C6,w=Je C/\K4 (Ja C)/\Jp (33*n-3) C)\/(s ≠ "curve"/\1<=n/\∃t:Tr,w=tw t/\Pl t/\Bx (33*n-3) t)
variable {s:Str}
theorem Tg.pos (h:Tg s n w):1<=n:=by
 rcases h with⟨_,h,_⟩|⟨_,h,_⟩
 lia;exact h
theorem Tg.t {s n w}(h:Tg s n w)(e:s ≠ "curve"):∃t,w=tw t/\Pl t/\Bx (33*n-3) t:=by
 rcases h with⟨z,_⟩|⟨_,_,h⟩
 simp_all
 exact h
theorem Tg.c (h:Tg "curve" n w):10<=n/\∃C,w=Je C/\K4 (Ja C)/\Jp (33*n-3) C:=by
 rcases h with⟨_,h⟩|⟨z,_⟩
 exact h;simp_all
noncomputable def wtF (x:Str)(l:List Nat):Nat:=if x = "free" then 1 else if x = "curve" then 2*l.sum else if x = "pole" then 2*l.getD 0 0+l.getD 1 0 else if x = "other" then l.getD 0 0+l.getD 1 0+2*l.getD 2 0 else l.sum
inductive RV:List Str->List Nat->List W->Prop
 | nil:RV [] [] []
 | cons {s:Str}{n:Nat}{w:W}{ss:List Str}{ns:List Nat}{ws:List W}(h:Tg s n w) (t:RV ss ns ws):RV (s::ss) (n::ns) (w::ws)
theorem ahI {c}(z:[a,b,c,d,e].Nodup/\Fg [a,b,c,d,e]=false)(G:∀t∈[a,b,c,d,e],Pl t):G5 [a,b,c,d,e]:=Sy G z.1 z.2
theorem Fy (J:Bx m p)(G:Bx n q):Jp (m+n+1) (wK p q):=
 ⟨(J.1.mul G.1).mono (by lia),((J.1.mul G.2.1).add (J.2.1.mul G.1)).mono (by lia),(J.2.1.mul G.2.1).mono (by lia),((J.1.mul G.2.2).add (J.2.2.mul G.1)).mono (by lia),((J.2.1.mul G.2.2).add (J.2.2.mul G.2.1)).mono (by lia),(J.2.2.mul G.2.2).mono (by lia)⟩
theorem ald {c}{ma mb mc md me N}(sa:Bx ma a)(sb:Bx mb b)(sc:Bx mc c)(sd:Bx md d)(se:Bx me e)(hN:ma+mb+mc+md<=N):Jp (2*N+2*me+14) (uh a b c d e):=by
 have so6:Jp (N+3) _:=Jp.mono (Fy (lN sa sb) (lN sc sd)) (by lia);have st6:Jp (N+3) _:=Jp.mono (Fy (lN sa sc) (lN sb sd)) (by lia);have hh:Sm (N+2*me+9) _:=(Fp so6 se).mono (by lia);have ht:Sm (N+2*me+9) _:=(Fp st6 se).mono (by lia);exact⟨((hh.mul st6.1).sub (ht.mul so6.1)).mono (by lia),((hh.mul st6.2.1).sub (ht.mul so6.2.1)).mono (by lia),((hh.mul st6.2.2.1).sub (ht.mul so6.2.2.1)).mono (by lia),((hh.mul st6.2.2.2.1).sub (ht.mul so6.2.2.2.1)).mono (by lia),((hh.mul st6.2.2.2.2.1).sub (ht.mul so6.2.2.2.2.1)).mono (by lia),((hh.mul st6.2.2.2.2.2).sub (ht.mul so6.2.2.2.2.2)).mono (by lia)⟩
theorem Pg {c}(G:G5 [a,b,c,d,e]):∃k,k≠0/\uh a b c d e=kC k (abR a b c d e)/\K4 (Ja (abR a b c d e)):=
 qJ (aa4 (Vk (Br.of G)))
theorem af6 {c}(k0:k≠0)(e:c=kC k C)(s:Jp m c):Jp m C:=by
 rw[e]at s;exact⟨gP s.1 rfl k0,gP s.2.1 rfl k0,gP s.2.2.1 rfl k0,gP s.2.2.2.1 rfl k0,gP s.2.2.2.2.1 rfl k0,gP s.2.2.2.2.2 rfl k0⟩
theorem afb:lV "meet" = (["line", "line"]:List Str):=rfl
theorem aef:lV "curve" = (["spot", "spot", "spot", "spot", "spot"]:List Str):=rfl
theorem aaN:lV "about" = (["curve", "spot"]:List Str):=rfl
theorem aaO:lV "pole" = (["curve", "line"]:List Str):=rfl
theorem aaF:lV "other" = (["curve", "spot", "spot"]:List Str):=rfl
theorem ahR (h:x∈Ob)(n:x ≠ "free"):x = "join"\/x = "meet"\/x = "curve"\/x = "about"\/x = "pole"\/x = "other":=by
 unfold Ob at h
 simp_all
theorem RV.two {J G}{ns}(h:RV [J,G] ns ws):∃n1 n2 w1 w2,ns=[n1,n2]/\ws=[w1,w2]/\Tg J n1 w1/\Tg G n2 w2:=by
 cases h with
 | cons h1 t=>cases t with
  | cons h2 t=>cases t;exact⟨_,_,_,_,rfl,rfl,h1,h2⟩
theorem RV.three {Y U O ns}(h:RV [Y,U,O] ns ws):∃n1 n2 J w1 G w3,ns=[n1,n2,J]/\ws=[w1,G,w3]/\Tg Y n1 w1/\Tg U n2 G/\Tg O J w3:=by
 cases h with
 | cons h1 t=>
  obtain⟨n2,J,G,w3,rfl,rfl,h2,a⟩:=t.two;grind
theorem RV.five {f e d c b:Str}{ns:List Nat}(h:RV [f,e,d,c,b] ns ws):∃n1 n2 Y U O w1 a J G w5,ns=[n1,n2,Y,U,O]/\ws=[w1,a,J,G,w5]/\Tg f n1 w1/\Tg e n2 a/\Tg d Y J/\Tg c U G/\Tg b O w5:=by
 cases h with
 | cons h1 t=>cases t with
  | cons h2 t=>
   obtain⟨Y,U,O,J,G,w5,rfl,rfl,j,i,g⟩:=t.three;exact⟨_,_,_,_,_,_,_,_,_,_,rfl,rfl,h1,h2,j,i,g⟩
theorem Jv:("spot" : Str) ≠ "curve":=nofun
theorem Ub:("line" : Str) ≠ "curve":=nofun
open Classical in
theorem Out.ex {ns}(hx:x∈Ob)(nf:x ≠ "free")(h:RV (lV x) ns ws):∃o,Out x ws o:=by
 rcases ahR hx nf with rfl|rfl|rfl|rfl|rfl|rfl
 obtain⟨_,_,_,_,rfl,rfl,h1,h2⟩:=h.two;obtain⟨p,rfl,_⟩:=h1.t Jv;obtain⟨q,rfl,_⟩:=h2.t Jv;by_cases e:p=q
 subst e;exact⟨_,.joinN⟩;exact⟨_,.join e⟩;obtain⟨_,_,_,_,rfl,rfl,h1,h2⟩:=h.two;obtain⟨p,rfl,_⟩:=h1.t Ub;obtain⟨q,rfl,_⟩:=h2.t Ub;by_cases e:p=q
 subst e;exact⟨_,.meetN⟩;exact⟨_,.meet e⟩;rw[aef]at h;obtain⟨_,_,_,_,_,_,_,_,_,_,rfl,rfl,h1,h2,h3,h4,h5⟩:=h.five;obtain⟨a,rfl,pa,_⟩:=h1.t Jv;obtain⟨b,rfl,pb,_⟩:=h2.t Jv;obtain⟨c,rfl,pc,_⟩:=h3.t Jv;obtain⟨d,rfl,pd,_⟩:=h4.t Jv;obtain⟨e,rfl,pe,_⟩:=h5.t Jv;by_cases z:[a,b,c,d,e].Nodup/\Fg [a,b,c,d,e]=false
 refine⟨_,.curve<|ahI z λt ht=>?_⟩;simp at ht;rcases ht with rfl|rfl|rfl|rfl|rfl<;>assumption
 exact⟨_,.curveN z⟩;rw[aaN]at h;obtain⟨_,_,_,_,rfl,rfl,h1,h2⟩:=h.two;obtain⟨_,C,rfl,_⟩:=h1.c;obtain⟨p,rfl,_⟩:=h2.t Jv;by_cases e:vm (bQ C) p=(0,0,0)
 exact⟨_,.aboutN e⟩;exact⟨_,.about e⟩;rw[aaO]at h;obtain⟨_,_,_,_,rfl,rfl,h1,h2⟩:=h.two;obtain⟨_,C,rfl,_⟩:=h1.c;obtain⟨p,rfl,_⟩:=h2.t Ub;by_cases e:det (bQ C)=0
 exact⟨_,.poleN e⟩;exact⟨_,.pole e⟩;rw[aaF]at h;obtain⟨_,_,_,_,_,_,rfl,rfl,h1,h2,h3⟩:=h.three;obtain⟨_,C,rfl,_⟩:=h1.c;obtain⟨p,rfl,_⟩:=h2.t Jv;obtain⟨q,rfl,_⟩:=h3.t Jv;by_cases e:p=q\/IK C p≠0\/InC C (pln (crs p q))
 exact⟨_,.otherN e⟩;exact⟨_,.other (λz=>e<|.inl z) (QK λz=>e<|.inr<|.inl z) λz=>e<|.inr<|.inr z⟩
theorem nY (h:tw p=tw q):p=q:=by
 obtain⟨a,b,c⟩:=p;simp[tw]at h;simp[h]
theorem adl {p q}(h:Je p=Je q):p=q:=by
 obtain⟨a,b,c,d,e,f⟩:=p;simp[Je]at h;simp[h]
theorem tgt (h:Tg s n (tw p))(e:s ≠ "curve"):Pl p/\Bx (33*n-3) p:=by
 obtain⟨t,G,r⟩:=h.t e;cases nY G
 exact r
theorem Wu (h:Tg "curve" n (Je C)):10<=n/\K4 (Ja C)/\Jp (33*n-3) C:=by
 obtain⟨G,t,J,r⟩:=h.c;cases adl J
 simp_all
theorem Hw (h0:u≠(0,0,0))(s:Bx m u):Pl (pln u)/\JT u (pln u)/\Bx m (pln u):=⟨(dX h0).1,(dX h0).2,Ou (dX h0).2 s⟩
theorem ab1 {mc mp G}(a:Jp mc C)(O:Bx mp p)(J:Bx G q):Bx (mc+mp+2*G+7) (Ky (pom C q q) p (-(2*pom C p q)) q):=by
 have U:Bx (mc+G+3) _:=(qd (gW a) J).mono (by lia);have so:Sm (mc+2*G+5) _:=(ju J U).mono (by lia);have Y:Sm (mc+mp+G+5) (pom C p q):=(ju O U).mono (by lia);have sn:Sm _ (-(2*pom C p q)):=(pJ Y).le (by omega);exact⟨((so.mul O.1).add (sn.mul J.1)).mono (by lia),((so.mul O.2.1).add (sn.mul J.2.1)).mono (by lia),((so.mul O.2.2).add (sn.mul J.2.2)).mono (by lia)⟩
variable {n1 n2:Nat}
theorem Bw:wtF "join" [n1,n2]=n1+n2:=rfl
theorem Dj:wtF "meet" [n1,n2]=n1+n2:=rfl
theorem wY:wtF "about" [n1,n2]=n1+n2:=rfl
theorem wO {O J G}:wtF "curve" [n1,n2,O,J,G]=2*(n1+(n2+(O+(J+G)))):=rfl
theorem CP:wtF "pole" [n1,n2]=2*n1+n2:=rfl
theorem vZ {n3}:wtF "other" [n1,n2,n3]=n1+n2+2*n3:=rfl
theorem Ce:wtF "free" []=1:=rfl
theorem afV:c7 "join" ≠ "curve"/\c7 "meet" ≠ "curve"/\c7 "about" ≠ "curve"/\c7 "pole" ≠ "curve"/\c7 "other" ≠ "curve"/\c7 "curve" = "curve":=by decide
theorem Out.tg {ns}(o:Out x ws (Dn w))(h:RV (lV x) ns ws):Tg (c7 x) (wtF x ns) w:=by
 obtain⟨L,K,I,H,F,E⟩:=afV;cases o with
 | @join p q U=>
  obtain⟨n1,n2,_,_,rfl,e,h1,h2⟩:=h.two;cases e;obtain⟨J,sp⟩:=tgt h1 Jv;obtain⟨pq,Y⟩:=tgt h2 Jv;have g:=h1.pos;have f:=h2.pos;obtain⟨a,_,c⟩:=Hw (cO J pq U) (lN sp Y);have O:wtF "join" [n1,n2]=n1+n2:=Bw;exact .inr ⟨L,by lia,_,rfl,a,c.mono<|by lia⟩
 | @meet p q U=>
  obtain⟨n1,n2,_,_,rfl,e,h1,h2⟩:=h.two;cases e;obtain⟨J,sp⟩:=tgt h1 Ub;obtain⟨pq,Y⟩:=tgt h2 Ub;have g:=h1.pos;have f:=h2.pos;obtain⟨a,_,c⟩:=Hw (cO J pq U) (lN sp Y);have O:wtF "meet" [n1,n2]=n1+n2:=Dj;exact .inr ⟨K,by lia,_,rfl,a,c.mono<|by lia⟩
 | @curve a b c d e G=>
  rw[aef]at h;obtain⟨n1,n2,n3,n,m,_,_,_,_,_,rfl,P,h1,h2,i,t,r⟩:=h.five;cases P;have g:=h1.pos;have f:=h2.pos;have D:=i.pos;have R:=t.pos;have Q:=r.pos;obtain⟨k,k0,N,y⟩:=Pg G;have s:=ald (tgt h1 Jv).2 (tgt h2 Jv).2 (tgt i Jv).2 (tgt t Jv).2 (tgt r Jv).2 (JL _);have O:wtF "curve" [n1,n2,n3,n,m]=2*(n1+(n2+(n3+(n+m)))):=wO;rw[O,E];exact .inl ⟨rfl,by lia,_,rfl,y,(af6 k0 N s).mono (by lia)⟩
 | @about C p B=>
  rw[aaN]at h;obtain⟨n1,n2,_,_,rfl,e,h1,h2⟩:=h.two;cases e;obtain⟨g,_,sc⟩:=Wu h1;obtain⟨J,sp⟩:=tgt h2 Jv;have f:=h2.pos;obtain⟨a,_,c⟩:=Hw B (qd (gW sc) sp);have O:wtF "about" [n1,n2]=n1+n2:=wY;rw[O];exact .inr ⟨I,by lia,_,rfl,a,c.mono<|by lia⟩
 | @pole C l M=>
  rw[aaO]at h;obtain⟨n1,n2,_,_,rfl,e,h1,h2⟩:=h.two;cases e;obtain⟨g,_,sc⟩:=Wu h1;obtain⟨J,sp⟩:=tgt h2 Ub;have f:=h2.pos;have v:Bx (2*(33*n1-3)+(33*n2-3)+5) (vm (adj (bQ C)) l):=by
   rw[<-Bp];exact(qd (tE<|gW sc) sp).mono (by lia)
  obtain⟨a,_,c⟩:=Hw (qp (cR M) J.ne) v;have O:wtF "pole" [n1,n2]=2*n1+n2:=CP;rw[O];exact .inr ⟨H,by lia,_,rfl,a,c.mono<|by lia⟩
 | @other C p q U u A=>
  rw[aaF]at h;obtain⟨n1,n2,n3,_,_,_,rfl,e,h1,h2,i⟩:=h.three;cases e;obtain⟨g,_,sc⟩:=Wu h1;obtain⟨J,sp⟩:=tgt h2 Jv;obtain⟨pq,Y⟩:=tgt i Jv;have f:=h2.pos;have D:=i.pos;have z:=dX (cO J pq U);obtain⟨oe,j⟩:=PK A u J pq z.1 U z.2;have O:wtF "other" [n1,n2,n3]=n1+n2+2*n3:=vZ;rw[O];exact .inr ⟨F,by lia,_,rfl,oe.1,(Ou j<|ab1 sc sp Y).mono (by lia)⟩
section
variable {jo th sp oe:AP}{w1:W}
theorem jM {x}{ws}(G:view h w1=Dn thg)(t:Told thg js ws)(hl:js.length<=100) (k:(aU (d7 (bC (Mk Jx (Mk BZ (ao 0) (mC (.int 0))) (mC (.str "join")))) (bN (aF jo E (aj (Mk BZ (ao 2) (mC (.int 0))) (aj (Mk BZ (ao 2) (mC (.int 1))) aG)))) bK)
  (bT jo me th li sp oe E)) {nx:=λ_ h'=>Q .non h',rt:=λw h'=>Q w h'} [Dn (.tup (.str x::js.map λj:Nat=>W.int (j))),Dn w1,Dn (.lst ws)] h):aN jo me th li sp oe [.tup (.str x::js.map λj:Nat=>W.int (j)),w1] h Q E:=by
 unfold aN;refine mK rfl rfl<|bw<|bO<|qu<|uy<|tU<|aA rfl<|fK<|dW<|Kr<|cJ<|sW<|J6 rfl<|Zn rfl G t hl ?_
 assumption
theorem aii {a b c}{ns R}(q:R c h'):BZ (.lst (a::b::c::ns)) (.int 2) h' R:=d8 rfl (bM rfl) q
theorem Kq (hj:nH jo)(b:view h w1=Dn thg)(t:Told thg js [tw p,tw q])(c:m<=3900)(G:Bx m p)(J:Bx m q)(U:Pl p)(pq:Pl q)(k:p≠q->∀t:Tr,Pl t->JT (crs p q) t->Bx (m+m+1) t->Q (tw t) h)(a:p=q->E ⟨"Alike",[]⟩ h):
  aN jo me th li sp oe [.tup (.str "join"::js.map λj:Nat=>W.int (j:Int)),w1] h Q E:=by
 refine jM b t (t.len ▸ S6 rfl) ?_;rfl'
 exact Ks<|mY (by decide +kernel)<|hj c G J U pq (λne t O Y st=>(k ne t O Y st)) a
theorem Mw (hj:nH me)(b:view h w1=Dn thg)(t:Told thg js [tw p,tw q])(c:m<=3900)(G:Bx m p)(J:Bx m q)(U:Pl p)(pq:Pl q)(k:p≠q->∀t,Pl t->JT (crs p q) t->Bx (m+m+1) t->Q (tw t) h)(a:p=q->E ⟨"Alike",[]⟩ h):
  aN jo me th li sp oe [.tup (.str "meet"::js.map λj:Nat=>W.int (j)),w1] h Q E:=by
 refine jM b t (t.len ▸ S6 rfl) ?_;rfl'
 refine Ks<|cY (by decide +kernel) ?_
 unfold bT;rfl'
 exact Ks<|mY (by decide +kernel)<|hj c G J U pq (λne t O Y st=>(k ne t O Y st)) a
theorem PX (ht:OJ th){c}(U:view h w1=Dn thg)(t:Told thg js [tw a,tw b,tw c,tw d,tw e])(Y:m<=790)(G:OkT m [a,b,c,d,e])(k:G5 [a,b,c,d,e]->∀C  (k),k≠0->uh a b c d e=kC k C->K4 (Ja C)->Jp (aaK m) C->Q (Je C) h)
  (O:¬[a,b,c,d,e].Nodup->E ⟨"Alike",[]⟩ h) (J:[a,b,c,d,e].Nodup->Fg [a,b,c,d,e]=true->E ⟨"FourOnLine",[]⟩ h) :
  aN jo me th li sp oe [.tup (.str "curve"::js.map λj:Nat=>W.int (j)),w1] h Q E:=by
 refine jM U t (t.len ▸ S6 rfl) ?_;rfl'
 refine Ks<|cY (by decide +kernel) ?_
 unfold bT;rfl'
 refine Ks<|cY (by decide +kernel) ?_
 unfold cI;rfl'
 exact Ks<|mY (by decide +kernel)<|ht (.inl rfl) Y G k O J
theorem Lx (hl:Mr li){c}(hv:view h w1=Dn thg)(t:Told thg js [Je c,tw p])(hm:m<=3000)(hc:Jp m c)(hp:Bx m p)(k:vm (bQ c) p≠(0,0,0)->∀u,Pl u->JT (vm (bQ c) p) u->Bx (m+m+4) u->Q (tw u) h)(kx:vm (bQ c) p=(0,0,0)->E ⟨"Knot",[]⟩ h):
  aN jo me th li sp oe [.tup (.str "about"::js.map λj:Nat=>W.int (j)),w1] h Q E:=by
 refine jM hv t (by rw[t.len];exact S6 rfl) ?_;rfl'
 refine Ks ?_;refine cY (by decide +kernel) ?_;unfold bT;rfl'
 refine Ks ?_;refine cY (by decide +kernel) ?_;unfold cI;rfl'
 refine Ks ?_;refine cY (by decide +kernel) ?_;unfold dh;rfl'
 refine Ks ?_;refine mY (by decide +kernel) ?_;exact hl hm hc hp k kx
theorem U4 (hs:Mx sp){c l}(O:view h w1=Dn thg)(t:Told thg js [Je c,tw l])(U:m<=2000)(Y:Jp m c)(hl:Bx m l)(G:l≠(0,0,0))(k:det (bQ c)≠0->∀u,Pl u->JT (vm (adj (bQ c)) l) u->Bx (3*m+5) u->Q (tw u) h)(J:det (bQ c)=0->E ⟨"NotRound",[]⟩ h):
  aN jo me th li sp oe [.tup (.str "pole"::js.map λj:Nat=>W.int (j)),w1] h Q E:=by
 refine jM O t (by rw[t.len];exact S6 rfl) ?_;rfl'
 refine Ks ?_;refine cY (by decide +kernel) ?_;unfold bT;rfl'
 refine Ks ?_;refine cY (by decide +kernel) ?_;unfold cI;rfl'
 refine Ks ?_;refine cY (by decide +kernel) ?_;unfold dh;rfl'
 refine Ks ?_;refine cY (by decide +kernel) ?_;unfold fB;rfl'
 refine Ks ?_;rfl'
 refine mY (by decide +kernel) ?_;rfl'
 exact hs U Y hl G k J
theorem m_other (hj:nH jo)(ho:Oq oe){c}{mc mp G}(f:view h w1=Dn thg)(t:Told thg js [Je c,tw p,tw q])(v:mp+mc+2*(mp+G+1)+2<=4000)(s:mp+mc+4*(mp+G+1)+10<=8000)(r:mp+G+1<=1999)(g:Jp mc c)(U:Bx mp p)(a:Bx G q)(Y:Pl p)(pq:Pl q)
  (k:p≠q->IK c p=0->∀l,Pl l->JT (crs p q) l->¬InC c l->∀u,Q6 c p l u->Q (tw u) h) (k1:p=q->E ⟨"Alike",[]⟩ h) (k2:p≠q->IK c p≠0->E ⟨"NotOn",[]⟩ h) (k3:p≠q->IK c p=0->∀l,Pl l->JT (crs p q) l->InC c l->E ⟨"InCurve",[]⟩ h) :
  aN jo me th li sp oe [.tup (.str "other"::js.map λj:Nat=>W.int (j)),w1] h Q E:=by
 refine jM f t (by rw[t.len];exact S6 rfl) ?_;rfl'
 refine Ks ?_;refine cY (by decide +kernel) ?_;unfold bT;rfl'
 refine Ks ?_;refine cY (by decide +kernel) ?_;unfold cI;rfl'
 refine Ks ?_;refine cY (by decide +kernel) ?_;unfold dh;rfl'
 refine Ks ?_;refine cY (by decide +kernel) ?_;rfl'
 unfold fB;rfl'
 refine Ks ?_;rfl'
 refine cY (by decide +kernel) ?_;rfl'
 unfold jh;rfl'
 refine hj (m:=mp+G) (by lia) (U.mono<|by lia) (a.mono<|by lia) Y pq (λne l O J _=>?_) k1;have d:dt3 p l=0:=by
  obtain⟨j,b,e⟩:=J;have z:dt3 p (crs p q)=0:=by rw[cD];exact mF _ _
  rw[e,dG]at z;exact(Jq.mp z).resolve_right b
 have sl:Bx (mp+G+1) l:=Ou J (lN U a);rfl'
 exact ho (n:=mp) (mc:=mc) (ml:=mp+G+1) v s (by lia) r g U sl Y O (λw0 _ i u o _=>k ne w0 l O J i u o) (λz=>z.elim (λz=>k2 ne z) λz=>absurd d z) λw0 _ z=>k3 ne w0 l O J z
end
variable {jo oe th:AP}
section
variable {sp:AP}(hj:nH jo)(hme:nH me)(ht:OJ th)(hl:Mr li)(hs:Mx sp)(hX9:Oq oe)
include hj hme ht hl hs hX9
theorem Out.run {ns o}(O:Out x ws o)(h:RV (lV x) ns ws)(hw:wtF x ns<=48)(t:Told gold js ws){hh}(f:hh.c n=Dn (.lst gold))(k:∀w,o=Dn w->Q w hh)(g:o=Go->∀y,E ⟨y,[]⟩ hh):aN jo me th li sp oe [Bb x js,.loc n] hh Q E:=by
 cases O with
 | @join p q ne=>
  obtain⟨n1,n2,_,_,rfl,e,h1,h2⟩:=h.two;cases e;rw[Bw]at hw;obtain⟨U,sp⟩:=tgt h1 Jv;obtain⟨pq,j⟩:=tgt h2 Jv;exact Kq hj (vw f) t (m:=33*48) (by decide) (sp.mono<|by lia) (j.mono<|by lia) U pq (λ_ u r J _=>by rw[tQ r J];exact k _ rfl)<|λe=>absurd e ne
 | @joinN p=>
  obtain⟨n1,n2,_,_,rfl,e,h1,h2⟩:=h.two;cases e;rw[Bw]at hw;obtain⟨U,sp⟩:=tgt h1 Jv;exact Kq hj (vw f) t (m:=33*48) (by decide) (sp.mono<|by lia) (sp.mono<|by lia) U U (λne _ _ _ _=>absurd rfl ne)<|λ_=>g rfl _
 | @meet p q ne=>
  rw[afb]at h;obtain⟨n1,n2,_,_,rfl,e,h1,h2⟩:=h.two;cases e;rw[Dj]at hw;obtain⟨U,sp⟩:=tgt h1 Ub;obtain⟨pq,j⟩:=tgt h2 Ub;exact Mw hme (vw f) t (m:=33*48) (by decide) (sp.mono<|by lia) (j.mono<|by lia) U pq (λ_ u r J _=>by rw[tQ r J];exact k _ rfl)<|λe=>absurd e ne
 | @meetN p=>
  rw[afb]at h;obtain⟨n1,n2,_,_,rfl,e,h1,h2⟩:=h.two;cases e;rw[Dj]at hw;obtain⟨U,sp⟩:=tgt h1 Ub;exact Mw hme (vw f) t (m:=33*48) (by decide) (sp.mono<|by lia) (sp.mono<|by lia) U U (λne _ _ _ _=>absurd rfl ne)<|λ_=>g rfl _
 | @curve a b c d e G=>
  rw[aef]at h;obtain⟨n1,n2,I,R,P,_,_,_,_,_,rfl,D,h1,h2,Y,A,v⟩:=h.five;cases D;rw[wO]at hw;have s:=h1.pos;have L:=h2.pos;have K:=Y.pos;have T:=A.pos;have S:=v.pos;refine PX ht (vw f) t (m:=660) (by decide) (λx F=>?_) (λ_ C V k0 D p _=>by rw[acz k0 D p];exact k _ rfl) (λz=>absurd G.nd z)<|λ_ z=>absurd ((Oh G).symm.trans z)<|by decide
  simp only[ML,RQ,or_false]at F;rcases F with rfl|rfl|rfl|rfl|rfl
  exact⟨(tgt h1 Jv).1,(tgt h1 Jv).2.mono (by lia)⟩;exact⟨(tgt h2 Jv).1,(tgt h2 Jv).2.mono (by lia)⟩;exact⟨(tgt Y Jv).1,(tgt Y Jv).2.mono (by lia)⟩;exact⟨(tgt A Jv).1,(tgt A Jv).2.mono (by lia)⟩;exact⟨(tgt v Jv).1,(tgt v Jv).2.mono (by lia)⟩
 | @curveN a b c d e z=>
  rw[aef]at h;obtain⟨n1,n2,I,R,P,_,_,_,_,_,rfl,D,h1,h2,Y,A,v⟩:=h.five;cases D;rw[wO]at hw;have s:=h1.pos;have L:=h2.pos;have K:=Y.pos;have T:=A.pos;have S:=v.pos;refine PX ht (vw f) t (m:=660) (by decide) (λx F=>?_) (λG C V k0 D p _=>absurd ⟨G.nd,Oh G⟩ z) (λ_=>g rfl _)<|λ_ _=>g rfl _
  simp only[ML,RQ,or_false]at F;rcases F with rfl|rfl|rfl|rfl|rfl
  exact⟨(tgt h1 Jv).1,(tgt h1 Jv).2.mono (by lia)⟩;exact⟨(tgt h2 Jv).1,(tgt h2 Jv).2.mono (by lia)⟩;exact⟨(tgt Y Jv).1,(tgt Y Jv).2.mono (by lia)⟩;exact⟨(tgt A Jv).1,(tgt A Jv).2.mono (by lia)⟩;exact⟨(tgt v Jv).1,(tgt v Jv).2.mono (by lia)⟩
 | @about C p n0=>
  rw[aaN]at h;obtain⟨n1,n2,_,_,rfl,e,h1,h2⟩:=h.two;cases e;rw[wY]at hw;obtain⟨s,_,sc⟩:=Wu h1;obtain⟨U,sp⟩:=tgt h2 Jv;exact Lx hl (vw f) t (m:=33*48) (by decide) (sc.mono<|by lia) (sp.mono<|by lia) (λ_ u r J _=>by rw[tQ r J];exact k _ rfl)<|λe=>absurd e n0
 | @aboutN C p z=>
  rw[aaN]at h;obtain⟨n1,n2,_,_,rfl,e,h1,h2⟩:=h.two;cases e;rw[wY]at hw;obtain⟨s,_,sc⟩:=Wu h1;obtain⟨U,sp⟩:=tgt h2 Jv;exact Lx hl (vw f) t (m:=33*48) (by decide) (sc.mono<|by lia) (sp.mono<|by lia) (λn0=>absurd z n0)<|λ_=>g rfl _
 | @pole C l M=>
  rw[aaO]at h;obtain⟨n1,n2,_,_,rfl,e,h1,h2⟩:=h.two;cases e;rw[CP]at hw;obtain⟨s,_,sc⟩:=Wu h1;obtain⟨U,sp⟩:=tgt h2 Ub;exact U4 hs (vw f) t (m:=33*48) (by decide) (sc.mono<|by lia) (sp.mono<|by lia) U.ne (λ_ u r J _=>by rw[tQ r J];exact k _ rfl)<|λe=>absurd e M
 | @poleN C l M=>
  rw[aaO]at h;obtain⟨n1,n2,_,_,rfl,e,h1,h2⟩:=h.two;cases e;rw[CP]at hw;obtain⟨s,_,sc⟩:=Wu h1;obtain⟨U,sp⟩:=tgt h2 Ub;exact U4 hs (vw f) t (m:=33*48) (by decide) (sc.mono<|by lia) (sp.mono<|by lia) U.ne (λz=>absurd M z)<|λ_=>g rfl _
 | @other C p q ne H N=>
  rw[aaF]at h;obtain⟨n1,n2,I,_,_,_,rfl,e,h1,h2,Y⟩:=h.three;cases e;rw[vZ]at hw;obtain⟨s,_,sc⟩:=Wu h1;obtain⟨U,sp⟩:=tgt h2 Jv;obtain⟨pq,j⟩:=tgt Y Jv;have L:=h2.pos;have K:=Y.pos;exact m_other hj hX9 (vw f) t (by lia) (by lia) (by lia) sc sp j U pq (λ_ _ l B J _ u o=>by rw[Lj pq ne J o,tQ B J];exact k _ rfl) (λe=>absurd e ne) (λ_ z=>absurd H z)<|λ_ _ l B J i=>absurd (tQ B J ▸ i) N
 | @otherN C p q z=>
  rw[aaF]at h;obtain⟨n1,n2,I,_,_,_,rfl,e,h1,h2,Y⟩:=h.three;cases e;rw[vZ]at hw;obtain⟨s,_,sc⟩:=Wu h1;obtain⟨U,sp⟩:=tgt h2 Jv;obtain⟨pq,j⟩:=tgt Y Jv;have L:=h2.pos;have K:=Y.pos;refine m_other hj hX9 (vw f) t (by lia) (by lia) (by lia) sc sp j U pq (λne H l B J i u o=>?_) (λ_=>g rfl _) (λ_ _=>g rfl _)<|λ_ _ l B J i=>g rfl _
  rcases z with z|z|z
  exact absurd z ne;exact absurd H z;exact absurd (tQ B J ▸ z) i
end
theorem U6 {p}[Decidable p](h:p):decide p=true:=decide_eq_true h
theorem Av {p}[Decidable p](h:¬p):decide p=false:=decide_eq_false h
noncomputable abbrev Ps:=List (Str×List Nat)
noncomputable def aW (ps:Ps):List W:=ps.map λp=>Bb p.1 p.2
noncomputable def gR (ps:Ps):List Str:=ps.map λp=>c7 p.1
noncomputable def Lg (ps:Ps)(i:Nat):Nat:=(ps.take i).countP λp=>decide (p.1=("free" : Str))
structure Dr (M:Nat) (ps:Ps) (wt:List Nat):Prop where
 len:wt.length=ps.length
 wd:∀(i:Nat) (x:Str) (js:List Nat),ps[i]?=Dn (x,js)->x∈Ob
 lt:∀(i:Nat) (x:Str) (js:List Nat),ps[i]?=Dn (x,js)->∀j∈js,j<i
 ss:∀(i:Nat) (x:Str) (js:List Nat),ps[i]?=Dn (x,js)->js.map (λj=>(gR ps)[j]?)=(lV x).map Dn
 wt:∀(i:Nat) (x:Str) (js:List Nat),ps[i]?=Dn (x,js)->wt.getD i 0=wtF x (js.map λj=>wt.getD j 0)/\wt.getD i 0<=M
variable {wt:List Nat}
theorem Dr.free {M ps}{wt}(D:Dr M ps wt){i:Nat}{js}(e:ps[i]?=Dn (("free" : Str),js)):js=[]:=by
 have:=D.ss i _ _ e
 have G:lV "free" = ([]:List Str):=by decide
 simp_all
theorem Dr.cut {M ps}(D:Dr M ps wt)(n):Dr M (ps.take n) (wt.take n):=by
 have G:∀{i p},(ps.take n)[i]?=Dn p->ps[i]?=Dn p/\i<n:=λ{i p} e=>by
  grind
 have J:∀{i},i<n->(wt.take n).getD i 0=wt.getD i 0:=λ{i} h=>by
  rw[Ss,Ss,Yx,if_pos h]
 refine⟨by rw[Ti,Ti,D.len],λi x js e=>D.wd i x js (G e).1,λi x js e=>D.lt i x js (G e).1,λi x js e=>?_,λi x js e=>?_⟩;rw[<-D.ss i x js (G e).1];apply Uo;intro j hj;have:=D.lt i x js (G e).1 j hj
 unfold gR;rw[Ju,Ju,Yx,if_pos (by have:=(G e).2;lia)];rw[J (G e).2];have O:(js.map λj=>(wt.take n).getD j 0)=js.map λj=>wt.getD j 0:=by
  apply Uo;intro j hj;have:=D.lt i x js (G e).1 j hj
  grind
 exact O ▸ D.wt i x js (G e).1
structure Gd (ps:Ps) (wt:List Nat) (sps:List Tr) (gold:List W):Prop where
 le:gold.length<=ps.length
 tg:∀(i:Nat) (x:Str) (js:List Nat),i<gold.length->ps[i]?=Dn (x,js)->∃w,gold[i]?=Dn w/\Tg (c7 x) (wt.getD i 0) w
 fr:∀(i:Nat) (js:List Nat),i<gold.length->ps[i]?=Dn (("free" : Str),js)->∃t,sps[Lg ps i]?=Dn t/\gold[i]?=Dn (tw t)/\Pl t/\Bx 30 t
 mkd:∀(i:Nat) (x:Str) (js:List Nat),i<gold.length->ps[i]?=Dn (x,js)->x ≠ "free"->∃ws w,Told gold js ws/\gold[i]?=Dn w/\Out x ws (Dn w)/\RV (lV x) (js.map λj=>wt.getD j 0) ws
noncomputable def S8 (ps:Ps)(wt:List Nat)(gold:List W):Prop:=∃(x:Str) (js:List Nat) (ws:List W),ps[gold.length]?=Dn (x,js)/\x ≠ "free"/\Told gold js ws/\Out x ws Go/\RV (lV x) (js.map λj=>wt.getD j 0) ws
theorem Eb {wt:List Nat}{ss0:List Str}{gold}(J:∀j s,j<gold.length->ss0[j]?=Dn s->∃w,gold[j]?=Dn w/\Tg s (wt.getD j 0) w):∀{js ss},(∀j∈js,j<gold.length)->js.map (λj=>ss0[j]?)=ss.map Dn->∃ws,Told gold js ws/\RV ss (js.map λj=>wt.getD j 0) ws
 | [],[],_,_=>⟨[],rfl,.nil⟩
 | j::js,s::ss,hj,e=>by
  injection e with e1 e2
  obtain⟨ws,U,O⟩:=Eb J (λj h=>hj j (RN _ h)) e2;obtain⟨w,Y,G⟩:=J j s (hj j (T9 ..)) e1;refine⟨w::ws,?_,.cons G O⟩;unfold Told at U|-
  simp_all
theorem qy (h:∀j∈js,j<gold.length)(t:Told gold js ws):Told (gold++[w]) js ws:=by
 unfold Told at t|-
 rw[<-t];apply Uo;grind
theorem zaP (h:∀j∈js,j<i)(t:Told gold js ws):Told (gold.take i) js ws:=by
 unfold Told at t|-
 rw[<-t];apply Uo;simp_all
theorem mj {ps}(e:ps[i]?=Dn (x,js)):Lg ps (i+1)=Lg ps i+(if x = "free" then 1 else 0):=by
 unfold Lg;rw[Nj,e];simp
variable {sps:List Tr}
theorem Gd.ex {M:Nat}{ps:Ps}{wt:List Nat}{sps:List Tr}(D:Dr M ps wt)(hs:∀t∈sps,Pl t/\Bx 30 t)(E:Lg ps ps.length<=sps.length):∃gold,Gd ps wt sps gold/\(gold.length=ps.length\/S8 ps wt gold):=by
 have g:∀i,i<=ps.length->Lg ps i<=Lg ps ps.length:=λi hi=>by
  exact List.Sublist.countP_le (by rw[QG];exact List.take_sublist _ _)
 have f:∀n,n<=ps.length->∃gold,Gd ps wt sps gold/\gold.length<=n/\(gold.length=n\/S8 ps wt gold):=by
  intro n;induction n with
  | zero=>exact λ_=>⟨[],⟨T7 _,λi _ _ h=>absurd h (Te _),λi _ h=>absurd h (Te _),λi _ _ h=>absurd h (Te _)⟩,JL _,.inl rfl⟩
  | succ n B=>
   intro C;obtain⟨gold,G,F,J⟩:=B (by lia);rcases J with J|J
   ·obtain⟨x,js,e⟩:∃x js,ps[n]?=Dn (x,js):=⟨_,_,MH (by lia)⟩
    have k:∀j∈js,j<gold.length:=λj hj=>by rw[J];exact D.lt n x js e j hj
    have ext:∀w,Tg (c7 x) (wt.getD n 0) w->(x = "free"->∃t,sps[Lg ps n]?=Dn t/\w=tw t/\Pl t/\Bx 30 t)->(x ≠ "free"->∃ws,Told gold js ws/\Out x ws (Dn w)/\RV (lV x) (js.map λj=>wt.getD j 0) ws)->Gd ps wt sps (gold++[w]):=by
     intro w tg A y;have m:∀i,i<(gold++[w]).length->i<gold.length\/i=n:=λi h=>by
      rw[Le,Tp]at h;lia
     have U:∀i,i<gold.length->(gold++[w])[i]?=gold[i]?:=λi h=>Rx h
     have p:(gold++[w])[n]?=Dn w:=by rw[<-J,Sv (JL _),YS];rfl
     refine⟨by rw[Le,Tp];lia,λi Y js' h e'=>?_,λi js' h e'=>?_,λi Y js' h e' r=>?_⟩;rcases m i h with h|rfl
     obtain⟨w',a,b⟩:=G.tg i Y js' h e';exact⟨w',by rw[U i h];exact a,b⟩;rw[e]at e';cases e';exact⟨w,p,tg⟩;rcases m i h with h|rfl
     obtain⟨t,a,b,c⟩:=G.fr i js' h e';exact⟨t,a,by rw[U i h];exact b,c⟩;rw[e]at e';cases e';obtain⟨t,a,b,c⟩:=A rfl;exact⟨t,a,by rw[p,b],c⟩;rcases m i h with h|rfl
     obtain⟨ws,w',a,b,c,d⟩:=G.mkd i Y js' h e' r;exact⟨ws,w',qy (λj hj=>by have:=D.lt i Y js' e' j hj;lia) a,by rw[U i h];exact b,c,d⟩;rw[e]at e';cases e';obtain⟨ws,a,b,c⟩:=y r;exact⟨ws,w,qy k a,p,b,c⟩
    by_cases l:x = "free"
    subst l;have fs:=mj e;rw[if_pos rfl]at fs;have:=g (n+1) C
    obtain⟨t,u⟩:∃t,sps[Lg ps n]?=Dn t:=⟨_,MH (by lia)⟩
    obtain⟨q,st⟩:=hs t (Qz u);have w1:wt.getD n 0=1:=by rw[(D.wt n _ _ e).1,D.free e,List.map_nil,Ce]
    refine⟨gold++[tw t],ext _ (.inr ⟨by decide,by lia,t,rfl,q,by rw[w1];exact st⟩) (λ_=>⟨t,u,rfl,q,st⟩)<|λz=>absurd rfl z,by rw[Le,Tp];lia,.inl (by rw[Le,Tp];lia)⟩
    ·obtain⟨ws,td,ts⟩:=Eb (wt:=wt) (ss0:=gR ps) (gold:=gold) (λj s hj es=>by
      unfold gR at es;rw[Ju]at es;obtain⟨⟨Y,js'⟩,e',rfl⟩:=Rv.mp es;exact G.tg j Y js' hj e') k (D.ss n x js e)
     obtain⟨o,O⟩:=Out.ex (D.wd n x js e) l ts;cases o with
     | none=>exact⟨gold,G,by lia,.inr ⟨x,js,ws,by rw[J];exact e,l,td,O,ts⟩⟩
     | some w=>
      have tg:=O.tg ts;rw[<-(D.wt n x js e).1]at tg;exact⟨gold++[w],ext w tg (λz=>absurd z l)<|λ_=>⟨ws,td,O,ts⟩,by rw[Le,Tp];lia,.inl (by rw[Le,Tp];lia)⟩
   exact⟨gold,G,by lia,.inr J⟩
 obtain⟨gold,G,_,s⟩:=f ps.length (JL _);exact⟨gold,G,s⟩
theorem afR (k)(t):Lo k (tw t):=by simp[tw,Lo,N5]
theorem acY (k)(c):Lo k (Je c):=by simp[Je,Lo,N5]
theorem QS {k}:∀{ws},(∀w∈ws,Lo k w)->N5 k ws
 | [],_=>by simp[N5]
 | w::ws,h=>⟨h w (T9 ..),QS λv G=>h v (RN _ G)⟩
theorem Gd.lo {ps}(G:Gd ps wt sps gold)(k):N5 k gold:=QS λw hw=>by
 obtain⟨i,hi,e⟩:=List.getElem_of_mem hw;have hp:=Ke hi G.le;obtain⟨v,ev,tg⟩:=G.tg i _ _ hi (MH hp);rw[MH hi,e]at ev;cases ev;rcases tg with⟨_,_,C,rfl,_⟩|⟨_,_,t,rfl,_⟩
 exact acY k C;exact afR k t
theorem qX {ps r}(e:(aW ps)[i]?=Dn r):∃x js,ps[i]?=Dn (x,js)/\r=Bb x js:=by
 unfold aW at e;rw[Ju]at e;grind
theorem zbN:Jy (Bb x js)=decide (x = "free"):=rfl
theorem aag (ps)(i):((aW ps).take i).countP Jy=Lg ps i:=by
 unfold aW Lg;rw[<-List.map_take,List.countP_map];rfl
section
variable {sp:AP}(hj:nH jo)(hme:nH me)(ht:OJ th)(hl:Mr li)(hs:Mx sp)(hX9:Oq oe)
include hj hme ht hl hs hX9
theorem Gd.plan {ps}(D:Dr 48 ps wt)(G:Gd ps wt sps gold)(s:gold.length=ps.length\/S8 ps wt gold)(U:ps.length<=30):JD (aN jo me th li sp oe) (aW ps) (sps.map tw) gold:=by
 refine⟨G.lo,by unfold aW;rw[Ik];exact U,by unfold aW;rw[Ik];exact G.le,λr c=>?_,λi r h e f=>?_,λr e=>?_,λi r w h e f d=>?_⟩;obtain⟨p,_,rfl⟩:=Nm.mp c;exact⟨_,_,rfl⟩;obtain⟨x,js,e',rfl⟩:=qX e;cases of_decide_eq_true f
 obtain⟨t,a,b,_⟩:=G.fr i js h e';rw[aag,Ju,a,b];rfl;obtain⟨x,js,e',rfl⟩:=qX e;rcases s with s|⟨j,js',ws,e2,Y,_⟩
 simp_all
 rw[e']at e2;cases e2;exact decide_eq_false Y;obtain⟨x,js,e',rfl⟩:=qX e;obtain⟨ws,w',td,J,O,ts⟩:=G.mkd i x js h e' (of_decide_eq_false f);rw[d]at J;cases J
 have:=D.wt i x js e'
 intro hh n Q E g q;exact O.run hj hme ht hl hs hX9 ts (this.1 ▸ this.2) (zaP (D.lt i x js e') td) g (λw2 e2=>by cases e2;exact q) nofun
theorem S8.rf {ps:Ps}(D:Dr 48 ps wt)(s:S8 ps wt gold){r:W}(e:(aW ps)[gold.length]?=Dn r):Rf (aN jo me th li sp oe) gold r:=by
 obtain⟨x,js,e',rfl⟩:=qX e;obtain⟨U,G,ws,e2,Y,td,O,ts⟩:=s;rw[e']at e2;cases e2;have:=D.wt _ x js e'
 intro hh n Q E J q;exact O.run hj hme ht hl hs hX9 ts (this.1 ▸ this.2) td J nofun<|λ_ y=>q y
end
noncomputable def vB (wt:List Nat):List W:=wt.map λk:Nat=>W.int (k:Int)
theorem amv (h:∀j∈js,j<wt.length):Told (vB wt) js (vB (js.map λj=>wt.getD j 0)):=by
 unfold Told vB
 simp_all
theorem akE {M}(h:∀k∈wt,k<=M)(j):wt.getD j 0<=M:=by
 rw[Ss];cases e:wt[j]? with
 | none=>exact T7 _
 | some k=>exact h k (Qz e)
theorem KR (h0:0<=j)(h1:j<=10000)(x:Q (.int (2*j)) h):dz (.int 2) (.int j) h Q:=Vi (fY.of (n:=64) (Sm.lit rfl) (by unfold Sm;lia) (by decide) (by decide)) x
theorem len1 (h:l.length=2):∃a b,l=[a,b]:=by
 match l,h with
 | [a,b],_=>exact⟨a,b,rfl⟩
theorem aiB (h:l.length=3):∃a b c,l=[a,b,c]:=by
 match l,h with
 | [a,b,c],_=>exact⟨a,b,c,rfl⟩
theorem ah7 (h:l.length=5):∃a b c d e,l=[a,b,c,d,e]:=by
 match l,h with
 | [a,b,c,d,e],_=>exact⟨a,b,c,d,e,rfl⟩
theorem Gz:∀l,z8 (vB l)=Dn (l.map λk:Nat=>(k:Int))
 | []=>rfl
 | a::l=>by
  show(z8 (vB l)).map _=_;rw[Gz l];rfl
theorem sum_nat:∀l:List Nat,(l.map λk:Nat=>(k:Int)).sum=((l.sum:Nat):Int)
 | []=>rfl
 | a::l=>by
  rw[Od,List.sum_cons,sum_nat l];simp_all
theorem Ea {R}(q:R (.int ((l.sum:Nat):Int)) h):Z0 [.lst (vB l)] h R:=U9 rfl (Gz l) (by rwa[sum_nat])
theorem RG {y:Str}{ns:List W}{O J G:Option W}{b c:MS}(U:x≠y)(k:c D [O,J,Dn (.tup (.str x::ns)),G] h):aU (d7 (bC (Mk Jx (Mk BZ (ao 2) (mC (.int 0))) (mC (.str y)))) b bK) c D [O,J,Dn (.tup (.str x::ns)),G] h:=bw (eU (bR (bA (bA (aA rfl (dW (Ks (dW (nQ (qH (cY (Av U) (dI (cW k)))))))))))))
theorem hit {ns}{O J G b c}(k:b {D with nx:=c D} [O,J,Dn (.tup (.str x::ns)),G] h):aU (d7 (bC (Mk Jx (Mk BZ (ao 2) (mC (.int 0))) (mC (.str x)))) b bK) c D [O,J,Dn (.tup (.str x::ns)),G] h:=bw (eU (bR (bA (bA (aA rfl (dW (Ks (dW (nQ (qH (mY (U6 rfl) k)))))))))))
noncomputable def WtX (c0:AP):Prop:=∀{h:Gh}{G:W}{n:Nat}{wt js:List Nat}{x:Str}{Q:WK}{E:Bm},h.c n=Dn (.lst (vB wt))->(∀k∈wt,k<=48)->(∀j∈js,j<wt.length)->js.length=(lV x).length->x∈Ob->Q (.int ((wtF x (js.map λj=>wt.getD j 0):Nat):Int)) h->c0 [G,.loc n,Bb x js] h Q E
theorem akz:WtX vg:=by
 intro h f n wt js x Q E m g hj hl G k;have t:=amv hj;have U:∀v∈(js.map λj=>wt.getD j 0),v<=48:=λv i=>by
  obtain⟨j,_,rfl⟩:=Nm.mp i;exact akE g j
 have ll:(js.map λj=>wt.getD j 0).length=(lV x).length:=by rw[Ik];exact hl
 have O:js.length<=100:=by have:=rE G;lia
 refine mK rfl (σ:=[Dn f,Dn<|.loc n,Dn<|Bb x js,Go]) rfl ?_;refine bw<|bO<|qu<|uy<|tU<|aA rfl<|fK<|dW<|Kr<|cJ<|sW<|J6 (ws:=js.map λj:Nat=>W.int (j:Int)) (o:=Go) rfl ?_
 refine Zn rfl (vw m) t O ?_;generalize(js.map λj=>wt.getD j 0)=l at ll U k t|-
 have J:∀v:Int,v=((wtF x l:Nat):Int)->Q (.int v) h:=λv e=>by rw[e];exact k
 unfold Ob at G;simp only[ML,RQ,or_false]at G;have Y:∀{x:Str},x∉(["free", "curve", "pole", "other"]:List Str)->l.sum=wtF x l:=λ{x} G=>by
  unfold wtF;simp only[ML,RQ,or_false,not_or]at G;rw[if_neg G.1,if_neg G.2.1,if_neg G.2.2.1,if_neg G.2.2.2]
 rcases G with rfl|rfl|rfl|rfl|rfl|rfl|rfl
 exact hit<|dB<|dW<|J _ rfl
 exact RG (by decide)<|RG (by decide)<|RG (by decide)<|RG (by decide)<|dB<|fZ<|aB<|aA rfl<|aL<|Ea<|J _<|by rw[Y (x := "join")<|by decide]
 exact RG (by decide)<|RG (by decide)<|RG (by decide)<|RG (by decide)<|dB<|fZ<|aB<|aA rfl<|aL<|Ea<|J _<|by rw[Y (x := "meet")<|by decide]
 obtain⟨a,b,c,d,e,rfl⟩:=ah7 ll;simp only[ML,RQ,or_false,forall_eq_or_imp,forall_eq]at U;refine RG (by decide)<|hit<|dB<|bA<|dW<|fZ<|aB<|aA rfl<|aL<|Ea<|KR (by lia) (by simp only[List.sum_cons,List.sum_nil];lia)<|J _ ?_
 show _=((2*_:Nat):Int);lia;exact RG (by decide)<|RG (by decide)<|RG (by decide)<|RG (by decide)<|dB<|fZ<|aB<|aA rfl<|aL<|Ea<|J _<|by rw[Y (x := "about")<|by decide]
 obtain⟨a,b,rfl⟩:=len1 ll;simp only[ML,RQ,or_false,forall_eq_or_imp,forall_eq]at U;refine RG (by decide)<|RG (by decide)<|hit<|dB<|bA<|bA<|dW<|bA<|aA rfl<|dW<|ahi<|KR (by lia) (by lia)<|bA<|aA rfl<|dW<|ag7<|gK<|J _ ?_
 show _=((2*a+b:Nat):Int);lia;obtain⟨a,b,c,rfl⟩:=aiB ll;simp only[ML,RQ,or_false,forall_eq_or_imp,forall_eq]at U;refine RG (by decide)<|RG (by decide)<|RG (by decide)<|hit<|dB<|bA<|bA<|bA<|aA rfl<|dW<|ahi<|bA<|aA rfl<|dW<|ag7<|gK<|bA<|dW<|bA<|aA rfl<|dW<|aii<|KR (by lia) (by lia)<|gK<|J _ ?_
 show _=((a+b+2*c:Nat):Int);lia
theorem aea {r}(O:Row r)(G:ok1 ss r=true):∃x js,r=Bb x js/\x∈Ob/\js.map (λj=>ss[j]?)=(lV x).map Dn:=by
 obtain⟨x,ns,J,rfl⟩:=O;have G:(decide _&&decide _)=true:=G;rw[Uj]at G;have e:=of_decide_eq_true G.2;rw[X4]at e;have pos:∀i∈ns,0<=i:=λi hi=>by
  obtain⟨s,_,es⟩:=Nm.mp (e ▸ Nm.mpr ⟨i,hi,rfl⟩);have es:Dn s=(if 0<=i then ss[i.toNat]? else Go):=es;lia
 refine⟨x,ns.map Int.toNat,?_,J,?_⟩;unfold Bb;rw[X4];congr 2
 apply Uo;grind
 rw[<-e,X4];apply Uo;intro i hi;show ss[i.toNat]?=(if 0<=i then ss[i.toNat]? else Go);simp_all
theorem QW {us:List Str}(e:js.map (λj=>ss[j]?)=us.map Dn):∀j∈js,j<ss.length:=λj hj=>by
 obtain⟨s,_,es⟩:=Nm.mp (e ▸ Nm.mpr ⟨j,hj,rfl⟩);grind
theorem Dr.snoc {M:Nat}{ps:Ps}(D:Dr M ps wt)(Y:x∈Ob)(e:js.map (λj=>(gR ps)[j]?)=(lV x).map Dn)(hw:wtF x (js.map λj=>wt.getD j 0)<=M):Dr M (ps++[(x,js)]) (wt++[wtF x (js.map λj=>wt.getD j 0)]):=by
 have sl:(gR ps).length=ps.length:=by unfold gR;rw[Ik]
 have hj:=sl ▸ QW e;have J:∀{i p},(ps++[(x,js)])[i]?=Dn p->(i<ps.length/\ps[i]?=Dn p)\/(i=ps.length/\p=(x,js)):=λ{i p} e=>by
  rcases Nat.lt_or_ge i _ with h|h
  rw[Rx h]at e;exact .inl ⟨h,e⟩;have h1:=(Oi.mp e).1;rw[Le,Tp]at h1;have h2:i=ps.length:=by lia
  subst h2;rw[Sv h,YS]at e;exact .inr ⟨rfl,(Ma e).symm⟩
 have U:∀{i},i<ps.length->(wt++[wtF x (js.map λj=>wt.getD j 0)]).getD i 0=wt.getD i 0:=λ{i} h=>by
  rw[Ss,Ss,Rx (D.len ▸ h)]
 have b:(wt++[wtF x (js.map λj=>wt.getD j 0)]).getD ps.length 0=wtF x (js.map λj=>wt.getD j 0):=by
  rw[Ss,Sv (D.len ▸ JL _),D.len,YS];rfl
 have a:∀{i},i<ps.length->(gR (ps++[(x,js)]))[i]?=(gR ps)[i]?:=λ{i} h=>by
  unfold gR;rw[R9,Rx (by rwa[Ik])]
 have O:∀{js':List Nat}{i:Nat},i<=ps.length->(∀j∈js',j<i)->js'.map _=js'.map (λj=>(gR ps)[j]?)/\(js'.map λj=>(wt++[wtF x _]).getD j 0)=js'.map λj=>wt.getD j 0:=λ{js' i} hi h=>
  ⟨Uo λj hj=>a (by have:=h j hj;lia),Uo λj hj=>U (by have:=h j hj;lia)⟩
 refine⟨by rw[Le,Le,D.len];rfl,λi G js' h=>?_,λi G js' h=>?_,λi G js' h=>?_,λi G js' h=>?_⟩;rcases J h with⟨_,h⟩|⟨_,hh⟩
 exact D.wd i G js' h;cases hh;exact Y
 rcases J h with⟨_,h⟩|⟨rfl,hh⟩
 exact D.lt i G js' h;cases hh;exact hj
 rcases J h with⟨hi,h⟩|⟨rfl,hh⟩
 rw[(O (Xg hi) (D.lt i G js' h)).1];exact D.ss i G js' h;cases hh;rw[(O (JL _) hj).1];exact e;rcases J h with⟨hi,h⟩|⟨rfl,hh⟩
 rw[(O (Xg hi) (D.lt i G js' h)).2,U hi];exact D.wt i G js' h;cases hh;rw[(O (JL _) hj).2,b];exact⟨rfl,hw⟩
theorem Dr.le {M ps}(D:Dr M ps wt):∀k∈wt,k<=M:=λk G=>by
 obtain⟨i,hi,e⟩:=List.getElem_of_mem G;have:=(D.wt i _ _ (MH (D.len ▸ hi))).2
 rwa[Ss,MH hi,e]at this
theorem Dr.nil {M}:Dr M [] []:=⟨rfl,λi _ _ e=>(by cases e),λi _ _ e=>(by cases e),λi _ _ e=>(by cases e),λi _ _ e=>(by cases e)⟩
noncomputable def Wo (f:Nat)(ps:Ps):Prop:=∀(i:Nat) (x:Str) (js:List Nat),ps[i]?=Dn (x,js)->(x = "free"↔i<f)
theorem Wo.snoc {f ps}(F:Wo f ps)(h:x = "free"↔ps.length<f):Wo f (ps++[(x,js)]):=by
 intro i G js' e;rcases Nat.lt_or_ge i _ with h1|h1
 rw[Rx h1]at e;exact F i G js' e;have h2:=(Oi.mp e).1;rw[Le,Tp]at h2;have J:i=ps.length:=by lia
 simp_all
theorem xY {ps}:aW ps++[Bb x js]=aW (ps++[(x,js)]):=by
 unfold aW;simp_all
theorem Ca (ps:Ps):(aW ps).map srt=gR ps:=by
 unfold aW gR;rw[X4];rfl
theorem Qg {k:Nat}:vB wt++[W.int (k)]=vB (wt++[k]):=by
 unfold vB;simp_all
theorem Fv (N):∀js,N5 N (vB js)
 | []=>by simp[vB,N5]
 | a::js=>by
  show N5 N (W.int a::vB js);simp[N5,Lo];exact Fv N js
theorem CV (N):∀ps,N5 N (aW ps)
 | []=>by simp[aW,N5]
 | p::ps=>by
  show N5 N (W.tup _::aW ps);simp[N5,Lo];exact⟨Fv N _,CV N ps⟩
theorem ae1 (n):((rng 0 n).map λx:Nat=>W.int (x)).length=n:=by unfold rng;rw[Ik,Yy];lia
noncomputable def abD (c0:AP):Prop:=∀{h:Gh}{ns:List Int}{G fr M:Nat}{Q:WK}{E:Bm},1<=M->M<=48->2<=fr->fr<=7->G<=24->(∀ps wt,Dr 48 ps wt->ps.length=G->Wo fr ps->Q (.lst (aW ps)) h)->c0 [.kls (ns.map .int),.int (G:Int),.int (fr:Int),.int (M:Int)] h Q E
theorem adh {i:Int}(x:Q (.int (if j<i then j else i)) h):aeB [.int i,.int j] h Q:=x
theorem ajE {ce ba we}(hc:Cd ce)(hb:WD ba)(hr:ahz ro)(hw:WtX we):abD (Hj ce ba ro we):=by
 intro h ns sz fr M Q E m1 m48 f2 f7 s24 k;refine za rfl (σ:=[Dn<|.kls<|ns.map .int,Dn<|.int (sz:Int),Dn<|.int (fr:Int),Dn<|.int (M:Int),Go,Go,Go,Go]) rfl<|bw<|bO<|qO (ws:=[]) (λR=>rfl) rfl λg1 gc1 go1 gn1=>(nV<|cW ?_)
 refine bw<|bO<|qO (ws:=[]) (λR=>rfl) rfl λg2 gc2 go2 gn2=>(nV<|cW ?_)
 obtain⟨a,ea⟩:∃a,a=h.nx:=⟨_,rfl⟩
 obtain⟨b,eb⟩:∃b,b=g1.nx:=⟨_,rfl⟩
 rw[<-ea]at gc1 go1 gn1|-
 rw[<-eb]at gc2 go2 gn2|-
 refine bw<|uW<|rB<|aB<|aA rfl<|aL<|N6 (m:=sz) (by lia)<|vf ?_
 refine jF (λi σ h'=>∃ps wt a6 a7,Dr 48 ps wt/\ps.length=i/\Wo fr ps/\σ=[Dn<|.kls<|ns.map .int,Dn<|.int (sz:Int),Dn<|.int (fr:Int),Dn<|.int (M:Int),Dn<|.loc a,Dn<|.loc b,a6,a7]/\h'.c a=Dn (.lst<|aW ps)/\h'.c b=Dn (.lst<|vB wt)/\b<h'.nx/\∀m,m<h.nx->h'.c m=h.c m) ?_ ?_ ⟨[],[],Go,Go,.nil,rfl,λi _ _ e=>(by cases e),rfl,by rw[go2 a<|by lia];exact gc1,gc2,by lia,λm hm=>by rw[go2 m<|by lia,go1 m<|by lia]⟩
 ·rintro i w σ h' N hN ew ⟨ps,wt,a6,a7,D,pl,F,rfl,ca,cb,bx,ho⟩;rw[Ju]at ew;obtain⟨j,ej,rfl⟩:=Rv.mp ew;obtain⟨ei,hik⟩:=lF ej;rw[YW]at ei;subst ei;have rl:(aW ps).length=ps.length:=by unfold aW;rw[Ik]
  have hrow:∀r∈aW ps,Row r:=λr hr=>by
   obtain⟨p,hp,rfl⟩:=Nm.mp hr;obtain⟨q,eq⟩:=qj hp;refine⟨p.1,p.2.map λk:Nat=>(k:Int),D.wd q p.1 p.2 eq,?_⟩;unfold Bb;rw[X4];rfl
  refine nV<|bw<|bO<|aZ<|aB<|aZ<|aB<|aZ<|aB<|aA rfl<|aB<|bA<|dW<|aA rfl<|gK<|aL<|hc (k:=3+(j:Int)) (by lia)<|aL<|hb λh1 bf n1 o1=>?_
  obtain⟨bg,ebg⟩:∃bg,bg=h'.nx:=⟨_,rfl⟩
  rw[<-ebg]at bf n1 o1|-
  have ca1:h1.c a=Dn (.lst (aW ps)):=(o1 a (by lia)).trans ca;have cb1:h1.c b=Dn (.lst (vB wt)):=(o1 b (by lia)).trans cb;refine aB<|aA rfl<|aB<|aA rfl<|aL ?_
  have first:∀q,q<fr->q<ps.length->ps[q]?=Dn (("free" : Str),([]:List Nat)):=λq h1 h2=>by
   obtain⟨x,js,e⟩:∃x js,ps[q]?=Dn (x,js):=⟨_,_,MH h2⟩
   have:=(F q x js e).mpr h1
   subst this;rw[e,D.free e]
  refine hr bf ca1 (by lia) (by lia) (by lia) hrow (by lia) ?_ λr h2 rr _ ro rf bg2 gr2=>nV<|cW ?_
  by_cases c:((aW ps).length:Int)<fr
  exact .inl c;refine .inr ⟨Bb "free" [],Qz (i:=0) ?_,rfl⟩;unfold aW;rw[Ju,first 0 (by lia) (by lia)];rfl;rw[Ca]at ro;rw[rl,pl]at rf;obtain⟨x,js,rfl,hx,es⟩:=aea rr ro;have sl:(gR ps).length=ps.length:=by unfold gR;rw[Ik]
  have hj:∀q∈js,q<wt.length:=by rw[D.len,<-sl];exact QW es
  have jl:js.length=(lV x).length:=by have:=congrArg Tj es;rw[Ik,Ik]at this;exact this
  have fx:x = "free"↔ps.length<fr:=by
   rw[zbN]at rf;rw[pl];constructor;intro e;rw[decide_eq_true e]at rf;have:=of_decide_eq_true rf.symm
   lia;intro e;rw[decide_eq_true (show(j:Int)<fr by lia)]at rf;exact of_decide_eq_true rf
  have ca2:h2.c a=Dn (.lst (aW ps)):=(gr2.2 a (by lia) (by lia)).trans ca1;have cb2:h2.c b=Dn (.lst (vB wt)):=(gr2.2 b (by lia) (by lia)).trans cb1;have bx2:b<h2.nx:=by have:=gr2.1;lia
  have ho2:∀m,m<h.nx->h2.c m=h.c m:=λm hm=>by rw[gr2.2 m (by lia) (by lia),o1 m (by lia),ho m hm]
  have rest:∀{x:Str}{js:List Nat},x∈Ob->js.map (λj=>(gR ps)[j]?)=(lV x).map Dn->(x = "free"↔ps.length<fr)->wtF x (js.map λj=>wt.getD j 0)<=48->(aU (oE (Cy dF (ao 5) (aj (aF we E (aj (ao 4) (aj (ao 5) (aj (ao 7) aG)))) aG)))
   (oE (Cy dF (ao 4) (aj (ao 7) aG)))) {nx:=N,rt:=λw h'=>wG true h w h' Q} [Dn (.kls (ns.map .int)),Dn (.int (sz:Int)),Dn (.int (fr:Int)),Dn (.int (M:Int)),Dn (.loc a),Dn (.loc b),Dn (.int (j:Int)),Dn (Bb x js)] h2:=by
   intro x js hx es fx wl;have hj:∀q∈js,q<wt.length:=by rw[D.len,<-sl];exact QW es
   have jl:js.length=(lV x).length:=by have:=congrArg Tj es;rw[Ik,Ik]at this;exact this
   refine bw<|jD<|qU<|aA rfl<|lE cb2<|aB<|aZ<|aB<|aA rfl<|aB<|aA rfl<|aB<|aA rfl<|aL<|hw cb2 D.le hj jl hx<|aL ?_
   refine Il cb2 (by unfold vB;rw[Ik,D.len];lia) λg3 gc3 go3 gn3=>cW ?_;have ca3:g3.c a=Dn (.lst (aW ps)):=(go3 a (by lia)).trans ca2;refine jD<|qU<|aA rfl<|lE ca3<|aB<|aA rfl<|aL ?_
   refine Il ca3 (by rw[rl];lia) λg4 gc4 go4 gn4=>cW<|hN _ _ ⟨ps++[(x,js)],wt++[wtF x<|js.map λj=>wt.getD j 0],_,_,D.snoc hx es wl,by rw[Le,pl];rfl,F.snoc fx,rfl,by rw[gc4,xY],by rw[go4 b<|by lia,gc3,Qg],by lia,λm hm=>by rw[go4 m<|by lia,go3 m<|by lia,ho2 m hm]⟩
  refine bw<|eU<|bR<|bA<|aZ<|aB<|aA rfl<|aB<|aA rfl<|aB<|aA rfl<|aL<|hw cb2 D.le hj jl hx<|aA rfl<|abo<|qH ?_
  by_cases c:wtF x (js.map λj=>wt.getD j 0)<=M
  refine cY (Av<|by lia)<|dI<|cW ?_
  exact rest hx es fx<|Jz c m48
  ·refine mY (U6<|by lia) ?_;have nf:¬ps.length<fr:=λz=>by
    have e0:=fx.mpr z;subst e0;exact c<|show 1<=M from m1
   rfl'
   refine adh ?_;rw[if_neg (by lia)];rfl'
   have f0:=first 0 (by lia) (by lia)
   have f1:=first 1 (by lia) (by lia)
   refine rest (x := "join") (js:=[0,1]) (by decide) ?_ ⟨λz=>absurd z<|by decide,λz=>absurd z nf⟩ ?_;unfold gR;simp only[Od,List.map_nil,Ju,f0,f1];rfl;have e0:=(D.wt 0 _ _ f0).1;have e1:=(D.wt 1 _ _ f1).1;rw[List.map_nil,Ce]at e0 e1;simp only[Od,List.map_nil,e0,e1];decide
 rintro σ h' ⟨ps,wt,a6,a7,D,pl,F,rfl,ca,cb,bx,ho⟩;rw[ae1]at pl;refine cW ?_;unfold vK;exact dB<|aA rfl<|V3 ⟨λm c hm e=>by rw[ho m hm];exact e,.inr ⟨a,aW ps,rfl,by lia,ca,CV _ _,k ps wt D pl F⟩⟩
variable {kvs:List (Key×W)}
theorem Ar {k}(h:lA kvs k=Go):kvs.find? (λkv=>decide (kv.1=k))=Go:=by
 unfold lA at h;cases e:kvs.find? (λkv=>decide (kv.1=k))with
 | none=>rfl
 | some v=>rw[e]at h;cases h
theorem alU {k}(h:lA kvs k=Go):Wz kvs k w=kvs++[(k,w)]:=by
 unfold Wz;rw[if_neg];intro z;obtain⟨G,h1,h2⟩:=Zg.mp z;exact List.find?_eq_none.mp (Ar h) G h1 h2
theorem wD {k k'}(h:lA kvs k=Go):lA (kvs++[(k,w)]) k'=if k=k' then Dn w else lA kvs k':=by
 by_cases c:k=k'
 subst c;unfold lA;rw[List.find?_append,Ar h];simp;rw[if_neg c];unfold lA;simp_all
theorem Oa {i:Int}{N:Gh->Prop}(e:h.c n=Dn (.dct kvs))(G:kvs.length+1<=1000)(p:lA kvs (.inl i)=Go)(k:∀g:Gh,g.c n=Dn (.dct (kvs++[(.inl i,w)]))->(∀m,m≠n->g.c m=h.c m)->g.nx=h.nx->N g):p8 (.loc n) (.int i) w h N:=by
 show(match h.c n with
  | some (.dct kvs)=>fV _ _
  | _=>False)
 rw[e];dsimp only;exact alU p ▸ fV.mk (Jz G (by decide:1000<=JN)) (k _ (jL _ _ _) (λ_ e=>gk e) rfl)
theorem aeb {i}(e:h.c n=Dn (.dct kvs))(v:lA kvs (.inl i)=Dn w)(k:Q w h):TQ (.loc n) (.int i) h Q:=by
 show(match h.c n with
  | some (.dct kvs)=>(match lA kvs _ with
   | some w=>Q w h
   | none=>False)
  | _=>False)
 simp_all
noncomputable def uw (kvs:List (Key×W))(js js':List Nat):Prop:=js.map (λj:Nat=>lA kvs (.inl (j:Int)))=js'.map λj:Nat=>Dn (W.int (j:Int))
structure Am (fr:Nat) (ps:Ps) (wt:List Nat) (k a:Nat) (kvs:List (Key×W)) (qs:Ps) (vt:List Nat):Prop where
 d:Dr 48 qs vt
 len:qs.length+fr=a+k
 kl:kvs.length=qs.length
 v:∀n:Nat,n<a\/(fr<=n/\n<k)->∃j:Nat,lA kvs (.inl (n:Int))=Dn (.int (j:Int))/\j<qs.length/\(gR qs)[j]?=(gR ps)[n]?/\vt.getD j 0=wt.getD n 0
 nv:∀n:Nat,¬(n<a\/(fr<=n/\n<k))->lA kvs (.inl (n:Int))=Go
 af:a<=fr
 fk:fr<=k
 fn:Lg qs qs.length=a
variable {qs:Ps}
theorem yH:(∀j,j<qs.length->(gR (qs++[(x,js)]))[j]?=(gR qs)[j]?)/\(gR (qs++[(x,js)]))[qs.length]?=Dn (c7 x):=by
 unfold gR;rw[R9];refine⟨λj hj=>Rx<|by rwa[Ik],?_⟩;rw[Sv (by rw[Ik];exact JL _),Ik,YS];rfl
variable {vt:List Nat}
theorem MJ {k}:(∀j,j<vt.length->(vt++[k]).getD j 0=vt.getD j 0)/\(vt++[k]).getD vt.length 0=k:=by
 refine⟨λj hj=>by rw[Ss,Ss,Rx hj],?_⟩;simp_all
theorem HY:Lg (qs++[(x,js)]) (qs++[(x,js)]).length=Lg qs qs.length+(if x = "free" then 1 else 0):=by
 unfold Lg;rw[QG];simp
variable {fr:Nat}
theorem Am.snoc {ps}{k a J a'}(A:Am fr ps wt k a kvs qs vt)(U:¬(n<a\/(fr<=n/\n<k)))
  (G:∀m,(m<a'\/(fr<=m/\m<J))↔(m<a\/(fr<=m/\m<k))\/m=n) (le:a'+J=a+k+1) (h:a'<=fr) (fk:fr<=J) (f:a'=a+if x = "free" then 1 else 0)
  (D:Dr 48 (qs++[(x,js)]) (vt++[wtF x (js.map λj=>vt.getD j 0)])) (es:(gR ps)[n]?=Dn (c7 x)) (g:wt.getD n 0=wtF x (js.map λj=>vt.getD j 0)) :
  Am fr ps wt J a' (kvs++[(.inl (n),.int (qs.length:Int))]) (qs++[(x,js)]) (vt++[wtF x (js.map λj=>vt.getD j 0)]):=by
 have b:=A.d.len;refine⟨D,?_,?_,λm O=>?_,λm O=>?_,h,fk,(by rw[HY,A.fn,f])⟩;rw[Le,Tp];have:=A.len
 lia;rw[Le,Le,A.kl];rfl;rw[wD (A.nv n U)];by_cases c:m=n
 subst c;rw[if_pos rfl];refine⟨qs.length,rfl,by rw[Le,Tp];lia,by rw[yH.2,es],?_⟩;rw[<-b,MJ.2,g];rw[if_neg (λz=>c (by injection z with z;lia))];obtain⟨j,h1,h2,e,d⟩:=A.v m (((G m).mp O).resolve_right c);exact⟨j,h1,by rw[Le];lia,by rw[yH.1 j h2,e],by rw[MJ.1 j<|by lia,d]⟩;rw[wD (A.nv n U)];have Y:=λz=>O ((G m).mpr z)
 rw[if_neg (λz=>Y (.inr (by injection z with z;lia)))];exact A.nv m λz=>Y<|.inl z
theorem Am.free {fr ps}{wt k a}{kvs qs}{vt}(A:Am fr ps wt k a kvs qs vt)(D:Dr 48 ps wt)(F:Wo fr ps)(ha:a<fr)(hl:fr<=ps.length) :
  ∃vt',Am fr ps wt k (a+1) (kvs++[(.inl (a),.int (qs.length:Int))]) (qs++[(("free" : Str),([]:List Nat))]) vt':=by
 obtain⟨x,js,e⟩:∃x js,ps[a]?=Dn (x,js):=⟨_,_,MH (by lia)⟩
 cases(F a x js e).mpr ha
 refine⟨_,A.snoc (by lia) (λm=>by lia) (by lia) ha A.fk (by simp) (A.d.snoc (by decide) rfl<|show 1<=48 by decide) ?_ (D.wt a _ _ e).1⟩;unfold gR;rw[Ju,e];rfl
theorem Pn {kvs:List (Key×W)}{S S':List Str}{vt wt:List Nat}:∀{js:List Nat},(∀j∈js,∃G:Nat,lA kvs (.inl (j:Int))=Dn (.int (G:Int))/\S'[G]?=S[j]?/\vt.getD G 0=wt.getD j 0) ->
  ∃js',uw kvs js js'/\js'.map (λj=>S'[j]?)=js.map (λj=>S[j]?)/\(js'.map λj=>vt.getD j 0)=js.map λj=>wt.getD j 0
 | [],_=>⟨[],rfl,rfl,rfl⟩
 | j::js,h=>by
  obtain⟨js',h1,h2,J⟩:=Pn λj hj=>h j (RN _ hj)
  obtain⟨G,a1,a2,a3⟩:=h j (T9 ..);refine⟨G::js',?_,(by rw[Od,Od,h2,a2]),(by rw[Od,Od,J,a3])⟩;unfold uw;rw[Od,Od,h1,a1]
theorem Am.row {ps}{k a}(A:Am fr ps wt k a kvs qs vt)(D:Dr 48 ps wt)(F:Wo fr ps)(e:ps[k]?=Dn (x,js))(hj:∀j∈js,j<a\/fr<=j):
  ∃js' vt',uw (kvs++[(.inl (k),.int (qs.length:Int))]) js js'/\Am fr ps wt (k+1) a (kvs++[(.inl (k),.int (qs.length:Int))]) (qs++[(x,js')]) vt':=by
 obtain⟨js',h1,h2,O⟩:=Pn (kvs:=kvs) (S:=gR ps) (S':=gR qs) (vt:=vt) (wt:=wt) (js:=js) λj G=>by
  obtain⟨Y,a1,_,a2,a3⟩:=A.v j (by have:=hj j G;have:=D.lt k x js e j G;lia);exact⟨Y,a1,a2,a3⟩
 have w:=D.wt k x js e;have fk:=A.fk;have b:=A.af;have U:x ≠ "free":=λz=>by
  have:=(F k x js e).mp z
  lia
 have J:uw (kvs++[(.inl (k:Int),.int (qs.length:Int))]) js js':=by
  unfold uw at h1|-
  rw[<-h1];apply Uo;intro j G;have:=D.lt k x js e j G
  rw[wD (A.nv k (by lia)),if_neg (λz=>by injection z with z;lia)]
 refine⟨js',_,J,A.snoc (n:=k) (by lia) (λm=>by lia) (by lia) b (by lia) (by rw[if_neg U];rfl) (A.d.snoc (D.wd k x js e) (by rw[h2];exact D.ss k x js e) (by rw[O,<-w.1];exact w.2)) ?_ (by rw[O];exact w.1)⟩;unfold gR;rw[Ju,e];rfl
theorem Am.nil {fr ps}{wt}:Am fr ps wt fr 0 [] [] []:=⟨.nil,by simp,rfl,λn h=>by lia,λn _=>rfl,T7 _,JL _,rfl⟩
theorem Dr.frees {qs}{vt}(D:Dr 48 qs vt):∀n,∃G,Dr 48 (qs++RP n (("free" : Str),([]:List Nat))) G/\Lg (qs++RP n (("free" : Str),([]:List Nat))) (qs++RP n (("free" : Str),([]:List Nat))).length=Lg qs qs.length+n
 | 0=>⟨vt,by simpa using D,by simp⟩
 | n+1=>by
  obtain⟨G,D',f⟩:=D.frees n;refine⟨_,by rw[List.replicate_succ',<-List.append_assoc];exact D'.snoc (by decide) rfl (show 1<=48 by decide),?_⟩;rw[List.replicate_succ',<-List.append_assoc,HY,f];rfl
theorem aaW (x:∀g,g.c h.nx=Dn (.dct [])->(∀m,m≠h.nx->g.c m=h.c m)->g.nx=h.nx+1->Q (.loc h.nx) g):Yb σ h Q:=x _ (yp _ _) (λ_ e=>sS e) rfl
theorem aek {i}(x:Q (.bl (decide (i<=j))) h):kLe (.int i) (.int j) h Q:=x
variable {js':List Nat}
theorem uw.at {kvs js js'}(t:uw kvs js js'){i j:Nat}(e:js[i]?=Dn j):∃G,js'[i]?=Dn G/\lA kvs (.inl (j))=Dn (.int (G)):=by
 have:=congrArg (λl=>l[i]?) t
 simp at this;grind
theorem uw.len (t:uw kvs js js'):js.length=js'.length:=by
 have:=congrArg Tj t
 rwa[Ik,Ik]at this
theorem af9 (G:uq ix σ=[Dn (.loc n)])(J:h.c n=Dn (.dct kvs))(t:uw kvs js js')(hl:js.length<=100)(q:Q (.lst (vB js')) h):
  lcK Jr ix gU (Mk TQ (ao 1) (ao 0)) σ Q ⟨js.map λj:Nat=>W.int (j),Go⟩ h:=by
 refine uD (by rw[Ik];exact Yc.mpr (by lia)) ?_;refine cU (λi acc h'=>h'=h/\acc=vB (js'.take i)) ?_ ?_ ⟨rfl,rfl⟩;rintro i u acc h' N O e ⟨rfl,rfl⟩;rw[Ju]at e;obtain⟨j,a,rfl⟩:=Rv.mp e;obtain⟨w,U,Y⟩:=t.at a;refine⟨[.int _],rfl,?_⟩;rw[G];refine gj<|dg<|bA<|aA rfl<|aA rfl<|aeb J Y<|O _ _ ⟨rfl,?_⟩
 rw[Nj,U];exact Qg;rintro acc h' ⟨rfl,rfl⟩
 rwa[Ik,t.len,QG]
theorem afK {a b}(e:h.c n=Dn (.lst a))(hz:a.length+b.length<=1000)(x:Q (.lst (a++b)) h):cj (.loc n) (.lst b) h Q:=by
 show(match QZ h _,QZ h _ with
  | some a,Dn b=>fV _ _
  | _,_=>False)
 have e1:QZ h (.loc n)=Dn a:=by simp[QZ,e]
 have e2:QZ h (.lst b)=Dn b:=rfl;exact e1 ▸ fV.mk (Jz hz (by decide:1000<=JN)) x
theorem xr (a n):((rng a n).map λx:Nat=>W.int (x)).length=n-a:=by unfold rng;rw[Ik,Yy]
theorem cA (ps:Ps):(aW ps).length=ps.length:=by unfold aW;rw[Ik]
noncomputable def aev (c0:AP):Prop:=∀{h:Gh}{ps:Ps}{wt:List Nat}{fr:Nat}{Q:WK}{E:Bm},Dr 48 ps wt->Wo fr ps->fr<=ps.length->ps.length<=24->(∀qs vt,Dr 48 qs vt->qs.length=ps.length->Lg qs qs.length=fr->Q (.lst (aW qs)) h)->c0 [.lst (aW ps),.int (fr:Int)] h Q E
theorem acW:aev Dm:=by
 intro h ps wt fr Q E D F fl l24 k;have rl:=cA ps;refine za rfl (σ:=[Dn<|.lst<|aW ps,Dn<|.int (fr:Int),Go,Go,Go,Go,Go]) rfl<|bw<|bO<|aaW λg1 I C Z=>(nV<|cW ?_)
 refine bw<|bO<|qO (ws:=[]) (λR=>rfl) rfl λg2 H s X=>(nV<|cW ?_)
 obtain⟨P,eP⟩:∃P,P=h.nx:=⟨_,rfl⟩
 obtain⟨L,eL⟩:∃L,L=g1.nx:=⟨_,rfl⟩
 rw[<-eP]at I C Z|-
 rw[<-eL]at H s X|-
 refine bw<|bO<|dW<|nV<|cW ?_
 refine bw<|uW<|Bd<|aB<|aA rfl<|aB<|fZ<|aB<|aA rfl<|aL<|fH (xs:=aW ps) rfl<|aL ?_
 rw[rl];refine Ny (n:=fr) rfl (by lia) (by lia)<|vf ?_
 refine jF (λi σ h'=>∃a kvs qs vt M g,Am fr ps wt (fr+i) a kvs qs vt/\σ=[Dn<|.lst<|aW ps,Dn<|.int (fr:Int),Dn<|.loc P,Dn<|.loc L,Dn<|.int ((a:Nat):Int),M,g]/\h'.c P=Dn (.dct kvs)/\h'.c L=Dn (.lst<|aW qs)/\∀m,m<h.nx->h'.c m=h.c m) ?_ ?_ ⟨0,[],[],[],Go,Go,.nil,rfl,by rw[s P<|by lia];exact I,H,λm v=>by rw[s m<|by lia,C m<|by lia]⟩
 ·rintro i w σ h' N B K ⟨a,kvs,qs,vt,M,g,A,rfl,d,G,ho⟩;rw[Ju]at K;obtain⟨j,ej,rfl⟩:=Rv.mp K;obtain⟨ei,S⟩:=lF ej;subst ei;obtain⟨x,js,e⟩:∃x js,ps[fr+i]?=Dn (x,js):=⟨_,_,MH S⟩
  have er:(aW ps)[fr+i]?=Dn (Bb x js):=by unfold aW;rw[Ju,e];rfl
  have l:∀{h':Gh}{R:WK},R (Bb x js) h'->BZ (.lst (aW ps)) (.int ((fr+i:Nat):Int)) h' R:=λq=>d8 (ws:=aW ps) rfl (bM er) q
  have jl:js.length<=24:=by
   have:=congrArg Tj (D.ss _ x js e)
   rw[Ik,Ik]at this;rw[this];exact rE<|D.wd _ x js e
  refine nV<|bw<|uW<|uy<|tU<|bA<|aA rfl<|aA rfl<|l<|fK<|dW<|Kr<|cJ<|sW<|J6 (ws:=js.map λj:Nat=>W.int (j:Int)) (o:=Go) rfl<|vf ?_
  refine jF (λq σ h'=>∃a kvs qs vt g,Am fr ps wt (fr+i) a kvs qs vt/\(∀j∈js.take q,j<a\/fr<=j)/\σ=[Dn<|.lst<|aW ps,Dn<|.int (fr:Int),Dn<|.loc P,Dn<|.loc L,Dn<|.int ((a:Nat):Int),Dn<|.int ((fr+i:Nat):Int),g]/\h'.c P=Dn (.dct kvs)/\h'.c L=Dn (.lst<|aW qs)/\∀m,m<h.nx->h'.c m=h.c m) ?_ ?_ ⟨a,kvs,qs,vt,_,A,by simp,rfl,d,G,ho⟩
  ·rintro q w σ h' N B K ⟨a,kvs,qs,vt,g,A,p,rfl,d,G,ho⟩;rw[Ju]at K;obtain⟨j,ej,rfl⟩:=Rv.mp K;refine nV ?_;refine⟨λm σ h'=>∃a kvs qs vt,m+a=fr/\Am fr ps wt (fr+i) a kvs qs vt/\(∀j∈js.take q,j<a\/fr<=j)/\σ=[Dn<|.lst<|aW ps,Dn<|.int (fr:Int),Dn<|.loc P,Dn<|.loc L,Dn<|.int ((a:Nat):Int),Dn<|.int ((fr+i:Nat):Int),Dn<|.int (j:Int)]/\h'.c P=Dn (.dct kvs)/\h'.c L=Dn (.lst<|aW qs)/\∀m,m<h.nx->h'.c m=h.c m,⟨fr-a,a,kvs,qs,vt,by have:=A.af;lia,A,p,rfl,d,G,ho⟩,?_⟩;rintro m σ h' ⟨a,kvs,qs,vt,ma,A,p,rfl,d,G,ho⟩;have ql:=A.len;have f:j<a\/fr<=j->N [Dn (.lst (aW ps)),Dn (.int (fr:Int)),Dn (.loc P),Dn (.loc L),Dn (.int ((a:Nat):Int)),Dn (.int ((fr+i:Nat):Int)),Dn (.int (j:Int))] h':=λz=>B _ _ ⟨a,kvs,qs,vt,_,A,λj' y=>by
    rw[Nj,ej]at y;rcases Tf.mp y with h1|h1
    exact p j' h1;rw[Option.toList_some,Ri]at h1;rw[h1];exact z,rfl,d,G,ho⟩
   refine VR<|bR<|bA<|aA rfl<|aA rfl<|adg<|qH ?_
   by_cases c1:j<fr
   ·refine mY (U6<|by lia) ?_;refine bR<|bA<|aA rfl<|aA rfl<|aek<|qH ?_
    by_cases c2:a<=j
    refine mY (U6<|by lia) ?_;obtain⟨J,A'⟩:=A.free D F (by lia) fl;refine bw<|bO<|fZ<|aB<|aA rfl<|aL<|fH (vw G) ?_
    rw[cA];refine K9<|aA rfl<|aA rfl<|Oa d (by rw[A.kl];lia) (A.nv a<|by lia) λg3 b U V=>cW ?_
    have Y:g3.c L=Dn (.lst (aW qs)):=(U L (by lia)).trans G;refine bw<|jD<|qU<|aA rfl<|lE Y<|aB<|GZ<|aB<|dW<|aL<|pD rfl<|aL ?_
    refine Il Y (by rw[cA];lia) λg4 t O T=>cW ?_;refine bO<|bA<|aA rfl<|dW<|gK<|nV ?_
    exact⟨m-1,by lia,a+1,_,_,J,by lia,A',λj hj=>by have:=p j hj;lia,rfl,by rw[O P<|by lia];exact b,by rw[t];exact congrArg Dn (congrArg Cell.lst<|xY (x := "free") (js:=[])),λm v=>by rw[O m<|by lia,U m<|by lia,ho m v]⟩
    ·exact cY (Av<|by lia)<|f<|by lia
   ·exact cY (Av<|by lia)<|cY rfl<|f<|by lia
  rintro σ h' ⟨a,kvs,qs,vt,g,A,p,rfl,d,G,ho⟩;rw[Ik,QG]at p;obtain⟨js',J,td,A'⟩:=A.row D F e p;have ql:=A.len;have af:=A.af;refine cW ?_;refine bw<|bO<|fZ<|aB<|aA rfl<|aL<|fH (vw G) ?_
  rw[cA];refine K9<|aA rfl<|aA rfl<|Oa d (by rw[A.kl];lia) (A.nv _<|by lia) λg3 b U V=>cW ?_
  have Y:g3.c L=Dn (.lst (aW qs)):=(U L (by lia)).trans G;refine jD<|qU<|aA rfl<|lE Y<|aB<|fZ<|aB<|bA<|Ux<|aB<|bA<|bA<|aA rfl<|aA rfl<|l<|dW<|Ks<|aL<|pD rfl<|qu<|uy<|tU<|bA<|aA rfl<|aA rfl<|l<|fK<|dW<|Kr<|cJ<|sW<|J6 (ws:=js.map λj:Nat=>W.int (j:Int)) (o:=Go) rfl ?_
  refine af9 rfl b td (by lia) ?_;refine WR (by unfold vB;rw[Ik,<-td.len];show 1+_<=1000;lia)<|aL<|Hr<|aL ?_
  refine Il Y (by rw[cA];lia) λg4 t O T=>cW<|B _ _ ⟨a,_,_,J,_,_,A',rfl,by rw[O P<|by lia];exact b,by rw[t];exact congrArg Dn (congrArg Cell.lst xY),λm v=>by rw[O m<|by lia,U m<|by lia,ho m v]⟩
 rintro σ h' ⟨a,kvs,qs,vt,M,g,A,rfl,d,G,ho⟩;rw[xr]at A;have ql:=A.len;have af:=A.af;refine cW ?_;unfold vq;refine dB<|bA<|aA rfl<|qu<|Bd<|aB<|aA rfl<|aB<|aA rfl<|aL<|Ny (n:=a) rfl (by lia) (by lia) ?_
 refine uD (by rw[xr];exact Yc.mpr (by lia)) ?_;refine cU (λi acc r=>r=h'/\acc=aW (RP i (("free" : Str),([]:List Nat)))) ?_ ?_ ⟨rfl,rfl⟩;rintro i u acc r N B e ⟨rfl,rfl⟩;refine⟨[u],rfl,?_⟩;refine gj<|dg<|GZ<|aB<|dW<|aL<|pD rfl<|B _ _ ⟨rfl,?_⟩
 rw[List.replicate_succ'];exact xY (x := "free") (js:=[]);rintro acc r ⟨rfl,rfl⟩;rw[xr];obtain⟨J,D',fn⟩:=A.d.frees (fr-a);refine afK G (by rw[cA,cA,lR];lia) ?_;have ea:aW qs++aW (RP (fr-a) (("free" : Str),([]:List Nat)))=aW (qs++RP (fr-a) (("free" : Str),([]:List Nat))):=by unfold aW;rw[R9]
 rw[ea];exact V3 ⟨λm c v e=>by rw[ho m v];exact e,.inl ⟨CV _ _,k _ J D' (by rw[Le,lR];lia) (by rw[fn,A.fn];lia)⟩⟩
theorem Dr.rows {M ps}(D:Dr M ps wt):∀r∈aW ps,Row r:=λr G=>by
 obtain⟨p,J,rfl⟩:=Nm.mp G;obtain⟨q,O⟩:=qj J;refine⟨p.1,p.2.map λk:Nat=>(k:Int),D.wd q _ _ O,?_⟩;rw[X4];rfl
theorem acL {ps}(h:i<=n):Lg ps i<=Lg ps n:=List.Sublist.countP_le (List.take_sublist_take_left h)
theorem KQ {ps}(h:i<=n):Lg (ps.take n) i=Lg ps i:=by
 unfold Lg;grind
theorem Wo.count {f:Nat}{ps:Ps}(F:Wo f ps):∀{n:Nat},n<=ps.length->Lg ps n=min f n
 | 0,_=>by unfold Lg;simp
 | n+1,h=>by
  obtain⟨x,js,e⟩:∃x js,ps[n]?=Dn (x,js):=⟨_,_,MH (by lia)⟩
  rw[mj e,F.count (by lia)];have:=F n x js e
  grind
theorem Gd.cut {M ps}(D:Dr M ps wt)(G:Gd ps wt sps gold):Gd (ps.take gold.length) (wt.take gold.length) (sps.take (Lg ps gold.length)) gold:=by
 have J:∀{i p},(ps.take gold.length)[i]?=Dn p->ps[i]?=Dn p:=λ{i p} e=>by
  rw[Yx]at e;split at e
  exact e;cases e
 have O:∀{i},i<gold.length->(wt.take _).getD i 0=wt.getD i 0:=λ{i} h=>by
  rw[Ss,Ss,Yx,if_pos h]
 refine⟨by rw[Ti];have:=G.le;lia,λi x js h e=>?_,λi js h e=>?_,λi x js h e U=>?_⟩;exact O h ▸ G.tg i x js h (J e);obtain⟨t,a,b⟩:=G.fr i js h (J e);have fs:=mj (J e);rw[if_pos rfl]at fs;have:Lg ps _<=Lg ps _:=acL h
 rw[KQ (Xg h)];grind
 obtain⟨ws,w,a,b,c,d⟩:=G.mkd i x js h (J e) U;refine⟨ws,w,a,b,c,?_⟩;have:(js.map λj=>(wt.take _).getD j 0)=js.map λj=>wt.getD j 0:=Uo λj hj=>O (by have:=D.lt i x js (J e) j hj;lia)
 rwa[this]
theorem S8.pos {M ps}(D:Dr M ps wt)(s:S8 ps wt gold):0<gold.length/\gold.length<ps.length:=by
 obtain⟨x,js,ws,e,J,_⟩:=s;refine⟨Nat.pos_of_ne_zero λz=>?_,(Oi.mp e).1⟩;rw[z]at e;have h2:=D.ss 0 x js e;have G:=D.wd 0 x js e;cases List.eq_nil_iff_forall_not_mem.mpr λj hj=>absurd ((D.lt 0 x js e) j hj) (Te _)
 have O:=by have:=congrArg Tj h2;rw[Ik,Ik]at this;exact this.symm
 unfold Ob at G;simp at G;rcases G with rfl|rfl|rfl|rfl|rfl|rfl|rfl
 exact J rfl;all_goals exact absurd O (by decide)
theorem zbs {ps}:(aW ps).take n=aW (ps.take n):=by unfold aW;rw[List.map_take]
noncomputable def ahu (mr c0:AP):Prop:=∀{rws sps gold:List W}{h:Gh}{Q:WK}{E:Bm},JD mr rws sps gold->(gold.length=rws.length->Q (.lst gold) h)->(∀r,rws[gold.length]?=Dn r->Rf mr gold r/\∀h',Kp h h'->E ⟨"Stuck",[("at",.int (gold.length:Nat))]⟩ h')->c0 [.lst rws,.lst sps] h Q E
theorem acr {mr}:ahu mr (xO mr):=λP J G=>zbl P J G
theorem zbZ (c:C6)(p:Tr):dt3 p (vm (bQ c) p)=2*IK c p:=qC c p
noncomputable def q6 (T:Mt):C6:=(T.1.1,2*T.1.2.1,T.2.1.2.1,2*T.1.2.2,2*T.2.1.2.2,T.2.2.2.2)
theorem aes {T}(h:tr T=T)(x):IK (q6 T) x=dt3 x (vm T x):=by
 have e1:T.2.1.1=T.1.2.1:=congrArg (λM:Mt=>M.1.2.1) h;have e2:T.2.2.1=T.1.2.2:=congrArg (λM:Mt=>M.1.2.2) h;have e3:T.2.2.2.1=T.2.1.2.2:=congrArg (λM:Mt=>M.2.1.2.2) h;simp[IK,q6,dt3,vm];grind
theorem W5 (N)(c):tr (mm (tr N) (mm (bQ c) N))=mm (tr N) (mm (bQ c) N):=by
 rw[SX,SX,aeg,aa7,ajG]
theorem QL (N)(c)(x):IK (q6 (mm (tr N) (mm (bQ c) N))) x=2*IK c (vm N x):=by
 rw[aes (W5 N c),j7,j7,cD,rZ,cD,zbZ]
theorem Gx {c}(h:∀x,IK c x=0):¬NZ (Ja c):=by
 have h1:=h (1,0,0);have h2:=h (0,1,0);have Y:=h (0,0,1);have U:=h (1,1,0);have O:=h (1,0,1);have J:=h (0,1,1);simp only[IK]at h1 h2 Y U O J;rintro⟨n,G,a⟩;simp[Ja]at G;lia
variable {f:C6}
theorem v8 {c}{s t}(h:∀x,s*IK f x=t*IK c x):kC s f=kC t c:=by
 have h1:=h (1,0,0);have h2:=h (0,1,0);have U:=h (0,0,1);have O:=h (1,1,0);have J:=h (1,0,1);have G:=h (0,1,1);simp only[IK]at h1 h2 U O J G;simp[kC];grind
noncomputable def Q7 (M:Mt)(c f:C6):Prop:=∃j k:Int,j≠0/\k≠0/\∀x,j*IK f x=k*IK c (vm (adj M) x)
noncomputable def Tt (c0:AP):Prop:=∀{h:Gh}{M:Mt}{c:C6}{m n:Nat}{Q:WK}{E:Bm},4*m+n<=3000->Kw m M->det M≠0->Jp n c->NZ (Ja c)->(∀f,K4 (Ja f)->Jp (n+4*m+9) f->Q7 M c f->Q (Je f) h)->c0 [mw M,Je c] h Q E
theorem ae3 {v fl tt D}(l:zf v)(o:Ds fl)(U:ac0 tt)(p:Wg D)(i:TabOk ta):Tt (rF v fl tt D ta):=by
 intro h M c m n Q E hm a C w nz k;unfold rF;rfl'
 refine p (m:=m) (by lia) a C λN pN d Y=>?_;rfl'
 refine o true ?_;refine i (m:=n) (by lia) w ?_;have s:Kw (n+1) (bQ c):=gW w;have u:Kw (n+2*m+4) (mm (bQ c) N):=(abJ s Y).mono (by lia);have G:Kw (n+4*m+7) (mm (tr N) (mm (bQ c) N)):=(abJ (Bq Y) u).mono (by lia);refine U (m:=n+2*m+4) true true (by lia) (s.mono<|by lia) (Y.mono<|by lia) ?_;refine U (m:=n+2*m+4) false false (by lia) ((Bq Y).mono (by lia)) u ?_;have O:∀x,IK (q6 (mm (tr N) (mm (bQ c) N))) x=2*IK c (vm N x):=QL N c
 obtain⟨g,k0,A⟩:=d;have B:det N≠0:=(Wn.det ⟨g,k0,A⟩).mp (cR C);generalize mm (tr N) (mm (bQ c) N)=T at *;have f:NZ (Ja (q6 T)):=QK λz=>by
  have al:∀x,IK (q6 T) x=0:=by
   intro x;have J:∀t∈Ja (q6 T),t=0:=λt ht=>QK λq=>z ⟨t,ht,q⟩
   have a1:(q6 T).1=0:=J _ (by simp[Ja]);have a2:(q6 T).2.1=0:=J _ (by simp[Ja]);have a3:(q6 T).2.2.1=0:=J _ (by simp[Ja]);have a4:(q6 T).2.2.2.1=0:=J _ (by simp[Ja]);have a5:(q6 T).2.2.2.2.1=0:=J _ (by simp[Ja]);have a6:(q6 T).2.2.2.2.2=0:=J _ (by simp[Ja]);simp only[IK,a1,a2,a3,a4,a5,a6,ZR,Int.add_zero]
  refine Gx (c:=c) (λy=>?_) nz;have e:=O (vm (adj N) y);rw[al,<-j7,vD,qb,wA,j9]at e;have:=(Jq.mp (show det N*det N*IK c y=0 by lia)).resolve_left (O6 B B)
  exact this
 have X:Jp (n+4*m+8) (q6 T):=⟨G.1.1.mono (by lia),pJ G.1.2.1,G.2.1.2.1.mono (by lia),pJ G.1.2.2,pJ G.2.1.2.2,G.2.2.2.2.mono (by lia)⟩
 have r:∀(x:C6) (j:Int),j≠0->q6 T=kC j x->K4 (Ja x)->Jp (n+4*m+8) x->Q (Je x) h:=by
  intro x j j0 ej px W;refine k x px (W.mono<|by lia) ⟨j*(g*g),2,O6 j0<|O6 k0 k0,by decide,λy=>?_⟩;have e:=O y;rw[ej,P0]at e;rw[A,qb,j9];grind
 obtain⟨⟨V,S,R⟩,⟨P,L,K⟩,⟨I,H,F⟩⟩:=T;obtain⟨⟨q1,q2,q3⟩,⟨q4,q5,b⟩,⟨q7,q8,Z⟩⟩:=G;simp only at q1 q2 q3 q4 q5 b q7 q8 Z;rfl'
 exact l.c6p (m:=n+4*m+8) (c:=q6 ((V,S,R),(P,L,K),(I,H,F))) (.inl rfl) f X (by lia) r
theorem ahB (x y):Jf (Je x) (Je y)=decide (x=y):=by
 obtain⟨a,b,c,d,e,f⟩:=x;obtain⟨a',b',c',d',e',G⟩:=y;unfold Je;rw[Jf,oA,oA,oA,oA,oA,oA,oA,bZ,bZ,bZ,bZ,bZ,bZ];grind
theorem agw {x y:C6}(k:Q (.bl (decide (x≠y))) h):Oj (Je x) (Je y) h Q:=by
 show Q _ h;rw[ahB];simp_all
noncomputable def Ld (M:Mt)(p u:Tr):Prop:=Pl u/\JT (vm M p) u
noncomputable def Py (M:Mt)(l k:Tr):Prop:=Pl k/\JT (vm (K6 M) l) k
theorem Ld.uniq (h:Ld M p u)(h':Ld M p v):u=v:=sY h.1 h'.1 h.2 h'.2
theorem Py.uniq (h:Py M p u)(h':Py M p v):u=v:=sY h.1 h'.1 h.2 h'.2
theorem o9 (M)(p):vm (adj M) (vm M p)=sc (det M) p:=by rw[<-j7,Gj,qb,wA]
theorem aas (M:Mt)(p:Tr):vm M (vm (adj M) p)=sc (det M) p:=by rw[<-j7,vD,qb,wA]
theorem oZ (M):tr (adj M)=K6 M:=rfl
theorem Ms (M)(l x):dt3 (vm (K6 M) l) x=dt3 l (vm (adj M) x):=by rw[<-oZ,rZ]
theorem aks (M)(l p):dt3 (vm (K6 M) l) (vm M p)=dt3 l p*det M:=by rw[Ms,o9,dG]
theorem Xy {l}(h:JT u v):dt3 l u=0↔dt3 l v=0:=by
 obtain⟨k,k0,rfl⟩:=h;rw[dG];exact⟨λz=>(Jq.mp z).resolve_right k0,λz=>by rw[z,ZR]⟩
theorem K7 {l}(h:JT u v):dt3 u l=0↔dt3 v l=0:=by rw[cD u,cD v];exact Xy h
theorem Gi {l k:Tr}(d:det M≠0)(hl:Py M l k)(G:Ld M p u):dt3 k u=0↔dt3 l p=0:=by
 rw[<-K7 hl.2,<-Xy G.2,aks];exact⟨λz=>(Jq.mp z).resolve_right d,λz=>by rw[z,ZR]⟩
theorem oM (d:det M≠0)(G:Pl p)(pq:Pl q)(O:Ld M p u)(J:Ld M q u):p=q:=by
 refine QK λne=>?_;have c0:=abr O.2 J.2 rfl;rw[rH]at c0;exact qp ((pP<|K6 M).symm ▸ cR d) (cO G pq ne) c0
theorem pG {r w}(d:det M≠0)(O:Ld M p u)(J:Ld M q v)(G:Ld M r w):dt3 (crs u v) w=0↔dt3 (crs p q) r=0:=by
 rw[<-K7 (CK O.2 J.2),<-Xy G.2,(Vc M p q r)];exact⟨λz=>(Jq.mp z).resolve_left d,λz=>by rw[z,RM]⟩
theorem adH (M)(p q)(s t):vm M (Ky s p t q)=Ky s (vm M p) t (vm M q):=by
 simp[vm,Ky,dt3];grind
theorem KN (c)(p q):pom c p q=IK c (Ky 1 p 1 q)-IK c p-IK c q:=by
 rw[tZ];grind
theorem Lf {c}(h:Q7 M c f):∃j k,j≠0/\k≠0/\(∀x,j*IK f x=k*IK c (vm (adj M) x))/\∀x y,j*pom f x y=k*pom c (vm (adj M) x) (vm (adj M) y):=by
 obtain⟨j,k,j0,k0,e⟩:=h;refine⟨j,k,j0,k0,e,λx y=>?_⟩;have e1:=e (Ky 1 x 1 y);rw[adH]at e1;rw[KN,KN,Int.mul_sub,Int.mul_sub,Int.mul_sub,Int.mul_sub,e1,(e x),(e y)]
theorem gG {c:C6}(d:det M≠0)(h:Q7 M c f)(O:Ld M p u):IK f u=0↔IK c p=0:=by
 obtain⟨j,k,J,k0,e⟩:=h;obtain⟨i,G,U⟩:=O.2;have e1:=e (vm M p);rw[o9,j9,U,j9]at e1;constructor;intro z;rw[z,RM,RM]at e1;exact(Jq.mp<|(Jq.mp e1.symm).resolve_left k0).resolve_left (O6 d d);intro z;rw[z,RM,RM]at e1;exact(Jq.mp<|(Jq.mp e1).resolve_left J).resolve_left (O6 G G)
theorem adv (h:∀y,dt3 y u=dt3 y v):u=v:=by
 obtain⟨a,b,c⟩:=u;obtain⟨a',b',c'⟩:=v;have h1:=h (1,0,0);have h2:=h (0,1,0);have G:=h (0,0,1);simp only[dt3]at h1 h2 G;simp;lia
theorem rW {s t}(G:s≠0)(Y:t≠0)(e:sc s u=sc t v):∀w,Pl w->JT u w->JT v w:=by
 intro w J O;have U:v≠(0,0,0):=λz=>by
  rw[z]at e;obtain⟨k,k0,rfl⟩:=O;exact J.ne<|(fu k0).mp ((fu G).mp (by rw[e];simp[sc]))
 obtain⟨x,px,a⟩:=qF U;have:=by
  refine ab9 O a J px ?_;have c1:crs (sc s u) (sc t v)=(0,0,0):=e ▸ qw _;have b:crs (sc s u) (sc t v)=sc (s*t) (crs u v):=by
   simp[crs,sc];grind
  rw[b]at c1;exact(fu<|O6 G Y).mp c1
 rwa[this]
theorem UL (s)(y u):dt3 y (sc s u)=s*dt3 y u:=by rw[dG,ZJ]
theorem Pa {c}(h:Q7 M c f)(x):∃s t,s≠0/\(det M≠0->t≠0)/\sc s (vm (bQ f) (vm M x))=sc t (vm (K6 M) (vm (bQ c) x)):=by
 obtain⟨j,k,G,k0,_,e⟩:=Lf h;refine⟨j,k*det M,G,λd=>O6 k0 d,adv λy=>?_⟩;rw[UL,UL];have e1:=e y (vm M x);rw[o9,Hx]at e1;have e2:dt3 y (vm (K6 M) (vm (bQ c) x))=pom c (vm (adj M) y) x:=by
  rw[cD,Ms,cD];rfl
 rw[e2];show j*pom f y _=_;grind
theorem zj (M)(k)(p):vm M (sc k p)=sc k (vm M p):=sJ _ _ _
theorem FP {c:C6}{L L' K:Tr}(d:det M≠0)(h:Q7 M c f)(hp:Ld M p u)(hL:JT (vm (bQ c) p) L)(pL':Pl L')(hL':JT (vm (bQ f) u) L')(hK:Py M L K):L'=K:=by
 obtain⟨s,t,s0,t0,e⟩:=Pa h p;obtain⟨i,i0,ei⟩:=hp.2;obtain⟨o,o0,eo⟩:=hL;rw[ei,zj,eo,zj,Y4,Y4]at e;exact sY pL' hK.1 (rW (O6 i0 s0) (O6 o0<|t0 d) e _ pL' hL') hK.2
theorem Gn {x}(d:det M≠0)(px:Pl x):∃y,Pl y/\Ld M y x/\JT (vm (adj M) x) y:=by
 obtain⟨y,J,G⟩:=qF (qp (cR d) px.ne);refine⟨y,J,⟨px,?_⟩,G⟩;obtain⟨k,k0,e⟩:=G;have:=aas M x
 rw[e,zj]at this;exact rW d k0 this.symm x px<|JT.refl x
theorem ajp {c}(d:det M≠0)(h:Q7 M c f)(Y:Ld M p u)(U:Ld M q v):pom f u v=0↔pom c p q=0:=by
 obtain⟨j,k,J,k0,_,e⟩:=Lf h;obtain⟨i,O,b⟩:=Y.2;obtain⟨o,G,a⟩:=U.2;have e1:=e (vm M p) (vm M q);have ps:∀(g:C6) (s:Int) (x y:Tr),pom g _ y=s*pom g x y:=λg s x y=>by
  unfold pom;rw[rN,ZJ]
 rw[o9,o9,Hx,ps,b,a,Hx,ps]at e1;constructor;intro z;rw[z,RM,RM,RM]at e1;exact(Jq.mp<|(Jq.mp<|(Jq.mp e1.symm).resolve_left k0).resolve_left d).resolve_left d;intro z;rw[z,RM,RM,RM]at e1;exact(Jq.mp<|(Jq.mp<|(Jq.mp e1).resolve_left J).resolve_left G).resolve_left O
theorem akk {c}{l p' a u'}(d:det M≠0)(h:Q7 M c f)(g:Pl p)(O:Ld M p p')(hl:Py M l a)(J:Ld M u u')(o:Q6 c p l u):Q6 f p' a u':=by
 obtain⟨n,m,k,j,i⟩:=o;refine⟨J.1,(Gi d hl J).mpr m,(gG d h J).mpr k,λx px Y b=>?_,λx px Y q=>?_⟩;obtain⟨y,U,G,_⟩:=Gn d px;rcases j y U ((Gi d hl G).mp Y) ((gG d h G).mp b)with rfl|rfl
 exact .inl<|G.uniq O
 exact .inr<|G.uniq J
 obtain⟨y,U,G,_⟩:=Gn d px;rw[ajp d h O G,<-i y U ((Gi d hl G).mp Y) (λe=>q (by rw[e]at G;exact G.uniq O))];constructor;intro e;rw[e]at J;exact oM d n g J O;intro e;rw[e]at J;exact J.uniq O
structure XQ (M:Mt) (a b c d e a' b' c' d' e':Tr):Prop where
 dn:det M≠0
 pl:∀t∈[a,b,c,d,e],Pl t
 ha:Ld M a a'
 hb:Ld M b b'
 hc:Ld M c c'
 hd:Ld M d d'
 he:Ld M e e'
section
variable {c a' b' c' d' e':Tr}(L:XQ M a b c d e a' b' c' d' e')
include L
theorem XQ.nd (f:[a,b,c,d,e].Nodup):[a',b',c',d',e'].Nodup:=by
 have Y:=L.pl;simp at Y;obtain⟨U,pb,O,J,G⟩:=Y;have n:∀{p q u v:Tr},Pl p->Pl q->Ld M p u->Ld M q v->p≠q->u≠v:=λpp pq i h g e=>g (oM L.dn pp pq i (e ▸ h))
 simp at f|-
 obtain⟨⟨ab,t,ad,s⟩,⟨r,o,m⟩,⟨l,k⟩,j⟩:=f;exact⟨⟨n U pb L.ha L.hb ab,n U O L.ha L.hc t,n U J L.ha L.hd ad,n U G L.ha L.he s⟩,⟨n pb O L.hb L.hc r,n pb J L.hb L.hd o,n pb G L.hb L.he m⟩,⟨n O J L.hc L.hd l,n O G L.hc L.he k⟩,n J G L.hd L.he j⟩
end
theorem nO {r s p' Y O s'}(d:det M≠0)(c:Pl p)(pq:Pl q)(f:p≠q)(J:Ld M p p')(G:Ld M q Y)(U:Ld M r O)(hs:Ld M s s'):fX [p',Y,O,s']=fX [p,q,r,s]:=by
 have a:=Hs (r:=O) (s:=s') J.1 G.1 (λe=>f (oM d c pq J (e ▸ G)));have b:=Hs (r:=r) (s:=s) c pq f;unfold BP at a b;rw[pG d J G U,pG d J G hs,pG d J U hs,pG d G U hs]at a;grind
section
variable {c a' b' c' d' e':Tr}(L:XQ M a b c d e a' b' c' d' e')
include L
theorem XQ.four (U:[a,b,c,d,e].Nodup):Fg [a',b',c',d',e']=Fg [a,b,c,d,e]:=by
 have J:=L.pl;simp at J;obtain⟨G,pb,O,h,g⟩:=J;simp at U;obtain⟨⟨ab,f,ad,n⟩,⟨Y,m,l⟩,⟨k,j⟩,i⟩:=U;rw[aez,aez,nO L.dn G pb ab L.ha L.hb L.hc L.hd,nO L.dn G pb ab L.ha L.hb L.hc L.he,nO L.dn G pb ab L.ha L.hb L.hd L.he,nO L.dn G O f L.ha L.hc L.hd L.he,nO L.dn pb O Y L.hb L.hc L.hd L.he]
theorem XQ.plain:∀t∈[a',b',c',d',e'],Pl t:=by
 intro t ht;simp at ht;rcases ht with rfl|rfl|rfl|rfl|rfl
 exact L.ha.1;exact L.hb.1;exact L.hc.1;exact L.hd.1;exact L.he.1
theorem XQ.curve {U}(O:[a,b,c,d,e].Nodup)(f4:Fg [a,b,c,d,e]=false)(k0:k≠0)(j:uh a b c d e=kC k C)(G:U≠0)(J:uh a' b' c' d' e'=kC U C')(i:K4 (Ja C'))(g:K4 (Ja f))(h:Q7 M C f):C'=f:=by
 refine zbn (Sy L.plain (L.nd O) (by rw[L.four O];exact f4)) i g (VP G J) λx Y=>?_;have v:=VP k0 j;simp at Y;rcases Y with rfl|rfl|rfl|rfl|rfl
 exact(gG L.dn h L.ha).mpr (v a<|by simp);exact(gG L.dn h L.hb).mpr (v b<|by simp);exact(gG L.dn h L.hc).mpr (v c<|by simp);exact(gG L.dn h L.hd).mpr (v d<|by simp);exact(gG L.dn h L.he).mpr (v e<|by simp)
end
theorem ah9 {N:Mt}{c:C6}(O:det N≠0)(U:NZ (Ja c)):NZ (Ja (q6 (mm (tr N) (mm (bQ c) N)))):=QK λz=>by
 have J:=QL N c;generalize mm _ _=T at *;have Y:∀x,IK (q6 T) x=0:=by
  intro x;have G:=λt ht=>QK λq=>z ⟨t,ht,q⟩
  have a1:(q6 T).1=0:=G _ (by simp[Ja]);have a2:(q6 T).2.1=0:=G _ (by simp[Ja]);have a3:(q6 T).2.2.1=0:=G _ (by simp[Ja]);have d:(q6 T).2.2.2.1=0:=G _ (by simp[Ja]);have b:(q6 T).2.2.2.2.1=0:=G _ (by simp[Ja]);have a:(q6 T).2.2.2.2.2=0:=G _ (by simp[Ja]);simp[IK,a1,a2,a3,d,b,a]
 refine Gx (λy=>?_) U;have e:=J (vm (adj N) y);rw[Y,<-j7,vD,qb,wA,j9]at e;exact(Jq.mp<|show det N*det N*IK c y=0 by lia).resolve_left (O6 O O)
theorem adW {c}(d:det M≠0)(J:NZ (Ja c)):∃f,K4 (Ja f)/\Q7 M c f:=by
 obtain⟨f,k,k0,e,p⟩:=aa4 (ah9 (cR d) J);refine⟨f,p,k,2,k0,by decide,λx=>?_⟩;have G:=QL (adj M) c x;rw[e,P0]at G;grind
theorem BR {c}(d:det M≠0)(h:Q7 M c f):det (bQ f)≠0↔det (bQ c)≠0:=by
 obtain⟨j,k,Y,k0,e⟩:=h;have e2:kC (2*j) f=kC k (q6 (mm (tr (adj M)) (mm (bQ c) (adj M)))):=v8 λx=>by
  rw[QL];grind
 have U:det (mm (tr (adj M)) (mm (bQ c) (adj M)))=det (adj M)*(det (bQ c)*det (adj M)):=by rw[Nf,Nf,pP]
 have O:=W5 (adj M) c;generalize mm _ _=T at *;have tk:∀(a:Int) (g:C6),bQ (kC a g)=sM a (bQ g):=λa g=>by
  simp only[bQ,kC,sM,sc,Yo];grind
 have J:bQ (q6 T)=sM 2 T:=by
  simp only[tr]at O;simp only[bQ,q6,sM,sc,Yo];grind
 have G:=cR d;rw[<-nU (k:=2*j) (by lia),(congrArg det (by rw[<-tk,e2,tk,J])),nU k0,nU (by decide),U];constructor;intro z y;rw[y]at z;exact z<|by simp
 intro z;exact O6 G<|O6 z G
theorem Wd {c}{l k}(d:det M≠0)(h:Q7 M c f)(hl:Py M l k):InC f k↔InC c l:=by
 obtain⟨j,s,U,O,e⟩:=h;have J:∀x,dt3 k x=0↔dt3 l _=0:=λx=>by rw[<-Ms];exact(K7 hl.2).symm
 constructor;intro i x G;have h2:=e (vm M x);rw[(i _ ((J _).mpr (by rw[o9,dG,G,ZR]))),o9,j9,RM]at h2;exact(Jq.mp<|(Jq.mp h2.symm).resolve_left O).resolve_left (O6 d d);intro i x G;have h2:=e x;rw[(i _ ((J x).mp G)),RM]at h2;exact(Jq.mp h2).resolve_left U
noncomputable def Qf (M:Mt)(s:Str)(w w':W):Prop:=(s = "spot"/\∃p u:Tr,w=tw p/\w'=tw u/\Pl p/\Ld M p u)\/(s = "line"/\∃p u:Tr,w=tw p/\w'=tw u/\Pl p/\Py M p u)\/(s = "curve"/\∃C f:C6,w=Je C/\w'=Je f/\K4 (Ja C)/\K4 (Ja f)/\Q7 M C f)
theorem ug (h:Je C=Je f):C=f:=by
 obtain⟨a',b',c',d',e',g'⟩:=f;simp[Je]at h;grind
variable {w':W}
theorem Qf.sp (h:Qf M "spot" (tw p) w'):∃u,w'=tw u/\Pl p/\Ld M p u:=by
 rcases h with⟨_,q,u,e,e',pq,l⟩|⟨z,_⟩|⟨z,_⟩
 obtain rfl:=nY e;grind
 exact nomatch z
 exact nomatch z
theorem Qf.ln (h:Qf M "line" (tw p) w'):∃u,w'=tw u/\Pl p/\Py M p u:=by
 rcases h with⟨z,_⟩|⟨_,q,u,e,e',pq,l⟩|⟨z,_⟩
 exact nomatch z
 obtain rfl:=nY e;grind
 exact nomatch z
theorem Qf.cv (h:Qf M "curve" (Je C) w'):∃f,w'=Je f/\K4 (Ja C)/\K4 (Ja f)/\Q7 M C f:=by
 rcases h with⟨z,_⟩|⟨z,_⟩|⟨_,D,f,e,e',a,b,c⟩
 exact nomatch z
 exact nomatch z
 obtain rfl:=ug e;exact⟨f,e',a,b,c⟩
inductive JZ (M:Mt):List Str->List W->List W->Prop
 | nil:JZ M [] [] []
 | cons {s:Str}{w w':W}{ss:List Str}{ws ws':List W}(h:Qf M s w w') (t:JZ M ss ws ws'):JZ M (s::ss) (w::ws) (w'::ws')
theorem vW (b:Ld M p u)(a:Ld M q v)(U:crs p q≠(0,0,0))(J:crs u v≠(0,0,0)):Pl (pln (crs p q))/\Py M (pln (crs p q)) (pln (crs u v)):=by
 have z:=dX U;have G:=dX J;refine⟨z.1,G.1,?_⟩;have h1:JT (vm (K6 M) (crs p q)) (pln (crs u v)):=by rw[<-rH];exact(CK b.2 a.2).trans G.2
 obtain⟨i,Y,O⟩:=z.2;generalize pln _=w at O;exact rW (s:=1) (by decide) Y (by rw[O,zj];simp[sc]) _ G.1 h1
theorem alT (M:Mt)(l k:Tr):crs (vm (K6 M) l) (vm (K6 M) k)=sc (det M) (vm M (crs l k)):=by
 have G:K6 (K6 M)=sM (det M) M:=by
  obtain⟨⟨m1,m2,c⟩,⟨b,a,Y⟩,U,O,J⟩:=M;simp[K6,crs,sM,sc,det,dt3];grind
 rw[rH,G,qb]
theorem alH (d:det M≠0)(b:Py M p u)(a:Py M q v)(U:crs p q≠(0,0,0))(J:crs u v≠(0,0,0)):Pl (pln (crs p q))/\Ld M (pln (crs p q)) (pln (crs u v)):=by
 have z:=dX U;have G:=dX J;refine⟨z.1,G.1,?_⟩;have h1:JT (sc (det M) (vm M (crs p q))) (pln (crs u v)):=by rw[<-alT];exact(CK b.2 a.2).trans G.2
 obtain⟨i,Y,O⟩:=z.2;generalize pln _=w at O;exact rW (s:=1) (by decide) (O6 d Y) (by rw[O,zj];simp[sc];grind) _ G.1 h1
theorem nJ (d:det M≠0)(pp:Pl p)(pq:Pl q)(hp:Ld M p u)(hq:Ld M q v):u=v↔p=q:=
 ⟨λe=>oM d pp pq hp (e ▸ hq),λe=>by subst e;exact hp.uniq hq⟩
theorem zu (d:det M≠0)(O:Pl p)(pq:Pl q)(J:Py M p u)(G:Py M q v):u=v↔p=q:=
 ⟨λe=>oM (by rw[<-oZ,pP];exact cR d) O pq J (e ▸ G),λe=>by subst e;exact J.uniq G⟩
theorem HF {c}(d:det M≠0)(h:Q7 M c f)(Y:Ld M p u):vm (bQ f) u=(0,0,0)↔vm (bQ c) p=(0,0,0):=by
 obtain⟨s,t,U,O,e⟩:=Pa h p;obtain⟨k,k0,i⟩:=Y.2;rw[i,zj]at e;have G:∀{j:Int}{v:Tr},j≠0->(sc j v=(0,0,0)↔v=(0,0,0)):=λ{j v} J=>by
  obtain⟨a,b,c⟩:=v;simp[sc];constructor;rintro⟨h1,h2,g⟩;exact⟨(Jq.mp h1).resolve_right J,(Jq.mp h2).resolve_right J,(Jq.mp g).resolve_right J⟩;simp_all
 rw[<-G k0,<-G U,e,G (O d)];constructor;intro y;exact QK λn=>qp (by rw[<-oZ,pP];exact cR d) n y;intro y;rw[y];simp[vm,dt3]
theorem ajO {N}{w l}(h:JT v w)(h':JT (vm N v) l)(G:Pl l):JT (vm N w) l:=by
 obtain⟨k,k0,rfl⟩:=h;rw[zj]at h';exact rW (s:=1) (by decide) k0 (by simp[sc]) _ G h'
theorem JZ.one (h:JZ M [s] [w] ws'):∃w',ws'=[w']/\Qf M s w w':=by
 cases h with
 | cons a t=>cases t with
  | nil=>exact⟨_,rfl,a⟩
theorem JZ.two {t v}(h:JZ M [s,t] [w,v] ws'):∃w' v',ws'=[w',v']/\Qf M s w w'/\Qf M t v v':=by
 cases h with
 | cons a t=>
  obtain⟨v',rfl,b⟩:=t.one;grind
theorem JZ.three {t r v u}(h:JZ M [s,t,r] [w,v,u] ws'):∃w' G u',ws'=[w',G,u']/\Qf M s w w'/\Qf M t v G/\Qf M r u u':=by
 cases h with
 | cons a t=>
  obtain⟨G,u',rfl,b⟩:=t.two;grind
theorem JZ.five {c}(dn:det M≠0)(h:JZ M ["spot", "spot", "spot", "spot", "spot"] [tw a,tw b,tw c,tw d,tw e] ws'):∃a' b' c' d' e',ws'=[tw a',tw b',tw c',tw d',tw e']/\XQ M a b c d e a' b' c' d' e':=by
 cases h with
 | cons h1 t=>cases t with
  | cons h2 t=>
   obtain⟨_,_,_,rfl,h3,h4,h5⟩:=t.three;obtain⟨a',rfl,pa,la⟩:=h1.sp;obtain⟨b',rfl,pb,lb⟩:=h2.sp;obtain⟨c',rfl,pc,lc⟩:=h3.sp;obtain⟨d',rfl,pd,ld⟩:=h4.sp;obtain⟨e',rfl,pe,le⟩:=h5.sp;refine⟨a',b',c',d',e',rfl,dn,?_,la,lb,lc,ld,le⟩;simp
   simp_all
theorem XQ.nd' {c a' b' c' d' e'}(L:XQ M a b c d e a' b' c' d' e')(G:[a',b',c',d',e'].Nodup):[a,b,c,d,e].Nodup:=by
 have n:∀{p q u v:Tr},Ld M p u->Ld M q v->u≠v->p≠q:=λhp O J e=>J (by subst e;exact hp.uniq O)
 simp at G|-
 obtain⟨⟨ab,k,ad,j⟩,⟨i,h,g⟩,⟨f,Y⟩,U⟩:=G;exact⟨⟨n L.ha L.hb ab,n L.ha L.hc k,n L.ha L.hd ad,n L.ha L.he j⟩,⟨n L.hb L.hc i,n L.hb L.hd h,n L.hb L.he g⟩,⟨n L.hc L.hd f,n L.hc L.he Y⟩,n L.hd L.he U⟩
theorem Vd (d:det M≠0)(G:Pl p):∃u,Ld M p u:=⟨_,dX (qp d G.ne)⟩
theorem aly (d:det M≠0)(G:Pl p):∃u,Py M p u:=⟨_,dX (qp (by rw[<-oZ,pP];exact cR d) G.ne)⟩
theorem Out.led (d:det M≠0){o}(O:Out x ws o)(L:JZ M (lV x) ws ws'):(o=Go->Out x ws' Go)/\∀w,o=Dn w->∃w',Out x ws' (Dn w')/\Qf M (c7 x) w w':=by
 have j1:c7 "join" = "line":=by decide
 have j2:c7 "meet" = "spot":=by decide
 have j3:c7 "curve" = "curve":=by decide
 have j4:c7 "about" = "line":=by decide
 have j5:c7 "pole" = "spot":=by decide
 have j6:c7 "other" = "spot":=by decide
 cases O with
 | @join p q m=>
  obtain⟨_,_,rfl,a,b⟩:=L.two;obtain⟨u,rfl,h,J⟩:=a.sp;obtain⟨v,rfl,pq,Y⟩:=b.sp;have U:u≠v:=λe=>m ((nJ d h pq J Y).mp e)
  obtain⟨y,z⟩:=vW J Y (cO h pq m) (cO J.1 Y.1 U);refine⟨nofun,λw e=>?_⟩;cases e;exact⟨_,.join U,.inr<|.inl ⟨j1,_,_,rfl,rfl,y,z⟩⟩
 | @joinN p=>
  obtain⟨_,_,rfl,a,b⟩:=L.two;obtain⟨u,rfl,h,J⟩:=a.sp;obtain⟨v,rfl,pq,Y⟩:=b.sp;obtain rfl:=J.uniq Y;exact⟨λ_=>.joinN,nofun⟩
 | @meet p q m=>
  obtain⟨_,_,rfl,a,b⟩:=L.two;obtain⟨u,rfl,h,J⟩:=a.ln;obtain⟨v,rfl,pq,Y⟩:=b.ln;have U:u≠v:=λe=>m ((zu d h pq J Y).mp e)
  obtain⟨y,z⟩:=alH d J Y (cO h pq m) (cO J.1 Y.1 U);refine⟨nofun,λw e=>?_⟩;cases e;exact⟨_,.meet U,.inl ⟨j2,_,_,rfl,rfl,y,z⟩⟩
 | @meetN p=>
  rw[afb]at L;obtain⟨_,_,rfl,a,b⟩:=L.two;obtain⟨u,rfl,h,J⟩:=a.ln;obtain⟨v,rfl,pq,Y⟩:=b.ln;obtain rfl:=J.uniq Y;exact⟨λ_=>.meetN,nofun⟩
 | @curve a b c d' e G=>
  obtain⟨a',b',c',dd,e',rfl,B⟩:=L.five d;have D:=G.nd;have f4:=Oh G;have Z:=Sy B.plain (B.nd D) (by rw[B.four D];exact f4);obtain⟨k,k0,e0,s⟩:=Pg G;obtain⟨k',P,R,E⟩:=Pg Z;obtain⟨f,A,W⟩:=adW (c:=abR a b c d' e) d (Sd s);have ef:=B.curve D f4 k0 e0 P R E A W;refine⟨nofun,λw e=>?_⟩;cases e;exact⟨_,.curve Z,.inr<|.inr ⟨j3,_,_,rfl,rfl,s,E,by rw[ef];exact W⟩⟩
 | @curveN a b c d' e z=>
  rw[aef]at L;obtain⟨a',b',c',dd,e',rfl,B⟩:=L.five d;refine⟨λ_=>.curveN λy=>z ?_,nofun⟩;have D:=B.nd' y.1;exact⟨D,by rw[<-B.four D];exact y.2⟩
 | @about C p V=>
  rw[aaN]at L;obtain⟨_,_,rfl,a,b⟩:=L.two;obtain⟨f,rfl,s,A,j⟩:=a.cv;obtain⟨u,rfl,h,J⟩:=b.sp;have n:vm (bQ f) u≠(0,0,0):=λz=>V ((HF d j J).mp z)
  have y:=dX V;have y':=dX n;obtain⟨K,X⟩:=aly d y.1;have e:=FP d j J y.2 y'.1 y'.2 X;refine⟨nofun,λw e'=>?_⟩;cases e'
  exact⟨_,.about n,.inr<|.inl ⟨j4,_,_,rfl,rfl,y.1,by rw[e];exact X⟩⟩
 | @aboutN C p z=>
  rw[aaN]at L;obtain⟨_,_,rfl,a,b⟩:=L.two;obtain⟨f,rfl,s,A,j⟩:=a.cv;obtain⟨u,rfl,h,J⟩:=b.sp;exact⟨λ_=>.aboutN<|(HF d j J).mpr z,nofun⟩
 | @pole C l F=>
  rw[aaO]at L;obtain⟨_,_,rfl,a,b⟩:=L.two;obtain⟨f,rfl,s,A,j⟩:=a.cv;obtain⟨k,rfl,I,Q⟩:=b.ln;have r:=(BR d j).mpr F;have y:=dX (qp (cR F) I.ne);have y':=dX (qp (cR r) Q.1.ne);obtain⟨u,J⟩:=Vd d y.1;have e1:JT (vm (bQ C) (pln (vm (adj (bQ C)) l))) l:=ajO y.2 (by rw[zbW];exact⟨_,F,rfl⟩) I;have n:vm (bQ f) u≠(0,0,0):=qp r J.1.ne;have z:=dX n;have e2:=FP d j J e1 z.1 z.2 Q;rw[e2]at z;have e3:=zbh r J.1 y'.1 z.2 y'.2;refine⟨nofun,λw e'=>?_⟩;cases e'
  exact⟨_,.pole r,.inl ⟨j5,_,_,rfl,rfl,y.1,by rw[e3];exact J⟩⟩
 | @poleN C l F=>
  rw[aaO]at L;obtain⟨_,_,rfl,a,b⟩:=L.two;obtain⟨f,rfl,s,A,j⟩:=a.cv;obtain⟨k,rfl,I,Q⟩:=b.ln;exact⟨λ_=>.poleN<|QK λz=>(BR d j).mp z F,nofun⟩
 | @other C p q m S T=>
  rw[aaF]at L;obtain⟨_,_,_,rfl,a,b,c⟩:=L.three;obtain⟨f,rfl,s,A,j⟩:=a.cv;obtain⟨u,rfl,h,J⟩:=b.sp;obtain⟨v,rfl,pq,Y⟩:=c.sp;have U:u≠v:=λe=>m ((nJ d h pq J Y).mp e)
  obtain⟨y,z⟩:=vW J Y (cO h pq m) (cO J.1 Y.1 U);have H:=(gG d j J).mpr S;have N:¬InC f (pln (crs u v)):=λi=>T ((Wd d j z).mp i)
  have g:=dX (cO h pq m);have g':=dX (cO J.1 Y.1 U);obtain⟨o,_⟩:=PK T S h pq g.1 m g.2;obtain⟨t,ht⟩:=Vd d o.1;have e:=Lj Y.1 U g'.2 (akk d j h J z ht o);refine⟨nofun,λw e'=>?_⟩;cases e'
  exact⟨_,.other U H N,.inl ⟨j6,_,_,rfl,rfl,o.1,by rw[<-e];exact ht⟩⟩
 | @otherN C p q z=>
  rw[aaF]at L;obtain⟨_,_,_,rfl,a,b,c⟩:=L.three;obtain⟨f,rfl,s,A,j⟩:=a.cv;obtain⟨u,rfl,h,J⟩:=b.sp;obtain⟨v,rfl,pq,Y⟩:=c.sp;refine⟨λ_=>.otherN ?_,nofun⟩;by_cases m:p=q
  exact .inl<|(nJ d h pq J Y).mpr m
  rcases z with z|z|z
  exact absurd z m;exact .inr<|.inl λy=>z<|(gG d j J).mp y
  have U:u≠v:=λe=>m ((nJ d h pq J Y).mp e)
  obtain⟨_,y⟩:=vW J Y (cO h pq m) (cO J.1 Y.1 U);exact .inr<|.inr<|(Wd d j y).mpr z
theorem Gd.nil {ps}:Gd ps wt sps []:=⟨T7 _,λi _ _ h=>absurd h (Te _),λi _ h=>absurd h (Te _),nofun⟩
theorem Gd.snoc {M ps}(D:Dr M ps wt)(G:Gd ps wt sps gold)(e:ps[gold.length]?=Dn (x,js))(tg:Tg (c7 x) (wt.getD gold.length 0) w)
  (k:x = "free"->∃t,sps[Lg ps gold.length]?=Dn t/\w=tw t/\Pl t/\Bx 30 t) (g:x ≠ "free"->∃ws,Told gold js ws/\Out x ws (Dn w)/\RV (lV x) (js.map λj=>wt.getD j 0) ws):Gd ps wt sps (gold++[w]):=by
 have l:=(Oi.mp e).1;have U:∀i,i<(gold++[w]).length->i<gold.length\/i=gold.length:=λi h=>by
  grind
 have J:∀i,i<gold.length->(gold++[w])[i]?=gold[i]?:=λi h=>Rx h
 have Y:(gold++[w])[gold.length]?=Dn w:=by rw[Sv (JL _),YS];rfl
 refine⟨by rw[Le,Tp];lia,λi O js' h e'=>?_,λi js' h e'=>?_,λi O js' h e' f=>?_⟩;rcases U i h with h|rfl
 obtain⟨w',a,b⟩:=G.tg i O js' h e';exact⟨w',J i h ▸ a,b⟩;rw[e]at e';cases e';exact⟨w,Y,tg⟩;rcases U i h with h|rfl
 obtain⟨t,a,b,c⟩:=G.fr i js' h e';exact⟨t,a,J i h ▸ b,c⟩;rw[e]at e';cases e';obtain⟨t,a,b,c⟩:=k rfl;exact⟨t,a,by rw[Y,b],c⟩;rcases U i h with h|rfl
 obtain⟨ws,w',a,b,c,d⟩:=G.mkd i O js' h e' f;exact⟨ws,w',qy (λj hj=>by have:=D.lt i O js' e' j hj;lia) a,J i h ▸ b,c,d⟩;rw[e]at e';cases e';obtain⟨ws,a,b,c⟩:=g f;exact⟨ws,w,qy (D.lt _ x js e) a,Y,b,c⟩
noncomputable def Cor (M:Mt)(ps:Ps)(gold gold':List W)(n:Nat):Prop:=∀(i:Nat) (s:Str),i<n->(gR ps)[i]?=Dn s->∃w w',gold[i]?=Dn w/\gold'[i]?=Dn w'/\Qf M s w w'
theorem Told.uniq (h:Told gold js ws)(h':Told gold js ws'):ws=ws':=(List.map_inj_right (λ_ _=>Ma)).mp (h.symm.trans h')
variable {gold':List W}
theorem wg {M}{ps}{gold gold' n}(C:Cor M ps gold gold' n):∀{js ss ws},(∀j∈js,j<n)->js.map (λj=>(gR ps)[j]?)=ss.map Dn->Told gold js ws->∃ws',Told gold' js ws'/\JZ M ss ws ws'
 | [],[],ws,_,_,t=>by
  obtain rfl:ws=[]:=by cases ws with
   | nil=>rfl
   | cons a l=>cases t
  exact⟨[],rfl,.nil⟩
 | j::js,s::ss,ws,hj,e,t=>by
  injection e with e1 e2
  unfold Told at t;cases ws with
  | nil=>cases t
  | cons w ws=>
   rw[Od]at t;injection t with O J
   obtain⟨ws',a,b⟩:=wg C (λj h=>hj j (RN _ h)) e2 J;obtain⟨U,w',G,e',l⟩:=C j s (hj j (T9 ..)) e1;rw[O]at G;cases G;refine⟨w'::ws',?_,.cons l b⟩;unfold Told at a|-
   simp_all
structure Led (M:Mt) (sps sps':List Tr):Prop where
 at':∀(i:Nat) (t:Tr),sps[i]?=Dn t->∃u,sps'[i]?=Dn u/\Ld M t u
 ok:∀u∈sps',Pl u/\Bx 30 u
variable {sps':List Tr}
theorem Gd.led {K M}(d:det M≠0){ps}{wt}{sps sps' gold}(D:Dr K ps wt)(G:Gd ps wt sps gold)(L:Led M sps sps'):∃gold',Gd ps wt sps' gold'/\gold'.length=gold.length/\Cor M ps gold gold' gold.length/\(S8 ps wt gold->S8 ps wt gold'):=by
 have srt:∀{i:Nat}{s:Str},(gR ps)[i]?=Dn s->∃x js,ps[i]?=Dn (x,js)/\s=c7 x:=λ{i s} h=>by
  unfold gR at h;rw[Ju]at h;obtain⟨⟨x,js⟩,e,rfl⟩:=Rv.mp h;exact⟨x,js,e,rfl⟩
 have k:∀{gold':List W},Gd ps wt sps' gold'->∀j s,j<gold'.length->(gR ps)[j]?=Dn s->∃w,gold'[j]?=Dn w/\Tg s (wt.getD j 0) w:=λ{gold'} U j s hj es=>by
  obtain⟨x,js,e,rfl⟩:=srt es;exact U.tg j x js hj e
 have m:∀n,n<=gold.length->∃gold',Gd ps wt sps' gold'/\gold'.length=n/\Cor M ps gold gold' n:=by
  intro n;induction n with
  | zero=>exact λ_=>⟨[],.nil,rfl,λi _ h=>absurd h (Te _)⟩
  | succ n P=>
   intro F;obtain⟨gold',U,Y,C⟩:=P (by lia);have le:=G.le;obtain⟨x,js,e⟩:∃x js,ps[n]?=Dn (x,js):=⟨_,_,MH (by lia)⟩
   have es:(gR ps)[n]?=Dn (c7 x):=by unfold gR;rw[Ju,e];rfl
   have o:∀w w',gold[n]?=Dn w->Gd ps wt sps' (gold'++[w'])->Qf M (c7 x) w w'->∃gold',Gd ps wt sps' gold'/\gold'.length=n+1/\Cor M ps gold gold' (n+1):=λw w' A g l=>
    ⟨gold'++[w'],g,by rw[Le,Y];rfl,λi s hi hs=>by
     by_cases c:i<n
     obtain⟨a,b,h1,h2,R⟩:=C i s c hs;exact⟨a,b,h1,by rw[Rx<|by lia];exact h2,R⟩;have:i=n:=by lia
     subst this;rw[es]at hs;cases hs;exact⟨w,w',A,by rw[Sv (by lia),Y,YS];rfl,l⟩⟩
   subst Y;by_cases q:x = "free"
   subst q;obtain⟨t,a,b,I,_⟩:=G.fr _ js F e;obtain⟨u,a',Q⟩:=L.at' _ t a;obtain⟨E,B⟩:=L.ok u (Qz a');have w1:wt.getD gold'.length 0=1:=by rw[(D.wt _ _ _ e).1,D.free e,List.map_nil,Ce]
   refine o _ (tw u) b (U.snoc D e (.inr ⟨by decide,by lia,u,rfl,E,by rw[w1];exact B⟩) (λ_=>⟨u,a',rfl,E,B⟩) λz=>absurd rfl z)<|.inl ⟨by decide,t,u,rfl,rfl,I,Q⟩
   obtain⟨ws,w,td,A,O,ts⟩:=G.mkd _ x js F e q;obtain⟨ws',J,y⟩:=wg C (D.lt _ x js e) (D.ss _ x js e) td;obtain⟨w',H,l⟩:=(O.led d y).2 w rfl;obtain⟨r,v,p⟩:=Eb (wt:=wt) (gold:=gold') (k U) (D.lt _ x js e) (D.ss _ x js e);obtain rfl:=J.uniq v;have tg:=H.tg p;rw[<-(D.wt _ x js e).1]at tg;exact o w w' A (U.snoc D e tg (λz=>absurd z q) λ_=>⟨ws',J,H,p⟩) l
 obtain⟨gold',U,Y,C⟩:=m gold.length (JL _);refine⟨gold',U,Y,C,λf=>?_⟩;obtain⟨x,js,ws,e,N,td,O,ts⟩:=f;obtain⟨ws',J,y⟩:=wg C (D.lt _ x js e) (D.ss _ x js e) td;obtain⟨r,v,p⟩:=Eb (wt:=wt) (gold:=gold') (k U) (js:=js) (by rw[Y];exact D.lt _ x js e) (D.ss _ x js e);obtain rfl:=J.uniq v;exact⟨x,js,ws',by rw[Y];exact e,N,J,(O.led d y).1 rfl,p⟩
theorem akL {c}(h:Q7 M c f):∃s t,s≠0/\t≠0/\sM s (bQ f)=sM t (mm (tr (adj M)) (mm (bQ c) (adj M))):=by
 obtain⟨j,k,O,k0,e⟩:=h;have e2:kC (2*j) f=kC k (q6 (mm (tr (adj M)) (mm (bQ c) (adj M)))):=v8 λx=>by
  rw[QL];grind
 have J:=W5 (adj M) c;generalize mm _ _=T at *;have tk:∀(a:Int) (g:C6),bQ (kC a g)=sM a (bQ g):=λa g=>by
  simp only[bQ,kC,sM,sc];grind
 have G:bQ (q6 T)=sM 2 T:=by
  simp only[tr,Yo]at J;simp only[bQ,q6,sM,sc];lia
 refine⟨2*j,k*2,by lia,by lia,?_⟩;rw[<-tk,e2,tk,G];simp only[sM,sc,Yo];grind
theorem amg {A B:Mt}(h1:vm A (1,0,0)=vm B (1,0,0))(h2:vm A (0,1,0)=vm B (0,1,0))(G:vm A (0,0,1)=vm B (0,0,1)):A=B:=by
 simp[vm,dt3]at *;grind
theorem Qp (M N):K6 (mm M N)=mm (K6 M) (K6 N):=by
 have k:∀p q,vm (K6 (mm M N)) (crs p q)=vm (mm _ _) (crs p q):=λp q=>by rw[<-rH,j7,j7,rH,rH,j7]
 exact amg (k (0,1,0) (0,0,1)) (k (0,0,1) (1,0,0))<|k (1,0,0) (0,1,0)
theorem akA (M):K6 (tr M)=tr (K6 M):=by
 simp only[K6,tr,crs,Yo];grind
theorem ajz {c}{l k}(d:det M≠0)(h:Q7 M c f)(hl:Py M l k):dt3 k (vm (K6 (bQ f)) k)=0↔dt3 l (vm (K6 (bQ c)) l)=0:=by
 obtain⟨s,t,J,G,e⟩:=akL h;have e1:=congrArg K6 e;rw[V4,V4,Qp,Qp]at e1;rw[<-akC hl.2];have e2:∀x,(s*s)*dt3 x (vm (K6 (bQ f)) x)=(t*t)*dt3 (vm (K6 (adj M)) x) (vm (K6 (bQ c)) (vm (K6 (adj M)) x)):=λx=>by
  have:=congrArg (λN=>dt3 x (vm N x)) e1
  simp only[qb,dG,j7,akA]at this;rw[<-rZ x (tr _),aeg]at this;grind
 have e3:vm (K6 (adj M)) (vm (K6 M) l)=sc (det (adj M)) l:=by
  rw[<-oZ (adj M),<-oZ M,<-j7,<-SX,vD];show vm (sM _ Xc) l=_;rw[qb,wA]
 have e4:=e2 (vm (K6 M) l);rw[e3,zj,adb]at e4;have O:=cR d;constructor;intro z;rw[z,RM]at e4;exact(Jq.mp<|(Jq.mp e4.symm).resolve_left (O6 G G)).resolve_left (O6 O O);intro z;rw[z,RM,RM]at e4;exact(Jq.mp e4).resolve_left (O6 J J)
theorem Pr {c g}(U:K4 (Ja f))(O:K4 (Ja g))(h:Q7 M c f)(h':Q7 M c g):f=g:=by
 obtain⟨j,k,a,k0,e⟩:=h;obtain⟨b,Y,J,G,e'⟩:=h';have e2:kC (Y*j) f=kC (k*b) g:=v8 λx=>by
  grind
 exact xQ U O (O6 G a) (O6 k0 J) e2
theorem akH {c c'}(d:det M≠0)(U:K4 (Ja c))(G:K4 (Ja c'))(h:Q7 M c f)(h':Q7 M c' f):c=c':=by
 obtain⟨j,k,a,k0,e⟩:=h;obtain⟨b,Y,O,J,e'⟩:=h';have e2:kC (b*k) c=kC (j*Y) c':=v8 λx=>by
  have h1:=e (vm M x);have h2:=e' (vm M x);rw[o9,j9]at h1 h2;exact Int.eq_of_mul_eq_mul_left (O6 d d)<|by grind
 exact xQ U G (O6 O k0) (O6 a J) e2
theorem Qf.same (d:det M≠0){a b a' b':W}(ha:Qf M s a a')(U:Qf M s b b'):a'=b'↔a=b:=by
 rcases ha with⟨rfl,p,u,rfl,rfl,J,O⟩|⟨rfl,p,u,rfl,rfl,J,O⟩|⟨rfl,c,f,rfl,rfl,i,g,Y⟩
 obtain⟨q,v,rfl,rfl,pq,G⟩:∃q v:Tr,b=tw q/\b'=tw v/\Pl q/\Ld M q v:=by
  rcases U with⟨_,h⟩|⟨z,_⟩|⟨z,_⟩
  exact h;exact nomatch z
  exact absurd z<|by decide
 have:=nJ d J pq O G
 exact⟨λe=>congrArg tw<|this.mp<|nY e,λe=>congrArg tw<|this.mpr<|nY e⟩;obtain⟨q,v,rfl,rfl,pq,G⟩:∃q v:Tr,b=tw q/\b'=tw v/\Pl q/\Py M q v:=by
  rcases U with⟨z,_⟩|⟨_,h⟩|⟨z,_⟩
  exact absurd z<|by decide
  exact h;exact nomatch z
 have:=zu d J pq O G
 exact⟨λe=>congrArg tw<|this.mp<|nY e,λe=>congrArg tw<|this.mpr<|nY e⟩;obtain⟨q,v,rfl,rfl,pq,pv,G⟩:∃q v:C6,b=Je q/\b'=Je v/\K4 (Ja q)/\K4 (Ja v)/\Q7 M q v:=by
  rcases U with⟨z,_⟩|⟨z,_⟩|⟨_,h⟩
  exact nomatch z
  exact nomatch z
  exact h
 constructor;intro e;obtain rfl:=ug e;exact congrArg Je<|akH d i pq Y G
 intro e;obtain rfl:=ug e;exact congrArg Je<|Pr g pv Y G
theorem aam {r w}(d:det M≠0)(O:Py M p u)(J:Py M q v)(G:Py M r w):dt3 (crs u v) w=0↔dt3 (crs p q) r=0:=pG (by rw[<-oZ,pP];exact cR d) O J G
noncomputable def aeE (c0:AP):Prop:=∀{h:Gh}{M:Mt}{p:Tr}{m n:Nat}{Q:WK}{E:Bm},m<=100->n<=2000->Kw m M->Bx n p->det M≠0->Pl p->(∀u,Ld M p u->Bx (m+n+2) u->Q (tw u) h)->c0 [mw M,tw p] h Q E
theorem adi {pl tt}(hpl:zf pl)(htt:CG tt):aeE (adf pl tt):=by
 intro h M p m n Q E hm hn sM sp d pp k;exact htt (m:=m+n) (by lia) (sM.mono<|by lia) (sp.mono<|by lia)<|hpl.tr (.inr rfl) (qp d pp.ne) (qd sM sp) (by lia) λt pt par st=>k t ⟨pt,par⟩ st
noncomputable def Ug (c0:AP):Prop:=∀{h:Gh}{M:Mt}{p:Tr}{m n:Nat}{Q:WK}{E:Bm},m<=100->n<=2000->Kw m M->Bx n p->det M≠0->Pl p->(∀u,Py M p u->Bx (2*m+n+3) u->Q (tw u) h)->c0 [mw M,tw p] h Q E
theorem akV {Y tt}(U:zf Y)(O:CG tt)(J:jR tu):Ug (uV Y tt tu):=by
 intro h M p m n Q E e c sM sp d b k;refine J true (by lia) sM<|O (m:=2*m+1+n) (by lia) ((tE sM).mono (by lia)) (sp.mono<|by lia) ?_
 exact U.tr (.inr rfl) (qp (by rw[<-oZ,pP];exact cR d) b.ne) ((qd (tE sM) sp).mono (by lia)) (by lia) λt a G st=>k t ⟨a,G⟩ st
noncomputable def agk (mr c0:AP):Prop:=∀{rws sps gold:List W}{h:Gh}{Q:WK}{E:Bm},JD mr rws sps gold->(gold.length=rws.length->Q (.lst gold) h)->(∀r,rws[gold.length]?=Dn r->Rf mr gold r/\∀h',Kp h h'->Q (.int (gold.length:Nat)) h')->c0 [.lst rws,.lst sps] h Q E
theorem agg {mr G}(a:ahu mr G):agk mr (vC G):=by
 intro rws sps gold h Q E P Y O;refine mK rfl (σ:=[Dn _,Dn _,Go,Go]) rfl<|a P (λel=>(nV<|cW<|dB<|aA rfl<|Y el)) λr b=>?_
 obtain⟨J,k⟩:=O r b;exact⟨J,λh' U=>(k h' U)⟩
noncomputable def ahe (c0:AP):Prop:=∀{h:Gh}{w:W}{ns:List Int}{m:Nat}{Q:WK}{E:Bm},Ints w ns->(∀n∈ns,Sm m n)->m<=8000->ns.length<=1000 ->
 (NZ ns->∀(ms:List Int) (k:Int),k≠0->ns=ms.map (· * k)->K4 ms->(∀n∈ms,Sm m n)->Q (.tup (ms.map .int)) h)->(¬NZ ns->E ⟨"Nothing",[]⟩ h)->c0 [w] h Q E
theorem aaA (h:¬NZ ns):gL ns=0:=by
 have O:∀n∈ns,n=0:=λn G=>by
  by_cases e:n=0
  exact e;exact absurd ⟨n,G,e⟩ h
 have:∀l:List Int,(∀n∈l,n=0)->l.foldl gF 0=0:=by
  intro l;induction l with
  | nil=>intro _;rfl
  | cons a l J=>
   intro hl;rw[hl a (by simp)];exact J λn G=>hl n<|RN _ G
 exact this ns O
theorem zbG {dv en}(hdv:rY dv)(hen:Yu en):ahe (Ci dv en):=by
 intro h w ns m Q E hw hs hm hl q qx;by_cases z:NZ ns
 exact zp hdv hen hw z hs hm hl<|q z
 refine hdv hw ?_;refine mY (by rw[aaA z];rfl) ?_;exact qx z
noncomputable def NoM (M:Mt):Prop:=¬NZ (ml M)
noncomputable def ag2 (c0:AP):Prop:=∀{h:Gh}{M:Mt}{m:Nat}{Q:WK}{E:Bm}(b:Bool),m<=4000->Kw m M->(det M≠0->∀N,PlM N->Wn M N->Kw m N->Q (mw N) h)->(NoM M->E ⟨"Nothing",[]⟩ h)->(¬NoM M->det M=0->E ⟨"NoMap",[]⟩ h)->c0 [Wk b M] h Q E
theorem adZ (b)(M):Ints (Wk b M) (ml M):=by
 cases b;exact .inl rfl;exact .inr rfl
theorem aa8 {c Y}(U:ahe c)(hsz:FZ Y):ag2 (Hf c Y):=by
 intro h M m Q E b f O k k1 k2;refine U (adZ b M) O.all (by lia) (by show 9<=1000;decide) (λnz ms j e g d G=>?_) λz=>?_;obtain⟨N,rfl,i⟩:=Va g;have a:Kw m N:=by
  refine⟨⟨G _ ?_,G _ ?_,G _ ?_⟩,⟨G _ ?_,G _ ?_,G _ ?_⟩,G _ ?_,G _ ?_,G _ ?_⟩<;>simp[ml,tl]
 have J:Wn M N:=⟨j,e,i⟩
 exact hsz true f a<|Ir (λz=>(k2 (λq=>q nz)<|QK λq=>J.det.mp q z)) λz=>(k (J.det.mpr z) N d J a)
 exact k1 z
noncomputable def M0:Mt:=((0,1,0),(1,0,0),(1,1,1))
noncomputable def ag3 (c0:AP):Prop:=∀{h:Gh}{b:Nat}{Q:WK}{E:Bm},LQ h b->b<h.nx->(∀M h',det M≠0->Kw 2 M->LQ h' b->Gr b h h'->Q (mw M) h')->c0 [.loc b] h Q E
theorem nine (h:ns.length=9):∃M,ns=ml M:=by
 match ns,h with
 | [a,b,c,d,e,f,g,i,j],_=>exact⟨((a,b,c),(d,e,f),(g,i,j)),rfl⟩
theorem adz {mo f:AP}(c:ag2 mo)(e:uR f):ag3 (Kl mo f):=by
 intro h b Q E s z k;refine mK rfl (σ:=[Dn<|.loc b,Go,Go]) rfl ?_;refine NK (j:=9) (λ_=>rfl) (by decide) (by decide) (by decide) (λi acc h'=>∃ns:List Int,acc=ns.map W.int/\ns.length=i/\(∀n∈ns,Sm 2 n)/\LQ h' b/\Gr b h h') ?_ ?_ ⟨[],rfl,rfl,λn J=>absurd J<|by simp,s,JL _,λ_ _ _=>rfl⟩;rintro i acc g M t hi ⟨ns,rfl,hl,hs,U,O⟩;refine⟨[.int (i:Int)],rfl,?_⟩;refine e U (by decide) (by unfold Sm;decide) λd v y x u q=>?_;refine dW<|Pj<|t _ _ ⟨ns++[d-2],by rw[R9];rfl,by rw[Le,hl];rfl,λn J=>?_,u,O.trans q.gr⟩
 rcases Tf.mp J with J|J
 exact hs n J;rw[Ri.mp J];unfold Sm;lia
 ·rintro acc g ⟨ns,rfl,hl,hs,U,O⟩;obtain⟨M,rfl⟩:=nine (show ns.length=9 from hl);have Y:Kw 2 M:=by
   refine⟨⟨hs _ ?_,hs _ ?_,hs _ ?_⟩,⟨hs _ ?_,hs _ ?_,hs _ ?_⟩,⟨hs _ ?_,hs _ ?_,hs _ ?_⟩⟩<;>simp[ml,tl]
  refine nV<|cW ?_
  have G:∀{l:Option W},(bF (Ec (aj (mC (.int 0)) (aj (mC (.int 1)) (aj (mC (.int 0)) (aj (mC (.int 1)) (aj (mC (.int 0)) (aj (mC (.int 0)) (aj (mC (.int 1)) (aj (mC (.int 1)) (aj (mC (.int 1)) aG)))))))))) (kI 2)) {nx:=nC mo f E {nx:=λ_ h'=>Q .non h',rt:=λw h'=>Q w h'},rt:=λw h'=>Q w h'} [Dn (.loc b),Dn (Wk false M),l] g:=by
   intro l;unfold nC;rfl'
   exact k M0 g (by decide) (by simp only[Kw,Bx,Sm,M0];decide) U O
  refine c (m:=2) false (by decide) Y (λd N _ a o=>?_) (λ_=>?_) λ_ _=>?_;refine nV<|cW ?_
  unfold nC;exact dB<|aA rfl<|k N g (a.det.mp d) o U O
  show K8 (Jt "Nothing" "NoMap"||Jt "Nothing" "Nothing") _ False;rw[show(Jt "Nothing" "NoMap"||Jt "Nothing" "Nothing")=true by decide +kernel];exact dg G;show K8 (Jt "NoMap" "NoMap"||Jt "NoMap" "Nothing") _ False;rw[show(Jt "NoMap" "NoMap"||Jt "NoMap" "Nothing")=true by decide +kernel];exact dg G
noncomputable def ahn (c0:AP):Prop:=∀{h:Gh}{ps:Ps}{Q:WK}{E:Bm},ps.length<=100->(∀us:List W,us.length=Lg ps ps.length->Q (.lst us) h)->c0 [.lst (aW ps)] h Q E
theorem abX:ahn tW:=by
 intro h ps Q E hl k;refine mK rfl rfl<|dB<|qu<|rB<|aB<|fZ<|aB<|aA rfl<|aL<|fH rfl<|aL ?_
 rw[cA];refine N6 (by lia) ?_;refine uD (by rw[ae1];exact Yc.mpr (by lia)) ?_;refine cU (λi acc h'=>h'=h/\acc.length=Lg ps i) ?_ ?_ ⟨rfl,rfl⟩;rintro i u acc h' N O e ⟨rfl,G⟩;rw[Ju]at e;obtain⟨j,Y,rfl⟩:=Rv.mp e;obtain⟨U,J⟩:=lF Y;rw[YW]at U;subst U;obtain⟨x,js,ep⟩:∃x js,ps[j]?=Dn (x,js):=⟨_,_,MH J⟩
 have fs:=mj ep;refine⟨[.int _],rfl,?_⟩;refine bR<|bA<|bA<|bA<|aA rfl<|aA rfl<|d8 rfl (bM (by unfold aW;rw[Ju,ep];rfl))<|dW<|Ks<|dW<|nQ<|qH ?_
 by_cases c:x = "free"
 rw[if_pos c]at fs;rw[U6 c];exact dg<|aA rfl<|O _ _ ⟨rfl,by rw[Le,G,fs];rfl⟩
 rw[if_neg c]at fs;rw[Av c];exact yJ<|O _ _ ⟨rfl,by rw[G,fs];rfl⟩
 rintro acc h' ⟨rfl,G⟩;rw[ae1]at G;exact V3<|k acc G
noncomputable def kB (ts:List Tr):Bool:=decide ts.Nodup&&!abY ts
theorem zbk (us)(k:Nat):J4 us Go (Dn (k))=us.take k:=by
 unfold J4;rw[HT.M5,HT.Fj];grind
theorem sX {k}(x:Q (.lst (us.take k)) h):yd (.lst us) Go (Dn (k)) h Q:=by
 show Q _ h
 rwa[zbk]
noncomputable def ahc (c0:AP):Prop:=∀{h:Gh}{ps:Ps}{ts:List Tr}{Q:WK}{E:Bm},ps.length<=100->ts.length=Lg ps ps.length->(∀t∈ts,Pl t/\Bx 30 t)->Q (.bl (kB (ts.take 4))) h->c0 [.lst (aW ps),.lst (ts.map tw)] h Q E
theorem afe {a fr}(U:Qe a)(J:ahy ho)(O:ahn fr):ahc (pZ a ho fr):=by
 intro h ps ts Q E hl d hs q;refine mK rfl rfl<|bw<|bO<|tU<|aA rfl<|cJ<|fK<|fZ<|aB<|tU<|aZ<|aB<|aA rfl<|aL<|O hl λus c=>?_
 refine cJ<|fK<|dW<|Kr<|sX<|aL<|fH rfl<|Kr<|sX ?_
 have e4:(ts.map tw).take (us.take 4).length=(ts.take 4).map tw:=by
  rw[List.map_take,Ti,c,<-d];by_cases e:4<=ts.length
  rw[Nat.min_eq_left e];rw[Nat.min_eq_right (by lia),uE (by rw[Ik];exact JL _),uE (by rw[Ik];lia)]
 rw[e4];have f:(ts.take 4).length<=4:=by rw[Ti];lia
 have b:∀t∈ts.take 4,Pl t/\Bx 30 t:=λt ht=>hs t (List.mem_of_mem_take ht)
 unfold kB at q;generalize ts.take 4=G at *;refine U (.inl rfl) (by lia)<|agi<|aho ?_
 cases Y:decide G.Nodup with
 | false=>
  rw[Y]at q;exact Tc q
 | true=>
  rw[Y]at q;refine Yk<|Oe<|aZ<|aB<|aA rfl<|aB<|dW<|aL ?_
  exact J (by decide) (.inl rfl) (by lia) b<|agi q
theorem adD (d:det M≠0){us}(p:∀t∈ts,Pl t)(hl:us.length=ts.length)(h:∀(i:Nat) (t),ts[i]?=Dn t->∃u,us[i]?=Dn u/\Ld M t u):kB us=kB ts:=by
 have g:∀i,i<ts.length->Pl (gt ts i)/\Ld M (gt ts i) (gt us i):=λi hi=>by
  have e:=MH hi;obtain⟨u,n,o⟩:=h i _ e;have e1:gt ts i=ts[i]:=by unfold gt;rw[Ss,e];rfl
  have e2:gt us i=u:=by unfold gt;rw[Ss,n];rfl
  grind
 have G:∀{l:List Tr}(i:Nat) _,l[i]=gt l i:=λ{l} i hi=>by unfold gt;rw[Ss,MH hi];rfl
 have k:us.Nodup↔ts.Nodup:=by
  unfold List.Nodup;rw[List.pairwise_iff_getElem,List.pairwise_iff_getElem];constructor;intro z i j hi hj U e;rw[G,G]at e;have O:=(g i hi).2;rw[e]at O;exact z i j (by lia) (by lia) U (by rw[G,G];exact O.uniq (g j hj).2);intro z i j hi hj U e;rw[G,G]at e;obtain⟨f,O⟩:=g i (by lia);obtain⟨pb,m⟩:=g j (by lia);exact z i j (by lia) (by lia) U (by rw[G,G];exact oM d f pb O (e ▸ m))
 have li:yg us↔yg ts:=by
  unfold yg;rw[hl];constructor;rintro⟨a,b,c,h1,h2,J,Y⟩;exact⟨a,b,c,h1,h2,J,(pG d (g a<|by lia).2 (g b<|by lia).2 (g c J).2).mp Y⟩;rintro⟨a,b,c,h1,h2,J,Y⟩;exact⟨a,b,c,h1,h2,J,(pG d (g a<|by lia).2 (g b<|by lia).2 (g c J).2).mpr Y⟩
 unfold kB;congr 1
 exact decide_eq_decide.mpr k;by_cases c:yg ts
 rw[Px c,Px (li.mpr c)];rw[Nh c,Nh λz=>c (li.mp z)]
theorem Wh {d}(h0:0<=d)(h1:d<(ws.length:Int))(k:∀w∈ws,Q w h):BZ (.lst ws) (.int d) h Q:=by
 obtain⟨n,rfl⟩:=oJ h0;have G:n<ws.length:=by lia
 exact d8 rfl (bM<|MH G)<|k _<|YH G
theorem acv {r}(G:∀g R,mDs r σ g R=R ws g)(e:mkD r ws []=kvs)(x:∀g,g.c h.nx=Dn (.dct kvs)->(∀m,m≠h.nx->g.c m=h.c m)->g.nx=h.nx+1->Q (.loc h.nx) g):PB r σ h Q:=by
 unfold PB;rw[G,yp,e];exact x _ (jL _ _ _) (λm G=>(gk G).trans (sS G)) rfl
theorem Df {kvs' N}(e:h.c n=Dn (.dct kvs))(G:kvs.length+1<=1000)(p:Wz kvs (.inr x) w=kvs')(k:∀g,g.c n=Dn (.dct kvs')->(∀m,m≠n->g.c m=h.c m)->g.nx=h.nx->N g):p8 (.loc n) (.str x) w h N:=by
 show(match h.c n with
  | some (.dct kvs)=>fV _ _
  | _=>False)
 rw[e];dsimp only;exact p ▸ fV.mk (Jz G (by decide:1000<=JN)) (k _ (jL _ _ _) (λ_ e=>gk e) rfl)
theorem Wa (e:h.c n=Dn (.dct kvs))(v:lA kvs (.inr x)=Dn w)(k:Q w h):TQ (.loc n) (.str x) h Q:=by
 show(match h.c n with
  | some (.dct kvs)=>(match lA kvs _ with
   | some w=>Q w h
   | none=>False)
  | _=>False)
 simp_all
noncomputable def cws:List Str:=["same", "on", "row", "bunch", "touch", "parted"]
noncomputable def W7 (s z x:Str):List Str:=if x = "same" then[s,s]else if x = "on" then["spot",z]else if x = "row" then["spot", "spot", "spot"]else if x = "bunch" then["line", "line", "line"]else if x = "touch" then["line", "curve"]else["curve"]
noncomputable def clT (s z:Str):List (Key×W):=[(.inr "same",.lst [.str s,.str s]),(.inr "row",.lst [.str "spot",.str "spot",.str "spot"]),(.inr "bunch",.lst [.str "line",.str "line",.str "line"]),(.inr "on",.lst [.str "spot",.str z]),(.inr "touch",.lst [.str "line",.str "curve"]),(.inr "parted",.lst [.str "curve"])]
theorem M8 {z}(G:x∈cws):lA (clT s z) (.inr x)=Dn (.lst ((W7 s z x).map .str)):=by
 unfold cws at G;simp at G;rcases G with e|e|e|e|e|e<;>subst e<;>rfl
theorem CW {z}:(W7 s z x).length<=24:=by
 unfold W7;grind
inductive Du:Str->List Str->Prop
 | same {s:Str}:Du "same" [s,s]
 | onl:Du "on" ["spot", "line"]
 | onc:Du "on" ["spot", "curve"]
 | row:Du "row" ["spot", "spot", "spot"]
 | bunch:Du "bunch" ["line", "line", "line"]
 | touch:Du "touch" ["line", "curve"]
 | parted:Du "parted" ["curve"]
theorem aaT {z:Str}(G:x∈cws)(J:z = "line"\/z = "curve"):Du x (W7 s z x):=by
 unfold cws at G;simp at G;rcases G with e|e|e|e|e|e
 subst e;exact .same;subst e;rcases J with rfl|rfl
 exact .onl;exact .onc;subst e;exact .row;subst e;exact .bunch;subst e;exact .touch;subst e;exact .parted
theorem aaX (hs:uH c1)(J:∀r∈rws,Row r)(hl:rws.length<=24)(q:Q (.lst (rws.map λr=>.str (srt r))) h):
  lcK Jr [] gU (aF c1 E (aj (ao 0) aG)) σ Q ⟨rws,Go⟩ h:=by
 refine fV.mk (Jz hl<|by decide)<|cU (λi acc h'=>h'=h/\acc=(rws.take i).map λr=>.str<|srt r) ?_ (by simp_all) ⟨rfl,rfl⟩
 rintro i w acc h' N O G ⟨rfl,rfl⟩;refine⟨[w],rfl,gj<|dg<|aZ<|aB<|aA rfl<|aL<|(J w<|Qz G).sort hs (O _ _ ⟨rfl,?_⟩)⟩;rw[Nj,G,R9];rfl
theorem abe {c2}(hp:Jh c2){b L z}{a2 a4}{N0 B0 C0 R0}(hb:LQ h b)(hL:h.c L=Dn (.dct (clT s z)))
  (hr:∀r∈rws,Row r) (hl:rws.length<=24) (hx:x∈cws) (hs:∀s'∈W7 s z x,∃r∈rws,srt r=s') (k:∀(js:List Nat) h',js.map (λj=>(rws.map srt)[j]?)=(W7 s z x).map Dn->LQ h' b->Gr b h h'->R0 (.tup (.str x::js.map λj:Nat=>W.int (j))) h') :
  lB c0 c1 c2 E ⟨N0,R0,B0,C0⟩ [Dn (.loc b),Dn (.lst rws),a2,Dn (.str x),a4,Dn (.loc L)] h:=by
 unfold lB;rfl'
 refine Wa hL (M8 hx) ?_;refine fV.mk (by rw[Ik];exact Jz CW (by decide)) ?_;refine cU (λi acc h'=>LQ h' b/\Tv b h h'/\∃js:List Nat,acc=(js.map λj:Nat=>W.int (j:Int))/\js.length=i/\js.map (λj=>(rws.map srt)[j]?)=((W7 s z x).take i).map Dn) ?_ ?_ ⟨hb,⟨rfl,λ_ _=>rfl⟩,[],rfl,rfl,rfl⟩;rintro i w acc h' N hN e ⟨hb',o',js,rfl,el,em⟩;rw[Ju]at e;obtain⟨u,eu,rfl⟩:=Rv.mp e;refine⟨[.str u],rfl,gj<|dg<|aZ<|aB<|aA rfl<|aB<|aA rfl<|aB<|aA rfl<|aL ?_ ⟩;refine hp hb' rfl hr hl (hs u<|Qz eu) λj h3 jo hb3 o3=>?_;refine hN _ _ ⟨hb3,⟨o3.1.trans o'.1,λm hm=>(o3.2 m hm).trans (o'.2 m hm)⟩,js++[j],by rw[R9];rfl,by rw[Le,el];rfl,?_⟩;rw[R9,em,Nj,eu,R9];show _++[(rws.map srt)[j]?]=_;rw[jo];rfl;rintro acc h' ⟨hb',o',js,rfl,el,em⟩;rw[Ik]at el em;rw[QG]at em;have aos:=el ▸ CW;refine WR (by rw[Ik];show 1+js.length<=1000;lia) ?_;exact k js h' em hb' o'.gr
noncomputable def cw8:List Str:=["same", "on", "row", "bunch", "touch", "parted", "row", "on"]
theorem abq (h:x∈cw8):x∈cws:=by
 unfold cw8 at h;unfold cws;simp at h|-
 grind
noncomputable def ClX (c0:AP):Prop:=∀{h:Gh}{b:Nat}{rws:List W}{Q:WK}{E:Bm},LQ h b->b<h.nx->(∀r∈rws,Row r)->1<=rws.length->rws.length<=24 ->
 (∀x G (js:List Nat) h',Du x G->js.map (λj=>(rws.map srt)[j]?)=G.map Dn->LQ h' b->Gr b h h'->Q (.tup (.str x::js.map λj:Nat=>W.int (j:Int))) h')->c0 [.loc b,.lst rws] h Q E
theorem zbE {c2}(D:uR c0)(hs:uH c1)(hp:Jh c2):ClX (qK c0 c1 c2):=by
 intro h b rws Q E M bl B h1 Y k;unfold qK;rfl'
 refine aaX hs B Y ?_;rfl'
 refine D M (by decide) (by unfold Sm;decide) λd h1' d0 d1 K o1=>?_;refine Wh (ws:=cw8.map .str) d0 d1 λw c=>?_;obtain⟨x,hx,rfl⟩:=Nm.mp c;replace hx:=abq hx;rfl'
 refine D K (by rw[Ik];lia) (by rw[Ik];exact Oz (by lia) (by lia)) λe h2 e0 e1 I o2=>?_;refine Wh e0 e1 λw c=>?_;obtain⟨r,A,rfl⟩:=Nm.mp c;generalize es:srt r=s;have g2:Gr b h h2:=o1.gr.trans o2.gr;have bl2:=Ke bl g2.1;rfl'
 refine acv (ws:=[.lst [.str s,.str s],.lst [.str "spot",.str "spot",.str "spot"],.lst [.str "line",.str "line",.str "line"]]) (kvs:=(clT s s).take 3) (λg R=>rfl) rfl λg3 g3c u Z=>?_;have G:∀{ga gb:Gh}{m:Nat},(∀j,j≠m->gb.c j=ga.c j)->b≠m->LQ ga b->LQ gb b:=λo nb M=>by
  obtain⟨p,q,e,r⟩:=M;exact⟨p,q,(o b nb).trans e,r⟩
 have v:b≠h2.nx:=KZ bl2;have H:LQ g3 b:=G u v I;have X:Gr b h g3:=g2.trans ⟨by rw[Z];exact Xk _,λm y _=>u m (KZ y)⟩;have f:h.nx<=h2.nx:=g2.1;generalize h2.nx=L at *;rfl'
 refine D H (by decide) (by unfold Sm;decide) λd4 h4 d40 d41 F o4=>?_;have N:h4.c L=Dn (.dct ((clT s s).take 3)):=(o4.2 L (LI v)).trans g3c;have t:Gr b h h4:=X.trans o4.gr;refine Wh (ws:=[.str "line",.str "curve"]) d40 d41 λw c=>?_;obtain⟨z,hz,rfl⟩:∃z:Str,(z = "line"\/z = "curve")/\w=.str z:=by
  simp only[ML,RQ,or_false]at c;rcases c with rfl|rfl
  exact⟨"line",.inl rfl,rfl⟩;exact⟨"curve",.inr rfl,rfl⟩
 rfl'
 refine Df N (S6 rfl) (kvs':=(clT s z).take 4) rfl λg5 W n V=>?_;rfl'
 refine Df W (S6 rfl) (kvs':=(clT s z).take 5) rfl λg6 T l S=>?_;rfl'
 refine Df T (S6 rfl) (kvs':=clT s z) rfl λg7 a i P=>?_;have d:LQ g7 b:=G i v (G l v (G n v F));have g:Gr b h g7:=⟨by rw[P,S,V];exact t.1,λm y C=>by
  have ml:m≠L:=KZ (Ke y f);exact(i m ml).trans ((l m ml).trans ((n m ml).trans (t.2 m y C)))⟩
 ·rfl'
  refine Wa a (M8 hx) ?_;rfl'
  refine abH (ss:=rws.map srt) (by rw[X4];rfl) CW λls lh ll=>?_;rfl'
  rw[Ik];refine Ir (λe'=>?_)<|λe'=>?_
  ·rfl'
   refine abe (c0:=c0) (c1:=c1) (x := "same") hp d a B Y (by decide) (λs' O=>?_) λjs h' em U g'=>?_;have h0:s'∈[s,s]:=O;simp only[ML,RQ,or_false,or_self]at h0;rw[h0];exact⟨r,A,es⟩;exact k _ _ js h' (aaT (s:=s) (z:=z) (by decide) hz) em U<|g.trans g'
  ·have el:ls=[]:=List.length_eq_zero_iff.mp (by lia);rfl'
   refine abe (c0:=c0) (c1:=c1) (x:=x) hp d a B Y hx (λs' O=>?_) λjs h' em U g'=>?_;obtain⟨r,h1,h2⟩:=Nm.mp (lh el s' O);exact⟨r,h1,h2⟩;exact k _ _ js h' (aaT hx hz) em U<|g.trans g'
theorem tgT {t}(h:Tg s n (tw t))(e:s ≠ "curve")(U:n<=48):Pl t/\Bx 1584 t:=by
 obtain⟨u,O,J,G⟩:=h.t e;obtain rfl:=nY O;exact⟨J,G.mono<|by lia⟩
theorem tgC {c}(h:Tg "curve" n (Je c))(U:n<=48):K4 (Ja c)/\Jp 1584 c:=by
 obtain⟨_,f,O,J,G⟩:=h.c;obtain rfl:=ug O;exact⟨J,G.mono<|by lia⟩
theorem Gs (h:∃q,w=tw q):Jf (tw p) w=true↔tw p=w:=by
 obtain⟨q,rfl⟩:=h;rw[JF,decide_eq_true_iff];exact⟨λe=>congrArg tw e,nY⟩
theorem Vm {c}(h:∃q,w=Je q):Jf (Je c) w=true↔Je c=w:=by
 obtain⟨q,rfl⟩:=h;rw[ahB,decide_eq_true_iff];exact⟨λe=>congrArg Je e,ug⟩
structure XS (M:Mt) (s:Str) (w w':W):Prop where
 l:Qf M s w w'
 a:∃n,n<=48/\Tg s n w
 b:∃n,n<=48/\Tg s n w'
theorem XS.tr (h:XS M s w w')(e:s = "spot"\/s = "line"):∃p u,w=tw p/\w'=tw u/\(Pl p/\Bx 1584 p)/\(Pl u/\Bx 1584 u)/\(s = "spot"->Ld M p u)/\(s = "line"->Py M p u):=by
 obtain⟨l,⟨n,J,ta⟩,m,O,tb⟩:=h;rcases l with⟨rfl,p,u,rfl,rfl,U,G⟩|⟨rfl,p,u,rfl,rfl,U,G⟩|⟨rfl,_⟩
 exact⟨p,u,rfl,rfl,tgT ta (by decide) J,tgT tb (by decide) O,λ_=>G,nofun⟩;exact⟨p,u,rfl,rfl,tgT ta (by decide) J,tgT tb (by decide) O,nofun,λ_=>G⟩;rcases e with e|e<;>exact nomatch e
theorem XS.cv (h:XS M "curve" w w'):∃c f,w=Je c/\w'=Je f/\(K4 (Ja c)/\Jp 1584 c)/\(K4 (Ja f)/\Jp 1584 f)/\Q7 M c f:=by
 obtain⟨l,⟨n,G,ta⟩,m,J,tb⟩:=h;rcases l with⟨z,_⟩|⟨z,_⟩|⟨_,c,f,rfl,rfl,Y,U,O⟩
 exact nomatch z
 exact nomatch z
 exact⟨c,f,rfl,rfl,tgC ta G,tgC tb J,O⟩
theorem XS.pl (h:XS M s w w'):(Jc 30 w=true/\Jc 30 w'=true)/\∀{v G},XS M s v G->(Jf w v=true↔w=v)/\(Jf w' G=true↔w'=G):=by
 rcases h.l with⟨rfl,p,u,rfl,rfl,_⟩|⟨rfl,p,u,rfl,rfl,_⟩|⟨rfl,c,f,rfl,rfl,_⟩
 refine⟨⟨rfl,rfl⟩,λ{v G} k=>?_⟩;obtain⟨q,t,rfl,rfl,_⟩:=k.tr (.inl rfl);exact⟨Gs ⟨_,rfl⟩,Gs ⟨_,rfl⟩⟩;refine⟨⟨rfl,rfl⟩,λ{v G} k=>?_⟩;obtain⟨q,t,rfl,rfl,_⟩:=k.tr (.inr rfl);exact⟨Gs ⟨_,rfl⟩,Gs ⟨_,rfl⟩⟩;refine⟨⟨rfl,rfl⟩,λ{v G} k=>?_⟩;obtain⟨q,t,rfl,rfl,_⟩:=k.cv;exact⟨Vm ⟨_,rfl⟩,Vm ⟨_,rfl⟩⟩
inductive abn (M:Mt):List Str->List W->List W->Prop
 | nil:abn M [] [] []
 | cons {s:Str}{w w':W}{ss:List Str}{ws ws':List W}(h:XS M s w w') (t:abn M ss ws ws'):abn M (s::ss) (w::ws) (w'::ws')
theorem abh (d:det M≠0){J}(u:Du x J)(B:abn M J ws ws'):∃P o,Cm x J ws P/\Cm x J ws' o/\(P↔o):=by
 cases u with
 | same=>
  cases B with
  | cons h1 t=>cases t with
   | cons h2 t=>cases t with
    | nil=>
     have e:=(h1.pl.2 h2)
     exact⟨_,_,.same h1.pl.1.1 h2.pl.1.1 e.1,.same h1.pl.1.2 h2.pl.1.2 e.2,(Qf.same d h1.l h2.l).symm⟩
 | onl=>
  cases B with
  | cons h1 t=>cases t with
   | cons h2 t=>cases t with
    | nil=>
     obtain⟨p,u,rfl,rfl,sp,O,G,_⟩:=h1.tr (.inl rfl);obtain⟨l,k,rfl,rfl,sl,j,_,Y⟩:=h2.tr (.inr rfl);refine⟨_,_,.onl sp.2 sl.2,.onl O.2 j.2,?_⟩;rw[cD p,cD u];exact(Gi d (Y rfl)<|G rfl).symm
 | onc=>
  cases B with
  | cons h1 t=>cases t with
   | cons h2 t=>cases t with
    | nil=>
     obtain⟨p,u,rfl,rfl,sp,O,G,_⟩:=h1.tr (.inl rfl);obtain⟨c,f,rfl,rfl,sc,U,a⟩:=h2.cv;exact⟨_,_,.onc sp.2 sc.2,.onc O.2 U.2,(gG d a<|G rfl).symm⟩
 | row=>
  cases B with
  | cons h1 t=>cases t with
   | cons h2 t=>cases t with
    | cons n t=>cases t with
     | nil=>
      obtain⟨p,u,rfl,rfl,sp,O,G,_⟩:=h1.tr (.inl rfl);obtain⟨q,v,rfl,rfl,i,g,Y,_⟩:=h2.tr (.inl rfl);obtain⟨r,w,rfl,rfl,h,b,m,_⟩:=n.tr (.inl rfl);exact⟨_,_,.row sp i h,.row O g b,(pG d (G rfl) (Y rfl)<|m rfl).symm⟩
 | bunch=>
  cases B with
  | cons h1 t=>cases t with
   | cons h2 t=>cases t with
    | cons n t=>cases t with
     | nil=>
      obtain⟨p,u,rfl,rfl,sp,O,_,G⟩:=h1.tr (.inr rfl);obtain⟨q,v,rfl,rfl,i,g,_,Y⟩:=h2.tr (.inr rfl);obtain⟨r,w,rfl,rfl,h,b,_,m⟩:=n.tr (.inr rfl);exact⟨_,_,.bunch sp i h,.bunch O g b,(aam d (G rfl) (Y rfl)<|m rfl).symm⟩
 | touch=>
  cases B with
  | cons h1 t=>cases t with
   | cons h2 t=>cases t with
    | nil=>
     obtain⟨l,k,rfl,rfl,sl,j,_,G⟩:=h1.tr (.inr rfl);obtain⟨c,f,rfl,rfl,sc,U,a⟩:=h2.cv;exact⟨_,_,.touch sl.2 sc.2,.touch j.2 U.2,(ajz d a<|G rfl).symm⟩
 | parted=>
  cases B with
  | cons h1 t=>cases t with
   | nil=>
    obtain⟨c,f,rfl,rfl,sc,U,a⟩:=h1.cv;exact⟨_,_,.parted sc.2,.parted U.2,Decidable.not_iff_not.mp (BR d a).symm⟩
noncomputable abbrev DT:bI:={nx:=λ_ h'=>(λ(w:W) (_:Gh)=>w=W.bl true) W.non h',rt:=λw _=>w=W.bl true}
structure Two (M:Mt) (ps:Ps) (wt:List Nat) (gold gold':List W):Prop where
 d:Dr 48 ps wt
 dn:det M≠0
 sm:Kw 2 M
 l:ps.length<=24
 l1:1<=ps.length
 e:gold.length=ps.length
 e':gold'.length=ps.length
 b:∀(i:Nat) (s:Str),(gR ps)[i]?=Dn s->∃w w',gold[i]?=Dn w/\gold'[i]?=Dn w'/\XS M s w w'
theorem Two.told {M}{ps}{wt}{gold gold'}(T:Two M ps wt gold gold'):∀{js}{due},js.map (λj=>(gR ps)[j]?)=due.map Dn->∃ws ws',Told gold js ws/\Told gold' js ws'/\abn M due ws ws'
 | [],[],_=>⟨[],[],rfl,rfl,.nil⟩
 | j::js,s::due,e=>by
  injection e with e1 e2
  obtain⟨ws,ws',a,b,c⟩:=T.told e2;obtain⟨w,w',h1,h2,h3⟩:=T.b j s e1;refine⟨w::ws,w'::ws',?_,?_,.cons h3 c⟩;unfold Told at a|-
  simp_all
  unfold Told at b|-
  simp_all
section
variable {le ll ca ki cl bg so sp am lc mp lp:AP}{ps:Ps}
theorem zaD (g:ClX lc)(d:aem ho)(T:Two M ps wt gold gold'){b}(y:LQ h b)(F:b<h.nx){s r q p o n m c a Y U J G}:
  Gb le ll ca ki ho cl bg so sp ro am lc mp lp EF DT [s,r,q,p,Dn (.lst (aW ps)),Dn (.loc b),o,n,m,Dn (.lst gold),Dn (.lst gold'),c,a,Y,U,J,G] h:=by
 refine jF (λi σ h'=>∃J G,σ=[s,r,q,p,Dn _,Dn<|.loc b,o,n,m,Dn<|.lst gold,Dn<|.lst gold',c,a,Y,U,J,G]/\LQ h' b/\b<h'.nx) ?_ ?_ ⟨_,_,rfl,y,F⟩;rintro i w σ h' N A H ⟨J,G,rfl,e,O⟩;refine nV<|bw<|bO<|aZ<|aB<|aA rfl<|aB<|aA rfl<|aL ?_
 refine g e O T.d.rows (by rw[cA];exact T.l1) (by rw[cA];exact T.l) λx l js h2 D t k C=>?_;rw[Ca]at t;obtain⟨ws,ws',v,u,B⟩:=T.told t;obtain⟨P,I,c1,E,x⟩:=abh T.dn D B;have f:js.map (λj=>((aW ps).map srt)[j]?)=l.map Dn:=by rwa[Ca]
 refine nV<|cW<|eU<|bR<|bA<|aZ<|aB<|aA rfl<|aB<|aA rfl<|aB<|aA rfl<|aL ?_
 refine d rfl rfl T.d.rows v f c1 λb1 e1=>?_;refine d rfl rfl T.d.rows u f E λb2 e2=>?_;refine Zd<|qH<|cY (Av λz=>z<|Bool.eq_iff_iff.mpr<|e1.trans<|x.trans e2.symm)<|dI<|cW<|A _ _ ⟨_,_,rfl,k,Ke O C.1⟩
 rintro σ h' ⟨J,G,rfl,e,O⟩;refine cW ?_;exact dB<|dW rfl
theorem Ed (r:uH so)(y:aeE le)(t:Ug ll)(H:Tt ca)(A:ClX lc)(F:aem ho)(T:Two M ps wt gold gold'){b:Nat}(hb:LQ h b)(bl:b<h.nx){Z X V S Q P g O J G d a:Option W}:
  G6 le ll ca ki ho cl bg so sp ro am lc mp lp EF DT [Z,X,V,S,Dn (.lst (aW ps)),Dn (.loc b),Q,Dn (mw M),P,Dn (.lst gold),Dn (.lst gold'),g,O,J,G,d,a] h:=by
 have T':=T;obtain⟨D,dn,sM,l24,l1,el,L,B⟩:=T;refine bw<|eU<|abv<|V8<|Gv<|fZ<|aB<|aA rfl<|aB<|dW<|aL<|DP (b:=true) rfl<|aew rfl<|cY rfl ?_
 refine bR<|bA<|fZ<|aB<|aA rfl<|aL<|fH (xs:=gold') rfl<|fZ<|aB<|aA rfl<|aL<|fH (xs:=aW ps) rfl<|Yr<|qH ?_
 refine cY (Av λz=>z<|by rw[L,cA])<|dI<|cW ?_
 refine bw<|uW<|rB<|aB<|fZ<|aB<|aA rfl<|aL<|fH (xs:=aW ps) rfl<|aL ?_
 rw[cA];refine N6 (m:=ps.length) (by lia)<|vf ?_
 refine jF (λi σ h'=>∃O J G,σ=[Z,X,V,S,Dn<|.lst<|aW ps,Dn<|.loc b,Q,Dn<|mw M,P,Dn<|.lst gold,Dn<|.lst gold',g,O,J,G,d,a]/\h'=h) ?_ ?_ ⟨_,_,_,rfl,rfl⟩;rintro i w σ h' N K ew ⟨O,J,G,rfl,rfl⟩;rw[Ju]at ew;obtain⟨j,ej,rfl⟩:=Rv.mp ew;obtain⟨ei,E⟩:=lF ej;obtain⟨x,js,e⟩:∃x js,ps[j]?=Dn (x,js):=⟨_,_,MH E⟩
 have er:(aW ps)[j]?=Dn (Bb x js):=by unfold aW;rw[Ju,e];rfl
 obtain⟨v,v',g1,g2,k⟩:=B j (c7 x) (by unfold gR;rw[Ju,e];rfl);have Y:∀{R:WK},R v h'->BZ (.lst gold) (.int (j:Int)) h' R:=λq=>d8 (ws:=gold) rfl (bM g1) q
 have U:∀{R:WK},R v' h'->BZ (.lst gold') (.int (j:Int)) h' R:=λq=>d8 (ws:=gold') rfl (bM g2) q
 refine nV ?_;refine bw<|bO<|aZ<|aB<|bA<|aA rfl<|aA rfl<|d8 (ws:=aW ps) rfl (bM er)<|aL<|r (D.wd _ x js e) ?_
 refine nV<|cW ?_
 generalize c7 x=s at k;by_cases c:s = "curve"
 subst c;obtain⟨C,f,rfl,rfl,sc,sf,hc⟩:=k.cv;refine bw<|bO<|ZL<|bR<|bA<|aA rfl<|dW<|nQ<|qH<|mY (U6 rfl)<|aZ<|aB<|aA rfl<|aB<|bA<|aA rfl<|aA rfl<|Y<|aL ?_
 refine H (m:=2) (n:=1584) (by decide) sM dn sc.2 (Sd sc.1) λf' l _ I=>?_;obtain rfl:=Pr sf.1 l hc I;refine nV<|cW<|bw<|eU<|bR<|bA<|aA rfl<|dW<|nQ<|qH<|cY (Av<|show("curve" : Str) ≠ "line" by decide)<|dI<|cW ?_
 refine eU<|bR<|bA<|bA<|aA rfl<|aA rfl<|U<|aA rfl<|agw<|qH<|cY (Av λz=>z rfl)<|dI<|cW ?_
 exact K _ _ ⟨_,_,_,rfl,rfl⟩;refine bw<|bO<|ZL<|bR<|bA<|aA rfl<|dW<|nQ<|qH ?_
 rw[Av c];refine Tc<|aZ<|aB<|aA rfl<|aB<|bA<|aA rfl<|aA rfl<|Y<|aL ?_
 have hs:s = "spot"\/s = "line":=by
  rcases k.l with⟨z,_⟩|⟨z,_⟩|⟨z,_⟩
  exact .inl z;exact .inr z;exact absurd z c
 obtain⟨p,u,rfl,rfl,sp,su,k1,k2⟩:=k.tr hs;refine y (m:=2) (n:=1584) (by decide) (by decide) sM sp.2 dn sp.1 λu1 lu _=>?_;refine nV<|cW ?_
 rcases hs with rfl|rfl
 obtain rfl:=lu.uniq (k1 rfl);refine bw<|eU<|bR<|bA<|aA rfl<|dW<|nQ<|qH<|cY (Av<|show("spot" : Str) ≠ "line" by decide)<|dI<|cW ?_
 refine eU<|bR<|bA<|bA<|aA rfl<|aA rfl<|U<|aA rfl<|Ul<|qH<|cY (Av λz=>z rfl)<|dI<|cW ?_
 exact K _ _ ⟨_,_,_,rfl,rfl⟩;refine bw<|eU<|bR<|bA<|aA rfl<|dW<|nQ<|qH<|mY (U6 rfl)<|bO<|aZ<|aB<|aA rfl<|aB<|bA<|aA rfl<|aA rfl<|Y<|aL ?_
 refine t (m:=2) (n:=1584) (by decide) (by decide) sM sp.2 dn sp.1 λu2 o _=>?_;obtain rfl:=o.uniq (k2 rfl);refine nV<|cW ?_
 refine eU<|bR<|bA<|bA<|aA rfl<|aA rfl<|U<|aA rfl<|Ul<|qH<|cY (Av λz=>z rfl)<|dI<|cW ?_
 exact K _ _ ⟨_,_,_,rfl,rfl⟩;rintro σ h' ⟨O,J,G,rfl,rfl⟩;refine cW ?_;exact zaD A F T' hb bl
end
theorem Vs {ps}(D:Dr 48 ps wt)(dn:det M≠0)(sM:Kw 2 M)(l:ps.length<=24)(c:1<=ps.length)(G:Gd ps wt sps gold)(d:Gd ps wt sps' gold')(e:gold.length=ps.length)(e':gold'.length=ps.length)(C:Cor M ps gold gold' ps.length):Two M ps wt gold gold':=by
 refine⟨D,dn,sM,l,c,e,e',λi s hs=>?_⟩;have hi:=by
  have:=(Oi.mp hs).1
  unfold gR at this
  rwa[Ik]at this
 obtain⟨w,w',Y,U,b⟩:=C i s hi hs;have ep:=MH hi;unfold gR at hs;rw[Ju,ep]at hs;cases hs;obtain⟨v,a,tv⟩:=G.tg i _ _ (by lia) ep;obtain⟨f,J,O⟩:=d.tg i _ _ (by lia) ep;rw[Y]at a;cases a;rw[U]at J;cases J
 exact⟨w,w',Y,U,b,⟨_,(D.wt i _ _ ep).2,tv⟩,_,(D.wt i _ _ ep).2,O⟩
theorem Kp.bag {b}(k:Kp h h')(J:LQ h b)(G:b<h.nx):LQ h' b/\b<h'.nx:=by
 obtain⟨p,q,e,r⟩:=J;exact⟨⟨p,q,(k.2 b G).trans e,r⟩,Ke G k.1⟩
section
variable {sp le ll ca ki cl bg so so' am lc mp lp:AP}{ps:Ps}
theorem akv (l:∀{ps:Ps}{wt:List Nat}{sps:List Tr}{gold:List W},Dr 48 ps wt->Gd ps wt sps gold->gold.length=ps.length\/S8 ps wt gold->ps.length<=30->JD (aN jo me th li sp oe) (aW ps) (sps.map tw) gold)
  (I:∀{ps:Ps}{wt:List Nat}{gold:List W},Dr 48 ps wt->S8 ps wt gold->∀{r:W},(aW ps)[gold.length]?=Dn r->Rf (aN jo me th li sp oe) gold r)
  (J:agk (aN jo me th li sp oe) lp) (Y:uH so) (d:aeE le) (a:Ug ll) (j:Tt ca) (f:ClX lc) (g:aem ho) (D:Dr 48 ps wt) (dn:det M≠0) (sM:Kw 2 M) (m:ps.length<=24) (l1:1<=ps.length) (hs:∀t∈sps,Pl t/\Bx 30 t) (hf:Lg ps ps.length<=sps.length) (L:Led M sps sps')
  {h:Gh}{b:Nat}(H:LQ h b) (Q:b<h.nx) {s0 Z X V:Option W} :
  Hy le ll ca ki ho cl bg so so' ro am lc mp lp EF DT [s0,Z,X,V,Dn (.lst (aW ps)),Dn (.loc b),Dn (.lst (sps.map tw)),Dn (mw M),Dn (.lst (sps'.map tw)),Go,Go,Go,Go,Go,Go,Go,Go] h:=by
 obtain⟨gold,G,s⟩:=Gd.ex D hs hf;obtain⟨gold',B,U,C,F⟩:=G.led dn D L;have s':gold'.length=ps.length\/S8 ps wt gold':=s.imp (λe=>U.trans e) F;have P:=l D G s (by lia);have R:=l D B s' (by lia);refine J P (λel=>?_) λr O=>?_;rw[cA]at el;refine nV<|cW ?_
 refine J R (λel'=>?_) λr O=>?_;refine nV<|cW ?_
 refine bw<|eU<|Gv<|fZ<|aB<|aA rfl<|aB<|dW<|aL<|DP (b:=false) rfl<|aew rfl<|cY rfl<|dI<|cW ?_
 rw[el]at C;exact Ed Y d a j f g (Vs D dn sM m l1 G B el (U.trans el) C) H Q;have:=(Oi.mp O).1
 rw[cA]at this;lia;have v:=(Oi.mp O).1;rw[cA]at v;have st:=s.resolve_left (by lia);refine⟨I D st O,λh1 k1=>?_⟩;obtain⟨p,y⟩:=k1.bag H Q;refine nV<|cW ?_
 refine J R (λel'=>?_) λr2 q=>?_;rw[cA]at el';lia;refine⟨I D (F st) q,λh2 k2=>?_⟩;obtain⟨n,w⟩:=k2.bag p y;obtain⟨p0,p1⟩:=st.pos D;have S:=G.cut D;have A:=B.cut D;have E:=D.cut gold.length;rw[U]at A;have e1:gold.length=(ps.take gold.length).length:=by rw[Ti];lia
 have C1:Cor M (ps.take gold.length) gold gold' (ps.take gold.length).length:=λi s hi hs=>C i s (by lia) (by
  unfold gR at hs|-
  rw[Ju,Yx,if_pos (by lia)]at hs;rw[Ju];exact hs)
 have fc:Lg (ps.take gold.length) (ps.take gold.length).length=Lg ps gold.length:=by rw[<-e1];exact KQ (JL _)
 have T:Two M (ps.take gold.length) (wt.take gold.length) gold gold':=Vs E dn sM (by lia) (by lia) S A e1 (U.trans e1) C1;have P1:=l E S (.inl e1) (by lia);have P2:=l E A (.inl (U.trans e1)) (by lia);refine nV<|cW ?_
 refine bw<|eU<|Gv<|fZ<|aB<|aA rfl<|aB<|dW<|aL<|DP (b:=true) rfl<|aew rfl<|mY rfl ?_
 refine bw<|eU<|bR<|bA<|aA rfl<|aA rfl<|Yr<|qH<|cY (Av λz=>z<|by rw[U])<|dI<|cW ?_
 refine bw<|bO<|tU<|aA rfl<|cJ<|fK<|aA rfl<|Kr<|sX ?_
 rw[zbs];generalize hq:ps.take gold.length=qs at *;generalize wt.take gold.length=vt at *;refine nV<|cW ?_
 refine bw<|bO<|fZ<|aB<|qu<|uy<|aA rfl<|J6 (ws:=aW qs) (o:=Go) rfl ?_
 refine uD (by rw[cA];exact Yc.mpr (by lia)) ?_;refine cU (λi acc h'=>h'=h2/\acc.length=Lg qs i) ?_ ?_ ⟨rfl,by unfold Lg;rfl⟩;rintro i u acc h' N K e ⟨rfl,k⟩;obtain⟨x,js,ep,rfl⟩:=qX e;have fs:=mj ep;refine⟨[Bb x js],rfl,?_⟩;refine bR<|bA<|bA<|aA rfl<|dW<|Ks<|dW<|nQ<|qH ?_
 by_cases c:x = "free"
 rw[if_pos c]at fs;rw[U6 c];exact dg<|aA rfl<|K _ _ ⟨rfl,by rw[Le,k,fs];rfl⟩
 rw[if_neg c]at fs;rw[Av c];exact yJ<|K _ _ ⟨rfl,by rw[k,fs];rfl⟩
 rintro acc h' ⟨rfl,k⟩;rw[cA,fc]at k;refine aL<|fH (xs:=acc) rfl ?_
 rw[k];refine nV<|cW ?_
 refine bw<|bO<|aZ<|aB<|aA rfl<|aB<|tU<|aA rfl<|cJ<|fK<|aA rfl<|Kr<|sX<|aL ?_
 rw[<-List.map_take];refine J P1 (λ_=>?_) λr O=>?_;refine nV<|cW ?_
 refine bO<|aZ<|aB<|aA rfl<|aB<|tU<|aA rfl<|cJ<|fK<|aA rfl<|Kr<|sX<|aL ?_
 rw[<-List.map_take];refine J P2 (λ_=>?_) λr O=>?_;refine nV<|cW ?_
 exact Ed Y d a j f g T n w;have:=(Oi.mp O).1
 rw[cA]at this;lia;have:=(Oi.mp O).1
 rw[cA]at this;lia
end
noncomputable def adt (c0:AP):Prop:=∀{h:Gh}{n:Nat}{Q:WK}{E:Bm},LQ h n->n<h.nx->(∀t h',Pl t->Bx 3 t->LQ h' n->h.nx<=h'.nx->(∀m,m<h.nx->m≠n->h'.c m=h.c m)->Q (tw t) h')->c0 [.loc n,.int 0] h Q E
theorem alX {dr pl}(hdr:uR dr)(hpl:aeI pl):adt (wB dr pl):=by
 intro h n Q E hb hn k;have sml:∀{x:Int},-5<=x->x<5->Sm 3 x:=λh1 h2=>Oz (by lia) (by lia)
 have t3:∀{g:Gh}{r:Nat}{u:Tr}{s1:Option W},g.c r=Dn (.lst [.int u.1,.int u.2.1,.int u.2.2])->u≠(0,0,0)->Bx 3 u->LQ g n->h.nx<=g.nx->(∀m,m<h.nx->m≠n->g.c m=h.c m)->oO dr pl E {nx:=λ_ h'=>Q .non h',rt:=λw h'=>Q w h'} [Dn (.loc n),s1,Dn (.loc r)] g:=by
  intro g r u s1 e u0 su bg hx ho;refine hpl.tr e u0 su (by decide) λt pt st=>?_;exact k t g pt st bg hx ho
 have t2:∀{g:Gh}{r:Nat}{a b c:Int}{s1:Option W},g.c r=Dn (.lst [.int a,.int b,.int c])->Bx 3 (a,b,c)->LQ g n->h.nx<=r->r<g.nx->(∀m,m<h.nx->m≠n->g.c m=h.c m)->oH dr pl E {nx:=λ_ h'=>Q .non h',rt:=λw h'=>Q w h'} [Dn (.loc n),s1,Dn (.loc r)] g:=by
  intro g r a b c s1 e su bg hx hr ho;unfold oH;rfl'
  refine adN e ?_;rfl'
  refine Ir (λz=>?_) λz=>?_
  ·simp only[Yo]at z;obtain⟨rfl,rfl,rfl⟩:=z;have o:Sm 3 1:=sml (by decide) (by decide);have o0:Sm 3 0:=sml (by decide) (by decide);rfl'
   refine hdr (n:=n) (many:=3) bg (by decide) (by unfold Sm;decide +kernel) λj g2 j0 j1 b2 o2=>?_;have e2:g2.c r=Dn (.lst [.int 0,.int 0,.int 0]):=by rw[o2.2 r (by lia)];exact e
   have fin:∀{g3:Gh}{u:Tr},g3.c r=Dn (.lst [.int u.1,.int u.2.1,.int u.2.2])->u≠(0,0,0)->Bx 3 u->(∀m,m≠r->g3.c m=g2.c m)->g3.nx=g2.nx->oO dr pl E {nx:=λ_ h'=>Q .non h',rt:=λw h'=>Q w h'} [Dn (.loc n),s1,Dn (.loc r)] g3:=by
    intro g3 u e3 u0 su o3 x3;refine t3 e3 u0 su ?_ (by rw[x3,o2.1];lia) λm hm hmn=>?_;obtain⟨x,y,ex,y0,y1⟩:=b2;exact⟨x,y,by rw[o3 n<|by lia];exact ex,y0,y1⟩;rw[o3 m (by lia),o2.2 m hmn];exact ho m hm hmn
   rcases(show j=0\/j=1\/j=2 by lia)with rfl|rfl|rfl
   refine Dk e2 (j:=0) rfl rfl λg3 e3 o3 x3=>?_;exact fin (u:=(1,0,0)) e3 (by decide) ⟨o,o0,o0⟩ o3 x3;refine Dk e2 (j:=1) rfl rfl λg3 e3 o3 x3=>?_;exact fin (u:=(0,1,0)) e3 (by decide) ⟨o0,o,o0⟩ o3 x3;refine Dk e2 (j:=2) rfl rfl λg3 e3 o3 x3=>?_;exact fin (u:=(0,0,1)) e3 (by decide) ⟨o0,o0,o⟩ o3 x3
  ·rfl'
   exact t3 (u:=(a,b,c)) e z su bg (by lia) ho
 unfold wB;rfl'
 refine amQ ?_;rfl'
 refine hdr (n:=n) (many:=5) hb (by decide) (by unfold Sm;decide +kernel) λd1 g1 a0 a1 b1 o1=>?_;rfl'
 refine hdr (n:=n) (many:=5) b1 (by decide) (by unfold Sm;decide +kernel) λd2 g2 c0 c1 b2 o2=>?_;rfl'
 refine hdr (n:=n) (many:=8) b2 (by decide) (by unfold Sm;decide +kernel) λd3 g3 f0 f1 b3 o3=>?_;refine ix8 f0 f1 λj j0 j1=>?_;have x3:g3.nx=h.nx:=by rw[o3.1,o2.1,o1.1]
 have u3:∀m,m≠n->g3.c m=h.c m:=λm hm=>by rw[o3.2 m hm,o2.2 m hm,o1.2 m hm]
 rfl'
 have en:=yp g3 (.lst [.int (d1-2),.int (d2-2),.int j]);have ex:(g3.new (.lst [.int (d1-2),.int (d2-2),.int j])).nx=g3.nx+1:=rfl;have eo:∀m,m≠g3.nx->(g3.new (.lst [.int (d1-2),.int (d2-2),.int j])).c m=g3.c m:=λm hm=>sS hm
 generalize(g3.new (.lst [.int (d1-2),.int (d2-2),.int j]))=g4 at en ex eo;have b4:LQ g4 n:=by
  obtain⟨x,y,e,y0,y1⟩:=b3;exact⟨x,y,by rw[eo n<|by lia];exact e,y0,y1⟩
 rfl'
 refine cY (by decide) ?_;rfl'
 exact t2 en ⟨sml (by show _<=d1-2;lia) (by show d1-2<_;lia),sml (by show _<=d2-2;lia) (by show d2-2<_;lia),sml (by show _<=j;lia) (by show j<_;lia)⟩ b4 (by lia) (by lia) λm hm hmn=>by rw[eo m (by lia)];exact u3 m hmn
theorem agA {sp le ll ca ki cl bg so so' O am lc mp lp}(hG:∀{ps}{wt sps gold},Dr 48 ps wt->Gd ps wt sps gold->gold.length=ps.length\/S8 ps wt gold->ps.length<=30->JD (aN jo me th li sp oe) (aW ps) (sps.map tw) gold)
  (hR:∀{ps}{wt gold},Dr 48 ps wt->S8 ps wt gold->∀{r},(aW ps)[gold.length]?=Dn r->Rf (aN jo me th li sp oe) gold r)
  (I:agk (aN jo me th li sp oe) lp) (C:uH so) (hle:aeE le) (K:Ug ll) (R:Tt ca) (hki:ahc ki) (P:ClX lc) (Q:aem ho) (G:Cd cl) (hbg:WD bg) (B:adt so') (E:abD O) (T:aev am) (H:ag3 mp) (ns:List Int) {h'} :
  Zq le ll ca ki ho cl bg so so' O am lc mp lp [.kls (ns.map .int)] h' (λw _=>w=.bl true) EF:=by
 have t5:∀{h:Gh}{ps:Ps}{wt:List Nat}{F:Nat}{d:Option W},Dr 48 ps wt->ps.length<=24->1<=ps.length->Lg ps ps.length=F->F<=7->Qx le ll ca ki ho cl bg so so' O am lc mp lp EF DT [Dn (.kls (ns.map .int)),Dn (.int (F:Int)),d,Dn (.int (ps.length:Int)),Dn (.lst (aW ps)),Go,Go,Go,Go,Go,Go,Go,Go,Go,Go,Go,Go] h:=by
  intro h ps wt F d D A l1 fn s;refine G (by decide) ?_;refine hbg λg bg' xg og=>?_;refine nV<|cW<|bw<|bO ?_
  refine NK (j:=(F:Int)) (λ_=>rfl) (by lia) (by lia) (by rw[Int.toNat_natCast];exact Jz (by lia:_<=100) (by decide)) (λi acc h'=>∃ts:List Tr,acc=ts.map tw/\ts.length=i/\OkT 3 ts/\LQ h' h.nx/\h.nx<h'.nx) ?_ ?_ ⟨[],rfl,rfl,λt ht=>absurd ht<|by simp,bg',by lia⟩;rintro i acc g2 M2 V hi ⟨ts,rfl,hl,hs,b2,l2⟩;refine⟨[.int (i:Int)],rfl,?_⟩;refine gj<|aZ<|aB<|aA rfl<|aB<|dW<|aL ?_
  refine B b2 l2 λt g3 y st b3 l3 o3=>?_;refine V _ _ ⟨ts++[t],by rw[R9];rfl,by rw[Le,hl];rfl,λu U=>?_,b3,by lia⟩;rcases Tf.mp U with U|U
  exact hs u U;rw[Ri.mp U];exact⟨y,st⟩;rintro acc g2 ⟨sps,rfl,hl,hs,b2,l2⟩;rw[Int.toNat_natCast]at hl;refine nV<|cW ?_
  refine bw<|bO<|aZ<|aB<|aZ<|aB<|aA rfl<|aB<|dW<|aL<|G (by decide)<|aL ?_
  refine hbg λg3 bg3 xg3 og3=>?_;refine nV<|cW ?_
  refine bw<|bO<|aZ<|aB<|aA rfl<|aL ?_
  refine H bg3 (by lia) λM g4 dn sM bg4 X=>?_;have bl4:g2.nx<g4.nx:=by have:=X.1;lia
  refine nV<|cW ?_
  refine bw<|bO<|qu<|uy<|aA rfl<|J6 (ws:=sps.map tw) (o:=Go) rfl ?_
  refine uD (by rw[Ik,hl];exact Yc.mpr (by lia)) ?_;refine cU (λi acc h'=>h'=g4/\∃us:List Tr,acc=us.map tw/\us.length=i/\(∀(k:Nat) (t:Tr),k<i->sps[k]?=Dn t->∃u,us[k]?=Dn u/\Ld M t u)/\∀u∈us,Pl u/\Bx 30 u) ?_ ?_ ⟨rfl,[],rfl,rfl,λk t hk=>absurd hk<|Te _,λu U=>absurd U<|by simp⟩;rintro i w acc h' N hN e ⟨rfl,us,rfl,Y,l,g⟩;rw[Ju]at e;obtain⟨t,et,rfl⟩:=Rv.mp e;obtain⟨y,st⟩:=hs t (Qz et);refine⟨[tw t],rfl,gj<|dg<|aZ<|aB<|aA rfl<|aB<|aA rfl<|aL ?_⟩;refine hle (m:=2) (n:=3) (by decide) (by decide) sM st dn y λu p su=>?_;refine hN _ _ ⟨rfl,us++[u],by rw[R9];rfl,by rw[Le,Y];rfl,λk t' hk Z=>?_,λv f=>?_⟩;by_cases c:k<i
  obtain⟨v,ev,lv⟩:=l k t' c Z;exact⟨v,by rw[Rx<|by lia];exact ev,lv⟩;have:k=i:=by lia
  subst this;rw[et]at Z;cases Z;exact⟨u,by rw[Sv<|by lia,Y,YS];rfl,p⟩;rcases Tf.mp f with f|f
  exact g v f;rw[Ri.mp f];exact⟨p.1,su.mono<|by decide⟩;rintro acc h' ⟨rfl,sps',rfl,Y,l,g⟩;rw[Ik]at Y l;have L:Led M sps sps':=⟨λi t e=>l i t (Oi.mp e).1 e,g⟩
  have J:∀t∈sps,Pl t/\Bx 30 t:=λt ht=>⟨(hs t ht).1,(hs t ht).2.mono (by decide)⟩
  refine nV<|cW ?_
  refine bw<|eU<|bR<|bA<|aZ<|aB<|aA rfl<|aB<|aA rfl<|aL ?_
  refine hki (by lia) (by rw[hl,fn]) J ?_;refine aZ<|aB<|aA rfl<|aB<|aA rfl<|aL ?_
  refine hki (by lia) (by rw[Y,hl,fn]) g ?_;have kb:kB (sps'.take 4)=kB (sps.take 4):=adD dn (λt ht=>(hs t (List.mem_of_mem_take ht)).1) (by rw[Ti,Ti,Y]) λi t e=>by
   rw[Yx]at e;split at e
   rename_i h4;obtain⟨u,eu,p⟩:=L.at' i t e;exact⟨u,by rw[Yx,if_pos h4];exact eu,p⟩;cases e
  refine Zd<|qH<|cY (Av λz=>z kb.symm)<|dI<|cW ?_
  exact akv hG hR I C hle K R P Q D dn sM A l1 J (by rw[fn,hl];exact JL _) L bg4 bl4
 unfold Zq;rfl'
 refine G (by decide) ?_;rfl'
 refine GQ (by decide) ?_;obtain⟨F,f1,s,eF⟩:∃F:Nat,2<=F/\F<=7/\2+(ns.getD (0:Int).toNat 0).fmod 6=(F:Int):=by
  have a:=Ys (ns.getD (0:Int).toNat 0) (show(6:Int)≠0 by decide);have b:=ZX (ns.getD (0:Int).toNat 0) (show(0:Int)<6 by decide);rw[iI (by decide)];exact⟨(2+(ns.getD (0:Int).toNat 0) % 6).toNat,by lia,by lia,by lia⟩
 refine gK ?_;rw[eF];rfl'
 refine G (by decide) ?_;rfl'
 refine NT ⟨by decide,64,by decide,Sm.lit rfl⟩ ?_;rfl'
 refine GQ (by decide) ?_;rfl'
 generalize decide (((ns.getD (0:Int).toNat 0).fdiv 96).fmod 8=5)=q;refine aat (.inr<|.inl<|Sm.lit rfl)<|gK ?_
 obtain⟨M,m1,m2,eM⟩:∃M:Nat,16<=M/\M<=24/\(16:Int)+8*(if q=true then 1 else 0)=(M:Int):=by
  cases q;exact⟨16,by decide,by decide,rfl⟩;exact⟨24,by decide,by decide,rfl⟩
 rw[eM];rfl'
 refine G (by decide) ?_;rfl'
 refine NT ⟨by decide,64,by decide,Sm.lit rfl⟩ ?_;rfl'
 refine GQ (by lia) ?_;rfl'
 refine aby ?_;obtain⟨S,s1,d,x,eS⟩:∃S:Nat,1<=S/\S<=24/\F<=S/\(if 1+((ns.getD (0:Int).toNat 0).fdiv 6).fmod (M:Int)>(F:Int)then 1+((ns.getD (0:Int).toNat 0).fdiv 6).fmod (M:Int)else(F:Int))=(S:Int):=by
  rw[iI (by lia)];have a:=Ys ((ns.getD (0:Int).toNat 0).fdiv 6) (show(M:Int)≠0 by lia);have b:=ZX ((ns.getD (0:Int).toNat 0).fdiv 6) (show(0:Int)<M by lia);generalize(ns.getD (0:Int).toNat 0).fdiv 6 % (M:Int)=z at a b;split
  exact⟨(1+z).toNat,by lia,by lia,by lia,by lia⟩;exact⟨F,by lia,by lia,by lia,rfl⟩
 rw[eS];rfl'
 refine E (M:=32) (by decide) (by decide) f1 s d λps wt D pl F'=>?_;subst pl;rfl'
 refine G (by decide) ?_;rfl'
 refine NT ⟨by decide,64,by decide,Sm.lit rfl⟩ ?_;rfl'
 refine GQ (by decide) ?_;rfl'
 refine Ir (λ_=>?_) λ_=>?_
 ·rfl'
  refine T D F' x d λqs vt D2 ql fn=>?_;rw[<-ql];rfl'
  exact t5 D2 (by lia) (by lia) fn s
 ·rfl'
  exact t5 D d s1 (by rw[F'.count<|JL _];lia) s
theorem aeu (ns:List Int)(_:ns.length<=63):ZS [.kls (ns.map W.int)] g0 (λw _=>w=.bl true) EF:=by
 have J:zf eE:=zp (yD ad4) Ox;have Y:fL iW:=alw QD tY;have O:fL mV:=zaQ Y;have tt:CG bH:=afn QD HJ;have td:jR jN:=ajJ Ht HJ;have c:Fb gA:=abS adS tt;have U:FZ mQ:=w_size (akF Wc Ht) HJ;have a:SQ jQ:=zch U w_tab;have th:OJ tL:=ajF J Eh (abA O DX Ft) (alS QD tY afH);have jo:nH Nq:=amD (yR J tY);have me:nH yU:=aap (yR J tY);have li:Mr jC:=adV tt w_tab (aei J);have sp:Mx jK:=ajK J tt td w_tab a;have oe:Oq lG:=ad1 (Vf QD) (w_on Nt) w_tab c (aei J) (afE (ad2 (Dq J tY)) aaw);have b:Jh qz:=alb zq Fe;exact agA (λD G s l=>Gd.plan jo me th li sp oe D G s l) (λD s _ e=>S8.rf jo me th li sp oe D s e) (agg acr) Fe (adi J tt) (akV J tt td) (ae3 J M6 (agM Wc HJ M6) (ab2 J M6 td) w_tab) (afe Eh (w_has O DX Ft) abX) (zbE zq Fe b) (aar (Vf QD) O (acX Y) (w_on Nt) a zaR<|akY td w_tab c) Ve acT (alX zq<|akp adu) (ajE Ve acT (afF zq adL Fe b.r) akz) acW (adz (aa8 (zbG (yD ad4) Ox) U) zq) ns
end My
namespace PySem.W.Fast
theorem tw264603279180161802:True:=⟨⟩
theorem tw15014929122850268686:True:=⟨⟩
theorem tw8111903693638904817:True:=⟨⟩
theorem tw15715235762203209495:True:=⟨⟩
theorem tw4927850289724526089:True:=⟨⟩
theorem tw2682241224371575849:True:=⟨⟩
theorem tw10751176219284856819:True:=⟨⟩
theorem tw17404241926193826830:True:=⟨⟩
theorem tw16749904661010592815:True:=⟨⟩
theorem tw16351202155892515430:True:=⟨⟩
theorem tw5245719072193939757:True:=⟨⟩
theorem tw2342322045700380570:True:=⟨⟩
theorem tw8510845429298180268:True:=⟨⟩
theorem tw12005915940107471540:True:=⟨⟩
theorem tw4630909281552405099:True:=⟨⟩
theorem tw6926574819562154514:True:=⟨⟩
theorem tw81671300832590616:True:=⟨⟩
theorem tw11082352507183121586:True:=⟨⟩
theorem tw11699345016882274990:True:=⟨⟩
theorem tw2561515391793141759:True:=⟨⟩
theorem tw14951053705366396805:True:=⟨⟩
theorem tw760772353144104978:True:=⟨⟩
theorem tw10536113591561962979:True:=⟨⟩
theorem tw15690034334693833863:True:=⟨⟩
theorem tw16972497450436405092:True:=⟨⟩
theorem tw8636115786605607011:True:=⟨⟩
theorem tw17335854298075815191:True:=⟨⟩
theorem tw992440688363076949:True:=⟨⟩
theorem tw8923636015225549438:True:=⟨⟩
theorem tw14107194341793118721:True:=⟨⟩
theorem tw11680708925070814154:True:=⟨⟩
theorem tw2132942073106273539:True:=⟨⟩
theorem tw7557714412296754459:True:=⟨⟩
theorem tw3356484498563686353:True:=⟨⟩
theorem tw16235474992180210150:True:=⟨⟩
theorem tw10540606402981104430:True:=⟨⟩
theorem tw6879129335568524200:True:=⟨⟩
theorem tw8071312549574915237:True:=⟨⟩
theorem tw2019789645829625123:True:=⟨⟩
theorem tw5358083372355214367:True:=⟨⟩
theorem tw15656331188206532382:True:=⟨⟩
theorem tw13605070594602533893:True:=⟨⟩
theorem tw1627871393804117651:True:=⟨⟩
theorem tw11563494346095947253:True:=⟨⟩
theorem tw5487755472898818760:True:=⟨⟩
theorem tw11691421992056525292:True:=⟨⟩
theorem tw3289877695208357872:True:=⟨⟩
theorem tw5723774744615447483:True:=⟨⟩
theorem tw2620384513237074000:True:=⟨⟩
theorem tw14965688771639817101:True:=⟨⟩
theorem tw4652299793638377988:True:=⟨⟩
theorem tw9364899763507562638:True:=⟨⟩
theorem tw13316770934878286822:True:=⟨⟩
theorem tw4148009170146108932:True:=⟨⟩
theorem tw18202323162840509016:True:=⟨⟩
theorem tw3712211170764716683:True:=⟨⟩
theorem tw8085900452147256847:True:=⟨⟩
theorem tw12925546909576868389:True:=⟨⟩
theorem tw12124633115061875962:True:=⟨⟩
theorem tw1701391042559008191:True:=⟨⟩
theorem tw15820252285059221398:True:=⟨⟩
theorem tw4320141349859492297:True:=⟨⟩
theorem tw2570225825810656568:True:=⟨⟩
theorem tw3870780217191660194:True:=⟨⟩
theorem tw17529239809626239882:True:=⟨⟩
theorem tw16227134640594760300:True:=⟨⟩
theorem tw6301889317482043734:True:=⟨⟩
theorem tw18236275467650521302:True:=⟨⟩
theorem tw5608646814693626104:True:=⟨⟩
theorem tw12239249915825030135:True:=⟨⟩
theorem tw15686147503236162106:True:=⟨⟩
theorem tw11394808537131578964:True:=⟨⟩
theorem tw3722625752262468595:True:=⟨⟩
theorem tw5104135687028879719:True:=⟨⟩
theorem tw13751215681545353601:True:=⟨⟩
theorem tw6686710707675115248:True:=⟨⟩
theorem tw13482861585093539952:True:=⟨⟩
theorem tw10470275815697088555:True:=⟨⟩
theorem tw8331890256964717135:True:=⟨⟩
theorem tw9949286334104639961:True:=⟨⟩
theorem tw14586560250377253246:True:=⟨⟩
theorem tw17004667281386291299:True:=⟨⟩
theorem tw11205448339136837094:True:=⟨⟩
theorem tw3114600012557280977:True:=⟨⟩
theorem tw7466379425250579164:True:=⟨⟩
theorem tw13453875594038286956:True:=⟨⟩
theorem tw2942964313439935765:True:=⟨⟩
theorem tw7401622716679711079:True:=⟨⟩
theorem tw6975484520555524783:True:=⟨⟩
theorem tw7723309726633010916:True:=⟨⟩
theorem tw6908321174857600971:True:=⟨⟩
theorem tw17625858306359145838:True:=⟨⟩
theorem tw16174921331886999823:True:=⟨⟩
theorem tw399877537056280256:True:=⟨⟩
theorem tw5644024400352439510:True:=⟨⟩
theorem tw16952538917801644508:True:=⟨⟩
theorem tw1358888412363298197:True:=⟨⟩
theorem tw6002592909415558855:True:=⟨⟩
theorem tw1137114219048754926:True:=⟨⟩
theorem tw15281360330365420781:True:=⟨⟩
theorem tw6403554265713721843:True:=⟨⟩
theorem tw16885936441084320263:True:=⟨⟩
theorem tw16101348229045735189:True:=⟨⟩
theorem tw15530442469178024377:True:=⟨⟩
theorem tw7163231453926306462:True:=⟨⟩
theorem tw11387194665795281248:True:=⟨⟩
theorem tw6714374971264586273:True:=⟨⟩
theorem tw16517785293797040618:True:=⟨⟩
theorem tw12635450983652312872:True:=⟨⟩
theorem tw12000767527542090925:True:=⟨⟩
theorem tw5581712880805291525:True:=⟨⟩
theorem tw5444241834504787652:True:=⟨⟩
theorem tw7136171038816879637:True:=⟨⟩
theorem tw16204677904161116213:True:=⟨⟩
theorem tw8939852897719315419:True:=⟨⟩
theorem tw13103661335639532275:True:=⟨⟩
theorem tw4011693250778528695:True:=⟨⟩
theorem tw15178066135026305524:True:=⟨⟩
theorem tw14728139620588541127:True:=⟨⟩
theorem tw6955997584695823190:True:=⟨⟩
theorem tw11713480509703298004:True:=⟨⟩
theorem tw5919720669460448170:True:=⟨⟩
theorem tw5022737610318609191:True:=⟨⟩
theorem tw12747487984781749481:True:=⟨⟩
theorem tw49217952956220678:True:=⟨⟩
theorem tw1162053137963449983:True:=⟨⟩
theorem tw14460872904805411090:True:=⟨⟩
theorem tw18119421910433239459:True:=⟨⟩
theorem tw1887862459610617832:True:=⟨⟩
theorem tw16765524242789473216:True:=⟨⟩
theorem tw10720436383038987691:True:=⟨⟩
theorem tw9946445050086152083:True:=⟨⟩
theorem tw4393671028399952555:True:=⟨⟩
theorem tw6668148219262215843:True:=⟨⟩
theorem tw899707344334902181:True:=⟨⟩
theorem tw5727230633208428770:True:=⟨⟩
theorem tw5907989246948349352:True:=⟨⟩
theorem tw15450044271696517018:True:=⟨⟩
theorem tw8600008067387715058:True:=⟨⟩
theorem tw7088542489212909489:True:=⟨⟩
theorem tw6757295148928613211:True:=⟨⟩
theorem tw12423781612910098901:True:=⟨⟩
theorem tw8851636407746273531:True:=⟨⟩
theorem tw17149810411976152135:True:=⟨⟩
theorem tw11149863129274790093:True:=⟨⟩
theorem tw12608843790497166876:True:=⟨⟩
theorem tw9040849117076250036:True:=⟨⟩
theorem tw4552619341987577111:True:=⟨⟩
theorem tw5792255897755238571:True:=⟨⟩
theorem tw14685524038453395816:True:=⟨⟩
theorem tw6101591068979829296:True:=⟨⟩
theorem tw9668586049520046203:True:=⟨⟩
theorem tw15346030061292164291:True:=⟨⟩
theorem tw15765557650413832369:True:=⟨⟩
theorem tw9127179896124216828:True:=⟨⟩
theorem tw3914900468859370662:True:=⟨⟩
theorem tw4060298481064110894:True:=⟨⟩
theorem tw2610034377254179026:True:=⟨⟩
theorem tw16455439565548848899:True:=⟨⟩
theorem tw4267018950575132953:True:=⟨⟩
theorem tw264270522591568655:True:=⟨⟩
theorem tw7537806294580930545:True:=⟨⟩
theorem tw15034224588876233005:True:=⟨⟩
theorem tw4345863485336888457:True:=⟨⟩
theorem tw1653149801850058814:True:=⟨⟩
theorem tw3728643374940336139:True:=⟨⟩
theorem tw14464021946852802083:True:=⟨⟩
theorem tw6560845759939029894:True:=⟨⟩
theorem tw7020059623545849275:True:=⟨⟩
theorem tw17925703708537172189:True:=⟨⟩
theorem tw9870333584887433324:True:=⟨⟩
theorem tw5398594420436786312:True:=⟨⟩
theorem tw10274121361727444670:True:=⟨⟩
theorem tw3994065795174917117:True:=⟨⟩
theorem tw1529439015420962491:True:=⟨⟩
theorem tw8462986300473525658:True:=⟨⟩
theorem tw5175257060063802122:True:=⟨⟩
theorem tw7290407679336776457:True:=⟨⟩
theorem tw1444550792235610018:True:=⟨⟩
theorem tw1146838107166525632:True:=⟨⟩
theorem tw2957072082136119039:True:=⟨⟩
theorem tw5427358339504344556:True:=⟨⟩
theorem tw10500655285690337538:True:=⟨⟩
theorem tw15441581937399094653:True:=⟨⟩
theorem tw1534792706096367155:True:=⟨⟩
theorem tw7559230563414287065:True:=⟨⟩
theorem tw6439996084590447248:True:=⟨⟩
theorem tw6317740194140658058:True:=⟨⟩
theorem tw6719150316472701573:True:=⟨⟩
theorem tw6715911054860539392:True:=⟨⟩
theorem tw16282343197110928069:True:=⟨⟩
theorem tw8905916615587985182:True:=⟨⟩
theorem tw4944860752578167874:True:=⟨⟩
theorem tw14752677566985740427:True:=⟨⟩
theorem tw7192789200359421174:True:=⟨⟩
theorem tw709552519109970856:True:=⟨⟩
theorem tw8349209305627061730:True:=⟨⟩
theorem tw15282304464879148411:True:=⟨⟩
theorem tw17359403079085070650:True:=⟨⟩
theorem tw16799433484873425907:True:=⟨⟩
theorem tw11203581617462435843:True:=⟨⟩
theorem tw5228485996589826296:True:=⟨⟩
theorem tw11190963284016914556:True:=⟨⟩
theorem tw1622850649365815181:True:=⟨⟩
theorem tw18295077725883427494:True:=⟨⟩
theorem tw2277006764094122040:True:=⟨⟩
theorem tw13513988876613482416:True:=⟨⟩
theorem tw5520778605026141779:True:=⟨⟩
theorem tw14150252375110825079:True:=⟨⟩
theorem tw374540099695005853:True:=⟨⟩
theorem tw7664817623692747367:True:=⟨⟩
theorem tw9123719725794872192:True:=⟨⟩
theorem tw4583308646328240101:True:=⟨⟩
theorem tw5397034447412643989:True:=⟨⟩
theorem tw1270094680012234166:True:=⟨⟩
theorem tw904151681612005944:True:=⟨⟩
theorem tw12687152039166780151:True:=⟨⟩
theorem tw11279929995299067663:True:=⟨⟩
theorem tw6484521677066523439:True:=⟨⟩
theorem tw3803707639643453013:True:=⟨⟩
theorem tw9853035605967388377:True:=⟨⟩
theorem tw1192030929607965770:True:=⟨⟩
theorem tw17628799380927005153:True:=⟨⟩
theorem tw1968189447106112426:True:=⟨⟩
theorem tw11485290008203564642:True:=⟨⟩
theorem tw1434181384770114942:True:=⟨⟩
theorem tw8751419316633682161:True:=⟨⟩
theorem tw13869149804031130414:True:=⟨⟩
theorem tw1757149469286605591:True:=⟨⟩
theorem tw4166889578739385408:True:=⟨⟩
theorem tw12701478578948290458:True:=⟨⟩
theorem tw9537523976359558467:True:=⟨⟩
theorem tw17137572733200506406:True:=⟨⟩
theorem tw9625352482742774031:True:=⟨⟩
theorem tw3719987265556476411:True:=⟨⟩
theorem tw6064575254630617679:True:=⟨⟩
theorem tw5003154733733586628:True:=⟨⟩
theorem tw9753535244765842968:True:=⟨⟩
theorem tw5699445477337874482:True:=⟨⟩
theorem tw8326157278911246412:True:=⟨⟩
theorem tw9377927182412033130:True:=⟨⟩
theorem tw16228842112832988589:True:=⟨⟩
theorem tw8176421536663559958:True:=⟨⟩
theorem tw4539075280587444663:True:=⟨⟩
theorem tw7957699410137280392:True:=⟨⟩
theorem tw15205782007254245067:True:=⟨⟩
theorem tw509017640095638460:True:=⟨⟩
theorem tw306387977480219884:True:=⟨⟩
theorem tw16009777602662460657:True:=⟨⟩
theorem tw235410666857274449:True:=⟨⟩
theorem tw1750073140006564635:True:=⟨⟩
theorem tw3738864875445444940:True:=⟨⟩
theorem tw3486945427958231809:True:=⟨⟩
theorem tw5946403728948230820:True:=⟨⟩
theorem tw14536140456874965323:True:=⟨⟩
theorem tw8140748500928966955:True:=⟨⟩
theorem tw12386077454211755872:True:=⟨⟩
theorem tw14288191490551697262:True:=⟨⟩
theorem tw417775085776758494:True:=⟨⟩
theorem tw14456740187373237834:True:=⟨⟩
theorem tw17790934700393259471:True:=⟨⟩
theorem tw7063295760047143654:True:=⟨⟩
theorem tw10031081591569254969:True:=⟨⟩
theorem tw4059749704912437994:True:=⟨⟩
theorem tw2864911690615870068:True:=⟨⟩
theorem tw12042923540918519603:True:=⟨⟩
theorem tw18212147707106407808:True:=⟨⟩
theorem tw6318285141006803972:True:=⟨⟩
theorem tw6835032008219175284:True:=⟨⟩
theorem tw9046283572691783648:True:=⟨⟩
theorem tw922046389477323950:True:=⟨⟩
theorem tw7551053361422257864:True:=⟨⟩
theorem tw11384394183785693729:True:=⟨⟩
theorem tw15234599978633752147:True:=⟨⟩
theorem tw16563084424906186967:True:=⟨⟩
theorem tw10679698274453310286:True:=⟨⟩
theorem tw5073698220484069070:True:=⟨⟩
theorem tw8302857991127187996:True:=⟨⟩
theorem tw11225980870089384447:True:=⟨⟩
theorem tw9454462198415514575:True:=⟨⟩
theorem tw7163338456863711026:True:=⟨⟩
theorem tw12600800599752783205:True:=⟨⟩
theorem tw8649518294500098765:True:=⟨⟩
theorem tw8055218139914737873:True:=⟨⟩
theorem tw7007081267860941710:True:=⟨⟩
theorem tw4921491230991946860:True:=⟨⟩
theorem tw18187122480855104834:True:=⟨⟩
theorem tw1692691004096783312:True:=⟨⟩
theorem tw12267120326514211299:True:=⟨⟩
theorem tw16182771496037894453:True:=⟨⟩
theorem tw4794436108004125108:True:=⟨⟩
theorem tw6339673773685371136:True:=⟨⟩
theorem tw4843854187157782418:True:=⟨⟩
theorem tw3608643349415056107:True:=⟨⟩
theorem tw17531222541291855181:True:=⟨⟩
theorem tw3012226941598352351:True:=⟨⟩
theorem tw6631139869182389658:True:=⟨⟩
theorem tw10535276757283642077:True:=⟨⟩
theorem tw4130933237367064962:True:=⟨⟩
theorem tw15253435896125559047:True:=⟨⟩
theorem tw5443869185130442756:True:=⟨⟩
theorem tw4548702649584969109:True:=⟨⟩
theorem tw15605417964723023756:True:=⟨⟩
theorem tw18077335113093508865:True:=⟨⟩
theorem tw1806522600192355690:True:=⟨⟩
theorem tw8254745500107736979:True:=⟨⟩
theorem tw16925339046462060206:True:=⟨⟩
theorem tw11116637789468088739:True:=⟨⟩
theorem tw967997519679909164:True:=⟨⟩
theorem tw7374707839558719308:True:=⟨⟩
theorem tw9930036457403952648:True:=⟨⟩
theorem tw5725840296987333155:True:=⟨⟩
theorem tw11549350794642744319:True:=⟨⟩
theorem tw12543153593335922687:True:=⟨⟩
theorem tw9700669750993780992:True:=⟨⟩
theorem tw10037526060328927710:True:=⟨⟩
theorem tw6521586341646101840:True:=⟨⟩
theorem tw9346335214662912138:True:=⟨⟩
theorem tw11109495399767922415:True:=⟨⟩
theorem tw5296523895950126494:True:=⟨⟩
theorem tw1049736728280736131:True:=⟨⟩
theorem tw14426428531509185512:True:=⟨⟩
theorem tw5622499214586705624:True:=⟨⟩
theorem tw17007747002509524046:True:=⟨⟩
theorem tw17015790597228628129:True:=⟨⟩
theorem tw17422418052716165366:True:=⟨⟩
theorem tw13460367966232195001:True:=⟨⟩
theorem tw8884832239885761875:True:=⟨⟩
theorem tw16604611281431305128:True:=⟨⟩
theorem tw3497266365563476035:True:=⟨⟩
theorem tw3253685428059143576:True:=⟨⟩
theorem tw6754953538589015577:True:=⟨⟩
theorem tw14272237910399487478:True:=⟨⟩
theorem tw13346491743819352815:True:=⟨⟩
theorem tw17921866147258529749:True:=⟨⟩
theorem tw12454408587325336245:True:=⟨⟩
theorem tw8784440464781836012:True:=⟨⟩
theorem tw4149960206646438024:True:=⟨⟩
theorem tw15480128337417275867:True:=⟨⟩
theorem tw7505650960395861020:True:=⟨⟩
theorem tw6462947697410184218:True:=⟨⟩
theorem tw5049999798047678251:True:=⟨⟩
theorem tw10074231274623119200:True:=⟨⟩
theorem tw839964406246459791:True:=⟨⟩
theorem tw5511451555395713982:True:=⟨⟩
theorem tw2802365275893548277:True:=⟨⟩
theorem tw4162542881639970829:True:=⟨⟩
theorem tw3533534493347895527:True:=⟨⟩
theorem tw7376173010996654094:True:=⟨⟩
end PySem.W.Fast
open PySem PySem.W PyProof.Rows
theorem PySem.Challenge.cw_easelroom_k66_whole_maps_carry_drawings_holds : PySem.Challenge.rw_easelroom_k66_whole_maps_carry_drawings.Holds := by
 w_on;o_law;k_head;(case hw=>w_witness2)
 k_fill
 refine My.walk (l:=PySem.Challenge.rw_easelroom_k66_whole_maps_carry_drawings) rfl rfl (λw h Y=>PySem.W.kIn_of Y) ?F
 case F=>
  intro w mg fa h KX G hmg;refine' My.all_mk My.aeu KX G hmg ?h0 ?h1 ?h2 ?h3 ?h4 ?h5 ?h6 ?h7 ?h8 ?h9 ?h10 ?h11 ?h12 ?h13 ?h14 ?h15 ?h16 ?h17 ?h18 ?h19 ?h20 ?h21 ?h22 ?h23 ?h24 ?h25 ?h26 ?h27 ?h28 ?h29 ?h30 ?h31 ?h32 ?h33 ?h34 ?h35 ?h36 ?h37 ?h38 ?h39 ?h40 ?h41 ?h42 ?h43 ?h44 ?h45 ?h46 ?h47 ?h48 ?h49 ?h50 ?h51 ?h52 ?h53 ?h54 ?h55 ?h56 ?h57 ?h58 ?h59 ?h60 ?h61 ?h62 ?h63 ?h64 ?h65 ?h66 ?z_abs ?z_all ?z_any ?z_enumerate ?z_int ?z_isinstance ?z_len ?z_list ?z_max ?z_min ?z_range ?z_reversed ?z_set ?z_sum ?z_tuple ?z_zip ?gk_MADE ?sk_MADE ?lk_MADE ?gk_TILES ?lk_TILES ?lk_TILES_0 ?lk_TILES_1 ?lk_TILES_2 ?lk_TILES_3 ?gx_EaselError ?xd_EaselError ?gx_Nothing ?xd_Nothing ?xc_Nothing ?xq_Nothing ?gx_Alike ?xd_Alike ?xc_Alike ?xq_Alike ?gx_NoMap ?xd_NoMap ?xc_NoMap ?xq_NoMap ?gx_Stuck ?xd_Stuck ?gx_FourOnLine ?xd_FourOnLine ?xc_FourOnLine ?xq_FourOnLine ?gx_Knot ?xd_Knot ?xc_Knot ?xq_Knot ?gx_NotRound ?xd_NotRound ?xc_NotRound ?xq_NotRound ?gx_NotOn ?xd_NotOn ?xc_NotOn ?xq_NotOn ?gx_InCurve ?xd_InCurve ?xc_InCurve ?xq_InCurve ?ai_Stuck ?li_Stuck ?ci_Stuck ?ki_Stuck ?xi_Stuck ?xf_Stuck ?xa_Stuck ?xs_Stuck
  (case h0|h1|h2|h3|h4|h5|h6|h7|h8|h9|h10|h11|h12|h13|h14=>(apply My.J8<;>k_is))
  (case h15|h16|h17|h18|h19|h20|h21|h22|h23|h24|h25|h26|h27|h28|h29=>(apply My.J8<;>k_is))
  (case h30|h31|h32|h33|h34|h35|h36|h37|h38|h39|h40|h41|h42|h43|h44=>(apply My.J8<;>k_is))
  (case h45|h46|h47|h48|h49|h50|h51|h52|h53|h54|h55|h56|h57|h58|h59=>(apply My.J8<;>k_is))
  (case h60|h61|h62|h63|h64|h65|h66=>(apply My.J8<;>k_is))
  (case z_abs|z_all|z_any|z_enumerate|z_int|z_isinstance|z_len|z_list|z_max|z_min|z_range|z_reversed|z_set|z_sum|z_tuple|z_zip|gk_TILES|lk_TILES|lk_TILES_0|lk_TILES_1|lk_TILES_2|lk_TILES_3|gk_MADE|lk_MADE=>k_is)
  (case sk_MADE=>rfl)
  (case gx_EaselError|gx_Nothing|gx_Alike|gx_NoMap|gx_Stuck|gx_FourOnLine|gx_Knot|gx_NotRound|gx_NotOn|gx_InCurve|ai_Stuck|li_Stuck|ci_Stuck|ki_Stuck=>k_is)
  (case xd_EaselError|xd_Nothing|xc_Nothing|xd_Alike|xc_Alike|xd_NoMap|xc_NoMap|xd_Stuck|xd_FourOnLine|xc_FourOnLine|xd_Knot|xc_Knot|xd_NotRound|xc_NotRound|xd_NotOn|xc_NotOn|xd_InCurve|xc_InCurve|xi_Stuck|xf_Stuck|xa_Stuck|xs_Stuck=>kernel_rfl)
  (case xq_Nothing|xq_Alike|xq_NoMap|xq_FourOnLine|xq_Knot|xq_NotRound|xq_NotOn|xq_InCurve=>k_exc)
