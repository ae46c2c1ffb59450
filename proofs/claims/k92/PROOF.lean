import PyProof.Rows.All
import Wide.All
import OpenK.AllK
import Wide.FinOn
import Lean
import PyProof.EqAt
import PyProof.EqKinds
import PyProof.TupleCall
import PySem.Challenge.RW_easelroom_k92_no_drawings_texts
set_option Elab.async false
set_option linter.all false
set_option maxRecDepth 100000
set_option maxHeartbeats 0
local macro_rules | `(tactic| lia) => `(tactic| first | lia (splits := 9) | omega)
open Option renaming some→Dn,none→Go
open PySem.W renaming Frag→Zf,mg_of→Eo,nsIn→Hs,mg_none_of→Mr,Looks→U8,findIn→MJ,keepIn→Nv,mroIn→Nu,clsIn→Q7,fnOf→Qn,excIn→Ra
open List renaming length_map→Ag,mem_cons→Bg,getElem?_eq_getElem→GF,length_append→Dv,mem_cons_self→Eb,getElem?_map→Ds,mem_singleton→Fk,getElem?_eq_some_iff→HY,length_cons→Ea,mem_of_getElem?→GK,map_append→Eu,mem_append→Fv,cons_ne_nil→G7,append_assoc→GR,mem_cons_of_mem→Hj,mem_map→Dy,not_mem_nil→HX,size_toArray→Ii,replicate→HI,length_take→Ib,all_eq_true→IK,mem_append_right→Ml,take_length→Li,length_drop→Ly,map_cons→Jf,getElem?_append_right→Pa,take_succ→Lh,take_of_length_le→Oh,length_singleton→Oe,cons_append→Mi,getElem?_append_left→QB,map_map→Lx,drop_eq_getElem_cons→RN,map_congr_left→PJ,range→LC,mem_of_mem_take→Q8,getElem_mem→OJ,getD_eq_getElem?_getD→T3,getElem_of_mem→Qf,length_range'→Qa,filter_append→QF,mem_append_left→RW,mem_filter→PL,length_pos_iff→RV,any_cons→Ob,mem_of_mem_drop→S6,length_nil→Pz,all_cons→Oz,eq_nil_of_length_eq_zero→Ui,nil_append→RJ,length_replicate→Tt,append_nil→RD,lookup_cons→SX,filter_cons→SN,nodup_cons→S8,getElem?_replicate→Uo,mem_range→Ri,getElem?_eq_none→UL,append_inj'→TQ,any_eq_true→TK,length→Ro
open PySem renaming Value→JI,wpAny_bind→Zr,Shared→Mk,Spec→aaD,starEach→Al,mainGlobals→CR,wpAny_pure→CG,boot_len→Dr,Program→BK,sizeLine→Bh,Around→BP,wpAny→Ae,World→Av,FuncData→DW,Builtin→abB,model→Ai,NameKind→Ik,wpAny_field→Hq,compareOp→HB,cellsFrom→Gv,wpAny_mono→Hw,mem_of_lookup→Oa,assignEach→Hz,wpAny_holding→Mg,wpAny_callSpecial?_slot→RZ,backTo→Ef,binaryOp→Hx,attributeBase→Nt,Keyword→Hu,sysModules→Ma,foldedSetIterable→Qv,keywordEach→Ni,wpAny_call_entry→RL,wpAny_seqItems→Q6,wpAny_Call_method_late→Tn,wpAny_setField_rec→Sv,wpAny_Call_Name_kw→Ss,bootBuiltins→P0,wpAny_truthy_bool→Sq,SetTable→Uq,typeIs_str→OD,PyData→aeh,Paired→Pr,wpAny_pyIter_list→TF,wpAny_newObj_type→T8,cLine→HD,wpAny_attempt→Ru,behindInMarks→Rr,backToKw→Nh,wpAny_passesOwn→Tf,sliceBounds→Qu,PassesOwn→Uu,IsPair→Lq,wpAny_setField→Te,swapsWith→Pu
open PySem.Heap renaming get?_push_of_some→Cm,lt_size→DK,get?_push_size→HJ,get?_update_other→N6,get?_update_self→Q9,size_push→Oc,SameBut→QC,get?_none_of_le→UJ
open Nat renaming lt_of_lt_of_le→Df,le_refl→Bm,ne_of_lt→Cg,le_of_ble_eq_true→Ho,le_trans→Dp,lt_irrefl→MH,ne_of_gt→Mf,lt_succ_self→PX,lt_of_le_of_lt→R0,mul_le_mul_right→Ry,le_succ→Nj,not_lt_zero→RB,le_of_lt→PB,eq_of_beq_eq_true→Ti,le_add_right→S9,beq→LR,zero_le→Pn,sub_zero→Rp
open PySem.Str renaming length_append→GJ,join→MF
open PySem.Txt renaming join→Bc,split→Fz,replace→Nk,contains→Ql
open Option renaming map_eq_some_iff→Ij,bind_some→Qx,map_some→T6
open Bool renaming and_eq_true→GQ,false_ne_true→Jm,not_eq_true→SJ,eq_iff_iff→Rm,and_false→Rh
open Option.some renaming inj→Ge
open PySem.PyData renaming keyHash→Io
open PySem.SeqAt renaming EqAt→Pb,ne_of_list_tuple→Ue
open PySem.F renaming type_str_join→Mw,slot_str_join→Ms,slot_tuple_iterator_next→Ut,slot_zip_next→Ub
open PySem.Builtin.SmallTypes renaming nextOf→Qi
open PySem.StrLaws renaming glued_eq_join→RP,sliceText→Tw,sliceText→Qz
open PyProof.Rows renaming slot_tuple_getitem→Sy,callWith_type1→Uj,boot_isinstance→Px,fact_split→Ur,SortKind→Qm,Keyed→Hi,kindOf→Lw,SortSt→M7,AllBare→Ng
open Int renaming toNat_natCast→Nr,eq_ofNat_of_zero_le→RM,natCast_nonneg→Rv,emod_lt_of_pos→Td,emod_nonneg→T5
open PySem.Builtin.Str renaming strKind→PK,strSub→Qe
open PySem.Obj renaming isFreed_of_fields→RX,data_mapFields→QD
open PySem.Calls renaming spliced_cons→Qc,evalArgs_plain→S7,callWith_builtin→Tg,Constant_str→Rx
open Ne renaming symm→HF
open False renaming elim→Nq
open PySem.SetTable renaming bits→R6
open PySem.PassesOwn renaming never→Tc
namespace L2
open PySem PySem.Spec PyProof.Rows
abbrev Key:=Sum Int Str
def vf:Key->JI->Bool
 | .inl k,v=>Value.isInt k v
 | .inr x,v=>Value.isStrOf x v
def Zy (w:Av):Key->Int
 | .inl k=>hashInt k
 | .inr x=>hashStr w x
theorem cZ:∀{k:Key}{v:JI},vf k v=true->(∃i t,k=Sum.inl i/\v=Value.int i t)\/(∃x t,k=Sum.inr x/\v=Value.str x t)
 | .inl i,v,h=>by
  obtain⟨t,e⟩:=Value.isInt_shape h;grind
 | .inr x,v,h=>by
  obtain⟨t,e⟩:=Value.isStrOf_shape h;grind
theorem zaq (i:Int)(t:Tok):vf (.inl i) (.int i t)=true:=by simp[vf,Value.isInt]
theorem zax (x:Str)(t:Tok):vf (.inr x) (.str x t)=true:=by simp[vf,Value.isStrOf]
theorem aeG (a b:Int):decide ((Sum.inl a:Key)=Sum.inl b)=(a==b):=by grind
theorem Ux (a b:Str):decide ((Sum.inr a:Key)=Sum.inr b)=decide (a=b):=by simp_all
theorem adF (a:Int)(b:Str):decide ((Sum.inl a:Key)=Sum.inr b)=false:=rfl
theorem VG (a:Str)(b:Int):decide ((Sum.inr a:Key)=Sum.inl b)=false:=rfl
def dz (prog:BK)(w:Av):PySem.KeyKind prog w Key where
 is:=vf
 hash:=Zy w
 inj:=λv a b ha hb=>by
  rcases cZ ha with⟨i,t,rfl,rfl⟩|⟨x,t,rfl,rfl⟩
  rcases cZ hb with⟨j,u,rfl,e⟩|⟨y,u,rfl,e⟩
  injection e with e1 _;rw[e1]
  exact nomatch e
  rcases cZ hb with⟨j,u,rfl,e⟩|⟨y,u,rfl,e⟩
  exact nomatch e
  injection e with e1 _;rw[e1]
 byValue:=λk v h=>by
  rcases cZ h with⟨i,t,rfl,rfl⟩|⟨x,t,rfl,rfl⟩<;>rfl
 pyHash:=λhv h=>by
  rcases cZ hv with⟨i,t,rfl,rfl⟩|⟨x,t,rfl,rfl⟩
  exact wpAny_pyHash_int h;exact wpAny_pyHash_str h
 eqBool:=λhu hv h=>by
  rcases cZ hu with⟨i,t,rfl,rfl⟩|⟨x,t,rfl,rfl⟩
  rcases cZ hv with⟨j,u,rfl,rfl⟩|⟨y,u,rfl,rfl⟩
  rw[aeG]at h;exact wpAny_eqBool_int h;rw[adF]at h;exact SeqAt.EqAt.int_str i t y u _ _ _ _ h;rcases cZ hv with⟨j,u,rfl,rfl⟩|⟨y,u,rfl,rfl⟩
  rw[VG]at h;exact SeqAt.EqAt.str_int x t j u _ _ _ _ h;rw[Ux]at h;exact wpAny_eqBool_str h
 «strs»:=λk x t v h=>by
  rcases cZ h with⟨i,u,rfl,e⟩|⟨y,u,rfl,e⟩
  exact nomatch e
  injection e with e1 _
  subst e1;cases v<;>rfl
theorem wL (prog:BK)(w:Av)(i:Int)(t:Tok):(dz prog w).is (.inl i) (.int i t)=true:=zaq i t
theorem wu (prog:BK)(w:Av)(x:Str)(t:Tok):(dz prog w).is (.inr x) (.str x t)=true:=zax x t
inductive V where
 | non|bl (b:Bool)|int (i:Int)|str (x:Str)|byt (b:Array UInt8)|flt (b:UInt64)|ref (a:Addr)|ty (n:String)
 deriving DecidableEq
def RelV:V->JI->Prop
 | .non,u=>u=Value.none
 | .bl b,u=>u=Value.bool b
 | .int i,u=>∃t,u=Value.int i t
 | .str x,u=>∃t,u=Value.str x t
 | .byt b,u=>∃t,u=Value.bytes b t
 | .flt b,u=>∃t,u=Value.float b t
 | .ref a,u=>u=Value.ref a
 | .ty n,u=>u=Value.type n
abbrev kI:List V->List JI->Prop:=Pr RelV
variable {xs:List V}{us:List JI}
theorem kI.length {xs:List V}{us:List JI}(r:kI xs us):xs.length=us.length:=Paired.length r
theorem kI.get:∀{xs:List V}{us:List JI}{i:Nat}{x:V},kI xs us->xs[i]?=Dn x->∃u,us[i]?=Dn u/\RelV x u
 | _,_,0,_,.cons r _,e=>by simp at e;subst e;exact⟨_,rfl,r⟩
 | _,_,i+1,x,.cons _ t,e=>by
  obtain⟨u,h1,h2⟩:=kI.get t (by simpa using e)
  simp_all
variable {u:JI}
theorem kI.set {x:V}{u:JI}(r:RelV x u):∀{xs:List V}{us:List JI}(i:Nat),kI xs us->kI (xs.set i x) (us.set i u)
 | _,_,_,.nil=>.nil
 | _,_,0,.cons _ t=>.cons r t
 | _,_,i+1,.cons q t=>.cons q (kI.set r i t)
theorem kI.append:∀{xs ys:List V}{us ws:List JI},kI xs us->kI ys ws->kI (xs++ys) (us++ws)
 | _,_,_,_,.nil,s=>s
 | _,_,_,_,.cons r t,s=>.cons r (kI.append t s)
theorem kI.take:∀{xs:List V}{us:List JI}(n:Nat),kI xs us->kI (xs.take n) (us.take n)
 | _,_,0,_|_,_,_+1,.nil=>.nil
 | _,_,n+1,.cons r t=>.cons r (kI.take n t)
theorem kI.drop:∀{xs:List V}{us:List JI}(n:Nat),kI xs us->kI (xs.drop n) (us.drop n)
 | _,_,0,r=>r
 | _,_,_+1,.nil=>.nil
 | _,_,n+1,.cons _ t=>kI.drop n t
def KN:Option V->Option JI->Prop
 | some v,Dn u=>RelV v u
 | none,Go=>True
 | _,_=>False
variable {κ:Type}
def KV:List (κ×V)->List (κ×JI)->Prop:=Pr λ(p:κ×V) (q:κ×JI)=>p.1=q.1/\RelV p.2 q.2
def kV:Key->V
 | .inl i=>.int i
 | .inr x=>.str x
inductive HO where
 | lst (xs:List V)
 | tup (xs:List V)
 | dK (kvs:List (Key×V))|dT (kvs:List (List Key×V))
 | set (S:Int->Bool) (n:Nat)
 | ins (C dx:Addr) (fs:List (Str×V))
 | own (x:Addr)
 | xd (fs:List (Str×V))
 | met (f x:Addr)
 | rng (lo hi:Int)
 | frz (o:Obj) (u:HO)
 | tbl (ps:Array JI)
 | ext (φ:Heap->Prop)
abbrev Hp:=Addr->Option HO
def CN (H:Hp)(a:Addr)(o:HO):Hp:=λb=>if b=a then Dn o else H b
variable {a:Addr}{H:Hp}
theorem bM {o:HO}:CN H a o a=Dn o:=by unfold CN;rw[if_pos rfl]
variable {b:Addr}
theorem aO {o:HO}(h:b≠a):CN H a o b=H b:=by unfold CN;rw[if_neg h]
theorem aU {o:HO}(h:H a=Dn o)(h':H b=Go):a≠b:=by grind
section
variable (P:BK)(w:Av)
def Iu (h:Heap)(a:Addr)(afo:Array JI):Prop:=∃o,h.get? a=Dn o/\o.cls=.type "tuple"/\(∃n,o.data=.seq afo n)/\o.dict=Go
theorem Iu.tup {h:Heap}{afo:Array JI}(x:Iu h a afo):IsTup h a afo:=let⟨o,ho,hc,hd,_⟩:=x;⟨o,ho,hc,hd⟩
theorem Iu.new (h:Heap)(afo:Array JI):Iu (h.push {cls:=.type "tuple",data:=.seq afo}) h.objs.size afo:=⟨_,HJ _ rfl,rfl,⟨_,rfl⟩,rfl⟩
def fM (H:Hp)(h:Heap)(a:Addr):HO->Prop
 | .lst xs=>xs.length<=Bh/\∃(its:List JI) (n:Nat),kI xs its/\h.get? a=Dn {cls:=.type "list",data:=.seq its.toArray n}
 | .tup xs=>xs.length<=Bh/\∃its:List JI,kI xs its/\Iu h a its.toArray
 | .dK kvs=>kvs.length<=Bh/\(a==Ma)=false/\∃vs,KV kvs vs/\h.DictOf (dz P w) a vs
 | .dT kvs=>kvs.length<=Bh/\(a==Ma)=false/\∃xs:List (List Key×Addr×JI),
   Pr (λ(p:List Key×V) (q:List Key×Addr×JI)=>p.1=q.1/\H q.2.1=Dn (.tup (p.1.map kV))/\RelV p.2 q.2.2) kvs xs /\
   ∃o es ep,h.get? a=Dn o/\o.ExactDict/\o.data=.dict es ep/\es.toList=xs.map (entryOfKey (tupleKind (dz P w)))/\(xs.map (·.1)).Nodup
 | .set S n=>h.SetOf (intKind P w) a S n
 | .ins C dx fs=>H dx=Dn (.own a)/\fs.length<=1000/\dx≠a/\h.get? a=Dn (PySem.W.instObj C dx) /\
   ∃mA,h.Ns1 dx mA/\(∀f,KN (fs.lookup f) (mA f))/\PySem.Within mA (fs.map (·.1))
 | .own _=>∃o,h.get? a=Dn o
 | .xd fs=>∃mA,h.Ns1 a mA/\∀f,KN (fs.lookup f) (mA f)
 | .rng lo hi=>∃t u v,h.get? a=Dn {cls:=.type "range",data:=.fields #[.int lo t,.int hi u,.int 1 v]}
 | .frz o u=>h.get? a=Dn o/\fM H h a u
 | .tbl ps=>h.get? a=Dn {cls:=.none,data:=.fields ps}
 | .met f x=>h.get? a=Dn (PySem.W.methodObj (.ref f) (.ref x))
 | .ext φ=>φ h/\(∃o,h.get? a=Dn o)/\∀h1 h2:Heap,φ h1->(∀o,h1.get? a=Dn o->h2.get? a=Dn o)->φ h2
def GP (H:Hp)(h:Heap):Prop:=∀a o,H a=Dn o->fM P w H h a o
end
variable {h:Heap}
section
variable {P:BK}{w:Av}{H':Hp}{h':Heap}{o:HO}
theorem fM.lt (x:fM P w H h a o):a<h.objs.size:=by
 cases o with
 | lst xs=>obtain⟨_,_,_,_,e⟩:=x;exact DK e
 | tup xs=>obtain⟨_,_,_,p⟩:=x;exact p.tup.lt
 | dK kvs|dT kvs=>obtain⟨_,_,_,_,o,_,_,e,_⟩:=x;exact DK e
 | set S n=>obtain⟨o,_,_,_,e,_⟩:=x;exact DK e
 | ins C dx fs=>obtain⟨_,_,_,e,_⟩:=x;exact DK e
 | own y=>obtain⟨_,e⟩:=x;exact DK e
 | xd fs=>obtain⟨_,⟨_,_,_,e,_⟩,_⟩:=x;exact DK e
 | rng lo hi=>obtain⟨_,_,_,e⟩:=x;exact DK e
 | frz ob u=>obtain⟨e,_⟩:=x;exact DK e
 | tbl ps|met f y=>exact DK x
 | ext φ=>obtain⟨_,⟨_,e⟩,_⟩:=x;exact DK e
theorem Paired.mapP {α β:Type}{F G:α->β->Prop}:∀{l₁:List α}{l₂:List β},Pr F l₁ l₂->(∀a b,F a b->G a b)->Pr G l₁ l₂
 | _,_,.nil,_=>.nil
 | _,_,.cons r t,f=>.cons (f _ _ r) (Paired.mapP t f)
theorem fM.stay (x:fM P w H h a o)(k:∀b u,(b=a\/H b=Dn (.own a))->h.get? b=Dn u->h'.get? b=Dn u)
  (ho:∀b,H b=Dn (.own a)->H' b=Dn (.own a)) (ht:∀b xs,H b=Dn (.tup xs)->H' b=Dn (.tup xs)):fM P w H' h' a o:=by
 induction o with
 | lst xs=>obtain⟨z,its,n,r,e⟩:=x;exact⟨z,its,n,r,k _ _ (.inl rfl) e⟩
 | tup xs=>obtain⟨z,its,r,ob,e,c⟩:=x;exact⟨z,its,r,ob,k _ _ (.inl rfl) e,c⟩
 | dK kvs=>obtain⟨z,y,vs,r,ob,es,ep,e,c⟩:=x;exact⟨z,y,vs,r,ob,es,ep,k _ _ (.inl rfl) e,c⟩
 | dT kvs=>
  obtain⟨z,y,xs,r,ob,es,ep,e,c⟩:=x;exact⟨z,y,xs,Paired.mapP r λp q z=>⟨z.1,ht _ _ z.2.1,z.2.2⟩,ob,es,ep,k _ _ (.inl rfl) e,c⟩
 | set S n=>obtain⟨ob,es,ep,t,e,c⟩:=x;exact⟨ob,es,ep,t,k _ _ (.inl rfl) e,c⟩
 | ins C dx fs=>
  obtain⟨d,z,ne,e,mA,⟨od,es,ep,e2,c⟩,r⟩:=x;exact⟨ho _ d,z,ne,k _ _ (.inl rfl) e,mA,⟨od,es,ep,k _ _ (.inr d) e2,c⟩,r⟩
 | own y=>obtain⟨ob,e⟩:=x;exact⟨ob,k _ _ (.inl rfl) e⟩
 | xd fs=>obtain⟨mA,⟨od,es,ep,e,c⟩,r⟩:=x;exact⟨mA,⟨od,es,ep,k _ _ (.inl rfl) e,c⟩,r⟩
 | rng lo hi=>obtain⟨t,u,v,e⟩:=x;exact⟨t,u,v,k _ _ (.inl rfl) e⟩
 | frz ob u ih=>obtain⟨e,q⟩:=x;exact⟨k _ _ (.inl rfl) e,ih q⟩
 | tbl ps|met f y=>
  have e:=x;exact k a _ (.inl rfl) e
 | ext φ=>obtain⟨p,⟨o,e⟩,st⟩:=x;exact⟨st _ _ p λo q=>k _ _ (.inl rfl) q,⟨o,k _ _ (.inl rfl) e⟩,st⟩
theorem GP.lt (x:GP P w H h)(e:H a=Dn o):a<h.objs.size:=(x a o e).lt
theorem GP.fresh (x:GP P w H h)(e:h.objs.size<=a):H a=Go:=by
 cases q:H a with
 | none=>rfl
 | some u=>exact absurd (Df (x.lt q) e) (MH _)
theorem GP.kept (x:GP P w H h)(k:∀b u,h.get? b=Dn u->h'.get? b=Dn u):GP P w H h':=λa o e=>
 (x a o e).stay (λb u _ q=>k b u q) (λ_ q=>q) λ_ _ q=>q
theorem GP.laid (x:GP P w H h)(k:∀b u,h.get? b=Dn u->h'.get? b=Dn u)(hp:h.objs.size<=a)(new:fM P w (CN H a o) h' a o):GP P w (CN H a o) h':=λb u e=>by
 have hn:=x.fresh hp;by_cases hb:b=a
 subst hb;rw[bM]at e;cases e;exact new;rw[aO hb]at e;exact(x b u e).stay (λc v _ q=>k c v q) (λc q=>aO (aU q hn) ▸ q) λc xs q=>aO (aU q hn) ▸ q
end
variable {h':Heap}{H':Hp}{P:BK}{w:Av}
def Rd (H:Hp)(a:Addr)(u:HO):Prop:=H a=Dn u\/∃o,H a=Dn (.frz o u)
theorem Rd.ok {u:HO}(r:Rd H a u)(x:GP P w H h):fM P w H h a u:=by
 rcases r with r|⟨o,r⟩
 exact x a u r;obtain⟨_,q⟩:=x a _ r;exact q
def Mut:Option HO->Prop
 | some (.lst _)=>True
 | some (.dK _)=>True
 | some (.dT _)=>True
 | some (.set _ _)=>True
 | some (.ins _ _ _)=>True
 | some (.ext _)=>True
 | some (.xd _)=>True
 | _=>False
section
variable {x e:Addr}{o':HO}
theorem GP.write (ok:GP P w H h)(mu:Mut (H x))(he:e=x\/H e=Dn (.own x))(k:∀b u,b≠e->h.get? b=Dn u->h'.get? b=Dn u)(heo:∃u,h'.get? e=Dn u)
  (new:fM P w (CN H x o') h' x o'):GP P w (CN H x o') h':=λb u q=>by
 have nown:∀c y,H c=Dn (.own y)->c≠x:=λc y r z=>by subst z;rw[r]at mu;exact mu
 by_cases hb:b=x
 subst hb;rw[bM]at q;cases q;exact new;rw[aO hb]at q;by_cases hbe:b=e
 have q':H b=Dn (.own x):=by
  grind
 rw[q]at q';cases q';obtain⟨v,hv⟩:=heo;exact⟨v,hbe ▸ hv⟩;refine(ok b u q).stay (λc v hc r=>k c v ?_ r) (λc r=>aO (nown c b r) ▸ r) λc xs r=>by rw[aO ((λc xs r z=>by subst z;rw[r]at mu;exact mu) c xs r)];exact r
 grind
end
structure Un (fs ex:List Addr) (H H':Hp) (h h':Heap):Prop where
 keep:∀b o,h.get? b=Dn o->H b=Go->b∉fs->b∉ex->h'.get? b=Dn o
 slot:∀b o,h.get? b=Dn o->H b=Go->b∈fs->b∉ex->∃sl,h'.get? b=Dn {o with slots:=sl}
 free:∀b o,h.get? b=Dn o->H b=Go->b∉ex->H' b=Go
 there:∀b o,h.get? b=Dn o->b∉ex->∃o',h'.get? b=Dn o'
 tups:∀b xs,H b=Dn (.tup xs)->H' b=Dn (.tup xs)
 frzs:∀b o u,H b=Dn (.frz o u)->H' b=Dn (.frz o u)
 tbls:∀b ps,H b=Dn (.tbl ps)->∃more,H' b=Dn (.tbl (ps++more))
section
variable {fs fs' ex ex':List Addr}{H1 H2:Hp}{h1 h2:Heap}{x e:Addr}{o:HO}
theorem Un.any (u:Un fs ex H H1 h h1){ob:Obj}(q:h.get? b=Dn ob)(n:H b=Go)(hx:b∉ex):∃sl,h1.get? b=Dn {ob with slots:=sl}:=by
 by_cases hb:b∈fs
 exact u.slot b ob q n hb hx;exact⟨ob.slots,u.keep b ob q n hb hx⟩
theorem Un.kept (k:∀b u,h.get? b=Dn u->h'.get? b=Dn u):Un fs ex H H h h':=
 ⟨λb ob q _ _ _=>k b ob q,λb ob q _ _ _=>⟨ob.slots,k b ob q⟩,λ_ _ _ n _=>n,λb ob q _=>⟨ob,k b ob q⟩,λ_ _ q=>q,λ_ _ _ q=>q,λ_ ps q=>⟨#[],by rw[q];simp⟩⟩
theorem Un.refl:Un fs ex H H h h:=Un.kept λ_ _ q=>q
theorem Un.laid (k:∀b u,h.get? b=Dn u->h'.get? b=Dn u)(hp:h.objs.size<=a)(hn:H a=Go):Un fs ex H (CN H a o) h h' where
 keep:=λb u q _ _ _=>k b u q
 slot:=λb u q _ _ _=>⟨u.slots,k b u q⟩
 free:=λb u q n _=>aO (Cg (Df (DK q) hp)) ▸ n
 there:=λb u q _=>⟨u,k b u q⟩
 tups:=λb xs q=>aO (aU q hn) ▸ q
 frzs:=λb u xs q=>aO (aU q hn) ▸ q
 tbls:=λb ps q=>⟨#[],by rw[aO (aU q hn),q];simp⟩
theorem Un.write (mu:Mut (H x))(he:e=x\/H e=Dn (.own x))(k:∀b u,b≠e->h.get? b=Dn u->h'.get? b=Dn u)(heo:∃u,h'.get? e=Dn u):Un fs ex H (CN H x o) h h':=by
 have hx:∀b,H b=Go->b≠x:=λb n z=>by subst z;rw[n]at mu;exact mu
 have hb:∀b,H b=Go->b≠e:=λb n z=>by
  grind
 have hm:∀b u,H b=Dn u->¬Mut (Dn u)->b≠x:=λb u q nm z=>by subst z;rw[q]at mu;exact nm mu
 refine⟨λb u q n _ _=>k b u (hb b n) q,λb u q n _ _=>⟨u.slots,k b u (hb b n) q⟩,λb u q n _=>aO (hx b n) ▸ n,λb u q _=>?_,
  λb xs q=>aO (hm b _ q λz=>z) ▸ q,λb u xs q=>aO (hm b _ q λz=>z) ▸ q,λb ps q=>⟨#[],by rw[aO (hm b _ q λz=>z),q];simp⟩⟩
 grind
end
def trk (h:Heap)(H:Hp):List Addr:=(LC h.objs.size).filter λa=>(H a).isSome
def Pq (h:Heap)(H:Hp):Heap:=PySem.W.hideAll h (trk h H)
theorem aaY (h:Heap)(H:Hp):(Pq h H).objs.size=h.objs.size:=PySem.W.hideAll_size _ _
theorem zaP {o:Obj}(e:h.get? b=Dn o)(n:H b=Go):(Pq h H).get? b=Dn o:=
 PySem.W.hideAll_get _ e λhm=>by
  have q:=(PL.mp hm).2;grind
theorem aec {o:Obj}(e:(Pq h H).get? b=Dn o):h.get? b=Dn o/\H b=Go:=by
 have e':=PySem.W.of_hideAll _ e;refine⟨e',?_⟩;cases q:H b with
 | none=>rfl
 | some x=>
  have z:(Pq h H).get? b=Go:=PySem.W.hideAll_none _ (PL.mpr ⟨Ri.mpr (DK e'),by simp[q]⟩);grind
def zby (g h:Heap)(L:Addr):List (Addr×Obj):=(LC h.objs.size).filterMap λa=>if a=L\/(g.get? a).isSome=true then Go else(h.get? a).map λo=>(a,o)
def rest (g h:Heap)(L d:Addr):List (Addr×Obj):=(zby g h L).filter λp=>decide (p.1≠d)
structure Mod (K:Zf) (mg:Str->Option JI) (base:Heap):Prop where
 kin:K.In base
 glob:base.Ns CR mg
 blt:∃mb,base.Ns builtinsNs mb/\∀x:Str,x ≠ "__name__"->mb x=P0 x
 nolimit:base.NoLimit
structure Cx where
 prog:BK
 w:Av
 K:Zf
 mg:Str->Option JI
 base:Heap
 A:BP
 N:List Str
 s₀:Mk
 H₀:Hp
 env:Env
 outer:List Env
 stack:List Env
 ex:List Addr
 fn:Str->Bool
 calm:Bool
 pn:List (Addr×Obj)
 xe:JI->Mk->Prop
def frs (l:List Env):List Addr:=l.filterMap (·.frame)
abbrev Cx.fs (X:Cx):List Addr:=frs X.outer
def Oi (sc:Scope)(x:Str):Prop:=sc.names.lookup x=Dn .local\/sc.names.lookup x=Dn .cell\/sc.names.lookup x=Dn .free
def Loc (sc:Scope)(x:Str):Prop:=sc.names.lookup x=Dn .local\/sc.names.lookup x=Dn .cell
def Look (env:Env)(h:Heap)(m:Str->Option JI)(x:Str)(u:JI):Prop:=
 (env.kindOf x=Dn .local/\m x=Dn u)\/((env.kindOf x=Dn .cell\/env.kindOf x=Dn .free)/\∃c,env.cells.lookup x=Dn c/\h.IsCell c (Dn u))
inductive Mp (H:Hp):JI->Prop
 | nil:Mp H .none
 | cons {c:Addr}{o:Obj}{u:HO}{vs:Array JI}{z:JI}(h1:H c=Dn (.frz o u)) (h2:o.data=.fields vs) (h3:vs[2]?=Dn z) (t:Mp H z):Mp H (.ref c)
theorem Mp.mono {v:JI}(c:Mp H v)(k:∀a o u,H a=Dn (.frz o u)->H' a=Dn (.frz o u)):Mp H' v:=by
 induction c with
 | nil=>exact .nil
 | cons h1 h2 h3 _ ih=>exact .cons (k _ _ _ h1) h2 h3 ih
def Still (H:Hp)(v:JI):Prop:=(∃a,v=.ref a)/\Mp H v
def Quiet (A:BP)(H:Hp):Prop:=∀v,A.handled=Dn v->Still H v
structure Cx.Ok (X:Cx):Prop where
 mod:Mod X.K X.mg X.base
 kind:X.env.scope.kind=.function
 glob:X.env.globals=CR
 blt:X.env.builtins=builtinsNs
 above:X.s₀.heap.objs.size<=X.env.locals
 inj:∀x y c,X.env.cells.lookup x=Dn c->X.env.cells.lookup y=Dn c->x=y
 has:∀x,(X.env.kindOf x=Dn .cell\/X.env.kindOf x=Dn .free)->∃c,X.env.cells.lookup x=Dn c
 cab:∀x c,X.fn x=true->X.env.cells.lookup x=Dn c->X.s₀.heap.objs.size<=c
 hd:X.calm=true->X.A.handled=Go
 qt:Quiet X.A X.H₀
 frames:X.A.frames=Dn X.stack
 stk:X.stack=X.outer\/(X.stack=X.env::X.outer/\X.env.frame=Dn X.env.locals)
 exf:∀b∈X.ex,b≠X.env.locals/\∀x c,X.env.cells.lookup x=Dn c->c≠b
 bs:∀b o,X.base.get? b=Dn o->X.s₀.heap.get? b=Dn o/\X.H₀ b=Go
 bsz:X.base.objs.size<=X.s₀.heap.objs.size
 noex:∀b o,X.base.get? b=Dn o->b∉X.ex
 exfs:∀b∈X.ex,b∉X.fs
 funs:X.s₀.heap.FunFrames X.base X.outer
 frf:∀b∈X.fs,X.H₀ b=Go
structure Yu (X:Cx) (afn:List (Addr×Obj)) (U:List (Option V)) (H:Hp) (s:Mk):Prop where
 ok:X.Ok
 os:s.os=X.s₀.os
 bare:Ng s.gens
 base:Un X.fs X.ex X.H₀ H X.s₀.heap s.heap
 loc:∃m,s.heap.Ns X.env.locals m/\∀(i:Nat) (x:Str) (v:V),X.N[i]?=Dn x->U[i]?=Dn (Dn v)->Oi X.env.scope x->∃u,RelV v u/\Look X.env s.heap m x u
 cell:∀x c,X.env.cells.lookup x=Dn c->∃v,s.heap.IsCell c v
 free:H X.env.locals=Go
 freeC:∀x c,X.env.cells.lookup x=Dn c->H c=Go
 pin:∀p∈X.pn++afn,s.heap.get? p.1=Dn p.2/\H p.1=Go/\p.1≠X.env.locals/\p.1∉X.fs/\∀v,p.2.data≠.cell v
 hok:GP X.prog X.w H s.heap
 len:U.length=X.N.length
section
variable {X:Cx}{afn:List (Addr×Obj)}{U:List (Option V)}{s:Mk}
theorem Cx.Ok.nofr (ok:X.Ok){o:Obj}(e:X.base.get? b=Dn o):b∉X.fs:=λhb=>by
 have:=(ok.funs.mem hb).1
 grind
theorem Yu.bs (I:Yu X afn U H s):∀b o,X.base.get? b=Dn o->s.heap.get? b=Dn o/\H b=Go:=λb o e=>
 ⟨I.base.keep b o (I.ok.bs b o e).1 (I.ok.bs b o e).2 (I.ok.nofr e) (I.ok.noex b o e),I.base.free b o (I.ok.bs b o e).1 (I.ok.bs b o e).2 (I.ok.noex b o e)⟩
theorem Yu.qt0 (I:Yu X afn U H s):Quiet X.A H:=λv e=>⟨(I.ok.qt v e).1,(I.ok.qt v e).2.mono I.base.frzs⟩
theorem Yu.bk (I:Yu X afn U H s):∀b o,X.base.get? b=Dn o->s.heap.get? b=Dn o:=λb o e=>(I.bs b o e).1
theorem Yu.mod (I:Yu X afn U H s):Mod X.K X.mg X.base:=I.ok.mod
theorem Yu.kIn (I:Yu X afn U H s):X.K.In s.heap:=I.ok.mod.kin.keeps I.bk
theorem Yu.lt (I:Yu X afn U H s):X.env.locals<s.heap.objs.size:=let⟨_,hn,_⟩:=I.loc;hn.lt
theorem Yu.sz (I:Yu X afn U H s):X.s₀.heap.objs.size<=s.heap.objs.size:=Dp I.ok.above (PB I.lt)
theorem Yu.nofs (I:Yu X afn U H s)(h:s.heap.objs.size<=a):a∉X.fs:=λhb=>by
 obtain⟨_,o,ho,_⟩:=I.ok.funs.mem hb;exact absurd (Df (DK ho)<|Dp I.sz h)<|MH _
theorem Yu.cne (I:Yu X afn U H s):∀x c,X.env.cells.lookup x=Dn c->c≠X.env.locals:=λx c e z=>by
 obtain⟨v,o,ho,hd⟩:=I.cell x c e;obtain⟨m,⟨o',es,ep,ho',hd',_⟩,_⟩:=I.loc;grind
theorem Yu.funs (I:Yu X afn U H s):s.heap.FunFrames X.base X.outer:=by
 have all:∀(l:List Env),(∀b∈frs l,b∈X.fs)->X.s₀.heap.FunFrames X.base l->s.heap.FunFrames X.base l:=by
  intro l;induction l with
  | nil=>intro _ _;trivial
  | cons env r ih=>
   intro hs hl;obtain⟨hk,⟨L,o,hf,hn,ho,hd⟩,hr⟩:=hl;have hL:=hs L (by unfold frs;rw[List.filterMap_cons,hf];exact Eb);obtain⟨sl,e⟩:=I.base.slot L o ho (I.ok.frf L hL) hL λz=>I.ok.exfs L z hL
   exact⟨hk,⟨L,_,hf,hn,e,hd⟩,ih (λb hb=>hs b (by unfold frs;rw[List.filterMap_cons,hf];exact Hj _ hb)) hr⟩
 exact all _ (λ_ hb=>hb) I.ok.funs
theorem Yu.stack (I:Yu X afn U H s):s.heap.FunFrames X.base X.stack:=by
 rcases I.ok.stk with e|⟨e,hf⟩
 rw[e];exact I.funs;rw[e];obtain⟨m,hn,_⟩:=I.loc;refine .cons (by rw[I.ok.kind];decide) hf hn ?_ I.funs;exact UJ<|Dp I.ok.bsz I.ok.above
theorem Yu.stkSub (I:Yu X afn U H s):∀b∈frs X.stack,b∈X.env.locals::X.fs:=λb hb=>by
 rcases I.ok.stk with e|⟨e,hf⟩
 grind
 rw[e]at hb;unfold frs at hb
 rwa[List.filterMap_cons,hf]at hb
theorem Yu.stkFree (I:Yu X afn U H s):∀b∈frs X.stack,H b=Go:=λb hb=>by
 rcases Bg.mp (I.stkSub b hb)with e|hb
 rw[e];exact I.free;obtain⟨_,o,ho,_⟩:=I.ok.funs.mem hb;exact I.base.free b o ho (I.ok.frf b hb) λz=>I.ok.exfs b z hb
theorem Yu.stepG {g':Array GenState}{t':Nat}{d':Drawn}{ch:List Addr}(I:Yu X afn U H s)
  (hch:∀b∈ch,(b∈X.ex\/X.s₀.heap.get? b=Go)/\b≠X.env.locals/\(∀x c,X.env.cells.lookup x=Dn c->c≠b)/\∀p∈X.pn++afn,p.1≠b)
  (keep:∀b o,b≠X.env.locals->b∉X.fs->b∉ch->s.heap.get? b=Dn o->H b=Go->h'.get? b=Dn o)
  (slot:∀b o,b≠X.env.locals->b∈X.fs->b∉ch->s.heap.get? b=Dn o->H b=Go->∃sl,h'.get? b=Dn {o with slots:=sl}) (free:∀b o,b∉ch->s.heap.get? b=Dn o->H b=Go->H' b=Go)
  (there:∀b o,b∉ch->s.heap.get? b=Dn o->∃o',h'.get? b=Dn o')
  (tups:∀b xs,H b=Dn (.tup xs)->H' b=Dn (.tup xs)) (frzs:∀b o u,H b=Dn (.frz o u)->H' b=Dn (.frz o u)) (tbls:∀b ps,H b=Dn (.tbl ps)->∃more,H' b=Dn (.tbl (ps++more)))
  (ns:∀m,s.heap.Ns X.env.locals m->h'.Ns X.env.locals m) (hok:GP X.prog X.w H' h') (hg:Ng g') :
  Yu X afn U H' {s with heap:=h',gens:=g',drawn:=d',toks:=t'}:=by
 have neL:∀b o,X.s₀.heap.get? b=Dn o->b≠X.env.locals:=λb o e=>Cg (Df (DK e) I.ok.above)
 have neC:∀b o,X.s₀.heap.get? b=Dn o->b∉X.ex->b∉ch:=λb o e hx hb=>by
  rcases(hch b hb).1 with z|z
  exact hx z;rw[z]at e;cases e
 have cellK:∀x c,X.env.cells.lookup x=Dn c->∀v,s.heap.IsCell c v->h'.IsCell c v:=λx c e v ⟨o,ho,hd⟩=>by
  have nch:=λz=>(hch c z).2.2.1 x c e rfl
  by_cases hc:c∈X.fs
  obtain⟨sl,q⟩:=slot c o (I.cne x c e) hc nch ho (I.freeC x c e);exact⟨_,q,hd⟩;exact⟨o,keep c o (I.cne x c e) hc nch ho<|I.freeC x c e,hd⟩
 refine⟨I.ok,I.os,hg,⟨λb o e n hb hx=>?_,λb o e n hb hx=>?_,λb o e n hx=>?_,λb o e hx=>?_,λb xs e=>tups b xs<|I.base.tups b xs e,λb o xs e=>frzs b o xs<|I.base.frzs b o xs e,λb ps e=>?_⟩,?_,λx c e=>?_,?_,λx c e=>?_,λp hp=>?_,hok,I.len⟩;exact keep b o (neL b o e) hb (neC b o e hx) (I.base.keep b o e n hb hx)<|I.base.free b o e n hx
 obtain⟨sl,e1⟩:=I.base.slot b o e n hb hx;obtain⟨sl',e2⟩:=slot b _ (neL b o e) hb (neC b o e hx) e1 (I.base.free b o e n hx);exact⟨sl',e2⟩;obtain⟨o',e1⟩:=I.base.there b o e hx;exact free b o' (neC b o e hx) e1<|I.base.free b o e n hx
 obtain⟨o',e1⟩:=I.base.there b o e hx;exact there b o' (neC b o e hx) e1;obtain⟨m1,e1⟩:=I.base.tbls b ps e;obtain⟨m2,e2⟩:=tbls b _ e1;exact⟨m1++m2,by rw[e2,Array.append_assoc]⟩;obtain⟨m,hn,hl⟩:=I.loc;refine⟨m,ns m hn,λi x v e1 e2 e3=>?_⟩;obtain⟨u,r,l⟩:=hl i x v e1 e2 e3;refine⟨u,r,?_⟩;rcases l with l|⟨k,c,e,z⟩
 exact .inl l;exact .inr ⟨k,c,e,cellK x c e _ z⟩;obtain⟨v,z⟩:=I.cell x c e;exact⟨v,cellK x c e v z⟩;obtain⟨m,⟨o,_,_,ho,_⟩,_⟩:=I.loc;exact free _ o (λz=>(hch _ z).2.1 rfl) ho I.free;obtain⟨v,o,ho,hd⟩:=I.cell x c e;exact free c o (λz=>(hch c z).2.2.1 x c e rfl) ho<|I.freeC x c e
 obtain⟨e,n,ne,nf,d⟩:=I.pin p hp;have nch:=λz=>(hch _ z).2.2.2 p hp rfl
 exact⟨keep _ _ ne nf nch e n,free _ p.2 nch e n,ne,nf,d⟩
theorem Yu.step {g':Array GenState}{t':Nat}{d':Drawn}{ch:List Addr}(I:Yu X afn U H s)
  (hch:∀b∈ch,(b∈X.ex\/X.s₀.heap.objs.size<=b)/\b≠X.env.locals/\(∀x c,X.env.cells.lookup x=Dn c->c≠b)/\∀p∈X.pn++afn,p.1≠b)
  (keep:∀b o,b≠X.env.locals->b∉X.fs->b∉ch->s.heap.get? b=Dn o->H b=Go->h'.get? b=Dn o)
  (slot:∀b o,b≠X.env.locals->b∈X.fs->b∉ch->s.heap.get? b=Dn o->H b=Go->∃sl,h'.get? b=Dn {o with slots:=sl}) (free:∀b o,b∉ch->s.heap.get? b=Dn o->H b=Go->H' b=Go)
  (there:∀b o,b∉ch->s.heap.get? b=Dn o->∃o',h'.get? b=Dn o')
  (tups:∀b xs,H b=Dn (.tup xs)->H' b=Dn (.tup xs)) (frzs:∀b o u,H b=Dn (.frz o u)->H' b=Dn (.frz o u)) (tbls:∀b ps,H b=Dn (.tbl ps)->∃more,H' b=Dn (.tbl (ps++more)))
  (ns:∀m,s.heap.Ns X.env.locals m->h'.Ns X.env.locals m) (hok:GP X.prog X.w H' h') (hg:Ng g') :
  Yu X afn U H' {s with heap:=h',gens:=g',drawn:=d',toks:=t'}:=
 I.stepG (λb z=>⟨(hch b z).1.imp id λq=>UJ q,(hch b z).2⟩) keep slot free there tups frzs tbls ns hok hg
theorem Yu.un {t':Nat}(I:Yu X afn U H s)(u:Un X.fs [] H H' s.heap h')(hok:GP X.prog X.w H' h'):Yu X afn U H' {s with heap:=h',toks:=t'}:=by
 obtain⟨m,⟨o,es,ep,ho,r⟩,_⟩:=I.loc;obtain⟨sl,hL⟩:=u.any ho I.free (by simp);exact I.step (ch:=[]) nofun (λb o _ hb _ e n=>u.keep b o e n hb (by simp)) (λb o _ hb _ e n=>u.slot b o e n hb (by simp)) (λb o _ e n=>u.free b o e n (by simp)) (λb o _ e=>u.there b o e (by simp)) u.tups u.frzs u.tbls (λm' hm=>by
  obtain⟨o',es',ep',ho',r'⟩:=hm;rw[ho]at ho';cases ho';exact⟨_,es',ep',hL,r'⟩) hok I.bare
theorem Yu.call {g':Array GenState}{t':Nat}{d':Drawn}{ch:List Addr}(I:Yu X afn U H s)(u:Un (frs X.stack) ch H H' s.heap h')(hok:GP X.prog X.w H' h')(hg:Ng g')
  (hch:∀b∈ch,(b∈X.ex\/X.s₀.heap.objs.size<=b)/\b≠X.env.locals/\(∀x c,X.env.cells.lookup x=Dn c->c≠b)/\∀p∈X.pn++afn,p.1≠b) :
  Yu X afn U H' {s with heap:=h',gens:=g',drawn:=d',toks:=t'}:=by
 obtain⟨m,⟨o,es,ep,ho,r⟩,_⟩:=I.loc;obtain⟨sl,hL⟩:=u.any ho I.free λz=>(hch _ z).2.1 rfl
 exact I.step hch (λb o hL hb hc e n=>u.keep b o e n (λz=>(Bg.mp (I.stkSub b z)).elim hL hb) hc) (λb o _ _ hc e n=>u.any e n hc) (λb o hc e n=>u.free b o e n hc) (λb o hc e=>u.there b o e hc) u.tups u.frzs u.tbls (λm' hm=>by
  obtain⟨o',es',ep',ho',r'⟩:=hm;rw[ho]at ho';cases ho';exact⟨_,es',ep',hL,r'⟩) hok hg
theorem Yu.turned {t':Nat}{it:Addr}(I:Yu X afn U H s)(k:∀b o,b≠it->s.heap.get? b=Dn o->h'.get? b=Dn o)(hn:H it=Go)(hL:it≠X.env.locals)
  (h1:it∈X.ex\/X.s₀.heap.objs.size<=it) (h2:∀x c,X.env.cells.lookup x=Dn c->c≠it) (h3:∀p∈X.pn++afn,p.1≠it):Yu X afn U H {s with heap:=h',toks:=t'}:=by
 have nit:∀b u,H b=Dn u->b≠it:=λb u e z=>by rw[z,hn]at e;cases e
 refine I.step (ch:=[it]) (λb hb=>?_) (λb o _ _ hc e _=>k b o (λz=>hc<|by simp[z]) e) (λb o _ _ hc e _=>⟨o.slots,k b o (λz=>hc<|by simp[z]) e⟩) (λ_ _ _ _ n=>n)
  (λb o hc e=>⟨o,k b o (λz=>hc (by simp[z])) e⟩) (λ_ _ e=>e) (λ_ _ _ e=>e) (λb ps e=>⟨#[],by rw[e];simp⟩) (λm hm=>?_) (λb u e=>?_) I.bare
 grind
 obtain⟨o,es,ep,ho,r⟩:=hm;exact⟨o,es,ep,k _ o (HF hL) ho,r⟩;refine(I.hok b u e).stay (λc v hc q=>k c v ?_ q) (λ_ q=>q) λ_ _ q=>q;rcases hc with z|z
 grind
 exact nit c _ z
theorem Yu.tok (I:Yu X afn U H s)(t:Nat):Yu X afn U H {s with toks:=t}:=I.un Un.refl I.hok
theorem Yu.kept {t':Nat}(I:Yu X afn U H s)(k:∀b u,s.heap.get? b=Dn u->h'.get? b=Dn u):Yu X afn U H {s with heap:=h',toks:=t'}:=I.un (Un.kept k) (I.hok.kept k)
theorem Yu.laid {a:Addr}{o:HO}{t':Nat}(I:Yu X afn U H s)(k:∀b u,s.heap.get? b=Dn u->h'.get? b=Dn u)(hp:s.heap.objs.size<=a)(new:fM X.prog X.w (CN H a o) h' a o) :
  Yu X afn U (CN H a o) {s with heap:=h',toks:=t'}:=I.un (Un.laid k hp (I.hok.fresh hp)) (I.hok.laid k hp new)
theorem Yu.write {x e:Addr}{o:HO}{t':Nat}(I:Yu X afn U H s)(mu:Mut (H x))(he:e=x\/H e=Dn (.own x))(k:∀b u,b≠e->s.heap.get? b=Dn u->h'.get? b=Dn u)(heo:∃u,h'.get? e=Dn u)
  (new:fM X.prog X.w (CN H x o) h' x o):Yu X afn U (CN H x o) {s with heap:=h',toks:=t'}:=I.un (Un.write mu he k heo) (I.hok.write mu he k heo new)
theorem Yu.weak {U':List (Option V)}(I:Yu X afn U H s)(hl:U'.length=U.length)(w:∀(i:Nat) v,U'[i]?=Dn (Dn v)->U[i]?=Dn (Dn v)):Yu X afn U' H s:=
 ⟨I.ok,I.os,I.bare,I.base,let⟨m,hn,hl'⟩:=I.loc;⟨m,hn,λi x v e1 e2 e3=>hl' i x v e1 (w i v e2) e3⟩,I.cell,I.free,I.freeC,I.pin,I.hok,hl.trans I.len⟩
theorem Yu.pins_of {pins':List (Addr×Obj)}(I:Yu X afn U H s)(h:∀p∈pins',s.heap.get? p.1=Dn p.2/\H p.1=Go/\p.1≠X.env.locals/\p.1∉X.fs/\∀v,p.2.data≠.cell v):Yu X pins' U H s:=
 ⟨I.ok,I.os,I.bare,I.base,I.loc,I.cell,I.free,I.freeC,λp hp=>(Fv.mp hp).elim (λz=>I.pin p (RW _ z)) (h p),I.hok,I.len⟩
theorem yZ {N:List Str}(hN:N.Nodup){i j:Nat}{x:Str}(a:N[i]?=Dn x)(b:N[j]?=Dn x):i=j:=by
 obtain⟨h1,e1⟩:=HY.mp a;obtain⟨h2,e2⟩:=HY.mp b;exact(List.getElem_inj hN).mp (e1.trans e2.symm)
theorem uM {M:Model}{A:BP}{E:JI->Mk->Prop}{i:Nat}{x:Str}{v:V}{Q:Unit->Mk->Prop}(I:Yu X afn U H s)(hN:X.N.Nodup)(hi:X.N[i]?=Dn x)(hx:Loc X.env.scope x)(r:RelV v u)
  (h:∀s',Yu X afn (U.set i (Dn v)) H s'->(∃a,QC a s.heap s'.heap/\(a=X.env.locals\/X.env.cells.lookup x=Dn a))->Q () s') (hf:X.fn x=true\/X.env.scope.names.lookup x=Dn .local:=by first|exact .inl rfl|exact .inr rfl|assumption):Ae M A (storeName X.env x u) Q E s:=by
 obtain⟨m,hn,hl⟩:=id I.loc;have hiU:i < U.length:=by rw[I.len];exact(HY.mp hi).1
 have cne:=I.cne;have tracked:∀{a:Addr}{h':Heap},(∃o,s.heap.get? a=Dn o/\H a=Go)->QC a s.heap h'->GP X.prog X.w H h':=λ{a h'} ha hs b ob e=>by
  obtain⟨_,_,hfree⟩:=ha;refine(I.hok b ob e).stay (λc w' hc q=>(hs.2 c ?_).trans q) (λ_ q=>q) λ_ _ q=>q;rintro rfl;rcases hc with rfl|hc
  rw[hfree]at e;cases e;rw[hfree]at hc;cases hc
 rcases hx with hk|hk
 refine wpAny_storeName_local hk hn (λh' hn' hs=>?_) (by rw[I.ok.kind];rfl);obtain⟨oL,_,_,hoL,_⟩:=id hn;refine h _ ⟨I.ok,I.os,I.bare,⟨λb o e n hb hx=>?_,λb o e n hb hx=>?_,I.base.free,λb o e hx=>?_,I.base.tups,I.base.frzs,I.base.tbls⟩,⟨_,hn',λj y v' e1 e2 e3=>?_⟩,λy c e=>?_,I.free,I.freeC,λp hp=>?_,tracked ⟨oL,hoL,I.free⟩ hs,by simpa using I.len⟩ ⟨_,hs,.inl rfl⟩;exact(hs.2 b<|Cg<|Df (DK e) I.ok.above).trans (I.base.keep b o e n hb hx);obtain⟨sl,e1⟩:=I.base.slot b o e n hb hx;exact⟨sl,(hs.2 b<|Cg<|Df (DK e) I.ok.above).trans e1⟩;obtain⟨o',e1⟩:=I.base.there b o e hx;exact⟨o',(hs.2 b<|Cg<|Df (DK e) I.ok.above).trans e1⟩;by_cases hj:j=i
 subst hj;rw[hi]at e1;cases e1;rw[List.getElem?_set_self hiU]at e2;cases e2;exact⟨u,r,.inl ⟨hk,by simp⟩⟩;rw[List.getElem?_set_ne (HF hj)]at e2;obtain⟨u',r',q⟩:=hl j y v' e1 e2 e3;refine⟨u',r',?_⟩;rcases q with⟨k,e⟩|⟨k,c,e,z⟩
 refine .inl ⟨k,?_⟩;have:y≠x:=λe=>hj (yZ hN e1 (e ▸ hi))
 simp[this,e];exact .inr ⟨k,c,e,z.sameBut hs<|cne y c e⟩;obtain⟨w',z⟩:=I.cell y c e;exact⟨w',z.sameBut hs<|cne y c e⟩;obtain⟨e,n,ne,nf,d⟩:=I.pin p hp;exact⟨(hs.2 p.1 ne).trans e,n,ne,nf,d⟩;have hfn:X.fn x=true:=by
  rcases hf with z|z
  exact z;rw[z]at hk;cases hk
 obtain⟨c,hc⟩:=I.ok.has x (.inl hk);obtain⟨w',z⟩:=I.cell x c hc;refine wpAny_storeName_cell I.ok.kind hk hc z<|λh' hc' hs=>?_
 obtain⟨oc,hoc,hocd⟩:=id z;refine h {s with heap:=h'} ⟨I.ok,I.os,I.bare,⟨λb o e n hb hx=>?_,λb o e n hb hx=>?_,I.base.free,λb o e hx=>?_,I.base.tups,I.base.frzs,I.base.tbls⟩,⟨m,hn.sameBut hs<|HF<|cne x c hc,λj y v' e1 e2 e3=>?_⟩,λy c' e=>?_,I.free,I.freeC,λp hp=>?_,tracked ⟨oc,hoc,I.freeC x c hc⟩ hs,by simpa using I.len⟩ ⟨c,hs,.inr hc⟩;exact(hs.2 b<|Cg<|Df (DK e)<|I.ok.cab x c hfn hc).trans (I.base.keep b o e n hb hx);obtain⟨sl,e1⟩:=I.base.slot b o e n hb hx;exact⟨sl,(hs.2 b<|Cg<|Df (DK e)<|I.ok.cab x c hfn hc).trans e1⟩;obtain⟨o',e1⟩:=I.base.there b o e hx;exact⟨o',(hs.2 b<|Cg<|Df (DK e)<|I.ok.cab x c hfn hc).trans e1⟩;by_cases hj:j=i
 subst hj;rw[hi]at e1;cases e1;rw[List.getElem?_set_self hiU]at e2;cases e2;exact⟨u,r,.inr ⟨.inl hk,c,hc,hc'⟩⟩;rw[List.getElem?_set_ne (HF hj)]at e2;obtain⟨u',r',q⟩:=hl j y v' e1 e2 e3;refine⟨u',r',?_⟩;rcases q with q|⟨k,c',e,z'⟩
 exact .inl q;refine .inr ⟨k,c',e,z'.sameBut hs ?_⟩;rintro rfl;exact hj<|yZ hN e1<|I.ok.inj _ _ _ e hc ▸ hi
 by_cases hcc:c'=c
 subst hcc;exact⟨_,hc'⟩;obtain⟨w2,z2⟩:=I.cell y c' e;exact⟨w2,z2.sameBut hs hcc⟩;obtain⟨e,n,ne,nf,d⟩:=I.pin p hp;refine⟨(hs.2 p.1 ?_).trans e,n,ne,nf,d⟩;intro q;rw[q,hoc]at e;exact d w'<|(Ge e) ▸ hocd
theorem rW {M:Model}{A:BP}{E:JI->Mk->Prop}{i:Nat}{x:Str}{v:V}{Q:Unit->Mk->Prop}(I:Yu X afn U H s)(hN:X.N.Nodup)(hi:X.N[i]?=Dn x)(hx:Loc X.env.scope x)(r:RelV v u)
  (h:∀s',Yu X afn (U.set i (Dn v)) H s'->Q () s') (hf:X.fn x=true\/X.env.scope.names.lookup x=Dn .local:=by first|exact .inl rfl|exact .inr rfl|assumption):Ae M A (storeName X.env x u) Q E s:=
 uM I hN hi hx r (λs' I' _=>h s' I') hf
theorem Yu.call' {s':Mk}{ch:List Addr}(I:Yu X afn U H s)(ho:s'.os=s.os)(u:Un (frs X.stack) ch H H' s.heap s'.heap)(hok:GP X.prog X.w H' s'.heap)(hg:Ng s'.gens)
  (hch:∀b∈ch,(b∈X.ex\/X.s₀.heap.objs.size<=b)/\b≠X.env.locals/\(∀x c,X.env.cells.lookup x=Dn c->c≠b)/\∀p∈X.pn++afn,p.1≠b):Yu X afn U H' s':=by
 obtain⟨h',g',d',t',o'⟩:=s';subst ho;exact I.call u hok hg hch
end
variable {X:Cx}{afn:List (Addr×Obj)}{N:List Str}{M:Model}{i j:Nat}{E:JI->Mk->Prop}{s':Mk}{A:BP}
abbrev XK:=JI->Option Addr->Hp->Prop
abbrev St:=List (Option V)
abbrev VK:=V->Hp->Prop
abbrev TE:=St->Hp->VK->Prop
abbrev TT:=St->Hp->(Bool->Hp->Prop)->Prop
abbrev TA:=St->Hp->(List V->Hp->Prop)->Prop
structure Ends where
 nx:St->Hp->Prop
 rt:VK
 bk:St->Hp->Prop:=λ_ _=>False
 ct:St->Hp->Prop:=λ_ _=>False
abbrev TS:=Ends->St->Hp->Prop
def EP (X:Cx)(afn:List (Addr×Obj))(U:St)(Q:VK)(u:JI)(s':Mk):Prop:=∃v H',Yu X afn U H' s'/\RelV v u/\Q v H'
def TP (X:Cx)(afn:List (Addr×Obj))(U:St)(Q:Bool->Hp->Prop)(b:Bool)(s':Mk):Prop:=∃H',Yu X afn U H' s'/\Q b H'
def zah (X:Cx)(afn:List (Addr×Obj))(U:St)(Q:List V->Hp->Prop)(us:List JI)(s':Mk):Prop:=∃vs H',Yu X afn U H' s'/\kI vs us/\Q vs H'
def SP (X:Cx)(afn:List (Addr×Obj))(D:Ends)(f:Flow)(s':Mk):Prop:=
 match f with
 | .next=>∃U' H',Yu X afn U' H' s'/\D.nx U' H'
 | .brk=>∃U' H',Yu X afn U' H' s'/\D.bk U' H'
 | .cont=>∃U' H',Yu X afn U' H' s'/\D.ct U' H'
 | .ret u=>∃v U' H',Yu X afn U' H' s'/\RelV v u/\D.rt v H'
def PE (X:Cx)(e:Expr)(t:TE):Prop:=
 ∀(afn:List (Addr×Obj)) (s:Mk) (U:St) (H:Hp) (Q:VK),Yu X afn U H s->t U H Q->Ae (Ai X.prog X.w) X.A (eval e X.env) (EP X afn U Q) X.xe s
def PT (X:Cx)(e:Expr)(t:TT):Prop:=
 ∀(afn:List (Addr×Obj)) (s:Mk) (U:St) (H:Hp) (Q:Bool->Hp->Prop),Yu X afn U H s->t U H Q->Ae (Ai X.prog X.w) X.A (isTrue e X.env (eval e X.env)) (TP X afn U Q) X.xe s
def PW (X:Cx)(e:Expr)(t:TT):Prop:=
 ∀(whole:Sem JI) (afn:List (Addr×Obj)) (s:Mk) (U:St) (H:Hp) (Q:Bool->Hp->Prop),Yu X afn U H s->t U H Q->Ae (Ai X.prog X.w) X.A (isTrue e X.env whole) (TP X afn U Q) X.xe s
variable {e:Expr}
theorem PW.pt {t:TT}(h:PW X e t):PT X e t:=h _
def PA (X:Cx)(es:List Expr)(t:TA):Prop:=
 ∀(pos:Pos) (afn:List (Addr×Obj)) (s:Mk) (U:St) (H:Hp) (Q:List V->Hp->Prop),Yu X afn U H s->t U H Q->Ae (Ai X.prog X.w) X.A (spliced (Ef pos (Al es X.env))) (zah X afn U Q) X.xe s
def PS (X:Cx)(st:Stmt)(t:TS):Prop:=
 ∀(afn:List (Addr×Obj)) (s:Mk) (U:St) (H:Hp) (D:Ends),Yu X afn U H s->t D U H->Ae (Ai X.prog X.w) X.A (exec st X.env) (SP X afn D) X.xe s
def LI (X:Cx)(st:List Stmt)(t:TS):Prop:=
 ∀(afn:List (Addr×Obj)) (s:Mk) (U:St) (H:Hp) (D:Ends),Yu X afn U H s->t D U H->Ae (Ai X.prog X.w) X.A (execs st X.env) (SP X afn D) X.xe s
theorem Bj {α:Type}{t:Sem α}{Q Q':α->Mk->Prop}{s:Mk}(h:Ae M A t Q E s)(hQ:∀a s,Q a s->Q' a s):Ae M A t Q' E s:=Hw h hQ λ_ _ x=>x
section
def W0 (i:Nat):TE:=λU H Q=>∃v,U[i]?=Dn (Dn v)/\Q v H
def tC (v:V):TE:=λ_ H Q=>Q v H
theorem aea {x:Str}{pos:Pos}(hN:X.N[i]?=Dn x)(hv:Oi X.env.scope x)(hd:(x==("__debug__" : Str))=false:=by decide)(hcd:(x==("__classdict__" : Str))=false:=by decide):PE X (.Name x pos) (W0 i):=by
 intro afn s U H Q I h;obtain⟨v,e,h⟩:=h;obtain⟨m,hn,hl⟩:=I.loc;obtain⟨u,r,l⟩:=hl i x v hN e hv;have fin:EP X afn U Q u s:=⟨v,H,I,r,h⟩
 rcases l with⟨hk,hm⟩|⟨hk,c,hc,hcell⟩
 exact wpAny_Name (wpAny_loadName_local I.ok.kind hk hn hm fin) hd;rcases hk with hk|hk
 exact wpAny_Name (wpAny_loadName_cell I.ok.kind hk hc hcell fin) hd;exact wpAny_Name (wpAny_loadName_free I.ok.kind hk hc hcell fin hcd) hd
theorem Vb {i j pos}:PE X (.Constant (.int i) j pos) (tC (.int i)):=λ_ _ _ H _ I h=>wpAny_Constant_int ⟨.int i,H,I.tok _,⟨_,rfl⟩,h⟩
theorem XQ {b j pos}:PE X (.Constant (.bool b) j pos) (tC (.bl b)):=λ_ _ _ H _ I h=>Constant_bool ⟨.bl b,H,I,rfl,h⟩
theorem acU {j pos}:PE X (.Constant .none j pos) (tC .non):=λ_ _ _ H _ I h=>Constant_none ⟨.non,H,I,rfl,h⟩
theorem JM {x j pos}:PE X (.Constant (.str x) j pos) (tC (.str x)):=λ_ _ _ H _ I h=>Rx ⟨.str x,H,I.tok _,⟨_,rfl⟩,h⟩
def Gl (X:Cx)(x:Str):Prop:=X.env.kindOf x=Dn .globalImplicit
theorem qy {s:Mk}{U:St}{x:Str}{pos:Pos}{Q:JI->Mk->Prop}(I:Yu X afn U H s)(hg:Gl X x)(hm:X.mg x=Dn u)(h:Q u s)
  (hd:(x==("__debug__" : Str))=false:=by decide):Ae (Ai X.prog X.w) X.A (eval (.Name x pos) X.env) Q E s:=
 Calls.Name_function_global I.ok.kind hg (Calls.loadGlobal_global (I.ok.glob ▸ I.mod.glob.keeps I.bk) hm h) hd
theorem rD {s:Mk}{U:St}{x:Str}{pos:Pos}{Q:JI->Mk->Prop}(I:Yu X afn U H s)(hg:Gl X x)(hm:X.mg x=Go)(hv:P0 x=Dn u)(h:Q u s)
  (hn:x ≠ "__name__":=by decide) (hd:(x==("__debug__" : Str))=false:=by decide):Ae (Ai X.prog X.w) X.A (eval (.Name x pos) X.env) Q E s:=by
 obtain⟨mb,h1,h2⟩:=I.mod.blt;exact Calls.Name_function_global I.ok.kind hg (Calls.loadGlobal_builtin (I.ok.glob ▸ I.mod.glob.keeps I.bk) hm (I.ok.blt ▸ h1.keeps I.bk) ((h2 x hn).trans hv) h) hd
theorem eF {x:Str}{v:V}{pos:Pos}(hg:Gl X x)(hm:X.mg x=Dn u)(r:RelV v u)(hd:(x==("__debug__" : Str))=false:=by decide):PE X (.Name x pos) (tC v):=
 λ_ _ _ H _ I h=>qy I hg hm ⟨v,H,I,r,h⟩ hd
theorem j8 {x:Str}{v:V}{pos:Pos}(hg:Gl X x)(hm:X.mg x=Go)(hv:P0 x=Dn u)(r:RelV v u)(hn:x ≠ "__name__":=by decide)(hd:(x==("__debug__" : Str))=false:=by decide):PE X (.Name x pos) (tC v):=
 λ_ _ _ H _ I h=>rD I hg hm hv ⟨v,H,I,r,h⟩ hn hd
variable {a b:Expr}{ta tb:TE}{pos:Pos}
variable {tA tB':TT}{rest:List Expr}
def tOr (t u:TT):TT:=λU H Q=>t U H λc H1=>if c=true then Q true H1 else u U H1 Q
def Zv (t:TT):TT:=λU H Q=>t U H λc H1=>Q (!c) H1
theorem aeE (ha:PT X a tA):PW X (.BoolOp .Or [a] pos) tA:=by
 intro wh afn s U H Q I h;refine isTrue_or<|Bj (ha afn s U H Q I h) λc s1 e=>?_
 cases c with
 | false=>exact isTrue_or_nil e
 | true=>exact e
theorem Xr (ha:PT X a tA)(hb:PW X (.BoolOp .Or (b::rest) pos) tB'):PW X (.BoolOp .Or (a::b::rest) pos) (tOr tA tB'):=by
 intro wh afn s U H Q I h;refine isTrue_or<|Bj (ha afn s U H _ I h) λc s1 ⟨H1,I1,q1⟩=>?_
 cases c with
 | true=>exact⟨H1,I1,q1⟩
 | false=>exact hb wh afn s1 U H1 Q I1 q1
theorem acq (ha:PT X a tA):PT X (.UnaryOp .Not a pos) (Zv tA):=by
 intro afn s U H Q I h;exact isTrue_not<|ha afn s U H _ I h
def Xl (ta tb:TE):TE:=λU H Q=>ta U H λx H1=>∃c,x=.bl c/\if c=true then tb U H1 Q else Q (.bl false) H1
def XR (ta:TE):TE:=λU H Q=>ta U H λx H1=>∃c,x=.bl c/\Q (.bl (!c)) H1
theorem acR {op}{t:TE}(h:PE X a t):PE X (.BoolOp op [a] pos) t:=λafn s U H Q I hw=>BoolOp_one (h afn s U H Q I hw)
theorem Vt (ha:PE X a ta)(hb:PE X (.BoolOp .And (b::rest) pos) tb):PE X (.BoolOp .And (a::b::rest) pos) (Xl ta tb):=by
 intro afn s U H Q I h;refine BoolOp_and<|Bj (ha afn s U H _ I h) λv s1 ⟨x,H1,I1,r1,q1⟩=>?_
 obtain⟨c,rfl,q1⟩:=q1;cases r1;refine Sq ?_;cases c with
 | true=>exact hb afn s1 U H1 Q I1 q1
 | false=>exact⟨.bl false,H1,I1,rfl,q1⟩
theorem acy (ha:PE X a ta):PE X (.UnaryOp .Not a pos) (XR ta):=by
 intro afn s U H Q I h;refine UnaryOp_<|Bj (ha afn s U H _ I h) λv s1 ⟨x,H1,I1,r1,q1⟩=>?_
 obtain⟨c,rfl,q1⟩:=q1;cases r1;exact not_of<|Sq ⟨.bl<|!c,H1,I1,rfl,q1⟩
end
variable {pos:Pos}{U:St}{ta:TE}{Q:JI->Mk->Prop}
def Ez (K:Zf)(H:Hp)(a:Addr)(xs:List V):Prop:=
 Rd H a (.lst xs) \/
  ∃(o:Obj) (its:Array JI) (n:Nat),K.lookup a=Dn o/\o.cls=.type "list"/\o.dict=Go/\o.data=.seq its n/\its.size<=Bh/\kI xs its.toList
def Fw (K:Zf)(H:Hp)(a:Addr)(xs:List V):Prop:=
 Rd H a (.tup xs) \/
  ∃(o:Obj) (its:Array JI) (n:Nat),K.lookup a=Dn o/\o.cls=.type "tuple"/\o.data=.seq its n/\its.size<=Bh/\kI xs its.toList/\o.dict=Go
def ZW:JI->Option V
 | .none=>Dn .non
 | .bool b=>Dn (.bl b)
 | .int i _=>Dn (.int i)
 | .str x _=>Dn (.str x)
 | .bytes b _=>Dn (.byt b)
 | .float b _=>Dn (.flt b)
 | .ref a=>Dn (.ref a)
 | .type n=>Dn (.ty n)
 | _=>Go
theorem RelV.abs {x:V}(r:RelV x u):ZW u=Dn x:=by
 cases x with
 | non|bl _|ref _|ty _=>cases r;rfl
 | int _|str _|byt _|flt _=>obtain⟨t,rfl⟩:=r;rfl
theorem RelV.inj {x y:V}(r:RelV x u)(q:RelV y u):x=y:=Ge (r.abs.symm.trans q.abs)
theorem kI.inj:∀{xs ys:List V}{us:List JI},kI xs us->kI ys us->xs=ys
 | _,_,_,.nil,.nil=>rfl
 | _,_,_,.cons r t,.cons r' t'=>by rw[r.inj r',kI.inj t t']
section
variable {s:Mk}{ys:List V}
theorem Ez.of {K:Zf}(h:H a=Dn (.lst xs)):Ez K H a xs:=.inl (.inl h)
theorem Fw.of {K:Zf}(h:H a=Dn (.tup xs)):Fw K H a xs:=.inl (.inl h)
theorem Yu.list (I:Yu X afn U H s)(h:Ez X.K H a xs):∃its:List JI,kI xs its/\PlainL s.heap a its.toArray/\xs.length<=Bh:=by
 rcases h with h|⟨o,its,n,hk,hc,hd,hs,hz,r⟩
 obtain⟨z,its,n,r,e⟩:=h.ok I.hok;exact⟨its,r,⟨_,n,e,rfl,rfl,rfl⟩,z⟩;refine⟨its.toList,r,⟨o,n,I.kIn a o hk,hc,hd,by simpa using hs⟩,?_⟩;have e:=r.length;grind
theorem Yu.tupO (I:Yu X afn U H s)(h:Fw X.K H a xs):∃its:List JI,kI xs its/\Iu s.heap a its.toArray/\xs.length<=Bh:=by
 rcases h with h|⟨o,its,n,hk,hc,hs,hz,r,hd⟩
 obtain⟨z,its,r,p⟩:=h.ok I.hok;grind
 refine⟨its.toList,r,⟨o,I.kIn a o hk,hc,⟨n,by simpa using hs⟩,hd⟩,?_⟩;have e:=r.length;grind
theorem Yu.tuple (I:Yu X afn U H s)(h:Fw X.K H a xs):∃its:List JI,kI xs its/\IsTup s.heap a its.toArray/\xs.length<=Bh:=let⟨its,r,p,z⟩:=I.tupO h;⟨its,r,p.tup,z⟩
theorem Yu.list_inj (I:Yu X afn U H s)(h:Ez X.K H a xs)(h':Ez X.K H a ys):xs=ys:=by
 obtain⟨its,r,⟨o,n,e,_,_,d⟩,_⟩:=I.list h;obtain⟨its',r',⟨o',n',e',_,_,d'⟩,_⟩:=I.list h';rw[e]at e';cases e';rw[d]at d';injection d' with d1 _
 have:=by simpa using congrArg Array.toList d1
 subst this;exact r.inj r'
theorem Yu.tuple_inj (I:Yu X afn U H s)(h:Fw X.K H a xs)(h':Fw X.K H a ys):xs=ys:=by
 obtain⟨its,r,⟨o,e,_,n,d⟩,_⟩:=I.tuple h;obtain⟨its',r',⟨o',e',_,n',d'⟩,_⟩:=I.tuple h';rw[e]at e';cases e';rw[d]at d';injection d' with d1 _
 have:=by simpa using congrArg Array.toList d1
 subst this;exact r.inj r'
end
variable {K:Zf}
abbrev Cx.wish (X:Cx)(E:JI->Mk->Prop):Cx:={X with xe:=E}
abbrev Cx.nox (X:Cx):Cx:=X.wish λ_ _=>False
theorem Cx.Ok.wish {X:Cx}(ok:X.Ok)(E:JI->Mk->Prop):(X.wish E).Ok:=
 ⟨ok.mod,ok.kind,ok.glob,ok.blt,ok.above,ok.inj,ok.has,ok.cab,ok.hd,ok.qt,ok.frames,ok.stk,ok.exf,ok.bs,ok.bsz,ok.noex,ok.exfs,ok.funs,ok.frf⟩
theorem Cx.Ok.unwish (ok:(X.wish E).Ok):X.Ok:=
 ⟨ok.mod,ok.kind,ok.glob,ok.blt,ok.above,ok.inj,ok.has,ok.cab,ok.hd,ok.qt,ok.frames,ok.stk,ok.exf,ok.bs,ok.bsz,ok.noex,ok.exfs,ok.funs,ok.frf⟩
section
variable {s:Mk}
theorem Yu.wish (I:Yu X afn U H s)(E:JI->Mk->Prop):Yu (X.wish E) afn U H s:=⟨I.ok.wish E,I.os,I.bare,I.base,I.loc,I.cell,I.free,I.freeC,I.pin,I.hok,I.len⟩
theorem Yu.unwish (I:Yu (X.wish E) afn U H s):Yu X afn U H s:=⟨I.ok.unwish,I.os,I.bare,I.base,I.loc,I.cell,I.free,I.freeC,I.pin,I.hok,I.len⟩
theorem SP.unwish {D:Ends}{f:Flow}{s':Mk}(h:SP (X.wish E) afn D f s'):SP X afn D f s':=by
 cases f with
 | next|brk|cont=>obtain⟨U',H',I,q⟩:=h;exact⟨U',H',I.unwish,q⟩
 | ret u=>obtain⟨v,U',H',I,r,q⟩:=h;exact⟨v,U',H',I.unwish,r,q⟩
theorem LI.nox {st:List Stmt}{t:TS}(h:LI X.nox st t):LI X st t:=λafn s U H D I hw=>
 Hw (h afn s U H D (I.wish _) hw) (λ_ _ q=>q.unwish) λ_ _ z=>Nq z
end
section
variable {st:Stmt}{rest:List Stmt}{t u:TS}{te:TE}
def Ww:TS:=λD U H=>D.nx U H
def Z1 (t u:TS):TS:=λD U H=>t {D with nx:=u D} U H
theorem aci:LI X [] Ww:=λ_ _ U H _ I h=>wpAny_execs_nil ⟨U,H,I,h⟩
theorem yW (h1:PS X st t)(h2:LI X rest u):LI X (st::rest) (Z1 t u):=by
 intro afn s U H D I h;refine wpAny_execs_cons<|Bj (h1 afn s U H {D with nx:=u D} I h) λf s1 q=>?_
 cases f with
 | next=>
  obtain⟨U',H',I',q⟩:=q;exact h2 afn s1 U' H' D I' q
 | ret v|brk|cont=>exact q
theorem Cr (h1:PS X st t):LI X [st] t:=by
 intro afn s U H D I h;refine wpAny_execs_cons<|Bj (h1 afn s U H D I h) λf s1 q=>?_
 cases f with
 | next=>exact wpAny_execs_nil q
 | ret v|brk|cont=>exact q
theorem Yu.quiet {s:Mk}(I:Yu X afn U H s):interactive X.env=false:=by simp[interactive,I.ok.kind]
def Yg (te:TE):TS:=λD U H=>te U H λ_ H1=>D.nx U H1
theorem Gb (he:PE X e te)(hs:Pu e Go pos.line X.env=pure false:=by rfl):PS X (.Expr e pos) (Yg te):=by
 intro afn s U H D I h;exact wpAny_Expr_any (Bj (he afn s U H _ I h) λv s1 ⟨x,H1,I1,r1,q1⟩=>⟨U,H1,I1,q1⟩) I.quiet hs
def aap (te:TE):TS:=λD U H=>te U H D.rt
theorem aex (he:PE X e te):PS X (.Return (Dn e) pos) (aap te):=by
 intro afn s U H D I h;exact wpAny_Return_some<|Bj (he afn s U H _ I h) λv s1 ⟨x,H1,I1,r1,q1⟩=>⟨x,U,H1,I1,r1,q1⟩
def ZP (c:TT)(t u:TS):TS:=λD U H=>c U H λb H1=>if b=true then t D U H1 else u D U H1
theorem T4 {c:Expr}{a b:List Stmt}{tc:TT}(hc:PT X c tc)(ha:LI X a t)(hb:LI X b u):PS X (.If c a b pos) (ZP tc t u):=by
 intro afn s U H D I h;refine wpAny_If<|Bj (hc afn s U H _ I h) λd s1 ⟨H1,I1,q1⟩=>?_
 cases d with
 | true=>exact ha afn s1 U H1 D I1 q1
 | false=>exact hb afn s1 U H1 D I1 q1
end
variable {te:TE}
abbrev TG:=V->St->Hp->(St->Hp->Prop)->Prop
abbrev Nz:=List V->St->Hp->(St->Hp->Prop)->Prop
def PG (X:Cx)(target:Expr)(t:TG):Prop:=
 ∀(afn:List (Addr×Obj)) (s:Mk) (U:St) (H:Hp) (v:V) (u:JI) (Q:St->Hp->Prop),Yu X afn U H s->RelV v u->t v U H Q ->
  Ae (Ai X.prog X.w) X.A (assign target X.env u) (λ_ s'=>∃U' H',Yu X afn U' H' s'/\Q U' H') X.xe s
def Oj (X:Cx)(ts:List Expr)(t:Nz):Prop:=
 ∀(afn:List (Addr×Obj)) (s:Mk) (U:St) (H:Hp) (vs:List V) (us:List JI) (Q:St->Hp->Prop),Yu X afn U H s->kI vs us->t vs U H Q ->
  Ae (Ai X.prog X.w) X.A (assignInOrder ((Hz ts X.env).map (·.2)) us) (λ_ s'=>∃U' H',Yu X afn U' H' s'/\Q U' H') X.xe s
abbrev R9:=V->V->V->Hp->(Hp->Prop)->Prop
def Yh (X:Cx)(t:R9):Prop:=
 ∀(afn:List (Addr×Obj)) (s:Mk) (U:St) (H:Hp) (o i v:V) (ov iv u:JI) (Q:Hp->Prop),Yu X afn U H s->RelV o ov->RelV i iv->RelV v u->t o i v H Q ->
  Ae (Ai X.prog X.w) X.A (setItem ov iv u) (λ_ s'=>∃H',Yu X afn U H' s'/\Q H') X.xe s
section
def Cy (i:Nat):TG:=λv U H Q=>Q (U.set i (Dn v)) H
theorem fC {x:Str}(hN:X.N.Nodup)(hi:X.N[i]?=Dn x)(hx:Loc X.env.scope x)(hf:X.fn x=true\/X.env.scope.names.lookup x=Dn .local:=by first|exact .inl rfl|exact .inr rfl|assumption):PG X (.Name x pos) (Cy i):=by
 intro afn s U H v u Q I r h;exact wpAny_assign_Name<|rW I hN hi hx r (λs' I'=>⟨_,H,I',h⟩) hf
def Zw:Nz:=λvs U H Q=>vs=[]/\Q U H
def Wc (t:TG)(u:Nz):Nz:=λvs U H Q=>∃v r,vs=v::r/\t v U H λU' H'=>u r U' H' Q
theorem Ep:Oj X [] Zw:=by
 intro afn s U H vs us Q I r h;obtain⟨e,h⟩:=h;exact assignInOrder_nil ⟨U,H,I,h⟩
theorem tQ {es:List Expr}{t:TG}{u:Nz}(h1:PG X e t)(h2:Oj X es u)
  (hs:(Hz (e::es) X.env).map (·.2)=assign e X.env::(Hz es X.env).map (·.2):=by rfl):Oj X (e::es) (Wc t u):=by
 intro afn s U H vs us Q I r h;obtain⟨v,vr,e1,h⟩:=h;subst e1;cases r with
 | cons r rr=>
  exact hs ▸ assignInOrder_cons (Bj (h1 afn s U H _ _ _ I r h) λ_ s1 ⟨U1,H1,I1,q1⟩=>(h2 afn s1 U1 H1 _ _ Q I1 rr q1))
def Z2 (K:Zf)(n:Nat)(t:Nz):TG:=λv U H Q=>∃a xs,v=.ref a/\Fw K H a xs/\xs.length=n/\t xs U H Q
theorem acZ {es:List Expr}{k:Nat}{t:Nz}{n:Nat}(hc:X.calm=true)(h:Oj X es t)
  (hn:(Hz es X.env).length=n:=by rfl) (hst:(Hz es X.env).findIdx? (·.1)=Go:=by rfl):PG X (.Tuple es k pos) (Z2 X.K n t):=by
 intro afn s U H v u Q I r hw;obtain⟨a,xs,e1,hq,hl,hw⟩:=hw;subst e1;cases r;obtain⟨its,rv,ht,hz⟩:=I.tuple hq;exact assign_Tuple_tuple (I.ok.hd hc) ht (by simp[hn,<-hl,rv.length]) hst λh' hx=>(h afn _ U H xs _ Q (I.kept λb o e=>hx b o (Cg<|DK e) e) (by simpa using rv) hw)
def aao (to ti:TE)(t:R9):TG:=λv U H Q=>to U H λo H1=>ti U H1 λi H2=>t o i v H2 λH3=>Q U H3
theorem Vp {o i:Expr}{to ti:TE}{t:R9}(ho:PE X o to)(hi:PE X i ti)(hs:Yh X t)
  (ha:∀v,assign (.Subscript o i pos) X.env v=(do
   let ov <-holding [v] (eval o X.env)
   let iv <-holding [v,ov] (eval i X.env)
   standAt pos
   holding [v,ov,iv] (setItem ov iv v)
   release [v,ov,iv] []):=by intro _;rfl):PG X (.Subscript o i pos) (aao to ti t):=by
 intro afn s U H v u Q I r h;rw[ha];exact Zr<|Mg<|Bj (ho afn s U H _ I h) λov s1 ⟨x,H1,I1,r1,q1⟩=>(Zr<|Mg<|Bj (hi afn s1 U H1 _ I1 q1) λiv s2 ⟨y,H2,I2,r2,q2⟩=>(Zr<|wpAny_standAt<|Zr<|Mg<|Bj (hs afn s2 U H2 x y v ov iv u _ I2 r1 r2 r q2) λ_ s3 ⟨H3,I3,q3⟩=>(wpAny_release ⟨U,H3,I3,q3⟩)))
def Vu (te:TE)(g:TG):TS:=λD U H=>te U H λx H1=>g x U H1 D.nx
theorem Vr {tg:Expr}{g:TG}(he:PE X e te)(hg:PG X tg g)(hs:swapsWithSole [tg] e pos.line X.env=pure false:=by rfl)(hw:swappedStores [tg] e X.env=pure Go:=by rfl)
  (h1:(Hz [tg] X.env).map (·.2)=[assign tg X.env]:=by rfl):PS X (.Assign [tg] e pos) (Vu te g):=by
 intro afn s U H D I h;exact wpAny_Assign_stores (Bj (he afn s U H _ I h) λv s1 ⟨x,H1,I1,r1,q1⟩=>(h1 ▸ Bj (hg afn s1 U H1 x v _ I1 r1 q1) λ_ s2 q=>q)) hs hw
theorem JF {x:Str}{pos':Pos}(hN:X.N.Nodup)(hi:X.N[i]?=Dn x)(hx:Loc X.env.scope x)(he:PE X e te)(hs:Pu e (Dn (.Name x pos')) pos.line X.env=pure false:=by rfl)(hf:X.fn x=true\/X.env.scope.names.lookup x=Dn .local:=by first|exact .inl rfl|exact .inr rfl|assumption):
  PS X (.Assign [.Name x pos'] e pos) (Vu te (Cy i)):=by
 intro afn s U H D I h;exact wpAny_Assign_Name (Bj (he afn s U H _ I h) λv s1 ⟨y,H1,I1,r1,q1⟩=>(rW I1 hN hi hx r1 (λs2 I2=>⟨_,H1,I2,q1⟩) hf)) hs
end
variable {o tg:Expr}{es:List Expr}{k n:Nat}{pos':Pos}
section
end
theorem tL:entryFor table "proto.unchain" = Dn abB.«proto.unchain»:=entryFor_of_tree (by kernel_rfl)
inductive Dk (h:Heap):List Addr->JI->Prop
 | nil:Dk h [] .none
 | cons {c:Addr}{o:Obj}{vs:Array JI}{z:JI}{l:List Addr}(ho:h.get? c=Dn o) (hd:o.data=.fields vs) (h2:vs[2]?=Dn z) (t:Dk h l z):Dk h (c::l) (.ref c)
theorem Dk.keep {l:List Addr}{v:JI}(c:Dk h l v)(k:∀a∈l,∀o,h.get? a=Dn o->h'.get? a=Dn o):Dk h' l v:=by
 induction c with
 | nil=>exact .nil
 | cons ho hd h2 t ih=>exact .cons (k _ (by simp) _ ho) hd h2 (ih λa ha=>k a (by simp[ha]))
theorem Dk.there {l:List Addr}{v:JI}(c:Dk h l v):∀a∈l,∃o,h.get? a=Dn o:=by
 induction c with
 | nil=>intro a ha;cases ha
 | @cons c o vs z l ho hd h2 t ih=>
  grind
def wG (A:BP)(h:Heap):Prop:=∀v,A.handled=Dn v->∃a l,v=.ref a/\Dk h l v
theorem Mp.heap {v:JI}(c:Mp H v)(x:GP P w H h):∃l,Dk h l v:=by
 induction c with
 | nil=>exact⟨[],.nil⟩
 | cons h1 h2 h3 _ ih=>obtain⟨l,t⟩:=ih;exact⟨_,.cons (x _ _ h1).1 h2 h3 t⟩
theorem aby (q:Quiet A H)(x:GP P w H h):wG A h:=λv e=>by
 obtain⟨⟨a,h1⟩,c⟩:=q v e;obtain⟨l,t⟩:=c.heap x;grind
def Lnk (h:Heap)(x y:JI):Prop:=∃(c:Addr) (o:Obj) (vs:Array JI),x=.ref c/\h.get? c=Dn o/\o.data=.fields vs/\vs[2]?=Dn y
inductive NK (h:Heap):JI->JI->Prop
 | refl {x:JI}:NK h x x
 | step {x y z:JI}(a:Lnk h x y) (b:NK h y z):NK h x z
variable {z:JI}
theorem NK.snoc {x y:JI}(a:NK h x y)(b:Lnk h y z):NK h x z:=by
 induction a with
 | refl=>exact .step b .refl
 | step l _ ih=>exact .step l (ih b)
theorem NK.one {x y:JI}(a:NK h x y)(b:Lnk h y z):∃u,Lnk h x u/\NK h u z:=by
 cases a with
 | refl=>exact⟨z,b,.refl⟩
 | step l r=>exact⟨_,l,r.snoc b⟩
variable {R:Result->Mk->Prop}{prog:BK}
theorem abz {s:Mk}{e:Addr}(h:R (.ok (.ret .none)) s):∀{l:List Addr}{o:JI},Dk s.heap l o->e∉l->(∃a,o=.ref a)->∀(slow:JI) (tg:Bool),(tg=false->NK s.heap slow o)->(tg=true->∃y,Lnk s.heap slow y/\NK s.heap y o) ->
  codeAny (Ai prog w) A (.builtin "proto.unchain" ⟨[.ref e,o,slow,.bool tg],[]⟩) R s:=by
 intro l o c;induction c with
 | nil=>rintro _ ⟨a,z⟩;cases z
 | @cons c o vs z l ho hd h2 t ih=>
  intro ne _ slow tg hf ht;have lk:Lnk _ _ z:=⟨c,o,vs,rfl,ho,hd,h2⟩
  refine codeAny_builtin tL<|Zr<|Hq ho hd h2 ?_
  by_cases z0:z=.none
  subst z0;refine Zr<|CG<|CG ?_
  exact h;obtain⟨d,rfl,hdm⟩:∃d,z=.ref d/\d∈l:=by
   cases t with
   | nil=>exact absurd rfl z0
   | cons=>exact⟨_,rfl,by simp⟩
  have ze:¬(Value.ref d==Value.ref e)=true:=λq=>by
   have:=Value.ref.inj (beq_iff_eq.mp q)
   exact ne (by rw[<-this];simp[hdm])
  rw[if_neg ze];by_cases zs:(Value.ref d==slow)=true
  rw[if_pos zs];refine Zr<|wpAny_rule ?_
  first
   | (refine Zr (CG (CG ?_));exact h)
  rw[if_neg zs];have ne':e∉l:=λq=>ne (by simp[q])
  cases tg with
  | true=>
   obtain⟨y,⟨cs,os,ss,rfl,hs1,hs2,hs3⟩,r⟩:=ht rfl;exact Zr<|Hq hs1 hs2 hs3<|CG ⟨Code.quiet_builtin _<|by decide +kernel,(ih ne' ⟨d,rfl⟩ y false (λ_=>r.snoc lk) nofun)⟩
  | false=>
   exact Zr<|CG<|CG ⟨Code.quiet_builtin _<|by decide +kernel,(ih ne' ⟨d,rfl⟩ slow true nofun λ_=>(hf rfl).one lk)⟩
theorem z6 {α:Type}{s:Mk}{e:Addr}{oe:Obj}{ws:Array JI}{h0:Heap}{Q:α->Mk->Prop}(hq:wG A h0)(k0:∀b o,h0.get? b=Dn o->s.heap.get? b=Dn o)(e0:h0.get? e=Go)(he:s.heap.get? e=Dn oe)(hd:oe.data=.fields ws)(hz:2<ws.size)
  (h:∀h',(∀b,b≠e->h'.get? b=s.heap.get? b)->(∃o',h'.get? e=Dn o'/\o'.cls=oe.cls/\o'.dict=oe.dict/\((A.handled=Go/\h'=s.heap)\/∃v,A.handled=Dn v/\o'.data=.fields (ws.setIfInBounds 2 v)))->E (.ref e) {s with heap:=h'}):Ae (Ai prog w) A (raiseNew (.ref e):Sem α) Q E s:=by
 refine Zr<|wpAny_handled ?_
 cases hh:A.handled with
 | none=>
  exact Zr<|CG<|wpAny_throw<|h _ (λ_ _=>rfl) ⟨oe,he,rfl,rfl,.inl ⟨hh,rfl⟩⟩
 | some v=>
  obtain⟨a,l,rfl,ch⟩:=hq v hh;have nl:e∉l:=λq=>by obtain⟨o,z⟩:=ch.there e q;rw[e0]at z;cases z
  dsimp only;have ne:(Value.ref a != Value.ref e)=true:=by
   simp only[bne_iff_ne];intro q;exact nl<|Value.ref.inj q ▸ ((by cases ch with|cons=>simp))
  rw[if_pos ne];refine Zr<|Mg<|wpAny_runValue<|abz (Zr<|Zr<|wpAny_load he ?_) (ch.keep λb _ o z=>k0 b o z) nl ⟨a,rfl⟩ _ false (λ_=>.refl) nofun
  rw[hd];dsimp only;rw[if_pos hz];refine wpAny_update he<|wpAny_throw ?_
  have hd3:=QD hd (·.setIfInBounds 2 (Value.ref a));exact h _ (λb hb=>N6 _ _<|HF hb) ⟨_,Q9 _ he<|RX hd3,Obj.cls_mapFields _ _,by obtain⟨c0,d0,dt,sl⟩:=oe;cases hd;rfl,.inr ⟨_,hh,hd3⟩⟩
theorem zaw {s:Mk}{it:Addr}{x left step:Int}{Q:Option JI->Mk->Prop}(hh:wG A s.heap)(hit:IsRangeIter s.heap it x left step)(hleft:left<=0)
  (hQ:∀h',Heap.ExtBut it s.heap h'->Q Go {s with heap:=h'}):Ae (Ai prog w) A (pyNext (.ref it)) Q E s:=by
 have hT:s.TypeIs (.ref it) "range_iterator":=⟨_,hit,rfl⟩
 refine Zr (Ru (RZ hT F.slot_range_iterator_next
  (RL F.slot_range_iterator_next hT F.entry_range_iterator_next ?_ (F.args_range_iterator_next_1 _))))
 show Ae _ _ (field (.ref it) 0 >>= _) _ _ s;refine Zr<|Hq hit rfl (x:=rawInt x) rfl ?_
 refine Zr<|Hq hit rfl (x:=rawInt left) rfl ?_
 refine Zr<|Hq hit rfl (x:=rawInt step) rfl ?_
 show Ae _ _ (if left<=0 then _ else _) _ _ s;rw[if_pos hleft];refine Zr<|wpAny_rule ?_
 refine Zr ?_;refine Zr ?_;refine Zr (m:=firstArgMember _ _)<|wpAny_of_eq (a:=Value.none) (by first|rfl|(simp only[firstArgMember];rfl)) ?_
 refine T8 ?_<|by size_fits
 refine z6 (A:=A.in1) (h0:=s.heap) hh (λb o q=>Cm _<|Cm _ q) (UJ<|by simp[Heap.push]) (HJ _ rfl) rfl (by simp;lia) λh' h1 ⟨o',h2,h3,_⟩=>?_;refine Zr<|wpAny_isInstance (T := "StopIteration") (b:=true) ⟨_,h2,h3⟩ isSubtype_stop ?_
 refine CG<|hQ _ λb o hb e=>?_
 rw[h1 b ?_];exact Cm _<|Cm _ e
 have:=DK e
 exact Cg<|Df this<|by simp[Heap.push]
structure It where
 go:Nat->Hp->Prop
 yld:Nat->Hp->V->Hp->Prop
 stop:Nat->Hp->Prop
 cm:Bool
def Ak (X:Cx)(afn:List (Addr×Obj))(H:Hp)(b:Addr):Prop:=
 H b=Go/\b≠X.env.locals/\b∉X.fs/\(b∈X.ex\/X.s₀.heap.objs.size<=b)/\(∀x c,X.env.cells.lookup x=Dn c->c≠b)/\∀p∈X.pn++afn,p.1≠b
theorem Yu.fpOk {s:Mk}(I:Yu X afn U H s)(hb:s.heap.objs.size<=b)(hn:H' b=Go):Ak X afn H' b:=by
 refine⟨hn,Mf<|Df I.lt hb,I.nofs hb,.inr<|Dp I.sz hb,λx c e z=>?_,λp hp z=>(absurd (Df (DK (I.pin p hp).1)<|z ▸ hb)<|MH _)⟩;obtain⟨v,q⟩:=I.cell x c e;exact absurd (Df q.lt<|z ▸ hb)<|MH _
structure Turn (P:BK) (w:Av) (K:Zf) (tg:Expr) (J:It) (fp:List Addr) (it:Addr) (tn:Nat->Heap->Prop):Prop where
 mem:it∈fp
 obj:∀i h,tn i h->∀b∈fp,∃o,h.get? b=Dn o/\∀v,o.data≠.cell v
 keep:∀i h h',tn i h->(∀b∈fp,∀o,h.get? b=Dn o->h'.get? b=Dn o)->tn i h'
 item:∀(X:Cx),X.prog=P->X.w=w->X.K=K->(J.cm=true->X.calm=true)->∀(i:Nat) (afn:List (Addr×Obj)) (s:Mk) (U:St) (H:Hp) (E:JI->Mk->Prop),Yu X afn U H s->(∀b∈fp,Ak X afn H b)->tn i s.heap->J.go i H ->
  Ae (Ai P w) X.A (pyNext (.ref it)) (λr s1=>∃u,r=Dn u /\
   Ae (Ai P w) X.A (letOwnedTupleGo tg (.ref it) u) (λ_ s2=>∃x H',Yu X afn U H' s2/\RelV x u/\J.yld i H x H'/\tn (i+1) s2.heap/\∀b∈fp,H' b=Go) E s1) E s
 done:∀(X:Cx),X.prog=P->X.w=w->X.K=K->(J.cm=true->X.calm=true)->∀(i:Nat) (afn:List (Addr×Obj)) (s:Mk) (U:St) (H:Hp) (E:JI->Mk->Prop),Yu X afn U H s->(∀b∈fp,Ak X afn H b)->tn i s.heap->J.stop i H ->
  Ae (Ai P w) X.A (pyNext (.ref it)) (λr s1=>r=Go/\Yu X afn U H s1) E s
 self:∀(A:BP) (i:Nat) (s:Mk) (Q:JI->Mk->Prop) (E:JI->Mk->Prop),tn i s.heap->Q (.ref it) s->Ae (Ai P w) A (pyIter (.ref it)) Q E s
abbrev TI:=St->Hp->(It->Hp->Prop)->Prop
def PIE (X:Cx)(afn:List (Addr×Obj))(U:St)(tg:Expr)(R:It->Hp->Prop)(itv:JI)(s2:Mk):Prop:=
 ∃(it:Addr) (fp:List Addr) (tn:Nat->Heap->Prop) (J:It) (H':Hp),itv=.ref it/\Yu X afn U H' s2/\Turn X.prog X.w X.K tg J fp it tn/\tn 0 s2.heap/\(∀b∈fp,Ak X afn H' b)/\R J H'
def PI (X:Cx)(tg iter:Expr)(wi:TI):Prop:=
 ∀(afn:List (Addr×Obj)) (s:Mk) (U:St) (H:Hp) (R:It->Hp->Prop),Yu X afn U H s->wi U H R ->
  Ae (Ai X.prog X.w) X.A (eval iter X.env) (λv s1=>Ae (Ai X.prog X.w) X.A (pyIter v) (PIE X afn U tg R) X.xe s1) X.xe s
theorem Ek {s:Mk}{it:Addr}{o:Obj}{n:String}{vs:Array JI}{Q:Unit->Mk->Prop}(ho:s.heap.get? it=Dn o)(hc:o.cls=.type n)(hd:o.data=.fields vs)
    (hn:["enumerate", "zip", "dict_itemiterator", "dict_reverseitemiterator", "odict_iterator", "itertools.zip_longest", "itertools.pairwise"].contains n=false) (hQ:Q () s):Ae M A (letOwnedTupleGo tg (.ref it) u) Q E s:=by
  cases tg<;>first
    | exact CG hQ
    | (cases u<;>first
        | exact CG hQ
        | (refine Zr (wpAny_load ho ?_)
           rw[hc,hd];show Ae M A (if _=true then _ else _) Q E s;rw[if_neg (by intro h;rw[hn]at h;cases h)];exact CG hQ))
def Itl (K:Zf)(a:Addr):It:=
 ⟨λi H=>∃xs x,Ez K H a xs/\xs[i]?=Dn x,λi H x H'=>H'=H/\∀xs,Ez K H a xs->xs[i]?=Dn x,λi H=>∃xs,Ez K H a xs/\xs.length<=i,true⟩
def Itt (K:Zf)(a:Addr):It:=
 ⟨λi H=>∃xs x,Fw K H a xs/\xs[i]?=Dn x,λi H x H'=>H'=H/\∀xs,Fw K H a xs->xs[i]?=Dn x,λi H=>∃xs,Fw K H a xs/\xs.length<=i,true⟩
def Itr (lo:Int)(n:Nat):It:=⟨λi _=>i<n,λi H x H'=>H'=H/\x=.int (lo+i),λi _=>n<=i,false⟩
theorem zat (a it:Addr):Turn P w K tg (Itl K a) [it] it (λi h=>h.IsListIter it a i) where
 mem:=by simp
 obj:=λi h st b hb=>by
  cases by simpa using hb
  obtain⟨o,e,c,d⟩:=st;grind
 keep:=λi h h' st k=>st.at λo e=>k it (by simp) o e
 item:=by
  intro X hP hw hK hc i afn s U H E I hf st hg;subst hP hw hK;obtain⟨xs,x,hq,hx⟩:=hg;obtain⟨its,rv,p,hz⟩:=I.list hq;obtain⟨u,hu,ru⟩:=rv.get hx;obtain⟨f0,f1,f2,f3,f4,f5⟩:=hf it (by simp);refine wpAny_pyNext_list_item st p.isList (by simpa using hu) λh' st' sb=>?_;obtain⟨o,e,c,d⟩:=id st';exact⟨u,rfl,Ek e c d (by decide) ⟨x,H,(I.turned (λb o hb e=>(sb.2 b hb).trans e) f0 f1 f3 f4 f5),ru,⟨rfl,λys hy=>by rwa[I.list_inj hy hq]⟩,st',λb hb=>(hf b hb).1⟩⟩
 done:=by
  intro X hP hw hK hc i afn s U H E I hf st hg;subst hP hw hK;obtain⟨xs,hq,hx⟩:=hg;obtain⟨its,rv,p,hz⟩:=I.list hq;obtain⟨f0,f1,f2,f3,f4,f5⟩:=hf it (by simp);have hl:=rv.length;exact wpAny_pyNext_list_end (I.ok.hd<|hc rfl) st p.isList (by simp;lia) λh' eb=>⟨rfl,I.turned (λb o hb e=>eb b o hb e) f0 f1 f3 f4 f5⟩
 self:=λ_ _ _ _ _ st h=>wpAny_pyIter_listiter st h
theorem zU (a it:Addr):Turn P w K tg (Itt K a) [it] it (λi h=>h.IsTupleIter it a i) where
 mem:=by simp
 obj:=λi h st b hb=>by
  obtain rfl:=by simpa using hb
  obtain⟨o,e,c,d⟩:=st;exact⟨o,e,λv z=>by rw[d]at z;cases z⟩
 keep:=λi h h' st k=>st.at λo e=>k it (by simp) o e
 item:=by
  intro X hP hw hK hc i afn s U H E I hf st hg;subst hP hw hK;obtain⟨xs,x,hq,hx⟩:=hg;obtain⟨its,rv,p,hz⟩:=I.tuple hq;obtain⟨u,hu,ru⟩:=rv.get hx;obtain⟨f0,f1,f2,f3,f4,f5⟩:=hf it (by simp);refine wpAny_pyNext_tuple_item st (p) (by simpa using hu) λh' st' sb=>?_;obtain⟨o,e,c,d⟩:=id st';exact⟨u,rfl,Ek e c d (by decide) ⟨x,H,(I.turned (λb o hb e=>(sb.2 b hb).trans e) f0 f1 f3 f4 f5),ru,⟨rfl,λys hy=>I.tuple_inj hy hq ▸ hx⟩,st',λb hb=>(hf b hb).1⟩⟩
 done:=by
  intro X hP hw hK hc i afn s U H E I hf st hg;subst hP hw hK;obtain⟨xs,hq,hx⟩:=hg;obtain⟨its,rv,p,hz⟩:=I.tuple hq;obtain⟨f0,f1,f2,f3,f4,f5⟩:=hf it (by simp);have hl:=rv.length;exact wpAny_pyNext_tuple_end (I.ok.hd<|hc rfl) st p (by simp;lia) λh' eb=>⟨rfl,I.turned (λb o hb e=>eb b o hb e) f0 f1 f3 f4 f5⟩
 self:=λ_ _ _ _ _ st h=>wpAny_pyIter_tupleiter st h
theorem abD (it:Addr)(lo:Int)(n:Nat):Turn P w K tg (Itr lo n) [it] it (λi h=>IsRangeIter h it (lo+(i:Nat)*1) ((n:Int)-(i:Nat)) 1) where
 mem:=by simp
 obj:=λi h st b hb=>by
  obtain rfl:=by simpa using hb
  exact⟨_,st,λv z=>by
   cases z⟩
 keep:=λi h h' st k=>k it (by simp) _ st
 item:=by
  intro X hP hw hK hc i afn s U H E I hf st hg;obtain⟨f0,f1,f2,f3,f4,f5⟩:=hf it (by simp);refine wpAny_pyNext_range_item st (by have:i<n:=hg;lia) λh' st' kk=>?_;have I1:Yu X afn U H {s with heap:=h',toks:=s.toks+1}:=I.turned (λb o hb e=>(kk.2 b hb).trans e) f0 f1 f3 f4 f5;have st2:IsRangeIter h' it (lo+((i+1:Nat):Int)*1) ((n:Int)-((i+1:Nat):Int)) 1:=by
   have e1:lo+((i+1:Nat):Int)*1=lo+((i:Nat):Int)*1+1:=by lia
   have e2:(n:Int)-((i+1:Nat):Int)=(n:Int)-((i:Nat):Int)-1:=by lia
   rw[e1,e2];exact st'
  refine⟨_,rfl,Ek (n := "range_iterator") st' rfl rfl (by decide) ⟨.int<|lo+i,H,I1,⟨s.toks,?_⟩,⟨rfl,rfl⟩,st2,λb hb=>(hf b hb).1⟩⟩;rw[Int.mul_one]
 done:=by
  intro X hP hw hK hc i afn s U H E I hf st hg;obtain⟨f0,f1,f2,f3,f4,f5⟩:=hf it (by simp);exact zaw (aby I.qt0 I.hok) st (by have:n<=i:=hg;lia) λh' eb=>⟨rfl,I.turned (t':=s.toks) (λb o hb e=>eb b o hb e) f0 f1 f3 f4 f5⟩
 self:=λ_ _ _ _ _ st h=>wpAny_pyIter_rangeiter st h
section
theorem yu {s:Mk}{R:It->Hp->Prop}{lo hi:Int}{t u v:Tok}{tk:Nat}(I:Yu X afn U H s)(h1:-(2^62)<=lo)(h2:lo<2^62)(h3:-(2^62)<=hi)(h4:hi<2^62)
  (q:R (Itr lo (hi-lo).toNat) H):Ae (Ai X.prog X.w) X.A (pyIter (.ref s.heap.objs.size)) (PIE X afn U tg R) E {s with heap:=s.heap.push {cls:=.type "range",data:=.fields #[.int lo t,.int hi u,.int 1 v]},toks:=tk}:=by
 refine wpAny_pyIter_range (IsRange.new ..) (small_one h1 h2 h3 h4) ?_;have I1:Yu X afn U H {s with heap:=s.heap.push {cls:=.type "range",data:=.fields #[.int lo t,.int hi u,.int 1 v]},toks:=tk}:=I.kept λb o e=>Cm _ e
 refine⟨(s.heap.push {cls:=.type "range",data:=.fields #[.int lo t,.int hi u,.int 1 v]}).objs.size,[(s.heap.push {cls:=.type "range",data:=.fields #[.int lo t,.int hi u,.int 1 v]}).objs.size],_,_,H,rfl,
  I1.kept λb o e=>Cm _ e,abD _ lo (hi-lo).toNat,?_,λb hb=>?_,q⟩
 have e1:lo+((0:Nat):Int)*1=lo:=by simp
 have e2:(((hi-lo).toNat:Nat):Int)-((0:Nat):Int)=Builtin.Range.rangeSize lo hi 1:=by rw[rangeSize_one];split<;>lia
 rw[e1,e2];exact HJ _ rfl;have e:b=(s.heap.push {cls:=.type "range",data:=.fields #[.int lo t,.int hi u,.int 1 v]}).objs.size:=by simpa using hb
 subst e;exact I1.fpOk (Bm _)<|I1.hok.fresh<|Bm _
def WX (ta:TA):TI:=λU H R=>ta U H λvs H1=>∃j:Int,vs=[.int j]/\-(2^62)<=j/\j<2^62/\R (Itr 0 j.toNat) H1
def Xi (ta:TA):TI:=λU H R=>ta U H λvs H1=>∃i j:Int,vs=[.int i,.int j]/\(-(2^62)<=i/\i<2^62/\-(2^62)<=j/\j<2^62)/\R (Itr i (j-i).toNat) H1
theorem abM {a:Expr}{ta:TA}{p:Pos}(hg:Gl X "range")(hm:X.mg "range" = Go)(ha:PA X [a] ta)(hs:Al [a] X.env=[(false,eval a X.env)]:=by rfl):PI X tg (.Call (.Name "range" p) [a] [] pos) (WX ta):=by
 intro afn s U H R I h;refine Call_<|rD I hg hm boot_range<|Uj (Bj (ha pos afn s U H _ I h) λus s1 ⟨vs,H1,I1,r1,q1⟩=>?_) hs rfl
 obtain⟨j,e,q1,q2,q⟩:=q1;subst e;cases r1 with
 | cons r rr=>
  cases rr;obtain⟨t,rfl⟩:=r;exact call_range_1<|yu I1 (by lia) (by lia) q1 q2<|by simpa using q
theorem zaI {a b:Expr}{ta:TA}{p:Pos}(hg:Gl X "range")(hm:X.mg "range" = Go)(ha:PA X [a,b] ta)(hs:Al [a,b] X.env=[(false,eval a X.env),(false,eval b X.env)]:=by rfl)(hs2:Al [b] X.env=[(false,eval b X.env)]:=by rfl):
  PI X tg (.Call (.Name "range" p) [a,b] [] pos) (Xi ta):=by
 intro afn s U H R I h;refine Call_<|rD I hg hm boot_range<|Uj (Bj (ha pos afn s U H _ I h) λus s1 ⟨vs,H1,I1,r1,q1⟩=>?_) (by rw[hs,hs2]) (by rw[hs2];rfl)
 obtain⟨i,j,e,⟨q1,q2,q3,q4⟩,q⟩:=q1;subst e;cases r1 with
 | cons r rr=>
  cases rr with
  | cons r' rr=>
   cases rr;obtain⟨t,rfl⟩:=r;obtain⟨t',rfl⟩:=r';exact call_range_2<|yu I1 q1 q2 q3 q4 q
def aah (wi:TI)(g:TG)(tb:TS):TS:=λD U H=>wi U H λJ H1=>∃W:Nat->Nat->St->Hp->Prop,(∃m,W 0 m U H1)/\∀i m U H,W i m U H ->
 (J.stop i H/\D.nx U H)\/(J.go i H/\∃N:St->Hp->Prop,(∀U' H',N U' H'->∃m',m'<m/\W (i+1) m' U' H')/\∀x H',J.yld i H x H'->g x U H' λU2 H2=>tb {D with nx:=N,ct:=N,bk:=D.nx} U2 H2)
def yD (fp:List Addr)(h:Heap):List (Addr×Obj):=fp.filterMap λb=>(h.get? b).map λo=>(b,o)
theorem jA {fp:List Addr}{o:Obj}(hb:b∈fp)(e:h.get? b=Dn o):(b,o)∈yD fp h:=List.mem_filterMap.mpr ⟨b,hb,by rw[e];rfl⟩
theorem aaG {fp:List Addr}{p:Addr×Obj}(hp:p∈yD fp h):p.1∈fp/\h.get? p.1=Dn p.2:=by
 obtain⟨b,hb,e⟩:=List.mem_filterMap.mp hp;cases q:h.get? b with
 | none=>rw[q]at e;cases e
 | some o=>
  grind
theorem Yu.pinned {s:Mk}{fp:List Addr}(I:Yu X afn U H s)(hf:∀b∈fp,Ak X afn H b)(ho:∀b∈fp,∃o,s.heap.get? b=Dn o/\∀v,o.data≠.cell v):Yu X (afn++yD fp s.heap) U H s:=
 I.pins_of λp hp=>(Fv.mp hp).elim (λz=>I.pin p (Ml _ z)) λz=>by
  obtain⟨hb,e⟩:=aaG z;obtain⟨f0,f1,f2,_⟩:=hf _ hb;grind
theorem Yu.unpinned {pl:List (Addr×Obj)}{s:Mk}(I:Yu X (afn++pl) U H s):Yu X afn U H s:=I.pins_of λp hp=>I.pin p (Ml _ (RW _ hp))
theorem KJ {iter:Expr}{body:List Stmt}{wi:TI}{g:TG}{tb:TS}(hp:Uu (Ai X.prog X.w) X.A X.env X.xe)(hc:X.calm=true)(hi:PI X tg iter wi)(hg:PG X tg g)(hb:LI X body tb)
  (hs:∀x,Qv iter X.env x=pure x:=by intro _;rfl):PS X (.For tg iter body [] pos) (aah wi g tb):=by
 intro afn s U H D I h;refine wpAny_For (Bj (hi afn s U H _ I h) λv s1 h1=>Bj h1 λitv s2 h2=>?_) hs;obtain⟨it,fp,tn,J,H2,e,I2,T,st2,f2,W,⟨m0,w0⟩,turn⟩:=h2;subst e;have stat:∀{H':Hp},(∀b∈fp,H' b=Go)->∀b∈fp,Ak X afn H' b:=λhn b hb=>⟨hn b hb,(f2 b hb).2⟩
 refine codeAny_forLoop_any (λn s'=>∃i U' H',Yu X afn U' H' s'/\tn i s'.heap/\(∀b∈fp,H' b=Go)/\W i n U' H') ?_ m0 ⟨0,U,H2,I2,st2,λb hb=>(f2 b hb).1,w0⟩;rintro n s3 ⟨i,U3,H3,I3,st3,fr3,w3⟩;rcases turn i n U3 H3 w3 with⟨stop,qn⟩|⟨go,N,hN,step⟩
 ·refine Tf hp<|Bj (T.done X rfl rfl rfl (λ_=>hc) i afn s3 U3 H3 X.xe I3 (stat fr3) st3 stop) λr s4 ⟨hr,I4⟩=>?_
  subst hr;exact wpAny_execs_nil ⟨U3,H3,I4,qn⟩
 ·refine Tf hp<|Bj (T.item X rfl rfl rfl (λ_=>hc) i afn s3 U3 H3 X.xe I3 (stat fr3) st3 go) λr s4 ⟨u,hr,h4⟩=>?_
  subst hr;refine Tf hp<|Bj h4 λ_ s5 ⟨x,H5,I5,r5,y5,st5,fr5⟩=>?_
  refine Tf hp<|Bj (hg _ s5 U3 H5 x u _ (I5.pinned (stat fr5)<|T.obj _ _ st5) r5<|step x H5 y5) λ_ s6 ⟨U6,H6,I6,q6⟩=>?_
  refine Tf hp<|Bj (hb _ s6 U6 H6 _ I6 q6) λf s7 q7=>?_
  have again:∀{U7:St}{H7:Hp},Yu X _ U7 H7 s7->N U7 H7->∃m,m<n/\∃i U' H',Yu X afn U' H' s7/\tn i s7.heap/\(∀b∈fp,H' b=Go)/\W i m U' H':=λ{U7 H7} I7 n7=>by
   obtain⟨m',hm,w7⟩:=hN U7 H7 n7;refine⟨m',hm,i+1,U7,H7,I7.unpinned,T.keep _ _ _ st5 λb hb o e=>(I7.pin (b,o)<|Ml _<|Ml _<|jA hb e).1,λb hb=>?_,w7⟩;obtain⟨o,e,d⟩:=T.obj _ _ st5 b hb;exact(I7.pin (b,o)<|Ml _<|Ml _<|jA hb e).2.1
  cases f with
  | next=>obtain⟨U7,H7,I7,n7⟩:=q7;exact again I7 n7
  | cont=>obtain⟨U7,H7,I7,n7⟩:=q7;exact again I7 n7
  | brk=>obtain⟨U7,H7,I7,q7⟩:=q7;exact⟨U7,H7,I7.unpinned,q7⟩
  | ret v=>obtain⟨x7,U7,H7,I7,r7,q7⟩:=q7;exact⟨x7,U7,H7,I7.unpinned,r7,q7⟩
end
variable {body:List Stmt}
abbrev R2:=V->V->Hp->VK->Prop
def G4 (X:Cx)(f:JI->JI->Sem JI)(r:R2):Prop:=
 ∀(afn:List (Addr×Obj)) (s:Mk) (U:St) (H:Hp) (x y:V) (v u:JI) (Q:VK),Yu X afn U H s->RelV x v->RelV y u->r x y H Q ->
  Ae (Ai X.prog X.w) X.A (f v u) (EP X afn U Q) X.xe s
def UnR (X:Cx)(f:JI->Sem JI)(r:V->Hp->VK->Prop):Prop:=
 ∀(afn:List (Addr×Obj)) (s:Mk) (U:St) (H:Hp) (x:V) (v:JI) (Q:VK),Yu X afn U H s->RelV x v->r x H Q ->
  Ae (Ai X.prog X.w) X.A (f v) (EP X afn U Q) X.xe s
def gJ (X:Cx)(f:JI)(r:List V->Hp->VK->Prop):Prop:=
 ∀(afn:List (Addr×Obj)) (s:Mk) (U:St) (H:Hp) (xs:List V) (us:List JI) (Q:VK),Yu X afn U H s->kI xs us->r xs H Q ->
  Ae (Ai X.prog X.w) X.A (call f us) (EP X afn U Q) X.xe s
def ZR (X:Cx)(r:V->Hp->(Bool->Hp->Prop)->Prop):Prop:=
 ∀(afn:List (Addr×Obj)) (s:Mk) (U:St) (H:Hp) (x:V) (v:JI) (Q:Bool->Hp->Prop),Yu X afn U H s->RelV x v->r x H Q ->
  Ae (Ai X.prog X.w) X.A (truthy v) (TP X afn U Q) X.xe s
def tOp (r:R2)(ta tb:TE):TE:=λU H Q=>ta U H λx H1=>tb U H1 λy H2=>r x y H2 Q
def tUn (r:V->Hp->VK->Prop)(ta:TE):TE:=λU H Q=>ta U H λx H1=>r x H1 Q
def rI (C:Int->Int->Prop)(g:Int->Int->V):R2:=λx y H Q=>∃i j,x=.int i/\y=.int j/\C i j/\Q (g i j) H
def Ou (g:Int->Int->V):R2:=λx y H Q=>∃i j,x=.int i/\y=.int j/\Q (g i j) H
def rU (g:Int->V):V->Hp->VK->Prop:=λx H Q=>∃i,x=.int i/\Q (g i) H
section
variable {a b c:Expr}{tb tc:TE}
theorem X8 (ha:PE X a ta)(hb:PE X b tb){s:Mk}{R:V->V->Hp->Prop}(I:Yu X afn U H s)
  (h:ta U H λx H1=>tb U H1 λy H2=>R x y H2) {Q:JI->Mk->Prop}{f:JI->JI->Sem JI}
  (hf:∀v u s2 x y H2,Yu X afn U H2 s2->RelV x v->RelV y u->R x y H2->Ae (Ai X.prog X.w) X.A (f v u) Q X.xe s2) :
  Ae (Ai X.prog X.w) X.A (eval a X.env) (λv s₁=>Ae (Ai X.prog X.w) X.A (eval b X.env) (λu s₂=>Ae (Ai X.prog X.w) X.A (f v u) Q X.xe s₂) X.xe s₁) X.xe s:=Bj (ha afn s U H _ I h) λv s1 ⟨x,H1,I1,r1,q1⟩=>(Bj (hb afn s1 U H1 _ I1 q1) λu s2 ⟨y,H2,I2,r2,q2⟩=>(hf v u s2 x y H2 I2 r1 r2 q2))
theorem Wb {op:Operator}{r:R2}(ho:G4 X (Hx op) r)(ha:PE X a ta)(hb:PE X b tb):PE X (.BinOp a op b pos) (tOp r ta tb):=by
 intro afn s U H Q I h;exact wpAny_BinOp<|X8 ha hb I h λv u s2 x y H2 I2 rx ry q=>ho afn s2 U H2 x y v u Q I2 rx ry q
theorem W9 {op:UnaryOp}{r:V->Hp->VK->Prop}(ho:UnR X (unaryOp op) r)(ha:PE X a ta):PE X (.UnaryOp op a pos) (tUn r ta):=by
 intro afn s U H Q I h;exact UnaryOp_<|Bj (ha afn s U H _ I h) λv s1 ⟨x,H1,I1,r1,q1⟩=>ho afn s1 U H1 x v Q I1 r1 q1
theorem opI {f:JI->JI->Sem JI}{C:Int->Int->Prop}{g:Int->Int->Int}
  (rule:∀(i j:Int) (t u:Tok) (s:Mk) (Q:JI->Mk->Prop) (E:JI->Mk->Prop),C i j->Q (.int (g i j) s.toks) {s with toks:=s.toks+1}->Ae (Ai X.prog X.w) X.A (f (.int i t) (.int j u)) Q E s) :
  G4 X f (rI C λi j=>.int (g i j)):=by
 intro afn s U H x y v u Q I rx ry h;obtain⟨i,j,rfl,rfl,hc,q⟩:=h;obtain⟨t,rfl⟩:=rx;obtain⟨t',rfl⟩:=ry;exact rule i j t t' s _ _ hc ⟨.int _,H,I.tok _,⟨_,rfl⟩,q⟩
theorem Zk {f:JI->JI->Sem JI}{g:Int->Int->Int}
  (rule:∀(i j:Int) (t u:Tok) (s:Mk) (Q:JI->Mk->Prop) (E:JI->Mk->Prop),Q (.int (g i j) s.toks) {s with toks:=s.toks+1}->Ae (Ai X.prog X.w) X.A (f (.int i t) (.int j u)) Q E s) :
  G4 X f (Ou λi j=>.int (g i j)):=by
 intro afn s U H x y v u Q I rx ry h;obtain⟨i,j,rfl,rfl,q⟩:=h;obtain⟨t,rfl⟩:=rx;obtain⟨t',rfl⟩:=ry;exact rule i j t t' s _ _ ⟨.int _,H,I.tok _,⟨_,rfl⟩,q⟩
theorem VR {f:JI->JI->Sem JI}{g:Int->Int->Bool}
  (rule:∀(i j:Int) (t u:Tok) (s:Mk) (Q:JI->Mk->Prop) (E:JI->Mk->Prop),Q (.bool (g i j)) s->Ae (Ai X.prog X.w) X.A (f (.int i t) (.int j u)) Q E s) :
  G4 X f (Ou λi j=>.bl (g i j)):=by
 intro afn s U H x y v u Q I rx ry h;obtain⟨i,j,rfl,rfl,q⟩:=h;obtain⟨t,rfl⟩:=rx;obtain⟨t',rfl⟩:=ry;exact rule i j t t' s _ _ ⟨.bl _,H,I,rfl,q⟩
def XS (i j:Int):Prop:=0<=j/\j<=1000000/\i.natAbs<2^64
theorem adL:G4 X (Hx .Add) (Ou λi j=>.int (i+j)):=Zk λ_ _ _ _ _ _ _ q=>add_int q
theorem Vl:G4 X (Hx .Sub) (Ou λi j=>.int (i-j)):=Zk λ_ _ _ _ _ _ _ q=>sub_int q
theorem acv:G4 X (Hx .Mod) (rI (λ_ j=>j≠0) λi j=>.int (i.fmod j)):=opI λ_ _ _ _ _ _ _ hc q=>mod_int' hc q
theorem aed:G4 X (Hx .Pow) (rI XS λi j=>.int (i^j.toNat)):=opI λ_ _ _ _ _ _ _ hc q=>pow_int_small hc.1 hc.2.1 hc.2.2 q
theorem unI {f:JI->Sem JI}{g:Int->Int}
  (rule:∀(i:Int) (t:Tok) (s:Mk) (Q:JI->Mk->Prop) (E:JI->Mk->Prop),Q (.int (g i) s.toks) {s with toks:=s.toks+1}->Ae (Ai X.prog X.w) X.A (f (.int i t)) Q E s) :
  UnR X f (rU λi=>.int (g i)):=by
 intro afn s U H x v Q I rx h;obtain⟨i,rfl,q⟩:=h;obtain⟨t,rfl⟩:=rx;exact rule i t s _ _ ⟨.int<|g i,H,I.tok _,⟨_,rfl⟩,q⟩
theorem adY:UnR X (unaryOp .USub) (rU λi=>.int (-i)):=unI λ_ _ _ _ _ q=>neg_int q
theorem K8 {s:Mk}{Q:VK}{k k':Bool}(I:Yu X afn U H s)(q:Q (.bl k) H)(e:k=k'):EP X afn U Q (.bool k') s:=by
 subst e;exact⟨.bl k,H,I,rfl,q⟩
theorem XC:G4 X (HB .Lt) (Ou λi j=>.bl (decide (i<j))):=VR λ_ _ _ _ _ _ _ q=>lt_int q
theorem Ym:G4 X (HB .LtE) (Ou λi j=>.bl (decide (i<=j))):=VR λ_ _ _ _ _ _ _ q=>le_int q
theorem Xx:G4 X (HB .Gt) (Ou λi j=>.bl (decide (j<i))):=VR λ_ _ _ _ _ _ _ q=>gt_int q
theorem XH:G4 X (HB .GtE) (Ou λi j=>.bl (decide (j<=i))):=VR λ_ _ _ _ _ _ _ q=>ge_int q
theorem G4.or {f:JI->JI->Sem JI}{r r':R2}(h:G4 X f r)(h':G4 X f r'):G4 X f (λx y H Q=>r x y H Q\/r' x y H Q):=by
 intro afn s U H x y v u Q I rx ry q;rcases q with q|q
 exact h afn s U H x y v u Q I rx ry q;exact h' afn s U H x y v u Q I rx ry q
theorem bH (b:Expr){op:CmpOp}(h:op≠.In:=by decide)(h2:op≠.NotIn:=by decide):Rr op b=false:=by
 have e1:(op==CmpOp.In)=false:=by cases op<;>first|rfl|exact absurd rfl h
 have e2:(op==CmpOp.NotIn)=false:=by cases op<;>first|rfl|exact absurd rfl h2
 cases b<;>simp[Rr,e1,e2]
theorem zbM {op:CmpOp}{r:R2}(ho:G4 X (HB op) r)(ha:PE X a ta)(hb:PE X b tb)(hm:Rr op b=false):PE X (.Compare a [op] [b] pos) (tOp r ta tb):=by
 intro afn s U H Q I h;exact wpAny_Compare1 (X8 ha hb I h λv u s2 x y H2 I2 rx ry q=>ho afn s2 U H2 x y v u Q I2 rx ry q) hm
def W4 (t:TE):TT:=λU H Q=>t U H λx H'=>∃k,x=.bl k/\Q k H'
theorem zbB {op:CmpOp}{r:R2}(ho:G4 X (HB op) r)(ha:PE X a ta)(hb:PE X b tb)(hm:Rr op b=false):PT X (.Compare a [op] [b] pos) (W4 (tOp r ta tb)):=by
 intro afn s U H Q I h;refine wpAny_isTrue_Compare1 (Bj (ha afn s U H _ I h) λv s1 ⟨x,H1,I1,r1,q1⟩=>Bj (hb afn s1 U H1 _ I1 q1) λu s2 ⟨y,H2,I2,r2,q2⟩=>
  Bj (ho afn s2 U H2 x y v u _ I2 r1 r2 q2) λc s3 ⟨z,H3,I3,r3,k,e,q3⟩=>?_) hm
 subst e;cases r3;exact Sq ⟨H3,I3,q3⟩
def Y9 (K:Zf)(x:V)(H:Hp)(k:Bool):Prop:=
 match x with
 | .non=>k=false
 | .bl b=>k=b
 | .int i=>k=(i != 0)
 | .str y=>y.length<=Bh/\k=((y.length:Int) != 0)
 | .byt y=>y.size<=Bh/\k=((y.size:Int) != 0)
 | .ref p=>(∃xs,Ez K H p xs/\k=!xs.isEmpty)\/(∃xs,Fw K H p xs/\k=!xs.isEmpty)\/∃kvs,H p=Dn (.dK kvs)/\k=!kvs.isEmpty
 | _=>False
theorem zaj {kvs:List (κ×V)}{vs:List (κ×JI)}(r:KV kvs vs):(!vs.isEmpty)=!kvs.isEmpty:=by
 cases r<;>rfl
theorem rG {its:List JI}(r:kI xs its):(!its.toArray.isEmpty)=!xs.isEmpty:=by
 cases r<;>simp
theorem rC:(Bh:Nat)<2^63:=by decide
theorem adN:ZR X (λx H Q=>∃k,Y9 X.K x H k/\Q k H):=by
 intro afn s U H x v Q I rx h;obtain⟨k,e,q⟩:=h;have hs:Bh=16777216:=sizeLine_eq;cases x with
 | non=>
  cases rx;have e':k=false:=e;subst e';exact truthy_none ⟨H,I,q⟩
 | bl b=>
  cases rx;have e':k=b:=e;subst e';exact Sq ⟨H,I,q⟩
 | int i=>
  obtain⟨t,rfl⟩:=rx;have e':k=(i != 0):=e;subst e';exact PySem.P.truthy_int ⟨H,I,q⟩
 | str y=>
  obtain⟨t,rfl⟩:=rx;obtain⟨hy,e'⟩:y.length<=Bh/\k=((y.length:Int) != 0):=e;subst e';exact PySem.P.truthy_str (by lia) ⟨H,I.tok _,q⟩
 | byt y=>
  obtain⟨t,rfl⟩:=rx;obtain⟨hy,e'⟩:y.size<=Bh/\k=((y.size:Int) != 0):=e;subst e';exact PySem.W.truthy_bytes (by lia) ⟨H,I.tok _,q⟩
 | ref p=>
  cases rx;have e':(∃xs,Ez X.K H p xs/\k=!xs.isEmpty)\/(∃xs,Fw X.K H p xs/\k=!xs.isEmpty)\/∃kvs,H p=Dn (.dK kvs)/\k=!kvs.isEmpty:=e
  rcases e' with⟨xs,hx,e'⟩|⟨xs,hx,e'⟩|⟨kvs,hx,e'⟩
  subst e';obtain⟨its,r,pl,hz⟩:=I.list hx;have afp:=r.length;exact wpAny_truthy_list pl.isList (by simp only[Ii];lia) ⟨H,I.tok _,by rw[rG r];exact q⟩;subst e';obtain⟨its,r,pl,hz⟩:=I.tuple hx;have afp:=r.length;exact truthy_tuple pl (by simp only[Ii];lia) ⟨H,I.tok _,by rw[rG r];exact q⟩;subst e';obtain⟨hz,hS,vs,r,m⟩:kvs.length<=Bh/\(p==Ma)=false/\∃vs,KV kvs vs/\s.heap.DictOf (dz X.prog X.w) p vs:=I.hok p _ hx
  have afp:kvs.length=vs.length:=Paired.length r;exact wpAny_truthy_dict hS m (by lia) ⟨H,I.tok _,by rw[zaj r];exact q⟩
 | _=>exact(show False from e).elim
theorem abX (ha:PE X a ta)(he:∀whole,isTrue a X.env whole=(do let v <-whole;standAt a.pos;holding [v] (truthy v))):
  PT X a (λU H Q=>ta U H λx H'=>∃k,Y9 X.K x H' k/\Q k H'):=by
 intro afn s U H Q I h;exact isTrue_plain (Bj (ha afn s U H _ I h) λv s1 ⟨x,H1,I1,r1,q1⟩=>adN afn s1 U H1 x v Q I1 r1 q1)<|he _
theorem vals1 {x:V}(r:kI [x] us):∃u,us=[u]/\RelV x u:=by
 cases r with
 | cons r1 r2=>cases r2;exact⟨_,rfl,r1⟩
theorem vals2 {x y:V}(r:kI [x,y] us):∃u w',us=[u,w']/\RelV x u/\RelV y w':=by
 cases r with
 | cons r1 r2=>
  cases r2 with
  | cons r3 r4=>cases r4;exact⟨_,_,rfl,r1,r3⟩
theorem vY:gJ X (.type "str") (λxs H Q=>∃i,xs=[.int i]/\i.natAbs.log2<1920/\Q (.str (toString i)) H):=by
 intro afn s U H xs us Q I r h;obtain⟨i,rfl,hz,q⟩:=h;obtain⟨u,rfl,t,rfl⟩:=vals1 r;exact PySem.P.str_of_int hz ⟨.str _,H,I.tok _,⟨_,rfl⟩,q⟩
end
structure aat (h:Heap) (x dx C:Addr) (mA:Str->Option JI):Prop where
 obj:h.get? x=Dn (PySem.W.instObj C dx)
 ns:h.Ns1 dx mA
 ne:dx≠x
section
variable {s:Mk}{x dx C f:Addr}{mA:Str->Option JI}{name:Str}{v:JI}
end
variable {C dx f:Addr}{name:Str}
theorem KN.some_of {v:V}{o:Option JI}(r:KN (Dn v) o):∃u,o=Dn u/\RelV v u:=by
 cases o with
 | none=>cases r
 | some u=>exact⟨u,rfl,r⟩
section
variable {fs fs':List (Str×V)}
end
structure Cls (K:Zf) (C:Addr):Prop where
 pg:PySem.W.plainGet K C Str.empty=true
 hd:PySem.W.hasDictIn K C=true
 po:PySem.W.plainOver K C=true
 sa:MJ K (.ref C) "__setattr__" = Dn (Dn (.builtin "object.__setattr__"))
structure Con (K:Zf) (C:Addr) (f:Str) (v:V) (u:JI):Prop where
 at_:MJ K (.ref C) f=Dn (Dn u)
 rel:RelV v u
 get:PySem.W.specialIn K u "__get__" = Dn Go
 cp:PySem.W.copiedNames.contains f=false
structure Meth (K:Zf) (C:Addr) (m:Str) (f:Addr):Prop where
 at_:MJ K (.ref C) m=Dn (Dn (.ref f))
 fn:PySem.W.isFn K (.ref f)=true
 kp:Nv K (.ref f)=true
section
variable {s:Mk}{fs:List (Str×V)}{f:Str}{v:V}
end
section
variable {value:Expr}{f:Str}{tpos:Pos}{tv:TE}
end
section
variable {s:Mk}{c:JI}{b:Bool}
inductive Ck (K:Zf) (H:Hp):V->JI->Prop where
 | non:Ck K H .non (.type "NoneType")
 | bl (x:Bool):Ck K H (.bl x) (.type "bool")
 | int (i:Int):Ck K H (.int i) (.type "int")
 | str (x:Str):Ck K H (.str x) (.type "str")
 | flt (x:UInt64):Ck K H (.flt x) (.type "float")
 | lst {a:Addr}{xs:List V}(e:H a=Dn (.lst xs)):Ck K H (.ref a) (.type "list")
 | frz {a:Addr}{o:Obj}{xs:List V}(e:H a=Dn (.frz o (.lst xs))):Ck K H (.ref a) (.type "list")
 | tup {a:Addr}{xs:List V}(e:H a=Dn (.tup xs)):Ck K H (.ref a) (.type "tuple")
 | dK {a:Addr}{kvs:List (Key×V)}(e:H a=Dn (.dK kvs)):Ck K H (.ref a) (.type "dict")
 | dT {a:Addr}{kvs:List (List Key×V)}(e:H a=Dn (.dT kvs)):Ck K H (.ref a) (.type "dict")
 | ins {a C dx:Addr}{fs:List (Str×V)}(e:H a=Dn (.ins C dx fs)) (cl:Cls K C) (ha:MJ K (.ref C) "__class__" = Dn (Dn (.builtin "object.__class__")))
   (hn:PySem.W.specialIn K (.builtin "object.__class__") "__get__" = Dn (Dn (.builtin "getset_descriptor.__get__"))) (htk:PySem.W.takesIn K (.builtin "object.__class__")=Dn true)
   (hm:Nu K C (.type "object")=Dn true):Ck K H (.ref a) (.ref C)
end
structure lg (k:Nat) (A:BP):Prop where
 hd:9<=k->A.handled=Go
 dp:A.depth+3*k+5<recursionLimit
 un:A.units+16*k+200<HD
theorem lg.mono (r:lg k A)(h:j<=k):lg j A:=⟨λz=>r.hd (Dp z h),by have:=r.dp;lia,by have:=r.un;lia⟩
theorem lg.deeper {k:Nat}{A:BP}(r:lg (k+1) A)(env:Env):lg k (A.deeper env):=
 ⟨λz=>r.hd (Nat.le_succ_of_le z),by have:=r.dp;show _+1+3*k+5<_;lia,by have:=r.un;show _+3+16*k+200<_;lia⟩
theorem lg.calm (r:lg k A)(h:9<=k):A.handled.isNone=true:=by rw[r.hd h];rfl
theorem lg.depth {k:Nat}{A:BP}(r:lg k A):A.depth<recursionLimit:=by have:=r.dp;lia
theorem lg.units {k:Nat}{A:BP}(r:lg k A):A.units+64<HD:=by have:=r.un;lia
def Yw:TA:=λ_ H Q=>Q [] H
def Mz (ta:TE)(tr:TA):TA:=λU H Q=>ta U H λx H1=>tr U H1 λxs H2=>Q (x::xs) H2
section
variable {t:TA}
theorem uE:PA X [] Yw:=λ_ _ _ _ H Q I h=>Calls.spliced_nil ⟨[],H,I,.nil,h⟩
theorem jj (ha:PE X e te)(hr:PA X es t)(hs:Al (e::es) X.env=(false,eval e X.env)::Al es X.env:=by rfl):PA X (e::es) (Mz te t):=by
 intro pos afn s U H Q I h;exact hs ▸ Qc (Bj (ha afn s U H _ I h) λu s1 ⟨x,H1,I1,r1,q1⟩=>(Bj (hr pos afn s1 U H1 _ I1 q1) λus s2 ⟨xs,H2,I2,r2,q2⟩=>⟨x::xs,H2,I2,.cons r1 r2,q2⟩))
def Zu (t:TA):TE:=λU H Q=>t U H λxs H1=>xs.length<=Bh/\∀p,H1 p=Go->Q (.ref p) (CN H1 p (.tup xs))
def aan (t:TA):TE:=λU H Q=>t U H λxs H1=>xs.length<=Bh/\∀p,H1 p=Go->Q (.ref p) (CN H1 p (.lst xs))
theorem K1 {x1}(h:PA X es t):PE X (.Tuple es x1 pos) (Zu t):=by
 intro afn s U H Q I hq;refine wpAny_Tuple_spliced<|Bj (h pos afn s U H _ I hq) λus s1 ⟨xs,H1,I1,r,z,q⟩=>⟨r.length ▸ z,(⟨.ref _,CN H1 _ _,I1.laid (λb u e=>Cm _ e) (Bm _) ?_,rfl,q _<|I1.hok.fresh<|Bm _⟩)⟩
 exact⟨z,us,r,_,HJ _ rfl,rfl,⟨_,rfl⟩,rfl⟩
theorem Lb (h:PA X es t):PE X (.List es pos) (aan t):=by
 intro afn s U H Q I hq;refine wpAny_List_spliced<|Bj (h pos afn s U H _ I hq) λus s1 ⟨xs,H1,I1,r,z,q⟩=>⟨r.length ▸ z,.ref _,CN H1 _ _,I1.laid (λb u e=>Cm _ e) (Bm _) ?_,rfl,q _<|I1.hok.fresh<|Bm _⟩
 exact⟨z,us,0,r,HJ _ rfl⟩
end
variable {t:TA}
abbrev Sp:=List V->Hp->VK->XK->Prop
abbrev O6:=Option JI->List Env->Hp->Mk->XK->JI->Mk->Prop
structure WL (P:BK) (w:Av) (K:Zf) (mg:Str->Option JI) (base:Heap) (A:BP) (outer:List Env) (s:Mk) (H:Hp):Prop where
 frames:A.frames=Dn outer
 mod:Mod K mg base
 bs:∀b o,base.get? b=Dn o->s.heap.get? b=Dn o/\H b=Go
 bsz:base.objs.size<=s.heap.objs.size
 funs:s.heap.FunFrames base outer
 frf:∀b∈frs outer,H b=Go
 hok:GP P w H s.heap
 bare:Ng s.gens
 qt:Quiet A H
def CE (outer:List Env)(P:BK)(w:Av)(H:Hp)(s:Mk)(Q:VK)(u:JI)(s':Mk):Prop:=
 ∃v H',s'.os=s.os/\Ng s'.gens/\Un (frs outer) [] H H' s.heap s'.heap/\GP P w H' s'.heap/\RelV v u/\Q v H'
def aaR (CX:O6)(hd:Option JI)(outer:List Env)(P:BK)(w:Av)(H:Hp)(s:Mk)(Q:VK)(E:XK)(r:Result)(s':Mk):Prop:=
 match r with
 | .ok (.ret u)=>CE outer P w H s Q u s'
 | .ok _=>False
 | .error e=>CX hd outer H s E e s'
structure eY (P:BK) (w:Av) (K:Zf) (mg:Str->Option JI) (base:Heap) (CX:O6) (k:Nat) (f:Addr) (fd:DW) (ps:List Str) (sp:Sp):Prop where
 len:∀vs H Q E,sp vs H Q E->vs.length=ps.length
 run:∀(A:BP) (outer:List Env) (s:Mk) (H:Hp) (args:Args) (us:List JI) (vs:List V) (Q:VK) (E:XK),lg k A->WL P w K mg base A outer s H->BindsTo s fd args (ps.zip us)->kI vs us->sp vs H Q E ->
  codeAny (Ai P w) A (.call (.ref f) args) (aaR CX A.handled outer P w H s Q E) s
variable {CX:O6}{base:Heap}{sp:Sp}{mg:Str->Option JI}{fd:DW}
theorem eY.mono {P:BK}{w:Av}{K:Zf}{mg:Str->Option JI}{base:Heap}{CX:O6}{j k:Nat}{f:Addr}{fd:DW}{ps:List Str}{sp:Sp}(F:eY P w K mg base CX j f fd ps sp)(h:j<=k) :
  eY P w K mg base CX k f fd ps sp:=⟨F.len,λA outer s H args us vs Q E hr=>F.run A outer s H args us vs Q E (hr.mono h)⟩
theorem eY.imp {ps:List Str}{sp':Sp}(F:eY P w K mg base CX k f fd ps sp)
  (h:∀vs H Q E,sp' vs H Q E->sp vs H Q E):eY P w K mg base CX k f fd ps sp':=
 ⟨λvs H Q E q=>F.len vs H Q E (h _ _ _ _ q),λA outer s H args us vs Q E hr he hb hv hs=>F.run A outer s H args us vs Q E hr he hb hv (h _ _ _ _ hs)⟩
section
variable {s:Mk}
theorem Yu.env0 (I:Yu X afn U H s):WL X.prog X.w X.K X.mg X.base X.A X.stack s H:=
 ⟨I.ok.frames,I.ok.mod,I.bs,Dp I.ok.bsz I.sz,I.stack,I.stkFree,I.hok,I.bare,I.qt0⟩
theorem Yu.after {Q:VK}(I:Yu X afn U H s)(h:CE X.stack X.prog X.w H s Q u s'):EP X afn U Q u s':=by
 obtain⟨v,H',os,bare,un,hok,r,q⟩:=h;obtain⟨hh,g,d,t,os'⟩:=s';obtain rfl:os'=s.os:=os;exact⟨v,H',I.call un hok bare nofun,r,q⟩
end
def Np (sp:Sp)(dvs:List V)(E:XK)(t:TA):TE:=λU H Q=>t U H λvs H1=>sp (vs++dvs) H1 Q E
def Binds (K:Zf)(fd:DW)(ps:List Str)(ds:List JI):Prop:=
 ∀(s:Mk) (us:List JI),K.In s.heap->(us++ds).length=ps.length->BindsTo s fd ⟨us,[]⟩ (ps.zip (us++ds))
theorem Binds.all {ps:List Str}(h:∀us:List JI,us.length=ps.length->bindArgs fd ⟨us,[]⟩=pure (ps.zip us)):Binds K fd ps []:=λs us _ hl=>by
 rw[RD]at hl|-
 exact .of_eq<|h us hl
def Passes (CX:O6)(X:Cx)(E:XK):Prop:=∀(afn:List (Addr×Obj)) (U:St) (H:Hp) (s:Mk) (e:JI) (s':Mk),Yu X afn U H s->CX X.A.handled X.stack H s E e s'->X.xe e s'
section
variable {ps:List Str}{dvs:List V}{ds:List JI}{E:XK}{x m:Str}{p apos:Pos}
theorem Ku {s:Mk}{Q:VK}{vs:List V}(F:eY X.prog X.w X.K X.mg X.base CX k f fd ps sp)(hr:lg k X.A)(hb:Binds X.K fd ps ds)(hd:kI dvs ds)(hx:Passes CX X E)
  (I:Yu X afn U H s) (r:kI vs us) (h:sp (vs++dvs) H Q E):Ae (Ai X.prog X.w) X.A (call (.ref f) us) (EP X afn U Q) X.xe s:=by
 have r2:=r.append hd;refine wpAny_call<|codeAny_mono (F.run _ _ s H ⟨us,[]⟩ _ _ Q E hr I.env0 (hb s us I.kIn<|r2.length ▸ F.len _ _ _ _ h) r2 h) λr s' hq=>?_
 cases r with
 | error e=>exact hx afn U H s e s' I hq
 | ok fl=>
  cases fl with
  | ret u=>exact I.after hq
  | next|brk|cont=>exact Nq hq
theorem zbE (F:eY X.prog X.w X.K X.mg X.base CX k f fd ps sp)(hr:lg k X.A)(hg:Gl X x)(hm:X.mg x=Dn (.ref f))(hk:Nv X.K (.ref f)=true)(hb:Binds X.K fd ps ds)(hd:kI dvs ds)(hx:Passes CX X E)
  (ha:PA X (e::es) t) (hdb:(x==("__debug__" : Str))=false:=by decide) (he:Al (e::es) X.env=(false,eval e X.env)::Al es X.env:=by rfl) (hpl:(Ef pos (Al es X.env)).any (·.1)=false:=by rfl) :
  PE X (.Call (.Name x p) (e::es) [] pos) (Np sp dvs E t):=by
 intro afn s U H Q I h;refine Ss<|qy I hg hm ?_ hdb
 exact PySem.W.callWith_K I.ok.mod.kin hk (Bj (ha pos afn s U H _ I h) λus s1 ⟨vs,H1,I1,r,q⟩=>⟨I1.kIn,(Ku F hr hb hd hx I1 r q)⟩) he hpl
theorem zaM (F:eY X.prog X.w X.K X.mg X.base CX k f fd ps sp)(hr:lg k X.A)(hg:Gl X x)(hm:X.mg x=Dn (.ref f))(hk:Nv X.K (.ref f)=true)(hb:Binds X.K fd ps ds)(hd:kI dvs ds)(hx:Passes CX X E)
  (hdb:(x==("__debug__" : Str))=false:=by decide):PE X (.Call (.Name x p) [] [] pos) (Np sp dvs E Yw):=by
 intro afn s U H Q I h;exact Ss<|qy I hg hm (PySem.W.callWith_K0 I.kIn hk<|Ku F hr hb hd hx I .nil h) hdb
structure aaC (K:Zf) (C f:Addr):Prop where
 makes:PySem.W.makesIn K C=true
 init:MJ K (.ref C) "__init__" = Dn (Dn (.ref f))
 fn:PySem.W.isFn K (.ref f)=true
 kp:Nv K (.ref C)=true
end
variable {vs:List V}{apos:Pos}
section
variable {ps ks:List Str}{E:XK}{x m:Str}{p kpos:Pos}{kws:List Hu}{tk:TA}{nm:Option Str}
structure aay (K:Zf) (fd:DW) (ps ks:List Str) (g:List JI->List JI->List JI) (gV:List V->List V->List V):Prop where
 to:∀(s:Mk) (us ws:List JI),K.In s.heap->(g us ws).length=ps.length->BindsTo s fd ⟨us,ks.zip ws⟩ (ps.zip (g us ws))
 rel:∀{vs:List V}{us:List JI}{zs:List V}{ws:List JI},kI vs us->kI zs ws->kI (gV vs zs) (g us ws)
variable {g:List JI->List JI->List JI}{gV:List V->List V->List V}
end
structure bO (N P:List Str) (sc:Scope):Prop where
 kind:sc.kind=.function
 co:sc.isCoroutine=false
 gen:sc.isGenerator=false
 nd:N.Nodup
 pre:N.take P.length=P
 par:∀x∈P,sc.names.lookup x=Dn .local\/sc.names.lookup x=Dn .cell
 nofree:∀y∈sc.names,y.2≠.free
theorem uX {Lw:Str->Option Ik}{x:Str}:∀{binds:List (Str×JI)}{m:Str->Option JI},(∀v,(x,v)∉binds)->bindL Lw binds m x=m x
 | [],_,_=>rfl
 | (n,v)::r,m,h=>by
  unfold bindL;rw[uX λw hw=>h w (Hj _ hw)];split
  grind
  rfl
theorem vM {Lw:Str->Option Ik}{x:Str}:∀{binds:List (Str×JI)}{m:Str->Option JI},(∀v,(x,v)∉binds)->bindC Lw binds m x=m x
 | [],_,_=>rfl
 | (n,v)::r,m,h=>by
  unfold bindC;rw[vM λw hw=>h w (Hj _ hw)];split
  rfl;grind
theorem uV {Lw:Str->Option Ik}{x:Str}{v:JI}:∀{P:List Str}{vs:List JI}{i:Nat}{m:Str->Option JI},P.Nodup->P[i]?=Dn x->vs[i]?=Dn v->Lw x=Dn .local ->
  bindL Lw (P.zip vs) m x=Dn v
 | p::P,w::vs,0,m,nd,h1,h2,hk=>by
  simp at h1 h2;subst h1;subst h2;show bindL Lw ((p,w)::P.zip vs) m p=_;unfold bindL;rw[uX λv hv=>(S8.mp nd).1 (List.of_mem_zip hv).1,if_pos hk];simp
 | p::P,w::vs,i+1,m,nd,h1,h2,hk=>by
  unfold bindL;exact uV (S8.mp nd).2 (by simpa using h1) (by simpa using h2) hk
theorem vg {Lw:Str->Option Ik}{x:Str}{v:JI}:∀{P:List Str}{vs:List JI}{i:Nat}{m:Str->Option JI},P.Nodup->P[i]?=Dn x->vs[i]?=Dn v->Lw x≠Dn .local ->
  bindC Lw (P.zip vs) m x=Dn v
 | p::P,w::vs,0,m,nd,h1,h2,hk=>by
  simp at h1 h2;subst h1;subst h2;show bindC Lw ((p,w)::P.zip vs) m p=_;unfold bindC;rw[vM λv hv=>(S8.mp nd).1 (List.of_mem_zip hv).1,if_neg hk];simp
 | p::P,w::vs,i+1,m,nd,h1,h2,hk=>by
  unfold bindC;exact vg (S8.mp nd).2 (by simpa using h1) (by simpa using h2) hk
def start (N:List Str)(vs:List V):St:=vs.map Dn++HI (N.length-vs.length) Go
def N5 (CX:O6)(P:BK)(w:Av)(K:Zf)(mg:Str->Option JI)(base:Heap)(N:List Str)(qual:Str)(scope:Scope)(f:Addr)(cd:JI)(A:BP)(outer:List Env)(s:Mk)(H:Hp)(E:XK):Cx where
 prog:=P
 w:=w
 K:=K
 mg:=mg
 base:=base
 A:=A.deeper (envOfC qual scope s.heap.objs.size f cd)
 N:=N
 s₀:=s
 H₀:=H
 env:=envOfC qual scope s.heap.objs.size f cd
 outer:=outer
 stack:=envOfC qual scope s.heap.objs.size f cd::outer
 ex:=[]
 calm:=A.handled.isNone
 fn:=λ_=>true
 pn:=[]
 xe:=λe s'=>Ae (Ai P w) (A.deeper (envOfC qual scope s.heap.objs.size f cd)) (leaving (envOfC qual scope s.heap.objs.size f cd) e) (λ_ s''=>CX A.handled outer H s E e s'') (λe' s''=>CX A.handled outer H s E e' s'') s'
theorem zq {sc:Scope}{x:Str}(h:sc.names.lookup x=Dn .cell):∃c,(Gv n sc.names []).lookup x=Dn c:=Option.isSome_iff_exists.mp (PySem.W.cellsFrom_some _ n [] (.inl h))
variable {outer:List Env}{scope:Scope}{qual:Str}
theorem aaX {ps:List Str}{cd:JI}{s s1:Mk}{E:XK}
  (S:bO N ps scope) (e0:WL P w K mg base A outer s H) (hl:vs.length=ps.length) (r:kI vs us)
  (x:InCallC s s.heap.objs.size (bindL (envOfC qual scope s.heap.objs.size f cd).kindOf (ps.zip us) λ_=>Go) (Gv (s.heap.objs.size+1) scope.names []) (bindC (envOfC qual scope s.heap.objs.size f cd).kindOf (ps.zip us) λ_=>Go) s1) :
  Yu (N5 CX P w K mg base N qual scope f cd A outer s H E) [] (start N vs) H s1:=by
 have hpl:=by have:=congrArg Ro S.pre;rw[Ib]at this;lia
 obtain⟨h1,tk,rfl,hk⟩:=x.done;have noA:∀b:Addr,b∉(N5 CX P w K mg base N qual scope f cd A outer s H E).ex:=λb z=>absurd (show b∈([]:List Addr)from z) (by simp)
 refine⟨⟨e0.mod,S.kind,rfl,rfl,Bm _,λy z c h1 h2=>?_,λy hy=>?_,λy c _ h=>?_,λz=>Option.isNone_iff_eq_none.mp (z),e0.qt,Around.frames_deeper e0.frames,.inr ⟨rfl,rfl⟩,λb z=>absurd z (noA b),e0.bs,e0.bsz,λb _ _=>noA b,λb z=>absurd z (noA b),e0.funs,e0.frf⟩,
  rfl,e0.bare,Un.kept hk,⟨_,x.toInCall.ns,λi y v h1 h2 h3=>?_⟩,λy c h=>⟨_,x.cell y c h⟩,e0.hok.fresh (Bm _),λy c h=>?_,λp hp=>absurd (show p∈([]:List _)from hp) (by simp),e0.hok.kept hk,?_⟩
 exact name_of_addr x.apart (Oa h1)<|Oa h2
 rcases hy with hy|hy
 exact zq hy;exact absurd rfl<|S.nofree _<|Oa hy
 exact PB<|x.above y c<|Oa h
 have hi:i<vs.length:=by
  unfold start at h2;by_cases hi:i<vs.length
  exact hi;rw[Pa (by simpa using hi)]at h2;rw[Uo]at h2;split at h2<;>cases h2
 have ha:vs[i]?=Dn v:=by
  unfold start at h2;rw[QB (by simpa using hi),Ds]at h2;cases e:vs[i]? with
  | none=>rw[e]at h2;cases h2
  | some a=>rw[e]at h2;cases h2;rfl
 obtain⟨u,hu,rv⟩:=r.get ha;have hp:ps[i]?=Dn y:=by
  rw[<-S.pre,List.getElem?_take_of_lt (by lia)];exact h1
 have ndP:=S.pre ▸ S.nd.sublist (List.take_sublist _ _);refine⟨u,rv,?_⟩;rcases S.par y (GK hp)with k|k
 exact .inl ⟨k,uV ndP hp hu k⟩;obtain⟨c,e⟩:=zq k;refine .inr ⟨.inl k,c,e,?_⟩;have q:=x.cell y c e;rw[vg ndP hp hu (by show scope.names.lookup y≠_;rw[k];decide)]at q;exact q;exact e0.hok.fresh<|PB<|x.above y c<|Oa h
 unfold start;show _=N.length;rw[Dv,Ag,Tt];lia
variable {od:Option Addr}
theorem Ud {params:Arguments}{dV kV doc pm cdv ct oc:JI}{an:Option Addr}
  {osl:Array (Option JI)}{N ps:List Str}{sp:Sp}(lk:K.lookup f=Dn ⟨oc,od,.func (Qn name qual params body scope dV kV doc pm an cdv ct),osl⟩) (hcd:PySem.W.codeIn K cdv qual=true) (S:bO N ps scope)
  (len:∀vs H Q E,sp vs H Q E->vs.length=ps.length)
  (hbody:∀(A:BP) (outer:List Env) (s:Mk) (H:Hp) (vs:List V) (Q:VK) (E:XK),lg k (A.deeper (envOfC qual scope s.heap.objs.size f cdv))->sp vs H Q E ->
   ∃t,LI (N5 CX P w K mg base N qual scope f cdv A outer s H E) body t/\t {nx:=λ_ H'=>Q .non H',rt:=Q} (start N vs) H) :
  eY P w K mg base CX (k+1) f (Qn name qual params body scope dV kV doc pm an cdv ct) ps sp:=by
 refine⟨len,λA outer s H args us vs Q E hr e0 hb r hsp=>?_⟩;have KX:=e0.mod.kin.keeps λb o e=>(e0.bs b o e).1
 have hkind:∀y∈ps.zip us,scope.names.lookup y.1=Dn .local\/(scope.names.lookup y.1=Dn .cell/\((Gv (s.heap.objs.size+1) _ []).lookup y.1).isSome=true):=λ⟨n,v⟩ hy=>by
  rcases S.par n (List.of_mem_zip hy).1 with q|q
  exact .inl q;exact .inr ⟨q,PySem.W.cellsFrom_some _ _ _<|.inl q⟩
 refine codeAny_call_function hr.depth (KX _ _ lk) rfl S.co S.gen rfl (PySem.W.codeRec_of KX hcd)<|hb _ _ _ _<|wpAny_newFunctionEnv_cells S.kind hkind λenv he s1 x=>?_
 subst he;refine⟨(e0.mod.nolimit.keeps λb o e=>(e0.bs b o e).1).keeps x.toInCall.keep,codeAny_func ?_⟩;obtain⟨t,ht,hq⟩:=hbody A outer s H vs Q E (hr.deeper _) hsp;refine Hw (ht [] s1 _ H _ (aaX S e0 (len _ _ _ _ hsp) r x) hq) (λfl s' hs=>?_) λe s' hs=>hs;have fin:∀{U':St}{H':Hp}{v:V}{u:JI},Yu (N5 CX P w K mg base N qual scope f cdv A outer s H E) [] U' H' s'->RelV v u->Q v H'->CE outer P w H s Q u s':=
  λ{U' H' v u} J rv q=>⟨v,H',J.os,J.bare,J.base,J.hok,rv,q⟩
 cases fl with
 | ret u=>
  obtain⟨v,U',H',J,rv,q⟩:=hs;exact fin J rv q
 | next=>
  obtain⟨U',H',J,q⟩:=hs;exact fin (v:=V.non) J rfl q
 | brk|cont=>
  obtain⟨_,_,_,q⟩:=hs;exact Nq q
section
variable {x:Str}{p:Pos}{id T:String}{r:List V->Hp->VK->Prop}
def tCB (r:List V->Hp->VK->Prop)(t:TA):TE:=λU H Q=>t U H λvs H1=>r vs H1 Q
theorem tB (hc:gJ X (.builtin id) r)(hg:Gl X x)(hm:X.mg x=Go)(hv:P0 x=Dn (.builtin id))(ha:PA X (e::es) t)(hn:x ≠ "__name__":=by decide)(hdb:(x==("__debug__" : Str))=false:=by decide)
  (he:Al (e::es) X.env=(false,eval e X.env)::Al es X.env:=by rfl) (hpl:(Ef pos (Al es X.env)).any (·.1)=false:=by rfl):PE X (.Call (.Name x p) (e::es) [] pos) (tCB r t):=by
 intro afn s U H Q I h;exact Ss<|rD I hg hm hv (PyProof.Rows.callWith_builtin1 (Bj (ha pos afn s U H _ I h) λus s1 ⟨vs,H1,I1,r1,q1⟩=>hc afn s1 U H1 vs us Q I1 r1 q1) he hpl) hn hdb
theorem vG (hc:gJ X (.type T) r)(hg:Gl X x)(hm:X.mg x=Go)(hv:P0 x=Dn (.type T))(ha:PA X (e::es) t)(hn:x ≠ "__name__":=by decide)(hdb:(x==("__debug__" : Str))=false:=by decide)
  (he:Al (e::es) X.env=(false,eval e X.env)::Al es X.env:=by rfl) (hpl:(Ef pos (Al es X.env)).any (·.1)=false:=by rfl):PE X (.Call (.Name x p) (e::es) [] pos) (tCB r t):=by
 intro afn s U H Q I h;exact Ss<|rD I hg hm hv (Uj (Bj (ha pos afn s U H _ I h) λus s1 ⟨vs,H1,I1,r1,q1⟩=>hc afn s1 U H1 vs us Q I1 r1 q1) he hpl) hn hdb
end
end L2
namespace HT
open PySem PyProof.Rows
section
open PySem.SeqAt
open PySem.AutoSeq1 (wpAny_loadPart')
open PySem.MeetsSeq PySem.MeetsSeq2 PySem.MeetsSeq3
end
section
variable {prog:BK}{w:Av}{A:BP}{E:JI->Mk->Prop}{s:Mk}
theorem Ny {t b:Addr}{vs ws:List JI}{Q:JI->Mk->Prop}(ht:IsTup s.heap t vs.toArray)(hb:IsTup s.heap b ws.toArray)(hv:vs≠[])
  (h1:ws=[]->Q (.ref t) s) (h2:ws≠[]->Q (.ref s.heap.objs.size) {s with heap:=s.heap.push {cls:=.type "tuple",data:=.seq (vs++ws).toArray} })
  (hsz:vs.length+ws.length<=Bh):Ae (Ai prog w) A (Hx .Add (.ref t) (.ref b)) Q E s:=by
 obtain⟨⟨cls,dd,data,sl⟩,ho,hc,n,hd⟩:=ht;obtain⟨⟨cls2,dd2,data2,sl2⟩,ho2,hc2,n2,hd2⟩:=hb;subst hc hd hc2 hd2;have e:vs.toArray++ws.toArray=(vs++ws).toArray:=by simp
 by_cases hw:ws=[]
 exact concat_meets ⟨_,ho,rfl⟩ ⟨_,ho2,rfl⟩ noFill_tuple_add seq_tuple_add PySem.F.slot_tuple_add PySem.F.entry_tuple_add (PySem.F.args_tuple_add_2 _ _)
  (tuple_addW1 t b _ _ n n2 dd dd2 sl sl2 (by simpa using hv) (by simp[hw])) ⟨ho,ho2,h1 hw⟩
 refine concat_meets ⟨_,ho,rfl⟩ ⟨_,ho2,rfl⟩ noFill_tuple_add seq_tuple_add PySem.F.slot_tuple_add PySem.F.entry_tuple_add (PySem.F.args_tuple_add_2 _ _)
  (tuple_addW2 t b _ _ n n2 dd dd2 sl sl2 (by simpa using hv) (by simpa using hw) hsz) ⟨ho,ho2,?_⟩
 grind
def sIx (n d:Nat):Option Int->Nat
 | none=>d
 | some v=>if v<0 then(v+(n:Int)).toNat else min v.toNat n
theorem Ia (n d:Nat):sIx n d Go=d:=rfl
theorem Em (n d k:Nat):sIx n d (Dn (k:Int))=min k n:=rfl
theorem Fp (v:Int)(n d:Nat):(if v<0 then max (v+(n:Int)) 0 else min v (n:Int))=((sIx n d (Dn v):Nat):Int):=by
 show _=(((if v<0 then(v+(n:Int)).toNat else min _ n):Nat):Int);grind
theorem aaO (lo hi:Option Int)(n:Nat):Builtin.Slice.sliceAdjust lo hi 1 (n:Int)=(((sIx n 0 lo:Nat):Int),((sIx n n hi:Nat):Int)):=by
 refine Prod.ext ?_ ?_;cases lo with
 | none=>rfl
 | some v=>exact Fp v n 0
 cases hi with
 | none=>rfl
 | some v=>exact Fp v n n
theorem aaz (i j:Nat):Builtin.Slice.slicePlaces (i:Int) (j:Int) 1=j-i:=by
 unfold Builtin.Slice.slicePlaces;lia
theorem rP {v:JI}{o:Option Int}{Q:Option Int->Mk->Prop}(p:IsPart v o)(h:Q o s):Ae (Ai prog w) A (Builtin.Slice.slicePartIndex v) Q E s:=by
 cases p with
 | none=>exact slicePart_none h
 | int i t=>exact slicePart_int h
theorem iH {sl:Addr}{vl vu:JI}{lo hi:Option Int}{n:Nat}{Q:Int×Int×Nat->Mk->Prop}(hs:s.heap.IsSliceOf sl vl vu .none)(pl:IsPart vl lo)(pu:IsPart vu hi)
  (h:Q (((sIx n 0 lo:Nat):Int),1,sIx n n hi-sIx n 0 lo) s):Ae (Ai prog w) A (Builtin.Slice.sliceApplied (.ref sl) (pure (n:Int))) Q E s:=by
 obtain⟨os,hos,hcs,hds⟩:=hs;refine Zr<|Zr<|Hq hos hds rfl<|Zr<|Hq hos hds rfl<|Zr<|Hq hos hds rfl<|CG ?_
 refine Zr<|slicePart_none ?_
 rw[if_neg (by decide)];refine Zr<|rP pl<|Zr<|rP pu<|Zr<|CG ?_
 show Ae _ _ (match Builtin.Slice.sliceAdjust lo hi 1 _ with|(lo,hi)=>pure (lo,(1:Int),Builtin.Slice.slicePlaces lo hi 1)) _ _ s;rw[aaO lo hi n];show Ae _ _ (pure _) _ _ s;rw[aaz];exact CG h
theorem abv (xs:Array JI)(i k:Nat):((LC k).filterMap λ(m:Nat)=>xs[((i:Int)+(m:Int)*1).toNat]?).toArray=((xs.toList.drop i).take k).toArray:=by
 have e:(λ(m:Nat)=>xs[((i:Int)+(m:Int)*1).toNat]?)=λm=>xs[i+m]?:=by
  funext m;have:((i:Int)+(m:Int)*1).toNat=i+m:=by lia
  rw[this]
 rw[e];have:=pick_run xs i k
 rw[List.filterMap_map]at this;have e2:((λx=>xs[x]?) ∘λx=>i+x)=λm=>xs[i+m]?:=rfl
 grind
theorem mV {t sl:Addr}{afo:Array JI}{vl vu:JI}{lo hi:Option Int}{Q:JI->Mk->Prop}(ht:IsTup s.heap t afo)(hs:s.heap.IsSliceOf sl vl vu .none)(pl:IsPart vl lo)(pu:IsPart vu hi)
  (hw:¬(sIx afo.size 0 lo=0/\sIx afo.size afo.size hi=afo.size))
  (h:Q (.ref s.heap.objs.size) {s with heap:=s.heap.push {cls:=.type "tuple",data:=.seq ((afo.toList.drop (sIx afo.size 0 lo)).take (sIx afo.size afo.size hi-sIx afo.size 0 lo)).toArray} })
  (hsz:afo.size<=Bh):Ae (Ai prog w) A (getItem (.ref t) (.ref sl)) Q E s:=by
 have htake:sizeOk (.seq ((afo.toList.drop (sIx afo.size 0 lo)).take (sIx afo.size afo.size hi-sIx afo.size 0 lo)).toArray):=by
  show((afo.toList.drop (sIx afo.size 0 lo)).take (sIx afo.size afo.size hi-sIx afo.size 0 lo)).toArray.size<=Bh;rw[Ii,Ib,Ly,Array.length_toList];lia
 obtain⟨os,hos,hcs,hds⟩:=id hs;have hTs:s.TypeIs (.ref sl) "slice":=⟨os,hos,hcs⟩
 unfold getItem;try with_reducible refine Mg ?_
 refine Zr<|wpAny_sequenceKey ht.typeIs (by decide) ?_
 refine Zr (RZ (name:=Str.ofString "__getitem__") ht.typeIs Sy
  (RL Sy ht.typeIs entry_tuple_getitem ?_ (args_tuple_getitem _ _)))
 show Ae _ _ (Builtin.Tuple.tupleItemsOf (.ref t) >>= _) _ _ s;refine Zr<|tupleItemsOf_ ht ?_
 refine Zr<|wpAny_typeOf hTs ?_
 refine Zr<|iH hs pl pu ?_
 have hno:¬((((sIx afo.size 0 lo:Nat):Int)==0&&(1:Int)==1&&(sIx afo.size afo.size hi-sIx afo.size 0 lo)==afo.size)=true):=by
  intro q;rw[GQ,GQ]at q;have q1:((sIx afo.size 0 lo:Nat):Int)=0:=eq_of_beq q.1.1;have q2:sIx afo.size afo.size hi-sIx afo.size 0 lo=afo.size:=eq_of_beq q.2;exact hw ⟨by lia,by lia⟩
 show Ae _ _ (if(((sIx afo.size 0 lo:Nat):Int)==0&&(1:Int)==1&&(sIx afo.size afo.size hi-sIx afo.size 0 lo)==afo.size)=true then _ else _) _ _ s;rw[if_neg hno,abv];first
  | exact Zr (m:=Builtin.Tuple.tupleExact _) (T8 (Zr (CG (CG ⟨_,rfl,CG h⟩))) htake)
end
end HT
namespace L2
open PySem PySem.Spec PyProof.Rows
abbrev TO:=St->Hp->(Option Int->Hp->Prop)->Prop
def PO (X:Cx)(e:Option Expr)(t:TO):Prop:=
 ∀(afn:List (Addr×Obj)) (s:Mk) (U:St) (H:Hp) (Q:Option Int->Hp->Prop),Yu X afn U H s->t U H Q ->
  Ae (Ai X.prog X.w) X.A (evalPart e X.env) (λu s'=>∃o H',Yu X afn U H' s'/\IsPart u o/\Q o H') X.xe s
def zbI:TO:=λ_ H Q=>Q Go H
def Xu (t:TE):TO:=λU H Q=>t U H λx H1=>∃i,x=.int i/\Q (Dn i) H1
section
variable {X:Cx}{e:Expr}{te:TE}{lo hi:Option Expr}{tl th:TO}{pos p2:Pos}
theorem aee:PO X Go zbI:=by
 intro afn s U H Q I h;exact CG ⟨Go,H,I,.none,h⟩
theorem adO (h:PE X e te):PO X (Dn e) (Xu te):=by
 intro afn s U H Q I hw;refine Bj (h afn s U H _ I hw) λu s1 ⟨x,H1,I1,r1,q1⟩=>?_;obtain⟨i,rfl,q⟩:=q1;obtain⟨t,rfl⟩:=r1;exact⟨Dn i,H1,I1,.int i t,q⟩
def N8 (X:Cx)(r:V->Option Int->Option Int->Hp->VK->Prop):Prop:=
 ∀(afn:List (Addr×Obj)) (s:Mk) (U:St) (H:Hp) (x:V) (v vl vu:JI) (lo hi:Option Int) (sl:Addr) (Q:VK),Yu X afn U H s->RelV x v->s.heap.IsSliceOf sl vl vu .none->IsPart vl lo->IsPart vu hi->r x lo hi H Q ->
  ∃T id,typeLookup (.type T) "__getitem__" = pure (Dn (.builtin id))/\s.TypeIs v T/\Ae (Ai X.prog X.w) X.A (getItem v (.ref sl)) (EP X afn U Q) X.xe s
theorem N8.or {r r':V->Option Int->Option Int->Hp->VK->Prop}(h:N8 X r)(h':N8 X r'):N8 X (λx lo hi H Q=>r x lo hi H Q\/r' x lo hi H Q):=by
 intro afn s U H x v vl vu lo hi sl Q I rx hs pl pu q;rcases q with q|q
 exact h afn s U H x v vl vu lo hi sl Q I rx hs pl pu q;exact h' afn s U H x v vl vu lo hi sl Q I rx hs pl pu q
def tSl (r:V->Option Int->Option Int->Hp->VK->Prop)(te:TE)(tl th:TO):TE:=λU H Q=>te U H λx H1=>tl U H1 λl H2=>th U H2 λu H3=>r x l u H3 Q
theorem zp {r:V->Option Int->Option Int->Hp->VK->Prop}(hr:N8 X r)(he:PE X e te)(hl:PO X lo tl)(hu:PO X hi th):PE X (.Subscript e (.Slice lo hi Go p2) pos) (tSl r te tl th):=by
 intro afn s U H Q I h;refine Subscript_<|Bj (he afn s U H _ I h) λv s1 ⟨x,H1,I1,r1,q1⟩=>(wpAny_Slice<|Bj (hl afn s1 U H1 _ I1 q1) λvl s2 ⟨l,H2,I2,pl,q2⟩=>Bj (hu afn s2 U H2 _ I2 q2) λvu s3 ⟨u,H3,I3,pu,q3⟩=>(CG ?_))
 have I4:Yu X afn U H3 {s3 with heap:=s3.heap.push {cls:=.type "slice",data:=.fields #[vl,vu,.none]} }:=I3.kept λb ob q=>Cm _ q
 obtain⟨T,id,hT,ht,hg⟩:=hr afn {s3 with heap:=s3.heap.push {cls:=.type "slice",data:=.fields #[vl,vu,.none]} } U H3 x v vl vu l u _ Q I4 r1 (Heap.IsSliceOf.new ..) pl pu q3;exact tail_any ht hT hg<|by with_unfolding_all rfl
def M8 (xs:List V)(lo hi:Option Int):List V:=(xs.drop (HT.sIx xs.length 0 lo)).take (HT.sIx xs.length xs.length hi-HT.sIx xs.length 0 lo)
theorem qF (xs:List V)(lo hi:Option Int):(M8 xs lo hi).length<=xs.length:=by
 unfold M8;rw[Ib,Ly];lia
def ZC (K:Zf):V->Option Int->Option Int->Hp->VK->Prop:=λx lo hi H Q=>∃a xs,x=.ref a/\Fw K H a xs /\
 ¬(HT.sIx xs.length 0 lo=0/\HT.sIx xs.length xs.length hi=xs.length)/\∀p,H p=Go->Q (.ref p) (CN H p (.tup (M8 xs lo hi)))
theorem Vx:N8 X (ZC X.K):=by
 intro afn s U H x v vl vu lo hi sl Q I rx hs pl pu h;obtain⟨a,xs,rfl,hx,hw,q⟩:=h;cases rx;obtain⟨its,r,ht,hz⟩:=I.tuple hx;have afp:its.toArray.size=xs.length:=r.length.symm;refine⟨"tuple",_,Sy.lookup,ht.typeIs,(HT.mV ht hs pl pu (afp ▸ hw) ?_<|by rwa[afp])⟩;rw[afp];refine⟨.ref _,_,I.laid (λb ob q=>Cm _ q) (Bm _) ?_,rfl,q _<|I.hok.fresh<|Bm _⟩;exact⟨Dp (qF xs lo hi) hz,_,(r.drop _).take _,Iu.new _ _⟩
def Yn (K:Zf):R2:=λx y H Q=>∃a b xs ys,x=.ref a/\y=.ref b/\Fw K H a xs/\Fw K H b ys/\xs≠[]/\xs.length+ys.length<=Bh /\
 (ys=[]->Q (.ref a) H)/\(ys≠[]->∀p,H p=Go->Q (.ref p) (CN H p (.tup (xs++ys))))
theorem kI.nil_iff {xs:List V}{us:List JI}(r:kI xs us):us=[]↔xs=[]:=by
 cases r with
 | nil|cons _ _=>simp
theorem zbN:G4 X (Hx .Add) (Yn X.K):=by
 intro afn s U H x y v u Q I rx ry h;obtain⟨a,b,xs,ys,rfl,rfl,ha,hb,hx,hz,q1,q2⟩:=h;cases rx;cases ry;obtain⟨its,r1,p1,_⟩:=I.tuple ha;obtain⟨its2,r2,p2,_⟩:=I.tuple hb;refine HT.Ny p1 p2 (λz=>hx<|r1.nil_iff.mp z) (λz=>⟨.ref a,H,I,rfl,q1<|r2.nil_iff.mp z⟩) (λz=>?_) (by rw[<-r1.length,<-r2.length];exact hz);refine⟨.ref _,_,I.laid (λb ob q=>Cm _ q) (Bm _) ?_,rfl,q2 (λw=>z<|r2.nil_iff.mpr w) _<|I.hok.fresh<|Bm _⟩;exact⟨Dv ▸ hz,_,r1.append r2,Iu.new _ _⟩
end
def Jl (n:Nat)(i:Int):Option Nat:=if 0<=i then(if i<n then Dn i.toNat else Go)else if -(n:Int)<=i then Dn (i+n).toNat else Go
def Hh {α:Type}(xs:List α)(i:Int):Option α:=(Jl xs.length i).bind λj=>xs[j]?
theorem Ej {n:Nat}{i:Int}{j:Nat}(h:Jl n i=Dn j):seqIndex? i n=Dn j/\j<n/\-(n:Int)<=i/\i<n:=by
 unfold Jl at h;by_cases h0:0<=i
 rw[if_pos h0]at h;by_cases h1:i<n
 rw[if_pos h1]at h;have e:=Ge h;exact⟨by rw[seqIndex_of h0 h1,e],by lia,by lia,h1⟩;grind
 rw[if_neg h0]at h;by_cases h1:-(n:Int)<=i
 rw[if_pos h1]at h;have e:=Ge h;exact⟨by rw[seqIndex_neg (by lia) h1,e],by lia,h1,by lia⟩;grind
theorem wX {α:Type}{xs:List α}{i:Int}{v:α}(h:Hh xs i=Dn v):∃j,seqIndex? i xs.length=Dn j/\xs[j]?=Dn v/\j<xs.length/\-(xs.length:Int)<=i/\i<xs.length:=by
 unfold Hh at h;cases e:Jl _ i with
 | none=>rw[e]at h;cases h
 | some j=>
  rw[e]at h;obtain⟨h1,h2,h3,h4⟩:=Ej e;grind
theorem bJ {α:Type}{xs:List α}{j:Nat}{v:α}(h:xs[j]?=Dn v):Hh xs (j:Int)=Dn v:=by
 have hj:=(HY.mp h).1;have e:Jl xs.length (j:Int)=Dn j:=by
  unfold Jl;grind
 unfold Hh;rw[e];exact h
theorem abh {α:Type}(xs:List α)(v:α):Hh (xs++[v]) (-1)=Dn v:=by
 have hl:(xs++[v]).length=xs.length+1:=by simp
 have e:Jl (xs++[v]).length (-1)=Dn xs.length:=by
  unfold Jl;rw[if_neg (by decide),if_pos (by lia)];congr 1
  lia
 unfold Hh;rw[e];simp
def xg (b:Expr):Prop:=∀o i,subscripted b false o i=operate [o,i] (getItem o i)
def Ol (X:Cx)(r:R2):Prop:=
 ∀(value slice:Expr) (afn:List (Addr×Obj)) (s:Mk) (U:St) (H:Hp) (x y:V) (v u:JI) (Q:VK),Yu X afn U H s->RelV x v->RelV y u->r x y H Q ->
  subscripted slice false v u=operate [v,u] (getItem v u)->Ae (Ai X.prog X.w) X.A (subscriptTail value slice v u) (EP X afn U Q) X.xe s
def ML (X:Cx)(id:String)(r:V->List V->Hp->VK->Prop):Prop:=
 ∀(afn:List (Addr×Obj)) (s:Mk) (U:St) (H:Hp) (x:V) (xs:List V) (v:JI) (us:List JI) (Q:VK),Yu X afn U H s->RelV x v->kI xs us->r x xs H Q ->
  Ae (Ai X.prog X.w) X.A (call (.builtin id) (v::us)) (EP X afn U Q) X.xe s
section
variable {X:Cx}{a b:Expr}{ta tb:TE}{pos:Pos}
theorem Ol.or {r r':R2}(h:Ol X r)(h':Ol X r'):Ol X (λx y H Q=>r x y H Q\/r' x y H Q):=by
 intro value slice afn s U H x y v u Q I rx ry q hs;rcases q with q|q
 exact h value slice afn s U H x y v u Q I rx ry q hs;exact h' value slice afn s U H x y v u Q I rx ry q hs
theorem ML.or {id:String}{r r':V->List V->Hp->VK->Prop}(h:ML X id r)(h':ML X id r'):ML X id (λx xs H Q=>r x xs H Q\/r' x xs H Q):=by
 intro afn s U H x xs v us Q I rx rs q;rcases q with q|q
 exact h afn s U H x xs v us Q I rx rs q;exact h' afn s U H x xs v us Q I rx rs q
theorem R7 {r:R2}(hr:Ol X r)(ha:PE X a ta)(hb:PE X b tb)(hs:xg b):PE X (.Subscript a b pos) (tOp r ta tb):=by
 intro afn s U H Q I h;exact Subscript_<|X8 ha hb I h λv u s2 x y H2 I2 rx ry q=>hr a b afn s2 U H2 x y v u Q I2 rx ry q<|hs _ _
def YH (K:Zf):R2:=λx y H Q=>∃p xs i v,x=.ref p/\y=.int i/\Ez K H p xs/\Hh xs i=Dn v/\Q v H
def YQ (K:Zf):R2:=λx y H Q=>∃p xs i v,x=.ref p/\y=.int i/\Fw K H p xs/\Hh xs i=Dn v/\Q v H
def Y0:R2:=λx y H Q=>∃z i c,x=.str z/\y=.int i/\z.length<=Bh/\Hh z.cps.toList i=Dn c/\Q (.str ⟨#[c]⟩) H
theorem aeg:Ol X (YH X.K):=by
 intro value slice afn s U H x y v u Q I rx ry h hs;obtain⟨p,xs,i,z,rfl,rfl,hq,he,q⟩:=h;cases rx;obtain⟨t,rfl⟩:=ry;obtain⟨its,r,pl,hz⟩:=I.list hq;obtain⟨j,h1,h2,h3,h4,h5⟩:=wX he;obtain⟨w,ew,rw'⟩:=r.get h2;have hl:=r.length;have hn:=rC;have fin:EP X afn U Q w s:=⟨z,H,I,rw',q⟩
 by_cases h0:0<=i
 have hj:=by
  rw[seqIndex_of h0 h5]at h1;exact Ge h1
 exact item_listR pl.isList h0 (by lia) (by rw[hj];simpa using ew) fin hs;have hj:(i+(its.toArray.size:Int)).toNat=j:=by
  rw[seqIndex_neg (by lia) h4]at h1;grind
 exact subscriptTail_builtinR pl.isList.typeIs slot_list_getitem.lookup
  (wpAny_getItem_list_neg pl.isList (by lia) (by rw[Ii]<;>lia) (by lia) (by rw[hj];simpa using ew) ⟨rfl,fin⟩) hs
theorem aeL:Ol X (YQ X.K):=by
 intro value slice afn s U H x y v u Q I rx ry h hs;obtain⟨p,xs,i,z,rfl,rfl,hq,he,q⟩:=h;cases rx;obtain⟨t,rfl⟩:=ry;obtain⟨its,r,pl,hz⟩:=I.tuple hq;obtain⟨j,h1,h2,h3,h4,h5⟩:=wX he;obtain⟨w,ew,rw'⟩:=r.get h2;have hn:=rC;exact subscriptTail_builtinR pl.typeIs slot_tuple_getitem.lookup
  (getItem_tuple pl (by lia) (by lia) (by rw[Ii,<-r.length];exact h1) (by simpa using ew) ⟨rfl,z,H,I,rw',q⟩) hs
theorem Vz:Ol X Y0:=by
 intro value slice afn s U H x y v u Q I rx ry h hs;obtain⟨z,i,c,rfl,rfl,hz,he,q⟩:=h;obtain⟨t,rfl⟩:=rx;obtain⟨t',rfl⟩:=ry;obtain⟨j,h1,h2,h3,h4,h5⟩:=wX he;have hl:z.cps.toList.length=z.length:=by simp[Str.length]
 rw[hl]at h1 h4 h5;have hn:=rC;exact tail_any (OD s z t) slot_str_getitem.lookup (getItem_str (by
  rw[(decide_eq_false (by lia)),(decide_eq_false (by lia)),Bool.or_false]) (by rw[h1];simpa using h2) ⟨.str ⟨#[c]⟩,H,I.tok _,⟨_,rfl⟩,q⟩) hs
def rIx (K:Zf):R2:=λx y H Q=>YH K x y H Q\/YQ K x y H Q\/Y0 x y H Q
theorem JR:Ol X (rIx X.K):=aeg.or (aeL.or Vz)
theorem abj (its:List JI)(n j:Nat)(u:JI):Obj.mapSeq (·.setIfInBounds j u) {cls:=.type "list",data:=.seq its.toArray n}={cls:=.type "list",data:=.seq (its.set j u).toArray n}:=by
 simp[Obj.mapSeq]
theorem Yu.lst {afn:List (Addr×Obj)}{U:St}{H:Hp}{s:Mk}{p:Addr}{xs:List V}(I:Yu X afn U H s)(h:H p=Dn (.lst xs)) :
  ∃(its:List JI) (n:Nat),kI xs its/\s.heap.get? p=Dn {cls:=.type "list",data:=.seq its.toArray n}/\xs.length<=Bh:=by
 obtain⟨z,its,n,r,e⟩:=I.hok p _ h;grind
theorem Yu.lstUpd {afn:List (Addr×Obj)}{U:St}{H:Hp}{s:Mk}{p:Addr}{xs ys:List V}{its its':List JI}{n n':Nat}{f:Obj->Obj}(I:Yu X afn U H s)(h:H p=Dn (.lst xs))
  (ho:s.heap.get? p=Dn {cls:=.type "list",data:=.seq its.toArray n}) (hf:f {cls:=.type "list",data:=.seq its.toArray n}={cls:=.type "list",data:=.seq its'.toArray n'}) (r:kI ys its') (hz:ys.length<=Bh) (t:Nat) :
  Yu X afn U (CN H p (.lst ys)) {s with heap:=s.heap.update p f,toks:=t}:=by
 have e:(s.heap.update p f).get? p=Dn {cls:=.type "list",data:=.seq its'.toArray n'}:=by
  rw[Q9 f ho (by rw[hf]<;>rfl),hf]
 refine I.write (by rw[h];trivial) (.inl rfl) (λb u hb q=>(N6 _ _<|HF hb).trans q) ⟨_,e⟩ ?_;exact⟨hz,its',n',r,e⟩
def Rj:V->V->V->Hp->(Hp->Prop)->Prop:=λo i v H Q=>∃p xs k j,o=.ref p/\i=.int k/\H p=Dn (.lst xs)/\Jl xs.length k=Dn j/\Q (CN H p (.lst (xs.set j v)))
theorem set_list:Yh X Rj:=by
 intro afn s U H o i v ov iv u Q I ro ri rv h;obtain⟨p,xs,k,j,rfl,rfl,hp,hj,q⟩:=h;cases ro;obtain⟨t,rfl⟩:=ri;obtain⟨its,n,r,ho,hz⟩:=I.lst hp;obtain⟨h1,h2,h3,h4⟩:=Ej hj;have hl:=r.length;have hn:=rC;have I':=
  I.lstUpd hp ho (abj its n j u) (r.set rv j) (by rwa[List.length_set]) s.toks
 by_cases h0:0<=k
 have hk:=by
  rw[seqIndex_of h0 h4]at h1;exact Ge h1
 exact PySem.W.ki_setAt ho h0 (by lia) (by rw[Ii,<-hl];exact h4)<|hk ▸ ⟨_,I',q⟩
 have hk:(k+(its.toArray.size:Int)).toNat=j:=by
  rw[seqIndex_neg (by lia) h3]at h1;grind
 exact PySem.W.ki_setBack ho (by lia) (by rw[Ii,<-hl];exact h3) (by lia)<|hk ▸ ⟨_,I',q⟩
theorem uH (lo hi:Option Int)(n:Nat):(Qu lo hi Go n).1=((HT.sIx n 0 lo:Nat):Int)/\(Qu lo hi Go n).2.1=((HT.sIx n n hi:Nat):Int)/\(Qu lo hi Go n).2.2=1:=by
 refine⟨?_,?_,rfl⟩;cases lo with
 | none=>simp[Qu,HT.sIx]
 | some i=>
  simp[Qu,HT.sIx];grind
 cases hi with
 | none=>simp[Qu,HT.sIx]
 | some i=>
  simp[Qu,HT.sIx];grind
theorem tX (its:List JI)(lo hi:Option Int):slicePick its.toArray lo hi Go=((its.drop (HT.sIx its.length 0 lo)).take (HT.sIx its.length its.length hi-HT.sIx its.length 0 lo)).toArray:=by
 obtain⟨h1,h2,h3⟩:=uH lo hi _;unfold slicePick;rw[h1,h2,h3];simp only[sliceRange_one,pick_run]<;>rfl
def Zo (K:Zf):V->Option Int->Option Int->Hp->VK->Prop:=λx lo hi H Q=>∃a xs,x=.ref a/\Ez K H a xs/\∀p,H p=Go->Q (.ref p) (CN H p (.lst (M8 xs lo hi)))
theorem acz:N8 X (Zo X.K):=by
 intro afn s U H x v vl vu lo hi sl Q I rx hs pl pu h;obtain⟨a,xs,rfl,hx,q⟩:=h;cases rx;obtain⟨its,r,ht,hz⟩:=I.list hx;have afp:=r.length;refine⟨"list",_,slot_list_getitem.lookup,ht.isList.typeIs,?_⟩;refine wpAny_getItem_list_slice ht.isList hs pl pu .none (by simp) ?_ (by rw[Ii]<;>lia);rw[tX,<-afp];refine⟨.ref _,_,I.laid (λb ob q=>Cm _ q) (Bm _) ?_,rfl,q _<|I.hok.fresh<|Bm _⟩;exact⟨Dp (qF xs lo hi) hz,_,0,(r.drop _).take _,HJ _ rfl⟩
def mR:V->Bool
 | .non=>true
 | .bl _=>true
 | .int _=>true
 | .str _=>true
 | _=>false
def NZ:V->V->Bool
 | .non,.non=>true
 | .bl a,.bl b=>a==b
 | .bl a,.int b=>(if a then 1 else 0)==b
 | .int a,.bl b=>a==(if b then 1 else 0)
 | .int a,.int b=>a==b
 | .str a,.str b=>a==b
 | _,_=>false
theorem J1 {A:BP}{s:Mk}{y x:V}{u v:JI}(ry:RelV y u)(rx:RelV x v)(fy:mR y=true)(fx:mR x=true):Pb A s u v (NZ y x):=by
 cases y with
 | non=>
  cases ry;cases x with
  | non=>cases rx;exact SeqAt.EqAt.same _
  | bl b=>cases rx;exact SeqAt.EqAt.none_bool b
  | int b=>obtain⟨t,rfl⟩:=rx;exact SeqAt.EqAt.none_int b t
  | str b=>obtain⟨t,rfl⟩:=rx;exact SeqAt.EqAt.none_str b t
  | _=>exact absurd (show false=true from fx) Jm
 | bl a=>
  cases ry;cases x with
  | non=>cases rx;exact SeqAt.EqAt.bool_none a
  | bl b=>cases rx;exact SeqAt.EqAt.bool_bool a b
  | int b=>obtain⟨t,rfl⟩:=rx;exact SeqAt.EqAt.bool_int a b t
  | str b=>obtain⟨t,rfl⟩:=rx;exact SeqAt.EqAt.bool_str a b t
  | _=>exact absurd (show false=true from fx) Jm
 | int a=>
  obtain⟨t',rfl⟩:=ry;cases x with
  | non=>cases rx;exact SeqAt.EqAt.int_none a t'
  | bl b=>cases rx;exact SeqAt.EqAt.int_bool a t' b
  | int b=>obtain⟨t,rfl⟩:=rx;exact SeqAt.EqAt.int_int a t' b t
  | str b=>obtain⟨t,rfl⟩:=rx;exact SeqAt.EqAt.int_str a t' b t
  | _=>exact absurd (show false=true from fx) Jm
 | str a=>
  obtain⟨t',rfl⟩:=ry;cases x with
  | non=>cases rx;exact SeqAt.EqAt.str_none a t'
  | bl b=>cases rx;exact SeqAt.EqAt.str_bool a t' b
  | int b=>obtain⟨t,rfl⟩:=rx;exact SeqAt.EqAt.str_int a t' b t
  | str b=>obtain⟨t,rfl⟩:=rx;exact SeqAt.EqAt.str_str a t' b t
  | _=>exact absurd (show false=true from fx) Jm
 | _=>exact absurd (show false=true from fy) Jm
def eqU (x:V)(u:JI):Bool:=match u with
 | .none=>NZ .non x
 | .bool b=>NZ (.bl b) x
 | .int i _=>NZ (.int i) x
 | .str z _=>NZ (.str z) x
 | _=>false
theorem J9 {x y:V}{u:JI}(r:RelV y u)(f:mR y=true):eqU x u=NZ y x:=by
 cases y with
 | non|bl b=>cases r;rfl
 | int i|str z=>obtain⟨t,rfl⟩:=r;rfl
 | _=>exact absurd f Jm
theorem wQ {x:V}:∀{xs:List V}{us:List JI},kI xs us->xs.all mR=true->us.any (eqU x)=xs.any λy=>NZ y x
 | _,_,.nil,_=>rfl
 | y::xs,u::us,.cons r t,f=>by
  rw[Oz,GQ]at f;rw[Ob,Ob,J9 r f.1,wQ t f.2]
theorem ud {A:BP}{s:Mk}{x:V}{v:JI}(rx:RelV x v)(fx:mR x=true):∀{xs:List V}{us:List JI},kI xs us->xs.all mR=true->∀u∈us,Pb A s u v (eqU x u)
 | _,_,.nil,_=>λu hu=>by cases hu
 | y::xs,u::us,.cons r t,f=>λu' hu=>by
  rw[Oz,GQ]at f;rcases Bg.mp hu with rfl|hu
  rw[J9 r f.1];exact J1 r rx f.1 fx;exact ud rx fx t f.2 u' hu
def inV (x:V)(xs:List V):Bool:=xs.any λy=>NZ y x
def rIn (K:Zf)(neg:Bool):R2:=λx y H Q=>∃p xs,y=.ref p/\(Ez K H p xs\/Fw K H p xs)/\mR x=true/\xs.all mR=true/\Q (.bl (if neg then !inV x xs else inV x xs)) H
theorem aaK:G4 X (HB .In) (rIn X.K false):=by
 intro afn s U H x y v u Q I rx ry h;obtain⟨p,xs,rfl,hq,fx,fs,q⟩:=h;cases ry;rcases hq with hq|hq
 obtain⟨its,r,pl,hz⟩:=I.list hq;refine SeqAt.in_listAt _ pl.isList (λw hw=>ud rx fx r fs w<|by simpa using hw) ⟨.bl _,H,I,rfl,?_⟩
 rwa[show its.toArray.any _=its.any (eqU x) by simp,wQ r fs]
 obtain⟨its,r,pl,hz⟩:=I.tuple hq;refine SeqAt.in_tupleAt _ pl (λw hw=>ud rx fx r fs w<|by simpa using hw) ⟨.bl _,H,I,rfl,?_⟩
 rwa[show its.toArray.any _=its.any (eqU x) by simp,wQ r fs]
theorem vd:gJ X (.builtin "len") (λxs H Q=>∃p ys,xs=[.ref p]/\(Ez X.K H p ys\/Fw X.K H p ys)/\Q (.int ys.length) H):=by
 intro afn s U H xs us Q I r h;obtain⟨p,ys,rfl,hq,q⟩:=h;obtain⟨u,rfl,rx⟩:=vals1 r;cases rx;have hn:=rC;rcases hq with hq|hq
 obtain⟨its,r',pl,hz⟩:=I.list hq;have afp:=r'.length;exact Calls.call_len_list pl.isList (by simp<;>lia) ⟨.int _,H,I.tok _,⟨s.toks+1,by rw[Ii,afp]⟩,q⟩;obtain⟨its,r',pl,hz⟩:=I.tuple hq;have afp:=r'.length;exact len_tuple pl (by simp<;>lia) ⟨.int _,H,I.tok _,⟨s.toks+1,by rw[Ii,afp]⟩,q⟩
theorem gJ.or {f:JI}{r r':List V->Hp->VK->Prop}(h:gJ X f r)(h':gJ X f r'):gJ X f (λxs H Q=>r xs H Q\/r' xs H Q):=by
 intro afn s U H xs us Q I rs q;rcases q with q|q
 exact h afn s U H xs us Q I rs q;exact h' afn s U H xs us Q I rs q
theorem uT:gJ X (.type "list") (λxs H Q=>∃p ys,xs=[.ref p]/\(Ez X.K H p ys\/Fw X.K H p ys)/\∀l,H l=Go->Q (.ref l) (CN H l (.lst ys))):=by
 intro afn s U H xs us Q I r h;obtain⟨p,ys,rfl,hq,q⟩:=h;obtain⟨u,rfl,rx⟩:=vals1 r;cases rx;have fin:∀(its:List JI),kI ys its->ys.length<=Bh->∀(h':Heap) (c':Nat),(∀b o',s.heap.get? b=Dn o'->h'.get? b=Dn o') ->
   h'.get? s.heap.objs.size=Dn {cls:=.type "list",dict:=Go,data:=.seq _ c',slots:=#[]}->EP X afn U Q _ {s with heap:=h'}:=λits r' hz h' c' kp e=>
  ⟨.ref _,_,I.laid kp (Bm _) (show fM _ _ _ h' _ (.lst ys)from⟨hz,its,c',r',e⟩),rfl,q _ (I.hok.fresh (Bm _))⟩
 rcases hq with hq|hq
 obtain⟨its,r',pl,hz⟩:=I.list hq;have afp:=r'.length;obtain⟨o,ho,hc,n,hd⟩:=pl.isList;exact call_list_seq p (.inl rfl) ho hc hd (λh' c' kp e=>fin its r' hz h' c' kp e) (by simp<;>lia);obtain⟨its,r',pl,hz⟩:=I.tuple hq;have afp:=r'.length;obtain⟨o,ho,hc,n,hd⟩:=pl;exact call_list_seq p (.inr rfl) ho hc hd (λh' c' kp e=>fin its r' hz h' c' kp e) (by simp<;>lia)
theorem ug:gJ X (.type "tuple") (λxs H Q=>∃p ys,xs=[.ref p]/\((Ez X.K H p ys/\∀l,H l=Go->Q (.ref l) (CN H l (.tup ys)))\/(Fw X.K H p ys/\Q (.ref p) H))):=by
 intro afn s U H xs us Q I r h;obtain⟨p,ys,rfl,h⟩:=h;obtain⟨u,rfl,rx⟩:=vals1 r;cases rx;rcases h with⟨hq,q⟩|⟨hq,q⟩
 obtain⟨its,r',pl,hz⟩:=I.list hq;have afp:=r'.length;refine call_tuple_list pl.isList (λh' kp=>?_) (by simp<;>lia);have I1:=I.kept (t':=s.toks) kp;have I2:=
  I1.laid (t':=s.toks) (λb o e=>Cm _ e) (Bm _) (show fM _ _ _ _ _ (.tup ys)from⟨hz,its,r',Iu.new _ _⟩)
 exact⟨.ref _,_,I2,rfl,q _<|I1.hok.fresh<|Bm _⟩;obtain⟨its,r',pl,hz⟩:=I.tuple hq;exact call_tuple_same pl ⟨.ref p,H,I,rfl,q⟩
def tyV (K:Zf)(T:String)(x:V)(H:Hp):Prop:=match x with
 | .str _=>T = "str"
 | .int _=>T = "int"
 | .ref p=>(T = "list"/\∃xs,Ez K H p xs)\/(T = "tuple"/\∃o,K.lookup p=Dn o/\o.cls=.type "tuple"/\o.dict=Go) \/
   (T = "dict"/\((∃kvs,H p=Dn (.dK kvs))\/∃kvs,H p=Dn (.dT kvs)))\/(T = "set"/\∃S n,H p=Dn (.set S n))
 | _=>False
theorem aev {afn:List (Addr×Obj)}{U:St}{H:Hp}{s:Mk}{T:String}{x:V}{v:JI}(I:Yu X afn U H s)(r:RelV x v)(ty:tyV X.K T x H):
  s.TypeIs v T/\∀a,v=.ref a->∃ob,s.heap.get? a=Dn ob/\ob.dict=Go:=by
 cases x with
 | str z=>
  obtain⟨t,rfl⟩:=r;cases ty;exact⟨OD s z t,nofun⟩
 | int i=>
  obtain⟨t,rfl⟩:=r;cases ty;exact⟨typeIs_int s i t,nofun⟩
 | ref p=>
  cases r;rcases ty with⟨rfl,xs,hq⟩|⟨rfl,o,hk,hc,hd⟩|⟨rfl,hk⟩|⟨rfl,S,n,hk⟩
  obtain⟨its,_,pl,_⟩:=I.list hq;refine⟨pl.isList.typeIs,λa e=>?_⟩;cases e;obtain⟨o,n,e,c,hd,_⟩:=pl
  simp_all
  refine⟨⟨o,I.kIn p o hk,hc⟩,λa e=>?_⟩;cases e;exact⟨o,I.kIn _ o hk,hd⟩;have z:∃o,s.heap.get? p=Dn o/\o.ExactDict:=by
   rcases hk with⟨kvs,hk⟩|⟨kvs,hk⟩
   obtain⟨_,_,_,_,o,_,_,e,ex,_⟩:=I.hok p _ hk
   simp_all
   obtain⟨_,_,_,_,o,_,_,e,ex,_⟩:=I.hok p _ hk;grind
  obtain⟨o,e,ex⟩:=z;refine⟨⟨o,e,ex.1⟩,λa e2=>?_⟩;cases e2;exact⟨o,e,ex.2.1⟩;obtain⟨o,_,_,_,e,ex,_⟩:=I.hok p _ hk;refine⟨⟨o,e,ex.1⟩,λa e2=>?_⟩;cases e2;exact⟨o,e,ex.2.1⟩
 | _=>exact Nq ty
def tBM (K:Zf)(T:String)(r:V->List V->Hp->VK->Prop)(to:TE)(t:TA):TE:=λU H Q=>to U H λx H1=>tyV K T x H1/\t U H1 λxs H2=>r x xs H2 Q
variable {o e:Expr}{es:List Expr}{to:TE}{t:TA}{name:Str}{apos afq:Pos}{T id:String}{r:V->List V->Hp->VK->Prop}
theorem Qd (pa:PlainAttrs T)(slot:Slot T name id)(hty:typeOf (.builtin id)=pure (.type "method_descriptor"))(hm:ML X id r)(ho:PE X o to)(ha:PA X (e::es) t)
  (hbase:Nt o name X.env (eval o X.env)=eval o X.env:=by rfl)
  (hfew:((Ef afq (Al (e::es) X.env)).all (λx=>!x.1)&&(Nh afq (Ni [] X.env)).all (λx=>x.1.isSome)
   && decide ((e::es).length+([]:List Hu).length+(if([]:List Hu).isEmpty then 0 else 1)<30))=true:=by rfl)
  (hline:(apos.endLine==afq.line)=true:=by rfl) (hs:Al (e::es) X.env=(false,eval e X.env)::Al es X.env:=by rfl) (hplain:(Ef afq (Al es X.env)).any (·.1)=false:=by rfl) :
  PE X (.Call (.Attribute o name apos) (e::es) [] afq) (tBM X.K T r to t):=by
 intro afn s U H Q I h;refine Tn hbase hfew hline rfl<|Bj (ho afn s U H _ I h) λv s1 ⟨x,H1,I1,r1,ty,q1⟩=>?_
 obtain⟨h1,h2⟩:=aev I1 r1 ty;refine⟨T,id,pa,slot,hty,h1,h2,?_⟩;have hA:=ha afq afn s1 U H1 _ I1 q1;rw[hs]at hA|-
 refine Tg (by show(false||(Ef afq<|Al es X.env).any (·.1))=false;rw[hplain]<;>rfl)<|S7 ?_
 exact Bj hA λus s2 ⟨vs,H2,I2,r2,q2⟩=>hm afn s2 U H2 x vs v us Q I2 r1 r2 q2
/- xs.append(e), list.index on a module's tuple .. are ML facts of 06m -/
end
def MtM (X:Cx)(id:String)(r:V->List V->Hp->VK->Prop):Prop:=
 ∀(afn:List (Addr×Obj)) (s:Mk) (U:St) (H:Hp) (x:V) (xs:List V) (v:JI) (us:List JI) (Q:VK),Yu X afn U H s->RelV x v->kI xs us->r x xs H Q ->
  Ae (Ai X.prog X.w) X.A (call (.builtin id) (v::us)) (EP X afn U Q) X.xe s
theorem kI.one:∀{x:V}{us:List JI},kI [x] us->∃u,us=[u]/\RelV x u
 | _,_,.cons r .nil=>⟨_,rfl,r⟩
section
variable {X:Cx}{afn:List (Addr×Obj)}{U:St}{H:Hp}{s:Mk}{l b:Addr}{xs ys zs:List V}
theorem Yu.lset {its its':List JI}{n:Nat}{f:Array JI->Array JI}{t':Nat}(I:Yu X afn U H s)(hH:H l=Dn (.lst xs))
  (e:s.heap.get? l=Dn {cls:=.type "list",data:=.seq its.toArray n}) (hf:f its.toArray=its'.toArray) (hv:kI ys its') (hz:ys.length<=Bh) :
  Yu X afn U (CN H l (.lst ys)) {s with heap:=s.heap.update l (Obj.mapSeq f),toks:=t'}:=by
 have q:=PySem.IsL.update e f;rw[hf]at q;refine I.write (hH ▸ trivial) (.inl rfl) (λb' u hb hu=>(N6 _ _<|HF hb).trans hu) ⟨_,q⟩ ?_;exact⟨hz,its',_,hv,q⟩
theorem Yu.lnew {its:List JI}{t':Nat}(I:Yu X afn U H s)(hv:kI ys its)(hz:ys.length<=Bh):
  Yu X afn U (CN H s.heap.objs.size (.lst ys)) {s with heap:=s.heap.push {cls:=.type "list",data:=.seq its.toArray},toks:=t'}:=
 I.laid (λ_ _ q=>Cm _ q) (Bm _) ⟨hz,its,0,hv,HJ _ rfl⟩
theorem Yu.fresh (I:Yu X afn U H s):H s.heap.objs.size=Go:=I.hok.fresh (Bm _)
theorem Yu.lstM (I:Yu X afn U H s)(hH:H l=Dn (.lst xs)):xs.length<=Bh/\∃(its:List JI) (n:Nat),kI xs its/\xs.length=its.length/\s.heap.get? l=Dn {cls:=.type "list",data:=.seq its.toArray n}:=by
 obtain⟨z,its,n,r,e⟩:=I.hok l _ hH;exact⟨z,its,n,r,r.length,e⟩
end
section
variable {X:Cx}
def Bp:V->List V->Hp->VK->Prop:=λx vs H Q=>∃l xs y,x=.ref l/\vs=[y]/\H l=Dn (.lst xs)/\xs.length<Bh/\Q .non (CN H l (.lst (xs++[y])))
theorem pG:MtM X "list.append" Bp:=by
 intro afn s U H x vs v us Q I rx rv h;obtain⟨l,xs,y,rfl,rfl,hH,hz,q⟩:=h;cases rx;obtain⟨u,rfl,ru⟩:=rv.one;obtain⟨z,its,n,r,hl,e⟩:=I.lstM hH;refine call_meets F.slot_list_append ⟨_,e,rfl⟩ F.entry_list_append (F.args_list_append_2 _ _) (PySem.list_append l _ n u (by rw[Ii];lia)) ⟨e,?_⟩;refine⟨.non,_,I.lset hH e (by simp) (r.append<|.cons ru .nil) ?_,rfl,q⟩;grind
def Z8:R2:=λx y H Q=>∃l b xs zs,x=.ref l/\y=.ref b/\H l=Dn (.lst xs)/\H b=Dn (.lst zs)/\xs.length+zs.length<=Bh/\∀p,H p=Go->Q (.ref p) (CN H p (.lst (xs++zs)))
theorem Kz:G4 X (Hx .Add) Z8:=by
 intro afn s U H x y v u Q I rx ry h;obtain⟨l,b,xs,zs,rfl,rfl,hH,hB,hz,q⟩:=h;cases rx;cases ry;obtain⟨z,its,n,r,hl,e⟩:=I.lstM hH;obtain⟨z2,its2,n2,r2,hl2,e2⟩:=I.lstM hB;refine PySem.P.add_list e e2 ?_ (by rw[Ii,Ii];lia);have ea:its.toArray++its2.toArray=(its++its2).toArray:=by simp
 rw[ea];exact⟨.ref _,_,I.lnew (r.append r2) (by rw[Dv];lia),rfl,q _ I.fresh⟩
end
section
variable {prog:BK}{w:Av}{A:BP}{E:JI->Mk->Prop}{s:Mk}
end
section
variable {X:Cx}
end
end L2
namespace Att
open PySem PySem.W PySem.Calls PyProof.Rows
theorem qj {P:Params}{h:Heap}:∀(ns:List Int) (vs:List JI),WellAll P h vs (ns.map WData.int)->IntsAre vs ns:=by
 intro ns;induction ns with
 | nil=>
  intro vs w;cases w;exact .nil
 | cons n ns ih=>
  intro vs w;cases w with
  | cons a b=>
   cases a;exact .cons _ _<|ih _ b
theorem aaS {l:OpenLaw}{n:Nat}(hn:l.most=Dn n){P:Params}{h:Heap}{args:List WData}{vals:List JI}
  (hpre:l.row.toRowW.claim.pre args=true) (hwl:WellAll P h vals args) :
  ∃a vs ns,vals=[Value.ref a]/\args=[WData.list (ns.map WData.int)]/\h.get? a=Dn {cls:=.type "list",data:=.seq vs.toArray}/\IntsAre vs ns/\ns.length<=n:=by
 obtain⟨d,r,rfl,h1,h2⟩:=hasAllW_cons ((pre_splitW hpre).1);obtain rfl:=hasAllW_nil h2;obtain⟨xs,rfl,h3⟩:=hasW_list h1;obtain⟨ns,rfl⟩:=items_int h3;have afp:=by
  have h4:=by
   have h4:=(holds_andW ((pre_splitW hpre).2)).1
   rwa[hn]at h4
  have h5:=condW_of h4 (w_not (w_lt w_lit (w_len_list (w_arg rfl))));first
   | (simp at h5;lia)
 cases hwl with
 | cons w1 w2=>
  cases w2;cases w1 with
  | list ho hall=>exact⟨_,_,ns,rfl,rfl,ho,qj ns _ hall,afp⟩
theorem abn (l:OpenLaw)(args:List WData):l.row.toRowW.claim.post args (.bool true) args=true:=
 postW_of
  (show WShape.has [] _ .bool=true by first|rfl|decide|simp)
  (w_eq_bool (w_res rfl) w_lit) rfl
theorem wO {l:OpenLaw}{n:Nat}{q:BK}{loose:List Str}{XP:(Str->Option JI)->Heap->Prop}{YP:Av->Heap->Prop}{d:DefRec}
  (hn:l.most=Dn n) (hdf:d.params.defaults=[])
  (call:∀(w:Av) (s₀ s₁:Mk) (mg mb:Str->Option JI) (fa:Addr) (o:Obj) (pm cd doc:JI) (a:Addr) (vs:List JI) (ns:List Int),
   Ground q loose [] XP w s₀ mg mb s₁.heap->YP w s₁.heap ->
   s₁.heap.get? fa=Dn o->o.data=.func (docDef d.name d.params d.body d.scope pm cd doc)->s₁.heap.CodeRec cd d.name->mg d.name=Dn (.ref fa) ->
   s₁.heap.get? a=Dn {cls:=.type "list",data:=.seq vs.toArray}->IntsAre vs ns->ns.length<=n->s₁.gens=#[] ->
   codeAny (Ai l.prog w) callerA (.call (.ref fa) ⟨[.ref a],[]⟩) (λr s'=>r=.ok (.ret (.bool true))/\OldK s₁.heap s'.heap/\s'.os=s₁.os/\Ng s'.gens) s₁) :
  WalkO q loose XP YP l.row.toRowW d [] (λf vs=>PySem.call f vs):=by
 intro w s₀ s₁ mg mb G Y fa o pm cd doc dV kV ho hd hcd hD hmg hg args vals as hpre hlay hrd hwl hlo;obtain rfl:dV=.none:=Dflts.none hD hdf;obtain rfl:kV=.none:=Dflts.noKw hD;obtain⟨a,vs,ns,rfl,rfl,hobj,hints,afp⟩:=aaS hn hpre hwl;refine enter_call<|codeAny_mono (call w s₀ s₁ mg mb fa o pm cd doc a vs ns G Y ho (fd_plain hd) hcd hmg hobj hints afp hg) λr s' hq=>?_
 obtain⟨rfl,h2,h3,h4⟩:=hq;exact⟨.inl ⟨.bool true,.bool true,[],rfl,λ_=>rfl,.bool true,abn l _,λ_=>⟨List.Pairwise.nil,λ_ hm=>(nomatch hm)⟩⟩,h2,h3,h4⟩
section
variable {prog:BK}{w:Av}{A:BP}{E:JI->Mk->Prop}{s:Mk}{K:Frag}
def ledger (h:Heap)(L d:Addr):List (Addr×Obj):=(LC h.objs.size).filterMap λa=>if a=L\/a=d then Go else(h.get? a).map λo=>(a,o)
end
end Att
variable {XP:(Str->Option JI)->Heap->Prop}{loose:List Str}{YP:Av->Heap->Prop}
namespace L2
open PySem PySem.Spec PyProof.Rows
theorem vH:∀{vs:List JI}{ns:List Int},IntsAre vs ns->kI (ns.map V.int) vs
 | _,_,.nil=>.nil
 | _,_,.cons n t h=>.cons ⟨t,rfl⟩ (vH h)
def Only (H:Hp):Prop:=∀b,H b=Go\/∃o xs,H b=Dn (.frz o (.lst xs))
variable {ns:List Int}
theorem abH {P:BK}{w:Av}{K:Zf}{mg mb:Str->Option JI}{CX:O6}{k:Nat}{fa a:Addr}{fd:DW}{x:Str}{sp:Sp}{s₁:Mk}{vs:List JI}
  (KX:K.In s₁.heap) (hns:s₁.heap.Ns CR mg) (hb:s₁.heap.Ns builtinsNs mb) (hbb:∀x:Str,x ≠ "__name__"->mb x=P0 x) (hlim:s₁.heap.NoLimit) (hg:s₁.gens=#[])
  (ha:s₁.heap.get? a=Dn {cls:=.type "list",data:=.seq vs.toArray}) (hi:IntsAre vs ns) (hl:ns.length<=Bh) (hr:lg k callerA)
  (F:∀base:Heap,K.In base->base.Ns CR mg->eY P w K mg base CX k fa fd [x] sp) (hbind:∀(s:Mk) (u:JI),BindsTo s fd ⟨[u],[]⟩ [(x,u)])
  (hsp:∀H:Hp,Only H->Ez K H a (ns.map V.int)->sp [.ref a] H (λv _=>v=.bl true) λ_ _ _=>False)
  (hCX:∀H e s',CX Go [] H s₁ (λ_ _ _=>False) e s'->False) :
  codeAny (Ai P w) callerA (.call (.ref fa) ⟨[.ref a],[]⟩) (λr s'=>r=.ok (.ret (.bool true))/\OldK s₁.heap s'.heap/\s'.os=s₁.os/\Ng s'.gens) s₁:=by
 have rv:=vH hi;have lenV:=hi.length;have core:∀H:Hp,Only H->Ez K H a (ns.map V.int)->GP P w H s₁.heap->(∀b,H b≠Go->b=a)->(H a≠Go->K.lookup a=Go) ->
   codeAny (Ai P w) callerA (.call (.ref fa) ⟨[.ref a],[]⟩) (λr s'=>r=.ok (.ret (.bool true))/\OldK s₁.heap s'.heap/\s'.os=s₁.os/\Ng s'.gens) s₁:=by
  intro H hO hS hok hA hK;have base_of:∀{b:Addr}{o:Obj},s₁.heap.get? b=Dn o->H b=Go->(Pq s₁.heap H).get? b=Dn o:=λe n=>zaP e n
  have noA:∀{b:Addr}{o:Obj}{es:Array DictEntry}{ep:Nat},s₁.heap.get? b=Dn o->o.data=.dict es ep->H b=Go:=λ{b o es ep} e d=>by
   cases q:H b with
   | none=>rfl
   | some u=>
    have e':b=a:=hA b (by rw[q];simp);subst e';rw[ha]at e;cases e;cases d
  have nsK:∀{b:Addr}{m:Str->Option JI},s₁.heap.Ns b m->(Pq s₁.heap H).Ns b m:=λ{b m} ⟨o,es,ep,e,d,r⟩=>⟨o,es,ep,base_of e (noA e d),d,r⟩
  have hKb:K.In (Pq s₁.heap H):=λb o e=>base_of (KX b o e) (by
   cases q:H b with
   | none=>rfl
   | some u=>
    have e':b=a:=hA b (by rw[q];simp);subst e';rw[hK (by rw[q];simp)]at e;cases e)
  refine codeAny_mono ((F _ hKb<|nsK hns).run callerA [] s₁ H ⟨[.ref a],[]⟩ [.ref a] [.ref a] _ _ hr (⟨rfl,(⟨hKb,nsK hns,⟨mb,nsK hb,hbb⟩,let⟨mc,h1,h2⟩:=hlim;⟨mc,nsK h1,h2⟩⟩),λb o e=>aec e,Nat.le_of_eq<|aaY _ _,trivial,λb hb=>absurd (show b∈([]:List Addr)from hb)<|by simp,hok,.of_eq hg,λv e=>(nomatch e)⟩) (hbind s₁<|.ref a) (.cons rfl .nil) (hsp H hO hS)) λr s' h=>?_;cases r with
  | error e=>exact(hCX H e s' h).elim
  | ok fl=>
   cases fl with
   | next=>exact Nq h
   | brk=>exact Nq h
   | cont=>exact Nq h
   | ret u=>
    obtain⟨v,H',os,bare,un,hok',r',q⟩:=h;cases q;obtain rfl:u=Value.bool true:=r';refine⟨rfl,OldK.of_keep λb o e=>?_,os,bare⟩;cases q:H b with
    | none=>exact un.keep b o e q (by intro z;exact absurd (show b∈([]:List Addr)from z) (by simp)) (by simp)
    | some u=>
     rcases hO b with z|⟨ob,xs,z⟩
     rw[q]at z;cases z;have z2:=un.frzs b ob _ z;obtain⟨e1,_⟩:=hok b _ z;obtain⟨e2,_⟩:=hok' b _ z2;rw[e]at e1;cases e1;exact e2
 cases hk:K.lookup a with
 | some o=>
  have e:=KX a o hk;rw[ha]at e;cases e;refine core (λ_=>Go) (λ_=>.inl rfl) (.inr ⟨_,vs.toArray,_,hk,rfl,rfl,rfl,by rw[Ii,lenV];exact hl,by simpa using rv⟩) (λb u z=>by have z':(Go:Option HO)=Dn u:=z;cases z') (λb z=>absurd rfl z) λz=>absurd rfl z
 | none=>
  refine core (λb=>if b=a then Dn _ else Go) (λb=>?_) (.inl<|.inr ⟨{cls:=.type "list",data:=.seq vs.toArray},if_pos rfl⟩) (λb u z=>?_) (λb z=>?_) λ_=>hk;by_cases hb:b=a
  exact .inr ⟨_,_,if_pos hb⟩;exact .inl<|if_neg hb
  by_cases hb:b=a
  have z':=(if_pos hb).symm.trans z;cases z'
  subst hb;exact⟨ha,by rw[Ag];exact hl,vs,_,rv,ha⟩;have z':=(if_neg hb).symm.trans z;cases z'
  by_cases hb:b=a
  exact hb;exact absurd (if_neg hb) z
theorem Gf {l:PySem.W.OpenLaw}{n k:Nat}{q:BK}{d:DefRec}{K:Params->Zf}{CX:Av->O6}{sp:Av->Sp}{x:Str}
  (hn:l.most=Dn n) (hn2:n<=Bh) (hdf:d.params.defaults=[]) (hr:lg k callerA)
  (hY:∀(w:Av) (h:Heap),YP w h->(K w.params).In h)
  (F:∀(w:Av) (mg:Str->Option JI) (fa:Addr) (h:Heap),(K w.params).In h->h.Ns CR mg->mg d.name=Dn (.ref fa) ->
   ∃fd:DW,(∀(s:Mk) (u:JI),BindsTo s fd ⟨[u],[]⟩ [(x,u)]) /\
    ∀base:Heap,(K w.params).In base->base.Ns CR mg->eY l.prog w (K w.params) mg base (CX w) k fa fd [x] (sp w))
  (hsp:∀(w:Av) (H:Hp) (a:Addr) (ns:List Int),ns.length<=n->Only H->Ez (K w.params) H a (ns.map V.int)->sp w [.ref a] H (λv _=>v=.bl true) λ_ _ _=>False)
  (hCX:∀(w:Av) (H:Hp) (s:Mk) (e:JI) (s':Mk),CX w Go [] H s (λ_ _ _=>False) e s'->False) :
  PySem.W.WalkO q loose XP YP l.row.toRowW d [] (λf vs=>PySem.call f vs):=by
 refine Att.wO hn hdf λw s₀ s₁ mg mb fa o pm cd doc a vs ns G Y ho hd hcd hmg hobj hints afp hg=>?_;have KX:=hY w _ Y;obtain⟨fd,hb,hF⟩:=F w mg fa _ KX G.T.g hmg;exact abH KX G.T.g G.T.b G.T.builtins G.T.nolimit hg hobj hints (Dp afp hn2) hr hF hb (λH hO hS=>hsp w H a ns afp hO hS) λH e s'=>hCX w H s₁ e s'
end L2
/- THE LAST THEOREM (shape; LID, My.* are yours):
   My.Adr:a structure of the addresses that your layer names (classes,functions);My.Txt K t:a structure (Prop) of the equations over K;
   My.txt_mk:{K} {implicit addresses ..} (e1:nsIn K CR "law" = Dn (Dn (.ref f))) (e2:K.lookup f=Dn ⟨oc,od,.func (fnOf "law" "law" params body scope dV kV doc pm an cdv ct),sl⟩) (e3:codeIn K cdv "law" = true) .. : ∃t,My.Txt K t
theorem PySem.Challenge.cw_LID_holds : PySem.Challenge.rw_LID.Holds := by
 w_on;o_law;k_head;(case hw=>w_witness2)
 k_fill
 refine L2.Gf (l:=PySem.Challenge.rw_LID) (n:=63) (k:=40) (x := "script") (CX:=λw=>..) (sp:=λ_=>My.sp_law) rfl (by decide) rfl ⟨rfl,by decide,by decide⟩ (λw h Y=>PySem.W.kIn_of Y) ?F ?S ?C
 case F=>
  intro w mg fa h KX G hmg;have T:∃t,My.Txt (L2.KOf KX) t:=by
   dsimp only[L2.KOf]                          -- K must stand as «<heap const> w.params» for k_is;refine' My.txt_mk ?e1 ?e2 ?e3 ..
   (case e1=>PySem.W.k_is)                    -- in the order:a name->its address->its object->its parts
   (case e2=>PySem.W.k_is)
   ..
  obtain⟨t,T⟩:=T;have e0:=hmg.symm.trans (Eo KX G T.law);cases e0                                       -- fa is the law's own address
  exact⟨_,λs u=>.of_eq rfl,λbase kb nb=>My.law_fn T kb nb⟩     -- if «.of_eq rfl» comes too early:refine' ⟨_,?b,λbase kb nb=>My.law_fn T kb nb⟩;exact λs u=>.of_eq rfl
 case S=>exact λw H a ns hl hO hS=>..
 case C=>exact ..
(the tactic k_is has no namespace:write k_is) -/
namespace L2
open PySem PySem.Spec PyProof.Rows
def pH (s:Stmt):Arguments:=match s with
 | .FunctionDef _ a _ _ _ _ _ _ _ _=>a
 | _=>{posonlyargs:=[],args:=[],vararg:=Go,kwonlyargs:=[],kw_defaults:=[],kwarg:=Go,defaults:=[]}
def jd (s:Stmt):List Stmt:=match s with
 | .FunctionDef _ _ b _ _ _ _ _ _ _=>b
 | _=>[]
def aW (s:Stmt):Scope:=match s with
 | .FunctionDef _ _ _ _ _ _ sc _ _ _=>sc
 | _=>{kind:=.function,names:=[],isGenerator:=false,isCoroutine:=false}
abbrev Fl:O6:=λ_ _ _ _ _ _ _=>False
abbrev E0:XK:=λ_ _ _=>False
theorem Ug {X:Cx}:Passes Fl X E0:=λ_ _ _ _ _ _ _ h=>h.elim
structure G8 (K:Zf) (x qual:Str) (st:Stmt) (f:Addr) (fd:DW):Prop where
 ex:∃(oc:JI) (od:Option Addr) (kV doc pm:JI) (an:Option Addr) (cdv ct:JI) (osl:Array (Option JI)),
  fd=Qn x qual (pH st) (jd st) (aW st) .none kV doc pm an cdv ct/\K.lookup f=Dn ⟨oc,od,.func fd,osl⟩/\PySem.W.codeIn K cdv qual=true
 kp:Nv K (.ref f)=true
section
variable {P:BK}{w:Av}{K:Zf}{mg:Str->Option JI}{base:Heap}
theorem G8.ok {x qual:Str}{st:Stmt}{f:Addr}{fd:DW}{N ps:List Str}{k:Nat}{sp:Sp}(F:G8 K x qual st f fd)(S:bO N ps (aW st))(len:∀vs H Q E,sp vs H Q E->vs.length=ps.length)
  (hbody:∀(cdv:JI) (A:BP) (outer:List Env) (s:Mk) (H:Hp) (vs:List V) (Q:VK) (E:XK),lg k (A.deeper (envOfC qual (aW st) s.heap.objs.size f cdv))->sp vs H Q E ->
   ∃t,LI (N5 Fl P w K mg base N qual (aW st) f cdv A outer s H E).nox (jd st) t/\t {nx:=λ_ H'=>Q .non H',rt:=Q} (start N vs) H):eY P w K mg base Fl (k+1) f fd ps sp:=by
 obtain⟨oc,od,kV,doc,pm,an,cdv,ct,osl,rfl,lk,hcd⟩:=F.ex;refine Ud lk hcd S len λA outer s H vs Q E hr hsp=>?_;obtain⟨t,h,q⟩:=hbody cdv A outer s H vs Q E hr hsp;exact⟨t,h.nox,q⟩
theorem G8.binds {x qual:Str}{st:Stmt}{f:Addr}{fd:DW}{ps:List Str}(F:G8 K x qual st f fd)
  (h:∀(kV doc pm:JI) (an:Option Addr) (cdv ct:JI) (us:List JI),us.length=ps.length->bindArgs (Qn x qual (pH st) (jd st) (aW st) .none kV doc pm an cdv ct) ⟨us,[]⟩=pure (ps.zip us)):Binds K fd ps []:=by
 obtain⟨oc,od,kV,doc,pm,an,cdv,ct,osl,rfl,lk,hcd⟩:=F.ex;exact .all<|h kV doc pm an cdv ct
theorem dD {x qual:Str}{st:Stmt}{f:Addr}{oc:JI}{od an:Option Addr}{osl:Array (Option JI)}{kV doc pm cdv ct:JI}(l:K.lookup f=Dn ⟨oc,od,.func (Qn x qual (pH st) (jd st) (aW st) .none kV doc pm an cdv ct),osl⟩)
  (c:PySem.W.codeIn K cdv qual=true) (k:Nv K (.ref f)=true):G8 K x qual st f (Qn x qual (pH st) (jd st) (aW st) .none kV doc pm an cdv ct):=⟨⟨oc,od,kV,doc,pm,an,cdv,ct,osl,rfl,l,c⟩,k⟩
end
section
variable {X:Cx}
theorem pv (i:Nat){x:Str}{pos:Pos}(hN:X.N[i]?=Dn x:=by rfl)(hv:Oi X.env.scope x:=by first|exact Or.inl rfl|exact Or.inr (Or.inl rfl)|exact Or.inr (Or.inr rfl))(hd:(x==("__debug__" : Str))=false:=by decide)
  (hcd:(x==("__classdict__" : Str))=false:=by decide):PE X (.Name x pos) (W0 i):=aea hN hv hd hcd
end
def Ot (env:Env):List (Str×Ik)->List (Str×Addr)->List (Str×Addr)
 | [],cs=>cs
 | (n,k)::r,cs=>Ot env r (if(k==NameKind.free)=true then(n,(env.cells.lookup n).getD 0)::cs else cs)
def K5 (scope:Scope)(env:Env):List (Str×Addr):=Ot env scope.names []
variable {env:Env}
theorem sW {env:Env}{p:Str×Addr}:∀(l:List (Str×Ik)) (cs:List (Str×Addr)),p∈Ot env l cs->p∈cs\/((p.1,NameKind.free)∈l/\p.2=(env.cells.lookup p.1).getD 0)
 | [],cs,h=>.inl h
 | (n,k)::r,cs,h=>by
  rcases sW r _ h with h|⟨h1,h2⟩
  grind
  grind
theorem yx {env:Env}{x:Str}:∀(l:List (Str×Ik)) (cs:List (Str×Addr)),((x,NameKind.free)∈l\/∃c,(x,c)∈cs)->∃c,(x,c)∈Ot env l cs
 | [],cs,h=>by
  rcases h with h|h
  grind
  exact h
 | (n,k)::r,cs,h=>by
  refine yx r _ ?_;grind
variable {c:Addr}
theorem g8 {x:Str}{c:Addr}:∀{l:List (Str×Addr)},(x,c)∈l->∃c',l.lookup x=Dn c'
 | (n,d)::r,h=>by
  by_cases e:x=n
  simp_all
  rcases Bg.mp h with q|q
  injection q with q1 _
  grind
  obtain⟨c',h'⟩:=g8 q;refine⟨c',?_⟩
  rwa[SX,(beq_eq_false_iff_ne.mpr e)]
theorem Du {scope:Scope}(h:∀y∈scope.names,y.2=NameKind.free->∃c,env.cells.lookup y.1=Dn c):closureFor scope env=pure (K5 scope env):=by
 unfold closureFor K5;have key:∀(l:List _) (cs:List _),(∀y∈l,y.2=NameKind.free->∃c,env.cells.lookup y.1=Dn c) ->
   (forIn l cs (λ(x:Str×Ik) (cs:List _)=>(if(x.2==NameKind.free)=true then cellOf env x.1 >>= λc=>pure (ForInStep.yield ((x.1,c)::cs))else pure (ForInStep.yield cs):Sem _)))=pure (Ot env l cs):=by
  intro l;induction l with
  | nil=>intro cs _;rfl
  | cons x r ih=>
   intro cs hl;obtain⟨n,k⟩:=x;rw[List.forIn_cons];have hr:=λy hy=>hl y (Hj _ hy)
   by_cases hk:(k==NameKind.free)=true
   obtain⟨c,hc⟩:=hl _ Eb (by simpa using hk);have hc':=hc;have e1:cellOf env n=pure c:=by unfold cellOf;rw[hc']
   simp only[hk,if_true,e1,pure_bind];rw[ih _ hr];simp[Ot,hk,hc'];simp only[hk,if_false,pure_bind,Bool.false_eq_true];rw[ih _ hr];simp[Ot,hk]
 simpa using(key _ [] h)
variable {y:Str}
theorem ju {y:Str}{c:Addr}:∀{names:List (Str×Ik)}{n:Nat}{acc:List (Str×Addr)},(y,c)∈Gv n names acc↔(y,c)∈acc\/(y,c)∈Gv n names []
 | [],n,acc=>by simp[Gv]
 | (name,kind)::r,n,acc=>by
  unfold Gv;split
  rw[ju,ju (acc:=[(name,n)])];grind
  exact ju
theorem xJ {y:Str}{c:Addr}:∀{names:List (Str×Ik)}{n:Nat},(y,c)∈Gv n names []->(y,NameKind.cell)∈names
 | (name,kind)::r,n,h=>by
  unfold Gv at h;split at h
  rename_i hk;rcases ju.mp h with q|q
  grind
  exact Hj _<|xJ q
  exact Hj _<|xJ h
theorem Bo {y:Str}:∀{names:List (Str×Ik)}{n:Nat},(y,NameKind.cell)∈names->∃c,(y,c)∈Gv n names []
 | (name,kind)::r,n,h=>by
  unfold Gv;rcases Bg.mp h with q|q
  cases q;exact⟨n,ju.mpr<|.inl Eb⟩;split
  obtain⟨c,hc⟩:=Bo q;exact⟨c,ju.mpr<|.inr hc⟩;exact Bo q
variable {names:List (Str×Ik)}
theorem adz {h:Heap}(e:(y,c)∈Gv h.objs.size names []):(pushCells h names).IsCell c Go/\h.objs.size<=c:=
 (cellsFrom_ok names h _ [] ⟨λ_ _ z=>by simp at z,List.Pairwise.nil⟩ (Bm _)).empty y c e
theorem zaZ {n:Nat}{z:Str}(e:(y,c)∈Gv n names [])(e':(z,c)∈Gv n names []):y=z:=by
 have key:∀(k:Nat),∃h:Heap,h.objs.size=k:=λk=>by
  induction k with
  | zero=>exact⟨{(default:Heap)with objs:=#[]},rfl⟩
  | succ k ih=>
   obtain⟨h,e⟩:=ih;exact⟨h.push {cls:=.type "cell",data:=.cell Go},by rw[Oc,e]⟩
 obtain⟨h,rfl⟩:=key n;exact name_of_addr (cellsFrom_ok names h _ [] ⟨λ_ _ z=>by simp at z,List.Pairwise.nil⟩<|Bm _).apart e e'
variable {closure:List (Str×Addr)}
theorem aaL {M:Model}{A:BP}{E:JI->Mk->Prop}{s:Mk}{scope:Scope}{globals:Addr}{qual:Str}{func:Option Addr}{code:JI}{ar:Env}{builtins:Addr}{Q:Env->Mk->Prop}
  (hQ:Q {scope:=scope,locals:=s.heap.objs.size,globals:=globals,cells:=Gv (s.heap.objs.size+1) scope.names closure,qual:=qual,func:=func,code:=ar.code,frame:=ar.frame,builtins:=ar.builtins} {s with heap:=pushCells (s.heap.push {cls:=.type "dict",data:=.dict #[]}) scope.names}) :
  Ae M A (newFunctionEnv scope globals closure [] qual func code (Dn ar) builtins) Q E s:=by
 simp only[newFunctionEnv];refine Zr<|wpAny_alloc ?_
 refine Zr<|wpAny_layCells _ (λname kind cells=>by cases hkc:kind==NameKind.cell<;>simp) _ _ _ _ ?_
 exact Oc .. ▸ Zr (CG<|CG hQ)
def blk (X:Cx)(scope:Scope)(N':List Str)(C:Addr)(s:Mk)(H:Hp)(ex:List Addr):Cx where
 prog:=X.prog
 w:=X.w
 K:=X.K
 mg:=X.mg
 base:=X.base
 A:=X.A
 N:=N'
 s₀:=s
 H₀:=H
 env:=compEnvC scope (Gv (C+1) scope.names (K5 scope X.env)) C X.env
 outer:=X.stack
 stack:=X.stack
 ex:=ex
 fn:=λy=>decide (scope.names.lookup y=Dn .cell)
 calm:=X.calm
 pn:=[]
 xe:=λ_ _=>False
structure kj (X:Cx) (scope:Scope) (x:List Str) (ix:List Nat):Prop where
 kind:scope.kind=.function
 own:∀y∈x,scope.names.lookup y=Dn .local\/scope.names.lookup y=Dn .cell
 names:∀y∈scope.names,scope.names.lookup y.1=Dn y.2
 free:∀y∈scope.names,y.2=.free->X.env.scope.names.lookup y.1=Dn .cell\/X.env.scope.names.lookup y.1=Dn .free
 ixs:∀i∈ix,scope.names.lookup (X.N.getD i "")=Dn .free
 nd:(x++ix.map λi=>X.N.getD i "").Nodup
def yd:List Str->Bool
 | []=>true
 | x::r=>!(r.contains x)&&yd r
def Zm (sc:Scope)(N:List Str)(scope:Scope)(x:List Str)(ix:List Nat):Bool:=
 decide (scope.kind=.function)&&x.all (λy=>decide (scope.names.lookup y=Dn .local)||decide (scope.names.lookup y=Dn .cell)) &&
 scope.names.all (λy=>decide (scope.names.lookup y.1=Dn y.2)) &&
 scope.names.all (λy=>!decide (y.2=.free)||decide (sc.names.lookup y.1=Dn .cell)||decide (sc.names.lookup y.1=Dn .free)) &&
 ix.all (λi=>decide (scope.names.lookup (N.getD i "")=Dn .free))&&yd (x++ix.map λi=>N.getD i "")
theorem vU:∀{l:List Str},yd l=true->l.Nodup
 | [],_=>List.nodup_nil
 | x::r,h=>by
  unfold yd at h;rw[GQ]at h;refine S8.mpr ⟨λhm=>?_,vU h.2⟩;grind
variable {ix:List Nat}
theorem bC {X:Cx}{scope:Scope}{x:List Str}(h:Zm X.env.scope X.N scope x ix=true):kj X scope x ix:=by
 unfold Zm at h;simp only[GQ,IK,decide_eq_true_eq,Bool.or_eq_true]at h;obtain⟨⟨⟨⟨⟨h1,h3⟩,h4⟩,h5⟩,h6⟩,h7⟩:=h;exact⟨h1,λy hy=>h3 y hy,λy hy=>h4 y hy,λy hy hk=>(by grind),λi hi=>h6 i hi,vU h7⟩
def Am (ix:List Nat)(U:St):St:=ix.map λi=>(U[i]?).getD Go
abbrev jQ (X:Cx)(x:List Str)(ix:List Nat):List Str:=x++ix.map λi=>X.N.getD i ""
theorem gk {scope:Scope}{env:Env}{x:Str}:∀{names:List (Str×Ik)}{k:Ik},
  (names.map λ(p:Str×Ik)=>if(p.2==NameKind.free&&env.scope.kind==.function&&env.kindOf p.1==Dn .cell)=true then(p.1,NameKind.cell)else(p.1,p.2)).lookup x=Dn k ->
  names.lookup x=Dn k\/(k=.cell/\names.lookup x=Dn .free)
 | (n,k')::r,k,h=>by
  rw[Jf]at h;cases hx:x==n with
  | true=>
   grind
  | false=>
   have h':(r.map λ(p:Str×Ik)=>if(p.2==NameKind.free&&env.scope.kind==.function&&env.kindOf p.1==Dn .cell)=true then(p.1,NameKind.cell)else(p.1,p.2)).lookup x=Dn k:=by
    by_cases hc:(k'==NameKind.free&&env.scope.kind==.function&&env.kindOf n==Dn .cell)=true
    rw[if_pos hc]at h;simpa only[SX,hx]using h;rw[if_neg hc]at h;simpa only[SX,hx]using h
   rcases gk (scope:=scope) h' with q|⟨q1,q2⟩
   grind
   exact .inr ⟨q1,by simpa[SX,hx]using q2⟩
theorem nJ {env:Env}{x:Str}:∀{names:List (Str×Ik)},names.lookup x=Dn .free ->
  (names.map λ(p:Str×Ik)=>if(p.2==NameKind.free&&env.scope.kind==.function&&env.kindOf p.1==Dn .cell)=true then(p.1,NameKind.cell)else(p.1,p.2)).lookup x=Dn .cell \/
  (names.map λ(p:Str×Ik)=>if(p.2==NameKind.free&&env.scope.kind==.function&&env.kindOf p.1==Dn .cell)=true then(p.1,NameKind.cell)else(p.1,p.2)).lookup x=Dn .free
 | (n,k')::r,h=>by
  rw[Jf];cases hx:x==n with
  | true=>
   grind
  | false=>
   have ih:=nJ (env:=env) (by simpa[SX,hx]using h);grind
theorem m7 {env:Env}{x:Str}:∀{names:List (Str×Ik)},names.lookup x=Dn .cell ->
  (names.map λ(p:Str×Ik)=>if(p.2==NameKind.free&&env.scope.kind==.function&&env.kindOf p.1==Dn .cell)=true then(p.1,NameKind.cell)else(p.1,p.2)).lookup x=Dn .cell
 | (n,k')::r,h=>by
  rw[Jf];cases hx:x==n with
  | true=>
   grind
  | false=>
   have ih:=m7 (env:=env) (show r.lookup x=Dn .cell by simpa[SX,hx]using h);grind
section
variable {X:Cx}{afn:List (Addr×Obj)}{U:St}{H:Hp}{s:Mk}{scope:Scope}{x:List Str}{C:Addr}{fp:List Addr}
theorem Bx (B:kj X scope x ix)(hy:y∈x):Loc (relabel scope X.env) y/\(decide (scope.names.lookup y=Dn .cell)=true\/(relabel scope X.env).names.lookup y=Dn .local):=by
 rcases B.own y hy with q|q
 have:=lookup_relabel_local (env:=X.env) q
 exact⟨.inl this,.inr this⟩;exact⟨.inr<|m7 q,.inl<|decide_eq_true q⟩
theorem tu (I:Yu X afn U H s)(B:kj X scope x ix):∀y∈scope.names,y.2=NameKind.free->∃c,X.env.cells.lookup y.1=Dn c:=λy hy hk=>I.ok.has _ (B.free y hy hk)
theorem adw (I:Yu X afn U H s)(B:kj X scope x ix)(h:(y,c)∈K5 scope X.env):X.env.cells.lookup y=Dn c:=by
 rcases sW _ [] h with q|⟨q1,q2⟩
 grind
 obtain⟨c',e⟩:=tu I B _ q1 rfl;grind
theorem nH (I:Yu X afn U H s)(B:kj X scope x ix)(h:(Gv (C+1) scope.names (K5 scope X.env)).lookup y=Dn c):X.env.cells.lookup y=Dn c\/(y,c)∈Gv (C+1) scope.names []:=
 (ju.mp (Oa h)).imp_left (adw I B)
theorem Eh {n:Nat}(e:(y,c)∈Gv n names []):n<=c:=by
 have key:∀(names:List _) (n:Nat),(y,c)∈Gv n names []->n<=c:=by
  intro names;induction names with
  | nil=>intro n h;simp[Gv]at h
  | cons a r ih=>
   intro n h;unfold Gv at h;split at h
   rcases ju.mp h with q|q
   grind
   grind
   exact ih n h
 exact key names n e
theorem zbj (B:kj X scope x ix)(hf:scope.names.lookup y=Dn .free)(h:(y,c)∈Gv (C+1) scope.names []):False:=by
 have:=B.names _ (xJ h)
 grind
theorem zE (h:scope.names.lookup y=Dn .free\/scope.names.lookup y=Dn .cell):∃c,(Gv (C+1) scope.names (K5 scope X.env)).lookup y=Dn c:=by
 rcases h with h|h
 obtain⟨c,hc⟩:=yx _ [] (.inl (Oa h));exact g8<|ju.mpr<|.inl hc
 obtain⟨c,hc⟩:=Bo (Oa h);exact g8<|ju.mpr<|.inr hc
theorem adx (I:Yu X afn U H s)(B:kj X scope x ix)(hC:s.heap.objs.size<=C)(hf:∀b∈fp,Ak X afn H b)(ho:∀b∈fp,∃o,s.heap.get? b=Dn o):
  (blk X scope (jQ X x ix) C s H fp).Ok where
 mod:=I.ok.mod
 kind:=B.kind
 glob:=I.ok.glob
 blt:=I.ok.blt
 above:=hC
 inj:=λy z c h1 h2=>by
  have far:∀{y z:Str},X.env.cells.lookup y=Dn c->(z,c)∈Gv _ scope.names []->False:=λ{y z} e q=>by
   obtain⟨v,w⟩:=I.cell y c e;exact absurd (Df w.lt<|Dp (Dp hC<|Nj C)<|Eh q)<|MH _
  rcases nH I B h1 with q1|q1
  rcases nH I B h2 with q2|q2
  exact I.ok.inj y z c q1 q2;grind
  rcases nH I B h2 with q2|q2
  grind
  exact zaZ q1 q2
 has:=λy hy=>by
  rcases hy with q|q
  rcases gk (scope:=scope) q with r|⟨_,r⟩
  exact zE<|.inr r
  exact zE<|.inl r
  rcases gk (scope:=scope) q with r|⟨r,_⟩
  exact zE<|.inl r
  cases r
 cab:=λy c hf h=>by
  rcases ju.mp (Oa h)with q|q
  rcases sW _ [] q with q|⟨q1,_⟩
  exact nomatch q
  have:=B.names _ q1
  rw[(of_decide_eq_true hf)]at this;cases this;exact Dp (Dp hC<|Nj C)<|Eh q
 hd:=I.ok.hd
 qt:=I.qt0
 frames:=I.ok.frames
 stk:=.inl rfl
 exf:=λb hb=>by
  obtain⟨o,e⟩:=ho b hb;refine⟨Cg<|Df (DK e) hC,λy c h=>?_⟩;rcases nH I B h with q|q
  exact(hf b hb).2.2.2.2.1 y c q;intro z;rw[z]at q;exact absurd (Df (DK e)<|Dp (Dp hC<|Nj C)<|Eh q)<|MH _
 bs:=I.bs
 bsz:=Dp I.ok.bsz I.sz
 noex:=λb o e hb=>by
  rcases(hf b hb).2.2.2.1 with q|q
  exact I.ok.noex b o e q;exact absurd (Df (DK e)<|Dp I.ok.bsz q)<|MH _
 exfs:=λb hb z=>by
  obtain⟨_,h1,h2,_⟩:=hf b hb;rcases Bg.mp (I.stkSub b z)with e|e
  exact h1 e;exact h2 e
 funs:=I.stack
 frf:=I.stkFree
theorem zbu {D:Addr}{h1:Heap}{tk:Nat}{m:Str->Option JI}(I:Yu X afn U H s)(B:kj X scope x ix)(ok:(blk X scope (jQ X x ix) C s H fp).Ok)
  (hD:D=s.heap.objs.size) (k:∀b o,s.heap.get? b=Dn o->h1.get? b=Dn o) (hl:h1.get? D=Dn {cls:=.type "list",data:=.seq #[]}) (hns:h1.Ns C m) (hCD:C≠D) (hC:s.heap.objs.size<=C) (hce:∀y c,(y,c)∈Gv (C+1) scope.names []->h1.IsCell c Go) :
  Yu (blk X scope (jQ X x ix) C s H fp) [] (HI x.length Go++Am ix U) (CN H D (.lst [])) {s with heap:=h1,toks:=tk} where
 ok:=ok
 os:=rfl
 bare:=I.bare
 base:=Un.laid k (by rw[hD];exact Bm _) (I.hok.fresh (by rw[hD];exact Bm _))
 loc:=by
  refine⟨m,hns,λi y v e1 e2 e3=>?_⟩;by_cases hix:i<x.length
  rw[QB (by simpa using hix),Uo,if_pos hix]at e2;cases e2;rw[Pa (by simpa using hix),Tt]at e2;have e1':=by
   have z:(x++ix.map λi=>X.N.getD i "")[i]?=Dn y:=e1
   rwa[Pa (by simpa using hix)]at z
  generalize i-x.length=j at e1' e2;unfold Am at e2;rw[Ds]at e1' e2;cases hj:ix[j]? with
  | none=>rw[hj]at e2;cases e2
  | some i'=>
   rw[hj]at e1' e2;simp only[T6,Option.some.injEq]at e1' e2;have hi:U[i']?=Dn (Dn v):=by
    cases q:U[i']? with
    | none=>rw[q]at e2;cases e2
    | some z=>rw[q]at e2;exact congrArg Dn e2
   have hlt:i'<X.N.length:=by
    have:=(HY.mp hi).1
    rw[I.len]at this;exact this
   have hn:X.N[i']?=Dn y:=by
    rw[T3,GF hlt,Option.getD_some]at e1';rw[GF hlt,e1']
   have hfree:=by
    have:=B.ixs i' (GK hj)
    rw[e1']at this;exact this
   have kx:=B.free _ (Oa hfree) rfl;have vis:Oi X.env.scope y:=by
    rcases kx with q|q
    exact .inr<|.inl q
    exact .inr<|.inr q
   obtain⟨m',_,hl'⟩:=I.loc;obtain⟨u,r,lk⟩:=hl' i' y v hn hi vis;refine⟨u,r,?_⟩;rcases lk with⟨q,_⟩|⟨_,c,hc,hcell⟩
   have q':X.env.scope.names.lookup y=Dn .local:=q;rcases kx with z|z<;>(rw[q']at z;cases z)
   obtain⟨c',hc'⟩:=zE (X:=X) (C:=C) (.inl hfree);have e:=(nH I B hc').resolve_right λz=>zbj B hfree z
   rw[hc]at e;cases e;refine .inr ⟨nJ (env:=X.env) hfree,c,hc',?_⟩;obtain⟨o,ho,hd⟩:=hcell;exact⟨o,k c o ho,hd⟩
 cell:=λy c h=>by
  rcases nH I B h with q|q
  obtain⟨v,o,ho,hd⟩:=I.cell y c q;exact⟨v,o,k c o ho,hd⟩;exact⟨Go,hce y c q⟩
 free:=by
  show CN H D (.lst []) C=Go;rw[aO hCD];exact I.hok.fresh hC
 freeC:=λy c h=>by
  rcases nH I B h with q|q
  obtain⟨v,o,ho,hd⟩:=I.cell y c q;rw[aO (by rw[hD];exact Cg (DK ho))];exact I.freeC y c q;have g:=Df (Nat.lt_succ_of_le hC) (Eh q);rw[aO (by rw[hD];exact Mf g)];exact I.hok.fresh<|PB g
 pin:=λp hp=>absurd (show p∈([]:List (Addr×Obj))from hp) (by simp)
 hok:=I.hok.laid k (by rw[hD];exact Bm _) ⟨Pn _,[],0,.nil,hl⟩
 len:=by
  show(HI x.length Go++Am ix U).length=(jQ X x ix).length;simp[Am]
theorem Gj {U':St}{H':Hp}{s':Mk}{h':Heap}{p':List (Addr×Obj)}(I:Yu X afn U H s)(hC:s.heap.objs.size<=C)(hf:∀b∈fp,Ak X afn H b)(J:Yu (blk X scope (jQ X x ix) C s H fp) p' U' H' s')
  (hs:QC C s'.heap h'):Yu X afn U H' {s' with heap:=h'}:=by
 refine(I.call' J.os J.base J.hok J.bare λb hb=>⟨(hf b hb).2.2.2.1,(hf b hb).2.1,(hf b hb).2.2.2.2.1,(hf b hb).2.2.2.2.2⟩).turned (λb o hb e=>(hs.2 b hb).trans e) J.free (Mf<|Df I.lt hC) (.inr<|Dp I.sz hC) (λy c e z=>?_) (λp hp z=>(absurd (Df (DK (I.pin p hp).1)<|z ▸ hC)<|MH _));obtain⟨v,q⟩:=I.cell y c e;exact absurd (Df q.lt<|z ▸ hC)<|MH _
end
variable {D:Addr}
def QS (X:Cx)(ifs:List Expr)(t:TT):Prop:=
 ∀(afn:List (Addr×Obj)) (s:Mk) (U:St) (H:Hp) (Q:Bool->Hp->Prop),Yu X afn U H s->t U H Q ->
  Ae (Ai X.prog X.w) X.A (forIn ifs true λc r=>if r=true then do let ok <-isTrue c X.env (eval c X.env);pure (ForInStep.yield ok)else pure (ForInStep.yield r)) (TP X afn U Q) X.xe s
def ZL:TT:=λ_ H Q=>Q true H
theorem adW {X:Cx}:QS X [] ZL:=λ_ _ _ H _ I h=>CG ⟨H,I,h⟩
theorem ady {X:Cx}{c:Expr}{t:TT}(h:PT X c t):QS X [c] t:=λafn s U H Q I hq=>Zr (Zr (Bj (h afn s U H Q I hq) λb s1 q=>CG (CG q)))
def WT (n:Nat)(own:V->Hp->List V->Prop)(ix:List Nat)(tt:TT)(te:TE)(U:St)(Q:VK)(J:It)(H1:Hp)(D:Addr):Prop:=∃W:Nat->Nat->List V->Hp->Prop,(∃m,W 0 m [] (CN H1 D (.lst [])))/\∀i m ys H,W i m ys H->H D=Dn (.lst ys) ->
 (J.stop i H/\Q (.ref D) H)\/(J.go i H/\ys.length<Bh/\∀x H',J.yld i H x H'->∃vs,own x H' vs/\vs.length=n/\tt (vs.map Dn++Am ix U) H' λb H2=>
  if b=true then te (vs.map Dn++Am ix U) H2 (λv H3=>H3 D=Dn (.lst ys)/\∃m',m'<m/\W (i+1) m' (ys++[v]) (CN H3 D (.lst (ys++[v]))))
  else H2 D=Dn (.lst ys)/\∃m',m'<m/\W (i+1) m' ys H2)
def wLC (n:Nat)(own:V->Hp->List V->Prop)(ix:List Nat)(tt:TT)(te:TE)(U:St)(Q:VK)(J:It)(H1:Hp):Prop:=∀D,H1 D=Go->WT n own ix tt te U Q J H1 D
def tLC (n:Nat)(own:V->Hp->List V->Prop)(ix:List Nat)(wi:TI)(tt:TT)(te:TE):TE:=λU H Q=>wi U H λJ H1=>wLC n own ix tt te U Q J H1
def PN (n:Nat)(own:V->Hp->List V->Prop):TG:=λv U H N=>∃vs,own v H vs/\vs.length=n/\N (vs.map Dn++U.drop n) H
variable {elt:Expr}{ifs:List Expr}
theorem zaz {P:BK}{w:Av}{A:BP}{R:Result->Mk->Prop}{s:Mk}{target iter:Expr}{scope:Scope}{pos:Pos}{it acc:JI}(Iv:Nat->Mk->Prop)
  (turn:∀n s,Iv n s->Ae (Ai P w) A (pyNext it) (λr s₁=>match r with
   | none=>R (.ok .next) s₁
   | some v=>Ae (Ai P w) A (letOwnedTupleGo target it v) (λ_ t₁=>Ae (Ai P w) A (assign target env v) (λ_ s₂=>
     Ae (Ai P w) A (forIn ifs true λc r=>if r=true then do let ok <-isTrue c env (eval c env);pure (ForInStep.yield ok)else pure (ForInStep.yield r)) (λok s₃=>
      if ok=true then Ae (Ai P w) A (eval elt env) (λx s₄=>
       Ae (Ai P w) A (call (.builtin "list.append") [acc,x]) (λ_ s₅=>∃m,m<n/\Iv m s₅) (notedBy (Ai P w) A env λe s'=>R (.error e) s') s₄) (notedBy (Ai P w) A env λe s'=>R (.error e) s') s₃
      else ∃m,m<n/\Iv m s₃) (notedBy (Ai P w) A env λe s'=>R (.error e) s') s₂) (notedBy (Ai P w) A env λe s'=>R (.error e) s') t₁) (notedBy (Ai P w) A env λe s'=>R (.error e) s') s₁) (notedBy (Ai P w) A env λe s'=>R (.error e) s') s)
  (n:Nat) (h:Iv n s):codeAny (Ai P w) A (.compLoop (.ListComp elt [⟨target,iter,ifs,0⟩] scope pos) 0 it acc env) R s:=by
 refine codeAny_loop rfl Iv (λn s hI=>?_) n h;show Ae _ A _ _ _ s;refine wpAny_noted ?_;rw[compTurn_list];refine Zr<|wpAny_standAt<|Zr<|Hw (turn n s hI) (λr s₁ k₁=>?_) λ_ _ z=>z
 cases r with
 | none=>exact CG k₁
 | some v=>
  refine Zr<|Hw k₁ (λ_ t₁ k₂=>Zr<|Hw k₂ (λ_ s₂ k₃=>Zr<|Hw k₃ (λok s₃ k₄=>?_) λ_ _ z=>z) λ_ _ z=>z) λ_ _ z=>z
  cases ok with
  | false=>exact CG ⟨rfl,k₄⟩
  | true=>exact Zr (Zr (Hw k₄ (λx s₄ k₅=>Zr (Hw k₅ (λ_ s₅ k₆=>CG (CG ⟨rfl,k₆⟩)) λ_ _ z=>z)) λ_ _ z=>z))
section
variable {X:Cx}{scope:Scope}{x:List Str}{iter tg:Expr}{px pos:Pos}{wi:TI}{tt:TT}{te:TE}{own:V->Hp->List V->Prop}
theorem Gi {afn:List (Addr×Obj)}{U:St}{s₂:Mk}{H2:Hp}{it:Addr}{fp:List Addr}{tn:Nat->Heap->Prop}{J:It}{Q:VK}{E:JI->Mk->Prop}{RR:JI->Addr->Result->Mk->Prop}
  (hc:J.cm=true->X.calm=true) (B:kj X scope x ix) (hg:∀C s H fp,PG (blk X scope (jQ X x ix) C s H fp) tg (PN x.length own)) (ht:∀C s H fp,QS (blk X scope (jQ X x ix) C s H fp) ifs tt) (he:∀C s H fp,PE (blk X scope (jQ X x ix) C s H fp) elt te)
  (I2:Yu X afn U H2 s₂) (T:Turn X.prog X.w X.K tg J fp it tn) (st2:tn 0 s₂.heap) (f2:∀b∈fp,Ak X afn H2 b) (hq:wLC x.length own ix tt te U Q J H2)
  (hRR:∀D C s' U' H' p',s₂.heap.objs.size<=C->Yu (blk X scope (jQ X x ix) C s₂ H2 fp) p' U' H' s'->Q (.ref D) H'->RR (.ref D) C (.ok .next) s') :
  Ae (Ai X.prog X.w) X.A (newList []) (λacc s₃=>Ae (Ai X.prog X.w) X.A (newFunctionEnv scope X.env.globals (K5 scope X.env) [] X.env.qual Go .none (Dn X.env)) (λcenv s₄=>
   codeAny (Ai X.prog X.w) X.A (.compStart (.ListComp elt [⟨tg,iter,ifs,0⟩] scope pos) 0 (.ref it) acc {cenv with scope:=relabel scope X.env}) (RR acc cenv.locals) s₄) E s₃) E s₂:=by
 refine T8<|aaL ?_
 generalize hH2:s₂.heap.push {cls:=.type "list",dict:=Go,data:=.seq ([]:List JI).toArray}=HH;generalize hh1:pushCells (HH.push {cls:=.type "dict",data:=.dict #[]}) scope.names=h₁;have hns₁:h₁.Ns HH.objs.size (λ_=>Go):=by
  obtain⟨o,es,ep,ho,r⟩:=Heap.Ns.new HH (.type "dict");exact⟨o,es,ep,by rw[<-hh1];exact pushCells_keeps _ _ _ _ ho,r⟩
 have hkeep:∀b o,HH.get? b=Dn o->h₁.get? b=Dn o:=λb o e=>by rw[<-hh1];exact pushCells_keeps _ _ _ _ (Cm _ e)
 have hce:∀y c,(y,c)∈Gv (HH.objs.size+1) scope.names []->h₁.IsCell c Go:=λy c e=>by
  rw[<-hh1];exact(adz (h:=HH.push {cls:=.type "dict",data:=.dict #[]}) (by rw[Oc];exact e)).1
 have hC:HH.objs.size=s₂.heap.objs.size+1:=by rw[<-hH2,Oc]
 have hDC:s₂.heap.objs.size≠HH.objs.size:=by rw[hC];exact Cg (PX _)
 have hCle:s₂.heap.objs.size<=HH.objs.size:=by rw[hC];exact Nj _
 have old:∀b o,s₂.heap.get? b=Dn o->h₁.get? b=Dn o:=λb o e=>hkeep b o (hH2 ▸ Cm _ e)
 have hacc:h₁.get? s₂.heap.objs.size=Dn {cls:=.type "list",data:=.seq #[]}:=hkeep _ _ (hH2 ▸ HJ _ rfl);have hob:∀b∈fp,∃o,s₂.heap.get? b=Dn o:=λb hb=>let⟨o,e,_⟩:=T.obj 0 _ st2 b hb;⟨o,e⟩
 have ok:=adx (C:=HH.objs.size) I2 B hCle f2 hob;obtain⟨W,⟨m0,w0⟩,turn⟩:=hq s₂.heap.objs.size (I2.hok.fresh (Bm _));have stat:∀{H':Hp},(∀b∈fp,H' b=Go)->∀b∈fp,Ak (blk X scope (jQ X x ix) HH.objs.size s₂ H2 fp) [] H' b:=λ{H'} hn b hb=>by
  obtain⟨o,e⟩:=hob b hb;obtain⟨_,g1,g2,g3,g4,g5⟩:=f2 b hb;refine⟨hn b hb,Cg<|Df (DK e) hCle,λz=>?_,.inl hb,λy c h=>?_,λp hp=>absurd (show p∈([]:List (Addr×Obj))from hp)<|by simp⟩;rcases Bg.mp (I2.stkSub b z)with q|q
  exact g1 q;exact g2 q;rcases nH I2 B h with q|q
  exact g4 y c q;intro z;rw[z]at q;exact absurd (Df (DK e)<|Dp (Dp hCle<|Nj _)<|Eh q)<|MH _
 have loop:∀s₃:Mk,s₃={s₂ with heap:=h₁} ->
   codeAny (Ai X.prog X.w) X.A (.compLoop (.ListComp elt [⟨tg,iter,ifs,0⟩] scope pos) 0 (.ref it) (.ref s₂.heap.objs.size) (compEnvC scope (Gv (HH.objs.size+1) scope.names (K5 scope X.env)) HH.objs.size X.env))
    (RR (.ref s₂.heap.objs.size) HH.objs.size) s₃:=by
  rintro s₃ rfl;have J0:=zbu (fp:=fp) (C:=HH.objs.size) (tk:=s₂.toks) I2 B ok rfl old hacc hns₁ (HF hDC) hCle hce;have fr0:∀b∈fp,CN H2 s₂.heap.objs.size (.lst []) b=Go:=λb hb=>by
   obtain⟨o,e⟩:=hob b hb;rw[aO (Cg (DK e))];exact(f2 b hb).1
  refine zaz (λk s'=>∃i ys H',Yu (blk X scope (jQ X x ix) HH.objs.size s₂ H2 fp) [] (HI x.length Go++Am ix U) H' s'/\tn i s'.heap/\(∀b∈fp,H' b=Go)/\H' s₂.heap.objs.size=Dn (.lst ys)/\W i k ys H') ?_ m0
   ⟨0,[],_,J0,T.keep 0 _ _ st2 (λb _ o e=>old b o e),fr0,bM,w0⟩
  rintro n s₄ ⟨i,ys,H4,I4,st4,fr4,hD4,w4⟩;rcases turn i n ys H4 w4 hD4 with⟨stop,qn⟩|⟨go,hz,step⟩
  ·refine Bj (T.done (blk X scope (jQ X x ix) HH.objs.size s₂ H2 fp) rfl rfl rfl hc i [] s₄ _ H4 _ I4 (stat fr4) st4 stop) λr s5 ⟨hr,I5⟩=>?_;subst hr;exact hRR _ _ s5 _ H4 [] hCle I5 qn
  refine Bj (T.item (blk X scope (jQ X x ix) HH.objs.size s₂ H2 fp) rfl rfl rfl hc i [] s₄ _ H4 _ I4 (stat fr4) st4 go) λr s5 ⟨u,hr,h5⟩=>?_;subst hr;refine Hw h5 (λ_ s6 ⟨xv,H6,I6,r6,y6,st6,fr6⟩=>?_) λ_ _ z=>z;have I6':=I6.pinned (stat fr6) (T.obj _ _ st6);obtain⟨vs,hov,hvl,q7⟩:=step xv H6 y6;have fgt:∀{U9:St}{H9:Hp}{s9:Mk}{p9:List (Addr×Obj)},U9.length=x.length->Yu (blk X scope (jQ X x ix) HH.objs.size s₂ H2 fp) p9 (U9++Am ix U) H9 s9->Yu (blk X scope (jQ X x ix) HH.objs.size s₂ H2 fp) p9 (HI x.length Go++Am ix U) H9 s9:=λ{U9 H9 s9 p9} hl I9=>
   I9.weak (by simp[hl]) λk v e=>by
    by_cases hk:k<x.length
    rw[QB (by simpa using hk),Uo,if_pos hk]at e;cases e;rw[Pa (by simpa using hk),Tt]at e;rw[Pa (by rw[hl];lia),hl];exact e
  refine Hw (hg _ _ _ _ _ s6 _ H6 xv u (λU9 H9=>U9=vs.map Dn++(HI x.length (Go:Option V)++Am ix U).drop x.length/\H9=H6) I6' r6 ⟨vs,hov,hvl,rfl,rfl⟩) (λ_ s7 ⟨U7,H7,I7,e7,e8⟩=>?_) λ_ _ z=>z.elim;subst e7 e8;rw[List.drop_left' (by simp)]at I7;have hml:(vs.map Dn).length=x.length:=by rw[Ag];exact hvl
  refine Hw (ht _ _ _ _ _ s7 _ H7 _ I7 q7) (λb s8 ⟨H8,I8,q8⟩=>?_) λ_ _ z=>z.elim;have pinned:∀{H9:Hp}{s9:Mk}{U9:St},Yu (blk X scope (jQ X x ix) HH.objs.size s₂ H2 fp) ([]++yD fp s6.heap) U9 H9 s9->tn (i+1) s9.heap/\∀b∈fp,H9 b=Go:=λ{H9 s9 U9} I9=>by
   refine⟨T.keep _ _ _ st6 λb hb o e=>(I9.pin (b,o)<|Ml _<|Ml _<|jA hb e).1,λb hb=>?_⟩;obtain⟨o,e,d⟩:=T.obj _ _ st6 b hb;exact(I9.pin (b,o)<|Ml _<|Ml _<|jA hb e).2.1
  cases b with
  | false=>
   rw[if_neg Jm]at q8|-
   obtain⟨hD8,m',hm,w8⟩:=q8;obtain⟨t8,f8⟩:=pinned I8;exact⟨m',hm,i+1,ys,H8,fgt hml I8.unpinned,t8,f8,hD8,w8⟩
  | true=>
   rw[if_pos rfl]at q8|-
   refine Hw (he _ _ _ _ _ s8 _ H8 _ I8 q8) (λu9 s9 ⟨v9,H9,I9,r9,hD9,m',hm,w9⟩=>?_) λ_ _ z=>z.elim;refine Hw (pG (X:=blk X scope (jQ X x ix) HH.objs.size s₂ H2 fp) _ s9 _ H9 (.ref s₂.heap.objs.size) [v9] _ [u9] (λ_ H'=>H'=CN H9 s₂.heap.objs.size (.lst<|ys++[v9])) I9 rfl (.cons r9 .nil) ⟨_,ys,v9,rfl,rfl,hD9,hz,rfl⟩) (λ_ s10 ⟨_,H10,I10,_,e10⟩=>?_) λ_ _ z=>z.elim;subst e10;obtain⟨t10,f10⟩:=pinned I10;exact⟨m',hm,i+1,ys++[v9],_,fgt hml I10.unpinned,t10,f10,bM,w9⟩
 exact codeAny_compStart_list (loop _ rfl)<|T.self _ 0 _ _ _ (T.keep 0 _ _ st2<|λb _ o e=>old b o e)<|loop _ rfl
theorem Xj (ix:List Nat)(hc:X.calm=true)(B:kj X scope x ix)(hg:∀C s H fp,PG (blk X scope (jQ X x ix) C s H fp) tg (PN x.length own))(hi:PI X tg iter wi)(ht:∀C s H fp,QS (blk X scope (jQ X x ix) C s H fp) ifs tt)(he:∀C s H fp,PE (blk X scope (jQ X x ix) C s H fp) elt te)
  (hs:∀v,Qv iter X.env v=pure v:=by intro _;rfl):PE X (.ListComp elt [⟨tg,iter,ifs,0⟩] scope pos) (tLC x.length own ix wi tt te):=by
 intro afn s U H Q I h;refine wpAny_comprehension_free rfl hs (Du<|tu I B) B.kind (λy hy hk=>by rw[B.names y hy,hk])<|Bj (hi afn s U H _ I h) λv s1 h1=>Bj h1 λitv s2 h2=>?_
 obtain⟨it,fp,tn,J,H2,e,I2,T,st2,f2,hq⟩:=h2;subst e;refine Gi (λ_=>hc) B hg ht he I2 T st2 f2 hq λD C s' U' H' p' hC I' q'=>?_;obtain⟨m,hn,_⟩:=I'.loc;exact⟨m,hn,λh' hs'=>⟨.ref D,H',Gj I2 hC f2 I' hs',rfl,q'⟩⟩
theorem W6 (ix:List Nat){i:Nat}{py spos:Pos}(hN:X.N.Nodup)(hi':X.N[i]?=Dn y)(hy:Loc X.env.scope y)(hc:X.calm=true)(B:kj X scope x ix)(hg:∀C s H fp,PG (blk X scope (jQ X x ix) C s H fp) tg (PN x.length own))(hi:PI X tg iter wi)
  (ht:∀C s H fp,QS (blk X scope (jQ X x ix) C s H fp) ifs tt) (he:∀C s H fp,PE (blk X scope (jQ X x ix) C s H fp) elt te)
  (hsw:Pu (.ListComp elt [⟨tg,iter,ifs,0⟩] scope pos) (Dn (.Name y py)) spos.line X.env=pure true:=by rfl)
  (hf:X.fn y=true\/X.env.scope.names.lookup y=Dn .local:=by first|exact .inl rfl|exact .inr rfl|assumption)
  (hs:∀v,Qv iter X.env v=pure v:=by intro _;rfl):PS X (.Assign [.Name y py] (.ListComp elt [⟨tg,iter,ifs,0⟩] scope pos) spos) (Vu (tLC x.length own ix wi tt te) (Cy i)):=by
 intro afn s U H D I h;rw[exec_Assign_Name_used _ _ _ _ hsw];refine Zr<|wpAny_standAt<|Zr ?_
 refine Zr<|Hw (wpAny_comprehension_free rfl hs (Du<|tu I B) B.kind (λy hy hk=>by rw[B.names y hy,hk]) ?_) (λ_ s' hq=>CG<|CG hq) λ_ _ e=>e
 refine Bj (hi afn s U H _ I h) λv s1 h1=>Bj h1 λitv s2 h2=>?_;obtain⟨it,fp,tn,J,H2,e,I2,T,st2,f2,hq⟩:=h2;subst e;refine Gi (λ_=>hc) B hg ht he I2 T st2 f2 hq λD' C s' U' H' p' hC I' q'=>?_;obtain⟨m,hn,_⟩:=I'.loc;have cneC:∀z c,X.env.cells.lookup z=Dn c->c≠C:=λz c e q=>by
  obtain⟨v,w⟩:=I2.cell z c e;exact absurd (Df w.lt<|q ▸ hC)<|MH _
 have lneC:=Cg (Df I2.lt hC);refine wpAny_assign_Name<|uM (v:=.ref D') (Gj I2 hC f2 I'<|.refl ..) hN hi' hy rfl (λs'' I'' hsb=>?_) hf
 obtain⟨a,hsb,ha⟩:=hsb;have haC:C≠a:=by
  rcases ha with rfl|ha
  exact HF lneC;exact HF<|cneC _ _ ha
 refine⟨m,hn.sameBut hsb haC,λh' hs'=>⟨_,H',?_,q'⟩⟩;refine I''.turned (it:=C) (λb o hb e=>(hs'.2 b hb).trans e) I'.free (HF lneC) (.inr<|Dp I2.sz hC) cneC<|λp hp z=>?_
 exact absurd (Df (DK (I2.pin p hp).1) (by rw[z];exact hC))<|MH _
end
def Sm (n:Nat)(i:Int):Prop:=i.natAbs<2^n
theorem Sm.bits {n:Nat}{i:Int}(h:Sm n i):Builtin.Int.intBits i<=n:=by
 unfold Builtin.Int.intBits;by_cases e:i=0
 grind
 rw[(beq_eq_false_iff_ne.mpr e)];have:=(Nat.log2_lt (by lia)).mpr h
 simp;lia
variable {m:Nat}
theorem Sm.mono {n:Nat}{i:Int}(h:Sm m i)(hmn:m<=n):Sm n i:=Df h (Nat.pow_le_pow_right (by decide) hmn)
theorem Sm.mul {n:Nat}{i j:Int}(h:Sm m i)(h':Sm n j):Sm (m+n) (i*j):=by
 unfold Sm at *;rw[Int.natAbs_mul,Nat.pow_add];by_cases e:j.natAbs=0
 exact e ▸ Nat.mul_pos (Nat.pow_pos<|by decide) (Nat.pow_pos<|by decide);exact Df (Nat.mul_lt_mul_of_pos_right h<|Nat.pos_of_ne_zero e)<|Nat.mul_le_mul_left _<|PB h'
theorem Sm.add {n:Nat}{i j:Int}(h:Sm m i)(h':Sm n j):Sm (max m n+1) (i+j):=by
 have h1:=h.mono (Nat.le_max_left m n);have h2:=h'.mono (Nat.le_max_right m n);unfold Sm at *;lia
theorem Sm.neg {n:Nat}{i:Int}(h:Sm n i):Sm n (-i):=by unfold Sm at *;rw[Int.natAbs_neg];exact h
theorem Sm.sub {n:Nat}{i j:Int}(h:Sm m i)(h':Sm n j):Sm (max m n+1) (i-j):=h.add h'.neg
theorem Sm.zero {n:Nat}:Sm n 0:=Nat.pow_pos (by decide)
theorem Nm {n:Nat}{i:Int}(h1:-(2^n:Int)<i)(h2:i<(2^n:Int)):Sm n i:=by
 unfold Sm;grind
def sJ (i j:Int):Prop:=∃m n,m<=1000000/\n<=1000000/\Sm m i/\Sm n j
theorem sJ.ok {i j:Int}(h:sJ i j):IntMulOk i j:=by
 obtain⟨m,n,hm,hn,h1,h2⟩:=h;exact .of_bits (by have:=h1.bits;lia) (by have:=h2.bits;lia)
def Kg (_ j:Int):Prop:=j≠0/\∃n,n<=8000/\Sm n j
theorem zbl {n:Nat}{j:Int}(hn:n<=8000)(h:Sm n j):j.natAbs.log2<9000:=by
 by_cases e:j.natAbs=0
 simp_all
 have:=(Nat.log2_lt e).mpr h
 lia
section
variable {X:Cx}
theorem zbD:G4 X (Hx .Mult) (rI sJ λi j=>.int (i*j)):=opI λ_ _ _ _ _ _ _ hc q=>mul_int q hc.ok
theorem zaA:G4 X (Hx .FloorDiv) (rI Kg λi j=>.int (i.fdiv j)):=opI λi j _ _ _ _ _ hc q=>by
 obtain⟨h1,n,hn,h2⟩:=hc;exact floordiv_int h1 q<|.inl<|PyProof.noPylong_of_log2<|zbl hn h2
theorem pW:∀{bs:List Bool}{its:List JI}{i:Nat}{v:JI},kI (bs.map V.bl) its->its[i]?=Dn v->∃b,bs[i]?=Dn b/\v=.bool b
 | [],_,_,_,.nil,e=>by simp at e
 | b::bs,_,0,_,.cons r _,e=>by simp at e;subst e;exact⟨b,rfl,r⟩
 | _::bs,_,i+1,v,.cons _ t,e=>by
  obtain⟨b,h1,h2⟩:=pW t (by simpa using e);grind
theorem zak:∀(bs:List Bool),((LC bs.length).all λi=>(bs[i]?).getD true)=bs.all id:=λbs=>by
 rw[Rm,IK,IK];constructor;intro h b hb;obtain⟨i,hi,rfl⟩:=List.mem_iff_getElem.mp hb
 simp_all
 intro h i hi;have hi':=Ri.mp hi;have:=h bs[i] (OJ hi')
 simpa[hi']using this
theorem aaE (hc:X.calm=true):gJ X (.builtin "all") (λxs H Q=>∃(p:Addr) (bs:List Bool),xs=[.ref p]/\Ez X.K H p (bs.map V.bl)/\Q (.bl (bs.all id)) H):=by
 intro afn s U H xs us Q I r h;obtain⟨p,bs,rfl,hS,q⟩:=h;obtain⟨u,rfl,ru⟩:=vals1 r;cases ru;obtain⟨its,rv,pl,hz⟩:=I.list hS;have afp:its.length=bs.length:=by rw[<-rv.length,Ag]
 have hl:=pl.isList;refine call_all_walk<|TF hl ?_
 refine⟨s.heap.objs.size,[s.heap.objs.size,p],[s.heap.objs.size],its.toArray.size,_,_,λi=>(bs[i]?).getD true,rfl,Walks.list (A:=X.A.in1) (I.ok.hd hc) _ p (Cg (by obtain⟨_,e,_⟩:=hl;exact DK e)) _,
  ⟨⟨_,HJ _ rfl,rfl,rfl⟩,hl.push _⟩,λi v s' Q' E' hP hQ=>?_,λh' tk hk=>?_⟩
 obtain⟨b,e,rfl⟩:=pW rv (by simpa using hP);simp[e]at hQ;exact Sq hQ;have e:((LC its.toArray.size).all λi=>(bs[i]?).getD true)=bs.all id:=by
  rw[Ii,afp];exact zak bs
 rw[e];refine⟨.bl _,H,I.kept<|λb x e=>?_,rfl,q⟩;exact hk b x (λhm=>by rw[Fk.mp hm]at e;exact MH _ (DK e))<|Cm _ e
def Zg (K:Zf)(H:Hp):V->String->Bool->Prop
 | .int _,T,b=>(T = "int"/\b=true)\/(T = "bool"/\b=false)\/(T = "tuple"/\b=false)\/(T = "list"/\b=false)
 | .bl _,T,b=>(T = "int"/\b=true)\/(T = "bool"/\b=true)\/(T = "tuple"/\b=false)\/(T = "list"/\b=false)
 | .str _,T,b=>(T = "int"/\b=false)\/(T = "bool"/\b=false)\/(T = "tuple"/\b=false)\/(T = "list"/\b=false)
 | .non,T,b=>(T = "int"/\b=false)\/(T = "bool"/\b=false)\/(T = "tuple"/\b=false)\/(T = "list"/\b=false)
 | .ref p,T,b=>(∃xs,Fw K H p xs/\((T = "int"/\b=false)\/(T = "bool"/\b=false)\/(T = "tuple"/\b=true)\/(T = "list"/\b=false))) \/
   (∃xs,Ez K H p xs/\((T = "int"/\b=false)\/(T = "bool"/\b=false)\/(T = "tuple"/\b=false)\/(T = "list"/\b=true)))
 | _,_,_=>False
theorem abm:gJ X (.builtin "isinstance") (λxs H Q=>∃x T b,xs=[x,.ty T]/\Zg X.K H x T b/\Q (.bl b) H):=by
 intro afn s U H xs us Q I r h;obtain⟨x,T,b,rfl,hi,q⟩:=h;obtain⟨u,w',rfl,rx,ru⟩:=vals2 r;cases ru;have k0:EP X afn U Q _ s:=⟨.bl b,H,I,rfl,q⟩
 have k1:EP X afn U Q _ {s with toks:=s.toks+1}:=⟨.bl b,H,I.tok _,rfl,q⟩
 cases x with
 | int i=>
  obtain⟨t,rfl⟩:=rx;rcases hi with⟨rfl,rfl⟩|⟨rfl,rfl⟩|⟨rfl,rfl⟩|⟨rfl,rfl⟩
  exact IsiPair.int_int k0;exact IsiPair.int_bool k1;exact IsiPair.int_tuple k1;exact IsiPair.int_list k1
 | bl i=>
  cases rx;rcases hi with⟨rfl,rfl⟩|⟨rfl,rfl⟩|⟨rfl,rfl⟩|⟨rfl,rfl⟩
  first|exact IsiPair.bool_int k0|exact _ k1
  first|exact IsiPair.bool_bool k0|exact _ k1
  exact IsiPair.bool_tuple k1;exact IsiPair.bool_list k1
 | str i=>
  obtain⟨t,rfl⟩:=rx;rcases hi with⟨rfl,rfl⟩|⟨rfl,rfl⟩|⟨rfl,rfl⟩|⟨rfl,rfl⟩
  exact IsiPair.str_int k1;exact IsiPair.str_bool k1;exact IsiPair.str_tuple k1;exact IsiPair.str_list k1
 | non=>
  cases rx;rcases hi with⟨rfl,rfl⟩|⟨rfl,rfl⟩|⟨rfl,rfl⟩|⟨rfl,rfl⟩
  exact IsiPair.NoneType_int k1;exact IsiPair.NoneType_bool k1;exact IsiPair.NoneType_tuple k1;exact IsiPair.NoneType_list k1
 | ref p=>
  cases rx;rcases hi with⟨xs,hS,hi⟩|⟨xs,hS,hi⟩
  obtain⟨its,_,⟨o,e,c,_⟩,_⟩:=I.tuple hS;rcases hi with⟨rfl,rfl⟩|⟨rfl,rfl⟩|⟨rfl,rfl⟩|⟨rfl,rfl⟩
  exact IsiPair.tuple_int e c k1;exact IsiPair.tuple_bool e c k1;exact IsiPair.tuple_tuple e c k0;exact IsiPair.tuple_list e c k1;obtain⟨its,_,pl,_⟩:=I.list hS;obtain⟨o,e,c,_⟩:=pl.isList;rcases hi with⟨rfl,rfl⟩|⟨rfl,rfl⟩|⟨rfl,rfl⟩|⟨rfl,rfl⟩
  exact IsiPair.list_int e c k1;exact IsiPair.list_bool e c k1;exact IsiPair.list_tuple e c k1;exact IsiPair.list_list e c k0
 | _=>exact hi.elim
end
inductive W where
 | non|bl (b:Bool)|int (i:Int)|str (x:Str)|ty (n:String)|tup (ws:List W)|lst (ws:List W)|loc (n:Nat)|kls (ws:List W)|exc (n:Str)
 | exa (n:Str) (ws:List W)
 | fnv (f:Addr) (i:Nat)
inductive Cell where
 | lst (ws:List W)|obj (C:Addr) (fs:List (Str×W))|dct (kvs:List (Key×W))
 | dtt (kvs:List (List Int×W))
structure Gh where
 nx:Nat
 c:Nat->Option Cell
structure Mu where
 f:Nat->Option Addr
 hid:Addr->Prop
def Z4 (K:Zf)(p:Addr)(xs:List V):Prop:=
 ∃(o:Obj) (its:Array JI) (n:Nat),K.lookup p=Dn o/\o.cls=.type "list"/\o.dict=Go/\o.data=.seq its n/\its.size<=Bh/\kI xs its.toList
def Frz (H:Hp)(μ:Mu)(p:Addr)(xs:List V):Prop:=H p=Dn (.lst xs)/\(∀n,μ.f n≠Dn p)/\¬μ.hid p
def Frk (K:Zf)(H:Hp)(p:Addr)(xs:List V):Prop:=(∃o,H p=Dn (.frz o (.lst xs)))\/Z4 K p xs
variable {μ:Mu}
theorem Frz.sq {K:Zf}{H:Hp}{p:Addr}{xs:List V}(h:Frz H μ p xs):Ez K H p xs:=.inl (.inl h.1)
theorem Frk.sq {K:Zf}{H:Hp}{p:Addr}{xs:List V}(h:Frk K H p xs):Ez K H p xs:=by
 rcases h with h|h
 exact .inl<|.inr h
 exact .inr h
def vmB:List JI:=[.type "ValueError",.type "Exception",.type "BaseException",.type "object"]
def qR (K:Zf)(C:Addr)(n:Str):Bool:=Hs K CR n==Dn (Dn (.ref C))&&PySem.W.typeIn K (.ref C)==Dn (.type "type")&&match Q7 K C with
 | some cd=>cd.name==n&&cd.mro.contains (.type "BaseException")
 | none=>false
def tV (K:Zf)(C:Addr)(n:Str):Bool:=qR K C n&&(match Q7 K C with
 | some cd=>(match cd.mro with
  | [.ref C',.ref R,a,b,c,d]=>C'==C&&[a,b,c,d]==vmB&&Hs K CR "EaselError"==Dn (Dn (.ref R))&&(Q7 K R).any (λc=>c.name==("EaselError" : Str))
  | _=>false)
 | none=>false)&&MJ K (.ref C) "__getattribute__"==Dn (Dn (.builtin "BaseException.__getattribute__"))&&MJ K (.ref C) "__getattr__"==Dn Go&&MJ K (.ref C) "__class__"==Dn (Dn (.builtin "object.__class__"))&&PySem.W.specialIn K (.builtin "object.__class__") "__get__"==Dn (Dn (.builtin "getset_descriptor.__get__"))
 && PySem.W.takesIn K (.builtin "object.__class__")==Dn true
def Gz (n:Str):List Str:=if n = "Apart" then["word", "places"]else["at"]
def Ws (K:Zf)(C:Addr)(n:Str):Bool:=tV K C n&&PySem.W.hasDictIn K C&&(Gz n).all λf=>MJ K (.ref C) f==Dn Go
def Xoa (K:Zf)(o:Obj)(n:Str)(dd:Addr):Prop:=∃C,o.cls=.ref C/\o.dict=Dn dd/\PySem.W.notCls o=true/\Ws K C n=true
def Xob (K:Zf)(o:Obj)(n:Str):Prop:=∃C,o.cls=.ref C/\o.dict=Go/\PySem.W.notCls o=true/\tV K C n=true
mutual
def Zh (K:Zf)(H:Hp)(μ:Mu):W->V->Prop
 | .non,v=>v=.non
 | .bl b,v=>v=.bl b
 | .int i,v=>v=.int i
 | .str x,v=>v=.str x
 | .ty n,v=>v=.ty n
 | .tup ws,v=>∃p xs,v=.ref p/\Fw K H p xs/\bA K H μ ws xs
 | .lst ws,v=>∃p xs,v=.ref p/\Frz H μ p xs/\bA K H μ ws xs
 | .kls ws,v=>∃p xs,v=.ref p/\Frk K H p xs/\bA K H μ ws xs
 | .loc n,v=>∃p,v=.ref p/\μ.f n=Dn p
 | .exc n,v=>∃p o u,v=.ref p/\H p=Dn (.frz o u)/\Xob K o n
 | .exa n ws,v=>∃p o u dd ns xs,v=.ref p/\H p=Dn (.frz o u)/\Xoa K o n dd/\H dd=Dn (.xd (List.zip ns xs))/\ns=Gz n/\ns.length=xs.length/\bA K H μ ws xs
 | .fnv f _,v=>v=.ref f
def bA (K:Zf)(H:Hp)(μ:Mu):List W->List V->Prop
 | [],xs=>xs=[]
 | w::ws,xs=>∃v vs,xs=v::vs/\Zh K H μ w v/\bA K H μ ws vs
end
section
variable {K:Zf}{H H' H1 H2:Hp}{μ' μ1 μ2:Mu}{h h':Gh}{w:W}{ws:List W}{v:V}{xs:List V}
theorem bA.len:∀{ws:List W}{xs:List V},bA K H μ ws xs->ws.length=xs.length
 | [],xs,h=>by
  have e:=h;rw[e];rfl
 | w::ws,xs,h=>by
  obtain⟨v,vs,e,_,h⟩:=h;rw[e,Ea,Ea,bA.len h]
theorem bA.get:∀{ws:List W}{xs:List V}{i:Nat}{w:W},bA K H μ ws xs->ws[i]?=Dn w->∃v,xs[i]?=Dn v/\Zh K H μ w v
 | a::ws,xs,0,w,h,e=>by
  obtain⟨v,vs,e1,r,_⟩:=h;grind
 | a::ws,xs,i+1,w,h,e=>by
  obtain⟨v,vs,e1,_,h⟩:=h;subst e1;obtain⟨u,h1,h2⟩:=bA.get h (by simpa using e)
  simp_all
theorem bA.nil:bA K H μ [] []:=rfl
theorem bA.cons (r:Zh K H μ w v)(h:bA K H μ ws xs):bA K H μ (w::ws) (v::xs):=⟨v,xs,rfl,r,h⟩
theorem bA.append:∀{ws:List W}{xs:List V}{us:List W}{ys:List V},bA K H μ ws xs->bA K H μ us ys->bA K H μ (ws++us) (xs++ys)
 | [],xs,us,ys,h,g=>by
  subst h;exact g
 | w::ws,xs,us,ys,h,g=>by
  obtain⟨v,vs,e,r,h⟩:=h;subst e;exact bA.cons r<|bA.append h g
theorem bA.one (r:Zh K H μ w v):bA K H μ [w] [v]:=bA.cons r bA.nil
theorem bA.set (r:Zh K H μ w v):∀{ws:List W}{xs:List V}(i:Nat),bA K H μ ws xs->bA K H μ (ws.set i w) (xs.set i v)
 | [],xs,i,h=>by subst h;exact bA.nil
 | a::ws,xs,0,h=>by
  obtain⟨u,vs,e,_,h⟩:=h;subst e;exact bA.cons r h
 | a::ws,xs,i+1,h=>by
  obtain⟨u,vs,e,q,h⟩:=h;subst e;exact bA.cons q<|bA.set r i h
theorem bA.take:∀{ws:List W}{xs:List V}(n:Nat),bA K H μ ws xs->bA K H μ (ws.take n) (xs.take n)
 | _,_,0,_=>bA.nil
 | [],xs,n+1,h=>by subst h;exact bA.nil
 | a::ws,xs,n+1,h=>by
  obtain⟨u,vs,e,q,h⟩:=h;subst e;exact bA.cons q<|bA.take n h
theorem bA.drop:∀{ws:List W}{xs:List V}(n:Nat),bA K H μ ws xs->bA K H μ (ws.drop n) (xs.drop n)
 | _,_,0,h=>h
 | [],xs,n+1,h=>by subst h;exact bA.nil
 | a::ws,xs,n+1,h=>by
  obtain⟨u,vs,e,q,h⟩:=h;subst e;exact bA.drop n h
structure Ex0 (K:Zf) (H:Hp) (μ:Mu) (H':Hp) (μ':Mu):Prop where
 t:∀p xs,Fw K H p xs->Fw K H' p xs
 l:∀p xs,Frz H μ p xs->Frz H' μ' p xs
 k:∀p xs,Frk K H p xs->Frk K H' p xs
 m:∀n p,μ.f n=Dn p->μ'.f n=Dn p
 x:∀p o u,H p=Dn (.frz o u)->H' p=Dn (.frz o u)
 y:∀p fs,H p=Dn (.xd fs)->H' p=Dn (.xd fs)
structure Ex (K:Zf) (H:Hp) (μ:Mu) (H':Hp) (μ':Mu):Prop extends Ex0 K H μ H' μ' where
 o:∀p u,μ.hid p->H p=Dn u->μ'.hid p/\H' p=Dn u
mutual
theorem Zh.ex (e:Ex0 K H μ H' μ'):∀{w:W}{v:V},Zh K H μ w v->Zh K H' μ' w v
 | .non,_,h=>by rw[Zh]at h|-;exact h
 | .bl _,_,h=>by rw[Zh]at h|-;exact h
 | .int _,_,h=>by rw[Zh]at h|-;exact h
 | .str _,_,h=>by rw[Zh]at h|-;exact h
 | .ty _,_,h=>by rw[Zh]at h|-;exact h
 | .tup ws,_,h=>by
  rw[Zh]at h|-
  obtain⟨p,xs,e1,hs,hr⟩:=h;exact⟨p,xs,e1,e.t _ _ hs,bA.ex e hr⟩
 | .lst ws,_,h=>by
  rw[Zh]at h|-
  obtain⟨p,xs,e1,hs,hr⟩:=h;exact⟨p,xs,e1,e.l _ _ hs,bA.ex e hr⟩
 | .kls ws,_,h=>by
  rw[Zh]at h|-
  obtain⟨p,xs,e1,hs,hr⟩:=h;exact⟨p,xs,e1,e.k _ _ hs,bA.ex e hr⟩
 | .loc n,_,h=>by
  rw[Zh]at h|-
  obtain⟨p,e1,hm⟩:=h;exact⟨p,e1,e.m _ _ hm⟩
 | .exc n,_,h=>by
  rw[Zh]at h|-
  obtain⟨p,o,u,e1,hm,hx⟩:=h;exact⟨p,o,u,e1,e.x _ _ _ hm,hx⟩
 | .exa n ws,_,h=>by
  rw[Zh]at h|-
  obtain⟨p,o,u,dd,ns,xs,e1,hm,hx,hd,e2,e3,hr⟩:=h;exact⟨p,o,u,dd,ns,xs,e1,e.x _ _ _ hm,hx,e.y _ _ hd,e2,e3,bA.ex e hr⟩
 | .fnv _ _,_,h=>by rw[Zh]at h|-;exact h
theorem bA.ex (e:Ex0 K H μ H' μ'):∀{ws:List W}{xs:List V},bA K H μ ws xs->bA K H' μ' ws xs
 | [],_,h=>by rw[bA]at h|-;exact h
 | w::ws,_,h=>by
  rw[bA]at h|-
  obtain⟨v,vs,e1,r,h⟩:=h;exact⟨v,vs,e1,Zh.ex e r,bA.ex e h⟩
end
structure DR (K:Zf) (H:Hp) (μ:Mu) (H':Hp) (μ':Mu):Prop where
 r:∀w v,Zh K H μ w v->Zh K H' μ' w v
 o:∀p u,μ.hid p->H p=Dn u->μ'.hid p/\H' p=Dn u
theorem DR.refl:DR K H μ H μ:=⟨λ_ _ h=>h,λ_ _ h g=>⟨h,g⟩⟩
theorem DR.trans (a:DR K H μ H1 μ1)(b:DR K H1 μ1 H2 μ2):DR K H μ H2 μ2:=
 ⟨λw v h=>b.r w v (a.r w v h),λp u h g=>let⟨h1,g1⟩:=a.o p u h g;b.o p u h1 g1⟩
theorem Ex.ext (e:Ex K H μ H' μ'):DR K H μ H' μ':=⟨λ_ _ h=>Zh.ex e.toEx0 h,e.o⟩
theorem DR.s (e:DR K H μ H' μ'):∀{ws:List W}{xs:List V},bA K H μ ws xs->bA K H' μ' ws xs
 | [],_,h=>h
 | w::ws,_,h=>by
  obtain⟨v,vs,e1,r,h⟩:=h;exact⟨v,vs,e1,e.r _ _ r,DR.s e h⟩
def VJ:Option HO->Prop
 | some (.lst _)=>True
 | some (.dK _)=>True
 | some (.ins _ _ _)=>True
 | some (.ext _)=>True
 | _=>False
def qO {κ:Type}(K:Zf)(H:Hp)(μ:Mu):List (κ×W)->List (κ×V)->Prop:=Pr λ(p:κ×W) (q:κ×V)=>p.1=q.1/\Zh K H μ p.2 q.2
def Z5 (x:List Int×Addr×JI):DictEntry:=⟨reduceHash (Builtin.Tuple.tupleHashOf (x.1.map hashInt)),.ref x.2.1,x.2.2⟩
def ZS (a:Addr)(xs:List (List Int×Addr×JI))(h:Heap):Prop:=xs.length<=Bh/\(a==Ma)=false/\(xs.map (·.1)).Nodup/\∃o es ep,h.get? a=Dn o/\o.ExactDict/\o.data=.dict es ep/\es.toList=xs.map Z5
def qT (K:Zf)(H:Hp)(μ:Mu)(p:Addr):Cell->Prop
 | .lst ws=>∃xs,H p=Dn (.lst xs)/\bA K H μ ws xs
 | .obj C fs=>∃dx fvs,H p=Dn (.ins C dx fvs)/\qO K H μ fs fvs
 | .dct kvs=>∃kvv,H p=Dn (.dK kvv)/\qO K H μ kvs kvv
 | .dtt kvs=>∃xs vs,H p=Dn (.ext (ZS p xs))/\kvs.map (·.1)=xs.map (·.1)/\kI vs (xs.map (·.2.2))/\bA K H μ (kvs.map λx=>W.tup (x.1.map W.int)) (xs.map λx=>V.ref x.2.1)/\bA K H μ (kvs.map (·.2)) vs
structure Ax (K:Zf) (μ:Mu) (H:Hp) (h:Gh):Prop where
 inj:∀m n p,μ.f m=Dn p->μ.f n=Dn p->m=n
 dom:∀n p,μ.f n=Dn p->n<h.nx
 trk:∀n p,μ.f n=Dn p->VJ (H p)
 cel:∀n c,h.c n=Dn c->∃p,μ.f n=Dn p/\qT K H μ p c
 hd:∀p,μ.hid p->(∃xs,H p=Dn (.lst xs))/\∀n,μ.f n≠Dn p
theorem qT.ext {p:Addr}{c:Cell}(e:DR K H μ H' μ')(hp:H' p=H p)(x:qT K H μ p c):qT K H' μ' p c:=by
 cases c with
 | lst ws=>obtain⟨xs,a,b⟩:=x;exact⟨xs,hp.trans a,e.s b⟩
 | obj C fs=>obtain⟨dx,fvs,a,b⟩:=x;exact⟨dx,fvs,hp.trans a,Paired.mapP b λ_ _ z=>⟨z.1,e.r _ _ z.2⟩⟩
 | dct kvs=>obtain⟨kvv,a,b⟩:=x;exact⟨kvv,hp.trans a,Paired.mapP b λ_ _ z=>⟨z.1,e.r _ _ z.2⟩⟩
 | dtt kvs=>obtain⟨xs,vs,a,b,c,d,f⟩:=x;exact⟨xs,vs,hp.trans a,b,c,e.s d,e.s f⟩
theorem Rd.laid {p q:Addr}{o u:HO}(hp:H p=Go)(r:Rd H q u):Rd (CN H p o) q u:=by
 have ne:q≠p:=by
  rcases r with r|⟨_,r⟩
  exact aU r hp;exact aU r hp
 unfold Rd
 rwa[aO ne]
theorem Ex.laid {p:Addr}{o:HO}(hp:H p=Go):Ex K H μ (CN H p o) μ where
 t:=λq xs h=>by
  rcases h with h|h
  exact .inl<|h.laid hp
  exact .inr h
 l:=λq xs h=>⟨aO (aU h.1 hp) ▸ h.1,h.2⟩
 k:=λq xs h=>by
  rcases h with⟨o',h⟩|h
  exact .inl ⟨o',aO (aU h hp) ▸ h⟩;exact .inr h
 m:=λ_ _ h=>h
 x:=λq o' u e=>aO (aU e hp) ▸ e
 y:=λq fs e=>aO (aU e hp) ▸ e
 o:=λq u z e=>⟨z,aO (aU e hp) ▸ e⟩
theorem Ax.laid {p:Addr}{o:HO}(R:Ax K μ H h)(hp:H p=Go):Ax K μ (CN H p o) h where
 inj:=R.inj
 dom:=R.dom
 trk:=λn q e=>by
  have:=R.trk n q e
  rw[aO (λz=>by subst z;rw[hp]at this;exact this)];exact this
 cel:=λn c e=>by
  obtain⟨q,e1,x⟩:=R.cel n c e;have:=R.trk n q e1
  exact⟨q,e1,x.ext (Ex.laid hp).ext (aO (λz=>by subst z;rw[hp]at this;exact this))⟩
 hd:=λq z=>by
  obtain⟨⟨xs,e⟩,g⟩:=R.hd q z;exact⟨⟨xs,aO (aU e hp) ▸ e⟩,g⟩
theorem Zh.tupNew {p:Addr}(hp:H p=Go)(r:bA K H μ ws xs):Zh K (CN H p (.tup xs)) μ (.tup ws) (.ref p):=⟨p,xs,rfl,Fw.of bM,(Ex.laid hp).ext.s r⟩
theorem Zh.lstNew {p:Addr}(R:Ax K μ H h)(hp:H p=Go)(r:bA K H μ ws xs):Zh K (CN H p (.lst xs)) μ (.lst ws) (.ref p):=by
 refine⟨p,xs,rfl,⟨bM,λn e=>?_,λz=>?_⟩,(Ex.laid hp).ext.s r⟩;have:=R.trk n p e
 rwa[hp]at this
 obtain⟨⟨xs,e⟩,_⟩:=R.hd p z;grind
def Mu.put (μ:Mu)(n:Nat)(p:Addr):Mu:=⟨λm=>if m=n then Dn p else μ.f m,μ.hid⟩
theorem Mu.put_same {n:Nat}{p:Addr}:(μ.put n p).f n=Dn p:=by show(if n=n then Dn p else μ.f n)=_;rw[if_pos rfl]
theorem Mu.put_ne {n:Nat}{p:Addr}(e:m≠n):(μ.put n p).f m=μ.f m:=by show(if m=n then Dn p else μ.f m)=_;rw[if_neg e]
def Gh.new (h:Gh)(c:Cell):Gh:=⟨h.nx+1,λm=>if m=h.nx then Dn c else h.c m⟩
def Gh.set (h:Gh)(n:Nat)(c:Cell):Gh:=⟨h.nx,λm=>if m=n then Dn c else h.c m⟩
theorem Ax.dead (R:Ax K μ H h){n:Nat}(hn:h.nx<=n):μ.f n=Go:=by
 cases e:μ.f n with
 | none=>rfl
 | some p=>exact absurd (R.dom n p e) (by lia)
theorem Ex.newCell {p:Addr}{o:HO}(R:Ax K μ H h)(hp:H p=Go):Ex K H μ (CN H p o) (μ.put h.nx p) where
 t:=λq xs z=>(Ex.laid (μ:=μ) hp).t q xs z
 l:=λq xs z=>by
  have nq:=aU z.1 hp;refine⟨aO nq ▸ z.1,λn e=>?_,z.2.2⟩;by_cases hn:n=h.nx
  subst hn;rw[Mu.put_same]at e;grind
  rw[Mu.put_ne hn]at e;exact z.2.1 n e
 k:=λq xs z=>(Ex.laid (μ:=μ) hp).k q xs z
 m:=λn q e=>by
  rw[Mu.put_ne (λz=>by subst z;rw[R.dead (Bm _)]at e;cases e)];exact e
 x:=λq o' u e=>aO (aU e hp) ▸ e
 y:=λq fs e=>aO (aU e hp) ▸ e
 o:=λq u z e=>⟨z,aO (aU e hp) ▸ e⟩
theorem Ax.newCell {p:Addr}{o:HO}{c:Cell}(R:Ax K μ H h)(hp:H p=Go)(mo:VJ (Dn o))(ck:qT K (CN H p o) (μ.put h.nx p) p c):Ax K (μ.put h.nx p) (CN H p o) (h.new c) where
 inj:=λm n q em en=>by
  by_cases hm:m=h.nx
  by_cases hn:n=h.nx
  rw[hm,hn];rw[hm,Mu.put_same]at em;rw[Mu.put_ne hn]at en;cases Ge em
  have:=R.trk n _ en
  rw[hp]at this;cases this;rw[Mu.put_ne hm]at em;by_cases hn:n=h.nx
  rw[hn,Mu.put_same]at en;obtain rfl:=Ge en;have:=R.trk m _ em
  rw[hp]at this;cases this;rw[Mu.put_ne hn]at en;exact R.inj m n q em en
 dom:=λn q e=>by
  show n<h.nx+1;by_cases hn:n=h.nx
  lia;rw[Mu.put_ne hn]at e;have:=R.dom n q e
  lia
 trk:=λn q e=>by
  by_cases hn:n=h.nx
  rw[hn,Mu.put_same]at e;obtain rfl:=Ge e;rw[bM];exact mo;rw[Mu.put_ne hn]at e;have:=R.trk n q e
  have ne:q≠p:=λz=>by subst z;rw[hp]at this;exact this
  rw[aO ne];exact this
 cel:=λn d e=>by
  have e:(if n=h.nx then Dn c else h.c n)=Dn d:=e;by_cases hn:n=h.nx
  rw[if_pos hn]at e;obtain rfl:=Ge e;exact⟨p,by rw[hn,Mu.put_same],ck⟩;rw[if_neg hn]at e;obtain⟨q,e1,x⟩:=R.cel n d e;have:=R.trk n q e1
  have ne:q≠p:=λz=>by subst z;rw[hp]at this;exact this
  exact⟨q,by rwa[Mu.put_ne hn],x.ext (Ex.newCell R hp).ext (aO ne)⟩
 hd:=λq z=>by
  obtain⟨⟨xs,e⟩,g⟩:=R.hd q z;have ne:=aU e hp;refine⟨⟨xs,aO ne ▸ e⟩,λn en=>?_⟩;by_cases hn:n=h.nx
  rw[hn,Mu.put_same]at en;grind
  rw[Mu.put_ne hn]at en;exact g n en
theorem Rd.kept {p q:Addr}{o u:HO}(mo:VJ (H p))(r:Rd H q u)(hn:q≠p):Rd (CN H p o) q u:=by
 unfold Rd
 rwa[aO hn]
theorem Ex.write {n:Nat}{p:Addr}{o:HO}(R:Ax K μ H h)(hn:μ.f n=Dn p):Ex K H μ (CN H p o) μ where
 t:=λq xs z=>by
  rcases z with z|z
  refine .inl<|z.kept (R.trk n p hn) λe=>?_
  subst e;have:=R.trk n q hn
  rcases z with r|⟨_,r⟩<;>rw[r]at this<;>exact this
  exact .inr z
 l:=λq xs z=>⟨by rw[aO (λe=>z.2.1 n (by rwa[e]))];exact z.1,z.2⟩
 k:=λq xs z=>by
  rcases z with⟨o',z⟩|z
  refine .inl ⟨o',?_⟩;rw[aO (λe=>?_)];exact z;subst e;have:=R.trk n q hn
  rwa[z]at this
  exact .inr z
 m:=λ_ _ e=>e
 x:=λq o' u e=>by
  rw[aO (λy=>?_)];exact e;subst y;have:=R.trk n q hn
  rwa[e]at this
 y:=λq fs e=>by
  rw[aO (λy=>?_)];exact e;subst y;have:=R.trk n q hn
  rwa[e]at this
 o:=λq u z e=>⟨z,by rw[aO (λy=>(R.hd q z).2 n (by rwa[y]))];exact e⟩
theorem Ax.write {n:Nat}{p:Addr}{o:HO}{c:Cell}(R:Ax K μ H h)(hn:μ.f n=Dn p)(mo:VJ (Dn o))(ck:qT K (CN H p o) μ p c):Ax K μ (CN H p o) (h.set n c) where
 inj:=R.inj
 dom:=R.dom
 trk:=λm q e=>by
  by_cases z:q=p
  subst z;rw[bM];exact mo;rw[aO z];exact R.trk m q e
 cel:=λm d e=>by
  have e:(if m=n then Dn c else h.c m)=Dn d:=e;by_cases hm:m=n
  grind
  rw[if_neg hm]at e;obtain⟨q,e1,x⟩:=R.cel m d e;exact⟨q,e1,x.ext (Ex.write R hn).ext (aO (λz=>by subst z;exact hm (R.inj m n q e1 hn)))⟩
 hd:=λq z=>by
  obtain⟨⟨xs,e⟩,g⟩:=R.hd q z;exact⟨⟨xs,by rw[aO<|λy=>g n<|by rwa[y]];exact e⟩,g⟩
mutual
def Lo (k:Nat):W->Prop
 | .tup ws=>NP k ws
 | .lst ws=>NP k ws
 | .kls ws=>NP k ws
 | .exa _ ws=>NP k ws
 | .loc n=>n<k
 | _=>True
def NP (k:Nat):List W->Prop
 | []=>True
 | w::ws=>Lo k w/\NP k ws
end
mutual
theorem Zh.lo {k:Nat}(hd:∀n p,μ.f n=Dn p->n<k):∀{w:W}{v:V},Zh K H μ w v->Lo k w
 | .non,_,_=>by rw[Lo]<;>first|trivial|(intros;contradiction)
 | .bl _,_,_=>by rw[Lo]<;>first|trivial|(intros;contradiction)
 | .int _,_,_=>by rw[Lo]<;>first|trivial|(intros;contradiction)
 | .str _,_,_=>by rw[Lo]<;>first|trivial|(intros;contradiction)
 | .ty _,_,_=>by rw[Lo]<;>first|trivial|(intros;contradiction)
 | .exc _,_,_=>by rw[Lo]<;>first|trivial|(intros;contradiction)
 | .fnv _ _,_,_=>by rw[Lo]<;>first|trivial|(intros;contradiction)
 | .exa _ ws,_,h=>by
  rw[Zh]at h;obtain⟨_,_,_,_,_,_,_,_,_,_,_,_,hr⟩:=h;rw[Lo];exact bA.lo hd hr
 | .tup ws,_,h=>by
  rw[Zh]at h;obtain⟨p,xs,_,_,hr⟩:=h;rw[Lo];exact bA.lo hd hr
 | .lst ws,_,h=>by
  rw[Zh]at h;obtain⟨p,xs,_,_,hr⟩:=h;rw[Lo];exact bA.lo hd hr
 | .kls ws,_,h=>by
  rw[Zh]at h;obtain⟨p,xs,_,_,hr⟩:=h;rw[Lo];exact bA.lo hd hr
 | .loc n,_,h=>by
  rw[Zh]at h;obtain⟨p,_,hm⟩:=h;rw[Lo];exact hd n p hm
theorem bA.lo {k:Nat}(hd:∀n p,μ.f n=Dn p->n<k):∀{ws:List W}{xs:List V},bA K H μ ws xs->NP k ws
 | [],_,_=>by rw[NP];trivial
 | w::ws,_,h=>by
  rw[bA]at h;obtain⟨v,vs,_,r,h⟩:=h;rw[NP];exact⟨Zh.lo hd r,bA.lo hd h⟩
end
def Mu.cut (μ:Mu)(k:Nat):Mu:=⟨λn=>if n<k then μ.f n else Go,μ.hid⟩
theorem Mu.cut_some {k n:Nat}{p:Addr}(e:(μ.cut k).f n=Dn p):n<k/\μ.f n=Dn p:=by
 have e:(if n<k then μ.f n else Go)=Dn p:=e;grind
mutual
theorem Zh.cut {k:Nat}:∀{w:W}{v:V},Zh K H μ w v->Lo k w->Zh K H (μ.cut k) w v
 | .non,_,h,_=>by rw[Zh]at h|-;exact h
 | .bl _,_,h,_=>by rw[Zh]at h|-;exact h
 | .int _,_,h,_=>by rw[Zh]at h|-;exact h
 | .str _,_,h,_=>by rw[Zh]at h|-;exact h
 | .ty _,_,h,_=>by rw[Zh]at h|-;exact h
 | .exc _,_,h,_=>by rw[Zh]at h|-;exact h
 | .fnv _ _,_,h,_=>by rw[Zh]at h|-;exact h
 | .exa _ ws,_,h,l=>by
  rw[Zh]at h|-
  rw[Lo]at l;obtain⟨p,o,u,dd,ns,xs,e1,hm,hx,hd,e2,e3,hr⟩:=h;exact⟨p,o,u,dd,ns,xs,e1,hm,hx,hd,e2,e3,bA.cut hr l⟩
 | .tup ws,_,h,l=>by
  rw[Zh]at h|-
  rw[Lo]at l;obtain⟨p,xs,e1,hs,hr⟩:=h;exact⟨p,xs,e1,hs,bA.cut hr l⟩
 | .lst ws,_,h,l=>by
  rw[Zh]at h|-
  rw[Lo]at l;obtain⟨p,xs,e1,hs,hr⟩:=h;exact⟨p,xs,e1,⟨hs.1,λn e=>hs.2.1 n (Mu.cut_some e).2,hs.2.2⟩,bA.cut hr l⟩
 | .kls ws,_,h,l=>by
  rw[Zh]at h|-
  rw[Lo]at l;obtain⟨p,xs,e1,hs,hr⟩:=h;exact⟨p,xs,e1,hs,bA.cut hr l⟩
 | .loc n,_,h,l=>by
  rw[Zh]at h|-
  rw[Lo]at l;obtain⟨p,e1,hm⟩:=h;refine⟨p,e1,?_⟩;show(if n<k then μ.f n else Go)=Dn p;rw[if_pos l];exact hm
theorem bA.cut {k:Nat}:∀{ws:List W}{xs:List V},bA K H μ ws xs->NP k ws->bA K H (μ.cut k) ws xs
 | [],_,h,_=>by rw[bA]at h|-;exact h
 | w::ws,_,h,l=>by
  rw[bA]at h|-
  rw[NP]at l;obtain⟨v,vs,e1,r,h⟩:=h;exact⟨v,vs,e1,Zh.cut r l.1,bA.cut h l.2⟩
end
end
variable {ws:List W}{μ' μ1:Mu}
section
variable {K:Zf}{H H' H1 H2:Hp}{μ2:Mu}{h h':Gh}{w:W}{v:V}{xs ys:List V}{p:Addr}
def Mu.hide (μ:Mu)(p:Addr):Mu:=⟨μ.f,λq=>q=p\/μ.hid q⟩
def Mu.unhide (μ:Mu)(p:Addr):Mu:=⟨μ.f,λq=>q≠p/\μ.hid q⟩
structure QL (p:Addr) (K:Zf) (H:Hp) (μ:Mu) (H':Hp) (μ':Mu):Prop where
 r:∀w v,Zh K H μ w v->Zh K H' μ' w v
 o:∀q u,q≠p->μ.hid q->H q=Dn u->μ'.hid q/\H' q=Dn u
theorem DR.x (a:DR K H μ H1 μ1)(hp:¬μ.hid p)(b:QL p K H1 μ1 H2 μ2):DR K H μ H2 μ2:=
 ⟨λw v z=>b.r w v (a.r w v z),λq u z e=>let⟨z1,e1⟩:=a.o q u z e;b.o q u (λy=>hp (y ▸ z)) z1 e1⟩
theorem DR.hide {o:HO}(hp:H p=Go):DR K H μ (CN H p o) (μ.hide p):=Ex.ext {
 t:=λq xs z=>(Ex.laid (μ:=μ) hp).t q xs z
 l:=λq xs z=>by
  have nq:=aU z.1 hp;refine⟨aO nq ▸ z.1,z.2.1,λy=>?_⟩;rcases y with y|y
  exact nq y;exact z.2.2 y
 k:=λq xs z=>(Ex.laid (μ:=μ) hp).k q xs z
 m:=λ_ _ e=>e
 x:=λq o' u e=>aO (aU e hp) ▸ e
 y:=λq fs e=>aO (aU e hp) ▸ e
 o:=λq u z e=>⟨.inr z,aO (aU e hp) ▸ e⟩}
theorem Ax.nohid (R:Ax K μ H h)(hp:H p=Go):¬μ.hid p:=λz=>by
 obtain⟨⟨xs,e⟩,_⟩:=R.hd p z;grind
theorem Ax.hide (R:Ax K μ H h)(hp:H p=Go):Ax K (μ.hide p) (CN H p (.lst xs)) h where
 inj:=R.inj
 dom:=R.dom
 trk:=(R.laid hp).trk
 cel:=λn c e=>by
  obtain⟨q,e1,x⟩:=R.cel n c e;have:=R.trk n q e1
  exact⟨q,e1,x.ext (DR.hide hp)<|aO (λz=>by subst z;rw[hp]at this;exact this)⟩
 hd:=λq z=>by
  rcases z with z|z
  subst z;refine⟨⟨xs,bM⟩,λn e=>?_⟩;have:=R.trk n q e
  rwa[hp]at this
  exact(R.laid hp).hd q z
theorem Ex0.grow (R:Ax K μ H h)(hp:μ.hid p):Ex0 K H μ (CN H p (.lst ys)) μ where
 t:=λq xs z=>by
  rcases z with z|z
  refine .inl ?_;unfold Rd;rw[aO (λy=>?_)];exact z;subst y;obtain⟨⟨xs',e⟩,_⟩:=R.hd q hp;rcases z with r|⟨_,r⟩<;>rw[e]at r<;>cases r
  exact .inr z
 l:=λq xs z=>⟨by rw[aO (λy=>z.2.2 (by rwa[y]))];exact z.1,z.2⟩
 k:=λq xs z=>by
  rcases z with⟨o',z⟩|z
  refine .inl ⟨o',?_⟩;rw[aO (λy=>?_)];exact z;subst y;obtain⟨⟨xs',e⟩,_⟩:=R.hd q hp;grind
  exact .inr z
 m:=λ_ _ e=>e
 x:=λq o' u e=>by
  rw[aO (λy=>?_)];exact e;subst y;obtain⟨⟨xs',e'⟩,_⟩:=R.hd q hp;grind
 y:=λq fs e=>by
  rw[aO (λy=>?_)];exact e;subst y;obtain⟨⟨xs',e'⟩,_⟩:=R.hd q hp;grind
theorem QL.grow (R:Ax K μ H h)(hp:μ.hid p):QL p K H μ (CN H p (.lst ys)) μ:=
 ⟨λ_ _ z=>Zh.ex (Ex0.grow R hp) z,λq u ne z e=>⟨z,aO ne ▸ e⟩⟩
theorem Ax.grow (R:Ax K μ H h)(hp:μ.hid p):Ax K μ (CN H p (.lst ys)) h where
 inj:=R.inj
 dom:=R.dom
 trk:=λn q e=>by
  have ne:q≠p:=λz=>(R.hd p hp).2 n (z ▸ e)
  rw[aO ne];exact R.trk n q e
 cel:=λn c e=>by
  obtain⟨q,e1,x⟩:=R.cel n c e;have ne:q≠p:=λz=>(R.hd p hp).2 n (z ▸ e1)
  refine⟨q,e1,?_⟩;cases c with
  | lst ws=>obtain⟨xs,a,b⟩:=x;exact⟨xs,(aO ne).trans a,bA.ex (Ex0.grow R hp) b⟩
  | obj C fs=>obtain⟨dx,fvs,a,b⟩:=x;exact⟨dx,fvs,(aO ne).trans a,Paired.mapP b λ_ _ z=>⟨z.1,Zh.ex (Ex0.grow R hp) z.2⟩⟩
  | dct kvs=>obtain⟨kvv,a,b⟩:=x;exact⟨kvv,(aO ne).trans a,Paired.mapP b λ_ _ z=>⟨z.1,Zh.ex (Ex0.grow R hp) z.2⟩⟩
  | dtt kvs=>obtain⟨xs,vs,a,b,c,d,f⟩:=x;exact⟨xs,vs,(aO ne).trans a,b,c,bA.ex (Ex0.grow R hp) d,bA.ex (Ex0.grow R hp) f⟩
 hd:=λq z=>by
  by_cases e:q=p
  subst e;exact⟨⟨ys,bM⟩,(R.hd q hp).2⟩;rw[aO e];exact R.hd q z
theorem Ex0.unhide:Ex0 K H μ H (μ.unhide p) where
 t:=λ_ _ z=>z
 l:=λq xs z=>⟨z.1,z.2.1,λy=>z.2.2 y.2⟩
 k:=λ_ _ z=>z
 m:=λ_ _ e=>e
 x:=λ_ _ _ e=>e
 y:=λ_ _ e=>e
theorem QL.unhide:QL p K H μ H (μ.unhide p):=⟨λ_ _ z=>Zh.ex Ex0.unhide z,λq u ne z e=>⟨⟨ne,z⟩,e⟩⟩
theorem Ax.unhide (R:Ax K μ H h):Ax K (μ.unhide p) H h where
 inj:=R.inj
 dom:=R.dom
 trk:=R.trk
 cel:=λn c e=>by
  obtain⟨q,e1,x⟩:=R.cel n c e;refine⟨q,e1,?_⟩;cases c with
  | lst ws=>obtain⟨xs,a,b⟩:=x;exact⟨xs,a,bA.ex Ex0.unhide b⟩
  | obj C fs=>obtain⟨dx,fvs,a,b⟩:=x;exact⟨dx,fvs,a,Paired.mapP b λ_ _ z=>⟨z.1,Zh.ex Ex0.unhide z.2⟩⟩
  | dct kvs=>obtain⟨kvv,a,b⟩:=x;exact⟨kvv,a,Paired.mapP b λ_ _ z=>⟨z.1,Zh.ex Ex0.unhide z.2⟩⟩
  | dtt kvs=>obtain⟨xs,vs,a,b,c,d,f⟩:=x;exact⟨xs,vs,a,b,c,bA.ex Ex0.unhide d,bA.ex Ex0.unhide f⟩
 hd:=λq z=>R.hd q z.2
theorem Zh.built (R:Ax K μ H h)(hp:μ.hid p)(e:H p=Dn (.lst xs))(r:bA K H μ ws xs):Zh K H (μ.unhide p) (.lst ws) (.ref p):=⟨p,xs,rfl,⟨e,(R.hd p hp).2,λz=>z.1 rfl⟩,bA.ex Ex0.unhide r⟩
end
abbrev Sw:=List (Option W)
abbrev WK:=W->Gh->Prop
abbrev ME:=Sw->Gh->WK->Prop
abbrev MT:=Sw->Gh->(Bool->Gh->Prop)->Prop
abbrev MA:=Sw->Gh->(List W->Gh->Prop)->Prop
structure cH where
 nx:Sw->Gh->Prop
 rt:WK
 bk:Sw->Gh->Prop:=λ_ _=>False
 ct:Sw->Gh->Prop:=λ_ _=>False
abbrev MS:=cH->Sw->Gh->Prop
abbrev MG:=W->Sw->Gh->(Sw->Gh->Prop)->Prop
abbrev MN:=List W->Sw->Gh->(Sw->Gh->Prop)->Prop
structure Xw where
 cls:Str
 fs:List (Str×W)
abbrev Ba:=Xw->Gh->Prop
abbrev AP:=List W->Gh->WK->Ba->Prop
def EF:Ba:=λ_ _=>False
structure Slots (K:Zf) (H:Hp) (μ:Mu) (Uw:Sw) (U:St):Prop where
 len:Uw.length=U.length
 get:∀(i:Nat) (w:W),Uw[i]?=Dn (Dn w)->∃v,U[i]?=Dn (Dn v)/\Zh K H μ w v
inductive DQ (K:Zf) (H:Hp) (μ:Mu) (Q:WK) (v:V) (H':Hp):Prop where
 | mk (μ':Mu) (w:W) (h':Gh) (e:DR K H μ H' μ') (R:Ax K μ' H' h') (r:Zh K H' μ' w v) (q:Q w h'):DQ K H μ Q v H'
inductive DB (K:Zf) (H:Hp) (μ:Mu) (Q:Bool->Gh->Prop) (b:Bool) (H':Hp):Prop where
 | mk (μ':Mu) (h':Gh) (e:DR K H μ H' μ') (R:Ax K μ' H' h') (q:Q b h'):DB K H μ Q b H'
inductive DA (K:Zf) (H:Hp) (μ:Mu) (Q:List W->Gh->Prop) (vs:List V) (H':Hp):Prop where
 | mk (μ':Mu) (ws:List W) (h':Gh) (e:DR K H μ H' μ') (R:Ax K μ' H' h') (r:bA K H' μ' ws vs) (q:Q ws h'):DA K H μ Q vs H'
inductive DN (K:Zf) (H:Hp) (μ:Mu) (N:Sw->Gh->Prop) (U':St) (H':Hp):Prop where
 | mk (μ':Mu) (Uw':Sw) (h':Gh) (e:DR K H μ H' μ') (R:Ax K μ' H' h') (S:Slots K H' μ' Uw' U') (q:N Uw' h'):DN K H μ N U' H'
section
variable {K:Zf}{H H' H1 H2:Hp}{μ2:Mu}{h h' h1:Gh}{w:W}{v:V}{U:St}{Uw:Sw}
theorem Slots.ext (S:Slots K H μ Uw U)(e:DR K H μ H' μ'):Slots K H' μ' Uw U:=⟨S.len,λi w q=>let⟨v,a,b⟩:=S.get i w q;⟨v,a,e.r _ _ b⟩⟩
theorem Slots.set (S:Slots K H μ Uw U)(r:Zh K H μ w v)(i:Nat):Slots K H μ (Uw.set i (Dn w)) (U.set i (Dn v)):=by
 refine⟨by rw[List.length_set,List.length_set,S.len],λj u q=>?_⟩;rw[List.getElem?_set]at q|-
 by_cases hij:i=j
 rw[if_pos hij]at q|-
 by_cases hl:i < Uw.length
 rw[if_pos hl]at q;rw[if_pos (S.len ▸ hl)];grind
 grind
 rw[if_neg hij]at q|-
 exact S.get j u q
theorem DQ.trans {Q:WK}(e:DR K H μ H1 μ1)(q:DQ K H1 μ1 Q v H'):DQ K H μ Q v H':=let⟨μ',w,h',a,b,c,d⟩:=q;⟨μ',w,h',e.trans a,b,c,d⟩
theorem DB.trans {Q:Bool->Gh->Prop}{b:Bool}(e:DR K H μ H1 μ1)(q:DB K H1 μ1 Q b H'):DB K H μ Q b H':=let⟨μ',h',a,b,c⟩:=q;⟨μ',h',e.trans a,b,c⟩
theorem DN.trans {N:Sw->Gh->Prop}{U':St}(e:DR K H μ H1 μ1)(q:DN K H1 μ1 N U' H'):DN K H μ N U' H':=let⟨μ',w,h',a,b,c,d⟩:=q;⟨μ',w,h',e.trans a,b,c,d⟩
end
variable {Uw:Sw}
inductive tD (K:Zf) (m:ME) (U:St) (H:Hp) (Q:VK):Prop where
 | mk (μ:Mu) (h:Gh) (Uw:Sw) (Qw:WK) (R:Ax K μ H h) (S:Slots K H μ Uw U) (x:m Uw h Qw) (k:∀v H',DQ K H μ Qw v H'->Q v H'):tD K m U H Q
inductive tDT (K:Zf) (m:MT) (U:St) (H:Hp) (Q:Bool->Hp->Prop):Prop where
 | mk (μ:Mu) (h:Gh) (Uw:Sw) (Qw:Bool->Gh->Prop) (R:Ax K μ H h) (S:Slots K H μ Uw U) (x:m Uw h Qw) (k:∀b H',DB K H μ Qw b H'->Q b H'):tDT K m U H Q
inductive tDA (K:Zf) (m:MA) (U:St) (H:Hp) (Q:List V->Hp->Prop):Prop where
 | mk (μ:Mu) (h:Gh) (Uw:Sw) (Qw:List W->Gh->Prop) (R:Ax K μ H h) (S:Slots K H μ Uw U) (x:m Uw h Qw) (k:∀vs H',DA K H μ Qw vs H'->Q vs H'):tDA K m U H Q
inductive tDG (K:Zf) (g:MG) (v:V) (U:St) (H:Hp) (N:St->Hp->Prop):Prop where
 | mk (μ:Mu) (h:Gh) (Uw:Sw) (w:W) (Nw:Sw->Gh->Prop) (R:Ax K μ H h) (S:Slots K H μ Uw U) (r:Zh K H μ w v) (x:g w Uw h Nw) (k:∀U' H',DN K H μ Nw U' H'->N U' H'):tDG K g v U H N
inductive Zc (K:Zf) (g:MN) (vs:List V) (U:St) (H:Hp) (N:St->Hp->Prop):Prop where
 | mk (μ:Mu) (h:Gh) (Uw:Sw) (ws:List W) (Nw:Sw->Gh->Prop) (R:Ax K μ H h) (S:Slots K H μ Uw U) (r:bA K H μ ws vs) (x:g ws Uw h Nw) (k:∀U' H',DN K H μ Nw U' H'->N U' H'):Zc K g vs U H N
structure vo (K:Zf) (H:Hp) (μ:Mu) (Dw:cH) (D:Ends):Prop where
 nx:∀U' H',DN K H μ Dw.nx U' H'->D.nx U' H'
 rt:∀v H',DQ K H μ Dw.rt v H'->D.rt v H'
 bk:∀U' H',DN K H μ Dw.bk U' H'->D.bk U' H'
 ct:∀U' H',DN K H μ Dw.ct U' H'->D.ct U' H'
inductive tDS (K:Zf) (m:MS) (D:Ends) (U:St) (H:Hp):Prop where
 | mk (μ:Mu) (h:Gh) (Uw:Sw) (Dw:cH) (R:Ax K μ H h) (S:Slots K H μ Uw U) (x:m Dw Uw h) (k:vo K H μ Dw D):tDS K m D U H
theorem vo.trans {K:Zf}{H H1:Hp}{μ μ1:Mu}{Dw:cH}{D:Ends}(k:vo K H μ Dw D)(e:DR K H μ H1 μ1):vo K H1 μ1 Dw D:=
 ⟨λ_ _ q=>k.nx _ _ (q.trans e),λ_ _ q=>k.rt _ _ (q.trans e),λ_ _ q=>k.bk _ _ (q.trans e),λ_ _ q=>k.ct _ _ (q.trans e)⟩
section
variable {X:Cx}{e:Expr}{es:List Expr}{st:Stmt}{sts:List Stmt}
theorem PE.of {t t':TE}(h:PE X e t)(k:∀U H Q,t' U H Q->t U H Q):PE X e t':=λafn s U H Q I q=>h afn s U H Q I (k U H Q q)
theorem PT.of {t t':TT}(h:PT X e t)(k:∀U H Q,t' U H Q->t U H Q):PT X e t':=λafn s U H Q I q=>h afn s U H Q I (k U H Q q)
theorem PW.of {t t':TT}(h:PW X e t)(k:∀U H Q,t' U H Q->t U H Q):PW X e t':=λwh afn s U H Q I q=>h wh afn s U H Q I (k U H Q q)
theorem PA.of {t t':TA}(h:PA X es t)(k:∀U H Q,t' U H Q->t U H Q):PA X es t':=λpos afn s U H Q I q=>h pos afn s U H Q I (k U H Q q)
theorem PG.of {t t':TG}(h:PG X e t)(k:∀v U H Q,t' v U H Q->t v U H Q):PG X e t':=λafn s U H v u Q I r q=>h afn s U H v u Q I r (k v U H Q q)
theorem Oj.of {t t':Nz}(h:Oj X es t)(k:∀v U H Q,t' v U H Q->t v U H Q):Oj X es t':=λafn s U H v u Q I r q=>h afn s U H v u Q I r (k v U H Q q)
theorem PS.of {t t':TS}(h:PS X st t)(k:∀D U H,t' D U H->t D U H):PS X st t':=λafn s U H D I q=>h afn s U H D I (k D U H q)
theorem LI.of {t t':TS}(h:LI X sts t)(k:∀D U H,t' D U H->t D U H):LI X sts t':=λafn s U H D I q=>h afn s U H D I (k D U H q)
end
abbrev DE (X:Cx)(e:Expr)(m:ME):Prop:=PE X e (tD X.K m)
abbrev DT (X:Cx)(e:Expr)(m:MT):Prop:=PT X e (tDT X.K m)
abbrev DWt (X:Cx)(e:Expr)(m:MT):Prop:=PW X e (tDT X.K m)
abbrev Gn (X:Cx)(es:List Expr)(m:MA):Prop:=PA X es (tDA X.K m)
abbrev DG (X:Cx)(e:Expr)(m:MG):Prop:=PG X e (tDG X.K m)
abbrev VH (X:Cx)(es:List Expr)(m:MN):Prop:=Oj X es (Zc X.K m)
abbrev DS (X:Cx)(st:Stmt)(m:MS):Prop:=PS X st (tDS X.K m)
abbrev Oo (X:Cx)(st:List Stmt)(m:MS):Prop:=LI X st (tDS X.K m)
section
variable {X:Cx}{e a b c:Expr}{ma mb mc:ME}{pos:Pos}
def aG (i:Nat):ME:=λU h Q=>match U[i]? with
 | some (Dn w)=>Q w h
 | _=>False
def mC (w:W):ME:=λ_ h Q=>Q w h
theorem dv (i:Nat)(he:PE X e (W0 i)):DE X e (aG i):=he.of λU H Q ⟨μ,h,Uw,Qw,R,S,m,k⟩=>by
 unfold aG at m;cases q:Uw[i]? with
 | none=>rw[q]at m;exact m.elim
 | some o=>
  rw[q]at m;cases o with
  | none=>cases m
  | some w=>
   obtain⟨v,h1,h2⟩:=S.get i w q;exact⟨v,h1,k _ _ ⟨μ,w,h,.refl,R,h2,m⟩⟩
theorem dc {w:W}{v:V}(he:PE X e (tC v))(r:∀H μ,Zh X.K H μ w v):DE X e (mC w):=he.of λU H Q ⟨μ,h,Uw,Qw,R,S,m,k⟩=>k _ _ ⟨μ,w,h,.refl,R,r H μ,m⟩
theorem aJ {i:Int}{j pos}:DE X (.Constant (.int i) j pos) (mC (.int i)):=dc Vb λ_ _=>by rw[Zh]
theorem yQ {i:Bool}{j pos}:DE X (.Constant (.bool i) j pos) (mC (.bl i)):=dc XQ λ_ _=>by rw[Zh]
theorem Rb {j pos}:DE X (.Constant .none j pos) (mC .non):=dc acU λ_ _=>by rw[Zh]
theorem aP {i:Str}{j pos}:DE X (.Constant (.str i) j pos) (mC (.str i)):=dc JM λ_ _=>by rw[Zh]
abbrev M2:=W->W->Gh->WK->Prop
def Y7 (r:M2)(ma mb:ME):ME:=λU h Q=>ma U h λx h1=>mb U h1 λy h2=>r x y h2 Q
def Wg (K:Zf)(r:R2)(mr:M2):Prop:=∀{H:Hp}{μ:Mu}{h:Gh}{x y:V}{wx wy:W}{Qw:WK}{Q:VK},Ax K μ H h->Zh K H μ wx x->Zh K H μ wy y->mr wx wy h Qw ->
 (∀v H',DQ K H μ Qw v H'->Q v H')->r x y H Q
theorem two {K:Zf}{U:St}{H:Hp}{Q:VK}{mr:M2}{R2':V->V->Hp->Prop}(h:tD K (Y7 mr ma mb) U H Q)
  (k:∀{H2:Hp}{μ2:Mu}{h2:Gh}{x y:V}{wx wy:W}{Qw:WK},Ax K μ2 H2 h2->Zh K H2 μ2 wx x->Zh K H2 μ2 wy y->mr wx wy h2 Qw->(∀v H',DQ K H2 μ2 Qw v H'->Q v H')->R2' x y H2) :
  tD K ma U H λx H1=>tD K mb U H1 λy H2=>R2' x y H2:=by
 obtain⟨μ,g,Uw,Qw,R,S,m,q⟩:=h;exact⟨μ,g,Uw,_,R,S,m,λx H1 ⟨μ1,wx,h1,e1,R1,r1,m1⟩=>⟨μ1,h1,Uw,_,R1,S.ext e1,m1,λy H2 ⟨μ2,wy,h2,e2,R2,r2,m2⟩=>(k R2 (e2.r _ _ r1) r2 m2 λv H' z=>q _ _<|(z.trans e2).trans e1)⟩⟩
def Hf (X:Cx)(f:JI->JI->Sem JI)(mr:M2):Prop:=∃r,G4 X f r/\Wg X.K r mr
theorem cu {op:Operator}{mr:M2}(ho:Hf X (Hx op) mr)(ha:DE X a ma)(hb:DE X b mb):DE X (.BinOp a op b pos) (Y7 mr ma mb):=by
 obtain⟨r,o,s⟩:=ho;exact(Wb o ha hb).of λU H Q h=>two h λR r1 r2 m k=>s R r1 r2 m k
theorem BW {op:CmpOp}{mr:M2}(ho:Hf X (HB op) mr)(ha:DE X a ma)(hb:DE X b mb)(hm:Rr op b=false):DE X (.Compare a [op] [b] pos) (Y7 mr ma mb):=by
 obtain⟨r,o,s⟩:=ho;exact(zbM o ha hb hm).of λU H Q h=>two h λR r1 r2 m k=>s R r1 r2 m k
def cJ (m:ME):MT:=λU h Q=>m U h λw h1=>match w with
 | .bl c=>Q c h1
 | _=>False
theorem acD {K:Zf}{U:St}{H:Hp}{m:ME}{Q:Bool->Hp->Prop}(h:tDT K (cJ m) U H Q):tD K m U H λx H'=>∃k,x=.bl k/\Q k H':=by
 obtain⟨μ,g,Uw,Qw,R,S,mm,q⟩:=h;refine⟨μ,g,Uw,_,R,S,mm,λv H' ⟨μ1,w,h1,e1,R1,r1,m1⟩=>?_⟩;cases w with
 | bl c=>rw[Zh]at r1;exact⟨c,r1,q _ _ ⟨μ1,h1,e1,R1,m1⟩⟩
 | _=>exact m1.elim
theorem bF {op:CmpOp}{mr:M2}(ho:Hf X (HB op) mr)(ha:DE X a ma)(hb:DE X b mb)(hm:Rr op b=false):DT X (.Compare a [op] [b] pos) (cJ (Y7 mr ma mb)):=by
 obtain⟨r,o,s⟩:=ho;exact(zbB o ha hb hm).of λU H Q h=>two (acD h) λR r1 r2 m k=>s R r1 r2 m k
def Ec (c:Bool)(a b:Prop):Prop:=match c with
 | true=>a
 | false=>b
def br (c:Bool)(a b:Prop):Prop:=(c=true->a)/\(c=false->b)
theorem V6 {c:Bool}{a b:Prop}(e:c=true)(x:a):br c a b:=⟨λ_=>x,λz=>by rw[e]at z;cases z⟩
theorem QM {c:Bool}{a b:Prop}(e:c=false)(x:b):br c a b:=⟨λz=>(by rw[e]at z;cases z),λ_=>x⟩
theorem lG {c:Prop}[Decidable c]{a b:Prop}(x:c->a)(y:¬c->b):br (decide c) a b:=⟨λe=>x (of_decide_eq_true e),λe=>y (of_decide_eq_false e)⟩
def aaq (t u:MT):MT:=λU h Q=>t U h λc h1=>br c (u U h1 Q) (Q false h1)
def M5 (t u:MT):MT:=λU h Q=>t U h λc h1=>br c (Q true h1) (u U h1 Q)
def Ao (t:MT):MT:=λU h Q=>t U h λc h1=>Q (!c) h1
variable {tA tB':MT}{rest:List Expr}
theorem qI (ha:DT X a tA):DWt X (.BoolOp .Or [a] pos) tA:=aeE ha
theorem oE (ha:DT X a tA)(hb:DWt X (.BoolOp .Or (b::rest) pos) tB'):DWt X (.BoolOp .Or (a::b::rest) pos) (M5 tA tB'):=(Xr ha hb).of λU H Q ⟨μ,g,Uw,Qw,R,S,m,q⟩=>by
 refine⟨μ,g,Uw,_,R,S,m,λc H1 ⟨μ1,h1,e1,R1,m1⟩=>?_⟩;cases c with
 | true=>
  exact q _ _ ⟨μ1,h1,e1,R1,m1.1 rfl⟩
 | false=>
  exact⟨μ1,h1,Uw,_,R1,S.ext e1,m1.2 rfl,λb H' z=>q _ _<|z.trans e1⟩
theorem jw (ha:DT X a tA):DT X (.UnaryOp .Not a pos) (Ao tA):=(acq ha).of λU H Q ⟨μ,g,Uw,Qw,R,S,m,q⟩=>
 ⟨μ,g,Uw,_,R,S,m,λc H1 ⟨μ1,h1,e1,R1,m1⟩=>q _ _ ⟨μ1,h1,e1,R1,m1⟩⟩
def u6 (a b:ME):ME:=λU h Q=>a U h λx h1=>match x with
 | .bl true=>b U h1 Q
 | .bl false=>Q (.bl false) h1
 | _=>False
def aal (a b:ME):ME:=λU h Q=>a U h λx h1=>match x with
 | .bl false=>b U h1 Q
 | .bl true=>Q (.bl true) h1
 | _=>False
def LK (a:ME):ME:=λU h Q=>a U h λx h1=>match x with
 | .bl c=>Q (.bl (!c)) h1
 | _=>False
theorem Qj {op}(h:DE X a ma):DE X (.BoolOp op [a] pos) ma:=acR h
theorem Fi (ha:DE X a ma)(hb:DE X (.BoolOp .And (b::rest) pos) mb):DE X (.BoolOp .And (a::b::rest) pos) (u6 ma mb):=(Vt ha hb).of λU H Q ⟨μ,g,Uw,Qw,R,S,m,q⟩=>by
 refine⟨μ,g,Uw,_,R,S,m,λv H1 ⟨μ1,w,h1,e1,R1,r1,m1⟩=>?_⟩;cases w with
 | bl c=>
  refine⟨c,r1,?_⟩;cases c with
  | true=>rw[if_pos rfl];exact⟨μ1,h1,Uw,_,R1,S.ext e1,m1,λb H' z=>q _ _ (z.trans e1)⟩
  | false=>rw[if_neg Jm];exact q _ _ ⟨μ1,.bl false,h1,e1,R1,by rw[Zh],m1⟩
 | _=>exact m1.elim
theorem Xh (ha:DE X a ma):DE X (.UnaryOp .Not a pos) (LK ma):=(acy ha).of λU H Q ⟨μ,g,Uw,Qw,R,S,m,q⟩=>by
 refine⟨μ,g,Uw,_,R,S,m,λv H1 ⟨μ1,w,h1,e1,R1,r1,m1⟩=>?_⟩;cases w with
 | bl c=>rw[Zh]at r1;exact⟨c,r1,q _ _ ⟨μ1,.bl (!c),h1,e1,R1,by rw[Zh],m1⟩⟩
 | _=>exact m1.elim
def mIf (t:MT)(a b:ME):ME:=λU h Q=>t U h λc h1=>br c (a U h1 Q) (b U h1 Q)
def Ow (r:W->Gh->WK->Prop)(a:ME):ME:=λU h Q=>a U h λx h1=>r x h1 Q
def Jx:W->Gh->WK->Prop:=λx h Q=>match x with
 | .int i=>Q (.int (-i)) h
 | _=>False
theorem wg (ha:DE X a ma):DE X (.UnaryOp .USub a pos) (Ow Jx ma):=(W9 adY ha).of λU H Q ⟨μ,g,Uw,Qw,R,S,m,q⟩=>by
 refine⟨μ,g,Uw,_,R,S,m,λv H1 ⟨μ1,w,h1,e1,R1,r1,m1⟩=>?_⟩;cases w with
 | int i=>rw[Zh]at r1;exact⟨i,r1,q _ _ ⟨μ1,.int (-i),h1,e1,R1,by rw[Zh],m1⟩⟩
 | _=>exact m1.elim
def aN:MA:=λ_ h Q=>Q [] h
def aA (a:ME)(r:MA):MA:=λU h Q=>a U h λx h1=>r U h1 λxs h2=>Q (x::xs) h2
variable {es:List Expr}{mr:MA}
theorem aq:Gn X [] aN:=uE.of λU H Q ⟨μ,g,Uw,Qw,R,S,m,q⟩=>q _ _ ⟨μ,[],g,.refl,R,.nil,m⟩
theorem ak (ha:DE X e ma)(hr:Gn X es mr)(hs:Al (e::es) X.env=(false,eval e X.env)::Al es X.env:=by rfl):Gn X (e::es) (aA ma mr):=(jj ha hr hs).of λU H Q ⟨μ,g,Uw,Qw,R,S,m,q⟩=>⟨μ,g,Uw,_,R,S,m,λv H1 ⟨μ1,w,h1,e1,R1,r1,m1⟩=>⟨μ1,h1,Uw,_,R1,S.ext e1,m1,λvs H2 ⟨μ2,ws,h2,e2,R2,r2,m2⟩=>(q _ _ ⟨μ2,w::ws,h2,e1.trans e2,R2,.cons (e2.r _ _ r1) r2,m2⟩)⟩⟩
def jN (n:Nat)(P:Prop):Prop:=Ec (Nat.ble n 1000) P (n<=Bh/\P)
theorem jN.ok {n:Nat}{P:Prop}(h:jN n P):n<=Bh/\P:=by
 unfold jN at h;cases e:Nat.ble n 1000 with
 | true=>rw[e]at h;exact⟨Dp (Ho e) (by decide),h⟩
 | false=>rw[e]at h;exact h
theorem jN.mk {n:Nat}{P:Prop}(hn:n<=Bh)(h:P):jN n P:=by
 unfold jN;cases e:Nat.ble n 1000 with
 | true=>exact h
 | false=>exact⟨hn,h⟩
def kZ (t:MA):ME:=λU h Q=>t U h λws h1=>jN ws.length (Q (.tup ws) h1)
def gj (t:MA):ME:=λU h Q=>t U h λws h1=>jN ws.length (Q (.lst ws) h1)
def jJ (t:MA):ME:=λU h Q=>t U h λws h1=>jN ws.length (Q (.loc h1.nx) (h1.new (.lst ws)))
theorem cG {x1}(h:Gn X es mr):DE X (.Tuple es x1 pos) (kZ mr):=(K1 h).of λU H Q ⟨μ,g,Uw,Qw,R,S,m,q⟩=>
 ⟨μ,g,Uw,_,R,S,m,λvs H1 ⟨μ1,ws,h1,e1,R1,r1,sz⟩=>⟨r1.len ▸ sz.ok.1,λp hp=>q _ _ ⟨μ1,.tup ws,h1,e1.trans (Ex.laid hp).ext,R1.laid hp,.tupNew hp r1,sz.ok.2⟩⟩⟩
theorem cA (h:Gn X es mr):DE X (.List es pos) (gj mr):=(Lb h).of λU H Q ⟨μ,g,Uw,Qw,R,S,m,q⟩=>
 ⟨μ,g,Uw,_,R,S,m,λvs H1 ⟨μ1,ws,h1,e1,R1,r1,sz⟩=>⟨r1.len ▸ sz.ok.1,λp hp=>q _ _ ⟨μ1,.lst ws,h1,e1.trans (Ex.laid hp).ext,R1.laid hp,.lstNew R1 hp r1,sz.ok.2⟩⟩⟩
theorem Ed {K:Zf}{H:Hp}{h:Gh}{p:Addr}{xs:List V}(R:Ax K μ H h)(hp:H p=Go)(r:bA K H μ ws xs):
  Ax K (μ.put h.nx p) (CN H p (.lst xs)) (h.new (.lst ws)):=R.newCell hp trivial ⟨xs,bM,(Ex.newCell R hp).ext.s r⟩
theorem gG (h:Gn X es mr):DE X (.List es pos) (jJ mr):=(Lb h).of λU H Q ⟨μ,g,Uw,Qw,R,S,m,q⟩=>
 ⟨μ,g,Uw,_,R,S,m,λvs H1 ⟨μ1,ws,h1,e1,R1,r1,sz⟩=>⟨r1.len ▸ sz.ok.1,λp hp=>q _ _ ⟨μ1.put _ p,.loc _,h1.new _,e1.trans (Ex.newCell R1 hp).ext,Ed R1 hp r1,⟨p,rfl,Mu.put_same⟩,sz.ok.2⟩⟩⟩
inductive lift (K:Zf) (ms:AP) (vs:List V) (H:Hp) (Q:VK) (E:XK):Prop where
 | mk (μ:Mu) (h:Gh) (ws:List W) (Qw:WK) (R:Ax K μ H h) (r:bA K H μ ws vs) (x:ms ws h Qw EF) (k:∀v H',DQ K H μ Qw v H'->Q v H'):lift K ms vs H Q E
def bN (ms:AP)(E:Ba)(ma:MA):ME:=λU h Q=>ma U h λws h1=>ms ws h1 Q E
theorem call_of {K:Zf}{U:St}{H:Hp}{Q:VK}{E:XK}{ms:AP}{ma:MA}(h:tD K (bN ms EF ma) U H Q):Np (lift K ms) [] E (tDA K ma) U H Q:=by
 obtain⟨μ,g,Uw,Qw,R,S,m,q⟩:=h;refine⟨μ,g,Uw,_,R,S,m,λvs H1 ⟨μ1,ws,h1,e1,R1,r1,m1⟩=>?_⟩;rw[RD];exact⟨μ1,h1,ws,Qw,R1,r1,m1,λv H' z=>q _ _<|z.trans e1⟩
theorem aZ {k:Nat}{f:Addr}{fd:DW}{ps:List Str}{ms:AP}{x:Str}{p:Pos}(F:eY X.prog X.w X.K X.mg X.base Fl k f fd ps (lift X.K ms))(hr:lg k X.A)(hg:Gl X x)(hm:X.mg x=Dn (.ref f))(hk:Nv X.K (.ref f)=true)
  (hb:Binds X.K fd ps []) (ha:Gn X (e::es) mr) (hdb:(x==("__debug__" : Str))=false:=by decide) (he:Al (e::es) X.env=(false,eval e X.env)::Al es X.env:=by rfl) (hpl:(Ef pos (Al es X.env)).any (·.1)=false:=by rfl) :
  DE X (.Call (.Name x p) (e::es) [] pos) (bN ms EF mr):=(zbE F hr hg hm hk hb .nil Ug ha hdb he hpl).of λ_ _ _ h=>call_of h
theorem acs {k:Nat}{f:Addr}{fd:DW}{ps:List Str}{ms:AP}{x:Str}{p:Pos}(F:eY X.prog X.w X.K X.mg X.base Fl k f fd ps (lift X.K ms))(hr:lg k X.A)(hg:Gl X x)(hm:X.mg x=Dn (.ref f))(hk:Nv X.K (.ref f)=true)
  (hb:Binds X.K fd ps []) (hdb:(x==("__debug__" : Str))=false:=by decide):DE X (.Call (.Name x p) [] [] pos) (bN ms EF aN):=(zaM F hr hg hm hk hb .nil Ug hdb).of λU H Q ⟨μ,g,Uw,Qw,R,S,m,q⟩=>
 ⟨μ,g,[],Qw,R,.nil,m,q⟩
def V1 (h:Gh)(w:W):Option Bool:=match w with
 | .non=>Dn false
 | .bl b=>Dn b
 | .int i=>Dn (i != 0)
 | .tup ws=>Dn (!ws.isEmpty)
 | .lst ws=>Dn (!ws.isEmpty)
 | .kls ws=>Dn (!ws.isEmpty)
 | .loc n=>(match h.c n with
  | some (.lst ws)=>Dn (!ws.isEmpty)
  | _=>Go)
 | _=>Go
def wJ (m:ME):MT:=λU h Q=>m U h λw h1=>match V1 h1 w with
 | some b=>Q b h1
 | none=>False
theorem bA.emp {K:Zf}{H:Hp}{xs:List V}(r:bA K H μ ws xs):ws.isEmpty=xs.isEmpty:=by
 have:=r.len
 cases ws<;>cases xs<;>first|rfl|cases this
theorem iC (he:DE X e ma)(h:∀whole,isTrue e X.env whole=(do let v <-whole;standAt e.pos;holding [v] (truthy v)):=by intro _;rfl):DT X e (wJ ma):=(abX he h).of λU H Q ⟨μ,g,Uw,Qw,R,S,m,q⟩=>by
 refine⟨μ,g,Uw,_,R,S,m,λv H1 ⟨μ1,w,h1,e1,R1,r1,m1⟩=>?_⟩;split at m1
 rename_i b eb;refine⟨b,?_,q _ _ ⟨μ1,h1,e1,R1,m1⟩⟩;cases w with
 | non|bl c|int c=>rw[Zh]at r1;subst r1;cases eb;rfl
 | tup ws=>
  obtain⟨p,xs,ev,hs,rs⟩:=r1;subst ev;cases eb;exact .inr<|.inl ⟨xs,hs,by rw[rs.emp]⟩
 | lst ws|kls ws=>
  obtain⟨p,xs,ev,hs,rs⟩:=r1;subst ev;cases eb;exact .inl ⟨xs,hs.sq,by rw[rs.emp]⟩
 | loc n=>
  obtain⟨p,ev,hm⟩:=r1;subst ev;unfold V1 at eb;dsimp only at eb;cases ec:h1.c n with
  | none=>rw[ec]at eb;cases eb
  | some cl=>
   rw[ec]at eb;cases cl with
   | lst ws=>
    cases eb;obtain⟨p',hm',xs,hx,rs⟩:=R1.cel n _ ec;cases by rw[hm]at hm';exact(Ge hm').symm
    exact .inl ⟨xs,.of hx,by rw[rs.emp]⟩
   | _=>cases eb
 | _=>cases eb
 cases m1
abbrev MC:=List W->Gh->WK->Prop
def CZ (r:MC)(ma:MA):ME:=λU h Q=>ma U h λws h1=>r ws h1 Q
def Zi (K:Zf)(r:List V->Hp->VK->Prop)(mr:MC):Prop:=∀{H:Hp}{μ:Mu}{h:Gh}{vs:List V}{ws:List W}{Qw:WK}{Q:VK},Ax K μ H h->bA K H μ ws vs->mr ws h Qw->(∀v H',DQ K H μ Qw v H'->Q v H')->r vs H Q
def nY (X:Cx)(f:JI)(mr:MC):Prop:=∃r,gJ X f r/\Zi X.K r mr
theorem Sg {K:Zf}{U:St}{H:Hp}{Q:VK}{r:List V->Hp->VK->Prop}{mc:MC}{ma:MA}(s:Zi K r mc)(h:tD K (CZ mc ma) U H Q):tCB r (tDA K ma) U H Q:=by
 obtain⟨μ,g,Uw,Qw,R,S,m,q⟩:=h;exact⟨μ,g,Uw,_,R,S,m,λvs H1 ⟨μ1,ws,h1,e1,R1,r1,m1⟩=>s R1 r1 m1 λv H' z=>q _ _<|z.trans e1⟩
theorem aQ {x:Str}{p:Pos}{id:String}{mc:MC}(hc:nY X (.builtin id) mc)(hg:Gl X x)(hm:X.mg x=Go)(hv:P0 x=Dn (.builtin id))(ha:Gn X (e::es) mr)(hn:x ≠ "__name__":=by decide)(hdb:(x==("__debug__" : Str))=false:=by decide)
  (he:Al (e::es) X.env=(false,eval e X.env)::Al es X.env:=by rfl) (hpl:(Ef pos (Al es X.env)).any (·.1)=false:=by rfl):DE X (.Call (.Name x p) (e::es) [] pos) (CZ mc mr):=by
 obtain⟨r,c,s⟩:=hc;exact(tB c hg hm hv ha hn hdb he hpl).of λ_ _ _ h=>Sg s h
theorem jE {x:Str}{p:Pos}{T:String}{mc:MC}(hc:nY X (.type T) mc)(hg:Gl X x)(hm:X.mg x=Go)(hv:P0 x=Dn (.type T))(ha:Gn X (e::es) mr)(hn:x ≠ "__name__":=by decide)(hdb:(x==("__debug__" : Str))=false:=by decide)
  (he:Al (e::es) X.env=(false,eval e X.env)::Al es X.env:=by rfl) (hpl:(Ef pos (Al es X.env)).any (·.1)=false:=by rfl):DE X (.Call (.Name x p) (e::es) [] pos) (CZ mc mr):=by
 obtain⟨r,c,s⟩:=hc;exact(vG c hg hm hv ha hn hdb he hpl).of λ_ _ _ h=>Sg s h
end
variable {mr:MA}{ma:ME}{ms:AP}
section
variable {X:Cx}{e a b c tg:Expr}{mb mc:ME}{pos:Pos}{es:List Expr}
def YM (i:Nat):MG:=λw U h N=>N (U.set i (Dn w)) h
theorem gY {i:Nat}(hg:PG X e (Cy i)):DG X e (YM i):=hg.of λv U H N ⟨μ,h,Uw,w,Nw,R,S,r,m,k⟩=>k _ _ ⟨μ,Uw.set i _,h,.refl,R,S.set r i,m⟩
def V7:MN:=λws U h N=>match ws with
 | []=>N U h
 | _=>False
def Aa (g:MG)(r:MN):MN:=λws U h N=>match ws with
 | w::ws'=>g w U h λU1 h1=>r ws' U1 h1 N
 | []=>False
theorem Bt:VH X [] V7:=Ep.of λvs U H N ⟨μ,h,Uw,ws,Nw,R,S,r,m,k⟩=>by
 cases ws with
 | nil=>rw[bA]at r;exact⟨r,k _ _ ⟨μ,Uw,h,.refl,R,S,m⟩⟩
 | cons w ws=>cases m
theorem oR {g:MG}{u:MN}(h1:DG X e g)(h2:VH X es u)(hs:(Hz (e::es) X.env).map (·.2)=assign e X.env::(Hz es X.env).map (·.2):=by rfl):VH X (e::es) (Aa g u):=(tQ h1 h2 hs).of λvs U H N ⟨μ,h,Uw,ws,Nw,R,S,r,m,k⟩=>by
 cases ws with
 | nil=>cases m
 | cons w ws=>
  obtain⟨v,vr,ev,r1,r2⟩:=r;exact⟨v,vr,ev,μ,h,Uw,w,_,R,S,r1,m,λU1 H1 ⟨μ1,Uw1,h1,e1,R1,S1,m1⟩=>⟨μ1,h1,Uw1,ws,_,R1,S1,e1.s r2,m1,λU2 H2 z=>k _ _<|z.trans e1⟩⟩
def Yt (n:Nat)(g:MN):MG:=λw U h N=>match w with
 | .tup ws=>Ec (LR ws.length n) (g ws U h N) False
 | _=>False
abbrev UW:=W->W->W->Gh->(Gh->Prop)->Prop
def KH (K:Zf)(t:R9)(ms:UW):Prop:=∀{H:Hp}{μ:Mu}{h:Gh}{o i v:V}{wo wi w:W}{Nw:Gh->Prop}{N:Hp->Prop},Ax K μ H h->Zh K H μ wo o->Zh K H μ wi i->Zh K H μ w v->ms wo wi w h Nw ->
 (∀H',(∃μ' h',DR K H μ H' μ'/\Ax K μ' H' h'/\Nw h')->N H')->t o i v H N
def QV (mo mi:ME)(ms:UW):MG:=λw U h N=>mo U h λo h1=>mi U h1 λi h2=>ms o i w h2 λh3=>N U h3
theorem Dz {o i:Expr}{mo mi:ME}{t:R9}{ms:UW}(ho:DE X o mo)(hi:DE X i mi)(hs:Yh X t)(hm:KH X.K t ms)
  (ha:∀v,assign (.Subscript o i pos) X.env v=(do
   let ov <-holding [v] (eval o X.env)
   let iv <-holding [v,ov] (eval i X.env)
   standAt pos
   holding [v,ov,iv] (setItem ov iv v)
   release [v,ov,iv] []):=by intro _;rfl):DG X (.Subscript o i pos) (QV mo mi ms):=
 (Vp ho hi hs ha).of λv U H N ⟨μ,h,Uw,w,Nw,R,S,r,m,k⟩=>by
  refine⟨μ,h,Uw,_,R,S,m,λo H1 ⟨μ1,wo,h1,e1,R1,r1,m1⟩=>?_⟩;refine⟨μ1,h1,Uw,_,R1,S.ext e1,m1,λi H2 ⟨μ2,wi,h2,e2,R2,r2,m2⟩=>?_⟩;exact hm R2 (e2.r _ _ r1) r2 (e2.r _ _<|e1.r _ _ r) m2 λH3 ⟨μ3,h3,e3,R3,m3⟩=>(k _ _ ⟨μ3,Uw,h3,(e1.trans e2).trans e3,R3,S.ext<|(e1.trans e2).trans e3,m3⟩)
def wK:UW:=λo i w h N=>match o,i with
 | .loc n,.int k=>(match h.c n with
  | some (.lst ws)=>(match Jl ws.length k with
   | some j=>N (h.set n (.lst (ws.set j w)))
   | none=>False)
  | _=>False)
 | _,_=>False
theorem Ax.lstAt {K:Zf}{H:Hp}{h:Gh}{n:Nat}(R:Ax K μ H h)(e:h.c n=Dn (.lst ws)):∃p xs,μ.f n=Dn p/\H p=Dn (.lst xs)/\bA K H μ ws xs:=by
 obtain⟨p,e1,xs,e2,r⟩:=R.cel n _ e;grind
theorem sV {K:Zf}:KH K Rj wK:=by
 intro H μ h o i v wo wi w Nw N R ro ri r m k;cases wo with
 | loc n=>
  cases wi with
  | int z=>
   obtain⟨p,eo,hp⟩:=ro;unfold wK at m;dsimp only at m;cases ec:h.c n with
   | none=>rw[ec]at m;cases m
   | some cl=>
    rw[ec]at m;cases cl with
    | lst ws=>
     dsimp only at m;obtain⟨p',xs,hp',hx,rs⟩:=R.lstAt ec;obtain rfl:=by rw[hp]at hp';exact(Ge hp').symm
     cases ej:Jl _ z with
     | none=>rw[ej]at m;exact m.elim
     | some j=>
      rw[ej]at m;refine⟨p',xs,z,j,eo,ri,hx,rs.len ▸ ej,k _ ⟨μ,_,(Ex.write R hp).ext,R.write hp trivial ?_,m⟩⟩;exact⟨_,bM,bA.set ((Ex.write R hp).ext.r _ _ r) j<|(Ex.write R hp).ext.s rs⟩
    | _=>cases m
  | _=>exact m.elim
 | _=>exact m.elim
variable {st:Stmt}{rest body:List Stmt}{m1 m2:MS}{t:MT}
def dJ:MS:=λD U h=>D.nx U h
def bU (m u:MS):MS:=λD U h=>m {D with nx:=u D} U h
theorem bG:Oo X [] dJ:=aci.of λD U H ⟨μ,h,Uw,Dw,R,S,m,k⟩=>k.nx _ _ ⟨μ,Uw,h,.refl,R,S,m⟩
theorem aM (h1:DS X st m1):Oo X [st] m1:=Cr h1
theorem aD (h1:DS X st m1)(h2:Oo X rest m2):Oo X (st::rest) (bU m1 m2):=(yW h1 h2).of λD U H ⟨μ,h,Uw,Dw,R,S,m,k⟩=>by
 refine⟨μ,h,Uw,_,R,S,m,?_,k.rt,k.bk,k.ct⟩;intro U' H' ⟨μ1,Uw1,h1,e1,R1,S1,m1⟩;exact⟨μ1,h1,Uw1,Dw,R1,S1,m1,k.trans e1⟩
def mY (m:ME):MS:=λD U h=>m U h λ_ h1=>D.nx U h1
theorem iy (he:DE X e ma)(hs:Pu e Go pos.line X.env=pure false:=by rfl):DS X (.Expr e pos) (mY ma):=(Gb he hs).of λD U H ⟨μ,h,Uw,Dw,R,S,m,k⟩=>
 ⟨μ,h,Uw,_,R,S,m,λv H1 ⟨μ1,w,h1,e1,R1,_,m1⟩=>k.nx _ _ ⟨μ1,Uw,h1,e1,R1,S.ext e1,m1⟩⟩
def fD (m:ME):MS:=λD U h=>m U h D.rt
theorem bI (he:DE X e ma):DS X (.Return (Dn e) pos) (fD ma):=(aex he).of λD U H ⟨μ,h,Uw,Dw,R,S,m,k⟩=>⟨μ,h,Uw,_,R,S,m,k.rt⟩
def jx (t:MT)(a b:MS):MS:=λD U h=>t U h λc h1=>br c (a D U h1) (b D U h1)
theorem dI {a b:List Stmt}(hc:DT X c t)(ha:Oo X a m1)(hb:Oo X b m2):DS X (.If c a b pos) (jx t m1 m2):=(T4 hc ha hb).of λD U H ⟨μ,h,Uw,Dw,R,S,m,k⟩=>by
 refine⟨μ,h,Uw,_,R,S,m,λb H1 ⟨μ1,h1,e1,R1,q⟩=>?_⟩;cases b with
 | true=>rw[if_pos rfl];exact⟨μ1,h1,Uw,Dw,R1,S.ext e1,q.1 rfl,k.trans e1⟩
 | false=>rw[if_neg Jm];exact⟨μ1,h1,Uw,Dw,R1,S.ext e1,q.2 rfl,k.trans e1⟩
def pL (x:Str)(E:Ba):MS:=λ_ _ h=>E ⟨x,[]⟩ h
def cY (m:ME)(g:MG):MS:=λD U h=>m U h λw h1=>g w U h1 D.nx
theorem Ve {K:Zf}{U:St}{H:Hp}{D:Ends}{m:ME}{g:MG}(q:tDS K (cY m g) D U H):Vu (tD K m) (tDG K g) D U H:=by
 obtain⟨μ,h,Uw,Dw,R,S,m,k⟩:=q;exact⟨μ,h,Uw,_,R,S,m,λv H1 ⟨μ1,w,h1,e1,R1,r1,m1⟩=>⟨μ1,h1,Uw,w,_,R1,S.ext e1,r1,m1,λU' H' z=>k.nx _ _<|z.trans e1⟩⟩
theorem yH {g:MG}(he:DE X e ma)(hg:DG X tg g)(hs:swapsWithSole [tg] e pos.line X.env=pure false:=by rfl)(hw:swappedStores [tg] e X.env=pure Go:=by rfl)
  (h1:(Hz [tg] X.env).map (·.2)=[assign tg X.env]:=by rfl):DS X (.Assign [tg] e pos) (cY ma g):=(Vr he hg hs hw h1).of λ_ _ _ q=>Ve q
theorem Kf {K:Zf}{U:St}{H:Hp}{D:Ends}{m:ME}{t:TE}{i:Nat}(ht:∀U H Q,tD K m U H Q->t U H Q)(q:tDS K (cY m (YM i)) D U H):Vu t (Cy i) D U H:=by
 obtain⟨μ,h,Uw,Dw,R,S,m,k⟩:=q;exact ht _ _ _ ⟨μ,h,Uw,_,R,S,m,λv H1 ⟨μ1,w,h1,e1,R1,r1,m1⟩=>k.nx _ _ ⟨μ1,Uw.set i _,h1,e1,R1,(S.ext e1).set r1 i,m1⟩⟩
theorem aR {i:Nat}{x:Str}{pos':Pos}(hN:X.N.Nodup)(hi:X.N[i]?=Dn x)(hx:Loc X.env.scope x)(he:DE X e ma)(hs:Pu e (Dn (.Name x pos')) pos.line X.env=pure false:=by rfl)
  (hf:X.fn x=true\/X.env.scope.names.lookup x=Dn .local:=by first|exact .inl rfl|exact .inr rfl|assumption) :
  DS X (.Assign [.Name x pos'] e pos) (cY ma (YM i)):=(JF hN hi hx he hs hf).of λ_ _ _ q=>Kf (λ_ _ _ z=>z) q
def aax (i j:Nat)(ta:MA):MS:=λD U h=>ta U h λws h1=>match ws with
 | [v,w]=>D.nx ((U.set i (Dn v)).set j (Dn w)) h1
 | _=>False
structure Src where
 ws:List W
 cell:Option (Nat×List W)
def Src.chk (s:Src)(h:Gh):Prop:=match s.cell with
 | none=>True
 | some n=>h.c n.1=Dn (.lst n.2)
abbrev MI:=Sw->Gh->(Src->Gh->Prop)->Prop
def Lr (K:Zf)(J:It)(src:Src)(H:Hp)(μ:Mu):Prop:=∀{H2:Hp}{μ2:Mu}{h2:Gh}{i:Nat},DR K H μ H2 μ2->Ax K μ2 H2 h2->src.chk h2 ->
 (∀w,src.ws[i]?=Dn w->J.go i H2/\∀x H3,J.yld i H2 x H3->∃μ3,DR K H2 μ2 H3 μ3/\Ax K μ3 H3 h2/\Zh K H3 μ3 w x)/\(src.ws.length<=i->J.stop i H2)
inductive DI (K:Zf) (H:Hp) (μ:Mu) (Rw:Src->Gh->Prop) (J:It) (H':Hp):Prop where
 | mk (μ':Mu) (src:Src) (h':Gh) (e:DR K H μ H' μ') (R:Ax K μ' H' h') (o:Lr K J src H' μ') (q:Rw src h'):DI K H μ Rw J H'
inductive tDI (K:Zf) (mi:MI) (U:St) (H:Hp) (R:It->Hp->Prop):Prop where
 | mk (μ:Mu) (h:Gh) (Uw:Sw) (Rw:Src->Gh->Prop) (q:Ax K μ H h) (S:Slots K H μ Uw U) (x:mi Uw h Rw) (k:∀J H',DI K H μ Rw J H'->R J H'):tDI K mi U H R
abbrev O4 (X:Cx)(tg iter:Expr)(mi:MI):Prop:=PI X tg iter (tDI X.K mi)
theorem PI.of {iter:Expr}{t t':TI}(h:PI X tg iter t)(k:∀U H R,t' U H R->t U H R):PI X tg iter t':=λafn s U H R I q=>h afn s U H R I (k U H R q)
def cU (h:Gh):W->Option (List W)
 | .lst ws=>Dn ws
 | .kls ws=>Dn ws
 | .loc n=>(match h.c n with
  | some (.lst ws)=>Dn ws
  | _=>Go)
 | _=>Go
def view (h:Gh):W->Option (List W)
 | .tup ws=>Dn ws
 | .lst ws=>Dn ws
 | .kls ws=>Dn ws
 | .loc n=>cU h (.loc n)
 | _=>Go
def Rg (h:Gh):W->Option Src
 | .tup ws=>Dn ⟨ws,Go⟩
 | .lst ws=>Dn ⟨ws,Go⟩
 | .kls ws=>Dn ⟨ws,Go⟩
 | .loc n=>(match h.c n with
  | some (.lst ws)=>Dn ⟨ws,Dn (n,ws)⟩
  | _=>Go)
 | _=>Go
theorem ado {K:Zf}{H:Hp}{p:Addr}(r:Zh K H μ (.lst ws) (.ref p)):Lr K (Itl K p) ⟨ws,Go⟩ H μ:=by
 intro H2 μ2 h2 i e R2 _;obtain⟨q,xs,eq,hf,rs⟩:=(e.r _ _ r)
 cases eq;refine⟨λw ew=>?_,λhl=>⟨xs,hf.sq,rs.len ▸ hl⟩⟩;obtain⟨v,ev,rv⟩:=rs.get ew;refine⟨⟨xs,v,hf.sq,ev⟩,λx H3 ⟨e3,y⟩=>?_⟩;subst e3;have:=y xs hf.sq
 rw[ev]at this;cases this;exact⟨μ2,.refl,R2,rv⟩
theorem zbi {K:Zf}{H:Hp}{p:Addr}(r:Zh K H μ (.kls ws) (.ref p)):Lr K (Itl K p) ⟨ws,Go⟩ H μ:=by
 intro H2 μ2 h2 i e R2 _;obtain⟨q,xs,eq,hf,rs⟩:=(e.r _ _ r)
 cases eq;refine⟨λw ew=>?_,λhl=>⟨xs,hf.sq,rs.len ▸ hl⟩⟩;obtain⟨v,ev,rv⟩:=rs.get ew;refine⟨⟨xs,v,hf.sq,ev⟩,λx H3 ⟨e3,y⟩=>?_⟩;subst e3;have:=y xs hf.sq
 rw[ev]at this;cases this;exact⟨μ2,.refl,R2,rv⟩
theorem zaD {K:Zf}{H:Hp}{p:Addr}{n:Nat}(r:Zh K H μ (.loc n) (.ref p)):Lr K (Itl K p) ⟨ws,Dn (n,ws)⟩ H μ:=by
 intro H2 μ2 h2 i e R2 ck;obtain⟨q,eq,hm⟩:=(e.r _ _ r)
 cases eq;obtain⟨p',xs,hm',hx,rs⟩:=R2.lstAt ck;obtain rfl:=by rw[hm]at hm';exact(Ge hm').symm
 refine⟨λw ew=>?_,λhl=>⟨xs,.of hx,rs.len ▸ hl⟩⟩;obtain⟨v,ev,rv⟩:=rs.get ew;refine⟨⟨xs,v,.of hx,ev⟩,λx H3 ⟨e3,y⟩=>?_⟩;subst e3;have:=y xs (.of hx)
 rw[ev]at this;cases this;exact⟨μ2,.refl,R2,rv⟩
theorem aen {K:Zf}{H:Hp}{p:Addr}(r:Zh K H μ (.tup ws) (.ref p)):Lr K (Itt K p) ⟨ws,Go⟩ H μ:=by
 intro H2 μ2 h2 i e R2 _;obtain⟨q,xs,eq,hf,rs⟩:=(e.r _ _ r)
 cases eq;refine⟨λw ew=>?_,λhl=>⟨xs,hf,rs.len ▸ hl⟩⟩;obtain⟨v,ev,rv⟩:=rs.get ew;refine⟨⟨xs,v,hf,ev⟩,λx H3 ⟨e3,y⟩=>?_⟩;subst e3;have:=y xs hf
 rw[ev]at this;cases this;exact⟨μ2,.refl,R2,rv⟩
def ZX (K:Zf)(tl:TE):TI:=λU H R=>tl U H λx H1=>(∃a,x=.ref a/\(∃xs,Ez K H1 a xs)/\R (Itl K a) H1)\/(∃a,x=.ref a/\(∃xs,Fw K H1 a xs)/\R (Itt K a) H1)
theorem Vo {l:Expr}{tl:TE}(hl:PE X l tl):PI X tg l (ZX X.K tl):=by
 intro afn s U H R I h;refine Bj (hl afn s U H _ I h) λv s1 ⟨x,H1,I1,r1,q1⟩=>?_;rcases q1 with⟨a,e,⟨xs,hq⟩,q⟩|⟨a,e,⟨xs,hq⟩,q⟩
 subst e;cases r1;obtain⟨its,rv,p,hz⟩:=I1.list hq;refine TF p.isList ⟨s1.heap.objs.size,[s1.heap.objs.size],_,_,H1,rfl,I1.kept λb o e=>Cm _ e,zat a _,⟨_,HJ _ rfl,rfl,rfl⟩,λb hb=>?_,q⟩;obtain rfl:=by simpa using hb
 exact I1.fpOk (Bm _)<|I1.hok.fresh<|Bm _
 subst e;cases r1;obtain⟨its,rv,p,hz⟩:=I1.tuple hq;refine wpAny_pyIter_tuple p ⟨s1.heap.objs.size,[s1.heap.objs.size],_,_,H1,rfl,I1.kept λb o e=>Cm _ e,zU a _,⟨_,HJ _ rfl,rfl,rfl⟩,λb hb=>?_,q⟩;obtain rfl:=by simpa using hb
 exact I1.fpOk (Bm _)<|I1.hok.fresh<|Bm _
def LQ (m:ME):MI:=λU h R=>m U h λw h1=>match Rg h1 w with
 | some s=>R s h1
 | none=>False
theorem jt {l:Expr}(hl:DE X l ma):O4 X tg l (LQ ma):=PI.of (Vo hl) λU H Q ⟨μ,h,Uw,Rw,R,S,m,k⟩=>by
 refine⟨μ,h,Uw,_,R,S,m,λv H1 ⟨μ1,w,h1,e1,R1,r1,m1⟩=>?_⟩;cases w with
 | tup ws=>
  have r1':=r1;obtain⟨p,xs,ev,hs,_⟩:=r1;subst ev;exact .inr ⟨p,rfl,⟨xs,hs⟩,k _ _ ⟨μ1,⟨ws,Go⟩,h1,e1,R1,aen r1',m1⟩⟩
 | lst ws=>
  have r1':=r1;obtain⟨p,xs,ev,hs,_⟩:=r1;subst ev;exact .inl ⟨p,rfl,⟨xs,hs.sq⟩,k _ _ ⟨μ1,⟨ws,Go⟩,h1,e1,R1,ado r1',m1⟩⟩
 | kls ws=>
  have r1':=r1;obtain⟨p,xs,ev,hs,_⟩:=r1;subst ev;exact .inl ⟨p,rfl,⟨xs,hs.sq⟩,k _ _ ⟨μ1,⟨ws,Go⟩,h1,e1,R1,zbi r1',m1⟩⟩
 | loc n=>
  have r1':=r1;obtain⟨p,ev,hm⟩:=r1;subst ev;unfold Rg at m1;dsimp only at m1;cases ec:h1.c n with
  | none=>rw[ec]at m1;cases m1
  | some cl=>
   rw[ec]at m1;cases cl with
   | lst ws=>
    obtain⟨p',xs,hm',hx,rs⟩:=R1.lstAt ec;obtain rfl:=by rw[hm]at hm';exact(Ge hm').symm
    exact .inl ⟨p',rfl,⟨xs,.of hx⟩,k _ _ ⟨μ1,⟨ws,Dn _⟩,h1,e1,R1,zaD r1',m1⟩⟩
   | _=>cases m1
 | _=>exact m1.elim
def wj (lo:Int)(n:Nat):List W:=(LC n).map λ(k:Nat)=>.int (lo+(k:Int))
theorem Km {K:Zf}{H:Hp}{lo:Int}{n:Nat}:Lr K (Itr lo n) ⟨wj lo n,Go⟩ H μ:=by
 intro H2 μ2 h2 i e R2 _;refine⟨λw ew=>?_,λhl=>?_⟩;have hi:=by
  have:=(HY.mp ew).1
  simpa[wj]using this
 have ew':=by
  unfold wj at ew;rw[Ds,List.getElem?_range hi]at ew;exact(Ge ew).symm
 subst ew';refine⟨hi,λx H3 ⟨e3,y⟩=>?_⟩;subst e3;exact⟨μ2,.refl,R2,by rwa[Zh]⟩;have:=by simpa[wj]using hl
 exact this
def wk (j:Int)(P:Prop):Prop:=Ec (decide (-1000<=j)&&decide (j<=1000)) P ((-(2^62)<=j/\j<2^62)/\P)
theorem wk.ok {j:Int}{P:Prop}(h:wk j P):(-(2^62)<=j/\j<2^62)/\P:=by
 unfold wk at h;cases e:(decide (-1000<=j)&&decide (j<=1000))with
 | true=>
  rw[e]at h;rw[GQ,decide_eq_true_iff,decide_eq_true_iff]at e;exact⟨⟨by lia,by lia⟩,h⟩
 | false=>rw[e]at h;exact h
theorem wk.mk {j:Int}{P:Prop}(h1:-(2^62)<=j)(h2:j<2^62)(h:P):wk j P:=by
 unfold wk;cases e:(decide (-1000<=j)&&decide (j<=1000))with
 | true=>exact h
 | false=>exact⟨⟨h1,h2⟩,h⟩
def fP (ma:MA):MI:=λU h R=>ma U h λws h1=>match ws with
 | [.int j]=>wk j (R ⟨wj 0 j.toNat,Go⟩ h1)
 | _=>False
def Og (ma:MA):MI:=λU h R=>ma U h λws h1=>match ws with
 | [.int i,.int j]=>wk i (wk j (R ⟨wj i (j-i).toNat,Go⟩ h1))
 | _=>False
theorem bZ {a:Expr}{p pos:Pos}(hg:Gl X "range")(hm:X.mg "range" = Go)(ha:Gn X [a] mr)(hs:Al [a] X.env=[(false,eval a X.env)]:=by rfl):O4 X tg (.Call (.Name "range" p) [a] [] pos) (fP mr):=
 PI.of (abM hg hm ha hs) λU H Q ⟨μ,h,Uw,Rw,R,S,m,k⟩=>by
  refine⟨μ,h,Uw,_,R,S,m,λvs H1 ⟨μ1,ws,h1,e1,R1,r1,m1⟩=>?_⟩;split at m1
  rename_i j;obtain⟨v,vr,ev,ra,r1⟩:=r1;subst ev r1 ra;exact⟨j,rfl,m1.ok.1.1,m1.ok.1.2,k _ _ ⟨μ1,_,h1,e1,R1,Km,m1.ok.2⟩⟩;exact m1.elim
theorem abr {a b:Expr}{p pos:Pos}(hg:Gl X "range")(hm:X.mg "range" = Go)(ha:Gn X [a,b] mr)(hs:Al [a,b] X.env=[(false,eval a X.env),(false,eval b X.env)]:=by rfl)(hs2:Al [b] X.env=[(false,eval b X.env)]:=by rfl):
  O4 X tg (.Call (.Name "range" p) [a,b] [] pos) (Og mr):=
 PI.of (zaI hg hm ha hs hs2) λU H Q ⟨μ,h,Uw,Rw,R,S,m,k⟩=>by
  refine⟨μ,h,Uw,_,R,S,m,λvs H1 ⟨μ1,ws,h1,e1,R1,r1,m1⟩=>?_⟩;split at m1
  rename_i i j;obtain⟨v,vr,ev,ra,r1⟩:=r1;obtain⟨v',vr',ev',rb,r1⟩:=r1;subst ev ev' r1 ra rb;exact⟨i,j,rfl,⟨m1.ok.1.1,m1.ok.1.2,m1.ok.2.ok.1.1,m1.ok.2.ok.1.2⟩,k _ _ ⟨μ1,_,h1,e1,R1,Km,m1.ok.2.ok.2⟩⟩;cases m1
def Src.go (s:Src)(h:Gh)(P:Prop):Prop:=match s.cell with
 | none=>P
 | some n=>h.c n.1=Dn (.lst n.2)/\P
theorem Src.go_ok {s:Src}{h:Gh}{P:Prop}(x:s.go h P):s.chk h/\P:=by
 unfold Src.go at x;unfold Src.chk;grind
def jc (s:Src)(g:MG)(b:MS)(D:cH):List W->Sw->Gh->Prop
 | [],U,h=>s.go h (D.nx U h)
 | w::r,U,h=>s.go h (g w U h λU1 h1=>b {D with nx:=jc s g b D r,ct:=jc s g b D r,bk:=D.nx} U1 h1)
def Dd (mi:MI)(g:MG)(b:MS):MS:=λD U h=>mi U h λs h1=>jc s g b D s.ws U h1
theorem vP {iter:Expr}{body:List Stmt}{mi:MI}{g:MG}{mb0:MS}{pos:Pos}(hp:Uu (Ai X.prog X.w) X.A X.env X.xe)(hc:X.calm=true)(hi:O4 X tg iter mi)(hg:DG X tg g)(hb:Oo X body mb0)
  (hs:∀x,Qv iter X.env x=pure x:=by intro _;rfl):DS X (.For tg iter body [] pos) (Dd mi g mb0):=(KJ hp hc hi hg hb hs).of λD U H ⟨μ,h,Uw,Dw,R,S,m,k⟩=>by
 refine⟨μ,h,Uw,_,R,S,m,λJ H1 ⟨μ1,src,h1,e1,R1,ok,m1⟩=>⟨λi n U' H'=>n=src.ws.length-i/\i<=src.ws.length/\DN _ H1 μ1 (jc src g mb0 Dw<|src.ws.drop i) U' H',⟨src.ws.length,by simp,Pn _,μ1,Uw,h1,.refl,R1,S.ext e1,m1⟩,?_⟩⟩;rintro i n U2 H2 ⟨hn,hle,μ2,Uw2,h2,e2,R2,S2,m2⟩;by_cases hlt:i<src.ws.length
 rw[RN hlt]at m2;obtain⟨ck,m2⟩:=Src.go_ok m2;obtain⟨hgo,hy⟩:=(ok e2 R2 ck).1 src.ws[i] (GF hlt);refine .inr ⟨hgo,λU' H'=>DN _ H2 μ2 _ U' H',λU' H' z=>⟨src.ws.length-(i+1),by lia,rfl,hlt,z.trans e2⟩,λx H3 y=>?_⟩;obtain⟨μ3,e3,R3,rx⟩:=hy x H3 y;refine⟨μ3,h2,Uw2,src.ws[i],_,R3,S2.ext e3,rx,m2,λU4 H4 ⟨μ4,Uw4,h4,e4,R4,S4,m4⟩=>?_⟩;have e24:=e3.trans e4;have e14:=(e1.trans e2).trans e24;exact⟨μ4,h4,Uw4,_,R4,S4,m4,λU' H' z=>z.trans e24,λv H' z=>k.rt _ _<|z.trans e14,λU' H' z=>k.nx _ _<|z.trans e14,λU' H' z=>z.trans e24⟩;have ei:i=src.ws.length:=by lia
 subst ei;rw[List.drop_length]at m2;obtain⟨ck,m2⟩:=Src.go_ok m2;exact .inl ⟨(ok e2 R2 ck).2 (Bm _),k.nx _ _ ⟨μ2,Uw2,h2,e1.trans e2,R2,S2,m2⟩⟩
def rZ (ix:List Nat)(U:Sw):Sw:=ix.map λi=>(U[i]?).getD Go
theorem Slots.blk {K:Zf}{H:Hp}{U:St}(S:Slots K H μ Uw U):∀{ws:List W}{vs:List V},bA K H μ ws vs->Slots K H μ (ws.map Dn++rZ ix Uw) (vs.map Dn++Am ix U):=by
 intro ws vs r;have hl:=r.len;refine⟨by simp[rZ,Am,hl],λi u q=>?_⟩;by_cases hi:i<ws.length
 rw[QB (by simpa using hi),Ds]at q;have q':ws[i]?=Dn u:=by
  grind
 obtain⟨v,hv,rv⟩:=r.get q';grind
 rw[Pa (by simpa using hi),Ag]at q;rw[Pa (by rw[Ag];lia),Ag,<-hl];generalize i-ws.length=i at q|-
 unfold rZ at q;unfold Am;rw[Ds]at q|-
 cases e:ix[i]? with
 | none=>rw[e]at q;cases q
 | some j=>
  rw[e]at q;cases e2:Uw[j]? with
  | none=>simp[e2]at q
  | some o=>
   obtain rfl:=by simpa[e2]using q
   obtain⟨v',h1,h2⟩:=S.get j u e2
   simp_all
def qP:MT:=λ_ h Q=>Q true h
def uz (s:Src)(own:W->Option (List W))(ix:List Nat)(tt:MT)(te:ME)(U:Sw)(Q:WK):List W->List W->Gh->Prop
 | [],acc,h=>s.go h (Q (.lst acc) h)
 | w::r,acc,h=>s.go h (match own w with
  | some vs=>tt (vs.map Dn++rZ ix U) h λc h1=>Ec c (te (vs.map Dn++rZ ix U) h1 λv h2=>uz s own ix tt te U Q r (acc++[v]) h2) (uz s own ix tt te U Q r acc h1)
  | none=>False)
def Fq (own:W->Option (List W))(ix:List Nat)(mi:MI)(tt:MT)(te:ME):ME:=λU h Q=>mi U h λs h1=>jN s.ws.length (uz s own ix tt te U Q s.ws [] h1)
def Gu (K:Zf)(n:Nat)(own:V->Hp->List V->Prop)(ow:W->Option (List W)):Prop:=∀{H:Hp}{μ:Mu}{w:W}{v:V}{ws:List W},Zh K H μ w v->ow w=Dn ws->∃vs,own v H vs/\vs.length=n/\bA K H μ ws vs
def G5 (w:W):Option (List W):=Dn [w]
def owT (n:Nat)(w:W):Option (List W):=match w with
 | .tup ws=>(match LR ws.length n with
  | true=>Dn ws
  | false=>Go)
 | _=>Go
def ov1:V->Hp->List V->Prop:=λv _ vs=>vs=[v]
def ovT (K:Zf):V->Hp->List V->Prop:=λv H vs=>∃a,v=.ref a/\Fw K H a vs
theorem fu {K:Zf}:Gu K 1 ov1 G5:=by
 intro H μ w v ws r e;cases e;exact⟨[v],rfl,rfl,.one r⟩
theorem WM {K:Zf}{n:Nat}:Gu K n (ovT K) (owT n):=by
 intro H μ w v ws r e;cases w with
 | tup us=>
  unfold owT at e;dsimp only at e;cases en:LR _ n with
  | false=>rw[en]at e;cases e
  | true=>
   rw[en]at e;cases e;obtain⟨p,xs,ev,hs,rs⟩:=r;exact⟨xs,⟨p,ev,hs⟩,rs.len ▸ Ti en,rs⟩
 | _=>cases e
abbrev V4 (X:Cx)(ifs:List Expr)(m:MT):Prop:=QS X ifs (tDT X.K m)
theorem dN:V4 X [] qP:=λafn s U H Q I ⟨μ,h,Uw,Qw,R,S,m,k⟩=>adW afn s U H Q I (k _ _ ⟨μ,h,.refl,R,m⟩)
theorem gZ (h:DT X c t):V4 X [c] t:=ady h
theorem Rf {K:Zf}{U:St}{H:Hp}{Q:VK}{n:Nat}{own:V->Hp->List V->Prop}{ow:W->Option (List W)}{mi:MI}{tt:MT}{te:ME}(oo:Gu K n own ow)(q:tD K (Fq ow ix mi tt te) U H Q):tLC n own ix (tDI K mi) (tDT K tt) (tD K te) U H Q:=by
 obtain⟨μ,h,Uw,Qw,R,S,m,k⟩:=q;refine⟨μ,h,Uw,_,R,S,m,λJ H1 ⟨μ1,src,h1,e1,R1,ok,hz0⟩=>?_⟩;obtain⟨hz,m1⟩:=hz0.ok;intro D hD;have nD:=R1.nohid hD;refine⟨λi n ys H'=>n=src.ws.length-i/\i<=src.ws.length/\ys.length<=i/\H' D=Dn (.lst ys)/\∃μ' acc h',DR K H1 μ1 H' μ'/\Ax K μ' H' h'/\μ'.hid D/\bA K H' μ' acc ys/\uz src ow ix tt te Uw Qw (src.ws.drop i) acc h',
  ⟨src.ws.length,by simp,Pn _,Bm _,bM,μ1.hide D,[],h1,(DR.hide hD),R1.hide hD,.inl rfl,.nil,m1⟩,?_⟩
 rintro i n' ys H2 ⟨hn,hle,hys,hH2,μ2,acc,h2,e2,R2,hid2,ra,m2⟩ _;by_cases hlt:i<src.ws.length
 rw[RN hlt]at m2;obtain⟨ck,m2⟩:=Src.go_ok m2;obtain⟨hgo,hy⟩:=(ok e2 R2 ck).1 src.ws[i] (GF hlt);refine .inr ⟨hgo,by lia,λx H3 y=>?_⟩;obtain⟨μ3,e3,R3,rx⟩:=hy x H3 y;cases eo:ow src.ws[i]with
 | none=>rw[eo]at m2;exact m2.elim
 | some us=>
  rw[eo]at m2;obtain⟨vs,hov,hvl,rvs⟩:=oo rx eo;have S3:=(S.ext (e1.trans (e2.trans e3))).blk (ix:=ix) rvs;refine⟨vs,hov,hvl,μ3,h2,_,_,R3,S3,m2,λb H4 ⟨μ4,h4,e4,R4,m4⟩=>?_⟩;have e24:=e3.trans e4;obtain⟨hid4,hH4⟩:=e24.o D _ hid2 hH2;cases b with
  | false=>
   exact⟨hH4,src.ws.length-(i+1),by lia,rfl,hlt,by lia,hH4,μ4,acc,h4,e2.trans e24,R4,hid4,e24.s ra,m4⟩
  | true=>
   refine⟨μ4,h4,_,_,R4,S3.ext e4,m4,λv H5 ⟨μ5,w5,h5,e5,R5,r5,m5⟩=>?_⟩;have e25:=e24.trans e5;obtain⟨hid5,hH5⟩:=e25.o D _ hid2 hH2;exact⟨hH5,src.ws.length-(i+1),by lia,rfl,hlt,by simp;lia,bM,μ5,acc++[w5],h5,(e2.trans e25).x nD (QL.grow R5 hid5),R5.grow hid5,hid5,(bA.ex (Ex0.grow R5 hid5)<|bA.append (e25.s ra)<|bA.one r5),m5⟩
 have ei:i=src.ws.length:=by lia
 subst ei;rw[List.drop_length]at m2;obtain⟨ck,m2⟩:=Src.go_ok m2;exact .inl ⟨(ok e2 R2 ck).2 (Bm _),k _ _ ⟨μ2.unhide D,.lst acc,h2,e1.trans<|e2.x nD .unhide,R2.unhide,Zh.built R2 hid2 hH2 ra,m2⟩⟩
variable {scope:Scope}{x:Str}{xs:List Str}{iter:Expr}{px:Pos}{mi:MI}{tt:MT}{te:ME}
theorem fB (B:kj X scope [x] ix)(C:Addr)(s:Mk)(H:Hp)(fp:List Addr):PG (blk X scope (jQ X [x] ix) C s H fp) (.Name x px) (PN 1 ov1):=by
 obtain⟨o1,o2⟩:=Bx B (y:=x) (by simp);intro afn s' U H' v u Q I r ⟨vs,hv,hl,q⟩;cases hv;refine fC (i:=0) B.nd rfl o1 o2 afn s' U H' v u Q I r ?_;have afp:U.length=(jQ X [x] ix).length:=I.len;cases U with
 | nil=>simp at afp
 | cons o U=>exact q
theorem Yq {py pt:Pos}{kt:Nat}(hc:X.calm=true)(B:kj X scope [x,y] ix)(C:Addr)(s:Mk)(H:Hp)(fp:List Addr)
  (h1:∀env,(Hz [.Name x px,.Name y py] env).map (·.2)=assign (.Name x px) env::(Hz [.Name y py] env).map (·.2):=by intro _;rfl)
  (h2:∀env,(Hz [.Name y py] env).map (·.2)=assign (.Name y py) env::(Hz [] env).map (·.2):=by intro _;rfl)
  (h3:∀env,(Hz [.Name x px,.Name y py] env).length=2:=by intro _;rfl) (h4:∀env,(Hz [.Name x px,.Name y py] env).findIdx? (·.1)=Go:=by intro _;rfl) :
  PG (blk X scope (jQ X [x,y] ix) C s H fp) (.Tuple [.Name x px,.Name y py] kt pt) (PN 2 (ovT X.K)):=by
 obtain⟨o1,u1⟩:=Bx B (y:=x) (by simp);obtain⟨o2,u2⟩:=Bx B (y:=y) (by simp);intro afn s' U H' v u Q I r ⟨vs,⟨a,ea,ha⟩,hl,q⟩;refine acZ (X:=blk X scope _ C s H fp) hc (tQ (fC (i:=0) B.nd rfl o1 u1) (tQ (fC (i:=1) B.nd rfl o2 u2) Ep<|h2 _)<|h1 _) (h3 _) (h4 _) afn s' U H' v u Q I r ⟨a,vs,ea,ha,hl,?_⟩;match vs,hl,q with
 | [v1,v2],_,q=>
  match U,I.len,q with
  | _::_::U,_,q=>exact⟨v1,[v2],rfl,v2,[],rfl,rfl,q⟩
theorem xr {own:V->Hp->List V->Prop}{ow:W->Option (List W)}(ix:List Nat)(hc:X.calm=true)(B:kj X scope xs ix)(oo:Gu X.K xs.length own ow)(hg:∀C s H fp,PG (blk X scope (jQ X xs ix) C s H fp) tg (PN xs.length own))(hi:O4 X tg iter mi)
  (ht:∀C s H fp,V4 (blk X scope (jQ X xs ix) C s H fp) ifs tt) (he:∀C s H fp,DE (blk X scope (jQ X xs ix) C s H fp) elt te)
  (hs:∀v,Qv iter X.env v=pure v:=by intro _;rfl):DE X (.ListComp elt [⟨tg,iter,ifs,0⟩] scope pos) (Fq ow ix mi tt te):=(Xj ix hc B hg hi ht he hs).of λ_ _ _ q=>Rf oo q
theorem qd {own:V->Hp->List V->Prop}{ow:W->Option (List W)}(ix:List Nat){i:Nat}{py spos:Pos}(hN:X.N.Nodup)(hi':X.N[i]?=Dn y)(hy:Loc X.env.scope y)(hc:X.calm=true)(B:kj X scope xs ix)(oo:Gu X.K xs.length own ow)
  (hg:∀C s H fp,PG (blk X scope (jQ X xs ix) C s H fp) tg (PN xs.length own)) (hi:O4 X tg iter mi)
  (ht:∀C s H fp,V4 (blk X scope (jQ X xs ix) C s H fp) ifs tt) (he:∀C s H fp,DE (blk X scope (jQ X xs ix) C s H fp) elt te)
  (hsw:Pu (.ListComp elt [⟨tg,iter,ifs,0⟩] scope pos) (Dn (.Name y py)) spos.line X.env=pure true:=by rfl)
  (hf:X.fn y=true\/X.env.scope.names.lookup y=Dn .local:=by first|exact .inl rfl|exact .inr rfl|assumption)
  (hs:∀v,Qv iter X.env v=pure v:=by intro _;rfl):DS X (.Assign [.Name y py] (.ListComp elt [⟨tg,iter,ifs,0⟩] scope pos) spos) (cY (Fq ow ix mi tt te) (YM i)):=
 (W6 ix hN hi' hy hc B hg hi ht he hsw hf hs).of λ_ _ _ q=>Kf (λ_ _ _ z=>Rf oo z) q
theorem Wn {κ:Type}{K:Zf}{H0 H:Hp}{μ0 μ:Mu}{k:Nat}(hd:∀n p,μ0.f n=Dn p->n<k):∀{fs:List (κ×W)}{f0 fv:List (κ×V)},qO K H0 μ0 fs f0->qO K H μ fs fv->qO K H (μ.cut k) fs fv
 | [],_,_,_,.nil=>.nil
 | _::_,_,_,.cons a b,.cons c d=>.cons ⟨c.1,Zh.cut c.2 (Zh.lo hd a.2)⟩ (Wn hd b d)
def n6 (pure:Bool)(h:Gh)(w:W)(h':Gh)(Q:WK):Prop:=match pure with
 | false=>Q w h'
 | true=>(∀n c,n<h.nx->h.c n=Dn c->h'.c n=Dn c)/\((Lo h.nx w/\Q w h)\/∃n ws,w=.loc n/\h.nx<=n/\h'.c n=Dn (.lst ws)/\NP h.nx ws/\Q (.lst ws) h)
def Fx (n N:Nat)(pure:Bool)(body:Ba->MS):AP:=λws h Q E=>Ec (LR ws.length n)
 (body E {nx:=λ_ h'=>n6 pure h .non h' Q,rt:=λw h'=>n6 pure h w h' Q} (ws.map Dn++HI (N-ws.length) Go) h) False
theorem yh {n N:Nat}{pure:Bool}{body:Ba->MS}{h:Gh}{Q:WK}{E:Ba}(x:Fx n N pure body ws h Q E):ws.length=n /\
  body E {nx:=λ_ h'=>n6 pure h .non h' Q,rt:=λw h'=>n6 pure h w h' Q} (ws.map Dn++HI (N-ws.length) Go) h:=by
 unfold Fx at x;cases e:LR _ n with
 | true=>rw[e]at x;exact⟨Ti e,x⟩
 | false=>rw[e]at x;exact x.elim
theorem Ax.cut {K:Zf}{H H':Hp}{μ μ':Mu}{h h':Gh}(R:Ax K μ H h)(R':Ax K μ' H' h')(e:DR K H μ H' μ')(hc:∀n c,h.c n=Dn c->h'.c n=Dn c):Ax K (μ'.cut h.nx) H' h where
 inj:=λm n p a b=>R'.inj m n p (Mu.cut_some a).2 (Mu.cut_some b).2
 dom:=λn p a=>(Mu.cut_some a).1
 trk:=λn p a=>R'.trk n p (Mu.cut_some a).2
 cel:=λn c a=>by
  obtain⟨p0,m0,x0⟩:=R.cel n c a;obtain⟨p,m,x⟩:=R'.cel n c (hc n c a);refine⟨p,by show(if n<h.nx then μ'.f n else Go)=Dn p;rw[if_pos<|R.dom n p0 m0];exact m,?_⟩;cases c with
  | lst ws=>
   obtain⟨xs0,_,r0⟩:=x0;obtain⟨xs,hx,r⟩:=x;exact⟨xs,hx,bA.cut r<|bA.lo R.dom r0⟩
  | obj C fs=>
   obtain⟨dx0,f0,_,r0⟩:=x0;obtain⟨dx,fv,hx,r⟩:=x;exact⟨dx,fv,hx,Wn R.dom r0 r⟩
  | dct kvs=>
   obtain⟨f0,_,r0⟩:=x0;obtain⟨fv,hx,r⟩:=x;exact⟨fv,hx,Wn R.dom r0 r⟩
  | dtt kvs=>
   obtain⟨_,_,_,_,_,d0,f0⟩:=x0;obtain⟨xs,vs,a,b,c,d,f⟩:=x;exact⟨xs,vs,a,b,c,bA.cut d<|bA.lo R.dom d0,bA.cut f<|bA.lo R.dom f0⟩
 hd:=λp z=>⟨(R'.hd p z).1,λn a=>(R'.hd p z).2 n (Mu.cut_some a).2⟩
theorem DR.cut {K:Zf}{H H':Hp}{μ μ':Mu}{h:Gh}(R:Ax K μ H h)(e:DR K H μ H' μ'):DR K H μ H' (μ'.cut h.nx):=
 ⟨λw v r=>Zh.cut (e.r w v r) (Zh.lo R.dom r),λp u z a=>e.o p u z a⟩
theorem ux {K:Zf}{H H':Hp}{h h':Gh}{w:W}{v:V}{Q:WK}{pure:Bool}(R:Ax K μ H h)(e:DR K H μ H' μ')(R':Ax K μ' H' h')(r:Zh K H' μ' w v)(x:n6 pure h w h' Q):DQ K H μ Q v H':=by
 cases pure with
 | false=>exact⟨μ',w,h',e,R',r,x⟩
 | true=>
  obtain⟨hc0,⟨lo,q⟩|⟨n,ws,ew,hn,ec,lo,q⟩⟩:=x;all_goals have hc:=λn c a=>hc0 n c (let⟨p,m,_⟩:=R.cel n c a;R.dom n p m) a
  exact⟨μ'.cut _,w,h,e.cut R,R.cut R' e hc,Zh.cut r lo,q⟩;subst ew;refine⟨μ'.cut _,.lst ws,h,e.cut R,R.cut R' e hc,?_,q⟩;obtain⟨p,ev,hm⟩:=r;obtain⟨p',xs,hm',hx,rs⟩:=R'.lstAt ec;obtain rfl:=by rw[hm]at hm';exact(Ge hm').symm
  refine⟨p',xs,ev,⟨hx,λm a=>?_,λz=>(R'.hd p' z).2 n hm⟩,bA.cut rs lo⟩;obtain⟨a1,a2⟩:=Mu.cut_some a;have:=R'.inj m n p' a2 hm
  lia
theorem pD {K:Zf}{H:Hp}{N:List Str}:∀{ws:List W}{vs:List V},bA K H μ ws vs->Slots K H μ (ws.map Dn++HI (N.length-ws.length) Go) (start N vs):=by
 intro ws vs r;have hl:=r.len;refine⟨by simp[start,hl],λi w q=>?_⟩;by_cases hi:i<ws.length
 rw[QB (by simpa using hi)]at q;have q':ws[i]?=Dn w:=by
  grind
 obtain⟨v,hv,rv⟩:=r.get q';refine⟨v,?_,rv⟩;unfold start;rw[QB (by rw[Ag];lia),Ds,hv];rfl;rw[Pa (by simpa using hi),Uo]at q;grind
theorem qN {P:BK}{w:Av}{K:Zf}{mg:Str->Option JI}{base:Heap}{x qual:Str}{st:Stmt}{f:Addr}{fd:DW}{N ps:List Str}{k:Nat}{pure:Bool}{body:Ba->MS}(F:G8 K x qual st f fd)(S:bO N ps (aW st))
  (hb:∀(cdv:JI) (A:BP) (outer:List Env) (s:Mk) (H:Hp) (E:XK),lg k (A.deeper (envOfC qual (aW st) s.heap.objs.size f cdv)) ->
   Oo (N5 Fl P w K mg base N qual (aW st) f cdv A outer s H E).nox (jd st) (body EF)):eY P w K mg base Fl (k+1) f fd ps (lift K (Fx ps.length N.length pure body)):=by
 refine F.ok S (λvs H Q E ⟨μ,h,ws,Qw,R,r,m,k⟩=>by rw[<-r.len];exact(yh m).1)<|λcdv A outer s H vs Q E hr ⟨μ,h,ws,Qw,R,r,m0,k⟩=>?_
 obtain⟨hl,m⟩:=yh m0;refine⟨_,hb cdv A outer s H E hr,μ,h,_,_,R,pD r,m,?_,?_,?_,?_⟩;rintro U' H' ⟨μ1,Uw1,h1,e1,R1,S1,m1⟩;exact k _ _<|ux R e1 R1 (by rw[Zh]) m1
 rintro v H' ⟨μ1,w1,h1,e1,R1,r1,m1⟩;exact k _ _<|ux R e1 R1 r1 m1
 rintro U' H' ⟨μ1,Uw1,h1,e1,R1,S1,m1⟩;exact m1.elim;rintro U' H' ⟨μ1,Uw1,h1,e1,R1,S1,m1⟩;exact m1.elim
end
variable {l:Expr}{mo:ME}{mi:MI}{tt:MT}{kt:Nat}
section
variable {X:Cx}{K:Zf}
theorem DQ.int {H:Hp}{μ:Mu}{h:Gh}{i:Int}{Q:WK}(R:Ax K μ H h)(q:Q (.int i) h):DQ K H μ Q (.int i) H:=⟨μ,.int i,h,.refl,R,by rw[Zh],q⟩
theorem DQ.bl {H:Hp}{μ:Mu}{h:Gh}{i:Bool}{Q:WK}(R:Ax K μ H h)(q:Q (.bl i) h):DQ K H μ Q (.bl i) H:=⟨μ,.bl i,h,.refl,R,by rw[Zh],q⟩
def zag (C:Int->Int->Prop)(g:Int->Int->Int):M2:=λx y h Q=>match x,y with
 | .int i,.int j=>C i j/\Q (.int (g i j)) h
 | _,_=>False
def Dm:M2:=λx y h Q=>match x,y with
 | .int i,.int j=>Q (.int (i-j)) h
 | _,_=>False
theorem Dq:Hf X (Hx .Sub) Dm:=⟨_,Vl,by
 intro H μ h x y wx wy Qw Q R rx ry m k;unfold Dm at m;split at m
 exact⟨_,_,rx,ry,k _ _<|.int R m⟩;cases m⟩
def Vc:M2:=λx y h Q=>match x,y with
 | .int i,.int j=>sJ i j/\Q (.int (i*j)) h
 | _,_=>False
theorem Sx:Hf X (Hx .Mult) Vc:=⟨_,zbD,by
 intro H μ h x y wx wy Qw Q R rx ry m k;unfold Vc at m;split at m
 exact⟨_,_,rx,ry,m.1,k _ _<|.int R m.2⟩;cases m⟩
def Rt:M2:=λx y h Q=>match x,y with
 | .int i,.int j=>Kg i j/\Q (.int (i.fdiv j)) h
 | _,_=>False
theorem Qt:Hf X (Hx .FloorDiv) Rt:=⟨_,zaA,by
 intro H μ h x y wx wy Qw Q R rx ry m k;unfold Rt at m;split at m
 exact⟨_,_,rx,ry,m.1,k _ _<|.int R m.2⟩;cases m⟩
def Ga:M2:=λx y h Q=>match x,y with
 | .int i,.int j=>j≠0/\Q (.int (i.fmod j)) h
 | _,_=>False
theorem vp:Hf X (Hx .Mod) Ga:=⟨_,acv,by
 intro H μ h x y wx wy Qw Q R rx ry m k;unfold Ga at m;split at m
 exact⟨_,_,rx,ry,m.1,k _ _<|.int R m.2⟩;cases m⟩
def V2:M2:=λx y h Q=>match x,y with
 | .int i,.int j=>XS i j/\Q (.int (i^j.toNat)) h
 | _,_=>False
theorem Xo:Hf X (Hx .Pow) V2:=⟨_,aed,by
 intro H μ h x y wx wy Qw Q R rx ry m k;unfold V2 at m;split at m
 exact⟨_,_,rx,ry,m.1,k _ _<|.int R m.2⟩;cases m⟩
def kLt:M2:=λx y h Q=>match x,y with
 | .int i,.int j=>Q (.bl (decide (i<j))) h
 | _,_=>False
theorem yE:Hf X (HB .Lt) kLt:=⟨_,XC,by
 intro H μ h x y wx wy Qw Q R rx ry m k;unfold kLt at m;split at m
 exact⟨_,_,rx,ry,k _ _<|.bl R m⟩;cases m⟩
def kLe:M2:=λx y h Q=>match x,y with
 | .int i,.int j=>Q (.bl (decide (i<=j))) h
 | _,_=>False
theorem aar:Hf X (HB .LtE) kLe:=⟨_,Ym,by
 intro H μ h x y wx wy Qw Q R rx ry m k;unfold kLe at m;split at m
 exact⟨_,_,rx,ry,k _ _<|.bl R m⟩;cases m⟩
def kGt:M2:=λx y h Q=>match x,y with
 | .int i,.int j=>Q (.bl (decide (j<i))) h
 | _,_=>False
theorem VP:Hf X (HB .Gt) kGt:=⟨_,Xx,by
 intro H μ h x y wx wy Qw Q R rx ry m k;unfold kGt at m;split at m
 exact⟨_,_,rx,ry,k _ _<|.bl R m⟩;cases m⟩
def kGe:M2:=λx y h Q=>match x,y with
 | .int i,.int j=>Q (.bl (decide (j<=i))) h
 | _,_=>False
theorem Zq:Hf X (HB .GtE) kGe:=⟨_,XH,by
 intro H μ h x y wx wy Qw Q R rx ry m k;unfold kGe at m;split at m
 exact⟨_,_,rx,ry,k _ _<|.bl R m⟩;cases m⟩
theorem bA.ne_nil {H:Hp}{xs:List V}(r:bA K H μ ws xs):xs=[]↔ws=[]:=by
 have:=r.len
 grind
def Aq:M2:=λx y h Q=>match y with
 | .int i=>(match view h x with
  | some ws=>(match Hh ws i with
   | some w=>Q w h
   | none=>False)
  | none=>False)
 | _=>False
theorem bA.at {H:Hp}{μ:Mu}{ws:List W}{xs:List V}{i:Int}{w:W}(r:bA K H μ ws xs)(e:Hh ws i=Dn w):∃v,Hh xs i=Dn v/\Zh K H μ w v:=by
 unfold Hh at e|-
 rw[<-r.len];cases q:Jl _ i with
 | none=>rw[q]at e;cases e
 | some j=>rw[q]at e;exact r.get e
theorem dH {H:Hp}{h:Gh}{w:W}{v:V}(R:Ax K μ H h)(r:Zh K H μ w v)(e:cU h w=Dn ws):∃p xs,v=.ref p/\Ez K H p xs/\bA K H μ ws xs:=by
 cases w with
 | lst us|kls us=>
  obtain⟨p,xs,ev,hs,rs⟩:=r;cases e;exact⟨p,xs,ev,hs.sq,rs⟩
 | loc n=>
  obtain⟨p,ev,hm⟩:=r;unfold cU at e;dsimp only at e;cases ec:h.c n with
  | none=>rw[ec]at e;cases e
  | some cl=>
   rw[ec]at e;cases cl with
   | lst us=>
    cases e;obtain⟨p',xs,hm',hx,rs⟩:=R.lstAt ec;obtain rfl:=by rw[hm]at hm';exact(Ge hm').symm
    exact⟨p',xs,ev,.of hx,rs⟩
   | _=>cases e
 | _=>cases e
theorem uw {H:Hp}{h:Gh}{w:W}{v:V}(R:Ax K μ H h)(r:Zh K H μ w v)(e:view h w=Dn ws):∃p xs,v=.ref p/\(Ez K H p xs\/Fw K H p xs)/\bA K H μ ws xs:=by
 cases w with
 | tup us=>
  obtain⟨p,xs,ev,hs,rs⟩:=r;cases e;grind
 | lst us|kls us|loc n=>
  obtain⟨p,xs,ev,hs,rs⟩:=dH R r e;grind
 | _=>cases e
theorem VD:Wg K (rIx K) Aq:=by
 intro H μ h x y wx wy Qw Q R rx ry m k;unfold Aq at m;split at m
 rename_i i;split at m
 rename_i ws ev;split at m
 rename_i w ew;obtain⟨p,xs,ex,hs,rs⟩:=uw R rx ev;obtain⟨v,hv,rv⟩:=rs.at ew;have fin:=k _ _ ⟨μ,w,h,.refl,R,rv,m⟩;rcases hs with hs|hs
 exact .inl ⟨p,xs,i,v,ex,ry,hs,hv,fin⟩;exact .inr<|.inl ⟨p,xs,i,v,ex,ry,hs,hv,fin⟩
 cases m;cases m;cases m
theorem bW {a b:Expr}{mb:ME}{pos:Pos}(ha:DE X a ma)(hb:DE X b mb)(hs:xg b):DE X (.Subscript a b pos) (Y7 Aq ma mb):=(R7 JR ha hb hs).of λU H Q h=>two h λR r1 r2 m k=>VD R r1 r2 m k
abbrev MO:=Sw->Gh->(Option Int->Gh->Prop)->Prop
def tDO (K:Zf)(m:MO):TO:=λU H Q=>∃μ h Uw Qw,Ax K μ H h/\Slots K H μ Uw U/\m Uw h Qw/\∀o H',(∃μ' h',DR K H μ H' μ'/\Ax K μ' H' h'/\Qw o h')->Q o H'
abbrev DO (X:Cx)(e:Option Expr)(m:MO):Prop:=PO X e (tDO X.K m)
theorem PO.of {e:Option Expr}{t t':TO}(h:PO X e t)(k:∀U H Q,t' U H Q->t U H Q):PO X e t':=by
 unfold PO at h|-
 intros
 grind
def cB:MO:=λ_ h Q=>Q Go h
def d7 (m:ME):MO:=λU h Q=>m U h λw h1=>match w with
 | .int i=>Q (Dn i) h1
 | _=>False
theorem dY:DO X Go cB:=PO.of aee λU H Q ⟨μ,h,Uw,Qw,R,S,m,k⟩=>k _ _ ⟨μ,h,.refl,R,m⟩
theorem dg {e:Expr}(he:DE X e ma):DO X (Dn e) (d7 ma):=PO.of (adO he) λU H Q ⟨μ,h,Uw,Qw,R,S,m,k⟩=>by
 refine⟨μ,h,Uw,_,R,S,m,λv H1 ⟨μ1,w,h1,e1,R1,r1,m1⟩=>?_⟩;split at m1
 exact⟨_,r1,k _ _ ⟨μ1,h1,e1,R1,m1⟩⟩;cases m1
def ou (xs:List W)(lo hi:Option Int):List W:=(xs.drop (HT.sIx xs.length 0 lo)).take (HT.sIx xs.length xs.length hi-HT.sIx xs.length 0 lo)
def Gq (r:W->Option Int->Option Int->Gh->WK->Prop)(m:ME)(l u:MO):ME:=λU h Q=>m U h λx h1=>l U h1 λlo h2=>u U h2 λhi h3=>r x lo hi h3 Q
theorem bA.cutv {H:Hp}{xs:List V}(r:bA K H μ ws xs)(lo hi:Option Int):bA K H μ (ou ws lo hi) (M8 xs lo hi):=by
 unfold ou M8;exact r.len ▸ (r.drop _).take _
end
mutual
def Bk:W->W->Bool
 | .non,.non=>true
 | .bl a,.bl b=>a==b
 | .bl a,.int b=>(if a then 1 else 0)==b
 | .int a,.bl b=>a==(if b then 1 else 0)
 | .int a,.int b=>a==b
 | .str a,.str b=>a==b
 | .tup a,.tup b=>oh a b
 | .lst a,.lst b=>oh a b
 | _,_=>false
def oh:List W->List W->Bool
 | [],[]=>true
 | a::as,b::bs=>Bk a b&&oh as bs
 | _,_=>false
end
def Aw:Nat->W->Bool
 | _,.non=>true
 | _,.bl _=>true
 | _,.int _=>true
 | _,.str _=>true
 | n+1,.tup ws=>ws.all (Aw n)
 | n+1,.lst ws=>ws.all (Aw n)
 | _,_=>false
mutual
def Dt (K:Zf)(H:Hp):W->V->Prop
 | .non,v=>v=.non
 | .bl b,v=>v=.bl b
 | .int i,v=>v=.int i
 | .str x,v=>v=.str x
 | .tup ws,v=>∃p xs,v=.ref p/\Fw K H p xs/\G9 K H ws xs
 | .lst ws,v=>∃p xs,v=.ref p/\Ez K H p xs/\G9 K H ws xs
 | .ty _,_=>False
 | .kls _,_=>False
 | .loc _,_=>False
 | .exc _,_=>False
 | .exa _ _,_=>False
 | .fnv _ _,_=>False
def G9 (K:Zf)(H:Hp):List W->List V->Prop
 | [],xs=>xs=[]
 | w::ws,xs=>∃v vs,xs=v::vs/\Dt K H w v/\G9 K H ws vs
end
section
variable {X:Cx}{K:Zf}{H:Hp}{h:Gh}
theorem G9.len:∀{ws:List W}{xs:List V},G9 K H ws xs->ws.length=xs.length
 | [],xs,h=>by
  have e:=h;rw[e];rfl
 | w::ws,xs,h=>by
  obtain⟨v,vs,e,_,h⟩:=h;rw[e,Ea,Ea,G9.len h]
theorem G9.get:∀{ws:List W}{xs:List V}{i:Nat}{w:W},G9 K H ws xs->ws[i]?=Dn w->∃v,xs[i]?=Dn v/\Dt K H w v
 | a::ws,xs,0,w,h,e=>by
  obtain⟨v,vs,e1,r,_⟩:=h;grind
 | a::ws,xs,i+1,w,h,e=>by
  obtain⟨v,vs,e1,_,h⟩:=h;subst e1;obtain⟨u,h1,h2⟩:=G9.get h (by simpa using e)
  simp_all
theorem rA {n:Nat}(one:∀{w:W}{v:V},Zh K H μ w v->Aw n w=true->Dt K H w v):∀{ws:List W}{xs:List V},bA K H μ ws xs->ws.all (Aw n)=true->G9 K H ws xs
 | [],_,h,_=>by rwa[G9]
 | w::ws,_,h,p=>by
  obtain⟨v,vs,e,r,h⟩:=h;rw[Oz,GQ]at p;exact⟨v,vs,e,one r p.1,rA one h p.2⟩
theorem Ah:∀(n:Nat) {w:W}{v:V},Zh K H μ w v->Aw n w=true->Dt K H w v:=by
 intro n;induction n with
 | zero=>
  intro w v r p;cases w with
  | non|bl _|int _|str _=>rw[Zh]at r;exact r
  | _=>simp[Aw]at p
 | succ n ih=>
  intro w v r p;cases w with
  | non|bl _|int _|str _=>rw[Zh]at r;exact r
  | tup ws=>
   obtain⟨p',xs,e,hs,rs⟩:=r;exact⟨p',xs,e,hs,rA ih rs<|by simpa[Aw]using p⟩
  | lst ws=>
   obtain⟨p',xs,e,hs,rs⟩:=r;exact⟨p',xs,e,hs.sq,rA ih rs<|by simpa[Aw]using p⟩
  | _=>simp[Aw]at p
theorem sX:∀{a b:List W},a.length≠b.length->oh a b=false
 | [],_::_,_|_::_,[],_=>by simp[oh]
 | a::as,b::bs,h=>by
  rw[oh,sX (by simpa using h),Rh]
def Uc (a b:List W)(j:Nat):Bool:=Bk (a.getD j .non) (b.getD j .non)
theorem sY:∀{a b:List W},a.length=b.length->(LC a.length).all (Uc a b)=oh a b
 | [],[],_=>by simp[oh]
 | a::as,b::bs,h=>by
  rw[oh,<-sY (by simpa using h),Ea,List.range_succ_eq_map,Oz,List.all_map];rfl
mutual
theorem yK {afn:List (Addr×Obj)}{s:Mk}{U:St}(I:Yu X afn U H s):∀{w u:W}{v:V},Dt X.K H w v->Dt X.K H u v->Bk w u=true
 | .non,u,v,h,g=>by rw[Dt]at h;subst h;cases u<;>rw[Dt]at g<;>first|rfl|exact g.elim|(obtain⟨_,_,g,_⟩:=g;cases g;done)|(cases g;done)
 | .bl b,u,v,h,g=>by rw[Dt]at h;subst h;cases u<;>rw[Dt]at g<;>first|(injection g with g;simp[Bk,g];done)|exact g.elim|(obtain⟨_,_,g,_⟩:=g;cases g;done)|(cases g;done)
 | .int b,u,v,h,g=>by rw[Dt]at h;subst h;cases u<;>rw[Dt]at g<;>first|(injection g with g;simp[Bk,g];done)|exact g.elim|(obtain⟨_,_,g,_⟩:=g;cases g;done)|(cases g;done)
 | .str b,u,v,h,g=>by rw[Dt]at h;subst h;cases u<;>rw[Dt]at g<;>first|(injection g with g;simp[Bk,g];done)|exact g.elim|(obtain⟨_,_,g,_⟩:=g;cases g;done)|(cases g;done)
 | .tup ws,u,v,h,g=>by
  rw[Dt]at h;obtain⟨p,xs,e,hs,ds⟩:=h;subst e;cases u with
  | tup us=>
   rw[Dt]at g;obtain⟨p',xs',e',hs',ds'⟩:=g;cases e'
   have:=I.tuple_inj hs hs'
   subst this;rw[Bk];exact qz I ds ds'
  | lst us=>
   rw[Dt]at g;obtain⟨p',xs',e',hs',ds'⟩:=g;cases e'
   obtain⟨_,_,t,_⟩:=I.tuple hs;obtain⟨_,_,l,_⟩:=I.list hs';exact absurd rfl<|Ue l.isList<|show s.heap.IsTuple _ _ from t
  | ty _=>rw[Dt]at g;exact g.elim
  | loc _=>rw[Dt]at g;exact g.elim
  | kls _=>rw[Dt]at g;exact g.elim
  | _=>rw[Dt]at g;cases g
 | .lst ws,u,v,h,g=>by
  rw[Dt]at h;obtain⟨p,xs,e,hs,ds⟩:=h;subst e;cases u with
  | lst us=>
   rw[Dt]at g;obtain⟨p',xs',e',hs',ds'⟩:=g;cases e'
   have:=I.list_inj hs hs'
   subst this;rw[Bk];exact qz I ds ds'
  | tup us=>
   rw[Dt]at g;obtain⟨p',xs',e',hs',ds'⟩:=g;cases e'
   obtain⟨_,_,t,_⟩:=I.tuple hs';obtain⟨_,_,l,_⟩:=I.list hs;exact absurd rfl<|Ue l.isList<|show s.heap.IsTuple _ _ from t
  | ty _=>rw[Dt]at g;exact g.elim
  | loc _=>rw[Dt]at g;exact g.elim
  | kls _=>rw[Dt]at g;exact g.elim
  | _=>rw[Dt]at g;cases g
 | .ty _,_,_,h,_=>by rw[Dt]at h;exact h.elim
 | .loc _,_,_,h,_=>by rw[Dt]at h;exact h.elim
 | .exc _,_,_,h,_=>by rw[Dt]at h;exact h.elim
 | .exa _ _,_,_,h,_=>by rw[Dt]at h;exact h.elim
 | .kls _,_,_,h,_=>by rw[Dt]at h;exact h.elim
theorem qz {afn:List (Addr×Obj)}{s:Mk}{U:St}(I:Yu X afn U H s):∀{ws us:List W}{vs:List V},G9 X.K H ws vs->G9 X.K H us vs->oh ws us=true
 | [],us,vs,h,g=>by
  rw[G9]at h;subst h;cases us with
  | nil=>rfl
  | cons _ _=>rw[G9]at g;obtain⟨_,_,g,_⟩:=g;cases g
 | w::ws,us,vs,h,g=>by
  rw[G9]at h;obtain⟨v,vs',e,h1,h2⟩:=h;subst e;cases us with
  | nil=>rw[G9]at g;cases g
  | cons u us=>
   rw[G9]at g;obtain⟨v',vs'',e',g1,g2⟩:=g;cases e'
   rw[oh,yK I h1 g1,qz I h2 g2];rfl
end
theorem zbz {n:Nat}(h:Aw n (.tup ws)=true):∃m,n=m+1/\ws.all (Aw m)=true:=by
 cases n with
 | zero=>simp[Aw]at h
 | succ m=>exact⟨m,rfl,by simpa[Aw]using h⟩
theorem adK {n:Nat}(h:Aw n (.lst ws)=true):∃m,n=m+1/\ws.all (Aw m)=true:=by
 cases n with
 | zero=>simp[Aw]at h
 | succ m=>exact⟨m,rfl,by simpa[Aw]using h⟩
theorem zG {s:Mk}{A:BP}{n:Nat}{us:List W}{xs ys:List V}{its jts:List JI}(d1:G9 K H ws xs)(d2:G9 K H us ys)(p1:ws.all (Aw n)=true)(p2:us.all (Aw n)=true)(r1:kI xs its)(r2:kI ys jts)
  (one:∀{w u:W}{v x:V}{a b:JI},Dt K H w v->Dt K H u x->Aw n w=true->Aw n u=true->RelV v a->RelV x b->Pb A s a b (Bk w u)) :
  ∀j (h1:j<its.toArray.size) (h2:j<jts.toArray.size),Pb A s its.toArray[j] jts.toArray[j] (Uc ws us j):=by
 intro j h1 h2;have l1:j<ws.length:=by rw[d1.len,r1.length];simpa using h1
 have l2:j<us.length:=by rw[d2.len,r2.length];simpa using h2
 obtain⟨v,ev,dv⟩:=d1.get (GF l1);obtain⟨x,ex,dx⟩:=d2.get (GF l2);obtain⟨a,ea,ra⟩:=r1.get ev;obtain⟨b,eb,rb⟩:=r2.get ex;have ea':its.toArray[j]=a:=by simpa using(HY.mp ea).2
 have eb':jts.toArray[j]=b:=by simpa using(HY.mp eb).2
 have e:Uc ws us j=Bk ws[j] us[j]:=by
  unfold Uc
  simp_all
 rw[ea',eb',e];exact one dv dx (IK.mp p1 _<|OJ l1) (IK.mp p2 _<|OJ l2) ra rb
theorem size_of {xs:List V}{its:List JI}(d:G9 K H ws xs)(r:kI xs its):its.toArray.size=ws.length:=by
 rw[d.len,r.length];simp
theorem acY {us:List W}:((LC (min ws.length us.length)).all (Uc ws us)&&ws.length==us.length)=oh ws us:=by
 by_cases e:ws.length=us.length
 rw[<-e,Nat.min_self,sY e];simp;rw[sX e,(beq_eq_false_iff_ne.mpr e),Rh]
inductive Kd (s:Mk):W->JI->Prop where
 | non:Kd s .non .none
 | bl (b:Bool):Kd s (.bl b) (.bool b)
 | int (i:Int) (t:Tok):Kd s (.int i) (.int i t)
 | str (x:Str) (t:Tok):Kd s (.str x) (.str x t)
 | tup (ws:List W) {p:Addr}{its:Array JI}(q:s.heap.IsTuple p its):Kd s (.tup ws) (.ref p)
 | lst (ws:List W) {p:Addr}{its:Array JI}(q:s.heap.IsList p its):Kd s (.lst ws) (.ref p)
theorem uJ {afn:List (Addr×Obj)}{s:Mk}{U:St}(I:Yu X afn U H s){w:W}{v:V}{a:JI}(d:Dt X.K H w v)(r:RelV v a):Kd s w a:=by
 cases w with
 | non=>rw[Dt]at d;subst d;cases r;exact .non
 | bl b=>rw[Dt]at d;subst d;cases r;exact .bl b
 | int b=>rw[Dt]at d;subst d;obtain⟨t,rfl⟩:=r;exact .int b t
 | str b=>rw[Dt]at d;subst d;obtain⟨t,rfl⟩:=r;exact .str b t
 | tup ws=>rw[Dt]at d;obtain⟨p,xs,e,hs,_⟩:=d;subst e;cases r;obtain⟨its,_,q,_⟩:=I.tuple hs;exact .tup ws q
 | lst ws=>rw[Dt]at d;obtain⟨p,xs,e,hs,_⟩:=d;subst e;cases r;obtain⟨its,_,q,_⟩:=I.list hs;exact .lst ws q.isList
 | _=>rw[Dt]at d;exact d.elim
def sq1:W->Bool
 | .tup _=>true
 | .lst _=>true
 | _=>false
def qG:W->W->Bool
 | .tup _,.tup _=>true
 | .lst _,.lst _=>true
 | _,_=>false
def V3 (w u:W):Bool:=!(sq1 w||sq1 u)
open SeqAt.EqAt in
theorem J2 {s:Mk}{A:BP}{w u:W}{a b:JI}(hu:A.units<HD)(k1:Kd s w a)(k2:Kd s u b)(h:qG w u=false)(f:V3 w u=false):Pb A s a b (Bk w u):=by
 cases k1<;>cases k2<;>try (first|(cases h;done)|(cases f;done))
 apply none_tuple<;>assumption
 apply none_list<;>assumption
 apply bool_tuple<;>assumption
 apply bool_list<;>assumption
 apply int_tuple<;>assumption
 apply int_list<;>assumption
 apply str_tuple<;>assumption
 apply str_list<;>assumption
 apply tuple_none<;>assumption
 apply tuple_bool<;>assumption
 apply tuple_int<;>assumption
 apply tuple_str<;>assumption
 apply tuple_list<;>assumption
 apply list_none<;>assumption
 apply list_bool<;>assumption
 apply list_int<;>assumption
 apply list_str<;>assumption
 apply list_tuple<;>assumption
open SeqAt.RcAt in
theorem aeb {s:Mk}{A:BP}{w u:W}{a b:JI}(hu:A.units<HD)(k1:Kd s w a)(k2:Kd s u b)(h:qG w u=false):SeqAt.RcAt A s a b (Bk w u):=by
 cases k1<;>cases k2<;>try (first|(cases h;done))
 apply none_none<;>assumption
 apply none_bool<;>assumption
 apply none_int<;>assumption
 apply none_str<;>assumption
 apply none_tuple<;>assumption
 apply none_list<;>assumption
 apply bool_none<;>assumption
 apply bool_bool<;>assumption
 apply bool_int<;>assumption
 apply bool_str<;>assumption
 apply bool_tuple<;>assumption
 apply bool_list<;>assumption
 apply int_none<;>assumption
 apply int_bool<;>assumption
 apply int_int<;>assumption
 apply int_str<;>assumption
 apply int_tuple<;>assumption
 apply int_list<;>assumption
 apply str_none<;>assumption
 apply str_bool<;>assumption
 apply str_int<;>assumption
 apply str_str<;>assumption
 apply str_tuple<;>assumption
 apply str_list<;>assumption
 apply tuple_none<;>assumption
 apply tuple_bool<;>assumption
 apply tuple_int<;>assumption
 apply tuple_str<;>assumption
 apply tuple_list<;>assumption
 apply list_none<;>assumption
 apply list_bool<;>assumption
 apply list_int<;>assumption
 apply list_str<;>assumption
 apply list_tuple<;>assumption
open SeqAt.RcNeAt in
theorem acw {s:Mk}{A:BP}{w u:W}{a b:JI}(hu:A.units<HD)(k1:Kd s w a)(k2:Kd s u b)(h:qG w u=false):SeqAt.RcNeAt A s a b (!Bk w u):=by
 cases k1<;>cases k2<;>try (first|(cases h;done))
 apply none_none<;>assumption
 apply none_bool<;>assumption
 apply none_int<;>assumption
 apply none_str<;>assumption
 apply none_tuple<;>assumption
 apply none_list<;>assumption
 apply bool_none<;>assumption
 apply bool_bool<;>assumption
 apply bool_int<;>assumption
 apply bool_str<;>assumption
 apply bool_tuple<;>assumption
 apply bool_list<;>assumption
 apply int_none<;>assumption
 apply int_bool<;>assumption
 apply int_int<;>assumption
 apply int_str<;>assumption
 apply int_tuple<;>assumption
 apply int_list<;>assumption
 apply str_none<;>assumption
 apply str_bool<;>assumption
 apply str_int<;>assumption
 apply str_str<;>assumption
 apply str_tuple<;>assumption
 apply str_list<;>assumption
 apply tuple_none<;>assumption
 apply tuple_bool<;>assumption
 apply tuple_int<;>assumption
 apply tuple_str<;>assumption
 apply tuple_list<;>assumption
 apply list_none<;>assumption
 apply list_bool<;>assumption
 apply list_int<;>assumption
 apply list_str<;>assumption
 apply list_tuple<;>assumption
theorem uD:∀{w u:W},qG w u=true->(∃ws us,w=.tup ws/\u=.tup us)\/∃ws us,w=.lst ws/\u=.lst us
 | .tup ws,.tup us,_=>.inl ⟨ws,us,rfl,rfl⟩
 | .lst ws,.lst us,_=>.inr ⟨ws,us,rfl,rfl⟩
def wV:V->W
 | .bl b=>.bl b
 | .int b=>.int b
 | .str b=>.str b
 | _=>.non
theorem Wj {v x:V}(h:mR v=true)(g:mR x=true):Bk (wV v) (wV x)=NZ v x:=by
 cases v<;>first|(cases h;done)|(cases x<;>first|(cases g;done)|rfl)
theorem Kr {w:W}{v:V}(d:Dt K H w v)(h:sq1 w=false):mR v=true/\w=wV v:=by
 cases w with
 | tup _|lst _=>cases h
 | non|bl _|int _|str _=>rw[Dt]at d;subst d;exact⟨rfl,rfl⟩
 | _=>rw[Dt]at d;cases d
theorem Ko {s:Mk}{A:BP}{w u:W}{v x:V}{a b:JI}(dw:Dt K H w v)(du:Dt K H u x)(hf:V3 w u=true)(ra:RelV v a)(rb:RelV x b):Pb A s a b (Bk w u):=by
 have hf:=Bool.or_eq_false_iff.mp (Eq.mp (Bool.not_eq_true' _) hf);have⟨f1,e1⟩:=Kr dw hf.1;have⟨f2,e2⟩:=Kr du hf.2;rw[e1,e2,Wj f1 f2];exact J1 ra rb f1 f2
theorem JD {afn:List (Addr×Obj)}{s:Mk}{U:St}(I:Yu X afn U H s){n:Nat}{A:BP}{w u:W}{v x:V}{a b:JI}(ih:∀{w u:W}{v x:V}{a b:JI},Dt X.K H w v->Dt X.K H u x->Aw n w=true->Aw n u=true->RelV v a->RelV x b->Pb A.in1 s a b (Bk w u))(hu:A.units<HD)(h2:qG w u=true)(dw:Dt X.K H w v)(du:Dt X.K H u x)(pw:Aw (n+1) w=true)(pu:Aw (n+1) u=true)(ra:RelV v a)(rb:RelV x b):∃p q,v=.ref p/\x=.ref q/\a=.ref p/\b=.ref q/\SeqAt.RcAt A s a b (Bk w u)/\SeqAt.RcNeAt A s a b (!Bk w u):=by
 rcases uD h2 with⟨ws,us,rfl,rfl⟩|⟨ws,us,rfl,rfl⟩<;>obtain⟨p,xs1,rfl,hs1,ds1⟩:=dw<;>obtain⟨q,xs2,rfl,hs2,ds2⟩:=du<;>cases ra<;>cases rb<;>refine⟨p,q,rfl,rfl,rfl,rfl,?_⟩<;>rw[Bk]<;>rw[Aw]at pw pu
 obtain⟨its1,rv1,q1,_⟩:=I.tuple hs1;obtain⟨its2,rv2,q2,_⟩:=I.tuple hs2;have it:=zG ds1 ds2 pw pu rv1 rv2 ih;rw[<-acY,<-size_of ds1 rv1,<-size_of ds2 rv2];exact⟨.tuples q1 q2 hu it,.tuples q1 q2 hu it⟩;obtain⟨its1,rv1,q1,_⟩:=I.list hs1;obtain⟨its2,rv2,q2,_⟩:=I.list hs2;by_cases hl:ws.length=us.length
 have it:=zG ds1 ds2 pw pu rv1 rv2 ih;have e:its1.toArray.size=its2.toArray.size:=by rw[size_of ds1 rv1,size_of ds2 rv2,hl]
 rw[<-sY hl,<-size_of ds1 rv1];exact⟨.lists q1.isList q2.isList e hu it,.lists q1.isList q2.isList e hu it⟩;rw[sX hl];have e:(its1.toArray.size != its2.toArray.size)=true:=by rw[size_of ds1 rv1,size_of ds2 rv2];exact bne_iff_ne.mpr hl
 exact⟨.lists_lengths q1.isList q2.isList e hu,.lists_lengths q1.isList q2.isList e hu⟩
theorem Et {w u:W}(h:qG w u=true):∀{n:Nat},Aw n w=true->∃m,n=m+1
 | 0,p=>by rcases uD h with⟨_,_,rfl,_⟩|⟨_,_,rfl,_⟩<;>cases p
 | m+1,_=>⟨m,rfl⟩
theorem UG {afn:List (Addr×Obj)}{s:Mk}{U:St}(I:Yu X afn U H s):∀(n:Nat) {A:BP}{w u:W}{v x:V}{a b:JI},A.units+n<HD->Dt X.K H w v->Dt X.K H u x->Aw n w=true->Aw n u=true->RelV v a->RelV x b->Pb A s a b (Bk w u):=by
 intro n;induction n with
 | zero=>
  intro A w u v x a b hu dw du pw pu ra rb;by_cases hf:V3 w u=true
  exact Ko dw du hf ra rb;by_cases h2:qG w u=true
  obtain⟨m,e⟩:=Et h2 pw;cases e;exact J2 hu (uJ I dw ra) (uJ I du rb) (SJ _ ▸ h2)<|SJ _ ▸ hf
 | succ n ih=>
  intro A w u v x a b hu dw du pw pu ra rb;by_cases hf:V3 w u=true
  exact Ko dw du hf ra rb;by_cases h2:qG w u=true
  obtain⟨p,q,rfl,rfl,rfl,rfl,z,_⟩:=JD I (ih (by rw[Nat.add_assoc,Nat.add_comm 1];exact hu)) (R0 (S9 _ _) hu) h2 dw du pw pu ra rb;by_cases hp:p=q
  subst hp;rw[yK I dw du];exact SeqAt.EqAt.same _;exact SeqAt.EqAt.of_refs hp z;exact J2 (R0 (S9 _ _) hu) (uJ I dw ra) (uJ I du rb) (SJ _ ▸ h2)<|SJ _ ▸ hf
theorem rcN {afn:List (Addr×Obj)}{s:Mk}{U:St}(I:Yu X afn U H s){A:BP}{w u:W}{v x:V}{a b:JI}{p:Prop}(hu:A.units+(m+1)<HD)(hu':A.units<HD)(h2:qG w u=true)(dw:Dt X.K H w v)(du:Dt X.K H u x)(pw:Aw (m+1) w=true)(pu:Aw (m+1) u=true)(ra:RelV v a)(rb:RelV x b)(f:SeqAt.RcAt A s a b (Bk w u)/\SeqAt.RcNeAt A s a b (!Bk w u)->p):p:=by
 obtain⟨_,_,_,_,_,_,z⟩:=JD I (UG I m (by rw[Nat.add_assoc,Nat.add_comm 1];exact hu)) hu' h2 dw du pw pu ra rb;exact f z
theorem Wm {afn:List (Addr×Obj)}{s:Mk}{U:St}(I:Yu X afn U H s)(n:Nat){A:BP}{w u:W}{v x:V}{a b:JI}(hu:A.units+n<HD)(dw:Dt X.K H w v)(du:Dt X.K H u x)(pw:Aw n w=true)(pu:Aw n u=true)(ra:RelV v a)(rb:RelV x b):SeqAt.RcAt A s a b (Bk w u):=by
 have hu':=R0 (S9 _ _) hu;by_cases h2:qG w u=true
 obtain⟨m,rfl⟩:=Et h2 pw;exact rcN I hu hu' h2 dw du pw pu ra rb (·.1);exact aeb hu' (uJ I dw ra) (uJ I du rb)<|SJ _ ▸ h2
theorem acp {afn:List (Addr×Obj)}{s:Mk}{U:St}(I:Yu X afn U H s)(n:Nat){A:BP}{w u:W}{v x:V}{a b:JI}(hu:A.units+n<HD)(dw:Dt X.K H w v)(du:Dt X.K H u x)(pw:Aw n w=true)(pu:Aw n u=true)(ra:RelV v a)(rb:RelV x b):SeqAt.RcNeAt A s a b (!Bk w u):=by
 have hu':=R0 (S9 _ _) hu;by_cases h2:qG w u=true
 obtain⟨m,rfl⟩:=Et h2 pw;exact rcN I hu hu' h2 dw du pw pu ra rb (·.2);exact acw hu' (uJ I dw ra) (uJ I du rb)<|SJ _ ▸ h2
def pO (h:Gh):W->Option W
 | .loc n=>(match h.c n with
  | some (.lst ws)=>Dn (.lst ws)
  | _=>Go)
 | w=>Dn w
theorem mX {w d:W}{v:V}{n:Nat}(R:Ax K μ H h)(r:Zh K H μ w v)(e:pO h w=Dn d)(p:Aw n d=true):Dt K H d v:=by
 have other:pO h w=Dn w->Dt K H d v:=λz=>by
  rw[z]at e;cases e;exact Ah n r p
 cases w with
 | loc m=>
  unfold pO at e;dsimp only at e;cases ec:h.c m with
  | none=>rw[ec]at e;cases e
  | some cl=>
   rw[ec]at e;cases cl with
   | lst us=>
    cases e;obtain⟨p',xs,hm',hx,rs⟩:=R.lstAt ec;obtain⟨q,ev,hm⟩:=r;cases by rw[hm]at hm';exact(Ge hm').symm
    obtain⟨k,rfl,p⟩:=adK p;exact⟨p',xs,ev,.of hx,rA (Ah k) rs p⟩
   | _=>cases e
 | _=>exact other rfl
def Y8 (K:Zf)(neg:Bool):R2:=λx y H Q=>∃w u,Dt K H w x/\Dt K H u y/\Aw 30 w=true/\Aw 30 u=true/\Q (.bl (if neg then !Bk w u else Bk w u)) H
theorem JZ (hu:X.A.units+30<HD):G4 X (HB .Eq) (Y8 X.K false):=by
 intro afn s U H x y v u Q I rx ry ⟨w,w',d1,d2,p1,p2,q⟩;exact Wm I 30 hu d1 d2 p1 p2 rx ry _ _ _ _<|K8 I q rfl
theorem La (hu:X.A.units+30<HD):G4 X (HB .NotEq) (Y8 X.K true):=by
 intro afn s U H x y v u Q I rx ry ⟨w,w',d1,d2,p1,p2,q⟩;exact acp I 30 hu d1 d2 p1 p2 rx ry _ _ _ _<|K8 I q rfl
def Jj:M2:=λx y h Q=>match pO h x,pO h y with
 | some a,Dn b=>Ec (Aw 30 a&&Aw 30 b) (Q (.bl (Bk a b)) h) False
 | _,_=>False
def Ji:M2:=λx y h Q=>match pO h x,pO h y with
 | some a,Dn b=>Ec (Aw 30 a&&Aw 30 b) (Q (.bl (!Bk a b)) h) False
 | _,_=>False
theorem IV (hu:X.A.units+30<HD):Hf X (HB .Eq) Jj:=⟨_,JZ hu,by
 intro H μ h x y wx wy Qw Q R rx ry m k;unfold Jj at m;split at m
 rename_i a b ea eb;cases hp:(Aw 30 a&&Aw 30 b)with
 | true=>
  rw[hp]at m;rw[GQ]at hp;exact⟨a,b,mX R rx ea hp.1,mX R ry eb hp.2,hp.1,hp.2,k _ _<|.bl R m⟩
 | false=>rw[hp]at m;cases m
 cases m⟩
theorem vC (hu:X.A.units+30<HD):Hf X (HB .NotEq) Ji:=⟨_,La hu,by
 intro H μ h x y wx wy Qw Q R rx ry m k;unfold Ji at m;split at m
 rename_i a b ea eb;cases hp:(Aw 30 a&&Aw 30 b)with
 | true=>
  rw[hp]at m;rw[GQ]at hp;exact⟨a,b,mX R rx ea hp.1,mX R ry eb hp.2,hp.1,hp.2,k _ _<|.bl R m⟩
 | false=>rw[hp]at m;cases m
 cases m⟩
theorem jM {A:BP}{k:Nat}(hr:lg k A):A.units+30<HD:=by have:=hr.units;lia
end
section
variable {X:Cx}{K:Zf}
theorem lE {H:Hp}{w:W}{vs:List V}(r:bA K H μ [w] vs):∃v,vs=[v]/\Zh K H μ w v:=by
 obtain⟨v,vr,ev,ra,r⟩:=r;subst r;grind
theorem Fe {H:Hp}{w u:W}{vs:List V}(r:bA K H μ [w,u] vs):∃v x,vs=[v,x]/\Zh K H μ w v/\Zh K H μ u x:=by
 obtain⟨v,vr,ev,ra,r⟩:=r;obtain⟨x,e,rb⟩:=lE r;grind
theorem sJ.of {i j:Int}{n:Nat}(hi:Sm m i)(hj:Sm n j)(hm:m<=1000000)(hn:n<=1000000):sJ i j:=⟨m,n,hm,hn,hi,hj⟩
theorem Sm.lit {i:Int}(h:Nat.ble (i.natAbs+1) (2^64)=true):Sm 64 i:=by
 have:=Ho h
 assumption
def Bb:MC:=λws h Q=>match ws with
 | [w]=>(match view h w with
  | some xs=>Q (.int (xs.length:Int)) h
  | none=>False)
 | _=>False
theorem cX:nY X (.builtin "len") Bb:=⟨_,vd,by
 intro H μ h vs ws Qw Q R r m k;unfold Bb at m;split at m
 split at m
 rename_i w _ xs ev;obtain⟨v,e,rv⟩:=lE r;obtain⟨p,ys,ex,hs,rs⟩:=uw R rv ev;subst e ex;exact⟨p,ys,rfl,hs,rs.len ▸ k _ _ (.int R m)⟩;cases m;cases m⟩
def Zz:MC:=λws h Q=>match ws with
 | [.int i]=>Q (.int (if i<0 then -i else i)) h
 | _=>False
def Gy:List W->Option (List Bool)
 | []=>Dn []
 | .bl b::ws=>(Gy ws).map (b::·)
 | _=>Go
theorem xu {H:Hp}{μ:Mu}:∀{ws:List W}{xs:List V}{bs:List Bool},bA K H μ ws xs->Gy ws=Dn bs->xs=bs.map V.bl
 | [],xs,bs,r,e=>by
  cases e;exact r
 | w::ws,xs,bs,r,e=>by
  obtain⟨v,vr,ev,ra,r⟩:=r;cases w with
  | bl b=>
   rw[Gy]at e;cases q:Gy ws with
   | none=>rw[q]at e;cases e
   | some cs=>
    rw[q]at e;cases e;rw[ev,ra,xu r q];rfl
  | _=>cases e
def QK:MC:=λws h Q=>match ws with
 | [w]=>(match cU h w with
  | some us=>(match Gy us with
   | some bs=>Q (.bl (bs.all id)) h
   | none=>False)
  | none=>False)
 | _=>False
theorem Ua (hc:X.calm=true):nY X (.builtin "all") QK:=⟨_,aaE hc,by
 intro H μ h vs ws Qw Q R r m k;unfold QK at m;split at m
 split at m
 split at m
 rename_i w _ us ev _ bs eb;obtain⟨v,e,rv⟩:=lE r;obtain⟨p,ys,ex,hs,rs⟩:=dH R rv ev;subst e ex;exact⟨p,bs,rfl,xu rs eb ▸ hs,k _ _<|.bl R m⟩;cases m;cases m;cases m⟩
def GD (h:Gh)(w:W)(T:String):Option Bool:=match w with
 | .int _=>if T = "int" then Dn true else if T = "bool"\/T = "tuple"\/T = "list" then Dn false else Go
 | .bl _=>if T = "int"\/T = "bool" then Dn true else if T = "tuple"\/T = "list" then Dn false else Go
 | .str _=>if T = "int"\/T = "bool"\/T = "tuple"\/T = "list" then Dn false else Go
 | .non=>if T = "int"\/T = "bool"\/T = "tuple"\/T = "list" then Dn false else Go
 | .tup _=>if T = "tuple" then Dn true else if T = "int"\/T = "bool"\/T = "list" then Dn false else Go
 | w=>(match cU h w with
  | some _=>if T = "list" then Dn true else if T = "int"\/T = "bool"\/T = "tuple" then Dn false else Go
  | none=>Go)
theorem adI {H:Hp}{h:Gh}{w:W}{v:V}{T:String}{b:Bool}(R:Ax K μ H h)(r:Zh K H μ w v)(e:GD h w T=Dn b):Zg K H v T b:=by
 unfold GD at e;split at e
 subst r;split at e
 rename_i t;subst t;cases e;exact .inl ⟨rfl,rfl⟩;split at e
 rename_i t;cases e;rcases t with t|t|t<;>subst t
 exact .inr<|.inl ⟨rfl,rfl⟩
 exact .inr<|.inr<|.inl ⟨rfl,rfl⟩
 exact .inr<|.inr<|.inr ⟨rfl,rfl⟩
 cases e;subst r;split at e
 rename_i t;cases e;rcases t with t|t<;>subst t
 exact .inl ⟨rfl,rfl⟩;exact .inr<|.inl ⟨rfl,rfl⟩
 split at e
 rename_i t;cases e;rcases t with t|t<;>subst t
 exact .inr<|.inr<|.inl ⟨rfl,rfl⟩
 exact .inr<|.inr<|.inr ⟨rfl,rfl⟩
 cases e;subst r;split at e
 rename_i t;cases e;rcases t with t|t|t|t<;>subst t
 exact .inl ⟨rfl,rfl⟩;exact .inr<|.inl ⟨rfl,rfl⟩
 exact .inr<|.inr<|.inl ⟨rfl,rfl⟩
 exact .inr<|.inr<|.inr ⟨rfl,rfl⟩
 cases e;subst r;split at e
 rename_i t;cases e;rcases t with t|t|t|t<;>subst t
 exact .inl ⟨rfl,rfl⟩;exact .inr<|.inl ⟨rfl,rfl⟩
 exact .inr<|.inr<|.inl ⟨rfl,rfl⟩
 exact .inr<|.inr<|.inr ⟨rfl,rfl⟩
 cases e;obtain⟨p,xs,ev,hs,_⟩:=r;subst ev;refine .inl ⟨xs,hs,?_⟩;split at e
 rename_i t;subst t;cases e;exact .inr (.inr (.inl ⟨rfl,rfl⟩));split at e
 rename_i t;cases e;rcases t with t|t|t<;>subst t
 exact .inl ⟨rfl,rfl⟩;exact .inr<|.inl ⟨rfl,rfl⟩
 exact .inr<|.inr<|.inr ⟨rfl,rfl⟩
 cases e;split at e
 rename_i ws ev;obtain⟨p,xs,ex,hs,_⟩:=dH R r ev;subst ex;refine .inr ⟨xs,hs,?_⟩;split at e
 rename_i t;subst t;cases e;exact .inr (.inr (.inr ⟨rfl,rfl⟩));split at e
 rename_i t;cases e;rcases t with t|t|t<;>subst t
 exact .inl ⟨rfl,rfl⟩;exact .inr<|.inl ⟨rfl,rfl⟩
 exact .inr<|.inr<|.inl ⟨rfl,rfl⟩
 cases e;cases e
def JX:MC:=λws h Q=>match ws with
 | [w,.ty T]=>(match GD h w T with
  | some b=>Q (.bl b) h
  | none=>False)
 | _=>False
theorem Jk:nY X (.builtin "isinstance") JX:=⟨_,abm,by
 intro H μ h vs ws Qw Q R r m k;unfold JX at m;split at m
 split at m
 rename_i w T _ b eb;obtain⟨v,x,e,rv,rx⟩:=Fe r;subst e rx;exact⟨v,T,b,rfl,(adI R rv eb),k _ _<|.bl R m⟩;cases m;cases m⟩
def yc:MC:=λws h Q=>match ws with
 | [.tup us]=>Q (.tup us) h
 | [w]=>(match cU h w with
  | some us=>Q (.tup us) h
  | none=>False)
 | _=>False
theorem acO:nY X (.type "tuple") yc:=⟨_,ug,by
 intro H μ h vs ws Qw Q R r m k;unfold yc at m;split at m
 obtain⟨v,e,rv⟩:=lE r;have rv':=rv;obtain⟨p,xs,ex,hs,rs⟩:=rv;subst e ex;exact⟨p,xs,rfl,.inr ⟨hs,k _ _ ⟨μ,_,h,.refl,R,rv',m⟩⟩⟩;split at m
 rename_i w _ _ us ev;obtain⟨v,e,rv⟩:=lE r;obtain⟨p,ys,ex,hs,rs⟩:=dH R rv ev;subst e ex;exact⟨p,ys,rfl,.inl ⟨hs,λl hl=>k _ _ ⟨μ,_,h,(Ex.laid hl).ext,R.laid hl,.tupNew hl rs,m⟩⟩⟩;cases m;cases m⟩
def vK:MC:=λws h Q=>match ws with
 | [w]=>(match view h w with
  | some us=>Q (.loc h.nx) (h.new (.lst us))
  | none=>False)
 | _=>False
theorem abU:nY X (.type "list") vK:=⟨_,uT,by
 intro H μ h vs ws Qw Q R r m k;unfold vK at m;split at m
 split at m
 rename_i w _ xs ev;obtain⟨v,e,rv⟩:=lE r;obtain⟨p,ys,ex,hs,rs⟩:=uw R rv ev;subst e ex;exact⟨p,ys,rfl,hs,λl hl=>k _ _ ⟨μ.put _ l,.loc _,h.new _,(Ex.newCell R hl).ext,Ed R hl rs,⟨l,rfl,Mu.put_same⟩,m⟩⟩;cases m;cases m⟩
abbrev MM:=W->List W->Gh->WK->Prop
def Mv (K:Zf)(r:V->List V->Hp->VK->Prop)(mr:MM):Prop:=∀{H:Hp}{μ:Mu}{h:Gh}{x:V}{vs:List V}{wx:W}{ws:List W}{Qw:WK}{Q:VK},Ax K μ H h->Zh K H μ wx x->bA K H μ ws vs->mr wx ws h Qw->(∀v H',DQ K H μ Qw v H'->Q v H')->r x vs H Q
def Ar (h:Gh)(w:W)(P:Prop):Prop:=match w with
 | .loc n=>(match h.c n with
  | some (.lst _)=>P
  | _=>False)
 | _=>False
theorem oN {H:Hp}{h:Gh}{w:W}{v:V}{P:Prop}(R:Ax K μ H h)(r:Zh K H μ w v)(e:Ar h w P):tyV K "list" v H/\P:=by
 unfold Ar at e;split at e
 split at e
 rename_i n _ ws ec;obtain⟨p,ev,hm⟩:=r;obtain⟨p',xs,hm',hx,rs⟩:=R.lstAt ec;have ep:=by rw[hm]at hm';exact(Ge hm').symm
 subst ep ev;exact⟨.inl ⟨rfl,xs,.of hx⟩,e⟩;cases e;cases e
def zX (r:MM)(mo:ME)(ma:MA):ME:=λU h Q=>mo U h λx h1=>Ar h1 x (ma U h1 λxs h2=>r x xs h2 Q)
variable {o e:Expr}{es:List Expr}{ma:MA}{name:Str}{apos afq:Pos}{id:String}{r:V->List V->Hp->VK->Prop}{mr:MM}
theorem aag (slot:Slot "list" name id)(hty:typeOf (.builtin id)=pure (.type "method_descriptor"))(hm:ML X id r)(hs:Mv X.K r mr)(ho:DE X o mo)(ha:Gn X (e::es) ma)
  (hbase:Nt o name X.env (eval o X.env)=eval o X.env:=by rfl)
  (hfew:((Ef afq (Al (e::es) X.env)).all (λx=>!x.1)&&(Nh afq (Ni [] X.env)).all (λx=>x.1.isSome)
   && decide ((e::es).length+([]:List Hu).length+(if([]:List Hu).isEmpty then 0 else 1)<30))=true:=by rfl)
  (hline:(apos.endLine==afq.line)=true:=by rfl) (hst:Al (e::es) X.env=(false,eval e X.env)::Al es X.env:=by rfl) (hplain:(Ef afq (Al es X.env)).any (·.1)=false:=by rfl) :
  DE X (.Call (.Attribute o name apos) (e::es) [] afq) (zX mr mo ma):=(Qd PySem.F.plainAttrs_list slot hty hm ho ha hbase hfew hline hst hplain).of λU H Q ⟨μ,h,Uw,Qw,R,S,m,k⟩=>by
 exact⟨μ,h,Uw,_,R,S,m,λv H1 ⟨μ1,w,h1,e1,R1,r1,il⟩=>⟨(oN R1 r1 il).1,μ1,h1,Uw,_,R1,S.ext e1,((oN R1 r1 il).2),λvs H2 ⟨μ2,ws,h2,e2,R2,r2,m2⟩=>hs R2 (e2.r _ _ r1) r2 m2 λv H' z=>k _ _<|(z.trans e2).trans e1⟩⟩
def dO:MM:=λx ws h Q=>match x,ws with
 | .loc n,[w]=>(match h.c n with
  | some (.lst us)=>us.length<Bh/\Q .non (h.set n (.lst (us++[w])))
  | _=>False)
 | _,_=>False
theorem Tz {H:Hp}{h:Gh}{n:Nat}{v:V}{us:List W}(R:Ax K μ H h)(r:Zh K H μ (.loc n) v)(ec:h.c n=Dn (.lst us)):∃p xs,v=.ref p/\μ.f n=Dn p/\H p=Dn (.lst xs)/\bA K H μ us xs:=by
 obtain⟨p,ev,hm⟩:=r;obtain⟨p',xs,hm',hx,rs⟩:=R.lstAt ec;grind
theorem DQ.wrote {H:Hp}{h:Gh}{n:Nat}{p:Addr}{us:List W}{xs:List V}{Q:WK}{w:W}{v:V}(R:Ax K μ H h)(hm:μ.f n=Dn p)(rs:bA K H μ us xs)(rw':Zh K H μ w v)(q:Q w (h.set n (.lst us))):DQ K H μ Q v (CN H p (.lst xs)):=
 ⟨μ,w,h.set n (.lst us),(Ex.write R hm).ext,R.write hm trivial ⟨xs,bM,(Ex.write R hm).ext.s rs⟩,(Ex.write R hm).ext.r _ _ rw',q⟩
theorem yU:Mv K Bp dO:=by
 intro H μ h x vs wx ws Qw Q R rx rs m k;unfold dO at m;split at m
 split at m
 rename_i n w _ us ec;obtain⟨p,xs,ex,hm,hx,r1⟩:=Tz R rx ec;obtain⟨v,ev,rv⟩:=lE rs;exact⟨p,xs,v,ex,ev,hx,r1.len ▸ m.1,k _ _<|.wrote R hm (r1.append<|.one rv) (by rw[Zh]) m.2⟩;cases m;cases m
theorem fJ (ho:DE X o mo)(ha:Gn X [e] ma)
  (hbase:Nt o "append" X.env (eval o X.env)=eval o X.env:=by rfl)
  (hfew:((Ef afq (Al [e] X.env)).all (λx=>!x.1)&&(Nh afq (Ni [] X.env)).all (λx=>x.1.isSome)
   && decide (([e]:List Expr).length+([]:List Hu).length+(if([]:List Hu).isEmpty then 0 else 1)<30))=true:=by rfl)
  (hline:(apos.endLine==afq.line)=true:=by rfl) (hst:Al [e] X.env=(false,eval e X.env)::Al [] X.env:=by rfl) (hplain:(Ef afq (Al [] X.env)).any (·.1)=false:=by rfl) :
  DE X (.Call (.Attribute o "append" apos) [e] [] afq) (zX dO mo ma):=aag PySem.F.slot_list_append PySem.F.type_list_append pG yU ho ha hbase hfew hline hst hplain
end
section
variable {X:Cx}{K:Zf}
def TJ:W->Bool
 | .non=>true
 | _=>false
def kIs:M2:=λx y h Q=>match x,y with
 | .bl c,.bl b=>Q (.bl (c==b)) h
 | w,.non=>Q (.bl (TJ w)) h
 | _,_=>False
def Ys:M2:=λx y h Q=>match x,y with
 | .bl c,.bl b=>Q (.bl (!(c==b))) h
 | w,.non=>Q (.bl (!TJ w)) h
 | _,_=>False
theorem zan (bs:List Bool):((LC bs.length).any λi=>(bs[i]?).getD true)=bs.any id:=by
 rw[Rm,TK,TK];constructor;rintro⟨i,hi,e⟩;have hi':=Ri.mp hi;exact⟨bs[i],OJ hi',by simpa[hi']using e⟩;rintro⟨b,hb,e⟩;obtain⟨i,hi,rfl⟩:=List.mem_iff_getElem.mp hb;exact⟨i,Ri.mpr hi,by simpa[hi]using e⟩
theorem zas (hc:X.calm=true):gJ X (.builtin "any") (λxs H Q=>∃(p:Addr) (bs:List Bool),xs=[.ref p]/\Ez X.K H p (bs.map V.bl)/\Q (.bl (bs.any id)) H):=by
 intro afn s U H xs us Q I r ⟨p,bs,e,hS,q⟩;subst e;obtain⟨u,rfl,ru⟩:=vals1 r;cases ru;obtain⟨its,rv,pl,hz⟩:=I.list hS;have afp:its.length=bs.length:=by rw[<-rv.length,Ag]
 have hl:=pl.isList;refine call_any_walk<|TF hl ?_
 refine⟨s.heap.objs.size,[s.heap.objs.size,p],[s.heap.objs.size],its.toArray.size,_,_,λi=>(bs[i]?).getD true,rfl,Walks.list (A:=X.A.in1) (I.ok.hd hc) _ p (Cg (by obtain⟨_,e,_⟩:=hl;exact DK e)) _,
  ⟨⟨_,HJ _ rfl,rfl,rfl⟩,hl.push _⟩,λi v s' Q' E' hP hQ=>?_,λh' tk hk=>?_⟩
 obtain⟨b,e,rfl⟩:=pW rv (by simpa using hP);simp[e]at hQ;exact Sq hQ;have e:((LC its.toArray.size).any λi=>(bs[i]?).getD true)=bs.any id:=by
  rw[Ii,afp];exact zan bs
 rw[e];refine⟨.bl _,H,I.kept<|λb x e=>?_,rfl,q⟩;exact hk b x (λhm=>by rw[Fk.mp hm]at e;exact MH _ (DK e))<|Cm _ e
def Tj:MC:=λws h Q=>match ws with
 | [w]=>(match cU h w with
  | some us=>(match Gy us with
   | some bs=>Q (.bl (bs.any id)) h
   | none=>False)
  | none=>False)
 | _=>False
theorem Wh (hc:X.calm=true):nY X (.builtin "any") Tj:=⟨_,zas hc,by
 intro H μ h vs ws Qw Q R r m k;unfold Tj at m;split at m
 split at m
 split at m
 rename_i w _ us ev _ bs eb;obtain⟨v,e,rv⟩:=lE r;obtain⟨p,ys,ex,hs,rs⟩:=dH R rv ev;subst e ex;exact⟨p,bs,rfl,xu rs eb ▸ hs,k _ _<|.bl R m⟩;cases m;cases m;cases m⟩
def lA:W->Bool
 | .non=>true
 | .bl _=>true
 | .int _=>true
 | .str _=>true
 | _=>false
theorem KY {H:Hp}{w:W}{v:V}(r:Zh K H μ w v)(f:lA w=true):mR v=true:=by
 cases w<;>first|(subst r;rfl)|cases f
theorem Fy {H:Hp}{μ:Mu}:∀{ws:List W}{vs:List V},bA K H μ ws vs->ws.all lA=true->vs.all mR=true
 | [],_,r,_=>by subst r;rfl
 | w::ws,_,r,f=>by
  obtain⟨v,vs,e,r1,r2⟩:=r;subst e;rw[Oz,GQ]at f|-
  exact⟨KY r1 f.1,Fy r2 f.2⟩
theorem ZV {H:Hp}{w u:W}{v x:V}(r:Zh K H μ w v)(q:Zh K H μ u x)(f:lA w=true)(g:lA u=true):NZ v x=Bk w u:=by
 cases w<;>cases u<;>first
  | (subst r;subst q;rfl)
  | (cases f;done)
  | (cases g)
theorem Us {H:Hp}{μ:Mu}{u:W}{x:V}(q:Zh K H μ u x)(g:lA u=true):∀{ws:List W}{vs:List V},bA K H μ ws vs->ws.all lA=true->inV x vs=ws.any λw=>Bk w u
 | [],_,r,_=>by subst r;rfl
 | w::ws,_,r,f=>by
  obtain⟨v,vs,e,r1,r2⟩:=r;subst e;rw[Oz,GQ]at f;have:=Us q g r2 f.2
  unfold inV at this|-
  rw[Ob,Ob,this,ZV r1 q f.1 g]
def kIn:M2:=λx y h Q=>match view h y with
 | some ws=>Ec (lA x&&ws.all lA) (Q (.bl (ws.any λw=>Bk w x)) h) False
 | none=>False
theorem Zd:Hf X (HB .In) kIn:=⟨_,aaK,by
 intro H μ h x y wx wy Qw Q R rx ry m k;unfold kIn at m;split at m
 rename_i ws ev;obtain⟨p,xs,ey,hs,rs⟩:=uw R ry ev;cases hp:(lA wx&&ws.all lA)with
 | true=>
  rw[hp]at m;rw[GQ]at hp;exact⟨p,xs,ey,hs,KY rx hp.1,Fy rs hp.2,k _ _<|Us rx hp.1 rs hp.2 ▸ .bl R m⟩
 | false=>rw[hp]at m;cases m
 cases m⟩
theorem zaU:G4 X (Hx .Add) (λx y H Q=>∃a b ys,x=.ref a/\y=.ref b/\Fw X.K H a []/\Fw X.K H b ys/\Q (.ref b) H):=by
 intro afn s U H x y v u Q I rx ry ⟨a,b,ys,ex,ey,ha,hb,q⟩;subst ex ey;cases rx;cases ry;obtain⟨its,r1,p1,_⟩:=I.tuple ha;obtain⟨jts,r2,p2,_⟩:=I.tuple hb;cases r1;obtain⟨⟨cls,dd,data,sl⟩,ho,hc,n,hd⟩:=p1;obtain⟨⟨cls2,dd2,data2,sl2⟩,ho2,hc2,n2,hd2⟩:=p2;subst hc hd hc2 hd2;exact concat_meets ⟨_,ho,rfl⟩ ⟨_,ho2,rfl⟩ noFill_tuple_add seq_tuple_add PySem.F.slot_tuple_add PySem.F.entry_tuple_add (PySem.F.args_tuple_add_2 _ _)
  (tuple_addW0 a b _ _ n n2 dd dd2 sl sl2 (by simp)) ⟨ho,ho2,.ref b,H,I,rfl,q⟩
def Gx (h:Gh):W->Option (List W)
 | .lst ws=>Dn ws
 | .loc n=>(match h.c n with
  | some (.lst ws)=>Dn ws
  | _=>Go)
 | _=>Go
theorem uf {H:Hp}{h:Gh}{w:W}{v:V}(R:Ax K μ H h)(r:Zh K H μ w v)(e:Gx h w=Dn ws):∃p xs,v=.ref p/\H p=Dn (.lst xs)/\bA K H μ ws xs:=by
 cases w with
 | lst us=>
  obtain⟨p,xs,ev,hs,rs⟩:=r;cases e;exact⟨p,xs,ev,hs.1,rs⟩
 | loc n=>
  unfold Gx at e;dsimp only at e;cases ec:h.c n with
  | none=>rw[ec]at e;cases e
  | some cl=>
   rw[ec]at e;cases cl with
   | lst us=>
    cases e;obtain⟨p,xs,ev,_,hx,rs⟩:=Tz R r ec;grind
   | _=>cases e
 | _=>cases e
def cM:M2:=λx y h Q=>match x,y with
 | .int i,.int j=>Q (.int (i+j)) h
 | .tup [],.tup b=>Q (.tup b) h
 | .tup (a0::a),.tup b=>jN (a.length+1+b.length) (Q (.tup (a0::a++b)) h)
 | x,y=>(match Gx h x,Gx h y with
  | some a,Dn b=>jN (a.length+b.length) (Q (.lst (a++b)) h)
  | _,_=>False)
theorem cI:Hf X (Hx .Add) cM:=⟨_,(adL.or (zaU.or zbN)).or Kz,by
 intro H μ h x y wx wy Qw Q R rx ry m k;unfold cM at m;split at m
 exact .inl<|.inl ⟨_,_,rx,ry,k _ _<|.int R m⟩
 have ry':=ry;obtain⟨p,xs,ex,hx,r1⟩:=rx;obtain⟨q,ys,ey,hy,r2⟩:=ry;subst r1;rw[ey]at ry';exact .inl<|.inr<|.inl ⟨p,q,ys,ex,ey,hx,hy,k _ _ ⟨μ,_,h,.refl,R,ry',m⟩⟩
 rename_i a0 a b;have rx':=rx;obtain⟨p,xs,ex,hx,r1⟩:=rx;obtain⟨q,ys,ey,hy,r2⟩:=ry;refine .inl<|.inr<|.inr ⟨p,q,xs,ys,ex,ey,hx,hy,λz=>(by have:=r1.ne_nil.mp z;cases this),by rw[<-r1.len,<-r2.len];exact m.ok.1,λz=>?_,λz l hl=>?_⟩
 cases r2.ne_nil.mp z
 refine k _ _ ⟨μ,.tup _,h,.refl,R,?_,m.ok.2⟩
 rwa[RD,<-ex]
 exact k _ _ ⟨μ,_,h,(Ex.laid hl).ext,R.laid hl,.tupNew hl<|r1.append r2,m.ok.2⟩;split at m
 rename_i a b ea eb;obtain⟨p,xs,ex,hx,r1⟩:=uf R rx ea;obtain⟨q,ys,ey,hy,r2⟩:=uf R ry eb;exact .inr ⟨p,q,xs,ys,ex,ey,hx,hy,by rw[<-r1.len,<-r2.len];exact m.ok.1,λl hl=>k _ _ ⟨μ,_,h,(Ex.laid hl).ext,R.laid hl,.lstNew R hl<|r1.append r2,m.ok.2⟩⟩;cases m⟩
variable {o e:Expr}{ma:MA}{apos afq:Pos}
end
def Im (K:Zf):Sp:=λvs H Q _=>∃(a:Addr) (ns:List Int),vs=[.ref a]/\Ez K H a (ns.map V.int)/\Only H/\ns.length<=63/\∀H',Q (.bl true) H'
def g0:Gh:=⟨0,λ_=>Go⟩
def μ0:Mu:=⟨λ_=>Go,λ_=>False⟩
theorem YZ {K:Zf}{H:Hp}:Ax K μ0 H g0 where
 inj:=nofun
 dom:=nofun
 trk:=nofun
 cel:=nofun
 hd:=λp h=>Nq h
theorem vZ {K:Zf}{H:Hp}{μ:Mu}:∀ns:List Int,bA K H μ (ns.map W.int) (ns.map V.int)
 | []=>.nil
 | n::ns=>.cons (by rw[Zh]) (vZ ns)
theorem zbK {P:BK}{w:Av}{K:Zf}{mg:Str->Option JI}{base:Heap}{k:Nat}{f:Addr}{fd:DW}{ps:List Str}
  (hm:∀ns:List Int,ns.length<=63->ms [.kls (ns.map W.int)] g0 (λw _=>w=.bl true) EF) (F:eY P w K mg base Fl k f fd ps (lift K ms)):eY P w K mg base Fl k f fd ps (Im K):=
 F.imp λvs H Q E ⟨a,ns,e,hS,hO,hl,q⟩=>by
  subst e;refine⟨μ0,g0,[.kls _],_,YZ,.one ?_,hm ns hl,λv H' ⟨μ',w',h',_,_,r,e⟩=>?_⟩;refine⟨a,ns.map _,rfl,?_,vZ ns⟩;rcases hS with(hS|hS)|hS
  rcases hO a with z|⟨o,xs,z⟩<;>rw[hS]at z<;>cases z
  exact .inl hS;exact .inr hS;subst e r;exact q H'
inductive Sk where
 | l|t
def Sk.sq (k:Sk)(h:Heap)(a:Addr)(its:Array JI):Prop:=match k with
 | .l=>h.IsList a its
 | .t=>h.IsTuple a its
def Sk.it (k:Sk)(h:Heap)(i a:Addr)(n:Nat):Prop:=match k with
 | .l=>h.IsListIter i a n
 | .t=>h.IsTupleIter i a n
def Sk.nm:Sk->String
 | .l => "list_iterator"
 | .t => "tuple_iterator"
section
variable {P:BK}{w:Av}{A:BP}{E:JI->Mk->Prop}{s:Mk}{k k1 k2:Sk}
theorem Sk.it_at {h h':Heap}{i a:Addr}{n:Nat}(x:k.it h i a n)(e:∀o,h.get? i=Dn o->h'.get? i=Dn o):k.it h' i a n:=by
 cases k with
 | l|t=>obtain⟨o,ho,r⟩:=x;exact⟨o,e o ho,r⟩
theorem Sk.sq_at {h h':Heap}{a:Addr}{its:Array JI}(x:k.sq h a its)(e:∀o,h.get? a=Dn o->h'.get? a=Dn o):k.sq h' a its:=by
 cases k with
 | l|t=>obtain⟨o,ho,r⟩:=x;exact⟨o,e o ho,r⟩
theorem Sk.it_obj {h:Heap}{i a:Addr}{n:Nat}(x:k.it h i a n):∃o,h.get? i=Dn o/\o.cls=.type k.nm/\o.data=.fields #[.ref a,.int n 0]:=by
 cases k with
 | l|t=>exact x
theorem abQ {it t:Addr}{i:Nat}{its:Array JI}{x:JI}{Q:JI->Mk->Prop}(hi:s.heap.IsTupleIter it t i)(ht:s.heap.IsTuple t its)(hx:its[i]?=Dn x)
  (q:∀h',h'.IsTupleIter it t (i+1)->QC it s.heap h'->Q x {s with heap:=h'}):Ae (Ai P w) A (Qi (.ref it)) Q E s:=by
 obtain⟨o,go,gc,gd⟩:=id hi;obtain⟨ol,gol,_,nl,gdl⟩:=ht;refine Zr (RZ hi.typeIs Ut
  (RL Ut hi.typeIs PySem.F.entry_tuple_iterator_next ?_ (PySem.F.args_tuple_iterator_next_1 _)))
 show Ae _ _ (field _ 0 >>= _) _ _ s;refine Zr<|Hq go gd rfl<|Zr<|Hq go gd rfl<|Zr<|Q6 gol gdl ?_
 simp[hx];refine Zr<|Te go gd (by simp)<|CG ⟨x,rfl,CG<|q _ ?_<|Heap.SameBut.update ..⟩
 exact⟨_,Q9 _ go<|RX<|QD gd _,(Obj.cls_mapFields ..).trans gc,by rw[QD gd];simp[rawInt]⟩
theorem vX {it t:Addr}{i:Nat}{its:Array JI}{Q:JI->Mk->Prop}(hh:A.handled=Go)(hi:s.heap.IsTupleIter it t i)(ht:s.heap.IsTuple t its)(hx:its[i]?=Go)
  (q:∀h' e,Heap.ExtBut it s.heap h'->(∃o,h'.get? e=Dn o/\o.cls=.type "StopIteration")->E (.ref e) {s with heap:=h'}):Ae (Ai P w) A (Qi (.ref it)) Q E s:=by
 obtain⟨o,go,gc,gd⟩:=id hi;obtain⟨ol,gol,_,nl,gdl⟩:=ht;refine Zr (RZ hi.typeIs Ut
  (RL Ut hi.typeIs PySem.F.entry_tuple_iterator_next ?_ (PySem.F.args_tuple_iterator_next_1 _)))
 show Ae _ _ (field (.ref it) 0 >>= _) _ _ s;refine Zr<|Hq go gd rfl ?_
 refine Zr<|Hq go gd rfl ?_
 refine Zr<|Q6 gol gdl ?_
 simp only[Nr,hx];refine Zr<|wpAny_rule<|Zr<|Te go gd (by simp) ?_
 refine Zr ?_;refine Zr (m:=firstArgMember _ _)<|wpAny_of_eq (by first|rfl|(rfl)) ?_
 refine T8 ?_<|by size_fits
 refine Zr<|wpAny_handled ?_
 first|rw[hh]|rw[hh]
 refine Zr<|CG<|wpAny_throw ?_
 exact q _ _ (((Heap.SameBut.update ..).extBut.push _).push _) ⟨_,HJ _ rfl,rfl⟩
theorem Sk.next {it a:Addr}{i:Nat}{its:Array JI}{x:JI}{Q:JI->Mk->Prop}(hi:k.it s.heap it a i)(hs:k.sq s.heap a its)(hx:its[i]?=Dn x)
  (q:∀h',k.it h' it a (i+1)->QC it s.heap h'->Q x {s with heap:=h'}):Ae (Ai P w) A (Qi (.ref it)) Q E s:=by
 cases k with
 | l=>exact wpAny_nextOf_list_item hi hs hx q
 | t=>exact abQ hi hs hx q
theorem Sk.stop {it a:Addr}{i:Nat}{its:Array JI}{Q:JI->Mk->Prop}(hh:A.handled=Go)(hi:k.it s.heap it a i)(hs:k.sq s.heap a its)(hx:its[i]?=Go)
  (q:∀h' e,Heap.ExtBut it s.heap h'->(∃o,h'.get? e=Dn o/\o.cls=.type "StopIteration")->E (.ref e) {s with heap:=h'}):Ae (Ai P w) A (Qi (.ref it)) Q E s:=by
 cases k with
 | l=>exact wpAny_nextOf_list_end hh hi hs hx q
 | t=>exact vX hh hi hs hx q
theorem Sk.iter {a:Addr}{its:Array JI}{Q:JI->Mk->Prop}(hs:k.sq s.heap a its)
  (q:Q (.ref s.heap.objs.size) {s with heap:=s.heap.push {cls:=.type k.nm,data:=.fields #[.ref a,.int 0 0]} }):Ae (Ai P w) A (pyIter (.ref a)) Q E s:=by
 cases k with
 | l=>exact TF hs q
 | t=>exact wpAny_pyIter_tuple hs q
structure Zap (z TI TO i1 i2:Addr):Prop where
 a1:TI≠z
 a2:TO≠z
 a3:i1≠z
 a4:i2≠z
 a5:TI≠TO
 a6:TI≠i1
 a7:TI≠i2
 a8:TO≠i1
 a9:TO≠i2
 b1:i1≠i2
structure Off (a z TO i1 i2:Addr):Prop where
 z:a≠z
 o:a≠TO
 i:a≠i1
 j:a≠i2
theorem acQ {z TI TO i1 i2 l1 l2:Addr}{n1 n2:Nat}{xs ys:Array JI}{x y a b:JI}{Q:Option JI->Mk->Prop}(D:Zap z TI TO i1 i2)(o1:Off l1 z TO i1 i2)(o2:Off l2 z TO i1 i2)
  (gz:IsZip s.heap z TI TO .none) (gI:Lq s.heap TI (.ref i1) (.ref i2)) (gO:Lq s.heap TO a b) (g1:k1.it s.heap i1 l1 n1) (g2:k2.it s.heap i2 l2 n2) (gx:k1.sq s.heap l1 xs) (gy:k2.sq s.heap l2 ys)
  (hx:xs[n1]?=Dn x) (hy:ys[n2]?=Dn y)
  (q:∀h',IsZip h' z TI TO (rawInt s.heap.objs.size)->Lq h' TO x y->k1.it h' i1 l1 (n1+1)->k2.it h' i2 l2 (n2+1)->Lq h' s.heap.objs.size x y->h'.objs.size=s.heap.objs.size+1 ->
   (∀c o,c≠z->c≠TO->c≠i1->c≠i2->s.heap.get? c=Dn o->h'.get? c=Dn o)->Q (Dn (.ref s.heap.objs.size)) {s with heap:=h'}) :
  Ae (Ai P w) A (pyNext (.ref z)) Q E s:=by
 have gT:s.TypeIs (.ref z) "zip":=⟨_,gz,rfl⟩
 refine Zr<|Ru<|RZ (name:=Str.ofString "__next__") gT Ub<|RL Ub gT PySem.F.entry_zip_next ?_<|PySem.F.args_zip_next_1 _
 show Ae _ _ (field (.ref z) 2 >>= _) _ _ _;refine Zr<|Hq gz rfl (x:=.bool false) rfl ?_
 refine Zr<|Hq gz rfl (x:=.ref TI) rfl ?_
 refine Zr<|Q6 gI rfl ?_
 refine Zr ?_;refine Zr<|Hq gz rfl (x:=.none) rfl<|CG ?_
 refine Zr<|wpAny_rule ?_
 refine Zr<|Hq gz rfl (x:=.ref TO) rfl ?_
 refine Zr<|Sv gz (by simp) λh₁ z₁ s₁=>?_
 refine Zr ?_
 -- the first one
 refine Zr<|Zr<|wpAny_onRaise ?_
 show Ae _ _ (Qi (.ref i1) >>= _) _ _ _;refine Zr<|Sk.next (k:=k1) (s:={s with heap:=h₁}) (Sk.it_at g1 λo e=>s₁.extBut _ o D.a3 e) (Sk.sq_at gx λo e=>s₁.extBut _ o o1.z e) hx λh₂ g1₂ s₂=>CG ?_
 have gO₂:Lq h₂ TO a b:=s₂.extBut _ _ D.a8 (s₁.extBut _ _ D.a2 gO);refine Zr<|Q6 gO₂ rfl ?_
 refine Zr<|wpAny_updateSeq_pair gO₂ λh₃ gO₃ s₃=>?_
 replace gO₃:Lq h₃ TO x b:=gO₃;refine Zr<|wpAny_letGo<|CG ?_
 -- the second one
 refine Zr<|Zr<|wpAny_onRaise ?_
 show Ae _ _ (Qi (.ref i2) >>= _) _ _ _;refine Zr (Sk.next (k:=k2) (s:={s with heap:=h₃}) (Sk.it_at g2 λo e=>s₃.extBut _ o D.a9.symm (s₂.extBut _ o D.b1.symm (s₁.extBut _ o D.a4 e)))
  (Sk.sq_at gy λo e=>s₃.extBut _ o o2.o (s₂.extBut _ o o2.i (s₁.extBut _ o o2.z e))) hy λh₄ g2₄ s₄=>CG ?_)
 have gO₄:Lq h₄ TO x b:=s₄.extBut _ _ D.a9 gO₃;refine Zr<|Q6 gO₄ rfl ?_
 refine Zr<|wpAny_updateSeq_pair gO₄ λh₅ gO₅ s₅=>?_
 replace gO₅:Lq h₅ TO x y:=gO₅;refine Zr<|wpAny_letGo<|CG<|CG ?_
 -- the pair is handed out
 refine Zr<|Q6 gO₅ rfl ?_
 refine Zr<|wpAny_newTuple ?_
 have size:h₅.objs.size=s.heap.objs.size:=by rw[s₅.1,s₄.1,s₃.1,s₂.1,s₁.1]
 have z₅:IsZip h₅ z TI TO .ellipsis:=s₅.extBut _ _ D.a2.symm (s₄.extBut _ _ D.a4.symm (s₃.extBut _ _ D.a2.symm (s₂.extBut _ _ D.a3.symm z₁)));have all₅:∀c o,c≠z->c≠TO->c≠i1->c≠i2->s.heap.get? c=Dn o->h₅.get? c=Dn o:=λc o c1 c2 c3 c4 e=>s₅.extBut _ _ c2 (s₄.extBut _ _ c4 (s₃.extBut _ _ c2 (s₂.extBut _ _ c3 (s₁.extBut _ _ c1 e))))
 have g1₅:k1.it h₅ i1 l1 (n1+1):=Sk.it_at g1₂ λo e=>s₅.extBut _ o D.a8.symm (s₄.extBut _ o D.b1 (s₃.extBut _ o D.a8.symm e))
 have g2₅:k2.it h₅ i2 l2 (n2+1):=Sk.it_at g2₄ λo e=>s₅.extBut _ o D.a9.symm e
 have zlt:z<h₅.objs.size:=DK z₅;show Ae _ _ (Builtin.SmallTypes.ownedTupleHandOut (.ref z) (.ref h₅.objs.size) >>= _) _ _ _;refine Zr ?_;unfold Builtin.SmallTypes.ownedTupleHandOut;have z₆:IsZip (h₅.push {cls:=.type "tuple",data:=.seq #[x,y]}) z TI TO .ellipsis:=Cm _ z₅;refine Zr<|Sv z₆ (by simp) λh₇ z₇ s₇=>?_
 replace z₇:IsZip h₇ z TI TO (rawInt h₅.objs.size):=z₇;refine Sv z₇ (by simp) λh₈ z₈ s₈=>?_;replace z₈:IsZip h₈ z TI TO (rawInt h₅.objs.size):=z₈;have up:∀c o,c≠z->h₅.get? c=Dn o->h₈.get? c=Dn o:=λc o c1 e=>s₈.extBut _ _ c1 (s₇.extBut _ _ c1 (Cm _ e))
 have T₈:Lq h₈ h₅.objs.size x y:=s₈.extBut _ _ (Mf zlt) (s₇.extBut _ _ (Mf zlt) (HJ _ rfl));have size8:h₈.objs.size=h₅.objs.size+1:=by rw[s₈.1,s₇.1,Oc]
 rw[size]at z₈ T₈ size8;refine CG ⟨_,rfl,CG ?_⟩;show Q (Dn (.ref h₅.objs.size)) _;rw[size];exact q h₈ z₈ (up _ _ D.a2 gO₅) (Sk.it_at g1₅ λo e=>up _ o D.a3 e) (Sk.it_at g2₅ λo e=>up _ o D.a4 e) T₈ size8 λc o c1 c2 c3 c4 e=>up c o c1<|all₅ c o c1 c2 c3 c4 e
theorem aaQ {z TI TO i1 i2 l1 l2:Addr}{n1 n2:Nat}{xs ys:Array JI}{a b:JI}{Q:Option JI->Mk->Prop}(hh:A.handled=Go)(D:Zap z TI TO i1 i2)(o1:Off l1 z TO i1 i2)(o2:Off l2 z TO i1 i2)
  (gz:IsZip s.heap z TI TO .none) (gI:Lq s.heap TI (.ref i1) (.ref i2)) (gO:Lq s.heap TO a b) (g1:k1.it s.heap i1 l1 n1) (g2:k2.it s.heap i2 l2 n2) (gx:k1.sq s.heap l1 xs) (gy:k2.sq s.heap l2 ys)
  (hend:xs[n1]?=Go\/ys[n2]?=Go)
  (q:∀h',(∀c o,c≠z->c≠TO->c≠i1->c≠i2->s.heap.get? c=Dn o->h'.get? c=Dn o)->Q Go {s with heap:=h'}):Ae (Ai P w) A (pyNext (.ref z)) Q E s:=by
 have gT:s.TypeIs (.ref z) "zip":=⟨_,gz,rfl⟩
 have fin:∀(h':Heap) (e:Addr),(∀c o,c≠z->c≠TO->c≠i1->c≠i2->s.heap.get? c=Dn o->h'.get? c=Dn o)->(∃o,h'.get? e=Dn o/\o.cls=.type "StopIteration") ->
   Ae (Ai P w) A (do if <-isInstance (.ref e) (.type "StopIteration")then pure Go else throw (.ref e)) Q E {s with heap:=h'}:=λh' e all ⟨o,ho,hc⟩=>
  Zr (wpAny_isInstance (T := "StopIteration") (b:=true) ⟨o,ho,hc⟩ isSubtype_stop (CG (q _ all)))
 refine Zr<|Ru<|RZ (name:=Str.ofString "__next__") gT Ub<|RL Ub gT PySem.F.entry_zip_next ?_<|PySem.F.args_zip_next_1 _
 show Ae _ _ (field (.ref z) 2 >>= _) _ _ _;refine Zr<|Hq gz rfl (x:=.bool false) rfl ?_
 refine Zr<|Hq gz rfl (x:=.ref TI) rfl ?_
 refine Zr<|Q6 gI rfl ?_
 refine Zr ?_;refine Zr<|Hq gz rfl (x:=.none) rfl<|CG ?_
 refine Zr<|wpAny_rule ?_
 refine Zr<|Hq gz rfl (x:=.ref TO) rfl ?_
 refine Zr<|Sv gz (by simp) λh₁ z₁ s₁=>?_
 refine Zr ?_;simp only[List.zipIdx_cons,List.zipIdx_nil,List.forIn_cons,List.forIn_nil];refine Zr<|Zr<|wpAny_onRaise ?_
 show Ae _ _ (Qi (.ref i1) >>= _) _ _ _;have g1₁:k1.it h₁ i1 l1 n1:=Sk.it_at g1 λo e=>s₁.extBut _ o D.a3 e
 have gx₁:k1.sq h₁ l1 xs:=Sk.sq_at gx λo e=>s₁.extBut _ o o1.z e
 cases hx:xs[n1]? with
 | none=>
  refine Zr<|Sk.stop (k:=k1) (s:={s with heap:=h₁}) hh g1₁ gx₁ hx λh₂ e s₂ he=>?_
  obtain⟨oe,hoe,hce⟩:=he;have z₂:IsZip h₂ z TI TO .ellipsis:=s₂ _ _ D.a3.symm z₁;have ez:e≠z:=λy=>by subst y;rw[z₂]at hoe;cases hoe;simp at hce
  refine Sv z₂ (by simp) λh₃ _ s₃=>fin h₃ e (λc o c1 _ c3 _ y=>s₃.extBut _ _ c1<|s₂ _ _ c3<|s₁.extBut _ _ c1 y) ⟨oe,s₃.extBut _ _ ez hoe,hce⟩
 | some x=>
  have hy:ys[n2]?=Go:=by
   rcases hend with h|h
   rw[hx]at h;cases h;exact h
  refine Zr<|Sk.next (k:=k1) (s:={s with heap:=h₁}) g1₁ gx₁ hx λh₂ g1₂ s₂=>CG ?_
  have gO₂:Lq h₂ TO a b:=s₂.extBut _ _ D.a8 (s₁.extBut _ _ D.a2 gO);refine Zr<|Q6 gO₂ rfl ?_
  refine Zr<|wpAny_updateSeq_pair gO₂ λh₃ gO₃ s₃=>?_
  refine Zr<|wpAny_letGo<|CG ?_
  refine Zr<|Zr<|wpAny_onRaise ?_
  show Ae _ _ (Qi (.ref i2) >>= _) _ _ _;refine Zr (Sk.stop (k:=k2) (s:={s with heap:=h₃}) hh (Sk.it_at g2 λo e=>s₃.extBut _ o D.a9.symm (s₂.extBut _ o D.b1.symm (s₁.extBut _ o D.a4 e)))
   (Sk.sq_at gy λo e=>s₃.extBut _ o o2.o (s₂.extBut _ o o2.i (s₁.extBut _ o o2.z e))) hy λh₄ e s₄ he=>?_)
  obtain⟨oe,hoe,hce⟩:=he;have z₄:IsZip h₄ z TI TO .ellipsis:=s₄ _ _ D.a4.symm (s₃.extBut _ _ D.a2.symm (s₂.extBut _ _ D.a3.symm z₁));have ez:e≠z:=λy=>by subst y;rw[z₄]at hoe;cases hoe;simp at hce
  refine Sv z₄ (by simp) λh₅ _ s₅=>fin h₅ e (λc o c1 c2 c3 c4 y=>s₅.extBut _ _ c1<|s₄ _ _ c4<|s₃.extBut _ _ c2<|s₂.extBut _ _ c3<|s₁.extBut _ _ c1 y) ⟨oe,s₅.extBut _ _ ez hoe,hce⟩
abbrev zh1 (k1:Sk)(h:Heap)(l1:Addr):Heap:=h.push {cls:=.type k1.nm,data:=.fields #[.ref l1,.int 0 0]}
abbrev zh2 (k1 k2:Sk)(h:Heap)(l1 l2:Addr):Heap:=(zh1 k1 h l1).push {cls:=.type k2.nm,data:=.fields #[.ref l2,.int 0 0]}
abbrev zh3 (k1 k2:Sk)(h:Heap)(l1 l2:Addr):Heap:=(zh2 k1 k2 h l1 l2).push {cls:=.type "tuple",data:=.seq #[.ref h.objs.size,.ref (zh1 k1 h l1).objs.size]}
abbrev zh4 (k1 k2:Sk)(h:Heap)(l1 l2:Addr):Heap:=(zh3 k1 k2 h l1 l2).push {cls:=.type "tuple",data:=.seq #[.none,.none]}
abbrev zh5 (k1 k2:Sk)(h:Heap)(l1 l2:Addr):Heap:=(zh4 k1 k2 h l1 l2).push {cls:=.type "zip",data:=.fields #[.none,.bool false,.bool false,.ref (zh2 k1 k2 h l1 l2).objs.size,.ref (zh3 k1 k2 h l1 l2).objs.size]}
theorem abJ (l1 l2:Addr)(xs ys:Array JI):Meets (abB.«zip.__new__» ⟨[.type "zip",.ref l1,.ref l2],[]⟩) (λ_ R s=>k1.sq s.heap l1 xs/\k2.sq s.heap l2 ys /\
   R (.ok (.ret (.ref (zh4 k1 k2 s.heap l1 l2).objs.size))) {s with heap:=zh5 k1 k2 s.heap l1 l2}):=
 .of_wp λprog w A R s h=>by
  obtain⟨hp,g,d,tk,os⟩:=s;obtain⟨gl1,gl2,h⟩:=h;have hsub:=sub_zip;have L1:k1.sq (Shared.heap ⟨hp,g,d,tk,os⟩) l1 xs:=gl1;have L2':k2.sq (Shared.heap ⟨hp.push {cls:=.type k1.nm,data:=.fields #[.ref l1,.int 0 0]},g,d,tk,os⟩) l2 ys:=Sk.sq_at gl2 λo e=>Cm _ e
  wp_walk using Sk.iter L1,Sk.iter L2'
  exact⟨_,rfl,h⟩
theorem zaT {l1 l2:Addr}{xs ys:Array JI}{Q:JI->Mk->Prop}(gl1:k1.sq s.heap l1 xs)(gl2:k2.sq s.heap l2 ys)
  (q:∀h',IsZip h' (s.heap.objs.size+4) (s.heap.objs.size+2) (s.heap.objs.size+3) .none->Lq h' (s.heap.objs.size+2) (.ref s.heap.objs.size) (.ref (s.heap.objs.size+1)) ->
   Lq h' (s.heap.objs.size+3) .none .none->k1.it h' s.heap.objs.size l1 0->k2.it h' (s.heap.objs.size+1) l2 0->h'.objs.size=s.heap.objs.size+5 ->
   (∀c o,s.heap.get? c=Dn o->h'.get? c=Dn o)->Q (.ref (s.heap.objs.size+4)) {s with heap:=h'}):Ae (Ai P w) A (call (.type "zip") [.ref l1,.ref l2]) Q E s:=by
 refine callType_new PySem.F.called_zip (by decide) (PySem.F.typeCall_zip_2 _ _) (PySem.F.newCall_zip_2 _ _) (λobj=>PySem.F.args_object_init_3 obj _ _) PySem.F.entry_zip_new (abJ (k2:=k2) l1 l2 xs ys) ⟨gl1,gl2,?_⟩;have e1:(zh1 k1 s.heap l1).objs.size=s.heap.objs.size+1:=Oc ..;have e2:(zh2 k1 k2 s.heap l1 l2).objs.size=s.heap.objs.size+2:=by rw[Oc,e1]
 have e3:(zh3 k1 k2 s.heap l1 l2).objs.size=s.heap.objs.size+3:=by rw[Oc,e2]
 have e4:(zh4 k1 k2 s.heap l1 l2).objs.size=s.heap.objs.size+4:=by rw[Oc,e3]
 have f5:(zh5 k1 k2 s.heap l1 l2).get? (zh4 k1 k2 s.heap l1 l2).objs.size=Dn _:=HJ _ rfl;have f4:(zh5 k1 k2 s.heap l1 l2).get? (zh3 k1 k2 s.heap l1 l2).objs.size=Dn _:=Cm _ (HJ _ rfl);have f3:(zh5 k1 k2 s.heap l1 l2).get? (zh2 k1 k2 s.heap l1 l2).objs.size=Dn _:=Cm _ (Cm _ (HJ _ rfl));have f2:(zh5 k1 k2 s.heap l1 l2).get? (zh1 k1 s.heap l1).objs.size=Dn _:=Cm _ (Cm _ (Cm _ (HJ _ rfl)));have f1:(zh5 k1 k2 s.heap l1 l2).get? s.heap.objs.size=Dn _:=Cm _ (Cm _ (Cm _ (Cm _ (HJ _ rfl))));rw[e2,e3,e4]at f5;rw[e1,e2]at f3;rw[e3]at f4;rw[e1]at f2;rw[e4];refine⟨⟨_,f5,rfl⟩,q _ f5 f3 f4 ?_ ?_ (by rw[Oc,e4]) λc o x=>Cm _<|Cm _<|Cm _<|Cm _<|Cm _ x⟩;cases k1 with
 | l=>exact⟨_,f1,rfl,rfl⟩
 | t=>exact⟨_,f1,rfl,rfl⟩
 cases k2 with
 | l=>exact⟨_,f2,rfl,rfl⟩
 | t=>exact⟨_,f2,rfl,rfl⟩
end
section
variable {X:Cx}{afn:List (Addr×Obj)}{U:St}{H:Hp}{s:Mk}{h':Heap}
theorem Yu.turnedL {t':Nat}{ch:List Addr}(I:Yu X afn U H s)(k:∀b o,b∉ch->s.heap.get? b=Dn o->h'.get? b=Dn o)(hf:∀b∈ch,Ak X afn H b):Yu X afn U H {s with heap:=h',toks:=t'}:=by
 have nit:∀b u,H b=Dn u->b∉ch:=λb u e z=>by rw[(hf b z).1]at e;cases e
 refine I.step (λb hb=>?_) (λb o _ _ hc e _=>k b o hc e) (λb o _ _ hc e _=>⟨o.slots,k b o hc e⟩) (λ_ _ _ _ n=>n)
  (λb o hc e=>⟨o,k b o hc e⟩) (λ_ _ e=>e) (λ_ _ _ e=>e) (λb ps e=>⟨#[],by rw[e];simp⟩) (λm hm=>?_) (λb u e=>?_) I.bare
 obtain⟨_,f1,_,f3,f4,f5⟩:=hf b hb;exact⟨f3,f1,f4,f5⟩;obtain⟨o,es,ep,ho,r⟩:=hm;exact⟨o,es,ep,k _ o (λz=>(hf _ z).2.1 rfl) ho,r⟩;refine(I.hok b u e).stay (λc v hc q=>k c v ?_ q) (λ_ q=>q) λ_ _ q=>q;grind
end
def Sk.v (k:Sk)(K:Zf)(H:Hp)(a:Addr)(xs:List V):Prop:=match k with
 | .l=>Ez K H a xs
 | .t=>Fw K H a xs
theorem Yu.sk {X:Cx}{afn:List (Addr×Obj)}{U:St}{H:Hp}{s:Mk}{k:Sk}{a:Addr}{xs:List V}(I:Yu X afn U H s)(h:k.v X.K H a xs):∃its:List JI,kI xs its/\k.sq s.heap a its.toArray:=by
 cases k with
 | l=>obtain⟨its,r,p,_⟩:=I.list h;exact⟨its,r,p.isList⟩
 | t=>obtain⟨its,r,p,_⟩:=I.tuple h;exact⟨its,r,p⟩
theorem Yu.sk_inj {X:Cx}{afn:List (Addr×Obj)}{U:St}{H:Hp}{s:Mk}{k:Sk}{a:Addr}{xs ys:List V}(I:Yu X afn U H s)(h:k.v X.K H a xs)(g:k.v X.K H a ys):xs=ys:=by
 cases k with
 | l=>exact I.list_inj h g
 | t=>exact I.tuple_inj h g
def Itz (K:Zf)(k1 k2:Sk)(l1 l2:Addr):It:=
  ⟨λi H=>∃xs ys x y,k1.v K H l1 xs/\k2.v K H l2 ys/\xs[i]?=Dn x/\ys[i]?=Dn y,
   λi H v H'=>∃p x y,H p=Go/\v=.ref p/\H'=CN H p (.tup [x,y])/\(∀xs,k1.v K H l1 xs->xs[i]?=Dn x)/\∀ys,k2.v K H l2 ys->ys[i]?=Dn y,
   λi H=>∃xs ys,k1.v K H l1 xs/\k2.v K H l2 ys/\(xs.length<=i\/ys.length<=i),true⟩
def Yk (k1 k2:Sk)(z TI TO i1 i2 l1 l2:Addr)(n:Nat)(h:Heap):Prop:=IsZip h z TI TO .none/\Lq h TI (.ref i1) (.ref i2)/\(∃a b,Lq h TO a b)/\k1.it h i1 l1 n/\k2.it h i2 l2 n
variable {elts:List Expr}
theorem zba {P:BK}{w:Av}{K:Zf}{pos:Pos}{k1 k2:Sk}{z TI TO i1 i2 l1 l2:Addr}(D:Zap z TI TO i1 i2)(o1:Off l1 z TO i1 i2)(o2:Off l2 z TO i1 i2):
  Turn P w K (.Tuple elts kt pos) (Itz K k1 k2 l1 l2) [z,TI,TO,i1,i2] z (Yk k1 k2 z TI TO i1 i2 l1 l2) where
 mem:=by simp
 obj:=λi h st b hb=>by
  obtain⟨gz,gI,⟨a,b',gO⟩,g1,g2⟩:=st;simp only[Bg,HX,or_false]at hb;rcases hb with rfl|rfl|rfl|rfl|rfl
  exact⟨_,gz,λv y=>by cases y⟩;exact⟨_,gI,λv y=>by cases y⟩;exact⟨_,gO,λv y=>by cases y⟩;obtain⟨o,e,_,d⟩:=Sk.it_obj g1;exact⟨o,e,λv y=>by rw[d]at y;cases y⟩;obtain⟨o,e,_,d⟩:=Sk.it_obj g2;exact⟨o,e,λv y=>by rw[d]at y;cases y⟩
 keep:=λi h h' st k=>by
  obtain⟨gz,gI,⟨a,b,gO⟩,g1,g2⟩:=st;exact⟨k z (by simp) _ gz,k TI (by simp) _ gI,⟨a,b,k TO (by simp) _ gO⟩,Sk.it_at g1 λo e=>k i1 (by simp) o e,Sk.it_at g2 λo e=>k i2 (by simp) o e⟩
 item:=by
  intro X hP hw hK hc i afn s U H E I hf st hg;subst hP hw hK;obtain⟨gz,gI,⟨a,b,gO⟩,g1,g2⟩:=st;obtain⟨xs,ys,x,y,hx,hy,ex,ey⟩:=hg;obtain⟨its,r1,p1⟩:=I.sk hx;obtain⟨jts,r2,p2⟩:=I.sk hy;obtain⟨u,hu,ru⟩:=r1.get ex;obtain⟨v,hv,rv⟩:=r2.get ey;refine acQ D o1 o2 gz gI gO g1 g2 p1 p2 (x:=u) (y:=v) (by simpa using hu) (by simpa using hv) λh1 z1 O1 g1' g2' T1 size1 all1=>⟨_,rfl,?_⟩;have lt:∀b∈[z,TI,TO,i1,i2],s.heap.objs.size≠b:=λb hb=>by
   simp only[Bg,HX,or_false]at hb;rcases hb with rfl|rfl|rfl|rfl|rfl
   exact(Mf<|DK gz);exact Mf<|DK gI
   exact Mf<|DK gO
   obtain⟨o,e,_⟩:=Sk.it_obj g1;exact Mf (DK e);obtain⟨o,e,_⟩:=Sk.it_obj g2;exact Mf (DK e)
  have all:∀c o,c∉[z,TI,TO,i1,i2]->s.heap.get? c=Dn o->h1.get? c=Dn o:=λc o hc e=>
   all1 c o (λq=>hc (by simp[q])) (λq=>hc (by simp[q])) (λq=>hc (by simp[q])) (λq=>hc (by simp[q])) e
  refine wpAny_letOwnedTupleGo_zip (s:={s with heap:=h1}) z1 λh2 z2 sb=>?_;have I1:Yu X afn U (CN H s.heap.objs.size (.tup [x,y])) {s with heap:=s.heap.push {cls:=.type "tuple",data:=.seq #[u,v]} }:=
   I.laid (t':=s.toks) (λb o e=>Cm _ e) (Bm _) ⟨(by show 2<=Bh;decide),[u,v],.cons ru (.cons rv .nil),⟨_,HJ _ rfl,rfl,⟨_,rfl⟩,rfl⟩⟩
  have hf1:∀b∈[z,TI,TO,i1,i2],Ak X afn (CN H s.heap.objs.size (.tup [x,y])) b:=λb hb=>⟨by rw[aO (HF (lt b hb))];exact(hf b hb).1,(hf b hb).2⟩
  have I2:=by
   refine Yu.turnedL (h':=h2) (t':=s.toks) (ch:=[z,TI,TO,i1,i2]) I1 (λb o hb e=>?_) hf1;have bz:b≠z:=λq=>hb (by simp[q])
   rcases Heap.get?_push_cases e with⟨rfl,rfl⟩|e'
   exact sb.extBut _ _ bz T1;exact sb.extBut _ _ bz<|all b o hb e'
  refine⟨.ref s.heap.objs.size,_,I2,rfl,⟨s.heap.objs.size,x,y,(I.hok.fresh<|Bm _),rfl,rfl,λxs' q=>by rw[I.sk_inj q hx];exact ex,λys' q=>by rw[I.sk_inj q hy];exact ey⟩,?_,λb hb=>(hf1 b hb).1⟩;exact⟨z2,sb.extBut _ _ D.a1<|all1 _ _ D.a1 D.a5 D.a6 D.a7 gI,⟨u,v,sb.extBut _ _ D.a2 O1⟩,Sk.it_at g1' λo e=>sb.extBut _ o D.a3 e,Sk.it_at g2' λo e=>sb.extBut _ o D.a4 e⟩
 done:=by
  intro X hP hw hK hc i afn s U H E I hf st hg;subst hP hw hK;obtain⟨gz,gI,⟨a,b,gO⟩,g1,g2⟩:=st;obtain⟨xs,ys,hx,hy,hend⟩:=hg;obtain⟨its,r1,p1⟩:=I.sk hx;obtain⟨jts,r2,p2⟩:=I.sk hy;have l1:=r1.length;have l2:=r2.length;refine aaQ (I.ok.hd<|hc rfl) D o1 o2 gz gI gO g1 g2 p1 p2 (hend.imp (λq=>by simp;lia) λq=>by simp;lia) λh1 all1=>⟨rfl,I.turnedL (t':=s.toks) (λc o hc e=>?_) hf⟩;exact all1 c o (λq=>hc<|by simp[q]) (λq=>hc<|by simp[q]) (λq=>hc<|by simp[q]) (λq=>hc<|by simp[q]) e
 self:=λ_ _ _ _ _ st h=>wpAny_pyIter_zip st.1 h
section
variable {X:Cx}{K:Zf}
def sqk (K:Zf)(H:Hp)(x:V)(k:Sk)(a:Addr):Prop:=x=.ref a/\∃xs,k.v K H a xs
def ZJ (K:Zf)(ta:TA):TI:=λU H R=>ta U H λvs H1=>∃x y k1 k2 a b,vs=[x,y]/\sqk K H1 x k1 a/\sqk K H1 y k2 b/\R (Itz K k1 k2 a b) H1
theorem Sk.sq_lt {k:Sk}{h:Heap}{a:Addr}{its:Array JI}(x:k.sq h a its):a<h.objs.size:=by
 cases k with
 | l|t=>obtain⟨o,e,_⟩:=x;exact DK e
theorem lF {a b:Nat}(h:a≠b):(show Addr from a)≠(show Addr from b):=h
theorem Vk (n:Nat):Zap (n+4) (n+2) (n+3) n (n+1) where
 a1:=lF (show n+2≠n+4 by lia)
 a2:=lF (show n+3≠n+4 by lia)
 a3:=lF (show n≠n+4 by lia)
 a4:=lF (show n+1≠n+4 by lia)
 a5:=lF (show n+2≠n+3 by lia)
 a6:=lF (show n+2≠n by lia)
 a7:=lF (show n+2≠n+1 by lia)
 a8:=lF (show n+3≠n by lia)
 a9:=lF (show n+3≠n+1 by lia)
 b1:=lF (show n≠n+1 by lia)
theorem Ld {a n:Nat}(h:a<n):Off a (n+4) (n+3) n (n+1) where
 z:=lF (show a≠n+4 by lia)
 o:=lF (show a≠n+3 by lia)
 i:=lF (show a≠n by lia)
 j:=lF (show a≠n+1 by lia)
theorem XM {n c:Nat}(h:c∈([n+4,n+2,n+3,n,n+1]:List Nat)):n<=c:=by grind
theorem Kv {e1 e2:Expr}{ta:TA}{p pos tpos:Pos}(hg:Gl X "zip")(hm:X.mg "zip" = Go)(ha:PA X [e1,e2] ta)
  (hs:Al [e1,e2] X.env=(false,eval e1 X.env)::Al [e2] X.env:=by rfl) (hpl:(Ef pos (Al [e2] X.env)).any (·.1)=false:=by rfl) :
  PI X (.Tuple elts kt tpos) (.Call (.Name "zip" p) [e1,e2] [] pos) (ZJ X.K ta):=by
 intro afn s U H R I h;refine Ss<|rD I hg hm boot_zip (Uj (Bj (ha pos afn s U H _ I h) λus s1 ⟨vs,H1,I1,r1,q1⟩=>?_) hs hpl) (by decide)<|by decide
 obtain⟨x,y,k1,k2,a,b,ev,⟨ex,xs,hx⟩,⟨ey,ys,hy⟩,q⟩:=q1;subst ev ex ey;obtain⟨u1,u2,eu,ru1,ru2⟩:=vals2 r1;subst eu;cases ru1;cases ru2;obtain⟨its,r1,p1⟩:=I1.sk hx;obtain⟨jts,r2,p2⟩:=I1.sk hy;have la:=Sk.sq_lt p1;have lb:=Sk.sq_lt p2;refine zaT p1 p2 λh' gz gI gO g1 g2 size all=>(wpAny_pyIter_zip gz ?_);generalize hn:s1.heap.objs.size=n at gz gI gO g1 g2 size la lb|-
 refine⟨n+4,[n+4,n+2,n+3,n,n+1],_,_,H1,rfl,(I1.kept all),zba (Vk n) (Ld la)<|Ld lb,⟨gz,gI,⟨_,_,gO⟩,g1,g2⟩,λc hc=>?_,q⟩;have hc':=XM hc;exact I1.fpOk (hn ▸ hc')<|I1.hok.fresh<|hn ▸ hc'
def mK:List W->List W->List W
 | a::as,b::bs=>.tup [a,b]::mK as bs
 | _,_=>[]
theorem mD:∀{as bs:List W}{i:Nat}{w:W},(mK as bs)[i]?=Dn w->∃a b,as[i]?=Dn a/\bs[i]?=Dn b/\w=.tup [a,b]
 | a::as,b::bs,0,w,e=>⟨a,b,rfl,rfl,(Ge e).symm⟩
 | a::as,b::bs,i+1,w,e=>by
  obtain⟨x,y,h1,h2,h3⟩:=mD (by simpa[mK]using e);grind
theorem mF:∀{as bs:List W},(mK as bs).length=min as.length bs.length
 | [],bs|_::_,[]=>by simp[mK]
 | a::as,b::bs=>by rw[mK,Ea,mF,Ea,Ea];lia
def oF:W->Option (List W)
 | .tup ws=>Dn ws
 | .lst ws=>Dn ws
 | .kls ws=>Dn ws
 | _=>Go
theorem uq {H:Hp}{w:W}{v:V}(r:Zh K H μ w v)(e:oF w=Dn ws):∃k a,v=.ref a/\∀{H2:Hp}{μ2:Mu},DR K H μ H2 μ2->∃xs,Sk.v k K H2 a xs/\bA K H2 μ2 ws xs:=by
 cases w with
 | tup us=>
  cases e;have r0:=r;obtain⟨p,xs,ev,hs,rs⟩:=r;subst ev;refine⟨.t,p,rfl,λ{H2 μ2} x=>?_⟩;obtain⟨q,ys,ev,hs,rs⟩:=(x.r _ _ r0)
  cases ev;exact⟨ys,hs,rs⟩
 | lst us|kls us=>
  cases e;have r0:=r;obtain⟨p,xs,ev,hs,rs⟩:=r;subst ev;refine⟨.l,p,rfl,λ{H2 μ2} x=>?_⟩;obtain⟨q,ys,ev,hs,rs⟩:=(x.r _ _ r0)
  cases ev;exact⟨ys,hs.sq,rs⟩
 | _=>cases e
def JT (h:Gh)(x y:W):Option Src:=match oF x,oF y with
 | some as,Dn bs=>Dn ⟨mK as bs,Go⟩
 | none,Dn bs=>(match x with
  | .loc n=>(match h.c n with
   | some (.lst as)=>Dn ⟨mK as bs,Dn (n,as)⟩
   | _=>Go)
  | _=>Go)
 | _,_=>Go
theorem Dj {H:Hp}{h:Gh}{w:W}{v:V}{o:Option (Nat×List W)}(R:Ax K μ H h)(r:Zh K H μ w v)(e:(oF w=Dn ws/\o=Go)\/∃n,w=.loc n/\h.c n=Dn (.lst ws)/\o=Dn (n,ws)):
  ∃k a,v=.ref a/\∀{H2:Hp}{μ2:Mu}{h2:Gh},DR K H μ H2 μ2->Ax K μ2 H2 h2->Src.chk ⟨ws,o⟩ h2->∃xs,Sk.v k K H2 a xs/\bA K H2 μ2 ws xs:=by
 rcases e with⟨e,rfl⟩|⟨n,rfl,ec,rfl⟩
 obtain⟨k,a,ev,f⟩:=uq r e;exact⟨k,a,ev,λx _ _=>f x⟩;have r0:=r;obtain⟨p,ev,hm⟩:=r;subst ev;refine⟨.l,p,rfl,λ{H2 μ2 h2} x R2 ck=>?_⟩;obtain⟨q,eq,hm2⟩:=(x.r _ _ r0)
 cases eq;obtain⟨p',xs,hm',hx,rs⟩:=R2.lstAt ck;cases by rw[hm2]at hm';exact(Ge hm').symm
 exact⟨xs,.of hx,rs⟩
theorem abT {h:Gh}{x y:W}{s:Src}(e:JT h x y=Dn s):∃as bs o,s=⟨mK as bs,o⟩/\((oF x=Dn as/\o=Go)\/∃n,x=.loc n/\h.c n=Dn (.lst as)/\o=Dn (n,as))/\oF y=Dn bs:=by
 unfold JT at e;grind
def Xe (ma:MA):MI:=λU h R=>ma U h λws h1=>match ws with
 | [x,y]=>(match JT h1 x y with
  | some s=>R s h1
  | none=>False)
 | _=>False
theorem aeJ {e1 e2:Expr}{p pos tpos:Pos}(hg:Gl X "zip")(hm:X.mg "zip" = Go)(ha:Gn X [e1,e2] mr)
  (hs:Al [e1,e2] X.env=(false,eval e1 X.env)::Al [e2] X.env:=by rfl) (hpl:(Ef pos (Al [e2] X.env)).any (·.1)=false:=by rfl) :
  O4 X (.Tuple elts kt tpos) (.Call (.Name "zip" p) [e1,e2] [] pos) (Xe mr):=PI.of (Kv hg hm ha hs hpl) λU H Q ⟨μ,h,Uw,Rw,R,S,m,k⟩=>by
 refine⟨μ,h,Uw,_,R,S,m,λvs H1 ⟨μ1,ws,h1,e1,R1,r1,m1⟩=>?_⟩;split at m1
 split at m1
 rename_i x y _ s es;obtain⟨as,bs,o,rfl,ea,eb⟩:=abT es;obtain⟨v,u,ev,rv,ru⟩:=Fe r1;obtain⟨ka,a,e3,fa⟩:=Dj R1 rv ea;obtain⟨kb,b,e4,fb⟩:=uq ru eb;have ck1:Src.chk ⟨as,o⟩ h1:=by
  rcases ea with⟨_,rfl⟩|⟨n,_,ec,rfl⟩
  exact trivial;exact ec
 obtain⟨xs,hxs,_⟩:=fa .refl R1 ck1;obtain⟨ys,hys,_⟩:=fb .refl;refine⟨v,u,ka,kb,a,b,ev,⟨e3,xs,hxs⟩,⟨e4,ys,hys⟩,k _ _ ⟨μ1,⟨mK as bs,o⟩,h1,e1,R1,?_,m1⟩⟩;intro H2 μ2 h2 i e2 R2 ck;obtain⟨xs2,hxs2,rxs⟩:=fa e2 R2 ck;obtain⟨ys2,hys2,rys⟩:=fb e2;refine⟨λw ew=>?_,λhl=>⟨xs2,ys2,hxs2,hys2,?_⟩⟩;obtain⟨p1,p2,ep1,ep2,rfl⟩:=mD ew;obtain⟨q1,eq1,rq1⟩:=rxs.get ep1;obtain⟨q2,eq2,rq2⟩:=rys.get ep2;refine⟨⟨xs2,ys2,q1,q2,hxs2,hys2,eq1,eq2⟩,λx' H3 ⟨pa,x1,x2,hp,ex',eH3,f1,f2⟩=>?_⟩;have g1:=f1 xs2 hxs2;have g2:=f2 ys2 hys2;rw[eq1]at g1;rw[eq2]at g2;cases g1;cases g2;subst ex' eH3;exact⟨μ2,(Ex.laid hp).ext,R2.laid hp,.tupNew hp<|.cons rq1<|.one rq2⟩;have l1:=rxs.len;have l2:=rys.len;have:=mF ▸ hl
 lia;cases m1;cases m1
end
variable {e1 e2:Expr}
section
variable {X:Cx}{K:Zf}
def Pg:List W->Option (List Int)
 | []=>Dn []
 | .int i::ws=>(Pg ws).map (i::·)
 | _=>Go
def Y6:MC:=λws h Q=>match ws with
 | [w]=>(match cU h w with
  | some us=>(match Pg us with
   | some ns=>Q (.int ns.sum) h
   | none=>False)
  | none=>False)
 | _=>False
end
section
variable {P:BK}{w:Av}{A:BP}{E:JI->Mk->Prop}{s:Mk}
end
section
variable {X:Cx}{K:Zf}
end
section
variable {X:Cx}
def Yj (i j k:Nat)(ta:MA):MS:=λD U h=>ta U h λws h1=>match ws with
 | [a,b,c]=>D.nx (((U.set i (Dn a)).set j (Dn b)).set k (Dn c)) h1
 | _=>False
end
section
variable {X:Cx}{K:Zf}
end
theorem fQ {K:Zf}{H:Hp}:bA K H μ [] []:=rfl
theorem cP {K:Zf}{H:Hp}{w:W}{v:V}{vs:List V}(h:Zh K H μ w v)(t:bA K H μ ws vs):bA K H μ (w::ws) (v::vs):=⟨v,vs,rfl,h,t⟩
theorem WQ {K:Zf}{H:Hp}{i:Int}:Zh K H μ (.int i) (.int i):=rfl
theorem gA {K:Zf}{H:Hp}{i:Str}:Zh K H μ (.str i) (.str i):=rfl
theorem bT {K:Zf}{a:Addr}{sl:Array (Option JI)}{its:Array JI}{n:Nat}{xs:List V}(h:K.lookup a=Dn ⟨.type "tuple",Go,.seq its n,sl⟩)(hz:its.size<=Bh)(hv:kI xs its.toList)(hr:∀H μ,bA K H μ ws xs):∀H μ,Zh K H μ (.tup ws) (.ref a):=by
 intro H μ;exact⟨a,xs,rfl,.inr ⟨_,its,n,h,rfl,rfl,hz,hv,rfl⟩,hr H μ⟩
theorem gB {i:Str}{t}:RelV (.str i) (.str i t):=⟨t,rfl⟩
theorem qM {a:Addr}:RelV (.ref a) (.ref a):=rfl
section
variable {prog:BK}{w:Av}{A:BP}{E:JI->Mk->Prop}{s:Mk}
theorem uU {it t:Addr}{afo:Array JI}(hne:t≠it):∀(n i:Nat) (s:Mk) (Q:List JI->Mk->Prop),s.heap.IsListIter it t i->s.heap.IsList t afo->i+n<=afo.size ->
  (∀h',h'.IsListIter it t (i+n)->QC it s.heap h'->Q ((afo.toList.drop i).take n) {s with heap:=h'})->Ae (Ai prog w) A (draw (.ref it) n) Q E s
 | 0,i,s,Q,hit,_,_,hQ=>CG (by simpa using hQ _ hit (Heap.SameBut.refl ..))
 | n+1,i,s,Q,hit,ht,hle,hQ=>by
  have hlt:i<afo.size:=by lia
  refine Zr<|wpAny_pyNext_list_item hit ht (x:=afo[i]) (by simp) λh1 hit1 hs1=>(Zr<|Mg<|uU hne n _ _ _ hit1 (ht.at λo e=>hs1.extBut _ o hne e) (by lia) λh2 hit2 hs2=>CG ?_)
  have hd:afo.toList.drop i=afo[i]::afo.toList.drop (i+1):=by simp[RN,hlt]
  have:=hQ h2 (show i+(n+1)=i+1+n by lia ▸ hit2) (hs1.trans hs2)
  rwa[hd]at this
theorem oG {t:Addr}{afo:Array JI}{Q:List JI->Mk->Prop}(hh:A.handled=Go)(ht:s.heap.IsList t afo)
  (hQ:∀h',Heap.ExtBut s.heap.objs.size s.heap h'->Q afo.toList {s with heap:=h'}):Ae (Ai prog w) A (unpackItems (.ref t) afo.size Go) Q E s:=by
 have hlt:t≠s.heap.objs.size:=by obtain⟨o,ho,_⟩:=ht;exact Cg (DK ho)
 refine Zr ?_;refine Zr<|wpAny_specialOf ht.typeIs slot_list_iter.lookup<|CG<|Zr<|Mg<|TF ht<|Zr<|Mg<|uU hlt _ 0 _ _ ⟨_,HJ _ rfl,rfl,rfl⟩ (ht.at λo e=>Cm _ e) (by lia) λh1 hit1 hs1=>?_
 rw[(Oh (by simp)),if_neg (by simp)];refine Zr<|Mg<|wpAny_pyNext_list_end hh hit1 (ht.at λo e=>hs1.extBut _ o hlt<|Cm _ e) (by simp) λh2 he2=>?_
 refine CG<|hQ h2 λb o hb e=>he2 b o hb<|hs1.extBut b o hb<|Cm _ e
theorem mQ {x1}{pos:Pos}{t:Addr}{afo:Array JI}{Q:Unit->Mk->Prop}(hh:A.handled=Go)(ht:s.heap.IsList t afo)
  (hn:(Hz elts env).length=afo.size) (hstar:(Hz elts env).findIdx? (·.1)=Go)
  (h:∀h',Heap.ExtBut s.heap.objs.size s.heap h'->Ae (Ai prog w) A (assignInOrder ((Hz elts env).map (·.2)) afo.toList) Q E {s with heap:=h'}) :
  Ae (Ai prog w) A (assign (.Tuple elts x1 pos) env (.ref t)) Q E s:=by
 refine Zr<|wpAny_standAt ?_
 unfold unpack;rw[hn,hstar];exact Zr<|Mg<|oG hh ht h
end
section
variable {X:Cx}{pos:Pos}
def WD (K:Zf)(n:Nat)(t:Nz):TG:=λv U H Q=>∃a xs,v=.ref a/\(Fw K H a xs\/Ez K H a xs)/\xs.length=n/\t xs U H Q
theorem acd {es:List Expr}{k:Nat}{t:Nz}{n:Nat}(hc:X.calm=true)(h:Oj X es t)
  (hn:(Hz es X.env).length=n:=by rfl) (hst:(Hz es X.env).findIdx? (·.1)=Go:=by rfl):PG X (.Tuple es k pos) (WD X.K n t):=by
 intro afn s U H v u Q I r hw;obtain⟨a,xs,e1,hq,hl,hw⟩:=hw;subst e1;cases r;rcases hq with hq|hq
 obtain⟨its,rv,ht,hz⟩:=I.tuple hq;exact assign_Tuple_tuple (I.ok.hd hc) ht (by simp[hn,<-hl,rv.length]) hst λh' hx=>(h afn _ U H xs _ Q (I.kept λb o e=>hx b o (Cg<|DK e) e) (by simpa using rv) hw);obtain⟨its,rv,ht,hz⟩:=I.list hq;exact mQ (I.ok.hd hc) ht.isList (by simp[hn,<-hl,rv.length]) hst λh' hx=>(h afn _ U H xs _ Q (I.kept λb o e=>hx b o (Cg<|DK e) e) (by simpa using rv) hw)
def wU (n:Nat)(g:MN):MG:=λw U h N=>match w with
 | .tup ws=>Ec (LR ws.length n) (g ws U h N) False
 | .lst ws=>Ec (LR ws.length n) (g ws U h N) False
 | .loc j=>(match h.c j with
  | some (.lst ws)=>Ec (LR ws.length n) (g ws U h N) False
  | _=>False)
 | _=>False
theorem Ey {es:List Expr}{k:Nat}{g:MN}{n:Nat}(hc:X.calm=true)(h:VH X es g)(hn:(Hz es X.env).length=n:=by rfl)(hst:(Hz es X.env).findIdx? (·.1)=Go:=by rfl):DG X (.Tuple es k pos) (wU n g):=
 (acd (n:=n) hc h hn hst).of λv U H N ⟨μ,h,Uw,w,Nw,R,S,r,m,k⟩=>by
  cases w with
  | tup ws=>
   obtain⟨p,xs,e1,hs,hr⟩:=r;have m:Ec _ _ False:=m;cases en:LR ws.length n with
   | true=>rw[en]at m;exact⟨p,xs,e1,.inl hs,hr.len ▸ Ti en,μ,h,Uw,ws,Nw,R,S,hr,m,k⟩
   | false=>rw[en]at m;exact(m).elim
  | lst ws=>
   obtain⟨p,xs,e1,hs,hr⟩:=r;have m:Ec _ _ False:=m;cases en:LR ws.length n with
   | true=>rw[en]at m;exact⟨p,xs,e1,.inr hs.sq,hr.len ▸ Ti en,μ,h,Uw,ws,Nw,R,S,hr,m,k⟩
   | false=>rw[en]at m;exact(m).elim
  | loc j=>
   have m:(match h.c j with
    | some (.lst ws)=>Ec _ _ False
    | _=>False):=m
   split at m
   rename_i ws ec;obtain⟨p,xs,e1,hs,hr⟩:=dH R r (show cU h (.loc j)=Dn ws by simp only[cU,ec]);cases en:LR ws.length n with
   | true=>rw[en]at m;exact⟨p,xs,e1,.inr hs,hr.len ▸ Ti en,μ,h,Uw,ws,Nw,R,S,hr,m,k⟩
   | false=>rw[en]at m;exact(m).elim
   exact m.elim
  | _=>exact m.elim
end
section
variable {K:Zf}{H:Hp}{h:Gh}{p:Addr}{xs:List V}
end
def YF (Q:WK):WK:=λw h=>match w with
 | .lst ws=>Q (.loc h.nx) (h.new (.lst ws))
 | _=>False
def aac (own:W->Option (List W))(ix:List Nat)(mi:MI)(tt:MT)(te:ME):ME:=λU h Q=>Fq own ix mi tt te U h (YF Q)
section
variable {X:Cx}{tg iter:Expr}{pos:Pos}{scope:Scope}{xs:List Str}{te:ME}
end
def Cd:Expr->Bool
 | .Starred _ _=>true
 | _=>false
theorem aj {e:Expr}{es:List Expr}(h:Cd e=false):Al (e::es) env=(false,eval e env)::Al es env:=by
 cases e<;>first|rfl|cases h
theorem d8 {e:Expr}(h:Cd e=false):Al [e] env=[(false,eval e env)]:=(aj h).trans rfl
def noStar:List Expr->Bool
 | []=>true
 | e::r=>!Cd e&&noStar r
theorem aB {pos:Pos}{env:Env}:∀{es:List Expr},noStar es=true->(Ef pos (Al es env)).any (·.1)=false
 | [],_=>rfl
 | e::r,h=>by
  rw[noStar,GQ,Bool.not_eq_true']at h;rw[aj h.1];show(false||(Ef pos _).any _)=false;rw[aB h.2];rfl
theorem eZ {afq:Pos}{e:Expr}(h:Cd e=false):((Ef afq (Al [e] env)).all (λx=>!x.1)&&(Nh afq (Ni [] env)).all (λx=>x.1.isSome)
   && decide (([e]:List Expr).length+([]:List Hu).length+(if([]:List Hu).isEmpty then 0 else 1)<30))=true:=by
 rw[d8 h];rfl
section
variable {prog:BK}{w:Av}{A:BP}{E:JI->Mk->Prop}{s:Mk}
open HT in
theorem jV {t sl:Addr}{afo:Array JI}{vl vu:JI}{lo hi:Option Int}{Q:JI->Mk->Prop}(ht:IsTup s.heap t afo)(hs:s.heap.IsSliceOf sl vl vu .none)(pl:IsPart vl lo)(pu:IsPart vu hi)
  (h0:sIx afo.size 0 lo=0) (h1:sIx afo.size afo.size hi=afo.size) (h:Q (.ref t) s):Ae (Ai prog w) A (getItem (.ref t) (.ref sl)) Q E s:=by
 obtain⟨os,hos,hcs,hds⟩:=id hs;unfold getItem;try with_reducible refine Mg ?_
 refine Zr<|wpAny_sequenceKey ht.typeIs (by decide) ?_
 refine Zr (RZ ht.typeIs Sy
  (RL Sy ht.typeIs entry_tuple_getitem ?_ (args_tuple_getitem _ _)))
 show Ae _ _ (Builtin.Tuple.tupleItemsOf _ >>= _) _ _ s;refine Zr<|tupleItemsOf_ ht ?_
 refine Zr<|wpAny_typeOf ⟨os,hos,hcs⟩ ?_
 refine Zr<|iH hs pl pu ?_
 have hyes:((((sIx afo.size 0 lo:Nat):Int)==0&&(1:Int)==1&&(sIx afo.size afo.size hi-sIx afo.size 0 lo)==afo.size)=true):=by
  rw[h0,h1];simp
 show Ae _ _ (if _=true then _ else _) _ _ s;rw[if_pos hyes];refine Zr<|Zr<|wpAny_typeOf ht.typeIs<|CG ?_
 refine Zr<|wpAny_rule ?_
 first
  | exact Zr (CG (CG ⟨_,rfl,CG h⟩))
end
section
variable {X:Cx}
def ZG (K:Zf):V->Option Int->Option Int->Hp->VK->Prop:=λx lo hi H Q=>∃a xs,x=.ref a/\Fw K H a xs /\
 HT.sIx xs.length 0 lo=0/\HT.sIx xs.length xs.length hi=xs.length/\Q x H
theorem zbb:N8 X (ZG X.K):=by
 intro afn s U H x v vl vu lo hi sl Q I rx hs pl pu h;obtain⟨a,xs,rfl,hx,h0,h1,q⟩:=h;cases rx;obtain⟨its,r,ht,hz⟩:=I.tuple hx;have afp:its.toArray.size=xs.length:=r.length.symm;exact⟨"tuple",_,Sy.lookup,ht.typeIs,(jV ht hs pl pu (afp ▸ h0) (afp ▸ h1) ⟨.ref a,H,I,rfl,q⟩)⟩
def qL (x:W)(lo hi:Option Int)(h:Gh)(Q:WK):Prop:=match x with
 | .tup ws=>Q (.tup (ou ws lo hi)) h
 | x=>(match cU h x with
  | some ws=>Q (.lst (ou ws lo hi)) h
  | none=>False)
theorem nZ {e:Expr}{lo hi:Option Expr}{ml mh:MO}{p2 pos:Pos}(he:DE X e ma)(hl:DO X lo ml)(hu:DO X hi mh):DE X (.Subscript e (.Slice lo hi Go p2) pos) (Gq qL ma ml mh):=
 (zp (N8.or (N8.or acz Vx) zbb) he hl hu).of λU H Q ⟨μ,h,Uw,Qw,R,S,m,k⟩=>by
  refine⟨μ,h,Uw,_,R,S,m,λx H1 ⟨μ1,wx,h1,e1,R1,r1,m1⟩=>(⟨μ1,h1,Uw,_,R1,S.ext e1,m1,λlo H2 ⟨μ2,h2,e2,R2,m2⟩=>(⟨μ2,h2,Uw,_,R2,(S.ext e1).ext e2,m2,λhi H3 ⟨μ3,h3,e3,R3,m3⟩=>?_⟩)⟩)⟩;have e13:=(e1.trans e2).trans e3;have r3:=e3.r _ _ (e2.r _ _ r1);have oth:∀wy,Zh X.K H3 μ3 wy x->(match cU h3 wy with
    | some ws=>Qw (.lst (ou ws lo hi)) h3
    | none=>False)->∃p xs,x=.ref p/\Ez X.K H3 p xs/\∀l,H3 l=Go->Q (.ref l) (CN H3 l (.lst (M8 xs lo hi))):=by
   intro wy ry my;split at my
   rename_i ws ev;obtain⟨p,xs,ex,hs,rs⟩:=dH R3 ry ev;exact⟨p,xs,ex,hs,λl hl=>k _ _ ⟨μ3,_,h3,e13.trans (Ex.laid hl).ext,R3.laid hl,.lstNew R3 hl<|rs.cutv lo hi,my⟩⟩;cases my
  cases wx with
  | tup ws=>
   have m3:Qw _ h3:=m3;have r30:=r3;obtain⟨p,xs,ex,hx,rs⟩:=r3;have hl:=rs.len;by_cases hw:HT.sIx xs.length 0 lo=0/\HT.sIx xs.length xs.length hi=xs.length
   have ec:ou ws lo hi=ws:=by
    unfold ou;grind
   rw[ec]at m3;exact .inr ⟨p,xs,ex,hx,hw.1,hw.2,k _ _ ⟨μ3,.tup ws,h3,e13,R3,r30,m3⟩⟩;exact .inl<|.inr ⟨p,xs,ex,hx,hw,λq hq=>k _ _ ⟨μ3,.tup _,h3,e13.trans (Ex.laid hq).ext,R3.laid hq,.tupNew hq<|rs.cutv lo hi,m3⟩⟩
  | _=>exact .inl (.inl (oth _ r3 m3))
def Zj:MC:=λws h Q=>match ws with
 | [.int i]=>Q (.int i) h
 | [.bl b]=>Q (.int (if b then 1 else 0)) h
 | _=>False
def aaB:M2:=λx y h Q=>match x,y with
 | .int i,.int j=>sJ i j/\Q (.int (i*j)) h
 | .tup ws,.int k=>(0<=k/\k<=1000/\ws.length*k.toNat<=1000)/\Q (.tup (HI k.toNat ws).flatten) h
 | _,_=>False
def Ce (K:Zf):V->List V->Hp->VK->Prop:=λx vs H Q=>∃(l:Addr) (ns:List Int) (k:Int) (j:Nat),x=.ref l/\vs=[.int k]/\Ez K H l (ns.map V.int)/\ns[j]?=Dn k/\(∀m,m<j->ns[m]?≠Dn k)/\Q (.int j) H
theorem aaZ:ML X "list.index" (Ce X.K):=by
 intro afn s U H x vs v us Q I rx rv h;obtain⟨l,ns,k,j,rfl,rfl,hx,hj,hno,q⟩:=h;cases rx;obtain⟨u,rfl,ru⟩:=rv.one;obtain⟨t,rfl⟩:=ru;obtain⟨its,r,pl,hz⟩:=I.list hx;obtain⟨⟨cl,dd,da,sl⟩,n,e,c1,c2,c3⟩:=pl;simp only at c1 c2 c3;subst c1 c2 c3;have hl:=r.length;rw[Ag]at hl;have at':∀{m:Nat}(hm:m<its.toArray.size),∃a t',ns[m]?=Dn a/\its.toArray[m]=.int a t':=λ{m} hm=>by
  have hm':m<ns.length:=by rw[Ii]at hm;lia
  obtain⟨u,hu,ru⟩:=r.get (show(ns.map V.int)[m]?=Dn (.int ns[m]) by rw[Ds,GF hm'];rfl);obtain⟨t',rfl⟩:=ru;refine⟨ns[m],t',GF hm',?_⟩;have:=(HY.mp hu).2
  simpa using this
 have hjl:j<its.toArray.size:=by
  have:=(HY.mp hj).1
  rw[Ii];lia
 have h63:(Bh:Nat)<2^63-1:=by decide
 have hz':ns.length<=Bh:=by rw[Ag]at hz;exact hz
 let ev:JI->Bool:=λy=>match y with
  | .int a _=>a==k
  | _=>false
 refine call_meets F.slot_list_index ⟨_,e,rfl⟩ F.entry_list_index (F.args_list_index_2 _ _) (SeqAt.list_indexAt l its.toArray n Go sl (.int k t) ev j hjl ?_ ?_ ?_) ⟨e,?_,?_⟩;rw[Ii]at hjl;have:(2:Int)^63-1=((2^63-1:Nat):Int):=by decide
 rw[this];lia;obtain⟨a,t',ea,e2⟩:=at' hjl;rw[e2];rw[hj]at ea;cases ea;show(k==k)=true;exact beq_self_eq_true k;intro m hm hmj;obtain⟨a,t',ea,e2⟩:=at' hm;rw[e2];show(a==k)=false;refine beq_eq_false_iff_ne.mpr λx=>hno m hmj ?_;rw[ea,x];intro y hy;obtain⟨m,hm,e2⟩:=Array.mem_iff_getElem.mp hy;obtain⟨a,t',ea,e3⟩:=at' hm;rw[<-e2,e3];exact SeqAt.EqAt.int_int a t' k t;exact⟨.int j,H,I.tok _,⟨_,rfl⟩,q⟩
def CK:MM:=λx ws h Q=>match ws with
 | [.int k]=>(match cU h x with
  | some us=>∃(ns:List Int) (j:Nat),us=ns.map W.int/\ns[j]?=Dn k/\(∀m,m<j->ns[m]?≠Dn k)/\Q (.int j) h
  | none=>False)
 | _=>False
theorem rB {K:Zf}{H:Hp}{μ:Mu}:∀{ns:List Int}{xs:List V},bA K H μ (ns.map W.int) xs->xs=ns.map V.int
 | [],xs,r=>by rw[List.map_nil,bA]at r;exact r
 | n::ns,xs,r=>by
  rw[Jf,bA]at r;obtain⟨v,vs,e,rv,r⟩:=r;rw[Zh]at rv;rw[e,rv,rB r];rfl
theorem zbF {K:Zf}:Mv K (Ce K) CK:=by
 intro H μ h x vs wx ws Qw Q R rx rs m k;unfold CK at m;split at m
 rename_i i;obtain⟨v,ev,rv⟩:=lE rs;rw[Zh]at rv;subst ev rv;split at m
 rename_i us ev;obtain⟨ns,j,eu,hj,hno,m⟩:=m;obtain⟨p,xs,ex,hs,rr⟩:=dH R rx ev;rw[eu]at rr;have exs:=rB rr;subst exs;exact⟨p,ns,i,j,ex,rfl,hs,hj,hno,k _ _<|.int R m⟩;exact m.elim;exact m.elim
def rm (h:Gh)(w:W)(P:Prop):Prop:=match cU h w with
 | some _=>P
 | none=>False
theorem vq {K:Zf}{H:Hp}{h:Gh}{w:W}{v:V}{P:Prop}(R:Ax K μ H h)(r:Zh K H μ w v)(e:rm h w P):tyV K "list" v H/\P:=by
 unfold rm at e;split at e
 rename_i us ev;obtain⟨p,xs,ex,hs,_⟩:=dH R r ev;subst ex;exact⟨.inl ⟨rfl,xs,hs⟩,e⟩;exact e.elim
def Xz (r:MM)(mo:ME)(ma:MA):ME:=λU h Q=>mo U h λx h1=>rm h1 x (ma U h1 λxs h2=>r x xs h2 Q)
end
def Cz (Z:JI->Prop)(vs:Array JI):Prop:=∃z,vs[2]?=Dn z/\Z z
variable {Z:JI->Prop}
theorem Cz.size {Z:JI->Prop}{vs:Array JI}(c:Cz Z vs):2<vs.size:=let⟨_,e,_⟩:=c;(Array.getElem?_eq_some_iff.mp e).1
variable {Z':JI->Prop}
theorem Cz.mono {vs:Array JI}(c:Cz Z vs)(k:∀z,Z z->Z' z):Cz Z' vs:=let⟨z,e,h⟩:=c;⟨z,e,k z h⟩
def XO (h:Heap)(P:Addr->Prop)(Z:JI->Prop)(e C:Addr)(od:Option Addr):Prop:=P e/\∃(oe:Obj) (vs:Array JI),h.get? e=Dn oe/\oe.cls=.ref C/\oe.dict=od/\oe.data=.fields vs/\vs.size<=1000/\Cz Z vs /\
 (vs[1]?=Dn .none\/∃(T:Addr) (oT:Obj) (ts:Array JI),vs[1]?=Dn (.ref T)/\T≠e/\P T/\h.get? T=Dn oT/\oT.data=.fields ts/\3<ts.size)
def XN (h:Heap)(P:Addr->Prop)(Z:JI->Prop)(e C:Addr)(od:Option Addr):Prop:=P e/\∃(oe:Obj) (vs:Array JI),h.get? e=Dn oe/\oe.cls=.ref C/\oe.dict=od/\oe.data=.fields vs/\vs.size<=1000/\Cz Z vs /\
 ∃(T:Addr) (oT:Obj) (ts:Array JI),vs[1]?=Dn (.ref T)/\T≠e/\P T/\h.get? T=Dn oT/\oT.data=.fields ts/\3<ts.size
theorem XN.xo {h:Heap}{P:Addr->Prop}{e C:Addr}{od:Option Addr}(x:XN h P Z e C od):XO h P Z e C od:=by
 obtain⟨p,oe,vs,a,b,c,d,f,g,k⟩:=x;exact⟨p,oe,vs,a,b,c,d,f,g,.inr k⟩
theorem XO.mono {h:Heap}{P P':Addr->Prop}{Z Z':JI->Prop}{e C:Addr}{od:Option Addr}(x:XO h P Z e C od)(k:∀b,P b->P' b)(kz:∀z,Z z->Z' z):XO h P' Z' e C od:=by
 obtain⟨p,oe,vs,a,b,c,d,f,g,z⟩:=x;refine⟨k _ p,oe,vs,a,b,c,d,f,g.mono kz,?_⟩;rcases z with z|⟨T,oT,ts,z1,z2,z3,z4⟩
 exact .inl z;exact .inr ⟨T,oT,ts,z1,z2,k _ z3,z4⟩
theorem XN.mono {h:Heap}{P P':Addr->Prop}{Z Z':JI->Prop}{e C:Addr}{od:Option Addr}(x:XN h P Z e C od)(k:∀b,P b->P' b)(kz:∀z,Z z->Z' z):XN h P' Z' e C od:=by
 obtain⟨p,oe,vs,a,b,c,d,f,g,T,oT,ts,z1,z2,z3,z4⟩:=x;exact⟨k _ p,oe,vs,a,b,c,d,f,g.mono kz,T,oT,ts,z1,z2,k _ z3,z4⟩
structure N7 (P:Addr->Prop) (fs:List Addr) (h h':Heap):Prop where
 keep:∀b o,¬P b->b∉fs->h.get? b=Dn o->h'.get? b=Dn o
 slot:∀b o,¬P b->h.get? b=Dn o->∃sl,h'.get? b=Dn {o with slots:=sl}
 there:∀b o,h.get? b=Dn o->∃o',h'.get? b=Dn o'
theorem N7.refl {P:Addr->Prop}{fs:List Addr}{h:Heap}:N7 P fs h h:=⟨λ_ _ _ _ e=>e,λ_ o _ e=>⟨o.slots,e⟩,λ_ o e=>⟨o,e⟩⟩
theorem N7.trans {P:Addr->Prop}{fs:List Addr}{h h1 h2:Heap}(a:N7 P fs h h1)(b:N7 P fs h1 h2):N7 P fs h h2:=
 ⟨λc o n m e=>b.keep c o n m (a.keep c o n m e),λc o n e=>let⟨_,e1⟩:=a.slot c o n e;let⟨sl,e2⟩:=b.slot c _ n e1;⟨sl,e2⟩,λc o e=>let⟨o1,e1⟩:=a.there c o e;b.there c o1 e1⟩
section
variable {M:Model}{A:BP}{E:JI->Mk->Prop}{s:Mk}{P:Addr->Prop}{e C:Addr}{od:Option Addr}
theorem zaH {fl:Option Addr}{fs:List Addr}{Q:Unit->Mk->Prop}(x:XN s.heap P Z e C od)(h:∀h',XN h' P Z e C od->N7 P fs s.heap h'->Q () {s with heap:=h'}):Ae M A (setFlight (.ref e) fl) Q E s:=by
 obtain⟨p,oe,vs,he,hc,hdd,hd,hz,h2,T,oT,ts,h1,hne,pT,hT,hdT,h3⟩:=x;refine Zr<|Hq he hd h1<|Te hT hdT h3<|h _ ?_ ?_
 have hd3:=QD hdT (·.setIfInBounds 3 (fl.elim Value.none λf=>rawInt f));refine⟨p,oe,vs,?_,hc,hdd,hd,hz,h2,T,_,_,h1,hne,pT,Q9 _ hT<|RX hd3,hd3,by simpa using h3⟩;rw[N6 _ _ hne];exact he;have ne:∀b,¬P b->T≠b:=λb n q=>n (q ▸ pT)
 refine⟨λb o n _ q=>by rwa[N6 _ _<|ne b n],λb o n q=>⟨o.slots,by rwa[N6 _ _<|ne b n]⟩,λb o q=>?_⟩;by_cases hb:T=b
 subst hb;exact⟨_,Q9 _ hT<|RX<|QD hdT _⟩;exact⟨o,by rwa[N6 _ _ hb]⟩
theorem zF {base:Heap}{outer:List Env}{L:Addr}{oe:Obj}{vs:Array JI}{head:JI}{hadNext:Bool}{Q:Unit->Mk->Prop}
  (hfr:A.frames=Dn (env::outer)) (hl:s.heap.FunFrames base (env::outer)) (hf:env.frame=Dn L) (pe:P e) (he:s.heap.get? e=Dn oe) (hc:oe.cls=.ref C) (hdd:oe.dict=od) (hd:oe.data=.fields vs) (hz:vs.size<=1000) (h2:Cz Z vs)
  (pn:∀b,s.heap.get? b=Go->P b) (h:∀h',XN h' P Z e C od->N7 P (frs (env::outer)) s.heap h'->Q () {s with heap:=h'}) :
  Ae M A (do let a <-frameOf env;let pl <-entryPlaceOf L hadNext;let b <-EntryCells.newEntry head a .none (rawInt L) .none pl;setField (.ref e) 1 b) Q E s:=by
 have hsz:1<vs.size:=Nat.lt_trans (by decide) h2.size;have hene:e∉(env::outer).filterMap (·.frame):=λhm=>by
  obtain⟨_,o,ho,hnf⟩:=hl.mem hm;rw[he]at ho;injection ho with ho;subst ho;exact hnf vs hd
 refine Zr<|wpAny_frameOf_fun hfr hl hf λh₁ hs₁=>?_
 refine Zr<|wpAny_entryPlaceOf λpl hpl=>?_
 unfold EntryCells.newEntry newFields;refine Zr<|T8 ?_<|hpl.sizeOk5 _ _ _ _ _
 have he₁:=(hs₁.2.1 e hene).trans he;have he₂:=Cm (h:=h₁) {cls:=.type "traceback",dict:=Go,data:=.fields ([head,.ref L,.none,rawInt L,.none]++(if pl.isEmpty then HI 6 Value.none else pl)).toArray} he₁;refine Te he₂ hd hsz<|h _ ?_ ?_
 have hTe:=Mf (DK he₁);have hd₃:=QD hd (·.setIfInBounds 1 (Value.ref h₁.objs.size));refine⟨pe,_,_,Q9 _ he₂ (RX hd₃),by rw[Obj.cls_mapFields];exact hc,?_,hd₃,by simpa using hz,(let⟨z,e2,hz2⟩:=h2;⟨z,by rw[Array.getElem?_setIfInBounds_ne (by decide)];exact e2,hz2⟩),h₁.objs.size,_,_,by simp[hsz],hTe,
  pn _ (UJ (hs₁.1 ▸ Bm _)),(N6 _ _ (HF hTe)).trans (HJ h₁ rfl),rfl,by simp<;>lia⟩
 obtain⟨c,dd,dt,sl⟩:=oe;cases hd;exact hdd;have ne:∀b,¬P b->e≠b:=λb n q=>n (q ▸ pe)
 refine⟨λb o n m q=>?_,λb o n q=>?_,λb o q=>?_⟩;rw[N6 _ _ (ne b n)];exact Cm _<|(hs₁.2.1 b m).trans q
 obtain⟨sl,e1⟩:=hs₁.2.2 b o q;exact⟨sl,by rw[N6 _ _<|ne b n];exact Cm _ e1⟩;obtain⟨sl,e1⟩:=hs₁.2.2 b o q;by_cases hb:e=b
 subst hb;exact⟨_,Q9 _ he₂<|RX<|QD hd _⟩;exact⟨_,by rw[N6 _ _ hb];exact Cm _ e1⟩
theorem abZ {base:Heap}{outer:List Env}{L:Addr}{Q:Unit->Mk->Prop}(hfr:A.frames=Dn (env::outer))(hl:s.heap.FunFrames base (env::outer))(hf:env.frame=Dn L)(x:XO s.heap P Z e C od)
  (pn:∀b,s.heap.get? b=Go->P b) (pf:∀b∈frs (env::outer),¬P b) (h:∀h',XN h' P Z e C od->N7 P (frs (env::outer)) s.heap h'->Q () {s with heap:=h'}):Ae M A (noteFrame (.ref e) env) Q E s:=by
 obtain⟨p,oe,vs,he,hc,hdd,hd,hz,h2,z⟩:=x;unfold noteFrame;simp only[hf];rcases z with h1|⟨T,oT,ts,h1,hne,pT,hT,hdT,h3⟩
 refine Zr<|Hq he hd h1 ?_
 exact zF hfr hl hf p he hc hdd hd hz h2 pn h;refine Zr<|Hq he hd h1 ?_
 refine Zr<|Hq hT hdT (x:=ts[3]) (by simp) ?_
 by_cases q:(ts[3]==rawInt L)=true
 rw[if_pos q];exact CG<|h _ ⟨p,oe,vs,he,hc,hdd,hd,hz,h2,T,oT,ts,h1,hne,pT,hT,hdT,h3⟩ .refl
 rw[if_neg q];refine Zr<|Te hT hdT h3 ?_
 have other:∀b,b≠T->(s.heap.update T (Obj.mapFields (·.setIfInBounds 3 Value.none))).get? b=s.heap.get? b:=λb hb=>N6 _ _ (HF hb)
 have nT:∀b,¬P b->b≠T:=λb n q=>n (q ▸ pT)
 have st:N7 P (frs (env::outer)) s.heap (s.heap.update T (Obj.mapFields (·.setIfInBounds 3 Value.none))):=by
  refine⟨λb o n _ q=>(other b<|nT b n).trans q,λb o n q=>⟨o.slots,(other b<|nT b n).trans q⟩,λb o q=>?_⟩;by_cases hb:T=b
  subst hb;exact⟨_,Q9 _ hT<|RX<|QD hdT _⟩;exact⟨o,(other b<|HF hb).trans q⟩
 refine zF hfr (hl.of_keeps λb o hb hnf=>⟨o,(other b λq=>?_).trans hb,rfl⟩) hf p ((other e<|HF hne).trans he) hc hdd hd hz h2 (λb q=>?_) λh' x1 x2=>h h' x1<|st.trans x2
 rw[q,hT]at hb;injection hb with hb;subst hb;exact hnf ts hdT
 by_cases hb:b=T
 rw[hb];exact pT;exact pn b<|(other b hb).symm.trans q
end
variable {L:Addr}{fl:Option Addr}
theorem fM.obj {P:BK}{w:Av}{H:Hp}{h:Heap}{a:Addr}{o:HO}(x:fM P w H h a o):∃ob,h.get? a=Dn ob:=by
 cases o with
 | lst xs=>obtain⟨_,_,_,_,e⟩:=x;exact⟨_,e⟩
 | tup xs=>obtain⟨_,_,_,ob,e,_⟩:=x;exact⟨_,e⟩
 | dK kvs|dT kvs=>obtain⟨_,_,_,_,o,_,_,e,_⟩:=x;exact⟨_,e⟩
 | set S n=>obtain⟨o,_,_,_,e,_⟩:=x;exact⟨_,e⟩
 | ins C dx fs=>obtain⟨_,_,_,e,_⟩:=x;exact⟨_,e⟩
 | own y=>obtain⟨_,e⟩:=x;exact⟨_,e⟩
 | xd fs=>obtain⟨_,⟨_,_,_,e,_⟩,_⟩:=x;exact⟨_,e⟩
 | rng lo hi=>obtain⟨_,_,_,e⟩:=x;exact⟨_,e⟩
 | frz ob u=>obtain⟨e,_⟩:=x;exact⟨_,e⟩
 | tbl ps|met f y=>exact⟨_,x⟩
 | ext φ=>obtain⟨_,⟨_,e⟩,_⟩:=x;exact⟨_,e⟩
section
variable {X:Cx}{afn:List (Addr×Obj)}{U:St}{H H':Hp}{s s':Mk}{b e C:Addr}{od:Option Addr}
structure New (X:Cx) (afn:List (Addr×Obj)) (H:Hp) (b:Addr):Prop where
 h:H b=Go
 s:b∈X.ex\/X.s₀.heap.get? b=Go
 l:b≠X.env.locals
 c:∀x c,X.env.cells.lookup x=Dn c->c≠b
 p:∀p∈X.pn++afn,p.1≠b
 f:b∉X.fs
theorem Yu.newOf (I:Yu X afn U H s)(hb:s.heap.get? b=Go):New X afn H b where
 h:=by
  cases q:H b with
  | none=>rfl
  | some u=>obtain⟨ob,e⟩:=(I.hok b u q).obj;rw[hb]at e;cases e
 s:=by
  by_cases hx:b∈X.ex
  exact .inl hx;cases q:X.s₀.heap.get? b with
  | none=>exact .inr rfl
  | some o=>obtain⟨o',e⟩:=I.base.there b o q hx;rw[hb]at e;cases e
 l:=λz=>by obtain⟨m,⟨o,_,_,ho,_⟩,_⟩:=I.loc;rw[<-z,hb]at ho;cases ho
 c:=λx c e z=>by obtain⟨v,o,ho,_⟩:=I.cell x c e;rw[z,hb]at ho;cases ho
 p:=λp hp z=>by have ho:=(I.pin p hp).1;rw[z,hb]at ho;cases ho
 f:=λhm=>by obtain⟨_,o,ho,_⟩:=I.funs.mem hm;rw[hb]at ho;cases ho
open Classical in
theorem Yu.stp {h':Heap}(I:Yu X afn U H s)(st:N7 (New X afn H) (frs X.stack) s.heap h'):Yu X afn U H {s with heap:=h'}:=by
 have inCh:∀b o,s.heap.get? b=Dn o->b∉(LC _).filter (λb=>decide _)->¬New X afn H b:=λb o e n z=>
  n (PL.mpr ⟨Ri.mpr (DK e),decide_eq_true z⟩)
 refine I.stepG (λb hb=>?_) (λb o hL hf hc e n=>?_) (λb o _ _ hc e _=>st.slot b o (inCh b o e hc) e) (λ_ _ _ _ n=>n)
  (λb o _ e=>st.there b o e) (λ_ _ q=>q) (λ_ _ _ q=>q) (λ_ ps q=>⟨#[],by rw[q];simp⟩) (λm hm=>?_) (λb u q=>?_) I.bare
 have z:=of_decide_eq_true (PL.mp hb).2;exact⟨z.s,z.l,z.c,z.p⟩;exact st.keep b o (inCh b o e hc) (λz=>(Bg.mp<|I.stkSub b z).elim hL hf) e;obtain⟨o,es,ep,ho,r⟩:=hm;obtain⟨sl,q⟩:=st.slot _ o (λz=>z.l rfl) ho;exact⟨_,es,ep,q,r⟩;refine(I.hok b u q).stay (λc v hc r=>?_) (λ_ q=>q) λ_ _ q=>q;have hH:H c≠Go:=by
  grind
 exact st.keep c v (λz=>hH z.h) (λz=>hH<|I.stkFree c z) r
inductive Jq (N:Addr->Prop) (H:Hp):JI->Prop
 | nil:Jq N H .none
 | cons {c:Addr}{o:Obj}{u:HO}{vs:Array JI}{z:JI}(n:N c) (h1:H c=Dn (.frz o u)) (h2:o.data=.fields vs) (h3:vs[2]?=Dn z) (t:Jq N H z):Jq N H (.ref c)
theorem Jq.mono {N N':Addr->Prop}{H H':Hp}{z:JI}(c:Jq N H z)(k:∀a,N a->N' a)(kh:∀a o u,H a=Dn (.frz o u)->H' a=Dn (.frz o u)):Jq N' H' z:=by
 induction c with
 | nil=>exact .nil
 | cons n h1 h2 h3 _ ih=>exact .cons (k _ n) (kh _ _ _ h1) h2 h3 ih
inductive Rc (H:Hp):JI->Addr->Prop
 | here {c:Addr}{o:Obj}{u:HO}(h1:H c=Dn (.frz o u)):Rc H (.ref c) c
 | next {c b:Addr}{o:Obj}{u:HO}{vs:Array JI}{z:JI}(h1:H c=Dn (.frz o u)) (h2:o.data=.fields vs) (h3:vs[2]?=Dn z) (t:Rc H z b):Rc H (.ref c) b
theorem Rc.frz {H:Hp}{v:JI}{b:Addr}(r:Rc H v b):∃o u,H b=Dn (.frz o u):=by
 induction r with
 | here h1=>exact⟨_,_,h1⟩
 | next _ _ _ _ ih=>exact ih
theorem Mp.rc {H0 H:Hp}{v:JI}(c:Mp H0 v)(k:∀a o u,H0 a=Dn (.frz o u)->H a=Dn (.frz o u)):∀{b:Addr},Rc H v b->Rc H0 v b:=by
 induction c with
 | nil=>intro b r;cases r
 | cons h1 h2 h3 _ ih=>
  intro b r;cases r with
  | here _=>exact .here h1
  | next g1 g2 g3 t=>
   rw[(k _ _ _ h1)]at g1;cases g1;rw[h2]at g2;cases g2;rw[h3]at g3;cases g3;exact .next h1 h2 h3<|ih t
theorem Jq.rc {N:Addr->Prop}{H:Hp}{v:JI}(c:Jq N H v):∀{b:Addr},Rc H v b->N b:=by
 induction c with
 | nil=>intro b r;cases r
 | cons n h1 h2 h3 _ ih=>
  intro b r;cases r with
  | here _=>exact n
  | next g1 g2 g3 t=>
   grind
def RcO (H:Hp)(hd:Option JI)(b:Addr):Prop:=∃v,hd=Dn v/\Rc H v b
def Pj (X:Cx)(c:Addr):Prop:=(c∈X.ex\/X.s₀.heap.get? c=Go)\/RcO X.H₀ X.A.handled c
structure FX (X:Cx) (afn:List (Addr×Obj)) (U:St) (H:Hp) (s:Mk) (e C:Addr) (od:Option Addr):Prop where
 inv:Yu X afn U H s
 xo:XO s.heap (New X afn H) (Jq (Pj X) H) e C od
structure FN (X:Cx) (afn:List (Addr×Obj)) (U:St) (H:Hp) (s:Mk) (e C:Addr) (od:Option Addr):Prop where
 inv:Yu X afn U H s
 xn:XN s.heap (New X afn H) (Jq (Pj X) H) e C od
theorem FN.fx (F:FN X afn U H s e C od):FX X afn U H s e C od:=⟨F.inv,F.xn.xo⟩
def Top (X:Cx):Prop:=X.stack=X.env::X.outer/\X.env.frame=Dn X.env.locals
theorem FX.note {M:Model}{A:BP}{E:JI->Mk->Prop}{Q:Unit->Mk->Prop}(F:FX X afn U H s e C od)(ht:Top X)(hA:A.frames=Dn X.stack)(h:∀h',FN X afn U H {s with heap:=h'} e C od->Q () {s with heap:=h'}):
  Ae M A (noteFrame (.ref e) X.env) Q E s:=by
 have hst:=F.inv.stack;rw[ht.1]at hst hA;refine abZ hA hst ht.2 F.xo (λb hb=>F.inv.newOf hb) (λb hb z=>?_) λh' x st=>h h' ⟨F.inv.stp<|ht.1 ▸ st,x⟩;rcases Bg.mp (F.inv.stkSub b (ht.1 ▸ hb))with q|q
 exact z.l q;exact z.f q
theorem FN.flight {M:Model}{A:BP}{E:JI->Mk->Prop}{Q:Unit->Mk->Prop}(F:FN X afn U H s e C od)(h:∀h',FN X afn U H {s with heap:=h'} e C od->Q () {s with heap:=h'}):
  Ae M A (setFlight (.ref e) fl) Q E s:=zaH F.xn λh' x st=>h h' ⟨F.inv.stp st,x⟩
def Oq (P:BK)(w:Av):O6:=λhd outer H s E e s'=>∃(a C:Addr) (od:Option Addr) (H':Hp),e=.ref a/\s'.os=s.os/\Ng s'.gens/\Un (frs outer) [] H H' s.heap s'.heap/\GP P w H' s'.heap /\
 XN s'.heap (λb=>H' b=Go/\s.heap.get? b=Go) (Jq (λb=>s.heap.get? b=Go\/RcO H hd b) H') a C od/\E (.ref C) od H'
theorem FX.leave {M:Model}{E':JI->Mk->Prop}{E:XK}(F:FX X afn U H s e C od)(ht:Top X)(hx:X.ex=[])(he:E (.ref C) od H):
  Ae M X.A (leaving X.env (.ref e)) (λ_ s3=>Oq X.prog X.w X.A.handled X.outer X.H₀ X.s₀ E (.ref e) s3) E' s:=by
 refine Zr<|F.note ht F.inv.ok.frames λh1 F1=>F1.flight λh2 F2=>?_
 have I:=F2.inv;refine⟨e,C,od,H,rfl,I.os,I.bare,by have:=I.base;rw[hx]at this;exact this,I.hok,F2.xn.mono (λb z=>⟨z.h,?_⟩)<|λz c=>c.mono (λb q=>?_) λ_ _ _ q=>q,he⟩;rcases z.s with q|q
 grind
 exact q;rcases q with(q|q)|q
 grind
 exact .inl q;exact .inr q
theorem Yu.cxx {E:XK}{ev:JI}(I:Yu X afn U H s)(h:Oq X.prog X.w X.A.handled X.stack H s E ev s'):∃(a C:Addr) (od:Option Addr) (H':Hp),ev=.ref a/\FN X afn U H' s' a C od/\E (.ref C) od H':=by
 obtain⟨a,C,od,H',e1,os,bare,un,hok,x,he⟩:=h;refine⟨a,C,od,H',e1,⟨I.call' os un hok bare nofun,x.mono (λb z=>?_) λz c=>c.mono (λb q=>q.elim (λq=>.inl (I.newOf q).s) λ⟨v,e,r⟩=>.inr ⟨v,e,(I.ok.qt v e).2.rc I.base.frzs r⟩) λ_ _ _ q=>q⟩,he⟩;have n:=I.newOf z.2;exact⟨z.1,n.s,n.l,n.c,n.p,n.f⟩
end
variable {bm:List JI}{newId:String}
theorem acP {K:Zf}{h:Heap}{C:Addr}(X:K.In h)(q:Ra K C bm newId=true):
  ∃(tl:List JI) (N:Addr) (nm qn:Str) (bs:List JI) (hd:Bool) (sn:List Str) (sub:List JI) (ab:Bool) (col:Option Bool) (dd:Option Addr) (k0 k1 k2 k3 k5:Option JI) (mN:Str->Option JI),
   K.lookup C=Dn (excClassObj nm qn C N bs tl hd sn sub ab col dd k0 k1 k2 k3 k5 newId)/\h.Ns N mN/\mN "__init__" = Go/\OwnTail h bm tl:=by
 unfold Ra at q;split at q
 rename_i dd cd sl ho;split at q
 rename_i C' bm' k0 k1 k2 k3 n k5 hm hs;simp at q;obtain⟨⟨⟨⟨⟨rfl,rfl⟩,hdel⟩,ht⟩,hok⟩,hni⟩:=q;obtain⟨nm,bs,mro,ns,qn,hd,sn,sub,ab,col,del⟩:=cd;dsimp only at hm hdel hok hni;subst hm hdel;have hsl:sl=#[k0,k1,k2,k3,Dn (.builtin n),k5]:=by
  grind
 subst hsl;exact⟨bm',ns,nm,qn,bs,hd,sn,sub,ab,col,dd,k0,k1,k2,k3,k5,_,ho,.of_isNs<|PySem.W.isNs_of_in X hok,PySem.W.nsMap_none_of_in X hok hni,PySem.W.tail_of_in X ht⟩;cases q;cases q
section
variable {X:Cx}{afn:List (Addr×Obj)}{U:St}{H:Hp}{s:Mk}{C:Addr}{x:Str}{np afq pos:Pos}{e:Expr}{es:List Expr}{t:TA}
theorem zZ {Q:Flow->Mk->Prop}{R:Hp->Prop}(hc:X.calm=true)(hg:Gl X x)(hm:X.mg x=Dn (.ref C))(hq:Ra X.K C vmB "ValueError.__new__" = true)(ha:PA X (e::es) t)
  (I:Yu X afn U H s) (h:t U H λvs H1=>vs.length<=Bh/\R H1) (hx:∀a H1 s',FX X afn U H1 s' a C Go->R H1->X.xe (.ref a) s')
  (hdb:(x==("__debug__" : Str))=false:=by decide) (he:Al (e::es) X.env=(false,eval e X.env)::Al es X.env:=by rfl) (hpl:(Ef afq (Al es X.env)).any (·.1)=false:=by rfl) :
  Ae (Ai X.prog X.w) X.A (exec (.Raise (Dn (.Call (.Name x np) (e::es) [] afq)) Go pos) X.env) Q X.xe s:=by
 obtain⟨tl,N,nm,qn,bs,hd,sn,sub,ab,col,dd,k0,k1,k2,k3,k5,mN,hC,hN,hni,T⟩:=acP I.mod.kin hq;refine wpAny_Raise_call_subT (nm:=nm) (q:=qn) (N:=N) (bs:=bs) (hdct:=hd) (sn:=sn) (sub:=sub) (ab:=ab) (col:=col) (dd:=dd) (k0:=k0) (k1:=k1) (k2:=k2) (k3:=k3) (k5:=k5)
  PySem.F.excBase_ValueError (T.hasType PySem.F.excBase_ValueError.hasBase) (I.ok.hd hc) (by rw[he];show(false||(Ef afq _).any (·.1))=false;rw[hpl];rfl) hni (qy I hg hm ⟨rfl,?_⟩ hdb)
 have g:=ha afq afn s U H _ I h;rw[he]at g|-
 refine S7<|Bj g λus s2 ⟨vs,H2,I2,r,z,k⟩=>⟨rfl,?_,I2.kIn _ _ hC,hN.keeps I2.bk,T.keeps I2.bk,λh' a M=>hx a H2 _ ⟨I2.kept M.keeps,?_⟩ k⟩
 rw[<-r.length];exact z;obtain⟨tt,h1,h2,h3⟩:=M.there;exact⟨I2.newOf M.new,_,_,h1,rfl,rfl,rfl,by simp,⟨.none,rfl,.nil⟩,.inl rfl⟩
end
variable {np:Pos}
def V9 (K:Zf)(H:Hp)(μ:Mu)(C:Addr)(n:Str)(od:Option Addr)(fs:List (Str×W)):Prop:=
 (od=Go/\fs=[])\/∃dd ws xs,od=Dn dd/\Ws K C n=true/\fs=(Gz n).zip ws/\ws.length=(Gz n).length/\(Gz n).length=xs.length/\H dd=Dn (.xd ((Gz n).zip xs))/\bA K H μ ws xs
def XT (X:Cx)(H:Hp)(μ:Mu)(Γ:St->Prop)(E:Ba):JI->Mk->Prop:=λev s=>∃(a C:Addr) (n:Str) (od:Option Addr) (fs:List (Str×W)) (afn:List (Addr×Obj)) (U:St) (H':Hp) (μ':Mu) (h':Gh),ev=.ref a/\FX X afn U H' s a C od/\tV X.K C n=true/\Γ U /\
 DR X.K H μ H' μ'/\Ax X.K μ' H' h'/\V9 X.K H' μ' C n od fs/\E ⟨n,fs⟩ h'
variable {Γ:St->Prop}
theorem XT.trans {X:Cx}{H H1:Hp}{μ μ1:Mu}{Γ:St->Prop}{E:Ba}{ev:JI}{s:Mk}(x:XT X H1 μ1 Γ E ev s)(e:DR X.K H μ H1 μ1):XT X H μ Γ E ev s:=by
 obtain⟨a,C,n,od,fs,afn,U,H',μ',h',h1,h2,h3,h4,h5,h6⟩:=x;exact⟨a,C,n,od,fs,afn,U,H',μ',h',h1,h2,h3,h4,e.trans h5,h6⟩
def tDX (X:Cx)(Γ:St->Prop)(m:Ba->ME):TE:=λU H Q=>Γ U/\∃μ h Uw Qw E,Ax X.K μ H h/\Slots X.K H μ Uw U/\m E Uw h Qw/\(∀v H',DQ X.K H μ Qw v H'->Q v H')/\∀ev s',XT X H μ Γ E ev s'->X.xe ev s'
def YB (X:Cx)(Γ:St->Prop)(m:Ba->MS):TS:=λD U H=>Γ U/\∃μ h Uw Dw E,Ax X.K μ H h/\Slots X.K H μ Uw U/\m E Dw Uw h/\vo X.K H μ Dw D/\∀ev s',XT X H μ Γ E ev s'->X.xe ev s'
abbrev DEx (X:Cx)(Γ:St->Prop)(e:Expr)(m:Ba->ME):Prop:=PE X e (tDX X Γ m)
abbrev Pk (X:Cx)(Γ:St->Prop)(st:Stmt)(m:Ba->MS):Prop:=PS X st (YB X Γ m)
abbrev Ig (X:Cx)(Γ:St->Prop)(st:List Stmt)(m:Ba->MS):Prop:=LI X st (YB X Γ m)
def vJ (K:Zf)(ms:AP):Sp:=λvs H Q E=>∃μ h ws Qw Ew,Ax K μ H h/\bA K H μ ws vs/\ms ws h Qw Ew/\(∀v H',DQ K H μ Qw v H'->Q v H') /\
 ∀(C:Addr) (n:Str) (od:Option Addr) (fs:List (Str×W)) (H':Hp),tV K C n=true->(∃μ' h',DR K H μ H' μ'/\Ax K μ' H' h'/\V9 K H' μ' C n od fs/\Ew ⟨n,fs⟩ h')->E (.ref C) od H'
theorem eY.tame {P:BK}{w:Av}{K:Zf}{mg:Str->Option JI}{base:Heap}{k:Nat}{f:Addr}{fd:DW}{ps:List Str}(F:eY P w K mg base (Oq P w) k f fd ps (vJ K ms)):eY P w K mg base Fl k f fd ps (lift K ms):=by
 have up:∀vs H Q E,lift K ms vs H Q E->vJ K ms vs H Q E0:=λvs H Q E ⟨μ,h,ws,Qw,R,r,m,q⟩=>⟨μ,h,ws,Qw,EF,R,r,m,q,λ_ _ _ _ _ _ ⟨_,_,_,_,_,z⟩=>z⟩
 refine⟨λvs H Q E q=>F.len vs H Q E0<|up _ _ _ _ q,λA outer s H args us vs Q E hr e0 hb hv hs=>codeAny_mono (F.run A outer s H args us vs Q E0 hr e0 hb hv<|up _ _ _ _ hs) λr s' h=>?_⟩;cases r with
 | error e=>obtain⟨_,_,_,_,_,_,_,_,_,_,z⟩:=h;exact z
 | ok fl=>cases fl<;>exact h
section
variable {X:Cx}{e c:Expr}{es:List Expr}{pos:Pos}{st:Stmt}{rest:List Stmt}
theorem uc {k:Nat}{f:Addr}{fd:DW}{ps:List Str}{x:Str}{p:Pos}(F:eY X.prog X.w X.K X.mg X.base (Oq X.prog X.w) k f fd ps (vJ X.K ms))(hr:lg k X.A)(hg:Gl X x)(hm:X.mg x=Dn (.ref f))(hk:Nv X.K (.ref f)=true)
  (hb:Binds X.K fd ps []) (ha:Gn X (e::es) mr) (hdb:(x==("__debug__" : Str))=false:=by decide) (he:Al (e::es) X.env=(false,eval e X.env)::Al es X.env:=by rfl) (hpl:(Ef pos (Al es X.env)).any (·.1)=false:=by rfl) :
  DEx X Γ (.Call (.Name x p) (e::es) [] pos) (λE=>bN ms E mr):=by
 intro afn s U H Q I ⟨hU,μ,h,Uw,Qw,E,R,S,m,q,kx⟩;refine Ss<|qy I hg hm ?_ hdb
 refine PySem.W.callWith_K I.ok.mod.kin hk (Bj (ha pos afn s U H _ I ⟨μ,h,Uw,_,R,S,m,λ_ _ z=>z⟩) λus s1 ⟨vs,H1,I1,r,μ1,ws,h1,e1,R1,r1,m1⟩=>⟨I1.kIn,?_⟩) he hpl;have sp:vJ X.K ms (vs++[]) H1 Q (λCv od H'=>∃(C:Addr) (n:Str) (fs:List _) (μ':Mu) (h':Gh),Cv=.ref C/\tV X.K C n=true/\DR X.K H1 μ1 H' μ'/\Ax X.K μ' H' h'/\V9 X.K H' μ' C n od fs/\E ⟨n,fs⟩ h'):=by
  rw[RD];exact⟨μ1,h1,ws,Qw,E,R1,r1,m1,λv H' z=>q _ _<|z.trans e1,λC n od fs H' hx ⟨μ',h',z⟩=>⟨C,n,fs,μ',h',rfl,hx,z⟩⟩
 have r2:=r.append .nil;refine wpAny_call<|codeAny_mono (F.run X.A _ s1 H1 ⟨us,[]⟩ _ _ Q _ hr I1.env0 (hb s1 us I1.kIn<|r2.length ▸ F.len _ _ _ _ sp) r2 sp) λr s' hq=>?_
 cases r with
 | error ev=>
  obtain⟨a,C,od,H',e2,F2,C',n,fs,μ',h',e3,hx,e4,R4,k4⟩:=I1.cxx (E:=λCv od H'=>∃(C:Addr) (n:Str) (fs:List _) (μ':Mu) (h':Gh),Cv=.ref C/\tV X.K C n=true/\DR X.K H1 μ1 H' μ'/\Ax X.K μ' H' h'/\V9 _ H' μ' C n od fs/\E ⟨n,fs⟩ h') hq;cases e3;exact kx ev s' ⟨a,C,n,od,fs,afn,U,H',μ',h',e2,F2.fx,hx,hU,e1.trans e4,R4,k4⟩
 | ok fl=>
  cases fl with
  | ret u=>exact I1.after hq
  | next=>exact Nq hq
  | brk=>exact Nq hq
  | cont=>exact Nq hq
theorem nM {m:MS}(h:DS X st m):Pk X Γ st (λ_=>m):=h.of λD U H ⟨_,μ,h,Uw,Dw,_,R,S,m,k,_⟩=>⟨μ,h,Uw,Dw,R,S,m,k⟩
theorem lO:Ig X Γ [] (λ_=>dJ):=bG.of λD U H ⟨_,μ,h,Uw,Dw,_,R,S,m,k,_⟩=>⟨μ,h,Uw,Dw,R,S,m,k⟩
theorem eO {m:Ba->MS}(h:Pk X Γ st m):Ig X Γ [st] m:=Cr h
theorem cW {m1 m2:Ba->MS}(hΓ:∀U,Γ U)(h1:Pk X Γ st m1)(h2:Ig X Γ rest m2):Ig X Γ (st::rest) (λE=>bU (m1 E) (m2 E)):=(yW h1 h2).of λD U H ⟨g,μ,h,Uw,Dw,E,R,S,m,k,kx⟩=>by
 refine⟨g,μ,h,Uw,_,E,R,S,m,⟨?_,k.rt,k.bk,k.ct⟩,kx⟩;intro U' H' ⟨μ1,Uw1,h1,e1,R1,S1,m1⟩;exact⟨hΓ _,μ1,h1,Uw1,Dw,E,R1,S1,m1,k.trans e1,λev s' z=>kx ev s'<|z.trans e1⟩
theorem xW {ma:Ba->ME}(he:DEx X Γ e ma)(hs:Pu e Go pos.line X.env=pure false:=by rfl):Pk X Γ (.Expr e pos) (λE=>mY (ma E)):=(Gb he hs).of λD U H ⟨g,μ,h,Uw,Dw,E,R,S,m,k,kx⟩=>
 ⟨g,μ,h,Uw,_,E,R,S,m,λv H1 ⟨μ1,w,h1,e1,R1,_,m1⟩=>k.nx _ _ ⟨μ1,Uw,h1,e1,R1,S.ext e1,m1⟩,kx⟩
theorem uI {a b:List Stmt}{t:MT}{m1 m2:Ba->MS}(hc:DT X c t)(ha:Ig X Γ a m1)(hb:Ig X Γ b m2):Pk X Γ (.If c a b pos) (λE=>jx t (m1 E) (m2 E)):=(T4 hc ha hb).of λD U H ⟨g,μ,h,Uw,Dw,E,R,S,m,k,kx⟩=>by
 refine⟨μ,h,Uw,_,R,S,m,λb H1 ⟨μ1,h1,e1,R1,q⟩=>?_⟩;cases b with
 | true=>rw[if_pos rfl];exact⟨g,μ1,h1,Uw,Dw,E,R1,S.ext e1,q.1 rfl,k.trans e1,λev s' z=>kx ev s' (z.trans e1)⟩
 | false=>rw[if_neg Jm];exact⟨g,μ1,h1,Uw,Dw,E,R1,S.ext e1,q.2 rfl,k.trans e1,λev s' z=>kx ev s' (z.trans e1)⟩
theorem CW {ma:Ba->ME}{i:Nat}{x:Str}{pos':Pos}(hN:X.N.Nodup)(hi:X.N[i]?=Dn x)(hx:Loc X.env.scope x)(he:DEx X Γ e ma)(hs:Pu e (Dn (.Name x pos')) pos.line X.env=pure false:=by rfl)
  (hf:X.fn x=true\/X.env.scope.names.lookup x=Dn .local:=by first|exact .inl rfl|exact .inr rfl|assumption):Pk X Γ (.Assign [.Name x pos'] e pos) (λE=>cY (ma E) (YM i)):=
 (JF hN hi hx he hs hf).of λD U H ⟨g,μ,h,Uw,Dw,E,R,S,m,k,kx⟩=>
  ⟨g,μ,h,Uw,_,E,R,S,m,λv H1 ⟨μ1,w,h1,e1,R1,r1,m1⟩=>k.nx _ _ ⟨μ1,Uw.set i _,h1,e1,R1,(S.ext e1).set r1 i,m1⟩,kx⟩
theorem jf {C:Addr}{x v:Str}{j}{afq p1:Pos}(hc:X.calm=true)(hg:Gl X x)(hm:X.mg x=Dn (.ref C))(hq:Ra X.K C vmB "ValueError.__new__" = true)(hx:tV X.K C x=true)(hdb:(x==("__debug__" : Str))=false:=by decide):
  Pk X Γ (.Raise (Dn (.Call (.Name x np) [.Constant (.str v) j p1] [] afq)) Go pos) (λE=>pL x E):=by
 intro afn s U H D I ⟨g,μ,h,Uw,Dw,E,R,S,m,k,kx⟩;refine zZ (R:=λH1=>∃μ1 h1,DR _ H μ H1 μ1/\Ax _ μ1 H1 h1/\E ⟨x,[]⟩ h1) hc hg hm hq (ak aP aq rfl) I ⟨μ,h,Uw,λws h1=>ws.length=1/\E ⟨x,[]⟩ h1,R,S,⟨rfl,m⟩,λvs H' ⟨μ1,ws,h1,e1,R1,r1,l1,m1⟩=>⟨by rw[<-r1.len,l1];decide,μ1,h1,e1,R1,m1⟩⟩ (λa H1 s' F ⟨μ1,h1,e1,R1,m1⟩=>?_) hdb rfl rfl;exact kx _ s' ⟨a,C,x,Go,[],afn,U,H1,μ1,h1,rfl,F,hx,g,e1,R1,.inl ⟨rfl,rfl⟩,m1⟩
end
variable {p1:Pos}
theorem Qs {P:BK}{w:Av}{K:Zf}{mg:Str->Option JI}{base:Heap}{x qual:Str}{st:Stmt}{f:Addr}{fd:DW}{N ps:List Str}{k:Nat}{pure:Bool}{body:Ba->MS}(F:G8 K x qual st f fd)(S:bO N ps (aW st))
  (hb:∀(cdv:JI) (A:BP) (outer:List Env) (s:Mk) (H:Hp) (E:XK),lg k (A.deeper (envOfC qual (aW st) s.heap.objs.size f cdv)) ->
   Ig (N5 (Oq P w) P w K mg base N qual (aW st) f cdv A outer s H E) (λ_=>True) (jd st) body):eY P w K mg base (Oq P w) (k+1) f fd ps (vJ K (Fx ps.length N.length pure body)):=by
 obtain⟨oc,od,kV,doc,pm,an,cdv,ct,osl,rfl,lk,hcd⟩:=F.ex;refine Ud lk hcd S (λvs H Q E ⟨μ,h,ws,Qw,Ew,R,r,m,_,_⟩=>by rw[<-r.len];exact(yh m).1) λA outer s H vs Q E hr ⟨μ,h,ws,Qw,Ew,R,r,m0,k,kx⟩=>?_;obtain⟨hl,m⟩:=yh m0;refine⟨_,hb cdv A outer s H E hr,trivial,μ,h,_,_,Ew,R,pD r,m,⟨?_,?_,?_,?_⟩,?_⟩;rintro U' H' ⟨μ1,Uw1,h1,e1,R1,S1,m1⟩;exact k _ _<|ux R e1 R1 (by rw[Zh]) m1
 rintro v H' ⟨μ1,w1,h1,e1,R1,r1,m1⟩;exact k _ _<|ux R e1 R1 r1 m1
 rintro U' H' ⟨μ1,Uw1,h1,e1,R1,S1,m1⟩;exact m1.elim;rintro U' H' ⟨μ1,Uw1,h1,e1,R1,S1,m1⟩;exact m1.elim;rintro ev s' ⟨a,C,n,od,fs,afn,U',H',μ',h',rfl,F',hx,_,e1,R1,m1⟩;exact F'.leave ⟨rfl,rfl⟩ rfl<|kx C n od fs H' hx ⟨μ',h',e1,R1,m1⟩
abbrev Cx.tr (X:Cx)(afn:List (Addr×Obj))(xe:JI->Mk->Prop):Cx:={X with pn:=X.pn++afn,xe:=xe}
abbrev Cx.hnd (X:Cx)(a:Addr)(H0:Hp):Cx:={X with A:=X.A.mark (Dn (.ref a)),H₀:=H0,calm:=false}
def uQ (a:Addr)(o:Obj):HO:=.ext λh=>h.get? a=Dn o
section
variable {X:Cx}{afn pins':List (Addr×Obj)}{U:St}{H:Hp}{s:Mk}{xe:JI->Mk->Prop}{a C:Addr}{o:Obj}{u:HO}
theorem Cx.Ok.tr (ok:X.Ok)(afn:List (Addr×Obj))(xe:JI->Mk->Prop):(X.tr afn xe).Ok:=
 ⟨ok.mod,ok.kind,ok.glob,ok.blt,ok.above,ok.inj,ok.has,ok.cab,ok.hd,ok.qt,ok.frames,ok.stk,ok.exf,ok.bs,ok.bsz,ok.noex,ok.exfs,ok.funs,ok.frf⟩
theorem Cx.Ok.untr (ok:(X.tr afn xe).Ok):X.Ok:=
 ⟨ok.mod,ok.kind,ok.glob,ok.blt,ok.above,ok.inj,ok.has,ok.cab,ok.hd,ok.qt,ok.frames,ok.stk,ok.exf,ok.bs,ok.bsz,ok.noex,ok.exfs,ok.funs,ok.frf⟩
theorem Yu.tr (I:Yu X afn U H s):Yu (X.tr afn xe) [] U H s:=⟨I.ok.tr afn xe,I.os,I.bare,I.base,I.loc,I.cell,I.free,I.freeC,λp hp=>I.pin p (by
 have hp':=hp;rw[RD]at hp';exact hp'),I.hok,I.len⟩
theorem Yu.untr (I:Yu (X.tr afn xe) pins' U H s):Yu X afn U H s:=⟨I.ok.untr,I.os,I.bare,I.base,I.loc,I.cell,I.free,I.freeC,λp hp=>I.pin p (RW _ hp),I.hok,I.len⟩
theorem New.untr {b:Addr}(n:New (X.tr afn xe) pins' H b):New X afn H b:=⟨n.h,n.s,n.l,n.c,λp hp=>n.p p (RW _ hp),n.f⟩
theorem FX.untr {e:Addr}{od:Option Addr}(F:FX (X.tr afn xe) pins' U H s e C od):FX X afn U H s e C od:=⟨F.inv.untr,F.xo.mono (λ_ n=>n.untr) λ_ z=>z⟩
theorem SP.untr {D:Ends}{f:Flow}{s':Mk}(h:SP (X.tr afn xe) [] D f s'):SP X afn D f s':=by
 cases f with
 | next|brk|cont=>obtain⟨U',H',I,q⟩:=h;exact⟨U',H',I.untr,q⟩
 | ret v=>obtain⟨v,U',H',I,r,q⟩:=h;exact⟨v,U',H',I.untr,r,q⟩
structure Uy (X:Cx) (H0:Hp):Prop where
 s0:∀b ob,X.s₀.heap.get? b=Dn ob->H0 b=X.H₀ b
 tups:∀b xs,X.H₀ b=Dn (.tup xs)->H0 b=Dn (.tup xs)
 frzs:∀b ob v,X.H₀ b=Dn (.frz ob v)->H0 b=Dn (.frz ob v)
 tbls:∀b ps,X.H₀ b=Dn (.tbl ps)->H0 b=Dn (.tbl ps)
theorem Jq.lst {N:Addr->Prop}{H:Hp}{z:JI}(c:Jq N H z):∃l:List Addr,(∀b∈l,N b/\∃o u,H b=Dn (.frz o u))/\∀H0:Hp,(∀b∈l,H0 b=H b)->Jq N H0 z:=by
 induction c with
 | nil=>exact⟨[],λb hb=>absurd hb (by simp),λ_ _=>.nil⟩
 | @cons c o u vs z n h1 h2 h3 _ ih=>
  obtain⟨l,p,q⟩:=ih;refine⟨c::l,λb hb=>?_,λH0 k=>.cons n ((k c<|by simp).trans h1) h2 h3<|q H0 λb hb=>k b<|by simp[hb]⟩;rcases Bg.mp hb with rfl|hb
  grind
  exact p b hb
theorem Jq.chn {N:Addr->Prop}{H:Hp}{z:JI}(c:Jq N H z):Mp H z:=by
 induction c with
 | nil=>exact .nil
 | cons _ h1 h2 h3 _ ih=>exact .cons h1 h2 h3 ih
open Classical in
theorem Yu.hnd {vs:Array JI}{z:JI}(I:Yu X afn U H s)(n:New X afn H a)(hx:X.ex=[])(ho:s.heap.get? a=Dn o)(hd:o.data=.fields vs)(h2:vs[2]?=Dn z)(ch:Jq (Pj X) H z) :
  ∃H0,Uy X H0/\(∀b,Pj (X.hnd a H0) b->Pj X b)/\Yu (X.hnd a H0) afn U (CN H a (.frz o (uQ a o))) s:=by
 obtain⟨l1,lp1,lq⟩:=ch.lst;have s0:X.s₀.heap.get? a=Go:=by
  rcases n.s with q|q
  rw[hx]at q;cases q;exact q
 let l:List Addr:=l1.filter λb=>decide (X.s₀.heap.get? b=Go)
 have l0:∀b∈l,X.s₀.heap.get? b=Go:=λb hb=>of_decide_eq_true (PL.mp hb).2
 have lp:∀b∈l,True/\∃o u,H b=Dn (.frz o u):=λb hb=>⟨trivial,(lp1 b (PL.mp hb).1).2⟩
 have la:∀b∈l,b≠a:=λb hb q=>by
  obtain⟨_,_,_,e⟩:=lp b hb;rw[q,n.h]at e;cases e
 let H0:Hp:=λb=>if b=a then Dn (.frz o (uQ a o))else if b∈l then H b else X.H₀ b
 have hA:H0 a=Dn (.frz o (uQ a o)):=if_pos rfl;have hL:∀b∈l,H0 b=H b:=λb hb=>(if_neg (la b hb)).trans (if_pos hb)
 have hO:∀b,b≠a->b∉l->H0 b=X.H₀ b:=λb h1 h3=>(if_neg h1).trans (if_neg h3)
 have ne:∀b ob,X.s₀.heap.get? b=Dn ob->b≠a:=λb ob e z=>by rw[z,s0]at e;cases e
 have nl:∀b ob,X.s₀.heap.get? b=Dn ob->b∉l:=λb ob e z=>by rw[l0 b z]at e;cases e
 have eq0:∀b ob,X.s₀.heap.get? b=Dn ob->H0 b=X.H₀ b:=λb ob e=>hO b (ne b ob e) (nl b ob e)
 have nf:∀b∈X.fs,b≠a:=λb hb z=>n.f (by rw[<-z];exact hb)
 have nfl:∀b∈X.fs,b∉l:=λb hb z=>by
  obtain⟨_,ob,ho,_⟩:=I.ok.funs.mem hb;exact nl b ob ho z
 have kf:∀b ob v,X.H₀ b=Dn (.frz ob v)->H0 b=Dn (.frz ob v):=λb ob v e=>by
  have e1:=I.base.frzs b ob v e;by_cases hb:b=a
  rw[hb,n.h]at e1;cases e1;by_cases hl:b∈l
  rw[hL b hl];exact e1;rw[hO b hb hl];exact e
 have kt:∀b xs,X.H₀ b=Dn (.tup xs)->H0 b=Dn (.tup xs):=λb xs e=>by
  have e1:=I.base.tups b xs e;by_cases hb:b=a
  rw[hb,n.h]at e1;cases e1;by_cases hl:b∈l
  rw[hL b hl];exact e1;rw[hO b hb hl];exact e
 have kb:∀b ps,X.H₀ b=Dn (.tbl ps)->H0 b=Dn (.tbl ps):=λb ps e=>by
  obtain⟨_,e1⟩:=I.base.tbls b ps e;by_cases hb:b=a
  rw[hb,n.h]at e1;cases e1;by_cases hl:b∈l
  obtain⟨_,_,_,e2⟩:=lp b hl;rw[e1]at e2;cases e2;rw[hO b hb hl];exact e
 have hL1:∀b∈l1,H0 b=H b:=λb hb=>by
  by_cases q:X.s₀.heap.get? b=Go
  exact hL b<|PL.mpr ⟨hb,decide_eq_true q⟩
  have nb:b≠a:=λz=>q (by rw[z];exact s0)
  rw[hO b nb (λz=>q (l0 b z))];rcases(lp1 b hb).1 with(z|z)|⟨v,_,r⟩
  rw[hx]at z;cases z;exact absurd z q;obtain⟨o',u',e⟩:=r.frz;rw[e];exact(I.base.frzs b o' u' e).symm
 have ch1:Jq (Pj X) H0 (.ref a):=.cons (.inl n.s) hA hd h2 (lq H0 hL1);have nw:∀b,Pj (X.hnd a H0) b->Pj X b:=λb q=>by
  rcases q with q|⟨v,e,r⟩
  exact .inl q;cases e;exact ch1.rc r
 have ok:(X.hnd a H0).Ok:=by
  have k:=I.ok;refine⟨k.mod,k.kind,k.glob,k.blt,k.above,k.inj,k.has,k.cab,λz=>(nomatch z),λv e=>?_,k.frames,k.stk,k.exf,λb ob e=>?_,k.bsz,k.noex,k.exfs,k.funs,λb hb=>?_⟩;cases e;exact⟨⟨a,rfl⟩,ch1.chn⟩;obtain⟨e1,e2⟩:=k.bs b ob e;exact⟨e1,(eq0 b ob e1).trans e2⟩;exact(hO b (nf b hb)<|nfl b hb).trans (k.frf b hb)
 refine⟨H0,⟨eq0,kt,kf,kb⟩,nw,ok,I.os,I.bare,⟨λb ob e z hf hx=>I.base.keep b ob e ((eq0 b ob e).symm.trans z) hf hx,λb ob e z hf hx=>I.base.slot b ob e ((eq0 b ob e).symm.trans z) hf hx,λb ob e z hx=>?_,I.base.there,λb xs z=>?_,λb ob v z=>?_,λb ps z=>?_⟩,I.loc,I.cell,?_,λx c e=>?_,λp hp=>?_,λb v z=>?_,I.len⟩;rw[aO (ne b ob e)];exact I.base.free b ob e ((eq0 b ob e).symm.trans z) hx;have z:H0 b=Dn (.tup xs):=z;by_cases hb:b=a
 rw[hb,hA]at z;cases z;rw[aO hb];by_cases hl:b∈l
 rw[hL b hl]at z;exact z;rw[hO b hb hl]at z;exact I.base.tups b xs z;have z:H0 b=Dn (.frz ob v):=z;by_cases hb:b=a
 rw[hb,hA]at z;rw[hb,bM];exact z;rw[aO hb];by_cases hl:b∈l
 rw[hL b hl]at z;exact z;rw[hO b hb hl]at z;exact I.base.frzs b ob v z;have z:H0 b=Dn (.tbl ps):=z;by_cases hb:b=a
 rw[hb,hA]at z;cases z;rw[aO hb];by_cases hl:b∈l
 obtain⟨_,_,_,e2⟩:=lp b hl;rw[hL b hl,e2]at z;cases z;rw[hO b hb hl]at z;exact I.base.tbls b ps z;rw[aO (HF n.l)];exact I.free;rw[aO (n.c x c e)];exact I.freeC x c e;obtain⟨h1,h3,h4⟩:=I.pin p hp;exact⟨h1,(aO<|n.p p hp).trans h3,h4⟩;by_cases hb:b=a
 subst hb;rw[bM]at z;cases z;exact⟨ho,ho,⟨o,ho⟩,λh1 h2 q k=>k o q⟩;rw[aO hb]at z;exact(I.hok b v z).stay (λ_ _ _ q=>q) (λc q=>by rw[aO (aU q n.h)];exact q) λc xs q=>by rw[aO (aU q n.h)];exact q
theorem Yu.unhnd {H0:Hp}(ok:X.Ok)(k:Uy X H0)(I:Yu (X.hnd a H0) pins' U H s):Yu X pins' U H s:=by
 have up:∀b ob,X.s₀.heap.get? b=Dn ob->X.H₀ b=Go->(X.hnd a H0).H₀ b=Go:=λb ob e z=>(k.s0 b ob e).trans z
 exact⟨ok,I.os,I.bare,⟨λb ob e z hf hx=>I.base.keep b ob e (up b ob e z) hf hx,λb ob e z hf hx=>I.base.slot b ob e (up b ob e z) hf hx,λb ob e z hx=>I.base.free b ob e (up b ob e z) hx,I.base.there,λb xs z=>I.base.tups b xs<|k.tups b xs z,λb ob v z=>I.base.frzs b ob v<|k.frzs b ob v z,λb ps z=>I.base.tbls b ps<|k.tbls b ps z⟩,I.loc,I.cell,I.free,I.freeC,I.pin,I.hok,I.len⟩
def tE (U:St):St:=U.map λ_=>Go
theorem Yu.lost {m':Str->Option JI}{h':Heap}{t':Nat}(I:Yu X afn U H s)(hn:h'.Ns X.env.locals m')(sb:QC X.env.locals s.heap h'):Yu X afn (tE U) H {s with heap:=h',toks:=t'}:=by
 have neL:∀b o,X.s₀.heap.get? b=Dn o->b≠X.env.locals:=λb o e=>Cg (Df (DK e) I.ok.above)
 have k:∀b o,b≠X.env.locals->s.heap.get? b=Dn o->h'.get? b=Dn o:=λb o hb e=>(sb.2 b hb).trans e
 refine⟨I.ok,I.os,I.bare,⟨λb o e z hf hx=>k b o (neL b o e)<|I.base.keep b o e z hf hx,λb o e z hf hx=>?_,I.base.free,λb o e hx=>?_,I.base.tups,I.base.frzs,I.base.tbls⟩,⟨m',hn,λi x v _ e2 _=>?_⟩,λx c e=>?_,I.free,I.freeC,λp hp=>?_,λb v z=>?_,?_⟩;obtain⟨sl,e1⟩:=I.base.slot b o e z hf hx;grind
 obtain⟨o',e1⟩:=I.base.there b o e hx;exact⟨o',k b _ (neL b o e) e1⟩;unfold tE at e2;rw[Ds]at e2;cases q:U[i]? with
 | none|some w=>rw[q]at e2;cases e2
 obtain⟨v,oc,ho,hd⟩:=I.cell x c e;exact⟨v,oc,k c oc (I.cne x c e) ho,hd⟩;obtain⟨h1,h2,h3,h4⟩:=I.pin p hp;grind
 have nL:∀c w,H c=Dn w->c≠X.env.locals:=λc w e q=>by rw[q,I.free]at e;cases e
 refine(I.hok b v z).stay (λc w hc q=>k c w ?_ q) (λ_ q=>q) λ_ _ q=>q;grind
 unfold tE;rw[Ag];exact I.len
end
section
variable {prog:BK}{w:Av}{A:BP}{E:JI->Mk->Prop}{s:Mk}{K:Zf}{x:Addr}{ox:Obj}
theorem zay {Q:Option JI->Mk->Prop}{od:Option Obj}(X:K.In s.heap)(I:PySem.W.InstAt s.heap x ox D od)(hga:MJ K (.ref D) "__getattribute__" = Dn (Dn (.builtin "BaseException.__getattribute__")))(hk:MJ K (.ref D) "__getattr__" = Dn Go)
  (hf:PySem.W.findObj K D od "__class__" = Dn (.bind (.builtin "getset_descriptor.__get__") (.builtin "object.__class__"))) (hm:Nu K D (.type "object")=Dn true) (hB:Nu K D (.type "BaseException")=Dn true)
  (h:Q (Dn (.ref D)) {s with toks:=s.toks+1}):Ae (Ai prog w) A (getAttr? (.ref x) "__class__") Q E s:=by
 obtain⟨hh,g,d,t,os⟩:=s;have L0:=I.type (M:=Ai prog w);have L1:=PySem.W.looks_findIn (M:=Ai prog w) X hga;have L2:=PySem.W.looks_findIn (M:=Ai prog w) X hk;have L3:=PySem.W.looks_find (M:=Ai prog w) X I hf;have L4:=PySem.W.looks_mroIn (M:=Ai prog w) X hB;unfold getAttr? getAttrBy? getAttrBy;refine Zr<|wpAny_mkText<|Zr<|Ru<|Mg<|Zr<|PySem.W.Looks.at L0<|Zr<|PySem.W.Looks.at L1 ?_
 show Ae _ _ (if(onTheHeap (Value.ref D)&&(Value.builtin "BaseException.__getattribute__"==Value.builtin "object.__getattribute__"))=true then _ else getAttrByItsOwn _ _ _ _ _ _) _ _ _;have hx2:(Value.builtin "BaseException.__getattribute__"==Value.builtin "object.__getattribute__")=false:=by decide +kernel
 rw[hx2,Rh,if_neg Jm];unfold getAttrByItsOwn;refine Zr<|show Ae _ _ (typeLookup (Value.ref D) "__getattr__") _ _ _ from PySem.W.Looks.at L2 ?_
 refine Zr<|Ru<|Mg ?_
 show Ae _ _ (boundAndCalled _ _ _) _ _ _;unfold boundAndCalled;rw[PySem.F.attrBase_ValueError.ga.bind (.ref x)];refine Zr<|CG ?_
 dsimp only;refine wpAny_call<|codeAny_call_builtin PySem.F.attrBase_ValueError.ga.plain F.entry_bexc_ga ?_
 have hk:builtinKind "BaseException.__getattribute__" = Dn .slot:=by decide +kernel
 have hsplit:splitId "BaseException.__getattribute__" = Dn ("BaseException", "__getattribute__"):=by decide +kernel
 have ha:=F.args_bexc_ga (.ref x) (.str "__class__" t);simp only[checkBuiltinCall,hk,hsplit];show Ae (Ai prog w) A.in1 (isInstance (Value.ref x) (Value.type "BaseException") >>= _) _ _ _;refine Zr ?_;unfold isInstance;refine Zr<|PySem.W.Looks.at L0<|PySem.W.Looks.at L4 ?_
 rw[if_neg (by decide)];change Ae (Ai prog w) A.in1 (match Manifest.signature? "BaseException.__getattribute__" with
  | some sig=>Bind.checkArgs "BaseException.__getattribute__" sig ⟨[Value.ref x,Value.str (Str.ofString "__class__") t],[]⟩
  | x=>pure ()) _ _ _
 repeat(any_goals(first|assumption|(with_reducible refine wpAny_loadPart_at I.at_ ?_;rw[I.cls])|with_reducible refine PySem.W.Looks.at L3 ?_|wp_step))
 refine PySem.W.class_get (s:=⟨hh,g,d,t+1,os⟩) (ox:=ox) (od:=od) X I hm ?_;refine CG ?_;exact PySem.W.handed_on rfl<|CG h
end
def Fj (n d:Str):Bool:=n==d||d == "EaselError"
section
variable {K:Zf}{C:Addr}{n d:Str}
theorem z9 (h:qR K D d=true):Hs K CR d=Dn (Dn (.ref D))/\PySem.W.typeIn K (.ref D)=Dn (.type "type")/\∃cd,Q7 K D=Dn cd/\cd.name=d/\cd.mro.contains (.type "BaseException")=true:=by
 unfold qR at h;grind
theorem Ip (h:tV K C n=true):qR K C n=true/\(∃cd R,Q7 K C=Dn cd/\cd.mro=.ref C::.ref R::vmB/\Hs K CR "EaselError" = Dn (Dn (.ref R))/\∃cr,Q7 K R=Dn cr/\cr.name = "EaselError") /\
  MJ K (.ref C) "__getattribute__" = Dn (Dn (.builtin "BaseException.__getattribute__"))/\MJ K (.ref C) "__getattr__" = Dn Go/\MJ K (.ref C) "__class__" = Dn (Dn (.builtin "object.__class__"))/\PySem.W.specialIn K (.builtin "object.__class__") "__get__" = Dn (Dn (.builtin "getset_descriptor.__get__"))/\PySem.W.takesIn K (.builtin "object.__class__")=Dn true:=by
 unfold tV at h;simp at h;obtain⟨⟨⟨⟨⟨⟨h1,h2⟩,h3⟩,h3'⟩,h4⟩,h5⟩,h6⟩:=h;refine⟨h1,?_,h3,h3',h4,h5,h6⟩;split at h2
 rename_i cd hc;split at h2
 rename_i C' R a b c d hm;simp at h2;obtain⟨⟨⟨e1,e2⟩,e3⟩,e4⟩:=h2;obtain⟨cr,e5,e6⟩:=PySem.W.any_some e4;grind
 cases h2;cases h2
theorem Jz (h:tV K C n=true)(hd:qR K D d=true):Nu K C (.ref D)=Dn (Fj n d):=by
 obtain⟨hx,⟨cd,R,hc,hm,hR,cr,hcr,hnr⟩,_⟩:=Ip h;obtain⟨n1,_,cd',hc',nm,_⟩:=z9 hx;obtain⟨d1,_,dd,hdd,dm,_⟩:=z9 hd;rw[hc]at hc';cases hc';unfold Nu;rw[hc,Qx,hm];show Dn _=Dn _;unfold Fj;have e1:(Value.ref C::Value.ref R::vmB).contains (.ref D)=((Value.ref D==Value.ref C)||((Value.ref D==Value.ref R)||false)):=by
  rfl
 rw[e1,Bool.or_false];have a1:(Value.ref D==Value.ref C)=(n==d):=by
  grind
 have a2:(Value.ref D==Value.ref R)=(d == "EaselError"):=by
  grind
 rw[a1,a2]
def Ab (K:Zf)(v:V)(f:Str->Bool):Prop:=∀(u:JI),RelV v u->∀(C:Addr) (n:Str),tV K C n=true->PySem.W.kitOne K (.ref C) u=Dn (f n)
theorem Ab.own (hd:qR K D d=true):Ab K (.ref D) (λn=>Fj n d):=by
 intro u r C n h;cases r;obtain⟨_,ht,dd,hdd,_⟩:=z9 hd;unfold PySem.W.kitOne;by_cases q:(Value.ref C==Value.ref D)=true
 rw[if_pos q];cases beq_iff_eq.mp q
 obtain⟨n1,_,cd,hc,nm,_⟩:=z9 (Ip h).1;obtain⟨_,_,cd',hc',dm,_⟩:=z9 hd;rw[hc]at hc';unfold Fj;grind
 rw[if_neg q];unfold PySem.W.kitCls;dsimp only;rw[if_pos (by rw[hdd,ht];rfl)];exact(Jz h hd)
theorem Ab.val:Ab K (.ty "ValueError") (λ_=>true):=by
 intro u r C n h;cases(show u=Value.type "ValueError" from r)
 obtain⟨_,⟨cd,R,hc,hm,_⟩,_⟩:=Ip h;unfold PySem.W.kitOne;rw[if_neg (by intro q;cases beq_iff_eq.mp q)];unfold PySem.W.kitCls;dsimp only;show Nu K C (.type "ValueError")=Dn true;unfold Nu;rw[hc,Qx,hm];rfl
theorem yL {x:Addr}{ox:Obj}(h:tV K D n=true):PySem.W.KitX K (.ref x) (.ref D) (λh=>∃od,PySem.W.InstAt h x ox D od):=by
 obtain⟨hx,⟨cd,R,hc,hm,_⟩,hg,hg',ha,hn,htk⟩:=Ip h;have hmo:Nu K D (.type "object")=Dn true:=by
  unfold Nu;rw[hc,Qx,hm];rfl
 have hf:∀od,PySem.W.findObj K D od "__class__" = Dn (.bind (.builtin "getset_descriptor.__get__") (.builtin "object.__class__")):=by
  intro od;unfold PySem.W.findObj;rw[hc,Qx,ha,Qx];simp[hn,htk]
 have hcl:∃c' d' sl',K.lookup D=Dn ⟨c',d',.cls cd,sl'⟩:=by
  unfold Q7 at hc;split at hc
  rename_i c' d' cd' sl' ho;cases hc;exact⟨c',d',sl',ho⟩;cases hc
 obtain⟨c',d',sl',ho⟩:=hcl;refine⟨λ_ _ _ ⟨_,I⟩=>I.type,λ_ _ X _=>?_,λh tp dd its n sl X htp=>?_,λ{prog w A E Q s} X ⟨od,I⟩ k=>?_⟩;intro A' Q' E' s' k q;exact Zr<|wpAny_loadPart (k _ _<|X _ _ ho)<|CG q
 refine Bool.eq_false_iff.mpr λq=>?_;cases Value.ref.inj (beq_iff_eq.mp q)
 cases(X _ _ ho).symm.trans htp
 refine zay X I hg hg' (hf od) hmo ?_ k;unfold Nu;rw[hc,Qx,hm];rfl
theorem wA {M:Model}{A:BP}{E:JI->Mk->Prop}{s:Mk}{e:Addr}{oe:Obj}{Q:Bool->Mk->Prop}(X:K.In s.heap)(he:s.heap.get? e=Dn oe)(hcls:oe.cls=.ref C)(h:tV K C n=true)(hd:qR K D d=true)(hq:Q (Fj n d) s):
  Ae M A (excMatches (.ref e) (.ref D)) Q E s:=by
 obtain⟨_,ht,dd,hdd,_,hB⟩:=z9 hd;have L1:U8 M s.heap (typeOf (.ref D)) (.type "type"):=PySem.W.looks_typeIn X ht;have L2:U8 M s.heap (isSubtype (.ref C) (.ref D)) (Fj n d):=PySem.W.looks_mroIn X (Jz h hd);have L3:U8 M s.heap (isSubtype (.ref D) (.type "BaseException")) true:=PySem.W.looks_mroIn X (by
  unfold Nu;rw[hdd,Qx,hB,if_neg];intro q;rw[List.isEmpty_iff]at q;rw[q]at hB;cases hB)
 have hcl:∃c' d' sl',K.lookup D=Dn ⟨c',d',.cls dd,sl'⟩:=by
  unfold Q7 at hdd;split at hdd
  rename_i c' d' cd' sl' ho;cases hdd;exact⟨c',d',sl',ho⟩;cases hdd
 obtain⟨c',d',sl',ho⟩:=hcl;have L4:U8 M s.heap (isType (.ref D)) true:=by
  intro A' Q' E' s' k q;exact Zr<|wpAny_loadPart (k _ _<|X _ _ ho)<|CG q
 have L5:U8 M s.heap (typeOf (.ref e)) (.ref C):=hcls ▸ (PySem.W.Looks.ld he).andThen .now;have f:=tc_notTuple;refine Zr ?_;refine Zr<|PySem.W.Looks.at L1 ?_
 rw[f];refine CG ?_;refine Zr<|CG ?_
 dsimp only;rw[List.forIn_cons];refine Zr<|Zr ?_
 refine Zr<|Zr<|PySem.W.Looks.at L4 ?_
 rw[if_pos rfl];refine PySem.W.Looks.at L3 ?_;rw[if_neg (by decide)];refine CG ?_;dsimp only;rw[List.forIn_nil];refine CG ?_;refine Zr<|PySem.W.Looks.at L5 ?_
 rw[List.forIn_cons];refine Zr<|Zr<|Zr<|PySem.W.Looks.at L2 ?_
 cases hb:Fj n d with
 | true=>
  rw[hb]at hq;rw[if_pos rfl];exact CG<|CG<|CG hq
 | false=>
  rw[hb]at hq;rw[if_neg Jm];refine CG ?_;dsimp only;rw[List.forIn_nil];exact CG<|CG hq
end
variable {suite:List Stmt}{b₀:Stmt}{d:Str}
theorem aaJ {prog:BK}{w:Av}{A:BP}{E:JI->Mk->Prop}{s:Mk}{K:Zf}{e C:Addr}{n:Str}{t:Expr}{pos:Pos}{rest:List ExceptHandler}{Q:Flow->Mk->Prop}
  (hx:tV K C n=true) (hd:qR K D d=true) (hi:Fj n d=true)
  (h:Ae (Ai prog w) (A.mark (Dn (.ref e))) (eval t env) (λc s₁=>c=.ref D/\K.In s₁.heap/\(∃oe,s₁.heap.get? e=Dn oe/\oe.cls=.ref C) /\
   Ae (Ai prog w) (A.mark (Dn (.ref e))) (setFlight (.ref e) Go) (λ_ s₂=>
     Ae (Ai prog w) (A.mark (Dn (.ref e))) (storeName env y (.ref e)) (λ_ s₃=>
      Ae (Ai prog w) (A.mark (Dn (.ref e))) (execs (b₀::suite) env)
       (λf s₄=>Ae (Ai prog w) A (do bindName env y .none;unbindBehindTheSuite env y pos) (λ_ s₅=>Q f s₅) E s₄) (λ_ _=>False) s₃) (λ_ _=>False) s₂) (λ_ _=>False) s₁) (λ_ _=>False) s) :
  Ae (Ai prog w) A (handleBy (.ref e) env (.ExceptHandler (Dn t) (Dn y) (b₀::suite) pos::rest)) Q E s:=by
 refine wpAny_handleBy_cons (codeAny_handlers_test<|Hw h (λc s₁ h₁=>?_) λ_ _ z=>z.elim) (by intro q;cases q);obtain⟨rfl,X,⟨oe,he,hcls⟩,hk⟩:=h₁;refine wA X he hcls hx hd ?_;rw[hi];exact codeAny_handlers_suite_as<|Hw hk (λ_ s₂ h₂=>Hw h₂ (λ_ s₃ h₃=>Hw h₃ (λ_ _ z=>z) λ_ _ z=>z.elim) λ_ _ z=>z.elim) λ_ _ z=>z.elim
def cH.lost (D:cH):cH:={D with nx:=λU h=>D.nx (U.map λ_=>Go) h,bk:=λU h=>D.bk (U.map λ_=>Go) h,ct:=λU h=>D.ct (U.map λ_=>Go) h}
def GC (x:Xw):W:=match x.fs with
 | []=>.exc x.cls
 | f::fs=>.exa x.cls ((f::fs).map (·.2))
theorem FQ {α β:Type}:∀{l:List α}{m:List β},m.length=l.length->(l.zip m).map (·.2)=m
 | [],[],_=>rfl
 | a::l,b::m,h=>by rw[List.zip_cons_cons,Jf,FQ (by simpa using h)]
theorem adA {n:Str}(h:ws.length=(Gz n).length):GC ⟨n,(Gz n).zip ws⟩=.exa n ws:=by
 have e:=FQ h;unfold GC;cases q:(Gz n).zip ws with
 | nil=>
  rw[q]at e;cases ws with
  | nil=>exact absurd (Ui h.symm) (by unfold Gz;split<;>simp)
  | cons _ _=>cases e
 | cons f fs=>
  grind
def Xm (i:Nat)(d:Str)(mb:Ba->MS)(mh:MS):MS:=λD U h=>mb (λx h'=>Ec (Fj x.cls d) (mh D.lost (U.set i (Dn (GC x))) h') False) D U h
theorem Slots.lost {K:Zf}{H:Hp}{U:St}(S:Slots K H μ Uw U):Slots K H μ (Uw.map λ_=>Go) (tE U):=by
 refine⟨by unfold tE;rw[Ag,Ag,S.len],λi w q=>?_⟩;rw[Ds]at q;cases e:Uw[i]? with
 | none=>rw[e]at q;cases q
 | some z=>rw[e]at q;cases q
section
variable {X:Cx}{body:List Stmt}{hpos pos:Pos}{i:Nat}{mb:Ba->MS}{mh:MS}
theorem ada (hN:X.N.Nodup)(hi:X.N[i]?=Dn y)(hy:X.env.scope.names.lookup y=Dn .local)(hg:Gl X d)(hm:X.mg d=Dn (.ref D))(hxd:qR X.K D d=true)(ht:Top X)(hx:X.ex=[])
  (hb:∀afn xe U0,Ig (X.tr afn xe) (λU=>U=U0) body mb) (hh:∀a H0,Oo (X.hnd a H0).nox (b₀::suite) mh) (hdb:(d==("__debug__" : Str))=false:=by decide) :
  DS X (.Try body [.ExceptHandler (Dn (.Name d np)) (Dn y) (b₀::suite) hpos] [] [] pos) (Xm i d mb mh):=by
 intro afn s U H De I ⟨μ,h,Uw,Dw,R,S,m,k⟩;refine wpAny_Try_except<|Bj (hb afn _ U [] s U H De I.tr ⟨rfl,μ,h,Uw,Dw,_,R,S,m,k,λev s' xt=>?_⟩) λf s' q=>?_
 ·obtain⟨a,C,n,od,fs,pins',U',H',μ',h',rfl,F,hxc,rfl,e1,R1,xd,q⟩:=xt;have F:=F.untr;cases hix:Fj n d with
  | false=>
   have q:Ec (Fj n d) _ False:=q;rw[hix]at q;exact q.elim
  | true=>
  have q:Ec (Fj n d) (mh Dw.lost (Uw.set i (Dn (GC ⟨n,fs⟩))) h') False:=q;rw[hix]at q;have q:mh Dw.lost (Uw.set i (Dn (GC ⟨n,fs⟩))) h':=q;refine F.note ht F.inv.ok.frames λh1 F1=>F1.flight λh2 F2=>?_;obtain⟨_,oe0,vs0,he0,hc0,_⟩:=F2.xn;refine aaJ hxc hxd hix ?_;refine Calls.Name_function_global F2.inv.ok.kind hg (Calls.loadGlobal_global (by rw[F2.inv.ok.glob];exact F2.inv.mod.glob.keeps F2.inv.bk) hm ⟨rfl,F2.inv.kIn,⟨oe0,he0,hc0⟩,?_⟩) hdb;refine F2.flight λh3 F3=>?_;obtain⟨nw,oe,vs,he,hc,hdd,hdt,_,⟨zz,hv2,hzz⟩,_⟩:=F3.xn;obtain⟨H0,hok,_,Ih⟩:=F3.inv.hnd nw hx he hdt hv2 hzz;have Hn:H' a=Go:=nw.h;refine rW (X:=X.hnd a H0) (v:=.ref a) Ih hN hi (.inl hy) rfl (λs4 I4=>?_)<|.inr hy
  have e2:DR X.K H μ (CN H' a (.frz oe (uQ a oe))) μ':=e1.trans (Ex.laid Hn).ext;have rx:Zh X.K (CN H' a (.frz oe (uQ a oe))) μ' (GC ⟨n,fs⟩) (.ref a):=by
   have nc:PySem.W.notCls oe=true:=by
    unfold PySem.W.notCls;rw[hdt]
   rcases xd with⟨rfl,rfl⟩|⟨dd,ws,xs,rfl,hxa,rfl,hl1,hl2,hdx,rs⟩
   show Zh X.K _ μ' (.exc n) (.ref a);rw[Zh];exact⟨a,oe,_,rfl,bM,C,hc,hdd,nc,hxc⟩;rw[adA hl1,Zh];exact⟨a,oe,_,dd,_,xs,rfl,bM,⟨C,hc,hdd,nc,hxa⟩,by rw[aO<|aU hdx Hn];exact hdx,rfl,hl2,(Ex.laid Hn).ext.s rs⟩
  refine Hw (hh a H0 afn s4 _ _ ⟨λU5 H5=>De.nx (tE U5) H5,De.rt,λU5 H5=>De.bk (tE U5) H5,λU5 H5=>De.ct (tE U5) H5⟩ (I4.wish _)
   ⟨μ',h',Uw.set i (Dn (GC ⟨n,fs⟩)),Dw.lost,R1.laid Hn,(S.ext e2).set rx i,q,⟨?_,?_,?_,?_⟩⟩) (λf s5 q5=>?_) λ_ _ z=>z.elim
  rintro U5 H5 ⟨μ5,Uw5,h5,e5,R5,S5,m5⟩;exact k.nx _ _ ⟨μ5,_,h5,e2.trans e5,R5,S5.lost,m5⟩;rintro v H5 ⟨μ5,w5,h5,e5,R5,r5,m5⟩;exact k.rt _ _ ⟨μ5,w5,h5,e2.trans e5,R5,r5,m5⟩;rintro U5 H5 ⟨μ5,Uw5,h5,e5,R5,S5,m5⟩;exact k.bk _ _ ⟨μ5,_,h5,e2.trans e5,R5,S5.lost,m5⟩;rintro U5 H5 ⟨μ5,Uw5,h5,e5,R5,S5,m5⟩;exact k.ct _ _ ⟨μ5,_,h5,e2.trans e5,R5,S5.lost,m5⟩
  ·have gone:∀{U5:St}{H5:Hp}{Q5:Unit->Mk->Prop},Yu (X.hnd a H0).nox afn U5 H5 s5->(∀s6,Yu X afn (tE U5) H5 s6->Q5 () s6)->Ae (Ai X.prog X.w) X.A (do bindName X.env y .none;unbindBehindTheSuite X.env y hpos) Q5 X.xe s5:=λ{U5 H5 Q5} I5 h5=>by
    have I5':=I5.unwish;obtain⟨mm,hns,_⟩:=I5'.loc;refine wpAny_nameGoes hy hns (by rw[show X.env.scope.kind=.function from F.inv.ok.kind];rfl) λh6 m6 hn6 sb6=>h5 _<|Yu.unhnd F3.inv.ok hok<|I5'.lost hn6 sb6
   cases f with
   | next=>obtain⟨U5,H5,I5,z⟩:=q5;exact gone I5 λs6 I6=>⟨_,H5,I6,z⟩
   | brk=>obtain⟨U5,H5,I5,z⟩:=q5;exact gone I5 λs6 I6=>⟨_,H5,I6,z⟩
   | cont=>obtain⟨U5,H5,I5,z⟩:=q5;exact gone I5 λs6 I6=>⟨_,H5,I6,z⟩
   | ret v=>obtain⟨x5,U5,H5,I5,r5,z⟩:=q5;exact gone I5 λs6 I6=>⟨x5,_,H5,I6,r5,z⟩
 ·have q:=SP.untr q;cases f with
  | next=>exact wpAny_execs_nil q
  | brk=>exact q
  | cont=>exact q
  | ret v=>exact q
end
variable {mh:MS}{hpos:Pos}{mb:Ba->MS}
theorem zaV {k:Nat}{A:BP}{a:Addr}(r:lg k A)(h:8<=k):lg 8 (A.mark (Dn (.ref a))):=⟨nofun,by have:=r.dp;show A.depth+_<_;lia,by have:=r.un;show A.units+_<_;lia⟩
section
variable {X:Cx}{a:Expr}{pos p:Pos}
def Ie (f:Str->Bool)(m:ME):ME:=λU h Q=>m U h λw h1=>match w with
 | .exc n=>Q (.bl (f n)) h1
 | .exa n _=>Q (.bl (f n)) h1
 | _=>False
def Qq (K:Zf)(H:Hp)(o:Obj)(n:Str):Prop:=Xob K o n\/∃dd fs,Xoa K o n dd/\H dd=Dn (.xd fs)
theorem BJ {afn:List (Addr×Obj)}{U:St}{H:Hp}{s:Mk}{q:Addr}{o:Obj}{u:HO}{n:Str}(I:Yu X afn U H s)(e:H q=Dn (.frz o u))(x:Qq X.K H o n):∃C,tV X.K C n=true/\∃od,PySem.W.InstAt s.heap q o C od:=by
 rcases x with⟨C,hc,hd,hn,hx⟩|⟨dd,fs,⟨C,hc,hd,hn,hx⟩,hdd⟩
 exact⟨C,hx,Go,(I.hok q _ e).1,hc,hn,by rw[hd];trivial⟩;obtain⟨ob,ho⟩:=(I.hok dd _ hdd).obj;unfold Ws at hx;simp only[GQ]at hx;exact⟨C,hx.1.1,Dn ob,(I.hok q _ e).1,hc,hn,hd ▸ ho⟩
theorem zaF {v:V}{f:Str->Bool}(hf:Ab X.K v f):gJ X (.builtin "isinstance") (λxs H Q=>∃q o u n,xs=[.ref q,v]/\H q=Dn (.frz o u)/\Qq X.K H o n/\Q (.bl (f n)) H):=by
 intro afn s U H xs us Q I r ⟨q,o,u,n,ex,eq,xo,hQ⟩;subst ex;obtain⟨C,hx,J⟩:=BJ I eq xo;cases r with
 | cons r1 r2=>
  cases r2 with
  | cons r2 r3=>
   cases r3;rename_i u1 u2;cases r1;exact PySem.W.kia_one (yL hx) I.kIn J (hf u2 r2 C n hx) nofun λtk=>⟨.bl _,H,I.kept λ_ _ e=>e,rfl,hQ⟩
theorem JV {b:Expr}{v:V}{f:Str->Bool}(hg:Gl X "isinstance")(hm:X.mg "isinstance" = Go)(ha:DE X a ma)(hb:PE X b (tC v))(hf:Ab X.K v f)(h1:Al [a,b] X.env=(false,eval a X.env)::Al [b] X.env:=by rfl)(h2:Al [b] X.env=(false,eval b X.env)::Al [] X.env:=by rfl)
  (hpl:(Ef pos (Al [b] X.env)).any (·.1)=false:=by rfl):DE X (.Call (.Name "isinstance" p) [a,b] [] pos) (Ie f ma):=
 (tB (zaF hf) hg hm Px (jj ha (jj hb uE h2) h1) (by decide) (by decide) h1 hpl).of λU H Q ⟨μ,h,Uw,Qw,R,S,m,k⟩=>by
  refine⟨μ,h,Uw,_,R,S,m,λx H1 ⟨μ1,w,h1,e1,R1,r1,m1⟩=>?_⟩;cases w with
  | exc n=>
   obtain⟨q,o,u,ev,eq,hx⟩:=r1;subst ev;exact⟨q,o,u,n,rfl,eq,.inl hx,k _ _ ⟨μ1,.bl _,h1,e1,R1,by rw[Zh],m1⟩⟩
  | exa n ws=>
   obtain⟨q,o,u,dd,ns,xs,ev,eq,hx,hdd,_⟩:=r1;subst ev;exact⟨q,o,u,n,rfl,eq,.inr ⟨dd,_,hx,hdd⟩,k _ _ ⟨μ1,.bl _,h1,e1,R1,by rw[Zh],m1⟩⟩
  | _=>exact m1.elim
inductive MK (X:Cx):List Expr->List V->(Str->Bool)->Prop
 | nil:MK X [] [] (λ_=>false)
 | cons {e:Expr}{es:List Expr}{v:V}{vs:List V}{f g:Str->Bool}:PE X e (tC v)->Ab X.K v f->MK X es vs g->Al (e::es) X.env=(false,eval e X.env)::Al es X.env->MK X (e::es) (v::vs) (λn=>f n||g n)
def tCs (vs:List V):TA:=λ_ H Q=>Q vs H
theorem MK.pa {es:List Expr}{vs:List V}{f:Str->Bool}(h:MK X es vs f):PA X es (tCs vs):=by
 induction h with
 | nil=>exact uE
 | cons he _ _ hs ih=>exact(jj he ih hs).of λU H Q q=>q
theorem MK.any {es:List Expr}{vs:List V}{f:Str->Bool}(h:MK X es vs f):∀{us:List JI}{C:Addr}{n:Str},kI vs us->tV X.K C n=true->PySem.W.kitAny X.K (.ref C) us=Dn (f n):=by
 induction h with
 | nil=>intro us C n r _;cases r;rfl
 | @cons e es v vs f g he hc hr hs ih=>
  intro us C n r hx;cases r with
  | cons r1 r2=>
   unfold PySem.W.kitAny;rw[hc _ r1 C n hx];show _=Dn (f n||g n);cases f n with
   | true=>rfl
   | false=>rw[Bool.false_or];exact ih r2 hx
theorem zau {vs:List V}{f:Str->Bool}(hf:∀{us:List JI}{C:Addr}{n:Str},kI vs us->tV X.K C n=true->PySem.W.kitAny X.K (.ref C) us=Dn (f n)):
  gJ X (.builtin "isinstance") (λxs H Q=>∃q o u n t,xs=[.ref q,.ref t]/\H q=Dn (.frz o u)/\Qq X.K H o n/\H t=Dn (.tup vs)/\Q (.bl (f n)) H):=by
 intro afn s U H xs us Q I r ⟨q,o,u,n,t,ex,eq,xo,ht,hQ⟩;subst ex;obtain⟨C,hx,J⟩:=BJ I eq xo;cases r with
 | cons r1 r2=>
  cases r2 with
  | cons r2 r3=>
   cases r3;rename_i u1 u2;cases(show u1=Value.ref q from r1)
   cases(show u2=Value.ref t from r2)
   obtain⟨_,its,rv,⟨c,dd,dt,sl⟩,h1,h2,⟨k,h3⟩,_⟩:=(show fM X.prog X.w H s.heap t (.tup vs)from I.hok t _ ht)
   dsimp only at h2 h3;subst h2 h3;exact PySem.W.kia_tup (yL hx) I.kIn J h1 (hf rv hx) (λz=>nomatch z) λtk=>⟨.bl<|f n,H,I.kept (t':=tk) λ_ _ e=>e,rfl,hQ⟩
theorem adJ {es:List Expr}{vs:List V}{f:Str->Bool}{x1 p1}(hg:Gl X "isinstance")(hm:X.mg "isinstance" = Go)(ha:DE X a ma)(hc:MK X es vs f)(hl:vs.length<=100)(h1:Al [a,.Tuple es x1 p1] X.env=(false,eval a X.env)::Al [.Tuple es x1 p1] X.env:=by rfl)
  (h2:Al [.Tuple es x1 p1] X.env=(false,eval (.Tuple es x1 p1) X.env)::Al [] X.env:=by rfl) (hpl:(Ef pos (Al [.Tuple es x1 p1] X.env)).any (·.1)=false:=by rfl) :
  DE X (.Call (.Name "isinstance" p) [a,.Tuple es x1 p1] [] pos) (Ie f ma):=
 (tB (zau hc.any) hg hm Px (jj ha (jj (K1 hc.pa) uE h2) h1) (by decide) (by decide) h1 hpl).of λU H Q ⟨μ,h,Uw,Qw,R,S,m,k⟩=>by
  refine⟨μ,h,Uw,_,R,S,m,λx H1 ⟨μ1,w,h1,e1,R1,r1,m1⟩=>?_⟩;cases w with
  | exc n=>
   rw[Zh]at r1;obtain⟨q,o,u,ev,eq,hx⟩:=r1;subst ev;refine⟨Dp hl<|by decide,λt ht=>⟨q,o,u,n,t,rfl,?_,.inl hx,bM,k _ _ ⟨μ1,.bl<|f n,h1,e1.trans (Ex.laid ht).ext,R1.laid ht,by rw[Zh],m1⟩⟩⟩;rw[aO (aU eq ht)];exact eq
  | exa n ws=>
   rw[Zh]at r1;obtain⟨q,o,u,dd,ns,xs,ev,eq,hx,hdd,_⟩:=r1;subst ev;refine⟨Dp hl<|by decide,λt ht=>⟨q,o,u,n,t,rfl,?_,.inr ⟨dd,_,hx,by rw[aO<|aU hdd ht];exact hdd⟩,bM,k _ _ ⟨μ1,.bl<|f n,h1,e1.trans (Ex.laid ht).ext,R1.laid ht,by rw[Zh],m1⟩⟩⟩;rw[aO (aU eq ht)];exact eq
  | _=>exact m1.elim
end
section
variable {X:Cx}{tg:Expr}{scope:Scope}{xs:List Str}{te:ME}{pos p ppos:Pos}
end
section
variable {prog:BK}{w:Av}{A:BP}{E:JI->Mk->Prop}{s:Mk}
end
section
variable {X:Cx}
end
section
variable {X:Cx}{K:Zf}{o e:Expr}{ma:MA}{apos afq:Pos}
variable {H:Hp}{afn:List (Addr×Obj)}{s:Mk}{U:St}
mutual
theorem Gg (I:Yu X afn U H s):∀{w u:W}{v:V},Dt X.K H w v->Dt X.K H u v->w=u
 | .non,u,v,h,g=>by rw[Dt]at h;subst h;cases u<;>rw[Dt]at g<;>first|rfl|exact g.elim|(obtain⟨_,_,g,_⟩:=g;cases g;done)|(cases g;done)
 | .bl b,u,v,h,g=>by rw[Dt]at h;subst h;cases u<;>rw[Dt]at g<;>first|(injection g with g;rw[g];done)|exact g.elim|(obtain⟨_,_,g,_⟩:=g;cases g;done)|(cases g;done)
 | .int b,u,v,h,g=>by rw[Dt]at h;subst h;cases u<;>rw[Dt]at g<;>first|(injection g with g;rw[g];done)|exact g.elim|(obtain⟨_,_,g,_⟩:=g;cases g;done)|(cases g;done)
 | .str b,u,v,h,g=>by rw[Dt]at h;subst h;cases u<;>rw[Dt]at g<;>first|(injection g with g;rw[g];done)|exact g.elim|(obtain⟨_,_,g,_⟩:=g;cases g;done)|(cases g;done)
 | .tup ws,u,v,h,g=>by
  rw[Dt]at h;obtain⟨p,xs,e,hs,ds⟩:=h;subst e;cases u with
  | tup us=>
   rw[Dt]at g;obtain⟨p',xs',e',hs',ds'⟩:=g;cases e'
   have:=I.tuple_inj hs hs'
   subst this;rw[sG I ds ds']
  | lst us=>
   rw[Dt]at g;obtain⟨p',xs',e',hs',ds'⟩:=g;cases e'
   obtain⟨_,_,t,_⟩:=I.tuple hs;obtain⟨_,_,l,_⟩:=I.list hs';exact absurd rfl<|Ue l.isList<|show s.heap.IsTuple _ _ from t
  | ty _=>rw[Dt]at g;exact g.elim
  | loc _=>rw[Dt]at g;exact g.elim
  | kls _=>rw[Dt]at g;exact g.elim
  | exc _=>rw[Dt]at g;exact g.elim
  | exa _ _=>rw[Dt]at g;exact g.elim
  | _=>rw[Dt]at g;cases g
 | .lst ws,u,v,h,g=>by
  rw[Dt]at h;obtain⟨p,xs,e,hs,ds⟩:=h;subst e;cases u with
  | lst us=>
   rw[Dt]at g;obtain⟨p',xs',e',hs',ds'⟩:=g;cases e'
   have:=I.list_inj hs hs'
   subst this;rw[sG I ds ds']
  | tup us=>
   rw[Dt]at g;obtain⟨p',xs',e',hs',ds'⟩:=g;cases e'
   obtain⟨_,_,t,_⟩:=I.tuple hs';obtain⟨_,_,l,_⟩:=I.list hs;exact absurd rfl<|Ue l.isList<|show s.heap.IsTuple _ _ from t
  | ty _=>rw[Dt]at g;exact g.elim
  | loc _=>rw[Dt]at g;exact g.elim
  | kls _=>rw[Dt]at g;exact g.elim
  | exc _=>rw[Dt]at g;exact g.elim
  | exa _ _=>rw[Dt]at g;exact g.elim
  | _=>rw[Dt]at g;cases g
 | .ty _,_,_,h,_=>by rw[Dt]at h;exact h.elim
 | .kls _,_,_,h,_=>by rw[Dt]at h;exact h.elim
 | .loc _,_,_,h,_=>by rw[Dt]at h;exact h.elim
 | .exc _,_,_,h,_=>by rw[Dt]at h;exact h.elim
 | .exa _ _,_,_,h,_=>by rw[Dt]at h;exact h.elim
theorem sG (I:Yu X afn U H s):∀{ws us:List W}{vs:List V},G9 X.K H ws vs->G9 X.K H us vs->ws=us
 | [],us,vs,h,g=>by
  have e:vs=[]:=by rw[G9]at h;exact h
  subst e;cases us with
  | nil=>rfl
  | cons u us=>rw[G9]at g;obtain⟨_,_,e,_⟩:=g;cases e
 | w::ws,us,vs,h,g=>by
  rw[G9]at h;obtain⟨v,vs',e,d,ds⟩:=h;subst e;cases us with
  | nil=>
   have e:v::vs'=[]:=by rw[G9]at g;exact g
   cases e
  | cons u us=>
   rw[G9]at g;obtain⟨v2,vs2,e2,d2,ds2⟩:=g;cases e2;rw[Gg I d d2,sG I ds ds2]
end
theorem yt:∀{us:List W}{xs:List V}{its:List JI},G9 X.K H us xs->kI xs its->∀a u,(a,u)∈its.zip us->∃v,RelV v a/\Dt X.K H u v/\u∈us
 | [],_,its,_,_,a,u,m=>absurd m (by simp)
 | w::us,xs,its,d,r,a,u,m=>by
  obtain⟨v,vs,e,d1,ds⟩:=d;subst e;cases r with
  | cons r1 rs=>
   rcases Bg.mp m with m|m
   grind
   obtain⟨v',q1,q2,q3⟩:=yt ds rs a u m;grind
theorem rN {α β:Type}:∀{xs:List α}{ys:List β},xs.length=ys.length->∀a∈xs,∃b,(a,b)∈xs.zip ys
 | x::xs,y::ys,h,a,m=>by
  rcases Bg.mp m with rfl|m
  simp_all
  obtain⟨b,q⟩:=rN (Nat.succ.inj h) a m;exact⟨b,Hj _ q⟩
def zaf:MM:=λx ws h Q=>match ws with
 | [w]=>(match cU h x with
  | some us=>Ec (Aw 20 w&&us.all (Aw 20)) (Q (.int (us.countP λu=>Bk u w)) h) False
  | none=>False)
 | _=>False
end
section
variable {X:Cx}{iter tg:Expr}{scope:Scope}{pos:Pos}{xs:List Str}{te:ME}
end
section
variable {X:Cx}{e:Expr}{es:List Expr}{pos:Pos}
def YT (X:Cx)(Γ:St->Prop)(m:Ba->MA):TA:=λU H Q=>Γ U/\∃μ h Uw Qw E,Ax X.K μ H h/\Slots X.K H μ Uw U/\m E Uw h Qw/\(∀vs H',DA X.K H μ Qw vs H'->Q vs H')/\∀ev s',XT X H μ Γ E ev s'->X.xe ev s'
theorem abC {me:Ba->ME}(ha:DEx X Γ e me)(hr:Gn X es mr)(hs:Al (e::es) X.env=(false,eval e X.env)::Al es X.env:=by rfl):PA X (e::es) (YT X Γ λE=>aA (me E) mr):=(jj ha hr hs).of λU H Q ⟨g,μ,h,Uw,Qw,E,R,S,m,q,kx⟩=>⟨g,μ,h,Uw,_,E,R,S,m,λv H1 ⟨μ1,w,h1,e1,R1,r1,m1⟩=>⟨μ1,h1,Uw,_,R1,S.ext e1,m1,λvs H2 ⟨μ2,ws,h2,e2,R2,r2,m2⟩=>q _ _ ⟨μ2,w::ws,h2,e1.trans e2,R2,⟨v,vs,rfl,e2.r _ _ r1,r2⟩,m2⟩⟩,kx⟩
variable {mr:Ba->MA}
end
section
variable {X:Cx}{K:Zf}{H:Hp}{afn:List (Addr×Obj)}{s:Mk}{U:St}
theorem Bq {α β:Type}{p:α->Bool}{q:β->Bool}:∀{xs:List α}{ys:List β},xs.length=ys.length->(∀a b,(a,b)∈xs.zip ys->p a=q b)->xs.any p=ys.any q
 | [],[],_,_=>rfl
 | a::xs,b::ys,h,e=>by
  rw[Ob,Ob,Bq (Nat.succ.inj h) λa' b' m=>e a' b' (Hj _ m),e a b Eb]
theorem CP (I:Yu X afn U H s){us:List W}{xs:List V}{its:List JI}{w:W}{y:V}{b:JI}(hd:G9 X.K H us xs)(r:kI xs its)(hw:Dt X.K H w y)(rb:RelV y b)(pl1:us.all (Aw 20)=true)(pl2:Aw 20 w=true){A:BP}(hu:A.units+20<HD):
  ∃ev:JI->Bool,(∀a,a∈its->Pb A s a b (ev a))/\its.any ev=us.any (λu=>Bk u w):=by
 have hl:its.length=us.length:=by rw[<-r.length,hd.len]
 let ev:JI->Bool:=λa=>@decide (∃u,(a,u)∈its.zip us/\Bk u w=true) (Classical.propDecidable _)
 have hev:∀a u,(a,u)∈its.zip us->ev a=Bk u w:=by
  intro a u m;cases c:Bk u w with
  | true=>exact(@decide_eq_true_iff _ (Classical.propDecidable _)).mpr ⟨u,m,c⟩
  | false=>
   refine(@decide_eq_false_iff_not _ _).mpr λ⟨u2,m2,c2⟩=>?_;obtain⟨v1,r1,d1,_⟩:=yt hd r a u m;obtain⟨v2,r2,d2,_⟩:=yt hd r a u2 m2;obtain rfl:=r1.inj r2;rw[Gg I d1 d2,c2]at c;cases c
 refine⟨ev,λa ha=>?_,Bq hl hev⟩;obtain⟨u,m⟩:=rN hl a ha;obtain⟨v,r1,d1,mu⟩:=yt hd r a u m;exact hev a u m ▸ UG I 20 hu d1 hw (IK.mp pl1 u mu) pl2 r1 rb
def YJ (K:Zf)(neg:Bool):R2:=λx y H Q=>∃p xs us w,y=.ref p/\Ez K H p xs/\G9 K H us xs/\Dt K H w x/\us.all (Aw 20)=true/\Aw 20 w=true/\Q (.bl (if neg then !(us.any λu=>Bk u w)else us.any λu=>Bk u w)) H
theorem aeu (hu:X.A.units+30<HD):G4 X (HB .In) (YJ X.K false):=by
 intro afn s U H x y v u Q I rx ry h;obtain⟨p,xs,us,w,rfl,hq,hd,hw,p1,p2,q⟩:=h;cases ry;obtain⟨its,r,pl,hz⟩:=I.list hq;obtain⟨ev,he,ea⟩:=CP I hd r hw rx p1 p2 (A:=X.A.in1) (by show X.A.units+1+20<HD;lia);refine SeqAt.in_listAt ev pl.isList (λw hw=>he w<|by simpa using hw) ⟨.bl _,H,I,rfl,?_⟩;rw[show its.toArray.any ev=its.any ev by simp,ea];exact q
theorem acX (hu:X.A.units+30<HD):G4 X (HB .NotIn) (YJ X.K true):=by
 intro afn s U H x y v u Q I rx ry h;obtain⟨p,xs,us,w,rfl,hq,hd,hw,p1,p2,q⟩:=h;cases ry;obtain⟨its,r,pl,hz⟩:=I.list hq;obtain⟨ev,he,ea⟩:=CP I hd r hw rx p1 p2 (A:=X.A.in1) (by show _+1+20<HD;lia);refine SeqAt.notIn_listAt ev pl.isList (λw hw=>he w<|by simpa using hw) ⟨.bl _,H,I,rfl,?_⟩
 rwa[show its.toArray.any ev=its.any ev by simp,ea]
def QZ:M2:=λx y h Q=>match cU h y with
 | some us=>Ec (Aw 20 x&&us.all (Aw 20)) (Q (.bl (us.any λu=>Bk u x)) h) False
 | none=>False
def Ac:M2:=λx y h Q=>match cU h y with
 | some us=>Ec (Aw 20 x&&us.all (Aw 20)) (Q (.bl (!(us.any λu=>Bk u x))) h) False
 | none=>False
theorem Yr (hu:X.A.units+30<HD):Hf X (HB .In) QZ:=⟨_,aeu hu,by
 intro H μ h x y wx wy Qw Q R rx ry m k;unfold QZ at m;split at m
 rename_i us eu;obtain⟨p,xs,ex,hs,rr⟩:=dH R ry eu;cases c:(Aw 20 wx&&us.all (Aw 20))with
 | true=>
  rw[c]at m;rw[GQ]at c;exact⟨p,xs,us,wx,ex,hs,rA (Ah 20) rr c.2,Ah 20 rx c.1,c.2,c.1,k _ _<|.bl R m⟩
 | false=>rw[c]at m;exact(show False from m).elim
 exact m.elim⟩
theorem acC (hu:X.A.units+30<HD):Hf X (HB .NotIn) Ac:=⟨_,acX hu,by
 intro H μ h x y wx wy Qw Q R rx ry m k;unfold Ac at m;split at m
 rename_i us eu;obtain⟨p,xs,ex,hs,rr⟩:=dH R ry eu;cases c:(Aw 20 wx&&us.all _)with
 | true=>
  rw[c]at m;rw[GQ]at c;exact⟨p,xs,us,wx,ex,hs,rA (Ah 20) rr c.2,Ah 20 rx c.1,c.2,c.1,k _ _<|.bl R m⟩
 | false=>rw[c]at m;cases m
 cases m⟩
end
section
variable {X:Cx}{K:Zf}{H:Hp}{h:Gh}
def jU (h:Gh):List W->Option (List W)
 | []=>Dn []
 | w::ws=>match pO h w,jU h ws with
  | some d,Dn ds=>Dn (d::ds)
  | _,_=>Go
def uo (h:Gh)(w:W):Option W:=match w with
 | .tup ws=>(match jU h ws with
  | some ds=>Dn (.tup ds)
  | none=>Go)
 | w=>pO h w
theorem zc {n:Nat}(R:Ax K μ H h):∀{ws ds:List W}{vs:List V},bA K H μ ws vs->jU h ws=Dn ds->ds.all (Aw n)=true->G9 K H ds vs
 | [],ds,vs,r,e,_=>by
  cases e;assumption
 | w::ws,ds,vs,r,e,p=>by
  rw[jU]at e;cases e1:pO h w with
  | none=>rw[e1]at e;cases e
  | some d=>
   cases e2:jU h ws with
   | none=>rw[e1,e2]at e;cases e
   | some ds'=>
    rw[e1,e2]at e;cases e;rw[Oz,GQ]at p;obtain⟨v,vs',ev,r1,r2⟩:=r;subst ev;exact⟨v,vs',rfl,mX R r1 e1 p.1,zc R r2 e2 p.2⟩
theorem oZ {w d:W}{v:V}{n:Nat}(R:Ax K μ H h)(r:Zh K H μ w v)(e:uo h w=Dn d)(p:Aw n d=true):Dt K H d v:=by
 cases w with
 | tup ws=>
  unfold uo at e;dsimp only at e;cases e1:jU h ws with
  | none=>rw[e1]at e;cases e
  | some ds=>
   rw[e1]at e;cases e;obtain⟨q,xs,ev,hs,rs⟩:=r;obtain⟨m,rfl,p⟩:=zbz p;exact⟨q,xs,ev,hs,zc R rs e1 p⟩
 | _=>exact mX R r e p
def QT:M2:=λx y h Q=>match uo h x,uo h y with
 | some a,Dn b=>Ec (Aw 30 a&&Aw 30 b) (Q (.bl (Bk a b)) h) False
 | _,_=>False
def Ul:M2:=λx y h Q=>match uo h x,uo h y with
 | some a,Dn b=>Ec (Aw 30 a&&Aw 30 b) (Q (.bl (!Bk a b)) h) False
 | _,_=>False
theorem Xa (hu:X.A.units+30<HD):Hf X (HB .Eq) QT:=⟨_,JZ hu,by
 intro H μ h x y wx wy Qw Q R rx ry m k;unfold QT at m;split at m
 rename_i a b ea eb;cases hp:(Aw 30 a&&Aw 30 b)with
 | true=>
  rw[hp]at m;rw[GQ]at hp;exact⟨a,b,oZ R rx ea hp.1,oZ R ry eb hp.2,hp.1,hp.2,k _ _<|.bl R m⟩
 | false=>rw[hp]at m;exact(show False from m).elim
 exact m.elim⟩
theorem W7 (hu:X.A.units+30<HD):Hf X (HB .NotEq) Ul:=⟨_,La hu,by
 intro H μ h x y wx wy Qw Q R rx ry m k;unfold Ul at m;split at m
 rename_i a b ea eb;cases hp:(Aw 30 a&&Aw 30 b)with
 | true=>
  rw[hp]at m;rw[GQ]at hp;exact⟨a,b,oZ R rx ea hp.1,oZ R ry eb hp.2,hp.1,hp.2,k _ _<|.bl R m⟩
 | false=>rw[hp]at m;exact(show False from m).elim
 exact m.elim⟩
def W8:W->Option Bool
 | .str _=>Dn true
 | .int _=>Dn false
 | .bl _=>Dn false
 | .non=>Dn false
 | .tup _=>Dn false
 | _=>Go
def Mx (K:Zf)(H:Hp):V->Bool->Prop
 | .str _,b=>b=true
 | .int _,b=>b=false
 | .bl _,b=>b=false
 | .non,b=>b=false
 | .ref p,b=>(∃xs,Fw K H p xs)/\b=false
 | _,_=>False
theorem abl:gJ X (.builtin "isinstance") (λxs H Q=>∃x b,xs=[x,.ty "str"]/\Mx X.K H x b/\Q (.bl b) H):=by
 intro afn s U H xs us Q I r h;obtain⟨x,b,rfl,hi,q⟩:=h;obtain⟨u,w',rfl,rx,ru⟩:=vals2 r;cases ru;have k0:EP X afn U Q (.bool b) s:=⟨.bl b,H,I,rfl,q⟩
 have k1:EP X afn U Q (.bool b) {s with toks:=s.toks+1}:=⟨.bl b,H,I.tok _,rfl,q⟩
 cases x with
 | str i=>obtain⟨t,rfl⟩:=rx;cases hi;exact IsiPair.str_str k0
 | int i=>obtain⟨t,rfl⟩:=rx;cases hi;exact IsiPair.int_str k1
 | bl i=>cases rx;cases hi;exact IsiPair.bool_str k1
 | non=>cases rx;cases hi;exact IsiPair.NoneType_str k1
 | ref p=>
  cases rx;obtain⟨⟨xs,hS⟩,e⟩:=hi;cases e;obtain⟨its,_,⟨o,e,c,_⟩,_⟩:=I.tuple hS;exact IsiPair.tuple_str e c k1
 | _=>exact(show False from hi).elim
theorem acI {w:W}{v:V}{b:Bool}(r:Zh K H μ w v)(e:W8 w=Dn b):Mx K H v b:=by
 cases w<;>rw[Zh]at r<;>first|(subst r;cases e;rfl)|(cases e;done)|skip
 obtain⟨p,xs,ev,hs,_⟩:=r;subst ev;cases e;exact⟨⟨xs,hs⟩,rfl⟩
end
section
variable {X:Cx}{K:Zf}{o e e':Expr}{ma:MA}{apos afq:Pos}
theorem Vs {afq:Pos}{e e':Expr}(h:Cd e=false)(h':Cd e'=false):((Ef afq (Al [e,e'] env)).all (λx=>!x.1)&&(Nh afq (Ni [] env)).all (λx=>x.1.isSome)
   && decide (([e,e']:List Expr).length+([]:List Hu).length+(if([]:List Hu).isEmpty then 0 else 1)<30))=true:=by
 rw[aj h,aj h'];rfl
end
def Ov (m:Nat):List Nat:=(LC 8).filter λj=>m.testBit j
def rk (m j:Nat):Nat:=((LC j).filter λi=>m.testBit i).length
def pq (h:Int):Nat->Nat×Nat
 | 0=>(R6 h % 8,R6 h)
 | n+1=>SetTable.leap 7 (pq h n).1 (pq h n).2
def pb (h:Int)(n:Nat):SetTable.Probe:=⟨(pq h n).1,0,(pq h n).1,(pq h n).2,Go⟩
theorem Bu (h:Int):∀n,(pq h n).2=R6 h / 32^n
 | 0=>by simp[pq]
 | n+1=>by
  show(pq h n).2 / 32=_;rw[Bu h n,Nat.div_div_eq_div_mul,Nat.pow_succ]
theorem zbL (h:Int)(n:Nat)(hn:13<=n):(pq h n).2=0:=by
 rw[Bu];apply Nat.div_eq_of_lt;have h1:R6 h<2^64:=by
  unfold R6;lia
 have h2:32^13<=32^n:=Nat.pow_le_pow_right (by decide) hn;lia
def lcg:Nat->Nat->Nat
 | i,0=>i
 | i,k+1=>(lcg i k*5+1) % 8
theorem Ka (h:Int):∀k,(pq h (13+k)).1=lcg (pq h 13).1 k
 | 0=>rfl
 | k+1=>by
  show((pq h (13+k)).1*5+1+(pq h (13+k)).2 / 32) % (7+1)=_;rw[zbL h _ (by lia),Ka h k];rfl
theorem least {P:Nat->Bool}:∀(B:Nat),(∃n,n<B/\P n=true)->∃N,N<B/\P N=true/\∀n,n<N->P n=false
 | B+1,⟨n,h,e⟩=>by
  by_cases q:∃n,n<B/\P n=true
  obtain⟨N,a,b,c⟩:=least B q;grind
  grind
section
variable {prog:BK}{w:Av}{A:BP}{E:JI->Mk->Prop}{s:Mk}{ka:Nat->List Int}{ad:Nat->Addr}{t:Uq}{a b:Addr}{k:List Int}
abbrev aes (prog:BK)(w:Av)(h:Heap)(k:List Int)(a:Addr):Prop:=IsTupleKey (intKind prog w) h k a
def hT (prog:BK)(w:Av)(k:List Int):Int:=tupleKeyHash (intKind prog w) k
def elL (prog:BK)(w:Av)(m:Nat)(ka:Nat->List Int)(ad:Nat->Addr):List (Int×JI):=(Ov m).map λj=>(hT prog w (ka j),Value.ref (ad j))
structure aak (prog:BK) (w:Av) (h:Heap) (m:Nat) (ka:Nat->List Int) (ad:Nat->Addr) (t:Uq):Prop where
 mask:t.mask=7
 place:t.place=(Ov m).toArray
 dum:t.dummies=#[]
 m8:m<256
 few:(Ov m).length<=4
 key:∀j,j∈Ov m->aes prog w h (ka j) (ad j)
 way:∀j,j∈Ov m->∃n,(pq (hT prog w (ka j)) n).1=j/\∀i,i<n->m.testBit (pq (hT prog w (ka j)) i).1=true
def aaf (es:Array (Int×JI))(ep:Nat)(t:Uq):Obj:={cls:=.type "set",dict:=Go,data:=.set es ep t}
def acW (prog:BK)(w:Av)(h:Heap)(a:Addr)(m:Nat)(ka:Nat->List Int)(ad:Nat->Addr):Prop:=∃ep t,h.get? a=Dn (aaf (elL prog w m ka ad).toArray ep t)/\aak prog w h m ka ad t
end
variable {ad:Nat->Addr}{ka:Nat->List Int}
section
variable {prog:BK}{w:Av}{A:BP}{E:JI->Mk->Prop}{R:Result->Mk->Prop}
structure aai (prog:BK) (w:Av) (z:Nat) (h:Heap) (S:Addr) (seen:List (List Int)) (m:Nat) (ka:Nat->List Int) (ad:Nat->Addr):Prop where
 set:acW prog w h S m ka ad
 low:∀j,j∈Ov m->ad j<z
 mem:∀k,k∈seen↔∃j,j∈Ov m/\ka j=k
 len:(Ov m).length=seen.length
end
section
variable {prog:BK}{w:Av}{A:BP}{E:JI->Mk->Prop}{s:Mk}
end
section
variable {X:Cx}{K:Zf}
def sZ:M2:=λx y h Q=>match Gx h x,Gx h y with
 | some a,Dn b=>jN (a.length+b.length) (Q (.loc h.nx) (h.new (.lst (a++b))))
 | _,_=>False
theorem jO:Hf X (Hx .Add) sZ:=⟨_,Kz,by
 intro H μ h x y wx wy Qw Q R rx ry m k;unfold sZ at m;split at m
 rename_i a b ea eb;obtain⟨p,xs,ex,hx,r1⟩:=uf R rx ea;obtain⟨q,ys,ey,hy,r2⟩:=uf R ry eb;have sz:=m.ok.1;exact⟨p,q,xs,ys,ex,ey,hx,hy,by rw[<-r1.len,<-r2.len];exact sz,λl hl=>k _ _ ⟨μ.put h.nx l,.loc h.nx,h.new<|.lst<|a++b,(Ex.newCell R hl).ext,Ed R hl<|r1.append r2,by rw[Zh];exact⟨l,rfl,Mu.put_same⟩,m.ok.2⟩⟩;exact m.elim⟩
end
section
variable {κ:Type}[DecidableEq κ]
def Gw (kvs:List (κ×V))(k:κ):Option V:=(kvs.find? λkv=>decide (kv.1=k)).map (·.2)
def Ja (kvs:List (κ×V))(k:κ)(v:V):List (κ×V):=
 if(kvs.any λkv=>decide (kv.1=k))=true then kvs.map (λkv=>if kv.1=k then(kv.1,v)else kv)else kvs++[(k,v)]
theorem yC {p:κ×V}{r:List (κ×V)}{k:κ}(e:p.1=k):Gw (p::r) k=Dn p.2:=by simp[Gw,e]
theorem zB {p:κ×V}{r:List (κ×V)}{k:κ}(e:¬p.1=k):Gw (p::r) k=Gw r k:=by simp[Gw,e]
theorem xR (kvs:List (κ×V))(k:κ)(v:V):(Ja kvs k v).length<=kvs.length+1:=by
 unfold Ja;grind
theorem KN.getD {o:Option V}{u:Option JI}{d:V}{d':JI}(r:KN o u)(rd:RelV d d'):RelV (o.getD d) (u.getD d'):=by
 cases o with
 | none=>cases u with
  | none=>exact rd
  | some _=>exact(show False from r).elim
 | some _=>cases u with
  | none=>exact(show False from r).elim
  | some _=>exact r
theorem KV.val {kvs:List (κ×V)}{vs:List (κ×JI)}(r:KV kvs vs)(k:κ):KN (Gw kvs k) (valueAt vs k):=by
 induction r with
 | nil=>exact True.intro
 | @cons p q ps qs h t ih=>
  obtain⟨h1,h2⟩:=h;by_cases e:p.1=k
  have e':=h1.symm.trans e;have b:valueAt (q::qs) k=Dn q.2:=by simp[valueAt,e']
  rw[yC e,b];exact h2;have e':¬q.1=k:=λz=>e (h1.trans z)
  have b:valueAt (q::qs) k=valueAt qs k:=by simp[valueAt,e']
  rw[zB e,b];exact ih
theorem KV.any {kvs:List (κ×V)}{vs:List (κ×JI)}(r:KV kvs vs)(k:κ):(kvs.any λkv=>decide (kv.1=k))=vs.any λkv=>decide (kv.1=k):=by
 induction r with
 | nil=>rfl
 | cons h t ih=>rw[Ob,Ob,ih,h.1]
theorem KV.repl {kvs:List (κ×V)}{vs:List (κ×JI)}(r:KV kvs vs)(k:κ){y:V}{u:JI}(ry:RelV y u):
  KV (kvs.map λkv=>if kv.1=k then(kv.1,y)else kv) (vs.map λkv=>if kv.1=k then(kv.1,u)else kv):=by
 induction r with
 | nil=>exact .nil
 | @cons p q ps qs h t ih=>
  rw[Jf];refine .cons ?_ ih;grind
theorem KV.put {kvs:List (κ×V)}{vs:List (κ×JI)}(r:KV kvs vs)(k:κ){y:V}{u:JI}(ry:RelV y u):KV (Ja kvs k y) (stored vs k u):=by
 unfold Ja stored;rw[r.any k];by_cases e:(vs.any λkv=>decide (kv.1=k))=true
 rw[if_pos e,if_pos e];exact r.repl k ry;rw[if_neg e,if_neg e];exact Paired.snoc r ⟨rfl,ry⟩
end
theorem Hv {P:BK}{w:Av}{k:Key}{u:JI}(r:RelV (kV k) u):(dz P w).is k u=true:=by
 cases k with
 | inl i=>obtain⟨t,e⟩:=r;subst e;exact wL P w i t
 | inr x=>obtain⟨t,e⟩:=r;subst e;exact wu P w x t
section
variable {P:BK}{w:Av}{H:Hp}{h:Heap}{a:Addr}
theorem Wt {u:HO}(ok:GP P w H h)(e:Rd H a u):fM P w H h a u:=e.ok ok
theorem Wx {kvs:List (Key×V)}(ok:GP P w H h)(e:Rd H a (.dK kvs)):kvs.length<=Bh/\(a==Ma)=false/\∃vs,KV kvs vs/\h.DictOf (dz P w) a vs:=
 Wt ok e
theorem Mj {kvs:List (Key×V)}(ok:GP P w H h)(e:H a=Dn (.dK kvs)):kvs.length<=Bh/\(a==Ma)=false/\∃vs,KV kvs vs/\h.DictOf (dz P w) a vs:=Wx ok (.inl e)
end
section
variable {X:Cx}{afn:List (Addr×Obj)}{U:St}{H:Hp}{s:Mk}{a:Addr}{y v:V}{u r:JI}{o:Option V}{A:BP}{E:JI->Mk->Prop}
theorem Yu.big (I:Yu X afn U H s):Ma<s.heap.objs.size:=Nat.lt_trans (by decide) ((I.mod.glob.keeps I.bk).lt)
theorem zbh {h':Heap}{t':Nat}{ob:HO}(I:Yu X afn U H s)(mu:Mut (H a))(hs:QC a s.heap h')(he:∃q,h'.get? a=Dn q)(new:fM X.prog X.w (CN H a ob) h' a ob):
  Yu X afn U (CN H a ob) {s with heap:=h',toks:=t'}:=
 I.write mu (.inl rfl) (λb q hb z=>(hs.2 b hb).trans z) he new
theorem acB {P:BK}{w:Av}{H':Hp}{h':Heap}{kvs:List (Key×V)}{vs:List (Key×JI)}(z:kvs.length<=Bh)(hd:(a==Ma)=false)(rel:KV kvs vs)(dd:h'.DictOf (dz P w) a vs):
  fM P w H' h' a (.dK kvs):=⟨z,hd,vs,rel,dd⟩
end
section
variable {X:Cx}{afn:List (Addr×Obj)}{U:St}{H:Hp}{s:Mk}{a:Addr}{kvs:List (Key×V)}{k:Key}{u:JI}{A:BP}{E:JI->Mk->Prop}
end
def Yv (i:Expr):Prop:=∀ov iv,subscripted i false ov iv=operate [ov,iv] (getItem ov iv)
theorem adq {prog:BK}{w:Av}{A:BP}{E:JI->Mk->Prop}{s:Mk}{value slice:Expr}{pos:Pos}{T id:String}{Q:JI->Mk->Prop}
  (hl:typeLookup (.type T) "__getitem__" = pure (Dn (.builtin id))) (hs:Yv slice)
  (h:Ae (Ai prog w) A (eval value env) (λo s₁=>Ae (Ai prog w) A (eval slice env) (λi s₂=>s₂.TypeIs o T/\Ae (Ai prog w) A (getItem o i) Q E s₂) E s₁) E s) :
  Ae (Ai prog w) A (eval (.Subscript value slice pos) env) Q E s:=by
 refine Subscript_<|Hw h (λo s₁ h₁=>Hw h₁ (λi s₂ h₂=>?_) λ_ _ x=>x) λ_ _ x=>x
 obtain⟨hT,h₂⟩:=h₂;refine Zr<|Zr<|wpAny_specialOf hT hl ?_
 have fin:Ae (Ai prog w) A (subscripted slice false o i) (λr s₃=>Ae (Ai prog w) A (letTemporaryGo value o r >>= λ_=>pure r) Q E s₃) E s₂:=hs o i ▸ wpAny_operating (Hw h₂ (λr s₃ h₃=>Zr (wpAny_letTemporaryGo (CG h₃))) λ_ _ x=>x);first
  | exact CG (Zr fin)
  | exact Zr fin
section
variable {X:Cx}{o i e value:Expr}{pos pos' tpos:Pos}{td ty tv:TE}
end
theorem aeH {P:BK}{w:Av}{H:Hp}(h:Heap)(hb:Ma<h.objs.size):fM P w H (h.push {cls:=.type "dict",data:=.dict #[]}) h.objs.size (.dK []):=
 ⟨Pn _,beq_eq_false_iff_ne.mpr (HF (Cg hb)),[],.nil,Heap.DictOf.new h⟩
section
variable {X:Cx}{pos:Pos}
end
def zJ:List (TE×TE)->St->Hp->(List (V×V)->Hp->Prop)->Prop
 | [],_,H,Q=>Q [] H
 | (tk,tv)::r,U,H,Q=>tk U H λx H1=>tv U H1 λy H2=>zJ r U H2 λps H3=>Q ((x,y)::ps) H3
abbrev VV:List (V×V)->List (JI×JI)->Prop:=Pr λp q=>RelV p.1 q.1/\RelV p.2 q.2
def PPs (X:Cx)(pos:Pos)(keys:List (Option Expr))(values:List Expr)(trs:List (TE×TE)):Prop:=
 ∀(afn:List (Addr×Obj)) (s:Mk) (U:St) (H:Hp) (Q:List (V×V)->Hp->Prop),Yu X afn U H s->zJ trs U H Q ->
  Ae (Ai X.prog X.w) X.A (evalPairs (pairTrees keys values X.env pos)) (λvs s'=>∃ps H',Yu X afn U H' s'/\VV ps vs/\Q ps H') X.xe s
theorem aeF {X:Cx}{pos:Pos}:PPs X pos [] [] []:=λafn s U H Q I h=>pairTrees_nil_walk ⟨[],H,I,.nil,h⟩
variable {ks:List (Option Expr)}{trs:List (TE×TE)}
theorem abx {X:Cx}{pos:Pos}{k v:Expr}{vs:List Expr}{tk tv:TE}(hk:PE X k tk)(hv:PE X v tv)(hr:PPs X pos ks vs trs):
  PPs X pos (Dn k::ks) (v::vs) ((tk,tv)::trs):=λafn s U H Q I h=>
 pairTrees_cons_walk (Bj (hk afn s U H _ I h) λu s1 ⟨x,H1,I1,rx,q1⟩=>Bj (hv afn s1 U H1 _ I1 q1) λw2 s2 ⟨y,H2,I2,ry,q2⟩=>
  Bj (hr afn s2 U H2 _ I2 q2) λws s3 ⟨ps,H3,I3,rel,q3⟩=>⟨(x,y)::ps,H3,I3,.cons ⟨rx,ry⟩ rel,q3⟩)
def o9 (kvs more:List (Key×V)):List (Key×V):=more.foldl (λacc kv=>Ja acc kv.1 kv.2) kvs
theorem KV.merge:∀{more:List (Key×V)}{rs:List (Key×JI)}{kvs:List (Key×V)}{vs:List (Key×JI)},KV more rs->KV kvs vs->KV (o9 kvs more) (merged vs rs):=by
 intro more rs kvs vs r;induction r generalizing kvs vs with
 | nil=>intro q;exact q
 | @cons p q ps qs h t ih=>
  intro r0;have e:KV (Ja kvs p.1 p.2) (stored vs q.1 q.2):=by
   have:=r0.put p.1 h.2
   grind
  exact ih e
theorem lJ:∀(more kvs:List (Key×V)),(o9 kvs more).length<=kvs.length+more.length
 | [],kvs=>by show kvs.length<=kvs.length+0;lia
 | p::r,kvs=>by
  have h1:=lJ r (Ja kvs p.1 p.2);have h2:=xR kvs p.1 p.2;show(o9 _ r).length<=_;grind
theorem q9 {P:BK}{w:Av}:∀{kvs:List (Key×V)}{ws:List (JI×JI)},VV (kvs.map λkv=>(kV kv.1,kv.2)) ws->∃rs,Carries (dz P w) ws rs/\KV kvs rs
 | [],_,r=>by cases r;exact⟨[],True.intro,.nil⟩
 | p::kvs,_,r=>by
  cases r with
  | @cons a b as bs h t=>
   obtain⟨rs,c,q⟩:=q9 t;obtain⟨b1,b2⟩:=b;exact⟨(p.1,b2)::rs,⟨Hv h.1,rfl,c⟩,.cons ⟨rfl,h.2⟩ q⟩
def Xb (trs:List (TE×TE)):TE:=λU H Q=>∀p,H p=Go->zJ trs U (CN H p (.dK [])) λps H2=>H2 p=Dn (.dK [])/\∃kvs:List (Key×V),ps=kvs.map (λkv=>(kV kv.1,kv.2))/\kvs.length<=15/\Q (.ref p) (CN H2 p (.dK (o9 [] kvs)))
variable {keys:List (Option Expr)}
theorem abF {X:Cx}{pos:Pos}{values:List Expr}(h:PPs X pos keys values trs)(hall:keys.all (·.isSome)=true)(hl:keys.length=values.length)(h0:keys≠[])
  (h15:keys.length<=15):PE X (.Dict keys values pos) (Xb trs):=by
 intro afn s U H Q I q;refine wpAny_Dict_walk (knd:=dz _ _) hall hl h0 h15<|Bj (h afn _ U _ _ (I.laid (λ_ _ q=>Cm _ q) (Bm _)<|aeH _ I.big)<|q _<|I.hok.fresh<|Bm _) λws s2 ⟨ps,H2,I2,rel,e,kvs,ep,lk,q2⟩=>?_
 subst ep;obtain⟨rs,c,rk⟩:=q9 rel;obtain⟨z,hd,vs0,r0,dd⟩:=Mj I2.hok e;cases r0;refine⟨rs,c,dd,λh' dd' hs=>⟨.ref _,_,?_,rfl,q2⟩⟩;have hz:(o9 [] kvs).length<=Bh:=by
  have h1:=lJ kvs [];rw[Pz]at h1;rw[sizeLine_eq];lia
 exact zbh I2 (e ▸ True.intro) hs (let⟨q,_,_,hq,_⟩:=dd';⟨q,hq⟩)<|acB hz hd (rk.merge .nil) dd'
def Sh:W->Option Key
 | .int i=>Dn (.inl i)
 | .str x=>Dn (.inr x)
 | _=>Go
def p7 (kvs:List (Key×W))(k:Key):Option W:=(kvs.find? λkv=>decide (kv.1=k)).map (·.2)
def X4 (kvs:List (Key×W))(k:Key)(w:W):List (Key×W):=
 if(kvs.any λkv=>decide (kv.1=k))=true then kvs.map (λkv=>if kv.1=k then(kv.1,w)else kv)else kvs++[(k,w)]
section
variable {K:Zf}{H:Hp}{kvs:List (Key×W)}{kvv:List (Key×V)}{k:Key}{w:W}{v:V}
theorem yO (r:Zh K H μ w v)(e:Sh w=Dn k):v=kV k:=by
 cases w with
 | int i|str x=>rw[Zh]at r;cases e;exact r
 | _=>cases e
theorem qO.val (r:qO K H μ kvs kvv)(e:p7 kvs k=Dn w):∃v,Gw kvv k=Dn v/\Zh K H μ w v:=by
 induction r with
 | nil=>cases e
 | @cons p q ps qs h t ih=>
  by_cases z:p.1=k
  have e1:p7 (p::ps) k=Dn p.2:=by simp[p7,z]
  rw[e1]at e;cases e;exact⟨q.2,yC<|h.1.symm.trans z,h.2⟩;have e1:p7 (p::ps) k=p7 ps k:=by simp[p7,z]
  rw[e1]at e;obtain⟨v,a,b⟩:=ih e;exact⟨v,by rwa[zB<|λy=>z<|h.1.trans y],b⟩
theorem qO.any (r:qO K H μ kvs kvv)(k:Key):(kvs.any λkv=>decide (kv.1=k))=(kvv.any λkv=>decide (kv.1=k)):=by
 induction r with
 | nil=>rfl
 | @cons p q ps qs h t ih=>rw[Ob,Ob,ih,h.1]
theorem qO.repl (r:qO K H μ kvs kvv)(rv:Zh K H μ w v)(k:Key):qO K H μ (kvs.map λkv=>if kv.1=k then(kv.1,w)else kv) (kvv.map λkv=>if kv.1=k then(kv.1,v)else kv):=by
 induction r with
 | nil=>exact .nil
 | @cons p q ps qs h t ih=>
  rw[Jf];refine .cons ?_ ih;grind
theorem qO.put (r:qO K H μ kvs kvv)(rv:Zh K H μ w v)(k:Key):qO K H μ (X4 kvs k w) (Ja kvv k v):=by
 unfold X4 Ja;rw[<-r.any k];by_cases e:(kvs.any λkv=>decide (kv.1=k))=true
 rw[if_pos e,if_pos e];exact r.repl rv k;rw[if_neg e,if_neg e];exact Paired.snoc r ⟨rfl,rv⟩
theorem Ax.dctAt {h:Gh}{n:Nat}(R:Ax K μ H h)(e:h.c n=Dn (.dct kvs)):∃p kvv,μ.f n=Dn p/\H p=Dn (.dK kvv)/\qO K H μ kvs kvv:=by
 obtain⟨p,e1,xs,e2,r⟩:=R.cel n _ e;grind
end
section
variable {X:Cx}{a b:Expr}{mb:ME}{pos:Pos}
def aaw:M2:=λx y h Q=>match x,Sh y with
 | .loc n,Dn k=>(match h.c n with
  | some (.dct kvs)=>(match p7 kvs k with
   | some w=>Q w h
   | none=>False)
  | _=>False)
 | _,_=>False
def mDs:List (Key×ME)->MA
 | [],_,h,Q=>Q [] h
 | p::r,U,h,Q=>p.2 U h λw h1=>mDs r U h1 λws h2=>Q (w::ws) h2
def mkD:List (Key×ME)->List W->List (Key×W)->List (Key×W)
 | p::r,w::ws,acc=>mkD r ws (X4 acc p.1 w)
 | _,_,acc=>acc
def Uk (r:List (Key×ME)):ME:=λU h Q=>mDs r U (h.new (.dct [])) λws h2=>match h2.c h.nx with
 | some (.dct [])=>Q (.loc h.nx) (h2.set h.nx (.dct (mkD r ws [])))
 | _=>False
inductive Lj (X:Cx):List (Option Expr)->List Expr->List (Key×ME)->Prop
 | nil:Lj X [] [] []
 | cons {x:Str} {j pos} {v:Expr}{m:ME}{ks:List (Option Expr)}{vs:List Expr}{r:List (Key×ME)}(h:DE X v m) (t:Lj X ks vs r):Lj X (Dn (.Constant (.str x) j pos)::ks) (v::vs) ((.inr x,m)::r)
def trD (K:Zf)(r:List (Key×ME)):List (TE×TE):=r.map λp=>(tC (kV p.1),tD K p.2)
theorem Lj.pps {vs:List Expr}{r:List (Key×ME)}(h:Lj X ks vs r):PPs X pos ks vs (trD X.K r):=by
 induction h with
 | nil=>exact aeF
 | cons h t ih=>exact abx JM h ih
theorem Lj.all {ks:List (Option Expr)}{vs:List Expr}{r:List (Key×ME)}(h:Lj X ks vs r):ks.all (·.isSome)=true/\ks.length=vs.length/\ks.length=r.length:=by
 induction h with
 | nil=>exact⟨rfl,rfl,rfl⟩
 | cons h t ih=>exact⟨by rw[Oz,ih.1];rfl,by rw[Ea,Ea,ih.2.1],by rw[Ea,Ea,ih.2.2]⟩
theorem yr {K:Zf}:∀{r:List (Key×ME)}{U:St}{H:Hp}{μ:Mu}{h:Gh}{Uw:Sw}{Qw:List W->Gh->Prop}{Q:List (V×V)->Hp->Prop},Ax K μ H h->Slots K H μ Uw U->mDs r Uw h Qw ->
  (∀(vs:List V) (ws:List W) (H':Hp) (μ':Mu) (h':Gh),DR K H μ H' μ'->Ax K μ' H' h'->bA K H' μ' ws vs->vs.length=r.length->Qw ws h'->Q ((r.zip vs).map λp=>(kV p.1.1,p.2)) H')->zJ (trD K r) U H Q
 | [],U,H,μ,h,Uw,Qw,Q,R,S,m,k=>k [] [] H μ h .refl R bA.nil rfl m
 | p::r,U,H,μ,h,Uw,Qw,Q,R,S,m,k=>⟨μ,h,Uw,_,R,S,m,λv H1 ⟨μ1,w,h1,e1,R1,r1,m1⟩=>(yr R1 (S.ext e1) m1 λvs ws H2 μ2 h2 e2 R2 rs hl q=>(k _ _ H2 μ2 h2 (e1.trans e2) R2 (bA.cons (e2.r _ _ r1) rs) (by rw[Ea,Ea,hl]) q))⟩
theorem KR {K:Zf}{H:Hp}{μ:Mu}:∀{r:List (Key×ME)}{ws:List W}{vs:List V}{acc:List (Key×W)}{accv:List (Key×V)},bA K H μ ws vs->vs.length=r.length->qO K H μ acc accv ->
  qO K H μ (mkD r ws acc) (o9 accv ((r.zip vs).map λp=>(p.1.1,p.2)))
 | [],ws,vs,acc,accv,rs,hl,ra=>by
  assumption
 | p::r,ws,vs,acc,accv,rs,hl,ra=>by
  cases ws with
  | nil=>rw[bA]at rs;subst rs;cases hl
  | cons w ws=>
   obtain⟨v,vs',e,rv,rs'⟩:=rs;subst e;exact KR (r:=r) rs' (by simpa using hl)<|ra.put rv _
theorem JL {vs:List Expr}{r:List (Key×ME)}(h:Lj X ks vs r)(h0:ks≠[])(h15:ks.length<=15):DE X (.Dict ks vs pos) (Uk r):=
 (abF h.pps h.all.1 h.all.2.1 h0 h15).of λU H Q ⟨μ,g,Uw,Qw,R,S,m,q⟩ p hp=>by
  have R1:Ax _ _ (CN H p (.dK [])) (g.new (.dct [])):=R.newCell hp trivial ⟨[],bM,.nil⟩;have e1:=(Ex.newCell (o:=.dK []) R hp).ext;refine yr R1 (S.ext e1) m λvs' ws H2 μ2 h2 e2 R2 rs hl z=>?_;split at z
  rename_i ec;obtain⟨p',kvv,hp',hx,rf⟩:=R2.dctAt ec;have r0:Zh X.K (CN H p (.dK [])) (μ.put g.nx p) (.loc _) (.ref p):=⟨p,rfl,Mu.put_same⟩
  obtain⟨p'',ep,hp''⟩:=(e2.r _ _ r0)
  cases ep;obtain rfl:=by rw[hp'']at hp';exact(Ge hp').symm
  cases rf;refine⟨hx,(r.zip vs').map (λp=>(p.1.1,p.2)),by rw[Lx];rfl,?_,?_⟩;rw[Ag,List.length_zip,hl,<-h.all.2.2,Nat.min_self];exact h15;have ew:=(Ex.write (o:=.dK (o9 [] ((r.zip vs').map (λp=>(p.1.1,p.2))))) R2 hp'').ext;exact q _ _ ⟨μ2,.loc _,_,(e1.trans e2).trans ew,R2.write (c:=.dct _) hp'' trivial ⟨_,bM,(KR (ew.s rs) hl .nil)⟩,⟨p',rfl,hp''⟩,z⟩;cases z
end
inductive lU (w:Av) (K:Zf):List DictEntry->List (Key×W)->Prop
 | nil:lU w K [] []
 | cons {x:Str} {t} {v:V}{u:JI}{d:W}{es:List DictEntry}{tbl:List (Key×W)}(r:RelV v u) (q:∀H μ,Zh K H μ d v) (h:lU w K es tbl):lU w K (⟨Io w.params x,.str x t,u⟩::es) ((.inr x,d)::tbl)
def JH (w:Av)(K:Zf)(a:Addr)(tbl:List (Key×W)):Prop:=(a==Ma)=false/\(tbl.map (·.1)).Nodup/\tbl.length<=Bh/\∃es n,K.lookup a=Dn ⟨.type "dict",Go,.dict es n,#[]⟩/\lU w K es.toList tbl
variable {tbl:List (Key×W)}
theorem lU.pairs {P:BK}{w:Av}{K:Zf}{es:List DictEntry}(h:lU w K es tbl):
  (∀e∈es,∃k,(dz P w).is k e.key=true/\e.hash=(dz P w).hash k)/\∃vs kvv,Pairs (dz P w) es vs/\KV kvv vs/\(∀H μ,qO K H μ tbl kvv)/\vs.map (·.1)=tbl.map (·.1):=by
 induction h with
 | nil=>exact⟨λe z=>(nomatch z),[],[],.nil,.nil,λ_ _=>.nil,rfl⟩
 | @cons x t v u d es tbl r q h ih=>
  obtain⟨h1,vs,kvv,h2,h3,h4,h5⟩:=ih;have hk:(dz P w).is (.inr x) _=true:=Hv ⟨t,rfl⟩;refine⟨λe z=>?_,(.inr x,u)::vs,(.inr x,v)::kvv,.cons hk rfl h2,.cons ⟨rfl,r⟩ h3,λH μ=>.cons ⟨rfl,q H μ⟩<|h4 H μ,by rw[Jf,Jf,h5]⟩;rcases Bg.mp z with z|z
  subst z;exact⟨.inr x,hk,rfl⟩;exact h1 e z
theorem JH.dict {X:Cx}{afn:List (Addr×Obj)}{U:St}{H:Hp}{s:Mk}{a:Addr}(T:JH X.w X.K a tbl)(I:Yu X afn U H s):
  ∃vs kvv,s.heap.DictOf (dz X.prog X.w) a vs/\KV kvv vs/\∀H μ,qO X.K H μ tbl kvv:=by
 obtain⟨_,nd,_,es,n,hl,he⟩:=T;obtain⟨h1,vs,kvv,h2,h3,h4,h5⟩:=he.pairs;exact⟨vs,kvv,⟨_,es,n,I.kIn _ _ hl,⟨rfl,rfl,rfl⟩,rfl,λe z=>h1 e<|Array.mem_toList_iff.mpr z,h2,h5 ▸ nd⟩,h3,h4⟩
section
variable {X:Cx}{b:Expr}{mb:ME}{pos p:Pos}{x:Str}{a:Addr}
def Qo (tbl:List (Key×W))(mb:ME):ME:=λU h Q=>mb U h λy h1=>match Sh y with
 | some k=>(match p7 tbl k with
  | some w=>Q w h1
  | none=>False)
 | none=>False
theorem Jt (T:JH X.w X.K a tbl)(hg:Gl X x)(hm:X.mg x=Dn (.ref a))(hb:DE X b mb)(hs:Yv b)(hd:(x==("__debug__" : Str))=false:=by decide):DE X (.Subscript (.Name x p) b pos) (Qo tbl mb):=by
 intro afn s U H Q I ⟨μ,g,Uw,Qw,R,S,m,q⟩;refine adq PySem.F.slot_dict_getitem.lookup hs<|Bj ((eF hg hm rfl hd:PE X _ (tC<|.ref a)) afn s U H (λv H'=>v=.ref a/\H'=H) I ⟨rfl,rfl⟩) λu s1 ⟨v1,H1,I1,rx,ev,eH⟩=>?_
 subst ev eH;obtain rfl:u=Value.ref a:=rx;refine Bj (hb afn s1 U H1 _ I1 ⟨μ,g,Uw,_,R,S,m,λy H2 z=>z⟩) λiv s2 ⟨y,H2,I2,ry,μ2,wy,h2,e2,R2,r2,z⟩=>?_;obtain⟨vs,kvv,dd,rel,rf⟩:=T.dict I2;split at z
 rename_i k ek;split at z
 rename_i w ew;cases yO r2 ek
 obtain⟨v,ev,rv⟩:=(rf H2 μ2).val ew;obtain⟨w',hw,rw'⟩:=KN.some_of (ev ▸ rel.val k);exact⟨dd.typeIs,wpAny_getItem_of (Hv ry) dd.mapOf hw ⟨v,H2,I2.tok _,rw',q _ _ ⟨μ2,w,h2,e2,R2,rv,z⟩⟩⟩;cases z;cases z
end
def NQ:Key->W
 | .inl i=>.int i
 | .inr x=>.str x
theorem zbf {K:Zf}{H:Hp}{k:Key}:Zh K H μ (NQ k) (kV k):=by
 cases k with
 | inl i=>show Zh K H μ (.int i) (.int i);rw[Zh]
 | inr x=>show Zh K H μ (.str x) (.str x);rw[Zh]
theorem yq {K:Zf}{H:Hp}{μ:Mu}:∀ks:List Key,bA K H μ (ks.map NQ) (ks.map kV)
 | []=>bA.nil
 | _::r=>bA.cons zbf (yq r)
theorem adQ {k:Key}{v:JI}(h:vf k v=true):RelV (kV k) v:=by
 cases k with
 | inl i=>obtain⟨t,e⟩:=Value.isInt_shape (k:=i) (v:=v) h;subst e;exact⟨t,rfl⟩
 | inr x=>obtain⟨t,e⟩:=Value.isStrOf_shape (x:=x) (v:=v) h;subst e;exact⟨t,rfl⟩
theorem u0:∀{vs:List (Key×JI)}{us:List JI},us.length=vs.length->(∀(j:Nat) (u:JI),us[j]?=Dn u->∃k x,vs[j]?=Dn (k,x)/\vf k u=true)->kI (vs.map λp=>kV p.1) us
 | [],[],_,_=>.nil
 | p::vs,u::us,hl,h=>by
  obtain⟨k,x,e,hk⟩:=h 0 u rfl;have e':p=(k,x):=by simpa using e
  subst e';exact .cons (adQ hk)<|u0 (by simpa using hl) λj u hu=>by simpa using h (j+1) u (by simpa using hu)
 | [],_::_,hl,_=>by simp at hl
 | _::_,[],hl,_=>by simp at hl
section
variable {X:Cx}{pos p p':Pos}{x:Str}{a:Addr}
theorem zao (T:JH X.w X.K a tbl)(hc:X.calm=true):gJ X (.type "list") (λxs H Q=>xs=[.ref a]/\∀l,H l=Go->Q (.ref l) (CN H l (.lst (tbl.map λp=>kV p.1)))):=by
 intro afn s U H xs us Q I r ⟨ex,q⟩;subst ex;obtain⟨u,rfl,rx⟩:=vals1 r;cases rx;obtain⟨lo,nd,hz,es,n,hl,he⟩:=T;obtain⟨h1,vs,kvv,h2,h3,h4,h5⟩:=he.pairs (P:=X.prog);have hd:s.heap.DictAt (dz X.prog X.w) a vs n:=⟨_,es,I.kIn _ _ hl,⟨rfl,rfl,rfl⟩,rfl,λe z=>h1 e (Array.mem_toList_iff.mpr z),h2,by rw[h5];exact nd⟩
 have afp:vs.length=tbl.length:=by have:=congrArg Ro h5;simpa using this
 have hk:(vs.map λp=>kV p.1)=tbl.map λp=>kV p.1:=by
  have:=congrArg (List.map kV) h5
  rw[Lx,Lx]at this;exact this
 refine PySem.W.kdl_call (PySem.W.kdl_dict lo) (I.ok.hd hc) hd (by rw[afp];exact hz) λh' tk acc' c' kp e it=>?_;have hv:kI (tbl.map λp=>kV p.1) acc'.toList:=by
  rw[<-hk];exact u0 (by rw[Array.length_toList];exact it.1) λj u hu=>it.2 j u (by rw[<-Array.getElem?_toList];exact hu)
 exact⟨.ref s.heap.objs.size,_,I.laid (t':=tk) kp (Bm _)<|show fM X.prog X.w _ h' _ (.lst<|tbl.map λp=>kV p.1)from⟨by rw[Ag];exact hz,acc'.toList,c',hv,e⟩,rfl,q _<|I.hok.fresh<|Bm _⟩
theorem Dl (T:JH X.w X.K a tbl)(hc:X.calm=true)(hl:Gl X "list")(hz:X.mg "list" = Go)(hg:Gl X x)(hm:X.mg x=Dn (.ref a))(hd:(x==("__debug__" : Str))=false:=by decide)
  (he:Al [.Name x p'] X.env=(false,eval (.Name x p') X.env)::Al [] X.env:=by rfl):DE X (.Call (.Name "list" p) [.Name x p'] [] pos) (mC (.lst (tbl.map λq:Key×W=>NQ q.1))):=
 (vG (zao T hc) hl hz boot_list (jj (eF (v:=.ref a) hg hm rfl hd) uE he) (by decide) (by decide) he rfl).of λU H Q ⟨μ,h,Uw,Qw,R,S,m,k⟩=>by
  refine And.intro rfl<|λl hl=>k _ _ ⟨μ,.lst (tbl.map λq:Key×W=>NQ q.1),h,(Ex.laid hl).ext,R.laid hl,?_,m⟩
  have e1:(tbl.map λq:Key×W=>NQ q.1)=(tbl.map (·.1)).map NQ:=by rw[Lx];rfl
  have e2:(tbl.map λp=>kV p.1)=(tbl.map (·.1)).map kV:=by rw[Lx];rfl
  rw[e1,e2];exact .lstNew R hl<|yq _
end
section
variable {X:Cx}
def BR (K:Zf):V->List V->Hp->VK->Prop:=λx vs H Q=>∃(l:Addr) (ns:List Str) (k:Str) (j:Nat),x=.ref l/\vs=[.str k]/\Ez K H l (ns.map V.str)/\ns[j]?=Dn k/\(∀m,m<j->ns[m]?≠Dn k)/\Q (.int j) H
theorem abA:ML X "list.index" (BR X.K):=by
 intro afn s U H x vs v us Q I rx rv h;obtain⟨l,ns,k,j,rfl,rfl,hx,hj,hno,q⟩:=h;cases rx;obtain⟨u,rfl,ru⟩:=rv.one;obtain⟨t,rfl⟩:=ru;obtain⟨its,r,pl,hz⟩:=I.list hx;obtain⟨⟨cl,dd,da,sl⟩,n,e,c1,c2,c3⟩:=pl;simp only at c1 c2 c3;subst c1 c2 c3;have hl:=r.length;rw[Ag]at hl;have at':∀{m:Nat}(hm:m<its.toArray.size),∃a t',ns[m]?=Dn a/\its.toArray[m]=.str a t':=λ{m} hm=>by
  have hm':m<ns.length:=by rw[Ii]at hm;lia
  obtain⟨u,hu,ru⟩:=r.get (show(ns.map V.str)[m]?=Dn (.str ns[m]) by rw[Ds,GF hm'];rfl);obtain⟨t',rfl⟩:=ru;refine⟨ns[m],t',GF hm',?_⟩;have:=(HY.mp hu).2
  simpa using this
 have hjl:j<its.toArray.size:=by
  have:=(HY.mp hj).1
  rw[Ii];lia
 have h63:(Bh:Nat)<2^63-1:=by decide
 have hz':ns.length<=Bh:=by rw[Ag]at hz;exact hz
 let ev:JI->Bool:=λy=>match y with
  | .str a _=>a==k
  | _=>false
 refine call_meets F.slot_list_index ⟨_,e,rfl⟩ F.entry_list_index (F.args_list_index_2 _ _) (SeqAt.list_indexAt l its.toArray n Go sl (.str k t) ev j hjl ?_ ?_ ?_) ⟨e,?_,?_⟩;rw[Ii]at hjl;have:(2:Int)^63-1=((2^63-1:Nat):Int):=by decide
 rw[this];lia;obtain⟨a,t',ea,e2⟩:=at' hjl;rw[e2];rw[hj]at ea;cases ea;show(k==k)=true;exact beq_self_eq_true k;intro m hm hmj;obtain⟨a,t',ea,e2⟩:=at' hm;rw[e2];show(a==k)=false;refine beq_eq_false_iff_ne.mpr λx=>hno m hmj ?_;rw[ea,x];intro y hy;obtain⟨m,hm,e2⟩:=Array.mem_iff_getElem.mp hy;obtain⟨a,t',ea,e3⟩:=at' hm;rw[<-e2,e3];exact SeqAt.EqAt.str_str a t' k t;exact⟨.int j,H,I.tok _,⟨_,rfl⟩,q⟩
def qH:MM:=λx ws h Q=>match ws with
 | [.str k]=>(match cU h x with
  | some us=>∃(ns:List Str) (j:Nat),us=ns.map W.str/\ns[j]?=Dn k/\(∀m,m<j->ns[m]?≠Dn k)/\Q (.int j) h
  | none=>False)
 | ws=>CK x ws h Q
theorem rK {K:Zf}{H:Hp}{μ:Mu}:∀{ns:List Str}{xs:List V},bA K H μ (ns.map W.str) xs->xs=ns.map V.str
 | [],xs,r=>by rw[List.map_nil,bA]at r;exact r
 | n::ns,xs,r=>by
  rw[Jf,bA]at r;obtain⟨v,vs,e,rv,r⟩:=r;rw[Zh]at rv;rw[e,rv,rK r];rfl
theorem zaW {K:Zf}:Mv K (λx vs H Q=>Ce K x vs H Q\/BR K x vs H Q) qH:=by
 intro H μ h x vs wx ws Qw Q R rx rs m k;unfold qH at m;split at m
 rename_i i;obtain⟨v,ev,rv⟩:=lE rs;rw[Zh]at rv;subst ev rv;split at m
 rename_i us ev;obtain⟨ns,j,eu,hj,hno,m⟩:=m;obtain⟨p,xs,ex,hs,rr⟩:=dH R rx ev;rw[eu]at rr;have exs:=rK rr;subst exs;exact .inr ⟨p,ns,i,j,ex,rfl,hs,hj,hno,k _ _<|.int R m⟩;exact m.elim;exact .inl<|zbF R rx rs m k
theorem aaN {o e:Expr}{ma:MA}{apos afq:Pos}(ho:DE X o mo)(ha:Gn X [e] ma)
  (hbase:Nt o "index" X.env (eval o X.env)=eval o X.env:=by rfl)
  (hfew:((Ef afq (Al [e] X.env)).all (λx=>!x.1)&&(Nh afq (Ni [] X.env)).all (λx=>x.1.isSome)
   && decide (([e]:List Expr).length+([]:List Hu).length+(if([]:List Hu).isEmpty then 0 else 1)<30))=true:=by rfl)
  (hline:(apos.endLine==afq.line)=true:=by rfl) (hst:Al [e] X.env=(false,eval e X.env)::Al [] X.env:=by rfl) (hplain:(Ef afq (Al [] X.env)).any (·.1)=false:=by rfl) :
  DE X (.Call (.Attribute o "index" apos) [e] [] afq) (Xz qH mo ma):=(Qd PySem.F.plainAttrs_list PySem.F.slot_list_index PySem.F.type_list_index (ML.or aaZ abA) ho ha hbase hfew hline hst hplain).of λU H Q ⟨μ,h,Uw,Qw,R,S,m,k⟩=>by
 refine⟨μ,h,Uw,_,R,S,m,λv H1 ⟨μ1,w,h1,e1,R1,r1,il⟩=>⟨(vq R1 r1 il).1,?_⟩⟩;have m1:=(vq R1 r1 il).2;exact⟨μ1,h1,Uw,_,R1,S.ext e1,m1,λvs H2 ⟨μ2,ws,h2,e2,R2,r2,m2⟩=>zaW R2 (e2.r _ _ r1) r2 m2 λv H' z=>k _ _<|(z.trans e2).trans e1⟩
theorem aaV:gJ X (.builtin "isinstance") (λxs H Q=>∃x b,xs=[x,.ty "str"]/\(Mx X.K H x b\/(∃p ys,x=.ref p/\Ez X.K H p ys/\b=false))/\Q (.bl b) H):=by
 intro afn s U H xs us Q I r h;obtain⟨x,b,rfl,hi,q⟩:=h;rcases hi with hi|⟨p,ys,rfl,hS,rfl⟩
 exact abl afn s U H _ us Q I r ⟨x,b,rfl,hi,q⟩;obtain⟨u,w',rfl,rx,ru⟩:=vals2 r;cases ru;cases rx;have k1:EP X afn U Q (.bool false) {s with toks:=s.toks+1}:=⟨.bl false,H,I.tok _,rfl,q⟩
 obtain⟨its,_,pl,_⟩:=I.list hS;obtain⟨o,e,c,_⟩:=pl.isList;exact IsiPair.list_str e c k1
def Wa (h:Gh)(w:W):Option Bool:=match W8 w with
 | some b=>Dn b
 | none=>(match cU h w with
  | some _=>Dn false
  | none=>Go)
def Ei:MC:=λws h Q=>match ws with
 | [w,.ty T]=>T = "str"/\(match Wa h w with
  | some b=>Q (.bl b) h
  | none=>False)
 | _=>False
theorem Kq:nY X (.builtin "isinstance") Ei:=⟨_,aaV,by
 intro H μ h vs ws Qw Q R r m k;unfold Ei at m;split at m
 rename_i w T;obtain⟨eT,m⟩:=m;subst eT;split at m
 rename_i b eb;obtain⟨v,x,e,rv,rx⟩:=Fe r;rw[Zh]at rx;subst e rx;refine⟨v,b,rfl,?_,k _ _<|.bl R m⟩;unfold Wa at eb;split at eb
 rename_i b' eb';cases eb;exact .inl<|acI rv eb'
 split at eb
 rename_i us ev;cases eb;obtain⟨p,ys,ex,hs,rs⟩:=dH R rv ev;exact .inr ⟨p,ys,ex,hs,rfl⟩;cases eb;exact m.elim;exact m.elim⟩
end
section
variable {X:Cx}{K:Zf}{H:Hp}{h:Gh}
end
section
variable {X:Cx}{a b c:Expr}{mb mc:ME}{pos:Pos}
end
section
variable {K:Zf}{H:Hp}{fs:List (Str×W)}{fvs:List (Str×V)}{f:Str}{w:W}{v:V}
end
section
variable {X:Cx}{e o value:Expr}{es:List Expr}{mv:ME}{f:Str}{C:Addr}{pos pos' apos:Pos}
end
section
variable {prog:BK}{w:Av}{A:BP}{E:JI->Mk->Prop}{s:Mk}
end
section
variable {X:Cx}
end
section
variable {X:Cx}{e:Expr}{me:ME}{x:Str}{a:Addr}{p pos:Pos}
end
section
variable {X:Cx}{C:Addr}{o e:Expr}{es:List Expr}{pos apos:Pos}
end
section
variable {X:Cx}{afn:List (Addr×Obj)}{U:St}{H:Hp}{s:Mk}{K:Zf}
end
section
variable {X:Cx}{a b o i:Expr}{mb:ME}{td ty:TE}{pos:Pos}
end
section
variable {prog:BK}{w:Av}{A:BP}{E:JI->Mk->Prop}{s:Mk}
end
section
variable {X:Cx}
end
def ps (h:Int):Nat->Nat×Nat
 | 0=>(R6 h % 32,R6 h)
 | n+1=>SetTable.leap 31 (ps h n).1 (ps h n).2
def liv (o:Array (Option Nat)):List (Nat×Nat):=(LC 32).filterMap λj=>(o.getD j Go).map (j,·)
structure Lay (o:Array (Option Nat)) (k:Nat):Prop where
 sz:o.size=32
 len:(liv o).length=k
 low:∀p,p∈liv o->p.2<k
section
variable {prog:BK}{w:Av}{A:BP}{E:JI->Mk->Prop}{s:Mk}{a:Addr}
end
section
variable {prog:BK}{w:Av}{A:BP}{E:JI->Mk->Prop}{s:Mk}{t:Uq}{a b:Addr}{k:List Int}
end
section
variable {prog:BK}{w:Av}{A:BP}{E:JI->Mk->Prop}{R:Result->Mk->Prop}
end
section
variable {prog:BK}{w:Av}{A:BP}{E:JI->Mk->Prop}{s:Mk}
end
section
variable {X:Cx}{K:Zf}
end
section
variable {X:Cx}{K:Zf}{o e:Expr}{apos afq:Pos}
end
section
variable {prog:BK}{w:Av}{A:BP}{s:Mk}{K:Zf}{x C:Addr}{R:Result->Mk->Prop}
end
section
variable {prog:BK}{w:Av}{A:BP}{E:JI->Mk->Prop}{s:Mk}{K:Zf}{x dx C f:Addr}{mA:Str->Option JI}{name:Str}{v:JI}
end
section
variable {prog:BK}{w:Av}{A:BP}{E:JI->Mk->Prop}{s:Mk}{K:Zf}{x:Addr}{ox:Obj}
end
section
variable {prog:BK}{w:Av}{A:BP}{E:JI->Mk->Prop}{h:Heap}{g:Array GenState}{d:Drawn}{t:Nat}{os:OsState}
variable {nm q:Str}{C N:Addr}{bs bmB:List JI}{hdct:Bool}{sn:List Str}{sub:List JI}{ab:Bool}{col:Option Bool}{dd:Option Addr}{k0 k1 k2 k3 k5:Option JI}{B initId:String}{K:Zf}{f:Addr}
end
variable {hdct:Bool}{sn:List Str}{sub:List JI}{dd:Option Addr}{col:Option Bool}{initId:String}
section
variable {prog:BK}{w:Av}{M:Model}{A:BP}{E:JI->Mk->Prop}{s:Mk}{K:Zf}{f:Addr}
variable {nm q:Str}{C N:Addr}{bs bmB:List JI}{ab:Bool}{k0 k1 k2 k3 k5:Option JI}{B:String}
end
section
variable {X:Cx}{o value:Expr}{f:Str}{C:Addr}{pos pos':Pos}{ta tv:TE}
end
section
variable {X:Cx}{afn:List (Addr×Obj)}{U:St}{H:Hp}{s:Mk}{e:Addr}
end
section
variable {X:Cx}{afn:List (Addr×Obj)}{U:St}{H:Hp}{s:Mk}{C fi:Addr}{x f:Str}{afq pos:Pos}{e:Expr}{t:TA}{k:Nat}{fd:DW}{ps:List Str}
end
section
variable {X:Cx}{e:Expr}{pos:Pos}
end
section
variable {X:Cx}{e:Expr}{f:Str}{pos:Pos}
end
section
variable {X:Cx}
end
section
variable {X:Cx}{tg:Expr}
theorem adb {iter:Expr}{body:List Stmt}{g:MG}{mb0:Ba->MS}{pos:Pos}(hp:Uu (Ai X.prog X.w) X.A X.env X.xe)(hc:X.calm=true)(hΓ:∀U,Γ U)(hi:O4 X tg iter mi)(hg:DG X tg g)(hb:Ig X Γ body mb0)
  (hs:∀x,Qv iter X.env x=pure x:=by intro _;rfl):Pk X Γ (.For tg iter body [] pos) (λE=>Dd mi g (mb0 E)):=(KJ hp hc hi hg hb hs).of λD U H ⟨_,μ,h,Uw,Dw,E,R,S,m,k,kx⟩=>by
 refine⟨μ,h,Uw,_,R,S,m,λJ H1 ⟨μ1,src,h1,e1,R1,ok,m1⟩=>⟨λi n U' H'=>n=src.ws.length-i/\i<=src.ws.length/\DN _ H1 μ1 (jc src g _ Dw<|src.ws.drop i) U' H',⟨src.ws.length,by simp,Pn _,μ1,Uw,h1,.refl,R1,S.ext e1,m1⟩,?_⟩⟩;rintro i n U2 H2 ⟨hn,hle,μ2,Uw2,h2,e2,R2,S2,m2⟩;by_cases hlt:i<src.ws.length
 rw[RN hlt]at m2;obtain⟨ck,m2⟩:=Src.go_ok m2;obtain⟨hgo,hy⟩:=(ok e2 R2 ck).1 src.ws[i] (GF hlt);refine .inr ⟨hgo,λU' H'=>DN _ H2 μ2 _ U' H',λU' H' z=>⟨src.ws.length-(i+1),by lia,rfl,hlt,z.trans e2⟩,λx H3 y=>?_⟩;obtain⟨μ3,e3,R3,rx⟩:=hy x H3 y;refine⟨μ3,h2,Uw2,src.ws[i],_,R3,S2.ext e3,rx,m2,λU4 H4 ⟨μ4,Uw4,h4,e4,R4,S4,m4⟩=>?_⟩;have e24:=e3.trans e4;have e14:=(e1.trans e2).trans e24;exact⟨hΓ _,μ4,h4,Uw4,_,E,R4,S4,m4,⟨λU' H' z=>z.trans e24,λv H' z=>k.rt _ _<|z.trans e14,λU' H' z=>k.nx _ _<|z.trans e14,λU' H' z=>z.trans e24⟩,λev s' z=>kx ev s'<|z.trans e14⟩;have ei:i=src.ws.length:=by lia
 subst ei;rw[List.drop_length]at m2;obtain⟨ck,m2⟩:=Src.go_ok m2;exact .inl ⟨(ok e2 R2 ck).2 (Bm _),k.nx _ _ ⟨μ2,Uw2,h2,e1.trans e2,R2,S2,m2⟩⟩
end
section
variable {X:Cx}{K:Zf}
end
section
variable {X:Cx}{pos p:Pos}{e:Expr}{es:List Expr}{k:Nat}{fs:List (Addr×AP)}
inductive VFs (X:Cx) (k:Nat):List (Addr×AP)->Prop
 | nil:VFs X k []
 | cons {f:Addr}{fd:DW}{ps:List Str}{ms:AP}{fs:List (Addr×AP)}(F:eY X.prog X.w X.K X.mg X.base Fl k f fd ps (lift X.K ms)) (hk:Nv X.K (.ref f)=true) (hb:Binds X.K fd ps []) (r:VFs X k fs):VFs X k ((f,ms)::fs)
end
def Cmp (P:BK)(w:Av)(A:BP)(s:Mk)(kd:Qm)(rk:JI->Nat)(good:JI->Prop):Prop:=
 ∀(E:JI->Mk->Prop) (Q:Bool->Mk->Prop) (x y:JI),good x->good y->Q (decide (rk x<rk y)) s->Ae (Ai P w) A (keyLt' kd x y) Q E s
section
variable {P:BK}{w:Av}{A:BP}{E:JI->Mk->Prop}{s:Mk}{kd:Qm}{rk:JI->Nat}{good:JI->Prop}
def Rk (rk:JI->Nat)(a:Array Hi)(i:Nat):Nat:=match a[i]? with
 | some p=>rk p.1
 | none=>0
def El (rk:JI->Nat)(a:Array Hi)(i j:Nat):Prop:=∀p q,i<=p->p<q->q<j->Rk rk a p<Rk rk a q
structure Keys (rk:JI->Nat) (good:JI->Prop) (a:Array Hi):Prop where
 good:∀p∈a.toList,good p.1
 nd:(a.toList.map λp=>rk p.1).Nodup
structure SOk (kd:Qm) (rk:JI->Nat) (good:JI->Prop) (st:M7):Prop where
 kind:Lw st=kd
 failed:failedOf st=Go
 keys:Keys rk good (arrOf st)
theorem w_lt (C:Cmp P w A s kd rk good){x y:Hi}{st:M7}{Q:Option Bool->M7->Prop}(hk:Lw st=kd)(hx:good x.1)(hy:good y.1)(q:Q (Dn (decide (rk x.1<rk y.1))) st):wpS (Ai P w) A E s (lt' x y) Q st:=by
 rw[lt'_eq];exact wpS_bind<|wpS_get<|hk ▸ wpS_bind (wpS_lift<|Ru<|C _ _ _ _ hx hy ⟨rfl,wpS_pure q⟩)
structure Within (a b:Array Hi) (lo hi:Nat):Prop where
 perm:b.Perm a
 out:∀k,k<lo\/hi<=k->b[k]?=a[k]?
end
variable {good:JI->Prop}{kd:Qm}
section
variable {P:BK}{w:Av}{A:BP}{E:JI->Mk->Prop}{s:Mk}{rk:JI->Nat}
end
section
variable {P:BK}{w:Av}{A:BP}{E:JI->Mk->Prop}{s:Mk}{d it:Addr}{es:Array DictEntry}{ep i:Nat}
end
section
variable {P:BK}{w:Av}{A:BP}{E:JI->Mk->Prop}{s:Mk}{rk:JI->Nat}
structure aav (B:Nat->Bool) (n:Nat) (st:M7) (x:Nat) (c:Option (Option Nat)×Nat×Nat) (st':M7):Prop where
 s:st'=st
 e:c.1=Go
 a:c.2.1<=c.2.2
 b:c.2.2<=n
 d:c.2.2-c.2.1<=n-x
 lo:∀i,i<c.2.1->B i=true
 hi:∀i,c.2.2<=i->i<n->B i=false
structure aau (B:Nat->Bool) (v:Bool) (mx:Nat) (st:M7) (x:Nat) (c:Option (Option Nat)×Nat×Nat) (st':M7):Prop where
 s:st'=st
 e:c.1=Go
 a:c.2.1<c.2.2
 b:x<c.2.2
 d:c.2.1<mx
 h:B c.2.1=v
end
section
variable {rk:JI->Nat}
def SL (rk:JI->Nat)(l:List Hi):Prop:=l.Pairwise λx y=>rk x.1<rk y.1
def Be (rk:JI->Nat)(xs ys:List Hi):Prop:=∀x∈xs,∀y∈ys,rk x.1<rk y.1
def zbm (rk:JI->Nat)(A B out al bl:List Hi):Prop:=∃a1 b1,A=a1++al/\B=b1++bl/\out.Perm (a1++b1)/\SL rk out/\Be rk out al/\Be rk out bl
def Mrg (rk:JI->Nat)(A B r:List Hi):Prop:=r.Perm (A++B)/\SL rk r
end
section
variable {P:BK}{w:Av}{A:BP}{E:JI->Mk->Prop}{s:Mk}{rk:JI->Nat}
def Qh (st st':M7):Prop:=arrOf st'=arrOf st/\Lw st'=Lw st/\failedOf st'=failedOf st/\pendingOf st'=pendingOf st
structure Two (rk:JI->Nat) (good:JI->Prop) (a b:Array Hi):Prop where
 sa:SL rk a.toList
 sb:SL rk b.toList
 ga:∀p∈a.toList,good p.1
 gb:∀p∈b.toList,good p.1
 ne:∀x∈a.toList,∀y∈b.toList,rk x.1≠rk y.1
structure zbd (rk:JI->Nat) (a b out:Array Hi) (ia ib:Nat):Prop where
 ml:zbm rk a.toList b.toList out.toList (a.toList.drop ia) (b.toList.drop ib)
 ia:ia+1<a.size
 ib:ib<b.size
structure zab (rk:JI->Nat) (a b:Array Hi) (st:M7) (n:Nat) {β:Type}(c:Option (Array Hi)×Array Hi×Nat×Nat×β) (st':M7):Prop where
 sm:Qh st st'
 e:c.1=Go
 li:zbd rk a b c.2.1 c.2.2.1 c.2.2.2.1
 le:n<=c.2.2.1+c.2.2.2.1
structure zaa (rk:JI->Nat) (a b:Array Hi) (st:M7) {β:Type}(c:Option (Array Hi)×β) (st':M7):Prop where
 sm:Qh st st'
 r:∃l,c.1=Dn l/\Mrg rk a.toList b.toList l.toList
end
section
variable {rk:JI->Nat}
def acr (rk:JI->Nat)(A B o ah bh:List Hi):Prop:=∃a2 b2,A=ah++a2/\B=bh++b2/\o.Perm (a2++b2)/\SL rk o/\Be rk ah o/\Be rk bh o
end
section
variable {P:BK}{w:Av}{A:BP}{E:JI->Mk->Prop}{s:Mk}{rk:JI->Nat}
structure abu (rk:JI->Nat) (a b out:Array Hi) (na nb:Nat):Prop where
 mh:acr rk a.toList b.toList out.toList.reverse (a.toList.take na) (b.toList.take nb)
 pa:0<na
 pb:1<nb
 la:na<=a.size
 lb:nb<=b.size
structure GoH (rk:JI->Nat) (a b:Array Hi) (st:M7) (n:Nat) {β:Type}(c:Option (Array Hi)×Nat×Nat×Array Hi×β) (st':M7):Prop where
 sm:Qh st st'
 e:c.1=Go
 li:abu rk a b c.2.2.2.1 c.2.1 c.2.2.1
 le:c.2.1+c.2.2.1+n<=a.size+b.size
structure Runs (rk:JI->Nat) (a:Array Hi) (sa k sb n' e:Nat):Prop where
 h1:sa+k<=sb
 h2:sb+n'<=e
 h3:e<=a.size
 r1:El rk a sa sb
 r2:El rk a sb e
 lo:∀p,sa<=p->p<sa+k->Rk rk a p<Rk rk a sb
 hi:∀p,sb+n'<=p->p<e->Rk rk a (sb-1)<Rk rk a p
def Cont (rk:JI->Nat)(a:Array Hi):List (Nat×Nat×Nat)->Nat->Nat->Prop
 | [],i,j=>i=j
 | (s,n,_)::r,i,j=>s=i/\0<n/\El rk a i (i+n)/\Cont rk a r (i+n) j
theorem xX {α:Type}{l:List α}{i:Nat}(h:i+1<l.length):l=l.take i++l[i]::l[i+1]::l.drop (i+2):=by
 rw[<-RN h,<-RN (by lia),List.take_append_drop]
structure aaA (kd:Qm) (rk:JI->Nat) (good:JI->Prop) (a0:Array Hi) (lo:Nat) (st:M7):Prop where
 ok:SOk kd rk good st
 perm:(arrOf st).Perm a0
 cont:Cont rk (arrOf st) (pendingOf st).toList 0 lo
end
section
variable {P:BK}{w:Av}{A:BP}{E:JI->Mk->Prop}{s:Mk}
def rankOf (ks:List (List Int))(k:List Int):Nat:=ks.countP λl=>decide (l<k)
structure KyT (T:Heap->JI->List Int->Prop):Prop where
 fn:∀{h:Heap}{v:JI}{k l:List Int},T h v k->T h v l->k=l
 of:∀{h h':Heap}{v:JI}{k:List Int},T h v k->(∀b o,o.cls=.type "tuple"->h.get? b=Dn o->h'.get? b=Dn o)->T h' v k
abbrev PdT (T:Heap->JI->List Int->Prop)(h:Heap):List (List Int)->List JI->Prop:=Pr λk v=>T h v k
section
variable {T:Heap->JI->List Int->Prop}(F:KyT T)
include F
open Classical in
noncomputable def keyV (_:KyT T)(h:Heap)(v:JI):List Int:=if e:∃k,T h v k then e.choose else[]
noncomputable def rkV (F:KyT T)(h:Heap)(ks:List (List Int))(v:JI):Nat:=rankOf ks (keyV F h v)
end
structure SkT (P:BK) (w:Av) (A:BP) {T:Heap->JI->List Int->Prop}(F:KyT T) (kd:Qm) (ks:List (List Int)) (vs:List JI):Prop where
 kind:∀{E:JI->Mk->Prop}{s:Mk}{Q:Qm->Mk->Prop},2<=vs.length->PdT T s.heap ks vs->Q kd s->Ae (Ai P w) A (keyKind' vs.toArray) Q E s
 cmp:∀{s:Mk},PdT T s.heap ks vs->Cmp P w A s kd (rkV F s.heap ks) (·∈vs)
end
section
variable {X:Cx}{K:Zf}
end
section
variable {X:Cx}{o:Expr}{ma:MA}{apos afq:Pos}
end
section
variable {X:Cx}{K:Zf}
variable {o e:Expr}{ma:MA}{apos afq:Pos}
end
section
variable {prog:BK}{w:Av}{A:BP}{R:Result->Mk->Prop}{E:JI->Mk->Prop}{I:Addr}{ns:List Int}{its:List JI}
def Gr (ns:List Int)(j:Nat)(b:Int):Prop:=b∈ns/\∀k,k<j->ns.getD k 0<=b
end
section
variable {X:Cx}
end
section
open AutoSeq1 (wpAny_loadPart')
end
section
variable {prog:BK}{w:Av}{A:BP}{E:JI->Mk->Prop}{s:Mk}
end
section
variable {X:Cx}{K:Zf}
end
section
variable {prog:BK}{w:Av}{A:BP}{R:Result->Mk->Prop}{I:Addr}{its:List JI}
end
section
variable {X:Cx}{K:Zf}
def Ks (h:Gh)(x y:W):Option Src:=match oF x,y with
 | some as,.loc n=>(match h.c n with
  | some (.lst bs)=>Dn ⟨mK as bs,Dn (n,bs)⟩
  | _=>Go)
 | _,_=>Go
theorem adl {h:Gh}{x y:W}{s:Src}(e:Ks h x y=Dn s):∃as bs n,s=⟨mK as bs,Dn (n,bs)⟩/\oF x=Dn as/\y=.loc n/\h.c n=Dn (.lst bs):=by
 unfold Ks at e;split at e
 rename_i as n ea;split at e
 rename_i bs ec;exact⟨as,bs,n,(Ge e).symm,ea,rfl,ec⟩;cases e;cases e
def Lp (ma:MA):MI:=λU h R=>ma U h λws h1=>match ws with
 | [x,y]=>(match Ks h1 x y with
  | some s=>R s h1
  | none=>False)
 | _=>False
theorem zbv {p pos tpos:Pos}(hg:Gl X "zip")(hm:X.mg "zip" = Go)(ha:Gn X [e1,e2] mr)
  (hs:Al [e1,e2] X.env=(false,eval e1 X.env)::Al [e2] X.env:=by rfl) (hpl:(Ef pos (Al [e2] X.env)).any (·.1)=false:=by rfl) :
  O4 X (.Tuple elts kt tpos) (.Call (.Name "zip" p) [e1,e2] [] pos) (Lp mr):=PI.of (Kv hg hm ha hs hpl) λU H Q ⟨μ,h,Uw,Rw,R,S,m,k⟩=>by
 refine⟨μ,h,Uw,_,R,S,m,λvs H1 ⟨μ1,ws,h1,e1,R1,r1,m1⟩=>?_⟩;split at m1
 split at m1
 rename_i x y _ s es;obtain⟨as,bs,n,rfl,ea,ey,ec⟩:=adl es;obtain⟨v,u,ev,rv,ru⟩:=Fe r1;obtain⟨ka,a,e3,fa⟩:=uq rv ea;obtain⟨kb,b,e4,fb⟩:=Dj (ws:=bs) (o:=Dn (n,bs)) R1 ru (.inr ⟨n,ey,ec,rfl⟩);obtain⟨xs,hxs,_⟩:=fa .refl;obtain⟨ys,hys,_⟩:=fb .refl R1 (show h1.c n=Dn (.lst bs)from ec);refine⟨v,u,ka,kb,a,b,ev,⟨e3,xs,hxs⟩,⟨e4,ys,hys⟩,k _ _ ⟨μ1,⟨mK as bs,Dn (n,bs)⟩,h1,e1,R1,?_,m1⟩⟩;intro H2 μ2 h2 i e2 R2 ck;obtain⟨xs2,hxs2,rxs⟩:=fa e2;obtain⟨ys2,hys2,rys⟩:=fb e2 R2 ck;refine⟨λw ew=>?_,λhl=>⟨xs2,ys2,hxs2,hys2,?_⟩⟩;obtain⟨p1,p2,ep1,ep2,rfl⟩:=mD ew;obtain⟨q1,eq1,rq1⟩:=rxs.get ep1;obtain⟨q2,eq2,rq2⟩:=rys.get ep2;refine⟨⟨xs2,ys2,q1,q2,hxs2,hys2,eq1,eq2⟩,λx' H3 ⟨pa,x1,x2,hp,ex',eH3,f1,f2⟩=>?_⟩;have g1:=f1 xs2 hxs2;have g2:=f2 ys2 hys2;rw[eq1]at g1;rw[eq2]at g2;cases g1;cases g2;subst ex' eH3;exact⟨μ2,(Ex.laid hp).ext,R2.laid hp,.tupNew hp<|.cons rq1<|.one rq2⟩;have l1:=rxs.len;have l2:=rys.len;have:min as.length bs.length<=i:=by rw[<-mF];exact hl
 lia;exact m1.elim;exact m1.elim
end
section
variable {X:Cx}
end
section
variable {prog:BK}{w:Av}{A:BP}{E:JI->Mk->Prop}{s:Mk}
end
section
variable {X:Cx}{K:Zf}
end
section
variable {prog:BK}{w:Av}{A:BP}{E:JI->Mk->Prop}{s:Mk}{r l:Addr}{afo:Array JI}
end
section
variable {X:Cx}
end
section
variable {P:BK}{w:Av}{A:BP}{E:JI->Mk->Prop}{s:Mk}
end
section
variable {X:Cx}{K:Zf}
def ZK {β:Type}(kvs:List (Key×β))(ks:List Int):Prop:=kvs.map (·.1)=ks.map Sum.inl
def zad:MC:=λws h Q=>match ws with
 | [.loc n]=>(match h.c n with
  | some (.dct kvs)=>∃ks:List Int,ZK kvs ks/\∀js:List Int,js.Perm ks->js.Pairwise (· < ·)->Q (.lst (js.map .int)) h
  | _=>False)
 | _=>False
end
section
variable {X:Cx}{o:Expr}{ma:MA}{apos afq:Pos}
def M4:MM:=λx ws h Q=>match x,ws with
 | .loc n,[y,z]=>(match h.c n,Sh y with
  | some (.dct kvs),Dn k=>Q ((p7 kvs k).getD z) h
  | _,_=>False)
 | _,_=>False
def Rn (h:Gh)(x:W)(P:Prop):Prop:=match x with
 | .loc n=>(match h.c n with
  | some (.dct _)=>P
  | _=>False)
 | _=>False
def YL (r:MM)(mo:ME)(ma:MA):ME:=λU h Q=>mo U h λx h1=>Rn h1 x (ma U h1 λxs h2=>r x xs h2 Q)
theorem yP {K:Zf}{H:Hp}{μ:Mu}{k:Key}:∀{kvs:List (Key×W)}{kvv:List (Key×V)},qO K H μ kvs kvv->(∀w,p7 kvs k=Dn w->∃v,Gw kvv k=Dn v/\Zh K H μ w v)/\(p7 kvs k=Go->Gw kvv k=Go)
 | [],_,.nil=>⟨λw e=>by simp[p7]at e,λ_=>rfl⟩
 | x::kvs,y::_,.cons r t=>by
  obtain⟨i1,i2⟩:=yP (k:=k) t;unfold p7 Gw at *;rw[List.find?_cons,List.find?_cons];by_cases c:x.1=k
  have c2:y.1=k:=r.1.symm.trans c;rw[decide_eq_true c];simp only[c2,decide_true];exact⟨λw e=>by cases e;exact⟨_,rfl,r.2⟩,λe=>by cases e⟩;have c2:¬y.1=k:=λe=>c (r.1.trans e)
  rw[decide_eq_false c];simp only[c2,decide_false];exact⟨i1,i2⟩
theorem J6 (hu:X.A.units+30<HD)(ho:DE X o mo)(ha:Gn X [e1,e2] ma)
  (hbase:Nt o "get" X.env (eval o X.env)=eval o X.env:=by rfl)
  (hfew:((Ef afq (Al [e1,e2] X.env)).all (λx=>!x.1)&&(Nh afq (Ni [] X.env)).all (λx=>x.1.isSome)
   && decide (([e1,e2]:List Expr).length+([]:List Hu).length+(if([]:List Hu).isEmpty then 0 else 1)<30))=true:=by rfl)
  (hline:(apos.endLine==afq.line)=true:=by rfl) (hst:Al [e1,e2] X.env=(false,eval e1 X.env)::Al [e2] X.env:=by rfl) (hplain:(Ef afq (Al [e2] X.env)).any (·.1)=false:=by rfl) :
  DE X (.Call (.Attribute o "get" apos) [e1,e2] [] afq) (YL M4 mo ma):=by
 intro afn s U H Q I ⟨μ,h,Uw,Qw,R,S,m,k⟩;refine Tn hbase hfew hline rfl<|Bj (ho afn s U H _ I ⟨μ,h,Uw,_,R,S,m,λ_ _ z=>z⟩) λu s1 ⟨x,H1,I1,rx,μ1,wx,h1,e1',R1,r1,il⟩=>?_
 unfold Rn at il;split at il
 rename_i n;split at il
 rename_i kv0 ec0;have r0:=r1;rw[Zh]at r1;obtain⟨a,rfl,ha'⟩:=r1;obtain rfl:u=Value.ref a:=rx;obtain⟨p,kvv,hp,hx,_⟩:=R1.dctAt ec0;have ep:p=a:=by rw[ha']at hp;exact(Ge hp).symm
 subst ep;obtain⟨z,y,vs0,YZ,dd0⟩:=Mj I1.hok hx;obtain⟨ob,es,epo,g1,g2,_⟩:=id dd0;refine⟨"dict", "dict.get",PySem.F.plainAttrs_dict,PySem.F.slot_dict_get,PySem.F.type_dict_get,⟨ob,g1,g2.1⟩,λb e=>by cases e;exact⟨ob,g1,g2.2.1⟩,?_⟩;have hA:=ha afq afn s1 U H1 _ I1 ⟨μ1,h1,Uw,_,R1,S.ext e1',il,λ_ _ z=>z⟩;rw[hst]at hA|-
 refine Tg (by show(false||(Ef afq<|Al [e2] X.env).any (·.1))=false;rw[hplain]<;>rfl)<|S7 ?_
 refine Bj hA λus s2 ⟨ys,H2,I2,r2,μ2,ws,h2,e2',R2,rs,m2⟩=>?_;unfold M4 at m2;split at m2
 rename_i n' y' z' e3;cases e3;split at m2
 rename_i kvs kk ec ek;obtain⟨v1,v2,rfl,ry,rz⟩:=Fe rs;have ev1:=yO ry ek;subst ev1;obtain⟨u1,u2,rfl,ru1,ru2⟩:=vals2 r2;obtain⟨p2,kvv2,hp2,hx2,rf2⟩:=R2.dctAt ec;have r0':=e2'.r _ _ r0;rw[Zh]at r0';obtain⟨a2,ea,ha2⟩:=r0';cases ea;have ep2:p2=p:=by rw[ha2]at hp2;exact(Ge hp2).symm
 subst ep2;obtain⟨z2,hd2,vs2,rel2,dd⟩:=Mj I2.hok hx2;obtain⟨t1,t2⟩:=yP (k:=kk) rf2;refine call_meetsIn PySem.F.slot_dict_get dd.typeIs PySem.F.entry_dict_get (PySem.F.args_dict_get_3 _ _ _) (meets_dict_get_default (dz X.prog X.w) p2 (Hv ru1) hd2 u2) ⟨_,dd.mapOf,?_⟩;have hv:=(rel2.val kk).getD ru2;cases ev:p7 kvs kk with
 | some wv=>
  rw[ev]at m2;obtain⟨v,a1,a3⟩:=t1 wv ev;rw[a1]at hv;exact⟨v,H2,I2.tok _,hv,k _ _ ⟨μ2,wv,h2,e1'.trans e2',R2,a3,m2⟩⟩
 | none=>
  rw[ev]at m2;rw[t2 ev]at hv;exact⟨v2,H2,I2.tok _,hv,k _ _ ⟨μ2,z',h2,e1'.trans e2',R2,rz,m2⟩⟩
 exact m2.elim;exact m2.elim;exact il.elim;exact il.elim
end
section
variable {prog:BK}{w:Av}{A:BP}{R:Result->Mk->Prop}{E:JI->Mk->Prop}{I:Addr}{ns:List Int}{its:List JI}
end
section
variable {X:Cx}
end
section
variable {X:Cx}{a b o i:Expr}{mb:ME}{td ty:TE}{pos:Pos}
end
section
variable {P:BK}{w:Av}{A:BP}{E:JI->Mk->Prop}{s:Mk}
end
section
variable {X:Cx}
end
def aaM (P:BK)(w:Av)(K:Zf)(mg:Str->Option JI)(base:Heap)(k:Nat)(x:Str)(ms:AP):Prop:=∃f fd ps,eY P w K mg base Fl k f fd ps (lift K ms)/\mg x=Dn (.ref f)/\Nv K (.ref f)=true/\Binds K fd ps []
def At (K:Zf)(mg:Str->Option JI)(x:Str)(st:Stmt)(ps:List Str):Prop:=∃f fd,G8 K x x st f fd/\mg x=Dn (.ref f)/\Binds K fd ps []
section
variable {X:Cx}{e e3 e4:Expr}{es:List Expr}{mb mc md:ME}{pos:Pos}{k:Nat}{zl:List Str}{x:Str}{p:Pos}
theorem aC (h1:DE X e ma)(h2:Gn X es mr)(s:Cd e=false:=by with_unfolding_all rfl):Gn X (e::es) (aA ma mr):=ak h1 h2 (aj s)
theorem a1 (h1:DE X e ma)(s:Cd e=false:=by with_unfolding_all rfl):Gn X [e] (aA ma aN):=aC h1 aq s
theorem a2 (h1:DE X e ma)(h2:DE X e2 mb)(s1:Cd e=false:=by with_unfolding_all rfl)(s2:Cd e2=false:=by with_unfolding_all rfl):Gn X [e,e2] (aA ma (aA mb aN)):=aC h1 (a1 h2 s2) s1
theorem a3 (h1:DE X e ma)(h2:DE X e2 mb)(h3:DE X e3 mc)(s1:Cd e=false:=by with_unfolding_all rfl)(s2:Cd e2=false:=by with_unfolding_all rfl)(s3:Cd e3=false:=by with_unfolding_all rfl):Gn X [e,e2,e3] (aA ma (aA mb (aA mc aN))):=aC h1 (a2 h2 h3 s2 s3) s1
theorem dct {T:String}{mc:MC}(hc:nY X (.type T) mc)(hv:P0 x=Dn (.type T))(ha:Gn X (e::es) mr)(z:∀n∈zl,X.mg n=Go:=by with_unfolding_all assumption)(hz:x∈zl:=by decide)(hg:Gl X x:=by with_unfolding_all rfl)(hn:x ≠ "__name__":=by decide)(hdb:(x==("__debug__" : Str))=false:=by decide)
  (h1:Cd e=false:=by with_unfolding_all rfl) (h2:noStar es=true:=by with_unfolding_all rfl):DE X (.Call (.Name x p) (e::es) [] pos) (CZ mc mr):=jE hc hg (z _ hz) hv ha hn hdb (aj h1) (aB h2)
theorem qq (hr:lg k X.A:=by with_unfolding_all assumption):X.A.units+30<HD:=jM hr
theorem hh (hc:X.calm=true:=by with_unfolding_all assumption):X.calm=true:=hc
end
variable {zl:List Str}
section
variable {X:Cx}{e:Expr}
end
section
variable {X:Cx}{o:Expr}{ma:MA}{apos afq:Pos}
end
section
variable {X:Cx}
end
section
variable {prog:BK}{w:Av}{A:BP}{E:JI->Mk->Prop}{s:Mk}
end
section
variable {X:Cx}{K:Zf}
end
section
variable {X:Cx}{c:Expr}{t:MT}
end
theorem DQ.str {K:Zf}{H:Hp}{μ:Mu}{h:Gh}{x:Str}{Q:WK}(R:Ax K μ H h)(q:Q (.str x) h):DQ K H μ Q (.str x) H:=⟨μ,.str x,h,.refl,R,by rw[Zh],q⟩
section
variable {X:Cx}
theorem acG:G4 X (Hx .Add) (λx y H Q=>∃a b,x=.str a/\y=.str b/\a.length+b.length<=Bh/\Q (.str (a++b)) H):=by
 intro afn s U H x y v u Q I rx ry ⟨a,b,ex,ey,hz,q⟩;subst ex ey;obtain⟨t,rfl⟩:=rx;obtain⟨t',rfl⟩:=ry;exact add_str (λt' tk=>⟨.str<|a++b,H,I.tok _,⟨_,rfl⟩,q⟩) hz
def bR:M2:=λx y h Q=>match x,y with
 | .str a,.str b=>a.length+b.length<=Bh/\Q (.str (a++b)) h
 | x,y=>cM x y h Q
theorem bK:Hf X (Hx .Add) bR:=by
 obtain⟨r,hr,sr⟩:=cI (X:=X);refine⟨_,acG.or hr,?_⟩;intro H μ h x y wx wy Qw Q R rx ry m k;unfold bR at m;split at m
 rw[Zh]at rx ry;exact .inl ⟨_,_,rx,ry,m.1,k _ _<|.str R m.2⟩;exact .inr<|sr R rx ry m k
theorem aeo:G4 X (HB .In) (λx y H Q=>∃a b,x=.str a/\y=.str b/\Q (.bl (Ql b a)) H):=by
 intro afn s U H x y v u Q I rx ry ⟨a,b,ex,ey,q⟩;subst ex ey;obtain⟨t,rfl⟩:=rx;obtain⟨t',rfl⟩:=ry;exact SB.contains ⟨.bl _,H,I,rfl,q⟩
def VN:M2:=λx y h Q=>match x,y with
 | .str a,.str b=>Q (.bl (Ql b a)) h
 | _,_=>False
theorem W2:Hf X (HB .In) VN:=by
 refine⟨_,aeo,?_⟩;intro H μ h x y wx wy Qw Q R rx ry m k;unfold VN at m;split at m
 rw[Zh]at rx ry;exact⟨_,_,rx,ry,k _ _<|.bl R m⟩;exact m.elim
theorem zV:gJ X (.builtin "len") (λxs H Q=>∃x:Str,xs=[.str x]/\x.length<=Bh/\Q (.int (x.length:Int)) H):=by
 intro afn s U H xs us Q I r ⟨x,e,hz,q⟩;subst e;obtain⟨u,rfl,t,rfl⟩:=vals1 r;have hn:=rC;exact len_str (by lia) ⟨.int _,H,I.tok _,⟨_,rfl⟩,q⟩
def wC:MC:=λws h Q=>match ws with
 | [.str x]=>x.length<=Bh/\Q (.int (x.length:Int)) h
 | ws=>Bb ws h Q
theorem Gs:nY X (.builtin "len") wC:=by
 obtain⟨r,hr,sr⟩:=cX (X:=X);refine⟨_,zV.or hr,?_⟩;intro H μ h vs ws Qw Q R r' m k;unfold wC at m;split at m
 obtain⟨v,e,rv⟩:=lE r';rw[Zh]at rv;subst e rv;exact .inl ⟨_,rfl,m.1,k _ _<|.int R m.2⟩;exact .inr<|sr R r' m k
def isStr (w:W)(P:Prop):Prop:=match w with
 | .str _=>P
 | _=>False
def uy (r:MM)(mo:ME)(ma:MA):ME:=λU h Q=>mo U h λx h1=>isStr x (ma U h1 λxs h2=>r x xs h2 Q)
variable {o e:Expr}{es:List Expr}{ma:MA}{name:Str}{apos afq:Pos}{id:String}{r:V->List V->Hp->VK->Prop}{mr:MM}
theorem lW (slot:Slot "str" name id)(hty:typeOf (.builtin id)=pure (.type "method_descriptor"))(hm:ML X id r)(hs:Mv X.K r mr)(ho:DE X o mo)(ha:Gn X (e::es) ma)
  (hbase:Nt o name X.env (eval o X.env)=eval o X.env:=by rfl)
  (hfew:((Ef afq (Al (e::es) X.env)).all (λx=>!x.1)&&(Nh afq (Ni [] X.env)).all (λx=>x.1.isSome)
   && decide ((e::es).length+([]:List Hu).length+(if([]:List Hu).isEmpty then 0 else 1)<30))=true:=by rfl)
  (hline:(apos.endLine==afq.line)=true:=by rfl) (hst:Al (e::es) X.env=(false,eval e X.env)::Al es X.env:=by rfl) (hplain:(Ef afq (Al es X.env)).any (·.1)=false:=by rfl) :
  DE X (.Call (.Attribute o name apos) (e::es) [] afq) (uy mr mo ma):=by
 intro afn s U H Q I ⟨μ,h,Uw,Qw,R,S,m,k⟩;refine Tn hbase hfew hline rfl<|Bj (ho afn s U H _ I ⟨μ,h,Uw,_,R,S,m,λ_ _ z=>z⟩) λu s1 ⟨x,H1,I1,rx,μ1,wx,h1,e1',R1,r1,il⟩=>?_
 unfold isStr at il;split at il
 rename_i y;have r0:=r1;rw[Zh]at r1;subst r1;obtain⟨t,rfl⟩:=rx;refine⟨"str",id,PySem.F.plainAttrs_str,slot,hty,OD _ _ _,λb e=>(by cases e),?_⟩;have hA:=ha afq afn s1 U H1 _ I1 ⟨μ1,h1,Uw,_,R1,S.ext e1',il,λ_ _ z=>z⟩;rw[hst]at hA|-
 refine Tg (by show(false||(Ef afq<|Al es X.env).any (·.1))=false;rw[hplain]<;>rfl)<|S7 ?_
 refine Bj hA λus s2 ⟨ys,H2,I2,r2,μ2,ws,h2,e2',R2,rs,m2⟩=>?_;exact hm afn s2 U H2 (.str y) ys _ us Q I2 ⟨t,rfl⟩ r2<|hs R2 (e2'.r _ _ r0) rs m2 λv H' z=>k _ _<|(z.trans e2').trans e1'
 exact il.elim
end
section
variable {X:Cx}{e:Expr}{es:List Expr}{pos p:Pos}{k j:Nat}{x:Str}{f:Addr}{fs:List (Addr×AP)}
end
theorem dc0 {X:Cx}{pos p:Pos}{k j:Nat}{x:Str}(F:aaM X.prog X.w X.K X.mg X.base j x ms)(hr:lg k X.A:=by with_unfolding_all assumption)(hk:j<=k:=by decide)(hg:Gl X x:=by with_unfolding_all rfl)(hdb:(x==("__debug__" : Str))=false:=by decide):DE X (.Call (.Name x p) [] [] pos) (bN ms EF aN):=by
 obtain⟨f,fd,ps,a,b,c,d⟩:=F;exact acs (a.mono hk) hr hg b c d hdb
theorem vR:∀(xs:List Str) (t:Nat),kI (xs.map V.str) (strsFrom t xs)
 | [],_=>.nil
 | _::xs,t=>.cons ⟨_,rfl⟩ (vR xs (t+1))
section
variable {X:Cx}
theorem yR:ML X "str.split" (λx xs H Q=>∃a b,x=.str a/\xs=[.str b]/\(b.length==0)=false/\a.length<=Bh/\(Fz a b).length<=Bh/\∀p,H p=Go->Q (.ref p) (CN H p (.lst ((Fz a b).map .str)))):=by
 intro afn s U H x xs v us Q I rx r ⟨a,b,ex,ey,hb,ha,hz,q⟩;subst ex ey;obtain⟨t,rfl⟩:=rx;obtain⟨u,rfl,t',rfl⟩:=vals1 r;unfold Fz at hz q;by_cases c1:(decide (a.length<b.length)||decide (PK a<PK b))=true
 rw[if_pos c1]at hz q;refine call_meets F.slot_str_split (OD _ _ _) F.entry_str_split (F.args_str_split_2 _ _) (meets_str_split_cannot_occur a b t t' c1) ?_;exact⟨.ref s.heap.objs.size,_,I.laid (t':=s.toks) (o:=.lst [.str a]) (λb ob q=>Cm _ q) (Bm _) ⟨hz,_,0,.cons ⟨t,rfl⟩ .nil,HJ _ rfl⟩,rfl,q _<|I.hok.fresh<|Bm _⟩;have c1':(decide (a.length<b.length)||decide (PK a<PK b))=false:=Bool.eq_false_iff.mpr c1;rw[if_neg c1]at hz q;by_cases c2:(Builtin.Str.occurrences a b 0 a.length (a.length+1)).isEmpty=true
 rw[if_pos c2]at hz q;refine call_meets F.slot_str_split (OD _ _ _) F.entry_str_split (F.args_str_split_2 _ _) (meets_str_split_not_found a b t t' c1' hb c2) ?_;exact⟨.ref s.heap.objs.size,_,I.laid (t':=s.toks) (o:=.lst [.str a]) (λb ob q=>Cm _ q) (Bm _) ⟨hz,_,0,.cons ⟨t,rfl⟩ .nil,HJ _ rfl⟩,rfl,q _<|I.hok.fresh<|Bm _⟩;rw[if_neg c2]at hz q;refine call_meets F.slot_str_split (OD _ _ _) F.entry_str_split (F.args_str_split_2 _ _) (meets_str_split_sep a b t t' c1' hb (Bool.eq_false_iff.mpr c2) ha hz) ?_;exact⟨.ref s.heap.objs.size,_,I.laid (o:=.lst ((Builtin.Str.partsBetween a (Builtin.Str.occurrences a b 0 a.length<|a.length+1) b.length).map .str)) (λb ob q=>Cm _ q) (Bm _) ⟨by rw[Ag];exact hz,_,0,vR _ _,HJ _ rfl⟩,rfl,q _<|I.hok.fresh<|Bm _⟩
end
theorem uW {K:Zf}{H:Hp}{μ:Mu}:∀xs:List Str,bA K H μ (xs.map W.str) (xs.map V.str)
 | []=>by rw[List.map_nil,bA];rfl
 | x::xs=>by
  rw[Jf,bA];exact⟨_,_,rfl,by rw[Zh],uW xs⟩
def uN:MM:=λx ws h Q=>match x,ws with
 | .str a,[.str b]=>(b.length==0)=false/\a.length<=Bh/\(Fz a b).length<=Bh/\Q (.lst ((Fz a b).map .str)) h
 | _,_=>False
theorem s_split {K:Zf}:Mv K (λx xs H Q=>∃a b,x=.str a/\xs=[.str b]/\(b.length==0)=false/\a.length<=Bh/\(Fz a b).length<=Bh/\∀p,H p=Go->Q (.ref p) (CN H p (.lst ((Fz a b).map .str)))) uN:=by
 intro H μ h x vs wx ws Qw Q R rx rs m k;unfold uN at m;split at m
 obtain⟨v,e,rv⟩:=lE rs;rw[Zh]at rx rv;subst e rv rx;exact⟨_,_,rfl,rfl,m.1,m.2.1,m.2.2.1,λp hp=>k _ _ ⟨μ,_,h,(Ex.laid hp).ext,R.laid hp,.lstNew R hp<|uW _,m.2.2.2⟩⟩;exact m.elim
section
variable {X:Cx}
def Q0:MC:=λws h Q=>match ws with
 | [.int i]=>i.natAbs.log2<1920/\Q (.str (toString i)) h
 | _=>False
theorem Ph:nY X (.type "str") Q0:=⟨_,vY,by
 intro H μ h vs ws Qw Q R r m k;unfold Q0 at m;split at m
 obtain⟨v,e,rv⟩:=lE r;rw[Zh]at rv;subst e rv;exact⟨_,rfl,m.1,k _ _<|.str R m.2⟩;exact m.elim⟩
def aam:MC:=λws h Q=>match ws with
 | [.str x]=>x.length<=640/\(match intText? x with
  | some n=>Q (.int n) h
  | none=>False)
 | ws=>Zj ws h Q
theorem yj:∀{ys:List Str}{us:List JI},kI (ys.map V.str) us->StrsAre us ys
 | [],[],_=>.nil
 | y::ys,u::us,.cons e r=>by
  obtain⟨t,rfl⟩:=e;exact .cons y t<|yj r
theorem fj:ML X "str.join" (λx xs H Q=>∃(a:Str) (p:Addr) (ys:List Str),x=.str a/\xs=[.ref p]/\Ez X.K H p (ys.map V.str)/\(ys.map λx=>x.length).sum+ys.length*a.length<=16777216/\Q (.str (Bc a ys)) H):=by
 intro afn s U H x xs v us Q I rx r ⟨a,p,ys,ex,ey,hl,hz,q⟩;subst ex ey;obtain⟨t,rfl⟩:=rx;obtain⟨u,rfl,ru⟩:=vals1 r;cases ru;obtain⟨its,r',pl,_⟩:=I.list hl;exact join_list pl.isList (by rw[List.toList_toArray];exact yj r') hz λt' k=>⟨.str _,H,I.tok _,⟨_,rfl⟩,q⟩
def xH:List W->Option (List Str)
 | []=>Dn []
 | .str x::ws=>(xH ws).map (x::·)
 | _=>Go
theorem zu {K:Zf}{H:Hp}{μ:Mu}:∀{ws:List W}{xs:List V}{ys:List Str},bA K H μ ws xs->xH ws=Dn ys->xs=ys.map V.str
 | [],xs,ys,r,e=>by
  rw[bA]at r;cases e;exact r
 | w::ws,xs,ys,r,e=>by
  rw[bA]at r;obtain⟨v,vs,rfl,r1,r2⟩:=r;cases w with
  | str x=>
   rw[xH]at e;obtain⟨zs,ez,rfl⟩:=Ij.mp e;rw[Zh]at r1;rw[r1,zu r2 ez];rfl
  | _=>cases e
def gU:MM:=λx ws h Q=>match x,ws with
 | .str a,[w]=>(match cU h w with
  | some us=>(match xH us with
   | some ys=>(ys.map λx=>x.length).sum+ys.length*a.length<=16777216/\Q (.str (Bc a ys)) h
   | none=>False)
  | none=>False)
 | _,_=>False
theorem iD {K:Zf}:Mv K (λx xs H Q=>∃(a:Str) (p:Addr) (ys:List Str),x=.str a/\xs=[.ref p]/\Ez K H p (ys.map V.str)/\(ys.map λx=>x.length).sum+ys.length*a.length<=16777216/\Q (.str (Bc a ys)) H) gU:=by
 intro H μ h x vs wx ws Qw Q R rx rs m k;unfold gU at m;split at m
 obtain⟨v,e,rv⟩:=lE rs;subst e;split at m
 rename_i us ev;split at m
 rename_i ys ey;obtain⟨p,xs,ex,hs,rr⟩:=dH R rv ev;rw[Zh]at rx;rw[zu rr ey]at hs;exact⟨_,p,ys,rx,by rw[ex],hs,m.1,k _ _<|.str R m.2⟩;exact m.elim;exact m.elim;exact m.elim
theorem part_of {v:JI}{o:Option Int}(h:IsPart v o):∃l:Option (Int×Tok),partValue l=v/\l.map (λx=>x.1)=o:=by
 cases h with
 | none=>exact⟨Go,rfl,rfl⟩
 | int i t=>exact⟨Dn (i,t),rfl,rfl⟩
theorem Vn:N8 X (λx lo hi H Q=>∃a,x=.str a/\(Qz a lo hi).length<=Bh/\Q (.str (Qz a lo hi)) H):=by
 intro afn s U H x v vl vu lo hi sl Q I rx hs pl pu ⟨a,ex,hz,q⟩;subst ex;obtain⟨t,rfl⟩:=rx;obtain⟨l,rfl,rfl⟩:=part_of pl;obtain⟨u,rfl,rfl⟩:=part_of pu;refine⟨"str",_,PySem.F.slot_str_getitem.lookup,OD _ _ _,?_⟩;refine wpAny_getItem_str_slice (l:=l) (u:=u) (st:=Go) hs (by decide) ?_;unfold sliceMade;unfold Qz at q hz;split at q
 rename_i c;rw[if_pos (show((Option.getD ((Go:Option (Int×Tok)).map λx=>x.1) 1==1)&&(slicePicked a l u Go).length==a.length)=true from c)];exact⟨.str a,H,I,⟨_,rfl⟩,q⟩;rename_i c;rw[if_neg (show ¬((Option.getD ((Go:Option (Int×Tok)).map λx=>x.1) 1==1)&&(slicePicked a l u Go).length==a.length)=true from c)];rw[if_neg c]at hz;exact⟨hz,.str _,H,I.tok _,⟨_,rfl⟩,q⟩
def Bf (x:W)(lo hi:Option Int)(h:Gh)(Q:WK):Prop:=match x with
 | .str a=>(Qz a lo hi).length<=Bh/\Q (.str (Qz a lo hi)) h
 | _=>False
theorem Ft {e:Expr}{lo hi:Option Expr}{ml mh:MO}{p2 pos:Pos}(he:DE X e ma)(hl:DO X lo ml)(hu:DO X hi mh):DE X (.Subscript e (.Slice lo hi Go p2) pos) (Gq Bf ma ml mh):=
 (zp Vn he hl hu).of λU H Q ⟨μ,h,Uw,Qw,R,S,m,k⟩=>by
  refine⟨μ,h,Uw,_,R,S,m,λx H1 ⟨μ1,wx,h1,e1,R1,r1,m1⟩=>?_⟩;refine⟨μ1,h1,Uw,_,R1,S.ext e1,m1,λlo H2 ⟨μ2,h2,e2,R2,m2⟩=>?_⟩;refine⟨μ2,h2,Uw,_,R2,(S.ext e1).ext e2,m2,λhi H3 ⟨μ3,h3,e3,R3,m3⟩=>?_⟩;have e13:=(e1.trans e2).trans e3;have r3:=e3.r _ _ (e2.r _ _ r1);unfold Bf at m3;split at m3
  rw[Zh]at r3;exact⟨_,r3,m3.1,k _ _ ⟨μ3,_,h3,e13,R3,by rw[Zh],m3.2⟩⟩;exact m3.elim
theorem aaH:G4 X (Hx .Mult) (λx y H Q=>∃(a:Str) (n:Nat),x=.str a/\y=.int (n:Int)/\1<n/\n<=1000/\a.length=1/\(⟨List.foldl (λx1 x2=>x1++x2) #[] (HI n a.cps)⟩:Str).length<=Bh/\Q (.str (⟨List.foldl (λx1 x2=>x1++x2) #[] (HI n a.cps)⟩:Str)) H):=by
 intro afn s U H x y v u Q I rx ry ⟨a,n,ex,ey,h1,h2,hl,hz,q⟩;subst ex ey;obtain⟨t,rfl⟩:=rx;obtain⟨t',rfl⟩:=ry;have c1:¬(n:Int)<1:=by lia
 have c2:(((n:Int)==1)||(a.length==0))=false:=by
  rw[Bool.or_eq_false_iff];exact⟨beq_eq_false_iff_ne.mpr<|by lia,beq_eq_false_iff_ne.mpr<|by lia⟩
 refine PySem.P.mul_str (by rw[Bool.or_eq_false_iff];exact⟨decide_eq_false<|by lia,decide_eq_false<|by lia⟩) (λ_ _=>?_) (λ_ _=>?_) ?_;rw[hl];have:(n:Int)*((2^63-1) / (n:Int))+(2^63-1) % (n:Int)=2^63-1:=Int.mul_ediv_add_emod _ _
 have h3:(1:Int)<=(2^63-1) / (n:Int):=by
  rw[Int.le_ediv_iff_mul_le (by lia)];lia
 lia;rw[hl,Nr,Nat.one_mul];have:Builtin.Str.tooLong n=decide (n>16777216):=rfl
 rw[this];exact decide_eq_false<|by lia
 rw[if_neg c1,if_neg (by rw[c2];decide),Nr];exact⟨hz,.str _,H,I.tok _,⟨_,rfl⟩,q⟩
def Cu:M2:=λx y h Q=>match x,y with
 | .str a,.int n=>1<n/\n<=1000/\a.length=1/\(⟨List.foldl (λx1 x2=>x1++x2) #[] (HI n.toNat a.cps)⟩:Str).length<=Bh/\Q (.str ⟨List.foldl (λx1 x2=>x1++x2) #[] (HI n.toNat a.cps)⟩) h
 | _,_=>False
theorem adG:Hf X (Hx .Mult) Cu:=by
 refine⟨_,aaH,?_⟩;intro H μ h x y wx wy Qw Q R rx ry m k;unfold Cu at m;split at m
 obtain⟨m1,m2,m3,m4,m5⟩:=m;rw[Zh]at rx;rw[Zh]at ry;exact⟨_,_,rx,ry.trans<|by rw[Int.toNat_of_nonneg<|by lia],by lia,by lia,m3,m4,k _ _<|.str R m5⟩;exact m.elim
end
def Its (x:Str):It:=⟨λi _=>i<x.cps.size,λi H v H'=>H'=H/\∃c,x.cps[i]?=Dn c/\v=.str ⟨#[c]⟩,λi _=>x.cps.size<=i,true⟩
theorem zav {P:BK}{w:Av}{K:Zf}{tg:Expr}(x:Str)(t:Tok)(it:Addr):Turn P w K tg (Its x) [it] it (λi h=>h.IsStrIter it "str_ascii_iterator" x t i) where
 mem:=by simp
 obj:=λi h st b hb=>by
  have e:b=it:=by simpa using hb
  subst e;obtain⟨o,e,c,d⟩:=st;exact⟨o,e,λv z=>by rw[d]at z;cases z⟩
 keep:=λi h h' st k=>let⟨o,ho,r⟩:=st;⟨o,k it (by simp) o ho,r⟩
 item:=by
  intro X hP hw hK hc i afn s U H E I hf st hg;subst hP hw hK;have hg:i<x.cps.size:=hg;obtain⟨f0,f1,f2,f3,f4,f5⟩:=hf it (by simp);refine wpAny_pyNext_ascii_item st (c:=x.cps[i]) (by simp[hg]) λh' st' sb=>?_;have I1:Yu X afn U H {s with heap:=h',toks:=s.toks+1}:=I.turned (t':=s.toks+1) (λb o hb e=>(sb.2 b hb).trans e) f0 f1 f3 f4 f5;obtain⟨o,e,c,d⟩:=id st';exact⟨_,rfl,Ek (s:={s with heap:=h',toks:=s.toks+1}) e c d (by decide) ⟨.str ⟨#[x.cps[i]]⟩,H,I1,⟨_,rfl⟩,⟨rfl,_,by simp[hg],rfl⟩,st',λb hb=>(hf b hb).1⟩⟩
 done:=by
  intro X hP hw hK hc i afn s U H E I hf st hg;subst hP hw hK;have hg:x.cps.size<=i:=hg;obtain⟨f0,f1,f2,f3,f4,f5⟩:=hf it (by simp);exact wpAny_pyNext_ascii_end (I.ok.hd<|hc rfl) st (by simp[hg]) λh' eb=>⟨rfl,I.turned (t':=s.toks) (λb o hb e=>eb b o hb e) f0 f1 f3 f4 f5⟩
 self:=λ_ _ _ _ _ st h=>wpAny_pyIter_striter_ascii st h
theorem abg {P:BK}{w:Av}{K:Zf}{tg:Expr}(x:Str)(t:Tok)(it:Addr):Turn P w K tg (Its x) [it] it (λi h=>h.IsStrIter it "str_iterator" x t i) where
 mem:=by simp
 obj:=λi h st b hb=>by
  have e:b=it:=by simpa using hb
  subst e;obtain⟨o,e,c,d⟩:=st;exact⟨o,e,λv z=>by rw[d]at z;cases z⟩
 keep:=λi h h' st k=>let⟨o,ho,r⟩:=st;⟨o,k it (by simp) o ho,r⟩
 item:=by
  intro X hP hw hK hc i afn s U H E I hf st hg;subst hP hw hK;have hg:i<x.cps.size:=hg;obtain⟨f0,f1,f2,f3,f4,f5⟩:=hf it (by simp);refine wpAny_pyNext_wide_item st (c:=x.cps[i]) (by simp[hg]) λh' st' sb=>?_;have I1:Yu X afn U H {s with heap:=h',toks:=s.toks+1}:=I.turned (t':=s.toks+1) (λb o hb e=>(sb.2 b hb).trans e) f0 f1 f3 f4 f5;obtain⟨o,e,c,d⟩:=id st';exact⟨_,rfl,Ek (s:={s with heap:=h',toks:=s.toks+1}) e c d (by decide) ⟨.str ⟨#[x.cps[i]]⟩,H,I1,⟨_,rfl⟩,⟨rfl,_,by simp[hg],rfl⟩,st',λb hb=>(hf b hb).1⟩⟩
 done:=by
  intro X hP hw hK hc i afn s U H E I hf st hg;subst hP hw hK;have hg:x.cps.size<=i:=hg;obtain⟨f0,f1,f2,f3,f4,f5⟩:=hf it (by simp);exact wpAny_pyNext_wide_end (I.ok.hd<|hc rfl) st (by simp[hg]) λh' eb=>⟨rfl,I.turned (t':=s.toks) (λb o hb e=>eb b o hb e) f0 f1 f3 f4 f5⟩
 self:=λ_ _ _ _ _ st h=>wpAny_pyIter_striter_wide st h
section
variable {X:Cx}{tg:Expr}
def ZM (tl:TE):TI:=λU H R=>tl U H λv H1=>∃x,v=.str x/\R (Its x) H1
theorem aew {tl:TE}(hl:PE X l tl):PI X tg l (ZM tl):=by
 intro afn s U H R I h;refine Bj (hl afn s U H _ I h) λv s1 ⟨y,H1,I1,r1,q1⟩=>?_;obtain⟨x,e,q⟩:=q1;subst e;obtain⟨t,rfl⟩:=r1;have fp:∀b∈[s1.heap.objs.size],Ak X afn H1 b:=λb hb=>by
  have e:b=s1.heap.objs.size:=by simpa using hb
  subst e;exact I1.fpOk (Bm _)<|I1.hok.fresh<|Bm _
 cases ha:x.cps.all (· < 128)
 refine wpAny_pyIter_wide ha ?_;exact⟨s1.heap.objs.size,[s1.heap.objs.size],_,_,H1,rfl,I1.kept (t':=s1.toks) λb o e=>Cm _ e,abg x t _,⟨_,HJ _ rfl,rfl,rfl⟩,fp,q⟩;refine wpAny_pyIter_ascii ha ?_;exact⟨s1.heap.objs.size,[s1.heap.objs.size],_,_,H1,rfl,I1.kept (t':=s1.toks) λb o e=>Cm _ e,zav x t _,⟨_,HJ _ rfl,rfl,rfl⟩,fp,q⟩
def signs (x:Str):List W:=x.cps.toList.map λc=>.str ⟨#[c]⟩
def V5 (m:ME):MI:=λU h R=>m U h λw h1=>match w with
 | .str x=>R ⟨signs x,Go⟩ h1
 | _=>False
theorem zbx {K:Zf}{H:Hp}(x:Str):Lr K (Its x) ⟨signs x,Go⟩ H μ:=by
 intro H2 μ2 h2 i e R2 _;have hl:(signs x).length=x.cps.size:=by simp[signs]
 refine⟨λw ew=>⟨?_,λv H3 ⟨e3,c,ec,ev⟩=>?_⟩,λq=>?_⟩;have:i<(signs x).length:=(HY.mp ew).1
 show i<x.cps.size;rw[<-hl];exact this;subst e3 ev;refine⟨μ2,.refl,R2,?_⟩;have:Dn (W.str ⟨#[c]⟩)=Dn w:=by
  rw[<-ew];show _=(List.map _ _)[i]?;rw[Ds,Array.getElem?_toList,ec];rfl
 cases this;rw[Zh];show x.cps.size<=i;rw[<-hl];exact q
theorem Vj (hl:DE X l ma):O4 X tg l (V5 ma):=PI.of (aew hl) λU H Q ⟨μ,h,Uw,Rw,R,S,m,k⟩=>by
 refine⟨μ,h,Uw,_,R,S,m,λv H1 ⟨μ1,w,h1,e1,R1,r1,m1⟩=>?_⟩;cases w with
 | str x=>
  rw[Zh]at r1;exact⟨x,r1,k _ _ ⟨μ1,⟨signs x,Go⟩,h1,e1,R1,zbx x,m1⟩⟩
 | _=>exact m1.elim
end
section
variable {prog:BK}{w:Av}{A:BP}{E:JI->Mk->Prop}{s:Mk}
end
section
variable {X:Cx}
end
section
variable {X:Cx}{K:Zf}
def JQ:M2:=λx y h Q=>match x,y with
 | .str a,.int i=>a.length<=Bh/\(match Hh a.cps.toList i with
  | some c=>Q (.str ⟨#[c]⟩) h
  | none=>False)
 | _,_=>False
theorem acM:Wg K (rIx K) JQ:=by
 intro H μ h x y wx wy Qw Q R rx ry m k;unfold JQ at m;split at m
 rename_i a i;obtain⟨hz,m⟩:=m;split at m
 rename_i c ec;rw[Zh]at rx;rw[Zh]at ry;exact .inr<|.inr ⟨a,i,c,rx,ry,hz,ec,k _ _<|.str R m⟩
 exact m.elim;exact m.elim
theorem GZ {a b:Expr}{mb:ME}{pos:Pos}(ha:DE X a ma)(hb:DE X b mb)(hs:xg b):DE X (.Subscript a b pos) (Y7 JQ ma mb):=(R7 JR ha hb hs).of λU H Q h=>two h λR r1 r2 m k=>acM R r1 r2 m k
theorem zbs:G4 X (HB .NotIn) (λx y H Q=>∃a b,x=.str a/\y=.str b/\Q (.bl (!Txt.contains b a)) H):=by
 intro afn s U H x y v u Q I rx ry ⟨a,b,ex,ey,q⟩;subst ex ey;obtain⟨t,rfl⟩:=rx;obtain⟨t',rfl⟩:=ry;exact SB.notContains ⟨.bl _,H,I,rfl,q⟩
def G3:M2:=λx y h Q=>match x,y with
 | .str a,.str b=>Q (.bl (!Txt.contains b a)) h
 | _,_=>False
theorem Uz:Hf X (HB .NotIn) G3:=by
 refine⟨_,zbs,?_⟩;intro H μ h x y wx wy Qw Q R rx ry m k;unfold G3 at m;split at m
 rw[Zh]at rx ry;exact⟨_,_,rx,ry,k _ _<|.bl R m⟩;exact m.elim
end
section
variable {X:Cx}{body:List Stmt}{pos:Pos}{mh:Ba->MS}
end
section
variable {X:Cx}{afn:List (Addr×Obj)}{U:St}{H:Hp}{s:Mk}
end
section
variable {X:Cx}{body:List Stmt}{pos:Pos}{i:Nat}
end
section
variable {prog:BK}{w:Av}{A:BP}{E:JI->Mk->Prop}{s:Mk}
variable {nm q:Str}{C N:Addr}{bs bmB:List JI}{ab:Bool}{k0 k1 k2 k3 k5:Option JI}{B:String}
end
section
variable {X:Cx}{afn:List (Addr×Obj)}{U:St}{H:Hp}{s:Mk}{C:Addr}{x:Str}{afq pos:Pos}{e:Expr}{es:List Expr}{t:TA}
end
section
variable {X:Cx}{pos:Pos}
end
section
variable {X:Cx}{pos:Pos}{i:Nat}{afn:List (Addr×Obj)}{U:St}{H H':Hp}{s:Mk}{a C:Addr}{n:Str}{od:Option Addr}{fs:List (Str×W)}{h':Gh}{Dw:cH}{De:Ends}{rest:List ExceptHandler}
end
section
variable {X:Cx}{body:List Stmt}{b₁:Stmt}{suite':List Stmt}{y' d':Str}{np' hpos' pos:Pos}{i i':Nat}{D':Addr}{mh':MS}
end
section
variable {prog:BK}{w:Av}{A:BP}{E:JI->Mk->Prop}{s:Mk}{K:Zf}{x dx C:Addr}{mA:Str->Option JI}{name:Str}{v:JI}
end
section
variable {X:Cx}{o value:Expr}{f:Str}{C:Addr}{pos pos':Pos}{ta tv:TE}
end
section
variable {X:Cx}{afn:List (Addr×Obj)}{U:St}{H:Hp}{s:Mk}{C fi:Addr}{x f g:Str}{afq pos:Pos}{e e':Expr}{t:TA}{k:Nat}{fd:DW}{ps:List Str}
end
section
variable {X:Cx}{e e':Expr}{pos:Pos}{ma:MA}
end
section
variable {X:Cx}{K:Zf}{o e:Expr}{ma:MA}{apos afq:Pos}
end
section
variable {prog:BK}{w:Av}{A:BP}{E:JI->Mk->Prop}{s:Mk}
end
section
variable {X:Cx}{K:Zf}
end
section
variable {X:Cx}{e:Expr}{es:List Expr}{pos:Pos}
end
section
variable {X:Cx}{x:Str}{p q pos:Pos}{a:Expr}{es:List Expr}
end
section
variable {X:Cx}{body:List Stmt}{pos:Pos}{i:Nat}
end
section
variable {K:Zf}{C D':Addr}{n d':Str}
end
section
variable {X:Cx}
def PEp (X:Cx)(e:Expr)(t:TE):Prop:=
 ∀(afn:List (Addr×Obj)) (s:Mk) (U:St) (H:Hp) (Q:VK),Yu X afn U H s->t U H Q->Ae (Ai X.prog X.w) X.A (eval e X.env) (λu s'=>EP X afn U Q u s'/\0<s'.toks) X.xe s
def PEq (X:Cx)(e:Expr)(t:TE):Prop:=
 ∀(afn:List (Addr×Obj)) (s:Mk) (U:St) (H:Hp) (Q:VK),Yu X afn U H s->0<s.toks->t U H Q->Ae (Ai X.prog X.w) X.A (eval e X.env) (EP X afn U Q) X.xe s
theorem PEp.of {e:Expr}{t t':TE}(h:PEp X e t)(i:∀U H Q,t' U H Q->t U H Q):PEp X e t':=λafn s U H Q I z=>h afn s U H Q I (i _ _ _ z)
theorem PEq.of {e:Expr}{t t':TE}(h:PEq X e t)(i:∀U H Q,t' U H Q->t U H Q):PEq X e t':=λafn s U H Q I p z=>h afn s U H Q I p (i _ _ _ z)
theorem aep {es:List Expr}{t1 t2:TE}{t:TA}(h1:PEp X e1 t1)(h2:PEq X e2 t2)(hr:PA X es t)(hs:Al (e1::e2::es) X.env=(false,eval e1 X.env)::Al (e2::es) X.env)
  (hs2:Al (e2::es) X.env=(false,eval e2 X.env)::Al es X.env):PA X (e1::e2::es) (Mz t1 (Mz t2 t)):=by
 intro pos afn s U H Q I h;rw[hs];show Ae _ _ (spliced ((false,eval e1 X.env)::Ef pos (Al (e2::es) X.env))) _ _ s;refine Qc<|Bj (h1 afn s U H _ I h) λu s1 ⟨⟨x,H1,I1,r1,q1⟩,p1⟩=>?_
 rw[hs2];show Ae _ _ (spliced ((false,eval e2 X.env)::Ef pos (Al es X.env))) _ _ s1;refine Qc<|Bj (h2 afn s1 U H1 _ I1 p1 q1) λu2 s2 ⟨x2,H2,I2,r2,q2⟩=>?_
 exact Bj (hr pos afn s2 U H2 _ I2 q2) λus s3 ⟨xs,H3,I3,r3,q3⟩=>⟨x::x2::xs,H3,I3,.cons r1<|.cons r2 r3,q3⟩
theorem abq {a:Expr}{c:Str}{j:Nat}{p2 pos:Pos}{ta:TE}(ha:PE X a ta):PEp X (.BinOp a .Add (.Constant (.str c) j p2) pos) (λU H Q=>ta U H λx H1=>∃a,x=.str a/\a.length+c.length<=Bh/\Q (.str (a++c)) H1):=by
 intro afn s U H Q I h;refine wpAny_BinOp<|Bj (ha afn s U H _ I h) λu s1 ⟨x,H1,I1,r1,a,ex,hz,q⟩=>?_
 subst ex;obtain⟨t,rfl⟩:=r1;refine Rx<|PySem.P.add_str ?_
 have I2:Yu X afn U H1 {s1 with toks:=s1.toks+1}:=I1.tok _;split
 rename_i e;have h0:a.cps=#[]:=Array.eq_empty_of_size_eq_zero (by simpa[Str.length]using e);have e:a++c=c:=by
  show Str.append a c=c;cases c;simp[Str.append,h0]
 exact⟨⟨.str<|a++c,H1,I2,⟨_,by rw[e]⟩,q⟩,Nat.succ_pos _⟩;split
 rename_i e;have h0:c.cps=#[]:=Array.eq_empty_of_size_eq_zero (by simpa[Str.length]using e);have e:a++c=a:=by
  show Str.append a c=a;cases a;simp[Str.append,h0]
 exact⟨⟨.str<|a++c,H1,I2,⟨_,by rw[e]⟩,q⟩,Nat.succ_pos _⟩;exact⟨by rw[GJ];exact hz,⟨.str<|a++c,H1,I1.tok _,⟨_,rfl⟩,q⟩,Nat.succ_pos _⟩
theorem pvS {i:Nat}{x:Str}{pos:Pos}{afn:List (Addr×Obj)}{s:Mk}{U:St}{H:Hp}{v:V}{Q:JI->Mk->Prop}(hN:X.N[i]?=Dn x)(hv:Oi X.env.scope x)(hd:(x==("__debug__" : Str))=false)(hcd:(x==("__classdict__" : Str))=false)
  (I:Yu X afn U H s) (e:U[i]?=Dn (Dn v)) (h:∀u,RelV v u->Q u s):Ae (Ai X.prog X.w) X.A (eval (.Name x pos) X.env) Q X.xe s:=by
 obtain⟨m,hn,hl⟩:=I.loc;obtain⟨u,r,l⟩:=hl i x v hN e hv;have fin:=h u r;rcases l with⟨hk,hm⟩|⟨hk,c,hc,hcell⟩
 exact wpAny_Name (wpAny_loadName_local I.ok.kind hk hn hm fin) hd;rcases hk with hk|hk
 exact wpAny_Name (wpAny_loadName_cell I.ok.kind hk hc hcell fin) hd;exact wpAny_Name (wpAny_loadName_free I.ok.kind hk hc hcell fin hcd) hd
open Builtin Builtin.Str in
theorem zaJ {i:Nat}{x z:Str}{p apos afq p2:Pos}{j1 j2:Nat}(hN:X.N[i]?=Dn x)(hv:Oi X.env.scope x)(hd:(x==("__debug__" : Str))=false)(hcd:(x==("__classdict__" : Str))=false)(hyz:(y==z)=false)(hz:z.length<=14)
  (hbase:Nt (.Name x p) "replace" X.env (eval (.Name x p) X.env)=eval (.Name x p) X.env)
  (hfew:((Ef afq (Al [.Constant (.str y) j1 p1,.Constant (.str z) j2 p2] X.env)).all (λx=>!x.1)&&(Nh afq (Ni [] X.env)).all (λx=>x.1.isSome)
   && decide (([.Constant (.str y) j1 p1,.Constant (.str z) j2 p2]:List Expr).length+([]:List Hu).length+(if([]:List Hu).isEmpty then 0 else 1)<30))=true)
  (hline:(apos.endLine==afq.line)=true) :
  PEq X (.Call (.Attribute (.Name x p) "replace" apos) [.Constant (.str y) j1 p1,.Constant (.str z) j2 p2] [] afq) (λU H Q=>∃a:Str,U[i]?=Dn (Dn (.str a))/\a.length<=1048576/\Q (.str (Nk a y z)) H):=by
 intro afn s U H Q I ps ⟨a,e,ha,q⟩;refine Tn hbase hfew hline rfl<|pvS hN hv hd hcd I e λu ⟨t,eu⟩=>?_
 subst eu;refine⟨"str", "str.replace",PySem.F.plainAttrs_str,PySem.F.slot_str_replace,PySem.F.type_str_replace,OD _ _ _,λb e=>(by cases e),?_⟩;refine Tg rfl<|S7 ?_
 refine Qc<|Rx (k:=j1) (pos:=p1) ?_
 refine Qc<|Rx (k:=j2) (pos:=p2) ?_
 refine Calls.spliced_nil ?_;exact SC.replaceW (by show s.toks≠0;lia) (by show s.toks+1≠0;lia) (by show s.toks≠s.toks+1;lia) hyz ha hz λt' k=>⟨.str _,H,I.tok _,⟨_,rfl⟩,q⟩
open Builtin Builtin.Str in
def rep1 (x y z:Str):Str:=if((occurrences x y 0 x.length 1).isEmpty||(y.length==0&&z.length==0))=true then x else glued z (partsBetween x (occurrences x y 0 x.length 1) y.length)
open Builtin Builtin.Str in
theorem z8 (x y z:Str)(t u v c:Tok)
    (hf:((occurrences x y 0 x.length 1).isEmpty||(y.length==0&&z.length==0))=false ->
      (u==0||v==0)=false/\(u==v)=false/\(y==z)=false/\tooLong (x.length+(occurrences x y 0 x.length 1).length*z.length)=false) :
    Gives («str.replace» ⟨[.str x t,.str y u,.str z v,.int 1 c],[]⟩) (if((occurrences x y 0 x.length 1).isEmpty||(y.length==0&&z.length==0))=true then .val (.str x t)else .str (glued z (partsBetween x (occurrences x y 0 x.length 1) y.length))):=by
  show Gives (if((occurrences x y 0 x.length 1).isEmpty||(y.length==0&&z.length==0))=true then(do rule "str.replace.nothing";ret (.str x t))else
          (do let same <-isSame (.str y u) (.str z v)
              if same=true then(do rule "str.replace.old-is-new";ret (.str x t))else
              if tooLong (x.length+(occurrences x y 0 x.length 1).length*z.length)=true then unsupported "str.replace:memory" else
              retStr (glued z (partsBetween x (occurrences x y 0 x.length 1) y.length)))) _
  cases hc:((occurrences x y 0 x.length 1).isEmpty||(y.length==0&&z.length==0))
  . obtain⟨h0,huv,hyz,hl⟩:=hf hc
    rw[isSame_str_other y z u v h0 huv hyz,hl];exact .of_eq rfl
  . exact .rule (.of_eq rfl)
open Builtin Builtin.Str in
theorem zar {w:Av}{prog:BK}{A:BP}{E:JI->Mk->Prop}{s:Mk}{x z:Str}{t u v c:Tok}{Q:JI->Mk->Prop}(hu:u≠0)(hv:v≠0)(huv:u≠v)(hyz:(y==z)=false)(hx:x.length<=1048576)(hz:z.length<=14)
  (hq:∀t' k,Q (.str (rep1 x y z) t') {s with toks:=k}):Ae (Ai prog w) A (call (.builtin "str.replace") [.str x t,.str y u,.str z v,.int 1 c]) Q E s:=by
 have h1:=StrLaws.occ_length_le x y 0 x.length 1;have hl:tooLong (x.length+(occurrences x y 0 x.length 1).length*z.length)=false:=by
  have h2:(occurrences x y 0 x.length 1).length*z.length<=1*z.length:=Ry _ h1;unfold tooLong Bh;exact decide_eq_false<|by lia
 refine call_gives PySem.F.slot_str_replace (OD _ _ _) PySem.F.entry_str_replace (PySem.F.args_str_replace_4 _ _ _ _)
  (z8 x y z t u v c λ_=>⟨by simp[hu,hv],by simp[huv],hyz,hl⟩) ?_
 have hq':=hq;unfold rep1 at hq';cases hc:((occurrences x y 0 x.length 1).isEmpty||(y.length==0&&z.length==0))
 rw[hc]at hq';simp only[Bool.false_eq_true,if_false]at hq'|-
 refine⟨?_,hq' _ _⟩;have hy:(glued y (partsBetween x (occurrences x y 0 x.length 1) y.length)).length=x.length:=by rw[StrLaws.glued_between_self]
 rw[size_glued,length_partsBetween,Nat.add_sub_cancel]at hy;rw[size_glued,length_partsBetween,Nat.add_sub_cancel,sizeLine_eq];have h2:(occurrences x y 0 x.length 1).length*z.length<=1*z.length:=Ry _ h1;lia;rw[hc]at hq';simp only[if_true]at hq'|-
 exact hq' t s.toks
theorem abt {i:Nat}{x z:Str}{p apos afq p2 p3:Pos}{j1 j2 j3:Nat}(hN:X.N[i]?=Dn x)(hv:Oi X.env.scope x)(hd:(x==("__debug__" : Str))=false)(hcd:(x==("__classdict__" : Str))=false)(hyz:(y==z)=false)(hz:z.length<=14)
  (hbase:Nt (.Name x p) "replace" X.env (eval (.Name x p) X.env)=eval (.Name x p) X.env)
  (hfew:((Ef afq (Al [.Constant (.str y) j1 p1,.Constant (.str z) j2 p2,.Constant (.int 1) j3 p3] X.env)).all (λx=>!x.1)&&(Nh afq (Ni [] X.env)).all (λx=>x.1.isSome)
   && decide (([.Constant (.str y) j1 p1,.Constant (.str z) j2 p2,.Constant (.int 1) j3 p3]:List Expr).length+([]:List Hu).length+(if([]:List Hu).isEmpty then 0 else 1)<30))=true)
  (hline:(apos.endLine==afq.line)=true) :
  PEq X (.Call (.Attribute (.Name x p) "replace" apos) [.Constant (.str y) j1 p1,.Constant (.str z) j2 p2,.Constant (.int 1) j3 p3] [] afq) (λU H Q=>∃a:Str,U[i]?=Dn (Dn (.str a))/\a.length<=1048576/\Q (.str (rep1 a y z)) H):=by
 intro afn s U H Q I ps ⟨a,e,ha,q⟩;refine Tn hbase hfew hline rfl<|pvS hN hv hd hcd I e λu ⟨t,eu⟩=>?_
 subst eu;refine⟨"str", "str.replace",PySem.F.plainAttrs_str,PySem.F.slot_str_replace,PySem.F.type_str_replace,OD _ _ _,λb e=>(by cases e),?_⟩;refine Tg rfl<|S7 ?_
 refine Qc<|Rx (k:=j1) (pos:=p1) ?_
 refine Qc<|Rx (k:=j2) (pos:=p2) ?_
 refine Qc<|wpAny_Constant_int (k:=j3) (pos:=p3) ?_
 refine Calls.spliced_nil ?_;exact zar (by show s.toks≠0;lia) (by show s.toks+1≠0;lia) (by show s.toks≠s.toks+1;lia) hyz ha hz λt' k=>⟨.str _,H,I.tok _,⟨_,rfl⟩,q⟩
abbrev DEp (X:Cx)(e:Expr)(m:ME):Prop:=PEp X e (tD X.K m)
abbrev DEq (X:Cx)(e:Expr)(m:ME):Prop:=PEq X e (tD X.K m)
variable {e a:Expr}{es:List Expr}{mb:ME}
theorem zf (ha:DEp X e ma)(hb:DEq X e2 mb)(hr:Gn X es mr)(hs:Al (e::e2::es) X.env=(false,eval e X.env)::Al (e2::es) X.env:=by rfl)(hs2:Al (e2::es) X.env=(false,eval e2 X.env)::Al es X.env:=by rfl):
  Gn X (e::e2::es) (aA ma (aA mb mr)):=(aep ha hb hr hs hs2).of λU H Q ⟨μ,g,Uw,Qw,R,S,m,q⟩=>by
 refine⟨μ,g,Uw,_,R,S,m,λv H1 ⟨μ1,w,h1,e1,R1,r1,m1⟩=>?_⟩;refine⟨μ1,h1,Uw,_,R1,S.ext e1,m1,λv2 H2 ⟨μ2,w2,h2,e2,R2,r2,m2⟩=>?_⟩;refine⟨μ2,h2,Uw,_,R2,(S.ext e1).ext e2,m2,λvs H3 ⟨μ3,ws,h3,e3,R3,r3,m3⟩=>?_⟩;exact q _ _ ⟨μ3,w::w2::ws,h3,(e1.trans e2).trans e3,R3,.cons (e3.r _ _<|e2.r _ _ r1)<|.cons (e3.r _ _ r2) r3,m3⟩
def Bd:M2:=λx y h Q=>match x,y with
 | .str a,.str b=>a.length+b.length<=Bh/\Q (.str (a++b)) h
 | _,_=>False
theorem yp {c:Str}{j:Nat}{p2 pos:Pos}(ha:DE X a ma):DEp X (.BinOp a .Add (.Constant (.str c) j p2) pos) (Y7 Bd ma (mC (.str c))):=(abq ha).of λU H Q ⟨μ,g,Uw,Qw,R,S,m,q⟩=>by
 refine⟨μ,g,Uw,_,R,S,m,λx H1 ⟨μ1,wx,h1,e1,R1,r1,m1⟩=>?_⟩;cases wx with
 | str a=>
  rw[Zh]at r1;exact⟨a,r1,m1.1,q _ _ ⟨μ1,.str<|a++c,h1,e1,R1,by rw[Zh],m1.2⟩⟩
 | _=>exact m1.elim
def NT (f:Str->Str)(i:Nat):ME:=λU h Q=>aG i U h λx h1=>match x with
 | .str a=>a.length<=1048576/\Q (.str (f a)) h1
 | _=>False
theorem T7 {K:Zf}{U:St}{H:Hp}{Q:VK}{f:Str->Str}{i:Nat}(h:tD K (NT f i) U H Q):∃a:Str,U[i]?=Dn (Dn (.str a))/\a.length<=1048576/\Q (.str (f a)) H:=by
 obtain⟨μ,h,Uw,Qw,R,S,m,k⟩:=h;unfold NT aG at m;cases q:Uw[i]? with
 | none=>rw[q]at m;exact m.elim
 | some o=>
  rw[q]at m;cases o with
  | none=>exact m.elim
  | some w=>
   obtain⟨v,h1,h2⟩:=S.get i w q;cases w with
   | str a=>
    rw[Zh]at h2;subst h2;exact⟨a,h1,m.1,k _ _ ⟨μ,.str<|f a,h,.refl,R,by rw[Zh],m.2⟩⟩
   | _=>exact m.elim
theorem JN {i:Nat}{x z:Str}{p apos afq p2:Pos}{j1 j2:Nat}(hN:X.N[i]?=Dn x)(hv:Oi X.env.scope x)(hyz:(y==z)=false:=by decide)(hz:z.length<=14:=by decide)(hd:(x==("__debug__" : Str))=false:=by decide)(hcd:(x==("__classdict__" : Str))=false:=by decide)
  (hbase:Nt (.Name x p) "replace" X.env (eval (.Name x p) X.env)=eval (.Name x p) X.env:=by rfl)
  (hline:(apos.endLine==afq.line)=true:=by rfl) :
  DEq X (.Call (.Attribute (.Name x p) "replace" apos) [.Constant (.str y) j1 p1,.Constant (.str z) j2 p2] [] afq) (NT (λa=>Nk a y z) i):=
 (zaJ hN hv hd hcd hyz hz hbase rfl hline).of λ_ _ _ h=>T7 h
theorem K6 {i:Nat}{x z:Str}{p apos afq p2 p3:Pos}{j1 j2 j3:Nat}(hN:X.N[i]?=Dn x)(hv:Oi X.env.scope x)(hyz:(y==z)=false:=by decide)(hz:z.length<=14:=by decide)(hd:(x==("__debug__" : Str))=false:=by decide)(hcd:(x==("__classdict__" : Str))=false:=by decide)
  (hbase:Nt (.Name x p) "replace" X.env (eval (.Name x p) X.env)=eval (.Name x p) X.env:=by rfl)
  (hline:(apos.endLine==afq.line)=true:=by rfl) :
  DEq X (.Call (.Attribute (.Name x p) "replace" apos) [.Constant (.str y) j1 p1,.Constant (.str z) j2 p2,.Constant (.int 1) j3 p3] [] afq) (NT (λa=>rep1 a y z) i):=
 (abt hN hv hd hcd hyz hz hbase rfl hline).of λ_ _ _ h=>T7 h
end
section
variable {X:Cx}{o e:Expr}{ma:Ba->MA}{apos afq:Pos}
theorem adM (hΓ:∀U,Γ U)(ho:DE X o mo)(ha:PA X [e] (YT X Γ ma))
  (hbase:Nt o "append" X.env (eval o X.env)=eval o X.env:=by rfl)
  (hfew:((Ef afq (Al [e] X.env)).all (λx=>!x.1)&&(Nh afq (Ni [] X.env)).all (λx=>x.1.isSome)
   && decide (([e]:List Expr).length+([]:List Hu).length+(if([]:List Hu).isEmpty then 0 else 1)<30))=true:=by rfl)
  (hline:(apos.endLine==afq.line)=true:=by rfl) (hst:Al [e] X.env=(false,eval e X.env)::Al [] X.env:=by rfl) (hplain:(Ef afq (Al [] X.env)).any (·.1)=false:=by rfl) :
  DEx X Γ (.Call (.Attribute o "append" apos) [e] [] afq) (λE=>zX dO mo (ma E)):=(Qd PySem.F.plainAttrs_list PySem.F.slot_list_append PySem.F.type_list_append pG ho ha hbase hfew hline hst hplain).of λU H Q ⟨g,μ,h,Uw,Qw,E,R,S,m,q,kx⟩=>by
 refine⟨μ,h,Uw,_,R,S,m,λv H1 ⟨μ1,w,h1,e1,R1,r1,il⟩=>⟨(oN R1 r1 il).1,?_⟩⟩;have m1:=(oN R1 r1 il).2;exact⟨hΓ _,μ1,h1,Uw,_,E,R1,S.ext e1,m1,λvs H2 ⟨μ2,ws,h2,e2,R2,r2,m2⟩=>yU R2 (e2.r _ _ r1) r2 m2 λv H' z=>q _ _<|(z.trans e2).trans e1,λev s' xt=>kx ev s'<|xt.trans e1⟩
end
end L2
namespace My
open PySem L2 PyProof.Rows
def dW:List (Key×W):=[(.inr "same",(.tup [(.tup [(.str "spot"),(.str "spot")]),(.tup [(.str "line"),(.str "line")]),(.tup [(.str "curve"),(.str "curve")])])),(.inr "on",(.tup [(.tup [(.str "spot"),(.str "line")]),(.tup [(.str "spot"),(.str "curve")])])),(.inr "row",(.tup [(.tup [(.str "spot"),(.str "spot"),(.str "spot")])])),(.inr "bunch",(.tup [(.tup [(.str "line"),(.str "line"),(.str "line")])])),(.inr "touch",(.tup [(.tup [(.str "line"),(.str "curve")])])),(.inr "parted",(.tup [(.tup [(.str "curve")])]))]
def gw:List (Key×W):=[(.inr "free",(.tup [])),(.inr "join",(.tup [(.str "spot"),(.str "spot")])),(.inr "meet",(.tup [(.str "line"),(.str "line")])),(.inr "curve",(.tup [(.str "spot"),(.str "spot"),(.str "spot"),(.str "spot"),(.str "spot")])),(.inr "about",(.tup [(.str "curve"),(.str "spot")])),(.inr "pole",(.tup [(.str "curve"),(.str "line")])),(.inr "other",(.tup [(.str "curve"),(.str "spot"),(.str "spot")]))]
def jR:List (Key×W):=[(.inr "free",(.str "spot")),(.inr "join",(.str "line")),(.inr "meet",(.str "spot")),(.inr "curve",(.str "curve")),(.inr "about",(.str "line")),(.inr "pole",(.str "spot")),(.inr "other",(.str "spot"))]
def top (i:Nat):Stmt:=PySem.Challenge.pw_easelroom_k92_no_drawings_texts.main.body.getD i (.Pass ⟨0,0,0,0⟩)
abbrev jG:Stmt:=top 8
theorem pX:bO ["thing"] ["thing"] (aW jG):=⟨rfl,rfl,rfl,by decide +kernel,rfl,by decide +kernel,by decide +kernel⟩
abbrev dB:Stmt:=top 14
theorem fK:bO ["thing", "words"] ["thing", "words"] (aW dB):=⟨rfl,rfl,rfl,by decide +kernel,rfl,by decide +kernel,by decide +kernel⟩
abbrev eU:Stmt:=top 15
theorem iY:bO ["sorts", "numbers", "due", "number", "sort"] ["sorts", "numbers", "due"] (aW eU):=⟨rfl,rfl,rfl,by decide +kernel,rfl,by decide +kernel,by decide +kernel⟩
abbrev iz:Stmt:=top 19
theorem nR:bO ["rows"] ["rows"] (aW iz):=⟨rfl,rfl,rfl,by decide +kernel,rfl,by decide +kernel,by decide +kernel⟩
abbrev fU:Stmt:=top 16
theorem lX:bO ["thing", "sorts", "row"] ["thing"] (aW fU):=⟨rfl,rfl,rfl,by decide +kernel,rfl,by decide +kernel,by decide +kernel⟩
abbrev mG:Stmt:=top 17
theorem qZ:bO ["rows", "k"] ["rows", "k"] (aW mG):=⟨rfl,rfl,rfl,by decide +kernel,rfl,by decide +kernel,by decide +kernel⟩
abbrev jD:Stmt:=top 18
theorem pJ:bO ["rows"] ["rows"] (aW jD):=⟨rfl,rfl,rfl,by decide +kernel,rfl,by decide +kernel,by decide +kernel⟩
abbrev jB:Stmt:=top 22
theorem pI:bO ["rows", "thing", "sorts"] ["rows", "thing"] (aW jB):=⟨rfl,rfl,rfl,by decide +kernel,rfl,by decide +kernel,by decide +kernel⟩
abbrev mq:Stmt:=top 27
theorem rT:bO ["text"] ["text"] (aW mq):=⟨rfl,rfl,rfl,by decide +kernel,rfl,by decide +kernel,by decide +kernel⟩
abbrev eG:Stmt:=top 28
theorem je:bO ["words", "names"] ["words", "names"] (aW eG):=⟨rfl,rfl,rfl,by decide +kernel,rfl,by decide +kernel,by decide +kernel⟩
abbrev gM:Stmt:=top 29
theorem nO:bO ["lines", "rows", "names", "words"] ["lines"] (aW gM):=⟨rfl,rfl,rfl,by decide +kernel,rfl,by decide +kernel,by decide +kernel⟩
abbrev eN:Stmt:=top 30
theorem iZ:bO ["text", "lines", "told", "last", "claim"] ["text"] (aW eN):=⟨rfl,rfl,rfl,by decide +kernel,rfl,by decide +kernel,by decide +kernel⟩
abbrev iB:Stmt:=top 32
theorem nU:bO ["_law_script", "_law_k"] ["_law_script", "_law_k"] (aW iB):=⟨rfl,rfl,rfl,by decide +kernel,rfl,by decide +kernel,by decide +kernel⟩
abbrev tZ:Stmt:=top 33
theorem yM:bO ["_law_cell"] ["_law_cell"] (aW tZ):=⟨rfl,rfl,rfl,by decide +kernel,rfl,by decide +kernel,by decide +kernel⟩
abbrev oY:Stmt:=top 34
theorem v8:bO ["_law_bag_here", "_law_many", "_law_found"] ["_law_bag_here", "_law_many"] (aW oY):=⟨rfl,rfl,rfl,by decide +kernel,rfl,by decide +kernel,by decide +kernel⟩
abbrev lK:Stmt:=top 35
theorem qW:bO ["_law_bag_here", "_law_many", "_law_letters", "_law_size", "_law_at", "_law_base", "_law_k", "_law_first"] ["_law_bag_here", "_law_many"] (aW lK):=⟨rfl,rfl,rfl,by decide +kernel,rfl,by decide +kernel,by decide +kernel⟩
abbrev sE:Stmt:=top 36
theorem xY:bO ["_law_bag_here", "_law_sorts", "_law_free", "_law_spots", "_law_lines", "_law_curves", "_law_some", "_law_a", "_law_b", "_law_last", "_law_l", "_law_m"] ["_law_bag_here", "_law_sorts", "_law_free"] (aW sE):=⟨rfl,rfl,rfl,by decide +kernel,rfl,by decide +kernel,by decide +kernel⟩
abbrev oH:Stmt:=top 37
theorem vO:bO ["_law_word"] ["_law_word"] (aW oH):=⟨rfl,rfl,rfl,by decide +kernel,rfl,by decide +kernel,by decide +kernel⟩
abbrev oU:Stmt:=top 38
theorem vB:bO ["_law_script", "_law_first", "_law_most", "_law_rows_here", "_law_sorts", "_law_cell", "_law_row_here"] ["_law_script", "_law_first", "_law_most"] (aW oU):=⟨rfl,rfl,rfl,by decide +kernel,rfl,by decide +kernel,by decide +kernel⟩
abbrev lZ:Stmt:=top 39
theorem qX:bO ["_law_bag_here", "_law_sorts", "_law_spots", "_law_lines", "_law_curves", "_law_a", "_law_some", "_law_l", "_law_q"] ["_law_bag_here", "_law_sorts"] (aW lZ):=⟨rfl,rfl,rfl,by decide +kernel,rfl,by decide +kernel,by decide +kernel⟩
abbrev lR:Stmt:=top 40
theorem rM:bO ["_law_row_here", "_law_names_here"] ["_law_row_here", "_law_names_here"] (aW lR):=⟨rfl,rfl,rfl,by decide +kernel,rfl,by decide +kernel,by decide +kernel⟩
abbrev lQ:Stmt:=top 41
theorem rE:bO ["_law_bag_here", "_law_lines", "_law_claim_here", "_law_names_here", "_law_stranger", "_law_at", "_law_name", "_law_way", "_law_whole", "_law_some", "_law_odd", "_law_spoilt", "_law_spot", "_law_two", "_law_more"] ["_law_bag_here", "_law_lines", "_law_claim_here", "_law_names_here"] (aW lQ):=⟨rfl,rfl,rfl,by decide +kernel,rfl,by decide +kernel,by decide +kernel⟩
abbrev gW:Stmt:=top 42
theorem nj:bO ["_law_thing", "e"] ["_law_thing"] (aW gW):=⟨rfl,rfl,rfl,by decide +kernel,rfl,by decide +kernel,by decide +kernel⟩
abbrev Il:Stmt:=top 43
theorem Le:bO ["_law_script", "_law_bag_here", "_law_rows_here", "_law_sorts", "_law_names_here", "_law_claim_here", "_law_lines", "_law_claim_line", "_law_whole", "_law_cell"] ["_law_script"] (aW Il):=⟨rfl,rfl,rfl,by decide +kernel,rfl,by decide +kernel,by decide +kernel⟩
def mZ:AP:=Fx 1 1 false λE=>
  (fD (u6 (CZ JX (aA (aG 0) (aA (mC (.ty "int")) aN))) (LK (CZ JX (aA (aG 0) (aA (mC (.ty "bool")) aN))))))
def jH:AP:=mZ
def dZ:AP:=Fx 2 2 false λE=>
  (fD (u6 (CZ JX (aA (aG 0) (aA (mC (.ty "tuple")) aN))) (u6 (Y7 kGt (CZ Bb (aA (aG 0) aN)) (mC (.int 0))) (u6 (CZ Ei (aA (Y7 Aq (aG 0) (mC (.int 0))) (aA (mC (.ty "str")) aN))) (Y7 kIn (Y7 Aq (aG 0) (mC (.int 0))) (aG 1))))))
def cg:AP:=dZ
def iT (aeZ:AP)(E:Ba):MS:=
  (fD (mC (.bl true)))
def iV (aeZ:AP)(E:Ba):MS:=
  (bU (Dd (Xe (aA (aG 1) (aA (aG 2) aN))) (wU 2 (Aa (YM 3) (Aa (YM 4) V7))) (jx (M5 (Ao (wJ (bN aeZ E (aA (aG 3) aN)))) (M5 (cJ (Y7 kLt (aG 3) (mC (.int 0)))) (M5 (cJ (Y7 kGe (aG 3) (CZ Bb (aA (aG 0) aN)))) (cJ (Y7 Ji (Y7 Aq (aG 0) (aG 3)) (aG 4)))))) (fD (mC (.bl false))) dJ))
  (iT aeZ E))
def gq (aeZ:AP):AP:=Fx 3 5 false λE=>
  (bU (jx (cJ (Y7 Ji (CZ Bb (aA (aG 1) aN)) (CZ Bb (aA (aG 2) aN)))) (fD (mC (.bl false))) dJ)
  (iV aeZ E))
def dh:AP:=gq jH
def j4:AP:=Fx 1 1 false λE=>
  (fD (Fq G5 [0] (fP (aA (CZ Bb (aA (aG 0) aN)) aN)) (cJ (Y7 Jj (Y7 Aq (Y7 Aq (aG 1) (aG 0)) (mC (.int 0))) (mC (.str "free")))) (aG 0)))
def gP:AP:=j4
def jP (aeT aeS afa:AP)(E:Ba):MS:=
  (fD (Y7 kLe (CZ Bb (aA (bN afa E (aA (aG 0) aN)) aN)) (mC (.int 7))))
def jT (aeT aeS afa:AP)(E:Ba):MS:=
  (bU (cY (jJ aN) (YM 1))
  (bU (Dd (LQ (aG 0)) (YM 2) (bU (jx (M5 (Ao (wJ (bN aeT E (aA (aG 2) (aA (mC (.lst (gw.map λq=>NQ q.1))) aN))))) (Ao (wJ (bN aeS E (aA (aG 1) (aA (Gq qL (aG 2) (d7 (mC (.int 1))) cB) (aA (Qo gw (Y7 Aq (aG 2) (mC (.int 0)))) aN))))))) (fD (mC (.bl false))) dJ)
  (mY (zX dO (aG 1) (aA (Qo jR (Y7 Aq (aG 2) (mC (.int 0)))) aN)))))
  (jP aeT aeS afa E)))
def jm (aeT aeS afa:AP):AP:=Fx 1 3 true λE=>
  (bU (jx (M5 (Ao (wJ (CZ JX (aA (aG 0) (aA (mC (.ty "list")) aN))))) (M5 (cJ (Y7 kLt (CZ Bb (aA (aG 0) aN)) (mC (.int 1)))) (cJ (Y7 kGt (CZ Bb (aA (aG 0) aN)) (mC (.int 24)))))) (fD (mC (.bl false))) dJ)
  (jT aeT aeS afa E))
def fW:AP:=jm cg dh gP
def vV:AP:=Fx 2 2 false λE=>
  (fD (Qo jR (Y7 Aq (Y7 Aq (aG 0) (aG 1)) (mC (.int 0)))))
def mz:AP:=vV
def mL (afm:AP):AP:=Fx 1 1 false λE=>
  (fD (Fq G5 [0] (fP (aA (CZ Bb (aA (aG 0) aN)) aN)) qP (bN afm E (aA (aG 1) (aA (aG 0) aN)))))
def jz:AP:=mL mz
def m9 (aeT aeS afi:AP)(E:Ba):MS:=
  (bU (cY (bN afi E (aA (aG 0) aN)) (YM 2))
  (fD (CZ Tj (aA (Fq G5 [1,2] (LQ (Qo dW (Y7 Aq (aG 1) (mC (.int 0))))) qP (bN aeS E (aA (aG 2) (aA (Gq qL (aG 1) (d7 (mC (.int 1))) cB) (aA (aG 0) aN))))) aN))))
def mW (aeT aeS afi:AP):AP:=Fx 2 3 false λE=>
  (bU (jx (Ao (wJ (bN aeT E (aA (aG 1) (aA (mC (.lst (dW.map λq=>NQ q.1))) aN))))) (fD (mC (.bl false))) dJ)
  (m9 aeT aeS afi E))
def jy:AP:=mW cg dh jz
def pC (E:Ba):MS:=
  (fD (CZ QK (aA (Fq G5 [] (V5 (aG 0)) qP (Y7 VN (aG 0) (Y7 bR (mC (.str "abcdefghijklmnopqrstuvwxyz")) (mC (.str "0123456789"))))) aN)))
def qJ:AP:=Fx 1 1 false λE=>
  (bU (jx (M5 (cJ (Y7 kLt (CZ wC (aA (aG 0) aN)) (mC (.int 1)))) (M5 (cJ (Y7 kGt (CZ wC (aA (aG 0) aN)) (mC (.int 8)))) (cJ (Y7 G3 (Y7 JQ (aG 0) (mC (.int 0))) (mC (.str "abcdefghijklmnopqrstuvwxyz")))))) (fD (mC (.bl false))) dJ)
  (pC E))
def lH:AP:=qJ
def iJ (E:Ba):MS:=
  (fD (Y7 cM (kZ (aA (Y7 Aq (aG 0) (mC (.int 0))) aN)) (CZ yc (aA (Fq G5 [1] (LQ (Gq qL (aG 0) (d7 (mC (.int 1))) cB)) qP (Xz qH (aG 1) (aA (aG 0) aN))) aN))))
def fZ:AP:=Fx 2 2 false λE=>
  (bU (jx (Ao (wJ (CZ QK (aA (Fq G5 [1] (LQ (Gq qL (aG 0) (d7 (mC (.int 1))) cB)) qP (Y7 QZ (aG 0) (aG 1))) aN)))) (pL "NoText" E) dJ)
  (iJ E))
def dj:AP:=fZ
def mj (afg aeQ:AP)(E:Ba):MS:=
  (fD (kZ (aA (aG 1) (aA (aG 2) aN))))
def kJ (afg aeQ:AP):AP:=Fx 1 4 false λE=>
  (bU (cY (jJ aN) (YM 1))
  (bU (cY (jJ aN) (YM 2))
  (bU (Dd (LQ (aG 0)) (YM 3) (bU (jx (M5 (cJ (Y7 kLt (CZ Bb (aA (aG 3) aN)) (mC (.int 2)))) (M5 (Ao (wJ (bN afg EF (aA (Y7 Aq (aG 3) (mC (.int 0))) aN)))) (cJ (Y7 kIn (Y7 Aq (aG 3) (mC (.int 0))) (aG 2))))) (pL "NoText" E) dJ)
  (bU (mY (zX dO (aG 1) (aA (bN aeQ E (aA (Gq qL (aG 3) (d7 (mC (.int 1))) cB) (aA (aG 2) aN))) aN)))
  (mY (zX dO (aG 2) (aA (Y7 Aq (aG 3) (mC (.int 0))) aN))))))
  (mj afg aeQ E))))
def iw:AP:=kJ lH dj
def iG (aeY aeU aeQ aeV:AP)(E:Ba):MS:=
  (fD (kZ (aA (Y7 Aq (aG 2) (mC (.int 0))) (aA (Y7 Aq (aG 2) (mC (.int 1))) (aA (aG 4) aN)))))
def iR (aeY aeU aeQ aeV:AP)(E:Ba):MS:=
  (bU (cY (bN aeQ E (aA (Gq qL (aG 3) (d7 (mC (.int 1))) cB) (aA (Y7 Aq (aG 2) (mC (.int 1))) aN))) (YM 4))
  (bU (jx (M5 (Ao (wJ (bN aeY EF (aA (Y7 Aq (aG 2) (mC (.int 0))) aN)))) (Ao (wJ (bN aeU EF (aA (Y7 Aq (aG 2) (mC (.int 0))) (aA (aG 4) aN)))))) (pL "NoText" E) dJ)
  (iG aeY aeU aeQ aeV E)))
def iU (aeY aeU aeQ aeV:AP)(E:Ba):MS:=
  (bU (cY (Fq G5 [] (LQ (uy uN (aG 0) (aA (mC (.str "; ")) aN))) qP (uy uN (aG 0) (aA (mC (.str " ")) aN))) (YM 1))
  (bU (cY (bN aeV E (aA (Gq qL (aG 1) cB (d7 (Ow Jx (mC (.int 1))))) aN)) (YM 2))
  (bU (cY (Y7 Aq (aG 1) (Ow Jx (mC (.int 1)))) (YM 3))
  (bU (jx (M5 (cJ (Y7 kLt (CZ Bb (aA (aG 3) aN)) (mC (.int 2)))) (cJ (Y7 Ji (Y7 Aq (aG 3) (mC (.int 0))) (mC (.str "claim"))))) (pL "NoText" E) dJ)
  (iR aeY aeU aeQ aeV E)))))
def dX (aeY aeU aeQ aeV:AP):AP:=Fx 1 5 false λE=>
  (bU (jx (Ao (wJ (CZ Ei (aA (aG 0) (aA (mC (.ty "str")) aN))))) (pL "NoText" E) dJ)
  (iU aeY aeU aeQ aeV E))
def cR:AP:=dX fW jy dj iw
def tH (E:Ba):MS:=
  (fD (mC (.int 0)))
def pZ:AP:=Fx 2 2 false λE=>
  (bU (jx (cJ (Y7 kLt (aG 1) (CZ Bb (aA (aG 0) aN)))) (fD (Y7 Aq (aG 0) (aG 1))) dJ)
  (tH E))
def eE:AP:=pZ
def vh (E:Ba):MS:=
  (fD (jJ (aA (aG 0) (aA (mC (.int 7)) aN))))
def wZ:AP:=Fx 1 1 false λE=>
  (bU (jx (cJ (Y7 kLt (aG 0) (Y7 V2 (mC (.int 10)) (mC (.int 18))))) (fD (jJ (aA (mC (.int 0)) (aA (Y7 cM (Y7 Ga (aG 0) (mC (.int 2147483647))) (mC (.int 7))) aN)))) dJ)
  (vh E))
def iW:AP:=wZ
def zW (E:Ba):MS:=
  (bU (cY (Y7 Ga (Y7 cM (Y7 Vc (Y7 Aq (aG 0) (mC (.int 1))) (mC (.int 48271))) (mC (.int 15731))) (mC (.int 2147483647))) (QV (aG 0) (mC (.int 1)) wK))
  (fD (Y7 Ga (Y7 Rt (Y7 Ga (Y7 Vc (Y7 Aq (aG 0) (mC (.int 1))) (Y7 cM (Y7 Rt (Y7 Aq (aG 0) (mC (.int 1))) (mC (.int 32768))) (mC (.int 11)))) (mC (.int 2147483629))) (mC (.int 16))) (aG 1))))
def zQ:AP:=Fx 2 3 false λE=>
  (bU (jx (cJ (Y7 kGt (Y7 Aq (aG 0) (mC (.int 0))) (mC (.int 0)))) (bU (cY (Y7 Ga (Y7 Aq (aG 0) (mC (.int 0))) (aG 1)) (YM 2))
  (bU (cY (Y7 Rt (Y7 Aq (aG 0) (mC (.int 0))) (aG 1)) (QV (aG 0) (mC (.int 0)) wK))
  (fD (aG 2)))) dJ)
  (zW E))
def aY:AP:=zQ
def o8 (aeP:AP)(E:Ba):MS:=
  (bU (cY (bN aeP E (aA (aG 0) (aA (mC (.int 26)) aN))) (YM 7))
  (fD (Fq G5 [2,4,5,7] (fP (aA (aG 1) aN)) qP (Y7 bR (Y7 bR (Gq Bf (aG 3) cB (d7 (aG 2))) (Y7 JQ (aG 1) (Y7 Ga (Y7 cM (aG 4) (aG 0)) (mC (.int 26))))) (Gq Bf (aG 3) (d7 (Y7 cM (aG 2) (mC (.int 1)))) cB)))))
def qp (aeP:AP):AP:=Fx 2 8 false λE=>
  (bU (cY (mC (.str "abcdefghijklmnopqrstuvwxyz")) (YM 2))
  (bU (cY (Y7 cM (mC (.int 1)) (bN aeP E (aA (aG 0) (aA (mC (.int 8)) aN)))) (YM 3))
  (bU (cY (bN aeP E (aA (aG 0) (aA (aG 3) aN))) (YM 4))
  (bU (cY (Y7 JQ (aG 2) (bN aeP E (aA (aG 0) (aA (mC (.int 26)) aN)))) (YM 5))
  (bU (Dd (fP (aA (Y7 Dm (aG 3) (mC (.int 1))) aN)) (YM 6) (cY (Y7 bR (aG 5) (Y7 JQ (Y7 bR (aG 2) (mC (.str "0123456789"))) (bN aeP E (aA (aG 0) (aA (mC (.int 36)) aN))))) (YM 5)))
  (o8 aeP E))))))
def lN:AP:=qp aY
def qC (aeP:AP)(E:Ba):MS:=
  (fD (Y7 Aq (aG 6) (bN aeP E (aA (aG 0) (aA (CZ Bb (aA (aG 6) aN)) aN)))))
def pQ (aeP:AP)(E:Ba):MS:=
  (bU (jx (cJ (Y7 Ji (aG 4) (gj aN))) (bU (cY (Y7 Aq (aG 4) (bN aeP E (aA (aG 0) (aA (CZ Bb (aA (aG 4) aN)) aN)))) (YM 10))
  (bU (cY (Y7 Aq (aG 4) (bN aeP E (aA (aG 0) (aA (CZ Bb (aA (aG 4) aN)) aN)))) (YM 11))
  (bU (cY (Y7 sZ (aG 6) (gj (aA (kZ (aA (mC (.str "meet")) (aA (aG 10) (aA (aG 11) aN)))) (aA (kZ (aA (mC (.str "meet")) (aA (aG 11) (aA (aG 10) aN)))) aN)))) (YM 6))
  (jx (cJ (Y7 Ji (aG 5) (gj aN))) (mY (zX dO (aG 6) (aA (kZ (aA (mC (.str "pole")) (aA (Y7 Aq (aG 5) (bN aeP E (aA (aG 0) (aA (CZ Bb (aA (aG 5) aN)) aN)))) (aA (aG 11) aN)))) aN))) dJ)))) dJ)
  (qC aeP E))
def qD (aeP:AP)(E:Ba):MS:=
  (bU (jx (cJ (Y7 Ji (aG 3) (gj aN))) (bU (cY (Y7 Aq (aG 3) (bN aeP E (aA (aG 0) (aA (CZ Bb (aA (aG 3) aN)) aN)))) (YM 7))
  (bU (cY (Y7 Aq (aG 3) (bN aeP E (aA (aG 0) (aA (CZ Bb (aA (aG 3) aN)) aN)))) (YM 8))
  (bU (cY (Fq G5 [3] (fP (aA (mC (.int 3)) aN)) qP (Y7 Aq (aG 1) (Y7 Dm (Ow Jx (mC (.int 1))) (Y7 Ga (aG 0) (CZ Bb (aA (aG 1) aN)))))) (YM 9))
  (bU (cY (Y7 sZ (aG 6) (gj (aA (kZ (aA (mC (.str "join")) (aA (aG 7) (aA (aG 8) aN)))) (aA (kZ (aA (mC (.str "join")) (aA (aG 8) (aA (aG 7) aN)))) (aA (kZ (aA (mC (.str "curve")) (aA (aG 7) (aA (aG 8) (aA (Y7 Aq (aG 9) (mC (.int 0))) (aA (Y7 Aq (aG 9) (mC (.int 1))) (aA (Y7 Aq (aG 9) (mC (.int 2))) aN))))))) aN))))) (YM 6))
  (jx (cJ (Y7 Ji (aG 5) (gj aN))) (cY (Y7 sZ (aG 6) (gj (aA (kZ (aA (mC (.str "about")) (aA (Y7 Aq (aG 5) (Ow Jx (mC (.int 1)))) (aA (aG 7) aN)))) (aA (kZ (aA (mC (.str "other")) (aA (Y7 Aq (aG 5) (mC (.int 0))) (aA (aG 7) (aA (aG 8) aN))))) aN)))) (YM 6)) dJ))))) dJ)
  (pQ aeP E))
def xG (aeP:AP):AP:=Fx 3 12 false λE=>
  (bU (cY (Fq G5 [1] (fP (aA (CZ Bb (aA (aG 1) aN)) aN)) (cJ (Y7 Jj (Y7 Aq (aG 1) (aG 0)) (mC (.str "spot")))) (aG 0)) (YM 3))
  (bU (cY (Fq G5 [1] (fP (aA (CZ Bb (aA (aG 1) aN)) aN)) (cJ (Y7 Jj (Y7 Aq (aG 1) (aG 0)) (mC (.str "line")))) (aG 0)) (YM 4))
  (bU (cY (Fq G5 [1] (fP (aA (CZ Bb (aA (aG 1) aN)) aN)) (cJ (Y7 Jj (Y7 Aq (aG 1) (aG 0)) (mC (.str "curve")))) (aG 0)) (YM 5))
  (bU (cY (jJ aN) (YM 6))
  (bU (jx (cJ (Y7 kLt (aG 2) (mC (.int 7)))) (cY (jJ (aA (kZ (aA (mC (.str "free")) aN)) (aA (kZ (aA (mC (.str "free")) aN)) aN))) (YM 6)) dJ)
  (qD aeP E))))))
def tM:AP:=xG aY
def yV:AP:=Fx 1 1 false λE=>
  (fD (YL M4 (Uk [(.inr "join",(mC (.str "line"))),(.inr "about",(mC (.str "line"))),(.inr "curve",(mC (.str "curve")))]) (aA (aG 0) (aA (mC (.str "spot")) aN))))
def oM:AP:=yV
def rQ (aeR aeX afe:AP)(E:Ba):MS:=
  (fD (kZ (aA (aG 3) (aA (aG 4) aN))))
def sU (aeR aeX afe:AP):AP:=Fx 3 7 false λE=>
  (bU (cY (jJ aN) (YM 3))
  (bU (cY (jJ aN) (YM 4))
  (bU (Dd (LQ (Y7 cM (Gq qL (aG 0) (d7 (aG 1)) (d7 (Y7 cM (aG 1) (aG 2)))) (gj (aA (mC (.int 3)) aN)))) (YM 5) (bU (cY (bN aeX E (aA (bN aeR E (aA (aG 5) aN)) (aA (aG 4) (aA (CZ Bb (aA (Fq G5 [] (LQ (aG 3)) (cJ (Y7 QT (aG 0) (kZ (aA (mC (.str "free")) aN)))) (aG 0)) aN)) aN)))) (YM 6))
  (bU (mY (zX dO (aG 3) (aA (aG 6) aN)))
  (mY (zX dO (aG 4) (aA (bN afe E (aA (Y7 Aq (aG 6) (mC (.int 0))) aN)) aN))))))
  (rQ aeR aeX afe E))))
def oW:AP:=sU iW tM oM
def jY (aeP:AP)(E:Ba):MS:=
  (fD (Y7 Aq (aG 6) (bN aeP E (aA (aG 0) (aA (CZ Bb (aA (aG 6) aN)) aN)))))
def jZ (aeP:AP)(E:Ba):MS:=
  (bU (jx (cJ (Y7 Ji (aG 4) (gj aN))) (bU (cY (Y7 Aq (aG 4) (bN aeP E (aA (aG 0) (aA (CZ Bb (aA (aG 4) aN)) aN)))) (YM 8))
  (cY (Y7 sZ (aG 6) (gj (aA (kZ (aA (mC (.str "parted")) (aA (aG 8) aN))) (aA (kZ (aA (mC (.str "on")) (aA (Y7 Aq (aG 5) (mC (.int 0))) (aA (aG 8) aN)))) (aA (kZ (aA (mC (.str "same")) (aA (aG 8) (aA (Y7 Aq (aG 4) (mC (.int 0))) aN)))) aN))))) (YM 6))) dJ)
  (jY aeP E))
def pY (aeP:AP):AP:=Fx 2 9 false λE=>
  (bU (cY (Fq G5 [1] (fP (aA (CZ Bb (aA (aG 1) aN)) aN)) (cJ (Y7 Jj (Y7 Aq (aG 1) (aG 0)) (mC (.str "spot")))) (aG 0)) (YM 2))
  (bU (cY (Fq G5 [1] (fP (aA (CZ Bb (aA (aG 1) aN)) aN)) (cJ (Y7 Jj (Y7 Aq (aG 1) (aG 0)) (mC (.str "line")))) (aG 0)) (YM 3))
  (bU (cY (Fq G5 [1] (fP (aA (CZ Bb (aA (aG 1) aN)) aN)) (cJ (Y7 Jj (Y7 Aq (aG 1) (aG 0)) (mC (.str "curve")))) (aG 0)) (YM 4))
  (bU (cY (Fq G5 [0,2] (fP (aA (mC (.int 3)) aN)) qP (Y7 Aq (aG 2) (bN aeP E (aA (aG 1) (aA (CZ Bb (aA (aG 2) aN)) aN))))) (YM 5))
  (bU (cY (jJ (aA (kZ (aA (mC (.str "same")) (aA (Y7 Aq (aG 5) (mC (.int 0))) (aA (Y7 Aq (aG 5) (mC (.int 1))) aN)))) (aA (kZ (aA (mC (.str "row")) (aA (Y7 Aq (aG 5) (mC (.int 0))) (aA (Y7 Aq (aG 5) (mC (.int 1))) (aA (Y7 Aq (aG 5) (mC (.int 2))) aN))))) aN))) (YM 6))
  (bU (jx (cJ (Y7 Ji (aG 3) (gj aN))) (bU (cY (Fq G5 [0,3] (fP (aA (mC (.int 3)) aN)) qP (Y7 Aq (aG 2) (bN aeP E (aA (aG 1) (aA (CZ Bb (aA (aG 2) aN)) aN))))) (YM 7))
  (bU (cY (Y7 sZ (aG 6) (gj (aA (kZ (aA (mC (.str "same")) (aA (Y7 Aq (aG 7) (mC (.int 0))) (aA (Y7 Aq (aG 7) (mC (.int 1))) aN)))) (aA (kZ (aA (mC (.str "bunch")) (aA (Y7 Aq (aG 7) (mC (.int 0))) (aA (Y7 Aq (aG 7) (mC (.int 1))) (aA (Y7 Aq (aG 7) (mC (.int 2))) aN))))) (aA (kZ (aA (mC (.str "on")) (aA (Y7 Aq (aG 5) (mC (.int 0))) (aA (Y7 Aq (aG 7) (mC (.int 0))) aN)))) aN))))) (YM 6))
  (jx (cJ (Y7 Ji (aG 4) (gj aN))) (mY (zX dO (aG 6) (aA (kZ (aA (mC (.str "touch")) (aA (Y7 Aq (aG 7) (mC (.int 0))) (aA (Y7 Aq (aG 4) (Ow Jx (mC (.int 1)))) aN)))) aN))) dJ))) dJ)
  (jZ aeP E)))))))
def lu:AP:=pY aY
def qu:AP:=Fx 2 2 false λE=>
  (fD (uy gU (mC (.str " ")) (aA (Y7 cM (gj (aA (Y7 Aq (aG 0) (mC (.int 0))) aN)) (Fq G5 [1] (LQ (Gq qL (aG 0) (d7 (mC (.int 1))) cB)) qP (Y7 Aq (aG 1) (aG 0)))) aN)))
def jg:AP:=qu
def nG (aeP:AP)(E:Ba):MS:=
  (fD (Y7 Aq (gj (aA (mC .non) (aA (mC (.int 7)) (aA (mC (.bl true)) (aA (gj (aA (aG 8) aN)) (aA (kZ aN) (aA (kZ (aA (mC (.str "claim")) aN)) aN))))))) (bN aeP E (aA (aG 0) (aA (mC (.int 6)) aN)))))
def nu (aeP:AP)(E:Ba):MS:=
  (bU (jx (cJ (Y7 Jj (aG 7) (mC (.int 22)))) (bU (cY (Fq G5 [] (Og (aA (mC (.int 2)) (aA (mC (.int 25)) aN))) qP (Y7 bR (Y7 bR (mC (.str "q")) (CZ Q0 (aA (aG 0) aN))) (mC (.str " join q0 q1")))) (YM 14))
  (fD (uy gU (mC (.str "; ")) (aA (Y7 cM (Y7 cM (gj (aA (mC (.str "q0 free")) (aA (mC (.str "q1 free")) aN))) (aG 14)) (gj (aA (mC (.str "claim same q0 q1")) aN))) aN)))) dJ)
  (nG aeP E))
def nA (aeP:AP)(E:Ba):MS:=
  (bU (jx (cJ (Y7 Jj (aG 7) (mC (.int 21)))) (fD (uy gU (mC (.str "; ")) (aA (Y7 cM (Fq G5 [] (fP (aA (mC (.int 8)) aN)) qP (Y7 bR (Y7 bR (mC (.str "q")) (CZ Q0 (aA (aG 0) aN))) (mC (.str " free")))) (gj (aA (mC (.str "claim same q0 q1")) aN))) aN))) dJ)
  (nu aeP E))
def j7 (aeP:AP)(E:Ba):MS:=
  (bU (cY (Y7 Aq (aG 3) (mC (.int 0))) (YM 12))
  (bU (cY (Y7 bR (Y7 bR (Y7 bR (mC (.str " ")) (aG 12)) (mC (.str " "))) (aG 12)) (YM 13))
  (bU (cY (gj (aA (mC (.str "claim")) (aA (Y7 bR (mC (.str "claim row")) (aG 13)) (aA (Y7 bR (mC (.str "claim same ")) (aG 12)) aN)))) (YM 9))
  (bU (cY (Y7 cM (aG 9) (gj (aA (Y7 bR (Y7 bR (Y7 bR (mC (.str "claim bunch")) (aG 13)) (mC (.str " "))) (aG 12)) (aA (Y7 bR (mC (.str "claim on")) (aG 13)) aN)))) (YM 9))
  (bU (cY (Y7 cM (aG 9) (gj (aA (Y7 bR (mC (.str "claim parted ")) (aG 12)) (aA (Y7 bR (Y7 bR (Y7 bR (mC (.str "claims row")) (aG 13)) (mC (.str " "))) (aG 12)) (aA (Y7 bR (mC (.str "claim touch")) (aG 13)) aN))))) (YM 9))
  (bU (cY (Y7 cM (aG 9) (gj (aA (Y7 bR (Y7 bR (Y7 bR (mC (.str "claim row")) (aG 13)) (mC (.str " "))) (aG 4)) aN))) (YM 9))
  (bU (jx (cJ (Y7 kLt (aG 7) (mC (.int 21)))) (fD (uy gU (mC (.str "; ")) (aA (Y7 cM (aG 1) (gj (aA (Y7 Aq (aG 9) (bN aeP E (aA (aG 0) (aA (mC (.int 9)) aN)))) aN))) aN))) dJ)
  (nA aeP E))))))))
def p8 (aeP:AP)(E:Ba):MS:=
  (bU (jx (cJ (Y7 kLt (aG 7) (mC (.int 18)))) (bU (cY (jJ (aA (Y7 bR (Y7 bR (Y7 Aq (aG 1) (aG 5)) (mC (.str " "))) (aG 6)) (aA (aG 6) (aA (Y7 bR (aG 6) (mC (.str " fre"))) (aA (Y7 bR (aG 6) (mC (.str " free"))) aN))))) (YM 10))
  (bU (mY (zX dO (aG 10) (aA (Y7 bR (Y7 bR (Y7 bR (mC (.str "z9z9 join ")) (aG 4)) (mC (.str " "))) (aG 6)) aN)))
  (bU (cY (Y7 Aq (aG 10) (Y7 Dm (aG 7) (mC (.int 13)))) (YM 10))
  (fD (uy gU (mC (.str "; ")) (aA (Y7 cM (Y7 cM (Y7 cM (Gq qL (aG 1) cB (d7 (Y7 cM (aG 5) (mC (.int 1))))) (gj (aA (aG 10) aN))) (Gq qL (aG 1) (d7 (Y7 cM (aG 5) (mC (.int 1)))) cB)) (gj (aA (aG 2) aN))) aN)))))) dJ)
  (j7 aeP E))
def pA (aeP:AP)(E:Ba):MS:=
  (bU (jx (cJ (Y7 kLt (aG 7) (mC (.int 13)))) (bU (cY (Y7 Aq (gj (aA (mC (.str "")) (aA (Y7 bR (mC (.str "A")) (aG 6)) (aA (Y7 bR (mC (.str "1")) (aG 6)) (aA (Y7 Cu (Gq Bf (aG 6) cB (d7 (mC (.int 1)))) (mC (.int 9))) (aA (Y7 bR (Gq Bf (aG 6) cB (d7 (mC (.int 3)))) (mC (.str "-"))) aN)))))) (Y7 Dm (aG 7) (mC (.int 8)))) (YM 10))
  (bU (cY (CZ vK (aA (aG 1) aN)) (YM 11))
  (bU (cY (Y7 bR (aG 10) (Gq Bf (Y7 Aq (aG 1) (aG 5)) (d7 (CZ wC (aA (aG 6) aN))) cB)) (QV (aG 11) (aG 5) wK))
  (fD (uy gU (mC (.str "; ")) (aA (Y7 cM (aG 11) (gj (aA (aG 2) aN))) aN)))))) dJ)
  (p8 aeP E))
def qw (aeP:AP):AP:=Fx 4 15 false λE=>
  (bU (cY (Y7 Aq (Fq G5 [3] (LQ (Fq G5 [] (fP (aA (mC (.int 10)) aN)) qP (Y7 bR (mC (.str "z")) (CZ Q0 (aA (aG 0) aN))))) (cJ (Y7 Ac (aG 0) (aG 1))) (aG 0)) (mC (.int 0))) (YM 4))
  (bU (cY (bN aeP E (aA (aG 0) (aA (CZ Bb (aA (aG 1) aN)) aN))) (YM 5))
  (bU (cY (Y7 Aq (aG 3) (aG 5)) (YM 6))
  (bU (cY (bN aeP E (aA (aG 0) (aA (mC (.int 24)) aN))) (YM 7))
  (bU (cY (uy gU (mC (.str "; ")) (aA (Y7 cM (aG 1) (gj (aA (aG 2) aN))) aN)) (YM 8))
  (bU (jx (cJ (Y7 kLt (aG 7) (mC (.int 8)))) (bU (cY (gj (aA (Y7 bR (mC (.str " ")) (aG 8)) (aA (Y7 Bd (aG 8) (mC (.str " "))) (aA (NT (λa=>Nk a "; " ";") 8) (aA (uy gU (mC (.str "; ")) (aA (aG 1) aN)) aN))))) (YM 9))
  (bU (cY (Y7 cM (aG 9) (gj (aA (uy gU (mC (.str "; ")) (aA (Y7 cM (gj (aA (aG 2) aN)) (aG 1)) aN)) (aA (aG 2) (aA (Y7 Bd (aG 8) (mC (.str "; "))) (aA (NT (λa=>rep1 a " free" " free ") 8) aN)))))) (YM 9))
  (fD (Y7 Aq (aG 9) (aG 7))))) dJ)
  (pA aeP E)))))))
def lB:AP:=qw aY
def lD (aeW:AP)(E:Ba):MS:=
  (fD (mC (.bl false)))
def kY (aeW:AP):AP:=Fx 1 2 true λE=>
  (bU (Xm 1 "EaselError" (λE=>(mY (bN aeW E (aA (aG 0) aN)))) (bU (jx (wJ (Ie (λn=>((Fj n "NoName")||((Fj n "Nothing")||((Fj n "Short")||((Fj n "Stuck")||false))))) (aG 1))) (fD (mC (.bl false))) dJ)
  (fD (u6 (Ie (λn=>(Fj n "NoText")) (aG 1)) (Ie (λn=>true) (aG 1))))))
  (lD aeW E))
def iu:AP:=kY cR
def DY (aeW afb aeR afl afd afk afc afh afj:AP)(E:Ba):MS:=
  (fD (mC (.bl true)))
def Qp (aeW afb aeR afl afd afk afc afh afj:AP):AP:=Fx 1 10 false λE=>
  (bU (cY (bN aeR E (aA (bN afb E (aA (aG 0) (aA (mC (.int 0)) aN))) aN)) (YM 1))
  (bU (cY (bN afd E (aA (aG 0) (aA (mC (.int 2)) (aA (mC (.int 7)) aN)))) (wU 2 (Aa (YM 2) (Aa (YM 3) V7))))
  (bU (cY (bN afl E (aA (aG 1) (aA (CZ Bb (aA (aG 2) aN)) aN))) (YM 4))
  (bU (cY (bN afk E (aA (bN aeR E (aA (bN afb E (aA (aG 0) (aA (mC (.int 1)) aN))) aN)) (aA (aG 3) aN))) (YM 5))
  (bU (cY (Fq (owT 2) [4] (Lp (aA (aG 4) (aA (aG 2) aN))) qP (Y7 bR (Y7 bR (aG 0) (mC (.str " "))) (bN afc E (aA (aG 1) (aA (aG 2) aN))))) (YM 6))
  (bU (cY (Y7 bR (mC (.str "claim ")) (bN afc E (aA (aG 5) (aA (aG 4) aN)))) (YM 7))
  (bU (cY (uy gU (mC (.str "; ")) (aA (Y7 cM (aG 6) (gj (aA (aG 7) aN))) aN)) (YM 8))
  (bU (Dd (LQ (Y7 cM (gj (aA (bN afb E (aA (aG 0) (aA (mC (.int 10)) aN))) aN)) (Gq qL (aG 0) (d7 (mC (.int 11))) (d7 (mC (.int 22)))))) (YM 9) (bU (jx (Ao (wJ (bN afj E (aA (bN afh E (aA (bN aeR E (aA (aG 9) aN)) (aA (aG 6) (aA (aG 7) (aA (aG 4) aN))))) aN)))) (fD (mC (.bl false))) dJ)
  (jx (cJ (Y7 Ul (bN aeW E (aA (aG 8) aN)) (kZ (aA (aG 2) (aA (aG 4) (aA (aG 5) aN)))))) (fD (mC (.bl false))) dJ)))
  (DY aeW afb aeR afl afd afk afc afh afj E)))))))))
def Jb:AP:=Qp cR eE iW lN oW lu jg lB iu
structure Ad where
 f_is_whole:Addr
 d_is_whole:DW
 f_begins_with_word:Addr
 d_begins_with_word:DW
 f_are_of_sorts:Addr
 d_are_of_sorts:DW
 f_free_rows:Addr
 d_free_rows:DW
 f_is_drawing:Addr
 d_is_drawing:DW
 f_sort_of:Addr
 d_sort_of:DW
 f_sorts_of:Addr
 d_sorts_of:DW
 f_is_claim:Addr
 d_is_claim:DW
 f_is_name:Addr
 d_is_name:DW
 f_with_numbers:Addr
 d_with_numbers:DW
 f_read_rows:Addr
 d_read_rows:DW
 f_read_drawing:Addr
 d_read_drawing:DW
 f_l_cell_at:Addr
 d_l_cell_at:DW
 f_l_bag:Addr
 d_l_bag:DW
 f_l_draw:Addr
 d_l_draw:DW
 f_l_names:Addr
 d_l_names:DW
 f_l_row:Addr
 d_l_row:DW
 f_l_sort:Addr
 d_l_sort:DW
 f_l_rows:Addr
 d_l_rows:DW
 f_l_claim:Addr
 d_l_claim:DW
 f_l_words:Addr
 d_l_words:DW
 f_l_wrong:Addr
 d_l_wrong:DW
 f_l_refused:Addr
 d_l_refused:DW
 f_law:Addr
 d_law:DW
 a_MADE:Addr
 a_TAKEN:Addr
 a_CLAIMED:Addr
 a_MOST_ROWS:Tok
 a_MOST_FREE:Tok
 a_FIGURES:Tok
 a_SMALL_LETTERS:Tok
 a_MOST_SIGNS:Tok
 x_EaselError:Addr
 x_Nothing:Addr
 x_Stuck:Addr
 x_NoText:Addr
 x_NoName:Addr
 x_Short:Addr
structure Txt (w:Av) (K:Zf) (mg:Str->Option JI) (t:Ad):Prop where
 F_is_whole:G8 K "is_whole" "is_whole" jG t.f_is_whole t.d_is_whole
 jH:mg "is_whole" = Dn (.ref t.f_is_whole)
 b_is_whole:Binds K t.d_is_whole ["thing"] []
 F_begins_with_word:G8 K "begins_with_word" "begins_with_word" dB t.f_begins_with_word t.d_begins_with_word
 cg:mg "begins_with_word" = Dn (.ref t.f_begins_with_word)
 b_begins_with_word:Binds K t.d_begins_with_word ["thing", "words"] []
 F_are_of_sorts:G8 K "are_of_sorts" "are_of_sorts" eU t.f_are_of_sorts t.d_are_of_sorts
 dh:mg "are_of_sorts" = Dn (.ref t.f_are_of_sorts)
 b_are_of_sorts:Binds K t.d_are_of_sorts ["sorts", "numbers", "due"] []
 F_free_rows:G8 K "free_rows" "free_rows" iz t.f_free_rows t.d_free_rows
 gP:mg "free_rows" = Dn (.ref t.f_free_rows)
 b_free_rows:Binds K t.d_free_rows ["rows"] []
 F_is_drawing:G8 K "is_drawing" "is_drawing" fU t.f_is_drawing t.d_is_drawing
 fW:mg "is_drawing" = Dn (.ref t.f_is_drawing)
 b_is_drawing:Binds K t.d_is_drawing ["thing"] []
 F_sort_of:G8 K "sort_of" "sort_of" mG t.f_sort_of t.d_sort_of
 mz:mg "sort_of" = Dn (.ref t.f_sort_of)
 b_sort_of:Binds K t.d_sort_of ["rows", "k"] []
 F_sorts_of:G8 K "sorts_of" "sorts_of" jD t.f_sorts_of t.d_sorts_of
 jz:mg "sorts_of" = Dn (.ref t.f_sorts_of)
 b_sorts_of:Binds K t.d_sorts_of ["rows"] []
 F_is_claim:G8 K "is_claim" "is_claim" jB t.f_is_claim t.d_is_claim
 jy:mg "is_claim" = Dn (.ref t.f_is_claim)
 b_is_claim:Binds K t.d_is_claim ["rows", "thing"] []
 F_is_name:G8 K "is_name" "is_name" mq t.f_is_name t.d_is_name
 lH:mg "is_name" = Dn (.ref t.f_is_name)
 b_is_name:Binds K t.d_is_name ["text"] []
 F_with_numbers:G8 K "with_numbers" "with_numbers" eG t.f_with_numbers t.d_with_numbers
 dj:mg "with_numbers" = Dn (.ref t.f_with_numbers)
 b_with_numbers:Binds K t.d_with_numbers ["words", "names"] []
 F_read_rows:G8 K "read_rows" "read_rows" gM t.f_read_rows t.d_read_rows
 iw:mg "read_rows" = Dn (.ref t.f_read_rows)
 b_read_rows:Binds K t.d_read_rows ["lines"] []
 F_read_drawing:G8 K "read_drawing" "read_drawing" eN t.f_read_drawing t.d_read_drawing
 cR:mg "read_drawing" = Dn (.ref t.f_read_drawing)
 b_read_drawing:Binds K t.d_read_drawing ["text"] []
 F_l_cell_at:G8 K "_law_cell_at" "_law_cell_at" iB t.f_l_cell_at t.d_l_cell_at
 eE:mg "_law_cell_at" = Dn (.ref t.f_l_cell_at)
 b_l_cell_at:Binds K t.d_l_cell_at ["_law_script", "_law_k"] []
 F_l_bag:G8 K "_law_bag" "_law_bag" tZ t.f_l_bag t.d_l_bag
 iW:mg "_law_bag" = Dn (.ref t.f_l_bag)
 b_l_bag:Binds K t.d_l_bag ["_law_cell"] []
 F_l_draw:G8 K "_law_draw" "_law_draw" oY t.f_l_draw t.d_l_draw
 aY:mg "_law_draw" = Dn (.ref t.f_l_draw)
 b_l_draw:Binds K t.d_l_draw ["_law_bag_here", "_law_many"] []
 F_l_names:G8 K "_law_names" "_law_names" lK t.f_l_names t.d_l_names
 lN:mg "_law_names" = Dn (.ref t.f_l_names)
 b_l_names:Binds K t.d_l_names ["_law_bag_here", "_law_many"] []
 F_l_row:G8 K "_law_row" "_law_row" sE t.f_l_row t.d_l_row
 tM:mg "_law_row" = Dn (.ref t.f_l_row)
 b_l_row:Binds K t.d_l_row ["_law_bag_here", "_law_sorts", "_law_free"] []
 F_l_sort:G8 K "_law_sort" "_law_sort" oH t.f_l_sort t.d_l_sort
 oM:mg "_law_sort" = Dn (.ref t.f_l_sort)
 b_l_sort:Binds K t.d_l_sort ["_law_word"] []
 F_l_rows:G8 K "_law_rows" "_law_rows" oU t.f_l_rows t.d_l_rows
 oW:mg "_law_rows" = Dn (.ref t.f_l_rows)
 b_l_rows:Binds K t.d_l_rows ["_law_script", "_law_first", "_law_most"] []
 F_l_claim:G8 K "_law_claim" "_law_claim" lZ t.f_l_claim t.d_l_claim
 lu:mg "_law_claim" = Dn (.ref t.f_l_claim)
 b_l_claim:Binds K t.d_l_claim ["_law_bag_here", "_law_sorts"] []
 F_l_words:G8 K "_law_words" "_law_words" lR t.f_l_words t.d_l_words
 jg:mg "_law_words" = Dn (.ref t.f_l_words)
 b_l_words:Binds K t.d_l_words ["_law_row_here", "_law_names_here"] []
 F_l_wrong:G8 K "_law_wrong" "_law_wrong" lQ t.f_l_wrong t.d_l_wrong
 lB:mg "_law_wrong" = Dn (.ref t.f_l_wrong)
 b_l_wrong:Binds K t.d_l_wrong ["_law_bag_here", "_law_lines", "_law_claim_here", "_law_names_here"] []
 F_l_refused:G8 K "_law_refused" "_law_refused" gW t.f_l_refused t.d_l_refused
 iu:mg "_law_refused" = Dn (.ref t.f_l_refused)
 b_l_refused:Binds K t.d_l_refused ["_law_thing"] []
 F_law:G8 K "law" "law" Il t.f_law t.d_law
 Jb:mg "law" = Dn (.ref t.f_law)
 b_law:Binds K t.d_law ["_law_script"] []
 z_ValueError:mg "ValueError" = Go
 z_all:mg "all" = Go
 z_any:mg "any" = Go
 z_bool:mg "bool" = Go
 z_int:mg "int" = Go
 z_isinstance:mg "isinstance" = Go
 z_len:mg "len" = Go
 z_list:mg "list" = Go
 z_range:mg "range" = Go
 z_str:mg "str" = Go
 z_tuple:mg "tuple" = Go
 z_zip:mg "zip" = Go
 g_MADE:mg "MADE" = Dn (.ref t.a_MADE)
 K_MADE:JH w K t.a_MADE jR
 g_TAKEN:mg "TAKEN" = Dn (.ref t.a_TAKEN)
 K_TAKEN:JH w K t.a_TAKEN gw
 g_CLAIMED:mg "CLAIMED" = Dn (.ref t.a_CLAIMED)
 K_CLAIMED:JH w K t.a_CLAIMED dW
 g_MOST_ROWS:mg "MOST_ROWS" = Dn (.int 24 t.a_MOST_ROWS)
 g_MOST_FREE:mg "MOST_FREE" = Dn (.int 7 t.a_MOST_FREE)
 g_FIGURES:mg "FIGURES" = Dn (.str "0123456789" t.a_FIGURES)
 g_SMALL_LETTERS:mg "SMALL_LETTERS" = Dn (.str "abcdefghijklmnopqrstuvwxyz" t.a_SMALL_LETTERS)
 g_MOST_SIGNS:mg "MOST_SIGNS" = Dn (.int 8 t.a_MOST_SIGNS)
 xm_EaselError:mg "EaselError" = Dn (.ref t.x_EaselError)
 xd_EaselError:qR K t.x_EaselError "EaselError" = true
 xm_Nothing:mg "Nothing" = Dn (.ref t.x_Nothing)
 xd_Nothing:qR K t.x_Nothing "Nothing" = true
 xm_Stuck:mg "Stuck" = Dn (.ref t.x_Stuck)
 xd_Stuck:qR K t.x_Stuck "Stuck" = true
 xm_NoText:mg "NoText" = Dn (.ref t.x_NoText)
 xd_NoText:qR K t.x_NoText "NoText" = true
 xc_NoText:tV K t.x_NoText "NoText" = true
 xq_NoText:Ra K t.x_NoText vmB "ValueError.__new__" = true
 xm_NoName:mg "NoName" = Dn (.ref t.x_NoName)
 xd_NoName:qR K t.x_NoName "NoName" = true
 xm_Short:mg "Short" = Dn (.ref t.x_Short)
 xd_Short:qR K t.x_Short "Short" = true
section
variable {P:BK}{w:Av}{K:Zf}{mg:Str->Option JI}{base:Heap}{t:Ad}
theorem xO (T:Txt w K mg t):eY P w K mg base Fl 10 t.f_is_whole t.d_is_whole ["thing"] (lift K jH):=by
 have nd:=pX.nd;refine qN (k:=9) T.F_is_whole pX λcdv A outer s H E hr=>?_;have hc:=hr.calm (by decide);refine aM ?_;exact(bI<|Fi (aQ Jk (by rfl) (by exact T.z_isinstance) Px (ak (dv 0<|pv 0) (ak (dc (j8 (v:=.ty "int") (by rfl) (by exact T.z_int) boot_int<|by rfl)<|λ_ _=>by rw[Zh]) aq<|aj<|by rfl)<|aj<|by rfl) (by decide) (by decide) (aj<|by rfl)<|aB<|by rfl)<|Qj<|Xh<|aQ Jk (by rfl) (by exact T.z_isinstance) Px (ak (dv 0<|pv 0) (ak (dc (j8 (v:=.ty "bool") (by rfl) (by exact T.z_bool) boot_bool<|by rfl)<|λ_ _=>by rw[Zh]) aq<|aj<|by rfl)<|aj<|by rfl) (by decide) (by decide) (aj<|by rfl)<|aB<|by rfl)
theorem fL (T:Txt w K mg t):eY P w K mg base Fl 10 t.f_begins_with_word t.d_begins_with_word ["thing", "words"] (lift K cg):=by
 have nd:=fK.nd;refine qN (k:=9) T.F_begins_with_word fK λcdv A outer s H E hr=>?_;have hc:=hr.calm (by decide);refine aM ?_;exact(bI<|Fi (aQ Jk (by rfl) (by exact T.z_isinstance) Px (ak (dv 0<|pv 0) (ak (dc (j8 (v:=.ty "tuple") (by rfl) (by exact T.z_tuple) boot_tuple<|by rfl)<|λ_ _=>by rw[Zh]) aq<|aj<|by rfl)<|aj<|by rfl) (by decide) (by decide) (aj<|by rfl)<|aB<|by rfl)<|Fi (BW VP (aQ cX (by rfl) (by exact T.z_len) Dr (ak (dv 0<|pv 0) aq<|aj<|by rfl) (by decide) (by decide) (aj<|by rfl)<|aB<|by rfl) aJ<|bH _)<|Fi (aQ Kq (by rfl) (by exact T.z_isinstance) Px (ak (bW (dv 0<|pv 0) aJ (by intro _ _;rfl)) (ak (dc (j8 (v:=.ty "str") (by rfl) (by exact T.z_str) boot_str<|by rfl)<|λ_ _=>by rw[Zh]) aq<|aj<|by rfl)<|aj<|by rfl) (by decide) (by decide) (aj<|by rfl)<|aB<|by rfl)<|Qj<|BW Zd (bW (dv 0<|pv 0) aJ (by intro _ _;rfl)) (dv 1<|pv 1)<|by with_unfolding_all rfl)
theorem jh (T:Txt w K mg t):eY P w K mg base Fl 11 t.f_are_of_sorts t.d_are_of_sorts ["sorts", "numbers", "due"] (lift K dh):=by
 have nd:=iY.nd;refine qN (k:=10) T.F_are_of_sorts iY λcdv A outer s H E hr=>?_;have hc:=hr.calm (by decide);refine aD ?_ ?_;exact(dI (bF (vC<|jM hr) (aQ cX (by rfl) (by exact T.z_len) Dr (ak (dv 1<|pv 1) aq<|aj<|by rfl) (by decide) (by decide) (aj<|by rfl)<|aB<|by rfl) (aQ cX (by rfl) (by exact T.z_len) Dr (ak (dv 2<|pv 2) aq<|aj<|by rfl) (by decide) (by decide) (aj<|by rfl)<|aB<|by rfl)<|bH _) (aM<|bI yQ) bG);refine aD ?_ ?_;exact(vP Tc hc (aeJ (by rfl) (by exact T.z_zip) (ak (dv 1<|pv 1) (ak (dv 2<|pv 2) aq<|aj<|by rfl)<|aj<|by rfl) (aj<|by rfl)<|aB<|by rfl) (Ey hc<|oR (gY<|fC (i:=3) nd (by rfl)<|by exact Or.inl rfl)<|oR (gY<|fC (i:=4) nd (by rfl)<|by exact Or.inl rfl) Bt)<|aM<|dI (oE (jw<|iC<|aZ ((xO T).mono (by decide)) hr (by rfl) (by exact T.jH) (by exact T.F_is_whole.kp) (by exact T.b_is_whole) (ak (dv 3<|pv 3) aq<|aj<|by rfl) (by decide) (aj<|by rfl)<|aB<|by rfl)<|oE (bF yE (dv 3<|pv 3) aJ<|bH _)<|oE (bF Zq (dv 3<|pv 3) (aQ cX (by rfl) (by exact T.z_len) Dr (ak (dv 0<|pv 0) aq<|aj<|by rfl) (by decide) (by decide) (aj<|by rfl)<|aB<|by rfl)<|bH _)<|qI<|bF (vC<|jM hr) (bW (dv 0<|pv 0) (dv 3<|pv 3) (by intro _ _;rfl)) (dv 4<|pv 4)<|bH _).pt (aM<|bI yQ) bG);refine aM ?_;exact(bI yQ)
theorem vQ (T:Txt w K mg t):eY P w K mg base Fl 10 t.f_free_rows t.d_free_rows ["rows"] (lift K gP):=by
 have nd:=nR.nd;refine qN (k:=9) T.F_free_rows nR λcdv A outer s H E hr=>?_;have hc:=hr.calm (by decide);refine aM ?_;exact(bI<|xr [0] hc (bC<|by rfl) fu (fB<|bC<|by rfl) (bZ (by rfl) (by exact T.z_range) (ak (aQ cX (by rfl) (by exact T.z_len) Dr (ak (dv 0<|pv 0) aq<|aj<|by rfl) (by decide) (by decide) (aj<|by rfl)<|aB<|by rfl) aq<|aj<|by rfl)<|d8<|by rfl) (λ_ _ _ _=>(gZ<|bF (IV<|jM hr) (bW (bW (dv 1<|pv 1) (dv 0<|pv 0) (by intro _ _;rfl)) aJ (by intro _ _;rfl)) aP<|bH _))<|λ_ _ _ _=>(dv 0<|pv 0))
theorem sS (T:Txt w K mg t):eY P w K mg base Fl 12 t.f_is_drawing t.d_is_drawing ["thing"] (lift K fW):=by
 have nd:=lX.nd;refine qN (k:=11) T.F_is_drawing lX λcdv A outer s H E hr=>?_;have hc:=hr.calm (by decide);refine aD ?_ ?_;exact(dI (oE (jw<|iC<|aQ Jk (by rfl) (by exact T.z_isinstance) Px (ak (dv 0<|pv 0) (ak (dc (j8 (v:=.ty "list") (by rfl) (by exact T.z_list) boot_list<|by rfl)<|λ_ _=>by rw[Zh]) aq<|aj<|by rfl)<|aj<|by rfl) (by decide) (by decide) (aj<|by rfl)<|aB<|by rfl)<|oE (bF yE (aQ cX (by rfl) (by exact T.z_len) Dr (ak (dv 0<|pv 0) aq<|aj<|by rfl) (by decide) (by decide) (aj<|by rfl)<|aB<|by rfl) aJ<|bH _)<|qI<|bF VP (aQ cX (by rfl) (by exact T.z_len) Dr (ak (dv 0<|pv 0) aq<|aj<|by rfl) (by decide) (by decide) (aj<|by rfl)<|aB<|by rfl) (dc (v:=.int 24) (eF (by rfl) T.g_MOST_ROWS ⟨_,rfl⟩)<|λ_ _=>WQ)<|bH _).pt (aM<|bI yQ) bG);refine aD ?_ ?_;exact(aR (i:=1) nd (by rfl) (by exact Or.inl rfl)<|gG aq);refine aD ?_ ?_;exact(vP Tc hc (jt (dv 0 (pv 0))) (gY (fC (i:=2) nd (by rfl) (by exact Or.inl rfl))) (aD (dI (oE (jw (iC (aZ ((fL T).mono (by decide)) hr (by rfl) (by exact T.cg) (by exact T.F_begins_with_word.kp) (by exact T.b_begins_with_word) (ak (dv 2 (pv 2)) (ak (Dl T.K_TAKEN hc (by rfl) (by exact T.z_list) (by rfl) T.g_TAKEN) aq (aj (by rfl))) (aj (by rfl))) (by decide) (aj (by rfl)) (aB (by rfl))))) (qI (jw (iC (aZ ((jh T).mono (by decide)) hr (by rfl) (by exact T.dh) (by exact T.F_are_of_sorts.kp) (by exact T.b_are_of_sorts) (ak (dv 1 (pv 1)) (ak (nZ (dv 2 (pv 2)) (dg aJ) dY) (ak (Jt T.K_TAKEN (by rfl) T.g_TAKEN (bW (dv 2 (pv 2)) aJ (by intro _ _;rfl)) (by intro _ _;rfl)) aq (aj (by rfl))) (aj (by rfl))) (aj (by rfl))) (by decide) (aj (by rfl)) (aB (by rfl))))))).pt (aM (bI yQ)) bG)
 (aM (iy (fJ (dv 1 (pv 1)) (ak (Jt T.K_MADE (by rfl) T.g_MADE (bW (dv 2 (pv 2)) aJ (by intro _ _;rfl)) (by intro _ _;rfl)) aq (aj (by rfl))) (by rfl) (eZ (by rfl)) (by rfl) (aj (by rfl)) (by rfl))))))
 refine aM ?_;exact(bI<|BW aar (aQ cX (by rfl) (by exact T.z_len) Dr (ak (aZ ((vQ T).mono (by decide)) hr (by rfl) (by exact T.gP) (by exact T.F_free_rows.kp) (by exact T.b_free_rows) (ak (dv 0<|pv 0) aq<|aj<|by rfl) (by decide) (aj<|by rfl)<|aB<|by rfl) aq<|aj<|by rfl) (by decide) (by decide) (aj<|by rfl)<|aB<|by rfl) (dc (v:=.int 7) (eF (by rfl) T.g_MOST_FREE ⟨_,rfl⟩)<|λ_ _=>WQ)<|bH _)
theorem aaF (T:Txt w K mg t):eY P w K mg base Fl 10 t.f_sort_of t.d_sort_of ["rows", "k"] (lift K mz):=by
 have nd:=qZ.nd;refine qN (k:=9) T.F_sort_of qZ λcdv A outer s H E hr=>?_;have hc:=hr.calm (by decide);refine aM ?_;exact(bI<|Jt T.K_MADE (by rfl) T.g_MADE (bW (bW (dv 0<|pv 0) (dv 1<|pv 1) (by intro _ _;rfl)) aJ (by intro _ _;rfl)) (by intro _ _;rfl))
theorem wF (T:Txt w K mg t):eY P w K mg base Fl 11 t.f_sorts_of t.d_sorts_of ["rows"] (lift K jz):=by
 have nd:=pJ.nd;refine qN (k:=10) T.F_sorts_of pJ λcdv A outer s H E hr=>?_;have hc:=hr.calm (by decide);refine aM ?_;exact(bI<|xr [0] hc (bC<|by rfl) fu (fB<|bC<|by rfl) (bZ (by rfl) (by exact T.z_range) (ak (aQ cX (by rfl) (by exact T.z_len) Dr (ak (dv 0<|pv 0) aq<|aj<|by rfl) (by decide) (by decide) (aj<|by rfl)<|aB<|by rfl) aq<|aj<|by rfl)<|d8<|by rfl) (λ_ _ _ _=>dN)<|λ_ _ _ _=>(aZ ((aaF T).mono (by decide)) hr (by rfl) (by exact T.mz) (by exact T.F_sort_of.kp) (by exact T.b_sort_of) (ak (dv 1<|pv 1) (ak (dv 0<|pv 0) aq<|aj<|by rfl)<|aj<|by rfl) (by decide) (aj<|by rfl)<|aB<|by rfl))
theorem wI (T:Txt w K mg t):eY P w K mg base Fl 12 t.f_is_claim t.d_is_claim ["rows", "thing"] (lift K jy):=by
 have nd:=pI.nd;refine qN (k:=11) T.F_is_claim pI λcdv A outer s H E hr=>?_;have hc:=hr.calm (by decide);refine aD ?_ ?_;exact(dI (jw<|iC<|aZ ((fL T).mono (by decide)) hr (by rfl) (by exact T.cg) (by exact T.F_begins_with_word.kp) (by exact T.b_begins_with_word) (ak (dv 1<|pv 1) (ak (Dl T.K_CLAIMED hc (by rfl) (by exact T.z_list) (by rfl) T.g_CLAIMED) aq<|aj<|by rfl)<|aj<|by rfl) (by decide) (aj<|by rfl)<|aB<|by rfl) (aM<|bI yQ) bG);refine aD ?_ ?_;exact(aR (i:=2) nd (by rfl) (by exact Or.inr rfl)<|aZ ((wF T).mono (by decide)) hr (by rfl) (by exact T.jz) (by exact T.F_sorts_of.kp) (by exact T.b_sorts_of) (ak (dv 0<|pv 0) aq<|aj<|by rfl) (by decide) (aj<|by rfl)<|aB<|by rfl);refine aM ?_;exact(bI<|aQ (Wh hc) (by rfl) (by exact T.z_any) boot_any (ak (xr [1,2] hc (bC<|by rfl) fu (fB<|bC<|by rfl) (jt<|Jt T.K_CLAIMED (by rfl) T.g_CLAIMED (bW (dv 1<|pv 1) aJ (by intro _ _;rfl)) (by intro _ _;rfl)) (λ_ _ _ _=>dN)<|λ_ _ _ _=>(aZ ((jh T).mono (by decide)) hr (by rfl) (by exact T.dh) (by exact T.F_are_of_sorts.kp) (by exact T.b_are_of_sorts) (ak (dv 2<|pv 2) (ak (nZ (dv 1<|pv 1) (dg aJ) dY) (ak (dv 0<|pv 0) aq<|aj<|by rfl)<|aj<|by rfl)<|aj<|by rfl) (by decide) (aj<|by rfl)<|aB<|by rfl)) aq<|aj<|by rfl) (by decide) (by decide) (aj<|by rfl)<|aB<|by rfl)
theorem abo (T:Txt w K mg t):eY P w K mg base Fl 10 t.f_is_name t.d_is_name ["text"] (lift K lH):=by
 have nd:=rT.nd;refine qN (k:=9) T.F_is_name rT λcdv A outer s H E hr=>?_;have hc:=hr.calm (by decide);refine aD ?_ ?_;exact(dI (oE (bF yE (aQ Gs (by rfl) (by exact T.z_len) Dr (ak (dv 0<|pv 0) aq<|aj<|by rfl) (by decide) (by decide) (aj<|by rfl)<|aB<|by rfl) aJ<|bH _)<|oE (bF VP (aQ Gs (by rfl) (by exact T.z_len) Dr (ak (dv 0<|pv 0) aq<|aj<|by rfl) (by decide) (by decide) (aj<|by rfl)<|aB<|by rfl) (dc (v:=.int 8) (eF (by rfl) T.g_MOST_SIGNS ⟨_,rfl⟩)<|λ_ _=>WQ)<|bH _)<|qI<|bF Uz (GZ (dv 0<|pv 0) aJ (by intro _ _;rfl)) (dc (v:=.str "abcdefghijklmnopqrstuvwxyz") (eF (by rfl) T.g_SMALL_LETTERS ⟨_,rfl⟩)<|λ_ _=>by rw[Zh])<|by with_unfolding_all rfl).pt (aM<|bI yQ) bG);refine aM ?_;exact(bI<|aQ (Ua hc) (by rfl) (by exact T.z_all) boot_all (ak (xr [] hc (bC<|by rfl) fu (fB<|bC<|by rfl) (Vj<|dv 0<|pv 0) (λ_ _ _ _=>dN)<|λ_ _ _ _=>(BW W2 (dv 0<|pv 0) (cu bK (dc (v:=.str "abcdefghijklmnopqrstuvwxyz") (eF (by rfl) T.g_SMALL_LETTERS ⟨_,rfl⟩)<|λ_ _=>by rw[Zh])<|dc (v:=.str "0123456789") (eF (by rfl) T.g_FIGURES ⟨_,rfl⟩)<|λ_ _=>by rw[Zh])<|by with_unfolding_all rfl)) aq<|aj<|by rfl) (by decide) (by decide) (aj<|by rfl)<|aB<|by rfl)
theorem iM (T:Txt w K mg t):eY P w K mg base (Oq P w) 10 t.f_with_numbers t.d_with_numbers ["words", "names"] (vJ K dj):=by
 have nd:=je.nd;refine Qs (k:=9) T.F_with_numbers je λcdv A outer s H E hr=>?_;have hc:=hr.calm (by decide);refine cW (λ_=>trivial) ?_ ?_;exact(uI (jw<|iC<|aQ (Ua hc) (by rfl) (by exact T.z_all) boot_all (ak (xr [1] hc (bC<|by rfl) fu (fB<|bC<|by rfl) (jt<|nZ (dv 0<|pv 0) (dg aJ) dY) (λ_ _ _ _=>dN)<|λ_ _ _ _=>(BW (Yr<|jM hr) (dv 0<|pv 0) (dv 1<|pv 1)<|by with_unfolding_all rfl)) aq<|aj<|by rfl) (by decide) (by decide) (aj<|by rfl)<|aB<|by rfl) (eO<|jf hc (by rfl) T.xm_NoText T.xq_NoText T.xc_NoText) lO);refine eO ?_;exact(nM<|bI<|cu cI (cG<|ak (bW (dv 0<|pv 0) aJ (by intro _ _;rfl)) aq<|aj<|by rfl)<|jE acO (by rfl) (by exact T.z_tuple) boot_tuple (ak (xr [1] hc (bC<|by rfl) fu (fB<|bC<|by rfl) (jt<|nZ (dv 0<|pv 0) (dg aJ) dY) (λ_ _ _ _=>dN)<|λ_ _ _ _=>(aaN (dv 1<|pv 1) (ak (dv 0<|pv 0) aq<|aj<|by rfl) (by rfl) (eZ<|by rfl) (by rfl) (aj<|by rfl)<|by rfl)) aq<|aj<|by rfl) (by decide) (by decide) (aj<|by rfl)<|aB<|by rfl)
theorem tO (T:Txt w K mg t):eY P w K mg base (Oq P w) 11 t.f_read_rows t.d_read_rows ["lines"] (vJ K iw):=by
 have nd:=nO.nd;refine Qs (k:=10) T.F_read_rows nO λcdv A outer s H E hr=>?_;have hc:=hr.calm (by decide);refine cW (λ_=>trivial) ?_ ?_;exact(nM<|aR (i:=1) nd (by rfl) (by exact Or.inl rfl)<|gG aq);refine cW (λ_=>trivial) ?_ ?_;exact(nM<|aR (i:=2) nd (by rfl) (by exact Or.inl rfl)<|gG aq);refine cW (λ_=>trivial) ?_ ?_;exact(adb PassesOwn.leaving hc (λ_=>trivial) (jt (dv 0 (pv 0))) (gY (fC (i:=3) nd (by rfl) (by exact Or.inl rfl))) (cW (λ_=>trivial) (uI (oE (bF yE (aQ cX (by rfl) (by exact T.z_len) Dr (ak (dv 3 (pv 3)) aq (aj (by rfl))) (by decide) (by decide) (aj (by rfl)) (aB (by rfl))) aJ (bH _)) (oE (jw (iC (aZ ((abo T).mono (by decide)) hr (by rfl) (by exact T.lH) (by exact T.F_is_name.kp) (by exact T.b_is_name) (ak (bW (dv 3 (pv 3)) aJ (by intro _ _;rfl)) aq (aj (by rfl))) (by decide) (aj (by rfl)) (aB (by rfl))))) (qI (bF Zd (bW (dv 3 (pv 3)) aJ (by intro _ _;rfl)) (dv 2 (pv 2)) (by with_unfolding_all rfl))))).pt (eO (jf hc (by rfl) T.xm_NoText T.xq_NoText T.xc_NoText)) lO)
 (cW (λ_=>trivial) (xW (adM (λ_=>trivial) (dv 1 (pv 1)) (abC (uc ((iM T).mono (by decide)) hr (by rfl) (by exact T.dj) (by exact T.F_with_numbers.kp) (by exact T.b_with_numbers) (ak (nZ (dv 3 (pv 3)) (dg aJ) dY) (ak (dv 2 (pv 2)) aq (aj (by rfl))) (aj (by rfl))) (by decide) (aj (by rfl)) (aB (by rfl))) aq (aj (by rfl))) (by rfl) (eZ (by rfl)) (by rfl) (aj (by rfl)) (by rfl)))
 (eO (nM (iy (fJ (dv 2 (pv 2)) (ak (bW (dv 3 (pv 3)) aJ (by intro _ _;rfl)) aq (aj (by rfl))) (by rfl) (eZ (by rfl)) (by rfl) (aj (by rfl)) (by rfl))))))))
 refine eO ?_;exact(nM<|bI<|cG<|ak (dv 1<|pv 1) (ak (dv 2<|pv 2) aq<|aj<|by rfl)<|aj<|by rfl)
theorem iI (T:Txt w K mg t):eY P w K mg base (Oq P w) 13 t.f_read_drawing t.d_read_drawing ["text"] (vJ K cR):=by
 have nd:=iZ.nd;refine Qs (k:=12) T.F_read_drawing iZ λcdv A outer s H E hr=>?_;have hc:=hr.calm (by decide);refine cW (λ_=>trivial) ?_ ?_;exact(uI (jw<|iC<|aQ Kq (by rfl) (by exact T.z_isinstance) Px (ak (dv 0<|pv 0) (ak (dc (j8 (v:=.ty "str") (by rfl) (by exact T.z_str) boot_str<|by rfl)<|λ_ _=>by rw[Zh]) aq<|aj<|by rfl)<|aj<|by rfl) (by decide) (by decide) (aj<|by rfl)<|aB<|by rfl) (eO<|jf hc (by rfl) T.xm_NoText T.xq_NoText T.xc_NoText) lO);refine cW (λ_=>trivial) ?_ ?_;exact(nM<|qd [] (i:=1) nd (by rfl) (by exact Or.inl rfl) hc (bC<|by rfl) fu (fB<|bC<|by rfl) (jt<|lW PySem.F.slot_str_split PySem.F.type_str_split yR s_split (dv 0<|pv 0) (ak aP aq<|aj<|by rfl) (by rfl) (eZ<|by rfl) (by rfl) (aj<|by rfl)<|by rfl) (λ_ _ _ _=>dN)<|λ_ _ _ _=>(lW PySem.F.slot_str_split PySem.F.type_str_split yR s_split (dv 0<|pv 0) (ak aP aq<|aj<|by rfl) (by rfl) (eZ<|by rfl) (by rfl) (aj<|by rfl)<|by rfl));refine cW (λ_=>trivial) ?_ ?_;exact(CW (i:=2) nd (by rfl) (by exact Or.inl rfl)<|uc ((tO T).mono (by decide)) hr (by rfl) (by exact T.iw) (by exact T.F_read_rows.kp) (by exact T.b_read_rows) (ak (nZ (dv 1<|pv 1) dY<|dg<|wg aJ) aq<|aj<|by rfl) (by decide) (aj<|by rfl)<|aB<|by rfl);refine cW (λ_=>trivial) ?_ ?_;exact(nM<|aR (i:=3) nd (by rfl) (by exact Or.inl rfl)<|bW (dv 1<|pv 1) (wg aJ) (by intro _ _;rfl));refine cW (λ_=>trivial) ?_ ?_;exact(uI (oE (bF yE (aQ cX (by rfl) (by exact T.z_len) Dr (ak (dv 3<|pv 3) aq<|aj<|by rfl) (by decide) (by decide) (aj<|by rfl)<|aB<|by rfl) aJ<|bH _)<|qI<|bF (vC<|jM hr) (bW (dv 3<|pv 3) aJ (by intro _ _;rfl)) aP<|bH _).pt (eO<|jf hc (by rfl) T.xm_NoText T.xq_NoText T.xc_NoText) lO);refine cW (λ_=>trivial) ?_ ?_;exact(CW (i:=4) nd (by rfl) (by exact Or.inl rfl)<|uc ((iM T).mono (by decide)) hr (by rfl) (by exact T.dj) (by exact T.F_with_numbers.kp) (by exact T.b_with_numbers) (ak (nZ (dv 3<|pv 3) (dg aJ) dY) (ak (bW (dv 2<|pv 2) aJ (by intro _ _;rfl)) aq<|aj<|by rfl)<|aj<|by rfl) (by decide) (aj<|by rfl)<|aB<|by rfl);refine cW (λ_=>trivial) ?_ ?_;exact(uI (oE (jw<|iC<|aZ ((sS T).mono (by decide)) hr (by rfl) (by exact T.fW) (by exact T.F_is_drawing.kp) (by exact T.b_is_drawing) (ak (bW (dv 2<|pv 2) aJ (by intro _ _;rfl)) aq<|aj<|by rfl) (by decide) (aj<|by rfl)<|aB<|by rfl)<|qI<|jw<|iC<|aZ ((wI T).mono (by decide)) hr (by rfl) (by exact T.jy) (by exact T.F_is_claim.kp) (by exact T.b_is_claim) (ak (bW (dv 2<|pv 2) aJ (by intro _ _;rfl)) (ak (dv 4<|pv 4) aq<|aj<|by rfl)<|aj<|by rfl) (by decide) (aj<|by rfl)<|aB<|by rfl).pt (eO<|jf hc (by rfl) T.xm_NoText T.xq_NoText T.xc_NoText) lO);refine eO ?_;exact(nM<|bI<|cG<|ak (bW (dv 2<|pv 2) aJ (by intro _ _;rfl)) (ak (bW (dv 2<|pv 2) aJ (by intro _ _;rfl)) (ak (dv 4<|pv 4) aq<|aj<|by rfl)<|aj<|by rfl)<|aj<|by rfl)
theorem pP (T:Txt w K mg t):eY P w K mg base Fl 13 t.f_read_drawing t.d_read_drawing ["text"] (lift K cR):=(iI T).tame
theorem jr (T:Txt w K mg t):eY P w K mg base Fl 10 t.f_l_cell_at t.d_l_cell_at ["_law_script", "_law_k"] (lift K eE):=by
 have nd:=nU.nd;refine qN (k:=9) T.F_l_cell_at nU λcdv A outer s H E hr=>?_;have hc:=hr.calm (by decide);refine aD ?_ ?_;exact(dI (bF yE (dv 1<|pv 1) (aQ cX (by rfl) (by exact T.z_len) Dr (ak (dv 0<|pv 0) aq<|aj<|by rfl) (by decide) (by decide) (aj<|by rfl)<|aB<|by rfl)<|bH _) (aM<|bI<|bW (dv 0<|pv 0) (dv 1<|pv 1) (by intro _ _;rfl)) bG);refine aM ?_;exact(bI aJ)
theorem oO (T:Txt w K mg t):eY P w K mg base Fl 10 t.f_l_bag t.d_l_bag ["_law_cell"] (lift K iW):=by
 have nd:=yM.nd;refine qN (k:=9) T.F_l_bag yM λcdv A outer s H E hr=>?_;have hc:=hr.calm (by decide);refine aD ?_ ?_;exact(dI (bF yE (dv 0<|pv 0) (cu Xo aJ aJ)<|bH _) (aM<|bI<|gG<|ak aJ (ak (cu cI (cu vp (dv 0<|pv 0) aJ) aJ) aq<|aj<|by rfl)<|aj<|by rfl) bG);refine aM ?_;exact(bI<|gG<|ak (dv 0<|pv 0) (ak aJ aq<|aj<|by rfl)<|aj<|by rfl)
theorem bw (T:Txt w K mg t):eY P w K mg base Fl 10 t.f_l_draw t.d_l_draw ["_law_bag_here", "_law_many"] (lift K aY):=by
 have nd:=v8.nd;refine qN (k:=9) T.F_l_draw v8 λcdv A outer s H E hr=>?_;have hc:=hr.calm (by decide);refine aD ?_ ?_;exact(dI (bF VP (bW (dv 0 (pv 0)) aJ (by intro _ _;rfl)) aJ (bH _)) (aD (aR (i:=2) nd (by rfl) (by exact Or.inl rfl) (cu vp (bW (dv 0 (pv 0)) aJ (by intro _ _;rfl)) (dv 1 (pv 1))))
 (aD (yH (cu Qt (bW (dv 0 (pv 0)) aJ (by intro _ _;rfl)) (dv 1 (pv 1))) (Dz (dv 0 (pv 0)) aJ set_list sV))
 (aM (bI (dv 2 (pv 2)))))) bG)
 refine aD ?_ ?_;exact(yH (cu vp (cu cI (cu Sx (bW (dv 0<|pv 0) aJ (by intro _ _;rfl)) aJ) aJ) aJ)<|Dz (dv 0<|pv 0) aJ set_list sV);refine aM ?_;exact(bI<|cu vp (cu Qt (cu vp (cu Sx (bW (dv 0<|pv 0) aJ (by intro _ _;rfl))<|cu cI (cu Qt (bW (dv 0<|pv 0) aJ (by intro _ _;rfl)) aJ) aJ) aJ) aJ)<|dv 1<|pv 1)
theorem zal (T:Txt w K mg t):eY P w K mg base Fl 11 t.f_l_names t.d_l_names ["_law_bag_here", "_law_many"] (lift K lN):=by
 have nd:=qW.nd;refine qN (k:=10) T.F_l_names qW λcdv A outer s H E hr=>?_;have hc:=hr.calm (by decide);refine aD ?_ ?_;exact(aR (i:=2) nd (by rfl) (by exact Or.inr rfl) aP);refine aD ?_ ?_;exact(aR (i:=3) nd (by rfl) (by exact Or.inl rfl)<|cu cI aJ<|aZ ((bw T).mono (by decide)) hr (by rfl) (by exact T.aY) (by exact T.F_l_draw.kp) (by exact T.b_l_draw) (ak (dv 0<|pv 0) (ak aJ aq<|aj<|by rfl)<|aj<|by rfl) (by decide) (aj<|by rfl)<|aB<|by rfl);refine aD ?_ ?_;exact(aR (i:=4) nd (by rfl) (by exact Or.inr rfl)<|aZ ((bw T).mono (by decide)) hr (by rfl) (by exact T.aY) (by exact T.F_l_draw.kp) (by exact T.b_l_draw) (ak (dv 0<|pv 0) (ak (dv 3<|pv 3) aq<|aj<|by rfl)<|aj<|by rfl) (by decide) (aj<|by rfl)<|aB<|by rfl);refine aD ?_ ?_;exact(aR (i:=5) nd (by rfl) (by exact Or.inr rfl)<|GZ (dv 2<|pv 2) (aZ ((bw T).mono (by decide)) hr (by rfl) (by exact T.aY) (by exact T.F_l_draw.kp) (by exact T.b_l_draw) (ak (dv 0<|pv 0) (ak aJ aq<|aj<|by rfl)<|aj<|by rfl) (by decide) (aj<|by rfl)<|aB<|by rfl) (by intro _ _;rfl));refine aD ?_ ?_;exact(vP Tc hc (bZ (by rfl) (by exact T.z_range) (ak (cu Dq (dv 3<|pv 3) aJ) aq<|aj<|by rfl)<|d8<|by rfl) (gY<|fC (i:=6) nd (by rfl)<|by exact Or.inl rfl)<|aM<|aR (i:=5) nd (by rfl) (by exact Or.inr rfl)<|cu bK (dv 5<|pv 5)<|GZ (cu bK (dv 2<|pv 2) aP) (aZ ((bw T).mono (by decide)) hr (by rfl) (by exact T.aY) (by exact T.F_l_draw.kp) (by exact T.b_l_draw) (ak (dv 0<|pv 0) (ak aJ aq<|aj<|by rfl)<|aj<|by rfl) (by decide) (aj<|by rfl)<|aB<|by rfl) (by intro _ _;rfl));refine aD ?_ ?_;exact(aR (i:=7) nd (by rfl) (by exact Or.inr rfl)<|aZ ((bw T).mono (by decide)) hr (by rfl) (by exact T.aY) (by exact T.F_l_draw.kp) (by exact T.b_l_draw) (ak (dv 0<|pv 0) (ak aJ aq<|aj<|by rfl)<|aj<|by rfl) (by decide) (aj<|by rfl)<|aB<|by rfl);refine aM ?_;exact(bI<|xr [2,4,5,7] hc (bC<|by rfl) fu (fB<|bC<|by rfl) (bZ (by rfl) (by exact T.z_range) (ak (dv 1<|pv 1) aq<|aj<|by rfl)<|d8<|by rfl) (λ_ _ _ _=>dN)<|λ_ _ _ _=>(cu bK (cu bK (Ft (dv 3<|pv 3) dY<|dg<|dv 2<|pv 2)<|GZ (dv 1<|pv 1) (cu vp (cu cI (dv 4<|pv 4)<|dv 0<|pv 0) aJ) (by intro _ _;rfl))<|Ft (dv 3<|pv 3) (dg<|cu cI (dv 2<|pv 2) aJ) dY))
theorem zaG (T:Txt w K mg t):eY P w K mg base Fl 11 t.f_l_row t.d_l_row ["_law_bag_here", "_law_sorts", "_law_free"] (lift K tM):=by
 have nd:=xY.nd;refine qN (k:=10) T.F_l_row xY λcdv A outer s H E hr=>?_;have hc:=hr.calm (by decide);refine aD ?_ ?_;exact(aR (i:=3) nd (by rfl) (by exact Or.inr rfl)<|xr [1] hc (bC<|by rfl) fu (fB<|bC<|by rfl) (bZ (by rfl) (by exact T.z_range) (ak (aQ cX (by rfl) (by exact T.z_len) Dr (ak (dv 1<|pv 1) aq<|aj<|by rfl) (by decide) (by decide) (aj<|by rfl)<|aB<|by rfl) aq<|aj<|by rfl)<|d8<|by rfl) (λ_ _ _ _=>(gZ<|bF (IV<|jM hr) (bW (dv 1<|pv 1) (dv 0<|pv 0) (by intro _ _;rfl)) aP<|bH _))<|λ_ _ _ _=>(dv 0<|pv 0));refine aD ?_ ?_;exact(qd [1] (i:=4) nd (by rfl) (by exact Or.inl rfl) hc (bC<|by rfl) fu (fB<|bC<|by rfl) (bZ (by rfl) (by exact T.z_range) (ak (aQ cX (by rfl) (by exact T.z_len) Dr (ak (dv 1<|pv 1) aq<|aj<|by rfl) (by decide) (by decide) (aj<|by rfl)<|aB<|by rfl) aq<|aj<|by rfl)<|d8<|by rfl) (λ_ _ _ _=>(gZ<|bF (IV<|jM hr) (bW (dv 1<|pv 1) (dv 0<|pv 0) (by intro _ _;rfl)) aP<|bH _))<|λ_ _ _ _=>(dv 0<|pv 0));refine aD ?_ ?_;exact(qd [1] (i:=5) nd (by rfl) (by exact Or.inl rfl) hc (bC<|by rfl) fu (fB<|bC<|by rfl) (bZ (by rfl) (by exact T.z_range) (ak (aQ cX (by rfl) (by exact T.z_len) Dr (ak (dv 1<|pv 1) aq<|aj<|by rfl) (by decide) (by decide) (aj<|by rfl)<|aB<|by rfl) aq<|aj<|by rfl)<|d8<|by rfl) (λ_ _ _ _=>(gZ<|bF (IV<|jM hr) (bW (dv 1<|pv 1) (dv 0<|pv 0) (by intro _ _;rfl)) aP<|bH _))<|λ_ _ _ _=>(dv 0<|pv 0));refine aD ?_ ?_;exact(aR (i:=6) nd (by rfl) (by exact Or.inl rfl)<|gG aq);refine aD ?_ ?_;first
 | (with_reducible exact(dI (bF yE (dv 2 (by with_unfolding_all exact pv 2)) aJ (by with_unfolding_all exact bH _)) (aM (aR (hs:=by with_unfolding_all rfl) (hf:=by with_unfolding_all first|exact .inl rfl|exact .inr rfl) (i:=6) (by with_unfolding_all exact nd) (by with_unfolding_all rfl) (by with_unfolding_all exact Or.inl rfl) (gG (ak (cG (ak aP aq (aj (by with_unfolding_all rfl)))) (ak (cG (ak aP aq (aj (by with_unfolding_all rfl)))) aq (aj (by with_unfolding_all rfl))) (aj (by with_unfolding_all rfl)))))) bG))
 | (exact(dI (bF yE (dv 2 (pv 2)) aJ (bH _)) (aM (aR (i:=6) nd (by rfl) (by exact Or.inl rfl) (gG (ak (cG (ak aP aq (aj (by rfl)))) (ak (cG (ak aP aq (aj (by rfl)))) aq (aj (by rfl))) (aj (by rfl)))))) bG))
 refine aD ?_ ?_;first
 | (with_reducible exact(dI (bF (vC (by with_unfolding_all exact jM hr)) (dv 3 (by with_unfolding_all exact pv 3)) (cA aq) (by with_unfolding_all exact bH _)) (aD (aR (hs:=by with_unfolding_all rfl) (hf:=by with_unfolding_all first|exact .inl rfl|exact .inr rfl) (i:=7) (by with_unfolding_all exact nd) (by with_unfolding_all rfl) (by with_unfolding_all exact Or.inl rfl) (bW (dv 3 (by with_unfolding_all exact pv 3)) (aZ (k:=10) (by with_unfolding_all exact(bw T).mono (by decide)) (by with_unfolding_all exact hr) (by with_unfolding_all rfl) (by with_unfolding_all exact T.aY) (by with_unfolding_all exact T.F_l_draw.kp) (by with_unfolding_all exact T.b_l_draw) (ak (dv 0 (by with_unfolding_all exact pv 0)) (ak (aQ cX (by with_unfolding_all rfl) (by with_unfolding_all exact T.z_len) Dr (ak (dv 3 (by with_unfolding_all exact pv 3)) aq (aj (by with_unfolding_all rfl))) (by decide) (by decide) (aj (by with_unfolding_all rfl)) (aB (by with_unfolding_all rfl))) aq (aj (by with_unfolding_all rfl))) (aj (by with_unfolding_all rfl))) (by decide) (aj (by with_unfolding_all rfl)) (aB (by with_unfolding_all rfl))) (by with_unfolding_all (intro _ _;rfl))))
 (aD (aR (hs:=by with_unfolding_all rfl) (hf:=by with_unfolding_all first|exact .inl rfl|exact .inr rfl) (i:=8) (by with_unfolding_all exact nd) (by with_unfolding_all rfl) (by with_unfolding_all exact Or.inl rfl) (bW (dv 3 (by with_unfolding_all exact pv 3)) (aZ (k:=10) (by with_unfolding_all exact(bw T).mono (by decide)) (by with_unfolding_all exact hr) (by with_unfolding_all rfl) (by with_unfolding_all exact T.aY) (by with_unfolding_all exact T.F_l_draw.kp) (by with_unfolding_all exact T.b_l_draw) (ak (dv 0 (by with_unfolding_all exact pv 0)) (ak (aQ cX (by with_unfolding_all rfl) (by with_unfolding_all exact T.z_len) Dr (ak (dv 3 (by with_unfolding_all exact pv 3)) aq (aj (by with_unfolding_all rfl))) (by decide) (by decide) (aj (by with_unfolding_all rfl)) (aB (by with_unfolding_all rfl))) aq (aj (by with_unfolding_all rfl))) (aj (by with_unfolding_all rfl))) (by decide) (aj (by with_unfolding_all rfl)) (aB (by with_unfolding_all rfl))) (by with_unfolding_all (intro _ _;rfl))))
 (aD (qd (hsw:=by with_unfolding_all rfl) (hf:=by with_unfolding_all first|exact .inl rfl|exact .inr rfl) (hs:=by with_unfolding_all (intro _;rfl)) [3] (i:=9) (by with_unfolding_all exact nd) (by with_unfolding_all rfl) (by with_unfolding_all exact Or.inl rfl) (by with_unfolding_all exact hc) (by with_unfolding_all exact bC rfl) fu (fB (by with_unfolding_all exact bC rfl)) (bZ (by with_unfolding_all rfl) (by with_unfolding_all exact T.z_range) (ak aJ aq (aj (by with_unfolding_all rfl))) (d8 (by with_unfolding_all rfl))) (λ_ _ _ _=>dN) (λ_ _ _ _=>(bW (dv 1 (by with_unfolding_all exact pv 1)) (cu Dq (wg aJ) (cu vp (dv 0 (by with_unfolding_all exact pv 0)) (aQ cX (by with_unfolding_all rfl) (by with_unfolding_all exact T.z_len) Dr (ak (dv 1 (by with_unfolding_all exact pv 1)) aq (aj (by with_unfolding_all rfl))) (by decide) (by decide) (aj (by with_unfolding_all rfl)) (aB (by with_unfolding_all rfl))))) (by with_unfolding_all (intro _ _;rfl)))))
 (aD (aR (hs:=by with_unfolding_all rfl) (hf:=by with_unfolding_all first|exact .inl rfl|exact .inr rfl) (i:=6) (by with_unfolding_all exact nd) (by with_unfolding_all rfl) (by with_unfolding_all exact Or.inl rfl) (cu jO (dv 6 (by with_unfolding_all exact pv 6)) (cA (ak (cG (ak aP (ak (dv 7 (by with_unfolding_all exact pv 7)) (ak (dv 8 (by with_unfolding_all exact pv 8)) aq (aj (by with_unfolding_all rfl))) (aj (by with_unfolding_all rfl))) (aj (by with_unfolding_all rfl)))) (ak (cG (ak aP (ak (dv 8 (by with_unfolding_all exact pv 8)) (ak (dv 7 (by with_unfolding_all exact pv 7)) aq (aj (by with_unfolding_all rfl))) (aj (by with_unfolding_all rfl))) (aj (by with_unfolding_all rfl)))) (ak (cG (ak aP (ak (dv 7 (by with_unfolding_all exact pv 7)) (ak (dv 8 (by with_unfolding_all exact pv 8)) (ak (bW (dv 9 (by with_unfolding_all exact pv 9)) aJ (by with_unfolding_all (intro _ _;rfl))) (ak (bW (dv 9 (by with_unfolding_all exact pv 9)) aJ (by with_unfolding_all (intro _ _;rfl))) (ak (bW (dv 9 (by with_unfolding_all exact pv 9)) aJ (by with_unfolding_all (intro _ _;rfl))) aq (aj (by with_unfolding_all rfl))) (aj (by with_unfolding_all rfl))) (aj (by with_unfolding_all rfl))) (aj (by with_unfolding_all rfl))) (aj (by with_unfolding_all rfl))) (aj (by with_unfolding_all rfl)))) aq (aj (by with_unfolding_all rfl))) (aj (by with_unfolding_all rfl))) (aj (by with_unfolding_all rfl))))))
 (aM (dI (bF (vC (by with_unfolding_all exact jM hr)) (dv 5 (by with_unfolding_all exact pv 5)) (cA aq) (by with_unfolding_all exact bH _)) (aM (aR (hs:=by with_unfolding_all rfl) (hf:=by with_unfolding_all first|exact .inl rfl|exact .inr rfl) (i:=6) (by with_unfolding_all exact nd) (by with_unfolding_all rfl) (by with_unfolding_all exact Or.inl rfl) (cu jO (dv 6 (by with_unfolding_all exact pv 6)) (cA (ak (cG (ak aP (ak (bW (dv 5 (by with_unfolding_all exact pv 5)) (wg aJ) (by with_unfolding_all (intro _ _;rfl))) (ak (dv 7 (by with_unfolding_all exact pv 7)) aq (aj (by with_unfolding_all rfl))) (aj (by with_unfolding_all rfl))) (aj (by with_unfolding_all rfl)))) (ak (cG (ak aP (ak (bW (dv 5 (by with_unfolding_all exact pv 5)) aJ (by with_unfolding_all (intro _ _;rfl))) (ak (dv 7 (by with_unfolding_all exact pv 7)) (ak (dv 8 (by with_unfolding_all exact pv 8)) aq (aj (by with_unfolding_all rfl))) (aj (by with_unfolding_all rfl))) (aj (by with_unfolding_all rfl))) (aj (by with_unfolding_all rfl)))) aq (aj (by with_unfolding_all rfl))) (aj (by with_unfolding_all rfl))))))) bG)))))) bG))
 | (exact(dI (bF (vC (jM hr)) (dv 3 (pv 3)) (cA aq) (bH _)) (aD (aR (i:=7) nd (by rfl) (by exact Or.inl rfl) (bW (dv 3 (pv 3)) (aZ ((bw T).mono (by decide)) hr (by rfl) (by exact T.aY) (by exact T.F_l_draw.kp) (by exact T.b_l_draw) (ak (dv 0 (pv 0)) (ak (aQ cX (by rfl) (by exact T.z_len) Dr (ak (dv 3 (pv 3)) aq (aj (by rfl))) (by decide) (by decide) (aj (by rfl)) (aB (by rfl))) aq (aj (by rfl))) (aj (by rfl))) (by decide) (aj (by rfl)) (aB (by rfl))) (by intro _ _;rfl)))
 (aD (aR (i:=8) nd (by rfl) (by exact Or.inl rfl) (bW (dv 3 (pv 3)) (aZ ((bw T).mono (by decide)) hr (by rfl) (by exact T.aY) (by exact T.F_l_draw.kp) (by exact T.b_l_draw) (ak (dv 0 (pv 0)) (ak (aQ cX (by rfl) (by exact T.z_len) Dr (ak (dv 3 (pv 3)) aq (aj (by rfl))) (by decide) (by decide) (aj (by rfl)) (aB (by rfl))) aq (aj (by rfl))) (aj (by rfl))) (by decide) (aj (by rfl)) (aB (by rfl))) (by intro _ _;rfl)))
 (aD (qd [3] (i:=9) nd (by rfl) (by exact Or.inl rfl) hc (bC (by rfl)) fu (fB (bC (by rfl))) (bZ (by rfl) (by exact T.z_range) (ak aJ aq (aj (by rfl))) (d8 (by rfl))) (λ_ _ _ _=>dN) (λ_ _ _ _=>(bW (dv 1 (pv 1)) (cu Dq (wg aJ) (cu vp (dv 0 (pv 0)) (aQ cX (by rfl) (by exact T.z_len) Dr (ak (dv 1 (pv 1)) aq (aj (by rfl))) (by decide) (by decide) (aj (by rfl)) (aB (by rfl))))) (by intro _ _;rfl))))
 (aD (aR (i:=6) nd (by rfl) (by exact Or.inl rfl) (cu jO (dv 6 (pv 6)) (cA (ak (cG (ak aP (ak (dv 7 (pv 7)) (ak (dv 8 (pv 8)) aq (aj (by rfl))) (aj (by rfl))) (aj (by rfl)))) (ak (cG (ak aP (ak (dv 8 (pv 8)) (ak (dv 7 (pv 7)) aq (aj (by rfl))) (aj (by rfl))) (aj (by rfl)))) (ak (cG (ak aP (ak (dv 7 (pv 7)) (ak (dv 8 (pv 8)) (ak (bW (dv 9 (pv 9)) aJ (by intro _ _;rfl)) (ak (bW (dv 9 (pv 9)) aJ (by intro _ _;rfl)) (ak (bW (dv 9 (pv 9)) aJ (by intro _ _;rfl)) aq (aj (by rfl))) (aj (by rfl))) (aj (by rfl))) (aj (by rfl))) (aj (by rfl))) (aj (by rfl)))) aq (aj (by rfl))) (aj (by rfl))) (aj (by rfl))))))
 (aM (dI (bF (vC (jM hr)) (dv 5 (pv 5)) (cA aq) (bH _)) (aM (aR (i:=6) nd (by rfl) (by exact Or.inl rfl) (cu jO (dv 6 (pv 6)) (cA (ak (cG (ak aP (ak (bW (dv 5 (pv 5)) (wg aJ) (by intro _ _;rfl)) (ak (dv 7 (pv 7)) aq (aj (by rfl))) (aj (by rfl))) (aj (by rfl)))) (ak (cG (ak aP (ak (bW (dv 5 (pv 5)) aJ (by intro _ _;rfl)) (ak (dv 7 (pv 7)) (ak (dv 8 (pv 8)) aq (aj (by rfl))) (aj (by rfl))) (aj (by rfl))) (aj (by rfl)))) aq (aj (by rfl))) (aj (by rfl))))))) bG)))))) bG))
 refine aD ?_ ?_;first
 | (with_reducible exact(dI (bF (vC (by with_unfolding_all exact jM hr)) (dv 4 (by with_unfolding_all exact pv 4)) (cA aq) (by with_unfolding_all exact bH _)) (aD (aR (hs:=by with_unfolding_all rfl) (hf:=by with_unfolding_all first|exact .inl rfl|exact .inr rfl) (i:=10) (by with_unfolding_all exact nd) (by with_unfolding_all rfl) (by with_unfolding_all exact Or.inl rfl) (bW (dv 4 (by with_unfolding_all exact pv 4)) (aZ (k:=10) (by with_unfolding_all exact(bw T).mono (by decide)) (by with_unfolding_all exact hr) (by with_unfolding_all rfl) (by with_unfolding_all exact T.aY) (by with_unfolding_all exact T.F_l_draw.kp) (by with_unfolding_all exact T.b_l_draw) (ak (dv 0 (by with_unfolding_all exact pv 0)) (ak (aQ cX (by with_unfolding_all rfl) (by with_unfolding_all exact T.z_len) Dr (ak (dv 4 (by with_unfolding_all exact pv 4)) aq (aj (by with_unfolding_all rfl))) (by decide) (by decide) (aj (by with_unfolding_all rfl)) (aB (by with_unfolding_all rfl))) aq (aj (by with_unfolding_all rfl))) (aj (by with_unfolding_all rfl))) (by decide) (aj (by with_unfolding_all rfl)) (aB (by with_unfolding_all rfl))) (by with_unfolding_all (intro _ _;rfl))))
 (aD (aR (hs:=by with_unfolding_all rfl) (hf:=by with_unfolding_all first|exact .inl rfl|exact .inr rfl) (i:=11) (by with_unfolding_all exact nd) (by with_unfolding_all rfl) (by with_unfolding_all exact Or.inl rfl) (bW (dv 4 (by with_unfolding_all exact pv 4)) (aZ (k:=10) (by with_unfolding_all exact(bw T).mono (by decide)) (by with_unfolding_all exact hr) (by with_unfolding_all rfl) (by with_unfolding_all exact T.aY) (by with_unfolding_all exact T.F_l_draw.kp) (by with_unfolding_all exact T.b_l_draw) (ak (dv 0 (by with_unfolding_all exact pv 0)) (ak (aQ cX (by with_unfolding_all rfl) (by with_unfolding_all exact T.z_len) Dr (ak (dv 4 (by with_unfolding_all exact pv 4)) aq (aj (by with_unfolding_all rfl))) (by decide) (by decide) (aj (by with_unfolding_all rfl)) (aB (by with_unfolding_all rfl))) aq (aj (by with_unfolding_all rfl))) (aj (by with_unfolding_all rfl))) (by decide) (aj (by with_unfolding_all rfl)) (aB (by with_unfolding_all rfl))) (by with_unfolding_all (intro _ _;rfl))))
 (aD (aR (hs:=by with_unfolding_all rfl) (hf:=by with_unfolding_all first|exact .inl rfl|exact .inr rfl) (i:=6) (by with_unfolding_all exact nd) (by with_unfolding_all rfl) (by with_unfolding_all exact Or.inl rfl) (cu jO (dv 6 (by with_unfolding_all exact pv 6)) (cA (ak (cG (ak aP (ak (dv 10 (by with_unfolding_all exact pv 10)) (ak (dv 11 (by with_unfolding_all exact pv 11)) aq (aj (by with_unfolding_all rfl))) (aj (by with_unfolding_all rfl))) (aj (by with_unfolding_all rfl)))) (ak (cG (ak aP (ak (dv 11 (by with_unfolding_all exact pv 11)) (ak (dv 10 (by with_unfolding_all exact pv 10)) aq (aj (by with_unfolding_all rfl))) (aj (by with_unfolding_all rfl))) (aj (by with_unfolding_all rfl)))) aq (aj (by with_unfolding_all rfl))) (aj (by with_unfolding_all rfl))))))
 (aM (dI (bF (vC (by with_unfolding_all exact jM hr)) (dv 5 (by with_unfolding_all exact pv 5)) (cA aq) (by with_unfolding_all exact bH _)) (aM (iy (hs:=by with_unfolding_all rfl) (fJ (dv 6 (by with_unfolding_all exact pv 6)) (ak (cG (ak aP (ak (bW (dv 5 (by with_unfolding_all exact pv 5)) (aZ (k:=10) (by with_unfolding_all exact(bw T).mono (by decide)) (by with_unfolding_all exact hr) (by with_unfolding_all rfl) (by with_unfolding_all exact T.aY) (by with_unfolding_all exact T.F_l_draw.kp) (by with_unfolding_all exact T.b_l_draw) (ak (dv 0 (by with_unfolding_all exact pv 0)) (ak (aQ cX (by with_unfolding_all rfl) (by with_unfolding_all exact T.z_len) Dr (ak (dv 5 (by with_unfolding_all exact pv 5)) aq (aj (by with_unfolding_all rfl))) (by decide) (by decide) (aj (by with_unfolding_all rfl)) (aB (by with_unfolding_all rfl))) aq (aj (by with_unfolding_all rfl))) (aj (by with_unfolding_all rfl))) (by decide) (aj (by with_unfolding_all rfl)) (aB (by with_unfolding_all rfl))) (by with_unfolding_all (intro _ _;rfl))) (ak (dv 11 (by with_unfolding_all exact pv 11)) aq (aj (by with_unfolding_all rfl))) (aj (by with_unfolding_all rfl))) (aj (by with_unfolding_all rfl)))) aq (aj (by with_unfolding_all rfl))) (by with_unfolding_all rfl) (eZ (by with_unfolding_all rfl)) (by with_unfolding_all rfl) (aj (by with_unfolding_all rfl)) (by with_unfolding_all rfl)))) bG))))) bG))
 | (exact(dI (bF (vC (jM hr)) (dv 4 (pv 4)) (cA aq) (bH _)) (aD (aR (i:=10) nd (by rfl) (by exact Or.inl rfl) (bW (dv 4 (pv 4)) (aZ ((bw T).mono (by decide)) hr (by rfl) (by exact T.aY) (by exact T.F_l_draw.kp) (by exact T.b_l_draw) (ak (dv 0 (pv 0)) (ak (aQ cX (by rfl) (by exact T.z_len) Dr (ak (dv 4 (pv 4)) aq (aj (by rfl))) (by decide) (by decide) (aj (by rfl)) (aB (by rfl))) aq (aj (by rfl))) (aj (by rfl))) (by decide) (aj (by rfl)) (aB (by rfl))) (by intro _ _;rfl)))
 (aD (aR (i:=11) nd (by rfl) (by exact Or.inl rfl) (bW (dv 4 (pv 4)) (aZ ((bw T).mono (by decide)) hr (by rfl) (by exact T.aY) (by exact T.F_l_draw.kp) (by exact T.b_l_draw) (ak (dv 0 (pv 0)) (ak (aQ cX (by rfl) (by exact T.z_len) Dr (ak (dv 4 (pv 4)) aq (aj (by rfl))) (by decide) (by decide) (aj (by rfl)) (aB (by rfl))) aq (aj (by rfl))) (aj (by rfl))) (by decide) (aj (by rfl)) (aB (by rfl))) (by intro _ _;rfl)))
 (aD (aR (i:=6) nd (by rfl) (by exact Or.inl rfl) (cu jO (dv 6 (pv 6)) (cA (ak (cG (ak aP (ak (dv 10 (pv 10)) (ak (dv 11 (pv 11)) aq (aj (by rfl))) (aj (by rfl))) (aj (by rfl)))) (ak (cG (ak aP (ak (dv 11 (pv 11)) (ak (dv 10 (pv 10)) aq (aj (by rfl))) (aj (by rfl))) (aj (by rfl)))) aq (aj (by rfl))) (aj (by rfl))))))
 (aM (dI (bF (vC (jM hr)) (dv 5 (pv 5)) (cA aq) (bH _)) (aM (iy (fJ (dv 6 (pv 6)) (ak (cG (ak aP (ak (bW (dv 5 (pv 5)) (aZ ((bw T).mono (by decide)) hr (by rfl) (by exact T.aY) (by exact T.F_l_draw.kp) (by exact T.b_l_draw) (ak (dv 0 (pv 0)) (ak (aQ cX (by rfl) (by exact T.z_len) Dr (ak (dv 5 (pv 5)) aq (aj (by rfl))) (by decide) (by decide) (aj (by rfl)) (aB (by rfl))) aq (aj (by rfl))) (aj (by rfl))) (by decide) (aj (by rfl)) (aB (by rfl))) (by intro _ _;rfl)) (ak (dv 11 (pv 11)) aq (aj (by rfl))) (aj (by rfl))) (aj (by rfl)))) aq (aj (by rfl))) (by rfl) (eZ (by rfl)) (by rfl) (aj (by rfl)) (by rfl)))) bG))))) bG))
 refine aM ?_;exact(bI<|bW (dv 6<|pv 6) (aZ ((bw T).mono (by decide)) hr (by rfl) (by exact T.aY) (by exact T.F_l_draw.kp) (by exact T.b_l_draw) (ak (dv 0<|pv 0) (ak (aQ cX (by rfl) (by exact T.z_len) Dr (ak (dv 6<|pv 6) aq<|aj<|by rfl) (by decide) (by decide) (aj<|by rfl)<|aB<|by rfl) aq<|aj<|by rfl)<|aj<|by rfl) (by decide) (aj<|by rfl)<|aB<|by rfl) (by intro _ _;rfl))
theorem aaW (T:Txt w K mg t):eY P w K mg base Fl 10 t.f_l_sort t.d_l_sort ["_law_word"] (lift K oM):=by
 have nd:=vO.nd;refine qN (k:=9) T.F_l_sort vO λcdv A outer s H E hr=>?_;have hc:=hr.calm (by decide);refine aM ?_;first
  | (with_reducible exact(bI (J6 (by with_unfolding_all exact jM hr) (JL (Lj.cons aP (Lj.cons aP (Lj.cons aP Lj.nil))) (by with_unfolding_all exact G7 _ _) (by with_unfolding_all exact Ho rfl)) (ak (dv 0 (by with_unfolding_all exact pv 0)) (ak aP aq (aj (by with_unfolding_all rfl))) (aj (by with_unfolding_all rfl))) (by with_unfolding_all rfl) (Vs (by with_unfolding_all rfl) (by with_unfolding_all rfl)) (by with_unfolding_all rfl) (aj (by with_unfolding_all rfl)) (aB (by with_unfolding_all rfl)))))
  | (exact(bI (J6 (jM hr) (JL (Lj.cons aP (Lj.cons aP (Lj.cons aP Lj.nil))) (by exact G7 _ _) (by exact Ho rfl)) (ak (dv 0 (pv 0)) (ak aP aq (aj (by rfl))) (aj (by rfl))) (by rfl) (Vs (by rfl) (by rfl)) (by rfl) (aj (by rfl)) (aB (by rfl)))))
theorem aaU (T:Txt w K mg t):eY P w K mg base Fl 12 t.f_l_rows t.d_l_rows ["_law_script", "_law_first", "_law_most"] (lift K oW):=by
 have nd:=vB.nd;refine qN (k:=11) T.F_l_rows vB λcdv A outer s H E hr=>?_;have hc:=hr.calm (by decide);refine aD ?_ ?_;exact(aR (i:=3) nd (by rfl) (by exact Or.inl rfl)<|gG aq);refine aD ?_ ?_;exact(aR (i:=4) nd (by rfl) (by exact Or.inl rfl)<|gG aq);refine aD ?_ ?_;exact(vP Tc hc (jt (cu cI (nZ (dv 0 (pv 0)) (dg (dv 1 (pv 1))) (dg (cu cI (dv 1 (pv 1)) (dv 2 (pv 2))))) (cA (ak aJ aq (aj (by rfl)))))) (gY (fC (i:=5) nd (by rfl) (by exact Or.inl rfl))) (aD (aR (i:=6) nd (by rfl) (by exact Or.inl rfl) (aZ ((zaG T).mono (by decide)) hr (by rfl) (by exact T.tM) (by exact T.F_l_row.kp) (by exact T.b_l_row) (ak (aZ ((oO T).mono (by decide)) hr (by rfl) (by exact T.iW) (by exact T.F_l_bag.kp) (by exact T.b_l_bag) (ak (dv 5 (pv 5)) aq (aj (by rfl))) (by decide) (aj (by rfl)) (aB (by rfl))) (ak (dv 4 (pv 4)) (ak (aQ cX (by rfl) (by exact T.z_len) Dr (ak (xr [] hc (bC (by rfl)) fu (fB (bC (by rfl))) (jt (dv 3 (pv 3))) (λ_ _ _ _=>(gZ (bF (Xa (jM hr)) (dv 0 (pv 0)) (cG (ak aP aq (aj (by rfl)))) (bH _)))) (λ_ _ _ _=>(dv 0 (pv 0)))) aq (aj (by rfl))) (by decide) (by decide) (aj (by rfl)) (aB (by rfl))) aq (aj (by rfl))) (aj (by rfl))) (aj (by rfl))) (by decide) (aj (by rfl)) (aB (by rfl))))
 (aD (iy (fJ (dv 3 (pv 3)) (ak (dv 6 (pv 6)) aq (aj (by rfl))) (by rfl) (eZ (by rfl)) (by rfl) (aj (by rfl)) (by rfl)))
 (aM (iy (fJ (dv 4 (pv 4)) (ak (aZ ((aaW T).mono (by decide)) hr (by rfl) (by exact T.oM) (by exact T.F_l_sort.kp) (by exact T.b_l_sort) (ak (bW (dv 6 (pv 6)) aJ (by intro _ _;rfl)) aq (aj (by rfl))) (by decide) (aj (by rfl)) (aB (by rfl))) aq (aj (by rfl))) (by rfl) (eZ (by rfl)) (by rfl) (aj (by rfl)) (by rfl)))))))
 refine aM ?_;exact(bI<|cG<|ak (dv 3<|pv 3) (ak (dv 4<|pv 4) aq<|aj<|by rfl)<|aj<|by rfl)
theorem zai (T:Txt w K mg t):eY P w K mg base Fl 11 t.f_l_claim t.d_l_claim ["_law_bag_here", "_law_sorts"] (lift K lu):=by
 have nd:=qX.nd;refine qN (k:=10) T.F_l_claim qX λcdv A outer s H E hr=>?_;have hc:=hr.calm (by decide);refine aD ?_ ?_;exact(aR (i:=2) nd (by rfl) (by exact Or.inr rfl)<|xr [1] hc (bC<|by rfl) fu (fB<|bC<|by rfl) (bZ (by rfl) (by exact T.z_range) (ak (aQ cX (by rfl) (by exact T.z_len) Dr (ak (dv 1<|pv 1) aq<|aj<|by rfl) (by decide) (by decide) (aj<|by rfl)<|aB<|by rfl) aq<|aj<|by rfl)<|d8<|by rfl) (λ_ _ _ _=>(gZ<|bF (IV<|jM hr) (bW (dv 1<|pv 1) (dv 0<|pv 0) (by intro _ _;rfl)) aP<|bH _))<|λ_ _ _ _=>(dv 0<|pv 0));refine aD ?_ ?_;exact(aR (i:=3) nd (by rfl) (by exact Or.inr rfl)<|xr [1] hc (bC<|by rfl) fu (fB<|bC<|by rfl) (bZ (by rfl) (by exact T.z_range) (ak (aQ cX (by rfl) (by exact T.z_len) Dr (ak (dv 1<|pv 1) aq<|aj<|by rfl) (by decide) (by decide) (aj<|by rfl)<|aB<|by rfl) aq<|aj<|by rfl)<|d8<|by rfl) (λ_ _ _ _=>(gZ<|bF (IV<|jM hr) (bW (dv 1<|pv 1) (dv 0<|pv 0) (by intro _ _;rfl)) aP<|bH _))<|λ_ _ _ _=>(dv 0<|pv 0));refine aD ?_ ?_;exact(qd [1] (i:=4) nd (by rfl) (by exact Or.inl rfl) hc (bC<|by rfl) fu (fB<|bC<|by rfl) (bZ (by rfl) (by exact T.z_range) (ak (aQ cX (by rfl) (by exact T.z_len) Dr (ak (dv 1<|pv 1) aq<|aj<|by rfl) (by decide) (by decide) (aj<|by rfl)<|aB<|by rfl) aq<|aj<|by rfl)<|d8<|by rfl) (λ_ _ _ _=>(gZ<|bF (IV<|jM hr) (bW (dv 1<|pv 1) (dv 0<|pv 0) (by intro _ _;rfl)) aP<|bH _))<|λ_ _ _ _=>(dv 0<|pv 0));refine aD ?_ ?_;exact(qd [0,2] (i:=5) nd (by rfl) (by exact Or.inl rfl) hc (bC<|by rfl) fu (fB<|bC<|by rfl) (bZ (by rfl) (by exact T.z_range) (ak aJ aq<|aj<|by rfl)<|d8<|by rfl) (λ_ _ _ _=>dN)<|λ_ _ _ _=>(bW (dv 2<|pv 2) (aZ ((bw T).mono (by decide)) hr (by rfl) (by exact T.aY) (by exact T.F_l_draw.kp) (by exact T.b_l_draw) (ak (dv 1<|pv 1) (ak (aQ cX (by rfl) (by exact T.z_len) Dr (ak (dv 2<|pv 2) aq<|aj<|by rfl) (by decide) (by decide) (aj<|by rfl)<|aB<|by rfl) aq<|aj<|by rfl)<|aj<|by rfl) (by decide) (aj<|by rfl)<|aB<|by rfl) (by intro _ _;rfl)));refine aD ?_ ?_;first
 | (with_reducible exact(aR (hs:=by with_unfolding_all rfl) (hf:=by with_unfolding_all first|exact .inl rfl|exact .inr rfl) (i:=6) (by with_unfolding_all exact nd) (by with_unfolding_all rfl) (by with_unfolding_all exact Or.inl rfl) (gG (ak (cG (ak aP (ak (bW (dv 5 (by with_unfolding_all exact pv 5)) aJ (by with_unfolding_all (intro _ _;rfl))) (ak (bW (dv 5 (by with_unfolding_all exact pv 5)) aJ (by with_unfolding_all (intro _ _;rfl))) aq (aj (by with_unfolding_all rfl))) (aj (by with_unfolding_all rfl))) (aj (by with_unfolding_all rfl)))) (ak (cG (ak aP (ak (bW (dv 5 (by with_unfolding_all exact pv 5)) aJ (by with_unfolding_all (intro _ _;rfl))) (ak (bW (dv 5 (by with_unfolding_all exact pv 5)) aJ (by with_unfolding_all (intro _ _;rfl))) (ak (bW (dv 5 (by with_unfolding_all exact pv 5)) aJ (by with_unfolding_all (intro _ _;rfl))) aq (aj (by with_unfolding_all rfl))) (aj (by with_unfolding_all rfl))) (aj (by with_unfolding_all rfl))) (aj (by with_unfolding_all rfl)))) aq (aj (by with_unfolding_all rfl))) (aj (by with_unfolding_all rfl))))))
 | (exact(aR (i:=6) nd (by rfl) (by exact Or.inl rfl) (gG (ak (cG (ak aP (ak (bW (dv 5 (pv 5)) aJ (by intro _ _;rfl)) (ak (bW (dv 5 (pv 5)) aJ (by intro _ _;rfl)) aq (aj (by rfl))) (aj (by rfl))) (aj (by rfl)))) (ak (cG (ak aP (ak (bW (dv 5 (pv 5)) aJ (by intro _ _;rfl)) (ak (bW (dv 5 (pv 5)) aJ (by intro _ _;rfl)) (ak (bW (dv 5 (pv 5)) aJ (by intro _ _;rfl)) aq (aj (by rfl))) (aj (by rfl))) (aj (by rfl))) (aj (by rfl)))) aq (aj (by rfl))) (aj (by rfl))))))
 refine aD ?_ ?_;first
 | (with_reducible exact(dI (bF (vC (by with_unfolding_all exact jM hr)) (dv 3 (by with_unfolding_all exact pv 3)) (cA aq) (by with_unfolding_all exact bH _)) (aD (qd (hsw:=by with_unfolding_all rfl) (hf:=by with_unfolding_all first|exact .inl rfl|exact .inr rfl) (hs:=by with_unfolding_all (intro _;rfl)) [0,3] (i:=7) (by with_unfolding_all exact nd) (by with_unfolding_all rfl) (by with_unfolding_all exact Or.inl rfl) (by with_unfolding_all exact hc) (by with_unfolding_all exact bC rfl) fu (fB (by with_unfolding_all exact bC rfl)) (bZ (by with_unfolding_all rfl) (by with_unfolding_all exact T.z_range) (ak aJ aq (aj (by with_unfolding_all rfl))) (d8 (by with_unfolding_all rfl))) (λ_ _ _ _=>dN) (λ_ _ _ _=>(bW (dv 2 (by with_unfolding_all exact pv 2)) (aZ (k:=10) (by with_unfolding_all exact(bw T).mono (by decide)) (by with_unfolding_all exact hr) (by with_unfolding_all rfl) (by with_unfolding_all exact T.aY) (by with_unfolding_all exact T.F_l_draw.kp) (by with_unfolding_all exact T.b_l_draw) (ak (dv 1 (by with_unfolding_all exact pv 1)) (ak (aQ cX (by with_unfolding_all rfl) (by with_unfolding_all exact T.z_len) Dr (ak (dv 2 (by with_unfolding_all exact pv 2)) aq (aj (by with_unfolding_all rfl))) (by decide) (by decide) (aj (by with_unfolding_all rfl)) (aB (by with_unfolding_all rfl))) aq (aj (by with_unfolding_all rfl))) (aj (by with_unfolding_all rfl))) (by decide) (aj (by with_unfolding_all rfl)) (aB (by with_unfolding_all rfl))) (by with_unfolding_all (intro _ _;rfl)))))
 (aD (aR (hs:=by with_unfolding_all rfl) (hf:=by with_unfolding_all first|exact .inl rfl|exact .inr rfl) (i:=6) (by with_unfolding_all exact nd) (by with_unfolding_all rfl) (by with_unfolding_all exact Or.inl rfl) (cu jO (dv 6 (by with_unfolding_all exact pv 6)) (cA (ak (cG (ak aP (ak (bW (dv 7 (by with_unfolding_all exact pv 7)) aJ (by with_unfolding_all (intro _ _;rfl))) (ak (bW (dv 7 (by with_unfolding_all exact pv 7)) aJ (by with_unfolding_all (intro _ _;rfl))) aq (aj (by with_unfolding_all rfl))) (aj (by with_unfolding_all rfl))) (aj (by with_unfolding_all rfl)))) (ak (cG (ak aP (ak (bW (dv 7 (by with_unfolding_all exact pv 7)) aJ (by with_unfolding_all (intro _ _;rfl))) (ak (bW (dv 7 (by with_unfolding_all exact pv 7)) aJ (by with_unfolding_all (intro _ _;rfl))) (ak (bW (dv 7 (by with_unfolding_all exact pv 7)) aJ (by with_unfolding_all (intro _ _;rfl))) aq (aj (by with_unfolding_all rfl))) (aj (by with_unfolding_all rfl))) (aj (by with_unfolding_all rfl))) (aj (by with_unfolding_all rfl)))) (ak (cG (ak aP (ak (bW (dv 5 (by with_unfolding_all exact pv 5)) aJ (by with_unfolding_all (intro _ _;rfl))) (ak (bW (dv 7 (by with_unfolding_all exact pv 7)) aJ (by with_unfolding_all (intro _ _;rfl))) aq (aj (by with_unfolding_all rfl))) (aj (by with_unfolding_all rfl))) (aj (by with_unfolding_all rfl)))) aq (aj (by with_unfolding_all rfl))) (aj (by with_unfolding_all rfl))) (aj (by with_unfolding_all rfl))))))
 (aM (dI (bF (vC (by with_unfolding_all exact jM hr)) (dv 4 (by with_unfolding_all exact pv 4)) (cA aq) (by with_unfolding_all exact bH _)) (aM (iy (hs:=by with_unfolding_all rfl) (fJ (dv 6 (by with_unfolding_all exact pv 6)) (ak (cG (ak aP (ak (bW (dv 7 (by with_unfolding_all exact pv 7)) aJ (by with_unfolding_all (intro _ _;rfl))) (ak (bW (dv 4 (by with_unfolding_all exact pv 4)) (wg aJ) (by with_unfolding_all (intro _ _;rfl))) aq (aj (by with_unfolding_all rfl))) (aj (by with_unfolding_all rfl))) (aj (by with_unfolding_all rfl)))) aq (aj (by with_unfolding_all rfl))) (by with_unfolding_all rfl) (eZ (by with_unfolding_all rfl)) (by with_unfolding_all rfl) (aj (by with_unfolding_all rfl)) (by with_unfolding_all rfl)))) bG)))) bG))
 | (exact(dI (bF (vC (jM hr)) (dv 3 (pv 3)) (cA aq) (bH _)) (aD (qd [0,3] (i:=7) nd (by rfl) (by exact Or.inl rfl) hc (bC (by rfl)) fu (fB (bC (by rfl))) (bZ (by rfl) (by exact T.z_range) (ak aJ aq (aj (by rfl))) (d8 (by rfl))) (λ_ _ _ _=>dN) (λ_ _ _ _=>(bW (dv 2 (pv 2)) (aZ ((bw T).mono (by decide)) hr (by rfl) (by exact T.aY) (by exact T.F_l_draw.kp) (by exact T.b_l_draw) (ak (dv 1 (pv 1)) (ak (aQ cX (by rfl) (by exact T.z_len) Dr (ak (dv 2 (pv 2)) aq (aj (by rfl))) (by decide) (by decide) (aj (by rfl)) (aB (by rfl))) aq (aj (by rfl))) (aj (by rfl))) (by decide) (aj (by rfl)) (aB (by rfl))) (by intro _ _;rfl))))
 (aD (aR (i:=6) nd (by rfl) (by exact Or.inl rfl) (cu jO (dv 6 (pv 6)) (cA (ak (cG (ak aP (ak (bW (dv 7 (pv 7)) aJ (by intro _ _;rfl)) (ak (bW (dv 7 (pv 7)) aJ (by intro _ _;rfl)) aq (aj (by rfl))) (aj (by rfl))) (aj (by rfl)))) (ak (cG (ak aP (ak (bW (dv 7 (pv 7)) aJ (by intro _ _;rfl)) (ak (bW (dv 7 (pv 7)) aJ (by intro _ _;rfl)) (ak (bW (dv 7 (pv 7)) aJ (by intro _ _;rfl)) aq (aj (by rfl))) (aj (by rfl))) (aj (by rfl))) (aj (by rfl)))) (ak (cG (ak aP (ak (bW (dv 5 (pv 5)) aJ (by intro _ _;rfl)) (ak (bW (dv 7 (pv 7)) aJ (by intro _ _;rfl)) aq (aj (by rfl))) (aj (by rfl))) (aj (by rfl)))) aq (aj (by rfl))) (aj (by rfl))) (aj (by rfl))))))
 (aM (dI (bF (vC (jM hr)) (dv 4 (pv 4)) (cA aq) (bH _)) (aM (iy (fJ (dv 6 (pv 6)) (ak (cG (ak aP (ak (bW (dv 7 (pv 7)) aJ (by intro _ _;rfl)) (ak (bW (dv 4 (pv 4)) (wg aJ) (by intro _ _;rfl)) aq (aj (by rfl))) (aj (by rfl))) (aj (by rfl)))) aq (aj (by rfl))) (by rfl) (eZ (by rfl)) (by rfl) (aj (by rfl)) (by rfl)))) bG)))) bG))
 refine aD ?_ ?_;first
 | (with_reducible exact(dI (bF (vC (by with_unfolding_all exact jM hr)) (dv 4 (by with_unfolding_all exact pv 4)) (cA aq) (by with_unfolding_all exact bH _)) (aD (aR (hs:=by with_unfolding_all rfl) (hf:=by with_unfolding_all first|exact .inl rfl|exact .inr rfl) (i:=8) (by with_unfolding_all exact nd) (by with_unfolding_all rfl) (by with_unfolding_all exact Or.inl rfl) (bW (dv 4 (by with_unfolding_all exact pv 4)) (aZ (k:=10) (by with_unfolding_all exact(bw T).mono (by decide)) (by with_unfolding_all exact hr) (by with_unfolding_all rfl) (by with_unfolding_all exact T.aY) (by with_unfolding_all exact T.F_l_draw.kp) (by with_unfolding_all exact T.b_l_draw) (ak (dv 0 (by with_unfolding_all exact pv 0)) (ak (aQ cX (by with_unfolding_all rfl) (by with_unfolding_all exact T.z_len) Dr (ak (dv 4 (by with_unfolding_all exact pv 4)) aq (aj (by with_unfolding_all rfl))) (by decide) (by decide) (aj (by with_unfolding_all rfl)) (aB (by with_unfolding_all rfl))) aq (aj (by with_unfolding_all rfl))) (aj (by with_unfolding_all rfl))) (by decide) (aj (by with_unfolding_all rfl)) (aB (by with_unfolding_all rfl))) (by with_unfolding_all (intro _ _;rfl))))
 (aM (aR (hs:=by with_unfolding_all rfl) (hf:=by with_unfolding_all first|exact .inl rfl|exact .inr rfl) (i:=6) (by with_unfolding_all exact nd) (by with_unfolding_all rfl) (by with_unfolding_all exact Or.inl rfl) (cu jO (dv 6 (by with_unfolding_all exact pv 6)) (cA (ak (cG (ak aP (ak (dv 8 (by with_unfolding_all exact pv 8)) aq (aj (by with_unfolding_all rfl))) (aj (by with_unfolding_all rfl)))) (ak (cG (ak aP (ak (bW (dv 5 (by with_unfolding_all exact pv 5)) aJ (by with_unfolding_all (intro _ _;rfl))) (ak (dv 8 (by with_unfolding_all exact pv 8)) aq (aj (by with_unfolding_all rfl))) (aj (by with_unfolding_all rfl))) (aj (by with_unfolding_all rfl)))) (ak (cG (ak aP (ak (dv 8 (by with_unfolding_all exact pv 8)) (ak (bW (dv 4 (by with_unfolding_all exact pv 4)) aJ (by with_unfolding_all (intro _ _;rfl))) aq (aj (by with_unfolding_all rfl))) (aj (by with_unfolding_all rfl))) (aj (by with_unfolding_all rfl)))) aq (aj (by with_unfolding_all rfl))) (aj (by with_unfolding_all rfl))) (aj (by with_unfolding_all rfl)))))))) bG))
 | (exact(dI (bF (vC (jM hr)) (dv 4 (pv 4)) (cA aq) (bH _)) (aD (aR (i:=8) nd (by rfl) (by exact Or.inl rfl) (bW (dv 4 (pv 4)) (aZ ((bw T).mono (by decide)) hr (by rfl) (by exact T.aY) (by exact T.F_l_draw.kp) (by exact T.b_l_draw) (ak (dv 0 (pv 0)) (ak (aQ cX (by rfl) (by exact T.z_len) Dr (ak (dv 4 (pv 4)) aq (aj (by rfl))) (by decide) (by decide) (aj (by rfl)) (aB (by rfl))) aq (aj (by rfl))) (aj (by rfl))) (by decide) (aj (by rfl)) (aB (by rfl))) (by intro _ _;rfl)))
 (aM (aR (i:=6) nd (by rfl) (by exact Or.inl rfl) (cu jO (dv 6 (pv 6)) (cA (ak (cG (ak aP (ak (dv 8 (pv 8)) aq (aj (by rfl))) (aj (by rfl)))) (ak (cG (ak aP (ak (bW (dv 5 (pv 5)) aJ (by intro _ _;rfl)) (ak (dv 8 (pv 8)) aq (aj (by rfl))) (aj (by rfl))) (aj (by rfl)))) (ak (cG (ak aP (ak (dv 8 (pv 8)) (ak (bW (dv 4 (pv 4)) aJ (by intro _ _;rfl)) aq (aj (by rfl))) (aj (by rfl))) (aj (by rfl)))) aq (aj (by rfl))) (aj (by rfl))) (aj (by rfl)))))))) bG))
 refine aM ?_;exact(bI<|bW (dv 6<|pv 6) (aZ ((bw T).mono (by decide)) hr (by rfl) (by exact T.aY) (by exact T.F_l_draw.kp) (by exact T.b_l_draw) (ak (dv 0<|pv 0) (ak (aQ cX (by rfl) (by exact T.z_len) Dr (ak (dv 6<|pv 6) aq<|aj<|by rfl) (by decide) (by decide) (aj<|by rfl)<|aB<|by rfl) aq<|aj<|by rfl)<|aj<|by rfl) (by decide) (aj<|by rfl)<|aB<|by rfl) (by intro _ _;rfl))
theorem rO (T:Txt w K mg t):eY P w K mg base Fl 10 t.f_l_words t.d_l_words ["_law_row_here", "_law_names_here"] (lift K jg):=by
 have nd:=rM.nd;refine qN (k:=9) T.F_l_words rM λcdv A outer s H E hr=>?_;have hc:=hr.calm (by decide);refine aM ?_;exact(bI<|lW Ms Mw fj iD aP (ak (cu cI (cA<|ak (bW (dv 0<|pv 0) aJ (by intro _ _;rfl)) aq<|aj<|by rfl)<|xr [1] hc (bC<|by rfl) fu (fB<|bC<|by rfl) (jt<|nZ (dv 0<|pv 0) (dg aJ) dY) (λ_ _ _ _=>dN)<|λ_ _ _ _=>(bW (dv 1<|pv 1) (dv 0<|pv 0) (by intro _ _;rfl))) aq<|aj<|by rfl) (by rfl) (eZ<|by rfl) (by rfl) (aj<|by rfl)<|by rfl)
theorem zT (T:Txt w K mg t):eY P w K mg base Fl 11 t.f_l_wrong t.d_l_wrong ["_law_bag_here", "_law_lines", "_law_claim_here", "_law_names_here"] (lift K lB):=by
 have nd:=rE.nd;refine qN (k:=10) T.F_l_wrong rE λcdv A outer s H E hr=>?_;have hc:=hr.calm (by decide);refine aD ?_ ?_;exact(aR (i:=4) nd (by rfl) (by exact Or.inl rfl)<|bW (xr [3] hc (bC<|by rfl) fu (fB<|bC<|by rfl) (jt<|xr [] hc (bC<|by rfl) fu (fB<|bC<|by rfl) (bZ (by rfl) (by exact T.z_range) (ak aJ aq<|aj<|by rfl)<|d8<|by rfl) (λ_ _ _ _=>dN)<|λ_ _ _ _=>(cu bK aP<|jE Ph (by rfl) (by exact T.z_str) boot_str (ak (dv 0<|pv 0) aq<|aj<|by rfl) (by decide) (by decide) (aj<|by rfl)<|aB<|by rfl)) (λ_ _ _ _=>(gZ<|bF (acC<|jM hr) (dv 0<|pv 0) (dv 1<|pv 1)<|by with_unfolding_all rfl))<|λ_ _ _ _=>(dv 0<|pv 0)) aJ (by intro _ _;rfl));refine aD ?_ ?_;exact(aR (i:=5) nd (by rfl) (by exact Or.inl rfl)<|aZ ((bw T).mono (by decide)) hr (by rfl) (by exact T.aY) (by exact T.F_l_draw.kp) (by exact T.b_l_draw) (ak (dv 0<|pv 0) (ak (aQ cX (by rfl) (by exact T.z_len) Dr (ak (dv 1<|pv 1) aq<|aj<|by rfl) (by decide) (by decide) (aj<|by rfl)<|aB<|by rfl) aq<|aj<|by rfl)<|aj<|by rfl) (by decide) (aj<|by rfl)<|aB<|by rfl);refine aD ?_ ?_;exact(aR (i:=6) nd (by rfl) (by exact Or.inl rfl)<|bW (dv 3<|pv 3) (dv 5<|pv 5) (by intro _ _;rfl));refine aD ?_ ?_;exact(aR (i:=7) nd (by rfl) (by exact Or.inl rfl)<|aZ ((bw T).mono (by decide)) hr (by rfl) (by exact T.aY) (by exact T.F_l_draw.kp) (by exact T.b_l_draw) (ak (dv 0<|pv 0) (ak aJ aq<|aj<|by rfl)<|aj<|by rfl) (by decide) (aj<|by rfl)<|aB<|by rfl);refine aD ?_ ?_;exact(aR (i:=8) nd (by rfl) (by exact Or.inl rfl)<|lW Ms Mw fj iD aP (ak (cu cI (dv 1<|pv 1)<|cA<|ak (dv 2<|pv 2) aq<|aj<|by rfl) aq<|aj<|by rfl) (by rfl) (eZ<|by rfl) (by rfl) (aj<|by rfl)<|by rfl);refine aD ?_ ?_;first
 | (with_reducible exact(dI (bF yE (dv 7 (by with_unfolding_all exact pv 7)) aJ (by with_unfolding_all exact bH _)) (aD (aR (hs:=by with_unfolding_all rfl) (hf:=by with_unfolding_all first|exact .inl rfl|exact .inr rfl) (i:=9) (by with_unfolding_all exact nd) (by with_unfolding_all rfl) (by with_unfolding_all exact Or.inl rfl) (cA (ak (cu bK aP (dv 8 (by with_unfolding_all exact pv 8))) (zf (yp (dv 8 (by with_unfolding_all exact pv 8))) (JN (i:=8) (by with_unfolding_all rfl) (by first|exact Or.inl rfl|exact Or.inr (Or.inl rfl)|exact Or.inr (Or.inr rfl))) (ak (lW Ms Mw fj iD aP (ak (dv 1 (by with_unfolding_all exact pv 1)) aq (aj (by with_unfolding_all rfl))) (by with_unfolding_all rfl) (eZ (by with_unfolding_all rfl)) (by with_unfolding_all rfl) (aj (by with_unfolding_all rfl)) (by with_unfolding_all rfl)) aq (aj (by with_unfolding_all rfl))) (aj (by with_unfolding_all rfl)) (aj (by with_unfolding_all rfl))) (aj (by with_unfolding_all rfl)))))
 (aD (aR (hs:=by with_unfolding_all rfl) (hf:=by with_unfolding_all first|exact .inl rfl|exact .inr rfl) (i:=9) (by with_unfolding_all exact nd) (by with_unfolding_all rfl) (by with_unfolding_all exact Or.inl rfl) (cu cI (dv 9 (by with_unfolding_all exact pv 9)) (cA (ak (lW Ms Mw fj iD aP (ak (cu cI (cA (ak (dv 2 (by with_unfolding_all exact pv 2)) aq (aj (by with_unfolding_all rfl)))) (dv 1 (by with_unfolding_all exact pv 1))) aq (aj (by with_unfolding_all rfl))) (by with_unfolding_all rfl) (eZ (by with_unfolding_all rfl)) (by with_unfolding_all rfl) (aj (by with_unfolding_all rfl)) (by with_unfolding_all rfl)) (ak (dv 2 (by with_unfolding_all exact pv 2)) (zf (yp (dv 8 (by with_unfolding_all exact pv 8))) (K6 (i:=8) (by with_unfolding_all rfl) (by first|exact Or.inl rfl|exact Or.inr (Or.inl rfl)|exact Or.inr (Or.inr rfl))) aq (aj (by with_unfolding_all rfl)) (aj (by with_unfolding_all rfl))) (aj (by with_unfolding_all rfl))) (aj (by with_unfolding_all rfl))))))
 (aM (bI (bW (dv 9 (by with_unfolding_all exact pv 9)) (dv 7 (by with_unfolding_all exact pv 7)) (by with_unfolding_all (intro _ _;rfl))))))) bG))
 | (exact(dI (bF yE (dv 7 (pv 7)) aJ (bH _)) (aD (aR (i:=9) nd (by rfl) (by exact Or.inl rfl) (cA (ak (cu bK aP (dv 8 (pv 8))) (zf (yp (dv 8 (pv 8))) (JN (i:=8) (by rfl) (by first|exact Or.inl rfl|exact Or.inr (Or.inl rfl)|exact Or.inr (Or.inr rfl))) (ak (lW Ms Mw fj iD aP (ak (dv 1 (pv 1)) aq (aj (by rfl))) (by rfl) (eZ (by rfl)) (by rfl) (aj (by rfl)) (by rfl)) aq (aj (by rfl))) (aj (by rfl)) (aj (by rfl))) (aj (by rfl)))))
 (aD (aR (i:=9) nd (by rfl) (by exact Or.inl rfl) (cu cI (dv 9 (pv 9)) (cA (ak (lW Ms Mw fj iD aP (ak (cu cI (cA (ak (dv 2 (pv 2)) aq (aj (by rfl)))) (dv 1 (pv 1))) aq (aj (by rfl))) (by rfl) (eZ (by rfl)) (by rfl) (aj (by rfl)) (by rfl)) (ak (dv 2 (pv 2)) (zf (yp (dv 8 (pv 8))) (K6 (i:=8) (by rfl) (by first|exact Or.inl rfl|exact Or.inr (Or.inl rfl)|exact Or.inr (Or.inr rfl))) aq (aj (by rfl)) (aj (by rfl))) (aj (by rfl))) (aj (by rfl))))))
 (aM (bI (bW (dv 9 (pv 9)) (dv 7 (pv 7)) (by intro _ _;rfl)))))) bG))
 refine aD ?_ ?_;exact(dI (bF yE (dv 7 (pv 7)) aJ (bH _)) (aD (aR (i:=10) nd (by rfl) (by exact Or.inl rfl) (bW (cA (ak aP (ak (cu bK aP (dv 6 (pv 6))) (ak (cu bK aP (dv 6 (pv 6))) (ak (cu adG (Ft (dv 6 (pv 6)) dY (dg aJ)) aJ) (ak (cu bK (Ft (dv 6 (pv 6)) dY (dg aJ)) aP) aq (aj (by rfl))) (aj (by rfl))) (aj (by rfl))) (aj (by rfl))) (aj (by rfl)))) (cu Dq (dv 7 (pv 7)) aJ) (by intro _ _;rfl)))
 (aD (aR (i:=11) nd (by rfl) (by exact Or.inl rfl) (jE abU (by rfl) (by exact T.z_list) boot_list (ak (dv 1 (pv 1)) aq (aj (by rfl))) (by decide) (by decide) (aj (by rfl)) (aB (by rfl))))
 (aD (yH (cu bK (dv 10 (pv 10)) (Ft (bW (dv 1 (pv 1)) (dv 5 (pv 5)) (by intro _ _;rfl)) (dg (aQ Gs (by rfl) (by exact T.z_len) Dr (ak (dv 6 (pv 6)) aq (aj (by rfl))) (by decide) (by decide) (aj (by rfl)) (aB (by rfl)))) dY)) (Dz (dv 11 (pv 11)) (dv 5 (pv 5)) set_list sV))
 (aM (bI (lW Ms Mw fj iD aP (ak (cu cI (dv 11 (pv 11)) (cA (ak (dv 2 (pv 2)) aq (aj (by rfl))))) aq (aj (by rfl))) (by rfl) (eZ (by rfl)) (by rfl) (aj (by rfl)) (by rfl))))))) bG)
 refine aD ?_ ?_;exact(dI (bF yE (dv 7 (pv 7)) aJ (bH _)) (aD (aR (i:=10) nd (by rfl) (by exact Or.inl rfl) (gG (ak (cu bK (cu bK (bW (dv 1 (pv 1)) (dv 5 (pv 5)) (by intro _ _;rfl)) aP) (dv 6 (pv 6))) (ak (dv 6 (pv 6)) (ak (cu bK (dv 6 (pv 6)) aP) (ak (cu bK (dv 6 (pv 6)) aP) aq (aj (by rfl))) (aj (by rfl))) (aj (by rfl))) (aj (by rfl)))))
 (aD (iy (fJ (dv 10 (pv 10)) (ak (cu bK (cu bK (cu bK aP (dv 4 (pv 4))) aP) (dv 6 (pv 6))) aq (aj (by rfl))) (by rfl) (eZ (by rfl)) (by rfl) (aj (by rfl)) (by rfl)))
 (aD (aR (i:=10) nd (by rfl) (by exact Or.inl rfl) (bW (dv 10 (pv 10)) (cu Dq (dv 7 (pv 7)) aJ) (by intro _ _;rfl)))
 (aM (bI (lW Ms Mw fj iD aP (ak (cu cI (cu cI (cu cI (nZ (dv 1 (pv 1)) dY (dg (cu cI (dv 5 (pv 5)) aJ))) (cA (ak (dv 10 (pv 10)) aq (aj (by rfl))))) (nZ (dv 1 (pv 1)) (dg (cu cI (dv 5 (pv 5)) aJ)) dY)) (cA (ak (dv 2 (pv 2)) aq (aj (by rfl))))) aq (aj (by rfl))) (by rfl) (eZ (by rfl)) (by rfl) (aj (by rfl)) (by rfl))))))) bG)
 refine aD ?_ ?_;exact(aR (i:=12) nd (by rfl) (by exact Or.inl rfl)<|bW (dv 3<|pv 3) aJ (by intro _ _;rfl));refine aD ?_ ?_;exact(aR (i:=13) nd (by rfl) (by exact Or.inl rfl)<|cu bK (cu bK (cu bK aP<|dv 12<|pv 12) aP)<|dv 12<|pv 12);refine aD ?_ ?_;exact(aR (i:=9) nd (by rfl) (by exact Or.inl rfl)<|cA<|ak aP (ak (cu bK aP<|dv 13<|pv 13) (ak (cu bK aP<|dv 12<|pv 12) aq<|aj<|by rfl)<|aj<|by rfl)<|aj<|by rfl);refine aD ?_ ?_;exact(aR (i:=9) nd (by rfl) (by exact Or.inl rfl)<|cu cI (dv 9<|pv 9)<|cA<|ak (cu bK (cu bK (cu bK aP<|dv 13<|pv 13) aP)<|dv 12<|pv 12) (ak (cu bK aP<|dv 13<|pv 13) aq<|aj<|by rfl)<|aj<|by rfl);refine aD ?_ ?_;exact(aR (i:=9) nd (by rfl) (by exact Or.inl rfl)<|cu cI (dv 9<|pv 9)<|cA<|ak (cu bK aP<|dv 12<|pv 12) (ak (cu bK (cu bK (cu bK aP<|dv 13<|pv 13) aP)<|dv 12<|pv 12) (ak (cu bK aP<|dv 13<|pv 13) aq<|aj<|by rfl)<|aj<|by rfl)<|aj<|by rfl);refine aD ?_ ?_;exact(aR (i:=9) nd (by rfl) (by exact Or.inl rfl)<|cu cI (dv 9<|pv 9)<|cA<|ak (cu bK (cu bK (cu bK aP<|dv 13<|pv 13) aP)<|dv 4<|pv 4) aq<|aj<|by rfl);refine aD ?_ ?_;exact(dI (bF yE (dv 7<|pv 7) aJ<|bH _) (aM<|bI<|lW Ms Mw fj iD aP (ak (cu cI (dv 1<|pv 1)<|cA<|ak (bW (dv 9<|pv 9) (aZ ((bw T).mono (by decide)) hr (by rfl) (by exact T.aY) (by exact T.F_l_draw.kp) (by exact T.b_l_draw) (ak (dv 0<|pv 0) (ak aJ aq<|aj<|by rfl)<|aj<|by rfl) (by decide) (aj<|by rfl)<|aB<|by rfl) (by intro _ _;rfl)) aq<|aj<|by rfl) aq<|aj<|by rfl) (by rfl) (eZ<|by rfl) (by rfl) (aj<|by rfl)<|by rfl) bG);refine aD ?_ ?_;exact(dI (bF (IV<|jM hr) (dv 7<|pv 7) aJ<|bH _) (aM<|bI<|lW Ms Mw fj iD aP (ak (cu cI (xr [] hc (bC<|by rfl) fu (fB<|bC<|by rfl) (bZ (by rfl) (by exact T.z_range) (ak aJ aq<|aj<|by rfl)<|d8<|by rfl) (λ_ _ _ _=>dN)<|λ_ _ _ _=>(cu bK (cu bK aP<|jE Ph (by rfl) (by exact T.z_str) boot_str (ak (dv 0<|pv 0) aq<|aj<|by rfl) (by decide) (by decide) (aj<|by rfl)<|aB<|by rfl) aP))<|cA<|ak aP aq<|aj<|by rfl) aq<|aj<|by rfl) (by rfl) (eZ<|by rfl) (by rfl) (aj<|by rfl)<|by rfl) bG);refine aD ?_ ?_;exact(dI (bF (IV (jM hr)) (dv 7 (pv 7)) aJ (bH _)) (aD (qd [] (i:=14) nd (by rfl) (by exact Or.inl rfl) hc (bC (by rfl)) fu (fB (bC (by rfl))) (abr (by rfl) (by exact T.z_range) (ak aJ (ak aJ aq (aj (by rfl))) (aj (by rfl)))) (λ_ _ _ _=>dN) (λ_ _ _ _=>(cu bK (cu bK aP (jE Ph (by rfl) (by exact T.z_str) boot_str (ak (dv 0 (pv 0)) aq (aj (by rfl))) (by decide) (by decide) (aj (by rfl)) (aB (by rfl)))) aP)))
 (aM (bI (lW Ms Mw fj iD aP (ak (cu cI (cu cI (cA (ak aP (ak aP aq (aj (by rfl))) (aj (by rfl)))) (dv 14 (pv 14))) (cA (ak aP aq (aj (by rfl))))) aq (aj (by rfl))) (by rfl) (eZ (by rfl)) (by rfl) (aj (by rfl)) (by rfl))))) bG)
 refine aM ?_;first
  | (with_reducible exact(bI (bW (cA (ak Rb (ak aJ (ak yQ (ak (cA (ak (dv 8 (by with_unfolding_all exact pv 8)) aq (aj (by with_unfolding_all rfl)))) (ak (cG aq) (ak (cG (ak aP aq (aj (by with_unfolding_all rfl)))) aq (aj (by with_unfolding_all rfl))) (aj (by with_unfolding_all rfl))) (aj (by with_unfolding_all rfl))) (aj (by with_unfolding_all rfl))) (aj (by with_unfolding_all rfl))) (aj (by with_unfolding_all rfl)))) (aZ (k:=10) (by with_unfolding_all exact(bw T).mono (by decide)) (by with_unfolding_all exact hr) (by with_unfolding_all rfl) (by with_unfolding_all exact T.aY) (by with_unfolding_all exact T.F_l_draw.kp) (by with_unfolding_all exact T.b_l_draw) (ak (dv 0 (by with_unfolding_all exact pv 0)) (ak aJ aq (aj (by with_unfolding_all rfl))) (aj (by with_unfolding_all rfl))) (by decide) (aj (by with_unfolding_all rfl)) (aB (by with_unfolding_all rfl))) (by with_unfolding_all (intro _ _;rfl)))))
  | (exact(bI (bW (cA (ak Rb (ak aJ (ak yQ (ak (cA (ak (dv 8 (pv 8)) aq (aj (by rfl)))) (ak (cG aq) (ak (cG (ak aP aq (aj (by rfl)))) aq (aj (by rfl))) (aj (by rfl))) (aj (by rfl))) (aj (by rfl))) (aj (by rfl))) (aj (by rfl)))) (aZ ((bw T).mono (by decide)) hr (by rfl) (by exact T.aY) (by exact T.F_l_draw.kp) (by exact T.b_l_draw) (ak (dv 0 (pv 0)) (ak aJ aq (aj (by rfl))) (aj (by rfl))) (by decide) (aj (by rfl)) (aB (by rfl))) (by intro _ _;rfl))))
theorem vN (T:Txt w K mg t):eY P w K mg base Fl 14 t.f_l_refused t.d_l_refused ["_law_thing"] (lift K iu):=by
 have nd:=nj.nd;refine qN (k:=13) T.F_l_refused nj λcdv A outer s H E hr=>?_;have hc:=hr.calm (by decide);refine aD ?_ ?_;exact(ada (i:=1) nd (by rfl) (by rfl) (by rfl) T.xm_EaselError T.xd_EaselError ⟨rfl,rfl⟩ rfl (λafn xe U0=>(eO (xW (uc ((iI T).mono (by decide)) hr (by rfl) (by exact T.cR) (by exact T.F_read_drawing.kp) (by exact T.b_read_drawing) (ak (dv 0 (pv 0)) aq (aj (by rfl))) (by decide) (aj (by rfl)) (aB (by rfl)))))) (λa H0=>by
 have hr:=zaV (a:=a) hr (by decide);exact(aD (dI (iC (adJ (by rfl) (by exact T.z_isinstance) (dv 1 (pv 1)) (MK.cons (eF (v:=.ref t.x_NoName) (by rfl) T.xm_NoName (by rfl)) (Ab.own T.xd_NoName) (MK.cons (eF (v:=.ref t.x_Nothing) (by rfl) T.xm_Nothing (by rfl)) (Ab.own T.xd_Nothing) (MK.cons (eF (v:=.ref t.x_Short) (by rfl) T.xm_Short (by rfl)) (Ab.own T.xd_Short) (MK.cons (eF (v:=.ref t.x_Stuck) (by rfl) T.xm_Stuck (by rfl)) (Ab.own T.xd_Stuck) MK.nil (aj (by rfl))) (aj (by rfl))) (aj (by rfl))) (aj (by rfl))) (by exact Ho rfl) (aj (by rfl)) (aj (by rfl)) (aB (by rfl)))) (aM (bI yQ)) bG)
 (aM (bI (Fi (JV (by rfl) (by exact T.z_isinstance) (dv 1 (pv 1)) (eF (v:=.ref t.x_NoText) (by rfl) T.xm_NoText (by rfl)) (Ab.own T.xd_NoText) (aj (by rfl)) (aj (by rfl)) (aB (by rfl))) (Qj (JV (by rfl) (by exact T.z_isinstance) (dv 1 (pv 1)) (j8 (v:=.ty "ValueError") (by rfl) (by exact T.z_ValueError) PyProof.Rows.Boot.«ValueError» (by rfl)) Ab.val (aj (by rfl)) (aj (by rfl)) (aB (by rfl))))))))))
 refine aM ?_;exact(bI yQ)
theorem aeB (T:Txt w K mg t):eY P w K mg base Fl 15 t.f_law t.d_law ["_law_script"] (lift K Jb):=by
 have nd:=Le.nd;refine qN (k:=14) T.F_law Le λcdv A outer s H E hr=>?_;have hc:=hr.calm (by decide);refine aD ?_ ?_;exact(aR (i:=1) nd (by rfl) (by exact Or.inl rfl)<|aZ ((oO T).mono (by decide)) hr (by rfl) (by exact T.iW) (by exact T.F_l_bag.kp) (by exact T.b_l_bag) (ak (aZ ((jr T).mono (by decide)) hr (by rfl) (by exact T.eE) (by exact T.F_l_cell_at.kp) (by exact T.b_l_cell_at) (ak (dv 0<|pv 0) (ak aJ aq<|aj<|by rfl)<|aj<|by rfl) (by decide) (aj<|by rfl)<|aB<|by rfl) aq<|aj<|by rfl) (by decide) (aj<|by rfl)<|aB<|by rfl);refine aD ?_ ?_;exact(yH (aZ ((aaU T).mono (by decide)) hr (by rfl) (by exact T.oW) (by exact T.F_l_rows.kp) (by exact T.b_l_rows) (ak (dv 0<|pv 0) (ak aJ (ak aJ aq<|aj<|by rfl)<|aj<|by rfl)<|aj<|by rfl) (by decide) (aj<|by rfl)<|aB<|by rfl)<|Ey hc<|oR (gY<|fC (i:=2) nd (by rfl)<|by exact Or.inl rfl)<|oR (gY<|fC (i:=3) nd (by rfl)<|by exact Or.inl rfl) Bt);refine aD ?_ ?_;exact(aR (i:=4) nd (by rfl) (by exact Or.inr rfl)<|aZ ((zal T).mono (by decide)) hr (by rfl) (by exact T.lN) (by exact T.F_l_names.kp) (by exact T.b_l_names) (ak (dv 1<|pv 1) (ak (aQ cX (by rfl) (by exact T.z_len) Dr (ak (dv 2<|pv 2) aq<|aj<|by rfl) (by decide) (by decide) (aj<|by rfl)<|aB<|by rfl) aq<|aj<|by rfl)<|aj<|by rfl) (by decide) (aj<|by rfl)<|aB<|by rfl);refine aD ?_ ?_;exact(aR (i:=5) nd (by rfl) (by exact Or.inl rfl)<|aZ ((zai T).mono (by decide)) hr (by rfl) (by exact T.lu) (by exact T.F_l_claim.kp) (by exact T.b_l_claim) (ak (aZ ((oO T).mono (by decide)) hr (by rfl) (by exact T.iW) (by exact T.F_l_bag.kp) (by exact T.b_l_bag) (ak (aZ ((jr T).mono (by decide)) hr (by rfl) (by exact T.eE) (by exact T.F_l_cell_at.kp) (by exact T.b_l_cell_at) (ak (dv 0<|pv 0) (ak aJ aq<|aj<|by rfl)<|aj<|by rfl) (by decide) (aj<|by rfl)<|aB<|by rfl) aq<|aj<|by rfl) (by decide) (aj<|by rfl)<|aB<|by rfl) (ak (dv 3<|pv 3) aq<|aj<|by rfl)<|aj<|by rfl) (by decide) (aj<|by rfl)<|aB<|by rfl);refine aD ?_ ?_;exact(qd [4] (i:=6) nd (by rfl) (by exact Or.inl rfl) hc (bC<|by rfl) WM (Yq hc<|bC<|by rfl) (zbv (by rfl) (by exact T.z_zip) (ak (dv 4<|pv 4) (ak (dv 2<|pv 2) aq<|aj<|by rfl)<|aj<|by rfl) (aj<|by rfl)<|aB<|by rfl) (λ_ _ _ _=>dN)<|λ_ _ _ _=>(cu bK (cu bK (dv 0<|pv 0) aP)<|aZ ((rO T).mono (by decide)) hr (by rfl) (by exact T.jg) (by exact T.F_l_words.kp) (by exact T.b_l_words) (ak (dv 1<|pv 1) (ak (dv 2<|pv 2) aq<|aj<|by rfl)<|aj<|by rfl) (by decide) (aj<|by rfl)<|aB<|by rfl));refine aD ?_ ?_;exact(aR (i:=7) nd (by rfl) (by exact Or.inl rfl)<|cu bK aP<|aZ ((rO T).mono (by decide)) hr (by rfl) (by exact T.jg) (by exact T.F_l_words.kp) (by exact T.b_l_words) (ak (dv 5<|pv 5) (ak (dv 4<|pv 4) aq<|aj<|by rfl)<|aj<|by rfl) (by decide) (aj<|by rfl)<|aB<|by rfl);refine aD ?_ ?_;exact(aR (i:=8) nd (by rfl) (by exact Or.inl rfl)<|lW Ms Mw fj iD aP (ak (cu cI (dv 6<|pv 6)<|cA<|ak (dv 7<|pv 7) aq<|aj<|by rfl) aq<|aj<|by rfl) (by rfl) (eZ<|by rfl) (by rfl) (aj<|by rfl)<|by rfl);refine aD ?_ ?_;exact(vP Tc hc (jt (cu cI (cA (ak (aZ ((jr T).mono (by decide)) hr (by rfl) (by exact T.eE) (by exact T.F_l_cell_at.kp) (by exact T.b_l_cell_at) (ak (dv 0 (pv 0)) (ak aJ aq (aj (by rfl))) (aj (by rfl))) (by decide) (aj (by rfl)) (aB (by rfl))) aq (aj (by rfl)))) (nZ (dv 0 (pv 0)) (dg aJ) (dg aJ)))) (gY (fC (i:=9) nd (by rfl) (by exact Or.inl rfl))) (aD (dI (jw (iC (aZ ((vN T).mono (by decide)) hr (by rfl) (by exact T.iu) (by exact T.F_l_refused.kp) (by exact T.b_l_refused) (ak (aZ ((zT T).mono (by decide)) hr (by rfl) (by exact T.lB) (by exact T.F_l_wrong.kp) (by exact T.b_l_wrong) (ak (aZ ((oO T).mono (by decide)) hr (by rfl) (by exact T.iW) (by exact T.F_l_bag.kp) (by exact T.b_l_bag) (ak (dv 9 (pv 9)) aq (aj (by rfl))) (by decide) (aj (by rfl)) (aB (by rfl))) (ak (dv 6 (pv 6)) (ak (dv 7 (pv 7)) (ak (dv 4 (pv 4)) aq (aj (by rfl))) (aj (by rfl))) (aj (by rfl))) (aj (by rfl))) (by decide) (aj (by rfl)) (aB (by rfl))) aq (aj (by rfl))) (by decide) (aj (by rfl)) (aB (by rfl))))) (aM (bI yQ)) bG)
 (aM (dI (bF (W7 (jM hr)) (aZ ((pP T).mono (by decide)) hr (by rfl) (by exact T.cR) (by exact T.F_read_drawing.kp) (by exact T.b_read_drawing) (ak (dv 8 (pv 8)) aq (aj (by rfl))) (by decide) (aj (by rfl)) (aB (by rfl))) (cG (ak (dv 2 (pv 2)) (ak (dv 4 (pv 4)) (ak (dv 5 (pv 5)) aq (aj (by rfl))) (aj (by rfl))) (aj (by rfl)))) (bH _)) (aM (bI yQ)) bG))))
 refine aM ?_;exact(bI yQ)
end
variable {mg:Str->Option JI}
def fO (x:Str)(s:Stmt)(oc:JI)(od:Option Addr)(kV dc pm:JI)(an:Option Addr)(cd ct:JI)(sl:Array (Option JI)):Option Obj:=Dn ⟨oc,od,.func (Qn x x (pH s) (jd s) (aW s) .none kV dc pm an cd ct),sl⟩
def sR (f:Addr):Option (Option JI):=Dn (Dn (.ref f))
open PySem.W (nsIn codeIn keepIn) in
theorem all_mk {l:PySem.W.OpenLaw}{w:Av}{K:Zf}{h:Heap}{fa:Addr}(hlaw:∀ns:List Int,ns.length<=63->Jb [.kls (ns.map W.int)] g0 (λw _=>w=.bl true) EF)(X:K.In h)(G:h.Ns CR mg)(hfa:mg "law" = Dn (.ref fa))
  {f0 f1 f2 f3 f4 f5 f6 f7 f8 f9 f10 f11 f12 f13 f14 f15 f16 f17 f18 f19 f20 f21 f22 f23:Addr}{od0 an0 od1 an1 od2 an2 od3 an3 od4 an4 od5 an5 od6 an6 od7 an7 od8 an8 od9 an9 od10 an10 od11 an11 od12 an12 od13 an13 od14 an14 od15 an15 od16 an16 od17 an17 od18 an18 od19 an19 od20 an20 od21 an21 od22 an22 od23 an23:Option Addr}{sl0 sl1 sl2 sl3 sl4 sl5 sl6 sl7 sl8 sl9 sl10 sl11 sl12 sl13 sl14 sl15 sl16 sl17 sl18 sl19 sl20 sl21 sl22 sl23:Array (Option JI)}{oc0 kV0 dc0 pm0 cd0 ct0 oc1 kV1 dc1 pm1 cd1 ct1 oc2 kV2 dc2 pm2 cd2 ct2 oc3 kV3 dc3 pm3 cd3 ct3 oc4 kV4 dc4 pm4 cd4 ct4 oc5 kV5 dc5 pm5 cd5 ct5 oc6 kV6 dc6 pm6 cd6 ct6 oc7 kV7 dc7 pm7 cd7 ct7 oc8 kV8 dc8 pm8 cd8 ct8 oc9 kV9 dc9 pm9 cd9 ct9 oc10 kV10 dc10 pm10 cd10 ct10 oc11 kV11 dc11 pm11 cd11 ct11 oc12 kV12 dc12 pm12 cd12 ct12 oc13 kV13 dc13 pm13 cd13 ct13 oc14 kV14 dc14 pm14 cd14 ct14 oc15 kV15 dc15 pm15 cd15 ct15 oc16 kV16 dc16 pm16 cd16 ct16 oc17 kV17 dc17 pm17 cd17 ct17 oc18 kV18 dc18 pm18 cd18 ct18 oc19 kV19 dc19 pm19 cd19 ct19 oc20 kV20 dc20 pm20 cd20 ct20 oc21 kV21 dc21 pm21 cd21 ct21 oc22 kV22 dc22 pm22 cd22 ct22 oc23 kV23 dc23 pm23 cd23 ct23:JI}
  {jR:Addr}{nk_MADE:Nat}{t_MADE_0:_}{qk_MADE_0:_}{t_MADE_1:_}{qk_MADE_1:_}{t_MADE_2:_}{qk_MADE_2:_}{t_MADE_3:_}{qk_MADE_3:_}{t_MADE_4:_}{qk_MADE_4:_}{t_MADE_5:_}{qk_MADE_5:_}{t_MADE_6:_}{qk_MADE_6:_}
  {gw:Addr}{nk_TAKEN:Nat}{k_TAKEN_0:Addr}{slk_TAKEN_0:Array (Option JI)}{nk_TAKEN_0:Nat}{qk_TAKEN_0:_}{k_TAKEN_1:Addr}{slk_TAKEN_1:Array (Option JI)}{nk_TAKEN_1:Nat}{t_TAKEN_1_0:_}{t_TAKEN_1_1:_}{qk_TAKEN_1:_}{k_TAKEN_2:Addr}{slk_TAKEN_2:Array (Option JI)}{nk_TAKEN_2:Nat}{t_TAKEN_2_0:_}{t_TAKEN_2_1:_}{qk_TAKEN_2:_}{k_TAKEN_3:Addr}{slk_TAKEN_3:Array (Option JI)}{nk_TAKEN_3:Nat}{t_TAKEN_3_0:_}{t_TAKEN_3_1:_}{t_TAKEN_3_2:_}{t_TAKEN_3_3:_}{t_TAKEN_3_4:_}{qk_TAKEN_3:_}{k_TAKEN_4:Addr}{slk_TAKEN_4:Array (Option JI)}{nk_TAKEN_4:Nat}{t_TAKEN_4_0:_}{t_TAKEN_4_1:_}{qk_TAKEN_4:_}{k_TAKEN_5:Addr}{slk_TAKEN_5:Array (Option JI)}{nk_TAKEN_5:Nat}{t_TAKEN_5_0:_}{t_TAKEN_5_1:_}{qk_TAKEN_5:_}{k_TAKEN_6:Addr}{slk_TAKEN_6:Array (Option JI)}{nk_TAKEN_6:Nat}{t_TAKEN_6_0:_}{t_TAKEN_6_1:_}{t_TAKEN_6_2:_}{qk_TAKEN_6:_}
  {dW:Addr}{nk_CLAIMED:Nat}{k_CLAIMED_0:Addr}{slk_CLAIMED_0:Array (Option JI)}{nk_CLAIMED_0:Nat}{k_CLAIMED_0_0:Addr}{slk_CLAIMED_0_0:Array (Option JI)}{nk_CLAIMED_0_0:Nat}{t_CLAIMED_0_0_0:_}{t_CLAIMED_0_0_1:_}{k_CLAIMED_0_1:Addr}{slk_CLAIMED_0_1:Array (Option JI)}{nk_CLAIMED_0_1:Nat}{t_CLAIMED_0_1_0:_}{t_CLAIMED_0_1_1:_}{k_CLAIMED_0_2:Addr}{slk_CLAIMED_0_2:Array (Option JI)}{nk_CLAIMED_0_2:Nat}{t_CLAIMED_0_2_0:_}{t_CLAIMED_0_2_1:_}{qk_CLAIMED_0:_}{k_CLAIMED_1:Addr}{slk_CLAIMED_1:Array (Option JI)}{nk_CLAIMED_1:Nat}{k_CLAIMED_1_0:Addr}{slk_CLAIMED_1_0:Array (Option JI)}{nk_CLAIMED_1_0:Nat}{t_CLAIMED_1_0_0:_}{t_CLAIMED_1_0_1:_}{k_CLAIMED_1_1:Addr}{slk_CLAIMED_1_1:Array (Option JI)}{nk_CLAIMED_1_1:Nat}{t_CLAIMED_1_1_0:_}{t_CLAIMED_1_1_1:_}{qk_CLAIMED_1:_}{k_CLAIMED_2:Addr}{slk_CLAIMED_2:Array (Option JI)}{nk_CLAIMED_2:Nat}{k_CLAIMED_2_0:Addr}{slk_CLAIMED_2_0:Array (Option JI)}{nk_CLAIMED_2_0:Nat}{t_CLAIMED_2_0_0:_}{t_CLAIMED_2_0_1:_}{t_CLAIMED_2_0_2:_}{qk_CLAIMED_2:_}{k_CLAIMED_3:Addr}{slk_CLAIMED_3:Array (Option JI)}{nk_CLAIMED_3:Nat}{k_CLAIMED_3_0:Addr}{slk_CLAIMED_3_0:Array (Option JI)}{nk_CLAIMED_3_0:Nat}{t_CLAIMED_3_0_0:_}{t_CLAIMED_3_0_1:_}{t_CLAIMED_3_0_2:_}{qk_CLAIMED_3:_}{k_CLAIMED_4:Addr}{slk_CLAIMED_4:Array (Option JI)}{nk_CLAIMED_4:Nat}{k_CLAIMED_4_0:Addr}{slk_CLAIMED_4_0:Array (Option JI)}{nk_CLAIMED_4_0:Nat}{t_CLAIMED_4_0_0:_}{t_CLAIMED_4_0_1:_}{qk_CLAIMED_4:_}{k_CLAIMED_5:Addr}{slk_CLAIMED_5:Array (Option JI)}{nk_CLAIMED_5:Nat}{k_CLAIMED_5_0:Addr}{slk_CLAIMED_5_0:Array (Option JI)}{nk_CLAIMED_5_0:Nat}{t_CLAIMED_5_0_0:_}{qk_CLAIMED_5:_}
  {n_MOST_ROWS:Tok}
  {n_MOST_FREE:Tok}
  {n_FIGURES:Tok}
  {n_SMALL_LETTERS:Tok}
  {n_MOST_SIGNS:Tok}
  {x_EaselError:Addr}
  {x_Nothing:Addr}
  {x_Stuck:Addr}
  {x_NoText:Addr}
  {x_NoName:Addr}
  {x_Short:Addr}
  (a0:nsIn K CR "is_whole" = sR f0) (l0:K.lookup f0=fO "is_whole" jG oc0 od0 kV0 dc0 pm0 an0 cd0 ct0 sl0) (c0:codeIn K cd0 "is_whole" = true) (k0:keepIn K (.ref f0)=true)
  (a1:nsIn K CR "begins_with_word" = sR f1) (l1:K.lookup f1=fO "begins_with_word" dB oc1 od1 kV1 dc1 pm1 an1 cd1 ct1 sl1) (c1:codeIn K cd1 "begins_with_word" = true) (k1:keepIn K (.ref f1)=true)
  (a2:nsIn K CR "are_of_sorts" = sR f2) (l2:K.lookup f2=fO "are_of_sorts" eU oc2 od2 kV2 dc2 pm2 an2 cd2 ct2 sl2) (c2:codeIn K cd2 "are_of_sorts" = true) (k2:keepIn K (.ref f2)=true)
  (a3:nsIn K CR "free_rows" = sR f3) (l3:K.lookup f3=fO "free_rows" iz oc3 od3 kV3 dc3 pm3 an3 cd3 ct3 sl3) (c3:codeIn K cd3 "free_rows" = true) (k3:keepIn K (.ref f3)=true)
  (a4:nsIn K CR "is_drawing" = sR f4) (l4:K.lookup f4=fO "is_drawing" fU oc4 od4 kV4 dc4 pm4 an4 cd4 ct4 sl4) (c4:codeIn K cd4 "is_drawing" = true) (k4:keepIn K (.ref f4)=true)
  (a5:nsIn K CR "sort_of" = sR f5) (l5:K.lookup f5=fO "sort_of" mG oc5 od5 kV5 dc5 pm5 an5 cd5 ct5 sl5) (c5:codeIn K cd5 "sort_of" = true) (k5:keepIn K (.ref f5)=true)
  (a6:nsIn K CR "sorts_of" = sR f6) (l6:K.lookup f6=fO "sorts_of" jD oc6 od6 kV6 dc6 pm6 an6 cd6 ct6 sl6) (c6:codeIn K cd6 "sorts_of" = true) (k6:keepIn K (.ref f6)=true)
  (a7:nsIn K CR "is_claim" = sR f7) (l7:K.lookup f7=fO "is_claim" jB oc7 od7 kV7 dc7 pm7 an7 cd7 ct7 sl7) (c7:codeIn K cd7 "is_claim" = true) (k7:keepIn K (.ref f7)=true)
  (a8:nsIn K CR "is_name" = sR f8) (l8:K.lookup f8=fO "is_name" mq oc8 od8 kV8 dc8 pm8 an8 cd8 ct8 sl8) (c8:codeIn K cd8 "is_name" = true) (k8:keepIn K (.ref f8)=true)
  (a9:nsIn K CR "with_numbers" = sR f9) (l9:K.lookup f9=fO "with_numbers" eG oc9 od9 kV9 dc9 pm9 an9 cd9 ct9 sl9) (c9:codeIn K cd9 "with_numbers" = true) (k9:keepIn K (.ref f9)=true)
  (a10:nsIn K CR "read_rows" = sR f10) (l10:K.lookup f10=fO "read_rows" gM oc10 od10 kV10 dc10 pm10 an10 cd10 ct10 sl10) (c10:codeIn K cd10 "read_rows" = true) (k10:keepIn K (.ref f10)=true)
  (a11:nsIn K CR "read_drawing" = sR f11) (l11:K.lookup f11=fO "read_drawing" eN oc11 od11 kV11 dc11 pm11 an11 cd11 ct11 sl11) (c11:codeIn K cd11 "read_drawing" = true) (k11:keepIn K (.ref f11)=true)
  (a12:nsIn K CR "_law_cell_at" = sR f12) (l12:K.lookup f12=fO "_law_cell_at" iB oc12 od12 kV12 dc12 pm12 an12 cd12 ct12 sl12) (c12:codeIn K cd12 "_law_cell_at" = true) (k12:keepIn K (.ref f12)=true)
  (a13:nsIn K CR "_law_bag" = sR f13) (l13:K.lookup f13=fO "_law_bag" tZ oc13 od13 kV13 dc13 pm13 an13 cd13 ct13 sl13) (c13:codeIn K cd13 "_law_bag" = true) (k13:keepIn K (.ref f13)=true)
  (a14:nsIn K CR "_law_draw" = sR f14) (l14:K.lookup f14=fO "_law_draw" oY oc14 od14 kV14 dc14 pm14 an14 cd14 ct14 sl14) (c14:codeIn K cd14 "_law_draw" = true) (k14:keepIn K (.ref f14)=true)
  (a15:nsIn K CR "_law_names" = sR f15) (l15:K.lookup f15=fO "_law_names" lK oc15 od15 kV15 dc15 pm15 an15 cd15 ct15 sl15) (c15:codeIn K cd15 "_law_names" = true) (k15:keepIn K (.ref f15)=true)
  (a16:nsIn K CR "_law_row" = sR f16) (l16:K.lookup f16=fO "_law_row" sE oc16 od16 kV16 dc16 pm16 an16 cd16 ct16 sl16) (c16:codeIn K cd16 "_law_row" = true) (k16:keepIn K (.ref f16)=true)
  (a17:nsIn K CR "_law_sort" = sR f17) (l17:K.lookup f17=fO "_law_sort" oH oc17 od17 kV17 dc17 pm17 an17 cd17 ct17 sl17) (c17:codeIn K cd17 "_law_sort" = true) (k17:keepIn K (.ref f17)=true)
  (a18:nsIn K CR "_law_rows" = sR f18) (l18:K.lookup f18=fO "_law_rows" oU oc18 od18 kV18 dc18 pm18 an18 cd18 ct18 sl18) (c18:codeIn K cd18 "_law_rows" = true) (k18:keepIn K (.ref f18)=true)
  (a19:nsIn K CR "_law_claim" = sR f19) (l19:K.lookup f19=fO "_law_claim" lZ oc19 od19 kV19 dc19 pm19 an19 cd19 ct19 sl19) (c19:codeIn K cd19 "_law_claim" = true) (k19:keepIn K (.ref f19)=true)
  (a20:nsIn K CR "_law_words" = sR f20) (l20:K.lookup f20=fO "_law_words" lR oc20 od20 kV20 dc20 pm20 an20 cd20 ct20 sl20) (c20:codeIn K cd20 "_law_words" = true) (k20:keepIn K (.ref f20)=true)
  (a21:nsIn K CR "_law_wrong" = sR f21) (l21:K.lookup f21=fO "_law_wrong" lQ oc21 od21 kV21 dc21 pm21 an21 cd21 ct21 sl21) (c21:codeIn K cd21 "_law_wrong" = true) (k21:keepIn K (.ref f21)=true)
  (a22:nsIn K CR "_law_refused" = sR f22) (l22:K.lookup f22=fO "_law_refused" gW oc22 od22 kV22 dc22 pm22 an22 cd22 ct22 sl22) (c22:codeIn K cd22 "_law_refused" = true) (k22:keepIn K (.ref f22)=true)
  (a23:nsIn K CR "law" = sR f23) (l23:K.lookup f23=fO "law" Il oc23 od23 kV23 dc23 pm23 an23 cd23 ct23 sl23) (c23:codeIn K cd23 "law" = true) (k23:keepIn K (.ref f23)=true)
  (z_ValueError:Hs K CR "ValueError" = Dn Go)
  (z_all:Hs K CR "all" = Dn Go)
  (z_any:Hs K CR "any" = Dn Go)
  (z_bool:Hs K CR "bool" = Dn Go)
  (z_int:Hs K CR "int" = Dn Go)
  (z_isinstance:Hs K CR "isinstance" = Dn Go)
  (z_len:Hs K CR "len" = Dn Go)
  (z_list:Hs K CR "list" = Dn Go)
  (z_range:Hs K CR "range" = Dn Go)
  (z_str:Hs K CR "str" = Dn Go)
  (z_tuple:Hs K CR "tuple" = Dn Go)
  (z_zip:Hs K CR "zip" = Dn Go)
  (gk_MADE:Hs K CR "MADE" = Dn (Dn (.ref jR))) (sk_MADE:(jR==Ma)=false)
  (lk_MADE:K.lookup jR=Dn ⟨.type "dict",Go,.dict #[⟨Io w.params "free",.str "free" qk_MADE_0,(.str "spot" t_MADE_0)⟩,⟨Io w.params "join",.str "join" qk_MADE_1,(.str "line" t_MADE_1)⟩,⟨Io w.params "meet",.str "meet" qk_MADE_2,(.str "spot" t_MADE_2)⟩,⟨Io w.params "curve",.str "curve" qk_MADE_3,(.str "curve" t_MADE_3)⟩,⟨Io w.params "about",.str "about" qk_MADE_4,(.str "line" t_MADE_4)⟩,⟨Io w.params "pole",.str "pole" qk_MADE_5,(.str "spot" t_MADE_5)⟩,⟨Io w.params "other",.str "other" qk_MADE_6,(.str "spot" t_MADE_6)⟩] nk_MADE,#[]⟩)
  (gk_TAKEN:Hs K CR "TAKEN" = Dn (Dn (.ref gw))) (sk_TAKEN:(gw==Ma)=false)
  (lk_TAKEN:K.lookup gw=Dn ⟨.type "dict",Go,.dict #[⟨Io w.params "free",.str "free" qk_TAKEN_0,(.ref k_TAKEN_0)⟩,⟨Io w.params "join",.str "join" qk_TAKEN_1,(.ref k_TAKEN_1)⟩,⟨Io w.params "meet",.str "meet" qk_TAKEN_2,(.ref k_TAKEN_2)⟩,⟨Io w.params "curve",.str "curve" qk_TAKEN_3,(.ref k_TAKEN_3)⟩,⟨Io w.params "about",.str "about" qk_TAKEN_4,(.ref k_TAKEN_4)⟩,⟨Io w.params "pole",.str "pole" qk_TAKEN_5,(.ref k_TAKEN_5)⟩,⟨Io w.params "other",.str "other" qk_TAKEN_6,(.ref k_TAKEN_6)⟩] nk_TAKEN,#[]⟩)
  (lk_TAKEN_0:K.lookup k_TAKEN_0=Dn ⟨.type "tuple",Go,.seq #[] nk_TAKEN_0,slk_TAKEN_0⟩)
  (lk_TAKEN_1:K.lookup k_TAKEN_1=Dn ⟨.type "tuple",Go,.seq #[(.str "spot" t_TAKEN_1_0),(.str "spot" t_TAKEN_1_1)] nk_TAKEN_1,slk_TAKEN_1⟩)
  (lk_TAKEN_2:K.lookup k_TAKEN_2=Dn ⟨.type "tuple",Go,.seq #[(.str "line" t_TAKEN_2_0),(.str "line" t_TAKEN_2_1)] nk_TAKEN_2,slk_TAKEN_2⟩)
  (lk_TAKEN_3:K.lookup k_TAKEN_3=Dn ⟨.type "tuple",Go,.seq #[(.str "spot" t_TAKEN_3_0),(.str "spot" t_TAKEN_3_1),(.str "spot" t_TAKEN_3_2),(.str "spot" t_TAKEN_3_3),(.str "spot" t_TAKEN_3_4)] nk_TAKEN_3,slk_TAKEN_3⟩)
  (lk_TAKEN_4:K.lookup k_TAKEN_4=Dn ⟨.type "tuple",Go,.seq #[(.str "curve" t_TAKEN_4_0),(.str "spot" t_TAKEN_4_1)] nk_TAKEN_4,slk_TAKEN_4⟩)
  (lk_TAKEN_5:K.lookup k_TAKEN_5=Dn ⟨.type "tuple",Go,.seq #[(.str "curve" t_TAKEN_5_0),(.str "line" t_TAKEN_5_1)] nk_TAKEN_5,slk_TAKEN_5⟩)
  (lk_TAKEN_6:K.lookup k_TAKEN_6=Dn ⟨.type "tuple",Go,.seq #[(.str "curve" t_TAKEN_6_0),(.str "spot" t_TAKEN_6_1),(.str "spot" t_TAKEN_6_2)] nk_TAKEN_6,slk_TAKEN_6⟩)
  (gk_CLAIMED:Hs K CR "CLAIMED" = Dn (Dn (.ref dW))) (sk_CLAIMED:(dW==Ma)=false)
  (lk_CLAIMED:K.lookup dW=Dn ⟨.type "dict",Go,.dict #[⟨Io w.params "same",.str "same" qk_CLAIMED_0,(.ref k_CLAIMED_0)⟩,⟨Io w.params "on",.str "on" qk_CLAIMED_1,(.ref k_CLAIMED_1)⟩,⟨Io w.params "row",.str "row" qk_CLAIMED_2,(.ref k_CLAIMED_2)⟩,⟨Io w.params "bunch",.str "bunch" qk_CLAIMED_3,(.ref k_CLAIMED_3)⟩,⟨Io w.params "touch",.str "touch" qk_CLAIMED_4,(.ref k_CLAIMED_4)⟩,⟨Io w.params "parted",.str "parted" qk_CLAIMED_5,(.ref k_CLAIMED_5)⟩] nk_CLAIMED,#[]⟩)
  (lk_CLAIMED_0:K.lookup k_CLAIMED_0=Dn ⟨.type "tuple",Go,.seq #[(.ref k_CLAIMED_0_0),(.ref k_CLAIMED_0_1),(.ref k_CLAIMED_0_2)] nk_CLAIMED_0,slk_CLAIMED_0⟩)
  (lk_CLAIMED_0_0:K.lookup k_CLAIMED_0_0=Dn ⟨.type "tuple",Go,.seq #[(.str "spot" t_CLAIMED_0_0_0),(.str "spot" t_CLAIMED_0_0_1)] nk_CLAIMED_0_0,slk_CLAIMED_0_0⟩)
  (lk_CLAIMED_0_1:K.lookup k_CLAIMED_0_1=Dn ⟨.type "tuple",Go,.seq #[(.str "line" t_CLAIMED_0_1_0),(.str "line" t_CLAIMED_0_1_1)] nk_CLAIMED_0_1,slk_CLAIMED_0_1⟩)
  (lk_CLAIMED_0_2:K.lookup k_CLAIMED_0_2=Dn ⟨.type "tuple",Go,.seq #[(.str "curve" t_CLAIMED_0_2_0),(.str "curve" t_CLAIMED_0_2_1)] nk_CLAIMED_0_2,slk_CLAIMED_0_2⟩)
  (lk_CLAIMED_1:K.lookup k_CLAIMED_1=Dn ⟨.type "tuple",Go,.seq #[(.ref k_CLAIMED_1_0),(.ref k_CLAIMED_1_1)] nk_CLAIMED_1,slk_CLAIMED_1⟩)
  (lk_CLAIMED_1_0:K.lookup k_CLAIMED_1_0=Dn ⟨.type "tuple",Go,.seq #[(.str "spot" t_CLAIMED_1_0_0),(.str "line" t_CLAIMED_1_0_1)] nk_CLAIMED_1_0,slk_CLAIMED_1_0⟩)
  (lk_CLAIMED_1_1:K.lookup k_CLAIMED_1_1=Dn ⟨.type "tuple",Go,.seq #[(.str "spot" t_CLAIMED_1_1_0),(.str "curve" t_CLAIMED_1_1_1)] nk_CLAIMED_1_1,slk_CLAIMED_1_1⟩)
  (lk_CLAIMED_2:K.lookup k_CLAIMED_2=Dn ⟨.type "tuple",Go,.seq #[(.ref k_CLAIMED_2_0)] nk_CLAIMED_2,slk_CLAIMED_2⟩)
  (lk_CLAIMED_2_0:K.lookup k_CLAIMED_2_0=Dn ⟨.type "tuple",Go,.seq #[(.str "spot" t_CLAIMED_2_0_0),(.str "spot" t_CLAIMED_2_0_1),(.str "spot" t_CLAIMED_2_0_2)] nk_CLAIMED_2_0,slk_CLAIMED_2_0⟩)
  (lk_CLAIMED_3:K.lookup k_CLAIMED_3=Dn ⟨.type "tuple",Go,.seq #[(.ref k_CLAIMED_3_0)] nk_CLAIMED_3,slk_CLAIMED_3⟩)
  (lk_CLAIMED_3_0:K.lookup k_CLAIMED_3_0=Dn ⟨.type "tuple",Go,.seq #[(.str "line" t_CLAIMED_3_0_0),(.str "line" t_CLAIMED_3_0_1),(.str "line" t_CLAIMED_3_0_2)] nk_CLAIMED_3_0,slk_CLAIMED_3_0⟩)
  (lk_CLAIMED_4:K.lookup k_CLAIMED_4=Dn ⟨.type "tuple",Go,.seq #[(.ref k_CLAIMED_4_0)] nk_CLAIMED_4,slk_CLAIMED_4⟩)
  (lk_CLAIMED_4_0:K.lookup k_CLAIMED_4_0=Dn ⟨.type "tuple",Go,.seq #[(.str "line" t_CLAIMED_4_0_0),(.str "curve" t_CLAIMED_4_0_1)] nk_CLAIMED_4_0,slk_CLAIMED_4_0⟩)
  (lk_CLAIMED_5:K.lookup k_CLAIMED_5=Dn ⟨.type "tuple",Go,.seq #[(.ref k_CLAIMED_5_0)] nk_CLAIMED_5,slk_CLAIMED_5⟩)
  (lk_CLAIMED_5_0:K.lookup k_CLAIMED_5_0=Dn ⟨.type "tuple",Go,.seq #[(.str "curve" t_CLAIMED_5_0_0)] nk_CLAIMED_5_0,slk_CLAIMED_5_0⟩)
  (gk_MOST_ROWS:Hs K CR "MOST_ROWS" = Dn (Dn (.int 24 n_MOST_ROWS)))
  (gk_MOST_FREE:Hs K CR "MOST_FREE" = Dn (Dn (.int 7 n_MOST_FREE)))
  (gk_FIGURES:Hs K CR "FIGURES" = Dn (Dn (.str "0123456789" n_FIGURES)))
  (gk_SMALL_LETTERS:Hs K CR "SMALL_LETTERS" = Dn (Dn (.str "abcdefghijklmnopqrstuvwxyz" n_SMALL_LETTERS)))
  (gk_MOST_SIGNS:Hs K CR "MOST_SIGNS" = Dn (Dn (.int 8 n_MOST_SIGNS)))
  (gx_EaselError:nsIn K CR "EaselError" = sR x_EaselError) (xd_EaselError:qR K x_EaselError "EaselError" = true)
  (gx_Nothing:nsIn K CR "Nothing" = sR x_Nothing) (xd_Nothing:qR K x_Nothing "Nothing" = true)
  (gx_Stuck:nsIn K CR "Stuck" = sR x_Stuck) (xd_Stuck:qR K x_Stuck "Stuck" = true)
  (gx_NoText:nsIn K CR "NoText" = sR x_NoText) (xd_NoText:qR K x_NoText "NoText" = true)
  (xc_NoText:tV K x_NoText "NoText" = true) (xq_NoText:Ra K x_NoText vmB "ValueError.__new__" = true)
  (gx_NoName:nsIn K CR "NoName" = sR x_NoName) (xd_NoName:qR K x_NoName "NoName" = true)
  (gx_Short:nsIn K CR "Short" = sR x_Short) (xd_Short:qR K x_Short "Short" = true)
  : ∃fd:DW,(∀(s:Mk) (v:JI),BindsTo s fd ⟨[v],[]⟩ [("_law_script",v)])/\∀base:Heap,K.In base->base.Ns CR mg->eY l.prog w K mg base Fl 15 fa fd ["_law_script"] (Im K):=by
 have e:=hfa.symm.trans (Eo X G a23);cases e;have F0:=dD (st:=jG) l0 c0 k0;have b0:=F0.binds (ps:=["thing"]) λ_ _ _ _ _ _ us hl=>match us,hl with|[_],_=>rfl
 have F1:=dD (st:=dB) l1 c1 k1;have b1:=F1.binds (ps:=["thing", "words"]) λ_ _ _ _ _ _ us hl=>match us,hl with|[_,_],_=>rfl
 have F2:=dD (st:=eU) l2 c2 k2;have b2:=F2.binds (ps:=["sorts", "numbers", "due"]) λ_ _ _ _ _ _ us hl=>match us,hl with|[_,_,_],_=>rfl
 have F3:=dD (st:=iz) l3 c3 k3;have b3:=F3.binds (ps:=["rows"]) λ_ _ _ _ _ _ us hl=>match us,hl with|[_],_=>rfl
 have F4:=dD (st:=fU) l4 c4 k4;have b4:=F4.binds (ps:=["thing"]) λ_ _ _ _ _ _ us hl=>match us,hl with|[_],_=>rfl
 have F5:=dD (st:=mG) l5 c5 k5;have b5:=F5.binds (ps:=["rows", "k"]) λ_ _ _ _ _ _ us hl=>match us,hl with|[_,_],_=>rfl
 have F6:=dD (st:=jD) l6 c6 k6;have b6:=F6.binds (ps:=["rows"]) λ_ _ _ _ _ _ us hl=>match us,hl with|[_],_=>rfl
 have F7:=dD (st:=jB) l7 c7 k7;have b7:=F7.binds (ps:=["rows", "thing"]) λ_ _ _ _ _ _ us hl=>match us,hl with|[_,_],_=>rfl
 have F8:=dD (st:=mq) l8 c8 k8;have b8:=F8.binds (ps:=["text"]) λ_ _ _ _ _ _ us hl=>match us,hl with|[_],_=>rfl
 have F9:=dD (st:=eG) l9 c9 k9;have b9:=F9.binds (ps:=["words", "names"]) λ_ _ _ _ _ _ us hl=>match us,hl with|[_,_],_=>rfl
 have F10:=dD (st:=gM) l10 c10 k10;have b10:=F10.binds (ps:=["lines"]) λ_ _ _ _ _ _ us hl=>match us,hl with|[_],_=>rfl
 have F11:=dD (st:=eN) l11 c11 k11;have b11:=F11.binds (ps:=["text"]) λ_ _ _ _ _ _ us hl=>match us,hl with|[_],_=>rfl
 have F12:=dD (st:=iB) l12 c12 k12;have b12:=F12.binds (ps:=["_law_script", "_law_k"]) λ_ _ _ _ _ _ us hl=>match us,hl with|[_,_],_=>rfl
 have F13:=dD (st:=tZ) l13 c13 k13;have b13:=F13.binds (ps:=["_law_cell"]) λ_ _ _ _ _ _ us hl=>match us,hl with|[_],_=>rfl
 have F14:=dD (st:=oY) l14 c14 k14;have b14:=F14.binds (ps:=["_law_bag_here", "_law_many"]) λ_ _ _ _ _ _ us hl=>match us,hl with|[_,_],_=>rfl
 have F15:=dD (st:=lK) l15 c15 k15;have b15:=F15.binds (ps:=["_law_bag_here", "_law_many"]) λ_ _ _ _ _ _ us hl=>match us,hl with|[_,_],_=>rfl
 have F16:=dD (st:=sE) l16 c16 k16;have b16:=F16.binds (ps:=["_law_bag_here", "_law_sorts", "_law_free"]) λ_ _ _ _ _ _ us hl=>match us,hl with|[_,_,_],_=>rfl
 have F17:=dD (st:=oH) l17 c17 k17;have b17:=F17.binds (ps:=["_law_word"]) λ_ _ _ _ _ _ us hl=>match us,hl with|[_],_=>rfl
 have F18:=dD (st:=oU) l18 c18 k18;have b18:=F18.binds (ps:=["_law_script", "_law_first", "_law_most"]) λ_ _ _ _ _ _ us hl=>match us,hl with|[_,_,_],_=>rfl
 have F19:=dD (st:=lZ) l19 c19 k19;have b19:=F19.binds (ps:=["_law_bag_here", "_law_sorts"]) λ_ _ _ _ _ _ us hl=>match us,hl with|[_,_],_=>rfl
 have F20:=dD (st:=lR) l20 c20 k20;have b20:=F20.binds (ps:=["_law_row_here", "_law_names_here"]) λ_ _ _ _ _ _ us hl=>match us,hl with|[_,_],_=>rfl
 have F21:=dD (st:=lQ) l21 c21 k21;have b21:=F21.binds (ps:=["_law_bag_here", "_law_lines", "_law_claim_here", "_law_names_here"]) λ_ _ _ _ _ _ us hl=>match us,hl with|[_,_,_,_],_=>rfl
 have F22:=dD (st:=gW) l22 c22 k22;have b22:=F22.binds (ps:=["_law_thing"]) λ_ _ _ _ _ _ us hl=>match us,hl with|[_],_=>rfl
 have F23:=dD (st:=Il) l23 c23 k23;have b23:=F23.binds (ps:=["_law_script"]) λ_ _ _ _ _ _ us hl=>match us,hl with|[_],_=>rfl
 have T:Txt w K mg ⟨f0,_,f1,_,f2,_,f3,_,f4,_,f5,_,f6,_,f7,_,f8,_,f9,_,f10,_,f11,_,f12,_,f13,_,f14,_,f15,_,f16,_,f17,_,f18,_,f19,_,f20,_,f21,_,f22,_,fa,_,jR,gw,dW,n_MOST_ROWS,n_MOST_FREE,n_FIGURES,n_SMALL_LETTERS,n_MOST_SIGNS,x_EaselError,x_Nothing,x_Stuck,x_NoText,x_NoName,x_Short⟩:=⟨F0,Eo X G a0,b0,F1,Eo X G a1,b1,F2,Eo X G a2,b2,F3,Eo X G a3,b3,F4,Eo X G a4,b4,F5,Eo X G a5,b5,F6,Eo X G a6,b6,F7,Eo X G a7,b7,F8,Eo X G a8,b8,F9,Eo X G a9,b9,F10,Eo X G a10,b10,F11,Eo X G a11,b11,F12,Eo X G a12,b12,F13,Eo X G a13,b13,F14,Eo X G a14,b14,F15,Eo X G a15,b15,F16,Eo X G a16,b16,F17,Eo X G a17,b17,F18,Eo X G a18,b18,F19,Eo X G a19,b19,F20,Eo X G a20,b20,F21,Eo X G a21,b21,F22,Eo X G a22,b22,F23,Eo X G a23,b23,Mr X G z_ValueError,Mr X G z_all,Mr X G z_any,Mr X G z_bool,Mr X G z_int,Mr X G z_isinstance,Mr X G z_len,Mr X G z_list,Mr X G z_range,Mr X G z_str,Mr X G z_tuple,Mr X G z_zip,Eo X G gk_MADE,⟨sk_MADE,by decide +kernel,by decide,_,_,lk_MADE,(lU.cons gB (λ_ _=>gA) (lU.cons gB (λ_ _=>gA) (lU.cons gB (λ_ _=>gA) (lU.cons gB (λ_ _=>gA) (lU.cons gB (λ_ _=>gA) (lU.cons gB (λ_ _=>gA) (lU.cons gB (λ_ _=>gA) lU.nil)))))))⟩,Eo X G gk_TAKEN,⟨sk_TAKEN,by decide +kernel,by decide,_,_,lk_TAKEN,(lU.cons qM (λ_ _=>((bT lk_TAKEN_0 (by simp<;>decide) .nil λ_ _=>fQ) _ _)) (lU.cons qM (λ_ _=>((bT lk_TAKEN_1 (by simp<;>decide) (.cons gB (.cons gB .nil)) λ_ _=>(cP gA (cP gA fQ))) _ _)) (lU.cons qM (λ_ _=>((bT lk_TAKEN_2 (by simp<;>decide) (.cons gB (.cons gB .nil)) λ_ _=>(cP gA (cP gA fQ))) _ _)) (lU.cons qM (λ_ _=>((bT lk_TAKEN_3 (by simp<;>decide) (.cons gB (.cons gB (.cons gB (.cons gB (.cons gB .nil))))) λ_ _=>(cP gA (cP gA (cP gA (cP gA (cP gA fQ)))))) _ _)) (lU.cons qM (λ_ _=>((bT lk_TAKEN_4 (by simp<;>decide) (.cons gB (.cons gB .nil)) λ_ _=>(cP gA (cP gA fQ))) _ _)) (lU.cons qM (λ_ _=>((bT lk_TAKEN_5 (by simp<;>decide) (.cons gB (.cons gB .nil)) λ_ _=>(cP gA (cP gA fQ))) _ _)) (lU.cons qM (λ_ _=>((bT lk_TAKEN_6 (by simp<;>decide) (.cons gB (.cons gB (.cons gB .nil))) λ_ _=>(cP gA (cP gA (cP gA fQ)))) _ _)) lU.nil)))))))⟩,Eo X G gk_CLAIMED,⟨sk_CLAIMED,by decide +kernel,by decide,_,_,lk_CLAIMED,(lU.cons qM (λ_ _=>((bT lk_CLAIMED_0 (by simp<;>decide) (.cons qM (.cons qM (.cons qM .nil))) λ_ _=>(cP ((bT lk_CLAIMED_0_0 (by simp<;>decide) (.cons gB (.cons gB .nil)) λ_ _=>(cP gA (cP gA fQ))) _ _) (cP ((bT lk_CLAIMED_0_1 (by simp<;>decide) (.cons gB (.cons gB .nil)) λ_ _=>(cP gA (cP gA fQ))) _ _) (cP ((bT lk_CLAIMED_0_2 (by simp<;>decide) (.cons gB (.cons gB .nil)) λ_ _=>(cP gA (cP gA fQ))) _ _) fQ)))) _ _)) (lU.cons qM (λ_ _=>((bT lk_CLAIMED_1 (by simp<;>decide) (.cons qM (.cons qM .nil)) λ_ _=>(cP ((bT lk_CLAIMED_1_0 (by simp<;>decide) (.cons gB (.cons gB .nil)) λ_ _=>(cP gA (cP gA fQ))) _ _) (cP ((bT lk_CLAIMED_1_1 (by simp<;>decide) (.cons gB (.cons gB .nil)) λ_ _=>(cP gA (cP gA fQ))) _ _) fQ))) _ _)) (lU.cons qM (λ_ _=>((bT lk_CLAIMED_2 (by simp<;>decide) (.cons qM .nil) λ_ _=>(cP ((bT lk_CLAIMED_2_0 (by simp<;>decide) (.cons gB (.cons gB (.cons gB .nil))) λ_ _=>(cP gA (cP gA (cP gA fQ)))) _ _) fQ)) _ _)) (lU.cons qM (λ_ _=>((bT lk_CLAIMED_3 (by simp<;>decide) (.cons qM .nil) λ_ _=>(cP ((bT lk_CLAIMED_3_0 (by simp<;>decide) (.cons gB (.cons gB (.cons gB .nil))) λ_ _=>(cP gA (cP gA (cP gA fQ)))) _ _) fQ)) _ _)) (lU.cons qM (λ_ _=>((bT lk_CLAIMED_4 (by simp<;>decide) (.cons qM .nil) λ_ _=>(cP ((bT lk_CLAIMED_4_0 (by simp<;>decide) (.cons gB (.cons gB .nil)) λ_ _=>(cP gA (cP gA fQ))) _ _) fQ)) _ _)) (lU.cons qM (λ_ _=>((bT lk_CLAIMED_5 (by simp<;>decide) (.cons qM .nil) λ_ _=>(cP ((bT lk_CLAIMED_5_0 (by simp<;>decide) (.cons gB .nil) λ_ _=>(cP gA fQ)) _ _) fQ)) _ _)) lU.nil))))))⟩,Eo X G gk_MOST_ROWS,Eo X G gk_MOST_FREE,Eo X G gk_FIGURES,Eo X G gk_SMALL_LETTERS,Eo X G gk_MOST_SIGNS,Eo X G gx_EaselError,xd_EaselError,Eo X G gx_Nothing,xd_Nothing,Eo X G gx_Stuck,xd_Stuck,Eo X G gx_NoText,xd_NoText,xc_NoText,xq_NoText,Eo X G gx_NoName,xd_NoName,Eo X G gx_Short,xd_Short⟩
 exact⟨_,λs v=>.of_eq rfl,λbase _ _=>zbK hlaw<|aeB T⟩
variable {XP:(Str->Option JI)->Heap->Prop}
theorem walk {l:PySem.W.OpenLaw}{q:BK}{loose:List Str}{YP:Av->Heap->Prop}{d:DefRec}{K:Params->Zf}(hn:l.most=Dn 63)(hdf:d.params.defaults=[])
  (hY:∀(w:Av) (h:Heap),YP w h->(K w.params).In h)
  (F:∀(w:Av) (mg:Str->Option JI) (fa:Addr) (h:Heap),(K w.params).In h->h.Ns CR mg->mg d.name=Dn (.ref fa) ->
   ∃fd:DW,(∀(s:Mk) (u:JI),BindsTo s fd ⟨[u],[]⟩ [("_law_script",u)])/\∀base:Heap,(K w.params).In base->base.Ns CR mg->eY l.prog w (K w.params) mg base Fl 15 fa fd ["_law_script"] (Im (K w.params))) :
  PySem.W.WalkO q loose XP YP l.row.toRowW d [] (λf vs=>PySem.call f vs):=
 L2.Gf (n:=63) (k:=15) (x := "_law_script") (CX:=λ_=>Fl) (sp:=λw=>Im (K w.params)) hn (by decide) hdf ⟨λ_=>rfl,by decide,by decide⟩ hY F (λ_ _ a ns hl hO hS=>⟨a,ns,rfl,hS,hO,hl,λ_=>rfl⟩) λ_ _ _ _ _ z=>z
local macro_rules | `(tactic| trivial) => `(tactic| with_reducible exact Sm.lit (by decide))
local macro_rules | `(tactic| trivial) => `(tactic| with_reducible exact Sm.zero)
local macro_rules | `(tactic| trivial) => `(tactic| with_reducible exact Sm.neg (by trivial))
local macro_rules | `(tactic| trivial) => `(tactic| with_reducible exact Sm.sub (by trivial) (by trivial))
local macro_rules | `(tactic| trivial) => `(tactic| with_reducible exact Sm.add (by trivial) (by trivial))
local macro_rules | `(tactic| trivial) => `(tactic| with_reducible exact Sm.mul (by trivial) (by trivial))
local macro_rules | `(tactic| trivial) => `(tactic| with_reducible assumption)
theorem xQ (h:Gh)(n:Nat)(c:Cell):(h.set n c).c n=Dn c:=by show(if n=n then Dn c else h.c n)=Dn c;rw[if_pos rfl]
variable {h:Gh}{m n:Nat}
theorem uZ {c:Cell}(e:m≠n):(h.set n c).c m=h.c m:=by show(if m=n then Dn c else h.c m)=_;rw[if_neg e]
theorem Af (h:Gh)(c:Cell):(h.new c).c h.nx=Dn c:=by show(if _=h.nx then Dn c else h.c _)=Dn c;rw[if_pos rfl]
theorem pU {c:Cell}(e:m≠h.nx):(h.new c).c m=h.c m:=by show(if m=h.nx then Dn c else h.c m)=_;rw[if_neg e]
variable {ws:List W}
theorem dR (e:h.c n=Dn (.lst ws)):view h (.loc n)=Dn ws:=by simp[view,cU,e]
def Hy (n:Nat)(h h':Gh):Prop:=h'.nx=h.nx/\∀m,m≠n->h'.c m=h.c m
theorem Hy.refl (n:Nat)(h:Gh):Hy n h h:=⟨rfl,λ_ _=>rfl⟩
theorem Hy.trans {n:Nat}{a b c:Gh}(x:Hy n a b)(y:Hy n b c):Hy n a c:=⟨y.1.trans x.1,λm e=>(y.2 m e).trans (x.2 m e)⟩
theorem Hy.set {n:Nat}{h:Gh}{c:Cell}:Hy n h (h.set n c):=⟨rfl,λ_ e=>uZ e⟩
theorem fX {a b:Int}(h:0<b):a.fmod b=a % b:=by grind
theorem zM {a b:Int}(h:0<b):a.fdiv b=a / b:=by grind
theorem Om {A B:Prop}{c:Bool}(e:c=true)(h:A):Ec c A B:=by subst e;exact h
variable {ws0:List W}{g:MG}{D:cH}
theorem pB {b:MS}(I:Nat->Sw->Gh->Prop)
  (step:∀(i:Nat) (w:W) (U:Sw) (h:Gh) (N:Sw->Gh->Prop),(∀U' h',I (i+1) U' h'->N U' h')->ws[i]?=Dn w->I i U h->g w U h λU1 h1=>b {D with nx:=N,ct:=N,bk:=D.nx} U1 h1)
  (fin:∀U h,I ws.length U h->D.nx U h):∀{U:Sw}{h:Gh},I 0 U h->jc ⟨ws0,Go⟩ g b D ws U h:=by
 induction ws generalizing I with
 | nil=>intro U h h0;exact fin U h h0
 | cons w ws ih=>
  intro U h h0;exact step 0 w U h _ (λU' h' q=>(ih _ (λi w U h N hN e hi=>step (i+1) w U h N hN (by simpa using e) hi) (λU h q=>fin U h q) q)) rfl h0
variable {ix:List Nat}{te:ME}{tt:MT}{U:Sw}{own:W->Option (List W)}{Q:WK}
theorem fV (I:Nat->List W->Gh->Prop)
  (step:∀(i:Nat) (w:W) (acc:List W) (h:Gh) (N:List W->Gh->Prop),(∀acc' h',I (i+1) acc' h'->N acc' h')->ws[i]?=Dn w->I i acc h ->
   ∃vs,own w=Dn vs/\tt (vs.map Dn++rZ ix U) h λc h1=>Ec c (te (vs.map Dn++rZ ix U) h1 λv h2=>N (acc++[v]) h2) (N acc h1))
  (fin:∀acc h,I ws.length acc h->Q (.lst acc) h):∀{acc:List W}{h:Gh},I 0 acc h->uz ⟨ws0,Go⟩ own ix tt te U Q ws acc h:=by
 induction ws generalizing I with
 | nil=>intro acc h h0;exact fin acc h h0
 | cons w ws ih=>
  intro acc h h0;obtain⟨vs,ev,q⟩:=step 0 w acc h _ (λacc' h' q=>ih _ (λi w acc h N hN e hi=>step (i+1) w acc h N hN (by simpa using e) hi) (λacc h q=>fin acc h q) q) rfl h0;show(match own w with
   | some vs=>_
   | none=>False)
  rwa[ev]
variable {i:Nat}{w:W}
theorem acf {lo:Int}(e:(wj lo n)[i]?=Dn w):i<n/\w=.int (lo+(i:Int)):=by
 have hi:=by
  have:=(HY.mp e).1
  simpa[wj]using this
 unfold wj at e
 simp_all
theorem zaN {lo:Int}:(wj lo n).length=n:=by simp[wj]
variable {j:Int}{ma:MA}
theorem aeK {b:MS}(hm:∀R,ma U h R=R [.int j] h)(h1:-(2^62)<=j)(h2:j<2^62)(I:Nat->Sw->Gh->Prop)
  (step:∀(i:Nat) (U:Sw) (h:Gh) (N:Sw->Gh->Prop),(∀U' h',I (i+1) U' h'->N U' h')->i<j.toNat->I i U h->g (.int (i:Int)) U h λU1 h1=>b {D with nx:=N,ct:=N,bk:=D.nx} U1 h1)
  (fin:∀U h,I j.toNat U h->D.nx U h) (h0:I 0 U h):Dd (fP ma) g b D U h:=by
 unfold Dd fP;rw[hm];refine wk.mk h1 h2 ?_;refine pB I (λi w U h N hN e hi=>?_) (λU h q=>fin U h (by rw[zaN]at q;exact q)) h0;obtain⟨hlt,rfl⟩:=acf e;rw[Int.zero_add];exact step i U h N hN hlt hi
theorem abd {ns:List Int}{k:Int}(h0:0<=k)(h1:k<((ns.map W.int).length:Int)):Hh (ns.map W.int) k=Dn (.int (ns.getD k.toNat 0)):=by
 have e:(ns.map W.int)[k.toNat]?=Dn (.int (ns.getD k.toNat 0)):=by
  grind
 have:=bJ e
 rwa[show((k.toNat:Nat):Int)=k by lia]at this
def gF (f n:Int):Int:=((Int.gcd n f:Nat):Int)
def gL (ns:List Int):Int:=ns.foldl gF 0
def Uv:List Int->Int
 | []=>0
 | n::ns=>if n=0 then Uv ns else n
def Yo (ns:List Int):Int:=Uv ns.reverse
def PlL (ns:List Int):Prop:=gL ns=1/\0<Yo ns
theorem o7 (a b:Int):Bk (.int a) (.int b)=(a==b):=rfl
abbrev Tr:=Int×Int×Int
def tl (t:Tr):List Int:=[t.1,t.2.1,t.2.2]
def tw (t:Tr):W:=.tup [.int t.1,.int t.2.1,.int t.2.2]
def sc (k:Int)(t:Tr):Tr:=(t.1*k,t.2.1*k,t.2.2*k)
def crs (p q:Tr):Tr:=(p.2.1*q.2.2-p.2.2*q.2.1,p.2.2*q.1-p.1*q.2.2,p.1*q.2.1-p.2.1*q.1)
def Ox (p q:Tr):Int:=p.1*q.1+p.2.1*q.2.1+p.2.2*q.2.2
theorem Vd (p q:Tr):Bk (tw p) (tw q)=decide (p=q):=by
 obtain⟨a,b,c⟩:=p;obtain⟨x,y,z⟩:=q;unfold tw;rw[Bk,oh,oh,oh,oh,o7,o7,o7];grind
theorem Fo {s:Src}(I:Nat->List W->Gh->Prop)
  (go:∀i acc h,I i acc h->∀P:Prop,P->s.go h P)
  (step:∀(i:Nat) (w:W) (acc:List W) (h:Gh) (N:List W->Gh->Prop),(∀acc' h',I (i+1) acc' h'->N acc' h')->ws[i]?=Dn w->I i acc h ->
   ∃vs,own w=Dn vs/\tt (vs.map Dn++rZ ix U) h λc h1=>Ec c (te (vs.map Dn++rZ ix U) h1 λv h2=>N (acc++[v]) h2) (N acc h1))
  (fin:∀acc h,I ws.length acc h->Q (.lst acc) h):∀{acc:List W}{h:Gh},I 0 acc h->uz s own ix tt te U Q ws acc h:=by
 induction ws generalizing I with
 | nil=>intro acc h h0;exact go 0 acc h h0 _ (fin acc h h0)
 | cons w ws ih=>
  intro acc h h0;obtain⟨vs,ev,q⟩:=step 0 w acc h _ (λacc' h' q=>ih _ (λi=>go _) (λi w acc h N hN e hi=>step (i+1) w acc h N hN (by simpa using e) hi) (λacc h q=>fin acc h q) q) rfl h0;refine go 0 acc h h0 _ ?_
  rwa[ev]
theorem abw {s:Src}{b:MS}(I:Nat->Sw->Gh->Prop)(go:∀i U h,I i U h->∀P:Prop,P->s.go h P)
  (step:∀(i:Nat) (w:W) (U:Sw) (h:Gh) (N:Sw->Gh->Prop),(∀U' h',I (i+1) U' h'->N U' h')->ws[i]?=Dn w->I i U h->g w U h λU1 h1=>b {D with nx:=N,ct:=N,bk:=D.nx} U1 h1)
  (fin:∀U h,I ws.length U h->D.nx U h):∀{U:Sw}{h:Gh},I 0 U h->jc s g b D ws U h:=by
 induction ws generalizing I with
 | nil=>intro U h h0;exact go 0 U h h0 _ (fin U h h0)
 | cons w ws ih=>
  intro U h h0;exact go 0 U h h0 _<|step 0 w U h _ (λU' h' q=>(ih _ (λi=>go<|i+1) (λi w U h N hN e hi=>step _ w U h N hN (by simpa using e) hi) (λU h q=>fin U h q) q)) rfl h0
variable {us:List W}
theorem J7 (e:h.c n=Dn (.lst us))(hz:us.length<Bh)(k:Q .non (h.set n (.lst (us++[w])))):dO (.loc n) [w] h Q:=by
 show(match h.c n with
  | some (Cell.lst us)=>_
  | _=>False)
 grind
abbrev Mt:=Tr×Tr×Tr
def vm (M:Mt)(v:Tr):Tr:=(Ox M.1 v,Ox M.2.1 v,Ox M.2.2 v)
def tr (M:Mt):Mt:=((M.1.1,M.2.1.1,M.2.2.1),(M.1.2.1,M.2.1.2.1,M.2.2.2.1),(M.1.2.2,M.2.1.2.2,M.2.2.2.2))
def mm (M N:Mt):Mt:=(vm (tr N) M.1,vm (tr N) M.2.1,vm (tr N) M.2.2)
def ml (M:Mt):List Int:=tl M.1++(tl M.2.1++tl M.2.2)
def zae:W->Bool
 | .int _=>true
 | _=>false
instance (ns:List Int):Decidable (PlL ns):=inferInstanceAs (Decidable (_/\_))
def tK (Q:Bool->Gh->Prop):WK:=λw h=>match w with
 | .bl c=>Q c h
 | _=>False
def uK (Q:Bool->Gh->Prop):WK:=λw h=>match V1 h w with
 | some b=>Q b h
 | none=>False
def aK (b:ME)(U:Sw)(Q:WK):WK:=λx h=>match x with
 | .bl true=>b U h Q
 | .bl false=>Q (.bl false) h
 | _=>False
def oK (b:ME)(U:Sw)(Q:WK):WK:=λx h=>match x with
 | .bl false=>b U h Q
 | .bl true=>Q (.bl true) h
 | _=>False
def nK (Q:WK):WK:=λx h=>match x with
 | .bl c=>Q (.bl (!c)) h
 | _=>False
def iK (R:Src->Gh->Prop):WK:=λw h=>match Rg h w with
 | some s=>R s h
 | none=>False
def xK (f:Str->Bool)(Q:WK):WK:=λw h=>match w with
 | .exc n=>Q (.bl (f n)) h
 | .exa n _=>Q (.bl (f n)) h
 | _=>False
def pK (Q:Option Int->Gh->Prop):WK:=λw h=>match w with
 | .int i=>Q (Dn i) h
 | _=>False
def Yx (g:MG)(b:MS)(D:cH)(U:Sw):Src->Gh->Prop:=λs h=>jc s g b D s.ws U h
def lcK (own:W->Option (List W))(ix:List Nat)(tt:MT)(te:ME)(U:Sw)(Q:WK):Src->Gh->Prop:=λs h=>jN s.ws.length (uz s own ix tt te U Q s.ws [] h)
def rgK (R:Src->Gh->Prop):List W->Gh->Prop:=λws h=>match ws with
 | [.int j]=>wk j (R ⟨wj 0 j.toNat,Go⟩ h)
 | _=>False
def zpK (R:Src->Gh->Prop):List W->Gh->Prop:=λws h=>match ws with
 | [x,y]=>(match JT h x y with
  | some s=>R s h
  | none=>False)
 | _=>False
theorem aL {m u:MS}(x:m {D with nx:=u D} U h):bU m u D U h:=x
variable {N:Sw->Gh->Prop}
theorem cF {b c:Sw->Gh->Prop}{r:WK}(x:N U h):cH.nx ⟨N,r,b,c⟩ U h:=x
theorem aad {b c:Sw->Gh->Prop}{r:WK}(x:b U h):cH.bk ⟨N,r,b,c⟩ U h:=x
theorem aaj {b c:Sw->Gh->Prop}{r:WK}(x:c U h):cH.ct ⟨N,r,b,c⟩ U h:=x
theorem FP {b c:Sw->Gh->Prop}{r:WK}(x:r w h):cH.rt ⟨N,r,b,c⟩ w h:=x
theorem aej (x:D.rt w h):cH.rt (cH.lost D) w h:=x
theorem abK (x:D.nx (U.map λ_=>Go) h):cH.nx (cH.lost D) U h:=x
theorem cC (x:D.nx U h):dJ D U h:=x
theorem aV {m:ME}(x:m U h λw h1=>g w U h1 D.nx):cY m g D U h:=x
theorem gR {m:ME}(x:m U h λ_ h1=>D.nx U h1):mY m D U h:=x
theorem dU {m:ME}(x:m U h D.rt):fD m D U h:=x
variable {E:Ba}
theorem fH {c:Str}(x:E ⟨c,[]⟩ h):pL c E D U h:=x
theorem dF {t:MT}{a b:MS}(x:t U h λc h1=>br c (a D U h1) (b D U h1)):jx t a b D U h:=x
theorem Ye {t:MT}{a b:ME}(x:t U h λc h1=>br c (a U h1 Q) (b U h1 Q)):mIf t a b U h Q:=x
variable {d:Str}
theorem K7 {mb:Ba->MS}{mh:MS}(x:mb (λx h'=>Ec (Fj x.cls d) (mh D.lost (U.set i (Dn (GC x))) h') False) D U h):Xm i d mb mh D U h:=x
theorem FW {g:MN}(e:w=.tup ws)(b:LR ws.length n=true)(x:g ws U h N):wU n g w U h N:=by
 subst e;unfold wU;dsimp only
 rwa[b]
theorem zbg {g:MN}(e:w=.lst ws)(b:LR ws.length n=true)(x:g ws U h N):wU n g w U h N:=by
 subst e;unfold wU;dsimp only
 rwa[b]
theorem adD {g:MN}(e:w=.tup ws)(b:LR ws.length n=true)(x:g ws U h N):Yt n g w U h N:=by
 subst e;unfold Yt;dsimp only
 rwa[b]
theorem wR {r:MN}(x:g w U h λU1 h1=>r ws U1 h1 N):Aa g r (w::ws) U h N:=x
theorem KZ (x:N U h):V7 [] U h N:=x
theorem au (e:U[i]?=Dn (Dn w))(x:Q w h):aG i U h Q:=by
 unfold aG
 rwa[e]
theorem bB (x:Q w h):mC w U h Q:=x
theorem aH {r:M2}{ma mb:ME}(x:ma U h λa h1=>mb U h1 λb h2=>r a b h2 Q):Y7 r ma mb U h Q:=x
theorem Aj {r:W->Gh->WK->Prop}{ma:ME}(x:ma U h λa h1=>r a h1 Q):Ow r ma U h Q:=x
theorem rR {i:Int}(x:Q (.int (-i)) h):Jx (.int i) h Q:=x
theorem ao {a:ME}{r:MA}{Q:List W->Gh->Prop}(x:a U h λw h1=>r U h1 λws h2=>Q (w::ws) h2):aA a r U h Q:=x
theorem aF {Q:List W->Gh->Prop}(x:Q [] h):aN U h Q:=x
theorem aX {P:Prop}(e:Nat.ble n 1000=true)(x:P):jN n P:=by
 unfold jN
 rwa[e]
theorem dG {t:MA}(x:t U h λws h1=>jN ws.length (Q (.tup ws) h1)):kZ t U h Q:=x
theorem bY {t:MA}(x:t U h λws h1=>jN ws.length (Q (.lst ws) h1)):gj t U h Q:=x
theorem bD {c:AP}(x:ma U h λws h1=>c ws h1 Q E):bN c E ma U h Q:=x
theorem fY {r:MC}(x:ma U h λws h1=>r ws h1 Q):CZ r ma U h Q:=x
theorem cD {m:ME}{Q:Bool->Gh->Prop}(x:m U h (tK Q)):cJ m U h Q:=x
theorem oX {c:Bool}{Q:Bool->Gh->Prop}(x:Q c h):tK Q (.bl c) h:=x
theorem lM {m:ME}{Q:Bool->Gh->Prop}(x:m U h (uK Q)):wJ m U h Q:=x
theorem Hl {b:Bool}{Q:Bool->Gh->Prop}(e:V1 h w=Dn b)(x:Q b h):uK Q w h:=by
 unfold uK
 rwa[e]
theorem nF {t:MT}{Q:Bool->Gh->Prop}(x:t U h λc h1=>Q (!c) h1):Ao t U h Q:=x
theorem aek {t u:MT}{Q:Bool->Gh->Prop}(x:t U h λc h1=>br c (u U h1 Q) (Q false h1)):aaq t u U h Q:=x
theorem EY {t u:MT}{Q:Bool->Gh->Prop}(x:t U h λc h1=>br c (Q true h1) (u U h1 Q)):M5 t u U h Q:=x
theorem iQ {Q:Bool->Gh->Prop}(x:Q true h):qP U h Q:=x
theorem BL {a b:ME}(x:a U h (aK b U Q)):u6 a b U h Q:=x
theorem VF {a b:ME}(x:a U h (oK b U Q)):aal a b U h Q:=x
theorem adn {a:ME}(x:a U h (nK Q)):LK a U h Q:=x
theorem Yy {b:ME}{c:Bool}(x:br c (b U h Q) (Q (.bl false) h)):aK b U Q (.bl c) h:=by
 cases c with
 | true=>exact x.1 rfl
 | false=>exact x.2 rfl
theorem ZQ {b:ME}{c:Bool}(x:br c (Q (.bl true) h) (b U h Q)):oK b U Q (.bl c) h:=by
 cases c with
 | true=>exact x.1 rfl
 | false=>exact x.2 rfl
theorem Zx {c:Bool}(x:Q (.bl (!c)) h):nK Q (.bl c) h:=x
variable {f:Str->Bool}
theorem zK {m:ME}(x:m U h (xK f Q)):Ie f m U h Q:=x
theorem VL {n:Str}(x:Q (.bl (f n)) h):xK f Q (.exc n) h:=x
theorem z7 {a b:Prop}(x:a):br true a b:=V6 rfl x
theorem Jr {a b:Prop}(x:b):br false a b:=QM rfl x
theorem qK {a b:Prop}(x:b):br (!true) a b:=Jr x
theorem qY {a b:Prop}(x:a):br (!false) a b:=z7 x
theorem fG {a b:Prop}(x:a):Ec true a b:=x
theorem vA {a b:Prop}(x:b):Ec false a b:=x
theorem zy {i:Int}(x:Q (.int (i-j)) h):Dm (.int i) (.int j) h Q:=x
theorem j5 {i:Int}(x:Q (.int (i+j)) h):cM (.int i) (.int j) h Q:=x
theorem adV {i:Int}(c:sJ i j)(x:Q (.int (i*j)) h):Vc (.int i) (.int j) h Q:=⟨c,x⟩
theorem Dc {i:Int}(c:j≠0)(x:Q (.int (i.fmod j)) h):Ga (.int i) (.int j) h Q:=⟨c,x⟩
theorem uF {i:Int}(x:Q (.bl (decide (i<j))) h):kLt (.int i) (.int j) h Q:=x
theorem WW {i:Int}(x:Q (.bl (decide (i>j))) h):kGt (.int i) (.int j) h Q:=x
theorem Py {i:Int}(x:Q (.bl (decide (i=j))) h):Jj (.int i) (.int j) h Q:=x
theorem Xg {i:Int}(x:Q (.bl (decide (i≠j))) h):Ji (.int i) (.int j) h Q:=by
 have e:(!Bk (.int i) (.int j))=decide (i≠j):=by rw[o7];by_cases z:i=j<;>simp[z]
 show Q _ h
 rwa[e]
theorem Xq {i j:Bool}(x:Q (.bl (decide (i=j))) h):Jj (.bl i) (.bl j) h Q:=x
theorem Wq {i j:Bool}(x:Q (.bl (decide (i≠j))) h):Ji (.bl i) (.bl j) h Q:=by
 have e:(!Bk (.bl i) (.bl j))=decide (i≠j):=by cases i<;>cases j<;>rfl
 show Q _ h
 rwa[e]
theorem RT {p q:Tr}(x:Q (.bl (decide (p=q))) h):Jj (tw p) (tw q) h Q:=by
 show Q _ h
 rwa[Vd]
theorem RQ {p q:Tr}(x:Q (.bl (decide (p≠q))) h):Ji (tw p) (tw q) h Q:=by
 have e:(!Bk (tw p) (tw q))=decide (p≠q):=by rw[Vd];by_cases z:p=q<;>simp
 show Q _ h
 rwa[e]
theorem Xf {p:Tr}{a b c:Int}(x:Q (.bl (decide (p=(a,b,c)))) h):Jj (tw p) (.tup [.int a,.int b,.int c]) h Q:=RT x
theorem Wv {p:Tr}{a b c:Int}(x:Q (.bl (decide (p≠(a,b,c)))) h):Ji (tw p) (.tup [.int a,.int b,.int c]) h Q:=RQ x
theorem cV {x:W}{i:Int}(e:view h x=Dn ws)(a:Hh ws i=Dn w)(k:Q w h):Aq x (.int i) h Q:=by
 unfold Aq;grind
theorem yS {T:String}{b:Bool}(e:GD h w T=Dn b)(x:Q (.bl b) h):JX [w,.ty T] h Q:=by
 unfold JX;grind
theorem eV {xs:List W}(e:view h w=Dn xs)(x:Q (.int (xs.length:Int)) h):Bb [w] h Q:=by
 unfold Bb;grind
theorem yN (x:Q (.tup us) h):yc [.lst us] h Q:=x
variable {bs:List Bool}
theorem KQ (e:cU h w=Dn us)(b:Gy us=Dn bs)(x:Q (.bl (bs.any id)) h):Tj [w] h Q:=by
 unfold Tj;grind
theorem BZ (e:cU h w=Dn us)(b:Gy us=Dn bs)(x:Q (.bl (bs.all id)) h):QK [w] h Q:=by
 unfold QK;grind
theorem abV {ns:List Int}(e:cU h w=Dn us)(b:Pg us=Dn ns)(x:Q (.int ns.sum) h):Y6 [w] h Q:=by
 unfold Y6;grind
theorem adE {i:Int}(x:Q (.int (if i<0 then -i else i)) h):Zz [.int i] h Q:=x
theorem ael {b:Bool}(x:Q (.int (if b then 1 else 0)) h):Zj [.bl b] h Q:=x
theorem vI {mi:MI}{b:MS}(x:mi U h (Yx g b D U)):Dd mi g b D U h:=x
variable {o:Option (Nat×List W)}
theorem rF {b:MS}(x:jc ⟨ws,o⟩ g b D ws U h):Yx g b D U ⟨ws,o⟩ h:=x
theorem abW {b:MS}(x:D.nx U h):jc ⟨ws,Go⟩ g b D [] U h:=x
theorem zbn {r:List W}{b:MS}(x:g w U h λU1 h1=>b {D with nx:=jc ⟨ws,Go⟩ g b D r,ct:=jc ⟨ws,Go⟩ g b D r,bk:=D.nx} U1 h1):jc ⟨ws,Go⟩ g b D (w::r) U h:=x
variable {R:Src->Gh->Prop}
theorem rY {m:ME}(x:m U h (iK R)):LQ m U h R:=x
theorem HN (e:Rg h w=Dn ⟨ws,o⟩)(x:R ⟨ws,o⟩ h):iK R w h:=by
 unfold iK
 rwa[e]
theorem jW (x:ma U h (rgK R)):fP ma U h R:=x
theorem Wy (x:R ⟨[.int 0,.int 1,.int 2],Go⟩ h):rgK R [.int 3] h:=x
theorem WY (x:R ⟨[.int 0,.int 1],Go⟩ h):rgK R [.int 2] h:=x
theorem J4 (x:ma U h (zpK R)):Xe ma U h R:=x
variable {as:List W}
theorem Va {a b:W}{bs:List W}{zs:List W}(e:oF a=Dn as)(e':oF b=Dn bs)(z:mK as bs=zs)(x:R ⟨zs,Go⟩ h):zpK R [a,b] h:=by
 subst z;have es:JT h a b=Dn ⟨mK as bs,Go⟩:=by unfold JT;rw[e,e']
 unfold zpK;grind
theorem Yb {b:W}{bs:List W}{zs:List W}(e:h.c n=Dn (.lst as))(e':oF b=Dn bs)(z:mK as bs=zs)(x:R ⟨zs,Dn (n,as)⟩ h):zpK R [.loc n,b] h:=by
 subst z;have es:JT h (.loc n) b=Dn ⟨mK as bs,Dn (n,as)⟩:=by unfold JT;rw[e'];dsimp [oF];rw[e]
 unfold zpK;grind
theorem YX {bs:List W}:mK [] bs=[]:=rfl
theorem YD {a:W}:mK (a::as) []=[]:=rfl
theorem Ks {a b:W}{bs l:List W}(e:mK as bs=l):mK (a::as) (b::bs)=.tup [a,b]::l:=by rw[mK,e]
theorem jL {mi:MI}(x:mi U h (lcK own ix tt te U Q)):Fq own ix mi tt te U h Q:=x
theorem pN (e:Nat.ble ws.length 1000=true)(x:uz ⟨ws,o⟩ own ix tt te U Q ws [] h):lcK own ix tt te U Q ⟨ws,o⟩ h:=aX e x
variable {acc:List W}
theorem adU (x:Q (.lst acc) h):uz ⟨ws,Go⟩ own ix tt te U Q [] acc h:=x
theorem VB {r vs:List W}(e:own w=Dn vs)(x:tt (vs.map Dn++rZ ix U) h λc h1=>Ec c (te (vs.map Dn++rZ ix U) h1 λv h2=>uz ⟨ws,Go⟩ own ix tt te U Q r (acc++[v]) h2) (uz ⟨ws,Go⟩ own ix tt te U Q r acc h1)):uz ⟨ws,Go⟩ own ix tt te U Q (w::r) acc h:=by
 show match own w with
  | some vs=>tt _ h λc h1=>Ec c _ _
  | none=>False
 rwa[e]
variable {body:Ba->MS}
theorem Xd {N:Nat}(hl:LR ws.length n=true)(x:body E {nx:=λ_ h'=>Q .non h',rt:=Q} (ws.map Dn++HI (N-ws.length) Go) h):Fx n N false body ws h Q E:=by
 unfold Fx
 rwa[hl]
variable {r:W->Option Int->Option Int->Gh->WK->Prop}
theorem j9 {m:ME}{l u:MO}(x:m U h λa h1=>l U h1 λlo h2=>u U h2 λhi h3=>r a lo hi h3 Q):Gq r m l u U h Q:=x
theorem dM {m:ME}{Q:Option Int->Gh->Prop}(x:m U h (pK Q)):d7 m U h Q:=x
theorem uO {i:Int}{Q:Option Int->Gh->Prop}(x:Q (Dn i) h):pK Q (.int i) h:=x
def p3K (i j k:Nat)(D:cH)(U:Sw):List W->Gh->Prop:=λws h=>match ws with
 | [x,y,z]=>D.nx (((U.set i (Dn x)).set j (Dn y)).set k (Dn z)) h
 | _=>False
variable {k:Nat}
theorem zbr {j:Nat}{ta:MA}(x:ta U h (p3K i j k D U)):Yj i j k ta D U h:=x
theorem aez {xs:List W}{n:Int}{a b:Prop}(e:decide ((xs.length:Int)≠n)=false)(x:b):br (decide ((xs.length:Int)≠n)) a b:=QM e x
theorem aeN {a b:Prop}(e:bs.all id=true)(x:b):br (!(bs.all id)) a b:=QM (by rw[e];rfl) x
theorem Wz {n:Str}{a b:Prop}(e:Fj n d=true)(x:a):Ec (Fj n d) a b:=Om e x
theorem Xc {n:Str}{a b:Prop}(e:Fj n d=true)(x:a):br (Fj n d) a b:=V6 e x
theorem Wf {n:Str}{a b:Prop}(e:Fj n d=false)(x:b):br (Fj n d) a b:=QM e x
theorem QG {α:Type}{a x:α}{l:List α}:(a::l).set 0 x=x::l:=rfl
theorem QW {α:Type}{a x:α}{l l':List α}(e:l.set n x=l'):(a::l).set (n+1) x=a::l':=by simp_all
theorem Es {U':Sw}(e:U.set i (Dn w)=U')(x:N U' h):YM i w U h N:=by
 subst e;exact x
theorem nV {U':Sw}(x:N U' h)(e:U.set i (Dn w)=U':=by repeat(first|with_reducible exact QG|with_reducible apply QW)):YM i w U h N:=Es e x
theorem Xy {j:Nat}{U1 U2 U3:Sw}{x y z:W}(e1:U.set i (Dn x)=U1)(e2:U1.set j (Dn y)=U2)(e3:U2.set k (Dn z)=U3)(q:D.nx U3 h):p3K i j k D U [x,y,z] h:=by
 subst e1 e2 e3;exact q
def ini (ws:List W)(n:Nat):Sw:=ws.map Dn++HI (n-ws.length) Go
theorem Yz:ini [] 0=[]:=rfl
theorem Y4 {l:Sw}(e:ini [] n=l):ini [] (n+1)=Go::l:=by
 subst e;rfl
theorem YW {l:Sw}(e:ini ws n=l):ini (w::ws) (n+1)=Dn w::l:=by
 subst e;unfold ini;grind
theorem mO {N:Nat}(hl:LR ws.length n=true)(e:ini ws N=U)(x:body E {nx:=λ_ h'=>Q .non h',rt:=Q} U h):Fx n N false body ws h Q E:=by
 subst e;exact Xd hl x
theorem X5 {n:Str}{fs:List (Str×W)}{mh:MS}{U':Sw}(e:Fj n d=true)(s:U.set i (Dn (GC ⟨n,fs⟩))=U')(x:mh D U' h):Ec (Fj (Xw.mk n fs).cls d) (mh D (U.set i (Dn (GC (Xw.mk n fs)))) h) False:=by
 subst s;exact Om e x
theorem Vw {mi:MI}(x:Fq own ix mi tt te U h (YF Q)):aac own ix mi tt te U h Q:=x
variable {mo:ME}
theorem J5 {mi:ME}{ms:UW}(x:mo U h λo h1=>mi U h1 λi h2=>ms o i w h2 λh3=>N U h3):QV mo mi ms w U h N:=x
theorem acT {j:Nat}{k:Int}{ws':List W}{N:Gh->Prop}(e:h.c n=Dn (.lst ws))(i:Jl ws.length k=Dn j)(s:ws.set j w=ws')(x:∀g:Gh,g.c n=Dn (.lst ws')->(∀m,m≠n->g.c m=h.c m)->g.nx=h.nx->N g):wK (.loc n) (.int k) w h N:=by
 subst s;show(match h.c n with
  | some (Cell.lst ws)=>(match Jl _ k with
   | some j=>N _
   | none=>False)
  | _=>False)
 rw[e];dsimp only;exact i ▸ x _ (xQ _ _ _) (λ_ e=>uZ e) rfl
theorem abe {r:List W}{b:MS}(e:h.c n=Dn (.lst us))(x:g w U h λU1 h1=>b {D with nx:=jc ⟨ws,Dn (n,us)⟩ g b D r,ct:=jc ⟨ws,Dn (n,us)⟩ g b D r,bk:=D.nx} U1 h1):jc ⟨ws,Dn (n,us)⟩ g b D (w::r) U h:=⟨e,x⟩
theorem abO {b:MS}(e:h.c n=Dn (.lst us))(x:D.nx U h):jc ⟨ws,Dn (n,us)⟩ g b D [] U h:=⟨e,x⟩
theorem adp (e:h.c n=Dn (.lst us))(x:Q (.lst acc) h):uz ⟨ws,Dn (n,us)⟩ own ix tt te U Q [] acc h:=⟨e,x⟩
theorem acA {r vs:List W}(ec:h.c n=Dn (.lst us))(e:own w=Dn vs)(x:tt (vs.map Dn++rZ ix U) h λc h1=>Ec c (te (vs.map Dn++rZ ix U) h1 λv h2=>uz ⟨ws,Dn (n,us)⟩ own ix tt te U Q r (acc++[v]) h2) (uz ⟨ws,Dn (n,us)⟩ own ix tt te U Q r acc h1)):uz ⟨ws,Dn (n,us)⟩ own ix tt te U Q (w::r) acc h:=by
 refine⟨ec,?_⟩
 rwa[e]
theorem XD (e:h.c n=Dn (.lst ws))(x:R ⟨ws,Dn (n,ws)⟩ h):iK R (.loc n) h:=HN (by simp[Rg,e]) x
theorem Nx {i:Int}(e:h.c n=Dn (.lst ws))(a:Hh ws i=Dn w)(k:Q w h):Aq (.loc n) (.int i) h Q:=cV (dR e) a k
theorem J8 {N:Nat}(hl:LR ws.length n=true)(e:ini ws N=U)(x:body E {nx:=λ_ h'=>n6 true h .non h' Q,rt:=λw h'=>n6 true h w h' Q} U h):Fx n N true body ws h Q E:=by
 subst e;unfold Fx
 rwa[hl]
theorem abL {a b:List W}(e:Nat.ble (a.length+b.length) 1000=true)(x:Q (.lst (a++b)) h):cM (.lst a) (.lst b) h Q:=aX e x
theorem X3 {a b:Bool}(x:Q (.bl (a==b)) h):kIs (.bl a) (.bl b) h Q:=x
theorem zbt {a b:Bool}(x:Q (.bl (!(a==b))) h):Ys (.bl a) (.bl b) h Q:=x
variable {a:Str}
theorem Qk {b:Str}(x:Q (.bl (decide (a=b))) h):Jj (.str a) (.str b) h Q:=x
theorem TX {b:Str}(x:Q (.bl (decide (a≠b))) h):Ji (.str a) (.str b) h Q:=by
 have e:(!Bk (.str a) (.str b))=decide (a≠b):=by rw[Bk];by_cases z:a=b<;>simp[z]
 show Q _ h
 rwa[e]
theorem Vf {a b:Prop}(e:bs.any id=false)(x:b):br (bs.any id) a b:=QM e x
local macro_rules | `(tactic| rfl') => `(tactic| repeat (first
 | with_reducible (first|refine aL ?_|refine aV ?_|refine bD ?_|refine ao ?_|refine aF ?_)
 | ((with_reducible apply au);exact rfl)|with_reducible refine bB ?_|with_reducible refine aH ?_|with_reducible refine Es (by repeat(first|with_reducible exact QG|with_reducible apply QW)) ?_|with_reducible (first|refine aej ?_|refine abK ?_|refine cF ?_|refine FP ?_|refine aad ?_|refine aaj ?_)
 | with_reducible (first|refine dF ?_|refine Ye ?_|refine dU ?_|refine gR ?_|refine cC ?_|refine K7 ?_|refine fH ?_)
 | with_reducible (first|refine cD ?_|refine oX ?_|refine lM ?_)|((with_reducible apply Hl);exact rfl)|with_reducible (first|refine nF ?_|refine aek ?_|refine EY ?_|refine iQ ?_)
 | with_reducible (first|refine BL ?_|refine VF ?_|refine adn ?_|refine Yy ?_|refine ZQ ?_|refine Zx ?_|refine zK ?_|refine VL ?_)
 | with_reducible (first|refine z7 ?_|refine Jr ?_|refine qK ?_|refine qY ?_|refine fG ?_|refine vA ?_)
 | with_reducible refine dG ?_|with_reducible refine bY ?_|((with_reducible apply aX);exact rfl)|with_reducible (first|refine fY ?_|refine Aj ?_|refine rR ?_)
 | ((with_reducible apply FW);exact rfl;exact rfl)|((with_reducible apply zbg);exact rfl;exact rfl)|((with_reducible apply adD);exact rfl;exact rfl)|with_reducible refine wR ?_|with_reducible refine KZ ?_
 | with_reducible refine zy ?_|with_reducible refine j5 ?_|((with_reducible apply adV);exact sJ.of (by trivial) (by trivial) (by lia) (by lia))|with_reducible refine uF ?_|with_reducible refine WW ?_
 | with_reducible (first|refine Py ?_|refine Xg ?_|refine Xq ?_|refine Wq ?_|refine RT ?_|refine RQ ?_|refine Xf ?_|refine Wv ?_)
 | ((with_reducible apply cV);exact rfl;exact rfl)|((with_reducible apply yS);exact rfl)|((with_reducible apply eV);exact rfl)|with_reducible refine yN ?_|((with_reducible apply KQ);exact rfl;exact rfl)|((with_reducible apply BZ);exact rfl;exact rfl)|((with_reducible apply abV);exact rfl;exact rfl)|with_reducible refine ael ?_|with_reducible refine adE ?_
 | with_reducible (first|refine vI ?_|refine rF ?_|refine abW ?_|refine zbn ?_|refine rY ?_)|((with_reducible apply HN);exact rfl)|with_reducible (first|refine jW ?_|refine Wy ?_|refine WY ?_|refine J4 ?_)|((with_reducible apply Va);exact rfl;exact rfl;(repeat(first|with_reducible exact YX|with_reducible exact YD|with_reducible apply Ks)))
 | with_reducible refine jL ?_|((with_reducible apply pN);exact rfl)|with_reducible refine adU ?_|((with_reducible apply VB);exact rfl)|((with_reducible apply mO);exact rfl;repeat(first|with_reducible exact Yz|with_reducible apply YW|with_reducible apply Y4))|with_reducible (first|refine j9 ?_|refine dM ?_|refine uO ?_|refine zbr ?_)|with_reducible refine Xy (by repeat(first|with_reducible exact QG|with_reducible apply QW)) (by repeat(first|with_reducible exact QG|with_reducible apply QW)) (by repeat(first|with_reducible exact QG|with_reducible apply QW)) ?_|((with_reducible apply aez);exact rfl)|((with_reducible apply aeN);exact rfl)|((with_reducible apply X5);decide +kernel;(repeat(first|with_reducible exact QG|with_reducible apply QW)))|((with_reducible apply Wz);decide +kernel)|((with_reducible apply Xc);decide +kernel)|((with_reducible apply Wf);decide +kernel)|with_reducible refine Vw ?_|with_reducible refine J5 ?_|((with_reducible apply XD);(with_reducible assumption))|((with_reducible apply abe);(with_reducible assumption))|((with_reducible apply abO);(with_reducible assumption))|((with_reducible apply adp);(with_reducible assumption))|((with_reducible apply acA);(with_reducible assumption);exact rfl)|((with_reducible apply Nx);(with_reducible assumption);exact rfl)|((with_reducible apply Yb);(with_reducible assumption);exact rfl;(repeat(first|with_reducible exact YX|with_reducible exact YD|with_reducible apply Ks)))|((with_reducible apply J8);exact rfl;(repeat(first|with_reducible exact Yz|with_reducible apply YW|with_reducible apply Y4)))|((with_reducible apply abL);exact rfl)|with_reducible (first|refine X3 ?_|refine zbt ?_|refine Qk ?_|refine TX ?_)|((with_reducible apply Vf);decide +kernel)))
abbrev cs (x:Str):List Nat:=x.cps.toList
def tx (l:List Nat):Str:=⟨l.toArray⟩
theorem kW (l:List Nat):cs (tx l)=l:=by simp[cs,tx]
theorem wH (x:Str):tx (cs x)=x:=by cases x;simp[cs,tx]
variable {x y:Str}
theorem eX (h:cs x=cs y):x=y:=by rw[<-wH x,<-wH y,h]
theorem bV (x y:Str):cs (x++y)=cs x++cs y:=by
 show(x.cps++y.cps).toList=_;rw[Array.toList_append]
theorem cN (x:Str):(cs x).length=x.length:=Array.length_toList
def cut (c:Nat):List Nat->List (List Nat)
 | []=>[[]]
 | x::xs=>if x=c then[]::cut c xs else match cut c xs with
  | p::ps=>(x::p)::ps
  | []=>[[x]]
def glue (c:Nat):List (List Nat)->List Nat
 | []=>[]
 | [p]=>p
 | p::q::ps=>p++c::glue c (q::ps)
variable {c:Nat}
theorem zO {c:Nat}:∀{p:List Nat},c∉p->cut c p=[p]
 | [],_=>rfl
 | x::p,h=>by
  rw[cut,if_neg λe=>h (by rw[e];exact Eb),zO λe=>h (Hj _ e)]
theorem K4 {c:Nat}{b:List Nat}:∀{a:List Nat},c∉a->cut c (a++c::b)=a::cut c b
 | [],_=>by rw[RJ,cut,if_pos rfl]
 | x::a,h=>by
  rw[Mi,cut,if_neg λe=>h (by rw[e];exact Eb),K4 λe=>h (Hj _ e)]
theorem sH {c:Nat}:∀{ps:List (List Nat)},ps≠[]->(∀p∈ps,c∉p)->cut c (glue c ps)=ps
 | [],h,_=>absurd rfl h
 | [p],_,h=>by rw[glue,zO (h p Eb)]
 | p::q::ps,_,h=>by
  rw[glue,K4 (h p Eb),sH (G7 _ _) λr hr=>h r (Hj _ hr)]
theorem qx {c:Nat}:∀ps:List Str,cs (MF ⟨#[c]⟩ ps)=glue c (ps.map cs)
 | []=>rfl
 | [p]=>rfl
 | p::q::ps=>by
  show cs (p++⟨#[c]⟩++MF ⟨#[c]⟩ (q::ps))=_;rw[bV,bV,qx (q::ps)];show cs p++[c]++glue c _=cs p++c::glue c _;rw[GR];rfl
theorem aaT (x:Str)(c:Nat):Fz x ⟨#[c]⟩=(cut c (cs x)).map tx:=by
 have h1:=congrArg cs (StrLaws.join_split x ⟨#[c]⟩);rw[qx]at h1;have h2:(Fz x ⟨#[c]⟩).map cs≠[]:=by
  have:=split_pos x ⟨#[c]⟩
  intro e;rw[List.map_eq_nil_iff]at e;rw[e]at this;exact absurd this<|by decide
 have h3:=sH (c:=c) h2 λp hp=>by
  obtain⟨y,hy,e⟩:=Dy.mp hp;rw[<-e];exact StrLaws.split_free x c y hy
 rw[h1]at h3;rw[h3,Lx];exact(List.map_id' _).symm.trans (PJ λy _=>(wH y).symm)
def pR (c d:Nat):List Nat->List (List Nat)
 | []=>[[]]
 | [x]=>[[x]]
 | x::y::r=>if x=c/\y=d then[]::pR c d r else match pR c d (y::r)with
  | p::ps=>(x::p)::ps
  | []=>[[x]]
theorem lV {c d:Nat}:∀{l:List Nat},(∀k r,l.drop k≠c::d::r)->pR c d l=[l]
 | [],_=>rfl
 | [x],_=>rfl
 | x::y::r,h=>by
  rw[pR,if_neg λe=>h 0 r (by rw[e.1,e.2];rfl),lV (l:=y::r) λk q e=>h (k+1) q e]
theorem Er {c d:Nat}{r:List Nat}:∀{n:Nat}{l:List Nat},(∀k q,k<n->l.drop k≠c::d::q)->l.drop n=c::d::r->pR c d l=l.take n::pR c d r
 | 0,l,_,e=>by
  rw[List.drop_zero]at e;rw[e,pR,if_pos ⟨rfl,rfl⟩];rfl
 | n+1,[],_,e=>by simp at e
 | n+1,[x],_,e=>by simp at e
 | n+1,x::y::s,h,e=>by
  rw[pR,if_neg λz=>h 0 s (Nat.succ_pos _) (by rw[z.1,z.2];rfl),Er (n:=n) (l:=y::s) (λk q hk z=>h (k+1) q (Nat.succ_lt_succ hk) z) e];rfl
section
open PySem.StrLaws PySem.Builtin.Str
theorem at2:At x "; " x.length k↔∃r,(cs x).drop k=59::32::r:=by
 have hl:("; " : Str).length=2:=rfl;have hc:("; " : Str).cps.toList=[59,32]:=rfl;unfold StrLaws.At;rw[subAt_eq,hl,hc,beq_iff_eq,<-cN];show _/\((cs x).drop k).take 2=_↔_;constructor;rintro⟨h1,h2⟩;match e:(cs x).drop k with
 | []=>rw[e]at h2;simp at h2
 | [a]=>rw[e]at h2;simp at h2
 | a::b::r=>rw[e]at h2;simp at h2;exact⟨r,by rw[h2.1,h2.2]⟩
 rintro⟨r,e⟩;have:=congrArg Ro e
 rw[Ly,Ea,Ea]at this;exact⟨by lia,by rw[e];rfl⟩
theorem yI (x:Str)(i j:Nat):strSub x i j=tx (((cs x).drop i).take (j-i)):=eX (by rw[kW];exact strSub_toList x i j)
theorem JC {x:Str}:∀(cuts:List Nat) (a f:Nat),ChainG x "; " x.length a cuts f->(∀k,f<=k->¬At x "; " x.length k)->partsFrom x 2 a cuts=(pR 59 32 ((cs x).drop a)).map tx
 | [],a,f,h,hn=>by
  have e:f=a:=h;subst e;rw[lV λk r e=>hn (f+k) (S9 _ _) (at2.mpr ⟨r,by rw[<-List.drop_drop];exact e⟩)];show[strSub x f x.length]=[tx _];rw[yI,Oh (by rw[Ly,cN];exact Bm _)]
 | d::r,a,f,⟨h1,h2,h3,h4⟩,hn=>by
  obtain⟨q,eq⟩:=at2.mp h2;have ed:((cs x).drop a).drop (d-a)=59::32::q:=by rw[List.drop_drop,Nat.add_sub_cancel' h1];exact eq
  rw[Er (n:=d-a) (λk s hk e=>h3 (a+k) (S9 _ _) (by lia) (at2.mpr ⟨s,by rw[<-List.drop_drop];exact e⟩)) ed];show strSub x a d::partsFrom x 2 (d+2) r=tx _::_;have eq2:(cs x).drop (d+2)=q:=by rw[<-List.drop_drop,eq];rfl
  rw[yI,JC r (d+2) f h4 hn,eq2]
theorem xX (x:Str):Fz x "; " = (pR 59 32 (cs x)).map tx:=by
 obtain⟨f,hG,hn⟩:=occ_tight x "; " (by decide:1<=("; " : Str).length);have one:(∀k,¬At x "; " x.length k)->[x]=(pR 59 32 (cs x)).map tx:=λh=>by
  rw[lV λk r e=>h k (at2.mpr ⟨r,e⟩)];show[x]=[tx (cs x)];rw[wH]
 unfold Fz;split
 rename_i hc;refine one λk hA=>?_;rw[Bool.or_eq_true,decide_eq_true_eq,decide_eq_true_eq]at hc;have h2:("; " : Str).length=2:=rfl;have h1:k+("; " : Str).length<=x.length:=hA.1;rcases hc with h|h
 lia;have k1:PySem.Builtin.Str.strKind ("; " : Str)=1:=by decide +kernel
 have k2:1<=PySem.Builtin.Str.strKind x:=by unfold PySem.Builtin.Str.strKind;split;exact Bm _;split<;>decide
 lia;split
 rename_i he;have e0:occurrences x "; " 0 x.length (x.length+1)=[]:=List.isEmpty_iff.mp he;rw[e0]at hG;have ef:f=0:=hG;subst ef;exact one λk=>hn k<|Pn _
 rw[partsBetween_eq];exact JC _ 0 f hG hn
end
def oA:List (List Nat)->List Nat
 | []=>[]
 | [p]=>p
 | p::q::ps=>p++59::32::oA (q::ps)
theorem vD:∀{p:List Nat},59∉p->pR 59 32 p=[p]
 | [],_=>rfl
 | [x],_=>rfl
 | x::y::r,h=>by
  rw[pR,if_neg λe=>h (by rw[e.1];exact Eb),vD (p:=y::r) λe=>h (Hj _ e)]
theorem xZ {b:List Nat}:∀{a:List Nat},59∉a->pR 59 32 (a++59::32::b)=a::pR 59 32 b
 | [],_=>by rw[RJ,pR,if_pos ⟨rfl,rfl⟩]
 | [x],h=>by
  show pR 59 32 (x::59::32::b)=_;rw[pR,if_neg λe=>h (by rw[e.1];exact Eb),pR,if_pos ⟨rfl,rfl⟩]
 | x::y::a,h=>by
  have:=xZ (b:=b) (a:=y::a) λe=>h (Hj _ e)
  rw[Mi]at this;rw[Mi,Mi,pR,if_neg λe=>h (by rw[e.1];exact Eb),this]
theorem uG:∀{ps:List (List Nat)},ps≠[]->(∀p∈ps,59∉p)->pR 59 32 (oA ps)=ps
 | [],h,_=>absurd rfl h
 | [p],_,h=>by rw[oA,vD (h p Eb)]
 | p::q::ps,_,h=>by
  rw[oA,xZ (h p Eb),uG (G7 _ _) λr hr=>h r (Hj _ hr)]
theorem sI:∀ps:List Str,cs (MF "; " ps)=oA (ps.map cs)
 | []=>rfl
 | [p]=>rfl
 | p::q::ps=>by
  show cs (p ++ "; "++MF "; " (q::ps))=_;rw[bV,bV,sI (q::ps)];show cs p++[59,32]++oA _=cs p++59::32::oA _;rw[GR];rfl
theorem kO {ps:List Str}(h0:ps≠[])(h:∀p∈ps,59∉cs p):Fz (Bc "; " ps) "; " = ps:=by
 have e:Bc "; " ps=MF "; " ps:=RP "; " ps;rw[xX,e,sI,uG (by simpa using h0) λp hp=>by
  obtain⟨y,hy,e⟩:=Dy.mp hp;rw[<-e];exact h y hy,Lx]
 exact(PJ λy _=>wH y).trans (List.map_id' _)
theorem wz {ps:List Str}(h0:ps≠[])(h:∀p∈ps,32∉cs p):Fz (Bc " " ps) " " = ps:=by
 have e:Bc " " ps=MF ⟨#[32]⟩ ps:=RP " " ps;rw[show(" " : Str)=⟨#[32]⟩from rfl]at e|-
 rw[aaT,e,qx,sH (by simpa using h0) λp hp=>by
  obtain⟨y,hy,e⟩:=Dy.mp hp;rw[<-e];exact h y hy,Lx]
 exact(PJ λy _=>wH y).trans (List.map_id' _)
theorem nC {r:MM}(x:mo U h λx h1=>Ar h1 x (ma U h1 λxs h2=>r x xs h2 Q)):zX r mo ma U h Q:=x
theorem ji {P:Prop}(e:h.c n=Dn (.lst us))(p:P):Ar h (.loc n) P:=by
 simp[Ar,e];exact p
theorem gQ (hm:∀R,ma U h R=R ws h)(hz:Nat.ble ws.length 1000=true)(x:∀g:Gh,g.c h.nx=Dn (.lst ws)->(∀n,n≠h.nx->g.c n=h.c n)->g.nx=h.nx+1->Q (.loc h.nx) g):jJ ma U h Q:=by
 unfold jJ;rw[hm];exact aX hz<|x _ (Af _ _) (λ_ e=>pU e) rfl
theorem CT (e:h.c n=Dn (.lst us))(hz:us.length<=1000)(k:∀g:Gh,g.c n=Dn (.lst (us++[w]))->(∀m,m≠n->g.c m=h.c m)->g.nx=h.nx->Q .non g):dO (.loc n) [w] h Q:=
 J7 e (R0 hz (by decide)) (k _ (xQ _ _ _) (λ_ e=>uZ e) rfl)
def rng (a m:Nat):List Nat:=List.range' a (m-a)
theorem zbo {a x:Nat}:x∈rng a m↔a<=x/\x<m:=by
 unfold rng;grind
theorem zj (a m:Nat):wj (a:Int) ((m:Int)-(a:Int)).toNat=(rng a m).map λx:Nat=>W.int (x:Int):=by
 unfold wj rng;rw[List.range'_eq_map_range];simp
theorem abp (m:Nat):wj 0 ((m:Nat):Int).toNat=(rng 0 m).map λx:Nat=>W.int (x:Int):=by
 have:=zj 0 m
 exact this
def YS (R:Src->Gh->Prop):List W->Gh->Prop:=λws h=>match ws with
 | [.int i,.int j]=>wk i (wk j (R ⟨wj i (j-i).toNat,Go⟩ h))
 | _=>False
theorem abI (x:ma U h (YS R)):Og ma U h R:=x
theorem aeA {a:Int}(ha:a=(n:Int))(h1:n<=1000)(h2:m<=1000)(x:R ⟨(rng n m).map λx:Nat=>W.int (x:Int),Go⟩ h):YS R [.int a,.int (m:Int)] h:=by
 subst ha;rw[<-zj]at x;exact wk.mk (by lia) (by lia)<|wk.mk (by lia) (by lia) x
theorem u5 (h2:m<=1000)(x:R ⟨(rng 0 m).map λx:Nat=>W.int (x:Int),Go⟩ h):rgK R [.int (m:Int)] h:=by
 rw[<-abp]at x;exact wk.mk (by lia) (by lia) x
def nxt (l:List Nat):Nat:=match l.getLast? with
 | none=>0
 | some x=>x+1
def grow (m:Nat)(l:List Nat):List (List Nat):=(rng (nxt l) m).map λp=>l++[p]
theorem j6 {a x:Nat}(e:(rng a m)[i]?=Dn x):x=a+i/\x<m:=by
 unfold rng at e;grind
theorem jX (a b:Str):Bk (.str a) (.str b)=(a==b):=rfl
def GX (h:Gh)(n:Nat):Prop:=∃a b,h.c n=Dn (.lst [.int a,.int b])/\0<=b/\b<4294967296
def gC (c:AP):Prop:=∀{h:Gh}{n:Nat}{many:Int}{Q:WK}{E:Ba},GX h n->0<many->Sm 210 many->(∀d h',0<=d->d<many->GX h' n->Hy n h h'->Q (.int d) h')->c [.loc n,.int many] h Q E
theorem yg:gC zQ:=by
 intro h n many Q E hb hm hs k;obtain⟨a,b,e,b0,b1⟩:=hb;have hm0:many≠0:=by lia
 have ev:=dR e;have bag:∀{h':Gh}{a b:Int},h'.c n=Dn (.lst [.int a,.int b])->0<=b->b<4294967296->GX h' n:=λe h0 h1=>⟨_,_,e,h0,h1⟩
 show(match view h (.loc n)with
  | some ws=>_
  | none=>False)
 rw[ev];refine lG (λ_=>?_)<|λ_=>?_
 show(match view h (.loc n)with
  | some ws=>_
  | none=>False)
 rw[ev];refine And.intro hm0 ?_;show(match view h (.loc n)with
  | some ws=>_
  | none=>False)
 rw[ev];refine And.intro ⟨hm0,210,by decide,hs⟩ ?_;show(match h.c n with
  | some (Cell.lst ws)=>_
  | _=>False)
 rw[e];show Q (.int (a.fmod many)) (h.set n _);rw[fX hm];exact k _ _ (T5 _ hm0) (Td _ hm) (bag (xQ _ _ _) b0 b1) Hy.set;show(match view h (.loc n)with
  | some ws=>_
  | none=>False)
 rw[ev];refine And.intro (.of (m:=33) (n:=64) (Nm (by lia)<|by lia) (.lit rfl) (by decide)<|by decide) ?_;refine And.intro (show(2147483647:Int)≠0 by decide) ?_;show(match h.c n with
  | some (Cell.lst ws)=>_
  | _=>False)
 rw[e];have c0:0<=(b*48271+15731).fmod 2147483647:=by rw[fX (by decide)];exact T5 _ (by decide)
 have c1:(b*48271+15731).fmod 2147483647<2147483647:=by rw[fX (by decide)];exact Td _ (by decide)
 have e2:(h.set n (.lst [.int a,.int ((b*48271+15731).fmod 2147483647)])).c n=Dn (.lst [.int a,.int ((b*48271+15731).fmod 2147483647)]):=xQ _ _ _;have ev2:=dR e2;have o2:Hy n h (h.set n (.lst [.int a,.int ((b*48271+15731).fmod 2147483647)])):=Hy.set;show(match view (h.set n (.lst [.int a,.int ((b*48271+15731).fmod 2147483647)])) (.loc n)with
  | some ws=>_
  | none=>False)
 rw[ev2];show(match view (h.set n (.lst [.int a,.int ((b*48271+15731).fmod 2147483647)])) (.loc n)with
  | some ws=>_
  | none=>False)
 rw[ev2];generalize(b*48271+15731).fmod 2147483647=c at *;refine And.intro ⟨by decide,64,by decide,.lit rfl⟩ ?_;have q0:0<=c.fdiv 32768:=by rw[zM (by decide)];lia
 have q1:c.fdiv 32768<2147483647:=by rw[zM (by decide)];lia
 refine And.intro (.of (m:=31) (n:=40) (Nm (by lia)<|by lia) (Nm (by lia)<|by lia) (by decide)<|by decide) ?_;refine And.intro (show(2147483629:Int)≠0 by decide) ?_;refine And.intro ⟨by decide,64,by decide,.lit rfl⟩ ?_;refine And.intro hm0 ?_;show Q (.int (Int.fmod _ many)) (h.set n (.lst [.int a,.int c]));rw[fX hm];exact k _ _ (T5 _ hm0) (Td _ hm) (bag e2 c0<|by lia) o2
def Fd (c:AP):Prop:=∀{h:Gh}{ns:List Int}{k:Int}{Q:WK}{E:Ba},0<=k->Q (.int (ns.getD k.toNat 0)) h->c [.kls (ns.map .int),.int k] h Q E
theorem abR:Fd pZ:=by
 intro h ns k Q E h0 q;show br (decide (k<((ns.map W.int).length:Int))) _ _;refine lG (λhk=>?_)<|λhk=>?_
 conv=>whnf
 rw[abd h0 hk];exact q;have e:ns.getD k.toNat 0=0:=by
  rw[T3,UL (by rw[Ag]at hk;lia)];rfl
 rw[e]at q;exact q
theorem adC {i:Int}(c:XS i j)(x:Q (.int (i^j.toNat)) h):V2 (.int i) (.int j) h Q:=⟨c,x⟩
theorem BX {t:MA}(x:t U h λws h1=>jN ws.length (Q (.loc h1.nx) (h1.new (.lst ws)))):jJ t U h Q:=x
def Qg (c0:AP):Prop:=∀{h:Gh}{a:Int}{Q:WK}{E:Ba},(∀h',GX h' h.nx->h'.nx=h.nx+1->(∀m,m≠h.nx->h'.c m=h.c m)->Q (.loc h.nx) h')->c0 [.int a] h Q E
theorem Kc:Qg wZ:=by
 intro h a Q E k;unfold wZ;rfl'
 refine adC ⟨by decide,by decide,by decide⟩ ?_;rfl'
 refine lG (λ_=>?_)<|λ_=>?_
 ·refine dU<|BX ?_
  rfl'
  refine Dc (by decide) ?_;rfl'
  have c0:0<=a.fmod 2147483647:=by rw[fX (by decide)];exact T5 _ (by decide)
  have c1:a.fmod 2147483647<2147483647:=by rw[fX (by decide)];exact Td _ (by decide)
  exact k _ ⟨_,_,Af _ _,by lia,by lia⟩ rfl λm hm=>pU hm
 ·rfl'
  unfold vh;refine dU<|gQ (ws:=[.int a,.int 7]) (λR=>rfl) rfl λg gc go gn=>?_
  exact k g ⟨_,_,gc,by decide,by decide⟩ gn go
def HS:List Str:=["free", "join", "meet", "curve", "about", "pole", "other"]
def Bl (x:Str):List Str:=if x = "join" then["spot", "spot"]else if x = "meet" then["line", "line"]else if x = "about" then["curve", "spot"]else
 if x = "curve" then["spot", "spot", "spot", "spot", "spot"]else if x = "pole" then["curve", "line"]else if x = "other" then["curve", "spot", "spot"]else[]
def Nw1 (h h':Gh):Prop:=(∀m,m≠h.nx->h'.c m=h.c m)/\h'.nx=h.nx+1
def uP (x:Str):Str:=if x = "join" then "line" else if x = "about" then "line" else if x = "curve" then "curve" else "spot"
theorem zR (hx:x∈HS):p7 jR (.inr x)=Dn (.str (uP x)):=by
 unfold HS at hx;simp at hx;rcases hx with e|e|e|e|e|e|e<;>subst e<;>rfl
def Row (w:W):Prop:=∃x ns,x∈HS/\w=.tup (.str x::(ns:List Int).map .int)
def Iz:W->Str
 | .tup (.str x::_)=>uP x
 | _ => ""
inductive Th (h:Gh):W->Prop
 | int {i:Int}:Th h (.int i)
 | bl {b:Bool}:Th h (.bl b)
 | str {s:Str}:Th h (.str s)
 | non:Th h .non
 | tup {ws:List W}:Th h (.tup ws)
 | lst {ws:List W}:Th h (.lst ws)
 | loc {n:Nat}{ws:List W}(e:h.c n=Dn (.lst ws)) (l:n<h.nx):Th h (.loc n)
def V8:W->Bool
 | .int _=>true
 | _=>false
def isNum:W->Bool
 | .int _=>true
 | .bl _=>true
 | _=>false
def V0:W->Bool
 | .tup _=>true
 | _=>false
theorem Th.int' (t:Th h w):GD h w "int" = Dn (isNum w):=by
 cases t with
 | loc e _=>simp only[GD,cU,e];rfl
 | _=>rfl
theorem Th.tuple' (t:Th h w):GD h w "tuple" = Dn (V0 w):=by
 cases t with
 | loc e _=>simp only[GD,cU,e];rfl
 | _=>rfl
def JW (c0:AP):Prop:=∀{h:Gh}{w:W}{Q:WK}{E:Ba},Th h w->Q (.bl (V8 w)) h->c0 [w] h Q E
theorem rH:JW mZ:=by
 intro h w Q E t k;unfold mZ;rfl'
 refine yS t.int' ?_;cases t with
 | @int i=>
  show aK _ _ _ (W.bl true) h;rfl'
  exact k
 | @bl b=>
  show aK _ _ _ (W.bl true) h;rfl'
  exact k
 | _=>exact k
def nth (ss:List Str):W->Option Str
 | .int i=>if 0<=i then ss[i.toNat]? else Go
 | _=>Go
theorem X6 {i:Int}(x:Q (.bl (decide (i>=j))) h):kGe (.int i) (.int j) h Q:=x
theorem zaS (e:V8 w=true):∃v,w=.int v:=by
 cases w with
 | int v=>exact⟨v,rfl⟩
 | _=>cases e
variable {ss:List Str}
theorem aeC (e:V8 w=false):nth ss w=Go:=by
 cases w with
 | int v=>cases e
 | _=>rfl
theorem adH {v:Int}(e:v<0):nth ss (.int v)=Go:=by
 show(if 0<=v then ss[v.toNat]? else Go)=Go;rw[if_neg (by lia)]
theorem acg {v:Int}(e:(ss.length:Int)<=v):nth ss (.int v)=Go:=by
 show(if 0<=v then ss[v.toNat]? else Go)=Go;rw[if_pos (by lia)];exact UL<|by lia
theorem yJ {v:Int}(e:0<=v):nth ss (.int v)=ss[v.toNat]?:=by
 show(if 0<=v then ss[v.toNat]? else Go)=_;rw[if_pos e]
def Wu (c0:AP):Prop:=∀{h:Gh}{w0:W}{ss due:List Str}{ns:List W}{Q:WK}{E:Ba},view h w0=Dn (ss.map .str)->(∀w∈ns,Th h w)->Q (.bl (decide (ns.map (nth ss)=due.map Dn))) h->c0 [w0,.tup ns,.tup (due.map .str)] h Q E
theorem T9 {c0:AP}(hw:JW c0):Wu (gq c0):=by
 intro h w0 ss due ns Q E hv0 ht k;unfold gq;rfl'
 refine lG (λe=>?_)<|λe=>?_
 have e2:decide (ns.map (nth ss)=due.map Dn)=false:=decide_eq_false λz=>e (by have:=congrArg Ro z;rw[Ag,Ag]at this;rw[Ag,this])
 rw[e2]at k;exact k
 ·have el:ns.length=due.length:=by rw[Ag]at e;lia
  refine cC<|cF ?_
  unfold iV;refine aL<|vI<|J4<|ao<|au rfl<|ao<|au rfl<|aF<|Va rfl rfl rfl<|rF ?_
  refine pB (λi U h'=>h'=h/\(∃a3 a4,U=[Dn w0,Dn<|.tup ns,Dn<|.tup<|due.map .str,a3,a4])/\∀j,j<i->(ns.map<|nth ss)[j]?=(due.map Dn)[j]?) ?_ ?_ ⟨rfl,⟨Go,Go,rfl⟩,λj hj=>absurd hj<|RB _⟩
  ·rintro i w U h' N hN ew ⟨rfl,⟨a3,a4,rfl⟩,hi⟩;obtain⟨a,b,ea,eb,rfl⟩:=mD ew;rw[Ds]at eb;obtain⟨d,ed,rfl⟩:=Ij.mp eb;have bad:nth ss a≠Dn d->Q (.bl false) h':=λz=>by
    have e2:decide (ns.map (nth ss)=due.map Dn)=false:=decide_eq_false λy=>z (by
     have y1:=congrArg (λl=>l[i]?) y;simp only[Ds,ea,ed,T6]at y1;exact Ge y1)
    rw[e2]at k;exact k
   have good:nth ss a=Dn d->N [Dn w0,Dn (.tup ns),Dn (.tup (due.map .str)),Dn a,Dn (.str d)] h':=λz=>hN _ _ ⟨rfl,⟨_,_,rfl⟩,λj hj=>by
    rcases Nat.lt_succ_iff_lt_or_eq.mp hj with hj|rfl
    exact hi j hj;rw[Ds,Ds,ea,ed,T6,T6,z]⟩
   rfl'
   refine hw (ht a<|GK ea) ?_;cases ha:V8 a with
   | false=>
    rfl'
    exact bad (by rw[aeC ha];exact λz=>nomatch z)
   | true=>
    obtain⟨v,rfl⟩:=zaS ha;rfl'
    refine lG (λe0=>?_)<|λe0=>?_
    ·rfl'
     exact bad (by rw[adH e0];exact λz=>nomatch z)
    ·rfl'
     refine eV hv0 ?_;refine X6 ?_;rfl'
     rw[Ag];refine lG (λe1=>?_)<|λe1=>?_
     ·rfl'
      exact bad (by rw[acg e1];exact λz=>nomatch z)
     ·obtain⟨vn,rfl⟩:=RM (Int.not_lt.mp e0);have hv:vn<ss.length:=by lia
      have e3:nth ss (.int (vn:Int))=Dn ss[vn]:=by
       rw[yJ (by lia)];exact GF hv
      rfl'
      refine cV (ws:=ss.map .str) (w:=.str ss[vn]) hv0 (bJ (by rw[Ds,GF hv];rfl)) ?_;rfl'
      refine lG (λe4=>?_)<|λe4=>?_
      ·rfl'
       exact bad (by rw[e3];exact λz=>e4<|Ge z)
      ·rfl'
       exact good<|by rw[e3,Decidable.not_not.mp e4]
  ·rintro U h' ⟨rfl,⟨a3,a4,rfl⟩,hi⟩;have e2:ns.map (nth ss)=due.map Dn:=List.ext_getElem? λj=>by
    by_cases hj:j<(mK ns (due.map W.str)).length
    exact hi j hj;rw[mF,Ag]at hj;rw[UL (by rw[Ag];lia),UL (by rw[Ag];lia)]
   rw[decide_eq_true e2]at k;unfold iT;rfl'
   exact k
theorem Hr {tbl:List (Key×W)}{mb:ME}(e:p7 tbl (.inr x)=Dn w)(m:∀R:WK,R (.str x) h->mb U h R)(k:Q w h):Qo tbl mb U h Q:=m _ (by
 show(match p7 tbl _ with
  | some w=>Q w h
  | none=>False)
 exact e ▸ k)
def Zn (c0:AP):Prop:=∀{h:Gh}{w r:W}{rws:List W}{j:Nat}{Q:WK}{E:Ba},view h w=Dn rws->rws[j]?=Dn r->Row r->Q (.str (Iz r)) h->c0 [w,.int j] h Q E
theorem zap:Zn vV:=by
 intro h w r rws j Q E ev er hr k;obtain⟨x,ns,hx,rfl⟩:=hr;exact mO rfl rfl ((Hr (zR hx) (λR q=>(aH<|aH<|au rfl<|au rfl<|cV ev (bJ er)<|bB<|cV rfl (bJ rfl) q)) k:Qo jR _ _ _ _))
def Ky (c0:AP):Prop:=∀{h:Gh}{w:W}{rws:List W}{Q:WK}{E:Ba},view h w=Dn rws->(∀r∈rws,Row r)->rws.length<=24->Q (.lst ((rws.map Iz).map .str)) h->c0 [w] h Q E
theorem zam {c0:AP}(hs:Zn c0):Ky (mL c0):=by
 intro h w rws Q E ev hr hl k;unfold mL;rfl'
 refine eV ev<|aF<|u5 (m:=rws.length) (by lia)<|pN (by rw[Ag];unfold rng;rw[Qa];exact Nat.ble_eq.mpr (by lia)) ?_
 refine fV (λi acc h'=>h'=h/\acc=((rws.take i).map Iz).map .str) ?_ ?_ ⟨rfl,rfl⟩;rintro i u acc h' N hN e ⟨rfl,rfl⟩;rw[Ds]at e;obtain⟨x,ex,rfl⟩:=Ij.mp e;have e0:=(j6 ex).1;have hx:=(j6 ex).2;rw[Nat.zero_add]at e0;subst e0;have hri:rws[x]?=Dn rws[x]:=GF hx;refine⟨[.int (x:Int)],rfl,iQ<|fG<|bD<|ao<|au rfl<|ao<|au rfl<|aF ?_⟩;refine hs ev hri (hr _<|OJ hx)<|hN _ _ ⟨rfl,?_⟩
 rw[Lh,hri,Eu,Eu];rfl;rintro acc h' ⟨rfl,rfl⟩;have e:rws.take ((rng 0 rws.length).map λx:Nat=>W.int (x:Int)).length=rws:=by
  rw[Ag];unfold rng;rw[Qa,Rp];exact Li
 rw[e];exact k
def Gr (b:Nat)(h h':Gh):Prop:=h.nx<=h'.nx/\∀m,m<h.nx->m≠b->h'.c m=h.c m
variable {b:Nat}
theorem Gr.trans {b:Nat}{h h1 h2:Gh}(x:Gr b h h1)(y:Gr b h1 h2):Gr b h h2:=⟨Dp x.1 y.1,λm hm ne=>(y.2 m (Df hm x.1) ne).trans (x.2 m hm ne)⟩
theorem Hy.gr {h1:Gh}(x:Hy b h h1):Gr b h h1:=⟨Nat.le_of_eq x.1.symm,λm _ ne=>x.2 m ne⟩
theorem W5 {a b:List W}(hz:a.length+b.length<=1000)(x:Q (.lst (a++b)) h):cM (.lst a) (.lst b) h Q:=jN.mk (Dp hz (by decide:1000<=Bh)) x
def ok1 (ss:List Str):W->Bool
 | .tup (.str x::ns)=>decide (x∈HS)&&decide (ns.map (nth ss)=(Bl x).map Dn)
 | _=>false
def mJ:W->Bool
 | .tup (.str x::_)=>decide (x = "free")
 | _=>false
variable {ns:List W}
theorem TV (hx:x∈HS)(e:ns.map (nth ss)=(Bl x).map Dn):ok1 ss (.tup (.str x::ns))=true:=by
 show(decide _&&decide _)=true;grind
def ThD (h:Gh)(w:W):Prop:=Th h w/\∀ws,w=.tup ws->∀u∈ws,Th h u
def QJ:W->Bool
 | .str _=>true
 | _=>false
theorem xq (t:Th h w)(k:Q (.bl (QJ w)) h):Ei [w,.ty "str"] h Q:=by
 have e:Wa h w=Dn (QJ w):=by
  cases t with
  | loc e _=>simp only[Wa,W8,cU,e];rfl
  | _=>rfl
 refine⟨rfl,?_⟩;rw[e];exact k
theorem inS {y:W}{us:List Str}(e:view h y=Dn (us.map .str))(k:Q (.bl (decide (a∈us))) h):kIn (.str a) y h Q:=by
 have e1:(lA (.str a)&&(us.map W.str).all lA)=true:=by
  rw[GQ];refine⟨rfl,IK.mpr λw hw=>?_⟩;obtain⟨x,_,rfl⟩:=Dy.mp hw;rfl
 have e2:((us.map W.str).any λu=>Bk u (.str a))=decide (a∈us):=by
  rw[Rm,TK,decide_eq_true_iff];constructor;rintro⟨w,hw,he⟩;obtain⟨x,hx,rfl⟩:=Dy.mp hw;rw[jX]at he;rw[<-eq_of_beq he];exact hx;intro ha;exact⟨.str a,Dy.mpr ⟨a,ha,rfl⟩,by rw[jX];exact beq_self_eq_true a⟩
 unfold kIn;rw[e];show Ec (lA (.str a)&&(us.map W.str).all lA) _ _;rw[e1,e2];exact k
def Jo (us:List Str):W->Bool
 | .tup (.str x::_)=>decide (x∈us)
 | _=>false
def Yi (c0:AP):Prop:=∀{h:Gh}{w:W}{us:List Str}{Q:WK}{E:Ba},ThD h w->Q (.bl (Jo us w)) h->c0 [w,.lst (us.map .str)] h Q E
theorem adi (e:V0 w=true):∃ws,w=.tup ws:=by
 cases w with
 | tup ws=>exact⟨ws,rfl⟩
 | _=>cases e
theorem zaX (e:QJ w=true):∃x,w=.str x:=by
 cases w with
 | str x=>exact⟨x,rfl⟩
 | _=>cases e
theorem adf {us:List Str}(e:V0 w=false):Jo us w=false:=by
 cases w with
 | tup _=>cases e
 | _=>rfl
variable {u:W}
theorem Vi {us:List Str}(e:QJ u=false):Jo us (.tup (u::ws))=false:=by
 cases u with
 | str _=>cases e
 | _=>rfl
theorem zP:Yi dZ:=by
 intro h w us Q E t k;unfold dZ;rfl'
 refine yS t.1.tuple' ?_;cases ht:V0 w with
 | false=>
  rw[adf ht]at k;exact k
 | true=>
  obtain⟨ws,rfl⟩:=adi ht;cases ws with
  | nil=>
   show aK _ _ _ (W.bl true) h;rfl'
   refine QM rfl ?_;exact k
  | cons u ws=>
   show aK _ _ _ (W.bl true) h;rfl'
   refine V6 (decide_eq_true (by rw[Ea];lia)) ?_;rfl'
   refine cV (ws:=u::ws) rfl (bJ (j:=0) rfl) ?_;rfl'
   refine xq (t.2 _ rfl u Eb) ?_;cases hu:QJ u with
   | false=>
    rw[Vi hu]at k;exact k
   | true=>
    obtain⟨x,rfl⟩:=zaX hu;show aK _ _ _ (W.bl true) h;rfl'
    refine cV (ws:=.str x::ws) rfl (bJ (j:=0) rfl) ?_;rfl'
    exact inS rfl k
def Jw:List Str:=["same", "on", "row", "bunch", "touch", "parted"]
def M6 (x:Str):List (List Str):=if x = "same" then[["spot", "spot"],["line", "line"],["curve", "curve"]]else if x = "on" then[["spot", "line"],["spot", "curve"]]else if x = "row" then[["spot", "spot", "spot"]]else
 if x = "bunch" then[["line", "line", "line"]]else if x = "touch" then[["line", "curve"]]else if x = "parted" then[["curve"]]else[]
theorem aef (hx:x∈Jw):p7 dW (.inr x)=Dn (.tup ((M6 x).map λd=>.tup (d.map .str))):=by
 unfold Jw at hx;simp only[Bg,HX,or_false]at hx;rcases hx with e|e|e|e|e|e<;>subst e<;>rfl
theorem abN:(dW.map λq=>NQ q.1)=Jw.map .str:=rfl
def Nb (ss:List Str):W->Bool
 | .tup (.str x::ns)=>(M6 x).any λd=>decide (ns.map (nth ss)=d.map Dn)
 | _=>false
theorem CJ (hx:x∉Jw):M6 x=[]:=by
 unfold Jw at hx;simp only[Bg,HX,or_false,not_or]at hx;obtain⟨h1,h2,h3,h4,h5,h6⟩:=hx;unfold M6;rw[if_neg h1,if_neg h2,if_neg h3,if_neg h4,if_neg h5,if_neg h6]
theorem aeM (e:Jo Jw w=false):Nb ss w=false:=by
 unfold Nb;split
 rename_i x ns;rw[CJ (of_decide_eq_false e)];rfl;rfl
theorem Cj {us:List Str}(e:Jo us w=true):∃x ns,w=.tup (.str x::ns)/\x∈us:=by
 unfold Jo at e;split at e
 rename_i x ns;exact⟨x,ns,rfl,of_decide_eq_true e⟩;cases e
theorem tU:Gy (bs.map .bl)=Dn bs:=by
 induction bs with
 | nil=>rfl
 | cons b bs ih=>
  show(Gy (bs.map .bl)).map (b::·)=_;rw[ih];rfl
theorem zx (us:List W)(k:Nat):ou us (Dn (k:Int)) Go=us.drop k:=by
 unfold ou;rw[HT.Em];by_cases h:k<=us.length
 rw[Nat.min_eq_left h,Oh (Ly ▸ Bm _)];rw[Nat.min_eq_right (by lia),List.drop_length,List.drop_of_length_le (by lia)];simp
theorem R8:ou (u::ns) (Dn 1) Go=ns:=zx _ 1
theorem cO {Q:Option Int->Gh->Prop}(x:Q Go h):cB U h Q:=x
theorem xT (x:Q (.tup ns) h):qL (.tup (u::ns)) (Dn 1) Go h Q:=by
 show Q (.tup (ou (u::ns) (Dn 1) Go)) h;rw[R8];exact x
def YC (c0:AP):Prop:=∀{h:Gh}{w t:W}{rws:List W}{Q:WK}{E:Ba},view h w=Dn rws->(∀r∈rws,Row r)->rws.length<=24->ThD h t->Q (.bl (Nb (rws.map Iz) t)) h->c0 [w,t] h Q E
theorem ach (hx:x∈Jw):(M6 x).length<=24:=by
 unfold Jw at hx;simp only[Bg,HX,or_false]at hx;rcases hx with e|e|e|e|e|e<;>subst e<;>decide
variable {c1:AP}
theorem zbA {c0 c2:AP}(hb:Yi c0)(ha:Wu c1)(hs:Ky c2):YC (mW c0 c1 c2):=by
 intro h w t rws Q E hv hr hl ht k;unfold mW;rw[abN];rfl'
 refine hb ht ?_;rfl'
 cases e:Jo Jw t with
 | false=>
  rfl'
  rw[aeM e]at k;exact k
 | true=>
  obtain⟨x,ns,rfl,hx⟩:=Cj e;rfl'
  unfold m9;rfl'
  refine hs hv hr hl ?_;rfl'
  refine Hr (aef hx) (λR q=>?_) ?_
  ·rfl'
   exact cV (ws:=.str x::ns) rfl (bJ (j:=0) rfl) q
  ·rfl'
   refine jN.mk (by rw[Ag];exact Dp (ach hx) (by decide)) ?_;refine fV (λi acc h'=>h'=h/\acc=(((M6 x).take i).map λd=>decide<|ns.map (nth<|rws.map Iz)=d.map Dn).map .bl) ?_ ?_ ⟨rfl,rfl⟩
   ·rintro i v acc h' N hN ev ⟨rfl,rfl⟩;rw[Ds]at ev;obtain⟨d,ed,rfl⟩:=Ij.mp ev;refine⟨[.tup<|d.map .str],rfl,?_⟩;rfl'
    refine cO<|xT ?_
    rfl'
    refine ha rfl (λu hu=>ht.2 _ rfl u<|Hj _ hu)<|hN _ _ ⟨rfl,?_⟩
    rw[Lh,ed,Eu,Eu];rfl
   ·rintro acc h' ⟨rfl,rfl⟩;rw[Ag,Li];refine aF<|KQ (us:=List.map .bl _) rfl tU ?_
    rfl'
    rw[List.any_map];exact k
def Kp (h h':Gh):Prop:=h.nx<=h'.nx/\∀m,m<h.nx->h'.c m=h.c m
variable {h':Gh}
theorem Th.keep (t:Th h w)(k:Kp h h'):Th h' w:=by
 cases t with
 | int=>exact .int
 | bl=>exact .bl
 | str=>exact .str
 | non=>exact .non
 | tup=>exact .tup
 | lst=>exact .lst
 | loc e l=>exact .loc ((k.2 _ l).trans e) (Df l k.1)
theorem abG {a b:List Str}:oh (a.map .str) (b.map .str)=decide (a=b):=by
 induction a generalizing b with
 | nil=>
  cases b with
  | nil=>rfl
  | cons y b=>exact(decide_eq_false (λe=>nomatch e)).symm
 | cons x a ih=>
  cases b with
  | nil=>exact(decide_eq_false (λe=>nomatch e)).symm
  | cons y b=>
   show(Bk (.str x) (.str y)&&oh (a.map .str) (b.map .str))=_;rw[ih,jX,Rm,GQ,decide_eq_true_iff,decide_eq_true_iff,beq_iff_eq,List.cons.injEq]
theorem abb {a:List Str}:Aw (n+1) (.lst (a.map .str))=true:=by
 show((a.map W.str).all (Aw n))=true;refine IK.mpr λw hw=>?_;obtain⟨x,_,rfl⟩:=Dy.mp hw;cases n<;>rfl
def s3:List Str:=["spot", "line", "curve"]
theorem map_some {a b:List Str}:(a.map Dn=b.map Dn)↔a=b:=by
 constructor;intro e;have:=congrArg (List.filterMap id) e
 simpa using this
 intro e;rw[e]
theorem adg {ls:List Str}(e:ns.map (nth ss)=ls.map Dn):Nb ss (.tup (.str x::ns))=(M6 x).any λd=>decide (ls=d):=by
 show((M6 x).any λd=>decide (ns.map (nth ss)=d.map Dn))=_;rw[e];congr 1
 funext d;exact decide_eq_decide.mpr map_some
theorem Mh {b:Bool}(k:Kp h h')(q:Q (.bl b) h):n6 true h (.bl b) h' Q:=
 ⟨λm c hm e=>(k.2 m hm).trans e,.inl ⟨by simp[Lo],q⟩⟩
theorem Kp.refl (h:Gh):Kp h h:=⟨Bm _,λ_ _=>rfl⟩
theorem ThD.keep {h h':Gh}{w:W}(t:ThD h w)(k:Kp h h'):ThD h' w:=⟨t.1.keep k,λws e u hu=>(t.2 ws e u hu).keep k⟩
def Wd (r:W):Prop:=∃x ns,r=.tup (.str x::ns)
def O9 (rws:List W)(i:Nat):List Nat:=(LC i).filter λj=>mJ (rws.getD j .non)
variable {rws:List W}
theorem Bv {r:W}(e:rws[i]?=Dn r)(f:mJ r=true):O9 rws (i+1)=O9 rws i++[i]:=by
 unfold O9;rw[List.range_succ,QF];congr 1
 rw[SN,if_pos (by rw[T3,e];exact f)];rfl
theorem KC {r:W}(e:rws[i]?=Dn r)(f:mJ r=false):O9 rws (i+1)=O9 rws i:=by
 unfold O9;rw[List.range_succ,QF];conv=>rhs;rw[<-RD (List.filter _ (LC i))]
 congr 1
 rw[SN,if_neg (by rw[T3,e];exact λz=>Jm (f.symm.trans z))];rfl
theorem Cq {rws:List W}:∀i,i<=rws.length->(O9 rws i).length=((rws.take i).filter mJ).length
 | 0,_=>rfl
 | i+1,h=>by
  have hi:i<rws.length:=h;have e:rws[i]?=Dn rws[i]:=GF hi;have ih:=Cq i (PB hi);rw[Lh,e,QF,Dv,<-ih];cases f:mJ rws[i]with
  | true=>
   rw[Bv e f,Dv];show _=_+([rws[i]].filter mJ).length;rw[SN,if_pos f];rfl
  | false=>
   rw[KC e f];show _=_+([rws[i]].filter mJ).length;rw[SN,if_neg (λz=>Jm (f.symm.trans z))];rfl
def frW (rws:List W):List W:=(O9 rws rws.length).map λj:Nat=>W.int (j:Int)
theorem zbJ:(frW rws).length=(rws.filter mJ).length:=by
 unfold frW;rw[Ag,Cq _ (Bm _),Li]
theorem frC (hU:rZ ix U=[Dn w])(hv:view h w=Dn rws)(hr:∀r∈rws,Wd r)(hl:rws.length<=100)(q:Q (.lst (frW rws)) h):
  lcK G5 ix (cJ (Y7 Jj (Y7 Aq (Y7 Aq (aG 1) (aG 0)) (mC (.int 0))) (mC (.str "free")))) (aG 0) U Q ⟨(rng 0 rws.length).map λx:Nat=>W.int (x:Int),Go⟩ h:=by
 refine pN (by rw[Ag];unfold rng;rw[Qa];exact Nat.ble_eq.mpr (by lia)) ?_;refine fV (λi acc h'=>h'=h/\acc=(O9 rws i).map λj:Nat=>W.int (j:Int)) ?_ ?_ ⟨rfl,rfl⟩;rintro i u acc h' N hN e ⟨rfl,rfl⟩;rw[Ds]at e;obtain⟨x,ex,rfl⟩:=Ij.mp e;have e0:=(j6 ex).1;have hx:=(j6 ex).2;rw[Nat.zero_add]at e0;subst e0;have hri:rws[x]?=Dn rws[x]:=GF hx;obtain⟨y,ms,ey⟩:=hr _ (OJ hx);rw[ey]at hri;refine⟨[.int (x:Int)],rfl,?_⟩;rw[hU];refine cD<|aH<|aH<|aH<|au rfl<|au rfl<|cV hv (bJ hri)<|bB<|cV (ws:=.str y::ms) (w:=.str y) rfl (bJ (j:=0) rfl)<|bB<|Qk<|oX ?_
 cases f:decide (y = "free")with
 | true=>exact fG (au rfl (hN _ _ ⟨rfl,by rw[Bv hri f,Eu];rfl⟩))
 | false=>exact vA (hN _ _ ⟨rfl,by rw[KC hri f]⟩)
 rintro acc h' ⟨rfl,rfl⟩;rw[Ag];unfold rng;rw[Qa,Rp];exact q
theorem adZ (hx:x∈HS):p7 gw (.inr x)=Dn (.tup ((Bl x).map .str)):=by
 unfold HS at hx;simp only[Bg,HX,or_false]at hx;rcases hx with e|e|e|e|e|e|e<;>subst e<;>rfl
theorem zbP:(gw.map λq=>NQ q.1)=HS.map .str:=rfl
def yG (ts:List W)(i:Nat):Prop:=∀j r,j<i->ts[j]?=Dn r->ok1 ((ts.take j).map Iz) r=true
def Drw (ts:List W):Prop:=1<=ts.length/\ts.length<=24/\yG ts ts.length/\(ts.filter mJ).length<=7
def ZD (t:W):Prop:=∃ts,t=.lst ts/\Drw ts
def aas:W->Bool
 | .lst _=>true
 | .loc _=>true
 | _=>false
theorem Th.list' (t:Th h w):GD h w "list" = Dn (aas w):=by
 cases t with
 | loc e _=>simp only[GD,cU,e];rfl
 | _=>rfl
theorem yG.bad {ts:List W}{r:W}(e:ts[i]?=Dn r)(n:ok1 ((ts.take i).map Iz) r=false):¬ZD (.lst ts):=by
 rintro⟨us,eu,_,_,ho,_⟩;cases eu;have:=ho i r (HY.mp e).1 e
 rw[n]at this;cases this
theorem adt {r:W}(e:Jo HS r=false):ok1 ss r=false:=by
 unfold ok1;split
 rename_i x ns;rw[show decide (x∈HS)=false from e];rfl;rfl
theorem yG.wd {ts:List W}(o:yG ts i){j:Nat}{r:W}(hj:j<i)(e:ts[j]?=Dn r):∃x ns,r=.tup (.str x::ns)/\x∈HS:=by
 have:=o j r hj e
 unfold ok1 at this;split at this
 rename_i x ns;exact⟨x,ns,rfl,of_decide_eq_true (Bool.and_eq_true_iff.mp this).1⟩;cases this
theorem yG.succ {ts:List W}{r:W}(o:yG ts i)(e:ts[i]?=Dn r)(k:ok1 ((ts.take i).map Iz) r=true):yG ts (i+1):=by
 intro j r' hj e';rcases Nat.lt_succ_iff_lt_or_eq.mp hj with hj|rfl
 exact o j r' hj e';rw[e]at e';cases e'
 exact k
def TY (c0:AP):Prop:=∀{h:Gh}{w:W}{rws:List W}{Q:WK}{E:Ba},view h w=Dn rws->(∀r∈rws,Wd r)->rws.length<=100->Q (.lst (frW rws)) h->c0 [w] h Q E
theorem zbq:TY j4:=by
 intro h w rws Q E hv hr hl k;unfold j4;rfl'
 refine eV hv<|aF<|u5 (m:=rws.length) (by lia) ?_
 exact frC rfl hv hr hl k
def DrY (c0:AP):Prop:=∀{h:Gh}{n:Nat}{ts:List W}{Q:WK}{E:Ba},h.c n=Dn (.lst ts)->n<h.nx->(∀u∈ts,ThD h u)->(∀b,(b=true↔Drw ts)->Q (.bl b) h)->c0 [.loc n] h Q E
theorem yG.badY {ts:List W}{r:W}(e:ts[i]?=Dn r)(n:ok1 ((ts.take i).map Iz) r=false):¬Drw ts:=λz=>yG.bad e n ⟨ts,rfl,z⟩
theorem acV {c0 c2:AP}(hb:Yi c0)(ha:Wu c1)(hf:TY c2):DrY (jm c0 c1 c2):=by
 intro h n ts Q E hn nl ht k;have no:¬Drw ts->∀h',Kp h h'->n6 true h (.bl false) h' Q:=λz h' kp=>Mh kp (k false ⟨λe=>absurd e (by decide),λe=>absurd e z⟩)
 have vn:=dR hn;unfold jm;rfl'
 refine yS (b:=true) (Th.list'<|.loc hn nl) ?_;rfl'
 refine eV vn ?_;rfl'
 refine lG (λe1=>?_)<|λe1=>?_
 ·rfl'
  exact no (λ⟨d1,_⟩=>by lia) _<|Kp.refl _
 ·rfl'
  refine eV vn ?_;rfl'
  refine lG (λe2=>?_)<|λe2=>?_
  ·rfl'
   exact no (λ⟨_,d1,_⟩=>by lia) _<|Kp.refl _
  ·rfl'
   unfold jT;rw[zbP];refine aL<|aV<|gQ (λR=>rfl) rfl λg gc go gn=>?_
   have kp1:Kp h g:=⟨by rw[gn];exact Nj _,λm hm=>go m (Cg hm)⟩
   generalize eL:h.nx=L at *;rfl'
   refine XD (ws:=ts) ((kp1.2 n (by rw[eL];exact nl)).trans hn)<|rF ?_
   refine abw (λi U h'=>Kp h h'/\(∃a2,U=[Dn<|.loc n,Dn<|.loc L,a2])/\h'.c L=Dn (.lst<|((ts.take i).map Iz).map .str)/\yG ts i) ?_ ?_ ?_ ⟨kp1,⟨Go,rfl⟩,gc,λj r hj _=>absurd hj<|RB _⟩;rintro i U h' ⟨kp,_⟩ P p;exact⟨(kp.2 n (by rw[eL];exact nl)).trans hn,p⟩
   ·rintro i r U h' N hN er ⟨kp,⟨a2,rfl⟩,hL,ho⟩;have tr:=(ht r (GK er)).keep kp;rfl'
    refine hb tr ?_;rfl'
    cases eb:Jo HS r with
    | false=>
     rfl'
     exact no (yG.badY er<|adt eb) _ kp
    | true=>
     obtain⟨x,ns,rfl,hx⟩:=Cj eb;rfl'
     refine cO<|xT ?_
     refine ao<|Hr (adZ hx) (λR q=>?_) ?_
     ·rfl'
      exact cV (ws:=.str x::ns) rfl (bJ (j:=0) rfl) q
     ·refine aF ?_;refine ha (ss:=(ts.take i).map Iz) (dR hL) (λu hu=>tr.2 _ rfl u<|Hj _ hu) ?_;have eo:ok1 ((ts.take i).map Iz) (.tup (.str x::ns))=decide (ns.map (nth ((ts.take i).map Iz))=(Bl x).map Dn):=by
       show(decide (x∈HS)&&_)=_;rw[decide_eq_true hx,Bool.true_and]
      cases ea:decide (ns.map (nth ((ts.take i).map Iz))=(Bl x).map Dn)with
      | false=>
       rfl'
       exact no (yG.badY er<|eo.trans ea) _ kp
      | true=>
       rfl'
       refine nC ?_;rfl'
       refine ji hL ?_;refine ao<|Hr (zR hx) (λR q=>?_) ?_
       ·rfl'
        exact cV (ws:=.str x::ns) rfl (bJ (j:=0) rfl) q
       ·have hle:ts.length<=24:=by lia
        refine aF<|CT hL (by rw[Ag,Ag,Ib];lia) λg2 gc2 go2 gn2=>?_
        rfl'
        refine hN _ _ ⟨⟨by rw[gn2];exact kp.1,λm hm=>(go2 m<|Cg (by rw[eL]at hm;exact hm)).trans (kp.2 m hm)⟩,⟨_,rfl⟩,?_,ho.succ er<|eo.trans ea⟩;rw[gc2,Lh,er,Eu,Eu];rfl
   ·rintro U h' ⟨kp,⟨a2,rfl⟩,hL,ho⟩;have hn':h'.c n=Dn (.lst ts):=(kp.2 n (by rw[eL];exact nl)).trans hn;unfold jP;rfl'
    refine hf (rws:=ts) (dR hn') (λr hr=>?_) (by lia) ?_;obtain⟨j,hj,e⟩:=Qf hr;obtain⟨x,ns,e,_⟩:=ho.wd hj ((GF hj).trans (congrArg Dn e));exact⟨x,ns,e⟩;refine aF<|eV (xs:=frW ts) rfl ?_
    refine bB<|show _ from ?_
    rw[zbJ];refine Mh kp<|k _ ?_
    rw[decide_eq_true_iff];constructor;intro e3;exact⟨by lia,by lia,ho,by lia⟩;rintro⟨_,_,_,d⟩;lia
def low (c:Nat):Bool:=decide (97<=c/\c<=122)
def isF (c:Nat):Bool:=decide (48<=c/\c<=57)
def Hg (c:Nat):Bool:=low c||isF c
def Jc:List Nat->Bool
 | []=>false
 | c::l=>decide (l.length<=7)&&low c&&(c::l).all Hg
abbrev LET:Str := "abcdefghijklmnopqrstuvwxyz"
theorem tW:cs LET=[97,98,99,100,101,102,103,104,105,106,107,108,109,110,111,112,113,114,115,116,117,118,119,120,121,122]:=by decide +kernel
theorem xU:cs ("0123456789" : Str)=[48,49,50,51,52,53,54,55,56,57]:=by decide +kernel
theorem aer (c:Nat):Ql LET ⟨#[c]⟩=low c:=by
 have:Ql LET ⟨#[c]⟩=decide (c∈cs LET):=StrLaws.found_one _ c
 rw[this,tW];unfold low;rw[decide_eq_decide];simp only[Bg,HX,or_false];lia
theorem ace (c:Nat):Ql (LET++("0123456789" : Str)) ⟨#[c]⟩=Hg c:=by
 have:Ql (LET++("0123456789" : Str)) ⟨#[c]⟩=decide (c∈cs (LET++("0123456789" : Str))):=StrLaws.found_one _ c
 rw[this,bV,tW,xU];unfold Hg low isF;rw[Rm,Bool.or_eq_true,decide_eq_true_eq,decide_eq_true_eq,decide_eq_true_eq,Fv];simp only[Bg,HX,or_false];lia
theorem aae (q:Q (.bl (!low c)) h):G3 (.str ⟨#[c]⟩) (.str "abcdefghijklmnopqrstuvwxyz") h Q:=by
 show Q (.bl (!Txt.contains LET ⟨#[c]⟩)) h;rw[aer];exact q
def NmX (c0:AP):Prop:=∀{h:Gh}{x:Str}{Q:WK}{E:Ba},x.length<=100000->Q (.bl (Jc (cs x))) h->c0 [.str x] h Q E
theorem Lk (h:n<=100000):n<=Bh:=Dp h (by decide)
theorem En (hz:x.length<=100000)(q:Q (.int (x.length:Int)) h):wC [.str x] h Q:=⟨Lk hz,q⟩
theorem Jg {i:Int}(hz:x.length<=100000)(e:Hh (cs x) i=Dn c)(q:Q (.str ⟨#[c]⟩) h):JQ (.str x) (.int i) h Q:=by
 refine⟨Lk hz,?_⟩;rw[show Hh x.cps.toList i=Dn c from e];exact q
theorem Vm (hv:U[0]?=Dn (Dn (.str x)))(hz:x.length<=100000)(k:Q (.lst (((cs x).map Hg).map .bl)) h):
  Fq G5 ix (V5 (aG 0)) qP (Y7 VN (aG 0) (Y7 bR (mC (.str "abcdefghijklmnopqrstuvwxyz")) (mC (.str "0123456789")))) U h Q:=by
 refine jL ?_;unfold V5;refine au hv ?_;have hl:(L2.signs x).length=(cs x).length:=by simp[L2.signs]
 refine jN.mk (by rw[hl,cN];exact Lk hz) ?_;refine fV (λi acc h'=>h'=h/\acc=(((cs x).take i).map Hg).map W.bl) ?_ ?_ ⟨rfl,rfl⟩;rintro i w acc h' N hN e ⟨rfl,rfl⟩;unfold L2.signs at e;rw[Ds,Ij]at e;obtain⟨c,ec,rfl⟩:=e;refine⟨[_],rfl,?_⟩;refine iQ<|fG<|aH<|au rfl<|aH<|bB<|bB ⟨by decide,?_⟩
 show N (_++[W.bl (Ql (LET++("0123456789" : Str)) ⟨#[c]⟩)]) _;rw[ace];refine hN _ _ ⟨rfl,?_⟩;rw[Lh,show(cs x)[i]?=Dn c from ec];simp;rintro acc h' ⟨rfl,rfl⟩;rw[hl,Li];exact k
theorem acj:NmX qJ:=by
 intro h x Q E hz k;have hl:=cN x;unfold qJ;rfl'
 refine En hz ?_;rfl'
 refine lG (λe1=>?_)<|λe1=>?_
 ·rfl'
  have:cs x=[]:=Ui (by lia)
  rw[this]at k;exact k
 ·rfl'
  refine En hz ?_;rfl'
  obtain⟨c,l,ec⟩:∃c l,cs x=c::l:=by
   cases e:cs x with
   | nil=>rw[e]at hl;simp at hl;lia
   | cons c l=>exact⟨c,l,rfl⟩
  rw[ec]at k hl;rw[Ea]at hl;have k:Q (.bl (decide (l.length<=7)&&low c&&(c::l).all Hg)) h:=k;refine lG (λe2=>?_)<|λe2=>?_
  ·rfl'
   rw[decide_eq_false (by lia:¬l.length<=7)]at k;exact k
  ·rfl'
   refine Jg hz (c:=c) (by rw[ec];exact bJ (j:=0) rfl) ?_;rfl'
   refine aae ?_;rw[decide_eq_true (by lia:l.length<=7),Bool.true_and]at k;cases e3:low c with
   | false=>
    rw[e3]at k;rfl'
    exact k
   | true=>
    rw[e3,Bool.true_and]at k;rfl'
    unfold pC;refine dU<|fY<|ao ?_
    refine Vm rfl hz<|aF<|BZ (bs:=(cs x).map Hg) rfl tU ?_
    rw[ec,List.all_map];exact k
def qQ:List Str->Str->Nat
 | [],_=>0
 | a::l,y=>if a=y then 0 else qQ l y+1
theorem lY {y:Str}:∀{ss:List Str},y∈ss->ss[qQ ss y]?=Dn y/\∀m,m<qQ ss y->ss[m]?≠Dn y
 | [],h=>absurd h (by simp)
 | a::l,h=>by
  by_cases e:a=y
  rw[qQ,if_pos e];exact⟨by rw[e];rfl,λm hm=>absurd hm<|RB _⟩;obtain⟨h1,h2⟩:=lY (ss:=l) ((Bg.mp h).resolve_left λz=>e z.symm);rw[qQ,if_neg e];refine⟨h1,λm hm=>?_⟩;cases m with
  | zero=>exact λz=>e (Ge z)
  | succ m=>exact h2 m (Nat.lt_of_succ_lt_succ hm)
theorem zbH {j:Nat}(nd:ss.Nodup)(e:ss[j]?=Dn y):qQ ss y=j:=by
 have hm:y∈ss:=GK e;have h1:=(lY hm).1;have h2:=(lY hm).2;rcases Nat.lt_trichotomy (qQ ss y) j with z|z|z
 obtain⟨a1,a2⟩:=HY.mp h1;obtain⟨b1,b2⟩:=HY.mp e;exact absurd (a2.trans b2.symm)<|List.pairwise_iff_getElem.mp nd _ _ a1 b1 z
 exact z;exact absurd e<|h2 j z
theorem wY (x:Q (.lst ns) h):qL (.lst (u::ns)) (Dn 1) Go h Q:=by
 show Q (.lst (ou (u::ns) (Dn 1) Go)) h;rw[R8];exact x
theorem RK (hv:U[i]?=Dn (Dn (.lst (u::us))))(k:R ⟨us,Go⟩ h):LQ (Gq qL (aG i) (d7 (mC (.int 1))) cB) U h R:=
 rY (j9 (au hv (dM (bB (uO (cO (wY (HN rfl k))))))))
theorem Xv (hv:U[i]?=Dn (Dn (.tup (u::us))))(k:R ⟨us,Go⟩ h):LQ (Gq qL (aG i) (d7 (mC (.int 1))) cB) U h R:=
 rY (j9 (au hv (dM (bB (uO (cO (xT (HN rfl k))))))))
theorem Vh {y:W}{us:List Str}(e:cU h y=Dn (us.map .str))(k:Q (.bl (decide (a∈us))) h):QZ (.str a) y h Q:=by
 have e1:(Aw 20 (.str a)&&(us.map W.str).all (Aw 20))=true:=by
  rw[GQ];refine⟨rfl,IK.mpr λw hw=>?_⟩;obtain⟨x,_,rfl⟩:=Dy.mp hw;rfl
 have e2:((us.map W.str).any λu=>Bk u (.str a))=decide (a∈us):=by
  rw[Rm,TK,decide_eq_true_iff];constructor;rintro⟨w,hw,he⟩;obtain⟨x,hx,rfl⟩:=Dy.mp hw;rw[jX]at he;rw[<-eq_of_beq he];exact hx;intro ha;exact⟨.str a,Dy.mpr ⟨a,ha,rfl⟩,by rw[jX];exact beq_self_eq_true a⟩
 unfold QZ;rw[e];show Ec (Aw 20 (.str a)&&(us.map W.str).all (Aw 20)) _ _;rw[e1,e2];exact k
theorem Z9 {P:Prop}(e:cU h w=Dn us)(x:P):rm h w P:=by
 unfold rm;rw[e];exact x
theorem acH {r:MM}(x:mo U h λx h1=>rm h1 x (ma U h1 λxs h2=>r x xs h2 Q)):Xz r mo ma U h Q:=x
theorem aey {ns:List Str}(e:cU h w=Dn (ns.map .str))(hx:x∈ns)(k:Q (.int (qQ ns x:Nat)) h):qH w [.str x] h Q:=by
 show(match cU h w with
  | some us=>∃(ns:List Str) (j:Nat),us=ns.map W.str/\ns[j]?=Dn x/\(∀m,m<j->ns[m]?≠Dn x)/\Q (.int j) h
  | none=>False)
 rw[e];exact⟨ns,_,rfl,(lY hx).1,(lY hx).2,k⟩
def bQ (p:Str×List Nat):W:=.tup (.str p.1::p.2.map λn:Nat=>W.int (n:Int))
def WnX (c0:AP):Prop:=∀{h:Gh}{nv:W}{ss:List Str}{x:Str}{ys:List Str}{Q:WK}{E:Ba},cU h nv=Dn (ss.map .str)->ys.length<=100000 ->
 ((∀y∈ys,y∈ss)->Q (bQ (x,ys.map (qQ ss))) h)->((¬∀y∈ys,y∈ss)->E ⟨"NoText",[]⟩ h)->c0 [.lst ((x::ys).map .str),nv] h Q E
theorem Cp:WnX fZ:=by
 intro h nv ss x ys Q E hv hl k kE;unfold fZ;refine mO rfl (U:=[Dn<|.lst (.str x::ys.map .str),Dn nv]) rfl ?_;refine aL<|dF<|nF<|lM<|fY<|ao<|jL<|RK rfl ?_
 refine jN.mk (by rw[Ag];exact Lk hl) ?_;refine fV (λi acc h'=>h'=h/\acc=((ys.take i).map λy=>decide<|y∈ss).map W.bl) ?_ ?_ ⟨rfl,rfl⟩;rintro i w acc h' N hN e ⟨rfl,rfl⟩;rw[Ds]at e;obtain⟨y,ey,rfl⟩:=Ij.mp e;refine⟨[.str y],rfl,iQ<|fG<|aH<|au rfl<|au rfl<|Vh hv<|hN _ _ ⟨rfl,?_⟩⟩;rw[Lh,ey];simp;rintro acc h' ⟨rfl,rfl⟩;refine aF<|BZ (bs:=ys.map λy=>decide<|y∈ss) (by rw[Ag,Li];rfl) tU ?_
 refine Hl rfl ?_;by_cases c:∀y∈ys,y∈ss
 have ec:(ys.map λy=>decide (y∈ss)).all id=true:=by
  rw[IK];intro b hb;obtain⟨y,hy,rfl⟩:=Dy.mp hb;exact decide_eq_true<|c y hy
 rw[ec];refine qK<|cC<|cF ?_
 unfold iJ;refine dU<|aH<|dG<|ao<|aH<|au rfl<|bB<|cV (ws:=.str x::ys.map .str) (w:=.str x) rfl (bJ (j:=0) rfl)<|aF<|aX rfl ?_
 refine fY<|ao<|jL<|RK rfl ?_
 refine jN.mk (by rw[Ag];exact Lk hl) ?_;refine fV (λi acc h2=>h2=h'/\acc=((ys.take i).map (qQ ss)).map λn:Nat=>W.int (n:Int)) ?_ ?_ ⟨rfl,rfl⟩;rintro i w acc h2 N hN e ⟨rfl,rfl⟩;rw[Ds]at e;obtain⟨y,ey,rfl⟩:=Ij.mp e;refine⟨[.str y],rfl,iQ<|fG<|acH<|au rfl<|Z9 hv<|ao<|au rfl<|aF<|aey hv (c y<|GK ey)<|hN _ _ ⟨rfl,?_⟩⟩;rw[Lh,ey];simp;rintro acc h2 ⟨rfl,rfl⟩;refine aF<|yN ?_
 rw[Ag,Li];refine(jN.mk ?_ ?_:cM (.tup [.str x]) (.tup _) _ _);rw[Ag,Ag];exact Dp (show[W.str x].length+ys.length<=100001 by show 1+ys.length<=100001;lia)<|by decide
 exact k c;have ec:(ys.map λy=>decide (y∈ss)).all id=false:=by
  rw[Bool.eq_false_iff];intro z;exact c λy hy=>of_decide_eq_true<|IK.mp z _<|Dy.mpr ⟨y,hy,rfl⟩
 rw[ec];exact qY<|fH<|kE c
abbrev Told:=List (Str×List Nat)×List Str
def Jv (st:Told):List Str->Option Told
 | n::x::ys=>if Jc (cs n)=true/\n∉st.2/\∀y∈ys,y∈st.2 then Dn (st.1++[(x,ys.map (qQ st.2))],st.2++[n])else Go
 | _=>Go
variable {ys:List Str}{st:Told}
theorem jk {n:Str}(h:¬(Jc (cs n)=true/\n∉st.2/\∀y∈ys,y∈st.2)):Jv st (n::x::ys)=Go:=if_neg h
theorem tR {n:Str}(h:Jc (cs n)=true/\n∉st.2/\∀y∈ys,y∈st.2):Jv st (n::x::ys)=Dn (st.1++[(x,ys.map (qQ st.2))],st.2++[n]):=if_pos h
def Ht:Told->List (List Str)->Option Told
 | st,[]=>Dn st
 | st,l::ls=>(Jv st l).bind λs=>Ht s ls
variable {ls:List (List Str)}
theorem Fb {ms:List (List Str)}:∀{st:Told},Ht st (ls++ms)=(Ht st ls).bind λs=>Ht s ms:=by
 induction ls with
 | nil=>intro st;rfl
 | cons l ls ih=>
  intro st;show(Jv st l).bind _=((Jv st l).bind _).bind _;cases Jv st l with
  | none=>rfl
  | some s=>exact ih
variable {l:List Str}{s:Told}
theorem ur (e:Ht st (ls.take i)=Dn s)(el:ls[i]?=Dn l):Ht st (ls.take (i+1))=Jv s l:=by
 rw[Lh,el,Fb,e];show(Jv s l).bind _=_;cases Jv s l<;>rfl
theorem Fg (e:Ht st (ls.take i)=Dn s)(el:ls[i]?=Dn l)(b:Jv s l=Go):Ht st ls=Go:=by
 rw[<-List.take_append_drop (i+1) ls,Fb,ur e el,b];rfl
theorem adT (e:Jv st l=Dn s):s.1.length=st.1.length+1/\s.2.length=st.2.length+1:=by
 match l,e with
 | n::x::ys,e=>
  by_cases c:Jc (cs n)=true/\n∉st.2/\∀y∈ys,y∈st.2
  rw[tR c]at e;cases e;exact⟨by simp,by simp⟩;rw[jk c]at e;cases e
theorem FZ:∀{st s:Told},Ht st ls=Dn s->s.1.length=st.1.length+ls.length/\s.2.length=st.2.length+ls.length:=by
 induction ls with
 | nil=>intro st s e;cases e;exact⟨rfl,rfl⟩
 | cons l ls ih=>
  intro st s e;obtain⟨s1,e1,e2⟩:=Option.bind_eq_some_iff.mp e;have:=adT e1
  have:=ih e2
  rw[Ea];lia
def MP (l:List Str):W:=.lst (l.map .str)
def Wi (ls:List (List Str)):Prop:=ls.length<=100000/\∀l∈ls,l.length<=100000/\∀w∈l,w.length<=100000
structure Two (h h':Gh) (a b:Nat) (s:Told):Prop where
 kp:Kp h h'
 ca:h'.c a=Dn (.lst (s.1.map bQ))
 cb:h'.c b=Dn (.lst (s.2.map .str))
 ne:a≠b
 la:h.nx<=a
 lb:h.nx<=b
 ua:a<h'.nx
 ub:b<h'.nx
def RrX (c0:AP):Prop:=∀{h:Gh}{ls:List (List Str)}{Q:WK}{E:Ba},Wi ls->(∀s,Ht ([],[]) ls=Dn s->∀h' a b,Two h h' a b s->Q (.tup [.loc a,.loc b]) h')->(Ht ([],[]) ls=Go->∀h',Kp h h'->E ⟨"NoText",[]⟩ h') ->
 c0 [.lst (ls.map MP)] h Q E
theorem SM (e:h.c n=Dn (.lst us))(hz:us.length<=100000)(k:∀g:Gh,g.c n=Dn (.lst (us++[w]))->(∀m,m≠n->g.c m=h.c m)->g.nx=h.nx->Q .non g):dO (.loc n) [w] h Q:=
 J7 e (R0 hz (by decide)) (k _ (xQ _ _ _) (λ_ e=>uZ e) rfl)
theorem zbp {c0:AP}(hn:NmX c0)(hw:WnX c1):RrX (kJ c0 c1):=by
 intro h ls Q E hl k kE;unfold kJ;refine mO rfl (U:=[Dn<|.lst<|ls.map MP,Go,Go,Go]) rfl ?_;refine aL<|aV<|gQ (λR=>rfl) rfl λg1 gc1 go1 gn1=>?_
 refine nV<|cF ?_
 refine aL<|aV<|gQ (λR=>rfl) rfl λg2 gc2 go2 gn2=>?_
 refine nV<|cF ?_
 have two0:Two h g2 h.nx g1.nx ([],[]):=by
  refine⟨⟨by lia,λm hm=>?_⟩,?_,gc2,by lia,Bm _,by lia,by lia,by lia⟩;rw[go2 m (by lia),go1 m (by lia)];rw[go2 _ (by lia)];exact gc1
 generalize h.nx=a at *;generalize g1.nx=b at *;refine aL<|vI<|rY<|au rfl<|HN rfl<|rF ?_
 refine pB (λi U h'=>∃s a3,Ht ([],[]) (ls.take i)=Dn s/\U=[Dn<|.lst<|ls.map MP,Dn<|.loc a,Dn<|.loc b,a3]/\Two h h' a b s) ?_ ?_ ⟨_,_,rfl,rfl,two0⟩;rintro i w U h' N hN e ⟨s,a3,es,rfl,T⟩;rw[Ds]at e;obtain⟨l,el,rfl⟩:=Ij.mp e;obtain⟨l1,l2⟩:=hl.2 l (GK el);have bad:Jv s l=Go->E ⟨"NoText",[]⟩ h':=λz=>kE (Fg es el z) h' T.kp
 have hi:i<ls.length:=(HY.mp el).1;have sl:=FZ es;rw[Ib]at sl;refine nV<|aL<|dF<|EY<|cD<|aH<|fY<|ao<|au rfl<|aF<|eV (xs:=l.map .str) rfl<|bB<|uF<|oX ?_
 rw[Ag];refine lG (λe1=>?_)<|λe1=>?_
 refine z7<|fH<|bad ?_
 match l,e1 with
 | [],_=>rfl
 | [_],_=>rfl
 | _::_::_,e1=>simp at e1;lia
 obtain⟨n,x,ys,rfl⟩:∃n x ys,l=n::x::ys:=by
  match l,e1 with
  | [],e1=>simp at e1
  | [_],e1=>simp at e1
  | n::x::ys,_=>exact⟨n,x,ys,rfl⟩
 have ix0:∀{g:Gh}{R:WK},R (.str n) g->Aq (MP (n::x::ys)) (.int 0) g R:=λq=>cV (ws:=.str n::.str x::ys.map .str) rfl (bJ (j:=0) rfl) q
 refine EY<|nF<|lM<|bD<|ao<|aH<|au rfl<|bB<|ix0<|aF ?_
 refine hn (l2 n Eb)<|Hl rfl ?_
 cases en:Jc (cs n)with
 | false=>
  refine qY<|z7<|fH<|bad ?_
  exact jk λz=>by rw[en]at z;exact absurd z.1 (by decide)
 | true=>
  refine qK<|cD<|aH<|aH<|au rfl<|bB<|ix0<|au rfl<|inS (us:=s.2) (dR T.cb)<|oX ?_
  refine lG (λe2=>?_)<|λe2=>?_
  refine fH<|bad ?_
  exact jk λz=>z.2.1 e2;refine cC<|cF<|aL<|gR<|nC<|au rfl<|ji T.ca<|ao<|bD<|ao<|j9<|au rfl<|dM<|bB<|uO<|cO<|wY<|ao<|au rfl<|aF ?_
  refine hw (ss:=s.2) (x:=x) (ys:=ys) (by show cU h' (.loc b)=_;simp only[cU,T.cb]) (by rw[Ea,Ea]at l1;lia) (λc=>?_)<|λc=>?_
  have e3:Jv s (n::x::ys)=Dn (s.1++[(x,ys.map (qQ s.2))],s.2++[n]):=tR ⟨en,e2,c⟩;refine aF<|SM T.ca (by rw[Ag];have:=hl.1;have:=sl.1;simp at this;lia) λg3 gc3 go3 gn3=>?_
  refine cF<|gR<|nC<|au rfl<|ji ((go3 b<|HF T.ne).trans T.cb)<|ao<|aH<|au rfl<|bB<|ix0<|aF ?_
  refine SM ((go3 b<|HF T.ne).trans T.cb) (by rw[Ag];have:=hl.1;have:=sl.2;simp at this;lia) λg4 gc4 go4 gn4=>?_;refine cF<|hN _ _ ⟨_,_,(ur es el).trans e3,rfl,⟨⟨by rw[gn4,gn3];exact T.kp.1,λm hm=>?_⟩,?_,?_,T.ne,T.la,T.lb,by rw[gn4,gn3];exact T.ua,by rw[gn4,gn3];exact T.ub⟩⟩
  have:=T.la;have:=T.lb
  rw[go4 m (Cg (Df hm T.lb)),go3 m (Cg (Df hm T.la)),T.kp.2 m hm];rw[go4 a T.ne,gc3,Eu];rfl;rw[gc4,Eu];rfl;exact bad<|jk λz=>c z.2.2
 rintro U h' ⟨s,a3,es,rfl,T⟩;rw[Ag,Li]at es;unfold mj;exact cF<|dU<|dG<|ao<|au rfl<|ao<|au rfl<|aF<|aX rfl<|k s es h' a b T
theorem qb {y p:Str}:∀{ps:List Str},p∈ps->p.length<=(MF y ps).length
 | [],h=>absurd h (by simp)
 | [q],h=>by rw[Fk.mp h];exact Bm _
 | q::r::ps,h=>by
  show _<=(q++y++MF y (r::ps)).length;rw[GJ,GJ];rcases Bg.mp h with rfl|h
  lia;have:=qb (y:=y) h
  lia
theorem oV {p:Str}(h:p∈Fz x y):p.length<=x.length:=by
 have:=qb (y:=y) h
 rw[StrLaws.join_split]at this;exact this
def gD (x:Str):List (List Str):=(Fz x "; ").map λl=>Fz l " "
theorem Wo (hz:x.length<=99000):Wi (gD x):=by
 refine⟨?_,λl hl=>?_⟩;unfold gD;rw[Ag];have:=(Ur x "; ").2
 lia;obtain⟨p,hp,rfl⟩:=Dy.mp hl;have h1:=oV hp;have:=(Ur p " ").2
 exact⟨by lia,λw hw=>by have:=oV hw;lia⟩
theorem nW {r:MM}(m:∀R:WK,R (.str x) h->mo U h R)(k:ma U h λxs h2=>r (.str x) xs h2 Q):uy r mo ma U h Q:=m _ k
theorem Dh {b:Str}(hb:(b.length==0)=false)(ha:a.length<=99000)(q:Q (.lst ((Fz a b).map .str)) h):uN (.str a) [.str b] h Q:=by
 refine⟨hb,Lk<|by lia,Lk ?_,q⟩;have:=(Ur a b).2
 lia
theorem acN (x:Q (.lst ns) h):qL (.lst (ns++[u])) Go (Dn (-1)) h Q:=by
 have e:ou (ns++[u]) Go (Dn (-1))=ns:=by
  unfold ou;have e1:HT.sIx (ns++[u]).length 0 Go=0:=rfl;have e2:HT.sIx (ns++[u]).length (ns++[u]).length (Dn (-1))=ns.length:=by
   unfold HT.sIx;rw[Dv];show _=ns.length;simp;lia
  rw[e1,e2];simp
 show Q (.lst (ou (ns++[u]) Go (Dn (-1)))) h;rw[e];exact x
def Mq (s:Told):List Str->Option (Str×List Nat)
 | c::x::ys=>if c = "claim"/\∀y∈ys,y∈s.2 then Dn (x,ys.map (qQ s.2))else Go
 | _=>Go
theorem za {c:Str}(h:¬(c = "claim"/\∀y∈ys,y∈st.2)):Mq st (c::x::ys)=Go:=if_neg h
theorem wD {c:Str}(h:c = "claim"/\∀y∈ys,y∈st.2):Mq st (c::x::ys)=Dn (x,ys.map (qQ st.2)):=if_pos h
def okD (s:Told)(cl:Str×List Nat):Prop:=Drw (s.1.map bQ)/\Nb ((s.1.map bQ).map Iz) (bQ cl)=true
theorem Gm (p:Str×List Nat):ThD h (bQ p):=by
 refine⟨.tup,λws e u hu=>?_⟩;cases e;rcases Bg.mp hu with rfl|hu
 exact .str;obtain⟨n,_,rfl⟩:=Dy.mp hu;exact .int
variable {p:Str×List Nat}
theorem acK (hx:p.1∈HS):Row (bQ p):=⟨p.1,p.2.map λn:Nat=>(n:Int),hx,by unfold bQ;rw[Lx];rfl⟩
variable {ts:List (Str×List Nat)}
theorem zaY (d:Drw (ts.map bQ)):∀r∈ts.map bQ,Row r:=by
 intro r hr;obtain⟨j,hj,e⟩:=Qf hr;obtain⟨x,ns,e2,hx⟩:=d.2.2.1.wd hj ((GF hj).trans (congrArg Dn e));obtain⟨p,_,rfl⟩:=Dy.mp hr;refine acK ?_;unfold bQ at e2;cases e2;exact hx
def RdX (c0:AP):Prop:=∀{h:Gh}{x:Str}{init:List (List Str)}{last:List Str}{Q:WK}{E:Ba},x.length<=99000->gD x=init++[last] ->
 (∀s cl,Ht ([],[]) init=Dn s->Mq s last=Dn cl->okD s cl->∀h' a b,Two h h' a b s->Q (.tup [.loc a,.loc b,bQ cl]) h') ->
 ((∀s cl,Ht ([],[]) init=Dn s->Mq s last=Dn cl->¬okD s cl)->∀h',Kp h h'->E ⟨"NoText",[]⟩ h')->c0 [.str x] h Q E
theorem acF {c0 c2 c3:AP}(hd:DrY c0)(hc:YC c1)(hw:WnX c2)(hr:RrX c3):RdX (dX c0 c1 c2 c3):=by
 intro h x init last Q E hz et k kE;have lo:=Wo hz;rw[et]at lo;have lo1:Wi init:=⟨by have:=lo.1;rw[Dv]at this;lia,λl hl=>lo.2 l (RW _ hl)⟩
 have lo2:=lo.2 last (Ml _ Eb);unfold dX;refine mO rfl (U:=[Dn<|.str x,Go,Go,Go,Go]) rfl ?_;refine aL<|dF<|nF<|lM<|fY<|ao<|au rfl<|ao<|bB<|aF<|xq .str<|Hl rfl<|qK<|cC<|cF ?_
 unfold iU;refine aL<|aV<|jL<|rY<|nW (λR q=>au rfl q)<|ao<|bB<|aF<|Dh rfl hz<|HN rfl ?_
 refine jN.mk (by rw[Ag];have:=(Ur x "; ").2;exact Lk (by lia)) ?_;refine fV (λi acc h'=>h'=h/\acc=((Fz x "; ").take i).map λl=>MP<|Fz l " ") ?_ ?_ ⟨rfl,rfl⟩;rintro i w acc h' N hN e ⟨rfl,rfl⟩;rw[Ds]at e;obtain⟨l,el,rfl⟩:=Ij.mp e;refine⟨[.str l],rfl,iQ<|fG<|nW (λR q=>au rfl q)<|ao<|bB<|aF<|Dh rfl ?_<|hN _ _ ⟨rfl,?_⟩⟩;have:=oV (GK el)
 lia;rw[Lh,el,Eu];rfl;rintro acc h' ⟨rfl,rfl⟩;have ea:(((Fz x "; ").take ((Fz x "; ").map W.str).length).map λl=>MP (Fz l " "))=init.map MP++[MP last]:=by
  rw[Ag,Li];have:((Fz x "; ").map λl=>MP (Fz l " "))=(gD x).map MP:=by unfold gD;rw[Lx];rfl
  rw[this,et,Eu];rfl
 rw[ea];refine nV<|cF<|aL<|aV<|bD<|ao<|j9<|au rfl<|cO<|dM<|Aj<|bB<|rR<|uO<|acN<|aF ?_
 refine hr lo1 (λs es h2 a b T=>?_)<|λz h2 kp=>kE (λs cl e=>by rw[z]at e;cases e) h2 kp
 have bad:Mq s last=Go->E ⟨"NoText",[]⟩ h2:=λz=>kE (λs2 cl e e2=>by rw[es]at e;cases e;rw[z]at e2;cases e2) h2 T.kp
 refine nV<|cF<|aL<|aV<|aH<|au rfl<|Aj<|bB<|rR<|cV (ws:=init.map MP++[MP last]) rfl (abh _ _) ?_
 refine nV<|cF<|aL<|dF<|EY<|cD<|aH<|fY<|ao<|au rfl<|aF<|eV (xs:=last.map .str) rfl<|bB<|uF<|oX ?_
 rw[Ag];refine lG (λe1=>?_)<|λe1=>?_
 refine z7<|fH<|bad ?_
 match last,e1 with
 | [],_=>rfl
 | [_],_=>rfl
 | _::_::_,e1=>simp at e1;lia
 obtain⟨c,y,ys,rfl⟩:∃n x ys,last=n::x::ys:=by
  match last,e1 with
  | [],e1=>simp at e1
  | [_],e1=>simp at e1
  | n::x::ys,_=>exact⟨n,x,ys,rfl⟩
 refine cD<|aH<|aH<|au rfl<|bB<|cV (ws:=.str c::.str y::ys.map .str) rfl (bJ (j:=0) rfl)<|bB<|TX<|oX ?_
 refine lG (λe2=>?_)<|λe2=>?_
 exact fH<|bad<|za λz=>e2 z.1
 have e2:=Decidable.not_not.mp e2;refine cC<|cF ?_
 unfold iR;refine aL<|aV<|bD<|ao<|j9<|au rfl<|dM<|bB<|uO<|cO<|wY<|ao<|aH<|au rfl<|bB<|cV (ws:=[.loc a,.loc b]) (w:=.loc b) rfl rfl<|aF ?_
 refine hw (ss:=s.2) (x:=y) (ys:=ys) (by show cU h2 (.loc b)=_;simp only[cU,T.cb]) (by have:=lo2.1;rw[Ea,Ea]at this;lia) (λec=>?_)<|λec=>bad<|za λz=>ec z.2
 have e3:=wD (st:=s) (x:=y) ⟨e2,ec⟩;generalize ecl:(y,ys.map (qQ s.2))=cl at *;have bad2:¬okD s cl->E ⟨"NoText",[]⟩ h2:=λz=>kE (λs2 cl2 e e4=>by rw[es]at e;cases e;rw[e3]at e4;cases e4;exact z) h2 T.kp
 refine nV<|cF<|aL<|dF<|EY<|nF<|lM<|bD<|ao<|aH<|au rfl<|bB<|cV (ws:=[.loc a,.loc b]) (w:=.loc a) rfl rfl<|aF ?_
 refine hd T.ca T.ua (λu hu=>by obtain⟨p,_,rfl⟩:=Dy.mp hu;exact Gm p) λbb hb=>Hl rfl ?_;cases bb with
 | false=>exact qY (z7 (fH (bad2 λz=>absurd (hb.mpr z.1) (by decide))))
 | true=>
  have dr:=hb.mp rfl;refine qK<|nF<|lM<|bD<|ao<|aH<|au rfl<|bB<|cV (ws:=[.loc a,.loc b]) (w:=.loc a) rfl rfl<|ao<|au rfl<|aF ?_
  refine hc (dR T.ca) (zaY dr) dr.2.1 (Gm cl)<|Hl rfl ?_
  cases ek:Nb ((s.1.map bQ).map Iz) (bQ cl)with
  | false=>exact qY (fH (bad2 λz=>absurd (ek.symm.trans z.2) (by decide)))
  | true=>
   refine qK<|cC<|cF ?_
   unfold iG;refine dU<|dG<|ao<|aH<|au rfl<|bB<|cV (ws:=[.loc a,.loc b]) (w:=.loc a) rfl rfl ?_
   refine ao<|aH<|au rfl<|bB<|cV (ws:=[.loc a,.loc b]) (w:=.loc b) rfl rfl ?_
   exact ao<|au rfl<|aF<|aX rfl<|k s cl es e3 ⟨dr,ek⟩ h2 a b T
def wn (nms:List Str)(p:Str×List Nat):List Str:=p.1::p.2.map λn=>nms.getD n ""
def Jd (nms:List Str):List Str->List (Str×List Nat)->List (List Str)
 | n::ns,p::ps=>(n::wn nms p)::Jd nms ns ps
 | _,_=>[]
def txD (nms:List Str)(ts:List (Str×List Nat))(cl:Str×List Nat):Str:=Bc "; " ((Jd nms nms ts++[("claim" : Str)::wn nms cl]).map (Bc " "))
def Wk (x:Str):Prop:=32∉cs x/\59∉cs x
theorem G6 (h:Hg c=true):c≠32/\c≠59:=by
 unfold Hg low isF at h;rw[Bool.or_eq_true,decide_eq_true_eq,decide_eq_true_eq]at h;lia
theorem xM {l:List Nat}(h:Jc l=true):∀c∈l,Hg c=true:=by
 cases l with
 | nil=>cases h
 | cons c l=>
  have h:(decide (l.length<=7)&&low c&&(c::l).all Hg)=true:=h;rw[GQ]at h;exact IK.mp h.2
theorem wN (h:Jc (cs x)=true):Wk x:=⟨λz=>(G6 (xM h _ z)).1 rfl,λz=>(G6 (xM h _ z)).2 rfl⟩
theorem uR {c d:Nat}:∀{ps:List (List Nat)},c≠d->(∀p∈ps,c∉p)->c∉glue d ps
 | [],_,_=>by simp[glue]
 | [p],_,h=>h p Eb
 | p::q::ps,hc,h=>by
  rw[glue,Fv,Bg];rintro(z|z|z);exact h p Eb z;exact hc z;exact uR hc (λr hr=>h r<|Hj _ hr) z
theorem cQ (ps:List Str):cs (Bc " " ps)=glue 32 (ps.map cs):=by
 have e:Bc " " ps=MF ⟨#[32]⟩ ps:=RP " " ps;rw[e,qx]
theorem jC {ps:List Str}(h:∀p∈ps,59∉cs p):59∉cs (Bc " " ps):=by
 rw[cQ];refine uR (by decide) λp hp=>?_;obtain⟨y,hy,rfl⟩:=Dy.mp hp;exact h y hy
theorem DP (h0:ls≠[])(h:∀l∈ls,l≠[]/\∀w∈l,Wk w):gD (Bc "; " (ls.map (Bc " ")))=ls:=by
 unfold gD;rw[kO (by simpa using h0) λp hp=>by
  obtain⟨l,hl,rfl⟩:=Dy.mp hp;exact jC λw hw=>((h l hl).2 w hw).2,Lx]
 refine(PJ λl hl=>?_).trans (List.map_id' _);exact wz (h l hl).1 λw hw=>((h l hl).2 w hw).1
structure Jh (nms:List Str) (m:Nat):Prop where
 len:nms.length=m
 nd:nms.Nodup
 nm:∀n∈nms,Jc (cs n)=true
def Ahd (ts:List (Str×List Nat)):Prop:=∀(i:Nat) (p:Str×List Nat),ts[i]?=Dn p->Wk p.1/\∀n∈p.2,n<i
variable {nms:List Str}
theorem wW (N:Jh nms m)(hn:n<m):Wk (nms.getD n "")/\nms[n]?=Dn (nms.getD n ""):=by
 have hl:n<nms.length:=by rw[N.len];exact hn
 rw[T3,GF hl];exact⟨wN<|N.nm _<|OJ hl,rfl⟩
theorem Iw (N:Jh nms m)(hp:Wk p.1)(hn:∀n∈p.2,n<m):∀w∈wn nms p,Wk w:=by
 intro w hw;rcases Bg.mp hw with rfl|hw
 exact hp;obtain⟨n,h,rfl⟩:=Dy.mp hw;exact(wW N<|hn n h).1
theorem mU {nms:List Str}:∀{ns:List Str}{ps:List (Str×List Nat)}{i:Nat}{l:List Str},(Jd nms ns ps)[i]?=Dn l->∃n p,ns[i]?=Dn n/\ps[i]?=Dn p/\l=n::wn nms p
 | [],_,i,l,e=>by simp[Jd]at e
 | n::ns,[],i,l,e=>by simp[Jd]at e
 | n::ns,p::ps,0,l,e=>by
  cases e;exact⟨n,p,rfl,rfl,rfl⟩
 | n::ns,p::ps,i+1,l,e=>mU (ns:=ns) (ps:=ps) (i:=i) e
theorem qe {nms:List Str}:∀{ns:List Str}{ps:List (Str×List Nat)},ns.length=ps.length->(Jd nms ns ps).length=ps.length
 | [],[],_=>rfl
 | _::ns,_::ps,h=>by
  show(Jd nms ns ps).length+1=ps.length+1;rw[qe (Nat.succ.inj h)]
theorem JG (N:Jh nms ts.length)(A:Ahd ts):∀l∈Jd nms nms ts,l≠[]/\∀w∈l,Wk w:=by
 intro l hl;obtain⟨i,hi,e⟩:=Qf hl;obtain⟨n,p,en,ep,rfl⟩:=mU ((GF hi).trans (congrArg Dn e));have hlt:i<ts.length:=(HY.mp ep).1;refine⟨G7 _ _,λw hw=>?_⟩;rcases Bg.mp hw with rfl|hw
 exact wN<|N.nm _<|GK en
 exact Iw N (A i p ep).1 (λn h=>Nat.lt_trans ((A i p ep).2 n h) hlt) w hw
variable {cl:Str×List Nat}
theorem Rz (N:Jh nms m)(hp:Wk cl.1)(hn:∀n∈cl.2,n<m):("claim" : Str)::wn nms cl≠[]/\∀w∈("claim" : Str)::wn nms cl,Wk w:=by
 refine⟨G7 _ _,λw hw=>?_⟩;rcases Bg.mp hw with rfl|hw
 exact⟨by decide +kernel,by decide +kernel⟩;exact Iw N hp hn w hw
theorem adS (N:Jh nms ts.length)(A:Ahd ts)(hp:Wk cl.1)(hn:∀n∈cl.2,n<ts.length):gD (txD nms ts cl)=Jd nms nms ts++[("claim" : Str)::wn nms cl]:=by
 refine DP (by simp) λl hl=>?_;rcases Fv.mp hl with hl|hl
 exact JG N A l hl;rw[Fk.mp hl];exact Rz N hp hn
theorem FT {ns:List Nat}(N:Jh nms m)(hk:k<=m)(hn:∀n∈ns,n<k):(∀y∈ns.map (λn=>nms.getD n ""),y∈nms.take k)/\(ns.map λn=>nms.getD n "").map (qQ (nms.take k))=ns:=by
 have key:∀n∈ns,(nms.take k)[n]?=Dn (nms.getD n ""):=λn h=>by
  rw[List.getElem?_take_of_lt (hn n h)];exact(wW N<|Df (hn n h) hk).2
 refine⟨λy hy=>?_,?_⟩;obtain⟨n,h,rfl⟩:=Dy.mp hy;exact GK<|key n h
 rw[Lx];refine(PJ λn h=>?_).trans (List.map_id' _);exact zbH (N.nd.sublist<|List.take_sublist _ _)<|key n h
theorem FJ (N:Jh nms ts.length)(A:Ahd ts):∀i,i<=ts.length->Ht ([],[]) ((Jd nms nms ts).take i)=Dn (ts.take i,nms.take i):=by
 have ll:=qe (nms:=nms) (ns:=nms) (ps:=ts) N.len;intro i;induction i with
 | zero=>intro _;rfl
 | succ i ih=>
  intro hi;have h1:i<(Jd nms nms ts).length:=by rw[ll];exact hi
  have e1:(Jd nms nms ts)[i]?=Dn (Jd nms nms ts)[i]:=GF h1;obtain⟨n,p,en,ep,el⟩:=mU e1;rw[ur (ih (Nat.le_of_succ_le hi)) e1,el];obtain⟨b1,b2⟩:=FT (k:=i) N (Nat.le_of_succ_le hi) (A i p ep).2;rw[show wn nms p=p.1::p.2.map λn=>nms.getD n "" from rfl,tR ⟨N.nm n (GK en),λz=>?_,b1⟩,b2,Lh,Lh,ep,en];rfl;obtain⟨j,hj,e⟩:=Qf z;rw[Ib]at hj;rw[List.getElem_take]at e;obtain⟨q1,q2⟩:=HY.mp en;exact List.pairwise_iff_getElem.mp N.nd j i (by lia) q1 (by lia)<|e.trans q2.symm
theorem wB (N:Jh nms ts.length)(A:Ahd ts):Ht ([],[]) (Jd nms nms ts)=Dn (ts,nms):=by
 have ll:=qe (nms:=nms) (ns:=nms) (ps:=ts) N.len;have:=FJ N A ts.length (Bm _)
 rw[Li,<-N.len,Li,N.len,<-ll,Li]at this;exact this
theorem DX (N:Jh nms ts.length)(hn:∀n∈cl.2,n<ts.length):Mq (ts,nms) ("claim"::wn nms cl)=Dn cl:=by
 obtain⟨b1,b2⟩:=FT (k:=ts.length) N (Bm _) hn;rw[<-N.len,Li]at b1 b2;rw[show wn nms cl=cl.1::cl.2.map λn=>nms.getD n "" from rfl,wD (st:=(ts,nms)) ⟨rfl,b1⟩,b2]
def Sz (p:Str×List Nat):Prop:=p.1.length<=8/\p.2.length<=6
theorem mH {B:Nat}:∀{ps:List Str},(∀p∈ps,p.length<=B)->(Bc y ps).length<=ps.length*(B+y.length):=by
 intro ps h;have e:Bc y ps=MF y ps:=RP y ps;rw[e];clear e;induction ps with
 | nil=>exact Pn _
 | cons p ps ih=>
  cases ps with
  | nil=>
   have:=h p Eb
   show p.length<=1*(B+y.length);lia
  | cons q ps=>
   have h1:=h p Eb;have h2:=ih λr hr=>h r (Hj _ hr)
   show(p++y++MF y (q::ps)).length<=((q::ps).length+1)*(B+y.length);rw[GJ,GJ,Nat.succ_mul];lia
theorem qg {l:List Nat}(h:Jc l=true):l.length<=8:=by
 cases l with
 | nil=>cases h
 | cons c l=>
  have h:(decide (l.length<=7)&&low c&&(c::l).all Hg)=true:=h;rw[GQ,GQ,decide_eq_true_eq]at h;have:=h.1.1
  rw[Ea];lia
theorem aeI (N:Jh nms m)(hn:n<m):(nms.getD n "").length<=8:=by
 have h:=(wW N hn).2;rw[<-cN];exact qg<|N.nm _<|GK h
theorem Gk (N:Jh nms m)(hs:Sz p)(hn:∀n∈p.2,n<m):(∀w∈wn nms p,w.length<=8)/\(wn nms p).length<=7:=by
 refine⟨λw hw=>?_,?_⟩;rcases Bg.mp hw with rfl|hw
 exact hs.1;obtain⟨n,h,rfl⟩:=Dy.mp hw;exact aeI N<|hn n h
 show(p.2.map _).length+1<=7;rw[Ag];exact Nat.succ_le_succ hs.2
theorem zm (N:Jh nms m)(hs:Sz p)(hn:∀n∈p.2,n<m):(Bc " " (wn nms p)).length<=63:=by
 have h:=Gk N hs hn;have:=mH (y := " ") h.1
 have e:(" " : Str).length=1:=rfl;rw[e]at this;have:=Ry (8+1) h.2
 lia
theorem cj (h:l≠[]):Bc " " (x::l)=x ++ " "++Bc " " l:=by
 refine eX ?_;rw[cQ,bV,bV,cQ];cases l with
 | nil=>exact absurd rfl h
 | cons y l=>
  show cs x++32::glue 32 _=cs x++[32]++glue 32 _;rw[GR];rfl
theorem gH {y:Str}:∀{l:List Str},l≠[]->Bc " " (l++[y])=Bc " " l ++ " "++y
 | [],h=>absurd rfl h
 | [x],_=>by
  rw[List.singleton_append,cj (by simp)];rfl
 | x::z::l,_=>by
  rw[Mi,cj (by simp),cj (l:=z::l) (by simp),gH (l:=z::l) (by simp)];exact eX<|by simp only[bV,GR]
theorem bL {b:Str}(hz:a.length+b.length<=100000)(q:Q (.str (a++b)) h):bR (.str a) (.str b) h Q:=⟨Lk hz,q⟩
theorem Vq {nv:W}(hv:view h nv=Dn (nms.map .str))(hn:n<nms.length)(q:Q (.str (nms.getD n "")) h):Aq nv (.int (n:Nat)) h Q:=
 cV hv (bJ (by rw[Ds,GF hn,T6,T3,GF hn];rfl)) q
def WsX (c0:AP):Prop:=∀{h:Gh}{nv:W}{nms:List Str}{m:Nat}{p:Str×List Nat}{Q:WK}{E:Ba},view h nv=Dn (nms.map .str)->Jh nms m->Sz p->(∀n∈p.2,n<m)->Q (.str (Bc " " (wn nms p))) h->c0 [bQ p,nv] h Q E
theorem vL:∀ys:List Str,xH (ys.map .str)=Dn ys
 | []=>rfl
 | y::ys=>by
  show(xH (ys.map .str)).map (y::·)=_;rw[vL ys];rfl
theorem K3 {B:Nat}(e:cU h w=Dn (ys.map .str))(hB:∀y∈ys,y.length<=B)(hz:ys.length*B+ys.length*a.length<=16777216)(q:Q (.str (Bc a ys)) h):gU (.str a) [w] h Q:=by
 show(match cU h w with
  | some us=>(match xH us with
   | some ys=>(ys.map λx=>x.length).sum+ys.length*a.length<=16777216/\Q (.str (Bc a ys)) h
   | none=>False)
  | none=>False)
 rw[e];dsimp only;rw[vL];refine⟨?_,q⟩;have:=StrLaws.sumLen_le ys hB
 lia
theorem qU {nms:List Str}:∀{ns:List Str}{ps:List (Str×List Nat)}{i:Nat}{n:Str}{p:Str×List Nat},ns[i]?=Dn n->ps[i]?=Dn p->(Jd nms ns ps)[i]?=Dn (n::wn nms p)
 | [],_,i,_,_,e,_=>by simp at e
 | n::ns,[],i,_,_,_,e=>by simp at e
 | n::ns,p::ps,0,_,_,e,e'=>by cases e;cases e';rfl
 | n::ns,p::ps,i+1,_,_,e,e'=>qU (ns:=ns) (ps:=ps) (i:=i) e e'
theorem Lg (N:Jh nms ts.length)(hs:∀p∈ts,Sz p/\∀n∈p.2,n<ts.length):∀l∈Jd nms nms ts,(Bc " " l).length<=72:=by
 intro l hl;obtain⟨i,hi,e⟩:=Qf hl;obtain⟨n,p,en,ep,rfl⟩:=mU ((GF hi).trans (congrArg Dn e));obtain⟨s1,s2⟩:=hs p (GK ep);obtain⟨l1,l2⟩:=Gk N s1 s2;have h8:n.length<=8:=by rw[<-cN];exact qg (N.nm n (GK en))
 have:=mH (y := " ") (B:=8) (ps:=n::wn nms p) λq hq=>by
  rcases Bg.mp hq with rfl|hq
  exact h8;exact l1 q hq
 have e1:(" " : Str).length=1:=rfl;rw[e1,Ea]at this;have:=Ry (8+1) (Nat.succ_le_succ l2)
 lia
theorem J3 (N:Jh nms m)(hs:Sz p)(hn:∀n∈p.2,n<m):(Bc " " (("claim" : Str)::wn nms p)).length<=72:=by
 rw[cj (l:=wn nms p) (G7 _ _),GJ,GJ];have:=zm N hs hn
 have:(" " : Str).length=1:=rfl
 have:("claim" : Str).length=5:=rfl
 lia
def QX:List (Key×W):=[(.inr "join",.str "line"),(.inr "about",.str "line"),(.inr "curve",.str "curve")]
theorem zbk (x:Str):(p7 QX (.inr x)).getD (.str "spot")=.str (uP x):=by
 by_cases e1:x = "join"
 subst e1;rfl;by_cases e2:x = "about"
 subst e2;rfl;by_cases e3:x = "curve"
 subst e3;rfl;have e4:p7 QX (.inr x)=Go:=by
  simp[p7,QX,List.find?_cons,HF e1,HF e2,HF e3]
 rw[e4];unfold uP;rw[if_neg e1,if_neg e2,if_neg e3];rfl
def Ze (c0:AP):Prop:=∀{h:Gh}{x:Str}{Q:WK}{E:Ba},(∀h',Nw1 h h'->Q (.str (uP x)) h')->c0 [.str x] h Q E
theorem adR:Ze yV:=by
 intro h x Q E k;show(match(h.new (.dct [])).c h.nx with
  | some (.dct [])=>_
  | _=>False)
 rw[Af];show(match(((h.new (.dct [])).set h.nx (.dct QX)).c h.nx)with
  | some (.dct _)=>_
  | _=>False)
 rw[xQ];show(match(((h.new (.dct [])).set h.nx (.dct QX)).c h.nx),Sh (.str x)with
  | some (.dct kvs),Dn k=>_
  | _,_=>False)
 rw[xQ];show Q ((p7 QX (.inr x)).getD (.str "spot")) _;rw[zbk];exact k _ ⟨λm hm=>by rw[uZ hm,pU hm],rfl⟩
def Lz (L:List Nat)(t f k:Nat):List Nat:=L.take t++(97+(f+k) % 26)::L.drop (t+1)
def Bs (L:List Nat)(n:Nat):Prop:=L.length=n/\(∀c,L.head?=Dn c->low c=true)/\∀c∈L,Hg c=true
theorem SQ (n:Nat):low (97+n % 26)=true:=by
 unfold low;rw[decide_eq_true_eq];lia
theorem Ci (h:low c=true):Hg c=true:=by unfold Hg;rw[h];rfl
variable {t:Nat}
theorem adP {L:List Nat}{f:Nat}(b:Bs L n)(h8:n<=8)(ht:t<n):Jc (Lz L t f k)=true:=by
 have hl:(Lz L t f k).length=n:=by
  unfold Lz;rw[Dv,Ea,Ib,Ly,b.1];lia
 have ha:∀c∈Lz L t f k,Hg c=true:=by
  intro c hc;unfold Lz at hc;rcases Fv.mp hc with hc|hc
  exact b.2.2 c<|Q8 hc
  rcases Bg.mp hc with rfl|hc
  exact Ci<|SQ _
  exact b.2.2 c<|S6 hc
 have hh:∀c,(Lz L t f k).head?=Dn c->low c=true:=by
  intro c hc;cases t with
  | zero=>cases hc;exact SQ _
  | succ t=>
   cases L with
   | nil=>have:=b.1;simp at this;lia
   | cons d L=>exact b.2.1 c hc
 cases e:Lz L t f k with
 | nil=>rw[e]at hl;simp at hl;lia
 | cons c l=>
  rw[e]at hl ha hh;show(decide (l.length<=7)&&low c&&(c::l).all Hg)=true;rw[Ea]at hl;rw[decide_eq_true (by lia),hh c rfl,IK.mpr ha];rfl
theorem aei {L:List Nat}{f k':Nat}(b:Bs L n)(ht:t<n)(hk:k<26)(hk':k'<26)(e:Lz L t f k=Lz L t f k'):k=k':=by
 unfold Lz at e;have:=List.append_cancel_left e
 have:=(List.cons.inj this).1
 lia
theorem zH (l:List Nat):(tx l).length=l.length:=by rw[<-cN,kW]
def nmL (L:List Nat)(t f m:Nat):List Str:=(LC m).map λk=>tx (Lz L t f k)
theorem acu {L:List Nat}{f:Nat}(b:Bs L n)(h8:n<=8)(ht:t<n)(hm:m<=26):Jh (nmL L t f m) m:=by
 refine⟨by unfold nmL;rw[Ag,List.length_range],?_,λx hx=>?_⟩;unfold nmL;refine List.pairwise_map.mpr ?_;refine List.nodup_range.imp_of_mem λ{a c} ha hc ne e=>ne ?_;have e:tx (Lz L t f a)=tx (Lz L t f c):=e;have e2:=congrArg cs e;rw[kW,kW]at e2;rw[Ri]at ha hc;exact aei b ht (by lia) (by lia) e2;obtain⟨k,_,rfl⟩:=Dy.mp hx;rw[kW];exact adP b h8 ht
theorem O2 (hx:x.length<=100)(ht:t<=x.length)(q:Q (.str (tx ((cs x).take t))) h):Bf (.str x) Go (Dn (t:Int)) h Q:=by
 have hl:=cN x;have e:Qz x Go (Dn (t:Int))=tx ((cs x).take t):=by
  rw[StrLaws.sliceText_to (j:=(t:Int)) ⟨Rv _,by show(t:Int)<=((cs x).length:Int);lia⟩];show tx _=tx _;congr 1
 refine⟨?_,by rw[e];exact q⟩;rw[e,<-cN,kW,Ib];exact Lk<|by lia
theorem Um (hx:x.length<=100)(ht:t<=x.length)(q:Q (.str (tx ((cs x).drop t))) h):Bf (.str x) (Dn (t:Int)) Go h Q:=by
 have hl:=cN x;have e:Qz x (Dn (t:Int)) Go=tx ((cs x).drop t):=by
  rw[StrLaws.sliceText_from (i:=(t:Int)) ⟨Rv _,by show(t:Int)<=((cs x).length:Int);lia⟩];show tx (((cs x).drop t).take _)=tx _;congr 1
  rw[Oh];rw[Ly];show(cs x).length-t<=(((cs x).length:Int)-t).toNat;lia
 refine⟨?_,by rw[e];exact q⟩;rw[e,<-cN,kW,Ly];exact Lk<|by lia
theorem Jy {d:Int}(h0:0<=d)(h1:d<26):Hh (cs LET) d=Dn (97+d.toNat):=by
 obtain⟨n,rfl⟩:=RM h0;refine bJ ?_;rw[Nr,tW];have:∀n:Nat,n<26->([97,98,99,100,101,102,103,104,105,106,107,108,109,110,111,112,113,114,115,116,117,118,119,120,121,122]:List Nat)[n]?=Dn (97+n):=by decide
 exact this n<|by lia
theorem XJ {d:Int}(h0:0<=d)(h1:d<36):∃c,Hh (cs (LET++("0123456789" : Str))) d=Dn c/\Hg c=true:=by
 obtain⟨n,rfl⟩:=RM h0;have e:cs (LET++("0123456789" : Str))=[97,98,99,100,101,102,103,104,105,106,107,108,109,110,111,112,113,114,115,116,117,118,119,120,121,122,48,49,50,51,52,53,54,55,56,57]:=by
  rw[bV,tW,xU];rfl
 rw[e];have:∀n:Nat,n<36->∃c,([97,98,99,100,101,102,103,104,105,106,107,108,109,110,111,112,113,114,115,116,117,118,119,120,121,122,48,49,50,51,52,53,54,55,56,57]:List Nat)[n]?=Dn c/\Hg c=true:=by
  intro n hn;have h2:n<([97,98,99,100,101,102,103,104,105,106,107,108,109,110,111,112,113,114,115,116,117,118,119,120,121,122,48,49,50,51,52,53,54,55,56,57]:List Nat).length:=hn;refine⟨_,GF h2,?_⟩;have al:∀c∈([97,98,99,100,101,102,103,104,105,106,107,108,109,110,111,112,113,114,115,116,117,118,119,120,121,122,48,49,50,51,52,53,54,55,56,57]:List Nat),Hg c=true:=by decide
  exact al _<|OJ h2
 obtain⟨c,h1,h2⟩:=this n (by lia);exact⟨c,bJ h1,h2⟩
def Za (c0:AP):Prop:=∀{h:Gh}{b m:Nat}{Q:WK}{E:Ba},GX h b->m<=24->(∀nms h',Jh nms m->GX h' b->Hy b h h'->Q (.lst (nms.map .str)) h')->c0 [.loc b,.int (m:Int)] h Q E
theorem zbC {c0:AP}(hd:gC c0):Za (qp c0):=by
 intro h b m Q E hb hm k;unfold qp;refine mO rfl (U:=[Dn<|.loc b,Dn<|.int m,Go,Go,Go,Go,Go,Go]) rfl ?_;refine aL<|aV<|bB<|nV<|cF<|aL<|aV<|aH<|bB<|bD<|ao<|au rfl<|ao<|bB<|aF ?_
 refine hd hb (by decide) (by unfold Sm;decide) λd1 h1 a0 a1 hb1 o1=>j5<|nV<|cF ?_
 obtain⟨s,rfl⟩:=RM a0;have hs:s<8:=by lia
 have e1:(1:Int)+(s:Int)=((s+1:Nat):Int):=by lia
 rw[e1];refine aL<|aV<|bD<|ao<|au rfl<|ao<|au rfl<|aF ?_
 refine hd hb1 (by lia) (by unfold Sm;lia) λd2 h2 b0 b1 hb2 o2=>nV<|cF ?_
 obtain⟨t,rfl⟩:=RM b0;have ht:t<s+1:=by lia
 refine aL<|aV<|aH<|au rfl<|bD<|ao<|au rfl<|ao<|bB<|aF ?_
 refine hd hb2 (by decide) (by unfold Sm;decide) λd3 h3 c0' c1' hb3 o3=>Jg (by decide) (Jy c0' c1')<|nV<|cF ?_
 have bs0:Bs (cs (⟨#[97+d3.toNat]⟩:Str)) (0+1):=by
  refine⟨rfl,λc hc=>?_,λc hc=>?_⟩;cases hc;unfold low;rw[decide_eq_true_eq];lia;have:c=97+d3.toNat:=by simpa[cs]using hc
  rw[this];refine Ci ?_;unfold low;rw[decide_eq_true_eq];lia
 refine aL ?_;refine aeK (ma:=aA (Y7 Dm (aG 3)<|mC<|.int 1) aN) (j:=(s:Int)) (λR=>?_) (by lia) (by lia) (λi U h'=>∃x a6,Bs (cs x) (i+1)/\U=[Dn<|.loc b,Dn<|.int m,Dn<|.str LET,Dn<|.int ((s+1:Nat):Int),Dn<|.int (t:Int),Dn<|.str x,a6,Go]/\GX h' b/\Hy b h h') ?_ ?_ ⟨_,_,bs0,rfl,hb3,(o1.trans o2).trans o3⟩;show R [.int (((s+1:Nat):Int)-1)] h3=_;have:(((s+1:Nat):Int)-1)=(s:Int):=by lia
 rw[this];rintro i U h' N hN hi ⟨x,a6,bx,rfl,hb',o'⟩;have hx:x.length=i+1:=by rw[<-cN];exact bx.1
 rw[Nr]at hi;refine nV<|aV<|aH<|au rfl<|aH<|aH<|au rfl<|bB<|bL (a:=LET) (by decide)<|bD<|ao<|au rfl<|ao<|bB<|aF ?_
 refine hd hb' (by decide) (by unfold Sm;decide) λd4 h4 f0 f1 hb4 o4=>?_;obtain⟨c,ec,lc⟩:=XJ f0 f1;refine Jg (by decide) ec<|bL ?_<|nV<|hN _ _ ⟨_,_,?_,rfl,hb4,o'.trans o4⟩
 have:(⟨#[c]⟩:Str).length=1:=rfl
 lia;rw[bV];refine⟨by rw[Dv,bx.1];rfl,λe he=>?_,λe he=>?_⟩;cases ex:cs x with
 | nil=>have:=bx.1;rw[ex]at this;simp at this
 | cons y l=>rw[ex]at he bx;exact bx.2.1 e he
 rcases Fv.mp he with he|he
 exact bx.2.2 e he;have:e=c:=by simpa[cs]using he
 rw[this];exact lc;rintro U h' ⟨x,a6,bx,rfl,hb',o'⟩;rw[Nr]at bx;have hx:x.length=s+1:=by rw[<-cN];exact bx.1
 unfold o8;refine cF<|aL<|aV<|bD<|ao<|au rfl<|ao<|bB<|aF ?_
 refine hd hb' (by decide) (by unfold Sm;decide) λd5 h5 f0 f1 hb5 o5=>nV<|cF ?_
 obtain⟨f,rfl⟩:=RM f0;refine dU<|jL<|jW<|ao<|au rfl<|aF<|u5 (m:=m) (by lia) ?_
 refine pN (by rw[Ag];unfold rng;rw[Qa];exact Nat.ble_eq.mpr (by lia)) ?_;refine fV (λi acc h'=>h'=h5/\acc=(nmL (cs x) t f i).map .str) ?_ ?_ ⟨rfl,rfl⟩;rintro i w acc h' N hN e ⟨rfl,rfl⟩;rw[Ds]at e;obtain⟨y,ey,rfl⟩:=Ij.mp e;have e0:=(j6 ey).1;rw[Nat.zero_add]at e0;subst e0;refine⟨[.int (y:Int)],rfl,iQ<|fG<|aH<|aH<|j9<|au rfl<|cO<|dM<|au rfl<|uO<|O2 (by lia) (by lia) ?_ ⟩;refine aH<|au rfl<|aH<|aH<|au rfl<|au rfl<|j5<|bB<|Dc (by decide) ?_
 have em:((f:Int)+(y:Int)).fmod 26=(((f+y) % 26:Nat):Int):=by
  rw[fX (by decide)];lia
 rw[em];refine Jg (by decide) (Jy (by lia)<|by lia)<|bL ?_ ?_
 rw[<-cN,kW,Ib];show _+1<=_;lia;refine j9<|au rfl<|dM<|aH<|au rfl<|bB<|j5<|uO<|cO ?_
 rw[show((t:Int)+1)=((t+1:Nat):Int)from rfl];refine Um (by lia) (by lia)<|bL ?_<|hN _ _ ⟨rfl,?_⟩
 rw[GJ,zH,zH,Ib,Ly];have hl:=cN x;show _+1+_<=_;lia;unfold nmL;rw[List.range_succ,Eu,Eu];congr 1
 show[W.str _]=[W.str _];congr 2
 refine eX ?_;rw[bV,bV,kW,kW,kW,Nr];unfold Lz;rw[GR];rfl;rintro acc h' ⟨rfl,rfl⟩;rw[Ag];unfold rng;rw[Qa,Rp];exact k _ _ (acu bx (by lia) ht<|by lia) hb5<|o'.trans o5
def HW (js:List Nat):W:=.lst (js.map λj:Nat=>W.int (j:Int))
theorem nP {i:Int}(h1:-(ws.length:Int)<=i)(h2:i<ws.length):∃w,Hh ws i=Dn w/\w∈ws:=by
 have:∃j:Nat,Jl ws.length i=Dn j/\j<ws.length:=by
  unfold Jl;by_cases c:0<=i
  rw[if_pos c,if_pos h2];exact⟨_,rfl,by lia⟩;rw[if_neg c,if_pos h1];exact⟨_,rfl,by lia⟩
 obtain⟨j,e,hj⟩:=this;exact⟨ws[j],by unfold Hh;rw[e];exact GF hj,OJ hj⟩
variable {js:List Nat}
theorem ixJ {i:Int}(h1:-(js.length:Int)<=i)(h2:i<js.length)(k:∀j∈js,Q (.int (j:Nat)) h):Aq (HW js) (.int i) h Q:=by
 obtain⟨w,e,hw⟩:=nP (ws:=js.map λj:Nat=>W.int (j:Int)) (i:=i) (by rw[Ag];exact h1) (by rw[Ag];exact h2);obtain⟨j,hj,rfl⟩:=Dy.mp hw;exact cV rfl e<|k j hj
theorem w6 (k:Q (.bl (decide (js≠[]))) h):Ji (HW js) (.lst []) h Q:=by
 have p:Aw 30 (HW js)=true:=by
  show((js.map λj:Nat=>W.int (j:Int)).all (Aw 29))=true;refine IK.mpr λw hw=>?_;obtain⟨j,_,rfl⟩:=Dy.mp hw;rfl
 have e:(!Bk (HW js) (.lst []))=decide (js≠[]):=by
  cases js with
  | nil=>rfl
  | cons j js=>rfl
 show Ec (Aw 30 (HW js)&&Aw 30 (.lst [])) (Q (.bl (!Bk (HW js) (.lst []))) h) False;rw[p,e];exact k
def Js (ss:List Str)(s:Str)(js:List Nat):Prop:=(∀j∈js,ss[j]?=Dn s)/\js.length<=24
theorem pkC {s:Str}(hv:U[i]?=Dn (Dn (.loc n)))(hU:rZ [i] U=[Dn (.loc n)])(hn:h.c n=Dn (.lst (ss.map .str)))(hl:ss.length<=24)(q:∀js,Js ss s js->(s∈ss->js≠[])->Q (HW js) h):
  Fq G5 [i] (fP (aA (CZ Bb (aA (aG i) aN)) aN)) (cJ (Y7 Jj (Y7 Aq (aG 1) (aG 0)) (mC (.str s)))) (aG 0) U h Q:=by
 have ev:=dR hn;refine jL<|jW<|ao<|fY<|ao<|au hv<|aF<|eV ev<|aF ?_
 rw[Ag];refine u5 (m:=ss.length) (by lia)<|pN (by rw[Ag];unfold rng;rw[Qa];exact Nat.ble_eq.mpr (by lia)) ?_
 refine fV (λi acc h'=>h'=h/\∃js:List Nat,acc=js.map (λj:Nat=>W.int (j:Int))/\js.length<=i/\((∃k,k<i/\ss[k]?=Dn s)->js≠[])/\∀j∈js,ss[j]?=Dn s) ?_ ?_ ⟨rfl,[],rfl,Bm _,λ⟨_,z,_⟩=>absurd z<|RB _,λj hj=>absurd hj<|by simp⟩;rintro i w acc h' N hN e ⟨rfl,js,rfl,jl,jn,jo⟩;rw[Ds]at e;obtain⟨x,ex,rfl⟩:=Ij.mp e;have e0:=(j6 ex).1;have hx:=(j6 ex).2;rw[Nat.zero_add]at e0;subst e0;have hri:ss[x]?=Dn ss[x]:=GF hx;refine⟨[.int (x:Int)],rfl,?_⟩;rw[hU];refine cD<|aH<|aH<|au rfl<|au rfl<|cV ev (bJ (v:=W.str ss[x]) (by rw[Ds,hri];rfl))<|bB<|Qk<|oX ?_
 by_cases z:ss[x]=s
 rw[decide_eq_true z];refine fG<|au rfl<|hN _ _ ⟨rfl,js++[x],by rw[Eu];rfl,by rw[Dv];exact Nat.succ_le_succ jl,λ_ y=>?_,λj hj=>?_⟩
 exact absurd (congrArg Ro y) (by rw[Dv];exact Nat.succ_ne_zero _);rcases Fv.mp hj with hj|hj
 exact jo j hj;rw[Fk.mp hj,hri,z];rw[decide_eq_false z];refine vA<|hN _ _ ⟨rfl,js,rfl,Nat.le_succ_of_le jl,λ⟨q,hq,e1⟩=>jn ⟨q,?_,e1⟩,jo⟩
 rcases Nat.lt_or_ge q x with y|y
 exact y;have:q=x:=by lia
 subst this;rw[hri]at e1;exact absurd (Ge e1) z;rintro acc h' ⟨rfl,js,rfl,jl,jn,jo⟩;rw[Ag]at jl jn;unfold rng at jl jn;rw[Qa,Rp]at jl jn;refine q js ⟨jo,by lia⟩ λhs=>jn ?_;obtain⟨k,hk,e⟩:=Qf hs;exact⟨k,hk,by rw[GF hk,e]⟩
theorem pF {c0:AP}(hd:gC c0){kb:Nat}(hi:U[i]?=Dn (Dn (HW js)))(hk:U[kb]?=Dn (Dn (.loc b)))(hb:GX h b)(hj:js≠[])(hl:js.length<=24)
  (k:∀j∈js,∀h',GX h' b->Hy b h h'->Q (.int (j:Nat)) h'):Y7 Aq (aG i) (bN c0 E (aA (aG kb) (aA (CZ Bb (aA (aG i) aN)) aN))) U h Q:=by
 have hp:0<js.length:=RV.mpr hj;refine aH<|au hi<|bD<|ao<|au hk<|ao<|fY<|ao<|au hi<|aF<|eV (xs:=js.map λj:Nat=>W.int (j:Int)) rfl<|aF ?_
 rw[Ag];exact hd hb (by lia) (by unfold Sm;lia) λd h' d0 d1 hb' o=>ixJ (by lia) d1 λj hj=>k j hj h' hb' o
def Gd (ss:List Str)(fr:Int)(w:W):Prop:=∃p,w=bQ p/\ok1 ss w=true/\(mJ w=true->fr<7)
variable {fr:Int}
theorem vW (hx:x∈HS)(hf:x ≠ "free")(e:js.map (λj=>ss[j]?)=(Bl x).map Dn):Gd ss fr (bQ (x,js)):=by
 refine⟨(x,js),rfl,TV hx ?_,λz=>absurd (of_decide_eq_true<|show decide (x = "free")=true from z) hf⟩;rw[<-e,Lx];refine PJ λj hj=>?_;show nth ss (.int (j:Int))=_;rw[yJ (Rv _),Nr]
structure RS (G:W->Prop) (h0 h:Gh) (b L:Nat) (us:List W):Prop where
 bag:GX h b
 cL:h.c L=Dn (.lst us)
 lL:h0.nx<=L
 uL:L<h.nx
 bl:b<h0.nx
 gr:Gr b h0 h
 gd:∀w∈us,G w
variable {h0:Gh}{L:Nat}{G:W->Prop}
theorem RS.ne (R:RS G h0 h b L us):L≠b:=Mf (Df R.bl R.lL)
theorem RS.oth (R:RS G h0 h b L us)(hb:GX h' b)(o:Hy b h h'):RS G h0 h' b L us:=
 ⟨hb,(o.2 L R.ne).trans R.cL,R.lL,by rw[o.1];exact R.uL,R.bl,R.gr.trans o.gr,R.gd⟩
theorem jF (hb:GX h b)(e:h'.c b=h.c b):GX h' b:=by
 obtain⟨p,q,e1,r⟩:=hb;exact⟨p,q,e.trans e1,r⟩
theorem uY {vs:List W}(R:RS G h0 h b L us)(hz:us.length<=20)(hv:vs.length<=5)(gv:∀w∈vs,G w)(k:∀g L',RS G h0 g b L' (us++vs)->Q (.loc L') g):sZ (.loc L) (.lst vs) h Q:=by
 have e1:Gx h (.loc L)=Dn us:=by
  show(match h.c L with
   | some (.lst ws)=>Dn ws
   | _=>Go)=_
  rw[R.cL]
 unfold sZ;rw[e1];refine jN.mk (Dp (show us.length+vs.length<=25 by lia)<|by decide)<|k _ h.nx ⟨?_,Af _ _,Dp R.lL<|PB R.uL,PX _,R.bl,⟨Dp R.gr.1<|Nj _,λm hm ne=>?_⟩,λw hw=>?_⟩
 exact jF R.bag<|pU<|Cg<|Df R.bl R.gr.1
 rw[pU (Cg (Df hm R.gr.1))];exact R.gr.2 m hm ne;rcases Fv.mp hw with hw|hw
 exact R.gd w hw;exact gv w hw
theorem JB {v:W}(R:RS G h0 h b L us)(hz:us.length<=20)(gv:G v)(k:∀g,RS G h0 g b L (us++[v])->Q .non g):dO (.loc L) [v] h Q:=
 CT R.cL (by lia) λg gc go gn=>k g ⟨jF R.bag (go b (HF R.ne)),gc,R.lL,by rw[gn];exact R.uL,R.bl,⟨by rw[gn];exact R.gr.1,λm hm ne=>(go m (Cg (Df hm R.lL))).trans (R.gr.2 m hm ne)⟩,λw hw=>by
  rcases Fv.mp hw with hw|hw
  exact R.gd w hw;rw[Fk.mp hw];exact gv⟩
variable {a7 a8:Option W}
theorem Nf {c0:AP}(hd:gC c0){a1 a2 a3 a4 a5 a9 a10 a11:Option W}(R:RS (Gd ss fr) h0 h b L us)(hu:us≠[])(hz:us.length<=20)
  (k:∀w h',Gd ss fr w->GX h' b->Gr b h0 h'->D.rt w h'):qC c0 E D [Dn (.loc b),a1,a2,a3,a4,a5,Dn (.loc L),a7,a8,a9,a10,a11] h:=by
 have hp:0<us.length:=RV.mpr hu;unfold qC;refine dU<|aH<|au rfl<|bD<|ao<|au rfl<|ao<|fY<|ao<|au rfl<|aF<|eV (dR R.cL)<|aF ?_
 refine hd R.bag (by lia) (by unfold Sm;lia) λd h' d0 d1 hb' o=>?_;have R':=R.oth hb' o;obtain⟨w,e,hw⟩:=nP (ws:=us) (i:=d) (by lia) d1;exact Nx R'.cL e<|k w h' (R.gd w hw) hb' R'.gr
variable {qs:List Nat}
theorem O5 {c0:AP}(hd:gC c0){ls:List Nat}{a1 a2 a3 a9 a10 a11:Option W}(R:RS (Gd ss fr) h0 h b L us)(hu:us≠[])(hz:us.length<=10)
  (jl:Js ss "line" ls) (jq:Js ss "curve" qs) (k:∀w h',Gd ss fr w->GX h' b->Gr b h0 h'->D.rt w h'):pQ c0 E D [Dn (.loc b),a1,a2,a3,Dn (HW ls),Dn (HW qs),Dn (.loc L),a7,a8,a9,a10,a11] h:=by
 unfold pQ;refine aL<|dF<|cD<|aH<|au rfl<|bY<|aF<|aX rfl<|w6<|oX ?_
 refine lG (λe1=>?_)<|λe1=>?_
 refine aL<|aV<|pF hd rfl rfl R.bag e1 jl.2 λl hl h1 hb1 o1=>nV<|cF ?_
 have R1:=R.oth hb1 o1;refine aL<|aV<|pF hd rfl rfl hb1 e1 jl.2 λm hm h2 hb2 o2=>nV<|cF ?_
 have R2:=R1.oth hb2 o2;have sl:=jl.1 l hl;have sm:=jl.1 m hm;refine aL<|aV<|aH<|au rfl<|bY<|ao<|dG<|ao<|bB<|ao<|au rfl<|ao<|au rfl<|aF<|aX rfl ?_
 refine ao<|dG<|ao<|bB<|ao<|au rfl<|ao<|au rfl<|aF<|aX rfl<|aF<|aX rfl ?_
 refine uY (vs:=[bQ ("meet",[l,m]),bQ ("meet",[m,l])]) R2 (by lia) (Ho rfl) (λw hw=>?_) λg L' R3=>nV<|cF ?_
 rcases Bg.mp hw with rfl|hw
 exact vW (by decide) (by decide) (by show[ss[l]?,ss[m]?]=_;rw[sl,sm];rfl);rw[Fk.mp hw];exact vW (by decide) (by decide) (by show[ss[m]?,ss[l]?]=_;rw[sl,sm];rfl);have hz3:(us++[bQ ("meet",[l,m]),bQ ("meet",[m,l])]).length<=12:=by rw[Dv];show us.length+2<=12;lia
 refine dF<|cD<|aH<|au rfl<|bY<|aF<|aX rfl<|w6<|oX ?_
 refine lG (λe2=>?_)<|λe2=>?_
 refine gR<|nC<|au rfl<|ji R3.cL<|ao<|dG<|ao<|bB<|ao<|pF hd rfl rfl R3.bag e2 jq.2 λq hq h4 hb4 o4=>?_
 have R4:=R3.oth hb4 o4;refine ao<|au rfl<|aF<|aX rfl<|aF ?_
 refine JB (v:=bQ ("pole",[q,m])) R4 (by lia) (vW (by decide) (by decide) (by show[ss[q]?,ss[m]?]=_;rw[jq.1 q hq,sm];rfl)) λg5 R5=>cF ?_;exact Nf hd R5 (by simp) (by rw[Dv];show _+1<=20;lia) k;exact cC<|cF<|Nf hd R3 (by simp) (by lia) k
 exact cC<|cF<|Nf hd R hu (by lia) k
theorem W3 (hU:rZ [i] U=[Dn (HW js)])(hj:js≠[])(hl:js.length<=24)(q:∀a b c,a∈js->b∈js->c∈js->Q (HW [a,b,c]) h):
  Fq G5 [i] (fP (aA (mC (.int 3)) aN)) qP (Y7 Aq (aG 1) (Y7 Dm (Ow Jx (mC (.int 1))) (Y7 Ga (aG 0) (CZ Bb (aA (aG 1) aN))))) U h Q:=by
 have hp:0<js.length:=RV.mpr hj;refine jL<|jW<|ao<|bB<|aF<|u5 (m:=3) (by lia)<|pN rfl ?_
 refine fV (λi acc h'=>h'=h/\∃xs:List Nat,acc=xs.map (λj:Nat=>W.int (j:Int))/\xs.length=i/\∀x∈xs,x∈js) ?_ ?_ ⟨rfl,[],rfl,rfl,λx hx=>absurd hx<|by simp⟩;rintro i w acc h' N hN e ⟨rfl,xs,rfl,xl,xm⟩;rw[Ds]at e;obtain⟨x,ex,rfl⟩:=Ij.mp e;refine⟨[.int (x:Int)],rfl,?_⟩;rw[hU];refine iQ<|fG<|aH<|au rfl<|aH<|Aj<|bB<|rR<|aH<|au rfl<|fY<|ao<|au rfl<|aF<|eV (xs:=js.map λj:Nat=>W.int (j:Int)) rfl ?_
 rw[Ag];refine Dc (by lia)<|zy ?_
 rw[fX (by lia)];have h0:=T5 (x:Int) (show(js.length:Int)≠0 by lia);have h1:=Td (x:Int) (show(0:Int)<(js.length:Int) by lia);refine ixJ (by lia) (by lia) λj hj=>hN _ _ ⟨rfl,xs++[j],by rw[Eu];rfl,by rw[Dv,xl];rfl,λy hy=>?_⟩;rcases Fv.mp hy with hy|hy
 exact xm y hy;rw[Fk.mp hy];exact hj;rintro acc h' ⟨rfl,xs,rfl,xl,xm⟩;have xl:xs.length=3:=xl;match xs,xl with
 | [a,b,c],_=>exact q a b c (xm a (by simp)) (xm b (by simp)) (xm c (by simp))
theorem Tv {c0:AP}(hd:gC c0){ps ls:List Nat}{a1 a2 a9 a10 a11:Option W}(R:RS (Gd ss fr) h0 h b L us)(hu:us≠[]\/ps≠[])(hz:us.length<=2)
  (jp:Js ss "spot" ps) (jl:Js ss "line" ls) (jq:Js ss "curve" qs) (k:∀w h',Gd ss fr w->GX h' b->Gr b h0 h'->D.rt w h'):qD c0 E D [Dn (.loc b),a1,a2,Dn (HW ps),Dn (HW ls),Dn (HW qs),Dn (.loc L),a7,a8,a9,a10,a11] h:=by
 unfold qD;refine aL<|dF<|cD<|aH<|au rfl<|bY<|aF<|aX rfl<|w6<|oX ?_
 refine lG (λe1=>?_)<|λe1=>?_
 refine aL<|aV<|pF hd rfl rfl R.bag e1 jp.2 λx hx h1 hb1 o1=>nV<|cF ?_
 have R1:=R.oth hb1 o1;refine aL<|aV<|pF hd rfl rfl hb1 e1 jp.2 λy hy h2 hb2 o2=>nV<|cF ?_
 have R2:=R1.oth hb2 o2;have sx:=jp.1 x hx;have sy:=jp.1 y hy;refine aL<|aV<|W3 (js:=ps) rfl e1 jp.2 λu v w hu hv hw=>nV<|cF ?_
 have su:=jp.1 u hu;have sv:=jp.1 v hv;have sw:=jp.1 w hw;have i0:∀{g:Gh}{Q:WK},Q (.int (u:Nat)) g->Aq (HW [u,v,w]) (.int 0) g Q:=λq=>cV (ws:=[.int (u:Nat),.int (v:Nat),.int (w:Nat)]) rfl (bJ (j:=0) rfl) q
 have i1:∀{g:Gh}{Q:WK},Q (.int (v:Nat)) g->Aq (HW [u,v,w]) (.int 1) g Q:=λq=>cV (ws:=[.int (u:Nat),.int (v:Nat),.int (w:Nat)]) rfl (bJ (j:=1) rfl) q
 have i2:∀{g:Gh}{Q:WK},Q (.int (w:Nat)) g->Aq (HW [u,v,w]) (.int 2) g Q:=λq=>cV (ws:=[.int (u:Nat),.int (v:Nat),.int (w:Nat)]) rfl (bJ (j:=2) rfl) q
 refine aL<|aV<|aH<|au rfl<|bY<|ao<|dG<|ao<|bB<|ao<|au rfl<|ao<|au rfl<|aF<|aX rfl ?_
 refine ao<|dG<|ao<|bB<|ao<|au rfl<|ao<|au rfl<|aF<|aX rfl ?_
 refine ao<|dG<|ao<|bB<|ao<|au rfl<|ao<|au rfl<|ao<|aH<|au rfl<|bB<|i0 ?_
 refine ao<|aH<|au rfl<|bB<|i1<|ao<|aH<|au rfl<|bB<|i2<|aF<|aX rfl<|aF<|aX rfl ?_
 refine uY (vs:=[bQ ("join",[x,y]),bQ ("join",[y,x]),bQ ("curve",[x,y,u,v,w])]) R2 (by lia) (Ho rfl) (λz hz=>?_) λg L' R3=>nV<|cF ?_
 rcases Bg.mp hz with rfl|hz
 exact vW (by decide) (by decide) (by show[ss[x]?,ss[y]?]=_;rw[sx,sy];rfl);rcases Bg.mp hz with rfl|hz
 exact vW (by decide) (by decide) (by show[ss[y]?,ss[x]?]=_;rw[sx,sy];rfl);rw[Fk.mp hz];exact vW (by decide) (by decide) (by show[ss[x]?,ss[y]?,ss[u]?,ss[v]?,ss[w]?]=_;rw[sx,sy,su,sv,sw];rfl);have hz3:(us++[bQ ("join",[x,y]),bQ ("join",[y,x]),bQ ("curve",[x,y,u,v,w])]).length<=5:=by rw[Dv];show us.length+3<=5;lia
 refine dF<|cD<|aH<|au rfl<|bY<|aF<|aX rfl<|w6<|oX ?_
 refine lG (λe2=>?_)<|λe2=>?_
 have hq:0<qs.length:=RV.mpr e2;refine aV<|aH<|au rfl<|bY<|ao<|dG<|ao<|bB<|ao<|aH<|au rfl<|Aj<|bB<|rR<|ixJ (by lia) (by lia) λq1 hq1=>?_
 refine ao<|au rfl<|aF<|aX rfl ?_
 refine ao<|dG<|ao<|bB<|ao<|aH<|au rfl<|bB<|ixJ (by lia) (by lia) λq2 hq2=>?_
 refine ao<|au rfl<|ao<|au rfl<|aF<|aX rfl<|aF<|aX rfl ?_
 refine uY (vs:=[bQ ("about",[q1,x]),bQ ("other",[q2,x,y])]) R3 (by lia) (Ho rfl) (λz hz=>?_) λg L' R4=>nV<|cF ?_
 rcases Bg.mp hz with rfl|hz
 exact vW (by decide) (by decide) (by show[ss[q1]?,ss[x]?]=_;rw[sx,jq.1 q1 hq1];rfl);rw[Fk.mp hz];exact vW (by decide) (by decide) (by show[ss[q2]?,ss[x]?,ss[y]?]=_;rw[sx,sy,jq.1 q2 hq2];rfl);exact O5 hd R4 (by simp) (by rw[Dv];show _+2<=10;lia) jl jq k;exact cC<|cF<|O5 hd R3 (by simp) (by lia) jl jq k
 exact cC<|cF<|O5 hd R (hu.resolve_right e1) (by lia) jl jq k
def YG (c0:AP):Prop:=∀{h:Gh}{b n:Nat}{ss:List Str}{fr:Int}{Q:WK}{E:Ba},GX h b->h.c n=Dn (.lst (ss.map .str))->b<h.nx->ss.length<=24->(fr<7\/("spot" : Str)∈ss)->(∀w h',Gd ss fr w->GX h' b->Gr b h h'->Q w h')->c0 [.loc b,.loc n,.int fr] h Q E
theorem Vy {c0:AP}(hd:gC c0):YG (xG c0):=by
 intro h b n ss fr Q E hb hn bl hl hs k;unfold xG;refine mO rfl (U:=[Dn<|.loc b,Dn<|.loc n,Dn<|.int fr,Go,Go,Go,Go,Go,Go,Go,Go,Go]) rfl ?_;refine aL<|aV<|pkC rfl rfl hn hl λps jp np=>nV<|cF ?_
 refine aL<|aV<|pkC rfl rfl hn hl λls jl _=>nV<|cF ?_
 refine aL<|aV<|pkC rfl rfl hn hl λqs jq _=>nV<|cF ?_
 refine aL<|aV<|gQ (λR=>rfl) rfl λg gc go gn=>nV<|cF ?_
 have R:RS (Gd ss fr) h g b h.nx []:=⟨jF hb (go b (Cg bl)),gc,Bm _,by rw[gn];exact PX _,bl,⟨by rw[gn];exact Nj _,λm hm _=>go m (Cg hm)⟩,λw hw=>absurd hw (by simp)⟩
 refine aL<|dF<|cD<|aH<|au rfl<|bB<|uF<|oX ?_
 refine lG (λe1=>?_)<|λe1=>?_
 refine aV<|gQ (ws:=[bQ ("free",[]),bQ ("free",[])]) (λR=>rfl) rfl λg2 gc2 go2 gn2=>nV<|cF ?_
 have gf:Gd ss fr (bQ ("free",[])):=⟨_,rfl,TV (by decide) rfl,λ_=>e1⟩
 refine Tv hd (us:=[bQ ("free",[]),bQ ("free",[])]) (h0:=h) ⟨jF R.bag<|go2 b<|Cg (by rw[gn];lia),gc2,by rw[gn];lia,by rw[gn2];lia,bl,⟨by rw[gn2,gn];lia,λm hm ne=>?_⟩,λw hw=>?_⟩ (.inl<|by simp) (Bm _) jp jl jq k;rw[go2 m (Cg (by rw[gn];lia))];exact go m<|Cg hm
 rcases Bg.mp hw with rfl|hw
 exact gf;rw[Fk.mp hw];exact gf;exact cC<|cF<|Tv hd R (.inr<|np<|hs.resolve_left e1) (by decide) jp jl jq k
def Gc (ss:List Str)(w:W):Prop:=∃p,w=bQ p/\p.1∈Jw/\Nb ss w=true/\p.2.length<=3/\∀n∈p.2,n<ss.length
theorem tG {ls:List Str}(hx:x∈Jw)(hl:js.length<=3)(e:js.map (λj=>ss[j]?)=ls.map Dn)(hm:ls∈M6 x):Gc ss (bQ (x,js)):=by
 refine⟨(x,js),rfl,hx,?_,hl,λn hn=>?_⟩;have e2:(js.map λn:Nat=>W.int (n:Int)).map (nth ss)=ls.map Dn:=by
  rw[<-e,Lx];refine PJ λj hj=>?_;show nth ss (.int (j:Int))=_;rw[yJ (Rv _),Nr]
 show Nb ss (.tup (.str x::js.map λn:Nat=>W.int (n:Int)))=true;rw[adg e2];exact TK.mpr ⟨ls,hm,decide_eq_true rfl⟩;have h1:ss[n]?∈js.map (λj=>ss[j]?):=Dy.mpr ⟨n,hn,rfl⟩;rw[e]at h1;obtain⟨s,_,e3⟩:=Dy.mp h1;exact(HY.mp e3.symm).1
theorem Tp {c0:AP}(hd:gC c0)(hU:rZ [0,i] U=[Dn (.loc b),Dn (HW js)])(hb:GX h b)(hj:js≠[])(hl:js.length<=24)
  (q:∀x y z,x∈js->y∈js->z∈js->∀h',GX h' b->Hy b h h'->Q (HW [x,y,z]) h') :
  Fq G5 [0,i] (fP (aA (mC (.int 3)) aN)) qP (Y7 Aq (aG 2) (bN c0 E (aA (aG 1) (aA (CZ Bb (aA (aG 2) aN)) aN)))) U h Q:=by
 refine jL<|jW<|ao<|bB<|aF<|u5 (m:=3) (by lia)<|pN rfl ?_
 refine fV (λi acc h'=>GX h' b/\Hy b h h'/\∃xs:List Nat,acc=xs.map (λj:Nat=>W.int (j:Int))/\xs.length=i/\∀x∈xs,x∈js) ?_ ?_ ⟨hb,.refl _ _,[],rfl,rfl,λx hx=>absurd hx<|by simp⟩;rintro i w acc h' N hN e ⟨hb',o',xs,rfl,xl,xm⟩;rw[Ds]at e;obtain⟨x,ex,rfl⟩:=Ij.mp e;refine⟨[.int (x:Int)],rfl,?_⟩;rw[hU];refine iQ<|fG<|pF hd rfl rfl hb' hj hl λj hj h2 hb2 o2=>hN _ _ ⟨hb2,o'.trans o2,xs++[j],by rw[Eu];rfl,by rw[Dv,xl];rfl,λy hy=>?_⟩
 rcases Fv.mp hy with hy|hy
 exact xm y hy;rw[Fk.mp hy];exact hj;rintro acc h' ⟨hb',o',xs,rfl,xl,xm⟩;have xl:xs.length=3:=xl;match xs,xl with
 | [x,y,z],_=>exact q x y z (xm x (by simp)) (xm y (by simp)) (xm z (by simp)) h' hb' o'
section
variable {u v w:Nat}{g:Gh}
theorem i3a (q:Q (.int (u:Nat)) g):Aq (HW [u,v,w]) (.int 0) g Q:=cV (ws:=[.int (u:Nat),.int (v:Nat),.int (w:Nat)]) rfl (bJ (j:=0) rfl) q
theorem i3b (q:Q (.int (v:Nat)) g):Aq (HW [u,v,w]) (.int 1) g Q:=cV (ws:=[.int (u:Nat),.int (v:Nat),.int (w:Nat)]) rfl (bJ (j:=1) rfl) q
theorem i3c (q:Q (.int (w:Nat)) g):Aq (HW [u,v,w]) (.int 2) g Q:=cV (ws:=[.int (u:Nat),.int (v:Nat),.int (w:Nat)]) rfl (bJ (j:=2) rfl) q
end
theorem Sd {c0:AP}(hd:gC c0){a1 a2 a3 a4 a5:Option W}(R:RS G h0 h b L us)(hu:us≠[])(hz:us.length<=20)
  (k:∀w h',G w->GX h' b->Gr b h0 h'->D.rt w h'):jY c0 E D [Dn (.loc b),a1,a2,a3,a4,a5,Dn (.loc L),a7,a8] h:=by
 have hp:0<us.length:=RV.mpr hu;unfold jY;refine dU<|aH<|au rfl<|bD<|ao<|au rfl<|ao<|fY<|ao<|au rfl<|aF<|eV (dR R.cL)<|aF ?_
 refine hd R.bag (by lia) (by unfold Sm;lia) λd h' d0 d1 hb' o=>?_;have R':=R.oth hb' o;obtain⟨w,e,hw⟩:=nP (ws:=us) (i:=d) (by lia) d1;exact Nx R'.cL e<|k w h' (R.gd w hw) hb' R'.gr
theorem Qy {c0:AP}(hd:gC c0){x y z:Nat}{a1 a2 a3:Option W}(R:RS (Gc ss) h0 h b L us)(hu:us≠[])(hz:us.length<=8)(sx:ss[x]?=Dn "spot")
  (jq:Js ss "curve" qs) (k:∀w h',Gc ss w->GX h' b->Gr b h0 h'->D.rt w h'):jZ c0 E D [Dn (.loc b),a1,a2,a3,Dn (HW qs),Dn (HW [x,y,z]),Dn (.loc L),a7,a8] h:=by
 unfold jZ;refine aL<|dF<|cD<|aH<|au rfl<|bY<|aF<|aX rfl<|w6<|oX ?_
 refine lG (λe1=>?_)<|λe1=>?_
 have hq:0<qs.length:=RV.mpr e1;refine aL<|aV<|pF hd rfl rfl R.bag e1 jq.2 λq hq h1 hb1 o1=>nV<|cF ?_
 have R1:=R.oth hb1 o1;have sq:=jq.1 q hq;refine aV<|aH<|au rfl<|bY<|ao<|dG<|ao<|bB<|ao<|au rfl<|aF<|aX rfl ?_
 refine ao<|dG<|ao<|bB<|ao<|aH<|au rfl<|bB<|i3a<|ao<|au rfl<|aF<|aX rfl ?_
 refine ao<|dG<|ao<|bB<|ao<|au rfl<|ao<|aH<|au rfl<|bB<|ixJ (by lia) (by lia) λq2 hq2=>?_
 refine aF<|aX rfl<|aF<|aX rfl ?_
 refine uY (vs:=[bQ ("parted",[q]),bQ ("on",[x,q]),bQ ("same",[q,q2])]) R1 (by lia) (Ho rfl) (λw hw=>?_) λg L' R3=>nV<|cF ?_
 rcases Bg.mp hw with rfl|hw
 exact tG (ls:=["curve"]) (by decide) (Ho rfl) (by show[ss[q]?]=_;rw[sq];rfl)<|by decide
 rcases Bg.mp hw with rfl|hw
 exact tG (ls:=["spot", "curve"]) (by decide) (Ho rfl) (by show[ss[x]?,ss[q]?]=_;rw[sx,sq];rfl)<|by decide
 rw[Fk.mp hw];exact tG (ls:=["curve", "curve"]) (by decide) (Ho rfl) (by show[ss[q]?,ss[q2]?]=_;rw[sq,jq.1 q2 hq2];rfl)<|by decide
 exact Sd hd R3 (by simp) (by rw[Dv];show _+3<=20;lia) k;exact cC<|cF<|Sd hd R hu (by lia) k
def YK (c0:AP):Prop:=∀{h:Gh}{b n:Nat}{ss:List Str}{Q:WK}{E:Ba},GX h b->h.c n=Dn (.lst (ss.map .str))->b<h.nx->b≠n->ss.length<=24->("spot" : Str)∈ss->(∀w h',Gc ss w->GX h' b->Gr b h h'->Q w h')->c0 [.loc b,.loc n] h Q E
theorem abk {c0:AP}(hd:gC c0):YK (pY c0):=by
 intro h b n ss Q E hb hn bl bn hl hs k;unfold pY;refine mO rfl (U:=[Dn<|.loc b,Dn<|.loc n,Go,Go,Go,Go,Go,Go,Go]) rfl ?_;refine aL<|aV<|pkC rfl rfl hn hl λps jp np=>nV<|cF ?_
 refine aL<|aV<|pkC rfl rfl hn hl λls jl _=>nV<|cF ?_
 refine aL<|aV<|pkC rfl rfl hn hl λqs jq _=>nV<|cF ?_
 refine aL<|aV<|Tp hd (js:=ps) rfl hb (np hs) jp.2 λx y z hx hy hz h1 hb1 o1=>nV<|cF ?_
 have sx:=jp.1 x hx;have sy:=jp.1 y hy;have sz:=jp.1 z hz;refine aL<|aV<|gQ (ws:=[bQ ("same",[x,y]),bQ ("row",[x,y,z])]) (λR=>rfl) rfl λg gc go gn=>nV<|cF ?_
 have bl1:b<h1.nx:=by rw[o1.1];exact bl
 have R:RS (Gc ss) h g b h1.nx [bQ ("same",[x,y]),bQ ("row",[x,y,z])]:=by
  refine⟨jF hb1<|go b<|Cg bl1,gc,by rw[o1.1];exact Bm _,by rw[gn];exact PX _,bl,o1.gr.trans ⟨by rw[gn];exact Nj _,λm hm _=>go m<|Cg hm⟩,λw hw=>?_⟩;rcases Bg.mp hw with rfl|hw
  exact tG (ls:=["spot", "spot"]) (by decide) (Ho rfl) (by show[ss[x]?,ss[y]?]=_;rw[sx,sy];rfl)<|by decide
  rw[Fk.mp hw];exact tG (ls:=["spot", "spot", "spot"]) (by decide) (Ho rfl) (by show[ss[x]?,ss[y]?,ss[z]?]=_;rw[sx,sy,sz];rfl)<|by decide
 refine aL<|dF<|cD<|aH<|au rfl<|bY<|aF<|aX rfl<|w6<|oX ?_
 refine lG (λe1=>?_)<|λe1=>?_
 refine aL<|aV<|Tp hd (js:=ls) rfl R.bag e1 jl.2 λl m o hl' hm ho h2 hb2 o2=>nV<|cF ?_
 have R2:=R.oth hb2 o2;have s1:=jl.1 l hl';have s2:=jl.1 m hm;have s3:=jl.1 o ho;refine aL<|aV<|aH<|au rfl<|bY<|ao<|dG<|ao<|bB<|ao<|aH<|au rfl<|bB<|i3a<|ao<|aH<|au rfl<|bB<|i3b<|aF<|aX rfl ?_
 refine ao<|dG<|ao<|bB<|ao<|aH<|au rfl<|bB<|i3a<|ao<|aH<|au rfl<|bB<|i3b<|ao<|aH<|au rfl<|bB<|i3c<|aF<|aX rfl ?_
 refine ao<|dG<|ao<|bB<|ao<|aH<|au rfl<|bB<|i3a<|ao<|aH<|au rfl<|bB<|i3a<|aF<|aX rfl<|aF<|aX rfl ?_
 refine uY (vs:=[bQ ("same",[l,m]),bQ ("bunch",[l,m,o]),bQ ("on",[x,l])]) R2 (Ho rfl) (Ho rfl) (λw hw=>?_) λg3 L' R3=>nV<|cF ?_
 rcases Bg.mp hw with rfl|hw
 exact tG (ls:=["line", "line"]) (by decide) (Ho rfl) (by show[ss[l]?,ss[m]?]=_;rw[s1,s2];rfl)<|by decide
 rcases Bg.mp hw with rfl|hw
 exact tG (ls:=["line", "line", "line"]) (by decide) (Ho rfl) (by show[ss[l]?,ss[m]?,ss[o]?]=_;rw[s1,s2,s3];rfl)<|by decide
 rw[Fk.mp hw];exact tG (ls:=["spot", "line"]) (by decide) (Ho rfl) (by show[ss[x]?,ss[l]?]=_;rw[sx,s1];rfl)<|by decide
 refine dF<|cD<|aH<|au rfl<|bY<|aF<|aX rfl<|w6<|oX ?_
 refine lG (λe2=>?_)<|λe2=>?_
 have hq:0<qs.length:=RV.mpr e2;refine gR<|nC<|au rfl<|ji R3.cL<|ao<|dG<|ao<|bB<|ao<|aH<|au rfl<|bB<|i3a<|ao<|aH<|au rfl<|Aj<|bB<|rR<|ixJ (by lia) (by lia) λq hq=>?_
 refine aF<|aX rfl<|aF ?_
 refine JB (v:=bQ ("touch",[l,q])) R3 (Ho rfl) (tG (ls:=["line", "curve"]) (by decide) (Ho rfl) (by show[ss[l]?,ss[q]?]=_;rw[s1,jq.1 q hq];rfl)<|by decide) λg5 R5=>cF ?_;exact Qy hd R5 (by simp) (Ho rfl) sx jq k;exact cC<|cF<|Qy hd R3 (by simp) (Ho rfl) sx jq k
 exact cC<|cF<|Qy hd R (by simp) (Ho rfl) sx jq k
theorem gK (e:ok1 ss (bQ p)=true):p.1∈HS/\(p.2.map λn:Nat=>W.int (n:Int)).map (nth ss)=(Bl p.1).map Dn:=by
 have e:(decide (p.1∈HS)&&decide ((p.2.map λn:Nat=>W.int (n:Int)).map (nth ss)=(Bl p.1).map Dn))=true:=e;rw[GQ,decide_eq_true_eq,decide_eq_true_eq]at e;exact e
theorem qm (e:ok1 ss (bQ p)=true):(∀n∈p.2,n<ss.length)/\p.2.length=(Bl p.1).length:=by
 have e1:=(gK e).2;refine⟨λn hn=>?_,?_⟩;have h1:nth ss (.int (n:Int))∈(p.2.map λn:Nat=>W.int (n:Int)).map (nth ss):=Dy.mpr ⟨_,Dy.mpr ⟨n,hn,rfl⟩,rfl⟩;rw[e1]at h1;obtain⟨s,_,e3⟩:=Dy.mp h1;rw[yJ (Rv _),Nr]at e3;exact(HY.mp e3.symm).1;have:=congrArg Ro e1
 simpa using this
theorem Yd (hx:x∈HS):(Bl x).length<=5:=by
 unfold HS at hx;simp only[Bg,HX,or_false]at hx;rcases hx with e|e|e|e|e|e|e<;>subst e<;>decide
theorem ade (e:ok1 ss (bQ p)=true):Bk (bQ p) (.tup [.str "free"])=mJ (bQ p):=by
 have h2:=(qm e).2;obtain⟨x,ns⟩:=p;show(Bk (.str x) (.str "free")&&oh (ns.map λn:Nat=>W.int (n:Int)) [])=decide (x = "free");rw[jX];by_cases c:x = "free"
 subst c;have:ns=[]:=Ui h2
 rw[this];decide;rw[decide_eq_false c,beq_eq_false_iff_ne.mpr c];rfl
theorem aaI {ns:List Nat}:jU h (ns.map λn:Nat=>W.int (n:Int))=Dn (ns.map λn:Nat=>W.int (n:Int)):=by
 induction ns with
 | nil=>rfl
 | cons n ns ih=>
  show(match pO h (.int (n:Int)),jU h (ns.map λn:Nat=>W.int (n:Int))with
   | some d,Dn ds=>Dn (d::ds)
   | _,_=>Go)=_
  rw[ih];rfl
theorem zaR (p:Str×List Nat):uo h (bQ p)=Dn (bQ p):=by
 obtain⟨x,ns⟩:=p;show(match jU h (.str x::ns.map λn:Nat=>W.int (n:Int))with
  | some ds=>Dn (W.tup ds)
  | none=>Go)=_
 have:jU h (.str x::ns.map λn:Nat=>W.int (n:Int))=Dn (.str x::ns.map λn:Nat=>W.int (n:Int)):=by
  show(match pO h (.str x),jU h (ns.map λn:Nat=>W.int (n:Int))with
   | some d,Dn ds=>Dn (d::ds)
   | _,_=>Go)=_
  rw[aaI];rfl
 rw[this];rfl
theorem Di (p:Str×List Nat):Aw (n+2) (bQ p)=true:=by
 show((W.str p.1::p.2.map λn:Nat=>W.int (n:Int)).all (Aw (n+1)))=true;rw[Oz,GQ];refine⟨rfl,IK.mpr λw hw=>?_⟩;obtain⟨y,_,rfl⟩:=Dy.mp hw;rfl
theorem aem (e:ok1 ss (bQ p)=true)(k:Q (.bl (mJ (bQ p))) h):QT (bQ p) (.tup [.str "free"]) h Q:=by
 unfold QT;rw[zaR];show Ec (Aw 30 (bQ p)&&Aw 30 (.tup [.str "free"])) (Q (.bl (Bk (bQ p) (.tup [.str "free"]))) h) False;rw[Di,ade e];exact k
structure Ir (ts:List (Str×List Nat)):Prop where
 ok:yG (ts.map bQ) ts.length
 fr:((ts.map bQ).filter mJ).length<=7
 len:ts.length<=24
def cT (ts:List (Str×List Nat)):List Str:=(ts.map bQ).map Iz
theorem Ir.okj (d:Ir ts){j:Nat}(e:ts[j]?=Dn p):ok1 (((ts.map bQ).take j).map Iz) (bQ p)=true:=
 d.ok j (bQ p) (HY.mp e).1 (by rw[Ds,e];rfl)
theorem Ir.mem (d:Ir ts)(hp:p∈ts):∃ss,ok1 ss (bQ p)=true/\ss.length<=ts.length:=by
 obtain⟨j,hj,e⟩:=Qf hp;refine⟨_,d.okj<|(GF hj).trans (congrArg Dn e),?_⟩;rw[Ag,Ib,Ag];lia
theorem Z6 (d:Ir ts)(hv:U[i]?=Dn (Dn (.loc n)))(hn:h.c n=Dn (.lst (ts.map bQ)))(q:∀ws:List W,ws.length=((ts.map bQ).filter mJ).length->Q (.lst ws) h):
  Fq G5 [] (LQ (aG i)) (cJ (Y7 QT (aG 0) (kZ (aA (mC (.str "free")) aN)))) (aG 0) U h Q:=by
 refine jL<|rY<|au hv<|XD hn ?_
 refine jN.mk (by rw[Ag];exact Dp d.len (by decide)) ?_;refine Fo (λi acc h'=>h'=h/\acc=((ts.map bQ).take i).filter mJ) ?_ ?_ ?_ ⟨rfl,rfl⟩;rintro i acc h' ⟨rfl,_⟩ P p;exact⟨hn,p⟩;rintro i w acc h' N hN ew ⟨rfl,rfl⟩;have ew0:=ew;rw[Ds]at ew;obtain⟨p,ep,rfl⟩:=Ij.mp ew;refine⟨[bQ p],rfl,cD<|aH<|au rfl<|dG<|ao<|bB<|aF<|aX rfl<|aem (d.okj ep)<|oX ?_⟩;cases c:mJ (bQ p)with
 | true=>exact fG (au rfl (hN _ _ ⟨rfl,by rw[Lh,ew0,QF];simp[c]⟩))
 | false=>exact vA (hN _ _ ⟨rfl,by rw[Lh,ew0,QF];simp[c]⟩)
 rintro acc h' ⟨rfl,rfl⟩;rw[Li];exact q _ rfl
theorem Ir.spot {ts:List (Str×List Nat)}(h:¬(((ts.map bQ).filter mJ).length:Int)<7):("spot" : Str)∈cT ts:=by
 cases e:(ts.map bQ).filter mJ with
 | nil=>rw[e]at h;exact absurd (by decide) h
 | cons w l=>
  have hw:w∈(ts.map bQ).filter mJ:=by rw[e];exact Eb
  obtain⟨h1,h2⟩:=PL.mp hw;refine Dy.mpr ⟨w,h1,?_⟩;obtain⟨p,_,rfl⟩:=Dy.mp h1;have:p.1 = "free":=of_decide_eq_true (show decide (p.1 = "free")=true from h2)
  show uP p.1 = "spot";rw[this];rfl
theorem Ir.snoc (d:Ir ts)(hl:ts.length<24)(g:ok1 (cT ts) (bQ p)=true)(f:mJ (bQ p)=true->(((ts.map bQ).filter mJ).length:Int)<7):Ir (ts++[p]):=by
 refine⟨?_,?_,by rw[Dv];exact hl⟩;rw[Eu,Dv];have e:(ts.map bQ++[p].map bQ)[ts.length]?=Dn (bQ p):=by
  rw[Pa (by rw[Ag];exact Bm _),Ag,Nat.sub_self];rfl
 refine yG.succ (λj r hj er=>?_) e ?_;rw[QB (by rw[Ag];exact hj)]at er;have:=d.ok j r hj er
 rw[List.take_append_of_le_length (by rw[Ag];lia)];exact this;rw[List.take_append_of_le_length (by rw[Ag];exact Bm _),Oh (by rw[Ag];exact Bm _)];exact g;rw[Eu,QF,Dv];show _+([bQ p].filter mJ).length<=7;cases c:mJ (bQ p)with
 | true=>
  have h1:=f c;have:([bQ p].filter mJ).length=1:=by simp[c]
  lia
 | false=>
  have h1:=d.fr;have:([bQ p].filter mJ).length=0:=by simp[c]
  lia
structure Rws (h h':Gh) (a b:Nat) (ts:List (Str×List Nat)):Prop where
 kp:Kp h h'
 ca:h'.c a=Dn (.lst (ts.map bQ))
 cb:h'.c b=Dn (.lst ((cT ts).map .str))
 ne:a≠b
 la:h.nx<=a
 lb:h.nx<=b
 ua:a<h'.nx
 ub:b<h'.nx
 d:Ir ts
def Zb (c0:AP):Prop:=∀{h:Gh}{ns:List Int}{m:Nat}{Q:WK}{E:Ba},m<=23->(∀ts a b h',ts.length<=m+1->1<=ts.length->Rws h h' a b ts->Q (.tup [.loc a,.loc b]) h')->c0 [.kls (ns.map .int),.int 2,.int (m:Nat)] h Q E
theorem zbc {ns:List Int}:∃ms:List Int,ou (ns.map .int) (Dn 2) (Dn (2+(m:Int)))=ms.map .int/\ms.length<=m:=by
 unfold ou;refine⟨_,by rw[<-List.map_drop,<-List.map_take],?_⟩;rw[Ib];have e1:HT.sIx (ns.map W.int).length 0 (Dn 2)=min 2 (ns.map W.int).length:=by
  unfold HT.sIx;simp
 have e2:HT.sIx (ns.map W.int).length (ns.map W.int).length (Dn (2+(m:Int)))=min (2+m) (ns.map W.int).length:=by
  unfold HT.sIx;simp;rw[if_neg (by lia)];lia
 rw[e1,e2];lia
variable {hi lo:Option Int}
theorem KD (x:Q (.lst (ou ws lo hi)) h):qL (.kls ws) lo hi h Q:=x
theorem adX {c0 c2:AP}(hb:Qg c0)(hr:YG c1)(hs:Ze c2):Zb (sU c0 c1 c2):=by
 intro h ns m Q E hm k;unfold sU;refine mO rfl (U:=[Dn<|.kls<|ns.map .int,Dn<|.int 2,Dn<|.int (m:Nat),Go,Go,Go,Go]) rfl ?_;refine aL<|aV<|gQ (λR=>rfl) rfl λg1 gc1 go1 gn1=>?_
 refine nV<|cF ?_
 refine aL<|aV<|gQ (λR=>rfl) rfl λg2 gc2 go2 gn2=>?_
 refine nV<|cF ?_
 have d0:Ir []:=⟨λj r hj _=>absurd hj (RB _),by decide,by decide⟩
 have two0:Rws h g2 h.nx g1.nx []:=by
  refine⟨⟨by lia,λm hm=>?_⟩,?_,gc2,by lia,Bm _,by lia,by lia,by lia,d0⟩;rw[go2 m (by lia),go1 m (by lia)];rw[go2 _ (by lia)];exact gc1
 generalize h.nx=a at *;generalize g1.nx=b at *;obtain⟨ms,em,lm⟩:=zbc (ns:=ns) (m:=m);refine aL<|vI<|rY<|aH<|j9<|au rfl<|dM<|au rfl<|uO<|dM<|aH<|au rfl<|au rfl<|j5<|uO ?_
 refine KD ?_;rw[em];refine bY<|ao<|bB<|aF<|aX rfl<|W5 (by rw[Ag];show _+1<=1000;lia)<|HN rfl<|rF ?_
 have e3:(ms.map W.int++[W.int 3])=(ms++[3]).map W.int:=by rw[Eu];rfl
 rw[e3];refine pB (λi U h'=>∃ts a5 a6,ts.length=i/\U=[Dn<|.kls<|ns.map .int,Dn<|.int 2,Dn<|.int (m:Nat),Dn<|.loc a,Dn<|.loc b,a5,a6]/\Rws h h' a b ts) ?_ ?_ ⟨[],Go,Go,rfl,rfl,two0⟩;rintro i w U h' N hN e ⟨ts,a5,a6,tl,rfl,R⟩;have hi:i<((ms++[3]).map W.int).length:=(HY.mp e).1;rw[Ag,Dv]at hi;have hi:i<ms.length+1:=hi;rw[Ds]at e;obtain⟨x,ex,rfl⟩:=Ij.mp e;refine nV<|aL<|aV<|bD<|ao<|bD<|ao<|au rfl<|aF<|hb λh1 bf n1 o1=>?_
 obtain⟨bg,ebg⟩:∃bg,bg=h'.nx:=⟨_,rfl⟩
 rw[<-ebg]at bf n1 o1|-
 have ua:a<bg:=by rw[ebg];exact R.ua
 have ub:b<bg:=by rw[ebg];exact R.ub
 have k0:h.nx<=bg:=by rw[ebg];exact R.kp.1
 have ca1:h1.c a=Dn (.lst (ts.map bQ)):=(o1 a (Cg ua)).trans R.ca;have cb1:h1.c b=Dn (.lst ((cT ts).map .str)):=(o1 b (Cg ub)).trans R.cb;refine ao<|au rfl<|ao<|fY<|ao<|Z6 R.d rfl ca1 λws wl=>aF<|eV (xs:=ws) rfl<|aF ?_
 rw[wl];refine hr bf cb1 (by rw[n1];exact PX _) (by unfold cT;rw[Ag,Ag];exact R.d.len) ?_ λw h2 gd bg2 gr2=>nV<|cF ?_
 by_cases c:(((ts.map bQ).filter mJ).length:Int)<7
 exact .inl c;exact .inr<|Ir.spot c
 obtain⟨p,rfl,g1',g2'⟩:=gd;have na:a≠bg:=Cg ua;have nb:b≠bg:=Cg ub;have ca2:h2.c a=Dn (.lst (ts.map bQ)):=(gr2.2 a (by rw[n1];exact Nat.lt_succ_of_lt ua) na).trans ca1;have cb2:h2.c b=Dn (.lst ((cT ts).map .str)):=(gr2.2 b (by rw[n1];exact Nat.lt_succ_of_lt ub) nb).trans cb1;have nx2:bg+1<=h2.nx:=by have:=gr2.1;rw[n1]at this;exact this
 have kp2:Kp h h2:=by
  refine⟨by lia,λq hq=>?_⟩;have h0:q<bg:=by lia
  rw[gr2.2 q (by lia) (by lia),o1 q (by lia),R.kp.2 q hq]
 have tl2:ts.length<24:=by lia
 refine aL<|gR<|nC<|au rfl<|ji ca2<|ao<|au rfl<|aF<|CT ca2 (by rw[Ag];lia) λg3 gc3 go3 gn3=>cF ?_
 have cb3:g3.c b=Dn (.lst ((cT ts).map .str)):=(go3 b (HF R.ne)).trans cb2;refine gR<|nC<|au rfl<|ji cb3<|ao<|bD<|ao<|aH<|au rfl<|bB<|cV (ws:=.str p.1::p.2.map λn:Nat=>.int n) (w:=.str p.1) rfl (bJ (j:=0) rfl)<|aF<|hs λh4 n4=>aF ?_
 have lb2:b<g3.nx:=by rw[gn3];lia
 have la2:a<g3.nx:=by rw[gn3];lia
 have cb4:h4.c b=Dn (.lst ((cT ts).map .str)):=(n4.1 b (Cg lb2)).trans cb3;refine CT cb4 (by unfold cT;rw[Ag,Ag,Ag];lia) λg5 gc5 go5 gn5=>cF<|hN _ _ ⟨ts++[p],_,_,by rw[Dv,tl];rfl,rfl,⟨?_,?_,?_,R.ne,R.la,R.lb,by rw[gn5,n4.2];lia,by rw[gn5,n4.2];lia,R.d.snoc tl2 g1' g2'⟩⟩
 refine⟨by rw[gn5,n4.2,gn3];have:=kp2.1;lia,λq hq=>?_⟩;have:=R.la
 have:=R.lb
 have q3:q<g3.nx:=by rw[gn3];have:=kp2.1;lia
 rw[go5 q (by lia),n4.1 q (Cg q3),go3 q (by lia),kp2.2 q hq];rw[go5 a R.ne,n4.1 a (Cg la2),gc3,Eu];rfl;rw[gc5];unfold cT;rw[Eu,Eu,Eu];rfl;rintro U h' ⟨ts,a5,a6,tl,rfl,R⟩;rw[Ag,Dv]at tl;have tl:ts.length=ms.length+1:=tl;unfold rQ;exact cF<|dU<|dG<|ao<|au rfl<|ao<|au rfl<|aF<|aX rfl<|k ts a b h' (by lia) (by lia) R
theorem yF:∀ns:List Nat,oh (ns.map λn:Nat=>W.int (n:Int)) (ns.map λn:Nat=>W.int (n:Int))=true
 | []=>rfl
 | n::ns=>by
  show(Bk (.int (n:Int)) (.int (n:Int))&&oh _ _)=true;rw[yF ns,o7,beq_self_eq_true];rfl
theorem CQ (p:Str×List Nat):Bk (bQ p) (bQ p)=true:=by
 show(Bk (.str p.1) (.str p.1)&&oh _ _)=true;rw[yF,jX,beq_self_eq_true];rfl
theorem yX:∀ts:List (Str×List Nat),oh (ts.map bQ) (ts.map bQ)=true
 | []=>rfl
 | p::ts=>by
  show(Bk (bQ p) (bQ p)&&oh _ _)=true;rw[yX ts,CQ];rfl
theorem zaE (ts:List (Str×List Nat)):Aw (n+3) (.lst (ts.map bQ))=true:=by
 show((ts.map bQ).all (Aw (n+2)))=true;refine IK.mpr λw hw=>?_;obtain⟨p,_,rfl⟩:=Dy.mp hw;exact Di p
theorem xP (e:h.c n=Dn (.lst us)):pO h (.loc n)=Dn (.lst us):=by
 show(match h.c n with
  | some (.lst ws)=>Dn (W.lst ws)
  | _=>Go)=_
 rw[e]
theorem Uh {x y z a b c:W}(e1:pO h x=Dn a)(e2:pO h y=Dn b)(e3:pO h z=Dn c):jU h [x,y,z]=Dn [a,b,c]:=by
 simp only[jU,e1,e2,e3]
theorem Dg (p:Str×List Nat):pO h (bQ p)=Dn (bQ p):=rfl
theorem zaL {x y z x' y' z' a b c:W}(e1:pO h x=Dn a)(e2:pO h y=Dn b)(e3:pO h z=Dn c)(f1:pO h x'=Dn a)(f2:pO h y'=Dn b)(f3:pO h z'=Dn c)
  (p1:Aw 29 a=true) (p2:Aw 29 b=true) (p3:Aw 29 c=true) (q1:Bk a a=true) (q2:Bk b b=true) (q3:Bk c c=true) (k:Q (.bl false) h):Ul (.tup [x,y,z]) (.tup [x',y',z']) h Q:=by
 have d1:uo h (.tup [x,y,z])=Dn (.tup [a,b,c]):=by
  show(match jU h [x,y,z]with
   | some ds=>Dn (W.tup ds)
   | none=>Go)=_
  rw[Uh e1 e2 e3]
 have d2:uo h (.tup [x',y',z'])=Dn (.tup [a,b,c]):=by
  show(match jU h [x',y',z']with
   | some ds=>Dn (W.tup ds)
   | none=>Go)=_
  rw[Uh f1 f2 f3]
 have pp:Aw 30 (.tup [a,b,c])=true:=by
  show([a,b,c].all (Aw 29))=true;simp[p1,p2,p3]
 have qq:Bk (.tup [a,b,c]) (.tup [a,b,c])=true:=by
  show(Bk a a&&(Bk b b&&(Bk c c&&true)))=true;rw[q1,q2,q3];rfl
 unfold Ul;rw[d1,d2];show Ec (Aw 30 (.tup [a,b,c])&&Aw 30 (.tup [a,b,c])) (Q (.bl (!Bk (.tup [a,b,c]) (.tup [a,b,c]))) h) False;rw[pp,qq];exact k
theorem acS (a:List Str):Bk (.lst (a.map .str)) (.lst (a.map .str))=true:=by
 show oh (a.map .str) (a.map .str)=true;rw[abG];exact decide_eq_true rfl
theorem Wr {vs:List W}(e:h.c n=Dn (.lst us))(hz:us.length+vs.length<=1000)(k:Q (.lst (us++vs)) h):cM (.loc n) (.lst vs) h Q:=by
 show(match Gx h (.loc n),Gx h (.lst vs)with
  | some a,Dn b=>jN (a.length+b.length) (Q (.lst (a++b)) h)
  | _,_=>False)
 have e1:Gx h (.loc n)=Dn us:=by
  show(match h.c n with
   | some (.lst ws)=>Dn ws
   | _=>Go)=_
  rw[e]
 rw[e1];exact jN.mk (Dp hz<|by decide) k
structure CV (nms:List Str) (ts:List (Str×List Nat)) (cl:Str×List Nat):Prop where
 nm:Jh nms ts.length
 d:Ir ts
 l1:1<=ts.length
 c1:cl.1∈Jw
 c2:Nb (cT ts) (bQ cl)=true
 c3:cl.2.length<=3
 c4:∀n∈cl.2,n<ts.length
theorem yw (hx:x∈HS):Wk x/\x.length<=8:=by
 unfold HS at hx;simp only[Bg,HX,or_false]at hx;rcases hx with e|e|e|e|e|e|e<;>subst e<;>exact⟨⟨by decide +kernel,by decide +kernel⟩,by decide⟩
theorem Ca (hx:x∈Jw):Wk x/\x.length<=8:=by
 unfold Jw at hx;simp only[Bg,HX,or_false]at hx;rcases hx with e|e|e|e|e|e<;>subst e<;>exact⟨⟨by decide +kernel,by decide +kernel⟩,by decide⟩
section
theorem Ir.ahd (d:Ir ts):Ahd ts:=by
 intro i p e;have o:=d.okj e;refine⟨(yw (gK o).1).1,λn hn=>?_⟩;have:=(qm o).1 n hn
 rw[Ag,Ib,Ag]at this;lia
theorem Ir.sz (d:Ir ts):∀p∈ts,Sz p/\∀n∈p.2,n<ts.length:=by
 intro p hp;obtain⟨ss,o,hl⟩:=d.mem hp;obtain⟨n1,n2⟩:=qm o;have:=Yd (gK o).1
 exact⟨⟨(yw (gK o).1).2,by lia⟩,λn hn=>Df (n1 n hn) hl⟩
theorem CV.csz (t:CV nms ts cl):Sz cl:=⟨(Ca t.c1).2,Dp t.c3 (by decide)⟩
theorem CV.drw (t:CV nms ts cl):Drw (ts.map bQ):=by
 refine⟨by rw[Ag];exact t.l1,by rw[Ag];exact t.d.len,?_,t.d.fr⟩;rw[Ag];exact t.d.ok
theorem CV.okD (t:CV nms ts cl):okD (ts,nms) cl:=⟨t.drw,t.c2⟩
theorem CV.len (t:CV nms ts cl):(txD nms ts cl).length<=2000:=by
 have ll:=qe (nms:=nms) (ns:=nms) (ps:=ts) t.nm.len;have:=mH (y := "; ") (B:=72) (ps:=(Jd nms nms ts++[("claim" : Str)::wn nms cl]).map (Bc " ")) λp hp=>by
  obtain⟨l,hl,rfl⟩:=Dy.mp hp;rcases Fv.mp hl with hl|hl
  exact Lg t.nm t.d.sz l hl;rw[Fk.mp hl];exact J3 t.nm t.csz t.c4
 rw[Ag,Dv,ll,Oe]at this;have e1:("; " : Str).length=2:=rfl;rw[e1]at this;have:=t.d.len
 unfold txD;lia
end
def Tx (ls:List (List Str)):Str:=Bc "; " (ls.map (Bc " "))
def Bad (ls:List (List Str)):Prop:=∀init last s c,ls=init++[last]->Ht ([],[]) init=Dn s->Mq s last=Dn c->¬okD s c
def wM (x:Str):Prop:=x.length<=99000/\Bad (gD x)
def M9 (ls:List (List Str)):Prop:=∀l∈ls,l≠[]/\∀w∈l,Wk w
theorem M9.app {a b:List (List Str)}(x:M9 a)(y:M9 b):M9 (a++b):=λl hl=>(Fv.mp hl).elim (x l) (y l)
theorem M9.one (h0:l≠[])(h:∀w∈l,Wk w):M9 [l]:=λl' hl=>by rw[Fk.mp hl];exact⟨h0,h⟩
theorem Gp (h0:ls≠[])(h:M9 ls)(hz:(Tx ls).length<=99000)(b:Bad ls):wM (Tx ls):=⟨hz,by unfold Tx;rw[DP h0 h];exact b⟩
variable {last:List Str}
theorem tY {a b:List (List Str)}(e:Ht ([],[]) a=Dn s)(n:Jv s l=Go):Bad ((a++l::b)++[last]):=λinit la s' c h1 h2 _ _=>by
 obtain⟨e1,_⟩:=TQ h1 rfl;subst e1;have:=Fg (ls:=a++l::b) (st:=([],[])) (i:=a.length) (l:=l) (s:=s) (by rw[List.take_left];exact e) (by simp) n
 rw[this]at h2;cases h2
theorem sO {a:List (List Str)}(e:Ht ([],[]) a=Dn s)(n:∀c,Mq s last=Dn c->¬okD s c):Bad (a++[last]):=λinit la s' c h1 h2 h3=>by
 obtain⟨e1,e2⟩:=TQ h1 rfl;subst e1;cases e2;rw[e]at h2;cases h2;exact n c h3
theorem Br:Bad [last]:=sO (a:=[]) rfl λc _ z=>absurd z.1.1 (by decide)
theorem zY (ls:List (List Str)):cs (Tx ls)=oA (ls.map λl=>glue 32 (l.map cs)):=by
 have e:Tx ls=MF "; " (ls.map (Bc " ")):=RP "; " _;rw[e,sI,Lx];congr 1
 exact PJ λl _=>cQ l
theorem rJ {l:List Nat}:∀{ls:List (List Nat)},oA (ls++[l])=(ls.map λx=>x++[59,32]).flatten++l
 | []=>rfl
 | [p]=>by
  show p++59::32::l=[p++[59,32]].flatten++l;rw[List.flatten_singleton,GR];rfl
 | p::q::ls=>by
  show p++59::32::oA ((q::ls)++[l])=_;rw[rJ (ls:=q::ls)];show _=((p++[59,32])::((q::ls).map λx=>x++[59,32])).flatten++l;rw[List.flatten_cons,GR,GR];rfl
theorem uh:cs (Tx (ls++[l]))=(ls.map λx=>cs (Bc " " x)++[59,32]).flatten++cs (Bc " " l):=by
 rw[zY,Eu];show oA (_++[_])=_;rw[rJ,Lx,cQ];congr 2
 exact PJ λx _=>by rw[cQ];rfl
theorem zaC (h:l≠[]): " "++Tx (l::ls)=Tx ((""::l)::ls):=by
 refine eX ?_;rw[bV,zY,zY,Jf,Jf,Jf];cases l with
 | nil=>exact absurd rfl h
 | cons w l=>
  cases ls with
  | nil=>rfl
  | cons m ls=>rfl
theorem aaP (h:l≠[]):Tx (ls++[l]) ++ " " = Tx (ls++[l++[("" : Str)]]):=by
 refine eX ?_;rw[bV,uh,uh,gH h,bV,bV,GR,GR];rfl
theorem zbG:Tx (ls++[l]) ++ "; " = Tx ((ls++[l])++[[("" : Str)]]):=by
 refine eX ?_;rw[bV,uh,uh,Eu,List.flatten_append,GR,GR];congr 1
 show _=[_].flatten++[];rw[List.flatten_singleton,RD];rfl
theorem zN (x:Str):Nk x "; " ";" = MF ";" (Fz x "; "):=by
 have h10:(("; " : Str).length==0)=false:=rfl;unfold Nk;rw[h10,Bool.false_and,Bool.or_false];cases he:(Builtin.Str.occurrences x "; " 0 x.length (x.length+1)).isEmpty
 rw[if_neg Jm,RP];have hk:¬PK x<1:=by
  unfold PK;split
  decide;split<;>decide
 have hl:¬x.length<2:=by
  rcases PySem.StrLaws.occ_head x "; " (x.length+1) (Nat.le_add_left _ _)with⟨z,_⟩|⟨i,r,_,z,_⟩
  rw[z]at he;cases he;have:=z.1
  have e:("; " : Str).length=2:=rfl;lia
 have hc:(decide (x.length<("; " : Str).length)||decide (PK x<PK "; "))=false:=by
  rw[show("; " : Str).length=2 from rfl,show PK "; " = 1 by decide +kernel,decide_eq_false hl,decide_eq_false hk];rfl
 unfold Fz;rw[hc,he,if_neg Jm,if_neg Jm];rw[if_pos rfl];unfold Fz;split
 rfl;rfl
def No2 (l:List Nat):Prop:=∀k r,l.drop k≠59::32::r
theorem No2.free {l:List Nat}(h:59∉l):No2 l:=λk r e=>h (S6 (i:=k) (by rw[e];exact Eb))
theorem No2.app {a b:List Nat}(ha:59∉a)(hb:b.head?≠Dn 32)(n:No2 b):No2 (a++59::b):=by
 intro k r e;rcases Nat.lt_trichotomy k a.length with q|q|q
 rw[List.drop_append_of_le_length (PB q),RN q]at e;injection e with e1 _
 exact ha<|e1 ▸ OJ q
 subst q;rw[List.drop_left]at e;injection e with _ e2
 rw[e2]at hb;exact hb rfl;obtain⟨j,rfl⟩:∃j,k=a.length+(j+1):=⟨k-a.length-1,by lia⟩
 rw[List.drop_append]at e;rw[List.drop_eq_nil_of_le (by lia),RJ,show a.length+(j+1)-a.length=j+1 by lia,List.drop_succ_cons]at e;exact n j r e
theorem xV:∀{ps:List (List Nat)},(∀p∈ps,59∉p/\p.head?≠Dn 32)->No2 (glue 59 ps)/\(glue 59 ps).head?≠Dn 32
 | [],_=>⟨λk r e=>by simp[glue]at e,by simp[glue]⟩
 | [p],h=>⟨.free (h p Eb).1,(h p Eb).2⟩
 | p::q::ps,h=>by
  obtain⟨n,hd⟩:=xV (ps:=q::ps) λr hr=>h r (Hj _ hr)
  obtain⟨h1,h2⟩:=h p Eb;refine⟨.app h1 hd n,?_⟩;rw[glue];cases p with
  | nil=>simp
  | cons c p=>exact h2
theorem abY (n:No2 (cs x)):Fz x "; " = [x]:=by
 rw[xX,lV n];show[tx (cs x)]=_;rw[wH]
theorem abE (h0:ls≠[])(h:M9 ls)(hw:∀l∈ls,∀w,l.head?=Dn w->w ≠ "")(hz:(Nk (Tx ls) "; " ";").length<=99000):wM (Nk (Tx ls) "; " ";"):=by
 refine⟨hz,?_⟩;have e:Fz (Tx ls) "; " = ls.map (Bc " "):=kO (by simpa using h0) λp hp=>by
  obtain⟨l,hl,rfl⟩:=Dy.mp hp;exact jC λw hw=>((h l hl).2 w hw).2
 have e2:cs (Nk (Tx ls) "; " ";")=glue 59 ((ls.map (Bc " ")).map cs):=by
  rw[zN,e];exact qx (c:=59) _
 unfold gD;rw[abY (by
  rw[e2];refine(xV λp hp=>?_).1;obtain⟨y,hy,rfl⟩:=Dy.mp hp;obtain⟨l,hl,rfl⟩:=Dy.mp hy;refine⟨jC λw hw=>((h l hl).2 w hw).2,?_⟩;rw[cQ];cases l with
  | nil=>exact absurd rfl (h _ hl).1
  | cons w l=>
   have n:=hw _ hl w rfl;have b:=((h _ hl).2 w Eb).1;have key:∃c r,cs w=c::r:=by
    cases q:cs w with
    | nil=>exact absurd (eX (q.trans (by decide +kernel))) n
    | cons c r=>exact⟨c,r,rfl⟩
   obtain⟨c,r,q⟩:=key;rw[q]at b;have hc:c≠32:=λz=>b (by rw[z];exact Eb)
   cases l with
   | nil=>rw[Jf,List.map_nil,glue,q];simpa using hc
   | cons v l=>rw[Jf,Jf,glue,q];simpa using hc)]
 exact Br
theorem at5 {n rest:List Nat}(hx:cs x=n++32::102::114::101::101::rest):PySem.StrLaws.At x " free" x.length n.length:=by
 have hl:(" free" : Str).length=5:=rfl;have hc:(" free" : Str).cps.toList=[32,102,114,101,101]:=by decide +kernel
 unfold StrLaws.At;rw[PySem.StrLaws.subAt_eq,hl,hc,beq_iff_eq,<-cN];show _/\((cs x).drop n.length).take 5=_;rw[hx,List.drop_left];refine⟨?_,rfl⟩;simp only[Dv,Ea];lia
theorem adv (a:PySem.StrLaws.At x " free" x.length k):(cs x)[k]?=Dn 32:=by
 have hl:(" free" : Str).length=5:=rfl;have hc:(" free" : Str).cps.toList=[32,102,114,101,101]:=by decide +kernel
 unfold StrLaws.At at a;rw[PySem.StrLaws.subAt_eq,hl,hc,beq_iff_eq]at a;have h:((cs x).drop k).take 5=[32,102,114,101,101]:=a.2;have:((cs x).drop k)[0]?=Dn 32:=by
  match e:(cs x).drop k with
  | []=>rw[e]at h;simp at h
  | c::r=>rw[e]at h;simp at h;rw[h.1];rfl
 rw[List.getElem?_drop]at this;exact this
theorem abS {n rest:List Nat}(hx:cs x=n++32::102::114::101::101::rest)(hn:32∉n):cs (rep1 x " free" " free ")=n++32::102::114::101::101::32::rest:=by
 have A:=at5 hx;rcases PySem.StrLaws.occ_head x " free" 1 (Bm _)with⟨_,z⟩|⟨i,r,e,a,lo⟩
 exact absurd A<|z _
 have hi:i=n.length:=by
  rcases Nat.lt_trichotomy i n.length with q|q|q
  have:=adv a
  rw[hx,QB q]at this;exact absurd (GK this) hn;exact q;exact absurd A<|lo _ q
 have hr:r=[]:=by
  have:=PySem.StrLaws.occ_length_le x " free" 0 x.length 1
  rw[e,Ea]at this;exact Ui<|by lia
 subst hi hr;have hl:x.length=(cs x).length:=(cN x).symm;unfold rep1;have hz:([n.length].isEmpty||((" free" : Str).length==0&&(" free " : Str).length==0))=false:=rfl;rw[e,hz,if_neg Jm];have h1:cs (Qe x 0 n.length)=n:=by
  rw[yI,kW,List.drop_zero,Rp,hx,List.take_left]
 have h2:cs (Qe x (n.length+5) x.length)=rest:=by
  rw[yI,kW,hl,hx,show n++32::102::114::101::101::rest=(n++[32,102,114,101,101])++rest by simp,show n.length+5=(n++[32,102,114,101,101]).length by simp,List.drop_left,Oh (by rw[Dv];lia)]
 show cs (⟨(Qe x 0 n.length).cps++(" free " : Str).cps++(Qe x (n.length+5) x.length).cps⟩:Str)=_;have hc:(" free " : Str).cps.toList=[32,102,114,101,101,32]:=by decide +kernel
 show((Qe x 0 n.length).cps++(" free " : Str).cps++(Qe x (n.length+5) x.length).cps).toList=_;rw[Array.toList_append,Array.toList_append,hc,show(Qe x 0 n.length).cps.toList=n from h1,show(Qe x (n.length+5) x.length).cps.toList=rest from h2,GR];rfl
theorem acJ {n:Str}(hn:Wk n):rep1 (Tx ([n, "free"]::l::ls)) " free" " free " = Tx ([n, "free", ""]::l::ls):=by
 have hf:cs ("free" : Str)=[102,114,101,101]:=by decide +kernel
 refine eX ?_;rw[abS (n:=cs n) (rest:=59::32::oA ((l::ls).map λl=>glue 32 (l.map cs))) ?_ hn.1,zY];show _=(cs n++32::(cs ("free" : Str)++32::[]))++59::32::_;rw[hf,GR];rfl;rw[zY];show(cs n++32::cs ("free" : Str))++59::32::_=_;rw[hf,GR];rfl
theorem ql (h:∀l∈ls,(Bc " " l).length<=300)(hl:ls.length<=300):(Tx ls).length<=99000:=by
 have:=mH (y := "; ") (B:=300) (ps:=ls.map (Bc " ")) λp hp=>by
  obtain⟨l,hl,rfl⟩:=Dy.mp hp;exact h l hl
 rw[Ag,show("; " : Str).length=2 from rfl]at this;have h2:=Ry (300+2) hl;unfold Tx;lia
section
abbrev Ls (nms:List Str)(ts:List (Str×List Nat)):List (List Str):=Jd nms nms ts
abbrev Cl (nms:List Str)(cl:Str×List Nat):List Str:=("claim" : Str)::wn nms cl
theorem CV.lL (t:CV nms ts cl):M9 (Ls nms ts):=JG t.nm t.d.ahd
theorem CV.lC (t:CV nms ts cl):M9 [Cl nms cl]:=.one (G7 _ _) (Rz t.nm (Ca t.c1).1 t.c4).2
theorem CV.zL (t:CV nms ts cl):∀l∈Ls nms ts,(Bc " " l).length<=72:=Lg t.nm t.d.sz
theorem CV.zC (t:CV nms ts cl):(Bc " " (Cl nms cl)).length<=72:=J3 t.nm t.csz t.c4
theorem CV.ll (t:CV nms ts cl):(Ls nms ts).length=ts.length:=qe t.nm.len
theorem CV.pre (t:CV nms ts cl)(hi:i<=ts.length):Ht ([],[]) ((Ls nms ts).take i)=Dn (ts.take i,nms.take i):=FJ t.nm t.d.ahd i hi
theorem CV.all (t:CV nms ts cl):Ht ([],[]) (Ls nms ts)=Dn (ts,nms):=wB t.nm t.d.ahd
theorem CV.first (t:CV nms ts cl):∃n0 ns L',nms=n0::ns/\Ls nms ts=[n0, "free"]::L'/\Jc (cs n0)=true/\(cT ts)[0]?=Dn ("spot" : Str):=by
 have N:=t.nm;have d:=t.d;have l1:=t.l1;cases ts with
 | nil=>cases l1
 | cons p ts=>
  cases nms with
  | nil=>cases N.len
  | cons n0 ns=>
   have o:=d.okj (j:=0) (p:=p) rfl;obtain⟨h1,h2⟩:=qm o;have e0:p.2=[]:=by
    cases q:p.2 with
    | nil=>rfl
    | cons n l=>exact absurd (h1 n (by rw[q];exact Eb)) (RB _)
   have e:(Bl p.1).length=0:=by rw[<-h2,e0];rfl
   have hx:=(gK o).1;have ef:p.1 = "free":=by
    unfold HS at hx;simp only[Bg,HX,or_false]at hx;rcases hx with z|z|z|z|z|z|z<;>first|exact z|(rw[z]at e;exact absurd e (by decide))
   refine⟨n0,ns,Jd (n0::ns) ns ts,rfl,?_,N.nm n0 Eb,?_⟩;show(n0::wn (n0::ns) p)::_=_;unfold wn;rw[e0,ef];rfl;show Dn (Iz (bQ p))=_;show Dn (uP p.1)=_;rw[ef];decide +kernel
theorem RG (h:Jc (cs x)=true):x ≠ "":=λe=>by
 rw[e]at h;exact absurd h<|by decide +kernel
theorem CV.way0 (t:CV nms ts cl):wM (" "++Tx (Ls nms ts++[Cl nms cl])):=by
 obtain⟨n0,ns,L',_,e,hn,_⟩:=t.first
 have l1:=t.lL;have z1:=t.zL;have ll:=t.ll;have h24:=t.d.len;rw[e]at l1 z1 ll;rw[e,Mi,zaC (G7 _ _)];refine Gp (by simp) ?_ (ql ?_ ?_)<|tY (a:=[]) (b:=L') (s:=([],[])) rfl<|jk λz=>absurd z.1<|by decide +kernel
 refine M9.app (a:=(""::[n0, "free"])::L') (λl hl=>?_) t.lC;rcases Bg.mp hl with rfl|hl
 refine⟨G7 _ _,λw hw=>?_⟩;rcases Bg.mp hw with rfl|hw
 exact⟨by decide +kernel,by decide +kernel⟩;exact(l1 _ Eb).2 w hw;exact l1 l<|Hj _ hl
 intro l hl;rcases Bg.mp hl with rfl|hl
 rw[cj (G7 _ _),GJ,GJ];have:=z1 _ Eb
 have e1:("" : Str).length=0:=rfl;have e2:(" " : Str).length=1:=rfl;lia;rcases Fv.mp hl with hl|hl
 exact Dp (z1 l<|Hj _ hl)<|by decide
 rw[Fk.mp hl];exact Dp t.zC (by decide);simp only[Ea,Dv,Pz]at ll|-
 lia
theorem CV.okA (t:CV nms ts cl):M9 (Ls nms ts++[Cl nms cl]):=t.lL.app t.lC
theorem CV.zA (t:CV nms ts cl)(h:l∈Ls nms ts\/l=Cl nms cl):(Bc " " l).length<=300:=by
 rcases h with h|h
 exact Dp (t.zL l h)<|by decide
 rw[h];exact Dp t.zC (by decide)
theorem wkE:Wk "":=⟨by decide +kernel,by decide +kernel⟩
theorem CV.way1 (t:CV nms ts cl):wM (Tx (Ls nms ts++[Cl nms cl]) ++ " "):=by
 have ll:=t.ll;have h24:=t.d.len;rw[aaP (G7 _ _)];refine Gp (by simp) (t.lL.app<|.one (by simp) λw hw=>?_) (ql (λl hl=>?_) ?_)<|sO t.all λc hc _=>?_
 rcases Fv.mp hw with hw|hw
 exact(t.lC _ Eb).2 w hw;rw[Fk.mp hw];exact wkE;rcases Fv.mp hl with hl|hl
 exact t.zA<|.inl hl
 have e:=gH (l:=Cl nms cl) (y := "") (G7 _ _);rw[Fk.mp hl,e,GJ,GJ];have:=t.zC
 have e1:("" : Str).length=0:=rfl;have e2:(" " : Str).length=1:=rfl;lia;rw[Dv,ll,Oe];lia;have e:Mq (ts,nms) (Cl nms cl++[("" : Str)])=Go:=za (st:=(ts,nms)) (c := "claim") (x:=cl.1) (ys:=(cl.2.map λn=>nms.getD n "")++[("" : Str)]) λz=>by
  have:=z.2 "" (Ml _ Eb)
  exact RG (t.nm.nm _ this) rfl
 rw[e]at hc;cases hc
theorem CV.way2 (t:CV nms ts cl):wM (Nk (Tx (Ls nms ts++[Cl nms cl])) "; " ";"):=by
 refine abE (by simp) t.okA (λl hl w hw=>?_) ?_;rcases Fv.mp hl with hl|hl
 obtain⟨i,hi,e⟩:=Qf hl;obtain⟨n,p,en,ep,rfl⟩:=mU ((GF hi).trans (congrArg Dn e));cases hw;exact RG<|t.nm.nm _<|GK en
 rw[Fk.mp hl]at hw;cases hw;exact λz=>absurd (congrArg cs z)<|by decide +kernel
 rw[zN];have hp:∀p∈Fz (Tx (Ls nms ts++[Cl nms cl])) "; ",p.length<=2000:=λp hp=>Dp (oV hp) t.len
 have e:Fz (Tx (Ls nms ts++[Cl nms cl])) "; " = (Ls nms ts++[Cl nms cl]).map (Bc " "):=kO (by simp) λp hp=>by
  obtain⟨l,hl,rfl⟩:=Dy.mp hp;exact jC λw hw=>((t.okA l hl).2 w hw).2
 have:=mH (y := ";") hp
 rw[show Bc ";" (Fz (Tx (Ls nms ts++[Cl nms cl])) "; ")=MF ";" (Fz (Tx (Ls nms ts++[Cl nms cl])) "; ")from RP ";" _]at this;have el:(Fz (Tx (Ls nms ts++[Cl nms cl])) "; ").length=ts.length+1:=by rw[e,Ag,Dv,t.ll,Oe]
 rw[el,show(";" : Str).length=1 from rfl]at this;have h24:=t.d.len;have:=Ry (2000+1) (show ts.length+1<=25 by lia)
 lia
theorem zaK (h:x∉Jw):Nb ss (bQ (x,js))=false:=by
 show(M6 x).any _=false;rw[CJ h];rfl
theorem zbw (h:x∈HS):x∉Jw:=by
 unfold HS at h;simp only[Bg,HX,or_false]at h;rcases h with e|e|e|e|e|e|e<;>subst e<;>decide +kernel
theorem oJ {c:Str×List Nat}(h:Mq s (x::y::ys)=Dn c):x = "claim"/\(∀y∈ys,y∈s.2)/\c=(y,ys.map (qQ s.2)):=by
 by_cases z:x = "claim"/\∀y∈ys,y∈s.2
 rw[wD z]at h;cases h;exact⟨z.1,z.2,rfl⟩;rw[za z]at h;cases h
theorem CV.way3 (t:CV nms ts cl):wM (Tx (Ls nms ts)):=by
 have ll:=t.ll;have h24:=t.d.len;have l1:=t.l1;refine Gp (λz=>?_) t.lL (ql (λl hl=>t.zA<|.inl hl) (by rw[ll];lia)) λinit last s c e1 e2 e3 z=>?_;rw[z]at ll;have:0=ts.length:=ll
 lia;have hl:(Ls nms ts)[init.length]?=Dn last:=by rw[e1];simp
 obtain⟨n,p,en,ep,rfl⟩:=mU hl;obtain⟨_,_,rfl⟩:=oJ e3;obtain⟨ss,o,_⟩:=t.d.mem (GK ep);have:=z.2
 rw[zaK (zbw (gK o).1)]at this;cases this
theorem CV.c0 (t:CV nms ts cl):cl.2≠[]:=λz=>by
 have h:=t.c2;have h1:=t.c1;obtain⟨x,js⟩:=cl;cases z;have h:((M6 x).any λd=>decide (([]:List (Option Str))=d.map Dn))=true:=h;unfold Jw at h1;simp only[Bg,HX,or_false]at h1;rcases h1 with e|e|e|e|e|e<;>(have e:x=_:=e;subst e;exact absurd h (by decide +kernel))
theorem CV.way4 (t:CV nms ts cl):wM (Tx (Cl nms cl::Ls nms ts)):=by
 have ll:=t.ll;have h24:=t.d.len;have l1:=t.l1;refine Gp (by simp) (M9.app (a:=[_]) t.lC t.lL) (ql (λl hl=>t.zA<|(Bg.mp hl).elim .inr .inl) (by rw[Ea,ll];lia)) ?_;have n:Jv ([],[]) (Cl nms cl)=Go:=jk λz=>by
  have:=t.c0
  cases q:cl.2 with
  | nil=>exact this q
  | cons k l=>exact absurd (z.2.2 (nms.getD k "") (Dy.mpr ⟨k,by rw[q];exact Eb,rfl⟩)) HX
 obtain⟨b,last,e⟩:∃b last,Ls nms ts=b++[last]:=by
  refine⟨_,_,(List.dropLast_concat_getLast (l:=Ls nms ts) λz=>?_).symm⟩;rw[z]at ll;have:0=ts.length:=ll
  lia
 rw[e,<-Mi];exact tY (a:=[]) (s:=([],[])) rfl n
theorem CV.way5 (t:CV nms ts cl):wM (Bc " " (Cl nms cl)):=by
 have:Tx [Cl nms cl]=Bc " " (Cl nms cl):=eX (by rw[zY,cQ];rfl)
 rw[<-this];exact Gp (by simp) t.lC (ql (λl hl=>t.zA<|.inr<|Fk.mp hl)<|by simp) Br
theorem CV.way6 (t:CV nms ts cl):wM (Tx (Ls nms ts++[Cl nms cl]) ++ "; "):=by
 have ll:=t.ll;have h24:=t.d.len;rw[zbG];refine Gp (by simp) (t.okA.app<|.one (by simp) λw hw=>?_) (ql (λl hl=>?_) ?_) λinit last s c e1 e2 e3 _=>?_;rw[Fk.mp hw];exact wkE;rcases Fv.mp hl with hl|hl
 exact t.zA<|(Fv.mp hl).imp id Fk.mp
 rw[Fk.mp hl];decide;rw[Dv,Dv,ll,Oe,Oe];lia;obtain⟨_,e⟩:=TQ e1 rfl;cases e;cases e3
theorem CV.way7 (t:CV nms ts cl):wM (rep1 (Tx (Ls nms ts++[Cl nms cl])) " free" " free "):=by
 obtain⟨n0,ns,L',_,e,hn,_⟩:=t.first
 have l1:=t.okA;have z1:=t.zL;have ll:=t.ll;have h24:=t.d.len;rw[e]at l1 z1 ll;rw[e];obtain⟨l,ls,el⟩:∃l ls,L'++[Cl nms cl]=l::ls:=by
  cases L' with
  | nil=>exact⟨_,_,rfl⟩
  | cons l ls=>exact⟨_,_,rfl⟩
 rw[Mi,el,acJ (wN hn),<-el,<-Mi];refine Gp (by simp) (λl hl=>?_) (ql (λl hl=>?_) ?_)<|tY (a:=[]) (s:=([],[])) rfl<|jk λz=>absurd (z.2.2 ""<|by simp) HX
 rcases Bg.mp hl with rfl|hl
 refine⟨G7 _ _,λw hw=>?_⟩;have b:=(l1 _ Eb).2;simp only[Bg,HX,or_false]at hw;rcases hw with rfl|rfl|rfl
 exact b _<|by simp
 exact b _<|by simp
 exact wkE;exact l1 l<|Hj _ hl
 rcases Bg.mp hl with rfl|hl
 have:=z1 _ Eb
 rw[show[n0,("free" : Str),("" : Str)]=[n0, "free"]++[("" : Str)]from rfl,gH (G7 _ _),GJ,GJ];have e1:("" : Str).length=0:=rfl;have e2:(" " : Str).length=1:=rfl;lia;rcases Fv.mp hl with hl|hl
 exact Dp (z1 l<|Hj _ hl)<|by decide
 exact t.zA<|.inr<|Fk.mp hl
 simp only[Ea,Dv,Pz]at ll|-
 lia
end
def NoC (s:Told)(l:List Str):Prop:=∀c,Mq s l=Dn c->¬okD s c
section
theorem CV.wayR (t:CV nms ts cl){j:Nat}(hk:k<=ts.length)(n:Jv (ts.take k,nms.take k) l=Go)(h0:l≠[])(hw:∀w∈l,Wk w)(hz:(Bc " " l).length<=300):wM (Tx (((Ls nms ts).take k++l::(Ls nms ts).drop j)++[Cl nms cl])):=by
 have ll:=t.ll;have h24:=t.d.len;have key:∀l'∈((Ls nms ts).take k++l::(Ls nms ts).drop j)++[Cl nms cl],l'∈Ls nms ts++[Cl nms cl]\/l'=l:=λl' h=>by
  rcases Fv.mp h with h|h
  rcases Fv.mp h with h|h
  exact .inl<|RW _<|Q8 h
  rcases Bg.mp h with h|h
  exact .inr h;exact .inl<|RW _<|S6 h
  exact .inl<|Ml _ h
 refine Gp (by simp) (λl' h=>?_) (ql (λl' h=>?_) ?_)<|tY (t.pre hk) n
 rcases key l' h with h|h
 exact t.okA l' h;rw[h];exact⟨h0,hw⟩;rcases key l' h with h|h
 exact t.zA<|(Fv.mp h).imp id Fk.mp
 rw[h];exact hz;simp only[Dv,Ib,Ea,Ly,Pz,ll];lia
theorem CV.wayC (t:CV nms ts cl)(h0:l≠[])(hw:∀w∈l,Wk w)(hz:(Bc " " l).length<=300)(n:NoC (ts,nms) l):wM (Tx (Ls nms ts++[l])):=by
 have ll:=t.ll;have h24:=t.d.len;refine Gp (by simp) (t.lL.app<|.one h0 hw) (ql (λl' h=>?_) (by rw[Dv,ll,Oe];lia))<|sO t.all n
 rcases Fv.mp h with h|h
 exact t.zA<|.inl h
 rw[Fk.mp h];exact hz
theorem clB {n0:Str}{ns:List Str}(hs:(cT ts)[0]?=Dn ("spot" : Str))(hb:((M6 x).any λd=>decide (HI k (Dn ("spot" : Str))=d.map Dn))=false):
  NoC (ts,n0::ns) ("claim"::x::HI k n0):=by
 intro c hc z;obtain⟨_,_,rfl⟩:=oJ hc;have h2:=z.2;have h2:((M6 x).any λd=>decide ((((HI k n0).map (qQ (n0::ns))).map λn:Nat=>W.int (n:Int)).map (nth (cT ts))=d.map Dn))=true:=h2;have e0:qQ (n0::ns) n0=0:=by
  unfold qQ;rw[if_pos rfl]
 have e1:nth (cT ts) (W.int ((0:Nat):Int))=Dn ("spot" : Str):=hs;rw[List.map_replicate,List.map_replicate,List.map_replicate,e0,e1,hb]at h2;cases h2
end
theorem Vv:∀{st s:Told},Ht st ls=Dn s->s.1.map Prod.fst=st.1.map Prod.fst++ls.map λl=>l.getD 1 ("" : Str):=by
 induction ls with
 | nil=>intro st s e;cases e;simp
 | cons l ls ih=>
  intro st s e;obtain⟨s1,e1,e2⟩:=Option.bind_eq_some_iff.mp e;rw[ih e2];match l,e1 with
  | n::x::ys,e1=>
   by_cases c:Jc (cs n)=true/\n∉st.2/\∀y∈ys,y∈st.2
   rw[tR c]at e1;cases e1;simp;rw[jk c]at e1;cases e1
theorem Lf:∀ts:List (Str×List Nat),((ts.map bQ).filter mJ).length=((ts.map Prod.fst).filter λx=>decide (x=("free" : Str))).length
 | []=>rfl
 | p::ts=>by
  have ih:=Lf ts;rw[Jf,Jf,SN,SN,show mJ (bQ p)=decide (p.1 = "free")from rfl];split
  rw[Ea,Ea,ih];exact ih
def Jp:List (List Str):=[["q0", "free"],["q1", "free"],["q2", "free"],["q3", "free"],["q4", "free"],["q5", "free"],["q6", "free"],["q7", "free"]]
def Kh:List Str:=["claim", "same", "q0", "q1"]
def wkB (x:Str):Bool:=(cs x).all λc=>decide (c≠32/\c≠59)
theorem Ju (h:wkB x=true):Wk x:=by
 have h:=IK.mp h;exact⟨λz=>by have:=h _ z;simp at this,λz=>by have:=h _ z;simp at this⟩
theorem K9 (h:(ls.all λl=>!l.isEmpty&&l.all wkB)=true):M9 ls:=λl hl=>by
 have:=IK.mp h l hl
 rw[GQ]at this;refine⟨λz=>?_,λw hw=>Ju<|IK.mp this.2 w hw⟩;rw[z]at this;exact absurd this.1<|by decide
theorem Xn:wM (Tx (Jp++[Kh])):=by
 refine Gp (by decide) (K9<|by decide +kernel) (ql (λl hl=>?_)<|by decide) λinit last s c e1 e2 e3 z=>?_;have:((Jp++[Kh]).all λl=>decide ((Bc " " l).length<=300))=true:=by decide +kernel
 exact of_decide_eq_true<|IK.mp this l hl
 obtain⟨rfl,_⟩:=TQ e1 rfl;have h:=z.1.2.2.2;rw[Lf,Vv e2]at h;exact absurd h<|by decide +kernel
def IW:List (List Str):=["q0", "free"]::["q1", "free"]::(["q2", "q3", "q4", "q5", "q6", "q7", "q8", "q9", "q10", "q11", "q12", "q13", "q14", "q15", "q16", "q17", "q18", "q19", "q20", "q21", "q22", "q23", "q24"]:List Str).map λx=>[x, "join", "q0", "q1"]
theorem Yp:wM (Tx (IW++[Kh])):=by
 refine Gp (by decide) (K9<|by decide +kernel) (ql (λl hl=>?_)<|by decide) λinit last s c e1 e2 e3 z=>?_;have:((IW++[Kh]).all λl=>decide ((Bc " " l).length<=300))=true:=by decide +kernel
 exact of_decide_eq_true<|IK.mp this l hl
 obtain⟨rfl,_⟩:=TQ e1 rfl;have h:=z.1.2.1;rw[Ag,(FZ e2).1]at h;exact absurd h<|by decide
def stN (k:Nat):Str:=toString (k:Int)
theorem Ln (hk:k<1000)(q:Q (.str (stN k)) h):Q0 [.int (k:Nat)] h Q:=⟨R0 (Nat.log2_le_self _) (by rw[Int.natAbs_natCast];lia),q⟩
theorem rgC {f:Nat->Str}{a:Nat}(hf:∀k,a<=k->k<m->∀R:WK,R (.str (f k)) h->te ([W.int (k:Nat)].map Dn++rZ ix U) h R)(q:Q (.lst (((rng a m).map f).map .str)) h):
  uz ⟨ws0,Go⟩ G5 ix qP te U Q ((rng a m).map λx:Nat=>W.int (x:Int)) [] h:=by
 refine fV (λi acc h'=>h'=h/\acc=(((rng a m).take i).map f).map .str) ?_ ?_ ⟨rfl,rfl⟩;rintro i w acc h' N hN e ⟨rfl,rfl⟩;rw[Ds]at e;obtain⟨x,ex,rfl⟩:=Ij.mp e;have:=zbo.mp (GK ex)
 refine⟨[.int (x:Int)],rfl,iQ<|fG<|hf x this.1 this.2 _<|hN _ _ ⟨rfl,?_⟩⟩;rw[Lh,ex];simp;rintro acc h' ⟨rfl,rfl⟩;rw[Ag,Li];exact q
theorem adk {y:W}{us:List Str}(e:cU h y=Dn (us.map .str))(k:Q (.bl (decide (a∉us))) h):Ac (.str a) y h Q:=by
 have:=Vh (h:=h) (Q:=λw h'=>∀b,w=.bl b->Q (.bl (!b)) h') (a:=a) e λb eb=>by
  cases eb;rw[<-decide_not];exact k
 unfold QZ at this;unfold Ac;rw[e]at this|-
 dsimp only at this|-
 cases hc:(Aw 20 (.str a)&&(us.map W.str).all (Aw 20))with
 | true=>rw[hc]at this;exact this _ rfl
 | false=>rw[hc]at this;exact this.elim
theorem flC {zs:List Str}(hU:rZ [3] U=[Dn (.lst (nms.map .str))])(q:Q (.lst ((zs.filter λz=>decide (z∉nms)).map .str)) h):
  uz ⟨ws0,Go⟩ G5 [3] (cJ (Y7 Ac (aG 0) (aG 1))) (aG 0) U Q (zs.map .str) [] h:=by
 refine fV (λi acc h'=>h'=h/\acc=((zs.take i).filter λz=>decide<|z∉nms).map .str) ?_ ?_ ⟨rfl,rfl⟩;rintro i w acc h' N hN e ⟨rfl,rfl⟩;rw[Ds]at e;obtain⟨x,ex,rfl⟩:=Ij.mp e;refine⟨[.str x],rfl,?_⟩;rw[hU];refine cD<|aH<|au rfl<|au rfl<|adk (us:=nms) rfl<|oX ?_
 have et:zs.take (i+1)=zs.take i++[x]:=by rw[Lh,ex];rfl
 by_cases z:x∉nms
 rw[decide_eq_true z];refine fG<|au rfl<|hN _ _ ⟨rfl,?_⟩
 rw[et,QF,Eu];simp[z];rw[decide_eq_false z];refine vA<|hN _ _ ⟨rfl,?_⟩
 rw[et,QF,Eu];have z:x∈nms:=Classical.not_not.mp z;simp[z];rintro acc h' ⟨rfl,rfl⟩;rw[Ag,Li];exact q
theorem Kw {α:Type} [DecidableEq α]:∀{l m:List α},l.Nodup->(∀x∈l,x∈m)->l.length<=m.length
 | [],_,_,_=>Pn _
 | a::l,m,nd,h=>by
  rw[S8]at nd;have ma:=h a Eb;have:=Kw (l:=l) (m:=m.erase a) nd.2 λx hx=>(List.mem_erase_of_ne (λe:x=a=>nd.1 (e ▸ hx))).mpr (h x (Hj _ hx))
  rw[List.length_erase_of_mem ma]at this;have:=List.length_pos_of_mem ma
  rw[Ea];lia
def O7:List Str:=(rng 0 10).map λk => "z"++stN k
theorem WR:O7.Nodup:=by decide +kernel
theorem stranger (h:nms.length<=8):∃x l,(O7.filter λz=>decide (z∉nms))=x::l/\x∉nms/\x∈O7:=by
 cases e:O7.filter λz=>decide (z∉nms)with
 | nil=>
  have:=Kw WR λx hx=>by
   rw[List.filter_eq_nil_iff]at e;have:=e x hx
   simpa using this
  have l10:O7.length=10:=by decide +kernel
  lia
 | cons x l=>
  have:=PL.mp (show x∈O7.filter λz=>decide (z∉nms) by rw[e];exact Eb)
  exact⟨x,l,rfl,by simpa using this.2,this.1⟩
theorem X7:∀x∈O7,Wk x/\x.length<=8:=by
 have:(O7.all λx=>wkB x&&decide (x.length<=8))=true:=by decide +kernel
 intro x hx;have:=IK.mp this x hx
 rw[GQ]at this;exact⟨Ju this.1,of_decide_eq_true this.2⟩
theorem jK {a b:List W}(hz:a.length+b.length<=1000)(x:Q (.lst (a++b)) h):cM (.lst a) (.lst b) h Q:=jN.mk (Dp hz (by decide:1000<=Bh)) x
theorem Ke {b:Str}(hz:a.length+b.length<=100000)(q:Q (.str (a++b)) h):Bd (.str a) (.str b) h Q:=⟨Lk hz,q⟩
theorem Y5 {f:Str->Str}(e:U[i]?=Dn (Dn (.str a)))(hz:a.length<=1048576)(q:Q (.str (f a)) h):NT f i U h Q:=by
 unfold NT aG;rw[e];exact⟨hz,q⟩
def NoS (w:W):Prop:=w=.non\/w=.int 7\/w=.bl true\/(∃x,w=.lst [.str x])\/w=.tup []\/w=.tup [.str "claim"]
def Bw (w:W):Prop:=(∃x,w=.str x/\wM x)\/NoS w
def Je (nms:List Str)(ts:List (Str×List Nat)):List Str:=(Ls nms ts).map (Bc " ")
abbrev clS (nms:List Str)(cl:Str×List Nat):Str:=Bc " " (Cl nms cl)
abbrev O8 (nms:List Str)(ts:List (Str×List Nat))(cl:Str×List Nat):Str:=Tx (Ls nms ts++[Cl nms cl])
abbrev sgW (b:Nat)(nms:List Str)(ts:List (Str×List Nat))(cl:Str×List Nat)(x:Str)(i:Nat)(n:Str)(w:Int):Sw:=
 [Dn (.loc b),Dn (.lst ((Je nms ts).map .str)),Dn (.str (clS nms cl)),Dn (.lst (nms.map .str)),Dn (.str x),Dn (.int (i:Nat)),Dn (.str n),Dn (.int w),Dn (.str (O8 nms ts cl)),Go,Go,Go,Go,Go,Go]
theorem Az (e:cU h w=Dn us)(eu:us=(ls.map (Bc " ")).map .str)(hz:∀l∈ls,(Bc " " l).length<=300)(hl:ls.length<=300)(q:Q (.str (Tx ls)) h):gU (.str "; ") [w] h Q:=by
 subst eu;refine K3 (ys:=ls.map (Bc " ")) (B:=300) e (λy hy=>?_) ?_ q;obtain⟨l,hl,rfl⟩:=Dy.mp hy;exact hz l hl;rw[Ag,show("; " : Str).length=2 from rfl];lia
section
theorem CV.lnl (t:CV nms ts cl):(Je nms ts).length=ts.length:=by
 unfold Je;rw[Ag];exact t.ll
theorem CV.joinA (t:CV nms ts cl)(e:cU h w=Dn us)(eu:us=(ls.map (Bc " ")).map .str)(hz:∀l∈ls,l∈Ls nms ts\/l=Cl nms cl)(hl:ls.length<=300)(q:Q (.str (Tx ls)) h):gU (.str "; ") [w] h Q:=
 Az e eu (λl h=>t.zA (hz l h)) hl q
theorem whZ (t:CV nms ts cl):(O8 nms ts cl).length<=2000:=t.len
end
theorem Zt {n:Str}{w:Int}(t:CV nms ts cl)(w0:0<=w)(w8:w<8)(k:∀u,Bw u->Q u h):
  (bU (cY (gj (aA (Y7 bR (mC (.str " ")) (aG 8)) (aA (Y7 Bd (aG 8) (mC (.str " "))) (aA (NT (λa=>Nk a "; " ";") 8) (aA (uy gU (mC (.str "; ")) (aA (aG 1) aN)) aN))))) (YM 9))
   (bU (cY (Y7 cM (aG 9) (gj (aA (uy gU (mC (.str "; ")) (aA (Y7 cM (gj (aA (aG 2) aN)) (aG 1)) aN)) (aA (aG 2) (aA (Y7 Bd (aG 8) (mC (.str "; "))) (aA (NT (λa=>rep1 a " free" " free ") 8) aN)))))) (YM 9))
   (fD (Y7 Aq (aG 9) (aG 7))))) {nx:=N,rt:=Q} (sgW b nms ts cl x i n w) h:=by
 have hw:=whZ t;have h24:=t.d.len;have ll:=t.ll;have l1:(" " : Str).length=1:=rfl;have l2:("; " : Str).length=2:=rfl;refine aL<|aV<|bY<|ao<|aH<|bB<|au rfl<|bL (by lia) ?_
 refine ao<|aH<|au rfl<|bB<|Ke (by lia)<|ao<|Y5 rfl (by lia) ?_
 refine ao<|nW (λR q=>bB q)<|ao<|au rfl<|aF<|t.joinA (ls:=Ls nms ts) rfl rfl (λl hl=>.inl hl) (by lia) ?_
 refine aF<|aX rfl<|nV<|cF ?_
 refine aL<|aV<|aH<|au rfl<|bY<|ao<|nW (λR q=>bB q)<|ao<|aH<|bY<|ao<|au rfl<|aF<|aX rfl<|au rfl<|jK ?_<|aF ?_
 rw[Ag,t.lnl];show 1+ts.length<=1000;lia;refine t.joinA (ls:=Cl nms cl::Ls nms ts) rfl rfl (λl hl=>(Bg.mp hl).elim .inr .inl) (by rw[Ea];lia) ?_;refine ao<|au rfl<|ao<|aH<|au rfl<|bB<|Ke (by lia)<|ao<|Y5 rfl (by lia)<|aF<|aX rfl<|jK (show 4+4<=1000 by decide)<|nV<|cF ?_
 refine dU<|aH<|au rfl<|au rfl ?_
 obtain⟨u,eu,hu⟩:=nP (ws:=[.str (" "++O8 nms ts cl),.str (O8 nms ts cl ++ " "),.str (Nk (O8 nms ts cl) "; " ";"),.str (Tx (Ls nms ts))]++[.str (Tx (Cl nms cl::Ls nms ts)),.str (clS nms cl),.str (O8 nms ts cl ++ "; "),.str (rep1 (O8 nms ts cl) " free" " free ")]) (i:=w) (by show -((8:Nat):Int)<=w;lia) (by show w<((8:Nat):Int);lia);refine cV rfl eu<|FP<|k u ?_
 simp only[Mi,RJ,Bg,HX,or_false]at hu;rcases hu with rfl|rfl|rfl|rfl|rfl|rfl|rfl|rfl
 exact .inl ⟨_,rfl,t.way0⟩;exact .inl ⟨_,rfl,t.way1⟩;exact .inl ⟨_,rfl,t.way2⟩;exact .inl ⟨_,rfl,t.way3⟩;exact .inl ⟨_,rfl,t.way4⟩;exact .inl ⟨_,rfl,t.way5⟩;exact .inl ⟨_,rfl,t.way6⟩;exact .inl ⟨_,rfl,t.way7⟩
theorem JK (hx:x.length<=100)(q:Q (.str (tx ((cs x).take t))) h):Bf (.str x) Go (Dn (t:Int)) h Q:=by
 rcases Nat.lt_or_ge x.length t with ht|ht
 have e:Tw x Go (Dn (t:Int))=Tw x Go (Dn (x.length:Int)):=by
  have:Builtin.Str.strSliceIndices Go (Dn (t:Int)) 1 x.length=Builtin.Str.strSliceIndices Go (Dn (x.length:Int)) 1 x.length:=by
   unfold Builtin.Str.strSliceIndices;have a:¬((t:Int)<0):=by lia
   have b:¬((x.length:Int)<0):=by lia
   have c:min (t:Int) (x.length:Int)=(x.length:Int):=by lia
   simp[a,b,c]
  unfold Tw;rw[this]
 rw[Oh (by rw[cN];lia)]at q;have q2:Q (.str (tx ((cs x).take x.length))) h:=by rw[Oh (by rw[cN];lia)];exact q
 have:=O2 (x:=x) (t:=x.length) (h:=h) (Q:=Q) hx (Bm _) q2
 show(Tw x Go (Dn (t:Int))).length<=Bh/\Q (.str (Tw x Go (Dn (t:Int)))) h;rw[e];exact this;exact O2 hx ht q
def Od (o:Str):Prop:=Jc (cs o)=false/\Wk o/\o.length<=20
theorem Kl {n:Str}(hc:Hg c=true\/c=65)(hl:low c=false)(hn:Jc (cs n)=true):Od (⟨#[c]⟩++n):=by
 have e:cs (⟨#[c]⟩++n)=c::cs n:=by rw[bV];rfl
 have w:=wN hn;have z:c≠32/\c≠59:=by
  rcases hc with h|h
  exact G6 h;lia
 refine⟨?_,⟨?_,?_⟩,?_⟩;rw[e];show(decide _&&low c&&_)=false;rw[hl,Rh,Bool.false_and];rw[e];intro y;rcases Bg.mp y with y|y
 exact z.1 y.symm;exact w.1 y;rw[e];intro y;rcases Bg.mp y with y|y
 exact z.2 y.symm;exact w.2 y;rw[<-cN,e,Ea];have:=qg hn
 lia
theorem zbe {n:Str}(hn:Jc (cs n)=true)(e:∃c r,cs n=c::r/\cs y=HI 9 c):Od y:=by
 obtain⟨c,r,e1,e2⟩:=e;have hc:=G6 (xM hn c (by rw[e1];exact Eb));refine⟨?_,⟨?_,?_⟩,?_⟩;rw[e2];show(decide (8<=7)&&low c&&(HI 9 c).all Hg)=false;rfl;rw[e2];intro z;exact hc.1 (List.eq_of_mem_replicate z).symm;rw[e2];intro z;exact hc.2 (List.eq_of_mem_replicate z).symm;rw[<-cN,e2,Tt];decide
theorem aco {n:Str}(hn:Jc (cs n)=true):Od (tx ((cs n).take 3) ++ "-"):=by
 have e:cs (tx ((cs n).take 3) ++ "-")=(cs n).take 3++[45]:=by rw[bV,kW];rfl
 have w:=wN hn;refine⟨?_,⟨?_,?_⟩,?_⟩;rw[e];cases q:(cs n).take 3++[45]with
 | nil=>rfl
 | cons c l=>
  show(decide _&&low c&&(c::l).all Hg)=false;have:(c::l).all Hg=false:=by
   rw[<-q,List.all_append];exact Rh _
  rw[this,Rh]
 rw[e];intro y;rcases Fv.mp y with y|y
 exact w.1<|Q8 y
 simp at y;rw[e];intro y;rcases Fv.mp y with y|y
 exact w.2<|Q8 y
 simp at y;rw[<-cN,e,Dv,Ib,Oe];lia
theorem adB:Od "":=⟨by decide +kernel,wkE,by decide⟩
theorem aeD (q:∀y:Str,cs y=HI 9 c->Q (.str y) h):Cu (.str (tx [c])) (.int 9) h Q:=by
 have e:cs (⟨List.foldl (λx1 x2=>x1++x2) #[] (HI (Int.toNat 9) (tx [c]).cps)⟩:Str)=HI 9 c:=rfl;refine⟨by decide,by decide,rfl,?_,q _ e⟩;rw[<-cN,e,Tt];exact Lk<|by decide
theorem abP {n:Str}(hn:Jc (cs n)=true):∃c r,cs n=c::r:=by
 cases q:cs n with
 | nil=>rw[q]at hn;cases hn
 | cons c r=>exact⟨c,r,rfl⟩
theorem Xp {n o:Str}:o++tx ((cs (Bc " " (n::wn nms p))).drop n.length)=Bc " " (o::wn nms p):=by
 refine eX ?_;rw[bV,kW,cj (x:=n) (l:=wn nms p) (G7 _ _),cj (x:=o) (l:=wn nms p) (G7 _ _),bV,bV,bV,bV,<-cN,GR,List.drop_left,GR]
theorem acL {j:Nat}(h:j<n):Jl n (j:Int)=Dn j:=by
 unfold Jl;rw[if_pos (Rv _),if_pos (Int.ofNat_lt.mpr h),Nr]
theorem zaO (k:∀g:Gh,g.c h.nx=Dn (.lst us)->(∀m,m≠h.nx->g.c m=h.c m)->g.nx=h.nx+1->Q (.loc h.nx) g):vK [.lst us] h Q:=k _ (Af _ _) (λ_ e=>pU e) rfl
theorem Z0 {n:Str}{w:Int}(t:CV nms ts cl)(hb:b<h.nx)(en:nms[i]?=Dn n)(ep:ts[i]?=Dn p)(w0:8<=w)(w8:w<13)(k:∀u g,Bw u->Kp h g->Q u g):
  (bU (cY (Y7 Aq (gj (aA (mC (.str "")) (aA (Y7 bR (mC (.str "A")) (aG 6)) (aA (Y7 bR (mC (.str "1")) (aG 6)) (aA (Y7 Cu (Gq Bf (aG 6) cB (d7 (mC (.int 1)))) (mC (.int 9))) (aA (Y7 bR (Gq Bf (aG 6) cB (d7 (mC (.int 3)))) (mC (.str "-"))) aN)))))) (Y7 Dm (aG 7) (mC (.int 8)))) (YM 10))
   (bU (cY (CZ vK (aA (aG 1) aN)) (YM 11))
   (bU (cY (Y7 bR (aG 10) (Gq Bf (Y7 Aq (aG 1) (aG 5)) (d7 (CZ wC (aA (aG 6) aN))) cB)) (QV (aG 11) (aG 5) wK))
   (fD (uy gU (mC (.str "; ")) (aA (Y7 cM (aG 11) (gj (aA (aG 2) aN))) aN)))))) {nx:=N,rt:=Q} (sgW b nms ts cl x i n w) h:=by
 have hn:=t.nm.nm n (GK en);have h24:=t.d.len;have hi:i<ts.length:=(HY.mp ep).1;have n8:n.length<=8:=by rw[<-cN];exact qg hn
 have l1:("A" : Str).length=1:=rfl;have l2:("1" : Str).length=1:=rfl;have l3:("-" : Str).length=1:=rfl;obtain⟨c,r,ec⟩:=abP hn;refine aL<|aV<|aH<|bY<|ao<|bB<|ao<|aH<|bB<|au rfl<|bL (by lia) ?_
 refine ao<|aH<|bB<|au rfl<|bL (by lia) ?_
 refine ao<|aH<|j9<|au rfl<|cO<|dM<|bB<|uO<|JK (x:=n) (t:=1) (by lia) ?_
 rw[ec];refine bB<|aeD λy ey=>?_
 refine ao<|aH<|j9<|au rfl<|cO<|dM<|bB<|uO<|JK (x:=n) (t:=3) (by lia)<|bB<|bL ?_<|aF<|aX rfl ?_
 rw[zH,Ib,l3];lia;refine aH<|au rfl<|bB<|zy ?_
 obtain⟨u,eu,hu⟩:=nP (ws:=[.str "",.str ("A"++n),.str ("1"++n),.str y,.str (tx ((cs n).take 3) ++ "-")]) (i:=w-8) (by show -((5:Nat):Int)<=_;lia) (by show _<((5:Nat):Int);lia);have ho:∃o,u=.str o/\Od o:=by
  simp only[Bg,HX,or_false]at hu;rcases hu with rfl|rfl|rfl|rfl|rfl
  exact⟨_,rfl,adB⟩;exact⟨_,rfl,Kl (c:=65) (.inr rfl) rfl hn⟩;exact⟨_,rfl,Kl (c:=49) (.inl rfl) rfl hn⟩;exact⟨_,rfl,zbe hn ⟨c,r,ec,ey⟩⟩;exact⟨_,rfl,aco hn⟩
 obtain⟨o,rfl,ob,ow,oz⟩:=ho;refine cV rfl eu<|nV<|cF ?_
 have ei:(Je nms ts)[i]?=Dn (Bc " " (n::wn nms p)):=by
  unfold Je;rw[Ds,qU en ep];rfl
 have zi:(Bc " " (n::wn nms p)).length<=72:=t.zL _ (GK (qU en ep));have zw:=zm t.nm (t.d.sz p (GK ep)).1 (t.d.sz p (GK ep)).2;have zo:(Bc " " (o::wn nms p)).length<=300:=by
  rw[cj (l:=wn nms p) (G7 _ _),GJ,GJ,show(" " : Str).length=1 from rfl];lia
 refine aL<|aV<|fY<|ao<|au rfl<|aF<|zaO λg gc go gn=>nV<|cF ?_
 refine aL<|aV<|aH<|au rfl<|j9<|aH<|au rfl<|au rfl<|cV (ws:=(Je nms ts).map .str) rfl (bJ (j:=i) (v:=.str (Bc " " (n::wn nms p))) (by rw[Ds,ei];rfl)) ?_
 refine dM<|fY<|ao<|au rfl<|aF<|En (by lia)<|uO<|cO ?_
 refine Um (x:=Bc " " (n::wn nms p)) (t:=n.length) (by lia) ?_<|bL ?_ ?_
 rw[cj (l:=wn nms p) (G7 _ _),GJ,GJ];lia;rw[zH,Ly,cN];lia;rw[Xp];refine J5<|au rfl<|au rfl<|acT (j:=i) gc ?_ rfl λg2 gc2 go2 gn2=>cF ?_
 rw[Ag,t.lnl];exact acL hi;refine dU<|nW (λR q=>bB q)<|ao<|aH<|au rfl<|bY<|ao<|au rfl<|aF<|aX rfl<|Wr gc2 ?_<|aF ?_
 rw[List.length_set,Ag,t.lnl];show ts.length+1<=1000;lia;have es:(Ls nms ts).set i (o::wn nms p)=(Ls nms ts).take i++(o::wn nms p)::(Ls nms ts).drop (i+1):=by
  rw[List.set_eq_take_append_cons_drop,if_pos (by rw[t.ll];exact hi)]
 refine Az (ls:=((Ls nms ts).take i++(o::wn nms p)::(Ls nms ts).drop (i+1))++[Cl nms cl]) rfl ?_ ?_ ?_<|FP<|k _ _ (.inl ⟨_,rfl,t.wayR (PB hi) (jk λz=>?_) (G7 _ _) ?_ zo⟩) ?_
 rw[<-es,Eu,Eu,List.map_set,List.map_set];rfl;intro l hl;rcases Fv.mp hl with hl|hl
 rcases Fv.mp hl with hl|hl
 exact t.zA<|.inl<|Q8 hl
 rcases Bg.mp hl with hl|hl
 rw[hl];exact zo;exact t.zA<|.inl<|S6 hl
 exact t.zA<|.inr<|Fk.mp hl
 have:=t.ll
 simp only[Dv,Ib,Ea,Ly,Pz];lia;rw[ob]at z;exact absurd z.1 Jm;intro v hv;rcases Bg.mp hv with rfl|hv
 exact ow;exact Iw t.nm (yw (gK<|t.d.okj ep).1).1 (t.d.sz p<|GK ep).2 v hv;refine⟨by rw[gn2,gn];exact Nj _,λm hm=>?_⟩;rw[go2 m (Cg hm),go m (Cg hm)]
theorem zaB (us:List W)(k:Nat):ou us Go (Dn (k:Int))=us.take k:=by
 unfold ou;rw[HT.Em,HT.Ia,List.drop_zero,Rp];by_cases h:k<=us.length
 rw[Nat.min_eq_left h];rw[Nat.min_eq_right (by lia),Oh (Bm _),Oh (by lia)]
theorem Tq (q:Q (.lst (ou ws lo hi)) h):qL (.lst ws) lo hi h Q:=q
def Nl (s:Told)(o:Str):Prop:=∃l,o=Bc " " l/\Jv s l=Go/\l≠[]/\(∀w∈l,Wk w)/\o.length<=300
theorem j1 (x:Str):Bc " " [x]=x:=eX (by rw[cQ];rfl)
theorem j2 (x y:Str):Bc " " [x,y]=x ++ " "++y:=by rw[cj (G7 _ _),j1]
theorem Cw {n o:Str}(e:o=Bc " " (n::x::ys))(hn:n∈s.2)(hw:∀w∈n::x::ys,Wk w)(hz:o.length<=300):Nl s o:=
 ⟨_,e,jk λz=>z.2.1 hn,G7 _ _,hw,hz⟩
theorem nQ (h:wkB x=true):Wk x:=Ju h
theorem Z7 {n:Str}{w:Int}(t:CV nms ts cl)(hb:b<h.nx)(en:nms[i]?=Dn n)(ep:ts[i]?=Dn p)(hx:x∉nms)(xw:Wk x)(x8:x.length<=8)(w0:13<=w)(w8:w<18)(k:∀u g,Bw u->Kp h g->Q u g):
  (bU (cY (jJ (aA (Y7 bR (Y7 bR (Y7 Aq (aG 1) (aG 5)) (mC (.str " "))) (aG 6)) (aA (aG 6) (aA (Y7 bR (aG 6) (mC (.str " fre"))) (aA (Y7 bR (aG 6) (mC (.str " free"))) aN))))) (YM 10))
   (bU (mY (zX dO (aG 10) (aA (Y7 bR (Y7 bR (Y7 bR (mC (.str "z9z9 join ")) (aG 4)) (mC (.str " "))) (aG 6)) aN)))
   (bU (cY (Y7 Aq (aG 10) (Y7 Dm (aG 7) (mC (.int 13)))) (YM 10))
   (fD (uy gU (mC (.str "; ")) (aA (Y7 cM (Y7 cM (Y7 cM (Gq qL (aG 1) cB (d7 (Y7 cM (aG 5) (mC (.int 1))))) (gj (aA (aG 10) aN))) (Gq qL (aG 1) (d7 (Y7 cM (aG 5) (mC (.int 1)))) cB)) (gj (aA (aG 2) aN))) aN)))))) {nx:=N,rt:=Q} (sgW b nms ts cl x i n w) h:=by
 have hn:=t.nm.nm n (GK en);have nw:=wN hn;have h24:=t.d.len;have hi:i<ts.length:=(HY.mp ep).1;have n8:n.length<=8:=by rw[<-cN];exact qg hn
 have l1:(" " : Str).length=1:=rfl;have l2:(" fre" : Str).length=4:=rfl;have l3:(" free" : Str).length=5:=rfl;have l4:("z9z9 join " : Str).length=10:=rfl;have ei:(Je nms ts)[i]?=Dn (Bc " " (n::wn nms p)):=by
  unfold Je;rw[Ds,qU en ep];rfl
 have zi:(Bc " " (n::wn nms p)).length<=72:=t.zL _ (GK (qU en ep));have ni:n∈nms.take (i+1):=GK (i:=i) (by rw[List.getElem?_take_of_lt (PX _)];exact en);have ww:=Iw t.nm (yw (gK (t.d.okj ep)).1).1 (t.d.sz p (GK ep)).2;refine aL<|aV<|BX<|ao<|aH<|aH<|aH<|au rfl<|au rfl<|cV (ws:=(Je nms ts).map .str) rfl (bJ (j:=i) (v:=.str (Bc " " (n::wn nms p))) (by rw[Ds,ei];rfl)) ?_
 refine bB<|bL (by lia)<|au rfl<|bL (by rw[GJ];lia) ?_
 refine ao<|au rfl<|ao<|aH<|au rfl<|bB<|bL (by lia) ?_
 refine ao<|aH<|au rfl<|bB<|bL (by lia)<|aF<|aX rfl ?_
 refine nV<|cF ?_
 have gc:(h.new (.lst [.str (Bc " " (n::wn nms p) ++ " "++n),.str n,.str (n ++ " fre"),.str (n ++ " free")])).c h.nx=Dn (.lst [.str (Bc " " (n::wn nms p) ++ " "++n),.str n,.str (n ++ " fre"),.str (n ++ " free")]):=Af _ _;have go:∀m,m≠h.nx->(h.new (.lst [.str (Bc " " (n::wn nms p) ++ " "++n),.str n,.str (n ++ " fre"),.str (n ++ " free")])).c m=h.c m:=λ_ e=>pU e
 have gn:(h.new (.lst [.str (Bc " " (n::wn nms p) ++ " "++n),.str n,.str (n ++ " fre"),.str (n ++ " free")])).nx=h.nx+1:=rfl;generalize h.new (.lst [.str (Bc " " (n::wn nms p) ++ " "++n),.str n,.str (n ++ " fre"),.str (n ++ " free")])=g at gc go gn|-
 refine aL<|gR<|nC<|au rfl<|ji gc<|ao<|aH<|aH<|aH<|bB<|au rfl<|bL (by lia) ?_
 refine bB<|bL (by rw[GJ];lia)<|au rfl<|bL (by rw[GJ,GJ];lia)<|aF<|CT gc (show 4<=1000 by decide) λg2 gc2 go2 gn2=>cF ?_
 refine aL<|aV<|aH<|au rfl<|aH<|au rfl<|bB<|zy ?_
 obtain⟨u,eu,hu⟩:=nP (ws:=[.str (Bc " " (n::wn nms p) ++ " "++n),.str n,.str (n ++ " fre"),.str (n ++ " free")]++[.str ("z9z9 join "++x ++ " "++n)]) (i:=w-13) (by show -((5:Nat):Int)<=_;lia) (by show _<((5:Nat):Int);lia);have ho:∃o,u=.str o/\Nl (ts.take (i+1),nms.take (i+1)) o:=by
  simp only[Mi,RJ,Bg,HX,or_false]at hu;rcases hu with rfl|rfl|rfl|rfl|rfl
  refine⟨_,rfl,Cw (n:=n) (x:=p.1) (ys:=(p.2.map λn=>nms.getD n "")++[n]) ?_ ni (λv hv=>?_) ?_⟩;exact(gH (l:=n::wn nms p) (y:=n)<|G7 _ _).symm;rcases Bg.mp hv with rfl|hv
  exact nw;rcases Fv.mp (show v∈wn nms p++[n]from hv)with hv|hv
  exact ww v hv;rw[Fk.mp hv];exact nw;rw[GJ,GJ];lia;exact⟨_,rfl,[n],(j1 n).symm,rfl,G7 _ _,λv hv=>by rw[Fk.mp hv];exact nw,by lia⟩;refine⟨_,rfl,Cw (n:=n) (x := "fre") (ys:=[]) ?_ ni (λv hv=>?_) ?_⟩;rw[j2];exact eX (by simp only[bV,GR];rfl);rcases Bg.mp hv with rfl|hv
  exact nw;rw[Fk.mp hv];exact nQ (by decide +kernel);rw[GJ];lia;refine⟨_,rfl,Cw (n:=n) (x := "free") (ys:=[]) ?_ ni (λv hv=>?_) ?_⟩;rw[j2];exact eX (by simp only[bV,GR];rfl);rcases Bg.mp hv with rfl|hv
  exact nw;rw[Fk.mp hv];exact nQ (by decide +kernel);rw[GJ];lia;refine⟨_,rfl,["z9z9", "join",x,n],?_,jk λz=>hx<|Q8<|z.2.2 x Eb,G7 _ _,λv hv=>?_,?_⟩;rw[cj (G7 _ _),cj (G7 _ _),j2];exact eX (by simp only[bV,GR];rfl);simp only[Bg,HX,or_false]at hv;rcases hv with rfl|rfl|rfl|rfl
  exact nQ<|by decide +kernel
  exact nQ<|by decide +kernel
  exact xw;exact nw;rw[GJ,GJ,GJ];lia
 obtain⟨o,rfl,l,rfl,hr,h0,hw,hz⟩:=ho;refine cV (dR gc2) eu<|nV<|cF ?_
 have e1:((i:Nat):Int)+1=((i+1:Nat):Int):=by lia
 refine dU<|nW (λR q=>bB q)<|ao<|aH<|aH<|aH<|j9<|au rfl<|cO<|dM<|aH<|au rfl<|bB<|j5<|uO ?_
 rw[e1];refine Tq ?_;rw[zaB];refine bY<|ao<|au rfl<|aF<|aX rfl<|jK ?_<|j9<|au rfl<|dM<|aH<|au rfl<|bB<|j5<|uO<|cO ?_
 rw[Ib,Ag,t.lnl];show _+1<=1000;lia;rw[e1];refine Tq ?_;rw[zx];refine jK ?_<|bY<|ao<|au rfl<|aF<|aX rfl<|jK ?_<|aF ?_
 simp only[Dv,Ib,Ly,Ag,Ea,Pz,t.lnl];lia;simp only[Dv,Ib,Ly,Ag,Ea,Pz,t.lnl];lia;refine Az (ls:=((Ls nms ts).take (i+1)++l::(Ls nms ts).drop (i+1))++[Cl nms cl]) rfl ?_ ?_ ?_<|FP<|k _ _ (.inl ⟨_,rfl,t.wayR hi hr h0 hw hz⟩) ?_
 unfold Je;simp only[Eu,List.map_take,List.map_drop,Jf,List.map_nil,GR,Mi,RJ];intro l' hl;rcases Fv.mp hl with hl|hl
 rcases Fv.mp hl with hl|hl
 exact t.zA<|.inl<|Q8 hl
 rcases Bg.mp hl with hl|hl
 rw[hl];exact hz;exact t.zA<|.inl<|S6 hl
 exact t.zA<|.inr<|Fk.mp hl
 have:=t.ll
 simp only[Dv,Ib,Ea,Ly,Pz];lia;refine⟨by rw[gn2,gn];exact Nj _,λm hm=>?_⟩;rw[go2 m (Cg hm),go m (Cg hm)]
def Nc (s:Told)(o:Str):Prop:=∃l,o=Bc " " l/\NoC s l/\l≠[]/\(∀w∈l,Wk w)/\o.length<=300
theorem wkC:Wk "claim":=nQ (by decide +kernel)
theorem Ay {n0 o:Str}{ns:List Str}(hs:(cT ts)[0]?=Dn ("spot" : Str))(hb:((M6 x).any λd=>decide (HI k (Dn ("spot" : Str))=d.map Dn))=false)(e:o=Bc " " ("claim"::x::HI k n0))(hx:wkB x=true)(hn:Wk n0)(hz:o.length<=300):Nc (ts,n0::ns) o:=by
 refine⟨_,e,clB hs hb,G7 _ _,λv hv=>?_,hz⟩;rcases Bg.mp hv with rfl|hv
 exact wkC;rcases Bg.mp hv with rfl|hv
 exact Ju hx;rw[List.eq_of_mem_replicate hv];exact hn
theorem v7 {b:Str}(h:cs a=cs b):a=b:=eX h
theorem e21:((rng 0 8).map λk => "q"++stN k ++ " free")++[("claim same q0 q1" : Str)]=(Jp++[Kh]).map (Bc " "):=by decide +kernel
theorem e22:([("q0 free" : Str), "q1 free"]++(rng 2 25).map λk => "q"++stN k ++ " join q0 q1")++[("claim same q0 q1" : Str)]=(IW++[Kh]).map (Bc " "):=by decide +kernel
theorem ZF {c0:AP}(hd:gC c0){n:Str}{w:Int}(t:CV nms ts cl)(hb:GX h b)(hx:x∉nms)(xw:Wk x)(x8:x.length<=8)(w0:18<=w)(w8:w<24)(k:∀u g,Bw u->GX g b->Hy b h g->Q u g):
  j7 c0 E {nx:=N,rt:=Q} (sgW b nms ts cl x i n w) h:=by
 obtain⟨n0,ns,L',en,eL,hn,hs⟩:=t.first
 have nw:=wN hn;have h24:=t.d.len;have n8:n0.length<=8:=by rw[<-cN];exact qg hn
 have l1:(" " : Str).length=1:=rfl;have la:∀{a b:Str},(a++b).length=a.length+b.length:=GJ _ _
 have same:Hy b h h:=⟨rfl,λ_ _=>rfl⟩
 unfold j7;refine aL<|aV<|aH<|au rfl<|bB<|cV (ws:=nms.map .str) rfl (bJ (j:=0) (v:=.str n0) (by rw[en];rfl))<|nV<|cF ?_
 refine aL<|aV<|aH<|aH<|aH<|bB<|au rfl<|bL (by lia)<|bB<|bL (by rw[la];lia)<|au rfl<|bL (by rw[la,la];lia)<|nV<|cF ?_
 have tl:((" " : Str)++n0 ++ " "++n0).length<=18:=by rw[la,la,la];lia
 generalize et:(" " : Str)++n0 ++ " "++n0=tw' at tl|-
 have c1:("claim row" : Str).length=9:=rfl;have c2:("claim same " : Str).length=11:=rfl;have c3:("claim bunch" : Str).length=11:=rfl;have c4:("claim on" : Str).length=8:=rfl;have c5:("claim parted " : Str).length=13:=rfl;have c6:("claims row" : Str).length=10:=rfl;have c7:("claim touch" : Str).length=11:=rfl;refine aL<|aV<|bY<|ao<|bB<|ao<|aH<|bB<|au rfl<|bL (by lia) ?_
 refine ao<|aH<|bB<|au rfl<|bL (by lia)<|aF<|aX rfl<|nV<|cF ?_
 refine aL<|aV<|aH<|au rfl<|bY<|ao<|aH<|aH<|aH<|bB<|au rfl<|bL (by lia)<|bB<|bL (by rw[la];lia)<|au rfl<|bL (by rw[la,la];lia) ?_
 refine ao<|aH<|bB<|au rfl<|bL (by lia)<|aF<|aX rfl<|jK (show 3+2<=1000 by decide)<|nV<|cF ?_
 refine aL<|aV<|aH<|au rfl<|bY<|ao<|aH<|bB<|au rfl<|bL (by lia) ?_
 refine ao<|aH<|aH<|aH<|bB<|au rfl<|bL (by lia)<|bB<|bL (by rw[la];lia)<|au rfl<|bL (by rw[la,la];lia) ?_
 refine ao<|aH<|bB<|au rfl<|bL (by lia)<|aF<|aX rfl<|jK (show 5+3<=1000 by decide)<|nV<|cF ?_
 refine aL<|aV<|aH<|au rfl<|bY<|ao<|aH<|aH<|aH<|bB<|au rfl<|bL (by lia)<|bB<|bL (by rw[la];lia)<|au rfl<|bL (by rw[la,la];lia) ?_
 refine aF<|aX rfl<|jK (show 8+1<=1000 by decide)<|nV<|cF ?_
 refine aL<|dF<|cD<|aH<|au rfl<|bB<|uF<|oX<|lG (λw21=>?_) λw21=>cC<|cF ?_
 refine dU<|nW (λR q=>bB q)<|ao<|aH<|au rfl<|bY<|ao<|aH<|au rfl<|bD<|ao<|au rfl<|ao<|bB<|aF ?_
 refine hd hb (by decide) (by unfold Sm;decide) λd g d0 d9 hg og=>?_;obtain⟨u,eu,hu⟩:=nP (ws:=(([.str "claim",.str ("claim row"++tw'),.str ("claim same "++n0)]++[.str ("claim bunch"++tw' ++ " "++n0),.str ("claim on"++tw')])++[.str ("claim parted "++n0),.str ("claims row"++tw' ++ " "++n0),.str ("claim touch"++tw')])++[.str ("claim row"++tw' ++ " "++x)]) (i:=d) (by show -((9:Nat):Int)<=_;lia) (by show _<((9:Nat):Int);lia);have ho:∃o,u=.str o/\Nc (ts,nms) o:=by
  subst et;rw[en];simp only[Mi,RJ,Bg,HX,or_false]at hu;rcases hu with rfl|rfl|rfl|rfl|rfl|rfl|rfl|rfl|rfl
  exact⟨_,rfl,["claim"],(j1 _).symm,λc hc=>(nomatch hc),G7 _ _,λv hv=>by rw[Fk.mp hv];exact wkC,by decide⟩;refine⟨_,rfl,Ay (x := "row") (k:=2) hs (by decide +kernel) ?_ (by decide +kernel) nw (by rw[la,la,la,la];lia)⟩;exact v7 (by rw[cQ];simp only[bV,GR];rfl);refine⟨_,rfl,Ay (x := "same") (k:=1) hs (by decide +kernel) ?_ (by decide +kernel) nw (by rw[la];lia)⟩;exact v7 (by rw[cQ];simp only[bV,GR];rfl);refine⟨_,rfl,Ay (x := "bunch") (k:=3) hs (by decide +kernel) ?_ (by decide +kernel) nw (by rw[la,la,la,la,la,la];lia)⟩;exact v7 (by rw[cQ];simp only[bV,GR];rfl);refine⟨_,rfl,Ay (x := "on") (k:=2) hs (by decide +kernel) ?_ (by decide +kernel) nw (by rw[la,la,la,la];lia)⟩;exact v7 (by rw[cQ];simp only[bV,GR];rfl);refine⟨_,rfl,Ay (x := "parted") (k:=1) hs (by decide +kernel) ?_ (by decide +kernel) nw (by rw[la];lia)⟩;exact v7 (by rw[cQ];simp only[bV,GR];rfl);refine⟨_,rfl,["claims", "row",n0,n0,n0],?_,λc hc=>?_,G7 _ _,λv hv=>?_,by rw[la,la,la,la,la,la];lia⟩;exact v7 (by rw[cQ];simp only[bV,GR];rfl);exact absurd (oJ hc).1 (by decide +kernel);simp only[Bg,HX,or_false]at hv;rcases hv with rfl|rfl|rfl|rfl|rfl
  exact nQ<|by decide +kernel
  exact nQ<|by decide +kernel
  exact nw;exact nw;exact nw;refine⟨_,rfl,Ay (x := "touch") (k:=2) hs (by decide +kernel) ?_ (by decide +kernel) nw (by rw[la,la,la,la];lia)⟩;exact v7 (by rw[cQ];simp only[bV,GR];rfl);refine⟨_,rfl,["claim", "row",n0,n0,x],?_,λc hc=>?_,G7 _ _,λv hv=>?_,by rw[la,la,la,la,la,la];lia⟩;exact v7 (by rw[cQ];simp only[bV,GR];rfl);refine absurd ((oJ hc).2.1 x (by simp)) ?_;rw[<-en];exact hx;simp only[Bg,HX,or_false]at hv;rcases hv with rfl|rfl|rfl|rfl|rfl
  exact wkC;exact nQ<|by decide +kernel
  exact nw;exact nw;exact xw
 obtain⟨o,rfl,l,rfl,hr,h0,hw,hz⟩:=ho;refine cV rfl eu<|aF<|aX rfl<|jK ?_<|aF ?_
 rw[Ag,t.lnl];show _+1<=1000;lia;refine Az (ls:=Ls nms ts++[l]) rfl ?_ ?_ ?_<|FP<|k _ _ (.inl ⟨_,rfl,t.wayC h0 hw hz hr⟩) hg og
 unfold Je;rw[Eu,Eu];rfl;intro l' hl;rcases Fv.mp hl with hl|hl
 exact t.zA<|.inl hl
 rw[Fk.mp hl];exact hz;rw[Dv,t.ll,Oe];lia;unfold nA;have q0:∀k,k<30->(stN k).length<=8:=by decide +kernel
 have d1:("q" : Str).length=1:=rfl;have d2:(" free" : Str).length=5:=rfl;have d3:(" join q0 q1" : Str).length=11:=rfl;refine aL<|dF<|cD<|aH<|au rfl<|bB<|Py<|oX<|lG (λw1=>?_) λw1=>cC<|cF ?_
 refine dU<|nW (λR q=>bB q)<|ao<|aH<|jL<|jW<|ao<|bB<|aF<|u5 (m:=8) (by decide)<|pN (by decide) ?_
 refine rgC (f:=λk => "q"++stN k ++ " free") (λk _ hk R q=>?_) ?_;have:=q0 k (by lia)
 exact aH<|aH<|bB<|fY<|ao<|au rfl<|aF<|Ln (by lia)<|bL (by lia)<|bB<|bL (by rw[la];lia) q
 refine bY<|ao<|bB<|aF<|aX rfl<|jK (by decide)<|aF ?_
 exact Az (ls:=Jp++[Kh]) rfl (by rw[<-e21,Eu];rfl) (by decide +kernel) (by decide)<|FP<|k _ _ (.inl ⟨_,rfl,Xn⟩) hb same
 unfold nu;refine aL<|dF<|cD<|aH<|au rfl<|bB<|Py<|oX<|lG (λw2=>?_) λw2=>cC<|cF ?_
 refine aL<|aV<|jL<|abI<|ao<|bB<|ao<|bB<|aF<|aeA (m:=25) (n:=2) rfl (by decide) (by decide)<|pN (by decide) ?_
 refine rgC (f:=λk => "q"++stN k ++ " join q0 q1") (λk _ hk R q=>?_) ?_;have:=q0 k (by lia)
 exact aH<|aH<|bB<|fY<|ao<|au rfl<|aF<|Ln (by lia)<|bL (by lia)<|bB<|bL (by rw[la];lia) q
 refine nV<|cF<|dU<|nW (λR q=>bB q)<|ao<|aH<|aH<|bY<|ao<|bB<|ao<|bB<|aF<|aX rfl<|au rfl<|jK ?_ ?_
 decide;refine bY<|ao<|bB<|aF<|aX rfl<|jK (by decide)<|aF ?_
 exact Az (ls:=IW++[Kh]) rfl (by rw[<-e22,Eu,Eu];rfl) (by decide +kernel) (by decide)<|FP<|k _ _ (.inl ⟨_,rfl,Yp⟩) hb same
 unfold nG;refine dU<|aH<|bY<|ao<|bB<|ao<|bB<|ao<|bB<|ao<|bY<|ao<|au rfl<|aF<|aX rfl ?_
 refine ao<|dG<|aF<|aX rfl<|ao<|dG<|ao<|bB<|aF<|aX rfl<|aF<|aX rfl ?_
 refine bD<|ao<|au rfl<|ao<|bB<|aF ?_
 refine hd hb (by decide) (by unfold Sm;decide) λd g d0 d6 hg og=>?_;obtain⟨u,eu,hu⟩:=nP (ws:=[.non,.int 7,.bl true,.lst [.str (O8 nms ts cl)],.tup [],.tup [.str "claim"]]) (i:=d) (by show -((6:Nat):Int)<=_;lia) (by show _<((6:Nat):Int);lia);refine cV rfl eu<|FP<|k _ _ (.inr ?_) hg og
 simp only[Bg,HX,or_false]at hu;rcases hu with rfl|rfl|rfl|rfl|rfl|rfl
 exact .inl rfl;exact .inr<|.inl rfl
 exact .inr<|.inr<|.inl rfl
 exact .inr<|.inr<|.inr<|.inl ⟨_,rfl⟩
 exact .inr<|.inr<|.inr<|.inr<|.inl rfl
 exact .inr<|.inr<|.inr<|.inr<|.inr rfl
def WrX (c0:AP):Prop:=∀{h:Gh}{b:Nat}{nms:List Str}{ts:List (Str×List Nat)}{cl:Str×List Nat}{Q:WK}{E:Ba},CV nms ts cl->ts.length<=8->GX h b->b<h.nx->(∀u g,Bw u->Gr b h g->Q u g) ->
 c0 [.loc b,.lst ((Je nms ts).map .str),.str (clS nms cl),.lst (nms.map .str)] h Q E
theorem acn {c0:AP}(hd:gC c0):WrX (qw c0):=by
 intro h b nms ts cl Q E t h8 hb bl k;have l1:=t.l1;have q0:∀k,k<30->(stN k).length<=8:=by decide +kernel
 have d1:("z" : Str).length=1:=rfl;obtain⟨x,lz,ex,hx,xz⟩:=stranger (nms:=nms) (by rw[t.nm.len];exact h8);obtain⟨xw,x8⟩:=X7 x xz;unfold qw;refine mO rfl (U:=[Dn<|.loc b,Dn<|.lst<|(Je nms ts).map .str,Dn<|.str<|clS nms cl,Dn<|.lst<|nms.map .str,Go,Go,Go,Go,Go,Go,Go,Go,Go,Go,Go]) rfl ?_;refine aL<|aV<|aH<|jL<|rY<|jL<|jW<|ao<|bB<|aF<|u5 (m:=10) (by decide)<|pN (by decide) ?_
 refine rgC (f:=λk => "z"++stN k) (λk _ hk R q=>?_) ?_;have:=q0 k (by lia)
 exact aH<|bB<|fY<|ao<|au rfl<|aF<|Ln (by lia)<|bL (by lia) q
 refine HN rfl<|pN (by decide +kernel)<|flC (nms:=nms) rfl ?_
 refine bB<|cV (ws:=(O7.filter λz=>decide<|z∉nms).map .str) rfl (bJ (j:=0) (v:=.str x) (by rw[ex];rfl))<|nV<|cF ?_
 refine aL<|aV<|bD<|ao<|au rfl<|ao<|fY<|ao<|au rfl<|aF<|eV rfl<|aF ?_
 rw[Ag,t.lnl];refine hd hb (by lia) (by unfold Sm;lia) λd h1 d0 d9 hb1 o1=>nV<|cF ?_
 obtain⟨i,rfl⟩:=RM d0;have hi:i<ts.length:=by lia
 obtain⟨n,en⟩:∃n,nms[i]?=Dn n:=⟨_,GF (by rw[t.nm.len];exact hi)⟩
 obtain⟨p,ep⟩:∃p,ts[i]?=Dn p:=⟨_,GF hi⟩
 refine aL<|aV<|aH<|au rfl<|au rfl<|cV (ws:=nms.map .str) rfl (bJ (j:=i) (v:=.str n) (by rw[Ds,en];rfl))<|nV<|cF ?_
 refine aL<|aV<|bD<|ao<|au rfl<|ao<|bB<|aF ?_
 refine hd hb1 (by decide) (by unfold Sm;decide) λw h2 w0 w9 hb2 o2=>nV<|cF ?_
 refine aL<|aV<|nW (λR q=>bB q)<|ao<|aH<|au rfl<|bY<|ao<|au rfl<|aF<|aX rfl<|jK ?_<|aF ?_
 rw[Ag,t.lnl];show _+1<=1000;lia;refine t.joinA (ls:=Ls nms ts++[Cl nms cl]) rfl ?_ (λl hl=>(Fv.mp hl).imp id Fk.mp) ?_<|nV<|cF ?_
 unfold Je;rw[Eu,Eu];rfl;rw[Dv,t.ll,Oe];lia;have n1:h2.nx=h.nx:=o2.1.trans o1.1;have c1:∀m,m≠b->h2.c m=h.c m:=λm hm=>(o2.2 m hm).trans (o1.2 m hm)
 have kk:∀u g,Bw u->Kp h2 g->Q u g:=λu g bu kp=>k u g bu ⟨by rw[<-n1];exact kp.1,λm hm hne=>(kp.2 m (by rw[n1];exact hm)).trans (c1 m hne)⟩
 refine aL<|dF<|cD<|aH<|au rfl<|bB<|uF<|oX<|lG (λw1=>?_) λw1=>cC<|cF ?_
 exact Zt t w0 w1 λu bu=>kk u h2 bu ⟨Bm _,λ_ _=>rfl⟩;unfold pA;refine aL<|dF<|cD<|aH<|au rfl<|bB<|uF<|oX<|lG (λw2=>?_) λw2=>cC<|cF ?_
 exact Z0 t (by rw[n1];exact bl) en ep (by lia) w2 kk;unfold p8;refine aL<|dF<|cD<|aH<|au rfl<|bB<|uF<|oX<|lG (λw3=>?_) λw3=>cC<|cF ?_
 exact Z7 t (by rw[n1];exact bl) en ep hx xw x8 (by lia) w3 kk;exact ZF hd t hb2 hx xw x8 (by lia) w9 λu g bu _ o3=>k u g bu ⟨by rw[<-n1,o3.1];exact Bm _,λm hm hne=>(o3.2 m hne).trans (c1 m hne)⟩
theorem aeO {d:Nat}:∀l:List Nat,pR c d l≠[]:=by
 intro l;unfold pR;repeat' split
 all_goals simp
theorem XF (x:Str):∃init last,gD x=init++[last]:=by
 have:gD x≠[]:=by
  unfold gD;rw[xX]
  simpa using aeO _
 exact⟨_,_,(List.dropLast_concat_getLast this).symm⟩
def RdN (c0:AP):Prop:=∀{h:Gh}{w:W}{Q:WK}{E:Ba},NoS w->E ⟨"NoText",[]⟩ h->c0 [w] h Q E
theorem NoS.th (n:NoS w):Th h w/\QJ w=false:=by
 rcases n with rfl|rfl|rfl|⟨x,rfl⟩|rfl|rfl
 exact⟨.non,rfl⟩;exact⟨.int,rfl⟩;exact⟨.bl,rfl⟩;exact⟨.lst,rfl⟩;exact⟨.tup,rfl⟩;exact⟨.tup,rfl⟩
theorem abf {c0 c2 c3:AP}:RdN (dX c0 c1 c2 c3):=by
 intro h w Q E n k;obtain⟨th,e⟩:=n.th (h:=h);unfold dX;refine mO rfl (U:=[Dn w,Go,Go,Go,Go]) rfl ?_;refine aL<|dF<|nF<|lM<|fY<|ao<|au rfl<|ao<|bB<|aF<|xq th<|Hl rfl ?_
 rw[e];exact qY k
def RfX (c0:AP):Prop:=∀{h:Gh}{w:W}{Q:WK}{E:Ba},Bw w->Q (.bl true) h->c0 [w] h Q E
theorem acE {rd:AP}(hrd:RdX rd)(hrn:RdN rd):RfX (kY rd):=by
 intro h w Q E hb k;unfold kY;refine J8 rfl (U:=[Dn w,Go]) rfl ?_;refine aL<|K7<|gR<|bD<|ao<|au (w:=w) rfl<|aF ?_
 have key:∀g,Kp h g->Ec (Fj ("NoText" : Str) "EaselError") ((bU (jx (wJ (Ie (λn=>((Fj n "NoName")||((Fj n "Nothing")||((Fj n "Short")||((Fj n "Stuck")||false))))) (aG 1))) (fD (mC (.bl false))) dJ)
   (fD (u6 (Ie (λn=>(Fj n "NoText")) (aG 1)) (Ie (λn=>true) (aG 1)))))
   (cH.lost {nx:=lD rd E {nx:=λ_ h'=>n6 true h .non h' Q,rt:=λw h'=>n6 true h w h' Q},rt:=λw h'=>n6 true h w h' Q}) [Dn w,Dn (.exc "NoText")] g) False:=by
  intro g kp;refine Om (show Fj "NoText" "EaselError" = true by decide +kernel) ?_;refine aL<|dF<|lM<|zK<|au (w:=.exc "NoText") rfl<|VL<|Hl rfl ?_
  rw[show(Fj "NoText" "NoName"||(Fj "NoText" "Nothing"||(Fj "NoText" "Short"||(Fj "NoText" "Stuck"||false))))=false by decide +kernel];refine Jr<|cC<|cF ?_
  refine dU<|BL<|zK<|au (w:=.exc "NoText") rfl<|VL<|Yy<|V6 (show Fj "NoText" "NoText" = true by decide +kernel) ?_
  exact zK<|au (w:=.exc "NoText") rfl<|VL<|FP<|Mh kp k
 rcases hb with⟨x,rfl,hz,hr⟩|hn
 obtain⟨init,last,et⟩:=XF x;refine hrd hz et (λs cl e1 e2 e3=>absurd e3<|hr init last s cl et e1 e2) λ_ g kp=>key g kp;exact hrn hn<|key h ⟨Bm _,λ_ _=>rfl⟩
theorem zaQ:WsX qu:=by
 intro h nv nms m p Q E hv N hs hn k;have hb:=Gk N hs hn;obtain⟨x,ns⟩:=p;have h6:ns.length<=6:=hs.2;unfold qu;refine mO rfl (U:=[Dn<|bQ (x,ns),Dn nv]) rfl ?_;refine dU<|nW (λR q=>bB q)<|ao<|aH<|bY<|ao<|aH<|au rfl<|bB<|cV (ws:=.str x::ns.map λn:Nat=>.int n) (w:=.str x) rfl (bJ (j:=0) rfl)<|aF<|aX rfl<|jL<|Xv (u:=.str x) (us:=ns.map λn:Nat=>.int n) rfl ?_
 refine jN.mk (by rw[Ag];exact Lk (by lia)) ?_;refine fV (λi acc h'=>h'=h/\acc=((ns.take i).map λn=>nms.getD n "").map .str) ?_ ?_ ⟨rfl,rfl⟩;rintro i w acc h' R hR e ⟨rfl,rfl⟩;rw[Ds]at e;obtain⟨n,en,rfl⟩:=Ij.mp e;refine⟨[.int (n:Nat)],rfl,iQ<|fG<|aH<|au rfl<|au rfl<|Vq hv (by rw[N.len];exact hn n (GK en))<|hR _ _ ⟨rfl,?_⟩⟩;rw[Lh,en];simp;rintro acc h' ⟨rfl,rfl⟩;rw[Ag,Li];refine jK (a:=[.str x]) ?_<|aF<|K3 (ys:=wn nms (x,ns)) (B:=8) rfl hb.1 ?_<|FP k
 rw[Ag,Ag];show 1+ns.length<=1000;lia;have:=hb.2
 rw[show(" " : Str).length=1 from rfl];lia
theorem Xk {bs:List W}{j:Nat}(h1:U[i]?=Dn (Dn (.lst as)))(h2:U[j]?=Dn (Dn (.loc n)))(e:h.c n=Dn (.lst bs))(k:R ⟨mK as bs,Dn (n,bs)⟩ h):
  Lp (aA (aG i) (aA (aG j) aN)) U h R:=by
 refine ao<|au h1<|ao<|au h2<|aF ?_
 show(match L2.Ks h (.lst as) (.loc n)with
  | some s=>R s h
  | none=>False)
 have:L2.Ks h (.lst as) (.loc n)=Dn ⟨mK as bs,Dn (n,bs)⟩:=by
  show(match h.c n with
   | some (.lst bs)=>Dn (⟨mK as bs,Dn (n,bs)⟩:Src)
   | _=>Go)=_
  rw[e]
 rw[this];exact k
theorem Gc.tol (g:Gc ss w)(N:Jh nms ts.length)(d:Ir ts)(l1:1<=ts.length)(e:ss=cT ts):∃cl,w=bQ cl/\CV nms ts cl:=by
 obtain⟨p,rfl,h1,h2,h3,h4⟩:=g;subst e;refine⟨p,rfl,N,d,l1,h1,h2,h3,λn hn=>?_⟩;have:=h4 n hn
 unfold cT at this;rw[Ag,Ag]at this;exact this
theorem Ir.spot1 (d:Ir ts)(l1:1<=ts.length):("spot" : Str)∈cT ts:=by
 cases ts with
 | nil=>cases l1
 | cons p ts=>
  have o:=d.okj (j:=0) (p:=p) rfl;obtain⟨h1,h2⟩:=qm o;have h1:∀n∈p.2,n<0:=h1
  have e:(Bl p.1).length=0:=by
   rw[<-h2];cases q:p.2 with
   | nil=>rfl
   | cons n l=>exact absurd (h1 n (by rw[q];exact Eb)) (RB _)
  have hx:=(gK o).1;refine Bg.mpr<|.inl ?_
  show("spot" : Str)=uP p.1;unfold HS at hx;simp only[Bg,HX,or_false]at hx;rcases hx with z|z|z|z|z|z|z<;>rw[z]at e|-<;>first|rfl|exact absurd e (by decide)
theorem adh (h:w∈ou ws lo hi):w∈ws:=by
 unfold ou at h;exact S6<|Q8 h
theorem zbO:(ou ws lo hi).length<=ws.length:=by
 unfold ou;rw[Ib,Ly];lia
theorem Yl {rd ca bg nm rw' cm ws wr rf:AP}(hrd:RdX rd)(hca:Fd ca)(hbg:Qg bg)(hnm:Za nm)(hrw:Zb rw')(hcm:YK cm)(hws:WsX ws)(hwr:WrX wr)(hrf:RfX rf)(ns:List Int)(hn:ns.length<=63):
  Qp rd ca bg nm rw' cm ws wr rf [.kls (ns.map W.int)] g0 (λw _=>w=.bl true) EF:=by
 unfold Qp;refine mO rfl (U:=[Dn<|.kls<|ns.map .int,Go,Go,Go,Go,Go,Go,Go,Go,Go]) rfl ?_;refine aL<|aV<|bD<|ao<|bD<|ao<|au rfl<|ao<|bB<|aF<|hca (by decide)<|aF<|hbg λh1 b1 n1 o1=>nV<|cF ?_
 generalize g0.nx=b0 at *;refine aL<|aV<|bD<|ao<|au rfl<|ao<|bB<|ao<|bB<|aF ?_
 refine hrw (m:=7) (by decide) λts a b h2 tl1 tl2 R=>FW rfl rfl<|wR<|nV ?_
 refine wR<|nV<|KZ<|cF ?_
 have b0l:b0<h1.nx:=by rw[n1];exact PX _
 have na:b0≠a:=Cg (Df b0l R.la);have nb:b0≠b:=Cg (Df b0l R.lb);have b2:GX h2 b0:=jF b1 (R.kp.2 b0 b0l);refine aL<|aV<|bD<|ao<|au rfl<|ao<|fY<|ao<|au rfl<|aF<|eV (dR R.ca)<|aF ?_
 rw[Ag];refine hnm b2 R.d.len λnms h3 N b3 o3=>nV<|cF ?_
 have ca3:h3.c a=Dn (.lst (ts.map bQ)):=(o3.2 a (HF na)).trans R.ca;have cb3:h3.c b=Dn (.lst ((cT ts).map .str)):=(o3.2 b (HF nb)).trans R.cb;have ua3:a<h3.nx:=by rw[o3.1];exact R.ua
 have ub3:b<h3.nx:=by rw[o3.1];exact R.ub
 refine aL<|aV<|bD<|ao<|bD<|ao<|bD<|ao<|au rfl<|ao<|bB<|aF<|hca (by decide)<|aF<|hbg λh4 b4 n4 o4=>ao<|au rfl<|aF ?_
 have ca4:=(o4 a (Cg ua3)).trans ca3;have cb4:=(o4 b (Cg ub3)).trans cb3;refine hcm b4 cb4 (by rw[n4];exact PX _) (Mf ub3) (by unfold cT;rw[Ag,Ag];exact R.d.len) (R.d.spot1 tl2) λw h5 gc b5 g5=>nV<|cF ?_
 obtain⟨cl,rfl,T⟩:=gc.tol N R.d tl2 rfl;have ua4:a<h4.nx:=by rw[n4];exact Nat.lt_succ_of_lt ua3
 have ca5:h5.c a=Dn (.lst (ts.map bQ)):=(g5.2 a ua4 (Cg ua3)).trans ca4;have ua5:a<h5.nx:=Df ua4 g5.1;have ez:(mK (nms.map W.str) (ts.map bQ)).length=ts.length:=by
  rw[mF,Ag,Ag,N.len];lia
 have l1:(" " : Str).length=1:=rfl;have l6:("claim " : Str).length=6:=rfl;have h24:=R.d.len;refine aL<|aV<|jL<|Xk (as:=nms.map .str) rfl rfl ca5<|jN.mk (by show(mK _ _).length<=_;rw[ez];exact Lk (by lia)) ?_
 refine Fo (λi acc h'=>h'=h5/\acc=((Je nms ts).take i).map .str) ?_ ?_ ?_ ⟨rfl,rfl⟩;rintro i acc h' ⟨rfl,_⟩ P p;exact⟨ca5,p⟩;rintro i w acc h' K hK e ⟨rfl,rfl⟩;obtain⟨x,y,ex,ey,rfl⟩:=mD e;rw[Ds]at ex ey;obtain⟨n,en,rfl⟩:=Ij.mp ex;obtain⟨p,ep,rfl⟩:=Ij.mp ey;obtain⟨s1,s2⟩:=R.d.sz p (GK ep);have l63:=zm N s1 s2;have l8:n.length<=8:=by rw[<-cN];exact qg (N.nm n (GK en))
 refine⟨[.str n,bQ p],rfl,iQ<|fG<|aH<|aH<|au rfl<|bB<|bL (by lia)<|bD<|ao<|au rfl<|ao<|au rfl<|aF ?_ ⟩;refine hws (nms:=nms) rfl N s1 s2<|bL (by rw[GJ];lia)<|hK _ _ ⟨rfl,?_⟩
 have el:(Je nms ts)[i]?=Dn (Bc " " (n::wn nms p)):=by
  unfold Je;rw[Ds,qU en ep];rfl
 rw[Lh,el,Eu,<-cj (l:=wn nms p) (G7 _ _)];rfl;rintro acc h' ⟨rfl,rfl⟩;rw[ez,<-T.lnl,Li];refine nV<|cF ?_
 have l63:=zm N T.csz T.c4;refine aL<|aV<|aH<|bB<|bD<|ao<|au rfl<|ao<|au rfl<|aF ?_
 refine hws (nms:=nms) rfl N T.csz T.c4<|bL (by lia)<|nV<|cF ?_
 have ec:("claim " : Str)++Bc " " (wn nms cl)=clS nms cl:=by
  unfold clS Cl;rw[cj (l:=wn nms cl) (G7 _ _)];exact eX (by simp only[bV,GR];rfl)
 rw[ec];refine aL<|aV<|nW (λR q=>bB q)<|ao<|aH<|au rfl<|bY<|ao<|au rfl<|aF<|aX rfl<|jK ?_<|aF ?_
 rw[Ag,T.lnl];show _+1<=1000;lia;refine T.joinA (ls:=Ls nms ts++[Cl nms cl]) rfl ?_ (λl hl=>(Fv.mp hl).imp id Fk.mp) ?_<|nV<|cF ?_
 unfold Je;rw[Eu,Eu];rfl;rw[Dv,T.ll,Oe];lia;refine aL<|vI<|rY<|aH<|bY<|ao<|bD<|ao<|au rfl<|ao<|bB<|aF<|hca (by decide)<|aF<|aX rfl ?_
 refine j9<|au rfl<|dM<|bB<|uO<|dM<|bB<|uO<|KD<|jK ?_<|HN rfl<|rF ?_
 have:=zbO (ws:=ns.map W.int) (lo:=Dn 11) (hi:=Dn 22)
 rw[Ag]at this;show 1+_<=1000;lia;refine pB (λi U h'=>h'.c a=Dn (.lst<|ts.map bQ)/\a<h'.nx/\∃a9,U=[Dn<|.kls<|ns.map .int,Dn<|.loc b0,Dn<|.loc a,Dn<|.loc b,Dn<|.lst<|nms.map .str,Dn<|bQ cl,Dn<|.lst<|(Je nms ts).map .str,Dn<|.str<|clS nms cl,Dn<|.str<|O8 nms ts cl,a9]) ?_ ?_ ⟨ca5,ua5,Go,rfl⟩;rintro i w U h6 K hK e ⟨ca6,ua6,a9,rfl⟩;have hw:∃v,w=.int v:=by
  rcases Fv.mp (GK e)with hw|hw
  exact⟨_,Fk.mp hw⟩;obtain⟨v,_,rfl⟩:=Dy.mp (adh hw);exact⟨v,rfl⟩
 obtain⟨v,rfl⟩:=hw;refine nV<|aL<|dF<|nF<|lM<|bD<|ao<|bD<|ao<|bD<|ao<|au rfl<|aF ?_
 refine hbg λg1 bb gn go=>ao<|au rfl<|ao<|au rfl<|ao<|au rfl<|aF ?_
 refine hwr T tl1 bb (by rw[gn];exact PX _) λu g2 bu gr=>aF<|hrf bu<|Hl rfl<|qK<|cC<|cF ?_
 have a1:g1.c a=Dn (.lst (ts.map bQ)):=(go a (Cg ua6)).trans ca6;have u1:a<g1.nx:=by rw[gn];exact Nat.lt_succ_of_lt ua6
 have a2:g2.c a=Dn (.lst (ts.map bQ)):=(gr.2 a u1 (Cg ua6)).trans a1;have u2:a<g2.nx:=Df u1 gr.1;refine dF<|cD<|aH<|bD<|ao<|au rfl<|aF ?_
 refine hrd (Dp T.len<|by decide) (adS T.nm T.d.ahd (Ca T.c1).1 T.c4) (λs cl2 e1 e2 _ g4 a' b' TT=>?_)<|λz=>absurd T.okD<|z _ _ (wB T.nm T.d.ahd)<|DX T.nm T.c4
 rw[wB T.nm T.d.ahd]at e1;cases e1;rw[DX T.nm T.c4]at e2;cases e2;have T1:g4.c a'=Dn (.lst (ts.map bQ)):=TT.ca;have T2:g4.c b'=Dn (.lst (nms.map .str)):=TT.cb;have a4:g4.c a=Dn (.lst (ts.map bQ)):=(TT.kp.2 a u2).trans a2;refine dG<|ao<|au rfl<|ao<|au rfl<|ao<|au rfl<|aF<|aX rfl ?_
 exact zaL (xP T1) (xP T2) (Dg cl) (xP a4) rfl (Dg cl) (zaE ts) abb (Di cl) (yX ts) (acS nms) (CQ cl)<|oX<|Jr<|cC<|cF<|hK _ _ ⟨a4,Df u2 TT.kp.1,_,rfl⟩
 rintro U h' ⟨_,_,a9,rfl⟩;unfold DY;exact cF<|dU<|bB<|FP rfl
theorem Rq (ns:List Int)(hn:ns.length<=63):Jb [.kls (ns.map W.int)] g0 (λw _=>w=.bl true) EF:=
 have hr:RdX _:=acF (acV zP (T9 rH) zbq) (zbA zP (T9 rH) (zam zap)) Cp (zbp acj Cp)
 Yl hr abR Kc (zbC yg) (adX Kc (Vy yg) adR) (abk yg) zaQ (acn yg) (acE hr abf) ns hn
end My
namespace PySem.W.Fast
def tw16058738818732130936:=()
def tw5207082984166008374:=()
def tw7577318801064454029:=()
def tw10311638569277547613:=()
def tw17047306184229149953:=()
def tw6670772202540756272:=()
def tw1592260411717282931:=()
def tw5496140718309113905:=()
def tw15844261212007008979:=()
def tw6797354830440566285:=()
def tw2639855364806362939:=()
def tw31478506828608982:=()
def tw2290955400180200114:=()
def tw1787677472118430056:=()
def tw14243418913737232671:=()
def tw17376330271970322485:=()
def tw9955656550474254875:=()
def tw14663158655749580603:=()
def tw8021370473684447112:=()
def tw4515635303625439163:=()
def tw10020011938524286843:=()
def tw16995515655256485161:=()
def tw3843738758985033998:=()
def tw9876193796194577298:=()
def tw12373328285929657758:=()
def tw5526572759555710221:=()
def tw18339140073473011893:=()
def tw15523527791764884234:=()
def tw15740200241247867044:=()
def tw12409707267969880503:=()
def tw16021308455803259927:=()
def tw17537285789317178722:=()
def tw15025164736383747553:=()
def tw14391288540206860705:=()
def tw13688361435951679092:=()
def tw4370872338658432895:=()
def tw10523319599601204591:=()
def tw17991024095238443048:=()
def tw8966504713198837048:=()
def tw229341779567423137:=()
def tw4342148246083566356:=()
def tw3836738874216619899:=()
def tw594943733067464077:=()
def tw10484226048515824911:=()
def tw4190514977104515150:=()
def tw8401670329463343606:=()
def tw3803104486919779841:=()
def tw15905841081806360999:=()
def tw9802687872337805128:=()
def tw6360143412685233567:=()
def tw515487100196178134:=()
def tw15882990689041480334:=()
def tw2386067004220618304:=()
def tw2477427218463082740:=()
def tw2373533141382178839:=()
def tw8866189622821250043:=()
def tw15295585087643294199:=()
def tw4789819148380416614:=()
def tw9549881041518109971:=()
def tw2749182769523049546:=()
def tw17689358014613855123:=()
def tw1417211490938404348:=()
def tw778950633118583339:=()
def tw13763686494625104405:=()
def tw5269996154813917096:=()
def tw1771170037664334278:=()
def tw5600896407954131332:=()
def tw1499532333986155844:=()
def tw833217713697693697:=()
def tw6697792168513233189:=()
def tw2733424854373670381:=()
def tw7918071299056280253:=()
def tw9824930759331334179:=()
def tw14447843585760924845:=()
end PySem.W.Fast
open PySem PySem.W PyProof.Rows
theorem PySem.Challenge.cw_easelroom_k92_no_drawings_texts_holds : PySem.Challenge.rw_easelroom_k92_no_drawings_texts.Holds := by
 w_on;o_law;k_head;(case hw=>w_witness2)
 k_fill
 refine My.walk (l:=PySem.Challenge.rw_easelroom_k92_no_drawings_texts) rfl rfl (λw h Y=>PySem.W.kIn_of Y) ?F
 case F=>
  intro w mg fa h KX G hmg;refine' My.all_mk My.Rq KX G hmg ?a0 ?l0 ?c0 ?k0 ?a1 ?l1 ?c1 ?k1 ?a2 ?l2 ?c2 ?k2 ?a3 ?l3 ?c3 ?k3 ?a4 ?l4 ?c4 ?k4 ?a5 ?l5 ?c5 ?k5 ?a6 ?l6 ?c6 ?k6 ?a7 ?l7 ?c7 ?k7 ?a8 ?l8 ?c8 ?k8 ?a9 ?l9 ?c9 ?k9 ?a10 ?l10 ?c10 ?k10 ?a11 ?l11 ?c11 ?k11 ?a12 ?l12 ?c12 ?k12 ?a13 ?l13 ?c13 ?k13 ?a14 ?l14 ?c14 ?k14 ?a15 ?l15 ?c15 ?k15 ?a16 ?l16 ?c16 ?k16 ?a17 ?l17 ?c17 ?k17 ?a18 ?l18 ?c18 ?k18 ?a19 ?l19 ?c19 ?k19 ?a20 ?l20 ?c20 ?k20 ?a21 ?l21 ?c21 ?k21 ?a22 ?l22 ?c22 ?k22 ?a23 ?l23 ?c23 ?k23 ?z_ValueError ?z_all ?z_any ?z_bool ?z_int ?z_isinstance ?z_len ?z_list ?z_range ?z_str ?z_tuple ?z_zip ?gk_MADE ?sk_MADE ?lk_MADE ?gk_TAKEN ?sk_TAKEN ?lk_TAKEN ?lk_TAKEN_0 ?lk_TAKEN_1 ?lk_TAKEN_2 ?lk_TAKEN_3 ?lk_TAKEN_4 ?lk_TAKEN_5 ?lk_TAKEN_6 ?gk_CLAIMED ?sk_CLAIMED ?lk_CLAIMED ?lk_CLAIMED_0 ?lk_CLAIMED_0_0 ?lk_CLAIMED_0_1 ?lk_CLAIMED_0_2 ?lk_CLAIMED_1 ?lk_CLAIMED_1_0 ?lk_CLAIMED_1_1 ?lk_CLAIMED_2 ?lk_CLAIMED_2_0 ?lk_CLAIMED_3 ?lk_CLAIMED_3_0 ?lk_CLAIMED_4 ?lk_CLAIMED_4_0 ?lk_CLAIMED_5 ?lk_CLAIMED_5_0 ?gk_MOST_ROWS ?gk_MOST_FREE ?gk_FIGURES ?gk_SMALL_LETTERS ?gk_MOST_SIGNS ?gx_EaselError ?xd_EaselError ?gx_Nothing ?xd_Nothing ?gx_Stuck ?xd_Stuck ?gx_NoText ?xd_NoText ?xc_NoText ?xq_NoText ?gx_NoName ?xd_NoName ?gx_Short ?xd_Short
  (case a0|l0|c0|k0|a1|l1|c1|k1|a2|l2|c2|k2|a3|l3|c3|k3|a4|l4|c4|k4|a5|l5|c5|k5|a6|l6|c6|k6|a7|l7|c7|k7|a8|l8|c8|k8|a9|l9|c9|k9=>k_is)
  (case a10|l10|c10|k10|a11|l11|c11|k11|a12|l12|c12|k12|a13|l13|c13|k13|a14|l14|c14|k14|a15|l15|c15|k15|a16|l16|c16|k16|a17|l17|c17|k17|a18|l18|c18|k18|a19|l19|c19|k19=>k_is)
  (case a20|l20|c20|k20|a21|l21|c21|k21|a22|l22|c22|k22|a23|l23|c23|k23|z_ValueError|z_all|z_any|z_bool|z_int|z_isinstance|z_len|z_list|z_range|z_str|z_tuple|z_zip|gk_MADE=>k_is)
  (case sk_MADE=>rfl)
  (case lk_MADE|gk_TAKEN=>k_is)
  (case sk_TAKEN=>rfl)
  (case lk_TAKEN|lk_TAKEN_0|lk_TAKEN_1|lk_TAKEN_2|lk_TAKEN_3|lk_TAKEN_4|lk_TAKEN_5|lk_TAKEN_6|gk_CLAIMED=>k_is)
  (case sk_CLAIMED=>rfl)
  (case lk_CLAIMED|lk_CLAIMED_0|lk_CLAIMED_0_0|lk_CLAIMED_0_1|lk_CLAIMED_0_2|lk_CLAIMED_1|lk_CLAIMED_1_0|lk_CLAIMED_1_1|lk_CLAIMED_2|lk_CLAIMED_2_0|lk_CLAIMED_3|lk_CLAIMED_3_0|lk_CLAIMED_4|lk_CLAIMED_4_0|lk_CLAIMED_5|lk_CLAIMED_5_0|gk_MOST_ROWS|gk_MOST_FREE|gk_FIGURES|gk_SMALL_LETTERS|gk_MOST_SIGNS|gx_EaselError=>k_is)
  (case xd_EaselError=>kernel_rfl)
  (case gx_Nothing=>k_is)
  (case xd_Nothing=>kernel_rfl)
  (case gx_Stuck=>k_is)
  (case xd_Stuck=>kernel_rfl)
  (case gx_NoText=>k_is)
  (case xd_NoText|xc_NoText=>kernel_rfl)
  (case xq_NoText=>k_exc)
  (case gx_NoName=>k_is)
  (case xd_NoName=>kernel_rfl)
  (case gx_Short=>k_is)
  (case xd_Short=>kernel_rfl)
