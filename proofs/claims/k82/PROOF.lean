import PyProof.Rows.All
import Wide.All
import OpenK.AllK
import Wide.FinOn
import Lean
import PyProof.EqAt
import PyProof.EqKinds
import PyProof.TupleCall
import PySem.Challenge.RW_easelroom_k82_never_and_tied
set_option Elab.async false
set_option linter.all false
set_option maxRecDepth 100000
set_option maxHeartbeats 0
set_option compiler.extract_closed false
set_option genSizeOf false
theorem aPq(a:True:=by rfl)(b:True:=by decide)(c:True:=by with_unfolding_all rfl)(d:True:=by intro _;rfl)(e:True:=by with_unfolding_all assumption)(f:True:=by first|exact .inl rfl|exact .inr rfl|assumption):True:=trivial
local macro_rules | `(tactic| lia) => `(tactic| first | lia (splits := 9) | omega)
open Option renaming some→Go,none→JI
open PySem renaming wpAny_bind→Ac,Value→Mk,Shared→AP,wpAny_pure→Bj,Spec→ahj,starEach→Ck,Program→Cq,sizeLine→HB,wpAny→Bb,Around→Cw,model→Bg,mainGlobals→Iz,wpAny_holding→Ly,World→Cd,boot_len→NQ,NameKind→Oq,Builtin→Wy,wpAny_mono→Kv,wpAny_field→N7,wpAny_newObj_type→Rf,cellsFrom→Lw,wpAny_callSpecial?_slot→X8,mem_of_lookup→WL,assignEach→O4,wpAny_call_entry→SM,FuncData→ML,compareOp→N8,Paired→N6,codeAny_builtin→Rx,backTo→JD,PassesOwn→Zq,sysModules→QD,wpAny_typeOf→RJ,foldedSetIterable→Wt,plainId_quiet→Ru,wpAny_rule→Ql,binaryOp→Nx,wpAny_seqItems→W6,wpAny_Call_Name_kw→YF,attributeBase→W5,wpAny_pyIter_list→YB,wpAny_loadPart_at→Y8,bootBuiltins→W4,wpAny_attempt→Wn,Keyword→Od,wpAny_typeNameOfWhole_keyiter→qG,codeAny→PL,wpAny_setField_rec→YW,wpAny_passesOwn→Y0,keywordEach→Vz,DictEntry→Rq,behindInMarks→XR,cLine→Jz,wpAny_setField→Xy,SetTable→sV,wpAny_standAt→Xj,wpAny_Call_method_late→mH,wpAny_truthy_bool→Ys,typeLookup→Wb,builtinLookup_eq_fast→Zz,rawInt→QC,wpAny_execs_nil→Yz,swapsWith→Wg,sliceBounds→Xq,codeAny_mono→YQ,backToKw→Vy,Result→Qi,IsPair→Qh,firstArgMember→Yx,isInstance→Xn,call_meets→Xm,wpAny_throw→YK,holding→Te,excClassObj→YJ,merged→RG
open PySem.W renaming Frag→Az,nsIn→K7,Looks→YG,findIn→Nq,mg_none_of→Qm,keepIn→RB,mroIn→Qp,mg_of→Rv,clsIn→Wv,fnOf→Wk,looks_findIn→ZK,InstAt→Xr,looks_mroIn→Zf,hasDictIn→ZV,codeIn→Yc,isFn→Xl,typeIn→ZF
open List renaming length_map→Bo,getElem?_eq_getElem→Hw,getElem?_map→Hf,getD_eq_getElem?_getD→KD,map_append→IK,length_append→JK,getElem?_eq_some_iff→Lx,take_length→J8,mem_map→Hr,map_cons→Hz,take_succ→Ik,mem_cons_of_mem→Lq,replicate→J4,size_toArray→KH,getElem?_append_left→QF,mem_of_getElem?→O5,mem_cons→Kz,map_congr_left→Q6,mem_cons_self→Q0,map_map→Ky,length_take→Ou,eq_nil_of_length_eq_zero→VB,length_cons→PN,mem_singleton→QW,getElem?_append_right→V7,getElem_mem→QV,mem_append_left→Ri,range→Le,mem_append_right→W8,length_replicate→W7,pairwise_map→SQ,cons_lt_cons_iff→X7,filter_cons→SN,pairwise_cons→WD,mem_filter→SJ,drop_eq_getElem_cons→Y5,not_mem_nil→V4,any_eq_true→V2,lookup_cons→W0,mem_iff_getElem→Y4,nodup_cons→Wo,mem_append→Wx,length→Rb,exists_cons_of_ne_nil→Zu,all_eq_true→Xc,map_nil→V5,Pairwise→ajL,foldl_append→YD,getElem?_replicate→Zt,mem_range→Xa,take_of_length_le→ZM,length_range'→YZ,zipWith→Wi,range_succ→Xx,length_singleton→ZL,any_cons→XJ,mem_of_mem_take→Zg,zip_cons_cons→Zb,length_set→Yk,filter_append→Za,append_nil→Yj,reverse_cons→Yv,getElem?_set_ne→lX,forall_mem_cons→jT,length_zipWith→Zy,getElem?_range→Zx,forIn_cons→Yq,nodup_nil→ZC
open PySem.Heap renaming get?_push_of_some→HJ,get?_push_size→Il,lt_size→Hh,get?_update_other→P0,get?_update_self→RP,size_push→RQ,get?_none_of_le→X3,SameBut→W3,DictOfH→Xi,ExtBut→YM
open Nat renaming le_refl→Cm,le_trans→HW,lt_of_lt_of_le→Js,ne_of_lt→Ip,le_of_ble_eq_true→Ow,ne_of_gt→Nk,zero_le→Nz,lt_irrefl→Qo,le_of_lt→QX,not_lt_zero→Ry,lt_of_le_of_lt→Wu,le_succ→Ra,eq_of_beq_eq_true→ZG,beq→QS,zero_add→Xh,pow_le_pow_right→fM,le_of_eq→YT,pow_pos→YL,ble→Vx
open Option.some renaming inj→IV
open PySem.SeqAt renaming EqAt→Xf,ne_of_list_tuple→rP
open Option renaming map_eq_some_iff→S8,bind_some→Wq,map_some→Yr
open Lean renaming maxHeartbeats→air,maxRecDepth→alV
open Bool renaming false_ne_true→RM,and_eq_true→Rj,eq_iff_iff→Xv,not_eq_true→Ym,false_eq_true→ZW,and_false→YH
open PySem.PassesOwn renaming never→R8
open PySem.Builtin.SmallTypes renaming nextOf→Xe
open PyProof.Rows renaming arrOf→HI,slot_tuple_getitem→Yp,wpS_bind→LK,callWith_type1→Zm,wpS_pure→Oo,boot_tuple→R7,setArr→La,SortSt→M5,Keyed→JR,SortKind→XM,pairsOf→Qy,wpS_forRange→Xg,pendingOf→Wd,listItems_at→YS,kindOf→Qj,AllBare→Td,envOfC→RD
open PySem.Obj renaming data_mapFields→V8,isFreed_of_fields→X6,cls_mapFields→Yt,mapSeq→Xo
open Ne renaming symm→Jp
open PySem.Around renaming under_plainId→X5
open Array renaming getElem?_eq_getElem→Yo,length_toList→Ze
open List.cons renaming inj→V1
open Int renaming eq_ofNat_of_zero_le→Yn,mul_ne_zero→Xb,mul_le_mul_of_nonneg_right→tE,mul_eq_zero→Yh,emod_nonneg→Ye,emod_lt_of_pos→ZR,gcd→Vv
open PySem.F renaming slot_dict_keyiterator_next→Zk,slot_tuple_iterator_next→tL,attrBase_ValueError→qY,store_object→ZJ,slot_zip_next→oh,slot_dict_get→nU
open List.Pairwise renaming imp_of_mem→Zv
open Prod renaming ext→QT
open False renaming elim→S7
open PySem.Paired renaming length→XQ
open PySem.Builtin.Tuple renaming tupleExact→pH
open Decidable renaming byContradiction→pF
open PySem.Calls renaming evalArgs_plain→Zj,callWith_builtin→p8
open PySem.Builtin.Dict renaming updateFrom→tB
open PySem.SetTable renaming bits→Xz
open PySem.Heap.SameBut renaming update→nP
open Lean in
local macro_rules | `(command| def $i:declId $s:optDeclSig $v:declVal) => do
  let g:TSyntax ``Parser.Command.declSig := ⟨mkNode ``Parser.Command.declSig #[s.raw[0],s.raw[1][0]]⟩
  let c ← `(command| theorem $i $g $v:declVal)
  return c.raw.rewriteBottomUp fun x => x.setInfo .none
open Lean in
local macro_rules | `(command| abbrev $i:declId $s:optDeclSig $v:declVal) => do
  let c ← `(command| noncomputable def $i:declId $s:optDeclSig $v:declVal)
  return c.raw.rewriteBottomUp fun x => x.setInfo .none
open Lean in
local macro_rules | `(command| universe $x*) => do return (mkNullNode (← x.mapM fun i => `(command| theorem $i:ident : True := ⟨⟩))).rewriteBottomUp fun x => x.setInfo .none
namespace L2
open PySem PySem.Spec PyProof.Rows
@[reducible]noncomputable def Key:=Sum Int Str
abbrev HX:Key->Mk->Bool
 | .inl k,v=>Value.isInt k v
 | .inr x,v=>Value.isStrOf x v
abbrev ag0 (w:Cd):Key->Int
 | .inl k=>hashInt k
 | .inr x=>hashStr w x
def cC:∀{k v},HX k v=true->(∃i t,k=Sum.inl i/\v=Value.int i t)\/(∃x t,k=Sum.inr x/\v=Value.str x t)
 | .inl i,v,h=>by
  obtain⟨t,e⟩:=Value.isInt_shape h;simp_all
 | .inr x,v,h=>by
  obtain⟨t,e⟩:=Value.isStrOf_shape h;simp_all
def zaL (i)(t):HX (.inl i) (.int i t)=true:=by simp[HX,Value.isInt]
def akb (x)(t):HX (.inr x) (.str x t)=true:=by simp[HX,Value.isStrOf]
def ade (a b):decide ((Sum.inl a:Key)=Sum.inl b)=(a==b):=by grind
def adk (a b):decide ((Sum.inr a:Key)=Sum.inr b)=decide (a=b):=by simp_all
def aa5 (a:Int)(b:Str):decide ((Sum.inl a:Key)=Sum.inr b)=false:=rfl
def abk (a)(b):decide ((Sum.inr a:Key)=Sum.inl b)=false:=rfl
abbrev bV (prog:Cq)(w:Cd):PySem.KeyKind prog w Key where
 is:=HX
 hash:=ag0 w
 inj:=λv a b ha hb=>by
  rcases cC ha with⟨i,t,rfl,rfl⟩|⟨x,t,rfl,rfl⟩
  rcases cC hb with⟨j,u,rfl,e⟩|⟨y,u,rfl,e⟩
  injection e with e1 _;rw[e1]
  exact nomatch e
  rcases cC hb with⟨j,u,rfl,e⟩|⟨y,u,rfl,e⟩
  exact nomatch e
  injection e with e1 _;rw[e1]
 byValue:=λk v h=>by
  rcases cC h with⟨i,t,rfl,rfl⟩|⟨x,t,rfl,rfl⟩<;>rfl
 pyHash:=λhv h=>by
  rcases cC hv with⟨i,t,rfl,rfl⟩|⟨x,t,rfl,rfl⟩
  exact wpAny_pyHash_int h;exact wpAny_pyHash_str h
 eqBool:=λhu hv h=>by
  rcases cC hu with⟨i,t,rfl,rfl⟩|⟨x,t,rfl,rfl⟩
  rcases cC hv with⟨j,u,rfl,rfl⟩|⟨y,u,rfl,rfl⟩
  rw[ade]at h;exact wpAny_eqBool_int h;rw[aa5]at h;exact SeqAt.EqAt.int_str i t y u _ _ _ _ h;rcases cC hv with⟨j,u,rfl,rfl⟩|⟨y,u,rfl,rfl⟩
  rw[abk]at h;exact SeqAt.EqAt.str_int x t j u _ _ _ _ h;rw[adk]at h;exact wpAny_eqBool_str h
 «strs»:=λk x t v h=>by
  rcases cC h with⟨i,u,rfl,e⟩|⟨y,u,rfl,e⟩
  exact nomatch e
  injection e with e1 _
  subst e1;cases v<;>rfl
def zaf (prog)(w)(i)(t):(bV prog w).is (.inl i) (.int i t)=true:=zaL i t
def zal (prog)(w)(x)(t):(bV prog w).is (.inr x) (.str x t)=true:=akb x t
inductive V where
 | non|bl (b:Bool)|int (i:Int)|str (x:Str)|byt (b:Array UInt8)|flt (b:UInt64)|ref (a:Addr)|ty (n:String)
 deriving DecidableEq
abbrev RelV:V->Mk->Prop
 | .non,u=>u=Value.none
 | .bl b,u=>u=Value.bool b
 | .int i,u=>∃t,u=Value.int i t
 | .str x,u=>∃t,u=Value.str x t
 | .byt b,u=>∃t,u=Value.bytes b t
 | .flt b,u=>∃t,u=Value.float b t
 | .ref a,u=>u=Value.ref a
 | .ty n,u=>u=Value.type n
@[reducible]noncomputable def BL:List V->List Mk->Prop:=N6 RelV
variable {xs:List V}{us:List Mk}
def BL.length {xs}{us}(r:BL xs us):xs.length=us.length:=XQ r
def BL.get:∀{xs}{us}{i:Nat}{x},BL xs us->xs[i]?=Go x->∃u,us[i]?=Go u/\RelV x u
 | _,_,0,_,.cons r _,e=>by simp at e;subst e;exact⟨_,rfl,r⟩
 | _,_,i+1,x,.cons _ t,e=>by
  obtain⟨u,h1,h2⟩:=BL.get t (by simpa using e)
  simp_all
variable {u:Mk}
def BL.set {x}{u}(r:RelV x u):∀{xs}{us}(i),BL xs us->BL (xs.set i x) (us.set i u)
 | _,_,_,.nil=>.nil
 | _,_,0,.cons _ t=>.cons r t
 | _,_,i+1,.cons q t=>.cons q (BL.set r i t)
def BL.append:∀{xs ys}{us ws},BL xs us->BL ys ws->BL (xs++ys) (us++ws)
 | _,_,_,_,.nil,s=>s
 | _,_,_,_,.cons r t,s=>.cons r (BL.append t s)
def BL.take:∀{xs}{us}(n),BL xs us->BL (xs.take n) (us.take n)
 | _,_,0,_|_,_,_+1,.nil=>.nil
 | _,_,n+1,.cons r t=>.cons r (BL.take n t)
def BL.drop:∀{xs}{us}(n),BL xs us->BL (xs.drop n) (us.drop n)
 | _,_,0,r=>r
 | _,_,_+1,.nil=>.nil
 | _,_,n+1,.cons _ t=>BL.drop n t
abbrev Pu:Option V->Option Mk->Prop
 | some v,Go u=>RelV v u
 | none,JI=>True
 | _,_=>False
variable {κ:Type}
abbrev KV:List (κ×V)->List (κ×Mk)->Prop:=N6 λ(p:κ×V) (q:κ×Mk)=>p.1=q.1/\RelV p.2 q.2
abbrev kV:Key->V
 | .inl i=>.int i
 | .inr x=>.str x
inductive HO where
 | lst (xs:List V)
 | tup (xs:List V)
 | dK (kvs:List (Key×V))|dT (kvs:List (List Key×V))
 | set (S:Int->Bool) (n:Nat)
 | ins (C dx:Addr) (fs:List (Str×V))
 | own (x:Addr)
 | xd (fs:List (Str×V))
 | met (f x:Addr)
 | rng (lo hi:Int)
 | frz (o:Obj) (u:HO)
 | tbl (ps:Array Mk)
 | ext (φ:Heap->Prop)
@[reducible]noncomputable def Hp:=Addr->Option HO
abbrev Cu (H:Hp)(a:Addr)(o:HO):Hp:=λb=>if b=a then Go o else H b
variable {a:Addr}{H:Hp}
def aU {o:HO}:Cu H a o a=Go o:=by unfold Cu;rw[if_pos rfl]
variable {b:Addr}
def aN {o}(h:b≠a):Cu H a o b=H b:=by unfold Cu;rw[if_neg h]
def aQ {o}(h:H a=Go o)(h':H b=JI):a≠b:=by lia
section
variable (P:Cq)(w:Cd)
abbrev Om (h:Heap)(a:Addr)(items:Array Mk):Prop:=∃o,h.get? a=Go o/\o.cls=.type "tuple"/\(∃n,o.data=.seq items n)/\o.dict=JI
def Om.tup {h}{items}(x:Om h a items):IsTup h a items:=let⟨o,J,S,O,_⟩:=x;⟨o,J,S,O⟩
def Om.new (h:Heap)(items:Array Mk):Om (h.push {cls:=.type "tuple",data:=.seq items}) h.objs.size items:=⟨_,Il _ rfl,rfl,⟨_,rfl⟩,rfl⟩
abbrev fH (H:Hp)(h:Heap)(a:Addr):HO->Prop
 | .lst xs=>xs.length<=HB/\∃(its:List Mk) (n:Nat),BL xs its/\h.get? a=Go {cls:=.type "list",data:=.seq its.toArray n}
 | .tup xs=>xs.length<=HB/\∃its:List Mk,BL xs its/\Om h a its.toArray
 | .dK kvs=>kvs.length<=HB/\(a==QD)=false/\∃vs,KV kvs vs/\h.DictOf (bV P w) a vs
 | .dT kvs=>kvs.length<=HB/\(a==QD)=false/\∃xs:List (List Key×Addr×Mk),
   N6 (λ(p:List Key×V) (q:List Key×Addr×Mk)=>p.1=q.1/\H q.2.1=Go (.tup (p.1.map kV))/\RelV p.2 q.2.2) kvs xs /\
   ∃o es ep,h.get? a=Go o/\o.ExactDict/\o.data=.dict es ep/\es.toList=xs.map (entryOfKey (tupleKind (bV P w)))/\(xs.map (·.1)).Nodup
 | .set S n=>h.SetOf (intKind P w) a S n
 | .ins C dx fs=>H dx=Go (.own a)/\fs.length<=1000/\dx≠a/\h.get? a=Go (PySem.W.instObj C dx) /\
   ∃mA,h.Ns1 dx mA/\(∀f,Pu (fs.lookup f) (mA f))/\PySem.Within mA (fs.map (·.1))
 | .own _=>∃o,h.get? a=Go o
 | .xd fs=>∃mA,h.Ns1 a mA/\∀f,Pu (fs.lookup f) (mA f)
 | .rng lo hi=>∃t u v,h.get? a=Go {cls:=.type "range",data:=.fields #[.int lo t,.int hi u,.int 1 v]}
 | .frz o u=>h.get? a=Go o/\fH H h a u
 | .tbl ps=>h.get? a=Go {cls:=.none,data:=.fields ps}
 | .met f x=>h.get? a=Go (PySem.W.methodObj (.ref f) (.ref x))
 | .ext φ=>φ h/\(∃o,h.get? a=Go o)/\∀h1 h2:Heap,φ h1->(∀o,h1.get? a=Go o->h2.get? a=Go o)->φ h2
abbrev Kg (H:Hp)(h:Heap):Prop:=∀a o,H a=Go o->fH P w H h a o
end
variable {h:Heap}
section
variable {P:Cq}{w:Cd}{H':Hp}{h':Heap}{o:HO}
def fH.lt (x:fH P w H h a o):a<h.objs.size:=by
 cases o with
 | lst xs=>obtain⟨_,_,_,_,e⟩:=x;exact Hh e
 | tup xs=>obtain⟨_,_,_,p⟩:=x;exact p.tup.lt
 | dK kvs|dT kvs=>obtain⟨_,_,_,_,o,_,_,e,_⟩:=x;exact Hh e
 | set S n=>obtain⟨o,_,_,_,e,_⟩:=x;exact Hh e
 | ins C dx fs=>obtain⟨_,_,_,e,_⟩:=x;exact Hh e
 | own y=>obtain⟨_,e⟩:=x;exact Hh e
 | xd fs=>obtain⟨_,⟨_,_,_,e,_⟩,_⟩:=x;exact Hh e
 | rng lo hi=>obtain⟨_,_,_,e⟩:=x;exact Hh e
 | frz O u=>obtain⟨e,_⟩:=x;exact Hh e
 | tbl ps|met f y=>exact Hh x
 | ext J=>obtain⟨_,⟨_,e⟩,_⟩:=x;exact Hh e
def Paired.mapP {U S:Type}{F G:U->S->Prop}:∀{O:List U}{J:List S},N6 F O J->(∀a b,F a b->G a b)->N6 G O J
 | _,_,.nil,_=>.nil
 | _,_,.cons r t,f=>.cons (f _ _ r) (Paired.mapP t f)
def fH.stay (x:fH P w H h a o)(k:∀b u,(b=a\/H b=Go (.own a))->h.get? b=Go u->h'.get? b=Go u)
  (Y:∀b,H b=Go (.own a)->H' b=Go (.own a)) (ht:∀b xs,H b=Go (.tup xs)->H' b=Go (.tup xs)):fH P w H' h' a o:=by
 induction o with
 | lst xs=>obtain⟨z,its,n,r,e⟩:=x;exact⟨z,its,n,r,k _ _ (.inl rfl) e⟩
 | tup xs=>obtain⟨z,its,r,J,e,c⟩:=x;exact⟨z,its,r,J,k _ _ (.inl rfl) e,c⟩
 | dK kvs=>obtain⟨z,y,vs,r,J,es,ep,e,c⟩:=x;exact⟨z,y,vs,r,J,es,ep,k _ _ (.inl rfl) e,c⟩
 | dT kvs=>
  obtain⟨z,y,xs,r,J,es,ep,e,c⟩:=x;exact⟨z,y,xs,Paired.mapP r λp q z=>⟨z.1,ht _ _ z.2.1,z.2.2⟩,J,es,ep,k _ _ (.inl rfl) e,c⟩
 | set S n=>obtain⟨J,es,ep,t,e,c⟩:=x;exact⟨J,es,ep,t,k _ _ (.inl rfl) e,c⟩
 | ins C dx fs=>
  obtain⟨d,z,O,e,mA,⟨od,es,ep,e2,c⟩,r⟩:=x;exact⟨Y _ d,z,O,k _ _ (.inl rfl) e,mA,⟨od,es,ep,k _ _ (.inr d) e2,c⟩,r⟩
 | own y=>obtain⟨J,e⟩:=x;exact⟨J,k _ _ (.inl rfl) e⟩
 | xd fs=>obtain⟨mA,⟨od,es,ep,e,c⟩,r⟩:=x;exact⟨mA,⟨od,es,ep,k _ _ (.inl rfl) e,c⟩,r⟩
 | rng lo hi=>obtain⟨t,u,v,e⟩:=x;exact⟨t,u,v,k _ _ (.inl rfl) e⟩
 | frz J u U=>obtain⟨e,q⟩:=x;exact⟨k _ _ (.inl rfl) e,U q⟩
 | tbl ps|met f y=>
  have e:=x;exact k a _ (.inl rfl) e
 | ext g=>obtain⟨p,⟨o,e⟩,st⟩:=x;exact⟨st _ _ p λo q=>k _ _ (.inl rfl) q,⟨o,k _ _ (.inl rfl) e⟩,st⟩
def Kg.lt (x:Kg P w H h)(e:H a=Go o):a<h.objs.size:=(x a o e).lt
def Kg.fresh (x:Kg P w H h)(e:h.objs.size<=a):H a=JI:=by
 cases q:H a with
 | none=>rfl
 | some u=>exact absurd (Js (x.lt q) e) (Qo _)
def Kg.kept (x:Kg P w H h)(k:∀b u,h.get? b=Go u->h'.get? b=Go u):Kg P w H h':=λa o e=>
 (x a o e).stay (λb u _ q=>k b u q) (λ_ q=>q) λ_ _ q=>q
def Kg.laid (x:Kg P w H h)(k:∀b u,h.get? b=Go u->h'.get? b=Go u)(U:h.objs.size<=a)(J:fH P w (Cu H a o) h' a o):Kg P w (Cu H a o) h':=λb u e=>by
 have O:=x.fresh U;by_cases S:b=a
 subst S;rw[aU]at e;cases e;exact J;rw[aN S]at e;exact(x b u e).stay (λc v _ q=>k c v q) (λc q=>aN (aQ q O) ▸ q) λc xs q=>aN (aQ q O) ▸ q
end
variable {h':Heap}{H':Hp}{P:Cq}{w:Cd}
abbrev Rd (H:Hp)(a:Addr)(u:HO):Prop:=H a=Go u\/∃o,H a=Go (.frz o u)
def Rd.of {u}(h:H a=Go u):Rd H a u:=.inl h
def Rd.ok {u}(r:Rd H a u)(x:Kg P w H h):fH P w H h a u:=by
 rcases r with r|⟨o,r⟩
 exact x a u r;obtain⟨_,q⟩:=x a _ r;exact q
abbrev Mut:Option HO->Prop
 | some (.lst _)=>True
 | some (.dK _)=>True
 | some (.dT _)=>True
 | some (.set _ _)=>True
 | some (.ins _ _ _)=>True
 | some (.ext _)=>True
 | some (.xd _)=>True
 | _=>False
section
variable {x e:Addr}{o':HO}
def Kg.write (f:Kg P w H h)(O:Mut (H x))(i:e=x\/H e=Go (.own x))(k:∀b u,b≠e->h.get? b=Go u->h'.get? b=Go u)(U:∃u,h'.get? e=Go u)
  (S:fH P w (Cu H x o') h' x o'):Kg P w (Cu H x o') h':=λb u q=>by
 have J:∀c y,H c=Go (.own y)->c≠x:=λc y r z=>by subst z;rw[r]at O;exact O
 by_cases d:b=x
 subst d;rw[aU]at q;cases q;exact S;rw[aN d]at q;by_cases Y:b=e
 have a:H b=Go (.own x):=by
  simp_all
 rw[q]at a;cases a;obtain⟨v,g⟩:=U;exact⟨v,Y ▸ g⟩;refine(f b u q).stay (λc v j r=>k c v ?_ r) (λc r=>aN (J c b r) ▸ r) λc xs r=>by rw[aN ((λc xs r z=>by subst z;rw[r]at O;exact O) c xs r)];exact r
 grind
end
structure Un (fs ex:List Addr) (H H':Hp) (h h':Heap):Prop where
 keep:∀b o,h.get? b=Go o->H b=JI->b∉fs->b∉ex->h'.get? b=Go o
 slot:∀b o,h.get? b=Go o->H b=JI->b∈fs->b∉ex->∃sl,h'.get? b=Go {o with slots:=sl}
 free:∀b o,h.get? b=Go o->H b=JI->b∉ex->H' b=JI
 there:∀b o,h.get? b=Go o->b∉ex->∃o',h'.get? b=Go o'
 tups:∀b xs,H b=Go (.tup xs)->H' b=Go (.tup xs)
 frzs:∀b o u,H b=Go (.frz o u)->H' b=Go (.frz o u)
 tbls:∀b ps,H b=Go (.tbl ps)->∃more,H' b=Go (.tbl (ps++more))
section
variable {fs fs' ex ex':List Addr}{H1 H2:Hp}{h1 h2:Heap}{x e:Addr}{o:HO}
def Un.any (u:Un fs ex H H1 h h1){J}(q:h.get? b=Go J)(n:H b=JI)(O:b∉ex):∃sl,h1.get? b=Go {J with slots:=sl}:=by
 by_cases S:b∈fs
 exact u.slot b J q n S O;exact⟨J.slots,u.keep b J q n S O⟩
def Un.kept (k:∀b u,h.get? b=Go u->h'.get? b=Go u):Un fs ex H H h h':=
 ⟨λb J q _ _ _=>k b J q,λb J q _ _ _=>⟨J.slots,k b J q⟩,λ_ _ _ n _=>n,λb J q _=>⟨J,k b J q⟩,λ_ _ q=>q,λ_ _ _ q=>q,λ_ ps q=>⟨#[],by rw[q];simp⟩⟩
def Un.refl:Un fs ex H H h h:=Un.kept λ_ _ q=>q
def Un.laid (k:∀b u,h.get? b=Go u->h'.get? b=Go u)(f:h.objs.size<=a)(O:H a=JI):Un fs ex H (Cu H a o) h h' where
 keep:=λb u q _ _ _=>k b u q
 slot:=λb u q _ _ _=>⟨u.slots,k b u q⟩
 free:=λb u q n _=>aN (Ip (Js (Hh q) f)) ▸ n
 there:=λb u q _=>⟨u,k b u q⟩
 tups:=λb xs q=>aN (aQ q O) ▸ q
 frzs:=λb u xs q=>aN (aQ q O) ▸ q
 tbls:=λb ps q=>⟨#[],by rw[aN (aQ q O),q];simp⟩
def Un.write (J:Mut (H x))(a:e=x\/H e=Go (.own x))(k:∀b u,b≠e->h.get? b=Go u->h'.get? b=Go u)(Y:∃u,h'.get? e=Go u):Un fs ex H (Cu H x o) h h':=by
 have U:∀b,H b=JI->b≠x:=λb n z=>by subst z;rw[n]at J;exact J
 have S:∀b,H b=JI->b≠e:=λb n z=>by
  simp_all
 have O:∀b u,H b=Go u->¬Mut (Go u)->b≠x:=λb u q nm z=>by subst z;rw[q]at J;exact nm J
 refine⟨λb u q n _ _=>k b u (S b n) q,λb u q n _ _=>⟨u.slots,k b u (S b n) q⟩,λb u q n _=>aN (U b n) ▸ n,λb u q _=>?_,
  λb xs q=>aN (O b _ q λz=>z) ▸ q,λb u xs q=>aN (O b _ q λz=>z) ▸ q,λb ps q=>⟨#[],by rw[aN (O b _ q λz=>z),q];simp⟩⟩
 grind
end
abbrev trk (h:Heap)(H:Hp):List Addr:=(Le h.objs.size).filter λa=>(H a).isSome
abbrev Z8 (h:Heap)(H:Hp):Heap:=PySem.W.hideAll h (trk h H)
def zaP (h)(H):(Z8 h H).objs.size=h.objs.size:=PySem.W.hideAll_size _ _
def akG {o}(e:h.get? b=Go o)(n:H b=JI):(Z8 h H).get? b=Go o:=
 PySem.W.hideAll_get _ e λhm=>by
  have q:=(SJ.mp hm).2;simp_all
def akU {o}(e:(Z8 h H).get? b=Go o):h.get? b=Go o/\H b=JI:=by
 have e':=PySem.W.of_hideAll _ e;refine⟨e',?_⟩;cases q:H b with
 | none=>rfl
 | some x=>
  have z:(Z8 h H).get? b=JI:=PySem.W.hideAll_none _ (SJ.mpr ⟨Xa.mpr (Hh e'),by simp[q]⟩);simp_all
structure Mod (K:Az) (mg:Str->Option Mk) (base:Heap):Prop where
 kin:K.In base
 glob:base.Ns Iz mg
 blt:∃mb,base.Ns builtinsNs mb/\∀x:Str,x ≠ "__name__"->mb x=W4 x
 nolimit:base.NoLimit
structure Cx where
 prog:Cq
 w:Cd
 K:Az
 mg:Str->Option Mk
 base:Heap
 A:Cw
 N:List Str
 s₀:AP
 H₀:Hp
 env:Env
 outer:List Env
 stack:List Env
 ex:List Addr
 fn:Str->Bool
 calm:Bool
 pn:List (Addr×Obj)
 xe:Mk->AP->Prop
abbrev frs (l:List Env):List Addr:=l.filterMap (·.frame)
@[reducible]noncomputable def Cx.fs (X:Cx):List Addr:=frs X.outer
abbrev Vis (sc:Scope)(x:Str):Prop:=sc.names.lookup x=Go .local\/sc.names.lookup x=Go .cell\/sc.names.lookup x=Go .free
abbrev Loc (sc:Scope)(x:Str):Prop:=sc.names.lookup x=Go .local\/sc.names.lookup x=Go .cell
abbrev Look (env:Env)(h:Heap)(m:Str->Option Mk)(x:Str)(u:Mk):Prop:=
 (env.kindOf x=Go .local/\m x=Go u)\/((env.kindOf x=Go .cell\/env.kindOf x=Go .free)/\∃c,env.cells.lookup x=Go c/\h.IsCell c (Go u))
inductive QZ (H:Hp):Mk->Prop
 | nil:QZ H .none
 | cons {c:Addr}{o:Obj}{u:HO}{vs:Array Mk}{z:Mk}(h1:H c=Go (.frz o u)) (h2:o.data=.fields vs) (h3:vs[2]?=Go z) (t:QZ H z):QZ H (.ref c)
def QZ.mono {v:Mk}(c:QZ H v)(k:∀a o u,H a=Go (.frz o u)->H' a=Go (.frz o u)):QZ H' v:=by
 induction c with
 | nil=>exact .nil
 | cons h1 h2 O _ J=>exact .cons (k _ _ _ h1) h2 O J
abbrev Still (H:Hp)(v:Mk):Prop:=(∃a,v=.ref a)/\QZ H v
abbrev Quiet (A:Cw)(H:Hp):Prop:=∀v,A.handled=Go v->Still H v
structure Cx.Ok (X:Cx):Prop where
 mod:Mod X.K X.mg X.base
 kind:X.env.scope.kind=.function
 glob:X.env.globals=Iz
 blt:X.env.builtins=builtinsNs
 above:X.s₀.heap.objs.size<=X.env.locals
 inj:∀x y c,X.env.cells.lookup x=Go c->X.env.cells.lookup y=Go c->x=y
 has:∀x,(X.env.kindOf x=Go .cell\/X.env.kindOf x=Go .free)->∃c,X.env.cells.lookup x=Go c
 cab:∀x c,X.fn x=true->X.env.cells.lookup x=Go c->X.s₀.heap.objs.size<=c
 hd:X.calm=true->X.A.handled=JI
 qt:Quiet X.A X.H₀
 frames:X.A.frames=Go X.stack
 stk:X.stack=X.outer\/(X.stack=X.env::X.outer/\X.env.frame=Go X.env.locals)
 exf:∀b∈X.ex,b≠X.env.locals/\∀x c,X.env.cells.lookup x=Go c->c≠b
 bs:∀b o,X.base.get? b=Go o->X.s₀.heap.get? b=Go o/\X.H₀ b=JI
 bsz:X.base.objs.size<=X.s₀.heap.objs.size
 noex:∀b o,X.base.get? b=Go o->b∉X.ex
 exfs:∀b∈X.ex,b∉X.fs
 funs:X.s₀.heap.FunFrames X.base X.outer
 frf:∀b∈X.fs,X.H₀ b=JI
structure Aw (X:Cx) (anq:List (Addr×Obj)) (σ:List (Option V)) (H:Hp) (s:AP):Prop where
 ok:X.Ok
 os:s.os=X.s₀.os
 bare:Td s.gens
 base:Un X.fs X.ex X.H₀ H X.s₀.heap s.heap
 loc:∃m,s.heap.Ns X.env.locals m/\∀(i:Nat) (x:Str) (v:V),X.N[i]?=Go x->σ[i]?=Go (Go v)->Vis X.env.scope x->∃u,RelV v u/\Look X.env s.heap m x u
 cell:∀x c,X.env.cells.lookup x=Go c->∃v,s.heap.IsCell c v
 free:H X.env.locals=JI
 freeC:∀x c,X.env.cells.lookup x=Go c->H c=JI
 pin:∀p∈X.pn++anq,s.heap.get? p.1=Go p.2/\H p.1=JI/\p.1≠X.env.locals/\p.1∉X.fs/\∀v,p.2.data≠.cell v
 hok:Kg X.prog X.w H s.heap
 len:σ.length=X.N.length
section
variable {X:Cx}{anq:List (Addr×Obj)}{σ:List (Option V)}{s:AP}
def Cx.Ok.nofr (J:X.Ok){o}(e:X.base.get? b=Go o):b∉X.fs:=λhb=>by
 have:=(J.funs.mem hb).1
 simp_all
def Aw.bs (I:Aw X anq σ H s):∀b o,X.base.get? b=Go o->s.heap.get? b=Go o/\H b=JI:=λb o e=>
 ⟨I.base.keep b o (I.ok.bs b o e).1 (I.ok.bs b o e).2 (I.ok.nofr e) (I.ok.noex b o e),I.base.free b o (I.ok.bs b o e).1 (I.ok.bs b o e).2 (I.ok.noex b o e)⟩
def Aw.qt0 (I:Aw X anq σ H s):Quiet X.A H:=λv e=>⟨(I.ok.qt v e).1,(I.ok.qt v e).2.mono I.base.frzs⟩
def Aw.bk (I:Aw X anq σ H s):∀b o,X.base.get? b=Go o->s.heap.get? b=Go o:=λb o e=>(I.bs b o e).1
def Aw.mod (I:Aw X anq σ H s):Mod X.K X.mg X.base:=I.ok.mod
def Aw.kIn (I:Aw X anq σ H s):X.K.In s.heap:=I.ok.mod.kin.keeps I.bk
def Aw.lt (I:Aw X anq σ H s):X.env.locals<s.heap.objs.size:=let⟨_,J,_⟩:=I.loc;J.lt
def Aw.sz (I:Aw X anq σ H s):X.s₀.heap.objs.size<=s.heap.objs.size:=HW I.ok.above (QX I.lt)
def Aw.nofs (I:Aw X anq σ H s)(h:s.heap.objs.size<=a):a∉X.fs:=λhb=>by
 obtain⟨_,o,J,_⟩:=I.ok.funs.mem hb;exact absurd (Js (Hh J)<|HW I.sz h)<|Qo _
def Aw.cne (I:Aw X anq σ H s):∀x c,X.env.cells.lookup x=Go c->c≠X.env.locals:=λx c e z=>by
 obtain⟨v,o,S,U⟩:=I.cell x c e;obtain⟨m,⟨o',es,ep,J,O,_⟩,_⟩:=I.loc;simp_all
def Aw.funs (I:Aw X anq σ H s):s.heap.FunFrames X.base X.outer:=by
 have U:∀(l:List Env),(∀b∈frs l,b∈X.fs)->X.s₀.heap.FunFrames X.base l->s.heap.FunFrames X.base l:=by
  intro l;induction l with
  | nil=>intro _ _;trivial
  | cons env r a=>
   intro Y g;obtain⟨h,⟨L,o,J,f,d,i⟩,c⟩:=g;have S:=Y L (by unfold frs;rw[List.filterMap_cons,J];exact Q0);obtain⟨sl,e⟩:=I.base.slot L o d (I.ok.frf L S) S λz=>I.ok.exfs L z S
   exact⟨h,⟨L,_,J,f,e,i⟩,a (λb O=>Y b (by unfold frs;rw[List.filterMap_cons,J];exact Lq _ O)) c⟩
 exact U _ (λ_ O=>O) I.ok.funs
def Aw.stack (I:Aw X anq σ H s):s.heap.FunFrames X.base X.stack:=by
 rcases I.ok.stk with e|⟨e,O⟩
 rw[e];exact I.funs;rw[e];obtain⟨m,J,_⟩:=I.loc;refine .cons (by rw[I.ok.kind];decide) O J ?_ I.funs;exact X3<|HW I.ok.bsz I.ok.above
def Aw.stkSub (I:Aw X anq σ H s):∀b∈frs X.stack,b∈X.env.locals::X.fs:=λb J=>by
 rcases I.ok.stk with e|⟨e,O⟩
 simp_all
 rw[e]at J;unfold frs at J
 rwa[List.filterMap_cons,O]at J
def Aw.stkFree (I:Aw X anq σ H s):∀b∈frs X.stack,H b=JI:=λb J=>by
 rcases Kz.mp (I.stkSub b J)with e|J
 rw[e];exact I.free;obtain⟨_,o,O,_⟩:=I.ok.funs.mem J;exact I.base.free b o O (I.ok.frf b J) λz=>I.ok.exfs b z J
def Aw.stepG {N t'}{d'}{ch:List Addr}(I:Aw X anq σ H s)
  (Y:∀b∈ch,(b∈X.ex\/X.s₀.heap.get? b=JI)/\b≠X.env.locals/\(∀x c,X.env.cells.lookup x=Go c->c≠b)/\∀p∈X.pn++anq,p.1≠b)
  (U:∀b o,b≠X.env.locals->b∉X.fs->b∉ch->s.heap.get? b=Go o->H b=JI->h'.get? b=Go o)
  (g:∀b o,b≠X.env.locals->b∈X.fs->b∉ch->s.heap.get? b=Go o->H b=JI->∃sl,h'.get? b=Go {o with slots:=sl}) (O:∀b o,b∉ch->s.heap.get? b=Go o->H b=JI->H' b=JI)
  (h:∀b o,b∉ch->s.heap.get? b=Go o->∃o',h'.get? b=Go o')
  (w:∀b xs,H b=Go (.tup xs)->H' b=Go (.tup xs)) (B:∀b o u,H b=Go (.frz o u)->H' b=Go (.frz o u)) (y:∀b ps,H b=Go (.tbl ps)->∃more,H' b=Go (.tbl (ps++more)))
  (ns:∀m,s.heap.Ns X.env.locals m->h'.Ns X.env.locals m) (D:Kg X.prog X.w H' h') (R:Td N) :
  Aw X anq σ H' {s with heap:=h',gens:=N,drawn:=d',toks:=t'}:=by
 have A:∀b o,X.s₀.heap.get? b=Go o->b≠X.env.locals:=λb o e=>Ip (Js (Hh e) I.ok.above)
 have f:∀b o,X.s₀.heap.get? b=Go o->b∉X.ex->b∉ch:=λb o e J j=>by
  rcases(Y b j).1 with z|z
  exact J z;rw[z]at e;cases e
 have a:∀x c,X.env.cells.lookup x=Go c->∀v,s.heap.IsCell c v->h'.IsCell c v:=λx c e v L=>by
  obtain⟨o,t,E⟩:=L;have S:=λz=>(Y c z).2.2.1 x c e rfl
  by_cases M:c∈X.fs
  obtain⟨sl,q⟩:=g c o (I.cne x c e) M S t (I.freeC x c e);exact⟨_,q,E⟩;exact⟨o,U c o (I.cne x c e) M S t<|I.freeC x c e,E⟩
 refine⟨I.ok,I.os,R,⟨λb o e n j J=>(U b o (A b o e) j (f b o e J) (I.base.keep b o e n j J)<|I.base.free b o e n J),λb o e n j J=>?_,λb o e n J=>?_,λb o e J=>?_,λb xs e=>w b xs<|I.base.tups b xs e,λb o xs e=>B b o xs<|I.base.frzs b o xs e,λb ps e=>?_⟩,?_,λx c e=>?_,?_,λx c e=>?_,λp K=>?_,D,I.len⟩;obtain⟨sl,e1⟩:=I.base.slot b o e n j J;obtain⟨C,e2⟩:=g b _ (A b o e) j (f b o e J) e1 (I.base.free b o e n J);exact⟨C,e2⟩;obtain⟨o',e1⟩:=I.base.there b o e J;exact O b o' (f b o e J) e1<|I.base.free b o e n J
 obtain⟨o',e1⟩:=I.base.there b o e J;exact h b o' (f b o e J) e1;obtain⟨m1,e1⟩:=I.base.tbls b ps e;obtain⟨m2,e2⟩:=y b _ e1;exact⟨m1++m2,by rw[e2,Array.append_assoc]⟩;obtain⟨m,P,Q⟩:=I.loc;refine⟨m,ns m P,λi x v e1 e2 e3=>?_⟩;obtain⟨u,r,l⟩:=Q i x v e1 e2 e3;refine⟨u,r,?_⟩;rcases l with l|⟨k,c,e,z⟩
 exact .inl l;exact .inr ⟨k,c,e,a x c e _ z⟩;obtain⟨v,z⟩:=I.cell x c e;exact⟨v,a x c e v z⟩;obtain⟨m,⟨o,_,_,t,_⟩,_⟩:=I.loc;exact O _ o (λz=>(Y _ z).2.1 rfl) t I.free;obtain⟨v,o,t,E⟩:=I.cell x c e;exact O c o (λz=>(Y c z).2.2.1 x c e rfl) t<|I.freeC x c e
 obtain⟨e,n,G,F,d⟩:=I.pin p K;have S:=λz=>(Y _ z).2.2.2 p K rfl
 exact⟨U _ _ G F S e n,O _ _ S e n,G,F,d⟩
def Aw.step {h t'}{d'}{ch:List Addr}(I:Aw X anq σ H s)
  (a:∀b∈ch,(b∈X.ex\/X.s₀.heap.objs.size<=b)/\b≠X.env.locals/\(∀x c,X.env.cells.lookup x=Go c->c≠b)/\∀p∈X.pn++anq,p.1≠b)
  (Y:∀b o,b≠X.env.locals->b∉X.fs->b∉ch->s.heap.get? b=Go o->H b=JI->h'.get? b=Go o)
  (U:∀b o,b≠X.env.locals->b∈X.fs->b∉ch->s.heap.get? b=Go o->H b=JI->∃sl,h'.get? b=Go {o with slots:=sl}) (e:∀b o,b∉ch->s.heap.get? b=Go o->H b=JI->H' b=JI)
  (J:∀b o,b∉ch->s.heap.get? b=Go o->∃o',h'.get? b=Go o')
  (O:∀b xs,H b=Go (.tup xs)->H' b=Go (.tup xs)) (d:∀b o u,H b=Go (.frz o u)->H' b=Go (.frz o u)) (S:∀b ps,H b=Go (.tbl ps)->∃more,H' b=Go (.tbl (ps++more)))
  (ns:∀m,s.heap.Ns X.env.locals m->h'.Ns X.env.locals m) (f:Kg X.prog X.w H' h') (i:Td h) :
  Aw X anq σ H' {s with heap:=h',gens:=h,drawn:=d',toks:=t'}:=
 I.stepG (λb z=>⟨(a b z).1.imp id λq=>X3 q,(a b z).2⟩) Y U e J O d S ns f i
def Aw.un {t'}(I:Aw X anq σ H s)(u:Un X.fs [] H H' s.heap h')(O:Kg X.prog X.w H' h'):Aw X anq σ H' {s with heap:=h',toks:=t'}:=by
 obtain⟨m,⟨o,es,ep,a,r⟩,_⟩:=I.loc;obtain⟨sl,g⟩:=u.any a I.free (by simp);exact I.step (ch:=[]) nofun (λb o _ S _ e n=>u.keep b o e n S (by simp)) (λb o _ S _ e n=>u.slot b o e n S (by simp)) (λb o _ e n=>u.free b o e n (by simp)) (λb o _ e=>u.there b o e (by simp)) u.tups u.frzs u.tbls (λm' f=>by
  obtain⟨o',U,Y,J,d⟩:=f;rw[a]at J;cases J;exact⟨_,U,Y,g,d⟩) O I.bare
def Aw.call {h:Array GenState}{t':Nat}{d':Drawn}{ch:List Addr}(I:Aw X anq σ H s)(u:Un (frs X.stack) ch H H' s.heap h')(U:Kg X.prog X.w H' h')(k:Td h)
  (S:∀b∈ch,(b∈X.ex\/X.s₀.heap.objs.size<=b)/\b≠X.env.locals/\(∀x c,X.env.cells.lookup x=Go c->c≠b)/\∀p∈X.pn++anq,p.1≠b) :
  Aw X anq σ H' {s with heap:=h',gens:=h,drawn:=d',toks:=t'}:=by
 obtain⟨m,⟨o,es,ep,f,r⟩,_⟩:=I.loc;obtain⟨sl,Y⟩:=u.any f I.free λz=>(S _ z).2.1 rfl
 exact I.step S (λb o Y l J e n=>u.keep b o e n (λz=>(Kz.mp (I.stkSub b z)).elim Y l) J) (λb o _ _ J e n=>u.any e n J) (λb o J e n=>u.free b o e n J) (λb o J e=>u.there b o e J) u.tups u.frzs u.tbls (λm' j=>by
  obtain⟨o',a,d,O,i⟩:=j;rw[f]at O;cases O;exact⟨_,a,d,Y,i⟩) U k
def Aw.turned {t'}{it}(I:Aw X anq σ H s)(k:∀b o,b≠it->s.heap.get? b=Go o->h'.get? b=Go o)(Y:H it=JI)(d:it≠X.env.locals)
  (h1:it∈X.ex\/X.s₀.heap.objs.size<=it) (h2:∀x c,X.env.cells.lookup x=Go c->c≠it) (g:∀p∈X.pn++anq,p.1≠it):Aw X anq σ H {s with heap:=h',toks:=t'}:=by
 have O:∀b u,H b=Go u->b≠it:=λb u e z=>by rw[z,Y]at e;cases e
 refine I.step (ch:=[it]) (λb f=>?_) (λb o _ _ J e _=>k b o (λz=>J<|by simp[z]) e) (λb o _ _ J e _=>⟨o.slots,k b o (λz=>J<|by simp[z]) e⟩) (λ_ _ _ _ n=>n)
  (λb o J e=>⟨o,k b o (λz=>J (by simp[z])) e⟩) (λ_ _ e=>e) (λ_ _ _ e=>e) (λb ps e=>⟨#[],by rw[e];simp⟩) (λm a=>?_) (λb u e=>?_) I.bare
 grind
 obtain⟨o,es,ep,U,r⟩:=a;exact⟨o,es,ep,k _ o (Jp d) U,r⟩;refine(I.hok b u e).stay (λc v J q=>k c v ?_ q) (λ_ q=>q) λ_ _ q=>q;rcases J with z|z
 simp_all
 exact O c _ z
def Aw.tok (I:Aw X anq σ H s)(t):Aw X anq σ H {s with toks:=t}:=I.un Un.refl I.hok
def Aw.kept {t'}(I:Aw X anq σ H s)(k:∀b u,s.heap.get? b=Go u->h'.get? b=Go u):Aw X anq σ H {s with heap:=h',toks:=t'}:=I.un (Un.kept k) (I.hok.kept k)
def Aw.laid {a:Addr}{o}{t'}(I:Aw X anq σ H s)(k:∀b u,s.heap.get? b=Go u->h'.get? b=Go u)(O:s.heap.objs.size<=a)(J:fH X.prog X.w (Cu H a o) h' a o) :
  Aw X anq σ (Cu H a o) {s with heap:=h',toks:=t'}:=I.un (Un.laid k O (I.hok.fresh O)) (I.hok.laid k O J)
def Aw.write {x e o}{t'}(I:Aw X anq σ H s)(S:Mut (H x))(Y:e=x\/H e=Go (.own x))(k:∀b u,b≠e->s.heap.get? b=Go u->h'.get? b=Go u)(J:∃u,h'.get? e=Go u)
  (O:fH X.prog X.w (Cu H x o) h' x o):Aw X anq σ (Cu H x o) {s with heap:=h',toks:=t'}:=I.un (Un.write S Y k J) (I.hok.write S Y k J O)
def Aw.weak {σ'}(I:Aw X anq σ H s)(S:σ'.length=σ.length)(w:∀(i:Nat) v,σ'[i]?=Go (Go v)->σ[i]?=Go (Go v)):Aw X anq σ' H s:=
 ⟨I.ok,I.os,I.bare,I.base,let⟨m,O,J⟩:=I.loc;⟨m,O,λi x v e1 e2 e3=>J i x v e1 (w i v e2) e3⟩,I.cell,I.free,I.freeC,I.pin,I.hok,S.trans I.len⟩
def Aw.pins_of {pins'}(I:Aw X anq σ H s)(h:∀p∈pins',s.heap.get? p.1=Go p.2/\H p.1=JI/\p.1≠X.env.locals/\p.1∉X.fs/\∀v,p.2.data≠.cell v):Aw X pins' σ H s:=
 ⟨I.ok,I.os,I.bare,I.base,I.loc,I.cell,I.free,I.freeC,λp J=>(Wx.mp J).elim (λz=>I.pin p (Ri _ z)) (h p),I.hok,I.len⟩
def Df {N:List Str}(J:N.Nodup){i j:Nat}{x:Str}(a:N[i]?=Go x)(b:N[j]?=Go x):i=j:=by
 obtain⟨h1,e1⟩:=Lx.mp a;obtain⟨h2,e2⟩:=Lx.mp b;exact(List.getElem_inj J).mp (e1.trans e2.symm)
def zH {M A}{E i x v}{Q}(I:Aw X anq σ H s)(hN:X.N.Nodup)(hi:X.N[i]?=Go x)(hx:Loc X.env.scope x)(r:RelV v u)
  (h:∀s',Aw X anq (σ.set i (Go v)) H s'->(∃a,W3 a s.heap s'.heap/\(a=X.env.locals\/X.env.cells.lookup x=Go a))->Q () s') (hf:autoParam (X.fn x=true\/X.env.scope.names.lookup x=Go .local) aPq._auto_6):Bb M A (storeName X.env x u) Q E s:=by
 obtain⟨m,hn,hl⟩:=I.loc;have hiσ:i < σ.length:=by rw[I.len];exact(Lx.mp hi).1
 have cne:=I.cne;have tracked:∀{a:Addr}{h':Heap},(∃o,s.heap.get? a=Go o/\H a=JI)->W3 a _ h'->Kg _ _ H h':=λ{a h'} ha hs b ob e=>by
  obtain⟨_,_,hfree⟩:=ha;refine(I.hok b ob e).stay (λc w' hc q=>(hs.2 c ?_).trans q) (λ_ q=>q) λ_ _ q=>q;rintro rfl;rcases hc with rfl|hc
  rw[hfree]at e;cases e;rw[hfree]at hc;cases hc
 rcases hx with hk|hk
 refine wpAny_storeName_local hk hn (λh' hn' hs=>?_) (by rw[I.ok.kind];rfl);obtain⟨oL,_,_,hoL,_⟩:=hn;refine h _ ⟨I.ok,I.os,I.bare,⟨λb o e n hb hx=>?_,λb o e n hb hx=>?_,I.base.free,λb o e hx=>?_,I.base.tups,I.base.frzs,I.base.tbls⟩,⟨_,hn',λj y v' e1 e2 e3=>?_⟩,λy c e=>?_,I.free,I.freeC,λp hp=>?_,tracked ⟨oL,hoL,I.free⟩ hs,by simpa using I.len⟩ ⟨_,hs,.inl rfl⟩;exact(hs.2 b<|Ip<|Js (Hh e) I.ok.above).trans (I.base.keep b o e n hb hx);obtain⟨sl,e1⟩:=I.base.slot b o e n hb hx;exact⟨sl,(hs.2 b<|Ip<|Js (Hh e) I.ok.above).trans e1⟩;obtain⟨o',e1⟩:=I.base.there b o e hx;exact⟨o',(hs.2 b<|Ip<|Js (Hh e) I.ok.above).trans e1⟩;by_cases hj:j=i
 subst hj;rw[hi]at e1;cases e1;rw[List.getElem?_set_self hiσ]at e2;cases e2;exact⟨u,r,.inl ⟨hk,by simp⟩⟩;rw[lX (Jp hj)]at e2;obtain⟨u',r',q⟩:=hl j y v' e1 e2 e3;refine⟨u',r',?_⟩;rcases q with⟨k,e⟩|⟨k,c,e,z⟩
 refine .inl ⟨k,?_⟩;have:y≠x:=λe=>hj (Df hN e1 (e ▸ hi))
 simp[this,e];exact .inr ⟨k,c,e,z.sameBut hs<|cne y c e⟩;obtain⟨w',z⟩:=I.cell y c e;exact⟨w',z.sameBut hs<|cne y c e⟩;obtain⟨e,n,ne,nf,d⟩:=I.pin p hp;exact⟨(hs.2 p.1 ne).trans e,n,ne,nf,d⟩;have hfn:X.fn x=true:=by
  rcases hf with z|z
  exact z;rw[z]at hk;cases hk
 obtain⟨c,hc⟩:=I.ok.has x (.inl hk);obtain⟨w',z⟩:=I.cell x c hc;refine wpAny_storeName_cell I.ok.kind hk hc z<|λh' hc' hs=>?_
 obtain⟨oc,hoc,hocd⟩:=z;refine h {s with heap:=h'} ⟨I.ok,I.os,I.bare,⟨λb o e n hb hx=>?_,λb o e n hb hx=>?_,I.base.free,λb o e hx=>?_,I.base.tups,I.base.frzs,I.base.tbls⟩,⟨m,hn.sameBut hs<|Jp<|cne x c hc,λj y v' e1 e2 e3=>?_⟩,λy c' e=>?_,I.free,I.freeC,λp hp=>?_,tracked ⟨oc,hoc,I.freeC x c hc⟩ hs,by simpa using I.len⟩ ⟨c,hs,.inr hc⟩;exact(hs.2 b<|Ip<|Js (Hh e)<|I.ok.cab x c hfn hc).trans (I.base.keep b o e n hb hx);obtain⟨sl,e1⟩:=I.base.slot b o e n hb hx;exact⟨sl,(hs.2 b<|Ip<|Js (Hh e)<|I.ok.cab x c hfn hc).trans e1⟩;obtain⟨o',e1⟩:=I.base.there b o e hx;exact⟨o',(hs.2 b<|Ip<|Js (Hh e)<|I.ok.cab x c hfn hc).trans e1⟩;by_cases hj:j=i
 subst hj;rw[hi]at e1;cases e1;rw[List.getElem?_set_self hiσ]at e2;cases e2;exact⟨u,r,.inr ⟨.inl hk,c,hc,hc'⟩⟩;rw[lX (Jp hj)]at e2;obtain⟨u',r',q⟩:=hl j y v' e1 e2 e3;refine⟨u',r',?_⟩;rcases q with q|⟨k,c',e,z'⟩
 exact .inl q;refine .inr ⟨k,c',e,z'.sameBut hs ?_⟩;rintro rfl;exact hj<|Df hN e1<|I.ok.inj _ _ _ e hc ▸ hi
 by_cases hcc:c'=c
 subst hcc;exact⟨_,hc'⟩;obtain⟨w2,z2⟩:=I.cell y c' e;exact⟨w2,z2.sameBut hs hcc⟩;obtain⟨e,n,ne,nf,d⟩:=I.pin p hp;refine⟨(hs.2 p.1 ?_).trans e,n,ne,nf,d⟩;intro q;rw[q,hoc]at e;exact d w'<|(IV e) ▸ hocd
def wg {M A}{E i x v}{Q}(I:Aw X anq σ H s)(hN:X.N.Nodup)(hi:X.N[i]?=Go x)(hx:Loc X.env.scope x)(r:RelV v u)
  (h:∀s',Aw X anq (σ.set i (Go v)) H s'->Q () s') (hf:autoParam (X.fn x=true\/X.env.scope.names.lookup x=Go .local) aPq._auto_6):Bb M A (storeName X.env x u) Q E s:=
 zH I hN hi hx r (λs' I' _=>h s' I') hf
def Aw.call' {s'}{ch}(I:Aw X anq σ H s)(S:s'.os=s.os)(u:Un (frs X.stack) ch H H' s.heap s'.heap)(J:Kg X.prog X.w H' s'.heap)(U:Td s'.gens)
  (O:∀b∈ch,(b∈X.ex\/X.s₀.heap.objs.size<=b)/\b≠X.env.locals/\(∀x c,X.env.cells.lookup x=Go c->c≠b)/\∀p∈X.pn++anq,p.1≠b):Aw X anq σ H' s':=by
 obtain⟨h',a,d',Y,o'⟩:=s';subst S;exact I.call u J U O
end
variable {X:Cx}{anq:List (Addr×Obj)}{M:Model}{i j:Nat}{A:Cw}{E:Mk->AP->Prop}{s':AP}
@[reducible]noncomputable def XK:=Mk->Option Addr->Hp->Prop
@[reducible]noncomputable def St:=List (Option V)
@[reducible]noncomputable def VK:=V->Hp->Prop
@[reducible]noncomputable def TE:=St->Hp->VK->Prop
@[reducible]noncomputable def TT:=St->Hp->(Bool->Hp->Prop)->Prop
@[reducible]noncomputable def TA:=St->Hp->(List V->Hp->Prop)->Prop
structure Ends where
 nx:St->Hp->Prop
 rt:VK
 bk:St->Hp->Prop:=λ_ _=>False
 ct:St->Hp->Prop:=λ_ _=>False
@[reducible]noncomputable def TS:=Ends->St->Hp->Prop
abbrev EP (X:Cx)(anq:List (Addr×Obj))(σ:St)(Q:VK)(u:Mk)(s':AP):Prop:=∃v H',Aw X anq σ H' s'/\RelV v u/\Q v H'
abbrev TP (X:Cx)(anq:List (Addr×Obj))(σ:St)(Q:Bool->Hp->Prop)(b:Bool)(s':AP):Prop:=∃H',Aw X anq σ H' s'/\Q b H'
abbrev ahf (X:Cx)(anq:List (Addr×Obj))(σ:St)(Q:List V->Hp->Prop)(us:List Mk)(s':AP):Prop:=∃vs H',Aw X anq σ H' s'/\BL vs us/\Q vs H'
abbrev SP (X:Cx)(anq:List (Addr×Obj))(D:Ends)(f:Flow)(s':AP):Prop:=
 match f with
 | .next=>∃σ' H',Aw X anq σ' H' s'/\D.nx σ' H'
 | .brk=>∃σ' H',Aw X anq σ' H' s'/\D.bk σ' H'
 | .cont=>∃σ' H',Aw X anq σ' H' s'/\D.ct σ' H'
 | .ret u=>∃v σ' H',Aw X anq σ' H' s'/\RelV v u/\D.rt v H'
abbrev PE (X:Cx)(e:Expr)(t:TE):Prop:=
 ∀(anq:List (Addr×Obj)) (s:AP) (σ:St) (H:Hp) (Q:VK),Aw X anq σ H s->t σ H Q->Bb (Bg X.prog X.w) X.A (eval e X.env) (EP X anq σ Q) X.xe s
abbrev PT (X:Cx)(e:Expr)(t:TT):Prop:=
 ∀(anq:List (Addr×Obj)) (s:AP) (σ:St) (H:Hp) (Q:Bool->Hp->Prop),Aw X anq σ H s->t σ H Q->Bb (Bg X.prog X.w) X.A (isTrue e X.env (eval e X.env)) (TP X anq σ Q) X.xe s
abbrev PW (X:Cx)(e:Expr)(t:TT):Prop:=
 ∀(J:Sem Mk) (anq:List (Addr×Obj)) (s:AP) (σ:St) (H:Hp) (Q:Bool->Hp->Prop),Aw X anq σ H s->t σ H Q->Bb (Bg X.prog X.w) X.A (isTrue e X.env J) (TP X anq σ Q) X.xe s
variable {e:Expr}
def PW.pt {t}(h:PW X e t):PT X e t:=h _
abbrev PA (X:Cx)(es:List Expr)(t:TA):Prop:=
 ∀(pos:Pos) (anq:List (Addr×Obj)) (s:AP) (σ:St) (H:Hp) (Q:List V->Hp->Prop),Aw X anq σ H s->t σ H Q->Bb (Bg X.prog X.w) X.A (spliced (JD pos (Ck es X.env))) (ahf X anq σ Q) X.xe s
abbrev PS (X:Cx)(st:Stmt)(t:TS):Prop:=
 ∀(anq:List (Addr×Obj)) (s:AP) (σ:St) (H:Hp) (D:Ends),Aw X anq σ H s->t D σ H->Bb (Bg X.prog X.w) X.A (exec st X.env) (SP X anq D) X.xe s
abbrev Py (X:Cx)(st:List Stmt)(t:TS):Prop:=
 ∀(anq:List (Addr×Obj)) (s:AP) (σ:St) (H:Hp) (D:Ends),Aw X anq σ H s->t D σ H->Bb (Bg X.prog X.w) X.A (execs st X.env) (SP X anq D) X.xe s
def Hg {O}{t:Sem O}{Q J s}(h:Bb M A t Q E s)(S:∀a s,Q a s->J a s):Bb M A t J E s:=Kv h S λ_ _ x=>x
section
abbrev ac6 (i:Nat):TE:=fun σ H Q=>∃v,σ[i]?=Go (Go v)/\Q v H
abbrev tC (v:V):TE:=λ_ H Q=>Q v H
def abG {x}{pos}(hN:X.N[i]?=Go x)(hv:Vis X.env.scope x)(hd:autoParam ((x==("__debug__" : Str))=false) aPq._auto_2)(hcd:autoParam ((x==("__classdict__" : Str))=false) aPq._auto_2):PE X (.Name x pos) (ac6 i):=by
 intro anq s σ H Q I h;obtain⟨v,e,h⟩:=h;obtain⟨m,hn,hl⟩:=I.loc;obtain⟨u,r,l⟩:=hl i x v hN e hv;have fin:EP X anq σ Q u s:=⟨v,H,I,r,h⟩
 rcases l with⟨hk,hm⟩|⟨hk,c,hc,hcell⟩
 exact wpAny_Name (wpAny_loadName_local I.ok.kind hk hn hm fin) hd;rcases hk with hk|hk
 exact wpAny_Name (wpAny_loadName_cell I.ok.kind hk hc hcell fin) hd;exact wpAny_Name (wpAny_loadName_free I.ok.kind hk hc hcell fin hcd) hd
def adl {i j pos}:PE X (.Constant (.int i) j pos) (tC (.int i)):=λ_ _ _ H _ I h=>wpAny_Constant_int ⟨.int i,H,I.tok _,⟨_,rfl⟩,h⟩
def acq {j pos}:PE X (.Constant .none j pos) (tC .non):=λ_ _ _ H _ I h=>Constant_none ⟨.non,H,I,rfl,h⟩
def Uu {x j pos}:PE X (.Constant (.str x) j pos) (tC (.str x)):=λ_ _ _ H _ I h=>Calls.Constant_str ⟨.str x,H,I.tok _,⟨_,rfl⟩,h⟩
abbrev Gl (X:Cx)(x:Str):Prop:=X.env.kindOf x=Go .globalImplicit
def wU {s}{σ:St}{x}{pos}{Q}(I:Aw X anq σ H s)(hg:Gl X x)(hm:X.mg x=Go u)(h:Q u s)
  (hd:autoParam ((x==("__debug__" : Str))=false) aPq._auto_2):Bb (Bg X.prog X.w) X.A (eval (.Name x pos) X.env) Q E s:=
 Calls.Name_function_global I.ok.kind hg (Calls.loadGlobal_global (I.ok.glob ▸ I.mod.glob.keeps I.bk) hm h) hd
def rO {s}{σ:St}{x}{pos}{Q}(I:Aw X anq σ H s)(hg:Gl X x)(hm:X.mg x=JI)(hv:W4 x=Go u)(h:Q u s)
  (hn:autoParam (x ≠ "__name__") aPq._auto_2) (hd:autoParam ((x==("__debug__" : Str))=false) aPq._auto_2):Bb (Bg X.prog X.w) X.A (eval (.Name x pos) X.env) Q E s:=by
 obtain⟨mb,h1,h2⟩:=I.mod.blt;exact Calls.Name_function_global I.ok.kind hg (Calls.loadGlobal_builtin (I.ok.glob ▸ I.mod.glob.keeps I.bk) hm (I.ok.blt ▸ h1.keeps I.bk) ((h2 x hn).trans hv) h) hd
def gC {x v}{pos}(hg:Gl X x)(hm:X.mg x=Go u)(r:RelV v u)(hd:autoParam ((x==("__debug__" : Str))=false) aPq._auto_2):PE X (.Name x pos) (tC v):=
 λ_ _ _ H _ I h=>wU I hg hm ⟨v,H,I,r,h⟩ hd
def alG {x v}{pos}(hg:Gl X x)(hm:X.mg x=JI)(hv:W4 x=Go u)(r:RelV v u)(hn:autoParam (x ≠ "__name__") aPq._auto_2)(hd:autoParam ((x==("__debug__" : Str))=false) aPq._auto_2):PE X (.Name x pos) (tC v):=
 λ_ _ _ H _ I h=>rO I hg hm hv ⟨v,H,I,r,h⟩ hn hd
variable {a b:Expr}{ta tb:TE}{pos:Pos}
variable {tA tB':TT}{rest:List Expr}
abbrev agc (t u:TT):TT:=fun σ H Q=>t σ H λc H1=>if c=true then u σ H1 Q else Q false H1
abbrev tOr (t u:TT):TT:=fun σ H Q=>t σ H λc H1=>if c=true then Q true H1 else u σ H1 Q
abbrev agT (t:TT):TT:=fun σ H Q=>t σ H λc H1=>Q (!c) H1
def akZ (J:PT X a tA):PW X (.BoolOp .And [a] pos) tA:=by
 intro O anq s σ H Q I h;refine isTrue_and<|Hg (J anq s σ H Q I h) λc S e=>?_
 cases c with
 | true=>exact isTrue_and_nil e
 | false=>exact e
def abP (J:PT X a tA):PW X (.BoolOp .Or [a] pos) tA:=by
 intro O anq s σ H Q I h;refine isTrue_or<|Hg (J anq s σ H Q I h) λc S e=>?_
 cases c with
 | false=>exact isTrue_or_nil e
 | true=>exact e
def abM (d:PT X a tA)(Y:PW X (.BoolOp .And (b::rest) pos) tB'):PW X (.BoolOp .And (a::b::rest) pos) (agc tA tB'):=by
 intro S anq s σ H Q I h;refine isTrue_and<|Hg (d anq s σ H _ I h) λc U e=>?_;obtain⟨H1,O,J⟩:=e
 cases c with
 | true=>exact Y S anq U σ H1 Q O J
 | false=>exact⟨H1,O,J⟩
def aeT (d:PT X a tA)(Y:PW X (.BoolOp .Or (b::rest) pos) tB'):PW X (.BoolOp .Or (a::b::rest) pos) (tOr tA tB'):=by
 intro S anq s σ H Q I h;refine isTrue_or<|Hg (d anq s σ H _ I h) λc U e=>?_;obtain⟨H1,O,J⟩:=e
 cases c with
 | true=>exact⟨H1,O,J⟩
 | false=>exact Y S anq U σ H1 Q O J
def aa0 (J:PT X a tA):PT X (.UnaryOp .Not a pos) (agT tA):=by
 intro anq s σ H Q I h;exact isTrue_not<|J anq s σ H _ I h
abbrev ad9 (ta tb:TE):TE:=fun σ H Q=>ta σ H λx H1=>∃c,x=.bl c/\if c=true then tb σ H1 Q else Q (.bl false) H1
def abt {J t}(h:PE X a t):PE X (.BoolOp J [a] pos) t:=λanq s σ H Q I O=>BoolOp_one (h anq s σ H Q I O)
def aam (d:PE X a ta)(Y:PE X (.BoolOp .And (b::rest) pos) tb):PE X (.BoolOp .And (a::b::rest) pos) (ad9 ta tb):=by
 intro anq s σ H Q I h;refine BoolOp_and<|Hg (d anq s σ H _ I h) λv S e=>?_;obtain⟨x,H1,O,U,J⟩:=e
 obtain⟨c,rfl,J⟩:=J;cases U;refine Ys ?_;cases c with
 | true=>exact Y anq S σ H1 Q O J
 | false=>exact⟨.bl false,H1,O,rfl,J⟩
abbrev tIf (t:TT)(ta tb:TE):TE:=fun σ H Q=>t σ H λc H1=>if c=true then ta σ H1 Q else tb σ H1 Q
def aio {c}(U:PT X c tA)(e:PE X a ta)(Y:PE X b tb):PE X (.IfExp c a b pos) (tIf tA ta tb):=by
 intro anq s σ H Q I h;refine wpAny_IfExp<|Hg (U anq s σ H _ I h) λd J f=>?_;obtain⟨H1,S,O⟩:=f
 cases d with
 | true=>exact e anq J σ H1 Q S O
 | false=>exact Y anq J σ H1 Q S O
end
variable {pos:Pos}{σ:St}{ta:TE}{Q:Mk->AP->Prop}
abbrev Ja (K:Az)(H:Hp)(a:Addr)(xs:List V):Prop:=
 Rd H a (.lst xs) \/
  ∃(o:Obj) (its:Array Mk) (n:Nat),K.lookup a=Go o/\o.cls=.type "list"/\o.dict=JI/\o.data=.seq its n/\its.size<=HB/\BL xs its.toList
abbrev IW (K:Az)(H:Hp)(a:Addr)(xs:List V):Prop:=
 Rd H a (.tup xs) \/
  ∃(o:Obj) (its:Array Mk) (n:Nat),K.lookup a=Go o/\o.cls=.type "tuple"/\o.data=.seq its n/\its.size<=HB/\BL xs its.toList/\o.dict=JI
abbrev ag2:Mk->Option V
 | .none=>Go .non
 | .bool b=>Go (.bl b)
 | .int i _=>Go (.int i)
 | .str x _=>Go (.str x)
 | .bytes b _=>Go (.byt b)
 | .float b _=>Go (.flt b)
 | .ref a=>Go (.ref a)
 | .type n=>Go (.ty n)
 | _=>JI
def RelV.abs {x}(r:RelV x u):ag2 u=Go x:=by
 cases x with
 | non|bl _|ref _|ty _=>cases r;rfl
 | int _|str _|byt _|flt _=>obtain⟨t,rfl⟩:=r;rfl
def RelV.inj {x y}(r:RelV x u)(q:RelV y u):x=y:=IV (r.abs.symm.trans q.abs)
def BL.inj:∀{xs ys us},BL xs us->BL ys us->xs=ys
 | _,_,_,.nil,.nil=>rfl
 | _,_,_,.cons r t,.cons O J=>by rw[r.inj O,BL.inj t J]
section
variable {s:AP}{ys:List V}
def Ja.of {K:Az}(h:H a=Go (.lst xs)):Ja K H a xs:=.inl (.inl h)
def IW.of {K}(h:H a=Go (.tup xs)):IW K H a xs:=.inl (.inl h)
def Aw.list (I:Aw X anq σ H s)(h:Ja X.K H a xs):∃its,BL xs its/\PlainL s.heap a its.toArray/\xs.length<=HB:=by
 rcases h with h|⟨o,its,n,O,U,S,J,Y,r⟩
 obtain⟨z,its,n,r,e⟩:=h.ok I.hok;exact⟨its,r,⟨_,n,e,rfl,rfl,rfl⟩,z⟩;refine⟨its.toList,r,⟨o,n,I.kIn a o O,U,S,by simpa using J⟩,?_⟩;have e:=r.length;simp_all
def Aw.tupO (I:Aw X anq σ H s)(h:IW X.K H a xs):∃its,BL xs its/\Om s.heap a its.toArray/\xs.length<=HB:=by
 rcases h with h|⟨o,its,n,O,U,J,Y,r,S⟩
 obtain⟨z,its,r,p⟩:=h.ok I.hok;grind
 refine⟨its.toList,r,⟨o,I.kIn a o O,U,⟨n,by simpa using J⟩,S⟩,?_⟩;have e:=r.length;simp_all
def Aw.tuple (I:Aw X anq σ H s)(h:IW X.K H a xs):∃its,BL xs its/\IsTup s.heap a its.toArray/\xs.length<=HB:=let⟨its,r,p,z⟩:=I.tupO h;⟨its,r,p.tup,z⟩
def Aw.list_inj (I:Aw X anq σ H s)(h:Ja X.K H a xs)(h':Ja X.K H a ys):xs=ys:=by
 obtain⟨its,r,⟨o,n,e,_,_,d⟩,_⟩:=I.list h;obtain⟨J,O,⟨o',U,e',_,_,d'⟩,_⟩:=I.list h';rw[e]at e';cases e';rw[d]at d';injection d' with S _
 have:=by simpa using congrArg Array.toList S
 subst this;exact r.inj O
def Aw.tuple_inj (I:Aw X anq σ H s)(h:IW X.K H a xs)(h':IW X.K H a ys):xs=ys:=by
 obtain⟨its,r,⟨o,e,_,n,d⟩,_⟩:=I.tuple h;obtain⟨J,O,⟨o',e',_,U,d'⟩,_⟩:=I.tuple h';rw[e]at e';cases e';rw[d]at d';injection d' with S _
 have:=by simpa using congrArg Array.toList S
 subst this;exact r.inj O
end
variable {K:Az}
@[reducible]noncomputable def Cx.wish (X:Cx)(E:Mk->AP->Prop):Cx:={X with xe:=E}
@[reducible]noncomputable def Cx.nox (X:Cx):Cx:=X.wish λ_ _=>False
def Cx.Ok.wish {X:Cx}(J:X.Ok)(E):(X.wish E).Ok:=
 ⟨J.mod,J.kind,J.glob,J.blt,J.above,J.inj,J.has,J.cab,J.hd,J.qt,J.frames,J.stk,J.exf,J.bs,J.bsz,J.noex,J.exfs,J.funs,J.frf⟩
def Cx.Ok.unwish (J:(X.wish E).Ok):X.Ok:=
 ⟨J.mod,J.kind,J.glob,J.blt,J.above,J.inj,J.has,J.cab,J.hd,J.qt,J.frames,J.stk,J.exf,J.bs,J.bsz,J.noex,J.exfs,J.funs,J.frf⟩
section
variable {s:AP}
def Aw.wish (I:Aw X anq σ H s)(E):Aw (X.wish E) anq σ H s:=⟨I.ok.wish E,I.os,I.bare,I.base,I.loc,I.cell,I.free,I.freeC,I.pin,I.hok,I.len⟩
def Aw.unwish (I:Aw (X.wish E) anq σ H s):Aw X anq σ H s:=⟨I.ok.unwish,I.os,I.bare,I.base,I.loc,I.cell,I.free,I.freeC,I.pin,I.hok,I.len⟩
def SP.unwish {D f s'}(h:SP (X.wish E) anq D f s'):SP X anq D f s':=by
 cases f with
 | next|brk|cont=>obtain⟨J,H',I,q⟩:=h;exact⟨J,H',I.unwish,q⟩
 | ret u=>obtain⟨v,J,H',I,r,q⟩:=h;exact⟨v,J,H',I.unwish,r,q⟩
def Py.nox {st t}(h:Py X.nox st t):Py X st t:=λanq s σ H D I J=>
 Kv (h anq s σ H D (I.wish _) J) (λ_ _ q=>q.unwish) λ_ _ z=>S7 z
end
section
variable {st:Stmt}{rest:List Stmt}{t u:TS}{te:TE}
abbrev aes:TS:=λD σ H=>D.nx σ H
abbrev agn (t u:TS):TS:=λD σ H=>t {D with nx:=u D} σ H
def ajz:Py X [] aes:=λ_ _ σ H _ I h=>Yz ⟨σ,H,I,h⟩
def CT (h1:PS X st t)(h2:Py X rest u):Py X (st::rest) (agn t u):=by
 intro anq s σ H D I h;refine wpAny_execs_cons<|Hg (h1 anq s σ H {D with nx:=u D} I h) λf O q=>?_
 cases f with
 | next=>
  obtain⟨J,H',S,q⟩:=q;exact h2 anq O J H' D S q
 | ret v|brk|cont=>exact q
def Bm (h1:PS X st t):Py X [st] t:=by
 intro anq s σ H D I h;refine wpAny_execs_cons<|Hg (h1 anq s σ H D I h) λf J q=>?_
 cases f with
 | next=>exact Yz q
 | ret v|brk|cont=>exact q
def Aw.quiet {s}(I:Aw X anq σ H s):interactive X.env=false:=by simp[interactive,I.ok.kind]
abbrev aeM (te:TE):TS:=λD σ H=>te σ H λ_ H1=>D.nx σ H1
def aiU (he:PE X e te)(hs:autoParam (Wg e JI pos.line X.env=pure false) aPq._auto_1):PS X (.Expr e pos) (aeM te):=by
 intro anq s σ H D I h;exact wpAny_Expr_any (Hg (he anq s σ H _ I h) λv s1 a=>by obtain⟨x,H1,I1,r1,q1⟩:=a;exact ⟨σ,H1,I1,q1⟩) I.quiet hs
abbrev agz (te:TE):TS:=λD σ H=>te σ H D.rt
def aa3 (S:PE X e te):PS X (.Return (Go e) pos) (agz te):=by
 intro anq s σ H D I h;exact wpAny_Return_some<|Hg (S anq s σ H _ I h) λv Y a=>by obtain⟨x,H1,U,J,O⟩:=a;exact ⟨x,σ,H1,U,J,O⟩
abbrev agX (c:TT)(t u:TS):TS:=λD σ H=>c σ H λb H1=>if b=true then t D σ H1 else u D σ H1
def adi {c}{a b tc}(U:PT X c tc)(e:Py X a t)(Y:Py X b u):PS X (.If c a b pos) (agX tc t u):=by
 intro anq s σ H D I h;refine wpAny_If<|Hg (U anq s σ H _ I h) λd J f=>?_;obtain⟨H1,S,O⟩:=f
 cases d with
 | true=>exact e anq J σ H1 D S O
 | false=>exact Y anq J σ H1 D S O
abbrev aaF:TS:=λ_ _ _=>False
def zbt:PS X st aaF:=λ_ _ _ _ _ _ h=>h.elim
end
@[reducible]noncomputable def TG:=V->St->Hp->(St->Hp->Prop)->Prop
@[reducible]noncomputable def VF:=List V->St->Hp->(St->Hp->Prop)->Prop
abbrev PG (X:Cx)(J:Expr)(t:TG):Prop:=
 ∀(anq:List (Addr×Obj)) (s:AP) (σ:St) (H:Hp) (v:V) (u:Mk) (Q:St->Hp->Prop),Aw X anq σ H s->RelV v u->t v σ H Q ->
  Bb (Bg X.prog X.w) X.A (assign J X.env u) (λ_ s'=>∃σ' H',Aw X anq σ' H' s'/\Q σ' H') X.xe s
abbrev WM (X:Cx)(ts:List Expr)(t:VF):Prop:=
 ∀(anq:List (Addr×Obj)) (s:AP) (σ:St) (H:Hp) (vs:List V) (us:List Mk) (Q:St->Hp->Prop),Aw X anq σ H s->BL vs us->t vs σ H Q ->
  Bb (Bg X.prog X.w) X.A (assignInOrder ((O4 ts X.env).map (·.2)) us) (λ_ s'=>∃σ' H',Aw X anq σ' H' s'/\Q σ' H') X.xe s
@[reducible]noncomputable def Yw:=V->V->V->Hp->(Hp->Prop)->Prop
abbrev acA (X:Cx)(t:Yw):Prop:=
 ∀(anq:List (Addr×Obj)) (s:AP) (σ:St) (H:Hp) (o i v:V) (J O u:Mk) (Q:Hp->Prop),Aw X anq σ H s->RelV o J->RelV i O->RelV v u->t o i v H Q ->
  Bb (Bg X.prog X.w) X.A (setItem J O u) (λ_ s'=>∃H',Aw X anq σ H' s'/\Q H') X.xe s
section
abbrev JG (i:Nat):TG:=λv σ H Q=>Q (σ.set i (Go v)) H
def wX {x}(hN:X.N.Nodup)(hi:X.N[i]?=Go x)(hx:Loc X.env.scope x)(hf:autoParam (X.fn x=true\/X.env.scope.names.lookup x=Go .local) aPq._auto_6):PG X (.Name x pos) (JG i):=by
 intro anq s σ H v u Q I r h;exact wpAny_assign_Name<|wg I hN hi hx r (λs' I'=>⟨_,H,I',h⟩) hf
abbrev ags:VF:=λvs σ H Q=>vs=[]/\Q σ H
abbrev aeE (t:TG)(u:VF):VF:=λvs σ H Q=>∃v r,vs=v::r/\t v σ H fun σ' H'=>u r σ' H' Q
def M9:WM X [] ags:=by
 intro anq s σ H vs us Q I r h;obtain⟨e,h⟩:=h;exact assignInOrder_nil ⟨σ,H,I,h⟩
def wO {es t u}(h1:PG X e t)(h2:WM X es u)
  (hs:autoParam ((O4 (e::es) X.env).map (·.2)=assign e X.env::(O4 es X.env).map (·.2)) aPq._auto_1):WM X (e::es) (aeE t u):=by
 intro anq s σ H vs us Q I r h;obtain⟨v,vr,e1,h⟩:=h;subst e1;cases r with
 | cons r rr=>
  exact hs ▸ assignInOrder_cons (Hg (h1 anq s σ H _ _ _ I r h) λ_ s1 a=>by obtain⟨σ1,H1,I1,q1⟩:=a;exact (h2 anq s1 σ1 H1 _ _ Q I1 rr q1))
abbrev agH (K:Az)(n:Nat)(t:VF):TG:=λv σ H Q=>∃a xs,v=.ref a/\IW K H a xs/\xs.length=n/\t xs σ H Q
def acG {es k t}{n}(hc:X.calm=true)(h:WM X es t)
  (hn:autoParam ((O4 es X.env).length=n) aPq._auto_1) (hst:autoParam ((O4 es X.env).findIdx? (·.1)=JI) aPq._auto_1):PG X (.Tuple es k pos) (agH X.K n t):=by
 intro anq s σ H v u Q I r hw;obtain⟨a,xs,e1,hq,hl,hw⟩:=hw;subst e1;cases r;obtain⟨its,rv,ht,hz⟩:=I.tuple hq;exact assign_Tuple_tuple (I.ok.hd hc) ht (by simp[hn,<-hl,rv.length]) hst λh' hx=>(h anq _ σ H xs _ Q (I.kept λb o e=>hx b o (Ip<|Hh e) e) (by simpa using rv) hw)
abbrev agQ (to ti:TE)(t:Yw):TG:=λv σ H Q=>to σ H λo H1=>ti σ H1 λi H2=>t o i v H2 λH3=>Q σ H3
def aaj {o i to ti t}(ho:PE X o to)(hi:PE X i ti)(hs:acA X t)
  (ha:autoParam (∀v,assign (.Subscript o i pos) X.env v=(do
   let ov <-Te [v] (eval o X.env)
   let iv <-Te [v,ov] (eval i X.env)
   standAt pos
   Te [v,ov,iv] (setItem ov iv v)
   release [v,ov,iv] [])) aPq._auto_4):PG X (.Subscript o i pos) (agQ to ti t):=by
 intro anq s σ H v u Q I r h;rw[ha];exact Ac<|Ly<|Hg (ho anq s σ H _ I h) λov s1 a=>by obtain⟨x,H1,I1,r1,q1⟩:=a;exact (Ac<|Ly<|Hg (hi anq s1 σ H1 _ I1 q1) λiv s2 b=>by obtain⟨y,H2,I2,r2,q2⟩:=b;exact (Ac<|Xj<|Ac<|Ly<|Hg (hs anq s2 σ H2 x y v ov iv u _ I2 r1 r2 r q2) λ_ s3 c=>by obtain⟨H3,I3,q3⟩:=c;exact (wpAny_release ⟨σ,H3,I3,q3⟩)))
abbrev aaT (te:TE)(g:TG):TS:=λD σ H=>te σ H λx H1=>g x σ H1 D.nx
def abN {tg te g}(he:PE X e te)(hg:PG X tg g)(hs:autoParam (swapsWithSole [tg] e pos.line X.env=pure false) aPq._auto_1)(hw:autoParam (swappedStores [tg] e X.env=pure JI) aPq._auto_1)
  (h1:autoParam ((O4 [tg] X.env).map (·.2)=[assign tg X.env]) aPq._auto_1):PS X (.Assign [tg] e pos) (aaT te g):=by
 intro anq s σ H D I h;exact wpAny_Assign_stores (Hg (he anq s σ H _ I h) λv s1 a=>by obtain⟨x,H1,I1,r1,q1⟩:=a;exact (h1 ▸ Hg (hg anq s1 σ H1 x v _ I1 r1 q1) λ_ s2 q=>q)) hs hw
def Vj {x:Str}{te:TE}{pos':Pos}(hN:X.N.Nodup)(hi:X.N[i]?=Go x)(hx:Loc X.env.scope x)(he:PE X e te)(hs:autoParam (Wg e (Go (.Name x pos')) pos.line X.env=pure false) aPq._auto_1)(hf:autoParam (X.fn x=true\/X.env.scope.names.lookup x=Go .local) aPq._auto_6):
  PS X (.Assign [.Name x pos'] e pos) (aaT te (JG i)):=by
 intro anq s σ H D I h;exact wpAny_Assign_Name (Hg (he anq s σ H _ I h) λv s1 a=>by obtain⟨y,H1,I1,r1,q1⟩:=a;exact (wg I1 hN hi hx r1 (λs2 I2=>⟨_,H1,I2,q1⟩) hf)) hs
end
variable {o tg:Expr}{es:List Expr}{k n:Nat}{pos':Pos}
section
abbrev abe (c:TT)(tb:TS):TS:=λD σ H=>∃W:Nat->St->Hp->Prop,(∃m,W m σ H)/\∀m σ H,W m σ H ->
 c σ H λb H1=>if b=true then ∃N:St->Hp->Prop,(∀σ' H',N σ' H'->∃J,J<m/\W J σ' H')/\tb {D with nx:=N,ct:=N,bk:=D.nx} σ H1 else D.nx σ H1
def zbG {c}{body tc tb}(d:Zq (Bg X.prog X.w) X.A X.env X.xe)(t:PT X c tc)(u:Py X body tb):PS X (.While c body [] pos) (abe tc tb):=by
 intro anq s σ H D I h;obtain⟨W,⟨p,k⟩,U⟩:=h;refine wpAny_While<|codeAny_whileLoop (λn s'=>∃S H',Aw X anq S H' s'/\W n S H') ?_ p ⟨σ,H,I,k⟩
 rintro n m ⟨J,H1,y,j⟩;refine Y0 d<|Hg (t anq m J H1 _ y<|U n J H1 j) λb l B=>?_;obtain⟨H2,e,Y⟩:=B
 cases b with
 | true=>
  obtain⟨N,w,Y⟩:=Y;refine Y0 d<|Hg (u anq l J H2 _ e Y) λf z a=>?_
  cases f with
  | next|cont=>
   obtain⟨O,g,x,o⟩:=a;obtain⟨q,r,i⟩:=w O g o;exact⟨q,r,O,g,x,i⟩
  | brk|ret v=>exact a
 | false=>
  exact Yz ⟨J,H2,e,Y⟩
end
variable {body:List Stmt}
def vq:entryFor table "proto.unchain" = Go Wy.«proto.unchain»:=entryFor_of_tree (by kernel_rfl)
inductive Ir (h:Heap):List Addr->Mk->Prop
 | nil:Ir h [] .none
 | cons {c:Addr}{o:Obj}{vs:Array Mk}{z:Mk}{l:List Addr}(ho:h.get? c=Go o) (hd:o.data=.fields vs) (h2:vs[2]?=Go z) (t:Ir h l z):Ir h (c::l) (.ref c)
def Ir.keep {l v}(c:Ir h l v)(k:∀a∈l,∀o,h.get? a=Go o->h'.get? a=Go o):Ir h' l v:=by
 induction c with
 | nil=>exact .nil
 | cons O S h2 t J=>exact .cons (k _ (by simp) _ O) S h2 (J λa U=>k a (by simp[U]))
def Ir.there {l v}(c:Ir h l v):∀a∈l,∃o,h.get? a=Go o:=by
 induction c with
 | nil=>intro a J;cases J
 | @cons c o vs z l S U h2 t O=>
  simp_all
abbrev Bc (A:Cw)(h:Heap):Prop:=∀v,A.handled=Go v->∃a l,v=.ref a/\Ir h l v
def QZ.heap {v}(c:QZ H v)(x:Kg P w H h):∃l,Ir h l v:=by
 induction c with
 | nil=>exact⟨[],.nil⟩
 | cons h1 h2 O _ J=>obtain⟨l,t⟩:=J;exact⟨_,.cons (x _ _ h1).1 h2 O t⟩
def ahp (q:Quiet A H)(x:Kg P w H h):Bc A h:=λv e=>by
 obtain⟨⟨a,h1⟩,c⟩:=q v e;obtain⟨l,t⟩:=c.heap x;grind
abbrev Lnk (h:Heap)(x y:Mk):Prop:=∃(c:Addr) (o:Obj) (vs:Array Mk),x=.ref c/\h.get? c=Go o/\o.data=.fields vs/\vs[2]?=Go y
inductive Sd (h:Heap):Mk->Mk->Prop
 | refl {x:Mk}:Sd h x x
 | step {x y z:Mk}(a:Lnk h x y) (b:Sd h y z):Sd h x z
variable {z:Mk}
def Sd.snoc {x y}(a:Sd h x y)(b:Lnk h y z):Sd h x z:=by
 induction a with
 | refl=>exact .step b .refl
 | step l _ J=>exact .step l (J b)
def Sd.one {x y}(a:Sd h x y)(b:Lnk h y z):∃u,Lnk h x u/\Sd h u z:=by
 cases a with
 | refl=>exact⟨z,b,.refl⟩
 | step l r=>exact⟨_,l,r.snoc b⟩
variable {prog:Cq}{R:Qi->AP->Prop}
def uM {s}{e}(h:R (.ok (.ret .none)) s):∀{l o},Ir s.heap l o->e∉l->(∃a,o=.ref a)->∀J tg,(tg=false->Sd s.heap J o)->(tg=true->∃y,Lnk s.heap J y/\Sd s.heap y o) ->
  PL (Bg prog w) A (.builtin "proto.unchain" ⟨[.ref e,o,J,.bool tg],[]⟩) R s:=by
 intro l o c;induction c with
 | nil=>rintro _ ⟨a,z⟩;cases z
 | @cons c o vs z l k m h2 t j=>
  intro g _ J tg p ht;have i:Lnk _ _ z:=⟨c,o,vs,rfl,k,m,h2⟩
  refine Rx vq<|Ac<|N7 k m h2 ?_
  by_cases f:z=.none
  subst f;refine Ac<|Bj<|Bj ?_
  exact h
  ·obtain⟨d,rfl,b⟩:∃d,z=.ref d/\d∈l:=by
    cases t with
    | nil=>exact absurd rfl f
    | cons=>exact⟨_,rfl,by simp⟩
   have n:¬(Value.ref d==Value.ref e)=true:=λq=>by
    have:=Value.ref.inj (beq_iff_eq.mp q)
    exact g (by rw[<-this];simp[b])
   rw[if_neg n];by_cases zs:(Value.ref d==J)=true
   ·rw[if_pos zs];refine Ac<|Ql ?_
    first
     | (refine Ac (Bj (Bj ?_));exact h)
   ·rw[if_neg zs];have O:e∉l:=λq=>g (by simp[q])
    cases tg with
    | true=>
     obtain⟨y,⟨u,os,ss,rfl,Y,U,S⟩,r⟩:=ht rfl;exact Ac<|N7 Y U S<|Bj ⟨Code.quiet_builtin _<|by decide +kernel,(j O ⟨d,rfl⟩ y false (λ_=>r.snoc i) nofun)⟩
    | false=>
     exact Ac<|Bj<|Bj ⟨Code.quiet_builtin _<|by decide +kernel,(j O ⟨d,rfl⟩ J true nofun λ_=>(p rfl).one i)⟩
variable {oe:Obj}
def ahm {d s}{e}{ws h0}{Q}(g:Bc A h0)(k0:∀b o,h0.get? b=Go o->s.heap.get? b=Go o)(j:h0.get? e=JI)(O:s.heap.get? e=Go oe)(S:oe.data=.fields ws)(hz:2<ws.size)
  (h:∀h',(∀b,b≠e->h'.get? b=s.heap.get? b)->(∃o',h'.get? e=Go o'/\o'.cls=oe.cls/\o'.dict=oe.dict/\((A.handled=JI/\h'=s.heap)\/∃v,A.handled=Go v/\o'.data=.fields (ws.setIfInBounds 2 v)))->E (.ref e) {s with heap:=h'}):Bb (Bg prog w) A (raiseNew (.ref e):Sem d) Q E s:=by
 refine Ac<|wpAny_handled ?_
 cases hh:A.handled with
 | none=>
  exact Ac<|Bj<|YK<|h _ (λ_ _=>rfl) ⟨oe,O,rfl,rfl,.inl ⟨hh,rfl⟩⟩
 | some v=>
  obtain⟨a,l,rfl,U⟩:=g v hh;have Y:e∉l:=λq=>by obtain⟨o,z⟩:=U.there e q;rw[j]at z;cases z
  dsimp only;have f:(Value.ref a != Value.ref e)=true:=by
   simp only[bne_iff_ne];intro q;exact Y<|Value.ref.inj q ▸ ((by cases U with|cons=>simp))
  rw[if_pos f];refine Ac<|Ly<|wpAny_runValue<|uM (Ac<|Ac<|wpAny_load O ?_) (U.keep λb _ o z=>k0 b o z) Y ⟨a,rfl⟩ _ false (λ_=>.refl) nofun
  rw[S];dsimp only;rw[if_pos hz];refine wpAny_update O<|YK ?_
  have J:=V8 S (·.setIfInBounds 2 (Value.ref a));exact h _ (λb i=>P0 _ _<|Jp i) ⟨_,RP _ O<|X6 J,Yt _ _,by obtain⟨c0,d0,k,sl⟩:=oe;cases S;rfl,.inr ⟨_,hh,J⟩⟩
def zaJ {s:AP}{it:Addr}{x left O:Int}{Q:Option Mk->AP->Prop}(hh:Bc A s.heap)(J:IsRangeIter s.heap it x left O)(S:left<=0)
  (Y:∀h',YM it s.heap h'->Q JI {s with heap:=h'}):Bb (Bg prog w) A (pyNext (.ref it)) Q E s:=by
 have hT:s.TypeIs (.ref it) "range_iterator":=⟨_,J,rfl⟩
 refine Ac (Wn (X8 hT F.slot_range_iterator_next
  (SM F.slot_range_iterator_next hT F.entry_range_iterator_next ?_ (F.args_range_iterator_next_1 _))))
 show Bb _ _ (field (.ref it) 0 >>= _) _ _ s;refine Ac<|N7 J rfl (x:=QC x) rfl ?_
 refine Ac<|N7 J rfl (x:=QC left) rfl ?_
 refine Ac<|N7 J rfl (x:=QC O) rfl ?_
 show Bb _ _ (if left<=0 then _ else _) _ _ s;rw[if_pos S];refine Ac<|Ql ?_
 refine Ac ?_;refine Ac ?_;refine Ac (m:=Yx _ _)<|wpAny_of_eq (a:=Value.none) (by first|rfl|(simp only[Yx];rfl)) ?_
 refine Rf ?_<|by size_fits
 refine ahm (A:=A.in1) (h0:=s.heap) hh (λb o q=>HJ _<|HJ _ q) (X3<|by simp[Heap.push]) (Il _ rfl) rfl (by simp;lia) λh' h1 f=>?_;obtain⟨o',h2,c,_⟩:=f;refine Ac<|wpAny_isInstance (T := "StopIteration") (b:=true) ⟨_,h2,c⟩ isSubtype_stop ?_
 refine Bj<|Y _ λb o d e=>?_
 rw[h1 b ?_];exact HJ _<|HJ _ e
 have:=Hh e
 exact Ip<|Js this<|by simp[Heap.push]
structure It where
 go:Nat->Hp->Prop
 yld:Nat->Hp->V->Hp->Prop
 stop:Nat->Hp->Prop
 cm:Bool
abbrev Jj (X:Cx)(anq:List (Addr×Obj))(H:Hp)(b:Addr):Prop:=
 H b=JI/\b≠X.env.locals/\b∉X.fs/\(b∈X.ex\/X.s₀.heap.objs.size<=b)/\(∀x c,X.env.cells.lookup x=Go c->c≠b)/\∀p∈X.pn++anq,p.1≠b
def Aw.fpOk {s}(I:Aw X anq σ H s)(J:s.heap.objs.size<=b)(S:H' b=JI):Jj X anq H' b:=by
 refine⟨S,Nk<|Js I.lt J,I.nofs J,.inr<|HW I.sz J,λx c e z=>?_,λp O z=>(absurd (Js (Hh (I.pin p O).1)<|z ▸ J)<|Qo _)⟩;obtain⟨v,q⟩:=I.cell x c e;exact absurd (Js q.lt<|z ▸ J)<|Qo _
structure Turn (P:Cq) (w:Cd) (K:Az) (tg:Expr) (J:It) (fp:List Addr) (it:Addr) (tn:Nat->Heap->Prop):Prop where
 mem:it∈fp
 obj:∀i h,tn i h->∀b∈fp,∃o,h.get? b=Go o/\∀v,o.data≠.cell v
 keep:∀i h h',tn i h->(∀b∈fp,∀o,h.get? b=Go o->h'.get? b=Go o)->tn i h'
 item:∀(X:Cx),X.prog=P->X.w=w->X.K=K->(J.cm=true->X.calm=true)->∀(i:Nat) (anq:List (Addr×Obj)) (s:AP) (σ:St) (H:Hp) (E:Mk->AP->Prop),Aw X anq σ H s->(∀b∈fp,Jj X anq H b)->tn i s.heap->J.go i H ->
  Bb (Bg P w) X.A (pyNext (.ref it)) (λr s1=>∃u,r=Go u /\
   Bb (Bg P w) X.A (letOwnedTupleGo tg (.ref it) u) (λ_ s2=>∃x H',Aw X anq σ H' s2/\RelV x u/\J.yld i H x H'/\tn (i+1) s2.heap/\∀b∈fp,H' b=JI) E s1) E s
 done:∀(X:Cx),X.prog=P->X.w=w->X.K=K->(J.cm=true->X.calm=true)->∀(i:Nat) (anq:List (Addr×Obj)) (s:AP) (σ:St) (H:Hp) (E:Mk->AP->Prop),Aw X anq σ H s->(∀b∈fp,Jj X anq H b)->tn i s.heap->J.stop i H ->
  Bb (Bg P w) X.A (pyNext (.ref it)) (λr s1=>r=JI/\Aw X anq σ H s1) E s
 self:∀(A:Cw) (i:Nat) (s:AP) (Q:Mk->AP->Prop) (E:Mk->AP->Prop),tn i s.heap->Q (.ref it) s->Bb (Bg P w) A (pyIter (.ref it)) Q E s
@[reducible]noncomputable def TI:=St->Hp->(It->Hp->Prop)->Prop
abbrev PIE (X:Cx)(anq:List (Addr×Obj))(σ:St)(tg:Expr)(R:It->Hp->Prop)(O:Mk)(U:AP):Prop:=
 ∃(it:Addr) (fp:List Addr) (S:Nat->Heap->Prop) (J:It) (H':Hp),O=.ref it/\Aw X anq σ H' U/\Turn X.prog X.w X.K tg J fp it S/\S 0 U.heap/\(∀b∈fp,Jj X anq H' b)/\R J H'
abbrev PI (X:Cx)(tg iter:Expr)(wi:TI):Prop:=
 ∀(anq:List (Addr×Obj)) (s:AP) (σ:St) (H:Hp) (R:It->Hp->Prop),Aw X anq σ H s->wi σ H R ->
  Bb (Bg X.prog X.w) X.A (eval iter X.env) (λv J=>Bb (Bg X.prog X.w) X.A (pyIter v) (PIE X anq σ tg R) X.xe J) X.xe s
def VD {s:AP}{it:Addr}{o:Obj}{n:String}{vs:Array Mk}{Q:Unit->AP->Prop}(O:s.heap.get? it=Go o)(Y:o.cls=.type n)(U:o.data=.fields vs)
    (S:["enumerate", "zip", "dict_itemiterator", "dict_reverseitemiterator", "odict_iterator", "itertools.zip_longest", "itertools.pairwise"].contains n=false) (J:Q () s):Bb M A (letOwnedTupleGo tg (.ref it) u) Q E s:=by
  cases tg<;>first
    | exact Bj J
    | (cases u<;>first
        | exact Bj J
        | (refine Ac (wpAny_load O ?_)
           rw[Y,U];show Bb M A (if _=true then _ else _) Q E s;rw[if_neg (by intro h;rw[S]at h;cases h)];exact Bj J))
abbrev Itl (K:Az)(a:Addr):It:=
 ⟨λi H=>∃xs x,Ja K H a xs/\xs[i]?=Go x,λi H x H'=>H'=H/\∀xs,Ja K H a xs->xs[i]?=Go x,λi H=>∃xs,Ja K H a xs/\xs.length<=i,true⟩
abbrev Itt (K:Az)(a:Addr):It:=
 ⟨λi H=>∃xs x,IW K H a xs/\xs[i]?=Go x,λi H x H'=>H'=H/\∀xs,IW K H a xs->xs[i]?=Go x,λi H=>∃xs,IW K H a xs/\xs.length<=i,true⟩
abbrev Itr (lo:Int)(n:Nat):It:=⟨λi _=>i<n,λi H x H'=>H'=H/\x=.int (lo+i),λi _=>n<=i,false⟩
def ahz (a it:Addr):Turn P w K tg (Itl K a) [it] it (λi h=>h.IsListIter it a i) where
 mem:=by simp
 obj:=λi h st b J=>by
  obtain⟨o,e,c,d⟩:=st;simp_all
 keep:=λi h h' st k=>st.at λo e=>k it (by simp) o e
 item:=by
  intro X j f l B i anq s σ H E I U st g;subst j f l;obtain⟨xs,x,S,A⟩:=g;obtain⟨its,Y,p,M⟩:=I.list S;obtain⟨u,Q,F⟩:=Y.get A;obtain⟨t,r,R,q,n,m⟩:=U it (by simp);refine wpAny_pyNext_list_item st p.isList (by simpa using Q) λh' O D=>?_;obtain⟨o,e,c,d⟩:=id O;exact⟨u,rfl,VD e c d (by decide) ⟨x,H,(I.turned (λb o J e=>(D.2 b J).trans e) t r q n m),F,⟨rfl,λys N=>by rwa[I.list_inj N S]⟩,O,λb J=>(U b J).1⟩⟩
 done:=by
  intro X j f l B i anq s σ H E I U st g;subst j f l;obtain⟨xs,S,A⟩:=g;obtain⟨its,Y,p,M⟩:=I.list S;obtain⟨t,r,R,q,n,m⟩:=U it (by simp);have V:=Y.length;exact wpAny_pyNext_list_end (I.ok.hd<|B rfl) st p.isList (by simp;lia) λh' T=>⟨rfl,I.turned (λb o J e=>T b o J e) t r q n m⟩
 self:=λ_ _ _ _ _ st h=>wpAny_pyIter_listiter st h
def ahn (a it:Addr):Turn P w K tg (Itt K a) [it] it (λi h=>h.IsTupleIter it a i) where
 mem:=by simp
 obj:=λi h st b J=>by
  obtain rfl:=by simpa using J
  obtain⟨o,e,c,d⟩:=st;exact⟨o,e,λv z=>by rw[d]at z;cases z⟩
 keep:=λi h h' st k=>st.at λo e=>k it (by simp) o e
 item:=by
  intro X l g m C i anq s σ H E I U st j;subst l g m;obtain⟨xs,x,S,f⟩:=j;obtain⟨its,Y,p,N⟩:=I.tuple S;obtain⟨u,R,G⟩:=Y.get f;obtain⟨v,t,T,r,q,n⟩:=U it (by simp);refine wpAny_pyNext_tuple_item st p (by simpa using R) λh' O F=>?_;obtain⟨o,e,c,d⟩:=id O;exact⟨u,rfl,VD e c d (by decide) ⟨x,H,(I.turned (λb o J e=>(F.2 b J).trans e) v t r q n),G,⟨rfl,λys Q=>I.tuple_inj Q S ▸ f⟩,O,λb J=>(U b J).1⟩⟩
 done:=by
  intro X l g m C i anq s σ H E I U st j;subst l g m;obtain⟨xs,S,f⟩:=j;obtain⟨its,Y,p,N⟩:=I.tuple S;obtain⟨v,t,T,r,q,n⟩:=U it (by simp);have W:=Y.length;exact wpAny_pyNext_tuple_end (I.ok.hd<|C rfl) st p (by simp;lia) λh' V=>⟨rfl,I.turned (λb o J e=>V b o J e) v t r q n⟩
 self:=λ_ _ _ _ _ st h=>wpAny_pyIter_tupleiter st h
def ahg (it:Addr)(lo:Int)(n:Nat):Turn P w K tg (Itr lo n) [it] it (λi h=>IsRangeIter h it (lo+(i:Nat)*1) ((n:Int)-(i:Nat)) 1) where
 mem:=by simp
 obj:=λi h st b J=>by
  obtain rfl:=by simpa using J
  exact⟨_,st,λv z=>by
   cases z⟩
 keep:=λi h h' st k=>k it (by simp) _ st
 item:=by
  intro X x u y v i anq s σ H E I O st Y;obtain⟨g,f,A,d,c,a⟩:=O it (by simp);refine wpAny_pyNext_range_item st (by have:i<n:=Y;lia) λh' U t=>?_;have C:Aw X anq σ H {s with heap:=h',toks:=s.toks+1}:=I.turned (λb o J e=>(t.2 b J).trans e) g f d c a;have S:IsRangeIter h' it (lo+((i+1:Nat):Int)*1) ((n:Int)-((i+1:Nat):Int)) 1:=by
   have e1:lo+((i+1:Nat):Int)*1=lo+((i:Nat):Int)*1+1:=by lia
   have e2:(n:Int)-((i+1:Nat):Int)=(n:Int)-((i:Nat):Int)-1:=by lia
   rwa[e1,e2]
  refine⟨_,rfl,VD U rfl rfl (by decide) ⟨.int _,H,C,⟨s.toks,?_⟩,⟨rfl,rfl⟩,S,λb J=>(O b J).1⟩⟩;rw[Int.mul_one]
 done:=by
  intro X x u y v i anq s σ H E I O st Y;obtain⟨g,f,A,d,c,a⟩:=O it (by simp);exact zaJ (ahp I.qt0 I.hok) st (by have:n<=i:=Y;lia) λh' B=>⟨rfl,I.turned (λb o J e=>B b o J e) g f d c a⟩
 self:=λ_ _ _ _ _ st h=>wpAny_pyIter_rangeiter st h
section
def zbs {s:AP}{R:It->Hp->Prop}{lo hi:Int}{t u v:Tok}{tk:Nat}(I:Aw X anq σ H s)(h1:-(2^62)<=lo)(h2:lo<2^62)(U:-(2^62)<=hi)(S:hi<2^62)
  (q:R (Itr lo (hi-lo).toNat) H):Bb (Bg X.prog X.w) X.A (pyIter (.ref s.heap.objs.size)) (PIE X anq σ tg R) E {s with heap:=s.heap.push {cls:=.type "range",data:=.fields #[.int lo t,.int hi u,.int 1 v]},toks:=tk}:=by
 refine wpAny_pyIter_range (IsRange.new ..) (small_one h1 h2 U S) ?_;have J:Aw X anq σ H {s with heap:=s.heap.push {cls:=.type "range",data:=.fields #[.int lo t,.int hi u,.int 1 v]},toks:=tk}:=I.kept λb o e=>HJ _ e
 refine⟨(s.heap.push {cls:=.type "range",data:=.fields #[.int lo t,.int hi u,.int 1 v]}).objs.size,[(s.heap.push {cls:=.type "range",data:=.fields #[.int lo t,.int hi u,.int 1 v]}).objs.size],_,_,H,rfl,
  J.kept λb o e=>HJ _ e,ahg _ lo (hi-lo).toNat,?_,λb O=>?_,q⟩
 have e1:lo+((0:Nat):Int)*1=lo:=by simp
 have e2:(((hi-lo).toNat:Nat):Int)-((0:Nat):Int)=Builtin.Range.rangeSize lo hi 1:=by rw[rangeSize_one];split<;>lia
 rw[e1,e2];exact Il _ rfl;have e:b=(s.heap.push {cls:=.type "range",data:=.fields #[.int lo t,.int hi u,.int 1 v]}).objs.size:=by simpa using O
 subst e;exact J.fpOk (Cm _)<|J.hok.fresh<|Cm _
abbrev adZ (ta:TA):TI:=fun σ H R=>ta σ H λvs H1=>∃j:Int,vs=[.int j]/\-(2^62)<=j/\j<2^62/\R (Itr 0 j.toNat) H1
def aiQ {a ta p}(hg:Gl X "range")(hm:X.mg "range" = JI)(ha:PA X [a] ta)(hs:autoParam (Ck [a] X.env=[(false,eval a X.env)]) aPq._auto_1):PI X tg (.Call (.Name "range" p) [a] [] pos) (adZ ta):=by
 intro anq s σ H R I h;refine Call_<|rO I hg hm boot_range<|Zm (Hg (ha pos anq s σ H _ I h) λus s1 b=>?_) hs rfl;obtain⟨vs,H1,I1,r1,q1⟩:=b
 obtain⟨j,e,q1,q2,q⟩:=q1;subst e;cases r1 with
 | cons r rr=>
  cases rr;obtain⟨t,rfl⟩:=r;exact call_range_1<|zbs I1 (by lia) (by lia) q1 q2<|by simpa using q
abbrev agM (wi:TI)(g:TG)(tb:TS):TS:=λD σ H=>wi σ H λJ H1=>∃W:Nat->Nat->St->Hp->Prop,(∃m,W 0 m σ H1)/\∀i m σ H,W i m σ H ->
 (J.stop i H/\D.nx σ H)\/(J.go i H/\∃N:St->Hp->Prop,(∀σ' H',N σ' H'->∃S,S<m/\W (i+1) S σ' H')/\∀x H',J.yld i H x H'->g x σ H' fun O H2=>tb {D with nx:=N,ct:=N,bk:=D.nx} O H2)
abbrev Gj (fp:List Addr)(h:Heap):List (Addr×Obj):=fp.filterMap λb=>(h.get? b).map λo=>(b,o)
def jQ {fp o}(J:b∈fp)(e:h.get? b=Go o):(b,o)∈Gj fp h:=List.mem_filterMap.mpr ⟨b,J,by rw[e];rfl⟩
def ahN {fp p}(J:p∈Gj fp h):p.1∈fp/\h.get? p.1=Go p.2:=by
 obtain⟨b,O,e⟩:=List.mem_filterMap.mp J;cases q:h.get? b with
 | none=>rw[q]at e;cases e
 | some o=>
  grind
def Aw.pinned {s}{fp}(I:Aw X anq σ H s)(O:∀b∈fp,Jj X anq H b)(U:∀b∈fp,∃o,s.heap.get? b=Go o/\∀v,o.data≠.cell v):Aw X (anq++Gj fp s.heap) σ H s:=
 I.pins_of λp J=>(Wx.mp J).elim (λz=>I.pin p (W8 _ z)) λz=>by
  obtain⟨S,e⟩:=ahN z;obtain⟨c,a,Y,_⟩:=O _ S;grind
def Aw.unpinned {pl:List (Addr×Obj)}{s:AP}(I:Aw X (anq++pl) σ H s):Aw X anq σ H s:=I.pins_of λp J=>I.pin p (W8 _ (Ri _ J))
def Uv {iter wi g}{tb}(hp:Zq (Bg X.prog X.w) X.A X.env X.xe)(hc:X.calm=true)(hi:PI X tg iter wi)(hg:PG X tg g)(hb:Py X body tb)
  (hs:autoParam (∀x,Wt iter X.env x=pure x) aPq._auto_4):PS X (.For tg iter body [] pos) (agM wi g tb):=by
 intro anq s σ H D I h;refine wpAny_For (Hg (hi anq s σ H _ I h) λv s1 h1=>Hg h1 λitv s2 h2=>?_) hs;obtain⟨it,fp,tn,J,H2,e,I2,T,st2,f2,W,⟨m0,w0⟩,turn⟩:=h2;subst e;have stat:∀{H':Hp},(∀b∈fp,H' b=JI)->∀b∈fp,Jj X anq H' b:=λhn b hb=>⟨hn b hb,(f2 b hb).2⟩
 refine codeAny_forLoop_any (λn s'=>∃i σ' H',Aw X anq σ' H' s'/\tn i s'.heap/\(∀b∈fp,H' b=JI)/\W i n σ' H') ?_ m0 ⟨0,σ,H2,I2,st2,λb hb=>(f2 b hb).1,w0⟩;rintro n s3 ⟨i,σ3,H3,I3,st3,fr3,w3⟩;rcases turn i n σ3 H3 w3 with⟨stop,qn⟩|⟨go,N,hN,step⟩
 ·refine Y0 hp<|Hg (T.done X rfl rfl rfl (λ_=>hc) i anq s3 σ3 H3 _ I3 (stat fr3) st3 stop) λr s4 a=>?_;obtain⟨hr,I4⟩:=a
  subst hr;exact Yz ⟨σ3,H3,I4,qn⟩
 ·refine Y0 hp<|Hg (T.item X rfl rfl rfl (λ_=>hc) i anq s3 σ3 H3 _ I3 (stat fr3) st3 go) λr s4 c=>?_;obtain⟨u,hr,h4⟩:=c
  subst hr;refine Y0 hp<|Hg h4 λ_ s5 ⟨x,H5,I5,r5,y5,st5,fr5⟩=>(Y0 hp<|Hg (hg _ s5 σ3 H5 x u _ (I5.pinned (stat fr5)<|T.obj _ _ st5) r5<|step x H5 y5) λ_ s6 ⟨σ6,H6,I6,q6⟩=>(Y0 hp<|Hg (hb _ s6 σ6 H6 _ I6 q6) λf s7 q7=>?_))
  have again:∀{σ7:St}{H7:Hp},Aw X _ σ7 H7 s7->N σ7 H7->∃m,m<n/\∃i σ' H',Aw X anq σ' H' s7/\tn i _/\(∀b∈fp,H' b=JI)/\W i m σ' H':=λ{σ7 H7} I7 n7=>by
   obtain⟨m',hm,w7⟩:=hN σ7 H7 n7;refine⟨m',hm,i+1,σ7,H7,I7.unpinned,T.keep _ _ _ st5 λb hb o e=>(I7.pin _<|W8 _<|W8 _<|jQ hb e).1,λb hb=>?_,w7⟩;obtain⟨o,e,d⟩:=T.obj _ _ st5 b hb;exact(I7.pin _<|W8 _<|W8 _<|jQ hb e).2.1
  cases f with
  | next|cont=>obtain⟨σ7,H7,I7,n7⟩:=q7;exact again I7 n7
  | brk=>obtain⟨σ7,H7,I7,q7⟩:=q7;exact⟨σ7,H7,I7.unpinned,q7⟩
  | ret v=>obtain⟨x7,σ7,H7,I7,r7,q7⟩:=q7;exact⟨x7,σ7,H7,I7.unpinned,r7,q7⟩
end
@[reducible]noncomputable def R2:=V->V->Hp->VK->Prop
abbrev KN (X:Cx)(f:Mk->Mk->Sem Mk)(r:R2):Prop:=
 ∀(anq:List (Addr×Obj)) (s:AP) (σ:St) (H:Hp) (x y:V) (v u:Mk) (Q:VK),Aw X anq σ H s->RelV x v->RelV y u->r x y H Q ->
  Bb (Bg X.prog X.w) X.A (f v u) (EP X anq σ Q) X.xe s
abbrev UnR (X:Cx)(f:Mk->Sem Mk)(r:V->Hp->VK->Prop):Prop:=
 ∀(anq:List (Addr×Obj)) (s:AP) (σ:St) (H:Hp) (x:V) (v:Mk) (Q:VK),Aw X anq σ H s->RelV x v->r x H Q ->
  Bb (Bg X.prog X.w) X.A (f v) (EP X anq σ Q) X.xe s
abbrev fj (X:Cx)(f:Mk)(r:List V->Hp->VK->Prop):Prop:=
 ∀(anq:List (Addr×Obj)) (s:AP) (σ:St) (H:Hp) (xs:List V) (us:List Mk) (Q:VK),Aw X anq σ H s->BL xs us->r xs H Q ->
  Bb (Bg X.prog X.w) X.A (call f us) (EP X anq σ Q) X.xe s
abbrev agV (X:Cx)(r:V->Hp->(Bool->Hp->Prop)->Prop):Prop:=
 ∀(anq:List (Addr×Obj)) (s:AP) (σ:St) (H:Hp) (x:V) (v:Mk) (Q:Bool->Hp->Prop),Aw X anq σ H s->RelV x v->r x H Q ->
  Bb (Bg X.prog X.w) X.A (truthy v) (TP X anq σ Q) X.xe s
abbrev tOp (r:R2)(ta tb:TE):TE:=fun σ H Q=>ta σ H λx H1=>tb σ H1 λy H2=>r x y H2 Q
abbrev tUn (r:V->Hp->VK->Prop)(ta:TE):TE:=fun σ H Q=>ta σ H λx H1=>r x H1 Q
abbrev rI (C:Int->Int->Prop)(g:Int->Int->V):R2:=λx y H Q=>∃i j,x=.int i/\y=.int j/\C i j/\Q (g i j) H
abbrev rI0 (g:Int->Int->V):R2:=λx y H Q=>∃i j,x=.int i/\y=.int j/\Q (g i j) H
abbrev rU (g:Int->V):V->Hp->VK->Prop:=λx H Q=>∃i,x=.int i/\Q (g i) H
section
variable {a b c:Expr}{tb tc:TE}
def ae9 (j:PE X a ta)(i:PE X b tb){s:AP}{R:V->V->Hp->Prop}(I:Aw X anq σ H s)
  (h:ta σ H λx H1=>tb σ H1 λy H2=>R x y H2) {Q:Mk->AP->Prop}{f:Mk->Mk->Sem Mk}
  (g:∀v u S x y H2,Aw X anq σ H2 S->RelV x v->RelV y u->R x y H2->Bb (Bg X.prog X.w) X.A (f v u) Q X.xe S) :
  Bb (Bg X.prog X.w) X.A (eval a X.env) (λv O=>Bb (Bg X.prog X.w) X.A (eval b X.env) (λu J=>Bb (Bg X.prog X.w) X.A (f v u) Q X.xe J) X.xe O) X.xe s:=Hg (j anq s σ H _ I h) λv U m=>by obtain⟨x,H1,l,c,e⟩:=m;exact (Hg (i anq U σ H1 _ l e) λu S n=>by obtain⟨y,H2,k,Y,d⟩:=n;exact (g v u S x y H2 k c Y d))
def adR {J r}(Y:KN X (Nx J) r)(d:PE X a ta)(c:PE X b tb):PE X (.BinOp a J b pos) (tOp r ta tb):=by
 intro anq s σ H Q I h;exact wpAny_BinOp<|ae9 d c I h λv u O x y H2 e U S q=>Y anq O σ H2 x y v u Q e U S q
def ae3 {J}{r}(Y:UnR X (unaryOp J) r)(b:PE X a ta):PE X (.UnaryOp J a pos) (tUn r ta):=by
 intro anq s σ H Q I h;exact UnaryOp_<|Hg (b anq s σ H _ I h) λv O d=>by obtain⟨x,H1,c,S,U⟩:=d;exact Y anq O σ H1 x v Q c S U
def opI {f C}{g:Int->Int->Int}
  (J:∀i j t u s  (Q) (E),C i j->Q (.int (g i j) s.toks) {s with toks:=s.toks+1}->Bb (Bg X.prog X.w) X.A (f (.int i t) (.int j u)) Q E s) :
  KN X f (rI C λi j=>.int (g i j)):=by
 intro anq s σ H x y v u Q I U S h;obtain⟨i,j,rfl,rfl,Y,q⟩:=h;obtain⟨t,rfl⟩:=U;obtain⟨O,rfl⟩:=S;exact J i j t O s _ _ Y ⟨.int _,H,I.tok _,⟨_,rfl⟩,q⟩
def afR {f}{g:Int->Int->Int}
  (J:∀i j t u s  (Q) (E),Q (.int (g i j) s.toks) {s with toks:=s.toks+1}->Bb (Bg X.prog X.w) X.A (f (.int i t) (.int j u)) Q E s) :
  KN X f (rI0 λi j=>.int (g i j)):=by
 intro anq s σ H x y v u Q I U S h;obtain⟨i,j,rfl,rfl,q⟩:=h;obtain⟨t,rfl⟩:=U;obtain⟨O,rfl⟩:=S;exact J i j t O s _ _ ⟨.int _,H,I.tok _,⟨_,rfl⟩,q⟩
def afq {f}{g:Int->Int->Bool}
  (J:∀i j t u s  (Q) (E),Q (.bool (g i j)) s->Bb (Bg X.prog X.w) X.A (f (.int i t) (.int j u)) Q E s) :
  KN X f (rI0 λi j=>.bl (g i j)):=by
 intro anq s σ H x y v u Q I U S h;obtain⟨i,j,rfl,rfl,q⟩:=h;obtain⟨t,rfl⟩:=U;obtain⟨O,rfl⟩:=S;exact J i j t O s _ _ ⟨.bl _,H,I,rfl,q⟩
abbrev afH (i j:Int):Prop:=0<=j/\j<=1000000/\i.natAbs<2^64
def abW:KN X (Nx .Add) (rI0 λi j=>.int (i+j)):=afR λ_ _ _ _ _ _ _ q=>add_int q
def aax:KN X (Nx .Sub) (rI0 λi j=>.int (i-j)):=afR λ_ _ _ _ _ _ _ q=>sub_int q
def alH:KN X (Nx .Mod) (rI (λ_ j=>j≠0) λi j=>.int (i.fmod j)):=opI λ_ _ _ _ _ _ _ J q=>mod_int' J q
def acP:KN X (Nx .Pow) (rI afH λi j=>.int (i^j.toNat)):=opI λ_ _ _ _ _ _ _ J q=>pow_int_small J.1 J.2.1 J.2.2 q
def unI {f}{g:Int->Int}
  (J:∀i t s  (Q) (E),Q (.int (g i) s.toks) {s with toks:=s.toks+1}->Bb (Bg X.prog X.w) X.A (f (.int i t)) Q E s) :
  UnR X f (rU λi=>.int (g i)):=by
 intro anq s σ H x v Q I O h;obtain⟨i,rfl,q⟩:=h;obtain⟨t,rfl⟩:=O;exact J i t s _ _ ⟨.int<|g i,H,I.tok _,⟨_,rfl⟩,q⟩
def abu:UnR X (unaryOp .USub) (rU λi=>.int (-i)):=unI λ_ _ _ _ _ q=>neg_int q
def uz {s Q}{k J}(I:Aw X anq σ H s)(q:Q (.bl k) H)(e:k=J):EP X anq σ Q (.bool J) s:=by
 subst e;exact⟨.bl k,H,I,rfl,q⟩
def ae4:KN X (N8 .Lt) (rI0 λi j=>.bl (decide (i<j))):=afq λ_ _ _ _ _ _ _ q=>lt_int q
def aew:KN X (N8 .Gt) (rI0 λi j=>.bl (decide (j<i))):=afq λ_ _ _ _ _ _ _ q=>gt_int q
def aeH:KN X (N8 .GtE) (rI0 λi j=>.bl (decide (j<=i))):=afq λ_ _ _ _ _ _ _ q=>ge_int q
def aak:KN X (N8 .Is) (λx y H Q=>y=.non/\Q (.bl (decide (x=.non))) H):=by
 intro anq s σ H x y v u Q I O J h;obtain⟨rfl,q⟩:=h;cases J;refine is_none_gen<|uz I q ?_
 cases x<;>first
  | (obtain⟨t,rfl⟩:=O;rfl)
def ajI:KN X (N8 .IsNot) (λx y H Q=>y=.non/\Q (.bl (!decide (x=.non))) H):=by
 intro anq s σ H x y v u Q I O J h;obtain⟨rfl,q⟩:=h;cases J;refine isnot_none_gen<|uz I q ?_
 cases x<;>first
  | (obtain⟨t,rfl⟩:=O;rfl)
def KN.or {f r S}(h:KN X f r)(h':KN X f S):KN X f (λx y H Q=>r x y H Q\/S x y H Q):=by
 intro anq s σ H x y v u Q I O J q;rcases q with q|q
 exact h anq s σ H x y v u Q I O J q;exact h' anq s σ H x y v u Q I O J q
def Vg (b){op}(h:autoParam (op≠.In) aPq._auto_2)(h2:autoParam (op≠.NotIn) aPq._auto_2):XR op b=false:=by
 have e1:(op==CmpOp.In)=false:=by cases op<;>first|rfl|exact absurd rfl h
 have e2:(op==CmpOp.NotIn)=false:=by cases op<;>first|rfl|exact absurd rfl h2
 cases b<;>simp[XR,e1,e2]
def alU {J r}(Y:KN X (N8 J) r)(e:PE X a ta)(d:PE X b tb)(c:XR J b=false):PE X (.Compare a [J] [b] pos) (tOp r ta tb):=by
 intro anq s σ H Q I h;exact wpAny_Compare1 (ae9 e d I h λv u O x y H2 f U S q=>Y anq O σ H2 x y v u Q f U S q) c
abbrev aeA (t:TE):TT:=fun σ H Q=>t σ H λx H'=>∃k,x=.bl k/\Q k H'
def ajQ {J r}(i:KN X (N8 J) r)(m:PE X a ta)(l:PE X b tb)(j:XR J b=false):PT X (.Compare a [J] [b] pos) (aeA (tOp r ta tb)):=by
 intro anq s σ H Q I h;refine wpAny_isTrue_Compare1 (Hg (m anq s σ H _ I h) λv S ⟨x,H1,p,c,g⟩=>Hg (l anq S σ H1 _ p g) λu O ⟨y,H2,o,Y,f⟩=>
  Hg (i anq O σ H2 x y v u _ o c Y f) λc t w=>?_) j;obtain⟨z,q,n,U,k,e,d⟩:=w
 subst e;cases U;exact Ys ⟨q,n,d⟩
abbrev af3 (K:Az)(x:V)(H:Hp)(k:Bool):Prop:=
 match x with
 | .non=>k=false
 | .bl b=>k=b
 | .int i=>k=(i != 0)
 | .str y=>y.length<=HB/\k=((y.length:Int) != 0)
 | .byt y=>y.size<=HB/\k=((y.size:Int) != 0)
 | .ref p=>(∃xs,Ja K H p xs/\k=!xs.isEmpty)\/(∃xs,IW K H p xs/\k=!xs.isEmpty)\/∃kvs,H p=Go (.dK kvs)/\k=!kvs.isEmpty
 | _=>False
def ahy {kvs}{vs:List (κ×Mk)}(r:KV kvs vs):(!vs.isEmpty)=!kvs.isEmpty:=by
 cases r<;>rfl
def nC {its}(r:BL xs its):(!its.toArray.isEmpty)=!xs.isEmpty:=by
 cases r<;>simp
def yJ:(HB)<2^63:=by decide
def abx:agV X (λx H Q=>∃k,af3 X.K x H k/\Q k H):=by
 intro anq s σ H x v Q I J h;obtain⟨k,e,q⟩:=h;have c:HB=16777216:=sizeLine_eq;cases x with
 | non=>
  cases J;have e':k=false:=e;subst e';exact truthy_none ⟨H,I,q⟩
 | bl b=>
  cases J;have e':k=b:=e;subst e';exact Ys ⟨H,I,q⟩
 | int i=>
  obtain⟨t,rfl⟩:=J;have e':k=(i != 0):=e;subst e';exact PySem.P.truthy_int ⟨H,I,q⟩
 | str y=>
  obtain⟨t,rfl⟩:=J;obtain⟨Y,e'⟩:y.length<=HB/\k=((y.length:Int) != 0):=e;subst e';exact PySem.P.truthy_str (by lia) ⟨H,I.tok _,q⟩
 | byt y=>
  obtain⟨t,rfl⟩:=J;obtain⟨Y,e'⟩:y.size<=HB/\k=((y.size:Int) != 0):=e;subst e';exact PySem.W.truthy_bytes (by lia) ⟨H,I.tok _,q⟩
 | ref p=>
  cases J;have e':(∃xs,Ja X.K H p xs/\k=!xs.isEmpty)\/(∃xs,IW X.K H p xs/\k=!xs.isEmpty)\/∃kvs,H p=Go (.dK kvs)/\k=!kvs.isEmpty:=e
  rcases e' with⟨xs,O,e'⟩|⟨xs,O,e'⟩|⟨kvs,O,e'⟩
  subst e';obtain⟨its,r,pl,U⟩:=I.list O;have S:=r.length;exact wpAny_truthy_list pl.isList (by simp only[KH];lia) ⟨H,I.tok _,by rw[nC r];exact q⟩;subst e';obtain⟨its,r,pl,U⟩:=I.tuple O;have S:=r.length;exact truthy_tuple pl (by simp only[KH];lia) ⟨H,I.tok _,by rw[nC r];exact q⟩;subst e';obtain⟨U,a,vs,r,m⟩:kvs.length<=HB/\(p==QD)=false/\∃vs,KV kvs vs/\s.heap.DictOf (bV X.prog X.w) p vs:=I.hok p _ O
  have S:kvs.length=vs.length:=XQ r;exact wpAny_truthy_dict a m (by lia) ⟨H,I.tok _,by rw[ahy r];exact q⟩
 | _=>exact(show False from e).elim
def DR (b:PE X a ta)(Y:∀J,isTrue a X.env J=(do let v <-J;standAt a.pos;Te [v] (truthy v))):
  PT X a (fun σ H Q=>ta σ H λx H'=>∃k,af3 X.K x H' k/\Q k H'):=by
 intro anq s σ H Q I h;exact isTrue_plain (Hg (b anq s σ H _ I h) λv O d=>by obtain⟨x,H1,c,S,U⟩:=d;exact abx anq O σ H1 x v Q c S U)<|Y _
def vals1 {x}(r:BL [x] us):∃u,us=[u]/\RelV x u:=by
 cases r with
 | cons O J=>cases J;exact⟨_,rfl,O⟩
def vals2 {x y}(r:BL [x,y] us):∃u w',us=[u,w']/\RelV x u/\RelV y w':=by
 cases r with
 | cons U S=>
  cases S with
  | cons O J=>cases J;exact⟨_,_,rfl,U,O⟩
def ail:fj X (.builtin "abs") (λxs H Q=>∃i,xs=[.int i]/\Q (.int (if i<0 then -i else i)) H):=by
 intro anq s σ H xs us Q I r h;obtain⟨i,rfl,q⟩:=h;obtain⟨u,rfl,t,rfl⟩:=vals1 r;exact call_abs_int λu tk=>⟨.int _,H,I.tok _,⟨_,rfl⟩,q⟩
def zaV (O:X.calm=true):fj X (.builtin "max") (λxs H Q=>∃i j,xs=[.int i,.int j]/\Q (.int (if j>i then j else i)) H):=by
 intro anq s σ H xs us Q I r h;obtain⟨i,j,rfl,q⟩:=h;obtain⟨u,S,rfl,⟨t,rfl⟩,U,rfl⟩:=vals2 r;refine max_two_ints (I.ok.hd O) λh' tk k=>⟨_,H,I.kept k,?_,q⟩;by_cases J:j>i
 rw[if_pos J,if_pos J];exact⟨_,rfl⟩;rw[if_neg J,if_neg J];exact⟨_,rfl⟩
def ajj (O:X.calm=true):fj X (.builtin "min") (λxs H Q=>∃i j,xs=[.int i,.int j]/\Q (.int (if j<i then j else i)) H):=by
 intro anq s σ H xs us Q I r h;obtain⟨i,j,rfl,q⟩:=h;obtain⟨u,S,rfl,⟨t,rfl⟩,U,rfl⟩:=vals2 r;refine min_two_ints (I.ok.hd O) λh' tk k=>⟨_,H,I.kept k,?_,q⟩;by_cases J:j<i
 rw[if_pos J,if_pos J];exact⟨_,rfl⟩;rw[if_neg J,if_neg J];exact⟨_,rfl⟩
def zaZ:fj X (.type "int") (λxs H Q=>(∃i,xs=[.int i]/\Q (.int i) H)\/∃k,xs=[.bl k]/\Q (.int (if k then 1 else 0)) H):=by
 intro anq s σ H xs us Q I r h;rcases h with⟨i,rfl,q⟩|⟨k,rfl,q⟩
 obtain⟨u,rfl,t,rfl⟩:=vals1 r;exact call_int_int ⟨.int i,H,I,⟨_,rfl⟩,q⟩;obtain⟨u,rfl,J⟩:=vals1 r;cases J;exact call_int_bool ⟨.int _,H,I.tok _,⟨_,rfl⟩,q⟩
end
structure afi (h:Heap) (x dx C:Addr) (mA:Str->Option Mk):Prop where
 obj:h.get? x=Go (PySem.W.instObj C dx)
 ns:h.Ns1 dx mA
 ne:dx≠x
variable {dx:Addr}{mA:Str->Option Mk}
def zF (n:h.Ns1 dx mA):∃od,h.get? dx=Go od/\∀name,PySem.W.lookIn name od=Go (mA name):=by
 obtain⟨o,es,ep,S,b,Y,_,U⟩:=n;refine⟨o,S,λname=>?_⟩;have e:=U name;unfold nsFind findBy at e;rw[<-Array.find?_toList]at e;unfold PySem.W.lookIn;rw[b];dsimp only;split
 rename_i y q;simp_all
 rename_i q;rw[q]at e;have a:es.toList.any (·.refKey)=false:=by
  rw[List.any_eq_false];intro y O;obtain⟨z,t,J⟩:=Y y (Array.mem_toList_iff.mp O);simp[DictEntry.refKey,J]
 simp_all
variable {C:Addr}
def afi.look {x}(I:afi h x dx C mA):∃od,Xr h x (PySem.W.instObj C dx) C (Go od)/\∀name,PySem.W.lookIn name od=Go (mA name):=
 let⟨od,J,O⟩:=zF I.ns
 ⟨od,⟨I.obj,rfl,rfl,J⟩,O⟩
section
variable {s:AP}{x f:Addr}{name:Str}{v:Mk}
def get_map {O}(X:K.In s.heap)(I:afi s.heap x dx C mA)(a:PySem.W.plainGet K C name=true)(hh:ZV K C=true)
  (b:Nq K (.ref C) name=Go JI) (U:mA name=Go v) (S:PySem.W.handedIn v=true) (h:Q v {s with toks:=s.toks+1}) :
  Bb (Bg prog w) A (getAttr (.ref x) name O) Q E s:=by
 obtain⟨od,J,Y⟩:=I.look;exact PySem.W.get_value X J (PySem.W.plainGet_of a).1 (PySem.W.findObj_own hh b rfl<|by rw[Y,U]) S h
end
variable {f:Addr}{name:Str}
def Pu.some_of {v}{o}(r:Pu (Go v) o):∃u,o=Go u/\RelV v u:=by
 cases o with
 | none=>cases r
 | some u=>exact⟨u,rfl,r⟩
def ahK {v:V}(r:RelV v u):PySem.W.handedIn u=true:=by
 cases v with
 | non|ref a|ty n=>cases r;rfl
 | bl b=>cases r;rfl
 | int i|byt b|flt b=>obtain⟨t,e⟩:=r;cases e;rfl
 | str x=>obtain⟨t,e⟩:=r;cases e;rfl
section
variable {fs fs':List (Str×V)}
end
section
variable {s:AP}{fs:List (Str×V)}{f:Str}{v:V}
def ajV {env f s}(O:W5 e f env (eval e env)=eval e env)
  (h:Bb (Bg prog w) A (eval e env) (λo J=>Bb (Bg prog w) A (getAttr o f true) Q E J) E s):Bb (Bg prog w) A (eval (.Attribute e f pos) env) Q E s:=
 Attribute_any_ h (by rw[arm_eval_Attribute,O])
end
section
variable {value:Expr}{f:Str}{tpos:Pos}{tv:TE}
end
section
variable {s:AP}{c:Mk}{b:Bool}
end
structure jj (k:Nat) (A:Cw):Prop where
 hd:9<=k->A.handled=JI
 dp:A.depth+3*k+5<recursionLimit
 un:A.units+16*k+200<Jz
def jj.mono (r:jj k A)(h:j<=k):jj j A:=⟨λz=>r.hd (HW z h),by have:=r.dp;lia,by have:=r.un;lia⟩
def jj.deeper {k A}(r:jj (k+1) A)(env):jj k (A.deeper env):=
 ⟨λz=>r.hd (Nat.le_succ_of_le z),by have:=r.dp;show _+1+3*k+5<_;lia,by have:=r.un;show _+3+16*k+200<_;lia⟩
variable {kw:List (Str×Mk)}
def zaO:(A.under (.builtin "type.__call__" ⟨.ref C::us,kw⟩)).depth=A.depth+1:=by rfl
def zaH:(A.under (.builtin "type.__call__" ⟨.ref C::us,kw⟩)).units=A.units+1:=rfl
def jj.make (r:jj (k+1) A)(C:Addr)(us:List Mk)(kw:List (Str×Mk)):jj k (A.under (.builtin "type.__call__" ⟨.ref C::us,kw⟩)):=
 ⟨λz=>r.hd (Nat.le_succ_of_le z),by have:=r.dp;rw[zaO];lia,by have:=r.un;rw[zaH];lia⟩
def jj.calm (r:jj k A)(h:9<=k):A.handled.isNone=true:=by rw[r.hd h];rfl
def jj.depth {k A}(r:jj k A):A.depth<recursionLimit:=by have:=r.dp;lia
def jj.units {k A}(r:jj k A):A.units+64<Jz:=by have:=r.un;lia
abbrev agr:TA:=λ_ H Q=>Q [] H
abbrev aek (ta:TE)(J:TA):TA:=fun σ H Q=>ta σ H λx H1=>J σ H1 λxs H2=>Q (x::xs) H2
section
variable {te:TE}{t:TA}
def Ep:PA X [] agr:=λ_ _ _ _ H Q I h=>Calls.spliced_nil ⟨[],H,I,.nil,h⟩
def nZ (ha:PE X e te)(hr:PA X es t)(hs:autoParam (Ck (e::es) X.env=(false,eval e X.env)::Ck es X.env) aPq._auto_1):PA X (e::es) (aek te t):=by
 intro pos anq s σ H Q I h;exact hs ▸ Calls.spliced_cons (Hg (ha anq s σ H _ I h) λu s1 a=>by obtain⟨x,H1,I1,r1,q1⟩:=a;exact (Hg (hr pos anq s1 σ H1 _ I1 q1) λus s2 b=>by obtain⟨xs,H2,I2,r2,q2⟩:=b;exact ⟨x::xs,H2,I2,.cons r1 r2,q2⟩))
abbrev agA (t:TA):TE:=fun σ H Q=>t σ H λxs H1=>xs.length<=HB/\∀p,H1 p=JI->Q (.ref p) (Cu H1 p (.tup xs))
abbrev agj (t:TA):TE:=fun σ H Q=>t σ H λxs H1=>xs.length<=HB/\∀p,H1 p=JI->Q (.ref p) (Cu H1 p (.lst xs))
def T7 {O}(h:PA X es t):PE X (.Tuple es O pos) (agA t):=by
 intro anq s σ H Q I S;refine wpAny_Tuple_spliced<|Hg (h pos anq s σ H _ I S) λus U ⟨xs,H1,J,r,z,q⟩=>⟨r.length ▸ z,(⟨.ref _,Cu H1 _ _,J.laid (λb u e=>HJ _ e) (Cm _) ?_,rfl,q _<|J.hok.fresh<|Cm _⟩)⟩
 exact⟨z,us,r,_,Il _ rfl,rfl,⟨_,rfl⟩,rfl⟩
def Vi (h:PA X es t):PE X (.List es pos) (agj t):=by
 intro anq s σ H Q I O;refine wpAny_List_spliced<|Hg (h pos anq s σ H _ I O) λus S ⟨xs,H1,J,r,z,q⟩=>⟨r.length ▸ z,.ref _,Cu H1 _ _,J.laid (λb u e=>HJ _ e) (Cm _) ?_,rfl,q _<|J.hok.fresh<|Cm _⟩
 exact⟨z,us,0,r,Il _ rfl⟩
end
variable {t:TA}
@[reducible]noncomputable def Sp:=List V->Hp->VK->XK->Prop
@[reducible]noncomputable def Vp:=Option Mk->List Env->Hp->AP->XK->Mk->AP->Prop
structure Z5 (P:Cq) (w:Cd) (K:Az) (mg:Str->Option Mk) (base:Heap) (A:Cw) (outer:List Env) (s:AP) (H:Hp):Prop where
 frames:A.frames=Go outer
 mod:Mod K mg base
 bs:∀b o,base.get? b=Go o->s.heap.get? b=Go o/\H b=JI
 bsz:base.objs.size<=s.heap.objs.size
 funs:s.heap.FunFrames base outer
 frf:∀b∈frs outer,H b=JI
 hok:Kg P w H s.heap
 bare:Td s.gens
 qt:Quiet A H
abbrev CE (outer:List Env)(P:Cq)(w:Cd)(H:Hp)(s:AP)(Q:VK)(u:Mk)(s':AP):Prop:=
 ∃v H',s'.os=s.os/\Td s'.gens/\Un (frs outer) [] H H' s.heap s'.heap/\Kg P w H' s'.heap/\RelV v u/\Q v H'
abbrev zam (CX:Vp)(hd:Option Mk)(outer:List Env)(P:Cq)(w:Cd)(H:Hp)(s:AP)(Q:VK)(E:XK)(r:Qi)(s':AP):Prop:=
 match r with
 | .ok (.ret u)=>CE outer P w H s Q u s'
 | .ok _=>False
 | .error e=>CX hd outer H s E e s'
structure lJ (P:Cq) (w:Cd) (K:Az) (mg:Str->Option Mk) (base:Heap) (CX:Vp) (k:Nat) (f:Addr) (fd:ML) (ps:List Str) (sp:Sp):Prop where
 len:∀vs H Q E,sp vs H Q E->vs.length=ps.length
 run:∀(A:Cw) (outer:List Env) (s:AP) (H:Hp) (args:Args) (us:List Mk) (vs:List V) (Q:VK) (E:XK),jj k A->Z5 P w K mg base A outer s H->BindsTo s fd args (ps.zip us)->BL vs us->sp vs H Q E ->
  PL (Bg P w) A (.call (.ref f) args) (zam CX A.handled outer P w H s Q E) s
variable {CX:Vp}{base:Heap}{sp:Sp}{mg:Str->Option Mk}{fd:ML}
def lJ.mono {P w K}{mg base CX}{j k f fd}{ps sp}(F:lJ P w K mg base CX j f fd ps sp)(h:j<=k) :
  lJ P w K mg base CX k f fd ps sp:=⟨F.len,λA outer s H J us vs Q E O=>F.run A outer s H J us vs Q E (O.mono h)⟩
def lJ.imp {ps:List Str}{sp':Sp}(F:lJ P w K mg base CX k f fd ps sp)
  (h:∀vs H Q E,sp' vs H Q E->sp vs H Q E):lJ P w K mg base CX k f fd ps sp':=
 ⟨λvs H Q E q=>F.len vs H Q E (h _ _ _ _ q),λA outer s H J us vs Q E U Y a O S=>F.run A outer s H J us vs Q E U Y a O (h _ _ _ _ S)⟩
variable {outer:List Env}
def Z5.make {s}(e:Z5 P w K mg base A outer s H)(C)(us)(kw):
  Z5 P w K mg base (A.under (.builtin "type.__call__" ⟨.ref C::us,kw⟩)) outer s H:=⟨by first|exact e.frames|(simpa using _),e.mod,e.bs,e.bsz,e.funs,e.frf,e.hok,e.bare,e.qt⟩
section
variable {s:AP}
def Aw.env0 (I:Aw X anq σ H s):Z5 X.prog X.w X.K X.mg X.base X.A X.stack s H:=
 ⟨I.ok.frames,I.ok.mod,I.bs,HW I.ok.bsz I.sz,I.stack,I.stkFree,I.hok,I.bare,I.qt0⟩
def Aw.after {Q}(I:Aw X anq σ H s)(h:CE X.stack X.prog X.w H s Q u s'):EP X anq σ Q u s':=by
 obtain⟨v,H',os,J,U,S,r,q⟩:=h;obtain⟨hh,g,d,t,O⟩:=s';obtain rfl:O=s.os:=os;exact⟨v,H',I.call U S J nofun,r,q⟩
end
abbrev aa6 (sp:Sp)(dvs:List V)(E:XK)(t:TA):TE:=fun σ H Q=>t σ H λvs H1=>sp (vs++dvs) H1 Q E
abbrev Binds (K:Az)(fd:ML)(ps:List Str)(ds:List Mk):Prop:=
 ∀(s:AP) (us:List Mk),K.In s.heap->(us++ds).length=ps.length->BindsTo s fd ⟨us,[]⟩ (ps.zip (us++ds))
def Binds.all {ps}(h:∀us,us.length=ps.length->bindArgs fd ⟨us,[]⟩=pure (ps.zip us)):Binds K fd ps []:=λs us _ J=>by
 rw[Yj]at J|-
 exact .of_eq<|h us J
abbrev Passes (CX:Vp)(X:Cx)(E:XK):Prop:=∀(anq:List (Addr×Obj)) (σ:St) (H:Hp) (s:AP) (e:Mk) (s':AP),Aw X anq σ H s->CX X.A.handled X.stack H s E e s'->X.xe e s'
section
variable {ps:List Str}{dvs:List V}{ds:List Mk}{E:XK}{x m:Str}{p apos:Pos}
def adE {s Q}{vs}(F:lJ X.prog X.w X.K X.mg X.base CX k f fd ps sp)(U:jj k X.A)(a:Binds X.K fd ps ds)(Y:BL dvs ds)(S:Passes CX X E)
  (I:Aw X anq σ H s) (r:BL vs us) (h:sp (vs++dvs) H Q E):Bb (Bg X.prog X.w) X.A (call (.ref f) us) (EP X anq σ Q) X.xe s:=by
 have O:=r.append Y;refine wpAny_call<|YQ (F.run _ _ s H ⟨us,[]⟩ _ _ Q E U I.env0 (a s us I.kIn<|O.length ▸ F.len _ _ _ _ h) O h) λr s' J=>?_
 cases r with
 | error e=>exact S anq σ H s e s' I J
 | ok fl=>
  cases fl with
  | ret u=>exact I.after J
  | next|brk|cont=>exact S7 J
def zbY (F:lJ X.prog X.w X.K X.mg X.base CX k f fd ps sp)(hr:jj k X.A)(hg:Gl X x)(hm:X.mg x=Go (.ref f))(hk:RB X.K (.ref f)=true)(hb:Binds X.K fd ps ds)(hd:BL dvs ds)(hx:Passes CX X E)
  (ha:PA X (e::es) t) (hdb:autoParam ((x==("__debug__" : Str))=false) aPq._auto_2) (he:autoParam (Ck (e::es) X.env=(false,eval e X.env)::Ck es X.env) aPq._auto_1) (hpl:autoParam ((JD pos (Ck es X.env)).any (·.1)=false) aPq._auto_1) :
  PE X (.Call (.Name x p) (e::es) [] pos) (aa6 sp dvs E t):=by
 intro anq s σ H Q I h;exact YF<|wU I hg hm (PySem.W.callWith_K I.ok.mod.kin hk (Hg (ha pos anq s σ H _ I h) λus s1 a=>by obtain⟨vs,H1,I1,r,q⟩:=a;exact ⟨I1.kIn,(adE F hr hb hd hx I1 r q)⟩) he hpl) hdb
end
variable {apos:Pos}
section
variable {ps ks:List Str}{E:XK}{x m:Str}{p kpos:Pos}{kws:List Od}{te:TE}{tk:TA}{nm:Option Str}
variable {g:List Mk->List Mk->List Mk}{gV:List V->List V->List V}
end
structure g8 (N P:List Str) (sc:Scope):Prop where
 kind:sc.kind=.function
 co:sc.isCoroutine=false
 gen:sc.isGenerator=false
 nd:N.Nodup
 pre:N.take P.length=P
 par:∀x∈P,sc.names.lookup x=Go .local\/sc.names.lookup x=Go .cell
 nofree:∀y∈sc.names,y.2≠.free
def zf {Qj x}:∀{J m},(∀v,(x,v)∉J)->bindL Qj J m x=m x
 | [],_,_=>rfl
 | (n,v)::r,m,h=>by
  unfold bindL;rw[zf λw O=>h w (Lq _ O)];split
  grind
  rfl
def Af {Qj x}:∀{J m},(∀v,(x,v)∉J)->bindC Qj J m x=m x
 | [],_,_=>rfl
 | (n,v)::r,m,h=>by
  unfold bindC;rw[Af λw O=>h w (Lq _ O)];split
  rfl;grind
def yu {Qj x v}:∀{P:List Str}{vs}{i:Nat}{m},P.Nodup->P[i]?=Go x->vs[i]?=Go v->Qj x=Go .local ->
  bindL Qj (P.zip vs) m x=Go v
 | p::P,w::vs,0,m,J,h1,h2,O=>by
  simp at h1 h2;subst h1;subst h2;show bindL Qj ((p,w)::P.zip vs) m p=_;unfold bindL;rw[zf λv S=>(Wo.mp J).1 (List.of_mem_zip S).1,if_pos O];simp
 | p::P,w::vs,i+1,m,J,h1,h2,O=>by
  unfold bindL;exact yu (Wo.mp J).2 (by simpa using h1) (by simpa using h2) O
def zZ {Qj x v}:∀{P:List Str}{vs}{i:Nat}{m},P.Nodup->P[i]?=Go x->vs[i]?=Go v->Qj x≠Go .local ->
  bindC Qj (P.zip vs) m x=Go v
 | p::P,w::vs,0,m,J,h1,h2,O=>by
  simp at h1 h2;subst h1;subst h2;show bindC Qj ((p,w)::P.zip vs) m p=_;unfold bindC;rw[Af λv S=>(Wo.mp J).1 (List.of_mem_zip S).1,if_neg O];simp
 | p::P,w::vs,i+1,m,J,h1,h2,O=>by
  unfold bindC;exact zZ (Wo.mp J).2 (by simpa using h1) (by simpa using h2) O
abbrev start (N:List Str)(vs:List V):St:=vs.map Go++J4 (N.length-vs.length) JI
abbrev Jg (CX:Vp)(P:Cq)(w:Cd)(K:Az)(mg:Str->Option Mk)(base:Heap)(N:List Str)(qual:Str)(scope:Scope)(f:Addr)(O:Mk)(A:Cw)(outer:List Env)(s:AP)(H:Hp)(E:XK):Cx where
 prog:=P
 w:=w
 K:=K
 mg:=mg
 base:=base
 A:=A.deeper (RD qual scope s.heap.objs.size f O)
 N:=N
 s₀:=s
 H₀:=H
 env:=RD qual scope s.heap.objs.size f O
 outer:=outer
 stack:=RD qual scope s.heap.objs.size f O::outer
 ex:=[]
 calm:=A.handled.isNone
 fn:=λ_=>true
 pn:=[]
 xe:=λe s'=>Bb (Bg P w) (A.deeper (RD qual scope s.heap.objs.size f O)) (leaving (RD qual scope s.heap.objs.size f O) e) (λ_ J=>CX A.handled outer H s E e J) (λe' J=>CX A.handled outer H s E e' J) s'
def Dj {sc:Scope}{x}(h:sc.names.lookup x=Go .cell):∃c,(Lw n sc.names []).lookup x=Go c:=Option.isSome_iff_exists.mp (PySem.W.cellsFrom_some _ n [] (.inl h))
variable {scope:Scope}{qual:Str}
def ajW {N ps g}{s s1 E}{vs}
  (S:g8 N ps scope) (J:Z5 P w K mg base A outer s H) (t:vs.length=ps.length) (r:BL vs us)
  (x:InCallC s s.heap.objs.size (bindL (RD qual scope s.heap.objs.size f g).kindOf (ps.zip us) λ_=>JI) (Lw (s.heap.objs.size+1) scope.names []) (bindC (RD qual scope s.heap.objs.size f g).kindOf (ps.zip us) λ_=>JI) s1) :
  Aw (Jg CX P w K mg base N qual scope f g A outer s H E) [] (start N vs) H s1:=by
 have n:=by have:=congrArg Rb S.pre;rw[Ou]at this;lia
 obtain⟨h1,tk,rfl,l⟩:=x.done;have O:∀b:Addr,b∉(Jg CX P w K mg base N qual scope f g A outer s H E).ex:=λb z=>absurd (show b∈([]:List Addr)from z) (by simp)
 refine⟨⟨J.mod,S.kind,rfl,rfl,Cm _,λy z c h1 h2=>?_,λy Y=>?_,λy c _ h=>?_,Option.isNone_iff_eq_none.mp,J.qt,Around.frames_deeper J.frames,.inr ⟨rfl,rfl⟩,λb z=>absurd z (O b),J.bs,J.bsz,λb _ _=>O b,λb z=>absurd z (O b),J.funs,J.frf⟩,
  rfl,J.bare,Un.kept l,⟨_,x.toInCall.ns,λi y v h1 h2 B=>?_⟩,λy c h=>⟨_,x.cell y c h⟩,J.hok.fresh (Cm _),λy c h=>?_,λp d=>absurd (show p∈([]:List _)from d) (by simp),J.hok.kept l,?_⟩
 exact name_of_addr x.apart (WL h1)<|WL h2
 rcases Y with Y|Y
 exact Dj Y;exact absurd rfl<|S.nofree _<|WL Y
 exact QX<|x.above y c<|WL h
 ·have hi:i<vs.length:=by
   unfold start at h2;by_cases hi:i<vs.length
   exact hi;rw[V7 (by simpa using hi),Zt]at h2;split at h2<;>cases h2
  have o:vs[i]?=Go v:=by
   unfold start at h2;rw[QF (by simpa using hi),Hf]at h2;cases e:vs[i]? with
   | none=>rw[e]at h2;cases h2
   | some a=>rw[e]at h2;cases h2;rfl
  obtain⟨u,j,m⟩:=r.get o;have d:ps[i]?=Go y:=by
   rw[<-S.pre,List.getElem?_take_of_lt (by lia)];exact h1
  have U:=S.pre ▸ S.nd.sublist (List.take_sublist _ _);refine⟨u,m,?_⟩;rcases S.par y (O5 d)with k|k
  exact .inl ⟨k,yu U d j k⟩;obtain⟨c,e⟩:=Dj k;refine .inr ⟨.inl k,c,e,?_⟩;have q:=x.cell y c e;rw[zZ U d j (by show scope.names.lookup y≠_;rw[k];decide)]at q;exact q
 exact J.hok.fresh<|QX<|x.above y c<|WL h
 unfold start;show _=N.length;rw[JK,Bo,W7];lia
variable {od:Option Addr}
def aao {O}{D kV l B U ct M G}
  {p N ps sp}(R:K.lookup f=Go ⟨M,od,.func (Wk name qual O body scope D kV l B G U ct),p⟩) (z:Yc K U qual=true) (S:g8 N ps scope)
  (d:∀vs H Q E,sp vs H Q E->vs.length=ps.length)
  (c:∀A  (outer) (s) (H) (vs) (Q) (E),jj k (A.deeper (RD qual scope s.heap.objs.size f U))->sp vs H Q E ->
   ∃t,Py (Jg CX P w K mg base N qual scope f U A outer s H E) body t/\t {nx:=λ_ H'=>Q .non H',rt:=Q} (start N vs) H) :
  lJ P w K mg base CX (k+1) f (Wk name qual O body scope D kV l B G U ct) ps sp:=by
 refine⟨d,λA outer s H F us vs Q E C j Z r g=>?_⟩;have I:=j.mod.kin.keeps λb o e=>(j.bs b o e).1
 have a:∀y∈ps.zip us,scope.names.lookup y.1=Go .local\/(scope.names.lookup y.1=Go .cell/\((Lw (s.heap.objs.size+1) _ []).lookup y.1).isSome=true):=λ⟨n,v⟩ T=>by
  rcases S.par n (List.of_mem_zip T).1 with q|q
  exact .inl q;exact .inr ⟨q,PySem.W.cellsFrom_some _ _ _<|.inl q⟩
 refine codeAny_call_function C.depth (I _ _ R) rfl S.co S.gen rfl (PySem.W.codeRec_of I z)<|Z _ _ _ _<|wpAny_newFunctionEnv_cells S.kind a λenv X L x=>?_
 subst X;refine⟨(j.mod.nolimit.keeps λb o e=>(j.bs b o e).1).keeps x.toInCall.keep,codeAny_func ?_⟩;obtain⟨t,ht,W⟩:=c A outer s H vs Q E (C.deeper _) g;refine Kv (ht [] L _ H _ (ajW S j (d _ _ _ _ g) r x) W) (λfl s' h=>?_) λe s' h=>h;have i:∀{Y:St}{H':Hp}{v:V}{u:Mk},Aw (Jg CX P w K mg base N qual scope f U A outer s H E) [] Y H' s'->RelV v u->Q v H'->CE outer P w H s Q u s':=
  λ{Y H' v u} J m q=>⟨v,H',J.os,J.bare,J.base,J.hok,m,q⟩
 cases fl with
 | ret u=>
  obtain⟨v,Y,H',J,m,q⟩:=h;exact i J m q
 | next=>
  obtain⟨Y,H',J,q⟩:=h;exact i (v:=V.non) J rfl q
 | brk|cont=>
  obtain⟨_,_,_,q⟩:=h;exact S7 q
section
variable {x:Str}{p:Pos}{id T:String}{r:List V->Hp->VK->Prop}
abbrev tCB (r:List V->Hp->VK->Prop)(t:TA):TE:=fun σ H Q=>t σ H λvs H1=>r vs H1 Q
def wI (hc:fj X (.builtin id) r)(hg:Gl X x)(hm:X.mg x=JI)(hv:W4 x=Go (.builtin id))(ha:PA X (e::es) t)(hn:autoParam (x ≠ "__name__") aPq._auto_2)(hdb:autoParam ((x==("__debug__" : Str))=false) aPq._auto_2)
  (he:autoParam (Ck (e::es) X.env=(false,eval e X.env)::Ck es X.env) aPq._auto_1) (hpl:autoParam ((JD pos (Ck es X.env)).any (·.1)=false) aPq._auto_1):PE X (.Call (.Name x p) (e::es) [] pos) (tCB r t):=by
 intro anq s σ H Q I h;exact YF<|rO I hg hm hv (PyProof.Rows.callWith_builtin1 (Hg (ha pos anq s σ H _ I h) λus s1 a=>by obtain⟨vs,H1,I1,r1,q1⟩:=a;exact hc anq s1 σ H1 vs us Q I1 r1 q1) he hpl) hn hdb
def aip (hc:fj X (.type T) r)(hg:Gl X x)(hm:X.mg x=JI)(hv:W4 x=Go (.type T))(ha:PA X (e::es) t)(hn:autoParam (x ≠ "__name__") aPq._auto_2)(hdb:autoParam ((x==("__debug__" : Str))=false) aPq._auto_2)
  (he:autoParam (Ck (e::es) X.env=(false,eval e X.env)::Ck es X.env) aPq._auto_1) (hpl:autoParam ((JD pos (Ck es X.env)).any (·.1)=false) aPq._auto_1):PE X (.Call (.Name x p) (e::es) [] pos) (tCB r t):=by
 intro anq s σ H Q I h;exact YF<|rO I hg hm hv (Zm (Hg (ha pos anq s σ H _ I h) λus s1 a=>by obtain⟨vs,H1,I1,r1,q1⟩:=a;exact hc anq s1 σ H1 vs us Q I1 r1 q1) he hpl) hn hdb
end
end L2
namespace HT
open PySem PyProof.Rows
section
open PySem.SeqAt
open PySem.AutoSeq1 (wpAny_loadPart')
open PySem.MeetsSeq PySem.MeetsSeq2 PySem.MeetsSeq3
end
section
variable {prog:Cq}{w:Cd}{A:Cw}{E:Mk->AP->Prop}{s:AP}
def Yb {t b}{vs ws}{Q}(ht:IsTup s.heap t vs.toArray)(l:IsTup s.heap b ws.toArray)(g:vs≠[])
  (h1:ws=[]->Q (.ref t) s) (h2:ws≠[]->Q (.ref s.heap.objs.size) {s with heap:=s.heap.push {cls:=.type "tuple",data:=.seq (vs++ws).toArray} })
  (hsz:vs.length+ws.length<=HB):Bb (Bg prog w) A (Nx .Add (.ref t) (.ref b)) Q E s:=by
 obtain⟨⟨cls,dd,data,sl⟩,U,k,n,j⟩:=ht;obtain⟨⟨i,S,d,O⟩,J,c,f,a⟩:=l;subst k j c a;have e:vs.toArray++ws.toArray=(vs++ws).toArray:=by simp
 by_cases Y:ws=[]
 exact concat_meets ⟨_,U,rfl⟩ ⟨_,J,rfl⟩ noFill_tuple_add seq_tuple_add PySem.F.slot_tuple_add PySem.F.entry_tuple_add (PySem.F.args_tuple_add_2 _ _)
  (tuple_addW1 t b _ _ n f dd S sl O (by simpa using g) (by simp[Y])) ⟨U,J,h1 Y⟩
 refine concat_meets ⟨_,U,rfl⟩ ⟨_,J,rfl⟩ noFill_tuple_add seq_tuple_add PySem.F.slot_tuple_add PySem.F.entry_tuple_add (PySem.F.args_tuple_add_2 _ _)
  (tuple_addW2 t b _ _ n f dd S sl O (by simpa using g) (by simpa using Y) hsz) ⟨U,J,?_⟩
 simp_all
abbrev sIx (n d:Nat):Option Int->Nat
 | none=>d
 | some v=>if v<0 then(v+(n:Int)).toNat else min v.toNat n
def QM (n d):sIx n d JI=d:=rfl
def vJ (n d k:Nat):sIx n d (Go (k))=min k n:=rfl
def JQ (v:Int)(n d:Nat):(if v<0 then max (v+(n:Int)) 0 else min v (n:Int))=((sIx n d (Go v):Nat):Int):=by
 show _=(((if v<0 then(v+(n:Int)).toNat else min _ n):Nat):Int);grind
def zaz (lo hi)(n:Nat):Builtin.Slice.sliceAdjust lo hi 1 (n)=(((sIx n 0 lo):Int),((sIx n n hi):Int)):=by
 refine QT ?_ ?_
 ·cases lo with
  | none=>rfl
  | some v=>exact JQ v n 0
 ·cases hi with
  | none=>rfl
  | some v=>exact JQ v n n
def zaC (i j:Nat):Builtin.Slice.slicePlaces (i) (j) 1=j-i:=by
 unfold Builtin.Slice.slicePlaces;lia
def uO {v}{o}{Q}(p:IsPart v o)(h:Q o s):Bb (Bg prog w) A (Builtin.Slice.slicePartIndex v) Q E s:=by
 cases p with
 | none=>exact slicePart_none h
 | int i t=>exact slicePart_int h
def jr {sl}{U S}{lo hi}{n:Nat}{Q}(hs:s.heap.IsSliceOf sl U S .none)(pl:IsPart U lo)(Y:IsPart S hi)
  (h:Q (((sIx n 0 lo):Int),1,sIx n n hi-sIx n 0 lo) s):Bb (Bg prog w) A (Builtin.Slice.sliceApplied (.ref sl) (pure (n))) Q E s:=by
 obtain⟨os,J,a,O⟩:=hs;refine Ac<|Ac<|N7 J O rfl<|Ac<|N7 J O rfl<|Ac<|N7 J O rfl<|Bj ?_
 refine Ac<|slicePart_none ?_
 rw[if_neg (by decide)];refine Ac<|uO pl<|Ac<|uO Y<|Ac<|Bj ?_
 show Bb _ _ (match Builtin.Slice.sliceAdjust lo hi 1 _ with|(lo,hi)=>pure (lo,(1:Int),Builtin.Slice.slicePlaces lo hi 1)) _ _ s;rw[zaz lo hi n];show Bb _ _ (pure _) _ _ s;rw[zaC];exact Bj h
def ajn (xs:Array Mk)(i k:Nat):((Le k).filterMap λ(m:Nat)=>xs[((i)+(m:Int)*1).toNat]?).toArray=((xs.toList.drop i).take k).toArray:=by
 have e:(λ(m:Nat)=>xs[((i:Int)+(m:Int)*1).toNat]?)=λm=>xs[i+m]?:=by
  funext m;have:((i:Int)+(m:Int)*1).toNat=i+m:=by lia
  rw[this]
 rw[e];have:=pick_run xs i k
 rw[List.filterMap_map]at this;have e2:((λx=>xs[x]?) ∘λx=>i+x)=λm=>xs[i+m]?:=rfl
 simp_all
def nW {t sl}{items a Y}{lo hi Q}(ht:IsTup s.heap t items)(hs:s.heap.IsSliceOf sl a Y .none)(pl:IsPart a lo)(c:IsPart Y hi)
  (d:¬(sIx items.size 0 lo=0/\sIx items.size items.size hi=items.size))
  (h:Q (.ref s.heap.objs.size) {s with heap:=s.heap.push {cls:=.type "tuple",data:=.seq ((items.toList.drop (sIx items.size 0 lo)).take (sIx items.size items.size hi-sIx items.size 0 lo)).toArray} })
  (hsz:items.size<=HB):Bb (Bg prog w) A (getItem (.ref t) (.ref sl)) Q E s:=by
 have J:=by
  show((items.toList.drop (sIx items.size 0 lo)).take (sIx items.size items.size hi-sIx items.size 0 lo)).toArray.size<=HB;rw[KH,Ou,List.length_drop,Ze];omega
 obtain⟨os,O,U,e⟩:=id hs;unfold getItem;try with_reducible refine Ly (Ac (wpAny_sequenceKey ht.typeIs (by decide) ?_))
 refine Ac (X8 ht.typeIs Yp
  (SM Yp ht.typeIs entry_tuple_getitem ?_ (args_tuple_getitem _ _)))
 show Bb _ _ (Builtin.Tuple.tupleItemsOf _ >>= _) _ _ s;refine Ac<|tupleItemsOf_ ht<|Ac<|RJ ⟨os,O,U⟩<|Ac<|jr hs pl c ?_
 have S:¬((((sIx items.size 0 lo:Nat):Int)==0&&(1:Int)==1&&(sIx items.size items.size hi-sIx items.size 0 lo)==items.size)=true):=by
  intro q;rw[Rj,Rj]at q;have g:=eq_of_beq q.1.1;have f:=eq_of_beq q.2;exact d ⟨by omega,by omega⟩
 show Bb _ _ (if _=true then _ else _) _ _ s;rw[if_neg S,ajn];first
  | exact Ac (Rf (Ac (Bj (Bj ⟨_,rfl,Bj h⟩))) J)
end
end HT
namespace L2
open PySem PySem.Spec PyProof.Rows
@[reducible]noncomputable def TO:=St->Hp->(Option Int->Hp->Prop)->Prop
abbrev PO (X:Cx)(e:Option Expr)(t:TO):Prop:=
 ∀(anq:List (Addr×Obj)) (s:AP) (σ:St) (H:Hp) (Q:Option Int->Hp->Prop),Aw X anq σ H s->t σ H Q ->
  Bb (Bg X.prog X.w) X.A (evalPart e X.env) (λu s'=>∃o H',Aw X anq σ H' s'/\IsPart u o/\Q o H') X.xe s
abbrev aja:TO:=λ_ H Q=>Q JI H
abbrev aef (t:TE):TO:=fun σ H Q=>t σ H λx H1=>∃i,x=.int i/\Q (Go i) H1
variable {ns:List Int}
def intsAre_of:∀{us:List Mk},BL (ns.map V.int) us->IntsAre us ns:=by
 induction ns with
 | nil=>intro us r;cases r;exact .nil
 | cons n ns S=>
  intro us r;cases r with
  | cons O J=>
   obtain⟨t,e⟩:=O;subst e;exact .cons n t<|S J
section
variable {X:Cx}{e:Expr}{te:TE}{lo hi:Option Expr}{tl th:TO}{pos p2:Pos}
def alj:PO X JI aja:=by
 intro anq s σ H Q I h;exact Bj ⟨JI,H,I,.none,h⟩
def aiL (h:PE X e te):PO X (Go e) (aef te):=by
 intro anq s σ H Q I S;refine Hg (h anq s σ H _ I S) λu Y a=>?_;obtain⟨x,H1,U,J,O⟩:=a;obtain⟨i,rfl,q⟩:=O;obtain⟨t,rfl⟩:=J;exact⟨Go i,H1,U,.int i t,q⟩
abbrev VG (X:Cx)(r:V->Option Int->Option Int->Hp->VK->Prop):Prop:=
 ∀(anq:List (Addr×Obj)) (s:AP) (σ:St) (H:Hp) (x:V) (v O J:Mk) (lo hi:Option Int) (sl:Addr) (Q:VK),Aw X anq σ H s->RelV x v->s.heap.IsSliceOf sl O J .none->IsPart O lo->IsPart J hi->r x lo hi H Q ->
  ∃T id,Wb (.type T) "__getitem__" = pure (Go (.builtin id))/\s.TypeIs v T/\Bb (Bg X.prog X.w) X.A (getItem v (.ref sl)) (EP X anq σ Q) X.xe s
def VG.or {r U}(h:VG X r)(h':VG X U):VG X (λx lo hi H Q=>r x lo hi H Q\/U x lo hi H Q):=by
 intro anq s σ H x v O J lo hi sl Q I S a pl Y q;rcases q with q|q
 exact h anq s σ H x v O J lo hi sl Q I S a pl Y q;exact h' anq s σ H x v O J lo hi sl Q I S a pl Y q
abbrev tSl (r:V->Option Int->Option Int->Hp->VK->Prop)(te:TE)(tl th:TO):TE:=fun σ H Q=>te σ H λx H1=>tl σ H1 λl H2=>th σ H2 λu J=>r x l u J Q
def ajr {r:V->Option Int->Option Int->Hp->VK->Prop}(i:VG X r)(m:PE X e te)(j:PO X lo tl)(g:PO X hi th):PE X (.Subscript e (.Slice lo hi JI p2) pos) (tSl r te tl th):=by
 intro anq s σ H Q I h;refine Subscript_<|Hg (m anq s σ H _ I h) λv Y ⟨x,H1,t,a,d⟩=>(wpAny_Slice<|Hg (j anq Y σ H1 _ t d) λvl U ⟨l,H2,p,pl,c⟩=>Hg (g anq U σ H2 _ p c) λvu O ⟨u,S,o,f,b⟩=>(Bj ?_))
 have n:Aw X anq σ S {O with heap:=O.heap.push {cls:=.type "slice",data:=.fields #[vl,vu,.none]} }:=o.kept λb w q=>HJ _ q
 obtain⟨T,id,hT,ht,k⟩:=i anq {O with heap:=O.heap.push {cls:=.type "slice",data:=.fields #[vl,vu,.none]} } σ S x v vl vu l u _ Q n a (Heap.IsSliceOf.new ..) pl f b;exact tail_any ht hT k<|by with_unfolding_all rfl
abbrev Wr (xs:List V)(lo hi:Option Int):List V:=(xs.drop (HT.sIx xs.length 0 lo)).take (HT.sIx xs.length xs.length hi-HT.sIx xs.length 0 lo)
def qp (xs)(lo hi):(Wr xs lo hi).length<=xs.length:=by
 unfold Wr;rw[Ou,List.length_drop];lia
abbrev agF (K:Az):V->Option Int->Option Int->Hp->VK->Prop:=λx lo hi H Q=>∃a xs,x=.ref a/\IW K H a xs /\
 ¬(HT.sIx xs.length 0 lo=0/\HT.sIx xs.length xs.length hi=xs.length)/\∀p,H p=JI->Q (.ref p) (Cu H p (.tup (Wr xs lo hi)))
def abA:VG X (agF X.K):=by
 intro anq s σ H x v e d lo hi sl Q I O c pl S h;obtain⟨a,xs,rfl,Y,b,q⟩:=h;cases O;obtain⟨its,r,ht,U⟩:=I.tuple Y;have J:its.toArray.size=xs.length:=r.length.symm;refine⟨"tuple",_,Yp.lookup,ht.typeIs,(HT.nW ht c pl S (J ▸ b) ?_<|by rwa[J])⟩;rw[J];refine⟨.ref _,_,I.laid (λb f q=>HJ _ q) (Cm _) ?_,rfl,q _<|I.hok.fresh<|Cm _⟩;exact⟨HW (qp xs lo hi) U,_,(r.drop _).take _,Om.new _ _⟩
abbrev aeg (K:Az):R2:=λx y H Q=>∃a b xs ys,x=.ref a/\y=.ref b/\IW K H a xs/\IW K H b ys/\xs≠[]/\xs.length+ys.length<=HB /\
 (ys=[]->Q (.ref a) H)/\(ys≠[]->∀p,H p=JI->Q (.ref p) (Cu H p (.tup (xs++ys))))
def BL.nil_iff {xs}{us}(r:BL xs us):us=[]↔xs=[]:=by
 cases r with
 | nil|cons _ _=>simp
def aiy:KN X (Nx .Add) (aeg X.K):=by
 intro anq s σ H x y v u Q I c Y h;obtain⟨a,b,xs,ys,rfl,rfl,j,i,g,U,e,d⟩:=h;cases c;cases Y;obtain⟨its,O,f,_⟩:=I.tuple j;obtain⟨S,J,p2,_⟩:=I.tuple i;refine HT.Yb f p2 (λz=>g<|O.nil_iff.mp z) (λz=>⟨.ref a,H,I,rfl,e<|J.nil_iff.mp z⟩) (λz=>?_) (by rw[<-O.length,<-J.length];exact U);refine⟨.ref _,_,I.laid (λb k q=>HJ _ q) (Cm _) ?_,rfl,d (λw=>z<|J.nil_iff.mpr w) _<|I.hok.fresh<|Cm _⟩;exact⟨JK ▸ U,_,O.append J,Om.new _ _⟩
end
abbrev Qt (n:Nat)(i:Int):Option Nat:=if 0<=i then(if i<n then Go i.toNat else JI)else if -(n:Int)<=i then Go (i+n).toNat else JI
abbrev Mj {α:Type}(xs:List α)(i:Int):Option α:=(Qt xs.length i).bind λj=>xs[j]?
def Kr {n i j}(h:Qt n i=Go j):seqIndex? i n=Go j/\j<n/\-(n)<=i/\i<n:=by
 unfold Qt at h;by_cases J:0<=i
 rw[if_pos J]at h;by_cases h1:i<n
 rw[if_pos h1]at h;have e:=IV h;exact⟨by rw[seqIndex_of J h1,e],by lia,by lia,h1⟩;simp_all
 rw[if_neg J]at h;by_cases h1:-(n:Int)<=i
 rw[if_pos h1]at h;have e:=IV h;exact⟨by rw[seqIndex_neg (by lia) h1,e],by lia,h1,by lia⟩;simp_all
def Bl {J}{xs i}{v:J}(h:Mj xs i=Go v):∃j,seqIndex? i xs.length=Go j/\xs[j]?=Go v/\j<xs.length/\-(xs.length:Int)<=i/\i<xs.length:=by
 unfold Mj at h;cases e:Qt _ i with
 | none=>rw[e]at h;cases h
 | some j=>
  rw[e]at h;obtain⟨h1,h2,S,O⟩:=Kr e;simp_all
def bB {J}{xs}{j:Nat}{v:J}(h:xs[j]?=Go v):Mj xs (j)=Go v:=by
 have O:=(Lx.mp h).1;have e:Qt xs.length (j:Int)=Go j:=by
  unfold Qt;simp_all
 unfold Mj;rw[e];exact h
abbrev BP (b:Expr):Prop:=∀o i,subscripted b false o i=operate [o,i] (getItem o i)
abbrev WT (X:Cx)(r:R2):Prop:=
 ∀(value J:Expr) (anq:List (Addr×Obj)) (s:AP) (σ:St) (H:Hp) (x y:V) (v u:Mk) (Q:VK),Aw X anq σ H s->RelV x v->RelV y u->r x y H Q ->
  subscripted J false v u=operate [v,u] (getItem v u)->Bb (Bg X.prog X.w) X.A (subscriptTail value J v u) (EP X anq σ Q) X.xe s
abbrev VH (X:Cx)(id:String)(r:V->List V->Hp->VK->Prop):Prop:=
 ∀(anq:List (Addr×Obj)) (s:AP) (σ:St) (H:Hp) (x:V) (xs:List V) (v:Mk) (us:List Mk) (Q:VK),Aw X anq σ H s->RelV x v->BL xs us->r x xs H Q ->
  Bb (Bg X.prog X.w) X.A (call (.builtin id) (v::us)) (EP X anq σ Q) X.xe s
section
variable {X:Cx}{a b:Expr}{ta tb:TE}{pos:Pos}
def WT.or {r U}(h:WT X r)(h':WT X U):WT X (λx y H Q=>r x y H Q\/U x y H Q):=by
 intro value J anq s σ H x y v u Q I S O q Y;rcases q with q|q
 exact h value J anq s σ H x y v u Q I S O q Y;exact h' value J anq s σ H x y v u Q I S O q Y
def VH.or {id}{r O}(h:VH X id r)(h':VH X id O):VH X id (λx xs H Q=>r x xs H Q\/O x xs H Q):=by
 intro anq s σ H x xs v us Q I J rs q;rcases q with q|q
 exact h anq s σ H x xs v us Q I J rs q;exact h' anq s σ H x xs v us Q I J rs q
def aey {r}(U:WT X r)(c:PE X a ta)(Y:PE X b tb)(hs:BP b):PE X (.Subscript a b pos) (tOp r ta tb):=by
 intro anq s σ H Q I h;exact Subscript_<|ae9 c Y I h λv u J x y H2 d S O q=>U a b anq J σ H2 x y v u Q d S O q<|hs _ _
abbrev afW (K:Az):R2:=λx y H Q=>∃p xs i v,x=.ref p/\y=.int i/\Ja K H p xs/\Mj xs i=Go v/\Q v H
abbrev afr (K:Az):R2:=λx y H Q=>∃p xs i v,x=.ref p/\y=.int i/\IW K H p xs/\Mj xs i=Go v/\Q v H
abbrev afu:R2:=λx y H Q=>∃z i c,x=.str z/\y=.int i/\z.length<=HB/\Mj z.cps.toList i=Go c/\Q (.str ⟨#[c]⟩) H
def alS:WT X (afW X.K):=by
 intro value O anq s σ H x y v u Q I d c h Y;obtain⟨p,xs,i,z,rfl,rfl,e,f,q⟩:=h;cases d;obtain⟨t,rfl⟩:=c;obtain⟨its,r,pl,l⟩:=I.list e;obtain⟨j,h1,h2,o,k,g⟩:=Bl f;obtain⟨w,b,S⟩:=r.get h2;have n:=r.length;have m:=yJ;have J:EP X anq σ Q w s:=⟨z,H,I,S,q⟩
 by_cases a:0<=i
 have U:=by
  rw[seqIndex_of a g]at h1;exact IV h1
 exact item_listR pl.isList a (by lia) (by rw[U];simpa using b) J Y;have U:(i+(its.toArray.size:Int)).toNat=j:=by
  rw[seqIndex_neg (by lia) k]at h1;simp_all
 exact subscriptTail_builtinR pl.isList.typeIs slot_list_getitem.lookup
  (wpAny_getItem_list_neg pl.isList (by lia) (by rw[KH]<;>lia) (by lia) (by rw[U];simpa using b) ⟨rfl,J⟩) Y
def acn:WT X (afr X.K):=by
 intro value J anq s σ H x y v u Q I U S h Y;obtain⟨p,xs,i,z,rfl,rfl,a,b,q⟩:=h;cases U;obtain⟨t,rfl⟩:=S;obtain⟨its,r,pl,d⟩:=I.tuple a;obtain⟨j,h1,h2,k,g,f⟩:=Bl b;obtain⟨w,c,O⟩:=r.get h2;have e:=yJ;exact subscriptTail_builtinR pl.typeIs slot_tuple_getitem.lookup
  (getItem_tuple pl (by lia) (by lia) (by rw[KH,<-r.length];exact h1) (by simpa using c) ⟨rfl,z,H,I,O,q⟩) Y
def abV:WT X afu:=by
 intro value J anq s σ H x y v u Q I S O h U;obtain⟨z,i,c,rfl,rfl,f,a,q⟩:=h;obtain⟨t,rfl⟩:=S;obtain⟨e,rfl⟩:=O;obtain⟨j,h1,h2,k,d,b⟩:=Bl a;have Y:z.cps.toList.length=z.length:=by simp[Str.length]
 rw[Y]at h1 d b;have g:=yJ;exact tail_any (typeIs_str s z t) slot_str_getitem.lookup (getItem_str (by
  rw[(decide_eq_false (by lia)),(decide_eq_false (by lia)),Bool.or_false]) (by rw[h1];simpa using h2) ⟨.str ⟨#[c]⟩,H,I.tok _,⟨_,rfl⟩,q⟩) U
abbrev rIx (K:Az):R2:=λx y H Q=>afW K x y H Q\/afr K x y H Q\/afu x y H Q
def ac0:WT X (rIx X.K):=alS.or (acn.or abV)
def aho (its:List Mk)(n j)(u):Xo (·.setIfInBounds j u) {cls:=.type "list",data:=.seq its.toArray n}={cls:=.type "list",data:=.seq (its.set j u).toArray n}:=by
 simp[Xo]
def Aw.lst {anq}{σ:St}{H s}{p}{xs}(I:Aw X anq σ H s)(h:H p=Go (.lst xs)) :
  ∃(its:List Mk) (n:Nat),BL xs its/\s.heap.get? p=Go {cls:=.type "list",data:=.seq its.toArray n}/\xs.length<=HB:=by
 obtain⟨z,its,n,r,e⟩:=I.hok p _ h;simp_all
def Aw.lstUpd {anq:List (Addr×Obj)}{σ:St}{H:Hp}{s:AP}{p:Addr}{xs ys:List V}{its J:List Mk}{n O:Nat}{f:Obj->Obj}(I:Aw X anq σ H s)(h:H p=Go (.lst xs))
  (Y:s.heap.get? p=Go {cls:=.type "list",data:=.seq its.toArray n}) (S:f {cls:=.type "list",data:=.seq its.toArray n}={cls:=.type "list",data:=.seq J.toArray O}) (r:BL ys J) (hz:ys.length<=HB) (t:Nat) :
  Aw X anq σ (Cu H p (.lst ys)) {s with heap:=s.heap.update p f,toks:=t}:=by
 have e:(s.heap.update p f).get? p=Go {cls:=.type "list",data:=.seq J.toArray O}:=by
  rw[RP f Y (by rw[S]<;>rfl),S]
 refine I.write (by rw[h];trivial) (.inl rfl) (λb u a q=>(P0 _ _<|Jp a).trans q) ⟨_,e⟩ ?_;exact⟨hz,J,O,r,e⟩
abbrev aaI:V->V->V->Hp->(Hp->Prop)->Prop:=λo i v H Q=>∃p xs k j,o=.ref p/\i=.int k/\H p=Go (.lst xs)/\Qt xs.length k=Go j/\Q (Cu H p (.lst (xs.set j v)))
def set_list:acA X aaI:=by
 intro anq s σ H o i v l m u Q I e f d h;obtain⟨p,xs,k,j,rfl,rfl,S,g,q⟩:=h;cases e;obtain⟨t,rfl⟩:=f;obtain⟨its,n,r,J,w⟩:=I.lst S;obtain⟨h1,h2,a,Y⟩:=Kr g;have U:=r.length;have x:=yJ;have c:=
  I.lstUpd S J (aho its n j u) (r.set d j) (by rwa[Yk]) s.toks
 by_cases b:0<=k
 have O:=by
  rw[seqIndex_of b Y]at h1;exact IV h1
 exact PySem.W.ki_setAt J b (by lia) (by rw[KH,<-U];exact Y)<|O ▸ ⟨_,c,q⟩
 have O:(k+(its.toArray.size:Int)).toNat=j:=by
  rw[seqIndex_neg (by lia) a]at h1;simp_all
 exact PySem.W.ki_setBack J (by lia) (by rw[KH,<-U];exact a) (by lia)<|O ▸ ⟨_,c,q⟩
def zm (lo hi)(n):(Xq lo hi JI n).1=((HT.sIx n 0 lo:Nat):Int)/\(Xq lo hi JI n).2.1=((HT.sIx n n hi:Nat):Int)/\(Xq lo hi JI n).2.2=1:=by
 refine⟨?_,?_,rfl⟩
 ·cases lo with
  | none=>simp[Xq,HT.sIx]
  | some i=>
   simp[Xq,HT.sIx];grind
 ·cases hi with
  | none=>simp[Xq,HT.sIx]
  | some i=>
   simp[Xq,HT.sIx];grind
def uZ (its:List Mk)(lo hi):slicePick its.toArray lo hi JI=((its.drop (HT.sIx its.length 0 lo)).take (HT.sIx its.length its.length hi-HT.sIx its.length 0 lo)).toArray:=by
 obtain⟨h1,h2,J⟩:=zm lo hi _;unfold slicePick;rw[h1,h2,J];simp only[sliceRange_one,pick_run]<;>rfl
abbrev agx (K:Az):V->Option Int->Option Int->Hp->VK->Prop:=λx lo hi H Q=>∃a xs,x=.ref a/\Ja K H a xs/\∀p,H p=JI->Q (.ref p) (Cu H p (.lst (Wr xs lo hi)))
def aic:VG X (agx X.K):=by
 intro anq s σ H x v d c lo hi sl Q I O b pl S h;obtain⟨a,xs,rfl,Y,q⟩:=h;cases O;obtain⟨its,r,ht,U⟩:=I.list Y;have J:=r.length;refine⟨"list",_,slot_list_getitem.lookup,ht.isList.typeIs,?_⟩;refine wpAny_getItem_list_slice ht.isList b pl S .none (by simp) ?_ (by rw[KH]<;>lia);rw[uZ,<-J];refine⟨.ref _,_,I.laid (λb e q=>HJ _ q) (Cm _) ?_,rfl,q _<|I.hok.fresh<|Cm _⟩;exact⟨HW (qp xs lo hi) U,_,0,(r.drop _).take _,Il _ rfl⟩
abbrev MF:V->Bool
 | .non=>true
 | .bl _=>true
 | .int _=>true
 | .str _=>true
 | _=>false
abbrev eqV:V->V->Bool
 | .non,.non=>true
 | .bl a,.bl b=>a==b
 | .bl a,.int b=>(if a then 1 else 0)==b
 | .int a,.bl b=>a==(if b then 1 else 0)
 | .int a,.int b=>a==b
 | .str a,.str b=>a==b
 | _,_=>false
def abJ {A s}{y x}{u v}(S:RelV y u)(J:RelV x v)(Y:MF y=true)(U:MF x=true):Xf A s u v (eqV y x):=by
 cases y with
 | non=>
  cases S;cases x with
  | non=>cases J;exact SeqAt.EqAt.same _
  | bl b=>cases J;exact SeqAt.EqAt.none_bool b
  | int b=>obtain⟨t,rfl⟩:=J;exact SeqAt.EqAt.none_int b t
  | str b=>obtain⟨t,rfl⟩:=J;exact SeqAt.EqAt.none_str b t
  | _=>exact absurd (show false=true from U) RM
 | bl a=>
  cases S;cases x with
  | non=>cases J;exact SeqAt.EqAt.bool_none a
  | bl b=>cases J;exact SeqAt.EqAt.bool_bool a b
  | int b=>obtain⟨t,rfl⟩:=J;exact SeqAt.EqAt.bool_int a b t
  | str b=>obtain⟨t,rfl⟩:=J;exact SeqAt.EqAt.bool_str a b t
  | _=>exact absurd (show false=true from U) RM
 | int a=>
  obtain⟨O,rfl⟩:=S;cases x with
  | non=>cases J;exact SeqAt.EqAt.int_none a O
  | bl b=>cases J;exact SeqAt.EqAt.int_bool a O b
  | int b=>obtain⟨t,rfl⟩:=J;exact SeqAt.EqAt.int_int a O b t
  | str b=>obtain⟨t,rfl⟩:=J;exact SeqAt.EqAt.int_str a O b t
  | _=>exact absurd (show false=true from U) RM
 | str a=>
  obtain⟨O,rfl⟩:=S;cases x with
  | non=>cases J;exact SeqAt.EqAt.str_none a O
  | bl b=>cases J;exact SeqAt.EqAt.str_bool a O b
  | int b=>obtain⟨t,rfl⟩:=J;exact SeqAt.EqAt.str_int a O b t
  | str b=>obtain⟨t,rfl⟩:=J;exact SeqAt.EqAt.str_str a O b t
  | _=>exact absurd (show false=true from U) RM
 | _=>exact absurd (show false=true from Y) RM
def yI:fj X (.builtin "len") (λxs H Q=>∃p ys,xs=[.ref p]/\(Ja X.K H p ys\/IW X.K H p ys)/\Q (.int ys.length) H):=by
 intro anq s σ H xs us Q I r h;obtain⟨p,ys,rfl,O,q⟩:=h;obtain⟨u,rfl,U⟩:=vals1 r;cases U;have a:=yJ;rcases O with O|O
 obtain⟨its,S,pl,Y⟩:=I.list O;have J:=S.length;exact Calls.call_len_list pl.isList (by simp<;>lia) ⟨.int _,H,I.tok _,⟨s.toks+1,by rw[KH,J]⟩,q⟩;obtain⟨its,S,pl,Y⟩:=I.tuple O;have J:=S.length;exact len_tuple pl (by simp<;>lia) ⟨.int _,H,I.tok _,⟨s.toks+1,by rw[KH,J]⟩,q⟩
def fj.or {f}{r J}(h:fj X f r)(h':fj X f J):fj X f (λxs H Q=>r xs H Q\/J xs H Q):=by
 intro anq s σ H xs us Q I rs q;rcases q with q|q
 exact h anq s σ H xs us Q I rs q;exact h' anq s σ H xs us Q I rs q
def aha:fj X (.type "list") (λxs H Q=>∃p ys,xs=[.ref p]/\(Ja X.K H p ys\/IW X.K H p ys)/\∀l,H l=JI->Q (.ref l) (Cu H l (.lst ys))):=by
 intro anq s σ H xs us Q I r h;obtain⟨p,ys,rfl,Y,q⟩:=h;obtain⟨u,rfl,t⟩:=vals1 r;cases t;have a:∀(its:List Mk),BL ys its->ys.length<=HB->∀(h':Heap) (O:Nat),(∀b o',s.heap.get? b=Go o'->h'.get? b=Go o') ->
   h'.get? s.heap.objs.size=Go {cls:=.type "list",dict:=JI,data:=.seq _ O,slots:=#[]}->EP X anq σ Q _ {s with heap:=h'}:=λits J U h' O S e=>
  ⟨.ref _,_,I.laid S (Cm _) (show fH _ _ _ h' _ (.lst ys)from⟨U,its,O,J,e⟩),rfl,q _ (I.hok.fresh (Cm _))⟩
 rcases Y with Y|Y
 obtain⟨its,J,pl,U⟩:=I.list Y;have i:=J.length;obtain⟨o,d,g,n,f⟩:=pl.isList;exact call_list_seq p (.inl rfl) d g f (λh' O S e=>a its J U h' O S e) (by simp<;>lia);obtain⟨its,J,pl,U⟩:=I.tuple Y;have i:=J.length;obtain⟨o,d,g,n,f⟩:=pl;exact call_list_seq p (.inr rfl) d g f (λh' O S e=>a its J U h' O S e) (by simp<;>lia)
def wB:fj X (.type "tuple") (λxs H Q=>∃p ys,xs=[.ref p]/\((Ja X.K H p ys/\∀l,H l=JI->Q (.ref l) (Cu H l (.tup ys)))\/(IW X.K H p ys/\Q (.ref p) H))):=by
 intro anq s σ H xs us Q I r h;obtain⟨p,ys,rfl,h⟩:=h;obtain⟨u,rfl,Y⟩:=vals1 r;cases Y;rcases h with⟨O,q⟩|⟨O,q⟩
 obtain⟨its,J,pl,S⟩:=I.list O;have b:=J.length;refine call_tuple_list pl.isList (λh' a=>?_) (by simp<;>lia);have U:=I.kept (t':=s.toks) a;have c:=
  U.laid (t':=s.toks) (λb o e=>HJ _ e) (Cm _) (show fH _ _ _ _ _ (.tup ys)from⟨S,its,J,Om.new _ _⟩)
 exact⟨.ref _,_,c,rfl,q _<|U.hok.fresh<|Cm _⟩;obtain⟨its,J,pl,S⟩:=I.tuple O;exact call_tuple_same pl ⟨.ref p,H,I,rfl,q⟩
abbrev tyV (K:Az)(T:String)(x:V)(H:Hp):Prop:=match x with
 | .str _=>T = "str"
 | .int _=>T = "int"
 | .ref p=>(T = "list"/\∃xs,Ja K H p xs)\/(T = "tuple"/\∃o,K.lookup p=Go o/\o.cls=.type "tuple"/\o.dict=JI) \/
   (T = "dict"/\((∃kvs,H p=Go (.dK kvs))\/∃kvs,H p=Go (.dT kvs)))\/(T = "set"/\∃S n,H p=Go (.set S n))
 | _=>False
def abm {anq}{σ:St}{H s}{T x}{v}(I:Aw X anq σ H s)(r:RelV x v)(ty:tyV X.K T x H):
  s.TypeIs v T/\∀a,v=.ref a->∃O,s.heap.get? a=Go O/\O.dict=JI:=by
 cases x with
 | str z=>
  obtain⟨t,rfl⟩:=r;cases ty;exact⟨typeIs_str s z t,nofun⟩
 | int i=>
  obtain⟨t,rfl⟩:=r;cases ty;exact⟨typeIs_int s i t,nofun⟩
 | ref p=>
  cases r;rcases ty with⟨rfl,xs,Y⟩|⟨rfl,o,J,b,U⟩|⟨rfl,J⟩|⟨rfl,S,n,J⟩
  obtain⟨its,_,pl,_⟩:=I.list Y;refine⟨pl.isList.typeIs,λa e=>?_⟩;cases e;obtain⟨o,n,e,c,U,_⟩:=pl
  simp_all
  refine⟨⟨o,I.kIn p o J,b⟩,λa e=>?_⟩;cases e;exact⟨o,I.kIn _ o J,U⟩;have z:∃o,s.heap.get? p=Go o/\o.ExactDict:=by
   rcases J with⟨kvs,J⟩|⟨kvs,J⟩
   obtain⟨_,_,_,_,o,_,_,e,ex,_⟩:=I.hok p _ J
   simp_all
   obtain⟨_,_,_,_,o,_,_,e,ex,_⟩:=I.hok p _ J;simp_all
  obtain⟨o,e,ex⟩:=z;refine⟨⟨o,e,ex.1⟩,λa e2=>?_⟩;cases e2;exact⟨o,e,ex.2.1⟩;obtain⟨o,_,_,_,e,ex,_⟩:=I.hok p _ J;refine⟨⟨o,e,ex.1⟩,λa e2=>?_⟩;cases e2;exact⟨o,e,ex.2.1⟩
 | _=>exact S7 ty
abbrev tBM (K:Az)(T:String)(r:V->List V->Hp->VK->Prop)(to:TE)(t:TA):TE:=fun σ H Q=>to σ H λx H1=>tyV K T x H1/\t σ H1 λxs H2=>r x xs H2 Q
variable {o e:Expr}{es:List Expr}{to:TE}{t:TA}{name:Str}{apos ant:Pos}{T id:String}{r:V->List V->Hp->VK->Prop}
def acX (pa:PlainAttrs T)(slot:Slot T name id)(hty:typeOf (.builtin id)=pure (.type "method_descriptor"))(hm:VH X id r)(ho:PE X o to)(ha:PA X (e::es) t)
  (hbase:autoParam (W5 o name X.env (eval o X.env)=eval o X.env) aPq._auto_1)
  (hfew:autoParam (((JD ant (Ck (e::es) X.env)).all (λx=>!x.1)&&(Vy ant (Vz [] X.env)).all (λx=>x.1.isSome)
   && decide ((e::es).length+([]:List Od).length+(if([]:List Od).isEmpty then 0 else 1)<30))=true) aPq._auto_1)
  (hline:autoParam ((apos.endLine==ant.line)=true) aPq._auto_1) (hs:autoParam (Ck (e::es) X.env=(false,eval e X.env)::Ck es X.env) aPq._auto_1) (hplain:autoParam ((JD ant (Ck es X.env)).any (·.1)=false) aPq._auto_1) :
  PE X (.Call (.Attribute o name apos) (e::es) [] ant) (tBM X.K T r to t):=by
 intro anq s σ H Q I h;refine mH hbase hfew hline rfl<|Hg (ho anq s σ H _ I h) λv s1 a=>?_;obtain⟨x,H1,I1,r1,ty,q1⟩:=a
 obtain⟨h1,h2⟩:=abm I1 r1 ty;refine⟨T,id,pa,slot,hty,h1,h2,?_⟩;have hA:=ha ant anq s1 σ H1 _ I1 q1;rw[hs]at hA|-
 refine p8 (by show(false||(JD ant<|Ck es X.env).any (·.1))=false;rw[hplain]<;>rfl)<|Zj ?_
 exact Hg hA λus s2 b=>by obtain⟨vs,H2,I2,r2,q2⟩:=b;exact hm anq s2 σ H2 x vs v us Q I2 r1 r2 q2
end
abbrev MtM (X:Cx)(id:String)(r:V->List V->Hp->VK->Prop):Prop:=
 ∀(anq:List (Addr×Obj)) (s:AP) (σ:St) (H:Hp) (x:V) (xs:List V) (v:Mk) (us:List Mk) (Q:VK),Aw X anq σ H s->RelV x v->BL xs us->r x xs H Q ->
  Bb (Bg X.prog X.w) X.A (call (.builtin id) (v::us)) (EP X anq σ Q) X.xe s
def BL.one:∀{x}{us},BL [x] us->∃u,us=[u]/\RelV x u
 | _,_,.cons r .nil=>⟨_,rfl,r⟩
def BL.rep {xs}{us}(h:BL xs us):∀k,BL (J4 k xs).flatten (J4 k us).flatten
 | 0=>.nil
 | k+1=>BL.append h (BL.rep h k)
def foldl_rep (its):∀k  (acc:List Mk),
  List.foldl (λx1 J=>x1++J) acc.toArray (J4 k its.toArray)=(acc++(J4 k its).flatten).toArray
 | 0,acc=>by simp
 | k+1,acc=>by
  have e:acc.toArray++its.toArray=(acc++its).toArray:=by simp
  have e2:(acc++its)++(J4 k its).flatten=acc++(J4 (k+1) its).flatten:=by
   grind
  rw[<-e2,<-foldl_rep its k _,<-e,List.replicate_succ,List.foldl_cons]
section
variable {X:Cx}{anq:List (Addr×Obj)}{σ:St}{H:Hp}{s:AP}{l b:Addr}{xs ys zs:List V}
def Aw.lset {its J:List Mk}{n}{f t'}(I:Aw X anq σ H s)(b:H l=Go (.lst xs))
  (e:s.heap.get? l=Go {cls:=.type "list",data:=.seq its.toArray n}) (Y:f its.toArray=J.toArray) (S:BL ys J) (hz:ys.length<=HB) :
  Aw X anq σ (Cu H l (.lst ys)) {s with heap:=s.heap.update l (Xo f),toks:=t'}:=by
 have q:=PySem.IsL.update e f;rw[Y]at q;refine I.write (b ▸ trivial) (.inl rfl) (λb' u a U=>(P0 _ _<|Jp a).trans U) ⟨_,q⟩ ?_;exact⟨hz,J,_,S,q⟩
def Aw.lnew {its t'}(I:Aw X anq σ H s)(O:BL ys its)(hz:ys.length<=HB):
  Aw X anq σ (Cu H s.heap.objs.size (.lst ys)) {s with heap:=s.heap.push {cls:=.type "list",data:=.seq its.toArray},toks:=t'}:=
 I.laid (λ_ _ q=>HJ _ q) (Cm _) ⟨hz,its,0,O,Il _ rfl⟩
def Aw.fresh (I:Aw X anq σ H s):H s.heap.objs.size=JI:=I.hok.fresh (Cm _)
def Aw.lstM (I:Aw X anq σ H s)(J:H l=Go (.lst xs)):xs.length<=HB/\∃(its:List Mk) (n:Nat),BL xs its/\xs.length=its.length/\s.heap.get? l=Go {cls:=.type "list",data:=.seq its.toArray n}:=by
 obtain⟨z,its,n,r,e⟩:=I.hok l _ J;exact⟨z,its,n,r,r.length,e⟩
def zbM {n}(h:n<=HB):Builtin.List.listTooLong n=false:=decide_eq_false (by lia)
end
section
variable {X:Cx}
abbrev LQ:V->List V->Hp->VK->Prop:=λx vs H Q=>∃l xs y,x=.ref l/\vs=[y]/\H l=Go (.lst xs)/\xs.length<HB/\Q .non (Cu H l (.lst (xs++[y])))
def yX:MtM X "list.append" LQ:=by
 intro anq s σ H x vs v us Q I O S h;obtain⟨l,xs,y,rfl,rfl,J,Y,q⟩:=h;cases O;obtain⟨u,rfl,U⟩:=S.one;obtain⟨z,its,n,r,a,e⟩:=I.lstM J;refine Xm F.slot_list_append ⟨_,e,rfl⟩ F.entry_list_append (F.args_list_append_2 _ _) (PySem.list_append l _ n u (by rw[KH];lia)) ⟨e,?_⟩;refine⟨.non,_,I.lset J e (by simp) (r.append<|.cons U .nil) ?_,rfl,q⟩;grind
abbrev agG:R2:=λx y H Q=>∃l b xs zs,x=.ref l/\y=.ref b/\H l=Go (.lst xs)/\H b=Go (.lst zs)/\xs.length+zs.length<=HB/\∀p,H p=JI->Q (.ref p) (Cu H p (.lst (xs++zs)))
def abT:KN X (Nx .Add) agG:=by
 intro anq s σ H x y v u Q I S O h;obtain⟨l,b,xs,zs,rfl,rfl,a,c,i,q⟩:=h;cases S;cases O;obtain⟨z,its,n,r,j,e⟩:=I.lstM a;obtain⟨f,J,g,U,Y,e2⟩:=I.lstM c;refine PySem.P.add_list e e2 ?_ (by rw[KH,KH];lia);have d:its.toArray++J.toArray=(its++J).toArray:=by simp
 rw[d];exact⟨.ref _,_,I.lnew (r.append U) (by rw[JK];omega),rfl,q _ I.fresh⟩
def len_rep {J:Type}(xs:List J)(k):(J4 k xs).flatten.length=k*xs.length:=by simp_all
end
section
variable {prog:Cq}{w:Cd}{A:Cw}{E:Mk->AP->Prop}{s:AP}
end
section
variable {X:Cx}
end
end L2
namespace Att
open PySem PySem.W PySem.Calls PyProof.Rows
def akY {P h}:∀ns vs,WellAll P h vs (ns.map WData.int)->IntsAre vs ns:=by
 intro ns;induction ns with
 | nil=>
  intro vs w;cases w;exact .nil
 | cons n ns J=>
  intro vs w;cases w with
  | cons a b=>
   cases a;exact .cons _ _<|J _ b
def zbh {l:OpenLaw}{n}(g:l.most=Go n){P h}{args J}
  (O:l.row.toRowW.claim.pre args=true) (U:WellAll P h J args) :
  ∃a vs ns,J=[Value.ref a]/\args=[WData.list (ns.map WData.int)]/\h.get? a=Go {cls:=.type "list",data:=.seq vs.toArray}/\IntsAre vs ns/\ns.length<=n:=by
 obtain⟨d,r,rfl,h1,h2⟩:=hasAllW_cons ((pre_splitW O).1);obtain rfl:=hasAllW_nil h2;obtain⟨xs,rfl,j⟩:=hasW_list h1;obtain⟨ns,rfl⟩:=items_int j;have b:=by
  have Y:=by
   have Y:=(holds_andW ((pre_splitW O).2)).1
   rwa[g]at Y
  have i:=condW_of Y (w_not (w_lt w_lit (w_len_list (w_arg rfl))));first
   | (simp at i;lia)
 cases U with
 | cons e c=>
  cases c;cases e with
  | list f S=>exact⟨_,_,ns,rfl,rfl,f,akY ns _ S,b⟩
def zaY (l:OpenLaw)(args):l.row.toRowW.claim.post args (.bool true) args=true:=
 postW_of
  (show WShape.has [] _ .bool=true by first|rfl|decide|simp)
  (w_eq_bool (w_res rfl) w_lit) rfl
def Bu {l:OpenLaw}{n q}{loose}{XP YP d}
  (B:l.most=Go n) (m:d.params.defaults=[])
  (g:∀w  (O J) (mg mb) (e) (o) (i h U) (a) (vs) (ns),
   Ground q loose [] XP w O mg mb J.heap->YP w J.heap ->
   J.heap.get? e=Go o->o.data=.func (docDef d.name d.params d.body d.scope i h U)->J.heap.CodeRec h d.name->mg d.name=Go (.ref e) ->
   J.heap.get? a=Go {cls:=.type "list",data:=.seq vs.toArray}->IntsAre vs ns->ns.length<=n->J.gens=#[] ->
   PL (Bg l.prog w) callerA (.call (.ref e) ⟨[.ref a],[]⟩) (λr s'=>r=.ok (.ret (.bool true))/\OldK J.heap s'.heap/\s'.os=J.os/\Td s'.gens) J) :
  WalkO q loose XP YP l.row.toRowW d [] (λf vs=>PySem.call f vs):=by
 intro w O J mg mb G Y e o i h U K kV A F p v k E x t as b u y j D;obtain rfl:K=.none:=Dflts.none v m;obtain rfl:kV=.none:=Dflts.noKw v;obtain⟨a,vs,ns,rfl,rfl,c,S,s⟩:=zbh B b j;refine enter_call<|YQ (g w O J mg mb e o i h U a vs ns G Y A (fd_plain F) p k c S s E) λr s' z=>?_
 obtain⟨rfl,h2,I,H⟩:=z;exact⟨.inl ⟨.bool true,.bool true,[],rfl,λ_=>rfl,.bool true,zaY l _,λ_=>⟨List.Pairwise.nil,λ_ C=>(nomatch C)⟩⟩,h2,I,H⟩
section
variable {prog:Cq}{w:Cd}{A:Cw}{E:Mk->AP->Prop}{s:AP}{K:Frag}
end
end Att
variable {XP:(Str->Option Mk)->Heap->Prop}{loose:List Str}{YP:Cd->Heap->Prop}
namespace L2
open PySem PySem.Spec PyProof.Rows
def xP:∀{vs}{ns},IntsAre vs ns->BL (ns.map V.int) vs
 | _,_,.nil=>.nil
 | _,_,.cons n t h=>.cons ⟨t,rfl⟩ (xP h)
abbrev Only (H:Hp):Prop:=∀b,H b=JI\/∃o xs,H b=Go (.frz o (.lst xs))
def amb {P w K}{mg mb CX k}{D a fd x sp s₁}{vs}{ns}
  (M:K.In s₁.heap) (g:s₁.heap.Ns Iz mg) (O:s₁.heap.Ns builtinsNs mb) (B:∀x:Str,x ≠ "__name__"->mb x=W4 x) (i:s₁.heap.NoLimit) (X:s₁.gens=#[])
  (p:s₁.heap.get? a=Go {cls:=.type "list",data:=.seq vs.toArray}) (hi:IntsAre vs ns) (W:ns.length<=HB) (T:jj k callerA)
  (F:∀base,K.In base->base.Ns Iz mg->lJ P w K mg base CX k D fd [x] sp) (Y:∀s u,BindsTo s fd ⟨[u],[]⟩ [(x,u)])
  (y:∀H,Only H->Ja K H a (ns.map V.int)->sp [.ref a] H (λv _=>v=.bl true) λ_ _ _=>False)
  (C:∀H e s',CX JI [] H s₁ (λ_ _ _=>False) e s'->False) :
  PL (Bg P w) callerA (.call (.ref D) ⟨[.ref a],[]⟩) (λr s'=>r=.ok (.ret (.bool true))/\OldK s₁.heap s'.heap/\s'.os=s₁.os/\Td s'.gens) s₁:=by
 have G:=xP hi;have U:∀H:Hp,Only H->Ja K H a (ns.map V.int)->Kg P w H s₁.heap->(∀b,H b≠JI->b=a)->(H a≠JI->K.lookup a=JI) ->
   PL (Bg P w) callerA (.call (.ref D) ⟨[.ref a],[]⟩) (λr s'=>r=.ok (.ret (.bool true))/\OldK s₁.heap s'.heap/\s'.os=s₁.os/\Td s'.gens) s₁:=by
  intro H I Z f L hK;have J:∀{b:Addr}{o:Obj},s₁.heap.get? b=Go o->H b=JI->(Z8 _ H).get? b=Go o:=λe n=>akG e n
  have t:∀{b:Addr}{o:Obj}{es:Array Rq}{ep:Nat},s₁.heap.get? b=Go o->o.data=.dict es ep->H b=JI:=λ{b o es ep} e d=>by
   cases q:H b with
   | none=>rfl
   | some u=>
    cases L b (by rw[q];simp)
    rw[p]at e;cases e;cases d
  have S:∀{b:Addr}{m:Str->Option Mk},s₁.heap.Ns b m->(Z8 _ H).Ns b m:=λ{b m} ⟨o,es,ep,e,d,r⟩=>⟨o,es,ep,J e (t e d),d,r⟩
  have j:=λb o e=>J (M b o e) (by
   cases q:H b with
   | none=>rfl
   | some u=>
    cases L b (by rw[q];simp)
    rw[hK (by rw[q];simp)]at e;cases e)
  refine YQ ((F _ j<|S g).run callerA [] s₁ H ⟨[.ref a],[]⟩ [.ref a] [.ref a] _ _ T ⟨rfl,⟨j,S g,⟨mb,S O,B⟩,let⟨mc,h1,h2⟩:=i;⟨mc,S h1,h2⟩⟩,λb o e=>akU e,YT<|zaP _ _,trivial,λb O=>absurd (show b∈([]:List Addr)from O)<|by simp,f,.of_eq X,λv e=>(nomatch e)⟩ (Y s₁ _) (.cons rfl .nil) (y H I Z)) λr s' h=>?_;cases r with
  | error e=>exact(C H e s' h).elim
  | ok fl=>
   cases fl with
   | next|brk|cont=>exact S7 h
   | ret u=>
    obtain⟨v,H',os,l,E,c,Q,q⟩:=h;cases q;obtain rfl:u=Value.bool true:=Q;refine⟨rfl,OldK.of_keep λb o e=>?_,os,l⟩;cases q:H b with
    | none=>exact E.keep b o e q (by intro z;exact absurd (show b∈([]:List Addr)from z) (by simp)) (by simp)
    | some u=>
     rcases I b with z|⟨R,xs,z⟩
     rw[q]at z;cases z;obtain⟨e1,_⟩:=f b _ z;obtain⟨e2,_⟩:=c b _ (E.frzs b R _ z);rw[e]at e1;cases e1;exact e2
 cases A:K.lookup a with
 | some o=>
  have e:=M a o A;rw[p]at e;cases e;refine U _ (λ_=>.inl rfl) (.inr ⟨_,vs.toArray,_,A,rfl,rfl,rfl,by rw[KH,hi.length];exact W,by simpa using G⟩) (λb u z=>by have N:=z;cases N) (λb z=>absurd rfl z) λz=>absurd rfl z
 | none=>
  refine U (λb=>if b=a then Go _ else JI) (λb=>?_) (.inl<|.inr ⟨{cls:=.type "list",data:=.seq vs.toArray},if_pos rfl⟩) (λb u z=>?_) (λb z=>?_) λ_=>A;by_cases O:b=a
  exact .inr ⟨_,_,if_pos O⟩;exact .inl<|if_neg O
  by_cases O:b=a
  cases(if_pos O).symm.trans z
  subst O;exact⟨p,by rwa[Bo],vs,_,G,p⟩;cases(if_neg O).symm.trans z
  by_cases O:b=a
  exact O;exact absurd (if_neg O) z
def Ol {l:PySem.W.OpenLaw}{n k:Nat}{q:Cq}{d:DefRec}{K:Params->Az}{CX:Cd->Vp}{sp:Cd->Sp}{x:Str}
  (y:l.most=Go n) (g:n<=HB) (j:d.params.defaults=[]) (t:jj k callerA)
  (C:∀(w:Cd) (h:Heap),YP w h->(K w.params).In h)
  (F:∀(w:Cd) (mg:Str->Option Mk) (b:Addr) (h:Heap),(K w.params).In h->h.Ns Iz mg->mg d.name=Go (.ref b) ->
   ∃fd:ML,(∀(s:AP) (u:Mk),BindsTo s fd ⟨[u],[]⟩ [(x,u)]) /\
    ∀base:Heap,(K w.params).In base->base.Ns Iz mg->lJ l.prog w (K w.params) mg base (CX w) k b fd [x] (sp w))
  (c:∀(w:Cd) (H:Hp) (a:Addr) (ns:List Int),ns.length<=n->Only H->Ja (K w.params) H a (ns.map V.int)->sp w [.ref a] H (λv _=>v=.bl true) λ_ _ _=>False)
  (m:∀(w:Cd) (H:Hp) (s:AP) (e:Mk) (s':AP),CX w JI [] H s (λ_ _ _=>False) e s'->False) :
  PySem.W.WalkO q loose XP YP l.row.toRowW d [] (λf vs=>PySem.call f vs):=by
 refine Att.Bu y j λw p O mg mb b o M Q L a vs ns G Y N P A i S J U z=>?_;have r:=C w _ Y;obtain⟨fd,B,I⟩:=F w mg b _ r G.T.g i;exact amb r G.T.g G.T.b G.T.builtins G.T.nolimit z S J (HW U g) t I B (λH E D=>c w H a ns U E D) λH e s'=>m w H O e s'
end L2
namespace L2
open PySem PySem.Spec PyProof.Rows
abbrev lM (s:Stmt):Arguments:=match s with
 | .FunctionDef _ a _ _ _ _ _ _ _ _=>a
 | _=>{posonlyargs:=[],args:=[],vararg:=JI,kwonlyargs:=[],kw_defaults:=[],kwarg:=JI,defaults:=[]}
abbrev eX (s:Stmt):List Stmt:=match s with
 | .FunctionDef _ _ b _ _ _ _ _ _ _=>b
 | _=>[]
abbrev bw (s:Stmt):Scope:=match s with
 | .FunctionDef _ _ _ _ _ _ sc _ _ _=>sc
 | _=>{kind:=.function,names:=[],isGenerator:=false,isCoroutine:=false}
@[reducible]noncomputable def O8:Vp:=λ_ _ _ _ _ _ _=>False
@[reducible]noncomputable def E0:XK:=λ_ _ _=>False
def ab9 {X}:Passes O8 X E0:=λ_ _ _ _ _ _ _ h=>h.elim
structure Ss (K:Az) (x qual:Str) (st:Stmt) (f:Addr) (fd:ML):Prop where
 ex:∃(oc:Mk) (od:Option Addr) (kV doc pm:Mk) (an:Option Addr) (cdv ct:Mk) (osl:Array (Option Mk)),
  fd=Wk x qual (lM st) (eX st) (bw st) .none kV doc pm an cdv ct/\K.lookup f=Go ⟨oc,od,.func fd,osl⟩/\Yc K cdv qual=true
 kp:RB K (.ref f)=true
section
variable {P:Cq}{w:Cd}{K:Az}{mg:Str->Option Mk}{base:Heap}
def Ss.ok {x qual st f fd}{N ps k sp}(F:Ss K x qual st f fd)(S:g8 N ps (bw st))(U:∀vs H Q E,sp vs H Q E->vs.length=ps.length)
  (O:∀J A  (outer) (s) (H) (vs) (Q) (E),jj k (A.deeper (RD qual (bw st) s.heap.objs.size f J))->sp vs H Q E ->
   ∃t,Py (Jg O8 P w K mg base N qual (bw st) f J A outer s H E).nox (eX st) t/\t {nx:=λ_ H'=>Q .non H',rt:=Q} (start N vs) H):lJ P w K mg base O8 (k+1) f fd ps sp:=by
 obtain⟨i,od,kV,e,g,l,J,j,b,rfl,c,a⟩:=F.ex;refine aao c a S U λA outer s H vs Q E d Y=>?_;obtain⟨t,h,q⟩:=O J A outer s H vs Q E d Y;exact⟨t,h.nox,q⟩
def Ss.binds {x qual st f fd}{ps}(F:Ss K x qual st f fd)
  (h:∀kV J S  (U) (O ct) (us),us.length=ps.length->bindArgs (Wk x qual (lM st) (eX st) (bw st) .none kV J S U O ct) ⟨us,[]⟩=pure (ps.zip us)):Binds K fd ps []:=by
 obtain⟨b,od,kV,J,S,U,O,ct,Y,rfl,c,a⟩:=F.ex;exact .all<|h kV J S U O ct
def Gd {x qual st f a}{od Y}{S kV O U J ct}(l:K.lookup f=Go ⟨a,od,.func (Wk x qual (lM st) (eX st) (bw st) .none kV O U Y J ct),S⟩)
  (c:Yc K J qual=true) (k:RB K (.ref f)=true):Ss K x qual st f (Wk x qual (lM st) (eX st) (bw st) .none kV O U Y J ct):=⟨⟨a,od,kV,O,U,Y,J,ct,S,rfl,l,c⟩,k⟩
end
section
variable {X:Cx}
def pv (i){x}{pos}(hN:autoParam (X.N[i]?=Go x) aPq._auto_1)(hv:Vis X.env.scope x:=by first|exact Or.inl rfl|exact Or.inr (Or.inl rfl)|exact Or.inr (Or.inr rfl))(hd:autoParam ((x==("__debug__" : Str))=false) aPq._auto_2)
  (hcd:autoParam ((x==("__classdict__" : Str))=false) aPq._auto_2):PE X (.Name x pos) (ac6 i):=abG hN hv hd hcd
end
abbrev WQ (env:Env):List (Str×Oq)->List (Str×Addr)->List (Str×Addr)
 | [],cs=>cs
 | (n,k)::r,cs=>WQ env r (if(k==NameKind.free)=true then(n,(env.cells.lookup n).getD 0)::cs else cs)
abbrev Uq (scope:Scope)(env:Env):List (Str×Addr):=WQ env scope.names []
def wL {env}{p}:∀l  (J),p∈WQ env l J->p∈J\/((p.1,NameKind.free)∈l/\p.2=(env.cells.lookup p.1).getD 0)
 | [],J,h=>.inl h
 | (n,k)::r,J,h=>by
  rcases wL r _ h with h|⟨h1,h2⟩
  grind
  simp_all
def Em {env:Env}{x:Str}:∀(l:List (Str×Oq)) (J:List (Str×Addr)),((x,NameKind.free)∈l\/∃c,(x,c)∈J)->∃c,(x,c)∈WQ env l J
 | [],J,h=>by
  rcases h with h|h
  simp_all
  exact h
 | (n,k)::r,J,h=>by
  refine Em r _ ?_;grind
variable {c:Addr}
def iU {x}{c}:∀{l:List (Str×Addr)},(x,c)∈l->∃J,l.lookup x=Go J
 | (n,d)::r,h=>by
  by_cases e:x=n
  simp_all
  rcases Kz.mp h with q|q
  injection q with O _
  simp_all
  obtain⟨J,h'⟩:=iU q;refine⟨J,?_⟩
  rwa[W0,(beq_eq_false_iff_ne.mpr e)]
def NP {scope env}(h:∀y∈scope.names,y.2=NameKind.free->∃c,env.cells.lookup y.1=Go c):closureFor scope env=pure (Uq scope env):=by
 unfold closureFor Uq;have U:∀(l:List _) (J:List _),(∀y∈l,y.2=NameKind.free->∃c,env.cells.lookup y.1=Go c) ->
   (forIn l J (λ(x:Str×Oq) (J:List _)=>(if(x.2==NameKind.free)=true then cellOf env x.1 >>= λc=>pure (ForInStep.yield ((x.1,c)::J))else pure (ForInStep.yield J):Sem _)))=pure (WQ env l J):=by
  intro l;induction l with
  | nil=>intro J _;rfl
  | cons x r Y=>
   intro J b;obtain⟨n,k⟩:=x;rw[Yq];have a:=λy d=>b y (Lq _ d)
   by_cases O:(k==NameKind.free)=true
   obtain⟨c,e⟩:=b _ Q0 (by simpa using O);have S:=e;have e1:cellOf env n=pure c:=by unfold cellOf;rw[S]
   simp only[O,if_true,e1,pure_bind];rw[Y _ a];simp[WQ,O,S];simp only[O,if_false,pure_bind,ZW];rw[Y _ a];simp[WQ,O]
 simpa using(U _ [] h)
variable {y:Str}
def jD {y}{c}:∀{names n}{acc},(y,c)∈Lw n names acc↔(y,c)∈acc\/(y,c)∈Lw n names []
 | [],n,acc=>by simp[Lw]
 | (name,J)::r,n,acc=>by
  unfold Lw;split
  rw[jD,jD (acc:=[(name,n)])];grind
  exact jD
def Ci {y}{c}:∀{names n},(y,c)∈Lw n names []->(y,NameKind.cell)∈names
 | (name,J)::r,n,h=>by
  unfold Lw at h;split at h
  rename_i O;rcases jD.mp h with q|q
  simp_all
  exact Lq _<|Ci q
  exact Lq _<|Ci h
def K5 {y}:∀{names n},(y,NameKind.cell)∈names->∃c,(y,c)∈Lw n names []
 | (name,J)::r,n,h=>by
  unfold Lw;rcases Kz.mp h with q|q
  cases q;exact⟨n,jD.mpr<|.inl Q0⟩;split
  obtain⟨c,O⟩:=K5 q;exact⟨c,jD.mpr<|.inr O⟩;exact K5 q
variable {names:List (Str×Oq)}
def acH {h}(e:(y,c)∈Lw h.objs.size names []):(pushCells h names).IsCell c JI/\h.objs.size<=c:=
 (cellsFrom_ok names h _ [] ⟨λ_ _ z=>by simp at z,List.Pairwise.nil⟩ (Cm _)).empty y c e
def ajX {n z}(e:(y,c)∈Lw n names [])(e':(z,c)∈Lw n names []):y=z:=by
 have J:∀(k:Nat),∃h:Heap,h.objs.size=k:=λk=>by
  induction k with
  | zero=>exact⟨{(default:Heap)with objs:=#[]},rfl⟩
  | succ k U=>
   obtain⟨h,e⟩:=U;exact⟨h.push {cls:=.type "cell",data:=.cell JI},by rw[RQ,e]⟩
 obtain⟨h,rfl⟩:=J n;exact name_of_addr (cellsFrom_ok names h _ [] ⟨λ_ _ z=>by simp at z,List.Pairwise.nil⟩<|Cm _).apart e e'
variable {closure:List (Str×Addr)}
def ahX {M A}{E s}{scope}{globals qual}{func code O}{builtins}{Q}
  (Y:Q {scope:=scope,locals:=s.heap.objs.size,globals:=globals,cells:=Lw (s.heap.objs.size+1) scope.names closure,qual:=qual,func:=func,code:=O.code,frame:=O.frame,builtins:=O.builtins} {s with heap:=pushCells (s.heap.push {cls:=.type "dict",data:=.dict #[]}) scope.names}) :
  Bb M A (newFunctionEnv scope globals closure [] qual func code (Go O) builtins) Q E s:=by
 simp only[newFunctionEnv];refine Ac<|wpAny_alloc ?_
 refine Ac<|wpAny_layCells _ (λname J cells=>by cases U:J==NameKind.cell<;>simp) _ _ _ _ ?_
 exact RQ .. ▸ Ac (Bj<|Bj Y)
abbrev blk (X:Cx)(scope:Scope)(S:List Str)(C:Addr)(s:AP)(H:Hp)(ex:List Addr):Cx where
 prog:=X.prog
 w:=X.w
 K:=X.K
 mg:=X.mg
 base:=X.base
 A:=X.A
 N:=S
 s₀:=s
 H₀:=H
 env:=compEnvC scope (Lw (C+1) scope.names (Uq scope X.env)) C X.env
 outer:=X.stack
 stack:=X.stack
 ex:=ex
 fn:=λy=>decide (scope.names.lookup y=Go .cell)
 calm:=X.calm
 pn:=[]
 xe:=λ_ _=>False
structure jz (X:Cx) (scope:Scope) (x:List Str) (ix:List Nat):Prop where
 kind:scope.kind=.function
 own:∀y∈x,scope.names.lookup y=Go .local\/scope.names.lookup y=Go .cell
 names:∀y∈scope.names,scope.names.lookup y.1=Go y.2
 free:∀y∈scope.names,y.2=.free->X.env.scope.names.lookup y.1=Go .cell\/X.env.scope.names.lookup y.1=Go .free
 ixs:∀i∈ix,scope.names.lookup (X.N.getD i "")=Go .free
 nd:(x++ix.map λi=>X.N.getD i "").Nodup
abbrev GR:List Str->Bool
 | []=>true
 | x::r=>!(r.contains x)&&GR r
abbrev af2 (sc:Scope)(N:List Str)(scope:Scope)(x:List Str)(ix:List Nat):Bool:=
 decide (scope.kind=.function)&&x.all (λy=>decide (scope.names.lookup y=Go .local)||decide (scope.names.lookup y=Go .cell)) &&
 scope.names.all (λy=>decide (scope.names.lookup y.1=Go y.2)) &&
 scope.names.all (λy=>!decide (y.2=.free)||decide (sc.names.lookup y.1=Go .cell)||decide (sc.names.lookup y.1=Go .free)) &&
 ix.all (λi=>decide (scope.names.lookup (N.getD i "")=Go .free))&&GR (x++ix.map λi=>N.getD i "")
def yO:∀{l},GR l=true->l.Nodup
 | [],_=>ZC
 | x::r,h=>by
  unfold GR at h;rw[Rj]at h;refine Wo.mpr ⟨λhm=>?_,yO h.2⟩;simp_all
variable {ix:List Nat}
def cD {X}{scope x}(h:af2 X.env.scope X.N scope x ix=true):jz X scope x ix:=by
 unfold af2 at h;simp only[Rj,Xc,decide_eq_true_eq,Bool.or_eq_true]at h;obtain⟨⟨⟨⟨⟨h1,Y⟩,U⟩,b⟩,S⟩,O⟩:=h;exact⟨h1,λy J=>Y y J,λy J=>U y J,λy J a=>(by grind),λi hi=>S i hi,yO O⟩
abbrev Lr (ix:List Nat)(σ:St):St:=ix.map λi=>(σ[i]?).getD JI
@[reducible]noncomputable def jH (X:Cx)(x:List Str)(ix:List Nat):List Str:=x++ix.map λi=>X.N.getD i ""
def gZ {scope:Scope}{env:Env}{x}:∀{names:List (Str×Oq)}{k},
  (names.map λ(p)=>if(p.2==NameKind.free&&env.scope.kind==.function&&env.kindOf p.1==Go .cell)=true then(p.1,NameKind.cell)else(p.1,p.2)).lookup x=Go k ->
  names.lookup x=Go k\/(k=.cell/\names.lookup x=Go .free)
 | (n,Y)::r,k,h=>by
  rw[Hz]at h;cases J:x==n with
  | true=>
   grind
  | false=>
   have h':(r.map λ(p:Str×Oq)=>if(p.2==NameKind.free&&env.scope.kind==.function&&env.kindOf p.1==Go .cell)=true then(p.1,NameKind.cell)else(p.1,p.2)).lookup x=Go k:=by
    by_cases O:(Y==NameKind.free&&env.scope.kind==.function&&env.kindOf n==Go .cell)=true
    rw[if_pos O]at h;simpa only[W0,J]using h;rw[if_neg O]at h;simpa only[W0,J]using h
   rcases gZ (scope:=scope) h' with q|⟨U,S⟩
   grind
   exact .inr ⟨U,by simpa[W0,J]using S⟩
def pA {env:Env}{x}:∀{names:List (Str×Oq)},names.lookup x=Go .free ->
  (names.map λ(p)=>if(p.2==NameKind.free&&env.scope.kind==.function&&env.kindOf p.1==Go .cell)=true then(p.1,NameKind.cell)else(p.1,p.2)).lookup x=Go .cell \/
  (names.map λ(p)=>if(p.2==NameKind.free&&env.scope.kind==.function&&env.kindOf p.1==Go .cell)=true then(p.1,NameKind.cell)else(p.1,p.2)).lookup x=Go .free
 | (n,O)::r,h=>by
  rw[Hz];cases J:x==n with
  | true=>
   grind
  | false=>
   have S:=pA (env:=env) (by simpa[W0,J]using h);grind
def oU {env:Env}{x:Str}:∀{names:List (Str×Oq)},names.lookup x=Go .cell ->
  (names.map λ(p:Str×Oq)=>if(p.2==NameKind.free&&env.scope.kind==.function&&env.kindOf p.1==Go .cell)=true then(p.1,NameKind.cell)else(p.1,p.2)).lookup x=Go .cell
 | (n,O)::r,h=>by
  rw[Hz];cases J:x==n with
  | true=>
   simp_all
  | false=>
   have S:=oU (env:=env) (show r.lookup x=Go .cell by simpa[W0,J]using h);grind
section
variable {X:Cx}{anq:List (Addr×Obj)}{σ:St}{H:Hp}{s:AP}{scope:Scope}{x:List Str}{C:Addr}{fp:List Addr}
def Nf (B:jz X scope x ix)(J:y∈x):Loc (relabel scope X.env) y/\(decide (scope.names.lookup y=Go .cell)=true\/(relabel scope X.env).names.lookup y=Go .local):=by
 rcases B.own y J with q|q
 have:=lookup_relabel_local (env:=X.env) q
 exact⟨.inl this,.inr this⟩;exact⟨.inr<|oU q,.inl<|decide_eq_true q⟩
def vX (I:Aw X anq σ H s)(B:jz X scope x ix):∀y∈scope.names,y.2=NameKind.free->∃c,X.env.cells.lookup y.1=Go c:=λy J O=>I.ok.has _ (B.free y J O)
def aci (I:Aw X anq σ H s)(B:jz X scope x ix)(h:(y,c)∈Uq scope X.env):X.env.cells.lookup y=Go c:=by
 rcases wL _ [] h with q|⟨J,O⟩
 simp_all
 obtain⟨S,e⟩:=vX I B _ J rfl;simp_all
def o7 (I:Aw X anq σ H s)(B:jz X scope x ix)(h:(Lw (C+1) scope.names (Uq scope X.env)).lookup y=Go c):X.env.cells.lookup y=Go c\/(y,c)∈Lw (C+1) scope.names []:=
 (jD.mp (WL h)).imp_left (aci I B)
def Jr {n}(e:(y,c)∈Lw n names []):n<=c:=by
 have J:∀(names:List _) (n:Nat),(y,c)∈Lw n names []->n<=c:=by
  intro names;induction names with
  | nil=>intro n h;simp[Lw]at h
  | cons a r O=>
   intro n h;unfold Lw at h;split at h
   rcases jD.mp h with q|q
   simp_all
   grind
   exact O n h
 exact J names n e
def alA (B:jz X scope x ix)(O:scope.names.lookup y=Go .free)(h:(y,c)∈Lw (C+1) scope.names []):False:=by
 have:=B.names _ (Ci h)
 simp_all
def Fq (h:scope.names.lookup y=Go .free\/scope.names.lookup y=Go .cell):∃c,(Lw (C+1) scope.names (Uq scope X.env)).lookup y=Go c:=by
 rcases h with h|h
 obtain⟨c,J⟩:=Em _ [] (.inl (WL h));exact iU<|jD.mpr<|.inl J
 obtain⟨c,J⟩:=K5 (WL h);exact iU<|jD.mpr<|.inr J
def aaK (I:Aw X anq σ H s)(B:jz X scope x ix)(Y:s.heap.objs.size<=C)(U:∀b∈fp,Jj X anq H b)(u:∀b∈fp,∃o,s.heap.get? b=Go o):
  (blk X scope (jH X x ix) C s H fp).Ok where
 mod:=I.ok.mod
 kind:=B.kind
 glob:=I.ok.glob
 blt:=I.ok.blt
 above:=Y
 inj:=λy z c h1 h2=>by
  have far:∀{y z:Str},X.env.cells.lookup y=Go c->(z,c)∈Lw _ scope.names []->False:=λ{y z} e q=>by
   obtain⟨v,w⟩:=I.cell y c e;exact absurd (Js w.lt<|HW (HW Y<|Ra C)<|Jr q)<|Qo _
  rcases o7 I B h1 with S|S
  rcases o7 I B h2 with O|O
  exact I.ok.inj y z c S O;grind
  rcases o7 I B h2 with O|O
  grind
  exact ajX S O
 has:=λy t=>by
  rcases t with q|q
  rcases gZ (scope:=scope) q with r|⟨_,r⟩
  exact Fq<|.inr r
  exact Fq<|.inl r
  rcases gZ (scope:=scope) q with r|⟨r,_⟩
  exact Fq<|.inl r
  cases r
 cab:=λy c U h=>by
  rcases jD.mp (WL h)with q|q
  rcases wL _ [] q with q|⟨S,_⟩
  exact nomatch q
  have:=B.names _ S
  rw[(of_decide_eq_true U)]at this;cases this;exact HW (HW Y<|Ra C)<|Jr q
 hd:=I.ok.hd
 qt:=I.qt0
 frames:=I.ok.frames
 stk:=.inl rfl
 exf:=λb J=>by
  obtain⟨o,e⟩:=u b J;refine⟨Ip<|Js (Hh e) Y,λy c h=>?_⟩;rcases o7 I B h with q|q
  exact(U b J).2.2.2.2.1 y c q;intro z;rw[z]at q;exact absurd (Js (Hh e)<|HW (HW Y<|Ra C)<|Jr q)<|Qo _
 bs:=I.bs
 bsz:=HW I.ok.bsz I.sz
 noex:=λb o e J=>by
  rcases(U b J).2.2.2.1 with q|q
  exact I.ok.noex b o e q;exact absurd (Js (Hh e)<|HW I.ok.bsz q)<|Qo _
 exfs:=λb J z=>by
  obtain⟨_,h1,h2,_⟩:=U b J;rcases Kz.mp (I.stkSub b z)with e|e
  exact h1 e;exact h2 e
 funs:=I.stack
 frf:=I.stkFree
def alE {D:Addr}{h1:Heap}{tk:Nat}{m:Str->Option Mk}(I:Aw X anq σ H s)(B:jz X scope x ix)(K:(blk X scope (jH X x ix) C s H fp).Ok)
  (f:D=s.heap.objs.size) (k:∀b o,s.heap.get? b=Go o->h1.get? b=Go o) (hl:h1.get? D=Go {cls:=.type "list",data:=.seq #[]}) (t:h1.Ns C m) (F:C≠D) (N:s.heap.objs.size<=C) (E:∀y c,(y,c)∈Lw (C+1) scope.names []->h1.IsCell c JI) :
  Aw (blk X scope (jH X x ix) C s H fp) [] (J4 x.length JI++Lr ix σ) (Cu H D (.lst [])) {s with heap:=h1,toks:=tk} where
 ok:=K
 os:=rfl
 bare:=I.bare
 base:=Un.laid k (f ▸ Cm _) (I.hok.fresh (f ▸ Cm _))
 loc:=by
  refine⟨m,t,λi y v e1 e2 e3=>?_⟩;by_cases S:i<x.length
  rw[QF (by simpa using S),Zt,if_pos S]at e2;cases e2
  ·rw[V7 (by simpa using S),W7]at e2;have O:=by
    have z:(x++ix.map λi=>X.N.getD i "")[i]?=Go y:=e1
    rwa[V7 (by simpa using S)]at z
   generalize i-x.length=j at O e2;unfold Lr at e2;rw[Hf]at O e2;cases A:ix[j]? with
   | none=>rw[A]at e2;cases e2
   | some i'=>
    rw[A]at O e2;simp only[Yr,Option.some.injEq]at O e2;have hi:σ[i']?=Go (Go v):=by
     cases q:σ[i']? with
     | none=>rw[q]at e2;cases e2
     | some z=>rw[q]at e2;exact congrArg Go e2
    have a:=by
     have:=(Lx.mp hi).1
     rwa[I.len]at this
    have hn:X.N[i']?=Go y:=by
     rw[KD,Hw a,Option.getD_some]at O;rw[Hw a,O]
    have J:=by
     have:=B.ixs i' (O5 A)
     rwa[O]at this
    have L:=B.free _ (WL J) rfl;have n:Vis X.env.scope y:=by
     rcases L with q|q
     exact .inr<|.inl q
     exact .inr<|.inr q
    obtain⟨m',_,w⟩:=I.loc;obtain⟨u,r,Z⟩:=w i' y v hn hi n;refine⟨u,r,?_⟩;rcases Z with⟨q,_⟩|⟨_,c,hc,U⟩
    have T:X.env.scope.names.lookup y=Go .local:=q;rcases L with z|z<;>(rw[T]at z;cases z)
    obtain⟨c',d⟩:=Fq (.inl J);have e:=(o7 I B d).resolve_right λz=>alA B J z
    rw[hc]at e;cases e;refine .inr ⟨pA J,c,d,?_⟩;obtain⟨o,Y,l⟩:=U;exact⟨o,k c o Y,l⟩
 cell:=λy c h=>by
  rcases o7 I B h with q|q
  obtain⟨v,o,Y,l⟩:=I.cell y c q;exact⟨v,o,k c o Y,l⟩;exact⟨JI,E y c q⟩
 free:=by
  show Cu H D _ C=JI;exact aN F ▸ I.hok.fresh N
 freeC:=λy c h=>by
  rcases o7 I B h with q|q
  obtain⟨v,o,Y,l⟩:=I.cell y c q;exact aN (f ▸ Ip (Hh Y)) ▸ I.freeC y c q;have g:=Js (Nat.lt_succ_of_le N) (Jr q);exact aN (f ▸ Nk g) ▸ I.hok.fresh (QX g)
 pin:=λp hp=>absurd (show p∈([]:List _)from hp) (by simp)
 hok:=I.hok.laid k (f ▸ Cm _) ⟨Nz _,[],0,.nil,hl⟩
 len:=by
  show(J4 _ JI++Lr ix σ).length=(jH X x ix).length;simp[Lr]
def Kf {σ':St}{H' s'}{h'}{p'}(I:Aw X anq σ H s)(U:s.heap.objs.size<=C)(S:∀b∈fp,Jj X anq H b)(J:Aw (blk X scope (jH X x ix) C s H fp) p' σ' H' s')
  (hs:W3 C s'.heap h'):Aw X anq σ H' {s' with heap:=h'}:=by
 refine(I.call' J.os J.base J.hok J.bare λb O=>⟨(S b O).2.2.2.1,(S b O).2.1,(S b O).2.2.2.2.1,(S b O).2.2.2.2.2⟩).turned (λb o O e=>(hs.2 b O).trans e) J.free (Nk<|Js I.lt U) (.inr<|HW I.sz U) (λy c e z=>?_) (λp a z=>(absurd (Js (Hh (I.pin p a).1)<|z ▸ U)<|Qo _));obtain⟨v,q⟩:=I.cell y c e;exact absurd (Js q.lt<|z ▸ U)<|Qo _
end
variable {D:Addr}{m:Str->Option Mk}
abbrev ZX (X:Cx)(ifs:List Expr)(t:TT):Prop:=
 ∀(anq:List (Addr×Obj)) (s:AP) (σ:St) (H:Hp) (Q:Bool->Hp->Prop),Aw X anq σ H s->t σ H Q ->
  Bb (Bg X.prog X.w) X.A (forIn ifs true λc r=>if r=true then do let J <-isTrue c X.env (eval c X.env);pure (ForInStep.yield J)else pure (ForInStep.yield r)) (TP X anq σ Q) X.xe s
abbrev ago:TT:=λ_ H Q=>Q true H
def aiv {X}:ZX X [] ago:=λ_ _ _ H _ I h=>Bj ⟨H,I,h⟩
def akc {X}{c t}(h:PT X c t):ZX X [c] t:=λanq s σ H Q I J=>Ac (Ac (Hg (h anq s σ H Q I J) λb O q=>Bj (Bj q)))
abbrev afb (n:Nat)(own:V->Hp->List V->Prop)(ix:List Nat)(tt:TT)(te:TE)(σ:St)(Q:VK)(J:It)(H1:Hp)(D:Addr):Prop:=∃W:Nat->Nat->List V->Hp->Prop,(∃m,W 0 m [] (Cu H1 D (.lst [])))/\∀i m ys H,W i m ys H->H D=Go (.lst ys) ->
 (J.stop i H/\Q (.ref D) H)\/(J.go i H/\ys.length<HB/\∀x H',J.yld i H x H'->∃vs,own x H' vs/\vs.length=n/\tt (vs.map Go++Lr ix σ) H' λb H2=>
  if b=true then te (vs.map Go++Lr ix σ) H2 (λv S=>S D=Go (.lst ys)/\∃O,O<m/\W (i+1) O (ys++[v]) (Cu S D (.lst (ys++[v]))))
  else H2 D=Go (.lst ys)/\∃O,O<m/\W (i+1) O ys H2)
abbrev wLC (n:Nat)(own:V->Hp->List V->Prop)(ix:List Nat)(tt:TT)(te:TE)(σ:St)(Q:VK)(J:It)(H1:Hp):Prop:=∀D,H1 D=JI->afb n own ix tt te σ Q J H1 D
abbrev tLC (n:Nat)(own:V->Hp->List V->Prop)(ix:List Nat)(wi:TI)(tt:TT)(te:TE):TE:=fun σ H Q=>wi σ H λJ H1=>wLC n own ix tt te σ Q J H1
abbrev Zw (n:Nat)(own:V->Hp->List V->Prop):TG:=λv σ H N=>∃vs,own v H vs/\vs.length=n/\N (vs.map Go++σ.drop n) H
variable {elt:Expr}{ifs:List Expr}
def ain {P:Cq}{w:Cd}{A:Cw}{R:Qi->AP->Prop}{s:AP}{J iter:Expr}{scope:Scope}{pos:Pos}{it acc:Mk}{env:Env}(o:Nat->AP->Prop)
  (g:∀n s,o n s->Bb (Bg P w) A (pyNext it) (λr S=>match r with
   | none=>R (.ok .next) S
   | some v=>Bb (Bg P w) A (letOwnedTupleGo J it v) (λ_ U=>Bb (Bg P w) A (assign J env v) (λ_ b=>
     Bb (Bg P w) A (forIn ifs true λc r=>if r=true then do let ok <-isTrue c env (eval c env);pure (ForInStep.yield ok)else pure (ForInStep.yield r)) (λok O=>
      if ok=true then Bb (Bg P w) A (eval elt env) (λx a=>
       Bb (Bg P w) A (call (.builtin "list.append") [acc,x]) (λ_ Y=>∃m,m<n/\o m Y) (notedBy (Bg P w) A env λe s'=>R (.error e) s') a) (notedBy (Bg P w) A env λe s'=>R (.error e) s') O
      else ∃m,m<n/\o m O) (notedBy (Bg P w) A env λe s'=>R (.error e) s') b) (notedBy (Bg P w) A env λe s'=>R (.error e) s') U) (notedBy (Bg P w) A env λe s'=>R (.error e) s') S) (notedBy (Bg P w) A env λe s'=>R (.error e) s') s)
  (n:Nat) (h:o n s):PL (Bg P w) A (.compLoop (.ListComp elt [⟨J,iter,ifs,0⟩] scope pos) 0 it acc env) R s:=by
 refine codeAny_loop rfl o (λn s p=>?_) n h;show Bb _ A _ _ _ s;refine wpAny_noted ?_;rw[compTurn_list];refine Ac<|Xj<|Ac<|Kv (g n s p) (λr S f=>?_) λ_ _ z=>z
 cases r with
 | none=>exact Bj f
 | some v=>
  refine Ac<|Kv f (λ_ U l=>Ac<|Kv l (λ_ b k=>Ac<|Kv k (λok O d=>?_) λ_ _ z=>z) λ_ _ z=>z) λ_ _ z=>z
  cases ok with
  | false=>exact Bj ⟨rfl,d⟩
  | true=>exact Ac (Ac (Kv d (λx a j=>Ac (Kv j (λ_ Y i=>Bj (Bj ⟨rfl,i⟩)) λ_ _ z=>z)) λ_ _ z=>z))
section
variable {X:Cx}{scope:Scope}{x:List Str}{iter tg:Expr}{px pos:Pos}{wi:TI}{tt:TT}{te:TE}{own:V->Hp->List V->Prop}
def JH {anq}{σ:St}{s₂ H2}{it}{fp}{tn J Q}{E}{RR:Mk->Addr->Qi->AP->Prop}
  (hc:J.cm=true->X.calm=true) (B:jz X scope x ix) (hg:∀C s H fp,PG (blk X scope (jH X x ix) C s H fp) tg (Zw x.length own)) (ht:∀C s H fp,ZX (blk X scope (jH X x ix) C s H fp) ifs tt) (he:∀C s H fp,PE (blk X scope (jH X x ix) C s H fp) elt te)
  (I2:Aw X anq σ H2 s₂) (T:Turn X.prog X.w X.K tg J fp it tn) (G:tn 0 s₂.heap) (f2:∀b∈fp,Jj X anq H2 b) (hq:wLC x.length own ix tt te σ Q J H2)
  (hRR:∀D C s' σ' H' p',s₂.heap.objs.size<=C->Aw (blk X scope (jH X x ix) C s₂ H2 fp) p' σ' H' s'->Q (.ref D) H'->RR (.ref D) C (.ok .next) s') :
  Bb (Bg X.prog X.w) X.A (newList []) (λacc s₃=>Bb (Bg X.prog X.w) X.A (newFunctionEnv scope X.env.globals (Uq scope X.env) [] X.env.qual JI .none (Go X.env)) (λcenv a=>
   PL (Bg X.prog X.w) X.A (.compStart (.ListComp elt [⟨tg,iter,ifs,0⟩] scope pos) 0 (.ref it) acc {cenv with scope:=relabel scope X.env}) (RR acc cenv.locals) a) E s₃) E s₂:=by
 refine Rf<|ahX ?_
 generalize M:s₂.heap.push {cls:=.type "list",dict:=JI,data:=.seq ([]:List Mk).toArray}=O;generalize L:pushCells (O.push {cls:=.type "dict",data:=.dict #[]}) scope.names=S;have w:S.Ns O.objs.size (λ_=>JI):=by
  obtain⟨o,es,ep,ho,r⟩:=Heap.Ns.new O (.type "dict");exact⟨o,es,ep,by rw[<-L];exact pushCells_keeps _ _ _ _ ho,r⟩
 have m:∀b o,O.get? b=Go o->S.get? b=Go o:=λb o e=>by rw[<-L];exact pushCells_keeps _ _ _ _ (HJ _ e)
 have hce:∀y c,(y,c)∈Lw (O.objs.size+1) scope.names []->S.IsCell c JI:=λy c e=>by
  rw[<-L];exact(acH (h:=O.push {cls:=.type "dict",data:=.dict #[]}) (by rw[RQ];exact e)).1
 have hC:O.objs.size=s₂.heap.objs.size+1:=by rw[<-M,RQ]
 have hDC:s₂.heap.objs.size≠O.objs.size:=by rw[hC];exact Ip (Nat.lt_succ_self _)
 have Y:s₂.heap.objs.size<=O.objs.size:=by rw[hC];exact Ra _
 have I:∀b o,s₂.heap.get? b=Go o->S.get? b=Go o:=λb o e=>m b o (M ▸ HJ _ e)
 have hacc:S.get? s₂.heap.objs.size=Go {cls:=.type "list",data:=.seq #[]}:=m _ _ (M ▸ Il _ rfl);have K:∀b∈fp,∃o,s₂.heap.get? b=Go o:=λb g=>let⟨o,e,_⟩:=T.obj 0 _ G b g;⟨o,e⟩
 have ok:=aaK (C:=O.objs.size) I2 B Y f2 K;obtain⟨W,⟨m0,w0⟩,P⟩:=hq s₂.heap.objs.size (I2.hok.fresh (Cm _));have l:∀{H':Hp},(∀b∈fp,H' b=JI)->∀b∈fp,Jj (blk X scope (jH X x ix) O.objs.size s₂ H2 fp) [] H' b:=λ{H'} hn b g=>by
  obtain⟨o,e⟩:=K b g;obtain⟨_,g1,g2,g3,g4,g5⟩:=f2 b g;refine⟨hn b g,Ip<|Js (Hh e) Y,λz=>?_,.inl g,λy c h=>?_,λp hp=>absurd (show p∈([]:List (Addr×Obj))from hp)<|by simp⟩;rcases Kz.mp (I2.stkSub b z)with q|q
  exact g1 q;exact g2 q;rcases o7 I2 B h with q|q
  exact g4 y c q;intro z;rw[z]at q;exact absurd (Js (Hh e)<|HW (HW Y<|Ra _)<|Jr q)<|Qo _
 have A:∀s₃:AP,s₃={s₂ with heap:=S} ->
   PL (Bg X.prog X.w) X.A (.compLoop (.ListComp elt [⟨tg,iter,ifs,0⟩] scope pos) 0 (.ref it) (.ref s₂.heap.objs.size) (compEnvC scope (Lw (O.objs.size+1) scope.names (Uq scope X.env)) O.objs.size X.env))
    (RR (.ref s₂.heap.objs.size) O.objs.size) s₃:=by
  rintro s₃ rfl;have J0:=alE (fp:=fp) (C:=O.objs.size) (tk:=s₂.toks) I2 B ok rfl I hacc w (Jp hDC) Y hce;have fr0:∀b∈fp,Cu H2 s₂.heap.objs.size (.lst []) b=JI:=λb g=>by
   obtain⟨o,e⟩:=K b g;rw[aN (Ip (Hh e))];exact(f2 b g).1
  refine ain (λk s'=>∃i ys H',Aw (blk X scope (jH X x ix) O.objs.size s₂ H2 fp) [] (J4 x.length JI++Lr ix σ) H' s'/\tn i s'.heap/\(∀b∈fp,H' b=JI)/\H' s₂.heap.objs.size=Go (.lst ys)/\W i k ys H') ?_ m0
   ⟨0,[],_,J0,T.keep 0 _ _ G (λb _ o e=>I b o e),fr0,aU,w0⟩
  rintro n a ⟨i,ys,H4,I4,st4,fr4,hD4,w4⟩;rcases P i n ys H4 w4 hD4 with⟨R,qn⟩|⟨go,hz,Z⟩
  ·refine Hg (T.done (blk X scope (jH X x ix) O.objs.size s₂ H2 fp) rfl rfl rfl hc i [] a _ H4 _ I4 (l fr4) st4 R) λr s5 t=>?_;obtain⟨hr,I5⟩:=t;subst hr;exact hRR _ _ s5 _ H4 [] Y I5 qn
  ·refine Hg (T.item (blk X scope (jH X x ix) O.objs.size s₂ H2 fp) rfl rfl rfl hc i [] a _ H4 _ I4 (l fr4) st4 go) λr s5 ⟨u,hr,h5⟩=>?_;subst hr;refine Kv h5 (λ_ s6 ⟨xv,H6,I6,r6,y6,F,fr6⟩=>?_) λ_ _ z=>z;have I6':=I6.pinned (l fr6) (T.obj _ _ F);obtain⟨vs,hov,hvl,q7⟩:=Z xv H6 y6;have fgt:∀{U:St}{j:Hp}{s9:AP}{p9:List (Addr×Obj)},U.length=x.length->Aw (blk X scope (jH X x ix) O.objs.size s₂ H2 fp) p9 (U++Lr ix σ) j s9->Aw (blk X scope (jH X x ix) O.objs.size s₂ H2 fp) p9 (J4 x.length JI++Lr ix σ) j s9:=λ{U j s9 p9} hl N=>
    N.weak (by simp[hl]) λk v e=>by
     by_cases hk:k<x.length
     rw[QF (by simpa using hk),Zt,if_pos hk]at e;cases e;rw[V7 (by simpa using hk),W7]at e;rw[V7 (by rw[hl];lia),hl];exact e
   refine Kv (hg _ _ _ _ _ s6 _ H6 xv u (fun U j=>U=vs.map Go++(J4 x.length (JI:Option V)++Lr ix σ).drop x.length/\j=H6) I6' r6 ⟨vs,hov,hvl,rfl,rfl⟩) (λ_ s7 ⟨σ7,H7,I7,e7,e8⟩=>?_) λ_ _ z=>z.elim;subst e7 e8;rw[List.drop_left' (by simp)]at I7;have hml:(vs.map Go).length=x.length:=by rw[Bo];exact hvl
   refine Kv (ht _ _ _ _ _ s7 _ H7 _ I7 q7) (λb s8 ⟨H8,I8,q8⟩=>?_) λ_ _ z=>z.elim;have f:∀{j:Hp}{s9:AP}{U:St},Aw (blk X scope (jH X x ix) O.objs.size s₂ H2 fp) ([]++Gj fp s6.heap) U j s9->tn (i+1) s9.heap/\∀b∈fp,j b=JI:=λ{j s9 U} N=>by
    refine⟨T.keep _ _ _ F λb g o e=>(N.pin (b,o)<|W8 _<|W8 _<|jQ g e).1,λb g=>?_⟩;obtain⟨o,e,d⟩:=T.obj _ _ F b g;exact(N.pin (b,o)<|W8 _<|W8 _<|jQ g e).2.1
   cases b with
   | false=>
    rw[if_neg RM]at q8|-
    obtain⟨hD8,m',hm,w8⟩:=q8;obtain⟨t8,f8⟩:=f I8;exact⟨m',hm,i+1,ys,H8,fgt hml I8.unpinned,t8,f8,hD8,w8⟩
   | true=>
    rw[if_pos rfl]at q8|-
    refine Kv (he _ _ _ _ _ s8 _ H8 _ I8 q8) (λu9 s9 ⟨v9,j,N,r9,hD9,m',hm,w9⟩=>?_) λ_ _ z=>z.elim;refine Kv (yX (X:=blk X scope (jH X x ix) O.objs.size s₂ H2 fp) _ s9 _ j (.ref s₂.heap.objs.size) [v9] _ [u9] (λ_ H'=>H'=Cu j s₂.heap.objs.size (.lst<|ys++[v9])) N rfl (.cons r9 .nil) ⟨_,ys,v9,rfl,rfl,hD9,hz,rfl⟩) (λ_ s10 ⟨_,H10,I10,_,e10⟩=>?_) λ_ _ z=>z.elim;subst e10;obtain⟨t10,f10⟩:=f I10;exact⟨m',hm,i+1,ys++[v9],_,fgt hml I10.unpinned,t10,f10,aU,w9⟩
 exact codeAny_compStart_list (A _ rfl)<|T.self _ 0 _ _ _ (T.keep 0 _ _ G<|λb _ o e=>I b o e)<|A _ rfl
def aev (ix)(hc:X.calm=true)(B:jz X scope x ix)(hg:∀C s H fp,PG (blk X scope (jH X x ix) C s H fp) tg (Zw x.length own))(hi:PI X tg iter wi)(ht:∀C s H fp,ZX (blk X scope (jH X x ix) C s H fp) ifs tt)(he:∀C s H fp,PE (blk X scope (jH X x ix) C s H fp) elt te)
  (hs:autoParam (∀v,Wt iter X.env v=pure v) aPq._auto_4):PE X (.ListComp elt [⟨tg,iter,ifs,0⟩] scope pos) (tLC x.length own ix wi tt te):=by
 intro anq s σ H Q I h;refine wpAny_comprehension_free rfl hs (NP<|vX I B) B.kind (λy hy hk=>by rw[B.names y hy,hk])<|Hg (hi anq s σ H _ I h) λv s1 h1=>Hg h1 λitv s2 h2=>?_
 obtain⟨it,fp,tn,J,H2,e,I2,T,st2,f2,hq⟩:=h2;subst e;refine JH (λ_=>hc) B hg ht he I2 T st2 f2 hq λD C s' σ' H' p' hC I' q'=>?_;obtain⟨m,hn,_⟩:=I'.loc;exact⟨m,hn,λh' hs'=>⟨.ref D,H',Kf I2 hC f2 I' hs',rfl,q'⟩⟩
def adT (ix){i}{py spos}(hN:X.N.Nodup)(hi':X.N[i]?=Go y)(hy:Loc X.env.scope y)(hc:X.calm=true)(B:jz X scope x ix)(hg:∀C s H fp,PG (blk X scope (jH X x ix) C s H fp) tg (Zw x.length own))(hi:PI X tg iter wi)
  (ht:∀C s H fp,ZX (blk X scope (jH X x ix) C s H fp) ifs tt) (he:∀C s H fp,PE (blk X scope (jH X x ix) C s H fp) elt te)
  (hsw:autoParam (Wg (.ListComp elt [⟨tg,iter,ifs,0⟩] scope pos) (Go (.Name y py)) spos.line X.env=pure true) aPq._auto_1)
  (hf:autoParam (X.fn y=true\/X.env.scope.names.lookup y=Go .local) aPq._auto_6)
  (hs:autoParam (∀v,Wt iter X.env v=pure v) aPq._auto_4):PS X (.Assign [.Name y py] (.ListComp elt [⟨tg,iter,ifs,0⟩] scope pos) spos) (aaT (tLC x.length own ix wi tt te) (JG i)):=by
 intro anq s σ H D I h;rw[exec_Assign_Name_used _ _ _ _ hsw];refine Ac<|Xj<|Ac<|Ac<|Kv (wpAny_comprehension_free rfl hs (NP<|vX I B) B.kind (λy hy hk=>by rw[B.names y hy,hk])<|Hg (hi anq s σ H _ I h) λv s1 h1=>Hg h1 λitv s2 h2=>?_) (λ_ s' hq=>Bj<|Bj hq) λ_ _ e=>e
 obtain⟨it,fp,tn,J,H2,e,I2,T,st2,f2,hq⟩:=h2;subst e;refine JH (λ_=>hc) B hg ht he I2 T st2 f2 hq λD' C s' σ' H' p' hC I' q'=>?_;obtain⟨m,hn,_⟩:=I'.loc;have cneC:∀z c,X.env.cells.lookup z=Go c->c≠C:=λz c e q=>by
  obtain⟨v,w⟩:=I2.cell z c e;exact absurd (Js w.lt<|q ▸ hC)<|Qo _
 have lneC:=Ip (Js I2.lt hC);refine wpAny_assign_Name<|zH (v:=.ref D') (Kf I2 hC f2 I'<|.refl ..) hN hi' hy rfl (λs'' I'' hsb=>?_) hf
 obtain⟨a,hsb,ha⟩:=hsb;have haC:C≠a:=by
  rcases ha with rfl|ha
  exact Jp lneC;exact Jp<|cneC _ _ ha
 exact⟨m,hn.sameBut hsb haC,λh' hs'=>⟨_,H',(I''.turned (λb o hb e=>(hs'.2 b hb).trans e) I'.free (Jp lneC) (.inr<|HW I2.sz hC) cneC<|λp hp z=>(absurd (Js (Hh (I2.pin p hp).1)<|z ▸ hC)<|Qo _)),q'⟩⟩
end
abbrev Sm (n:Nat)(i:Int):Prop:=i.natAbs<2^n
def Sm.bits {n i}(h:Sm n i):Builtin.Int.intBits i<=n:=by
 unfold Builtin.Int.intBits;by_cases e:i=0
 simp_all
 rw[(beq_eq_false_iff_ne.mpr e)];have:=(Nat.log2_lt (by lia)).mpr h
 simp;lia
def Sm.mono {m n i}(h:Sm m i)(J:m<=n):Sm n i:=Js h (fM (by decide) J)
def Sm.mul {m n i j}(h:Sm m i)(h':Sm n j):Sm (m+n) (i*j):=by
 unfold Sm at *;rw[Int.natAbs_mul,Nat.pow_add];by_cases e:j.natAbs=0
 exact e ▸ Nat.mul_pos (YL<|by decide) (YL<|by decide);exact Js (Nat.mul_lt_mul_of_pos_right h<|Nat.pos_of_ne_zero e)<|Nat.mul_le_mul_left _<|QX h'
def Sm.add {m n i j}(h:Sm m i)(h':Sm n j):Sm (max m n+1) (i+j):=by
 have h1:=h.mono (Nat.le_max_left m n);have h2:=h'.mono (Nat.le_max_right m n);unfold Sm at *;omega
def Sm.neg {n i}(h:Sm n i):Sm n (-i):=by unfold Sm at *;rw[Int.natAbs_neg];exact h
def Sm.sub {m n i j}(h:Sm m i)(h':Sm n j):Sm (max m n+1) (i-j):=h.add h'.neg
def Sm.zero {n}:Sm n 0:=YL (by decide)
def MP {n i}(h1:-(2^n:Int)<i)(h2:i<(2^n:Int)):Sm n i:=by
 unfold Sm;grind
abbrev pJ (i j:Int):Prop:=∃m n,m<=1000000/\n<=1000000/\Sm m i/\Sm n j
def pJ.ok {i j}(h:pJ i j):IntMulOk i j:=by
 obtain⟨m,n,O,J,h1,h2⟩:=h;exact .of_bits (by have:=h1.bits;lia) (by have:=h2.bits;lia)
abbrev Mw (_ j:Int):Prop:=j≠0/\∃n,n<=8000/\Sm n j
def ajO {n j}(J:n<=8000)(h:Sm n j):j.natAbs.log2<9000:=by
 by_cases e:j.natAbs=0
 simp_all
 have:=(Nat.log2_lt e).mpr h
 lia
section
variable {X:Cx}
def Ny:KN X (Nx .Mult) (rI pJ λi j=>.int (i*j)):=opI λ_ _ _ _ _ _ _ J q=>mul_int q J.ok
def ahu:KN X (Nx .FloorDiv) (rI Mw λi j=>.int (i.fdiv j)):=opI λi j _ _ _ _ _ O q=>by
 obtain⟨h1,n,J,h2⟩:=O;exact floordiv_int h1 q<|.inl<|PyProof.noPylong_of_log2<|ajO J h2
def yS:∀{bs:List Bool}{its:List Mk}{i:Nat}{v:Mk},BL (bs.map V.bl) its->its[i]?=Go v->∃b,bs[i]?=Go b/\v=.bool b
 | [],_,_,_,.nil,e=>by simp at e
 | b::bs,_,0,_,.cons r _,e=>by simp at e;subst e;exact⟨b,rfl,r⟩
 | _::bs,_,i+1,v,.cons _ t,e=>by
  obtain⟨b,h1,h2⟩:=yS t (by simpa using e);simp_all
end
inductive W where
 | non|bl (b:Bool)|int (i:Int)|str (x:Str)|ty (n:String)|tup (ws:List W)|lst (ws:List W)|loc (n:Nat)|kls (ws:List W)|exc (n:Str)
 | exa (n:Str) (ws:List W)
 | fnv (f:Addr) (i:Nat)
inductive Cell where
 | lst (ws:List W)|obj (C:Addr) (fs:List (Str×W))|dct (kvs:List (Key×W))
 | dtt (kvs:List (List Int×W))
structure Gh where
 nx:Nat
 c:Nat->Option Cell
structure Mu where
 f:Nat->Option Addr
 hid:Addr->Prop
abbrev agY (K:Az)(p:Addr)(xs:List V):Prop:=
 ∃(o:Obj) (its:Array Mk) (n:Nat),K.lookup p=Go o/\o.cls=.type "list"/\o.dict=JI/\o.data=.seq its n/\its.size<=HB/\BL xs its.toList
abbrev Frz (H:Hp)(μ:Mu)(p:Addr)(xs:List V):Prop:=H p=Go (.lst xs)/\(∀n,μ.f n≠Go p)/\¬μ.hid p
abbrev Frk (K:Az)(H:Hp)(p:Addr)(xs:List V):Prop:=(∃o,H p=Go (.frz o (.lst xs)))\/agY K p xs
variable {μ:Mu}
def Frz.sq {K H}{p}{xs}(h:Frz H μ p xs):Ja K H p xs:=.inl (.inl h.1)
def Frk.sq {K H}{p}{xs}(h:Frk K H p xs):Ja K H p xs:=by
 rcases h with h|h
 exact .inl<|.inr h
 exact .inr h
abbrev WX:List Mk:=[.type "ValueError",.type "Exception",.type "BaseException",.type "object"]
abbrev xZ (K:Az)(C:Addr)(n:Str):Bool:=K7 K Iz n==Go (Go (.ref C))&&ZF K (.ref C)==Go (.type "type")&&match Wv K C with
 | some cd=>cd.name==n&&cd.mro.contains (.type "BaseException")
 | none=>false
abbrev Ai (K:Az)(C:Addr)(n:Str):Bool:=xZ K C n&&(match Wv K C with
 | some cd=>(match cd.mro with
  | [.ref C',.ref R,a,b,c,d]=>C'==C&&[a,b,c,d]==WX&&K7 K Iz "EaselError"==Go (Go (.ref R))&&(Wv K R).any (λc=>c.name==("EaselError" : Str))
  | _=>false)
 | none=>false)&&Nq K (.ref C) "__getattribute__"==Go (Go (.builtin "BaseException.__getattribute__"))&&Nq K (.ref C) "__getattr__"==Go JI&&Nq K (.ref C) "__class__"==Go (Go (.builtin "object.__class__"))&&PySem.W.specialIn K (.builtin "object.__class__") "__get__"==Go (Go (.builtin "getset_descriptor.__get__"))
 && PySem.W.takesIn K (.builtin "object.__class__")==Go true
abbrev Al (n:Str):List Str:=if n = "Apart" then["word", "places"]else["at"]
abbrev Sv (K:Az)(C:Addr)(n:Str):Bool:=Ai K C n&&ZV K C&&(Al n).all λf=>Nq K (.ref C) f==Go JI
abbrev Xoa (K:Az)(o:Obj)(n:Str)(dd:Addr):Prop:=∃C,o.cls=.ref C/\o.dict=Go dd/\PySem.W.notCls o=true/\Sv K C n=true
abbrev Xob (K:Az)(o:Obj)(n:Str):Prop:=∃C,o.cls=.ref C/\o.dict=JI/\PySem.W.notCls o=true/\Ai K C n=true
mutual
noncomputable def Bk (K:Az)(H:Hp)(μ:Mu):W->V->Prop
 | .non,v=>v=.non
 | .bl b,v=>v=.bl b
 | .int i,v=>v=.int i
 | .str x,v=>v=.str x
 | .ty n,v=>v=.ty n
 | .tup ws,v=>∃p xs,v=.ref p/\IW K H p xs/\aV K H μ ws xs
 | .lst ws,v=>∃p xs,v=.ref p/\Frz H μ p xs/\aV K H μ ws xs
 | .kls ws,v=>∃p xs,v=.ref p/\Frk K H p xs/\aV K H μ ws xs
 | .loc n,v=>∃p,v=.ref p/\μ.f n=Go p
 | .exc n,v=>∃p o u,v=.ref p/\H p=Go (.frz o u)/\Xob K o n
 | .exa n ws,v=>∃p o u dd ns xs,v=.ref p/\H p=Go (.frz o u)/\Xoa K o n dd/\H dd=Go (.xd (List.zip ns xs))/\ns=Al n/\ns.length=xs.length/\aV K H μ ws xs
 | .fnv f _,v=>v=.ref f
noncomputable def aV (K:Az)(H:Hp)(μ:Mu):List W->List V->Prop
 | [],xs=>xs=[]
 | w::ws,xs=>∃v vs,xs=v::vs/\Bk K H μ w v/\aV K H μ ws vs
end
section
variable {K:Az}{H H' H1 H2:Hp}{μ' μ1 μ2:Mu}{h h':Gh}{w:W}{ws:List W}{v:V}{xs:List V}
def aV.len:∀{ws xs},aV K H μ ws xs->ws.length=xs.length
 | [],xs,h=>by
  have e:=h;rw[e];rfl
 | w::ws,xs,h=>by
  obtain⟨v,vs,e,_,h⟩:=h;rw[e,PN,PN,aV.len h]
def aV.get:∀{ws xs}{i:Nat}{w},aV K H μ ws xs->ws[i]?=Go w->∃v,xs[i]?=Go v/\Bk K H μ w v
 | a::ws,xs,0,w,h,e=>by
  obtain⟨v,vs,e1,r,_⟩:=h;simp_all
 | a::ws,xs,i+1,w,h,e=>by
  obtain⟨v,vs,e1,_,h⟩:=h;subst e1;obtain⟨u,h1,h2⟩:=aV.get h (by simpa using e)
  simp_all
def aV.nil:aV K H μ [] []:=rfl
def aV.cons (r:Bk K H μ w v)(h:aV K H μ ws xs):aV K H μ (w::ws) (v::xs):=⟨v,xs,rfl,r,h⟩
def aV.append:∀{ws xs us ys},aV K H μ ws xs->aV K H μ us ys->aV K H μ (ws++us) (xs++ys)
 | [],xs,us,ys,h,g=>by
  subst h;exact g
 | w::ws,xs,us,ys,h,g=>by
  obtain⟨v,vs,e,r,h⟩:=h;subst e;exact aV.cons r<|aV.append h g
def aV.one (r:Bk K H μ w v):aV K H μ [w] [v]:=aV.cons r aV.nil
def aV.set (r:Bk K H μ w v):∀{ws xs}(i),aV K H μ ws xs->aV K H μ (ws.set i w) (xs.set i v)
 | [],xs,i,h=>by subst h;exact aV.nil
 | a::ws,xs,0,h=>by
  obtain⟨u,vs,e,_,h⟩:=h;subst e;exact aV.cons r h
 | a::ws,xs,i+1,h=>by
  obtain⟨u,vs,e,q,h⟩:=h;subst e;exact aV.cons q<|aV.set r i h
def aV.take:∀{ws xs}(n),aV K H μ ws xs->aV K H μ (ws.take n) (xs.take n)
 | _,_,0,_=>aV.nil
 | [],xs,n+1,h=>by subst h;exact aV.nil
 | a::ws,xs,n+1,h=>by
  obtain⟨u,vs,e,q,h⟩:=h;subst e;exact aV.cons q<|aV.take n h
def aV.drop:∀{ws xs}(n),aV K H μ ws xs->aV K H μ (ws.drop n) (xs.drop n)
 | _,_,0,h=>h
 | [],xs,n+1,h=>by subst h;exact aV.nil
 | a::ws,xs,n+1,h=>by
  obtain⟨u,vs,e,q,h⟩:=h;subst e;exact aV.drop n h
structure Ex0 (K:Az) (H:Hp) (μ:Mu) (H':Hp) (μ':Mu):Prop where
 t:∀p xs,IW K H p xs->IW K H' p xs
 l:∀p xs,Frz H μ p xs->Frz H' μ' p xs
 k:∀p xs,Frk K H p xs->Frk K H' p xs
 m:∀n p,μ.f n=Go p->μ'.f n=Go p
 x:∀p o u,H p=Go (.frz o u)->H' p=Go (.frz o u)
 y:∀p fs,H p=Go (.xd fs)->H' p=Go (.xd fs)
structure Ex (K:Az) (H:Hp) (μ:Mu) (H':Hp) (μ':Mu):Prop extends Ex0 K H μ H' μ' where
 o:∀p u,μ.hid p->H p=Go u->μ'.hid p/\H' p=Go u
mutual
theorem Bk.ex (e:Ex0 K H μ H' μ'):∀{w:W}{v:V},Bk K H μ w v->Bk K H' μ' w v
 | .non,_,h=>by rw[Bk]at h|-;exact h
 | .bl _,_,h=>by rw[Bk]at h|-;exact h
 | .int _,_,h=>by rw[Bk]at h|-;exact h
 | .str _,_,h=>by rw[Bk]at h|-;exact h
 | .ty _,_,h=>by rw[Bk]at h|-;exact h
 | .tup ws,_,h=>by
  rw[Bk]at h|-
  obtain⟨p,xs,e1,hs,hr⟩:=h;exact⟨p,xs,e1,e.t _ _ hs,aV.ex e hr⟩
 | .lst ws,_,h=>by
  rw[Bk]at h|-
  obtain⟨p,xs,e1,hs,hr⟩:=h;exact⟨p,xs,e1,e.l _ _ hs,aV.ex e hr⟩
 | .kls ws,_,h=>by
  rw[Bk]at h|-
  obtain⟨p,xs,e1,hs,hr⟩:=h;exact⟨p,xs,e1,e.k _ _ hs,aV.ex e hr⟩
 | .loc n,_,h=>by
  rw[Bk]at h|-
  obtain⟨p,e1,hm⟩:=h;exact⟨p,e1,e.m _ _ hm⟩
 | .exc n,_,h=>by
  rw[Bk]at h|-
  obtain⟨p,o,u,e1,hm,hx⟩:=h;exact⟨p,o,u,e1,e.x _ _ _ hm,hx⟩
 | .exa n ws,_,h=>by
  rw[Bk]at h|-
  obtain⟨p,o,u,dd,ns,xs,e1,hm,hx,hd,e2,e3,hr⟩:=h;exact⟨p,o,u,dd,ns,xs,e1,e.x _ _ _ hm,hx,e.y _ _ hd,e2,e3,aV.ex e hr⟩
 | .fnv _ _,_,h=>by rw[Bk]at h|-;exact h
theorem aV.ex (e:Ex0 K H μ H' μ'):∀{ws:List W}{xs:List V},aV K H μ ws xs->aV K H' μ' ws xs
 | [],_,h=>by rw[aV]at h|-;exact h
 | w::ws,_,h=>by
  rw[aV]at h|-
  obtain⟨v,vs,e1,r,h⟩:=h;exact⟨v,vs,e1,Bk.ex e r,aV.ex e h⟩
end
structure Ib (K:Az) (H:Hp) (μ:Mu) (H':Hp) (μ':Mu):Prop where
 r:∀w v,Bk K H μ w v->Bk K H' μ' w v
 o:∀p u,μ.hid p->H p=Go u->μ'.hid p/\H' p=Go u
def Ib.refl:Ib K H μ H μ:=⟨λ_ _ h=>h,λ_ _ h g=>⟨h,g⟩⟩
def Ib.trans (a:Ib K H μ H1 μ1)(b:Ib K H1 μ1 H2 μ2):Ib K H μ H2 μ2:=
 ⟨λw v h=>b.r w v (a.r w v h),λp u h g=>let⟨h1,J⟩:=a.o p u h g;b.o p u h1 J⟩
def Ex.ext (e:Ex K H μ H' μ'):Ib K H μ H' μ':=⟨λ_ _ h=>Bk.ex e.toEx0 h,e.o⟩
def Ib.s (e:Ib K H μ H' μ'):∀{ws xs},aV K H μ ws xs->aV K H' μ' ws xs
 | [],_,h=>h
 | w::ws,_,h=>by
  obtain⟨v,vs,e1,r,h⟩:=h;exact⟨v,vs,e1,e.r _ _ r,Ib.s e h⟩
abbrev adL:Option HO->Prop
 | some (.lst _)=>True
 | some (.dK _)=>True
 | some (.ins _ _ _)=>True
 | some (.ext _)=>True
 | _=>False
abbrev j5 {κ:Type}(K:Az)(H:Hp)(μ:Mu):List (κ×W)->List (κ×V)->Prop:=N6 λ(p:κ×W) (q:κ×V)=>p.1=q.1/\Bk K H μ p.2 q.2
abbrev agZ (x:List Int×Addr×Mk):Rq:=⟨reduceHash (Builtin.Tuple.tupleHashOf (x.1.map hashInt)),.ref x.2.1,x.2.2⟩
abbrev Ji (a:Addr)(xs:List (List Int×Addr×Mk))(h:Heap):Prop:=xs.length<=HB/\(a==QD)=false/\(xs.map (·.1)).Nodup/\∃o es ep,h.get? a=Go o/\o.ExactDict/\o.data=.dict es ep/\es.toList=xs.map agZ
abbrev uU (K:Az)(H:Hp)(μ:Mu)(p:Addr):Cell->Prop
 | .lst ws=>∃xs,H p=Go (.lst xs)/\aV K H μ ws xs
 | .obj C fs=>∃dx fvs,H p=Go (.ins C dx fvs)/\j5 K H μ fs fvs
 | .dct kvs=>∃kvv,H p=Go (.dK kvv)/\j5 K H μ kvs kvv
 | .dtt kvs=>∃xs vs,H p=Go (.ext (Ji p xs))/\kvs.map (·.1)=xs.map (·.1)/\BL vs (xs.map (·.2.2))/\aV K H μ (kvs.map λx=>W.tup (x.1.map W.int)) (xs.map λx=>V.ref x.2.1)/\aV K H μ (kvs.map (·.2)) vs
structure G3 (K:Az) (μ:Mu) (H:Hp) (h:Gh):Prop where
 inj:∀m n p,μ.f m=Go p->μ.f n=Go p->m=n
 dom:∀n p,μ.f n=Go p->n<h.nx
 trk:∀n p,μ.f n=Go p->adL (H p)
 cel:∀n c,h.c n=Go c->∃p,μ.f n=Go p/\uU K H μ p c
 hd:∀p,μ.hid p->(∃xs,H p=Go (.lst xs))/\∀n,μ.f n≠Go p
def uU.ext {p c}(e:Ib K H μ H' μ')(J:H' p=H p)(x:uU K H μ p c):uU K H' μ' p c:=by
 cases c with
 | lst ws=>obtain⟨xs,a,b⟩:=x;exact⟨xs,J.trans a,e.s b⟩
 | obj C fs=>obtain⟨dx,fvs,a,b⟩:=x;exact⟨dx,fvs,J.trans a,Paired.mapP b λ_ _ z=>⟨z.1,e.r _ _ z.2⟩⟩
 | dct kvs=>obtain⟨kvv,a,b⟩:=x;exact⟨kvv,J.trans a,Paired.mapP b λ_ _ z=>⟨z.1,e.r _ _ z.2⟩⟩
 | dtt kvs=>obtain⟨xs,vs,a,b,c,d,f⟩:=x;exact⟨xs,vs,J.trans a,b,c,e.s d,e.s f⟩
def Rd.laid {p q o u}(J:H p=JI)(r:Rd H q u):Rd (Cu H p o) q u:=by
 have O:q≠p:=by
  rcases r with r|⟨_,r⟩
  exact aQ r J;exact aQ r J
 unfold Rd
 rwa[aN O]
def Ex.laid {p:Addr}{o:HO}(J:H p=JI):Ex K H μ (Cu H p o) μ where
 t:=λq xs h=>by
  rcases h with h|h
  exact .inl<|h.laid J
  exact .inr h
 l:=λq xs h=>⟨aN (aQ h.1 J) ▸ h.1,h.2⟩
 k:=λq xs h=>by
  rcases h with⟨o',h⟩|h
  exact .inl ⟨o',aN (aQ h J) ▸ h⟩;exact .inr h
 m:=λ_ _ h=>h
 x:=λq o' u e=>aN (aQ e J) ▸ e
 y:=λq fs e=>aN (aQ e J) ▸ e
 o:=λq u z e=>⟨z,aN (aQ e J) ▸ e⟩
def G3.laid {p:Addr}{o:HO}(R:G3 K μ H h)(J:H p=JI):G3 K μ (Cu H p o) h where
 inj:=R.inj
 dom:=R.dom
 trk:=λn q e=>by
  have:=R.trk n q e
  rw[aN (λz=>by subst z;rw[J]at this;exact this)];exact this
 cel:=λn c e=>by
  obtain⟨q,e1,x⟩:=R.cel n c e;have:=R.trk n q e1
  exact⟨q,e1,x.ext (Ex.laid J).ext (aN (λz=>by subst z;rw[J]at this;exact this))⟩
 hd:=λq z=>by
  obtain⟨⟨xs,e⟩,g⟩:=R.hd q z;exact⟨⟨xs,aN (aQ e J) ▸ e⟩,g⟩
def Bk.tupNew {p}(J:H p=JI)(r:aV K H μ ws xs):Bk K (Cu H p (.tup xs)) μ (.tup ws) (.ref p):=⟨p,xs,rfl,IW.of aU,(Ex.laid J).ext.s r⟩
def Bk.lstNew {p}(R:G3 K μ H h)(J:H p=JI)(r:aV K H μ ws xs):Bk K (Cu H p (.lst xs)) μ (.lst ws) (.ref p):=by
 refine⟨p,xs,rfl,⟨aU,λn e=>?_,λz=>?_⟩,(Ex.laid J).ext.s r⟩;have:=R.trk n p e
 rwa[J]at this
 obtain⟨⟨xs,e⟩,_⟩:=R.hd p z;simp_all
abbrev Mu.put (μ:Mu)(n:Nat)(p:Addr):Mu:=⟨λm=>if m=n then Go p else μ.f m,μ.hid⟩
def Mu.put_same {n}{p}:(μ.put n p).f n=Go p:=by show(if n=n then Go p else μ.f n)=_;rw[if_pos rfl]
def Mu.put_ne {m n p}(e:m≠n):(μ.put n p).f m=μ.f m:=by show(if m=n then Go p else μ.f m)=_;rw[if_neg e]
abbrev Gh.new (h:Gh)(c:Cell):Gh:=⟨h.nx+1,λm=>if m=h.nx then Go c else h.c m⟩
abbrev Gh.set (h:Gh)(n:Nat)(c:Cell):Gh:=⟨h.nx,λm=>if m=n then Go c else h.c m⟩
def G3.dead (R:G3 K μ H h){n:Nat}(J:h.nx<=n):μ.f n=JI:=by
 cases e:μ.f n with
 | none=>rfl
 | some p=>exact absurd (R.dom n p e) (by lia)
def Ex.newCell {p:Addr}{o:HO}(R:G3 K μ H h)(J:H p=JI):Ex K H μ (Cu H p o) (μ.put h.nx p) where
 t:=λq xs z=>(Ex.laid (μ:=μ) J).t q xs z
 l:=λq xs z=>by
  have S:=aQ z.1 J;refine⟨aN S ▸ z.1,λn e=>?_,z.2.2⟩;by_cases O:n=h.nx
  subst O;rw[Mu.put_same]at e;simp_all
  rw[Mu.put_ne O]at e;exact z.2.1 n e
 k:=λq xs z=>(Ex.laid (μ:=μ) J).k q xs z
 m:=λn q e=>by
  rw[Mu.put_ne (λz=>by subst z;rw[R.dead (Cm _)]at e;cases e)];exact e
 x:=λq o' u e=>aN (aQ e J) ▸ e
 y:=λq fs e=>aN (aQ e J) ▸ e
 o:=λq u z e=>⟨z,aN (aQ e J) ▸ e⟩
def G3.newCell {p:Addr}{o:HO}{c:Cell}(R:G3 K μ H h)(S:H p=JI)(mo:adL (Go o))(i:uU K (Cu H p o) (μ.put h.nx p) p c):G3 K (μ.put h.nx p) (Cu H p o) (h.new c) where
 inj:=λm n q Y O=>by
  by_cases a:m=h.nx
  by_cases J:n=h.nx
  rw[a,J];rw[a,Mu.put_same]at Y;rw[Mu.put_ne J]at O;cases IV Y
  have:=R.trk n _ O
  rw[S]at this;cases this;rw[Mu.put_ne a]at Y;by_cases J:n=h.nx
  rw[J,Mu.put_same]at O;obtain rfl:=IV O;have:=R.trk m _ Y
  rw[S]at this;cases this;rw[Mu.put_ne J]at O;exact R.inj m n q Y O
 dom:=λn q e=>by
  show n<h.nx+1;by_cases J:n=h.nx
  lia;rw[Mu.put_ne J]at e;have:=R.dom n q e
  lia
 trk:=λn q e=>by
  by_cases J:n=h.nx
  rw[J,Mu.put_same]at e;obtain rfl:=IV e;rw[aU];exact mo;rw[Mu.put_ne J]at e;have:=R.trk n q e
  have U:q≠p:=λz=>by subst z;rw[S]at this;exact this
  rw[aN U];exact this
 cel:=λn d e=>by
  have e:(if n=h.nx then Go c else h.c n)=Go d:=e;by_cases J:n=h.nx
  rw[if_pos J]at e;obtain rfl:=IV e;exact⟨p,by rw[J,Mu.put_same],i⟩;rw[if_neg J]at e;obtain⟨q,e1,x⟩:=R.cel n d e;have:=R.trk n q e1
  have U:q≠p:=λz=>by subst z;rw[S]at this;exact this
  exact⟨q,by rwa[Mu.put_ne J],x.ext (Ex.newCell R S).ext (aN U)⟩
 hd:=λq z=>by
  obtain⟨⟨xs,e⟩,g⟩:=R.hd q z;have U:=aQ e S;refine⟨⟨xs,aN U ▸ e⟩,λn O=>?_⟩;by_cases J:n=h.nx
  rw[J,Mu.put_same]at O;grind
  rw[Mu.put_ne J]at O;exact g n O
def Rd.kept {p q o u}(mo:adL (H p))(r:Rd H q u)(J:q≠p):Rd (Cu H p o) q u:=by
 unfold Rd
 rwa[aN J]
def Ex.write {n:Nat}{p:Addr}{o:HO}(R:G3 K μ H h)(J:μ.f n=Go p):Ex K H μ (Cu H p o) μ where
 t:=λq xs z=>by
  rcases z with z|z
  refine .inl<|z.kept (R.trk n p J) λe=>?_
  subst e;have:=R.trk n q J
  rcases z with r|⟨_,r⟩<;>rw[r]at this<;>exact this
  exact .inr z
 l:=λq xs z=>⟨by rw[aN (λe=>z.2.1 n (by rwa[e]))];exact z.1,z.2⟩
 k:=λq xs z=>by
  rcases z with⟨o',z⟩|z
  refine .inl ⟨o',?_⟩;rw[aN (λe=>?_)];exact z;subst e;have:=R.trk n q J
  rwa[z]at this
  exact .inr z
 m:=λ_ _ e=>e
 x:=λq o' u e=>by
  rw[aN (λy=>?_)];exact e;subst y;have:=R.trk n q J
  rwa[e]at this
 y:=λq fs e=>by
  rw[aN (λy=>?_)];exact e;subst y;have:=R.trk n q J
  rwa[e]at this
 o:=λq u z e=>⟨z,by rw[aN (λy=>(R.hd q z).2 n (by rwa[y]))];exact e⟩
def G3.write {n:Nat}{p:Addr}{o:HO}{c:Cell}(R:G3 K μ H h)(J:μ.f n=Go p)(mo:adL (Go o))(b:uU K (Cu H p o) μ p c):G3 K μ (Cu H p o) (h.set n c) where
 inj:=R.inj
 dom:=R.dom
 trk:=λm q e=>by
  by_cases z:q=p
  subst z;rw[aU];exact mo;rw[aN z];exact R.trk m q e
 cel:=λm d e=>by
  have e:(if m=n then Go c else h.c m)=Go d:=e;by_cases O:m=n
  simp_all
  rw[if_neg O]at e;obtain⟨q,e1,x⟩:=R.cel m d e;exact⟨q,e1,x.ext (Ex.write R J).ext (aN (λz=>by subst z;exact O (R.inj m n q e1 J)))⟩
 hd:=λq z=>by
  obtain⟨⟨xs,e⟩,g⟩:=R.hd q z;exact⟨⟨xs,by rw[aN<|λy=>g n<|by rwa[y]];exact e⟩,g⟩
mutual
noncomputable def Lo (k:Nat):W->Prop
 | .tup ws=>MH k ws
 | .lst ws=>MH k ws
 | .kls ws=>MH k ws
 | .exa _ ws=>MH k ws
 | .loc n=>n<k
 | _=>True
noncomputable def MH (k:Nat):List W->Prop
 | []=>True
 | w::ws=>Lo k w/\MH k ws
end
mutual
theorem Bk.lo {k:Nat}(hd:∀n p,μ.f n=Go p->n<k):∀{w:W}{v:V},Bk K H μ w v->Lo k w
 | .non,_,_=>by rw[Lo]<;>first|trivial|(intros;contradiction)
 | .bl _,_,_=>by rw[Lo]<;>first|trivial|(intros;contradiction)
 | .int _,_,_=>by rw[Lo]<;>first|trivial|(intros;contradiction)
 | .str _,_,_=>by rw[Lo]<;>first|trivial|(intros;contradiction)
 | .ty _,_,_=>by rw[Lo]<;>first|trivial|(intros;contradiction)
 | .exc _,_,_=>by rw[Lo]<;>first|trivial|(intros;contradiction)
 | .fnv _ _,_,_=>by rw[Lo]<;>first|trivial|(intros;contradiction)
 | .exa _ ws,_,h=>by
  rw[Bk]at h;obtain⟨_,_,_,_,_,_,_,_,_,_,_,_,hr⟩:=h;rw[Lo];exact aV.lo hd hr
 | .tup ws,_,h=>by
  rw[Bk]at h;obtain⟨p,xs,_,_,hr⟩:=h;rw[Lo];exact aV.lo hd hr
 | .lst ws,_,h=>by
  rw[Bk]at h;obtain⟨p,xs,_,_,hr⟩:=h;rw[Lo];exact aV.lo hd hr
 | .kls ws,_,h=>by
  rw[Bk]at h;obtain⟨p,xs,_,_,hr⟩:=h;rw[Lo];exact aV.lo hd hr
 | .loc n,_,h=>by
  rw[Bk]at h;obtain⟨p,_,hm⟩:=h;rw[Lo];exact hd n p hm
theorem aV.lo {k:Nat}(hd:∀n p,μ.f n=Go p->n<k):∀{ws:List W}{xs:List V},aV K H μ ws xs->MH k ws
 | [],_,_=>by rw[MH];trivial
 | w::ws,_,h=>by
  rw[aV]at h;obtain⟨v,vs,_,r,h⟩:=h;rw[MH];exact⟨Bk.lo hd r,aV.lo hd h⟩
end
abbrev Mu.cut (μ:Mu)(k:Nat):Mu:=⟨λn=>if n<k then μ.f n else JI,μ.hid⟩
def Mu.cut_some {k n p}(e:(μ.cut k).f n=Go p):n<k/\μ.f n=Go p:=by
 have e:(if n<k then μ.f n else JI)=Go p:=e;simp_all
mutual
theorem Bk.cut {k:Nat}:∀{w:W}{v:V},Bk K H μ w v->Lo k w->Bk K H (μ.cut k) w v
 | .non,_,h,_=>by rw[Bk]at h|-;exact h
 | .bl _,_,h,_=>by rw[Bk]at h|-;exact h
 | .int _,_,h,_=>by rw[Bk]at h|-;exact h
 | .str _,_,h,_=>by rw[Bk]at h|-;exact h
 | .ty _,_,h,_=>by rw[Bk]at h|-;exact h
 | .exc _,_,h,_=>by rw[Bk]at h|-;exact h
 | .fnv _ _,_,h,_=>by rw[Bk]at h|-;exact h
 | .exa _ ws,_,h,l=>by
  rw[Bk]at h|-
  rw[Lo]at l;obtain⟨p,o,u,dd,ns,xs,e1,hm,hx,hd,e2,e3,hr⟩:=h;exact⟨p,o,u,dd,ns,xs,e1,hm,hx,hd,e2,e3,aV.cut hr l⟩
 | .tup ws,_,h,l=>by
  rw[Bk]at h|-
  rw[Lo]at l;obtain⟨p,xs,e1,hs,hr⟩:=h;exact⟨p,xs,e1,hs,aV.cut hr l⟩
 | .lst ws,_,h,l=>by
  rw[Bk]at h|-
  rw[Lo]at l;obtain⟨p,xs,e1,hs,hr⟩:=h;exact⟨p,xs,e1,⟨hs.1,λn e=>hs.2.1 n (Mu.cut_some e).2,hs.2.2⟩,aV.cut hr l⟩
 | .kls ws,_,h,l=>by
  rw[Bk]at h|-
  rw[Lo]at l;obtain⟨p,xs,e1,hs,hr⟩:=h;exact⟨p,xs,e1,hs,aV.cut hr l⟩
 | .loc n,_,h,l=>by
  rw[Bk]at h|-
  rw[Lo]at l;obtain⟨p,e1,hm⟩:=h;refine⟨p,e1,?_⟩;show(if n<k then μ.f n else JI)=Go p;rw[if_pos l];exact hm
theorem aV.cut {k:Nat}:∀{ws:List W}{xs:List V},aV K H μ ws xs->MH k ws->aV K H (μ.cut k) ws xs
 | [],_,h,_=>by rw[aV]at h|-;exact h
 | w::ws,_,h,l=>by
  rw[aV]at h|-
  rw[MH]at l;obtain⟨v,vs,e1,r,h⟩:=h;exact⟨v,vs,e1,Bk.cut r l.1,aV.cut h l.2⟩
end
end
variable {ws:List W}{μ' μ1:Mu}
section
variable {K:Az}{H H' H1 H2:Hp}{μ2:Mu}{h h':Gh}{w:W}{v:V}{xs ys:List V}{p:Addr}
abbrev Mu.hide (μ:Mu)(p:Addr):Mu:=⟨μ.f,λq=>q=p\/μ.hid q⟩
abbrev Mu.unhide (μ:Mu)(p:Addr):Mu:=⟨μ.f,λq=>q≠p/\μ.hid q⟩
structure aad (p:Addr) (K:Az) (H:Hp) (μ:Mu) (H':Hp) (μ':Mu):Prop where
 r:∀w v,Bk K H μ w v->Bk K H' μ' w v
 o:∀q u,q≠p->μ.hid q->H q=Go u->μ'.hid q/\H' q=Go u
def Ib.x (a:Ib K H μ H1 μ1)(O:¬μ.hid p)(b:aad p K H1 μ1 H2 μ2):Ib K H μ H2 μ2:=
 ⟨λw v z=>b.r w v (a.r w v z),λq u z e=>let⟨J,e1⟩:=a.o q u z e;b.o q u (λy=>O (y ▸ z)) J e1⟩
def Ib.hide {o}(J:H p=JI):Ib K H μ (Cu H p o) (μ.hide p):=Ex.ext {
 t:=λq xs z=>(Ex.laid (μ:=μ) J).t q xs z
 l:=λq xs z=>by
  have O:=aQ z.1 J;refine⟨aN O ▸ z.1,z.2.1,λy=>?_⟩;rcases y with y|y
  exact O y;exact z.2.2 y
 k:=λq xs z=>(Ex.laid (μ:=μ) J).k q xs z
 m:=λ_ _ e=>e
 x:=λq o' u e=>aN (aQ e J) ▸ e
 y:=λq fs e=>aN (aQ e J) ▸ e
 o:=λq u z e=>⟨.inr z,aN (aQ e J) ▸ e⟩}
def G3.nohid (R:G3 K μ H h)(J:H p=JI):¬μ.hid p:=λz=>by
 obtain⟨⟨xs,e⟩,_⟩:=R.hd p z;simp_all
def G3.hide (R:G3 K μ H h)(J:H p=JI):G3 K (μ.hide p) (Cu H p (.lst xs)) h where
 inj:=R.inj
 dom:=R.dom
 trk:=(R.laid J).trk
 cel:=λn c e=>by
  obtain⟨q,e1,x⟩:=R.cel n c e;have:=R.trk n q e1
  exact⟨q,e1,x.ext (Ib.hide J)<|aN (λz=>by subst z;rw[J]at this;exact this)⟩
 hd:=λq z=>by
  rcases z with z|z
  subst z;refine⟨⟨xs,aU⟩,λn e=>?_⟩;have:=R.trk n q e
  rwa[J]at this
  exact(R.laid J).hd q z
def Ex0.grow (R:G3 K μ H h)(O:μ.hid p):Ex0 K H μ (Cu H p (.lst ys)) μ where
 t:=λq xs z=>by
  rcases z with z|z
  refine .inl ?_;unfold Rd;rw[aN (λy=>?_)];exact z;subst y;obtain⟨⟨J,e⟩,_⟩:=R.hd q O;rcases z with r|⟨_,r⟩<;>rw[e]at r<;>cases r
  exact .inr z
 l:=λq xs z=>⟨by rw[aN (λy=>z.2.2 (by rwa[y]))];exact z.1,z.2⟩
 k:=λq xs z=>by
  rcases z with⟨o',z⟩|z
  refine .inl ⟨o',?_⟩;rw[aN (λy=>?_)];exact z;subst y;obtain⟨⟨J,e⟩,_⟩:=R.hd q O;simp_all
  exact .inr z
 m:=λ_ _ e=>e
 x:=λq o' u e=>by
  rw[aN (λy=>?_)];exact e;subst y;obtain⟨⟨J,e'⟩,_⟩:=R.hd q O;simp_all
 y:=λq fs e=>by
  rw[aN (λy=>?_)];exact e;subst y;obtain⟨⟨J,e'⟩,_⟩:=R.hd q O;simp_all
def aad.grow (R:G3 K μ H h)(O:μ.hid p):aad p K H μ (Cu H p (.lst ys)) μ:=
 ⟨λ_ _ z=>Bk.ex (Ex0.grow R O) z,λq u J z e=>⟨z,aN J ▸ e⟩⟩
def G3.grow (R:G3 K μ H h)(J:μ.hid p):G3 K μ (Cu H p (.lst ys)) h where
 inj:=R.inj
 dom:=R.dom
 trk:=λn q e=>by
  have O:q≠p:=λz=>(R.hd p J).2 n (z ▸ e)
  rw[aN O];exact R.trk n q e
 cel:=λn c e=>by
  obtain⟨q,e1,x⟩:=R.cel n c e;have O:q≠p:=λz=>(R.hd p J).2 n (z ▸ e1)
  refine⟨q,e1,?_⟩;cases c with
  | lst ws=>obtain⟨xs,a,b⟩:=x;exact⟨xs,(aN O).trans a,aV.ex (Ex0.grow R J) b⟩
  | obj C fs=>obtain⟨dx,fvs,a,b⟩:=x;exact⟨dx,fvs,(aN O).trans a,Paired.mapP b λ_ _ z=>⟨z.1,Bk.ex (Ex0.grow R J) z.2⟩⟩
  | dct kvs=>obtain⟨kvv,a,b⟩:=x;exact⟨kvv,(aN O).trans a,Paired.mapP b λ_ _ z=>⟨z.1,Bk.ex (Ex0.grow R J) z.2⟩⟩
  | dtt kvs=>obtain⟨xs,vs,a,b,c,d,f⟩:=x;exact⟨xs,vs,(aN O).trans a,b,c,aV.ex (Ex0.grow R J) d,aV.ex (Ex0.grow R J) f⟩
 hd:=λq z=>by
  by_cases e:q=p
  subst e;exact⟨⟨ys,aU⟩,(R.hd q J).2⟩;rw[aN e];exact R.hd q z
def Ex0.unhide:Ex0 K H μ H (μ.unhide p) where
 t:=λ_ _ z=>z
 l:=λq xs z=>⟨z.1,z.2.1,λy=>z.2.2 y.2⟩
 k:=λ_ _ z=>z
 m:=λ_ _ e=>e
 x:=λ_ _ _ e=>e
 y:=λ_ _ e=>e
def aad.unhide:aad p K H μ H (μ.unhide p):=⟨λ_ _ z=>Bk.ex Ex0.unhide z,λq u J z e=>⟨⟨J,z⟩,e⟩⟩
def G3.unhide (R:G3 K μ H h):G3 K (μ.unhide p) H h where
 inj:=R.inj
 dom:=R.dom
 trk:=R.trk
 cel:=λn c e=>by
  obtain⟨q,e1,x⟩:=R.cel n c e;refine⟨q,e1,?_⟩;cases c with
  | lst ws=>obtain⟨xs,a,b⟩:=x;exact⟨xs,a,aV.ex Ex0.unhide b⟩
  | obj C fs=>obtain⟨dx,fvs,a,b⟩:=x;exact⟨dx,fvs,a,Paired.mapP b λ_ _ z=>⟨z.1,Bk.ex Ex0.unhide z.2⟩⟩
  | dct kvs=>obtain⟨kvv,a,b⟩:=x;exact⟨kvv,a,Paired.mapP b λ_ _ z=>⟨z.1,Bk.ex Ex0.unhide z.2⟩⟩
  | dtt kvs=>obtain⟨xs,vs,a,b,c,d,f⟩:=x;exact⟨xs,vs,a,b,c,aV.ex Ex0.unhide d,aV.ex Ex0.unhide f⟩
 hd:=λq z=>R.hd q z.2
def Bk.built (R:G3 K μ H h)(J:μ.hid p)(e:H p=Go (.lst xs))(r:aV K H μ ws xs):Bk K H (μ.unhide p) (.lst ws) (.ref p):=⟨p,xs,rfl,⟨e,(R.hd p J).2,λz=>z.1 rfl⟩,aV.ex Ex0.unhide r⟩
end
@[reducible]noncomputable def Sw:=List (Option W)
@[reducible]noncomputable def WK:=W->Gh->Prop
@[reducible]noncomputable def ME:=Sw->Gh->WK->Prop
@[reducible]noncomputable def MT:=Sw->Gh->(Bool->Gh->Prop)->Prop
@[reducible]noncomputable def MA:=Sw->Gh->(List W->Gh->Prop)->Prop
structure bN where
 nx:Sw->Gh->Prop
 rt:WK
 bk:Sw->Gh->Prop:=λ_ _=>False
 ct:Sw->Gh->Prop:=λ_ _=>False
@[reducible]noncomputable def MS:=bN->Sw->Gh->Prop
@[reducible]noncomputable def MG:=W->Sw->Gh->(Sw->Gh->Prop)->Prop
@[reducible]noncomputable def RX:=List W->Sw->Gh->(Sw->Gh->Prop)->Prop
structure Xw where
 cls:Str
 fs:List (Str×W)
@[reducible]noncomputable def Bt:=Xw->Gh->Prop
@[reducible]noncomputable def Aq:=List W->Gh->WK->Bt->Prop
abbrev EF:Bt:=λ_ _=>False
structure Slots (K:Az) (H:Hp) (μ:Mu) (σw:Sw) (σ:St):Prop where
 len:σw.length=σ.length
 get:∀(i:Nat) (w:W),σw[i]?=Go (Go w)->∃v,σ[i]?=Go (Go v)/\Bk K H μ w v
inductive DQ (K:Az) (H:Hp) (μ:Mu) (Q:WK) (v:V) (H':Hp):Prop where
 | mk (μ':Mu) (w:W) (h':Gh) (e:Ib K H μ H' μ') (R:G3 K μ' H' h') (r:Bk K H' μ' w v) (q:Q w h'):DQ K H μ Q v H'
inductive DB (K:Az) (H:Hp) (μ:Mu) (Q:Bool->Gh->Prop) (b:Bool) (H':Hp):Prop where
 | mk (μ':Mu) (h':Gh) (e:Ib K H μ H' μ') (R:G3 K μ' H' h') (q:Q b h'):DB K H μ Q b H'
inductive DA (K:Az) (H:Hp) (μ:Mu) (Q:List W->Gh->Prop) (vs:List V) (H':Hp):Prop where
 | mk (μ':Mu) (ws:List W) (h':Gh) (e:Ib K H μ H' μ') (R:G3 K μ' H' h') (r:aV K H' μ' ws vs) (q:Q ws h'):DA K H μ Q vs H'
inductive DN (K:Az) (H:Hp) (μ:Mu) (N:Sw->Gh->Prop) (σ':St) (H':Hp):Prop where
 | mk (μ':Mu) (σw':Sw) (h':Gh) (e:Ib K H μ H' μ') (R:G3 K μ' H' h') (S:Slots K H' μ' σw' σ') (q:N σw' h'):DN K H μ N σ' H'
section
variable {K:Az}{H H' H1 H2:Hp}{μ2:Mu}{h h' h1:Gh}{w:W}{v:V}{σ:St}{σw:Sw}
def Slots.ext (S:Slots K H μ σw σ)(e:Ib K H μ H' μ'):Slots K H' μ' σw σ:=⟨S.len,λi w q=>let⟨v,a,b⟩:=S.get i w q;⟨v,a,e.r _ _ b⟩⟩
def Slots.set (S:Slots K H μ σw σ)(r:Bk K H μ w v)(i):Slots K H μ (σw.set i (Go w)) (σ.set i (Go v)):=by
 refine⟨by rw[Yk,Yk,S.len],λj u q=>?_⟩;rw[List.getElem?_set]at q|-
 by_cases J:i=j
 rw[if_pos J]at q|-
 by_cases O:i < σw.length
 rw[if_pos O]at q;rw[if_pos (S.len ▸ O)];simp_all
 simp_all
 rw[if_neg J]at q|-
 exact S.get j u q
def DQ.trans {Q}(e:Ib K H μ H1 μ1)(q:DQ K H1 μ1 Q v H'):DQ K H μ Q v H':=let⟨μ',w,h',a,b,c,d⟩:=q;⟨μ',w,h',e.trans a,b,c,d⟩
def DB.trans {Q b}(e:Ib K H μ H1 μ1)(q:DB K H1 μ1 Q b H'):DB K H μ Q b H':=let⟨μ',h',a,b,c⟩:=q;⟨μ',h',e.trans a,b,c⟩
def DN.trans {N σ'}(e:Ib K H μ H1 μ1)(q:DN K H1 μ1 N σ' H'):DN K H μ N σ' H':=let⟨μ',w,h',a,b,c,d⟩:=q;⟨μ',w,h',e.trans a,b,c,d⟩
end
variable {σw:Sw}
inductive tD (K:Az) (m:ME) (σ:St) (H:Hp) (Q:VK):Prop where
 | mk (μ:Mu) (h:Gh) (σw:Sw) (Qw:WK) (R:G3 K μ H h) (S:Slots K H μ σw σ) (x:m σw h Qw) (k:∀v H',DQ K H μ Qw v H'->Q v H'):tD K m σ H Q
inductive tDT (K:Az) (m:MT) (σ:St) (H:Hp) (Q:Bool->Hp->Prop):Prop where
 | mk (μ:Mu) (h:Gh) (σw:Sw) (Qw:Bool->Gh->Prop) (R:G3 K μ H h) (S:Slots K H μ σw σ) (x:m σw h Qw) (k:∀b H',DB K H μ Qw b H'->Q b H'):tDT K m σ H Q
inductive tDA (K:Az) (m:MA) (σ:St) (H:Hp) (Q:List V->Hp->Prop):Prop where
 | mk (μ:Mu) (h:Gh) (σw:Sw) (Qw:List W->Gh->Prop) (R:G3 K μ H h) (S:Slots K H μ σw σ) (x:m σw h Qw) (k:∀vs H',DA K H μ Qw vs H'->Q vs H'):tDA K m σ H Q
inductive tDG (K:Az) (g:MG) (v:V) (σ:St) (H:Hp) (N:St->Hp->Prop):Prop where
 | mk (μ:Mu) (h:Gh) (σw:Sw) (w:W) (Nw:Sw->Gh->Prop) (R:G3 K μ H h) (S:Slots K H μ σw σ) (r:Bk K H μ w v) (x:g w σw h Nw) (k:∀σ' H',DN K H μ Nw σ' H'->N σ' H'):tDG K g v σ H N
inductive afE (K:Az) (g:RX) (vs:List V) (σ:St) (H:Hp) (N:St->Hp->Prop):Prop where
 | mk (μ:Mu) (h:Gh) (σw:Sw) (ws:List W) (Nw:Sw->Gh->Prop) (R:G3 K μ H h) (S:Slots K H μ σw σ) (r:aV K H μ ws vs) (x:g ws σw h Nw) (k:∀σ' H',DN K H μ Nw σ' H'->N σ' H'):afE K g vs σ H N
structure zE (K:Az) (H:Hp) (μ:Mu) (Dw:bN) (D:Ends):Prop where
 nx:∀σ' H',DN K H μ Dw.nx σ' H'->D.nx σ' H'
 rt:∀v H',DQ K H μ Dw.rt v H'->D.rt v H'
 bk:∀σ' H',DN K H μ Dw.bk σ' H'->D.bk σ' H'
 ct:∀σ' H',DN K H μ Dw.ct σ' H'->D.ct σ' H'
inductive tDS (K:Az) (m:MS) (D:Ends) (σ:St) (H:Hp):Prop where
 | mk (μ:Mu) (h:Gh) (σw:Sw) (Dw:bN) (R:G3 K μ H h) (S:Slots K H μ σw σ) (x:m Dw σw h) (k:zE K H μ Dw D):tDS K m D σ H
def zE.trans {K:Az}{H H1:Hp}{μ μ1:Mu}{Dw:bN}{D:Ends}(k:zE K H μ Dw D)(e:Ib K H μ H1 μ1):zE K H1 μ1 Dw D:=
 ⟨λ_ _ q=>k.nx _ _ (q.trans e),λ_ _ q=>k.rt _ _ (q.trans e),λ_ _ q=>k.bk _ _ (q.trans e),λ_ _ q=>k.ct _ _ (q.trans e)⟩
section
variable {X:Cx}{e:Expr}{es:List Expr}{st:Stmt}{sts:List Stmt}
def PE.of {t t'}(h:PE X e t)(k:∀σ H Q,t' σ H Q->t σ H Q):PE X e t':=λanq s σ H Q I q=>h anq s σ H Q I (k σ H Q q)
def PT.of {t t'}(h:PT X e t)(k:∀σ H Q,t' σ H Q->t σ H Q):PT X e t':=λanq s σ H Q I q=>h anq s σ H Q I (k σ H Q q)
def PW.of {t t'}(h:PW X e t)(k:∀σ H Q,t' σ H Q->t σ H Q):PW X e t':=λwh anq s σ H Q I q=>h wh anq s σ H Q I (k σ H Q q)
def PA.of {t t'}(h:PA X es t)(k:∀σ H Q,t' σ H Q->t σ H Q):PA X es t':=λpos anq s σ H Q I q=>h pos anq s σ H Q I (k σ H Q q)
def PG.of {t t'}(h:PG X e t)(k:∀v σ H Q,t' v σ H Q->t v σ H Q):PG X e t':=λanq s σ H v u Q I r q=>h anq s σ H v u Q I r (k v σ H Q q)
def WM.of {t t':VF}(h:WM X es t)(k:∀v σ H Q,t' v σ H Q->t v σ H Q):WM X es t':=λanq s σ H v u Q I r q=>h anq s σ H v u Q I r (k v σ H Q q)
def PS.of {t t'}(h:PS X st t)(k:∀D σ H,t' D σ H->t D σ H):PS X st t':=λanq s σ H D I q=>h anq s σ H D I (k D σ H q)
def Py.of {t t'}(h:Py X sts t)(k:∀D σ H,t' D σ H->t D σ H):Py X sts t':=λanq s σ H D I q=>h anq s σ H D I (k D σ H q)
end
@[reducible]noncomputable def DE (X:Cx)(e:Expr)(m:ME):Prop:=PE X e (tD X.K m)
@[reducible]noncomputable def DT (X:Cx)(e:Expr)(m:MT):Prop:=PT X e (tDT X.K m)
@[reducible]noncomputable def DWt (X:Cx)(e:Expr)(m:MT):Prop:=PW X e (tDT X.K m)
@[reducible]noncomputable def LR (X:Cx)(es:List Expr)(m:MA):Prop:=PA X es (tDA X.K m)
@[reducible]noncomputable def DG (X:Cx)(e:Expr)(m:MG):Prop:=PG X e (tDG X.K m)
@[reducible]noncomputable def adJ (X:Cx)(es:List Expr)(m:RX):Prop:=WM X es (afE X.K m)
@[reducible]noncomputable def DS (X:Cx)(st:Stmt)(m:MS):Prop:=PS X st (tDS X.K m)
@[reducible]noncomputable def Sx (X:Cx)(st:List Stmt)(m:MS):Prop:=Py X st (tDS X.K m)
section
variable {X:Cx}{e a b c:Expr}{ma mb mc:ME}{pos:Pos}
abbrev aA (i:Nat):ME:=fun σ h Q=>match σ[i]? with
 | some (Go w)=>Q w h
 | _=>False
abbrev mC (w:W):ME:=λ_ h Q=>Q w h
def dv (i:Nat)(J:PE X e (ac6 i)):DE X e (aA i):=J.of fun σ H Q a=>by
 obtain⟨μ,h,σw,O,R,S,m,k⟩:=a;unfold aA at m;cases q:σw[i]? with
 | none=>rw[q]at m;exact m.elim
 | some o=>
  rw[q]at m;cases o with
  | none=>cases m
  | some w=>
   obtain⟨v,h1,h2⟩:=S.get i w q;exact⟨v,h1,k _ _ ⟨μ,w,h,.refl,R,h2,m⟩⟩
def dc {w v}(J:PE X e (tC v))(r:∀H μ,Bk X.K H μ w v):DE X e (mC w):=J.of fun σ H Q a=>by obtain⟨μ,h,σw,O,R,S,m,k⟩:=a;exact k _ _ ⟨μ,w,h,.refl,R,r H μ,m⟩
def aD {i}{j pos}:DE X (.Constant (.int i) j pos) (mC (.int i)):=dc adl λ_ _=>by rw[Bk]
def K8 {j pos}:DE X (.Constant .none j pos) (mC .non):=dc acq λ_ _=>by rw[Bk]
def aR {i}{j pos}:DE X (.Constant (.str i) j pos) (mC (.str i)):=dc Uu λ_ _=>by rw[Bk]
@[reducible]noncomputable def M2:=W->W->Gh->WK->Prop
abbrev Ah (r:M2)(ma mb:ME):ME:=fun σ h Q=>ma σ h λx h1=>mb σ h1 λy h2=>r x y h2 Q
abbrev afN (K:Az)(r:R2)(mr:M2):Prop:=∀{H:Hp}{μ:Mu}{h:Gh}{x y:V}{O J:W}{S:WK}{Q:VK},G3 K μ H h->Bk K H μ O x->Bk K H μ J y->mr O J h S ->
 (∀v H',DQ K H μ S v H'->Q v H')->r x y H Q
def two {K:Az}{σ:St}{H:Hp}{Q:VK}{mr:M2}{J:V->V->Hp->Prop}(h:tD K (Ah mr ma mb) σ H Q)
  (k:∀{H2:Hp}{μ2:Mu}{h2:Gh}{x y:V}{U O:W}{Y:WK},G3 K μ2 H2 h2->Bk K H2 μ2 U x->Bk K H2 μ2 O y->mr U O h2 Y->(∀v H',DQ K H2 μ2 Y v H'->Q v H')->J x y H2) :
  tD K ma σ H λx H1=>tD K mb σ H1 λy H2=>J x y H2:=by
 obtain⟨μ,g,σw,Y,R,S,m,q⟩:=h;exact⟨μ,g,σw,_,R,S,m,λx H1 d=>by obtain⟨μ1,U,h1,e1,c,b,m1⟩:=d;exact ⟨μ1,h1,σw,_,c,S.ext e1,m1,λy H2 e=>by obtain⟨μ2,O,h2,e2,R2,a,m2⟩:=e;exact (k R2 (e2.r _ _ b) a m2 λv H' z=>q _ _<|(z.trans e2).trans e1)⟩⟩
abbrev O7 (X:Cx)(f:Mk->Mk->Sem Mk)(mr:M2):Prop:=∃r,KN X f r/\afN X.K r mr
def bY {J mr}(U:O7 X (Nx J) mr)(c:DE X a ma)(Y:DE X b mb):DE X (.BinOp a J b pos) (Ah mr ma mb):=by
 obtain⟨r,o,s⟩:=U;exact(adR o c Y).of fun σ H Q h=>two h λR S O m k=>s R S O m k
def aee {J mr}(U:O7 X (N8 J) mr)(d:DE X a ma)(c:DE X b mb)(Y:XR J b=false):DE X (.Compare a [J] [b] pos) (Ah mr ma mb):=by
 obtain⟨r,o,s⟩:=U;exact(alU o d c Y).of fun σ H Q h=>two h λR S O m k=>s R S O m k
abbrev bQ (m:ME):MT:=fun σ h Q=>m σ h λw h1=>match w with
 | .bl c=>Q c h1
 | _=>False
def akA {K σ H m}{Q}(h:tDT K (bQ m) σ H Q):tD K m σ H λx H'=>∃k,x=.bl k/\Q k H':=by
 obtain⟨μ,g,σw,Y,R,S,O,q⟩:=h;refine⟨μ,g,σw,_,R,S,O,λv H' a=>?_⟩;obtain⟨μ1,w,h1,e1,U,J,m1⟩:=a;cases w with
 | bl c=>rw[Bk]at J;exact⟨c,J,q _ _ ⟨μ1,h1,e1,U,m1⟩⟩
 | _=>exact m1.elim
def aaS {J mr}(U:O7 X (N8 J) mr)(d:DE X a ma)(c:DE X b mb)(Y:XR J b=false):DT X (.Compare a [J] [b] pos) (bQ (Ah mr ma mb)):=by
 obtain⟨r,o,s⟩:=U;exact(ajQ o d c Y).of fun σ H Q h=>two (akA h) λR S O m k=>s R S O m k
abbrev JC (c:Bool)(a b:Prop):Prop:=match c with
 | true=>a
 | false=>b
abbrev br (c:Bool)(a b:Prop):Prop:=(c=true->a)/\(c=false->b)
def tU {c}{a b}(e:c=true)(x:a):br c a b:=⟨λ_=>x,λz=>by rw[e]at z;cases z⟩
def nA {c}{a b}(e:c=false)(x:b):br c a b:=⟨λz=>(by rw[e]at z;cases z),λ_=>x⟩
def sZ {c}[Decidable c]{a b}(x:c->a)(y:¬c->b):br (decide c) a b:=⟨λe=>x (of_decide_eq_true e),λe=>y (of_decide_eq_false e)⟩
abbrev adu (t u:MT):MT:=fun σ h Q=>t σ h λc h1=>br c (u σ h1 Q) (Q false h1)
abbrev Vs (t u:MT):MT:=fun σ h Q=>t σ h λc h1=>br c (Q true h1) (u σ h1 Q)
abbrev aah (t:MT):MT:=fun σ h Q=>t σ h λc h1=>Q (!c) h1
variable {tA tB':MT}{rest:List Expr}
def Ay (J:DT X a tA):DWt X (.BoolOp .And [a] pos) tA:=akZ J
def yh (J:DT X a tA):DWt X (.BoolOp .Or [a] pos) tA:=abP J
def KY (U:DT X a tA)(O:DWt X (.BoolOp .And (b::rest) pos) tB'):DWt X (.BoolOp .And (a::b::rest) pos) (adu tA tB'):=(abM U O).of fun σ H Q e=>by
 obtain⟨μ,g,σw,Y,R,S,m,q⟩:=e;refine⟨μ,g,σw,_,R,S,m,λc H1 d=>?_⟩;obtain⟨μ1,h1,e1,J,m1⟩:=d;cases c with
 | true=>
  exact⟨μ1,h1,σw,_,J,S.ext e1,m1.1 rfl,λb H' z=>q _ _<|z.trans e1⟩
 | false=>
  exact q _ _ ⟨μ1,h1,e1,J,m1.2 rfl⟩
def G9 (U:DT X a tA)(O:DWt X (.BoolOp .Or (b::rest) pos) tB'):DWt X (.BoolOp .Or (a::b::rest) pos) (Vs tA tB'):=(aeT U O).of fun σ H Q e=>by
 obtain⟨μ,g,σw,Y,R,S,m,q⟩:=e;refine⟨μ,g,σw,_,R,S,m,λc H1 d=>?_⟩;obtain⟨μ1,h1,e1,J,m1⟩:=d;cases c with
 | true=>
  exact q _ _ ⟨μ1,h1,e1,J,m1.1 rfl⟩
 | false=>
  exact⟨μ1,h1,σw,_,J,S.ext e1,m1.2 rfl,λb H' z=>q _ _<|z.trans e1⟩
def Dk (J:DT X a tA):DT X (.UnaryOp .Not a pos) (aah tA):=(aa0 J).of fun σ H Q ⟨μ,g,σw,U,R,S,m,q⟩=>
 ⟨μ,g,σw,_,R,S,m,λc H1 b=>by obtain⟨μ1,h1,e1,O,m1⟩:=b;exact q _ _ ⟨μ1,h1,e1,O,m1⟩⟩
abbrev Rz (a b:ME):ME:=fun σ h Q=>a σ h λx h1=>match x with
 | .bl true=>b σ h1 Q
 | .bl false=>Q (.bl false) h1
 | _=>False
def aep {J}(h:DE X a ma):DE X (.BoolOp J [a] pos) ma:=abt h
def ad3 (Y:DE X a ma)(U:DE X (.BoolOp .And (b::rest) pos) mb):DE X (.BoolOp .And (a::b::rest) pos) (Rz ma mb):=(aam Y U).of fun σ H Q f=>by
 obtain⟨μ,g,σw,d,R,S,m,q⟩:=f;refine⟨μ,g,σw,_,R,S,m,λv H1 e=>?_⟩;obtain⟨μ1,w,h1,e1,J,O,m1⟩:=e;cases w with
 | bl c=>
  refine⟨c,O,?_⟩;cases c with
  | true=>rw[if_pos rfl];exact⟨μ1,h1,σw,_,J,S.ext e1,m1,λb H' z=>q _ _ (z.trans e1)⟩
  | false=>rw[if_neg RM];exact q _ _ ⟨μ1,.bl false,h1,e1,J,by rw[Bk],m1⟩
 | _=>exact m1.elim
abbrev mIf (t:MT)(a b:ME):ME:=fun σ h Q=>t σ h λc h1=>br c (a σ h1 Q) (b σ h1 Q)
def afp (O:DT X c tA)(Y:DE X a ma)(U:DE X b mb):DE X (.IfExp c a b pos) (mIf tA ma mb):=(aio O Y U).of fun σ H Q f=>by
 obtain⟨μ,g,σw,d,R,S,m,q⟩:=f;refine⟨μ,g,σw,_,R,S,m,λc H1 e=>?_⟩;obtain⟨μ1,h1,e1,J,m1⟩:=e;cases c with
 | true=>
  exact⟨μ1,h1,σw,_,J,S.ext e1,m1.1 rfl,λb H' z=>q _ _<|z.trans e1⟩
 | false=>
  exact⟨μ1,h1,σw,_,J,S.ext e1,m1.2 rfl,λb H' z=>q _ _<|z.trans e1⟩
abbrev mUn (r:W->Gh->WK->Prop)(a:ME):ME:=fun σ h Q=>a σ h λx h1=>r x h1 Q
abbrev YX:W->Gh->WK->Prop:=λx h Q=>match x with
 | .int i=>Q (.int (-i)) h
 | _=>False
def N5 (O:DE X a ma):DE X (.UnaryOp .USub a pos) (mUn YX ma):=(ae3 abu O).of fun σ H Q c=>by
 obtain⟨μ,g,σw,Y,R,S,m,q⟩:=c;refine⟨μ,g,σw,_,R,S,m,λv H1 b=>?_⟩;obtain⟨μ1,w,h1,e1,U,J,m1⟩:=b;cases w with
 | int i=>rw[Bk]at J;exact⟨i,J,q _ _ ⟨μ1,.int (-i),h1,e1,U,by rw[Bk],m1⟩⟩
 | _=>exact m1.elim
abbrev aG:MA:=λ_ h Q=>Q [] h
abbrev aj (a:ME)(r:MA):MA:=fun σ h Q=>a σ h λx h1=>r σ h1 λxs h2=>Q (x::xs) h2
variable {es:List Expr}{mr:MA}
def cX:LR X [] aG:=Ep.of fun σ H Q a=>by obtain⟨μ,g,σw,J,R,S,m,q⟩:=a;exact q _ _ ⟨μ,[],g,.refl,R,.nil,m⟩
def fL (ha:DE X e ma)(hr:LR X es mr)(hs:autoParam (Ck (e::es) X.env=(false,eval e X.env)::Ck es X.env) aPq._auto_1):LR X (e::es) (aj ma mr):=(nZ ha hr hs).of fun σ H Q a=>by obtain⟨μ,g,σw,Qw,R,S,m,q⟩:=a;exact ⟨μ,g,σw,_,R,S,m,λv H1 b=>by obtain⟨μ1,w,h1,e1,R1,r1,m1⟩:=b;exact ⟨μ1,h1,σw,_,R1,S.ext e1,m1,λvs H2 c=>by obtain⟨μ2,ws,h2,e2,R2,r2,m2⟩:=c;exact (q _ _ ⟨μ2,w::ws,h2,e1.trans e2,R2,.cons (e2.r _ _ r1) r2,m2⟩)⟩⟩
abbrev fG (n:Nat)(P:Prop):Prop:=JC (Vx n 1000) P (n<=HB/\P)
def fG.ok {n}{P}(h:fG n P):n<=HB/\P:=by
 unfold fG at h;cases e:Vx n 1000 with
 | true=>rw[e]at h;exact⟨HW (Ow e) (by decide),h⟩
 | false=>rw[e]at h;exact h
def fG.mk {n}{P}(J:n<=HB)(h:P):fG n P:=by
 unfold fG;cases e:Vx n 1000 with
 | true=>exact h
 | false=>exact⟨J,h⟩
abbrev cO (t:MA):ME:=fun σ h Q=>t σ h λws h1=>fG ws.length (Q (.tup ws) h1)
abbrev j6 (t:MA):ME:=fun σ h Q=>t σ h λws h1=>fG ws.length (Q (.lst ws) h1)
abbrev jX (t:MA):ME:=fun σ h Q=>t σ h λws h1=>fG ws.length (Q (.loc h1.nx) (h1.new (.lst ws)))
def bD {Y}(h:LR X es mr):DE X (.Tuple es Y pos) (cO mr):=(T7 h).of fun σ H Q ⟨μ,g,σw,b,R,S,m,q⟩=>
 ⟨μ,g,σw,_,R,S,m,λvs H1 c=>by obtain⟨μ1,ws,h1,e1,a,U,O⟩:=c;exact ⟨U.len ▸ O.ok.1,λp J=>q _ _ ⟨μ1,.tup ws,h1,e1.trans (Ex.laid J).ext,a.laid J,.tupNew J U,O.ok.2⟩⟩⟩
def dX (h:LR X es mr):DE X (.List es pos) (j6 mr):=(Vi h).of fun σ H Q ⟨μ,g,σw,a,R,S,m,q⟩=>
 ⟨μ,g,σw,_,R,S,m,λvs H1 b=>by obtain⟨μ1,ws,h1,e1,Y,U,O⟩:=b;exact ⟨U.len ▸ O.ok.1,λp J=>q _ _ ⟨μ1,.lst ws,h1,e1.trans (Ex.laid J).ext,Y.laid J,.lstNew Y J U,O.ok.2⟩⟩⟩
def aaX {K H h}{p}{xs}(R:G3 K μ H h)(J:H p=JI)(r:aV K H μ ws xs):
  G3 K (μ.put h.nx p) (Cu H p (.lst xs)) (h.new (.lst ws)):=R.newCell J trivial ⟨xs,aU,(Ex.newCell R J).ext.s r⟩
def jm (h:LR X es mr):DE X (.List es pos) (jX mr):=(Vi h).of fun σ H Q ⟨μ,g,σw,a,R,S,m,q⟩=>
 ⟨μ,g,σw,_,R,S,m,λvs H1 b=>by obtain⟨μ1,ws,h1,e1,Y,O,J⟩:=b;exact ⟨O.len ▸ J.ok.1,λp U=>q _ _ ⟨μ1.put _ p,.loc _,h1.new _,e1.trans (Ex.newCell Y U).ext,aaX Y U O,⟨p,rfl,Mu.put_same⟩,J.ok.2⟩⟩⟩
inductive lift (K:Az) (ms:Aq) (vs:List V) (H:Hp) (Q:VK) (E:XK):Prop where
 | mk (μ:Mu) (h:Gh) (ws:List W) (Qw:WK) (R:G3 K μ H h) (r:aV K H μ ws vs) (x:ms ws h Qw EF) (k:∀v H',DQ K H μ Qw v H'->Q v H'):lift K ms vs H Q E
abbrev aJ (ms:Aq)(E:Bt)(ma:MA):ME:=fun σ h Q=>ma σ h λws h1=>ms ws h1 Q E
def call_of {K:Az}{σ:St}{H:Hp}{Q:VK}{E:XK}{ms:Aq}{ma:MA}(h:tD K (aJ ms EF ma) σ H Q):aa6 (lift K ms) [] E (tDA K ma) σ H Q:=by
 obtain⟨μ,g,σw,U,R,S,m,q⟩:=h;refine⟨μ,g,σw,_,R,S,m,λvs H1 a=>?_⟩;obtain⟨μ1,ws,h1,e1,O,J,m1⟩:=a;rw[Yj];exact⟨μ1,h1,ws,U,O,J,m1,λv H' z=>q _ _<|z.trans e1⟩
def ab0 {k}{f fd}{ps ms x p}(F:lJ X.prog X.w X.K X.mg X.base O8 k f fd ps (lift X.K ms))(hr:jj k X.A)(hg:Gl X x)(hm:X.mg x=Go (.ref f))(hk:RB X.K (.ref f)=true)
  (hb:Binds X.K fd ps []) (ha:LR X (e::es) mr) (hdb:autoParam ((x==("__debug__" : Str))=false) aPq._auto_2) (he:autoParam (Ck (e::es) X.env=(false,eval e X.env)::Ck es X.env) aPq._auto_1) (hpl:autoParam ((JD pos (Ck es X.env)).any (·.1)=false) aPq._auto_1) :
  DE X (.Call (.Name x p) (e::es) [] pos) (aJ ms EF mr):=(zbY F hr hg hm hk hb .nil ab9 ha hdb he hpl).of λ_ _ _ h=>call_of h
abbrev acf (h:Gh)(w:W):Option Bool:=match w with
 | .non=>Go false
 | .bl b=>Go b
 | .int i=>Go (i != 0)
 | .tup ws=>Go (!ws.isEmpty)
 | .lst ws=>Go (!ws.isEmpty)
 | .kls ws=>Go (!ws.isEmpty)
 | .loc n=>(match h.c n with
  | some (.lst ws)=>Go (!ws.isEmpty)
  | _=>JI)
 | _=>JI
abbrev Ds (m:ME):MT:=fun σ h Q=>m σ h λw h1=>match acf h1 w with
 | some b=>Q b h1
 | none=>False
def aV.emp {K H}{xs}(r:aV K H μ ws xs):ws.isEmpty=xs.isEmpty:=by
 have:=r.len
 cases ws<;>cases xs<;>first|rfl|cases this
def jG (he:DE X e ma)(h:autoParam (∀whole,isTrue e X.env whole=(do let v <-whole;standAt e.pos;Te [v] (truthy v))) aPq._auto_4):DT X e (Ds ma):=(DR he h).of fun σ H Q d=>by
 obtain⟨μ,g,σw,Qw,R,S,m,q⟩:=d;refine⟨μ,g,σw,_,R,S,m,λv H1 a=>?_⟩;obtain⟨μ1,w,h1,e1,R1,r1,m1⟩:=a;split at m1
 ·rename_i b eb;refine⟨b,?_,q _ _ ⟨μ1,h1,e1,R1,m1⟩⟩;cases w with
  | non|bl c|int c=>rw[Bk]at r1;subst r1;cases eb;rfl
  | tup ws=>
   obtain⟨p,xs,ev,hs,rs⟩:=r1;subst ev;cases eb;exact .inr<|.inl ⟨xs,hs,by rw[rs.emp]⟩
  | lst ws|kls ws=>
   obtain⟨p,xs,ev,hs,rs⟩:=r1;subst ev;cases eb;exact .inl ⟨xs,hs.sq,by rw[rs.emp]⟩
  | loc n=>
   obtain⟨p,ev,hm⟩:=r1;subst ev;unfold acf at eb;dsimp only at eb;cases ec:h1.c n with
   | none=>rw[ec]at eb;cases eb
   | some cl=>
    rw[ec]at eb;cases cl with
    | lst ws=>
     cases eb;obtain⟨p',hm',xs,hx,rs⟩:=R1.cel n _ ec;cases by rw[hm]at hm';exact(IV hm').symm
     exact .inl ⟨xs,.of hx,by rw[rs.emp]⟩
    | _=>cases eb
  | _=>cases eb
 cases m1
@[reducible]noncomputable def MC:=List W->Gh->WK->Prop
abbrev HN (r:MC)(ma:MA):ME:=fun σ h Q=>ma σ h λws h1=>r ws h1 Q
abbrev afA (K:Az)(r:List V->Hp->VK->Prop)(mr:MC):Prop:=∀{H:Hp}{μ:Mu}{h:Gh}{vs:List V}{ws:List W}{J:WK}{Q:VK},G3 K μ H h->aV K H μ ws vs->mr ws h J->(∀v H',DQ K H μ J v H'->Q v H')->r vs H Q
abbrev fK (X:Cx)(f:Mk)(mr:MC):Prop:=∃r,fj X f r/\afA X.K r mr
def abR {K σ H Q}{r mc ma}(s:afA K r mc)(h:tD K (HN mc ma) σ H Q):tCB r (tDA K ma) σ H Q:=by
 obtain⟨μ,g,σw,U,R,S,m,q⟩:=h;exact⟨μ,g,σw,_,R,S,m,λvs H1 a=>by obtain⟨μ1,ws,h1,e1,O,J,m1⟩:=a;exact s O J m1 λv H' z=>q _ _<|z.trans e1⟩
def akt {x p}{id mc}(hc:fK X (.builtin id) mc)(hg:Gl X x)(hm:X.mg x=JI)(hv:W4 x=Go (.builtin id))(ha:LR X (e::es) mr)(hn:autoParam (x ≠ "__name__") aPq._auto_2)(hdb:autoParam ((x==("__debug__" : Str))=false) aPq._auto_2)
  (he:autoParam (Ck (e::es) X.env=(false,eval e X.env)::Ck es X.env) aPq._auto_1) (hpl:autoParam ((JD pos (Ck es X.env)).any (·.1)=false) aPq._auto_1):DE X (.Call (.Name x p) (e::es) [] pos) (HN mc mr):=by
 obtain⟨r,c,s⟩:=hc;exact(wI c hg hm hv ha hn hdb he hpl).of λ_ _ _ h=>abR s h
def Gu {x p}{T mc}(hc:fK X (.type T) mc)(hg:Gl X x)(hm:X.mg x=JI)(hv:W4 x=Go (.type T))(ha:LR X (e::es) mr)(hn:autoParam (x ≠ "__name__") aPq._auto_2)(hdb:autoParam ((x==("__debug__" : Str))=false) aPq._auto_2)
  (he:autoParam (Ck (e::es) X.env=(false,eval e X.env)::Ck es X.env) aPq._auto_1) (hpl:autoParam ((JD pos (Ck es X.env)).any (·.1)=false) aPq._auto_1):DE X (.Call (.Name x p) (e::es) [] pos) (HN mc mr):=by
 obtain⟨r,c,s⟩:=hc;exact(aip c hg hm hv ha hn hdb he hpl).of λ_ _ _ h=>abR s h
end
variable {mr:MA}{ma:ME}{ms:Aq}
section
variable {X:Cx}{e a b c tg:Expr}{mb mc:ME}{pos:Pos}{es:List Expr}
abbrev kI (i:Nat):MG:=λw σ h N=>N (σ.set i (Go w)) h
def ajo {i}(J:PG X e (JG i)):DG X e (kI i):=J.of λv σ H N a=>by obtain⟨μ,h,σw,w,O,R,S,r,m,k⟩:=a;exact k _ _ ⟨μ,σw.set i _,h,.refl,R,S.set r i,m⟩
abbrev R9:RX:=λws σ h N=>match ws with
 | []=>N σ h
 | _=>False
abbrev jV (g:MG)(r:RX):RX:=λws σ h N=>match ws with
 | w::ws'=>g w σ h fun σ1 h1=>r ws' σ1 h1 N
 | []=>False
def n8:adJ X [] R9:=M9.of λvs σ H N a=>by
 obtain⟨μ,h,σw,ws,J,R,S,r,m,k⟩:=a;cases ws with
 | nil=>rw[aV]at r;exact⟨r,k _ _ ⟨μ,σw,h,.refl,R,S,m⟩⟩
 | cons w ws=>cases m
def dM {g u}(h1:DG X e g)(h2:adJ X es u)(hs:autoParam ((O4 (e::es) X.env).map (·.2)=assign e X.env::(O4 es X.env).map (·.2)) aPq._auto_1):adJ X (e::es) (jV g u):=(wO h1 h2 hs).of λvs σ H N a=>by
 obtain⟨μ,h,σw,ws,Nw,R,S,r,m,k⟩:=a;cases ws with
 | nil=>cases m
 | cons w ws=>
  obtain⟨v,vr,ev,r1,r2⟩:=r;exact⟨v,vr,ev,μ,h,σw,w,_,R,S,r1,m,fun σ1 H1 b=>by obtain⟨μ1,σw1,h1,e1,R1,S1,m1⟩:=b;exact ⟨μ1,h1,σw1,ws,_,R1,S1,e1.s r2,m1,fun σ2 H2 z=>k _ _<|z.trans e1⟩⟩
@[reducible]noncomputable def ZD:=W->W->W->Gh->(Gh->Prop)->Prop
abbrev Gp (K:Az)(t:Yw)(ms:ZD):Prop:=∀{H:Hp}{μ:Mu}{h:Gh}{o i v:V}{wo wi w:W}{J:Gh->Prop}{N:Hp->Prop},G3 K μ H h->Bk K H μ wo o->Bk K H μ wi i->Bk K H μ w v->ms wo wi w h J ->
 (∀H',(∃μ' h',Ib K H μ H' μ'/\G3 K μ' H' h'/\J h')->N H')->t o i v H N
abbrev Pj (mo mi:ME)(ms:ZD):MG:=λw σ h N=>mo σ h λo h1=>mi σ h1 λi h2=>ms o i w h2 λh3=>N σ h3
def oW {o i mo mi t}{ms}(ho:DE X o mo)(hi:DE X i mi)(hs:acA X t)(hm:Gp X.K t ms)
  (ha:autoParam (∀v,assign (.Subscript o i pos) X.env v=(do
   let ov <-Te [v] (eval o X.env)
   let iv <-Te [v,ov] (eval i X.env)
   standAt pos
   Te [v,ov,iv] (setItem ov iv v)
   release [v,ov,iv] [])) aPq._auto_4):DG X (.Subscript o i pos) (Pj mo mi ms):=
 (aaj ho hi hs ha).of λv σ H N a=>by obtain⟨μ,h,σw,w,Nw,R,S,r,m,k⟩:=a;exact ⟨μ,h,σw,_,R,S,m,λo H1 b=>by obtain⟨μ1,wo,h1,e1,R1,r1,m1⟩:=b;exact ⟨μ1,h1,σw,_,R1,S.ext e1,m1,λi H2 c=>by obtain⟨μ2,wi,h2,e2,R2,r2,m2⟩:=c;exact (hm R2 (e2.r _ _ r1) r2 (e2.r _ _ (e1.r _ _ r)) m2 λH3 d=>by obtain⟨μ3,h3,e3,R3,m3⟩:=d;exact (k _ _ ⟨μ3,σw,h3,(e1.trans e2).trans e3,R3,S.ext ((e1.trans e2).trans e3),m3⟩))⟩⟩
abbrev Qx:ZD:=λo i w h N=>match o,i with
 | .loc n,.int k=>(match h.c n with
  | some (.lst ws)=>(match Qt ws.length k with
   | some j=>N (h.set n (.lst (ws.set j w)))
   | none=>False)
  | _=>False)
 | _,_=>False
def G3.lstAt {K H h}{n}(R:G3 K μ H h)(e:h.c n=Go (.lst ws)):∃p xs,μ.f n=Go p/\H p=Go (.lst xs)/\aV K H μ ws xs:=by
 obtain⟨p,e1,xs,e2,r⟩:=R.cel n _ e;simp_all
def GJ {K}:Gp K aaI Qx:=by
 intro H μ h o i v wo wi w e N R Y a r m k;cases wo with
 | loc n=>
  cases wi with
  | int z=>
   obtain⟨p,c,O⟩:=Y;unfold Qx at m;dsimp only at m;cases U:h.c n with
   | none=>rw[U]at m;cases m
   | some d=>
    rw[U]at m;cases d with
    | lst ws=>
     dsimp only at m;obtain⟨p',xs,J,b,rs⟩:=R.lstAt U;obtain rfl:=by rw[O]at J;exact(IV J).symm
     cases S:Qt _ z with
     | none=>rw[S]at m;exact m.elim
     | some j=>
      rw[S]at m;refine⟨p',xs,z,j,c,a,b,rs.len ▸ S,k _ ⟨μ,_,(Ex.write R O).ext,R.write O trivial ?_,m⟩⟩;exact⟨_,aU,aV.set ((Ex.write R O).ext.r _ _ r) j<|(Ex.write R O).ext.s rs⟩
    | _=>cases m
  | _=>exact m.elim
 | _=>exact m.elim
variable {st:Stmt}{rest body:List Stmt}{m1 m2:MS}{t:MT}
abbrev cW:MS:=λD σ h=>D.nx σ h
abbrev aY (m u:MS):MS:=λD σ h=>m {D with nx:=u D} σ h
def bK:Sx X [] cW:=ajz.of λD σ H a=>by obtain⟨μ,h,σw,Dw,R,S,m,k⟩:=a;exact k.nx _ _ ⟨μ,σw,h,.refl,R,S,m⟩
def aF (h1:DS X st m1):Sx X [st] m1:=Bm h1
def au (h1:DS X st m1)(h2:Sx X rest m2):Sx X (st::rest) (aY m1 m2):=(CT h1 h2).of λD σ H a=>by
 obtain⟨μ,h,σw,Dw,R,S,m,k⟩:=a;refine⟨μ,h,σw,_,R,S,m,?_,k.rt,k.bk,k.ct⟩;rintro O H' ⟨μ1,J,h1,e1,Y,U,m1⟩;exact⟨μ1,h1,J,Dw,Y,U,m1,k.trans e1⟩
abbrev c7 (m:ME):MS:=λD σ h=>m σ h λ_ h1=>D.nx σ h1
def bZ (he:DE X e ma)(hs:autoParam (Wg e JI pos.line X.env=pure false) aPq._auto_1):DS X (.Expr e pos) (c7 ma):=(aiU he hs).of λD σ H ⟨μ,h,σw,Dw,R,S,m,k⟩=>
 ⟨μ,h,σw,_,R,S,m,λv H1 a=>by obtain⟨μ1,w,h1,e1,R1,_,m1⟩:=a;exact k.nx _ _ ⟨μ1,σw,h1,e1,R1,S.ext e1,m1⟩⟩
abbrev cI (m:ME):MS:=λD σ h=>m σ h D.rt
def aP (J:DE X e ma):DS X (.Return (Go e) pos) (cI ma):=(aa3 J).of λD σ H a=>by obtain⟨μ,h,σw,Dw,R,S,m,k⟩:=a;exact ⟨μ,h,σw,_,R,S,m,k.rt⟩
abbrev jg (t:MT)(a b:MS):MS:=λD σ h=>t σ h λc h1=>br c (a D σ h1) (b D σ h1)
def dN {a b}(O:DT X c t)(Y:Sx X a m1)(U:Sx X b m2):DS X (.If c a b pos) (jg t m1 m2):=(adi O Y U).of λD σ H e=>by
 obtain⟨μ,h,σw,Dw,R,S,m,k⟩:=e;refine⟨μ,h,σw,_,R,S,m,λb H1 d=>?_⟩;obtain⟨μ1,h1,e1,J,q⟩:=d;cases b with
 | true=>rw[if_pos rfl];exact⟨μ1,h1,σw,Dw,J,S.ext e1,q.1 rfl,k.trans e1⟩
 | false=>rw[if_neg RM];exact⟨μ1,h1,σw,Dw,J,S.ext e1,q.2 rfl,k.trans e1⟩
abbrev qW (x:Str)(E:Bt):MS:=λ_ _ h=>E ⟨x,[]⟩ h
def mL {x}:DS X st (qW x EF):=zbt.of λ_ _ _ a=>by obtain⟨_,_,_,_,_,_,m,_⟩:=a;exact m.elim
abbrev bL (m:ME)(g:MG):MS:=λD σ h=>m σ h λw h1=>g w σ h1 D.nx
def aat {K σ H}{D m g}(q:tDS K (bL m g) D σ H):aaT (tD K m) (tDG K g) D σ H:=by
 obtain⟨μ,h,σw,Dw,R,S,m,k⟩:=q;exact⟨μ,h,σw,_,R,S,m,λv H1 a=>by obtain⟨μ1,w,h1,e1,U,O,m1⟩:=a;exact ⟨μ1,h1,σw,w,_,U,S.ext e1,O,m1,fun J H' z=>k.nx _ _<|z.trans e1⟩⟩
def oM {g}(he:DE X e ma)(hg:DG X tg g)(hs:autoParam (swapsWithSole [tg] e pos.line X.env=pure false) aPq._auto_1)(hw:autoParam (swappedStores [tg] e X.env=pure JI) aPq._auto_1)
  (h1:autoParam ((O4 [tg] X.env).map (·.2)=[assign tg X.env]) aPq._auto_1):DS X (.Assign [tg] e pos) (bL ma g):=(abN he hg hs hw h1).of λ_ _ _ q=>aat q
def Tn {K:Az}{σ:St}{H:Hp}{D:Ends}{m:ME}{t:TE}{i:Nat}(ht:∀σ H Q,tD K m σ H Q->t σ H Q)(q:tDS K (bL m (kI i)) D σ H):aaT t (JG i) D σ H:=by
 obtain⟨μ,h,σw,Dw,R,S,m,k⟩:=q;exact ht _ _ _ ⟨μ,h,σw,_,R,S,m,λv H1 a=>by obtain⟨μ1,w,h1,e1,O,J,m1⟩:=a;exact k.nx _ _ ⟨μ1,σw.set i _,h1,e1,O,(S.ext e1).set J i,m1⟩⟩
def aaW {i x}{pos'}(hN:X.N.Nodup)(hi:X.N[i]?=Go x)(hx:Loc X.env.scope x)(he:DE X e ma)(hs:autoParam (Wg e (Go (.Name x pos')) pos.line X.env=pure false) aPq._auto_1)
  (hf:autoParam (X.fn x=true\/X.env.scope.names.lookup x=Go .local) aPq._auto_6) :
  DS X (.Assign [.Name x pos'] e pos) (bL ma (kI i)):=(Vj hN hi hx he hs hf).of λ_ _ _ q=>Tn (λ_ _ _ z=>z) q
abbrev Nt (t:MT)(b:MS):MS:=λD σ h=>∃O:Nat->Sw->Gh->Prop,(∃m,O m σ h)/\∀m σ h,O m σ h ->
 t σ h λc h1=>br c (b {D with nx:=fun σ' h'=>∃J,J<m/\O J σ' h',ct:=fun σ' h'=>∃J,J<m/\O J σ' h',bk:=D.nx} σ h1) (D.nx σ h1)
def En {body pos}(s:Zq (Bg X.prog X.w) X.A X.env X.xe)(v:DT X c t)(w:Sx X body m1):DS X (.While c body [] pos) (Nt t m1):=(zbG s v w).of λD σ H E=>by
 obtain⟨μ,h,σw,Dw,R,S,m,k⟩:=E;obtain⟨i,⟨r,p⟩,e⟩:=m;refine⟨λn J H'=>DN _ H μ (i n) J H',⟨r,μ,σw,h,.refl,R,S,p⟩,λn j H1 ⟨μ1,O,h1,e1,B,g,o⟩=>⟨μ1,h1,O,_,B,g,e n O h1 o,λb H2 C=>?_⟩⟩;obtain⟨μ2,h2,e2,R2,q⟩:=C;have Y:=e1.trans e2;cases b with
 | true=>
  refine⟨fun J H'=>∃a,a<n/\DN _ H μ _ J H',λ_ _ z=>z,μ2,h2,O,_,R2,g.ext e2,q.1 rfl,?_⟩;have U:∀(J:St) (H':Hp),DN _ H2 μ2 (fun J h'=>∃a,a<n/\i a J h') J H'->∃a,a<n/\DN _ H μ _ J H':=fun J H' ⟨f,d,x,e3,A,y,a,u,l⟩=>
   ⟨a,u,f,d,x,Y.trans e3,A,y,l⟩
  exact⟨U,λv H' z=>k.rt _ _<|z.trans Y,fun J H' z=>k.nx _ _<|z.trans Y,U⟩
 | false=>
  exact k.nx _ _ ⟨μ2,O,h2,Y,R2,g.ext e2,q.2 rfl⟩
structure Src where
 ws:List W
 cell:Option (Nat×List W)
abbrev Src.chk (s:Src)(h:Gh):Prop:=match s.cell with
 | none=>True
 | some n=>h.c n.1=Go (.lst n.2)
@[reducible]noncomputable def MI:=Sw->Gh->(Src->Gh->Prop)->Prop
abbrev aac (K:Az)(J:It)(src:Src)(H:Hp)(μ:Mu):Prop:=∀{H2:Hp}{μ2:Mu}{h2:Gh}{i:Nat},Ib K H μ H2 μ2->G3 K μ2 H2 h2->src.chk h2 ->
 (∀w,src.ws[i]?=Go w->J.go i H2/\∀x S,J.yld i H2 x S->∃O,Ib K H2 μ2 S O/\G3 K O S h2/\Bk K S O w x)/\(src.ws.length<=i->J.stop i H2)
inductive DI (K:Az) (H:Hp) (μ:Mu) (Rw:Src->Gh->Prop) (J:It) (H':Hp):Prop where
 | mk (μ':Mu) (src:Src) (h':Gh) (e:Ib K H μ H' μ') (R:G3 K μ' H' h') (o:aac K J src H' μ') (q:Rw src h'):DI K H μ Rw J H'
inductive tDI (K:Az) (mi:MI) (σ:St) (H:Hp) (R:It->Hp->Prop):Prop where
 | mk (μ:Mu) (h:Gh) (σw:Sw) (Rw:Src->Gh->Prop) (q:G3 K μ H h) (S:Slots K H μ σw σ) (x:mi σw h Rw) (k:∀J H',DI K H μ Rw J H'->R J H'):tDI K mi σ H R
@[reducible]noncomputable def VL (X:Cx)(tg iter:Expr)(mi:MI):Prop:=PI X tg iter (tDI X.K mi)
def PI.of {iter t t'}(h:PI X tg iter t)(k:∀σ H R,t' σ H R->t σ H R):PI X tg iter t':=λanq s σ H R I q=>h anq s σ H R I (k σ H R q)
abbrev dF (h:Gh):W->Option (List W)
 | .lst ws=>Go ws
 | .kls ws=>Go ws
 | .loc n=>(match h.c n with
  | some (.lst ws)=>Go ws
  | _=>JI)
 | _=>JI
abbrev view (h:Gh):W->Option (List W)
 | .tup ws=>Go ws
 | .lst ws=>Go ws
 | .kls ws=>Go ws
 | .loc n=>dF h (.loc n)
 | _=>JI
abbrev Ue (h:Gh):W->Option Src
 | .tup ws=>Go ⟨ws,JI⟩
 | .lst ws=>Go ⟨ws,JI⟩
 | .kls ws=>Go ⟨ws,JI⟩
 | .loc n=>(match h.c n with
  | some (.lst ws)=>Go ⟨ws,Go (n,ws)⟩
  | _=>JI)
 | _=>JI
def ajh {K:Az}{H:Hp}{p:Addr}(r:Bk K H μ (.lst ws) (.ref p)):aac K (Itl K p) ⟨ws,JI⟩ H μ:=by
 intro H2 μ2 h2 i e R2 _;obtain⟨q,xs,Y,J,rs⟩:=(e.r _ _ r)
 cases Y;refine⟨λw U=>?_,λhl=>⟨xs,J.sq,rs.len ▸ hl⟩⟩;obtain⟨v,O,S⟩:=rs.get U;refine⟨⟨xs,v,J.sq,O⟩,λx a b=>?_⟩;obtain⟨e3,y⟩:=b;subst e3;have:=y xs J.sq
 rw[O]at this;cases this;exact⟨μ2,.refl,R2,S⟩
def aik {K H}{p}(r:Bk K H μ (.kls ws) (.ref p)):aac K (Itl K p) ⟨ws,JI⟩ H μ:=by
 intro H2 μ2 h2 i e R2 _;obtain⟨q,xs,Y,J,rs⟩:=(e.r _ _ r)
 cases Y;refine⟨λw U=>?_,λhl=>⟨xs,J.sq,rs.len ▸ hl⟩⟩;obtain⟨v,O,S⟩:=rs.get U;refine⟨⟨xs,v,J.sq,O⟩,λx a b=>?_⟩;obtain⟨e3,y⟩:=b;subst e3;have:=y xs J.sq
 rw[O]at this;cases this;exact⟨μ2,.refl,R2,S⟩
def aiO {K H}{p n}(r:Bk K H μ (.loc n) (.ref p)):aac K (Itl K p) ⟨ws,Go (n,ws)⟩ H μ:=by
 intro H2 μ2 h2 i e R2 c;obtain⟨q,b,Y⟩:=(e.r _ _ r)
 cases b;obtain⟨p',xs,J,O,rs⟩:=R2.lstAt c;obtain rfl:=by rw[Y]at J;exact(IV J).symm
 refine⟨λw a=>?_,λhl=>⟨xs,.of O,rs.len ▸ hl⟩⟩;obtain⟨v,S,U⟩:=rs.get a;refine⟨⟨xs,v,.of O,S⟩,λx d f=>?_⟩;obtain⟨e3,y⟩:=f;subst e3;have:=y xs (.of O)
 rw[S]at this;cases this;exact⟨μ2,.refl,R2,U⟩
def aiz {K H}{p}(r:Bk K H μ (.tup ws) (.ref p)):aac K (Itt K p) ⟨ws,JI⟩ H μ:=by
 intro H2 μ2 h2 i e R2 _;obtain⟨q,xs,Y,J,rs⟩:=(e.r _ _ r)
 cases Y;refine⟨λw U=>?_,λhl=>⟨xs,J,rs.len ▸ hl⟩⟩;obtain⟨v,O,S⟩:=rs.get U;refine⟨⟨xs,v,J,O⟩,λx a b=>?_⟩;obtain⟨e3,y⟩:=b;subst e3;have:=y xs J
 rw[O]at this;cases this;exact⟨μ2,.refl,R2,S⟩
abbrev agg (K:Az)(tl:TE):TI:=fun σ H R=>tl σ H λx H1=>(∃a,x=.ref a/\(∃xs,Ja K H1 a xs)/\R (Itl K a) H1)\/(∃a,x=.ref a/\(∃xs,IW K H1 a xs)/\R (Itt K a) H1)
def acE {l tl}(f:PE X l tl):PI X tg l (agg X.K tl):=by
 intro anq s σ H R I h;refine Hg (f anq s σ H _ I h) λv O g=>?_;obtain⟨x,H1,J,Y,c⟩:=g;rcases c with⟨a,e,⟨xs,S⟩,q⟩|⟨a,e,⟨xs,S⟩,q⟩
 subst e;cases Y;obtain⟨its,b,p,d⟩:=J.list S;refine YB p.isList ⟨O.heap.objs.size,[O.heap.objs.size],_,_,H1,rfl,J.kept λb o e=>HJ _ e,ahz a _,⟨_,Il _ rfl,rfl,rfl⟩,λb U=>?_,q⟩;obtain rfl:=by simpa using U
 exact J.fpOk (Cm _)<|J.hok.fresh<|Cm _
 subst e;cases Y;obtain⟨its,b,p,d⟩:=J.tuple S;refine wpAny_pyIter_tuple p ⟨O.heap.objs.size,[O.heap.objs.size],_,_,H1,rfl,J.kept λb o e=>HJ _ e,ahn a _,⟨_,Il _ rfl,rfl,rfl⟩,λb U=>?_,q⟩;obtain rfl:=by simpa using U
 exact J.fpOk (Cm _)<|J.hok.fresh<|Cm _
abbrev Ii (m:ME):MI:=fun σ h R=>m σ h λw h1=>match Ue h1 w with
 | some s=>R s h1
 | none=>False
def bT {l}(f:DE X l ma):VL X tg l (Ii ma):=PI.of (acE f) fun σ H Q o=>by
 obtain⟨μ,h,σw,i,R,S,m,k⟩:=o;refine⟨μ,h,σw,_,R,S,m,λv H1 j=>?_⟩;obtain⟨μ1,w,h1,e1,b,O,m1⟩:=j;cases w with
 | tup ws=>
  have J:=O;obtain⟨p,xs,U,Y,_⟩:=O;subst U;exact .inr ⟨p,rfl,⟨xs,Y⟩,k _ _ ⟨μ1,⟨ws,JI⟩,h1,e1,b,aiz J,m1⟩⟩
 | lst ws=>
  have J:=O;obtain⟨p,xs,U,Y,_⟩:=O;subst U;exact .inl ⟨p,rfl,⟨xs,Y.sq⟩,k _ _ ⟨μ1,⟨ws,JI⟩,h1,e1,b,ajh J,m1⟩⟩
 | kls ws=>
  have J:=O;obtain⟨p,xs,U,Y,_⟩:=O;subst U;exact .inl ⟨p,rfl,⟨xs,Y.sq⟩,k _ _ ⟨μ1,⟨ws,JI⟩,h1,e1,b,aik J,m1⟩⟩
 | loc n=>
  have J:=O;obtain⟨p,U,e⟩:=O;subst U;unfold Ue at m1;dsimp only at m1;cases c:h1.c n with
  | none=>rw[c]at m1;cases m1
  | some g=>
   rw[c]at m1;cases g with
   | lst ws=>
    obtain⟨p',xs,a,d,rs⟩:=b.lstAt c;obtain rfl:=by rw[e]at a;exact(IV a).symm
    exact .inl ⟨p',rfl,⟨xs,.of d⟩,k _ _ ⟨μ1,⟨ws,Go _⟩,h1,e1,b,aiO J,m1⟩⟩
   | _=>cases m1
 | _=>exact m1.elim
abbrev Gx (lo:Int)(n:Nat):List W:=(Le n).map λ(k:Nat)=>.int (lo+(k:Int))
def ab7 {K H}{lo n}:aac K (Itr lo n) ⟨Gx lo n,JI⟩ H μ:=by
 intro H2 μ2 h2 i e R2 _;refine⟨λw J=>?_,λhl=>?_⟩;have hi:=by
  have:=(Lx.mp J).1
  simpa[Gx]using this
 have O:=by
  unfold Gx at J;rw[Hf,Zx hi]at J;exact(IV J).symm
 subst O;refine⟨hi,λx S a=>?_⟩;obtain⟨e3,y⟩:=a;subst e3;exact⟨μ2,.refl,R2,by rwa[Bk]⟩;have:=by simpa[Gx]using hl
 exact this
abbrev KR (j:Int)(P:Prop):Prop:=JC (decide (-1000<=j)&&decide (j<=1000)) P ((-(2^62)<=j/\j<2^62)/\P)
def KR.ok {j}{P}(h:KR j P):(-(2^62)<=j/\j<2^62)/\P:=by
 unfold KR at h;cases e:(decide (-1000<=j)&&decide (j<=1000))with
 | true=>
  rw[e]at h;rw[Rj,decide_eq_true_iff,decide_eq_true_iff]at e;exact⟨⟨by lia,by omega⟩,h⟩
 | false=>rw[e]at h;exact h
def KR.mk {j}{P}(h1:-(2^62)<=j)(h2:j<2^62)(h:P):KR j P:=by
 unfold KR;cases e:(decide (-1000<=j)&&decide (j<=1000))with
 | true=>exact h
 | false=>exact⟨⟨h1,h2⟩,h⟩
abbrev iy (ma:MA):MI:=fun σ h R=>ma σ h λws h1=>match ws with
 | [.int j]=>KR j (R ⟨Gx 0 j.toNat,JI⟩ h1)
 | _=>False
def zaN {a}{p pos}(hg:Gl X "range")(hm:X.mg "range" = JI)(ha:LR X [a] mr)(hs:autoParam (Ck [a] X.env=[(false,eval a X.env)]) aPq._auto_1):VL X tg (.Call (.Name "range" p) [a] [] pos) (iy mr):=
 PI.of (aiQ hg hm ha hs) fun σ H Q c=>by
  obtain⟨μ,h,σw,Rw,R,S,m,k⟩:=c;refine⟨μ,h,σw,_,R,S,m,λvs H1 b=>?_⟩;obtain⟨μ1,ws,h1,e1,R1,r1,m1⟩:=b;split at m1
  rename_i j;obtain⟨v,vr,ev,ra,r1⟩:=r1;subst ev r1 ra;exact⟨j,rfl,m1.ok.1.1,m1.ok.1.2,k _ _ ⟨μ1,_,h1,e1,R1,ab7,m1.ok.2⟩⟩;cases m1
abbrev Src.go (s:Src)(h:Gh)(P:Prop):Prop:=match s.cell with
 | none=>P
 | some n=>h.c n.1=Go (.lst n.2)/\P
def Src.go_ok {s:Src}{h}{P}(x:s.go h P):s.chk h/\P:=by
 unfold Src.go at x;unfold Src.chk;lia
abbrev iW (s:Src)(g:MG)(b:MS)(D:bN):List W->Sw->Gh->Prop
 | [],σ,h=>s.go h (D.nx σ h)
 | w::r,σ,h=>s.go h (g w σ h fun σ1 h1=>b {D with nx:=iW s g b D r,ct:=iW s g b D r,bk:=D.nx} σ1 h1)
abbrev tO (mi:MI)(g:MG)(b:MS):MS:=λD σ h=>mi σ h λs h1=>iW s g b D s.ws σ h1
def iz {iter}{body mi g}{mb0}{pos}(hp:Zq (Bg X.prog X.w) X.A X.env X.xe)(hc:X.calm=true)(hi:VL X tg iter mi)(hg:DG X tg g)(hb:Sx X body mb0)
  (hs:autoParam (∀x,Wt iter X.env x=pure x) aPq._auto_4):DS X (.For tg iter body [] pos) (tO mi g mb0):=(Uv hp hc hi hg hb hs).of λD σ H a=>by
 obtain⟨μ,h,σw,Dw,R,S,m,k⟩:=a;refine⟨μ,h,σw,_,R,S,m,λJ H1 ⟨μ1,src,h1,e1,R1,ok,m1⟩=>⟨λi n σ' H'=>n=src.ws.length-i/\i<=src.ws.length/\DN _ H1 μ1 (iW src g mb0 Dw<|src.ws.drop i) σ' H',⟨src.ws.length,by simp,Nz _,μ1,σw,h1,.refl,R1,S.ext e1,m1⟩,?_⟩⟩;rintro i n σ2 H2 ⟨hn,hle,μ2,σw2,h2,e2,R2,S2,m2⟩;by_cases hlt:i<src.ws.length
 rw[Y5 hlt]at m2;obtain⟨ck,m2⟩:=Src.go_ok m2;obtain⟨hgo,hy⟩:=(ok e2 R2 ck).1 src.ws[i] (Hw hlt);refine .inr ⟨hgo,fun σ' H'=>DN _ H2 μ2 _ σ' H',fun σ' H' z=>⟨src.ws.length-(i+1),by lia,rfl,hlt,z.trans e2⟩,λx H3 y=>?_⟩;obtain⟨μ3,e3,R3,rx⟩:=hy x H3 y;refine⟨μ3,h2,σw2,src.ws[i],_,R3,S2.ext e3,rx,m2,fun σ4 H4 ⟨μ4,σw4,h4,e4,R4,S4,m4⟩=>?_⟩;have e24:=e3.trans e4;have e14:=(e1.trans e2).trans e24;exact⟨μ4,h4,σw4,_,R4,S4,m4,fun σ' H' z=>z.trans e24,λv H' z=>k.rt _ _<|z.trans e14,fun σ' H' z=>k.nx _ _<|z.trans e14,fun σ' H' z=>z.trans e24⟩;have ei:i=src.ws.length:=by lia
 subst ei;rw[List.drop_length]at m2;obtain⟨ck,m2⟩:=Src.go_ok m2;exact .inl ⟨(ok e2 R2 ck).2 (Cm _),k.nx _ _ ⟨μ2,σw2,h2,e1.trans e2,R2,S2,m2⟩⟩
abbrev mY (ix:List Nat)(σ:Sw):Sw:=ix.map λi=>(σ[i]?).getD JI
def Slots.blk {K H σ}(S:Slots K H μ σw σ):∀{ws vs},aV K H μ ws vs->Slots K H μ (ws.map Go++mY ix σw) (vs.map Go++Lr ix σ):=by
 intro ws vs r;have J:=r.len;refine⟨by simp[mY,Lr,J],λi u q=>?_⟩;by_cases hi:i<ws.length
 rw[QF (by simpa using hi),Hf]at q;have O:ws[i]?=Go u:=by
  simp_all
 obtain⟨v,a,Y⟩:=r.get O;grind
 ·rw[V7 (by simpa using hi),Bo]at q;rw[V7 (by rw[Bo];lia),Bo,<-J];generalize i-ws.length=i at q|-
  unfold mY at q;unfold Lr;rw[Hf]at q|-
  cases e:ix[i]? with
  | none=>rw[e]at q;cases q
  | some j=>
   rw[e]at q;cases e2:σw[j]? with
   | none=>simp[e2]at q
   | some o=>
    obtain rfl:=by simpa[e2]using q
    obtain⟨U,h1,h2⟩:=S.get j u e2
    simp_all
abbrev jx:MT:=λ_ h Q=>Q true h
abbrev Ak (s:Src)(own:W->Option (List W))(ix:List Nat)(tt:MT)(te:ME)(σ:Sw)(Q:WK):List W->List W->Gh->Prop
 | [],acc,h=>s.go h (Q (.lst acc) h)
 | w::r,acc,h=>s.go h (match own w with
  | some vs=>tt (vs.map Go++mY ix σ) h λc h1=>JC c (te (vs.map Go++mY ix σ) h1 λv h2=>Ak s own ix tt te σ Q r (acc++[v]) h2) (Ak s own ix tt te σ Q r acc h1)
  | none=>False)
abbrev Ht (own:W->Option (List W))(ix:List Nat)(mi:MI)(tt:MT)(te:ME):ME:=fun σ h Q=>mi σ h λs h1=>fG s.ws.length (Ak s own ix tt te σ Q s.ws [] h1)
abbrev Nb (K:Az)(n:Nat)(own:V->Hp->List V->Prop)(J:W->Option (List W)):Prop:=∀{H:Hp}{μ:Mu}{w:W}{v:V}{ws:List W},Bk K H μ w v->J w=Go ws->∃vs,own v H vs/\vs.length=n/\aV K H μ ws vs
abbrev JL (w:W):Option (List W):=Go [w]
abbrev Qa (n:Nat)(w:W):Option (List W):=match w with
 | .tup ws=>(match QS ws.length n with
  | true=>Go ws
  | false=>JI)
 | _=>JI
abbrev ov1:V->Hp->List V->Prop:=λv _ vs=>vs=[v]
abbrev ovT (K:Az):V->Hp->List V->Prop:=λv H vs=>∃a,v=.ref a/\IW K H a vs
def G8 {K}:Nb K 1 ov1 JL:=by
 intro H μ w v ws r e;cases e;exact⟨[v],rfl,rfl,.one r⟩
def Ae {K}{n}:Nb K n (ovT K) (Qa n):=by
 intro H μ w v ws r e;cases w with
 | tup us=>
  unfold Qa at e;dsimp only at e;cases J:QS _ n with
  | false=>rw[J]at e;cases e
  | true=>
   rw[J]at e;cases e;obtain⟨p,xs,S,O,rs⟩:=r;exact⟨xs,⟨p,S,O⟩,rs.len ▸ ZG J,rs⟩
 | _=>cases e
@[reducible]noncomputable def aaL (X:Cx)(ifs:List Expr)(m:MT):Prop:=ZX X ifs (tDT X.K m)
def fJ:aaL X [] jx:=λanq s σ H Q I a=>by obtain⟨μ,h,σw,J,R,S,m,k⟩:=a;exact aiv anq s σ H Q I (k _ _ ⟨μ,h,.refl,R,m⟩)
def jA (h:DT X c t):aaL X [c] t:=akc h
def aan {K σ H Q}{n}{own j mi tt te}(W:Nb K n own j)(q:tD K (Ht j ix mi tt te) σ H Q):tLC n own ix (tDI K mi) (tDT K tt) (tD K te) σ H Q:=by
 obtain⟨μ,h,σw,Qw,R,S,m,k⟩:=q;refine⟨μ,h,σw,_,R,S,m,λJ H1 ⟨μ1,J,h1,e1,N,E,s⟩=>?_⟩;obtain⟨hz,m1⟩:=s.ok;intro D z;have F:=N.nohid z;refine⟨λi n ys H'=>n=J.ws.length-i/\i<=J.ws.length/\ys.length<=i/\H' D=Go (.lst ys)/\∃μ' acc h',Ib K H1 μ1 H' μ'/\G3 K μ' H' h'/\μ'.hid D/\aV K H' μ' acc ys/\Ak J j ix tt te σw Qw (J.ws.drop i) acc h',
  ⟨J.ws.length,by simp,Nz _,Cm _,aU,μ1.hide D,[],h1,(Ib.hide z),N.hide z,.inl rfl,.nil,m1⟩,?_⟩
 rintro i n' ys H2 ⟨hn,hle,Z,c,μ2,acc,h2,e2,R2,U,r,m2⟩ _;by_cases Y:i<J.ws.length
 ·rw[Y5 Y]at m2;obtain⟨B,m2⟩:=Src.go_ok m2;obtain⟨v,hy⟩:=(E e2 R2 B).1 J.ws[i] (Hw Y);refine .inr ⟨v,by lia,λx H3 y=>?_⟩;obtain⟨o,e3,R3,T⟩:=hy x H3 y;cases A:j J.ws[i]with
  | none=>rw[A]at m2;exact m2.elim
  | some us=>
   rw[A]at m2;obtain⟨vs,u,t,p⟩:=W T A;have L:=(S.ext (e1.trans (e2.trans e3))).blk (ix:=ix) p;refine⟨vs,u,t,o,h2,_,_,R3,L,m2,λb H4 ⟨e,I,e4,M,G⟩=>?_⟩;have a:=e3.trans e4;obtain⟨f,g⟩:=a.o D _ U c;cases b with
   | false=>
    exact⟨g,J.ws.length-(i+1),by lia,rfl,Y,by lia,g,e,acc,I,e2.trans a,M,f,a.s r,G⟩
   | true=>
    refine⟨e,I,_,_,M,L.ext e4,G,λv H5 ⟨l,P,h5,e5,C,V,X⟩=>?_⟩;have d:=a.trans e5;obtain⟨O,w⟩:=d.o D _ U c;exact⟨w,J.ws.length-(i+1),by lia,rfl,Y,by simp;omega,aU,l,acc++[P],h5,(e2.trans d).x F (aad.grow C O),C.grow O,O,(aV.ex (Ex0.grow C O)<|aV.append (d.s r)<|aV.one V),X⟩
 have ei:i=J.ws.length:=by lia
 subst ei;rw[List.drop_length]at m2;obtain⟨B,m2⟩:=Src.go_ok m2;exact .inl ⟨(E e2 R2 B).2 (Cm _),k _ _ ⟨μ2.unhide D,.lst acc,h2,e1.trans<|e2.x F .unhide,R2.unhide,Bk.built R2 U c r,m2⟩⟩
variable {scope:Scope}{x:Str}{xs:List Str}{iter:Expr}{px:Pos}{mi:MI}{tt:MT}{te:ME}
def G6 (B:jz X scope [x] ix)(C)(s)(H)(fp):PG (blk X scope (jH X [x] ix) C s H fp) (.Name x px) (Zw 1 ov1):=by
 obtain⟨S,O⟩:=Nf B (y:=x) (by simp);rintro anq s' σ H' v u Q I r ⟨vs,U,Y,q⟩;cases U;refine wX (i:=0) B.nd rfl S O anq s' σ H' v u Q I r ?_;have J:σ.length=(jH X [x] ix).length:=I.len;cases σ with
 | nil=>simp at J
 | cons o σ=>exact q
def zj {py pt kt}(hc:X.calm=true)(B:jz X scope [x,y] ix)(C)(s)(H)(fp)
  (h1:autoParam (∀env,(O4 [.Name x px,.Name y py] env).map (·.2)=assign (.Name x px) env::(O4 [.Name y py] env).map (·.2)) aPq._auto_4)
  (h2:autoParam (∀env,(O4 [.Name y py] env).map (·.2)=assign (.Name y py) env::(O4 [] env).map (·.2)) aPq._auto_4)
  (h3:autoParam (∀env,(O4 [.Name x px,.Name y py] env).length=2) aPq._auto_4) (h4:autoParam (∀env,(O4 [.Name x px,.Name y py] env).findIdx? (·.1)=JI) aPq._auto_4) :
  PG (blk X scope (jH X [x,y] ix) C s H fp) (.Tuple [.Name x px,.Name y py] kt pt) (Zw 2 (ovT X.K)):=by
 obtain⟨o1,u1⟩:=Nf B (y:=x) (by simp);obtain⟨o2,u2⟩:=Nf B (y:=y) (by simp);rintro anq s' σ H' v u Q I r ⟨vs,⟨a,ea,ha⟩,hl,q⟩;refine acG (X:=blk X scope _ C s H fp) hc (wO (wX (i:=0) B.nd rfl o1 u1) (wO (wX (i:=1) B.nd rfl o2 u2) M9<|h2 _)<|h1 _) (h3 _) (h4 _) anq s' σ H' v u Q I r ⟨a,vs,ea,ha,hl,?_⟩;match vs,hl,q with
 | [v1,v2],_,q=>
  match σ,I.len,q with
  | _::_::σ,_,q=>exact⟨v1,[v2],rfl,v2,[],rfl,rfl,q⟩
def S9 {own ow}(ix)(hc:X.calm=true)(B:jz X scope xs ix)(oo:Nb X.K xs.length own ow)(hg:∀C s H fp,PG (blk X scope (jH X xs ix) C s H fp) tg (Zw xs.length own))(hi:VL X tg iter mi)
  (ht:∀C s H fp,aaL (blk X scope (jH X xs ix) C s H fp) ifs tt) (he:∀C s H fp,DE (blk X scope (jH X xs ix) C s H fp) elt te)
  (hs:autoParam (∀v,Wt iter X.env v=pure v) aPq._auto_4):DE X (.ListComp elt [⟨tg,iter,ifs,0⟩] scope pos) (Ht ow ix mi tt te):=(aev ix hc B hg hi ht he hs).of λ_ _ _ q=>aan oo q
def MN {own:V->Hp->List V->Prop}{ow:W->Option (List W)}(ix:List Nat){i:Nat}{py spos:Pos}(hN:X.N.Nodup)(hi':X.N[i]?=Go y)(hy:Loc X.env.scope y)(hc:X.calm=true)(B:jz X scope xs ix)(oo:Nb X.K xs.length own ow)
  (hg:∀C s H fp,PG (blk X scope (jH X xs ix) C s H fp) tg (Zw xs.length own)) (hi:VL X tg iter mi)
  (ht:∀C s H fp,aaL (blk X scope (jH X xs ix) C s H fp) ifs tt) (he:∀C s H fp,DE (blk X scope (jH X xs ix) C s H fp) elt te)
  (hsw:autoParam (Wg (.ListComp elt [⟨tg,iter,ifs,0⟩] scope pos) (Go (.Name y py)) spos.line X.env=pure true) aPq._auto_1)
  (hf:autoParam (X.fn y=true\/X.env.scope.names.lookup y=Go .local) aPq._auto_6)
  (hs:autoParam (∀v,Wt iter X.env v=pure v) aPq._auto_4):DS X (.Assign [.Name y py] (.ListComp elt [⟨tg,iter,ifs,0⟩] scope pos) spos) (bL (Ht ow ix mi tt te) (kI i)):=
 (adT ix hN hi' hy hc B hg hi ht he hsw hf hs).of λ_ _ _ q=>Tn (λ_ _ _ z=>aan oo z) q
def afc {κ K}{U H μ0 μ k}(J:∀n p,μ0.f n=Go p->n<k):∀{fs:List (κ×W)}{S O},j5 K U μ0 fs S->j5 K H μ fs O->j5 K H (μ.cut k) fs O
 | [],_,_,_,.nil=>.nil
 | _::_,_,_,.cons a b,.cons c d=>.cons ⟨c.1,Bk.cut c.2 (Bk.lo J a.2)⟩ (afc J b d)
abbrev jy (pure:Bool)(h:Gh)(w:W)(h':Gh)(Q:WK):Prop:=match pure with
 | false=>Q w h'
 | true=>(∀n c,n<h.nx->h.c n=Go c->h'.c n=Go c)/\((Lo h.nx w/\Q w h)\/∃n ws,w=.loc n/\h.nx<=n/\h'.c n=Go (.lst ws)/\MH h.nx ws/\Q (.lst ws) h)
abbrev Hj (n N:Nat)(J:Bool)(body:Bt->MS):Aq:=λws h Q E=>JC (QS ws.length n)
 (body E {nx:=λ_ h'=>jy J h .non h' Q,rt:=λw h'=>jy J h w h' Q} (ws.map Go++J4 (N-ws.length) JI) h) False
def Di {n N}{J}{body h Q E}(x:Hj n N J body ws h Q E):ws.length=n /\
  body E {nx:=λ_ h'=>jy J h .non h' Q,rt:=λw h'=>jy J h w h' Q} (ws.map Go++J4 (N-ws.length) JI) h:=by
 unfold Hj at x;cases e:QS _ n with
 | true=>rw[e]at x;exact⟨ZG e,x⟩
 | false=>rw[e]at x;exact x.elim
def G3.cut {K:Az}{H H':Hp}{μ μ':Mu}{h h':Gh}(R:G3 K μ H h)(S:G3 K μ' H' h')(e:Ib K H μ H' μ')(o:∀n c,h.c n=Go c->h'.c n=Go c):G3 K (μ'.cut h.nx) H' h where
 inj:=λm n p a b=>S.inj m n p (Mu.cut_some a).2 (Mu.cut_some b).2
 dom:=λn p a=>(Mu.cut_some a).1
 trk:=λn p a=>S.trk n p (Mu.cut_some a).2
 cel:=λn c a=>by
  obtain⟨j,k,U⟩:=R.cel n c a;obtain⟨p,m,x⟩:=S.cel n c (o n c a);refine⟨p,by show(if n<h.nx then μ'.f n else JI)=Go p;rw[if_pos<|R.dom n j k];exact m,?_⟩;cases c with
  | lst ws=>
   obtain⟨i,_,J⟩:=U;obtain⟨xs,O,r⟩:=x;exact⟨xs,O,aV.cut r<|aV.lo R.dom J⟩
  | obj C fs=>
   obtain⟨q,g,_,J⟩:=U;obtain⟨dx,Y,O,r⟩:=x;exact⟨dx,Y,O,afc R.dom J r⟩
  | dct kvs=>
   obtain⟨g,_,J⟩:=U;obtain⟨Y,O,r⟩:=x;exact⟨Y,O,afc R.dom J r⟩
  | dtt kvs=>
   obtain⟨_,_,_,_,_,d0,g⟩:=U;obtain⟨xs,vs,a,b,c,d,f⟩:=x;exact⟨xs,vs,a,b,c,aV.cut d<|aV.lo R.dom d0,aV.cut f<|aV.lo R.dom g⟩
 hd:=λp z=>⟨(S.hd p z).1,λn a=>(S.hd p z).2 n (Mu.cut_some a).2⟩
def Ib.cut {K}{H H' μ μ' h}(R:G3 K μ H h)(e:Ib K H μ H' μ'):Ib K H μ H' (μ'.cut h.nx):=
 ⟨λw v r=>Bk.cut (e.r w v r) (Bk.lo R.dom r),λp u z a=>e.o p u z a⟩
def vK {K}{H H' h h' w v}{Q}{J}(R:G3 K μ H h)(e:Ib K H μ H' μ')(O:G3 K μ' H' h')(r:Bk K H' μ' w v)(x:jy J h w h' Q):DQ K H μ Q v H':=by
 cases J with
 | false=>exact⟨μ',w,h',e,O,r,x⟩
 | true=>
  obtain⟨Y,⟨lo,q⟩|⟨n,ws,f,j,i,lo,q⟩⟩:=x;all_goals have b:=λn c a=>Y n c (let⟨p,m,_⟩:=R.cel n c a;R.dom n p m) a
  exact⟨μ'.cut _,w,h,e.cut R,R.cut O e b,Bk.cut r lo,q⟩;subst f;refine⟨μ'.cut _,.lst ws,h,e.cut R,R.cut O e b,?_,q⟩;obtain⟨p,g,U⟩:=r;obtain⟨p',xs,S,d,rs⟩:=O.lstAt i;obtain rfl:=by rw[U]at S;exact(IV S).symm
  refine⟨p',xs,g,⟨d,λm a=>?_,λz=>(O.hd p' z).2 n U⟩,aV.cut rs lo⟩;obtain⟨a1,a2⟩:=Mu.cut_some a;have:=O.inj m n p' a2 U
  lia
def qD {K:Az}{H:Hp}{N:List Str}:∀{ws:List W}{vs:List V},aV K H μ ws vs->Slots K H μ (ws.map Go++J4 (N.length-ws.length) JI) (start N vs):=by
 intro ws vs r;have U:=r.len;refine⟨by simp[start,U],λi w q=>?_⟩;by_cases hi:i<ws.length
 rw[QF (by simpa using hi)]at q;have O:ws[i]?=Go w:=by
  simp_all
 obtain⟨v,S,J⟩:=r.get O;refine⟨v,?_,J⟩;unfold start;rw[QF (by rw[Bo];lia),Hf,S];rfl;rw[V7 (by simpa using hi),Zt]at q;simp_all
def afV {P w K}{mg base}{x qual st f fd}{N ps k}{U}{body}(F:Ss K x qual st f fd)(S:g8 N ps (bw st))
  (e:∀cdv A  (outer) (s) (H) (E),jj k (A.deeper (RD qual (bw st) s.heap.objs.size f cdv)) ->
   Sx (Jg O8 P w K mg base N qual (bw st) f cdv A outer s H E).nox (eX st) (body EF)):lJ P w K mg base O8 (k+1) f fd ps (lift K (Hj ps.length N.length U body)):=by
 refine F.ok S (λvs H Q E n=>by obtain⟨μ,h,ws,g,R,r,m,k⟩:=n;rw[<-r.len];exact(Di m).1)<|λcdv A outer s H vs Q E d l=>?_;obtain⟨μ,h,ws,g,R,r,c,k⟩:=l
 obtain⟨j,m⟩:=Di c;refine⟨_,e cdv A outer s H E d,μ,h,_,_,R,qD r,m,?_,?_,?_,?_⟩;rintro O H' ⟨μ1,J,h1,e1,Y,a,m1⟩;exact k _ _<|vK R e1 Y (by rw[Bk]) m1
 rintro v H' ⟨μ1,i,h1,e1,Y,b,m1⟩;exact k _ _<|vK R e1 Y b m1
 rintro O H' ⟨μ1,J,h1,e1,Y,a,m1⟩;exact m1.elim;rintro O H' ⟨μ1,J,h1,e1,Y,a,m1⟩;exact m1.elim
end
variable {te:ME}{mi:MI}{tt:MT}{kt:Nat}
section
variable {X:Cx}{K:Az}
def DQ.int {H μ h}{i Q}(R:G3 K μ H h)(q:Q (.int i) h):DQ K H μ Q (.int i) H:=⟨μ,.int i,h,.refl,R,by rw[Bk],q⟩
def DQ.bl {H μ h}{i Q}(R:G3 K μ H h)(q:Q (.bl i) h):DQ K H μ Q (.bl i) H:=⟨μ,.bl i,h,.refl,R,by rw[Bk],q⟩
abbrev Fo:M2:=λx y h Q=>match x,y with
 | .int i,.int j=>Q (.int (i-j)) h
 | _,_=>False
def vQ:O7 X (Nx .Sub) Fo:=⟨_,aax,by
 intro H μ h x y U S Y Q R O J m k;unfold Fo at m;split at m
 exact⟨_,_,O,J,k _ _<|.int R m⟩;cases m⟩
abbrev vI:M2:=λx y h Q=>match x,y with
 | .int i,.int j=>pJ i j/\Q (.int (i*j)) h
 | _,_=>False
def lK:O7 X (Nx .Mult) vI:=⟨_,Ny,by
 intro H μ h x y U S Y Q R O J m k;unfold vI at m;split at m
 exact⟨_,_,O,J,m.1,k _ _<|.int R m.2⟩;cases m⟩
abbrev Pg:M2:=λx y h Q=>match x,y with
 | .int i,.int j=>Mw i j/\Q (.int (i.fdiv j)) h
 | _,_=>False
def Am:O7 X (Nx .FloorDiv) Pg:=⟨_,ahu,by
 intro H μ h x y U S Y Q R O J m k;unfold Pg at m;split at m
 exact⟨_,_,O,J,m.1,k _ _<|.int R m.2⟩;cases m⟩
abbrev HF:M2:=λx y h Q=>match x,y with
 | .int i,.int j=>j≠0/\Q (.int (i.fmod j)) h
 | _,_=>False
def tG:O7 X (Nx .Mod) HF:=⟨_,alH,by
 intro H μ h x y U S Y Q R O J m k;unfold HF at m;split at m
 exact⟨_,_,O,J,m.1,k _ _<|.int R m.2⟩;cases m⟩
abbrev ae5:M2:=λx y h Q=>match x,y with
 | .int i,.int j=>afH i j/\Q (.int (i^j.toNat)) h
 | _,_=>False
def aeN:O7 X (Nx .Pow) ae5:=⟨_,acP,by
 intro H μ h x y U S Y Q R O J m k;unfold ae5 at m;split at m
 exact⟨_,_,O,J,m.1,k _ _<|.int R m.2⟩;cases m⟩
abbrev kLt:M2:=λx y h Q=>match x,y with
 | .int i,.int j=>Q (.bl (decide (i<j))) h
 | _,_=>False
def aaf:O7 X (N8 .Lt) kLt:=⟨_,ae4,by
 intro H μ h x y U S Y Q R O J m k;unfold kLt at m;split at m
 exact⟨_,_,O,J,k _ _<|.bl R m⟩;cases m⟩
abbrev QL:M2:=λx y h Q=>match x,y with
 | .int i,.int j=>Q (.bl (decide (j<i))) h
 | _,_=>False
def Pn:O7 X (N8 .Gt) QL:=⟨_,aew,by
 intro H μ h x y U S Y Q R O J m k;unfold QL at m;split at m
 exact⟨_,_,O,J,k _ _<|.bl R m⟩;cases m⟩
abbrev kGe:M2:=λx y h Q=>match x,y with
 | .int i,.int j=>Q (.bl (decide (j<=i))) h
 | _,_=>False
def agP:O7 X (N8 .GtE) kGe:=⟨_,aeH,by
 intro H μ h x y U S Y Q R O J m k;unfold kGe at m;split at m
 exact⟨_,_,O,J,k _ _<|.bl R m⟩;cases m⟩
def aV.ne_nil {H}{xs}(r:aV K H μ ws xs):xs=[]↔ws=[]:=by
 have:=r.len
 grind
abbrev Bh:M2:=λx y h Q=>match y with
 | .int i=>(match view h x with
  | some ws=>(match Mj ws i with
   | some w=>Q w h
   | none=>False)
  | none=>False)
 | _=>False
def aV.at {H μ}{ws xs i w}(r:aV K H μ ws xs)(e:Mj ws i=Go w):∃v,Mj xs i=Go v/\Bk K H μ w v:=by
 unfold Mj at e|-
 rw[<-r.len];cases q:Qt _ i with
 | none=>rw[q]at e;cases e
 | some j=>rw[q]at e;exact r.get e
def dh {H h w v}(R:G3 K μ H h)(r:Bk K H μ w v)(e:dF h w=Go ws):∃p xs,v=.ref p/\Ja K H p xs/\aV K H μ ws xs:=by
 cases w with
 | lst us|kls us=>
  obtain⟨p,xs,O,Y,rs⟩:=r;cases e;exact⟨p,xs,O,Y.sq,rs⟩
 | loc n=>
  obtain⟨p,O,a⟩:=r;unfold dF at e;dsimp only at e;cases S:h.c n with
  | none=>rw[S]at e;cases e
  | some b=>
   rw[S]at e;cases b with
   | lst us=>
    cases e;obtain⟨p',xs,J,U,rs⟩:=R.lstAt S;obtain rfl:=by rw[a]at J;exact(IV J).symm
    exact⟨p',xs,O,.of U,rs⟩
   | _=>cases e
 | _=>cases e
def vM {H h w v}(R:G3 K μ H h)(r:Bk K H μ w v)(e:view h w=Go ws):∃p xs,v=.ref p/\(Ja K H p xs\/IW K H p xs)/\aV K H μ ws xs:=by
 cases w with
 | tup us=>
  obtain⟨p,xs,O,J,rs⟩:=r;cases e;grind
 | lst us|kls us|loc n=>
  obtain⟨p,xs,O,J,rs⟩:=dh R r e;grind
 | _=>cases e
def abf:afN K (rIx K) Bh:=by
 intro H μ h x y e d f Q R Y S m k;unfold Bh at m;split at m
 rename_i i;split at m
 rename_i ws c;split at m
 rename_i w b;obtain⟨p,xs,ex,J,rs⟩:=vM R Y c;obtain⟨v,U,a⟩:=rs.at b;have O:=k _ _ ⟨μ,w,h,.refl,R,a,m⟩;rcases J with J|J
 exact .inl ⟨p,xs,i,v,ex,S,J,U,O⟩;exact .inr<|.inl ⟨p,xs,i,v,ex,S,J,U,O⟩
 cases m;cases m;cases m
def agq {a b mb}{pos}(U:DE X a ma)(S:DE X b mb)(hs:BP b):DE X (.Subscript a b pos) (Ah Bh ma mb):=(aey ac0 U S hs).of fun σ H Q h=>two h λR O J m k=>abf R O J m k
@[reducible]noncomputable def MO:=Sw->Gh->(Option Int->Gh->Prop)->Prop
abbrev tDO (K:Az)(m:MO):TO:=fun σ H Q=>∃μ h σw J,G3 K μ H h/\Slots K H μ σw σ/\m σw h J/\∀o H',(∃μ' h',Ib K H μ H' μ'/\G3 K μ' H' h'/\J o h')->Q o H'
@[reducible]noncomputable def DO (X:Cx)(e:Option Expr)(m:MO):Prop:=PO X e (tDO X.K m)
def PO.of {e t t'}(h:PO X e t)(k:∀σ H Q,t' σ H Q->t σ H Q):PO X e t':=by
 unfold PO at h|-
 intros
 grind
abbrev ju:MO:=λ_ h Q=>Q JI h
abbrev tH (m:ME):MO:=fun σ h Q=>m σ h λw h1=>match w with
 | .int i=>Q (Go i) h1
 | _=>False
def qT:DO X JI ju:=PO.of alj fun σ H Q a=>by obtain⟨μ,h,σw,J,R,S,m,k⟩:=a;exact k _ _ ⟨μ,h,.refl,R,m⟩
def kY {e}(O:DE X e ma):DO X (Go e) (tH ma):=PO.of (aiL O) fun σ H Q b=>by
 obtain⟨μ,h,σw,Y,R,S,m,k⟩:=b;refine⟨μ,h,σw,_,R,S,m,λv H1 a=>?_⟩;obtain⟨μ1,w,h1,e1,U,J,m1⟩:=a;split at m1
 exact⟨_,J,k _ _ ⟨μ1,h1,e1,U,m1⟩⟩;cases m1
abbrev xq (xs:List W)(lo hi:Option Int):List W:=(xs.drop (HT.sIx xs.length 0 lo)).take (HT.sIx xs.length xs.length hi-HT.sIx xs.length 0 lo)
abbrev Vr (r:W->Option Int->Option Int->Gh->WK->Prop)(m:ME)(l u:MO):ME:=fun σ h Q=>m σ h λx h1=>l σ h1 λlo h2=>u σ h2 λhi J=>r x lo hi J Q
def aV.cutv {H}{xs}(r:aV K H μ ws xs)(lo hi):aV K H μ (xq ws lo hi) (Wr xs lo hi):=by
 unfold xq Wr;exact r.len ▸ (r.drop _).take _
end
mutual
noncomputable def Hv:W->W->Bool
 | .non,.non=>true
 | .bl a,.bl b=>a==b
 | .bl a,.int b=>(if a then 1 else 0)==b
 | .int a,.bl b=>a==(if b then 1 else 0)
 | .int a,.int b=>a==b
 | .str a,.str b=>a==b
 | .tup a,.tup b=>sX a b
 | .lst a,.lst b=>sX a b
 | _,_=>false
noncomputable def sX:List W->List W->Bool
 | [],[]=>true
 | a::as,b::bs=>Hv a b&&sX as bs
 | _,_=>false
end
abbrev Hq:Nat->W->Bool
 | _,.non=>true
 | _,.bl _=>true
 | _,.int _=>true
 | _,.str _=>true
 | n+1,.tup ws=>ws.all (Hq n)
 | n+1,.lst ws=>ws.all (Hq n)
 | _,_=>false
mutual
noncomputable def Dt (K:Az)(H:Hp):W->V->Prop
 | .non,v=>v=.non
 | .bl b,v=>v=.bl b
 | .int i,v=>v=.int i
 | .str x,v=>v=.str x
 | .tup ws,v=>∃p xs,v=.ref p/\IW K H p xs/\Ko K H ws xs
 | .lst ws,v=>∃p xs,v=.ref p/\Ja K H p xs/\Ko K H ws xs
 | .ty _,_=>False
 | .kls _,_=>False
 | .loc _,_=>False
 | .exc _,_=>False
 | .exa _ _,_=>False
 | .fnv _ _,_=>False
noncomputable def Ko (K:Az)(H:Hp):List W->List V->Prop
 | [],xs=>xs=[]
 | w::ws,xs=>∃v vs,xs=v::vs/\Dt K H w v/\Ko K H ws vs
end
section
variable {X:Cx}{K:Az}{H:Hp}{h:Gh}
def Ko.len:∀{ws xs},Ko K H ws xs->ws.length=xs.length
 | [],xs,h=>by
  have e:=h;rw[e];rfl
 | w::ws,xs,h=>by
  obtain⟨v,vs,e,_,h⟩:=h;rw[e,PN,PN,Ko.len h]
def Ko.get:∀{ws xs}{i:Nat}{w},Ko K H ws xs->ws[i]?=Go w->∃v,xs[i]?=Go v/\Dt K H w v
 | a::ws,xs,0,w,h,e=>by
  obtain⟨v,vs,e1,r,_⟩:=h;simp_all
 | a::ws,xs,i+1,w,h,e=>by
  obtain⟨v,vs,e1,_,h⟩:=h;subst e1;obtain⟨u,h1,h2⟩:=Ko.get h (by simpa using e)
  simp_all
def xY {n}(J:∀{w v},Bk K H μ w v->Hq n w=true->Dt K H w v):∀{ws xs},aV K H μ ws xs->ws.all (Hq n)=true->Ko K H ws xs
 | [],_,h,_=>by rwa[Ko]
 | w::ws,_,h,p=>by
  obtain⟨v,vs,e,r,h⟩:=h;rw[List.all_cons,Rj]at p;exact⟨v,vs,e,J r p.1,xY J h p.2⟩
def Qg:∀n  {w v},Bk K H μ w v->Hq n w=true->Dt K H w v:=by
 intro n;induction n with
 | zero=>
  intro w v r p;cases w with
  | non|bl _|int _|str _=>rw[Bk]at r;exact r
  | _=>simp[Hq]at p
 | succ n O=>
  intro w v r p;cases w with
  | non|bl _|int _|str _=>rw[Bk]at r;exact r
  | tup ws=>
   obtain⟨p',xs,e,J,rs⟩:=r;exact⟨p',xs,e,J,xY O rs<|by simpa[Hq]using p⟩
  | lst ws=>
   obtain⟨p',xs,e,J,rs⟩:=r;exact⟨p',xs,e,J.sq,xY O rs<|by simpa[Hq]using p⟩
  | _=>simp[Hq]at p
def u6:∀{a b},a.length≠b.length->sX a b=false
 | [],_::_,_|_::_,[],_=>by simp[sX]
 | a::as,b::bs,h=>by
  rw[sX,u6 (by simpa using h),YH]
abbrev ady (a b:List W)(j:Nat):Bool:=Hv (a.getD j .non) (b.getD j .non)
def wA:∀{a b},a.length=b.length->(Le a.length).all (ady a b)=sX a b
 | [],[],_=>by simp[sX]
 | a::as,b::bs,h=>by
  rw[sX,<-wA (by simpa using h),PN,List.range_succ_eq_map,List.all_cons,List.all_map];rfl
mutual
theorem GD {anq:List (Addr×Obj)}{s:AP}{σ:St}(I:Aw X anq σ H s):∀{w u:W}{v:V},Dt X.K H w v->Dt X.K H u v->Hv w u=true
 | .non,u,v,h,g=>by rw[Dt]at h;subst h;cases u<;>rw[Dt]at g<;>first|rfl|exact g.elim|(obtain⟨_,_,g,_⟩:=g;cases g;done)|(cases g;done)
 | .bl b,u,v,h,g=>by rw[Dt]at h;subst h;cases u<;>rw[Dt]at g<;>first|(injection g with g;simp[Hv,g];done)|exact g.elim|(obtain⟨_,_,g,_⟩:=g;cases g;done)|(cases g;done)
 | .int b,u,v,h,g=>by rw[Dt]at h;subst h;cases u<;>rw[Dt]at g<;>first|(injection g with g;simp[Hv,g];done)|exact g.elim|(obtain⟨_,_,g,_⟩:=g;cases g;done)|(cases g;done)
 | .str b,u,v,h,g=>by rw[Dt]at h;subst h;cases u<;>rw[Dt]at g<;>first|(injection g with g;simp[Hv,g];done)|exact g.elim|(obtain⟨_,_,g,_⟩:=g;cases g;done)|(cases g;done)
 | .tup ws,u,v,h,g=>by
  rw[Dt]at h;obtain⟨p,xs,e,hs,ds⟩:=h;subst e;cases u with
  | tup us=>
   rw[Dt]at g;obtain⟨p',xs',e',hs',ds'⟩:=g;cases e'
   have:=I.tuple_inj hs hs'
   subst this;rw[Hv];exact qN I ds ds'
  | lst us=>
   rw[Dt]at g;obtain⟨p',xs',e',hs',ds'⟩:=g;cases e'
   obtain⟨_,_,t,_⟩:=I.tuple hs;obtain⟨_,_,l,_⟩:=I.list hs';exact absurd rfl<|rP l.isList<|show s.heap.IsTuple _ _ from t
  | ty _=>rw[Dt]at g;exact g.elim
  | loc _=>rw[Dt]at g;exact g.elim
  | kls _=>rw[Dt]at g;exact g.elim
  | _=>rw[Dt]at g;cases g
 | .lst ws,u,v,h,g=>by
  rw[Dt]at h;obtain⟨p,xs,e,hs,ds⟩:=h;subst e;cases u with
  | lst us=>
   rw[Dt]at g;obtain⟨p',xs',e',hs',ds'⟩:=g;cases e'
   have:=I.list_inj hs hs'
   subst this;rw[Hv];exact qN I ds ds'
  | tup us=>
   rw[Dt]at g;obtain⟨p',xs',e',hs',ds'⟩:=g;cases e'
   obtain⟨_,_,t,_⟩:=I.tuple hs';obtain⟨_,_,l,_⟩:=I.list hs;exact absurd rfl<|rP l.isList<|show s.heap.IsTuple _ _ from t
  | ty _=>rw[Dt]at g;exact g.elim
  | loc _=>rw[Dt]at g;exact g.elim
  | kls _=>rw[Dt]at g;exact g.elim
  | _=>rw[Dt]at g;cases g
 | .ty _,_,_,h,_=>by rw[Dt]at h;exact h.elim
 | .loc _,_,_,h,_=>by rw[Dt]at h;exact h.elim
 | .exc _,_,_,h,_=>by rw[Dt]at h;exact h.elim
 | .exa _ _,_,_,h,_=>by rw[Dt]at h;exact h.elim
 | .kls _,_,_,h,_=>by rw[Dt]at h;exact h.elim
theorem qN {anq:List (Addr×Obj)}{s:AP}{σ:St}(I:Aw X anq σ H s):∀{ws us:List W}{vs:List V},Ko X.K H ws vs->Ko X.K H us vs->sX ws us=true
 | [],us,vs,h,g=>by
  rw[Ko]at h;subst h;cases us with
  | nil=>rfl
  | cons _ _=>rw[Ko]at g;obtain⟨_,_,g,_⟩:=g;cases g
 | w::ws,us,vs,h,g=>by
  rw[Ko]at h;obtain⟨v,vs',e,h1,h2⟩:=h;subst e;cases us with
  | nil=>rw[Ko]at g;cases g
  | cons u us=>
   rw[Ko]at g;obtain⟨v',vs'',e',g1,g2⟩:=g;cases e'
   rw[sX,GD I h1 g1,qN I h2 g2];rfl
end
def akJ {n}(h:Hq n (.lst ws)=true):∃m,n=m+1/\ws.all (Hq m)=true:=by
 cases n with
 | zero=>simp[Hq]at h
 | succ m=>exact⟨m,rfl,by simpa[Hq]using h⟩
def Fx {s A}{n}{us}{xs ys}{its J}(h:Ko K H ws xs)(g:Ko K H us ys)(l:ws.all (Hq n)=true)(p2:us.all (Hq n)=true)(c:BL xs its)(Y:BL ys J)
  (O:∀{w u v x}{a b},Dt K H w v->Dt K H u x->Hq n w=true->Hq n u=true->RelV v a->RelV x b->Xf A s a b (Hv w u)) :
  ∀j h1  (h2:j<J.toArray.size),Xf A s its.toArray[j] J.toArray[j] (ady ws us j):=by
 intro j h1 h2;have f:j<ws.length:=by rw[h.len,c.length];simpa using h1
 have d:j<us.length:=by rw[g.len,Y.length];simpa using h2
 obtain⟨v,m,dv⟩:=h.get (Hw f);obtain⟨x,ex,dx⟩:=g.get (Hw d);obtain⟨a,p,k⟩:=c.get m;obtain⟨b,o,i⟩:=Y.get ex;have U:its.toArray[j]=a:=by simpa using(Lx.mp p).2
 have S:J.toArray[j]=b:=by simpa using(Lx.mp o).2
 have e:ady ws us j=Hv ws[j] us[j]:=by
  unfold ady
  simp_all
 rw[U,S,e];exact O dv dx (Xc.mp l _<|QV f) (Xc.mp p2 _<|QV d) k i
def size_of {xs}{its}(d:Ko K H ws xs)(r:BL xs its):its.toArray.size=ws.length:=by
 rw[d.len,r.length];simp
def ahT {us}:((Le (min ws.length us.length)).all (ady ws us)&&ws.length==us.length)=sX ws us:=by
 by_cases e:ws.length=us.length
 rw[<-e,Nat.min_self,wA e];simp;rw[u6 e,(beq_eq_false_iff_ne.mpr e),YH]
inductive Kd (s:AP):W->Mk->Prop where
 | non:Kd s .non .none
 | bl (b:Bool):Kd s (.bl b) (.bool b)
 | int (i:Int) (t:Tok):Kd s (.int i) (.int i t)
 | str (x:Str) (t:Tok):Kd s (.str x) (.str x t)
 | tup (ws:List W) {p:Addr}{its:Array Mk}(q:s.heap.IsTuple p its):Kd s (.tup ws) (.ref p)
 | lst (ws:List W) {p:Addr}{its:Array Mk}(q:s.heap.IsList p its):Kd s (.lst ws) (.ref p)
def z9 {anq s}{σ:St}(I:Aw X anq σ H s){w v}{a}(d:Dt X.K H w v)(r:RelV v a):Kd s w a:=by
 cases w with
 | non=>rw[Dt]at d;subst d;cases r;exact .non
 | bl b=>rw[Dt]at d;subst d;cases r;exact .bl b
 | int b=>rw[Dt]at d;subst d;obtain⟨t,rfl⟩:=r;exact .int b t
 | str b=>rw[Dt]at d;subst d;obtain⟨t,rfl⟩:=r;exact .str b t
 | tup ws=>rw[Dt]at d;obtain⟨p,xs,e,J,_⟩:=d;subst e;cases r;obtain⟨its,_,q,_⟩:=I.tuple J;exact .tup ws q
 | lst ws=>rw[Dt]at d;obtain⟨p,xs,e,J,_⟩:=d;subst e;cases r;obtain⟨its,_,q,_⟩:=I.list J;exact .lst ws q.isList
 | _=>rw[Dt]at d;exact d.elim
abbrev sq1:W->Bool
 | .tup _=>true
 | .lst _=>true
 | _=>false
abbrev rM:W->W->Bool
 | .tup _,.tup _=>true
 | .lst _,.lst _=>true
 | _,_=>false
abbrev adK (w u:W):Bool:=!(sq1 w||sq1 u)
open SeqAt.EqAt in
def TQ {s A}{w u}{a b}(J:A.units<Jz)(k1:Kd s w a)(k2:Kd s u b)(h:rM w u=false)(f:adK w u=false):Xf A s a b (Hv w u):=by
 cases k1<;>cases k2<;>try (first|(cases h;done)|(cases f;done))
 apply none_tuple<;>assumption
 apply none_list<;>assumption
 apply bool_tuple<;>assumption
 apply bool_list<;>assumption
 apply int_tuple<;>assumption
 apply int_list<;>assumption
 apply str_tuple<;>assumption
 apply str_list<;>assumption
 apply tuple_none<;>assumption
 apply tuple_bool<;>assumption
 apply tuple_int<;>assumption
 apply tuple_str<;>assumption
 apply tuple_list<;>assumption
 apply list_none<;>assumption
 apply list_bool<;>assumption
 apply list_int<;>assumption
 apply list_str<;>assumption
 apply list_tuple<;>assumption
open SeqAt.RcAt in
def ac9 {s A}{w u}{a b}(J:A.units<Jz)(k1:Kd s w a)(k2:Kd s u b)(h:rM w u=false):SeqAt.RcAt A s a b (Hv w u):=by
 cases k1<;>cases k2<;>try (first|(cases h;done))
 apply none_none<;>assumption
 apply none_bool<;>assumption
 apply none_int<;>assumption
 apply none_str<;>assumption
 apply none_tuple<;>assumption
 apply none_list<;>assumption
 apply bool_none<;>assumption
 apply bool_bool<;>assumption
 apply bool_int<;>assumption
 apply bool_str<;>assumption
 apply bool_tuple<;>assumption
 apply bool_list<;>assumption
 apply int_none<;>assumption
 apply int_bool<;>assumption
 apply int_int<;>assumption
 apply int_str<;>assumption
 apply int_tuple<;>assumption
 apply int_list<;>assumption
 apply str_none<;>assumption
 apply str_bool<;>assumption
 apply str_int<;>assumption
 apply str_str<;>assumption
 apply str_tuple<;>assumption
 apply str_list<;>assumption
 apply tuple_none<;>assumption
 apply tuple_bool<;>assumption
 apply tuple_int<;>assumption
 apply tuple_str<;>assumption
 apply tuple_list<;>assumption
 apply list_none<;>assumption
 apply list_bool<;>assumption
 apply list_int<;>assumption
 apply list_str<;>assumption
 apply list_tuple<;>assumption
open SeqAt.RcNeAt in
def adz {s A}{w u}{a b}(J:A.units<Jz)(k1:Kd s w a)(k2:Kd s u b)(h:rM w u=false):SeqAt.RcNeAt A s a b (!Hv w u):=by
 cases k1<;>cases k2<;>try (first|(cases h;done))
 apply none_none<;>assumption
 apply none_bool<;>assumption
 apply none_int<;>assumption
 apply none_str<;>assumption
 apply none_tuple<;>assumption
 apply none_list<;>assumption
 apply bool_none<;>assumption
 apply bool_bool<;>assumption
 apply bool_int<;>assumption
 apply bool_str<;>assumption
 apply bool_tuple<;>assumption
 apply bool_list<;>assumption
 apply int_none<;>assumption
 apply int_bool<;>assumption
 apply int_int<;>assumption
 apply int_str<;>assumption
 apply int_tuple<;>assumption
 apply int_list<;>assumption
 apply str_none<;>assumption
 apply str_bool<;>assumption
 apply str_int<;>assumption
 apply str_str<;>assumption
 apply str_tuple<;>assumption
 apply str_list<;>assumption
 apply tuple_none<;>assumption
 apply tuple_bool<;>assumption
 apply tuple_int<;>assumption
 apply tuple_str<;>assumption
 apply tuple_list<;>assumption
 apply list_none<;>assumption
 apply list_bool<;>assumption
 apply list_int<;>assumption
 apply list_str<;>assumption
 apply list_tuple<;>assumption
def xR:∀{w u},rM w u=true->(∃ws us,w=.tup ws/\u=.tup us)\/∃ws us,w=.lst ws/\u=.lst us
 | .tup ws,.tup us,_=>.inl ⟨ws,us,rfl,rfl⟩
 | .lst ws,.lst us,_=>.inr ⟨ws,us,rfl,rfl⟩
abbrev wV:V->W
 | .bl b=>.bl b
 | .int b=>.int b
 | .str b=>.str b
 | _=>.non
def aeJ {v x}(h:MF v=true)(g:MF x=true):Hv (wV v) (wV x)=eqV v x:=by
 cases v<;>first|(cases h;done)|(cases x<;>first|(cases g;done)|rfl)
def Ux {w:W}{v:V}(d:Dt K H w v)(h:sq1 w=false):MF v=true/\w=wV v:=by
 cases w with
 | tup _|lst _=>cases h
 | non|bl _|int _|str _=>rw[Dt]at d;subst d;exact⟨rfl,rfl⟩
 | _=>rw[Dt]at d;cases d
def UJ {s A}{w u v x}{a b}(c:Dt K H w v)(d:Dt K H u x)(J:adK w u=true)(Y:RelV v a)(U:RelV x b):Xf A s a b (Hv w u):=by
 have J:=Bool.or_eq_false_iff.mp (Eq.mp (Bool.not_eq_true' _) J);have⟨S,e1⟩:=Ux c J.1;have⟨O,e2⟩:=Ux d J.2;rw[e1,e2,aeJ S O];exact abJ Y U S O
def Tj {anq s}{σ:St}(I:Aw X anq σ H s){n A}{w u v x}{a b}(m:∀{w u v x}{a b},Dt X.K H w v->Dt X.K H u x->Hq n w=true->Hq n u=true->RelV v a->RelV x b->Xf A.in1 s a b (Hv w u))(g:A.units<Jz)(h2:rM w u=true)(z:Dt X.K H w v)(B:Dt X.K H u x)(k:Hq (n+1) w=true)(l:Hq (n+1) u=true)(y:RelV v a)(t:RelV x b):∃p q,v=.ref p/\x=.ref q/\a=.ref p/\b=.ref q/\SeqAt.RcAt A s a b (Hv w u)/\SeqAt.RcNeAt A s a b (!Hv w u):=by
 rcases xR h2 with⟨ws,us,rfl,rfl⟩|⟨ws,us,rfl,rfl⟩<;>obtain⟨p,r,rfl,i,S⟩:=z<;>obtain⟨q,o,rfl,h,c⟩:=B<;>cases y<;>cases t<;>refine⟨p,q,rfl,rfl,rfl,rfl,?_⟩<;>rw[Hv]<;>rw[Hq]at k l
 obtain⟨Y,J,f,_⟩:=I.tuple i;obtain⟨U,O,d,_⟩:=I.tuple h;have it:=Fx S c k l J O m;rw[<-ahT,<-size_of S J,<-size_of c O];exact⟨.tuples f d g it,.tuples f d g it⟩;obtain⟨Y,J,f,_⟩:=I.list i;obtain⟨U,O,d,_⟩:=I.list h;by_cases j:ws.length=us.length
 have it:=Fx S c k l J O m;have e:Y.toArray.size=U.toArray.size:=by rw[size_of S J,size_of c O,j]
 rw[<-wA j,<-size_of S J];exact⟨.lists f.isList d.isList e g it,.lists f.isList d.isList e g it⟩;rw[u6 j];have e:(Y.toArray.size != U.toArray.size)=true:=by rw[size_of S J,size_of c O];exact bne_iff_ne.mpr j
 exact⟨.lists_lengths f.isList d.isList e g,.lists_lengths f.isList d.isList e g⟩
def LC {w u}(h:rM w u=true):∀{n},Hq n w=true->∃m,n=m+1
 | 0,p=>by rcases xR h with⟨_,_,rfl,_⟩|⟨_,_,rfl,_⟩<;>cases p
 | m+1,_=>⟨m,rfl⟩
def adB {anq s}{σ:St}(I:Aw X anq σ H s):∀n  {A}{w u v x}{a b},A.units+n<Jz->Dt X.K H w v->Dt X.K H u x->Hq n w=true->Hq n u=true->RelV v a->RelV x b->Xf A s a b (Hv w u):=by
 intro n;induction n with
 | zero=>
  intro A w u v x a b Y J O d f U S;by_cases c:adK w u=true
  exact UJ J O c U S;by_cases h2:rM w u=true
  obtain⟨m,e⟩:=LC h2 d;cases e;exact TQ Y (z9 I J U) (z9 I O S) (Ym _ ▸ h2)<|Ym _ ▸ c
 | succ n h=>
  intro A w u v x a b Y J O d f U S;by_cases c:adK w u=true
  exact UJ J O c U S;by_cases h2:rM w u=true
  obtain⟨p,q,rfl,rfl,rfl,rfl,z,_⟩:=Tj I (h (by rw[Nat.add_assoc,Nat.add_comm 1];exact Y)) (Wu (Nat.le_add_right _ _) Y) h2 J O d f U S;by_cases g:p=q
  subst g;rw[GD I J O];exact SeqAt.EqAt.same _;exact SeqAt.EqAt.of_refs g z;exact TQ (Wu (Nat.le_add_right _ _) Y) (z9 I J U) (z9 I O S) (Ym _ ▸ h2)<|Ym _ ▸ c
def rcN {anq s}{σ:St}(I:Aw X anq σ H s){m A}{w u v x}{a b}{p:Prop}(c:A.units+(m+1)<Jz)(J:A.units<Jz)(h2:rM w u=true)(d:Dt X.K H w v)(e:Dt X.K H u x)(U:Hq (m+1) w=true)(Y:Hq (m+1) u=true)(S:RelV v a)(O:RelV x b)(f:SeqAt.RcAt A s a b (Hv w u)/\SeqAt.RcNeAt A s a b (!Hv w u)->p):p:=by
 obtain⟨_,_,_,_,_,_,z⟩:=Tj I (adB I m (by rw[Nat.add_assoc,Nat.add_comm 1];exact c)) J h2 d e U Y S O;exact f z
def ad7 {anq s}{σ:St}(I:Aw X anq σ H s)(n){A}{w u v x}{a b}(Y:A.units+n<Jz)(c:Dt X.K H w v)(d:Dt X.K H u x)(U:Hq n w=true)(e:Hq n u=true)(S:RelV v a)(O:RelV x b):SeqAt.RcAt A s a b (Hv w u):=by
 have J:=Wu (Nat.le_add_right _ _) Y;by_cases h2:rM w u=true
 obtain⟨m,rfl⟩:=LC h2 U;exact rcN I Y J h2 c d U e S O (·.1);exact ac9 J (z9 I c S) (z9 I d O)<|Ym _ ▸ h2
def zca {anq s}{σ:St}(I:Aw X anq σ H s)(n){A}{w u v x}{a b}(Y:A.units+n<Jz)(c:Dt X.K H w v)(d:Dt X.K H u x)(U:Hq n w=true)(e:Hq n u=true)(S:RelV v a)(O:RelV x b):SeqAt.RcNeAt A s a b (!Hv w u):=by
 have J:=Wu (Nat.le_add_right _ _) Y;by_cases h2:rM w u=true
 obtain⟨m,rfl⟩:=LC h2 U;exact rcN I Y J h2 c d U e S O (·.2);exact adz J (z9 I c S) (z9 I d O)<|Ym _ ▸ h2
abbrev Vw (h:Gh):W->Option W
 | .loc n=>(match h.c n with
  | some (.lst ws)=>Go (.lst ws)
  | _=>JI)
 | w=>Go w
def vd {w d v}{n}(R:G3 K μ H h)(r:Bk K H μ w v)(e:Vw h w=Go d)(p:Hq n d=true):Dt K H d v:=by
 have J:Vw h w=Go w->Dt K H d v:=λz=>by
  rw[z]at e;cases e;exact Qg n r p
 cases w with
 | loc m=>
  unfold Vw at e;dsimp only at e;cases S:h.c m with
  | none=>rw[S]at e;cases e
  | some b=>
   rw[S]at e;cases b with
   | lst us=>
    cases e;obtain⟨p',xs,O,U,rs⟩:=R.lstAt S;obtain⟨q,a,Y⟩:=r;cases by rw[Y]at O;exact(IV O).symm
    obtain⟨k,rfl,p⟩:=akJ p;exact⟨p',xs,a,.of U,xY (Qg k) rs p⟩
   | _=>cases e
 | _=>exact J rfl
abbrev afS (K:Az)(J:Bool):R2:=λx y H Q=>∃w u,Dt K H w x/\Dt K H u y/\Hq 30 w=true/\Hq 30 u=true/\Q (.bl (if J then !Hv w u else Hv w u)) H
def acy (U:X.A.units+30<Jz):KN X (N8 .Eq) (afS X.K false):=by
 rintro anq s σ H x y v u Q I O J ⟨w,b,a,Y,S,p2,q⟩;exact ad7 I 30 U a Y S p2 O J _ _ _ _<|uz I q rfl
def adt (U:X.A.units+30<Jz):KN X (N8 .NotEq) (afS X.K true):=by
 rintro anq s σ H x y v u Q I O J ⟨w,b,a,Y,S,p2,q⟩;exact zca I 30 U a Y S p2 O J _ _ _ _<|uz I q rfl
abbrev JZ:M2:=λx y h Q=>match Vw h x,Vw h y with
 | some a,Go b=>JC (Hq 30 a&&Hq 30 b) (Q (.bl (Hv a b)) h) False
 | _,_=>False
abbrev Q8:M2:=λx y h Q=>match Vw h x,Vw h y with
 | some a,Go b=>JC (Hq 30 a&&Hq 30 b) (Q (.bl (!Hv a b)) h) False
 | _,_=>False
def oJ (U:X.A.units+30<Jz):O7 X (N8 .Eq) JZ:=⟨_,acy U,by
 intro H μ h x y e d f Q R S O m k;unfold JZ at m;split at m
 ·rename_i a b c Y;cases J:(Hq 30 a&&Hq 30 b)with
  | true=>
   rw[J]at m;rw[Rj]at J;exact⟨a,b,vd R S c J.1,vd R O Y J.2,J.1,J.2,k _ _<|.bl R m⟩
  | false=>rw[J]at m;cases m
 cases m⟩
def VP (U:X.A.units+30<Jz):O7 X (N8 .NotEq) Q8:=⟨_,adt U,by
 intro H μ h x y e d f Q R S O m k;unfold Q8 at m;split at m
 ·rename_i a b c Y;cases J:(Hq 30 a&&Hq 30 b)with
  | true=>
   rw[J]at m;rw[Rj]at J;exact⟨a,b,vd R S c J.1,vd R O Y J.2,J.1,J.2,k _ _<|.bl R m⟩
  | false=>rw[J]at m;cases m
 cases m⟩
def agm {A}{k}(J:jj k A):A.units+30<Jz:=by have:=J.units;lia
end
section
variable {X:Cx}{K:Az}
def gH {H w}{vs}(r:aV K H μ [w] vs):∃v,vs=[v]/\Bk K H μ w v:=by
 obtain⟨v,J,S,O,r⟩:=r;subst r;simp_all
def Ba {H}{w u}{vs}(r:aV K H μ [w,u] vs):∃v x,vs=[v,x]/\Bk K H μ w v/\Bk K H μ u x:=by
 obtain⟨v,J,U,S,r⟩:=r;obtain⟨x,e,O⟩:=gH r;grind
def pJ.of {i j m n}(hi:Sm m i)(S:Sm n j)(O:m<=1000000)(J:n<=1000000):pJ i j:=⟨m,n,O,J,hi,S⟩
def Sm.lit {i:Int}(h:Vx (i.natAbs+1) (2^64)=true):Sm 64 i:=by
 have:=Ow h
 assumption
abbrev Ho:MC:=λws h Q=>match ws with
 | [w]=>(match view h w with
  | some xs=>Q (.int (xs.length:Int)) h
  | none=>False)
 | _=>False
def fU:fK X (.builtin "len") Ho:=⟨_,yI,by
 intro H μ h vs ws U Q R r m k;unfold Ho at m;split at m
 split at m
 rename_i w _ xs S;obtain⟨v,e,J⟩:=gH r;obtain⟨p,ys,ex,O,rs⟩:=vM R J S;subst e ex;exact⟨p,ys,rfl,O,rs.len ▸ k _ _ (.int R m)⟩;cases m;cases m⟩
abbrev Um:MC:=λws h Q=>match ws with
 | [.int i]=>Q (.int (if i<0 then -i else i)) h
 | _=>False
def Ox:fK X (.builtin "abs") Um:=⟨_,ail,by
 intro H μ h vs ws O Q R r m k;unfold Um at m;split at m
 obtain⟨v,e,J⟩:=gH r;subst e J;exact⟨_,rfl,k _ _<|.int R m⟩;cases m⟩
abbrev Z4:MC:=λws h Q=>match ws with
 | [.int i,.int j]=>Q (.int (if j>i then j else i)) h
 | _=>False
def YC (S:X.calm=true):fK X (.builtin "max") Z4:=⟨_,zaV S,by
 intro H μ h vs ws U Q R r m k;unfold Z4 at m;split at m
 obtain⟨v,x,e,O,J⟩:=Ba r;subst e O J;exact⟨_,_,rfl,k _ _<|.int R m⟩;cases m⟩
abbrev WW:MC:=λws h Q=>match ws with
 | [.int i,.int j]=>Q (.int (if j<i then j else i)) h
 | _=>False
def ace (S:X.calm=true):fK X (.builtin "min") WW:=⟨_,ajj S,by
 intro H μ h vs ws U Q R r m k;unfold WW at m;split at m
 obtain⟨v,x,e,O,J⟩:=Ba r;subst e O J;exact⟨_,_,rfl,k _ _<|.int R m⟩;cases m⟩
abbrev Pr:List W->Option (List Bool)
 | []=>Go []
 | .bl b::ws=>(Pr ws).map (b::·)
 | _=>JI
def Lh {H μ}:∀{ws xs}{bs},aV K H μ ws xs->Pr ws=Go bs->xs=bs.map V.bl
 | [],xs,bs,r,e=>by
  cases e;exact r
 | w::ws,xs,bs,r,e=>by
  obtain⟨v,S,O,J,r⟩:=r;cases w with
  | bl b=>
   rw[Pr]at e;cases q:Pr ws with
   | none=>rw[q]at e;cases e
   | some U=>
    rw[q]at e;cases e;rw[O,J,Lh r q];rfl
  | _=>cases e
abbrev fu:MC:=λws h Q=>match ws with
 | [.tup us]=>Q (.tup us) h
 | [w]=>(match dF h w with
  | some us=>Q (.tup us) h
  | none=>False)
 | _=>False
def dZ:fK X (.type "tuple") fu:=⟨_,wB,by
 intro H μ h vs ws a Q R r m k;unfold fu at m;split at m
 obtain⟨v,e,J⟩:=gH r;have O:=J;obtain⟨p,xs,ex,S,rs⟩:=J;subst e ex;exact⟨p,xs,rfl,.inr ⟨S,k _ _ ⟨μ,_,h,.refl,R,O,m⟩⟩⟩;split at m
 rename_i w _ _ us Y;obtain⟨v,e,J⟩:=gH r;obtain⟨p,ys,ex,S,rs⟩:=dh R J Y;subst e ex;exact⟨p,ys,rfl,.inl ⟨S,λl U=>k _ _ ⟨μ,_,h,(Ex.laid U).ext,R.laid U,.tupNew U rs,m⟩⟩⟩;cases m;cases m⟩
abbrev Qc:MC:=λws h Q=>match ws with
 | [w]=>(match view h w with
  | some us=>Q (.lst us) h
  | none=>False)
 | _=>False
def aa2:fK X (.type "list") Qc:=⟨_,aha,by
 intro H μ h vs ws Y Q R r m k;unfold Qc at m;split at m
 split at m
 rename_i w _ xs U;obtain⟨v,e,O⟩:=gH r;obtain⟨p,ys,ex,S,rs⟩:=vM R O U;subst e ex;exact⟨p,ys,rfl,S,λl J=>k _ _ ⟨μ,_,h,(Ex.laid J).ext,R.laid J,.lstNew R J rs,m⟩⟩;exact m.elim;cases m⟩
@[reducible]noncomputable def MM:=W->List W->Gh->WK->Prop
abbrev abE (K:Az)(r:V->List V->Hp->VK->Prop)(mr:MM):Prop:=∀{H:Hp}{μ:Mu}{h:Gh}{x:V}{vs:List V}{J:W}{ws:List W}{O:WK}{Q:VK},G3 K μ H h->Bk K H μ J x->aV K H μ ws vs->mr J ws h O->(∀v H',DQ K H μ O v H'->Q v H')->r x vs H Q
abbrev Jb (h:Gh)(w:W)(P:Prop):Prop:=match w with
 | .loc n=>(match h.c n with
  | some (.lst _)=>P
  | _=>False)
 | _=>False
def Gy {H h w v}{P}(R:G3 K μ H h)(r:Bk K H μ w v)(e:Jb h w P):tyV K "list" v H/\P:=by
 unfold Jb at e;split at e
 split at e
 rename_i n _ ws Y;obtain⟨p,U,S⟩:=r;obtain⟨p',xs,J,O,rs⟩:=R.lstAt Y;have ep:=by rw[S]at J;exact(IV J).symm
 subst ep U;exact⟨.inl ⟨rfl,xs,.of O⟩,e⟩;cases e;cases e
abbrev jW (r:MM)(mo:ME)(ma:MA):ME:=fun σ h Q=>mo σ h λx h1=>Jb h1 x (ma σ h1 λxs h2=>r x xs h2 Q)
variable {o e:Expr}{es:List Expr}{mo:ME}{ma:MA}{name:Str}{apos ant:Pos}{id:String}{r:V->List V->Hp->VK->Prop}{mr:MM}
def afP (slot:Slot "list" name id)(hty:typeOf (.builtin id)=pure (.type "method_descriptor"))(hm:VH X id r)(hs:abE X.K r mr)(ho:DE X o mo)(ha:LR X (e::es) ma)
  (hbase:autoParam (W5 o name X.env (eval o X.env)=eval o X.env) aPq._auto_1)
  (hfew:autoParam (((JD ant (Ck (e::es) X.env)).all (λx=>!x.1)&&(Vy ant (Vz [] X.env)).all (λx=>x.1.isSome)
   && decide ((e::es).length+([]:List Od).length+(if([]:List Od).isEmpty then 0 else 1)<30))=true) aPq._auto_1)
  (hline:autoParam ((apos.endLine==ant.line)=true) aPq._auto_1) (hst:autoParam (Ck (e::es) X.env=(false,eval e X.env)::Ck es X.env) aPq._auto_1) (hplain:autoParam ((JD ant (Ck es X.env)).any (·.1)=false) aPq._auto_1) :
  DE X (.Call (.Attribute o name apos) (e::es) [] ant) (jW mr mo ma):=(acX PySem.F.plainAttrs_list slot hty hm ho ha hbase hfew hline hst hplain).of fun σ H Q a=>by
 obtain⟨μ,h,σw,Qw,R,S,m,k⟩:=a;exact⟨μ,h,σw,_,R,S,m,λv H1 b=>by obtain⟨μ1,w,h1,e1,R1,r1,il⟩:=b;exact ⟨(Gy R1 r1 il).1,μ1,h1,σw,_,R1,S.ext e1,((Gy R1 r1 il).2),λvs H2 c=>by obtain⟨μ2,ws,h2,e2,R2,r2,m2⟩:=c;exact hs R2 (e2.r _ _ r1) r2 m2 λv H' z=>k _ _<|(z.trans e2).trans e1⟩⟩
abbrev bG:MM:=λx ws h Q=>match x,ws with
 | .loc n,[w]=>(match h.c n with
  | some (.lst us)=>us.length<HB/\Q .non (h.set n (.lst (us++[w])))
  | _=>False)
 | _,_=>False
def Yi {H h}{n v}{us}(R:G3 K μ H h)(r:Bk K H μ (.loc n) v)(O:h.c n=Go (.lst us)):∃p xs,v=.ref p/\μ.f n=Go p/\H p=Go (.lst xs)/\aV K H μ us xs:=by
 obtain⟨p,Y,U⟩:=r;obtain⟨p',xs,J,S,rs⟩:=R.lstAt O;simp_all
def DQ.wrote {H h}{n}{p}{us xs Q w v}(R:G3 K μ H h)(J:μ.f n=Go p)(rs:aV K H μ us xs)(O:Bk K H μ w v)(q:Q w (h.set n (.lst us))):DQ K H μ Q v (Cu H p (.lst xs)):=
 ⟨μ,w,h.set n (.lst us),(Ex.write R J).ext,R.write J trivial ⟨xs,aU,(Ex.write R J).ext.s rs⟩,(Ex.write R J).ext.r _ _ O,q⟩
def zbx:abE K LQ bG:=by
 intro H μ h x vs c ws d Q R O rs m k;unfold bG at m;split at m
 split at m
 rename_i n w _ us b;obtain⟨p,xs,ex,Y,U,J⟩:=Yi R O b;obtain⟨v,a,S⟩:=gH rs;exact⟨p,xs,v,ex,a,U,J.len ▸ m.1,k _ _<|.wrote R Y (J.append<|.one S) (by rw[Bk]) m.2⟩;cases m;cases m
def bW (ho:DE X o mo)(ha:LR X [e] ma)
  (hbase:autoParam (W5 o "append" X.env (eval o X.env)=eval o X.env) aPq._auto_1)
  (hfew:autoParam (((JD ant (Ck [e] X.env)).all (λx=>!x.1)&&(Vy ant (Vz [] X.env)).all (λx=>x.1.isSome)
   && decide (([e]:List Expr).length+([]:List Od).length+(if([]:List Od).isEmpty then 0 else 1)<30))=true) aPq._auto_1)
  (hline:autoParam ((apos.endLine==ant.line)=true) aPq._auto_1) (hst:autoParam (Ck [e] X.env=(false,eval e X.env)::Ck [] X.env) aPq._auto_1) (hplain:autoParam ((JD ant (Ck [] X.env)).any (·.1)=false) aPq._auto_1) :
  DE X (.Call (.Attribute o "append" apos) [e] [] ant) (jW bG mo ma):=afP PySem.F.slot_list_append PySem.F.type_list_append yX zbx ho ha hbase hfew hline hst hplain
end
section
variable {X:Cx}{K:Az}
def ac1:KN X (N8 .Is) (λx y H Q=>∃c b,x=.bl c/\y=.bl b/\Q (.bl (c==b)) H):=by
 rintro anq s σ H x y v u Q I O J ⟨c,b,ex,S,q⟩;subst ex S;cases O;cases J;exact is_bool<|uz I q rfl
def ajD:KN X (N8 .IsNot) (λx y H Q=>∃c b,x=.bl c/\y=.bl b/\Q (.bl (!(c==b))) H):=by
 rintro anq s σ H x y v u Q I O J ⟨c,b,ex,S,q⟩;subst ex S;cases O;cases J;exact Bj<|uz I q (by cases c<;>cases b<;>rfl)
abbrev QG:W->Bool
 | .non=>true
 | _=>false
def Jt {H w v}(r:Bk K H μ w v):decide (v=.non)=QG w:=by
 cases w with
 | non|bl _|int _|str _|ty _|fnv _ _=>rw[Bk]at r;subst r;rfl
 | tup _|lst _|kls _=>rw[Bk]at r;obtain⟨_,_,e,_⟩:=r;subst e;rfl
 | loc _=>rw[Bk]at r;obtain⟨_,e,_⟩:=r;subst e;rfl
 | exc _=>rw[Bk]at r;obtain⟨_,_,_,e,_⟩:=r;subst e;rfl
 | exa _ _=>rw[Bk]at r;obtain⟨_,_,_,_,_,_,e,_⟩:=r;subst e;rfl
abbrev kIs:M2:=λx y h Q=>match x,y with
 | .bl c,.bl b=>Q (.bl (c==b)) h
 | w,.non=>Q (.bl (QG w)) h
 | _,_=>False
abbrev J6:M2:=λx y h Q=>match x,y with
 | .bl c,.bl b=>Q (.bl (!(c==b))) h
 | w,.non=>Q (.bl (!QG w)) h
 | _,_=>False
def agl:O7 X (N8 .Is) kIs:=⟨_,ac1.or aak,by
 intro H μ h x y U S Y Q R O J m k;unfold kIs at m;split at m
 exact .inl ⟨_,_,O,J,k _ _<|.bl R m⟩;exact Jt O ▸ .inr ⟨J,k _ _<|.bl R m⟩;cases m⟩
def ac2:O7 X (N8 .IsNot) J6:=⟨_,ajD.or ajI,by
 intro H μ h x y U S Y Q R O J m k;unfold J6 at m;split at m
 exact .inl ⟨_,_,O,J,k _ _<|.bl R m⟩;exact Jt O ▸ .inr ⟨J,k _ _<|.bl R m⟩;cases m⟩
def ahF (bs:List Bool):((Le bs.length).any λi=>(bs[i]?).getD true)=bs.any id:=by
 rw[Xv,V2,V2];constructor;rintro⟨i,hi,e⟩;have J:=Xa.mp hi;exact⟨bs[i],QV J,by simpa[J]using e⟩;rintro⟨b,O,e⟩;obtain⟨i,hi,rfl⟩:=Y4.mp O;exact⟨i,Xa.mpr hi,by simpa[hi]using e⟩
def akL (c:X.calm=true):fj X (.builtin "any") (λxs H Q=>∃(p:Addr) (bs:List Bool),xs=[.ref p]/\Ja X.K H p (bs.map V.bl)/\Q (.bl (bs.any id)) H):=by
 rintro anq s σ H xs us Q I r ⟨p,bs,e,d,q⟩;subst e;obtain⟨u,rfl,Y⟩:=vals1 r;cases Y;obtain⟨its,S,pl,g⟩:=I.list d;have O:its.length=bs.length:=by rw[<-S.length,Bo]
 have J:=pl.isList;refine call_any_walk<|YB J ?_
 refine⟨s.heap.objs.size,[s.heap.objs.size,p],[s.heap.objs.size],its.toArray.size,_,_,λi=>(bs[i]?).getD true,rfl,Walks.list (A:=X.A.in1) (I.ok.hd c) _ p (Ip (by obtain⟨_,e,_⟩:=J;exact Hh e)) _,
  ⟨⟨_,Il _ rfl,rfl,rfl⟩,J.push _⟩,λi v s' h j f U=>?_,λh' tk a=>?_⟩
 obtain⟨b,e,rfl⟩:=yS S (by simpa using f);simp[e]at U;exact Ys U;have e:((Le its.toArray.size).any λi=>(bs[i]?).getD true)=bs.any id:=by
  rw[KH,O];exact ahF bs
 rw[e];refine⟨.bl _,H,I.kept<|λb x e=>?_,rfl,q⟩;exact a b x (λhm=>by rw[QW.mp hm]at e;exact Qo _ (Hh e))<|HJ _ e
abbrev aai:MC:=λws h Q=>match ws with
 | [w]=>(match dF h w with
  | some us=>(match Pr us with
   | some bs=>Q (.bl (bs.any id)) h
   | none=>False)
  | none=>False)
 | _=>False
def aco (S:X.calm=true):fK X (.builtin "any") aai:=⟨_,akL S,by
 intro H μ h vs ws a Q R r m k;unfold aai at m;split at m
 split at m
 split at m
 rename_i w _ us U _ bs Y;obtain⟨v,e,J⟩:=gH r;obtain⟨p,ys,ex,O,rs⟩:=dh R J U;subst e ex;exact⟨p,bs,rfl,Lh rs Y ▸ O,k _ _<|.bl R m⟩;cases m;cases m;cases m⟩
def zbz:KN X (Nx .Add) (λx y H Q=>∃a b ys,x=.ref a/\y=.ref b/\IW X.K H a []/\IW X.K H b ys/\Q (.ref b) H):=by
 rintro anq s σ H x y v u Q I h g ⟨a,b,ys,ex,t,r,p,q⟩;subst ex t;cases h;cases g;obtain⟨its,i,j,_⟩:=I.tuple r;obtain⟨l,z,p2,_⟩:=I.tuple p;cases i;obtain⟨⟨w,dd,e,sl⟩,d,o,n,m⟩:=j;obtain⟨⟨f,Y,c,O⟩,J,U,k,S⟩:=p2;subst o m U S;exact concat_meets ⟨_,d,rfl⟩ ⟨_,J,rfl⟩ noFill_tuple_add seq_tuple_add PySem.F.slot_tuple_add PySem.F.entry_tuple_add (PySem.F.args_tuple_add_2 _ _)
  (tuple_addW0 a b _ _ n k dd Y sl O (by simp)) ⟨d,J,.ref b,H,I,rfl,q⟩
abbrev adI (h:Gh):W->Option (List W)
 | .lst ws=>Go ws
 | .loc n=>(match h.c n with
  | some (.lst ws)=>Go ws
  | _=>JI)
 | _=>JI
def Lp {H h w v}(R:G3 K μ H h)(r:Bk K H μ w v)(e:adI h w=Go ws):∃p xs,v=.ref p/\H p=Go (.lst xs)/\aV K H μ ws xs:=by
 cases w with
 | lst us=>
  obtain⟨p,xs,O,S,rs⟩:=r;cases e;exact⟨p,xs,O,S.1,rs⟩
 | loc n=>
  unfold adI at e;dsimp only at e;cases J:h.c n with
  | none=>rw[J]at e;cases e
  | some U=>
   rw[J]at e;cases U with
   | lst us=>
    cases e;obtain⟨p,xs,O,_,Y,rs⟩:=Yi R r J;simp_all
   | _=>cases e
 | _=>cases e
abbrev bM:M2:=λx y h Q=>match x,y with
 | .int i,.int j=>Q (.int (i+j)) h
 | .tup [],.tup b=>Q (.tup b) h
 | .tup (a0::a),.tup b=>fG (a.length+1+b.length) (Q (.tup (a0::a++b)) h)
 | x,y=>(match adI h x,adI h y with
  | some a,Go b=>fG (a.length+b.length) (Q (.lst (a++b)) h)
  | _,_=>False)
def bC:O7 X (Nx .Add) bM:=⟨_,(abW.or (zbz.or aiy)).or abT,by
 intro H μ h x y o n s Q R d c m k;unfold bM at m;split at m
 exact .inl<|.inl ⟨_,_,d,c,k _ _<|.int R m⟩
 have Y:=c;obtain⟨p,xs,ex,f,J⟩:=d;obtain⟨q,ys,U,e,O⟩:=c;subst J;rw[U]at Y;exact .inl<|.inr<|.inl ⟨p,q,ys,ex,U,f,e,k _ _ ⟨μ,_,h,.refl,R,Y,m⟩⟩
 rename_i r a b;have g:=d;obtain⟨p,xs,ex,f,J⟩:=d;obtain⟨q,ys,U,e,O⟩:=c;refine .inl<|.inr<|.inr ⟨p,q,xs,ys,ex,U,f,e,λz=>(by have:=J.ne_nil.mp z;cases this),by rw[<-J.len,<-O.len];exact m.ok.1,λz=>?_,λz l S=>?_⟩
 cases O.ne_nil.mp z
 refine k _ _ ⟨μ,.tup _,h,.refl,R,?_,m.ok.2⟩
 rwa[Yj,<-ex]
 exact k _ _ ⟨μ,_,h,(Ex.laid S).ext,R.laid S,.tupNew S<|J.append O,m.ok.2⟩;split at m
 rename_i a b j i;obtain⟨p,xs,ex,f,J⟩:=Lp R d j;obtain⟨q,ys,U,e,O⟩:=Lp R c i;exact .inr ⟨p,q,xs,ys,ex,U,f,e,by rw[<-J.len,<-O.len];exact m.ok.1,λl S=>k _ _ ⟨μ,_,h,(Ex.laid S).ext,R.laid S,.lstNew R S<|J.append O,m.ok.2⟩⟩;cases m⟩
variable {o e:Expr}{mo:ME}{ma:MA}{apos ant:Pos}
end
abbrev X4 (K:Az):Sp:=λvs H Q _=>∃(a:Addr) (ns:List Int),vs=[.ref a]/\Ja K H a (ns.map V.int)/\Only H/\ns.length<=63/\∀H',Q (.bl true) H'
abbrev g0:Gh:=⟨0,λ_=>JI⟩
abbrev μ0:Mu:=⟨λ_=>JI,λ_=>False⟩
def aeK {K:Az}{H:Hp}:G3 K μ0 H g0 where
 inj:=nofun
 dom:=nofun
 trk:=nofun
 cel:=nofun
 hd:=λp h=>S7 h
def sI {K:Az}{H:Hp}{μ:Mu}:∀ns:List Int,aV K H μ (ns.map W.int) (ns.map V.int)
 | []=>.nil
 | n::ns=>.cons (by rw[Bk]) (sI ns)
def ajY {P w K}{mg base k}{f fd}{ps}
  (O:∀ns:List Int,ns.length<=63->ms [.kls (ns.map W.int)] g0 (λw _=>w=.bl true) EF) (F:lJ P w K mg base O8 k f fd ps (lift K ms)):lJ P w K mg base O8 k f fd ps (X4 K):=
 F.imp λvs H Q E b=>by
  obtain⟨a,ns,e,J,U,S,q⟩:=b;subst e;refine⟨μ0,g0,[.kls _],_,aeK,.one ?_,O ns S,λv H' ⟨μ',Y,h',_,_,r,e⟩=>?_⟩;refine⟨a,ns.map _,rfl,?_,sI ns⟩;rcases J with(J|J)|J
  rcases U a with z|⟨o,xs,z⟩<;>rw[J]at z<;>cases z
  exact .inl J;exact .inr J;subst e r;exact q H'
inductive Sk where
 | l|t
abbrev Sk.sq (k:Sk)(h:Heap)(a:Addr)(its:Array Mk):Prop:=match k with
 | .l=>h.IsList a its
 | .t=>h.IsTuple a its
abbrev Sk.it (k:Sk)(h:Heap)(i a:Addr)(n:Nat):Prop:=match k with
 | .l=>h.IsListIter i a n
 | .t=>h.IsTupleIter i a n
abbrev Sk.nm:Sk->String
 | .l => "list_iterator"
 | .t => "tuple_iterator"
section
variable {P:Cq}{w:Cd}{A:Cw}{E:Mk->AP->Prop}{s:AP}{k k1 k2:Sk}
def Sk.it_at {h h' i a n}(x:k.it h i a n)(e:∀o,h.get? i=Go o->h'.get? i=Go o):k.it h' i a n:=by
 cases k with
 | l|t=>obtain⟨o,J,r⟩:=x;exact⟨o,e o J,r⟩
def Sk.sq_at {h h' a}{its}(x:k.sq h a its)(e:∀o,h.get? a=Go o->h'.get? a=Go o):k.sq h' a its:=by
 cases k with
 | l|t=>obtain⟨o,J,r⟩:=x;exact⟨o,e o J,r⟩
def Sk.it_obj {h}{i a n}(x:k.it h i a n):∃o,h.get? i=Go o/\o.cls=.type k.nm/\o.data=.fields #[.ref a,.int n 0]:=by
 cases k with
 | l|t=>exact x
def ajF {it t i}{its x}{Q}(hi:s.heap.IsTupleIter it t i)(ht:s.heap.IsTuple t its)(a:its[i]?=Go x)
  (q:∀h',h'.IsTupleIter it t (i+1)->W3 it s.heap h'->Q x {s with heap:=h'}):Bb (Bg P w) A (Xe (.ref it)) Q E s:=by
 obtain⟨o,O,b,J⟩:=id hi;obtain⟨c,S,_,d,U⟩:=ht;refine Ac (X8 hi.typeIs tL
  (SM tL hi.typeIs PySem.F.entry_tuple_iterator_next ?_ (PySem.F.args_tuple_iterator_next_1 _)))
 show Bb _ _ (field _ 0 >>= _) _ _ s;refine Ac<|N7 O J rfl<|Ac<|N7 O J rfl<|Ac<|W6 S U ?_
 simp[a];refine Ac<|Xy O J (by simp)<|Bj ⟨x,rfl,Bj<|q _ ?_<|nP ..⟩
 exact⟨_,RP _ O<|X6<|V8 J _,(Yt ..).trans b,by rw[V8 J];simp[QC]⟩
def yG {it t i}{its}{Q}(hh:A.handled=JI)(hi:s.heap.IsTupleIter it t i)(ht:s.heap.IsTuple t its)(a:its[i]?=JI)
  (q:∀h' e,YM it s.heap h'->(∃o,h'.get? e=Go o/\o.cls=.type "StopIteration")->E (.ref e) {s with heap:=h'}):Bb (Bg P w) A (Xe (.ref it)) Q E s:=by
 obtain⟨o,O,d,U⟩:=id hi;obtain⟨b,J,_,c,S⟩:=ht;refine Ac (X8 hi.typeIs tL
  (SM tL hi.typeIs PySem.F.entry_tuple_iterator_next ?_ (PySem.F.args_tuple_iterator_next_1 _)))
 show Bb _ _ (field (.ref it) 0 >>= _) _ _ s;refine Ac<|N7 O U rfl ?_
 refine Ac<|N7 O U rfl ?_
 refine Ac<|W6 J S ?_
 simp only[Int.toNat_natCast,a];refine Ac<|Ql<|Ac<|Xy O U (by simp) ?_
 refine Ac ?_;refine Ac (m:=Yx _ _)<|wpAny_of_eq (by first|rfl|(rfl)) ?_
 refine Rf ?_<|by size_fits
 refine Ac<|wpAny_handled ?_
 first|rw[hh]|rw[hh]
 refine Ac<|Bj<|YK ?_
 exact q _ _ (((nP ..).extBut.push _).push _) ⟨_,Il _ rfl,rfl⟩
def Sk.next {it a i}{its x}{Q}(hi:k.it s.heap it a i)(hs:k.sq s.heap a its)(J:its[i]?=Go x)
  (q:∀h',k.it h' it a (i+1)->W3 it s.heap h'->Q x {s with heap:=h'}):Bb (Bg P w) A (Xe (.ref it)) Q E s:=by
 cases k with
 | l=>exact wpAny_nextOf_list_item hi hs J q
 | t=>exact ajF hi hs J q
def Sk.stop {it a i}{its}{Q}(hh:A.handled=JI)(hi:k.it s.heap it a i)(hs:k.sq s.heap a its)(J:its[i]?=JI)
  (q:∀h' e,YM it s.heap h'->(∃o,h'.get? e=Go o/\o.cls=.type "StopIteration")->E (.ref e) {s with heap:=h'}):Bb (Bg P w) A (Xe (.ref it)) Q E s:=by
 cases k with
 | l=>exact wpAny_nextOf_list_end hh hi hs J q
 | t=>exact yG hh hi hs J q
def Sk.iter {a}{its}{Q}(hs:k.sq s.heap a its)
  (q:Q (.ref s.heap.objs.size) {s with heap:=s.heap.push {cls:=.type k.nm,data:=.fields #[.ref a,.int 0 0]} }):Bb (Bg P w) A (pyIter (.ref a)) Q E s:=by
 cases k with
 | l=>exact YB hs q
 | t=>exact wpAny_pyIter_tuple hs q
structure Zap (z TI TO i1 i2:Addr):Prop where
 a1:TI≠z
 a2:TO≠z
 a3:i1≠z
 a4:i2≠z
 a5:TI≠TO
 a6:TI≠i1
 a7:TI≠i2
 a8:TO≠i1
 a9:TO≠i2
 b1:i1≠i2
structure Off (a z TO i1 i2:Addr):Prop where
 z:a≠z
 o:a≠TO
 i:a≠i1
 j:a≠i2
def ahH {z TI TO r p W V n1 n2}{xs ys x y a b}{Q}(D:Zap z TI TO r p)(o1:Off W z TO r p)(o2:Off V z TO r p)
  (L:IsZip s.heap z TI TO .none) (gI:Qh s.heap TI (.ref r) (.ref p)) (gO:Qh s.heap TO a b) (g1:k1.it s.heap r W n1) (g2:k2.it s.heap p V n2) (gx:k1.sq s.heap W xs) (gy:k2.sq s.heap V ys)
  (hx:xs[n1]?=Go x) (hy:ys[n2]?=Go y)
  (q:∀h',IsZip h' z TI TO (QC s.heap.objs.size)->Qh h' TO x y->k1.it h' r W (n1+1)->k2.it h' p V (n2+1)->Qh h' s.heap.objs.size x y->h'.objs.size=s.heap.objs.size+1 ->
   (∀c o,c≠z->c≠TO->c≠r->c≠p->s.heap.get? c=Go o->h'.get? c=Go o)->Q (Go (.ref s.heap.objs.size)) {s with heap:=h'}) :
  Bb (Bg P w) A (pyNext (.ref z)) Q E s:=by
 have gT:s.TypeIs (.ref z) "zip":=⟨_,L,rfl⟩
 refine Ac<|Wn<|X8 (name:=Str.ofString "__next__") gT oh<|SM oh gT PySem.F.entry_zip_next ?_<|PySem.F.args_zip_next_1 _
 show Bb _ _ (field (.ref z) 2 >>= _) _ _ _;refine Ac<|N7 L rfl (x:=.bool false) rfl ?_
 refine Ac<|N7 L rfl (x:=.ref TI) rfl ?_
 refine Ac<|W6 gI rfl ?_
 refine Ac ?_;refine Ac<|N7 L rfl (x:=.none) rfl<|Bj ?_
 refine Ac<|Ql ?_
 refine Ac<|N7 L rfl (x:=.ref TO) rfl ?_
 refine Ac<|YW L (by simp) λh₁ N J=>?_
 refine Ac ?_
 -- T first one
 refine Ac<|Ac<|wpAny_onRaise ?_
 show Bb _ _ (Xe (.ref r) >>= _) _ _ _;refine Ac<|Sk.next (k:=k1) (s:={s with heap:=h₁}) (Sk.it_at g1 λo e=>J.extBut _ o D.a3 e) (Sk.sq_at gx λo e=>J.extBut _ o o1.z e) hx λh₂ I S=>Bj ?_
 have n:Qh h₂ TO a b:=S.extBut _ _ D.a8 (J.extBut _ _ D.a2 gO);refine Ac<|W6 n rfl ?_
 refine Ac<|wpAny_updateSeq_pair n λh₃ f O=>?_
 replace f:Qh h₃ TO x b:=f;refine Ac<|wpAny_letGo<|Bj ?_
 -- T Z one
 refine Ac<|Ac<|wpAny_onRaise ?_
 show Bb _ _ (Xe (.ref p) >>= _) _ _ _;refine Ac (Sk.next (k:=k2) (s:={s with heap:=h₃}) (Sk.it_at g2 λo e=>O.extBut _ o D.a9.symm (S.extBut _ o D.b1.symm (J.extBut _ o D.a4 e)))
  (Sk.sq_at gy λo e=>O.extBut _ o o2.o (S.extBut _ o o2.i (J.extBut _ o o2.z e))) hy λh₄ G d=>Bj ?_)
 have m:Qh h₄ TO x b:=d.extBut _ _ D.a9 f;refine Ac<|W6 m rfl ?_
 refine Ac<|wpAny_updateSeq_pair m λh₅ U Y=>?_
 replace U:Qh h₅ TO x y:=U;refine Ac<|wpAny_letGo<|Bj<|Bj ?_
 -- T pair is handed out
 refine Ac<|W6 U rfl ?_
 refine Ac<|wpAny_newTuple ?_
 have v:h₅.objs.size=s.heap.objs.size:=by rw[Y.1,d.1,O.1,S.1,J.1]
 have u:IsZip h₅ z TI TO .ellipsis:=Y.extBut _ _ D.a2.symm (d.extBut _ _ D.a4.symm (O.extBut _ _ D.a2.symm (S.extBut _ _ D.a3.symm N)));have t:∀c o,c≠z->c≠TO->c≠r->c≠p->s.heap.get? c=Go o->h₅.get? c=Go o:=λc o K c2 c3 c4 e=>Y.extBut _ _ c2 (d.extBut _ _ c4 (O.extBut _ _ c2 (S.extBut _ _ c3 (J.extBut _ _ K e))))
 have H:k1.it h₅ r W (n1+1):=Sk.it_at I λo e=>Y.extBut _ o D.a8.symm (d.extBut _ o D.b1 (O.extBut _ o D.a8.symm e))
 have F:k2.it h₅ p V (n2+1):=Sk.it_at G λo e=>Y.extBut _ o D.a9.symm e
 have R:z<h₅.objs.size:=Hh u;show Bb _ _ (Builtin.SmallTypes.ownedTupleHandOut (.ref z) (.ref h₅.objs.size) >>= _) _ _ _;refine Ac ?_;unfold Builtin.SmallTypes.ownedTupleHandOut;have M:IsZip (h₅.push {cls:=.type "tuple",data:=.seq #[x,y]}) z TI TO .ellipsis:=HJ _ u;refine Ac<|YW M (by simp) λh₇ h j=>?_
 replace h:IsZip h₇ z TI TO (QC h₅.objs.size):=h;refine YW h (by simp) λh₈ g i=>?_;replace g:IsZip h₈ z TI TO (QC h₅.objs.size):=g;have X:∀c o,c≠z->h₅.get? c=Go o->h₈.get? c=Go o:=λc o K e=>i.extBut _ _ K (j.extBut _ _ K (HJ _ e))
 have C:Qh h₈ h₅.objs.size x y:=i.extBut _ _ (Nk R) (j.extBut _ _ (Nk R) (Il _ rfl));have l:h₈.objs.size=h₅.objs.size+1:=by rw[i.1,j.1,RQ]
 rw[v]at g C l;refine Bj ⟨_,rfl,Bj ?_⟩;show Q (Go (.ref h₅.objs.size)) _;rw[v];exact q h₈ g (X _ _ D.a2 U) (Sk.it_at H λo e=>X _ o D.a3 e) (Sk.it_at F λo e=>X _ o D.a4 e) C l λc o K c2 c3 c4 e=>X c o K<|t c o K c2 c3 c4 e
def ajb {z TI TO j t v K G I}{xs ys a b}{Q}(hh:A.handled=JI)(D:Zap z TI TO j t)(o1:Off v z TO j t)(H:Off K z TO j t)
  (u:IsZip s.heap z TI TO .none) (gI:Qh s.heap TI (.ref j) (.ref t)) (gO:Qh s.heap TO a b) (g1:k1.it s.heap j v G) (g2:k2.it s.heap t K I) (gx:k1.sq s.heap v xs) (gy:k2.sq s.heap K ys)
  (B:xs[G]?=JI\/ys[I]?=JI)
  (q:∀h',(∀c o,c≠z->c≠TO->c≠j->c≠t->s.heap.get? c=Go o->h'.get? c=Go o)->Q JI {s with heap:=h'}):Bb (Bg P w) A (pyNext (.ref z)) Q E s:=by
 have Z:s.TypeIs (.ref z) "zip":=⟨_,u,rfl⟩
 have C:∀(h':Heap) (e:Addr),(∀c o,c≠z->c≠TO->c≠j->c≠t->s.heap.get? c=Go o->h'.get? c=Go o)->(∃o,h'.get? e=Go o/\o.cls=.type "StopIteration") ->
   Bb (Bg P w) A (do if <-Xn (.ref e) (.type "StopIteration")then pure JI else throw (.ref e)) Q E {s with heap:=h'}:=λh' e X ⟨o,ho,hc⟩=>
  Ac (wpAny_isInstance (T := "StopIteration") (b:=true) ⟨o,ho,hc⟩ isSubtype_stop (Bj (q _ X)))
 refine Ac<|Wn<|X8 (name:=Str.ofString "__next__") Z oh<|SM oh Z PySem.F.entry_zip_next ?_<|PySem.F.args_zip_next_1 _
 show Bb _ _ (field (.ref z) 2 >>= _) _ _ _;refine Ac<|N7 u rfl (x:=.bool false) rfl ?_
 refine Ac<|N7 u rfl (x:=.ref TI) rfl ?_
 refine Ac<|W6 gI rfl ?_
 refine Ac ?_;refine Ac<|N7 u rfl (x:=.none) rfl<|Bj ?_
 refine Ac<|Ql ?_
 refine Ac<|N7 u rfl (x:=.ref TO) rfl ?_
 refine Ac<|YW u (by simp) λh₁ n S=>?_
 refine Ac ?_;simp only[List.zipIdx_cons,List.zipIdx_nil,Yq,List.forIn_nil];refine Ac<|Ac<|wpAny_onRaise ?_
 show Bb _ _ (Xe (.ref j) >>= _) _ _ _;have i:k1.it h₁ j v G:=Sk.it_at g1 λo e=>S.extBut _ o D.a3 e
 have f:k1.sq h₁ v xs:=Sk.sq_at gx λo e=>S.extBut _ o o1.z e
 cases L:xs[G]? with
 | none=>
  refine Ac<|Sk.stop (k:=k1) (s:={s with heap:=h₁}) hh i f L λh₂ e J M=>?_
  obtain⟨oe,U,d⟩:=M;have m:IsZip h₂ z TI TO .ellipsis:=J _ _ D.a3.symm n;have V:e≠z:=λy=>by subst y;rw[m]at U;cases U;simp at d
  refine YW m (by simp) λh₃ _ O=>C h₃ e (λc o F _ W _ y=>O.extBut _ _ F<|J _ _ W<|S.extBut _ _ F y) ⟨oe,O.extBut _ _ V U,d⟩
 | some x=>
  have hy:ys[I]?=JI:=by
   rcases B with h|h
   rw[L]at h;cases h;exact h
  refine Ac<|Sk.next (k:=k1) (s:={s with heap:=h₁}) i f L λh₂ R J=>Bj ?_
  have g:Qh h₂ TO a b:=J.extBut _ _ D.a8 (S.extBut _ _ D.a2 gO);refine Ac<|W6 g rfl ?_
  refine Ac<|wpAny_updateSeq_pair g λh₃ N O=>?_
  refine Ac<|wpAny_letGo<|Bj ?_
  refine Ac<|Ac<|wpAny_onRaise ?_
  show Bb _ _ (Xe (.ref t) >>= _) _ _ _;refine Ac (Sk.stop (k:=k2) (s:={s with heap:=h₃}) hh (Sk.it_at g2 λo e=>O.extBut _ o D.a9.symm (J.extBut _ o D.b1.symm (S.extBut _ o D.a4 e)))
   (Sk.sq_at gy λo e=>O.extBut _ o H.o (J.extBut _ o H.i (S.extBut _ o H.z e))) hy λh₄ e r M=>?_)
  obtain⟨oe,U,d⟩:=M;have l:IsZip h₄ z TI TO .ellipsis:=r _ _ D.a4.symm (O.extBut _ _ D.a2.symm (J.extBut _ _ D.a3.symm n));have V:e≠z:=λy=>by subst y;rw[l]at U;cases U;simp at d
  refine YW l (by simp) λh₅ _ p=>C h₅ e (λc o F c2 W c4 y=>p.extBut _ _ F<|r _ _ c4<|O.extBut _ _ c2<|J.extBut _ _ W<|S.extBut _ _ F y) ⟨oe,p.extBut _ _ V U,d⟩
@[reducible]noncomputable def zh1 (k1:Sk)(h:Heap)(J:Addr):Heap:=h.push {cls:=.type k1.nm,data:=.fields #[.ref J,.int 0 0]}
@[reducible]noncomputable def zh2 (k1 k2:Sk)(h:Heap)(O J:Addr):Heap:=(zh1 k1 h O).push {cls:=.type k2.nm,data:=.fields #[.ref J,.int 0 0]}
@[reducible]noncomputable def zh3 (k1 k2:Sk)(h:Heap)(J O:Addr):Heap:=(zh2 k1 k2 h J O).push {cls:=.type "tuple",data:=.seq #[.ref h.objs.size,.ref (zh1 k1 h J).objs.size]}
@[reducible]noncomputable def zh4 (k1 k2:Sk)(h:Heap)(O J:Addr):Heap:=(zh3 k1 k2 h O J).push {cls:=.type "tuple",data:=.seq #[.none,.none]}
@[reducible]noncomputable def zh5 (k1 k2:Sk)(h:Heap)(O J:Addr):Heap:=(zh4 k1 k2 h O J).push {cls:=.type "zip",data:=.fields #[.none,.bool false,.bool false,.ref (zh2 k1 k2 h O J).objs.size,.ref (zh3 k1 k2 h O J).objs.size]}
def alT (J O)(xs ys):Meets (Wy.«zip.__new__» ⟨[.type "zip",.ref J,.ref O],[]⟩) (λ_ R s=>k1.sq s.heap J xs/\k2.sq s.heap O ys /\
   R (.ok (.ret (.ref (zh4 k1 k2 s.heap J O).objs.size))) {s with heap:=zh5 k1 k2 s.heap J O}):=
 .of_wp λprog w A R s h=>by
  obtain⟨b,g,d,tk,os⟩:=s;obtain⟨U,S,h⟩:=h;have a:=sub_zip;have f:k1.sq (Shared.heap ⟨b,g,d,tk,os⟩) J xs:=U;have Y:k2.sq (Shared.heap ⟨b.push {cls:=.type k1.nm,data:=.fields #[.ref J,.int 0 0]},g,d,tk,os⟩) O ys:=Sk.sq_at S λo e=>HJ _ e
  wp_walk using Sk.iter f,Sk.iter Y
  exact⟨_,rfl,h⟩
def aia {J O}{xs ys Q}(U:k1.sq s.heap J xs)(S:k2.sq s.heap O ys)
  (q:∀h',IsZip h' (s.heap.objs.size+4) (s.heap.objs.size+2) (s.heap.objs.size+3) .none->Qh h' (s.heap.objs.size+2) (.ref s.heap.objs.size) (.ref (s.heap.objs.size+1)) ->
   Qh h' (s.heap.objs.size+3) .none .none->k1.it h' s.heap.objs.size J 0->k2.it h' (s.heap.objs.size+1) O 0->h'.objs.size=s.heap.objs.size+5 ->
   (∀c o,s.heap.get? c=Go o->h'.get? c=Go o)->Q (.ref (s.heap.objs.size+4)) {s with heap:=h'}):Bb (Bg P w) A (call (.type "zip") [.ref J,.ref O]) Q E s:=by
 refine callType_new PySem.F.called_zip (by decide) (PySem.F.typeCall_zip_2 _ _) (PySem.F.newCall_zip_2 _ _) (λobj=>PySem.F.args_object_init_3 obj _ _) PySem.F.entry_zip_new (alT J O xs ys) ⟨U,S,?_⟩;have e1:(zh1 k1 s.heap J).objs.size=s.heap.objs.size+1:=RQ ..;have e2:(zh2 k1 k2 s.heap J O).objs.size=s.heap.objs.size+2:=by rw[RQ,e1]
 have e3:(zh3 k1 k2 s.heap J O).objs.size=s.heap.objs.size+3:=by rw[RQ,e2]
 have e4:(zh4 k1 k2 s.heap J O).objs.size=s.heap.objs.size+4:=by rw[RQ,e3]
 have Y:(zh5 k1 k2 s.heap J O).get? (zh4 k1 k2 _ J O).objs.size=Go _:=Il _ rfl;have d:(zh5 k1 k2 s.heap J O).get? (zh3 k1 k2 _ J O).objs.size=Go _:=HJ _ (Il _ rfl);have e:(zh5 k1 k2 s.heap J O).get? (zh2 k1 k2 _ J O).objs.size=Go _:=HJ _ (HJ _ (Il _ rfl));have a:(zh5 k1 k2 s.heap J O).get? (zh1 k1 s.heap J).objs.size=Go _:=HJ _ (HJ _ (HJ _ (Il _ rfl)));have f:(zh5 k1 k2 _ J O).get? s.heap.objs.size=Go _:=HJ _ (HJ _ (HJ _ (HJ _ (Il _ rfl))));rw[e2,e3,e4]at Y;rw[e1,e2]at e;rw[e3]at d;rw[e1]at a;rw[e4];refine⟨⟨_,Y,rfl⟩,q _ Y e d ?_ ?_ (by rw[RQ,e4]) λc o x=>HJ _<|HJ _<|HJ _<|HJ _<|HJ _ x⟩
 ·cases k1 with
  | l=>exact⟨_,f,rfl,rfl⟩
  | t=>exact⟨_,f,rfl,rfl⟩
 ·cases k2 with
  | l=>exact⟨_,a,rfl,rfl⟩
  | t=>exact⟨_,a,rfl,rfl⟩
end
section
variable {X:Cx}{anq:List (Addr×Obj)}{σ:St}{H:Hp}{s:AP}{h':Heap}
def Aw.turnedL {t'}{ch:List Addr}(I:Aw X anq σ H s)(k:∀b o,b∉ch->s.heap.get? b=Go o->h'.get? b=Go o)(O:∀b∈ch,Jj X anq H b):Aw X anq σ H {s with heap:=h',toks:=t'}:=by
 have U:∀b u,H b=Go u->b∉ch:=λb u e z=>by rw[(O b z).1]at e;cases e
 refine I.step (λb d=>?_) (λb o _ _ J e _=>k b o J e) (λb o _ _ J e _=>⟨o.slots,k b o J e⟩) (λ_ _ _ _ n=>n)
  (λb o J e=>⟨o,k b o J e⟩) (λ_ _ e=>e) (λ_ _ _ e=>e) (λb ps e=>⟨#[],by rw[e];simp⟩) (λm a=>?_) (λb u e=>?_) I.bare
 obtain⟨_,i,_,h,g,f⟩:=O b d;exact⟨h,i,g,f⟩;obtain⟨o,es,ep,Y,r⟩:=a;exact⟨o,es,ep,k _ o (λz=>(O _ z).2.1 rfl) Y,r⟩;refine(I.hok b u e).stay (λc v J q=>k c v ?_ q) (λ_ q=>q) λ_ _ q=>q;grind
end
abbrev Sk.v (k:Sk)(K:Az)(H:Hp)(a:Addr)(xs:List V):Prop:=match k with
 | .l=>Ja K H a xs
 | .t=>IW K H a xs
def Aw.sk {X}{anq}{σ:St}{H s}{k:Sk}{a}{xs}(I:Aw X anq σ H s)(h:k.v X.K H a xs):∃its,BL xs its/\k.sq s.heap a its.toArray:=by
 cases k with
 | l=>obtain⟨its,r,p,_⟩:=I.list h;exact⟨its,r,p.isList⟩
 | t=>obtain⟨its,r,p,_⟩:=I.tuple h;exact⟨its,r,p⟩
def Aw.sk_inj {X}{anq}{σ:St}{H s}{k:Sk}{a}{xs ys}(I:Aw X anq σ H s)(h:k.v X.K H a xs)(g:k.v X.K H a ys):xs=ys:=by
 cases k with
 | l=>exact I.list_inj h g
 | t=>exact I.tuple_inj h g
abbrev Itz (K:Az)(k1 k2:Sk)(O J:Addr):It:=
  ⟨λi H=>∃xs ys x y,k1.v K H O xs/\k2.v K H J ys/\xs[i]?=Go x/\ys[i]?=Go y,
   λi H v H'=>∃p x y,H p=JI/\v=.ref p/\H'=Cu H p (.tup [x,y])/\(∀xs,k1.v K H O xs->xs[i]?=Go x)/\∀ys,k2.v K H J ys->ys[i]?=Go y,
   λi H=>∃xs ys,k1.v K H O xs/\k2.v K H J ys/\(xs.length<=i\/ys.length<=i),true⟩
abbrev ae6 (k1 k2:Sk)(z TI TO O J U S:Addr)(n:Nat)(h:Heap):Prop:=IsZip h z TI TO .none/\Qh h TI (.ref O) (.ref J)/\(∃a b,Qh h TO a b)/\k1.it h O U n/\k2.it h J S n
variable {elts:List Expr}
def aiu {P:Cq}{w:Cd}{K:Az}{pos:Pos}{k1 k2:Sk}{z TI TO Y U A t:Addr}(D:Zap z TI TO Y U)(o1:Off A z TO Y U)(o2:Off t z TO Y U):
  Turn P w K (.Tuple elts kt pos) (Itz K k1 k2 A t) [z,TI,TO,Y,U] z (ae6 k1 k2 z TI TO Y U A t) where
 mem:=by simp
 obj:=λi h st b J=>by
  obtain⟨g,f,⟨a,b',j⟩,m,l⟩:=st;simp at J;rcases J with rfl|rfl|rfl|rfl|rfl
  exact⟨_,g,nofun⟩;exact⟨_,f,λv y=>by cases y⟩;exact⟨_,j,nofun⟩;obtain⟨o,e,_,d⟩:=Sk.it_obj m;exact⟨o,e,λv y=>by rw[d]at y;cases y⟩;obtain⟨o,e,_,d⟩:=Sk.it_obj l;exact⟨o,e,λv y=>by rw[d]at y;cases y⟩
 keep:=λi h h' st k=>by
  obtain⟨g,f,⟨a,b,j⟩,m,l⟩:=st;exact⟨k z (by simp) _ g,k TI (by simp) _ f,⟨a,b,k TO (by simp) _ j⟩,Sk.it_at m λo e=>k Y (by simp) o e,Sk.it_at l λo e=>k U (by simp) o e⟩
 item:=by
  intro X V R W S i anq s σ H E I F st T;subst V R W;obtain⟨g,f,⟨a,b,j⟩,m,l⟩:=st;obtain⟨xs,ys,x,y,C,B,ex,ey⟩:=T;obtain⟨its,M,N⟩:=I.sk C;obtain⟨Q,L,p2⟩:=I.sk B;obtain⟨u,hu,ru⟩:=M.get ex;obtain⟨v,hv,rv⟩:=L.get ey;refine ahH D o1 o2 g f j m l N p2 (x:=u) (y:=v) (by simpa using hu) (by simpa using hv) λh1 z1 O1 g1' Z T1 G O=>⟨_,rfl,?_⟩;have lt:∀b∈[z,TI,TO,Y,U],s.heap.objs.size≠b:=λb J=>by
   simp at J;rcases J with rfl|rfl|rfl|rfl|rfl
   exact(Nk<|Hh g);exact Nk<|Hh f
   exact Nk<|Hh j
   obtain⟨o,e,_⟩:=Sk.it_obj m;exact Nk (Hh e);obtain⟨o,e,_⟩:=Sk.it_obj l;exact Nk (Hh e)
  have all:∀c o,c∉[z,TI,TO,Y,U]->s.heap.get? c=Go o->h1.get? c=Go o:=λc o S e=>
   O c o (λq=>S (by simp[q])) (λq=>S (by simp[q])) (λq=>S (by simp[q])) (λq=>S (by simp[q])) e
  refine wpAny_letOwnedTupleGo_zip z1 λh2 z2 n=>?_;have I1:Aw X anq σ (Cu H s.heap.objs.size (.tup [x,y])) {s with heap:=s.heap.push {cls:=.type "tuple",data:=.seq #[u,v]} }:=
   I.laid (λb o e=>HJ _ e) (Cm _) ⟨(by show 2<=HB;decide),[u,v],.cons ru (.cons rv .nil),⟨_,Il _ rfl,rfl,⟨_,rfl⟩,rfl⟩⟩
  have p:∀b∈[z,TI,TO,Y,U],Jj X anq (Cu H s.heap.objs.size (.tup [x,y])) b:=λb J=>⟨by rw[aN (Jp (lt b J))];exact(F b J).1,(F b J).2⟩
  have I2:=by
   refine Aw.turnedL (h':=h2) (t':=s.toks) I1 (λb o J e=>?_) p;have bz:b≠z:=λq=>J (by simp[q])
   rcases Heap.get?_push_cases e with⟨rfl,rfl⟩|e'
   exact n.extBut _ _ bz T1;exact n.extBut _ _ bz<|all b o J e'
  refine⟨.ref s.heap.objs.size,_,I2,rfl,⟨s.heap.objs.size,x,y,(I.hok.fresh<|Cm _),rfl,rfl,λxs' q=>by rw[I.sk_inj q C];exact ex,λys' q=>by rw[I.sk_inj q B];exact ey⟩,?_,λb J=>(p b J).1⟩;exact⟨z2,n.extBut _ _ D.a1<|O _ _ D.a1 D.a5 D.a6 D.a7 f,⟨u,v,n.extBut _ _ D.a2 O1⟩,Sk.it_at g1' λo e=>n.extBut _ o D.a3 e,Sk.it_at Z λo e=>n.extBut _ o D.a4 e⟩
 done:=by
  intro X V R W S i anq s σ H E I F st T;subst V R W;obtain⟨g,f,⟨a,b,j⟩,m,l⟩:=st;obtain⟨xs,ys,C,B,r⟩:=T;obtain⟨its,M,N⟩:=I.sk C;obtain⟨Q,L,p2⟩:=I.sk B;have A:=M.length;have t:=L.length;refine ajb (I.ok.hd<|S rfl) D o1 o2 g f j m l N p2 (r.imp (λq=>by simp;lia) λq=>by simp;lia) λh1 O=>⟨rfl,I.turnedL (t':=s.toks) (λc o S e=>?_) F⟩;exact O c o (λq=>S<|by simp[q]) (λq=>S<|by simp[q]) (λq=>S<|by simp[q]) (λq=>S<|by simp[q]) e
 self:=λ_ _ _ _ _ st h=>wpAny_pyIter_zip st.1 h
section
variable {X:Cx}{K:Az}
abbrev sqk (K:Az)(H:Hp)(x:V)(k:Sk)(a:Addr):Prop:=x=.ref a/\∃xs,k.v K H a xs
abbrev agh (K:Az)(ta:TA):TI:=fun σ H R=>ta σ H λvs H1=>∃x y k1 k2 a b,vs=[x,y]/\sqk K H1 x k1 a/\sqk K H1 y k2 b/\R (Itz K k1 k2 a b) H1
def Sk.sq_lt {k:Sk}{h a}{its}(x:k.sq h a its):a<h.objs.size:=by
 cases k with
 | l|t=>obtain⟨o,e,_⟩:=x;exact Hh e
def mW {a b:Nat}(h:a≠b):(show Addr from a)≠(show Addr from b):=h
def aaM (n:Nat):Zap (n+4) (n+2) (n+3) n (n+1) where
 a1:=mW (show n+2≠n+4 by lia)
 a2:=mW (show n+3≠n+4 by lia)
 a3:=mW (show n≠n+4 by lia)
 a4:=mW (show n+1≠n+4 by lia)
 a5:=mW (show n+2≠n+3 by lia)
 a6:=mW (show n+2≠n by lia)
 a7:=mW (show n+2≠n+1 by lia)
 a8:=mW (show n+3≠n by lia)
 a9:=mW (show n+3≠n+1 by lia)
 b1:=mW (show n≠n+1 by lia)
def Tq {a n:Nat}(h:a<n):Off a (n+4) (n+3) n (n+1) where
 z:=mW (show a≠n+4 by lia)
 o:=mW (show a≠n+3 by lia)
 i:=mW (show a≠n by lia)
 j:=mW (show a≠n+1 by lia)
def aeU {n c}(h:c∈([n+4,n+2,n+3,n,n+1]:List Nat)):n<=c:=by grind
def adf {e1 e2:Expr}{ta:TA}{p pos tpos:Pos}(hg:Gl X "zip")(hm:X.mg "zip" = JI)(ha:PA X [e1,e2] ta)
  (hs:autoParam (Ck [e1,e2] X.env=(false,eval e1 X.env)::Ck [e2] X.env) aPq._auto_1) (hpl:autoParam ((JD pos (Ck [e2] X.env)).any (·.1)=false) aPq._auto_1) :
  PI X (.Tuple elts kt tpos) (.Call (.Name "zip" p) [e1,e2] [] pos) (agh X.K ta):=by
 intro anq s σ H R I h;refine YF<|rO I hg hm boot_zip (Zm (Hg (ha pos anq s σ H _ I h) λus s1 ⟨vs,H1,I1,r1,q1⟩=>?_) hs hpl) (by decide)<|by decide
 obtain⟨x,y,k1,k2,a,b,ev,⟨ex,xs,hx⟩,⟨ey,ys,hy⟩,q⟩:=q1;subst ev ex ey;obtain⟨u1,u2,eu,ru1,ru2⟩:=vals2 r1;subst eu;cases ru1;cases ru2;obtain⟨its,r1,p1⟩:=I1.sk hx;obtain⟨jts,r2,p2⟩:=I1.sk hy;have la:=Sk.sq_lt p1;have lb:=Sk.sq_lt p2;refine aia p1 p2 λh' gz gI gO g1 g2 size all=>(wpAny_pyIter_zip gz ?_);generalize hn:s1.heap.objs.size=n at gz gI gO g1 g2 size la lb|-
 refine⟨n+4,[n+4,n+2,n+3,n,n+1],_,_,H1,rfl,(I1.kept all),aiu (aaM n) (Tq la)<|Tq lb,⟨gz,gI,⟨_,_,gO⟩,g1,g2⟩,λc hc=>?_,q⟩;have hc':=aeU hc;exact I1.fpOk (hn ▸ hc')<|I1.hok.fresh<|hn ▸ hc'
abbrev pC:List W->List W->List W
 | a::as,b::bs=>.tup [a,b]::pC as bs
 | _,_=>[]
def pP:∀{as bs}{i:Nat}{w},(pC as bs)[i]?=Go w->∃a b,as[i]?=Go a/\bs[i]?=Go b/\w=.tup [a,b]
 | a::as,b::bs,0,w,e=>⟨a,b,rfl,rfl,(IV e).symm⟩
 | a::as,b::bs,i+1,w,e=>by
  obtain⟨x,y,h1,h2,J⟩:=pP (by simpa[pC]using e);simp_all
def vf:∀{as bs},(pC as bs).length=min as.length bs.length
 | [],bs|_::_,[]=>by simp[pC]
 | a::as,b::bs=>by rw[pC,PN,vf,PN,PN];lia
abbrev nQ:W->Option (List W)
 | .tup ws=>Go ws
 | .lst ws=>Go ws
 | .kls ws=>Go ws
 | _=>JI
def FW {H w v}(r:Bk K H μ w v)(e:nQ w=Go ws):∃k a,v=.ref a/\∀{H2 μ2},Ib K H μ H2 μ2->∃xs,Sk.v k K H2 a xs/\aV K H2 μ2 ws xs:=by
 cases w with
 | tup us=>
  cases e;have S:=r;obtain⟨p,xs,J,O,rs⟩:=r;subst J;refine⟨.t,p,rfl,λ{H2 μ2} x=>?_⟩;obtain⟨q,ys,J,O,rs⟩:=(x.r _ _ S)
  cases J;exact⟨ys,O,rs⟩
 | lst us|kls us=>
  cases e;have S:=r;obtain⟨p,xs,J,O,rs⟩:=r;subst J;refine⟨.l,p,rfl,λ{H2 μ2} x=>?_⟩;obtain⟨q,ys,J,O,rs⟩:=(x.r _ _ S)
  cases J;exact⟨ys,O.sq,rs⟩
 | _=>cases e
abbrev Ks (h:Gh)(x y:W):Option Src:=match nQ x,nQ y with
 | some as,Go bs=>Go ⟨pC as bs,JI⟩
 | none,Go bs=>(match x with
  | .loc n=>(match h.c n with
   | some (.lst as)=>Go ⟨pC as bs,Go (n,as)⟩
   | _=>JI)
  | _=>JI)
 | _,_=>JI
def akD {H h w v}{o}(R:G3 K μ H h)(r:Bk K H μ w v)(e:(nQ w=Go ws/\o=JI)\/∃n,w=.loc n/\h.c n=Go (.lst ws)/\o=Go (n,ws)):
  ∃k a,v=.ref a/\∀{H2 μ2 h2},Ib K H μ H2 μ2->G3 K μ2 H2 h2->Src.chk ⟨ws,o⟩ h2->∃xs,Sk.v k K H2 a xs/\aV K H2 μ2 ws xs:=by
 rcases e with⟨e,rfl⟩|⟨n,rfl,g,rfl⟩
 obtain⟨k,a,S,f⟩:=FW r e;exact⟨k,a,S,λx _ _=>f x⟩;have U:=r;obtain⟨p,S,d⟩:=r;subst S;refine⟨.l,p,rfl,λ{H2 μ2 h2} x R2 c=>?_⟩;obtain⟨q,b,O⟩:=(x.r _ _ U)
 cases b;obtain⟨p',xs,J,Y,rs⟩:=R2.lstAt c;cases by rw[O]at J;exact(IV J).symm
 exact⟨xs,.of Y,rs⟩
def akE {h:Gh}{x y:W}{s:Src}(e:Ks h x y=Go s):∃as bs o,s=⟨pC as bs,o⟩/\((nQ x=Go as/\o=JI)\/∃n,x=.loc n/\h.c n=Go (.lst as)/\o=Go (n,as))/\nQ y=Go bs:=by
 unfold Ks at e;grind
abbrev Yy (ma:MA):MI:=fun σ h R=>ma σ h λws h1=>match ws with
 | [x,y]=>(match Ks h1 x y with
  | some s=>R s h1
  | none=>False)
 | _=>False
def Gm {e1 e2}{p pos tpos}(hg:Gl X "zip")(hm:X.mg "zip" = JI)(ha:LR X [e1,e2] mr)
  (hs:autoParam (Ck [e1,e2] X.env=(false,eval e1 X.env)::Ck [e2] X.env) aPq._auto_1) (hpl:autoParam ((JD pos (Ck [e2] X.env)).any (·.1)=false) aPq._auto_1) :
  VL X (.Tuple elts kt tpos) (.Call (.Name "zip" p) [e1,e2] [] pos) (Yy mr):=PI.of (adf hg hm ha hs hpl) fun σ H Q e=>by
 obtain⟨μ,h,σw,Rw,R,S,m,k⟩:=e;refine⟨μ,h,σw,_,R,S,m,λvs H1 c=>?_⟩;obtain⟨μ1,ws,h1,e1,R1,r1,m1⟩:=c;split at m1
 split at m1
 rename_i x y _ s es;obtain⟨as,bs,o,rfl,ea,eb⟩:=akE es;obtain⟨v,u,ev,rv,ru⟩:=Ba r1;obtain⟨ka,a,e3,fa⟩:=akD R1 rv ea;obtain⟨kb,b,e4,fb⟩:=FW ru eb;have ck1:Src.chk ⟨as,o⟩ h1:=by
  rcases ea with⟨_,rfl⟩|⟨n,_,ec,rfl⟩
  exact trivial;exact ec
 obtain⟨xs,hxs,_⟩:=fa .refl R1 ck1;obtain⟨ys,hys,_⟩:=fb .refl;refine⟨v,u,ka,kb,a,b,ev,⟨e3,xs,hxs⟩,⟨e4,ys,hys⟩,k _ _ ⟨μ1,⟨pC as bs,o⟩,h1,e1,R1,?_,m1⟩⟩;intro H2 μ2 h2 i e2 R2 ck;obtain⟨xs2,hxs2,rxs⟩:=fa e2 R2 ck;obtain⟨ys2,hys2,rys⟩:=fb e2;refine⟨λw ew=>?_,λhl=>⟨xs2,ys2,hxs2,hys2,?_⟩⟩;obtain⟨p1,p2,ep1,ep2,rfl⟩:=pP ew;obtain⟨q1,eq1,rq1⟩:=rxs.get ep1;obtain⟨q2,eq2,rq2⟩:=rys.get ep2;refine⟨⟨xs2,ys2,q1,q2,hxs2,hys2,eq1,eq2⟩,λx' H3 d=>?_⟩;obtain⟨pa,x1,x2,hp,ex',eH3,f1,f2⟩:=d;have g1:=f1 xs2 hxs2;have g2:=f2 ys2 hys2;rw[eq1]at g1;rw[eq2]at g2;cases g1;cases g2;subst ex' eH3;exact⟨μ2,(Ex.laid hp).ext,R2.laid hp,.tupNew hp<|.cons rq1<|.one rq2⟩;have l1:=rxs.len;have l2:=rys.len;have:=vf ▸ hl
 lia;cases m1;cases m1
end
variable {e1 e2:Expr}
section
variable {X:Cx}{K:Az}
def wY:∀{ns:List Int}{its i}{v:Mk},BL (ns.map V.int) its->its[i]?=Go v->∃t,v=.int (ns.getD i 0) t
 | [],_,_,_,.nil,e=>by simp at e
 | n::ns,_,0,_,.cons r _,e=>by
  simp at e;subst e;exact r
 | _::ns,_,i+1,v,.cons _ t,e=>by
  obtain⟨J,h⟩:=wY t (by simpa using e)
  simp_all
def qO (ns:List Int):∀k,k<=ns.length->preSum (λi=>ns.getD i 0) k=(ns.take k).sum
 | 0,_=>by simp[preSum]
 | k+1,h=>by
  rw[preSum,qO ns k (by lia),Ik,List.sum_append,Hw _];show _=_+(ns[k]+0);grind
def akj (g:X.calm=true):fj X (.builtin "sum") (λxs H Q=>∃(p:Addr) (ns:List Int),xs=[.ref p]/\Ja X.K H p (ns.map V.int)/\Q (.int ns.sum) H):=by
 rintro anq s σ H xs us Q I r ⟨p,ns,e,h,q⟩;subst e;obtain⟨u,rfl,a⟩:=vals1 r;cases a;obtain⟨its,U,pl,l⟩:=I.list h;have S:its.length=ns.length:=by rw[<-U.length,Bo]
 have O:=pl.isList;have J:p<s.heap.objs.size:=by obtain⟨_,e,_⟩:=O;exact Hh e
 refine call_sum_walkAnyS<|YB O ?_
 refine⟨s.heap.objs.size,[s.heap.objs.size,p],[s.heap.objs.size],_,its.toArray.size,_,_,λi=>ns.getD i 0,rfl,(Walks.list (A:=X.A.in1) (I.ok.hd g) _ p (Ip J) _).toS,
  ⟨⟨_,Il _ rfl,rfl,rfl⟩,O.push _⟩,λb m=>?_,λi v j=>wY U (by simpa using j),λs' Y hm=>?_⟩
 rw[RQ];grind
 have e:preSum (λi=>ns.getD i 0) its.toArray.size=ns.sum:=by rw[KH,S,qO ns _ (Cm _),J8]
 rw[e];obtain⟨hh,n,dd,tt,k⟩:=s';have d:=hm.gens;have f:=hm.drawn;have c:=hm.os;subst d f c;refine⟨.int _,H,I.kept<|λb x e=>?_,⟨Y,rfl⟩,q⟩;exact hm.heap b x (λhm=>by rw[QW.mp hm]at e;exact Qo _ (Hh e))<|HJ _ e
abbrev rT:List W->Option (List Int)
 | []=>Go []
 | .int i::ws=>(rT ws).map (i::·)
 | _=>JI
def wQ {H μ}:∀{ws xs}{ns},aV K H μ ws xs->rT ws=Go ns->xs=ns.map V.int
 | [],xs,ns,r,e=>by
  cases e;exact r
 | w::ws,xs,ns,r,e=>by
  obtain⟨v,S,O,J,r⟩:=r;cases w with
  | int b=>
   rw[rT]at e;cases q:rT ws with
   | none=>rw[q]at e;cases e
   | some U=>
    rw[q]at e;cases e;rw[O,J,wQ r q];rfl
  | _=>cases e
abbrev Zh:MC:=λws h Q=>match ws with
 | [w]=>(match dF h w with
  | some us=>(match rT us with
   | some ns=>Q (.int ns.sum) h
   | none=>False)
  | none=>False)
 | _=>False
def acI (S:X.calm=true):fK X (.builtin "sum") Zh:=⟨_,akj S,by
 intro H μ h vs ws a Q R r m k;unfold Zh at m;split at m
 split at m
 split at m
 rename_i w _ us U _ ns Y;obtain⟨v,e,J⟩:=gH r;obtain⟨p,ys,ex,O,rs⟩:=dh R J U;subst e ex;exact⟨p,ns,rfl,wQ rs Y ▸ O,k _ _<|.int R m⟩;cases m;cases m;cases m⟩
end
section
variable {P:Cq}{w:Cd}{A:Cw}{E:Mk->AP->Prop}{s:AP}
end
section
variable {X:Cx}{K:Az}
end
section
variable {X:Cx}
end
section
variable {X:Cx}{K:Az}
end
def G5 {K H}:aV K H μ [] []:=rfl
def jU {K H w v}{vs}(h:Bk K H μ w v)(t:aV K H μ ws vs):aV K H μ (w::ws) (v::vs):=⟨v,vs,rfl,h,t⟩
def uW {K H}{i}:Bk K H μ (.int i) (.int i):=rfl
variable {sl:Array (Option Mk)}
def mX {K:Az}{a:Addr}{its:Array Mk}{n:Nat}{xs:List V}(h:K.lookup a=Go ⟨.type "tuple",JI,.seq its n,sl⟩)(hz:its.size<=HB)(J:BL xs its.toList)(O:∀H μ,aV K H μ ws xs):∀H μ,Bk K H μ (.tup ws) (.ref a):=by
 intro H μ;exact⟨a,xs,rfl,.inr ⟨_,its,n,h,rfl,rfl,hz,J,rfl⟩,O H μ⟩
def Je {i}{t}:RelV (.int i) (.int i t):=⟨t,rfl⟩
def adN {a}:RelV (.ref a) (.ref a):=rfl
section
variable {prog:Cq}{w:Cd}{A:Cw}{E:Mk->AP->Prop}{s:AP}
def Aa {it t}{items}(S:t≠it):∀n i s  (Q),s.heap.IsListIter it t i->s.heap.IsList t items->i+n<=items.size ->
  (∀h',h'.IsListIter it t (i+n)->W3 it s.heap h'->Q ((items.toList.drop i).take n) {s with heap:=h'})->Bb (Bg prog w) A (draw (.ref it) n) Q E s
 | 0,i,s,Q,J,_,_,c=>Bj (by simpa using c _ J (Heap.SameBut.refl ..))
 | n+1,i,s,Q,J,ht,f,c=>by
  have b:i<items.size:=by lia
  refine Ac<|wpAny_pyNext_list_item J ht (x:=items[i]) (by simp) λh1 Y O=>(Ac<|Ly<|Aa S n _ _ _ Y (ht.at λo e=>O.extBut _ o S e) (by lia) λh2 U a=>Bj ?_)
  have g:items.toList.drop i=items[i]::items.toList.drop (i+1):=by simp[Y5,b]
  have:=c h2 (show i+(n+1)=i+1+n by lia ▸ U) (O.trans a)
  rwa[g]at this
def ako {t}{items}{Q}(hh:A.handled=JI)(ht:s.heap.IsList t items)
  (d:∀h',YM s.heap.objs.size s.heap h'->Q items.toList {s with heap:=h'}):Bb (Bg prog w) A (unpackItems (.ref t) items.size JI) Q E s:=by
 have O:t≠s.heap.objs.size:=by obtain⟨o,c,_⟩:=ht;exact Ip (Hh c)
 refine Ac ?_;refine Ac<|wpAny_specialOf ht.typeIs slot_list_iter.lookup<|Bj<|Ac<|Ly<|YB ht<|Ac<|Ly<|Aa O _ 0 _ _ ⟨_,Il _ rfl,rfl,rfl⟩ (ht.at λo e=>HJ _ e) (by lia) λh1 S J=>?_
 rw[(ZM (by simp)),if_neg (by simp)];refine Ac<|Ly<|wpAny_pyNext_list_end hh S (ht.at λo e=>J.extBut _ o O<|HJ _ e) (by simp) λh2 U=>?_
 refine Bj<|d h2 λb o a e=>U b o a<|J.extBut b o a<|HJ _ e
def ald {env}{S pos t}{items}{Q}(hh:A.handled=JI)(ht:s.heap.IsList t items)
  (U:(O4 elts env).length=items.size) (J:(O4 elts env).findIdx? (·.1)=JI)
  (h:∀h',YM s.heap.objs.size s.heap h'->Bb (Bg prog w) A (assignInOrder ((O4 elts env).map (·.2)) items.toList) Q E {s with heap:=h'}) :
  Bb (Bg prog w) A (assign (.Tuple elts S pos) env (.ref t)) Q E s:=by
 refine Ac<|Xj ?_
 unfold unpack;rw[U,J];exact Ac<|Ly<|ako hh ht h
end
section
variable {X:Cx}{pos:Pos}
abbrev afg (K:Az)(n:Nat)(t:VF):TG:=λv σ H Q=>∃a xs,v=.ref a/\(IW K H a xs\/Ja K H a xs)/\xs.length=n/\t xs σ H Q
def zce {es k t}{n}(hc:X.calm=true)(h:WM X es t)
  (hn:autoParam ((O4 es X.env).length=n) aPq._auto_1) (hst:autoParam ((O4 es X.env).findIdx? (·.1)=JI) aPq._auto_1):PG X (.Tuple es k pos) (afg X.K n t):=by
 intro anq s σ H v u Q I r hw;obtain⟨a,xs,e1,hq,hl,hw⟩:=hw;subst e1;cases r;rcases hq with hq|hq
 obtain⟨its,rv,ht,hz⟩:=I.tuple hq;exact assign_Tuple_tuple (I.ok.hd hc) ht (by simp[hn,<-hl,rv.length]) hst λh' hx=>(h anq _ σ H xs _ Q (I.kept λb o e=>hx b o (Ip<|Hh e) e) (by simpa using rv) hw);obtain⟨its,rv,ht,hz⟩:=I.list hq;exact ald (I.ok.hd hc) ht.isList (by simp[hn,<-hl,rv.length]) hst λh' hx=>(h anq _ σ H xs _ Q (I.kept λb o e=>hx b o (Ip<|Hh e) e) (by simpa using rv) hw)
abbrev pG (n:Nat)(g:RX):MG:=λw σ h N=>match w with
 | .tup ws=>JC (QS ws.length n) (g ws σ h N) False
 | .lst ws=>JC (QS ws.length n) (g ws σ h N) False
 | .loc j=>(match h.c j with
  | some (.lst ws)=>JC (QS ws.length n) (g ws σ h N) False
  | _=>False)
 | _=>False
def oA {es k g}{n}(hc:X.calm=true)(h:adJ X es g)(hn:autoParam ((O4 es X.env).length=n) aPq._auto_1)(hst:autoParam ((O4 es X.env).findIdx? (·.1)=JI) aPq._auto_1):DG X (.Tuple es k pos) (pG n g):=
 (zce (n:=n) hc h hn hst).of λv σ H N a=>by
  obtain⟨μ,h,σw,w,Nw,R,S,r,m,k⟩:=a;cases w with
  | tup ws=>
   obtain⟨p,xs,e1,hs,hr⟩:=r;have m:JC _ _ False:=m;cases en:QS ws.length n with
   | true=>rw[en]at m;exact⟨p,xs,e1,.inl hs,hr.len ▸ ZG en,μ,h,σw,ws,Nw,R,S,hr,m,k⟩
   | false=>rw[en]at m;exact(m).elim
  | lst ws=>
   obtain⟨p,xs,e1,hs,hr⟩:=r;have m:JC _ _ False:=m;cases en:QS ws.length n with
   | true=>rw[en]at m;exact⟨p,xs,e1,.inr hs.sq,hr.len ▸ ZG en,μ,h,σw,ws,Nw,R,S,hr,m,k⟩
   | false=>rw[en]at m;exact(m).elim
  | loc j=>
   have m:(match h.c j with
    | some (.lst ws)=>JC _ _ False
    | _=>False):=m
   split at m
   ·rename_i ws ec;obtain⟨p,xs,e1,hs,hr⟩:=dh R r (show dF h (.loc j)=Go ws by simp only[dF,ec]);cases en:QS ws.length n with
    | true=>rw[en]at m;exact⟨p,xs,e1,.inr hs,hr.len ▸ ZG en,μ,h,σw,ws,Nw,R,S,hr,m,k⟩
    | false=>rw[en]at m;exact(m).elim
   exact m.elim
  | _=>exact m.elim
end
section
variable {K:Az}{H:Hp}{h:Gh}{p:Addr}{xs:List V}
end
section
variable {X:Cx}{tg iter:Expr}{pos:Pos}{scope:Scope}{xs:List Str}
end
abbrev Hi:Expr->Bool
 | .Starred _ _=>true
 | _=>false
def aO {e}{es env}(h:Hi e=false):Ck (e::es) env=(false,eval e env)::Ck es env:=by
 cases e<;>first|rfl|cases h
def Vh {e}{env}(h:Hi e=false):Ck [e] env=[(false,eval e env)]:=(aO h).trans rfl
abbrev noStar:List Expr->Bool
 | []=>true
 | e::r=>!Hi e&&noStar r
def bO {pos env}:∀{es},noStar es=true->(JD pos (Ck es env)).any (·.1)=false
 | [],_=>rfl
 | e::r,h=>by
  rw[noStar,Rj,Bool.not_eq_true']at h;rw[aO h.1];show(false||(JD pos _).any _)=false;rw[bO h.2];rfl
def gY {ant e}{env}(h:Hi e=false):((JD ant (Ck [e] env)).all (λx=>!x.1)&&(Vy ant (Vz [] env)).all (λx=>x.1.isSome)
   && decide (([e]:List Expr).length+([]:List Od).length+(if([]:List Od).isEmpty then 0 else 1)<30))=true:=by
 rw[Vh h];rfl
section
variable {prog:Cq}{w:Cd}{A:Cw}{E:Mk->AP->Prop}{s:AP}
open HT in
def alq {t sl:Addr}{items:Array Mk}{Y U:Mk}{lo hi:Option Int}{Q:Mk->AP->Prop}(ht:IsTup s.heap t items)(hs:s.heap.IsSliceOf sl Y U .none)(pl:IsPart Y lo)(a:IsPart U hi)
  (h0:sIx items.size 0 lo=0) (h1:sIx items.size items.size hi=items.size) (h:Q (.ref t) s):Bb (Bg prog w) A (getItem (.ref t) (.ref sl)) Q E s:=by
 obtain⟨os,O,S,b⟩:=id hs;unfold getItem;try with_reducible refine Ly ?_
 refine Ac<|wpAny_sequenceKey ht.typeIs (by decide) ?_
 refine Ac (X8 ht.typeIs Yp
  (SM Yp ht.typeIs entry_tuple_getitem ?_ (args_tuple_getitem _ _)))
 show Bb _ _ (Builtin.Tuple.tupleItemsOf _ >>= _) _ _ s;refine Ac<|tupleItemsOf_ ht ?_
 refine Ac<|RJ ⟨os,O,S⟩ ?_
 refine Ac<|jr hs pl a ?_
 have J:((((sIx items.size 0 lo:Nat):Int)==0&&(1:Int)==1&&(sIx items.size items.size hi-sIx items.size 0 lo)==items.size)=true):=by
  rw[h0,h1];simp
 show Bb _ _ (if _=true then _ else _) _ _ s;rw[if_pos J];refine Ac<|Ac<|RJ ht.typeIs<|Bj ?_
 refine Ac<|Ql ?_
 first
  | exact Ac (Bj (Bj ⟨_,rfl,Bj h⟩))
end
section
variable {X:Cx}
abbrev agR (K:Az):V->Option Int->Option Int->Hp->VK->Prop:=λx lo hi H Q=>∃a xs,x=.ref a/\IW K H a xs /\
 HT.sIx xs.length 0 lo=0/\HT.sIx xs.length xs.length hi=xs.length/\Q x H
def aiN:VG X (agR X.K):=by
 intro anq s σ H x v d c lo hi sl Q I O Y pl S h;obtain⟨a,xs,rfl,U,b,h1,q⟩:=h;cases O;obtain⟨its,r,ht,e⟩:=I.tuple U;have J:its.toArray.size=xs.length:=r.length.symm;exact⟨"tuple",_,Yp.lookup,ht.typeIs,(alq ht Y pl S (J ▸ b) (J ▸ h1) ⟨.ref a,H,I,rfl,q⟩)⟩
abbrev OJ (x:W)(lo hi:Option Int)(h:Gh)(Q:WK):Prop:=match x with
 | .tup ws=>Q (.tup (xq ws lo hi)) h
 | x=>(match dF h x with
  | some ws=>Q (.lst (xq ws lo hi)) h
  | none=>False)
def HY {e}{lo hi o mh}{p2 pos}(y:DE X e ma)(U:DO X lo o)(v:DO X hi mh):DE X (.Subscript e (.Slice lo hi JI p2) pos) (Vr OJ ma o mh):=
 (ajr (VG.or (VG.or aic abA) aiN) y U v).of fun σ H Q D=>by
  obtain⟨μ,h,σw,r,R,S,m,k⟩:=D;refine⟨μ,h,σw,_,R,S,m,λx H1 ⟨μ1,s,h1,e1,B,u,m1⟩=>(⟨μ1,h1,σw,_,B,S.ext e1,m1,λlo H2 ⟨μ2,h2,e2,R2,m2⟩=>(⟨μ2,h2,σw,_,R2,(S.ext e1).ext e2,m2,λhi b C=>?_⟩)⟩)⟩;obtain⟨J,Y,e3,a,m3⟩:=C;have O:=(e1.trans e2).trans e3;have f:=e3.r _ _ (e2.r _ _ u);have g:∀c,Bk X.K b J c x->(match dF Y c with
    | some ws=>r (.lst (xq ws lo hi)) Y
    | none=>False)->∃p xs,x=.ref p/\Ja X.K b p xs/\∀l,b l=JI->Q (.ref l) (Cu b l (.lst (Wr xs lo hi))):=by
   intro c t i;split at i
   rename_i ws z;obtain⟨p,xs,ex,w,rs⟩:=dh a t z;exact⟨p,xs,ex,w,λl U=>k _ _ ⟨J,_,Y,O.trans (Ex.laid U).ext,a.laid U,.lstNew a U<|rs.cutv lo hi,i⟩⟩;cases i
  cases s with
  | tup ws=>
   have m3:r _ Y:=m3;have d:=f;obtain⟨p,xs,ex,q,rs⟩:=f;have U:=rs.len;by_cases j:HT.sIx xs.length 0 lo=0/\HT.sIx xs.length xs.length hi=xs.length
   have A:xq ws lo hi=ws:=by
    unfold xq;grind
   rw[A]at m3;exact .inr ⟨p,xs,ex,q,j.1,j.2,k _ _ ⟨J,.tup ws,Y,O,a,d,m3⟩⟩;exact .inl<|.inr ⟨p,xs,ex,q,j,λq n=>k _ _ ⟨J,.tup _,Y,O.trans (Ex.laid n).ext,a.laid n,.tupNew n<|rs.cutv lo hi,m3⟩⟩
  | _=>exact .inl (.inl (g _ f m3))
abbrev QK:MC:=λws h Q=>match ws with
 | [.int i]=>Q (.int i) h
 | [.bl b]=>Q (.int (if b then 1 else 0)) h
 | _=>False
def K4:fK X (.type "int") QK:=⟨_,zaZ,by
 intro H μ h vs ws O Q R r m k;unfold QK at m;split at m
 obtain⟨v,e,J⟩:=gH r;subst e J;exact .inl ⟨_,rfl,k _ _<|.int R m⟩;obtain⟨v,e,J⟩:=gH r;subst e J;exact .inr ⟨_,rfl,k _ _<|.int R m⟩;cases m⟩
def ajJ:fillsNumberSlot (.type "tuple") "mul" = pure false:=
 PySem.fillsNumberSlot_seq F.slot_tuple_mul.lookup (by decide +kernel) F.slot_tuple_rmul.lookup (by decide +kernel)
def ahD:seqRepeat? (.type "tuple")=pure (Go (.builtin "tuple.__mul__")):=by
 unfold seqRepeat?;rw[PySem.seqSlot_of (name := "__mul__") F.slot_tuple_mul.lookup (by decide +kernel),PySem.seqSlot_of (name := "__rmul__") F.slot_tuple_rmul.lookup (by decide +kernel)];rfl
def zR (a)(t)(l)(items):
  Meets (Wy.«int.__rmul__» ⟨[.int a t,.ref l],[]⟩) (λ_ R s=>IsTup s.heap l items/\R (.ok (.ret Value.notImplemented)) s):=
 .of_wp λprog w A R s h=>by
  obtain⟨⟨o,S,O,n,J⟩,h⟩:=h;obtain⟨Y,dd,U,sl⟩:=o;subst O J
  wp_walk
  simp_all
def akK (l)(items)(k)(t)(h0:0<=k)(h1:k<2^63)(hz:items.size*k.toNat<=HB):
  Meets (Wy.«tuple.__mul__» ⟨[.ref l,.int k t],[]⟩) (λ_ R s=>IsTup s.heap l items/\(if items.size=0\/k=1 then R (.ok (.ret (.ref l))) s else
   R (.ok (.ret (.ref s.heap.objs.size))) {s with heap:=s.heap.push {cls:=.type "tuple",data:=.seq (J4 k.toNat items.toList).flatten.toArray} })):=
 .of_wp λprog w A R s h=>by
  obtain⟨U,g,d,tk,os⟩:=s;obtain⟨⟨o,Y,j,n,i⟩,h⟩:=h;obtain⟨r,dd,q,sl⟩:=o;subst j i;have ht:IsTup U l items:=⟨_,Y,rfl,n,rfl⟩
  wp_walk
  rw[if_neg (by simp;lia)];refine Ac<|tupleItemsOf_ (s:=⟨U,g,d,tk,os⟩) ht ?_
  have J:items.isEmpty=decide (items.size=0):=rfl;by_cases e:items.size=0\/k=1
  rw[if_pos e]at h;rw[if_pos (by rcases e with e|e<;>simp[J,e])];refine Ac<|Ac<|RJ ⟨_,Y,rfl⟩<|Bj ?_
  rw[if_pos (by decide)];refine Ac<|Ql ?_
  exact Bj ⟨_,rfl,h⟩;rw[if_neg e]at h;rw[not_or]at e;rw[if_neg (by simp[J,e.1,e.2])];by_cases k0:k=0
  rw[if_pos (by simp[k0])];subst k0;have p:(J4 (0:Int).toNat items.toList).flatten.toArray=#[]:=rfl;rw[p]at h;exact Ac (m:=pH _)<|Rf (Bj ⟨_,rfl,h⟩) (by show 0<=HB;exact Nz _)
  rw[if_neg (by simp[J,e.1];lia)];have S:((2:Int)^63-1) / 8=1152921504606846975:=by decide
  have f:(HB:Nat)<=1152921504606846975:=by decide
  have a:((items.size*k.toNat:Nat):Int)=(items.size:Int)*k:=by rw[Int.natCast_mul,Int.toNat_of_nonneg h0]
  rw[if_neg (by rw[S,<-a];lia)];rw[if_neg (by unfold Builtin.Tuple.tupleTooMany;rw[<-a,decide_eq_true_iff];lia)];have O:List.foldl (λx1 c=>x1++c) #[] (J4 k.toNat items)=(J4 k.toNat items.toList).flatten.toArray:=by
   have:=foldl_rep items.toList k.toNat []
   rw[List.nil_append]at this
   simpa using this
  rw[O];refine Ac (m:=pH _)<|Rf (Bj ⟨_,rfl,h⟩) ?_
  show(J4 k.toNat items.toList).flatten.toArray.size<=HB;rw[KH,len_rep,Nat.mul_comm]
  simpa using hz
abbrev ad4 (K:Az):R2:=λx y H Q=>∃a xs k,x=.ref a/\y=.int k/\IW K H a xs/\0<=k/\k<2^63/\xs.length*k.toNat<=HB /\
 ((xs.length=0\/k=1)->Q (.ref a) H)/\(¬(xs.length=0\/k=1)->∀p,H p=JI->Q (.ref p) (Cu H p (.tup (J4 k.toNat xs).flatten)))
def akS:KN X (Nx .Mult) (ad4 X.K):=by
 intro anq s σ H x y v u Q I U S h;obtain⟨a,xs,k,rfl,rfl,c,f,h1,O,b,Y⟩:=h;cases U;obtain⟨t,rfl⟩:=S;obtain⟨its,r,ht,d⟩:=I.tuple c;have J:its.toArray.size=xs.length:=r.length.symm;refine wpAny_binaryOp_repeat_ref (by decide) ht.typeIs (λs'=>typeIs_int s' k t) ajJ F.fills_int_mul F.slot_int_rmul ahD F.slot_int_index.lookup
  (Xm F.slot_int_rmul (typeIs_int s k t) F.entry_int_rmul (F.args_int_rmul_2 _ _) (zR k t a _)
   ⟨ht,rfl,ht.typeIs,Xm F.slot_tuple_mul ht.typeIs F.entry_tuple_mul (F.args_tuple_mul_2 _ _) (akK a _ k t f h1 (J ▸ O)) ⟨ht,?_⟩⟩)
 rw[J];by_cases e:xs.length=0\/k=1
 exact if_pos e ▸ ⟨.ref a,H,I,rfl,b e⟩;rw[if_neg e];refine⟨.ref _,_,I.laid (λb g q=>HJ _ q) (Cm _) ?_,rfl,Y e _<|I.hok.fresh<|Cm _⟩;exact⟨by rw[len_rep,Nat.mul_comm];exact O,_,r.rep _,Om.new _ _⟩
abbrev Q9:M2:=λx y h Q=>match x,y with
 | .int i,.int j=>pJ i j/\Q (.int (i*j)) h
 | .tup ws,.int k=>(0<=k/\k<=1000/\ws.length*k.toNat<=1000)/\Q (.tup (J4 k.toNat ws).flatten) h
 | _,_=>False
def Gf {K H μ}{ws xs}(r:aV K H μ ws xs):∀k,aV K H μ (J4 k ws).flatten (J4 k xs).flatten
 | 0=>G5
 | k+1=>aV.append r (Gf r k)
def U8:O7 X (Nx .Mult) Q9:=⟨_,Ny.or akS,by
  intro H μ h x y a J o Q R S Y m k;cases a with
  | int i=>cases J with
    | int j=>
      exact .inl ⟨_,_,S,Y,m.1,k _ _<|.int R m.2⟩
    | _=>exact(m).elim
  | tup ws=>cases J with
    | int n=>
      obtain⟨⟨f,h1,h2⟩,m⟩:=m;have O:=S;obtain⟨p,xs,ex,c,rs⟩:=S;have d:=rs.len;have l:(1000:Nat)<=HB:=by decide
      refine .inr ⟨p,xs,n,ex,Y,c,f,by lia,by rw[<-d];lia,λe=>?_,λe q U=>?_⟩
      . have g:(J4 n.toNat ws).flatten=ws:=by
          rcases e with e|e
          . have:ws=[]:=VB (by lia)
            subst this;have:∀k:Nat,(J4 k ([]:List W)).flatten=[]:=λk=>by induction k with
              | zero=>rfl
              | succ k b=>rw[List.replicate_succ,List.flatten_cons,b];rfl
            exact this _
          . subst e
            simp
        rw[g]at m;rw[<-ex];exact k _ _ ⟨μ,.tup ws,h,.refl,R,O,m⟩
      . exact k _ _ ⟨μ,.tup (J4 _ ws).flatten,h,(Ex.laid U).ext,R.laid U,.tupNew U (Gf rs _),m⟩
    | _=>exact m.elim
  | _=>exact(show False from by cases J<;>exact m).elim⟩
abbrev Mi (K:Az):V->List V->Hp->VK->Prop:=λx vs H Q=>∃(l:Addr) (ns:List Int) (k:Int) (j:Nat),x=.ref l/\vs=[.int k]/\Ja K H l (ns.map V.int)/\ns[j]?=Go k/\(∀m,m<j->ns[m]?≠Go k)/\Q (.int j) H
def zbA:VH X "list.index" (Mi X.K):=by
 intro anq s σ H x vs v us Q I i o h;obtain⟨l,ns,k,j,rfl,rfl,z,g,c,q⟩:=h;cases i;obtain⟨u,rfl,b⟩:=o.one;obtain⟨t,rfl⟩:=b;obtain⟨its,r,pl,f⟩:=I.list z;obtain⟨⟨M,dd,L,sl⟩,n,e,K,G,E⟩:=pl;subst K G E;have B:=r.length;rw[Bo]at B;have O:∀{m:Nat}(S:m<its.toArray.size),∃a t',ns[m]?=Go a/\its.toArray[m]=.int a t':=λ{m} S=>by
  have U:m<ns.length:=by rw[KH]at S;lia
  obtain⟨u,A,b⟩:=r.get (show(ns.map V.int)[m]?=Go (.int ns[m]) by rw[Hf,Hw U];rfl);obtain⟨t',rfl⟩:=b;refine⟨ns[m],t',Hw U,?_⟩;have:=(Lx.mp A).2
  simpa using this
 have J:j<its.toArray.size:=by
  have:=(Lx.mp g).1
  rw[KH];lia
 have C:(HB:Nat)<2^63-1:=by decide
 have p:ns.length<=HB:=by rw[Bo]at f;exact f
 let D:Mk->Bool:=λy=>match y with
  | .int a _=>a==k
  | _=>false
 refine Xm F.slot_list_index ⟨_,e,rfl⟩ F.entry_list_index (F.args_list_index_2 _ _) (SeqAt.list_indexAt l its.toArray n JI sl (.int k t) D j J ?_ ?_ ?_) ⟨e,?_,?_⟩;rw[KH]at J;lia;obtain⟨a,t',Y,e2⟩:=O J;rw[e2];rw[g]at Y;cases Y;exact beq_self_eq_true k;intro m S d;obtain⟨a,t',Y,e2⟩:=O S;rw[e2];show(a==k)=false;refine beq_eq_false_iff_ne.mpr λx=>c m d ?_;rw[Y,x];intro y w;obtain⟨m,S,e2⟩:=Array.mem_iff_getElem.mp w;obtain⟨a,t',Y,e3⟩:=O S;rw[<-e2,e3];exact SeqAt.EqAt.int_int a t' k t;exact⟨.int j,H,I.tok _,⟨_,rfl⟩,q⟩
abbrev Oa:MM:=λx ws h Q=>match ws with
 | [.int k]=>(match dF h x with
  | some us=>∃(ns:List Int) (j:Nat),us=ns.map W.int/\ns[j]?=Go k/\(∀m,m<j->ns[m]?≠Go k)/\Q (.int j) h
  | none=>False)
 | _=>False
def nR {K H μ}:∀{ns:List Int}{xs},aV K H μ (ns.map W.int) xs->xs=ns.map V.int
 | [],xs,r=>r
 | n::ns,xs,r=>by
  obtain⟨v,vs,e,J,r⟩:=r;rw[e,J,nR r];rfl
def zbS {K}:abE K (Mi K) Oa:=by
 intro H μ h x vs d ws e Q R U rs m k;unfold Oa at m;split at m
 rename_i i;obtain⟨v,O,Y⟩:=gH rs;subst O Y;split at m
 rename_i us O;obtain⟨ns,j,c,b,J,m⟩:=m;obtain⟨p,xs,ex,a,S⟩:=dh R U O;rw[c]at S;cases nR S
 exact⟨p,ns,i,j,ex,rfl,a,b,J,k _ _<|.int R m⟩;exact m.elim;exact m.elim
abbrev Mh (h:Gh)(w:W)(P:Prop):Prop:=match dF h w with
 | some _=>P
 | none=>False
def zY {K H h w v}{P}(R:G3 K μ H h)(r:Bk K H μ w v)(e:Mh h w P):tyV K "list" v H/\P:=by
 unfold Mh at e;split at e
 rename_i us O;obtain⟨p,xs,ex,J,_⟩:=dh R r O;subst ex;exact⟨.inl ⟨rfl,xs,J⟩,e⟩;cases e
abbrev af0 (r:MM)(mo:ME)(ma:MA):ME:=fun σ h Q=>mo σ h λx h1=>Mh h1 x (ma σ h1 λxs h2=>r x xs h2 Q)
abbrev Rg (i j:Int):Prop:=pJ i j\/Sm 64 i\/Sm 64 j
def Rg.ok {i j}(h:Rg i j):IntMulOk i j:=by
 rcases h with h|h|h
 exact h.ok;exact .of_left h.bits;exact .of_right h.bits
def akX:KN X (Nx .Mult) (rI Rg λi j=>.int (i*j)):=opI λ_ _ _ _ _ _ _ J q=>mul_int q J.ok
abbrev Xu:M2:=λx y h Q=>match x,y with
 | .int i,.int j=>Rg i j/\Q (.int (i*j)) h
 | _,_=>False
def aaC:O7 X (Nx .Mult) Xu:=⟨_,akX,by
 intro H μ h x y U S Y Q R O J m k;unfold Xu at m;split at m
 exact⟨_,_,O,J,m.1,k _ _<|.int R m.2⟩;cases m⟩
end
abbrev Cz (Z:Mk->Prop)(vs:Array Mk):Prop:=∃z,vs[2]?=Go z/\Z z
def Cz.size {Z}{vs}(c:Cz Z vs):2<vs.size:=let⟨_,e,_⟩:=c;(Array.getElem?_eq_some_iff.mp e).1
variable {Z':Mk->Prop}
def Cz.mono {Z}{vs}(c:Cz Z vs)(k:∀z,Z z->Z' z):Cz Z' vs:=let⟨z,e,h⟩:=c;⟨z,e,k z h⟩
abbrev XO (h:Heap)(P:Addr->Prop)(Z:Mk->Prop)(e C:Addr)(od:Option Addr):Prop:=P e/\∃(oe:Obj) (vs:Array Mk),h.get? e=Go oe/\oe.cls=.ref C/\oe.dict=od/\oe.data=.fields vs/\vs.size<=1000/\Cz Z vs /\
 (vs[1]?=Go .none\/∃(T:Addr) (J:Obj) (ts:Array Mk),vs[1]?=Go (.ref T)/\T≠e/\P T/\h.get? T=Go J/\J.data=.fields ts/\3<ts.size)
abbrev XN (h:Heap)(P:Addr->Prop)(Z:Mk->Prop)(e C:Addr)(od:Option Addr):Prop:=P e/\∃(oe:Obj) (vs:Array Mk),h.get? e=Go oe/\oe.cls=.ref C/\oe.dict=od/\oe.data=.fields vs/\vs.size<=1000/\Cz Z vs /\
 ∃(T:Addr) (J:Obj) (ts:Array Mk),vs[1]?=Go (.ref T)/\T≠e/\P T/\h.get? T=Go J/\J.data=.fields ts/\3<ts.size
def XN.xo {h}{P Z e C}{od}(x:XN h P Z e C od):XO h P Z e C od:=by
 obtain⟨p,oe,vs,a,b,c,d,f,g,k⟩:=x;exact⟨p,oe,vs,a,b,c,d,f,g,.inr k⟩
def XO.mono {h}{P J Z Z' e C}{od}(x:XO h P Z e C od)(k:∀b,P b->J b)(j:∀z,Z z->Z' z):XO h J Z' e C od:=by
 obtain⟨p,oe,vs,a,b,c,d,f,g,z⟩:=x;refine⟨k _ p,oe,vs,a,b,c,d,f,g.mono j,?_⟩;rcases z with z|⟨T,i,ts,Y,U,S,O⟩
 exact .inl z;exact .inr ⟨T,i,ts,Y,U,k _ S,O⟩
def XN.mono {h}{P J Z Z' e C}{od}(x:XN h P Z e C od)(k:∀b,P b->J b)(j:∀z,Z z->Z' z):XN h J Z' e C od:=by
 obtain⟨p,oe,vs,a,b,c,d,f,g,T,i,ts,Y,U,S,O⟩:=x;exact⟨k _ p,oe,vs,a,b,c,d,f,g.mono j,T,i,ts,Y,U,k _ S,O⟩
structure Rm (P:Addr->Prop) (fs:List Addr) (h h':Heap):Prop where
 keep:∀b o,¬P b->b∉fs->h.get? b=Go o->h'.get? b=Go o
 slot:∀b o,¬P b->h.get? b=Go o->∃sl,h'.get? b=Go {o with slots:=sl}
 there:∀b o,h.get? b=Go o->∃o',h'.get? b=Go o'
def Rm.refl {P fs h}:Rm P fs h h:=⟨λ_ _ _ _ e=>e,λ_ o _ e=>⟨o.slots,e⟩,λ_ o e=>⟨o,e⟩⟩
def Rm.trans {P fs h h1 h2}(a:Rm P fs h h1)(b:Rm P fs h1 h2):Rm P fs h h2:=
 ⟨λc o n m e=>b.keep c o n m (a.keep c o n m e),λc o n e=>let⟨_,e1⟩:=a.slot c o n e;let⟨sl,e2⟩:=b.slot c _ n e1;⟨sl,e2⟩,λc o e=>let⟨J,e1⟩:=a.there c o e;b.there c J e1⟩
section
variable {M:Model}{A:Cw}{E:Mk->AP->Prop}{s:AP}{P:Addr->Prop}{Z:Mk->Prop}{e C:Addr}{od:Option Addr}
def akh {fl fs}{Q}(x:XN s.heap P Z e C od)(h:∀h',XN h' P Z e C od->Rm P fs s.heap h'->Q () {s with heap:=h'}):Bb M A (setFlight (.ref e) fl) Q E s:=by
 obtain⟨p,oe,vs,d,l,U,g,k,h2,T,m,ts,h1,O,Y,hT,J,j⟩:=x;refine Ac<|N7 d g h1<|Xy hT J j<|h _ ?_ ?_
 have S:=V8 J (·.setIfInBounds 3 (fl.elim Value.none λf=>QC f));refine⟨p,oe,vs,?_,l,U,g,k,h2,T,_,_,h1,O,Y,RP _ hT<|X6 S,S,by simpa using j⟩;rw[P0 _ _ O];exact d;have a:∀b,¬P b->T≠b:=λb n q=>n (q ▸ Y)
 refine⟨λb o n _ q=>by rwa[P0 _ _<|a b n],λb o n q=>⟨o.slots,by rwa[P0 _ _<|a b n]⟩,λb o q=>?_⟩;by_cases i:T=b
 subst i;exact⟨_,RP _ hT<|X6<|V8 J _⟩;exact⟨o,by rwa[P0 _ _ i]⟩
def CP {base:Heap}{env:Env}{outer:List Env}{L:Addr}{oe:Obj}{vs:Array Mk}{d:Mk}{Y:Bool}{Q:Unit->AP->Prop}
  (t:A.frames=Go (env::outer)) (x:s.heap.FunFrames base (env::outer)) (I:env.frame=Go L) (v:P e) (B:s.heap.get? e=Go oe) (K:oe.cls=.ref C) (u:oe.dict=od) (i:oe.data=.fields vs) (hz:vs.size<=1000) (h2:Cz Z vs)
  (H:∀b,s.heap.get? b=JI->P b) (h:∀h',XN h' P Z e C od->Rm P (frs (env::outer)) s.heap h'->Q () {s with heap:=h'}) :
  Bb M A (do let a <-frameOf env;let pl <-entryPlaceOf L Y;let b <-EntryCells.newEntry d a .none (QC L) .none pl;setField (.ref e) 1 b) Q E s:=by
 have f:1<vs.size:=Nat.lt_trans (by decide) h2.size;have g:e∉(env::outer).filterMap (·.frame):=λhm=>by
  obtain⟨_,o,k,r⟩:=x.mem hm;rw[B]at k;injection k with k;subst k;exact r vs i
 refine Ac<|wpAny_frameOf_fun t x I λh₁ J=>(Ac<|wpAny_entryPlaceOf λpl p=>(Ac<|Rf ?_<|p.sizeOk5 _ _ _ _ _))
 have S:=(J.2.1 e g).trans B;have O:=HJ (h:=h₁) {cls:=.type "traceback",dict:=JI,data:=.fields ([d,.ref L,.none,QC L,.none]++(if pl.isEmpty then J4 6 Value.none else pl)).toArray} S;refine Xy O i f<|h _ ?_ ?_
 have j:=Nk (Hh S);have U:=V8 i (·.setIfInBounds 1 (Value.ref h₁.objs.size));refine⟨v,_,_,RP _ O (X6 U),by rwa[Yt],?_,U,by simpa using hz,(let⟨z,e2,l⟩:=h2;⟨z,by rw[Array.getElem?_setIfInBounds_ne (by decide)];exact e2,l⟩),h₁.objs.size,_,_,by simp[f],j,
  H _ (X3 (J.1 ▸ Cm _)),(P0 _ _ (Jp j)).trans (Il h₁ rfl),rfl,by simp<;>lia⟩
 obtain⟨c,dd,N,sl⟩:=oe;cases i;exact u;have w:∀b,¬P b->e≠b:=λb n q=>n (q ▸ v)
 refine⟨λb o n m q=>?_,λb o n q=>?_,λb o q=>?_⟩;rw[P0 _ _ (w b n)];exact HJ _<|(J.2.1 b m).trans q
 obtain⟨sl,e1⟩:=J.2.2 b o q;exact⟨sl,by rw[P0 _ _<|w b n];exact HJ _ e1⟩;obtain⟨sl,e1⟩:=J.2.2 b o q;by_cases D:e=b
 subst D;exact⟨_,RP _ O<|X6<|V8 i _⟩;exact⟨_,P0 _ _ D ▸ HJ _ e1⟩
def akp {base env}{outer L}{Q}(a:A.frames=Go (env::outer))(r:s.heap.FunFrames base (env::outer))(j:env.frame=Go L)(x:XO s.heap P Z e C od)
  (l:∀b,s.heap.get? b=JI->P b) (B:∀b∈frs (env::outer),¬P b) (h:∀h',XN h' P Z e C od->Rm P (frs (env::outer)) s.heap h'->Q () {s with heap:=h'}):Bb M A (noteFrame (.ref e) env) Q E s:=by
 obtain⟨p,oe,vs,c,k,U,d,g,h2,z⟩:=x;unfold noteFrame;simp only[j];rcases z with h1|⟨T,y,ts,h1,Y,f,hT,S,u⟩
 refine Ac<|N7 c d h1 ?_
 exact CP a r j p c k U d g h2 l h;refine Ac<|N7 c d h1 ?_
 refine Ac<|N7 hT S (x:=ts[3]) (by simp) ?_
 by_cases q:(ts[3]==QC L)=true
 rw[if_pos q];exact Bj<|h _ ⟨p,oe,vs,c,k,U,d,g,h2,T,y,ts,h1,Y,f,hT,S,u⟩ .refl
 rw[if_neg q];refine Ac<|Xy hT S u ?_
 have J:∀b,b≠T->(s.heap.update T (Obj.mapFields (·.setIfInBounds 3 Value.none))).get? b=s.heap.get? b:=λb O=>P0 _ _ (Jp O)
 have m:∀b,¬P b->b≠T:=λb n q=>n (q ▸ f)
 have st:Rm P (frs (env::outer)) s.heap (s.heap.update T (Obj.mapFields (·.setIfInBounds 3 Value.none))):=by
  refine⟨λb o n _ q=>(J b<|m b n).trans q,λb o n q=>⟨o.slots,(J b<|m b n).trans q⟩,λb o q=>?_⟩;by_cases O:T=b
  subst O;exact⟨_,RP _ hT<|X6<|V8 S _⟩;exact⟨o,(J b<|Jp O).trans q⟩
 refine CP a (r.of_keeps λb o O i=>⟨o,(J b λq=>?_).trans O,rfl⟩) j p ((J e<|Jp Y).trans c) k U d g h2 (λb q=>?_) λh' w v=>h h' w<|st.trans v
 rw[q,hT]at O;injection O with O;subst O;exact i ts S
 by_cases O:b=T
 rw[O];exact f;exact l b<|(J b O).symm.trans q
end
variable {L:Addr}{fl:Option Addr}
def fH.obj {P w H}{h a o}(x:fH P w H h a o):∃ob,h.get? a=Go ob:=by
 cases o with
 | lst xs=>obtain⟨_,_,_,_,e⟩:=x;exact⟨_,e⟩
 | tup xs=>obtain⟨_,_,_,ob,e,_⟩:=x;exact⟨_,e⟩
 | dK kvs|dT kvs=>obtain⟨_,_,_,_,o,_,_,e,_⟩:=x;exact⟨_,e⟩
 | set S n=>obtain⟨o,_,_,_,e,_⟩:=x;exact⟨_,e⟩
 | ins C dx fs=>obtain⟨_,_,_,e,_⟩:=x;exact⟨_,e⟩
 | own y=>obtain⟨_,e⟩:=x;exact⟨_,e⟩
 | xd fs=>obtain⟨_,⟨_,_,_,e,_⟩,_⟩:=x;exact⟨_,e⟩
 | rng lo hi=>obtain⟨_,_,_,e⟩:=x;exact⟨_,e⟩
 | frz ob u=>obtain⟨e,_⟩:=x;exact⟨_,e⟩
 | tbl ps|met f y=>exact⟨_,x⟩
 | ext J=>obtain⟨_,⟨_,e⟩,_⟩:=x;exact⟨_,e⟩
section
variable {X:Cx}{anq:List (Addr×Obj)}{σ:St}{H H':Hp}{s s':AP}{b e C:Addr}{od:Option Addr}
structure New (X:Cx) (anq:List (Addr×Obj)) (H:Hp) (b:Addr):Prop where
 h:H b=JI
 s:b∈X.ex\/X.s₀.heap.get? b=JI
 l:b≠X.env.locals
 c:∀x c,X.env.cells.lookup x=Go c->c≠b
 p:∀p∈X.pn++anq,p.1≠b
 f:b∉X.fs
def Aw.newOf (I:Aw X anq σ H s)(O:s.heap.get? b=JI):New X anq H b where
 h:=by
  cases q:H b with
  | none=>rfl
  | some u=>obtain⟨Y,e⟩:=(I.hok b u q).obj;rw[O]at e;cases e
 s:=by
  by_cases S:b∈X.ex
  exact .inl S
  ·cases q:X.s₀.heap.get? b with
   | none=>exact .inr rfl
   | some o=>obtain⟨o',e⟩:=I.base.there b o q S;rw[O]at e;cases e
 l:=λz=>by obtain⟨m,⟨o,_,_,J,_⟩,_⟩:=I.loc;rw[<-z,O]at J;cases J
 c:=λx c e z=>by obtain⟨v,o,J,_⟩:=I.cell x c e;rw[z,O]at J;cases J
 p:=λp U z=>by have J:=(I.pin p U).1;rw[z,O]at J;cases J
 f:=λhm=>by obtain⟨_,o,J,_⟩:=I.funs.mem hm;rw[O]at J;cases J
open Classical in
def Aw.stp {h'}(I:Aw X anq σ H s)(st:Rm (New X anq H) (frs X.stack) s.heap h'):Aw X anq σ H {s with heap:=h'}:=by
 have J:∀b o,s.heap.get? b=Go o->b∉(Le _).filter (λb=>decide _)->¬New X anq H b:=λb o e n z=>
  n (SJ.mpr ⟨Xa.mpr (Hh e),decide_eq_true z⟩)
 refine I.stepG (λb f=>?_) (λb o g d O e n=>?_) (λb o _ _ O e _=>st.slot b o (J b o e O) e) (λ_ _ _ _ n=>n)
  (λb o _ e=>st.there b o e) (λ_ _ q=>q) (λ_ _ _ q=>q) (λ_ ps q=>⟨#[],by rw[q];simp⟩) (λm a=>?_) (λb u q=>?_) I.bare
 have z:=of_decide_eq_true (SJ.mp f).2;exact⟨z.s,z.l,z.c,z.p⟩;exact st.keep b o (J b o e O) (λz=>(Kz.mp<|I.stkSub b z).elim g d) e;obtain⟨o,es,ep,Y,r⟩:=a;obtain⟨sl,q⟩:=st.slot _ o (λz=>z.l rfl) Y;exact⟨_,es,ep,q,r⟩;refine(I.hok b u q).stay (λc v O r=>?_) (λ_ q=>q) λ_ _ q=>q;have U:H c≠JI:=by
  lia
 exact st.keep c v (λz=>U z.h) (λz=>U<|I.stkFree c z) r
inductive PJ (N:Addr->Prop) (H:Hp):Mk->Prop
 | nil:PJ N H .none
 | cons {c:Addr}{o:Obj}{u:HO}{vs:Array Mk}{z:Mk}(n:N c) (h1:H c=Go (.frz o u)) (h2:o.data=.fields vs) (h3:vs[2]?=Go z) (t:PJ N H z):PJ N H (.ref c)
def PJ.mono {N J H H' z}(c:PJ N H z)(k:∀a,N a->J a)(O:∀a o u,H a=Go (.frz o u)->H' a=Go (.frz o u)):PJ J H' z:=by
 induction c with
 | nil=>exact .nil
 | cons n h1 h2 U _ S=>exact .cons (k _ n) (O _ _ _ h1) h2 U S
inductive Rc (H:Hp):Mk->Addr->Prop
 | here {c:Addr}{o:Obj}{u:HO}(h1:H c=Go (.frz o u)):Rc H (.ref c) c
 | next {c b:Addr}{o:Obj}{u:HO}{vs:Array Mk}{z:Mk}(h1:H c=Go (.frz o u)) (h2:o.data=.fields vs) (h3:vs[2]?=Go z) (t:Rc H z b):Rc H (.ref c) b
def Rc.frz {H v}{b}(r:Rc H v b):∃o u,H b=Go (.frz o u):=by
 induction r with
 | here h1=>exact⟨_,_,h1⟩
 | next _ _ _ _ J=>exact J
def QZ.rc {J H v}(c:QZ J v)(k:∀a o u,J a=Go (.frz o u)->H a=Go (.frz o u)):∀{b},Rc H v b->Rc J v b:=by
 induction c with
 | nil=>intro b r;cases r
 | cons h1 h2 O _ d=>
  intro b r;cases r with
  | here _=>exact .here h1
  | next Y U S t=>
   rw[(k _ _ _ h1)]at Y;cases Y;rw[h2]at U;cases U;rw[O]at S;cases S;exact .next h1 h2 O<|d t
def QZ.chx {N H v}(c:QZ H v)(k:∀b,Rc H v b->N b):PJ N H v:=by
 induction c with
 | nil=>exact .nil
 | cons h1 h2 J _ O=>exact .cons (k _ (.here h1)) h1 h2 J (O λb r=>k b (.next h1 h2 J r))
def PJ.rc {N:Addr->Prop}{H:Hp}{v:Mk}(c:PJ N H v):∀{b:Addr},Rc H v b->N b:=by
 induction c with
 | nil=>intro b r;cases r
 | cons n h1 h2 O _ J=>
  intro b r;cases r with
  | here _=>exact n
  | next Y U S t=>
   simp_all
abbrev RcO (H:Hp)(J:Option Mk)(b:Addr):Prop:=∃v,J=Go v/\Rc H v b
abbrev WR (X:Cx)(c:Addr):Prop:=(c∈X.ex\/X.s₀.heap.get? c=JI)\/RcO X.H₀ X.A.handled c
structure FX (X:Cx) (anq:List (Addr×Obj)) (σ:St) (H:Hp) (s:AP) (e C:Addr) (od:Option Addr):Prop where
 inv:Aw X anq σ H s
 xo:XO s.heap (New X anq H) (PJ (WR X) H) e C od
structure FN (X:Cx) (anq:List (Addr×Obj)) (σ:St) (H:Hp) (s:AP) (e C:Addr) (od:Option Addr):Prop where
 inv:Aw X anq σ H s
 xn:XN s.heap (New X anq H) (PJ (WR X) H) e C od
def FN.fx (F:FN X anq σ H s e C od):FX X anq σ H s e C od:=⟨F.inv,F.xn.xo⟩
abbrev Top (X:Cx):Prop:=X.stack=X.env::X.outer/\X.env.frame=Go X.env.locals
def FX.note {M A}{E}{Q}(F:FX X anq σ H s e C od)(ht:Top X)(U:A.frames=Go X.stack)(h:∀h',FN X anq σ H {s with heap:=h'} e C od->Q () {s with heap:=h'}):
  Bb M A (noteFrame (.ref e) X.env) Q E s:=by
 have J:=F.inv.stack;rw[ht.1]at J U;refine akp U J ht.2 F.xo (λb S=>F.inv.newOf S) (λb S z=>?_) λh' x st=>h h' ⟨F.inv.stp<|ht.1 ▸ st,x⟩;rcases Kz.mp (F.inv.stkSub b (ht.1 ▸ S))with q|q
 exact z.l q;exact z.f q
def FN.flight {M:Model}{A:Cw}{E:Mk->AP->Prop}{Q:Unit->AP->Prop}(F:FN X anq σ H s e C od)(h:∀h',FN X anq σ H {s with heap:=h'} e C od->Q () {s with heap:=h'}):
  Bb M A (setFlight (.ref e) fl) Q E s:=akh F.xn λh' x st=>h h' ⟨F.inv.stp st,x⟩
abbrev VN (P:Cq)(w:Cd):Vp:=λhd outer H s E e s'=>∃(a C:Addr) (od:Option Addr) (H':Hp),e=.ref a/\s'.os=s.os/\Td s'.gens/\Un (frs outer) [] H H' s.heap s'.heap/\Kg P w H' s'.heap /\
 XN s'.heap (λb=>H' b=JI/\s.heap.get? b=JI) (PJ (λb=>s.heap.get? b=JI\/RcO H hd b) H') a C od/\E (.ref C) od H'
def FX.leave {M}{Y E}(F:FX X anq σ H s e C od)(ht:Top X)(O:X.ex=[])(S:E (.ref C) od H):
  Bb M X.A (leaving X.env (.ref e)) (λ_ s3=>VN X.prog X.w X.A.handled X.outer X.H₀ X.s₀ E (.ref e) s3) Y s:=by
 refine Ac<|F.note ht F.inv.ok.frames λh1 U=>U.flight λh2 J=>?_
 have I:=J.inv;refine⟨e,C,od,H,rfl,I.os,I.bare,by have:=I.base;rw[O]at this;exact this,I.hok,J.xn.mono (λb z=>⟨z.h,?_⟩)<|λz c=>c.mono (λb q=>?_) λ_ _ _ q=>q,S⟩;rcases z.s with q|q
 simp_all
 exact q;rcases q with(q|q)|q
 simp_all
 exact .inl q;exact .inr q
def Aw.cxx {E}{S}(I:Aw X anq σ H s)(h:VN X.prog X.w X.A.handled X.stack H s E S s'):∃(a C:Addr) (od:Option Addr) (H':Hp),S=.ref a/\FN X anq σ H' s' a C od/\E (.ref C) od H':=by
 obtain⟨a,C,od,H',e1,os,J,U,O,x,Y⟩:=h;refine⟨a,C,od,H',e1,⟨I.call' os U O J nofun,x.mono (λb z=>?_) λz c=>c.mono (λb q=>q.elim (λq=>.inl (I.newOf q).s) λd=>by obtain⟨v,e,r⟩:=d;exact .inr ⟨v,e,(I.ok.qt v e).2.rc I.base.frzs r⟩) λ_ _ _ q=>q⟩,Y⟩;have n:=I.newOf z.2;exact⟨z.1,n.s,n.l,n.c,n.p,n.f⟩
end
variable {N:Addr->Prop}
section
variable {X:Cx}{anq:List (Addr×Obj)}{σ:St}{H:Hp}{s:AP}{C:Addr}{x:Str}{np ant pos:Pos}{e:Expr}{es:List Expr}{t:TA}
end
variable {np:Pos}
abbrev adO (K:Az)(H:Hp)(μ:Mu)(C:Addr)(n:Str)(od:Option Addr)(fs:List (Str×W)):Prop:=
 (od=JI/\fs=[])\/∃dd ws xs,od=Go dd/\Sv K C n=true/\fs=(Al n).zip ws/\ws.length=(Al n).length/\(Al n).length=xs.length/\H dd=Go (.xd ((Al n).zip xs))/\aV K H μ ws xs
abbrev XT (X:Cx)(H:Hp)(μ:Mu)(Γ:St->Prop)(E:Bt):Mk->AP->Prop:=λev s=>∃(a C:Addr) (n:Str) (od:Option Addr) (fs:List (Str×W)) (anq:List (Addr×Obj)) (σ:St) (H':Hp) (μ':Mu) (h':Gh),ev=.ref a/\FX X anq σ H' s a C od/\Ai X.K C n=true/\Γ σ /\
 Ib X.K H μ H' μ'/\G3 X.K μ' H' h'/\adO X.K H' μ' C n od fs/\E ⟨n,fs⟩ h'
variable {Γ:St->Prop}
def XT.trans {X}{H H1 μ μ1}{Γ E}{J s}(x:XT X H1 μ1 Γ E J s)(e:Ib X.K H μ H1 μ1):XT X H μ Γ E J s:=by
 obtain⟨a,C,n,od,fs,anq,σ,H',μ',h',h1,h2,Y,U,S,O⟩:=x;exact⟨a,C,n,od,fs,anq,σ,H',μ',h',h1,h2,Y,U,e.trans S,O⟩
abbrev tDX (X:Cx)(Γ:St->Prop)(m:Bt->ME):TE:=fun σ H Q=>Γ σ/\∃μ h σw O E,G3 X.K μ H h/\Slots X.K H μ σw σ/\m E σw h O/\(∀v H',DQ X.K H μ O v H'->Q v H')/\∀J s',XT X H μ Γ E J s'->X.xe J s'
abbrev afZ (X:Cx)(Γ:St->Prop)(m:Bt->MS):TS:=λD σ H=>Γ σ/\∃μ h σw Dw E,G3 X.K μ H h/\Slots X.K H μ σw σ/\m E Dw σw h/\zE X.K H μ Dw D/\∀J s',XT X H μ Γ E J s'->X.xe J s'
@[reducible]noncomputable def DEx (X:Cx)(Γ:St->Prop)(e:Expr)(m:Bt->ME):Prop:=PE X e (tDX X Γ m)
@[reducible]noncomputable def XD (X:Cx)(Γ:St->Prop)(st:Stmt)(m:Bt->MS):Prop:=PS X st (afZ X Γ m)
@[reducible]noncomputable def Pk (X:Cx)(Γ:St->Prop)(st:List Stmt)(m:Bt->MS):Prop:=Py X st (afZ X Γ m)
abbrev HD (K:Az)(ms:Aq):Sp:=λvs H Q E=>∃μ h ws J O,G3 K μ H h/\aV K H μ ws vs/\ms ws h J O/\(∀v H',DQ K H μ J v H'->Q v H') /\
 ∀(C:Addr) (n:Str) (od:Option Addr) (fs:List (Str×W)) (H':Hp),Ai K C n=true->(∃μ' h',Ib K H μ H' μ'/\G3 K μ' H' h'/\adO K H' μ' C n od fs/\O ⟨n,fs⟩ h')->E (.ref C) od H'
section
variable {X:Cx}{e c:Expr}{es:List Expr}{pos:Pos}{st:Stmt}{rest:List Stmt}
def Lz {k}{f fd}{ps x p}(F:lJ X.prog X.w X.K X.mg X.base (VN X.prog X.w) k f fd ps (HD X.K ms))(hr:jj k X.A)(hg:Gl X x)(hm:X.mg x=Go (.ref f))(hk:RB X.K (.ref f)=true)
  (hb:Binds X.K fd ps []) (ha:LR X (e::es) mr) (hdb:autoParam ((x==("__debug__" : Str))=false) aPq._auto_2) (he:autoParam (Ck (e::es) X.env=(false,eval e X.env)::Ck es X.env) aPq._auto_1) (hpl:autoParam ((JD pos (Ck es X.env)).any (·.1)=false) aPq._auto_1) :
  DEx X Γ (.Call (.Name x p) (e::es) [] pos) (λE=>aJ ms E mr):=by
 rintro anq s σ H Q I ⟨hσ,μ,h,σw,Qw,E,R,S,m,q,kx⟩;refine YF<|wU I hg hm ?_ hdb
 refine PySem.W.callWith_K I.ok.mod.kin hk (Hg (ha pos anq s σ H _ I ⟨μ,h,σw,_,R,S,m,λ_ _ z=>z⟩) λus s1 ⟨vs,H1,I1,r,μ1,ws,h1,e1,R1,r1,m1⟩=>⟨I1.kIn,?_⟩) he hpl;have sp:HD X.K ms (vs++[]) H1 Q (λCv od H'=>∃(C:Addr) (n:Str) (fs:List _) (μ':Mu) (h':Gh),Cv=.ref C/\Ai X.K C n=true/\Ib X.K H1 μ1 H' μ'/\G3 X.K μ' H' h'/\adO X.K H' μ' C n od fs/\E ⟨n,fs⟩ h'):=by
  rw[Yj];exact⟨μ1,h1,ws,Qw,E,R1,r1,m1,λv H' z=>q _ _<|z.trans e1,λC n od fs H' hx b=>by obtain⟨μ',h',z⟩:=b;exact ⟨C,n,fs,μ',h',rfl,hx,z⟩⟩
 have r2:=r.append .nil;refine wpAny_call<|YQ (F.run X.A _ s1 H1 ⟨us,[]⟩ _ _ Q _ hr I1.env0 (hb s1 us I1.kIn<|r2.length ▸ F.len _ _ _ _ sp) r2 sp) λr s' hq=>?_
 cases r with
 | error ev=>
  obtain⟨a,C,od,H',e2,F2,C',n,fs,μ',h',e3,hx,e4,R4,k4⟩:=I1.cxx (E:=λCv od H'=>∃(C:Addr) (n:Str) (fs:List _) (μ':Mu) (h':Gh),Cv=.ref C/\Ai X.K C n=true/\Ib X.K H1 μ1 H' μ'/\G3 X.K μ' H' h'/\adO _ H' μ' C n od fs/\E ⟨n,fs⟩ h') hq;cases e3;exact kx ev s' ⟨a,C,n,od,fs,anq,σ,H',μ',h',e2,F2.fx,hx,hσ,e1.trans e4,R4,k4⟩
 | ok fl=>
  cases fl with
  | ret u=>exact I1.after hq
  | next=>exact S7 hq
  | brk=>exact S7 hq
  | cont=>exact S7 hq
def pD {m}(h:DS X st m):XD X Γ st (λ_=>m):=h.of λD σ H a=>by obtain⟨_,μ,h,σw,Dw,_,R,S,m,k,_⟩:=a;exact ⟨μ,h,σw,Dw,R,S,m,k⟩
def zbC:Pk X Γ [] (λ_=>cW):=bK.of λD σ H a=>by obtain⟨_,μ,h,σw,Dw,_,R,S,m,k,_⟩:=a;exact ⟨μ,h,σw,Dw,R,S,m,k⟩
def jd {m}(h:XD X Γ st m):Pk X Γ [st] m:=Bm h
def fX {m1 m2}(O:∀σ,Γ σ)(h1:XD X Γ st m1)(h2:Pk X Γ rest m2):Pk X Γ (st::rest) (λE=>aY (m1 E) (m2 E)):=(CT h1 h2).of λD σ H c=>by
 obtain⟨g,μ,h,σw,Dw,E,R,S,m,k,U⟩:=c;refine⟨g,μ,h,σw,_,E,R,S,m,⟨?_,k.rt,k.bk,k.ct⟩,U⟩;rintro Y H' ⟨μ1,J,h1,e1,b,a,m1⟩;exact⟨O _,μ1,h1,J,Dw,E,b,a,m1,k.trans e1,λev s' z=>U ev s'<|z.trans e1⟩
def TF {a b t}{m1 m2}(U:DT X c t)(d:Pk X Γ a m1)(Y:Pk X Γ b m2):XD X Γ (.If c a b pos) (λE=>jg t (m1 E) (m2 E)):=(adi U d Y).of λD σ H f=>by
 obtain⟨g,μ,h,σw,Dw,E,R,S,m,k,J⟩:=f;refine⟨μ,h,σw,_,R,S,m,λb H1 e=>?_⟩;obtain⟨μ1,h1,e1,O,q⟩:=e;cases b with
 | true=>rw[if_pos rfl];exact⟨g,μ1,h1,σw,Dw,E,O,S.ext e1,q.1 rfl,k.trans e1,λev s' z=>J ev s' (z.trans e1)⟩
 | false=>rw[if_neg RM];exact⟨g,μ1,h1,σw,Dw,E,O,S.ext e1,q.2 rfl,k.trans e1,λev s' z=>J ev s' (z.trans e1)⟩
def Lj {ma i x}{pos'}(hN:X.N.Nodup)(hi:X.N[i]?=Go x)(hx:Loc X.env.scope x)(he:DEx X Γ e ma)(hs:autoParam (Wg e (Go (.Name x pos')) pos.line X.env=pure false) aPq._auto_1)
  (hf:autoParam (X.fn x=true\/X.env.scope.names.lookup x=Go .local) aPq._auto_6):XD X Γ (.Assign [.Name x pos'] e pos) (λE=>bL (ma E) (kI i)):=
 (Vj hN hi hx he hs hf).of λD σ H ⟨g,μ,h,σw,Dw,E,R,S,m,k,kx⟩=>
  ⟨g,μ,h,σw,_,E,R,S,m,λv H1 a=>by obtain⟨μ1,w,h1,e1,R1,r1,m1⟩:=a;exact k.nx _ _ ⟨μ1,σw.set i _,h1,e1,R1,(S.ext e1).set r1 i,m1⟩,kx⟩
end
def ad2 {P w K}{mg base}{x qual st f fd}{N ps k}{b}{body}(F:Ss K x qual st f fd)(S:g8 N ps (bw st))
  (t:∀J A  (outer) (s) (H) (E),jj k (A.deeper (RD qual (bw st) s.heap.objs.size f J)) ->
   Pk (Jg (VN P w) P w K mg base N qual (bw st) f J A outer s H E) (λ_=>True) (eX st) body):lJ P w K mg base (VN P w) (k+1) f fd ps (HD K (Hj ps.length N.length b body)):=by
 obtain⟨G,od,kV,u,D,T,J,M,i,rfl,l,c⟩:=F.ex;refine aao l c S (λvs H Q E W=>by obtain⟨μ,h,ws,y,e,R,r,m,_,_⟩:=W;rw[<-r.len];exact(Di m).1) λA outer s H vs Q E q V=>?_;obtain⟨μ,h,ws,y,e,R,r,j,k,o⟩:=V;obtain⟨I,m⟩:=Di j;refine⟨_,t J A outer s H E q,trivial,μ,h,_,_,e,R,qD r,m,⟨?_,?_,?_,?_⟩,?_⟩;rintro U H' ⟨μ1,O,h1,e1,Y,d,m1⟩;exact k _ _<|vK R e1 Y (by rw[Bk]) m1
 rintro v H' ⟨μ1,B,h1,e1,Y,g,m1⟩;exact k _ _<|vK R e1 Y g m1
 rintro U H' ⟨μ1,O,h1,e1,Y,d,m1⟩;exact m1.elim;rintro U H' ⟨μ1,O,h1,e1,Y,d,m1⟩;exact m1.elim;rintro L s' ⟨a,C,n,od,fs,anq,U,H',μ',h',rfl,z,p,_,e1,Y,m1⟩;exact z.leave ⟨rfl,rfl⟩ rfl<|o C n od fs H' p ⟨μ',h',e1,Y,m1⟩
@[reducible]noncomputable def Cx.tr (X:Cx)(anq:List (Addr×Obj))(xe:Mk->AP->Prop):Cx:={X with pn:=X.pn++anq,xe:=xe}
@[reducible]noncomputable def Cx.hnd (X:Cx)(a:Addr)(J:Hp):Cx:={X with A:=X.A.mark (Go (.ref a)),H₀:=J,calm:=false}
abbrev xU (a:Addr)(o:Obj):HO:=.ext λh=>h.get? a=Go o
section
variable {X:Cx}{anq pins':List (Addr×Obj)}{σ:St}{H:Hp}{s:AP}{xe:Mk->AP->Prop}{a C:Addr}{o:Obj}{u:HO}
def Cx.Ok.tr (J:X.Ok)(anq)(xe):(X.tr anq xe).Ok:=
 ⟨J.mod,J.kind,J.glob,J.blt,J.above,J.inj,J.has,J.cab,J.hd,J.qt,J.frames,J.stk,J.exf,J.bs,J.bsz,J.noex,J.exfs,J.funs,J.frf⟩
def Cx.Ok.untr (J:(X.tr anq xe).Ok):X.Ok:=
 ⟨J.mod,J.kind,J.glob,J.blt,J.above,J.inj,J.has,J.cab,J.hd,J.qt,J.frames,J.stk,J.exf,J.bs,J.bsz,J.noex,J.exfs,J.funs,J.frf⟩
def Aw.tr (I:Aw X anq σ H s):Aw (X.tr anq xe) [] σ H s:=⟨I.ok.tr anq xe,I.os,I.bare,I.base,I.loc,I.cell,I.free,I.freeC,λp O=>I.pin p (by
 have J:=O;rw[Yj]at J;exact J),I.hok,I.len⟩
def Aw.untr (I:Aw (X.tr anq xe) pins' σ H s):Aw X anq σ H s:=⟨I.ok.untr,I.os,I.bare,I.base,I.loc,I.cell,I.free,I.freeC,λp J=>I.pin p (Ri _ J),I.hok,I.len⟩
def New.untr {b:Addr}(n:New (X.tr anq xe) pins' H b):New X anq H b:=⟨n.h,n.s,n.l,n.c,λp J=>n.p p (Ri _ J),n.f⟩
def FX.untr {e}{od}(F:FX (X.tr anq xe) pins' σ H s e C od):FX X anq σ H s e C od:=⟨F.inv.untr,F.xo.mono (λ_ n=>n.untr) λ_ z=>z⟩
def SP.untr {D f s'}(h:SP (X.tr anq xe) [] D f s'):SP X anq D f s':=by
 cases f with
 | next|brk|cont=>obtain⟨J,H',I,q⟩:=h;exact⟨J,H',I.untr,q⟩
 | ret v=>obtain⟨v,J,H',I,r,q⟩:=h;exact⟨v,J,H',I.untr,r,q⟩
structure adD (X:Cx) (H0:Hp):Prop where
 s0:∀b ob,X.s₀.heap.get? b=Go ob->H0 b=X.H₀ b
 tups:∀b xs,X.H₀ b=Go (.tup xs)->H0 b=Go (.tup xs)
 frzs:∀b ob v,X.H₀ b=Go (.frz ob v)->H0 b=Go (.frz ob v)
 tbls:∀b ps,X.H₀ b=Go (.tbl ps)->H0 b=Go (.tbl ps)
abbrev Z2 (X:Cx):Prop:=∀v,X.A.handled=Go v->PJ (WR X) X.H₀ v
def Z2.ok (J:X.Ok):Z2 X:=λv e=>(J.qt v e).2.chx λb r=>.inr ⟨v,e,r⟩
def Z2.of (_:X.calm=true)(J:X.Ok):Z2 X:=.ok J
def PJ.lst {H z}(c:PJ N H z):∃l:List Addr,(∀b∈l,N b/\∃o u,H b=Go (.frz o u))/\∀H0,(∀b∈l,H0 b=H b)->PJ N H0 z:=by
 induction c with
 | nil=>exact⟨[],λb J=>absurd J (by simp),λ_ _=>.nil⟩
 | @cons c o u vs z n h1 h2 S _ O=>
  obtain⟨l,p,q⟩:=O;refine⟨c::l,λb J=>?_,λH0 k=>.cons n ((k c<|by simp).trans h1) h2 S<|q H0 λb J=>k b<|by simp[J]⟩;rcases Kz.mp J with rfl|J
  simp_all
  exact p b J
def PJ.chn {H:Hp}{z:Mk}(c:PJ N H z):QZ H z:=by
 induction c with
 | nil=>exact .nil
 | cons _ h1 h2 O _ J=>exact .cons h1 h2 O J
open Classical in
def Aw.hnd {vs z}(I:Aw X anq σ H s)(n:New X anq H a)(f:X.ex=[])(i:s.heap.get? a=Go o)(Z:o.data=.fields vs)(h2:vs[2]?=Go z)(ch:PJ (WR X) H z) :
  ∃S,adD X S/\(∀b,WR (X.hnd a S) b->WR X b)/\Aw (X.hnd a S) anq σ (Cu H a (.frz o (xU a o))) s:=by
 obtain⟨F,h,R⟩:=ch.lst;have C:X.s₀.heap.get? a=JI:=by
  rcases n.s with q|q
  rw[f]at q;cases q;exact q
 let l:List Addr:=F.filter λb=>decide (X.s₀.heap.get? b=JI)
 have G:∀b∈l,X.s₀.heap.get? b=JI:=λb J=>of_decide_eq_true (SJ.mp J).2
 have w:∀b∈l,True/\∃o u,H b=Go (.frz o u):=λb J=>⟨trivial,(h b (SJ.mp J).1).2⟩
 have T:∀b∈l,b≠a:=λb J q=>by
  obtain⟨_,_,_,e⟩:=w b J;rw[q,n.h]at e;cases e
 let S:Hp:=λb=>if b=a then Go (.frz o (xU a o))else if b∈l then H b else X.H₀ b
 have m:S a=Go (.frz o (xU a o)):=if_pos rfl;have g:∀b∈l,S b=H b:=λb J=>(if_neg (T b J)).trans (if_pos J)
 have d:∀b,b≠a->b∉l->S b=X.H₀ b:=λb h1 B=>(if_neg h1).trans (if_neg B)
 have E:∀b O,X.s₀.heap.get? b=Go O->b≠a:=λb O e z=>by rw[z,C]at e;cases e
 have D:∀b O,X.s₀.heap.get? b=Go O->b∉l:=λb O e z=>by rw[G b z]at e;cases e
 have Y:∀b O,X.s₀.heap.get? b=Go O->S b=X.H₀ b:=λb O e=>d b (E b O e) (D b O e)
 have P:∀b∈X.fs,b≠a:=λb J z=>n.f (by rw[<-z];exact J)
 have t:∀b∈X.fs,b∉l:=λb J z=>by
  obtain⟨_,O,i,_⟩:=I.ok.funs.mem J;exact D b O i z
 have V:∀b O v,X.H₀ b=Go (.frz O v)->S b=Go (.frz O v):=λb O v e=>by
  have e1:=I.base.frzs b O v e;by_cases J:b=a
  rw[J,n.h]at e1;cases e1;by_cases U:b∈l
  rw[g b U];exact e1;rw[d b J U];exact e
 have kt:∀b xs,X.H₀ b=Go (.tup xs)->S b=Go (.tup xs):=λb xs e=>by
  have e1:=I.base.tups b xs e;by_cases J:b=a
  rw[J,n.h]at e1;cases e1;by_cases U:b∈l
  rw[g b U];exact e1;rw[d b J U];exact e
 have W:∀b ps,X.H₀ b=Go (.tbl ps)->S b=Go (.tbl ps):=λb ps e=>by
  obtain⟨_,e1⟩:=I.base.tbls b ps e;by_cases J:b=a
  rw[J,n.h]at e1;cases e1;by_cases U:b∈l
  obtain⟨_,_,_,e2⟩:=w b U;rw[e1]at e2;cases e2;rw[d b J U];exact e
 have A:∀b∈F,S b=H b:=λb J=>by
  by_cases q:X.s₀.heap.get? b=JI
  exact g b<|SJ.mpr ⟨J,decide_eq_true q⟩
  have Q:b≠a:=λz=>q (by rw[z];exact C)
  rw[d b Q (λz=>q (G b z))];rcases(h b J).1 with(z|z)|⟨v,_,r⟩
  rw[f]at z;cases z;exact absurd z q;obtain⟨o',L,e⟩:=r.frz;rw[e];exact(I.base.frzs b o' L e).symm
 have j:PJ (WR X) S (.ref a):=.cons (.inl n.s) m Z h2 (R S A);have N:∀b,WR (X.hnd a S) b->WR X b:=λb q=>by
  rcases q with q|⟨v,e,r⟩
  exact .inl q;cases e;exact j.rc r
 have M:(X.hnd a S).Ok:=by
  have k:=I.ok;refine⟨k.mod,k.kind,k.glob,k.blt,k.above,k.inj,k.has,k.cab,λz=>(nomatch z),λv e=>?_,k.frames,k.stk,k.exf,λb O e=>?_,k.bsz,k.noex,k.exfs,k.funs,λb J=>?_⟩;cases e;exact⟨⟨a,rfl⟩,j.chn⟩;obtain⟨e1,e2⟩:=k.bs b O e;exact⟨e1,(Y b O e1).trans e2⟩;exact(d b (P b J)<|t b J).trans (k.frf b J)
 refine⟨S,⟨Y,kt,V,W⟩,N,M,I.os,I.bare,⟨λb O e z y f=>I.base.keep b O e ((Y b O e).symm.trans z) y f,λb O e z y f=>I.base.slot b O e ((Y b O e).symm.trans z) y f,λb O e z f=>?_,I.base.there,λb xs z=>?_,λb O v z=>?_,λb ps z=>?_⟩,I.loc,I.cell,?_,λx c e=>?_,λp K=>?_,λb v z=>?_,I.len⟩;rw[aN (E b O e)];exact I.base.free b O e ((Y b O e).symm.trans z) f;have z:S b=Go (.tup xs):=z;by_cases J:b=a
 rw[J,m]at z;cases z;rw[aN J];by_cases U:b∈l
 rw[g b U]at z;exact z;rw[d b J U]at z;exact I.base.tups b xs z;have z:S b=Go (.frz O v):=z;by_cases J:b=a
 rw[J,m]at z;rw[J,aU];exact z;rw[aN J];by_cases U:b∈l
 rw[g b U]at z;exact z;rw[d b J U]at z;exact I.base.frzs b O v z;have z:S b=Go (.tbl ps):=z;by_cases J:b=a
 rw[J,m]at z;cases z;rw[aN J];by_cases U:b∈l
 obtain⟨_,_,_,e2⟩:=w b U;rw[g b U,e2]at z;cases z;rw[d b J U]at z;exact I.base.tbls b ps z;rw[aN (Jp n.l)];exact I.free;rw[aN (n.c x c e)];exact I.freeC x c e;obtain⟨h1,B,h4⟩:=I.pin p K;exact⟨h1,(aN<|n.p p K).trans B,h4⟩;by_cases J:b=a
 subst J;rw[aU]at z;cases z;exact⟨i,i,⟨o,i⟩,λh1 h2 q k=>k o q⟩;rw[aN J]at z;exact(I.hok b v z).stay (λ_ _ _ q=>q) (λc q=>by rw[aN (aQ q n.h)];exact q) λc xs q=>by rw[aN (aQ q n.h)];exact q
def Aw.unhnd {Y}(c:X.Ok)(k:adD X Y)(I:Aw (X.hnd a Y) pins' σ H s):Aw X pins' σ H s:=by
 have S:∀b J,X.s₀.heap.get? b=Go J->X.H₀ b=JI->(X.hnd a Y).H₀ b=JI:=λb J e z=>(k.s0 b J e).trans z
 exact⟨c,I.os,I.bare,⟨λb J e z U O=>I.base.keep b J e (S b J e z) U O,λb J e z U O=>I.base.slot b J e (S b J e z) U O,λb J e z O=>I.base.free b J e (S b J e z) O,I.base.there,λb xs z=>I.base.tups b xs<|k.tups b xs z,λb J v z=>I.base.frzs b J v<|k.frzs b J v z,λb ps z=>I.base.tbls b ps<|k.tbls b ps z⟩,I.loc,I.cell,I.free,I.freeC,I.pin,I.hok,I.len⟩
abbrev Ws (σ:St):St:=σ.map λ_=>JI
def Aw.lost {Y h' t'}(I:Aw X anq σ H s)(h:h'.Ns X.env.locals Y)(d:W3 X.env.locals s.heap h'):Aw X anq (Ws σ) H {s with heap:=h',toks:=t'}:=by
 have J:∀b o,X.s₀.heap.get? b=Go o->b≠X.env.locals:=λb o e=>Ip (Js (Hh e) I.ok.above)
 have k:∀b o,b≠X.env.locals->s.heap.get? b=Go o->h'.get? b=Go o:=λb o l e=>(d.2 b l).trans e
 refine⟨I.ok,I.os,I.bare,⟨λb o e z S O=>k b o (J b o e)<|I.base.keep b o e z S O,λb o e z S O=>?_,I.base.free,λb o e O=>?_,I.base.tups,I.base.frzs,I.base.tbls⟩,⟨Y,h,λi x v _ e2 _=>?_⟩,λx c e=>?_,I.free,I.freeC,λp f=>?_,λb v z=>?_,?_⟩;obtain⟨sl,e1⟩:=I.base.slot b o e z S O;simp_all
 obtain⟨o',e1⟩:=I.base.there b o e O;exact⟨o',k b _ (J b o e) e1⟩
 ·unfold Ws at e2;rw[Hf]at e2;cases q:σ[i]? with
  | none|some w=>rw[q]at e2;cases e2
 obtain⟨v,U,g,j⟩:=I.cell x c e;exact⟨v,U,k c U (I.cne x c e) g,j⟩;obtain⟨h1,h2,t,r⟩:=I.pin p f;simp_all
 have m:∀c w,H c=Go w->c≠X.env.locals:=λc w e q=>by rw[q,I.free]at e;cases e
 refine(I.hok b v z).stay (λc w n q=>k c w ?_ q) (λ_ q=>q) λ_ _ q=>q;grind
 unfold Ws;rw[Bo];exact I.len
end
section
variable {prog:Cq}{w:Cd}{A:Cw}{E:Mk->AP->Prop}{s:AP}{K:Az}{x:Addr}{ox:Obj}
def ajc {Q:Option Mk->AP->Prop}{od:Option Obj}(X:K.In s.heap)(I:Xr s.heap x ox D od)(Y:Nq K (.ref D) "__getattribute__" = Go (Go (.builtin "BaseException.__getattribute__")))(U:Nq K (.ref D) "__getattr__" = Go JI)
  (c:PySem.W.findObj K D od "__class__" = Go (.bind (.builtin "getset_descriptor.__get__") (.builtin "object.__class__"))) (b:Qp K D (.type "object")=Go true) (e:Qp K D (.type "BaseException")=Go true)
  (h:Q (Go (.ref D)) {s with toks:=s.toks+1}):Bb (Bg prog w) A (getAttr? (.ref x) "__class__") Q E s:=by
 obtain⟨hh,g,d,t,os⟩:=s;have a:=I.type (M:=Bg prog w);have k:=ZK (M:=Bg prog w) X Y;have j:=ZK (M:=Bg prog w) X U;have i:=PySem.W.looks_find (M:=Bg prog w) X I c;have f:=Zf (M:=Bg prog w) X e;unfold getAttr? getAttrBy? getAttrBy;refine Ac<|wpAny_mkText<|Ac<|Wn<|Ly<|Ac<|PySem.W.Looks.at a<|Ac<|PySem.W.Looks.at k ?_
 show Bb _ _ (if(onTheHeap (Value.ref D)&&(Value.builtin "BaseException.__getattribute__"==Value.builtin "object.__getattribute__"))=true then _ else getAttrByItsOwn _ _ _ _ _ _) _ _ _;have S:(Value.builtin "BaseException.__getattribute__"==Value.builtin "object.__getattribute__")=false:=by decide +kernel
 rw[S,YH,if_neg RM];unfold getAttrByItsOwn;refine Ac<|show Bb _ _ (Wb (Value.ref D) "__getattr__") _ _ _ from PySem.W.Looks.at j ?_
 refine Ac<|Wn<|Ly ?_
 show Bb _ _ (boundAndCalled _ _ _) _ _ _;unfold boundAndCalled;rw[qY.ga.bind (.ref x)];refine Ac<|Bj ?_
 dsimp only;refine wpAny_call<|codeAny_call_builtin qY.ga.plain F.entry_bexc_ga ?_
 have U:builtinKind "BaseException.__getattribute__" = Go .slot:=by decide +kernel
 have J:splitId "BaseException.__getattribute__" = Go ("BaseException", "__getattribute__"):=by decide +kernel
 have l:=F.args_bexc_ga (.ref x) (.str "__class__" t);simp only[checkBuiltinCall,U,J];show Bb (Bg prog w) A.in1 (Xn (Value.ref x) (Value.type "BaseException") >>= _) _ _ _;refine Ac ?_;unfold Xn;refine Ac<|PySem.W.Looks.at a<|PySem.W.Looks.at f ?_
 rw[if_neg (by decide)];change Bb (Bg prog w) A.in1 (match Manifest.signature? "BaseException.__getattribute__" with
  | some O=>Bind.checkArgs "BaseException.__getattribute__" O ⟨[Value.ref x,Value.str (Str.ofString "__class__") t],[]⟩
  | x=>pure ()) _ _ _
 repeat(any_goals(first|assumption|(with_reducible refine Y8 I.at_ ?_;rw[I.cls])|with_reducible refine PySem.W.Looks.at i ?_|wp_step))
 refine PySem.W.class_get (s:=⟨hh,g,d,t+1,os⟩) (ox:=ox) (od:=od) X I b ?_;refine Bj ?_;exact PySem.W.handed_on rfl<|Bj h
end
abbrev Mf (n d:Str):Bool:=n==d||d == "EaselError"
section
variable {K:Az}{C:Addr}{n d:Str}
def GX (h:xZ K D d=true):K7 K Iz d=Go (Go (.ref D))/\ZF K (.ref D)=Go (.type "type")/\∃J,Wv K D=Go J/\J.name=d/\J.mro.contains (.type "BaseException")=true:=by
 unfold xZ at h;grind
def Oz (h:Ai K C n=true):xZ K C n=true/\(∃S R,Wv K C=Go S/\S.mro=.ref C::.ref R::WX/\K7 K Iz "EaselError" = Go (Go (.ref R))/\∃O,Wv K R=Go O/\O.name = "EaselError") /\
  Nq K (.ref C) "__getattribute__" = Go (Go (.builtin "BaseException.__getattribute__"))/\Nq K (.ref C) "__getattr__" = Go JI/\Nq K (.ref C) "__class__" = Go (Go (.builtin "object.__class__"))/\PySem.W.specialIn K (.builtin "object.__class__") "__get__" = Go (Go (.builtin "getset_descriptor.__get__"))/\PySem.W.takesIn K (.builtin "object.__class__")=Go true:=by
 unfold Ai at h;simp at h;obtain⟨⟨⟨⟨⟨⟨h1,h2⟩,b⟩,J⟩,a⟩,Y⟩,U⟩:=h;refine⟨h1,?_,b,J,a,Y,U⟩;split at h2
 split at h2
 simp at h2;obtain⟨⟨⟨e1,e2⟩,e3⟩,e4⟩:=h2;obtain⟨O,d,c⟩:=PySem.W.any_some e4;simp_all
 cases h2;cases h2
def Vd (h:Ai K C n=true)(b:xZ K D d=true):Qp K C (.ref D)=Go (Mf n d):=by
 obtain⟨S,⟨l,R,O,Y,g,k,c,U⟩,_⟩:=Oz h;obtain⟨f,_,e,J,nm,_⟩:=GX S;obtain⟨j,_,dd,a,i,_⟩:=GX b;rw[O]at J;cases J;unfold Qp;rw[O,Wq,Y];show Go _=Go _;unfold Mf;have e1:(Value.ref C::Value.ref R::WX).contains (.ref D)=((Value.ref D==Value.ref C)||((Value.ref D==Value.ref R)||false)):=by
  rfl
 rw[e1,Bool.or_false];have a1:(Value.ref D==Value.ref C)=(n==d):=by
  grind
 have a2:(Value.ref D==Value.ref R)=(d == "EaselError"):=by
  grind
 rw[a1,a2]
abbrev Lg (K:Az)(v:V)(f:Str->Bool):Prop:=∀(u:Mk),RelV v u->∀(C:Addr) (n:Str),Ai K C n=true->PySem.W.kitOne K (.ref C) u=Go (f n)
def Lg.own (O:xZ K D d=true):Lg K (.ref D) (λn=>Mf n d):=by
 intro u r C n h;cases r;obtain⟨_,ht,dd,J,_⟩:=GX O;unfold PySem.W.kitOne;by_cases q:(Value.ref C==Value.ref D)=true
 rw[if_pos q];cases beq_iff_eq.mp q
 obtain⟨a,_,c,U,nm,_⟩:=GX (Oz h).1;obtain⟨_,_,Y,S,b,_⟩:=GX O;rw[U]at S;unfold Mf;simp_all
 rw[if_neg q];unfold PySem.W.kitCls;dsimp only;rw[if_pos (by rw[J,ht];rfl)];exact(Vd h O)
def Lg.val:Lg K (.ty "ValueError") (λ_=>true):=by
 intro u r C n h;cases(show u=Value.type "ValueError" from r)
 obtain⟨_,⟨S,R,O,J,_⟩,_⟩:=Oz h;unfold PySem.W.kitOne;rw[if_neg (by intro q;cases beq_iff_eq.mp q)];unfold PySem.W.kitCls;dsimp only;show Qp K C (.type "ValueError")=Go true;unfold Qp;rw[O,Wq,J];rfl
def Dv {x ox}(h:Ai K D n=true):PySem.W.KitX K (.ref x) (.ref D) (λh=>∃od,Xr h x ox D od):=by
 obtain⟨p,⟨m,R,O,e,_⟩,g,c,j,f,a⟩:=Oz h;have b:Qp K D (.type "object")=Go true:=by
  unfold Qp;rw[O,Wq,e];rfl
 have i:∀od,PySem.W.findObj K D od "__class__" = Go (.bind (.builtin "getset_descriptor.__get__") (.builtin "object.__class__")):=by
  intro od;unfold PySem.W.findObj;rw[O,Wq,j,Wq];simp[f,a]
 have d:∃U d' J,K.lookup D=Go ⟨U,d',.cls m,J⟩:=by
  unfold Wv at O;split at O
  rename_i U d' l J S;cases O;exact⟨U,d',J,S⟩;cases O
 obtain⟨U,d',J,S⟩:=d;refine⟨λ_ _ _ v=>by obtain⟨_,I⟩:=v;exact I.type,λ_ _ X _=>?_,λh o dd its n sl X Y=>?_,λ{prog w A E Q s} X ⟨od,I⟩ k=>?_⟩;intro u r t s' k q;exact Ac<|wpAny_loadPart (k _ _<|X _ _ S)<|Bj q
 refine Bool.eq_false_iff.mpr λq=>?_;cases Value.ref.inj (beq_iff_eq.mp q)
 cases(X _ _ S).symm.trans Y
 refine ajc X I g c (i od) b ?_ k;unfold Qp;rw[O,Wq,e];rfl
def ahx {M A}{E s}{e oe}{Q}(X:K.In s.heap)(j:s.heap.get? e=Go oe)(S:oe.cls=.ref C)(h:Ai K C n=true)(g:xZ K D d=true)(U:Q (Mf n d) s):
  Bb M A (excMatches (.ref e) (.ref D)) Q E s:=by
 obtain⟨_,ht,dd,J,_,c⟩:=GX g;have t:YG M s.heap (typeOf (.ref D)) (.type "type"):=PySem.W.looks_typeIn X ht;have r:YG M s.heap (isSubtype (.ref C) (.ref D)) (Mf n d):=Zf X (Vd h g);have p:YG M s.heap (isSubtype (.ref D) (.type "BaseException")) true:=Zf X (by
  unfold Qp;rw[J,Wq,c,if_neg];intro q;rw[List.isEmpty_iff]at q;rw[q]at c;cases c)
 have b:∃Y d' O,K.lookup D=Go ⟨Y,d',.cls dd,O⟩:=by
  unfold Wv at J;split at J
  rename_i Y d' l O a;cases J;exact⟨Y,d',O,a⟩;cases J
 obtain⟨Y,d',O,a⟩:=b;have o:YG M s.heap (isType (.ref D)) true:=by
  intro w u v s' k q;exact Ac<|wpAny_loadPart (k _ _<|X _ _ a)<|Bj q
 have m:YG M s.heap (typeOf (.ref e)) (.ref C):=S ▸ (PySem.W.Looks.ld j).andThen .now;have f:=tc_notTuple;refine Ac ?_;refine Ac<|PySem.W.Looks.at t ?_
 rw[f];refine Bj ?_;refine Ac<|Bj ?_
 dsimp only;rw[Yq];refine Ac<|Ac ?_
 refine Ac<|Ac<|PySem.W.Looks.at o ?_
 rw[if_pos rfl];refine PySem.W.Looks.at p ?_;rw[if_neg (by decide)];refine Bj ?_;dsimp only;rw[List.forIn_nil];refine Bj ?_;refine Ac<|PySem.W.Looks.at m ?_
 rw[Yq];refine Ac<|Ac<|Ac<|PySem.W.Looks.at r ?_
 cases i:Mf n d with
 | true=>
  rw[i]at U;rw[if_pos rfl];exact Bj<|Bj<|Bj U
 | false=>
  rw[i]at U;rw[if_neg RM];refine Bj ?_;dsimp only;rw[List.forIn_nil];exact Bj<|Bj U
end
variable {suite:List Stmt}{b₀:Stmt}
def aiA {prog w A}{E s}{env K}{e C n d t}{pos}{rest Q}
  (j:Ai K C n=true) (m:xZ K D d=true) (hi:Mf n d=true)
  (h:Bb (Bg prog w) (A.mark (Go (.ref e))) (eval t env) (λc J=>c=.ref D/\K.In J.heap/\(∃oe,J.heap.get? e=Go oe/\oe.cls=.ref C) /\
   Bb (Bg prog w) (A.mark (Go (.ref e))) (setFlight (.ref e) JI) (λ_ S=>
     Bb (Bg prog w) (A.mark (Go (.ref e))) (storeName env y (.ref e)) (λ_ O=>
      Bb (Bg prog w) (A.mark (Go (.ref e))) (execs (b₀::suite) env)
       (λf Y=>Bb (Bg prog w) A (do bindName env y .none;unbindBehindTheSuite env y pos) (λ_ U=>Q f U) E Y) (λ_ _=>False) O) (λ_ _=>False) S) (λ_ _=>False) J) (λ_ _=>False) s) :
  Bb (Bg prog w) A (handleBy (.ref e) env (.ExceptHandler (Go t) (Go y) (b₀::suite) pos::rest)) Q E s:=by
 refine wpAny_handleBy_cons (codeAny_handlers_test<|Kv h (λc J g=>?_) λ_ _ z=>z.elim) (by intro q;cases q);obtain⟨rfl,X,⟨oe,l,i⟩,k⟩:=g;refine ahx X l i j m ?_;rw[hi];exact codeAny_handlers_suite_as<|Kv k (λ_ S b=>Kv b (λ_ O a=>Kv a (λ_ _ z=>z) λ_ _ z=>z.elim) λ_ _ z=>z.elim) λ_ _ z=>z.elim
abbrev bN.lost (D:bN):bN:={D with nx:=fun σ h=>D.nx (σ.map λ_=>JI) h,bk:=fun σ h=>D.bk (σ.map λ_=>JI) h,ct:=fun σ h=>D.ct (σ.map λ_=>JI) h}
abbrev R6 (x:Xw):W:=match x.fs with
 | []=>.exc x.cls
 | f::fs=>.exa x.cls ((f::fs).map (·.2))
def M8 {O J:Type}:∀{l:List O}{m:List J},m.length=l.length->(l.zip m).map (·.2)=m
 | [],[],_=>rfl
 | a::l,b::m,h=>by rw[Zb,Hz,M8 (by simpa using h)]
def aaz {n}(h:ws.length=(Al n).length):R6 ⟨n,(Al n).zip ws⟩=.exa n ws:=by
 have e:=M8 h;unfold R6;cases q:(Al n).zip ws with
 | nil=>
  rw[q]at e;cases ws with
  | nil=>exact absurd (VB h.symm) (by unfold Al;split<;>simp)
  | cons _ _=>cases e
 | cons f fs=>
  simp_all
section
variable {X:Cx}{body:List Stmt}{d:Str}{hpos pos:Pos}{i:Nat}{mb:Bt->MS}{mh:MS}
end
variable {mh:MS}{hpos:Pos}{mb:Bt->MS}
section
variable {X:Cx}{a:Expr}{pos p:Pos}
abbrev Z1 (f:Str->Bool)(m:ME):ME:=fun σ h Q=>m σ h λw h1=>match w with
 | .exc n=>Q (.bl (f n)) h1
 | .exa n _=>Q (.bl (f n)) h1
 | _=>False
abbrev Ww (K:Az)(H:Hp)(o:Obj)(n:Str):Prop:=Xob K o n\/∃dd fs,Xoa K o n dd/\H dd=Go (.xd fs)
def JV {anq}{σ:St}{H s}{q o u}{n}(I:Aw X anq σ H s)(e:H q=Go (.frz o u))(x:Ww X.K H o n):∃C,Ai X.K C n=true/\∃od,Xr s.heap q o C od:=by
 rcases x with⟨C,Y,U,O,J⟩|⟨dd,fs,⟨C,Y,U,O,J⟩,S⟩
 exact⟨C,J,JI,(I.hok q _ e).1,Y,O,by rw[U];trivial⟩;obtain⟨a,b⟩:=(I.hok dd _ S).obj;unfold Sv at J;simp only[Rj]at J;exact⟨C,J.1.1,Go a,(I.hok q _ e).1,Y,O,U ▸ b⟩
def alN {v}{f}(c:Lg X.K v f):fj X (.builtin "isinstance") (λxs H Q=>∃q o u n,xs=[.ref q,v]/\H q=Go (.frz o u)/\Ww X.K H o n/\Q (.bl (f n)) H):=by
 rintro anq s σ H xs us Q I r ⟨q,o,u,n,ex,g,U,d⟩;subst ex;obtain⟨C,S,J⟩:=JV I g U;cases r with
 | cons b O=>
  cases O with
  | cons O a=>
   cases a;rename_i h Y;cases b;exact PySem.W.kia_one (Dv S) I.kIn J (c Y O C n S) nofun λtk=>⟨.bl _,H,I.kept λ_ _ e=>e,rfl,d⟩
def UG {b v}{f}(hg:Gl X "isinstance")(hm:X.mg "isinstance" = JI)(ha:DE X a ma)(hb:PE X b (tC v))(hf:Lg X.K v f)(h1:autoParam (Ck [a,b] X.env=(false,eval a X.env)::Ck [b] X.env) aPq._auto_1)(h2:autoParam (Ck [b] X.env=(false,eval b X.env)::Ck [] X.env) aPq._auto_1)
  (hpl:autoParam ((JD pos (Ck [b] X.env)).any (·.1)=false) aPq._auto_1):DE X (.Call (.Name "isinstance" p) [a,b] [] pos) (Z1 f ma):=
 (wI (alN hf) hg hm boot_isinstance (nZ ha (nZ hb Ep h2) h1) (by decide) (by decide) h1 hpl).of fun σ H Q d=>by
  obtain⟨μ,h,σw,Qw,R,S,m,k⟩:=d;refine⟨μ,h,σw,_,R,S,m,λx H1 c=>?_⟩;obtain⟨μ1,w,h1,e1,R1,r1,m1⟩:=c;cases w with
  | exc n=>
   obtain⟨q,o,u,ev,eq,hx⟩:=r1;subst ev;exact⟨q,o,u,n,rfl,eq,.inl hx,k _ _ ⟨μ1,.bl _,h1,e1,R1,by rw[Bk],m1⟩⟩
  | exa n ws=>
   obtain⟨q,o,u,dd,ns,xs,ev,eq,hx,hdd,_⟩:=r1;subst ev;exact⟨q,o,u,n,rfl,eq,.inr ⟨dd,_,hx,hdd⟩,k _ _ ⟨μ1,.bl _,h1,e1,R1,by rw[Bk],m1⟩⟩
  | _=>exact m1.elim
inductive Sg (X:Cx):List Expr->List V->(Str->Bool)->Prop
 | nil:Sg X [] [] (λ_=>false)
 | cons {e:Expr}{es:List Expr}{v:V}{vs:List V}{f g:Str->Bool}:PE X e (tC v)->Lg X.K v f->Sg X es vs g->Ck (e::es) X.env=(false,eval e X.env)::Ck es X.env->Sg X (e::es) (v::vs) (λn=>f n||g n)
abbrev tCs (vs:List V):TA:=λ_ H Q=>Q vs H
def Sg.pa {es vs}{f}(h:Sg X es vs f):PA X es (tCs vs):=by
 induction h with
 | nil=>exact Ep
 | cons S _ _ O J=>exact(nZ S J O).of fun σ H Q q=>q
def Sg.any {es vs}{f}(h:Sg X es vs f):∀{us C n},BL vs us->Ai X.K C n=true->PySem.W.kitAny X.K (.ref C) us=Go (f n):=by
 induction h with
 | nil=>intro us C n r _;cases r;rfl
 | @cons e es v vs f g c S b a Y=>
  intro us C n r O;cases r with
  | cons J U=>
   unfold PySem.W.kitAny;rw[S _ J C n O];grind
def zaM {vs}{f:Str->Bool}(d:∀{us C n},BL vs us->Ai X.K C n=true->PySem.W.kitAny X.K (.ref C) us=Go (f n)):
  fj X (.builtin "isinstance") (λxs H Q=>∃q o u n t,xs=[.ref q,.ref t]/\H q=Go (.frz o u)/\Ww X.K H o n/\H t=Go (.tup vs)/\Q (.bl (f n)) H):=by
 rintro anq s σ H xs us Q I r ⟨q,o,u,n,t,ex,i,U,ht,g⟩;subst ex;obtain⟨C,S,J⟩:=JV I i U;cases r with
 | cons b O=>
  cases O with
  | cons O a=>
   cases a;rename_i l j;cases b;cases O;obtain⟨_,its,Y,⟨c,dd,m,sl⟩,h1,h2,⟨k,h⟩,_⟩:=(I.hok t _ ht)
   subst h2 h;exact PySem.W.kia_tup (Dv S) I.kIn J h1 (d Y S) nofun λtk=>⟨.bl _,H,I.kept λ_ _ e=>e,rfl,g⟩
def adA {es vs}{f}{x1 p1}(hg:Gl X "isinstance")(hm:X.mg "isinstance" = JI)(ha:DE X a ma)(hc:Sg X es vs f)(hl:vs.length<=100)(h1:autoParam (Ck [a,.Tuple es x1 p1] X.env=(false,eval a X.env)::Ck [.Tuple es x1 p1] X.env) aPq._auto_1)
  (h2:autoParam (Ck [.Tuple es x1 p1] X.env=(false,eval (.Tuple es x1 p1) X.env)::Ck [] X.env) aPq._auto_1) (hpl:autoParam ((JD pos (Ck [.Tuple es x1 p1] X.env)).any (·.1)=false) aPq._auto_1) :
  DE X (.Call (.Name "isinstance" p) [a,.Tuple es x1 p1] [] pos) (Z1 f ma):=
 (wI (zaM hc.any) hg hm boot_isinstance (nZ ha (nZ (T7 hc.pa) Ep h2) h1) (by decide) (by decide) h1 hpl).of fun σ H Q c=>by
  obtain⟨μ,h,σw,Qw,R,S,m,k⟩:=c;refine⟨μ,h,σw,_,R,S,m,λx H1 b=>?_⟩;obtain⟨μ1,w,h1,e1,R1,r1,m1⟩:=b;cases w with
  | exc n=>
   obtain⟨q,o,u,ev,eq,hx⟩:=r1;subst ev;refine⟨HW hl<|by decide,λt ht=>⟨q,o,u,n,t,rfl,?_,.inl hx,aU,k _ _ ⟨μ1,.bl _,h1,e1.trans (Ex.laid ht).ext,R1.laid ht,by rw[Bk],m1⟩⟩⟩
   rwa[aN (aQ eq ht)]
  | exa n ws=>
   obtain⟨q,o,u,dd,ns,xs,ev,eq,hx,hdd,_⟩:=r1;subst ev;refine⟨HW hl<|by decide,λt ht=>⟨q,o,u,n,t,rfl,?_,.inr ⟨dd,_,hx,by rwa[aN<|aQ hdd ht]⟩,aU,k _ _ ⟨μ1,.bl _,h1,e1.trans (Ex.laid ht).ext,R1.laid ht,by rw[Bk],m1⟩⟩⟩
   rwa[aN (aQ eq ht)]
  | _=>exact m1.elim
end
section
variable {X:Cx}{tg:Expr}{scope:Scope}{xs:List Str}{pos p ppos:Pos}
end
section
variable {prog:Cq}{w:Cd}{A:Cw}{E:Mk->AP->Prop}{s:AP}
end
section
variable {X:Cx}
end
section
variable {X:Cx}{K:Az}{o e:Expr}{mo:ME}{ma:MA}{apos ant:Pos}
variable {H:Hp}{anq:List (Addr×Obj)}{s:AP}{σ:St}
mutual
theorem Np (I:Aw X anq σ H s):∀{w u:W}{v:V},Dt X.K H w v->Dt X.K H u v->w=u
 | .non,u,v,h,g=>by rw[Dt]at h;subst h;cases u<;>rw[Dt]at g<;>first|rfl|exact g.elim|(obtain⟨_,_,g,_⟩:=g;cases g;done)|(cases g;done)
 | .bl b,u,v,h,g=>by rw[Dt]at h;subst h;cases u<;>rw[Dt]at g<;>first|(injection g with g;rw[g];done)|exact g.elim|(obtain⟨_,_,g,_⟩:=g;cases g;done)|(cases g;done)
 | .int b,u,v,h,g=>by rw[Dt]at h;subst h;cases u<;>rw[Dt]at g<;>first|(injection g with g;rw[g];done)|exact g.elim|(obtain⟨_,_,g,_⟩:=g;cases g;done)|(cases g;done)
 | .str b,u,v,h,g=>by rw[Dt]at h;subst h;cases u<;>rw[Dt]at g<;>first|(injection g with g;rw[g];done)|exact g.elim|(obtain⟨_,_,g,_⟩:=g;cases g;done)|(cases g;done)
 | .tup ws,u,v,h,g=>by
  rw[Dt]at h;obtain⟨p,xs,e,hs,ds⟩:=h;subst e;cases u with
  | tup us=>
   rw[Dt]at g;obtain⟨p',xs',e',hs',ds'⟩:=g;cases e'
   have:=I.tuple_inj hs hs'
   subst this;rw[wu I ds ds']
  | lst us=>
   rw[Dt]at g;obtain⟨p',xs',e',hs',ds'⟩:=g;cases e'
   obtain⟨_,_,t,_⟩:=I.tuple hs;obtain⟨_,_,l,_⟩:=I.list hs';exact absurd rfl<|rP l.isList<|show s.heap.IsTuple _ _ from t
  | ty _=>rw[Dt]at g;exact g.elim
  | loc _=>rw[Dt]at g;exact g.elim
  | kls _=>rw[Dt]at g;exact g.elim
  | exc _=>rw[Dt]at g;exact g.elim
  | exa _ _=>rw[Dt]at g;exact g.elim
  | _=>rw[Dt]at g;cases g
 | .lst ws,u,v,h,g=>by
  rw[Dt]at h;obtain⟨p,xs,e,hs,ds⟩:=h;subst e;cases u with
  | lst us=>
   rw[Dt]at g;obtain⟨p',xs',e',hs',ds'⟩:=g;cases e'
   have:=I.list_inj hs hs'
   subst this;rw[wu I ds ds']
  | tup us=>
   rw[Dt]at g;obtain⟨p',xs',e',hs',ds'⟩:=g;cases e'
   obtain⟨_,_,t,_⟩:=I.tuple hs';obtain⟨_,_,l,_⟩:=I.list hs;exact absurd rfl<|rP l.isList<|show s.heap.IsTuple _ _ from t
  | ty _=>rw[Dt]at g;exact g.elim
  | loc _=>rw[Dt]at g;exact g.elim
  | kls _=>rw[Dt]at g;exact g.elim
  | exc _=>rw[Dt]at g;exact g.elim
  | exa _ _=>rw[Dt]at g;exact g.elim
  | _=>rw[Dt]at g;cases g
 | .ty _,_,_,h,_=>by rw[Dt]at h;exact h.elim
 | .kls _,_,_,h,_=>by rw[Dt]at h;exact h.elim
 | .loc _,_,_,h,_=>by rw[Dt]at h;exact h.elim
 | .exc _,_,_,h,_=>by rw[Dt]at h;exact h.elim
 | .exa _ _,_,_,h,_=>by rw[Dt]at h;exact h.elim
theorem wu (I:Aw X anq σ H s):∀{ws us:List W}{vs:List V},Ko X.K H ws vs->Ko X.K H us vs->ws=us
 | [],us,vs,h,g=>by
  have e:vs=[]:=by rw[Ko]at h;exact h
  subst e;cases us with
  | nil=>rfl
  | cons u us=>rw[Ko]at g;obtain⟨_,_,e,_⟩:=g;cases e
 | w::ws,us,vs,h,g=>by
  rw[Ko]at h;obtain⟨v,vs',e,d,ds⟩:=h;subst e;cases us with
  | nil=>
   have e:v::vs'=[]:=by rw[Ko]at g;exact g
   cases e
  | cons u us=>
   rw[Ko]at g;obtain⟨v2,vs2,e2,d2,ds2⟩:=g;cases e2;rw[Np I d d2,wu I ds ds2]
end
def DY:∀{us xs}{its},Ko X.K H us xs->BL xs its->∀a u,(a,u)∈its.zip us->∃v,RelV v a/\Dt X.K H u v/\u∈us
 | [],_,its,_,_,a,u,m=>absurd m (by simp)
 | w::us,xs,its,d,r,a,u,m=>by
  obtain⟨v,vs,e,b,ds⟩:=d;subst e;cases r with
  | cons O rs=>
   rcases Kz.mp m with m|m
   grind
   obtain⟨J,Y,U,S⟩:=DY ds rs a u m;grind
def uf {O J:Type}:∀{xs:List O}{ys:List J},xs.length=ys.length->∀a∈xs,∃b,(a,b)∈xs.zip ys
 | x::xs,y::ys,h,a,m=>by
  rcases Kz.mp m with rfl|m
  simp_all
  obtain⟨b,q⟩:=uf (Nat.succ.inj h) a m;exact⟨b,Lq _ q⟩
end
section
variable {X:Cx}{iter tg:Expr}{scope:Scope}{pos:Pos}{xs:List Str}
end
section
variable {X:Cx}{e:Expr}{es:List Expr}{pos:Pos}
variable {mr:Bt->MA}
end
section
variable {X:Cx}{K:Az}{H:Hp}{anq:List (Addr×Obj)}{s:AP}{σ:St}
def O2 {O J:Type}{p q}:∀{xs:List O}{ys:List J},xs.length=ys.length->(∀a b,(a,b)∈xs.zip ys->p a=q b)->xs.any p=ys.any q
 | [],[],_,_=>rfl
 | a::xs,b::ys,h,e=>by
  rw[XJ,XJ,O2 (Nat.succ.inj h) λa' S m=>e a' S (Lq _ m),e a b Q0]
def ajp (I:Aw X anq σ H s){us xs}{its w y}{b}(S:Ko X.K H us xs)(r:BL xs its)(k:Dt X.K H w y)(h:RelV y b)(d:us.all (Hq 20)=true)(Y:Hq 20 w=true){A}(l:A.units+20<Jz):
  ∃O,(∀a,a∈its->Xf A s a b (O a))/\its.any O=us.any (λu=>Hv u w):=by
 have f:its.length=us.length:=by rw[<-r.length,S.len]
 let O:Mk->Bool:=λa=>@decide (∃u,(a,u)∈its.zip us/\Hv u w=true) (Classical.propDecidable _)
 have J:∀a u,(a,u)∈its.zip us->O a=Hv u w:=by
  intro a u m;cases c:Hv u w with
  | true=>exact(@decide_eq_true_iff _ (Classical.propDecidable _)).mpr ⟨u,m,c⟩
  | false=>
   refine(@decide_eq_false_iff_not _ _).mpr λx=>?_;obtain⟨g,m2,p⟩:=x;obtain⟨t,U,e,_⟩:=DY S r a u m;obtain⟨q,i,o,_⟩:=DY S r a g m2;obtain rfl:=U.inj i;rw[Np I e o,p]at c;cases c
 refine⟨O,λa n=>?_,O2 f J⟩;obtain⟨u,m⟩:=uf f a n;obtain⟨v,U,e,j⟩:=DY S r a u m;exact J a u m ▸ adB I 20 l e k (Xc.mp d u j) Y U h
abbrev agL (K:Az)(J:Bool):R2:=λx y H Q=>∃p xs us w,y=.ref p/\Ja K H p xs/\Ko K H us xs/\Dt K H w x/\us.all (Hq 20)=true/\Hq 20 w=true/\Q (.bl (if J then !(us.any λu=>Hv u w)else us.any λu=>Hv u w)) H
def aln (f:X.A.units+30<Jz):KN X (N8 .NotIn) (agL X.K true):=by
 intro anq s σ H x y v u Q I U S h;obtain⟨p,xs,us,w,rfl,a,c,J,Y,p2,q⟩:=h;cases S;obtain⟨its,r,pl,e⟩:=I.list a;obtain⟨O,b,d⟩:=ajp I c r J U Y p2 (A:=X.A.in1) (by show _+1+20<Jz;lia);refine SeqAt.notIn_listAt O pl.isList (λw J=>b w<|by simpa using J) ⟨.bl _,H,I,rfl,?_⟩
 rwa[show its.toArray.any O=its.any O by simp,d]
abbrev GZ:M2:=λx y h Q=>match dF h y with
 | some us=>JC (Hq 20 x&&us.all (Hq 20)) (Q (.bl (!(us.any λu=>Hv u x))) h) False
 | none=>False
def acp (Y:X.A.units+30<Jz):O7 X (N8 .NotIn) GZ:=⟨_,aln Y,by
 intro H μ h x y J d e Q R S O m k;unfold GZ at m;split at m
 ·rename_i us b;obtain⟨p,xs,ex,a,U⟩:=dh R O b;cases c:(Hq 20 J&&us.all _)with
  | true=>
   rw[c]at m;rw[Rj]at c;exact⟨p,xs,us,J,ex,a,xY (Qg 20) U c.2,Qg 20 S c.1,c.2,c.1,k _ _<|.bl R m⟩
  | false=>rw[c]at m;cases m
 cases m⟩
end
section
variable {X:Cx}{K:Az}{H:Hp}{h:Gh}
end
section
variable {X:Cx}{K:Az}{o e e':Expr}{mo:ME}{ma:MA}{apos ant:Pos}
def Xk {ant}{e e' env}(h:Hi e=false)(h':Hi e'=false):((JD ant (Ck [e,e'] env)).all (λx=>!x.1)&&(Vy ant (Vz [] env)).all (λx=>x.1.isSome)
   && decide (([e,e']:List Expr).length+([]:List Od).length+(if([]:List Od).isEmpty then 0 else 1)<30))=true:=by
 rw[aO h,aO h'];rfl
end
abbrev rk (m j:Nat):Nat:=((Le j).filter λi=>m.testBit i).length
section
variable {prog:Cq}{w:Cd}{A:Cw}{E:Mk->AP->Prop}{s:AP}{m:Nat}{ka:Nat->List Int}{ad:Nat->Addr}{t:sV}{a b:Addr}{k:List Int}
end
variable {ad:Nat->Addr}{ka:Nat->List Int}
section
variable {prog:Cq}{w:Cd}{A:Cw}{E:Mk->AP->Prop}{R:Qi->AP->Prop}
end
section
variable {prog:Cq}{w:Cd}{A:Cw}{E:Mk->AP->Prop}{s:AP}
end
section
variable {X:Cx}{K:Az}
def Ed {prog w}:∀{k us},BL (k.map V.int) us->ItemsAre (intKind prog w) k us
 | [],_,.nil=>.nil
 | i::k,_,.cons r t=>by
  obtain⟨tk,rfl⟩:=r;exact .cons (intKind_is _ _ _ _)<|Ed t
def yx {O J}{F}:∀{l}{k:List J}{j:Nat}{x:O},N6 F l k->l[j]?=Go x->∃y,k[j]?=Go y/\F x y
 | _,_,0,_,.cons r _,e=>by simp at e;subst e;exact⟨_,rfl,r⟩
 | _,_,j+1,x,.cons _ t,e=>by
  obtain⟨y,a,b⟩:=yx t (by simpa using e);exact⟨y,by simpa using a,b⟩
def zbe {xs}{us}(r:BL xs us){j:Nat}{u}(e:us[j]?=Go u):∃x,xs[j]?=Go x/\RelV x u:=by
 have O:=r.length;have S:=(Lx.mp e).1;have J:j<xs.length:=by lia
 obtain⟨y,a,b⟩:=BL.get r (Hw J);simp_all
end
section
variable {κ:Type}[DecidableEq κ]
abbrev HS (kvs:List (κ×V))(k:κ):Option V:=(kvs.find? λkv=>decide (kv.1=k)).map (·.2)
abbrev Mv (kvs:List (κ×V))(k:κ)(v:V):List (κ×V):=
 if(kvs.any λkv=>decide (kv.1=k))=true then kvs.map (λkv=>if kv.1=k then(kv.1,v)else kv)else kvs++[(k,v)]
abbrev Av (kvs:List (κ×V))(k:κ):List (κ×V):=kvs.filter λkv=>decide (kv.1≠k)
def FJ {p}{r}{k:κ}(e:p.1=k):HS (p::r) k=Go p.2:=by simp[HS,e]
def Ej {p}{r}{k:κ}(e:¬p.1=k):HS (p::r) k=HS r k:=by simp[HS,e]
def sO (kvs)(k:κ)(v):(Mv kvs k v).length<=kvs.length+1:=by
 unfold Mv;grind
def Pu.getD {o}{u d}{d'}(r:Pu o u)(J:RelV d d'):RelV (o.getD d) (u.getD d'):=by
 cases o with
 | none=>cases u with
  | none=>exact J
  | some _=>cases r
 | some _=>cases u with
  | none=>cases r
  | some _=>exact r
def KV.val {kvs:List (κ×V)}{vs:List (κ×Mk)}(r:KV kvs vs)(k:κ):Pu (HS kvs k) (valueAt vs k):=by
 induction r with
 | nil=>exact True.intro
 | @cons p q ps J h t O=>
  obtain⟨h1,h2⟩:=h;by_cases e:p.1=k
  have e':=h1.symm.trans e;have b:valueAt (q::J) k=Go q.2:=by simp[valueAt,e']
  rw[FJ e,b];exact h2;have e':¬q.1=k:=λz=>e (h1.trans z)
  have b:valueAt (q::J) k=valueAt J k:=by simp[valueAt,e']
  rw[Ej e,b];exact O
def KV.any {kvs vs}(r:KV kvs vs)(k:κ):(kvs.any λkv=>decide (kv.1=k))=vs.any λkv=>decide (kv.1=k):=by
 induction r with
 | nil=>rfl
 | cons h t J=>rw[XJ,XJ,J,h.1]
def KV.repl {kvs vs}(r:KV kvs vs)(k:κ){y}{u}(O:RelV y u):
  KV (kvs.map λkv=>if kv.1=k then(kv.1,y)else kv) (vs.map λkv=>if kv.1=k then(kv.1,u)else kv):=by
 induction r with
 | nil=>exact .nil
 | @cons p q ps S h t J=>
  rw[Hz];refine .cons ?_ J;lia
def KV.put {kvs vs}(r:KV kvs vs)(k:κ){y}{u}(J:RelV y u):KV (Mv kvs k y) (stored vs k u):=by
 unfold Mv stored;rw[r.any k];by_cases e:(vs.any λkv=>decide (kv.1=k))=true
 rw[if_pos e,if_pos e];exact r.repl k J;rw[if_neg e,if_neg e];exact Paired.snoc r ⟨rfl,J⟩
def KV.drop {kvs vs}(r:KV kvs vs)(k:κ):KV (Av kvs k) (without vs k):=by
 unfold Av without;induction r with
 | nil=>exact .nil
 | @cons p q ps O h t J=>
  obtain⟨h1,h2⟩:=h;rw[SN,SN];by_cases e:p.1=k
  simp_all
  have e':¬q.1=k:=λz=>e (h1.trans z)
  rw[if_pos (by simp[e]),if_pos (by simp[e'])];exact .cons ⟨h1,h2⟩ J
def KV.length {kvs}{vs:List (κ×Mk)}(r:KV kvs vs):kvs.length=vs.length:=XQ r
def zbI (kvs)(k:κ):(Av kvs k).length<=kvs.length:=List.length_filter_le _ _
end
def Cy {P:Cq}{w:Cd}{k:Key}{u:Mk}(r:RelV (kV k) u):(bV P w).is k u=true:=by
 cases k with
 | inl i=>obtain⟨t,e⟩:=r;subst e;exact zaf P w i t
 | inr x=>obtain⟨t,e⟩:=r;subst e;exact zal P w x t
section
variable {P:Cq}{w:Cd}{H:Hp}{h:Heap}{a:Addr}
def ae1 {u}(J:Kg P w H h)(e:Rd H a u):fH P w H h a u:=e.ok J
def ZP {kvs}(J:Kg P w H h)(e:Rd H a (.dK kvs)):kvs.length<=HB/\(a==QD)=false/\∃vs,KV kvs vs/\h.DictOf (bV P w) a vs:=
 ae1 J e
def zq {kvs}(J:Kg P w H h)(e:H a=Go (.dK kvs)):kvs.length<=HB/\(a==QD)=false/\∃vs,KV kvs vs/\h.DictOf (bV P w) a vs:=ZP J (.inl e)
end
section
variable {X:Cx}{anq:List (Addr×Obj)}{σ:St}{H:Hp}{s:AP}{a:Addr}{y v:V}{u r:Mk}{o:Option V}{A:Cw}{E:Mk->AP->Prop}
def Aw.big (I:Aw X anq σ H s):QD<s.heap.objs.size:=Nat.lt_trans (by decide) ((I.mod.glob.keeps I.bk).lt)
def uY {h' t' J}(I:Aw X anq σ H s)(U:Mut (H a))(hs:W3 a s.heap h')(Y:∃q,h'.get? a=Go q)(O:fH X.prog X.w (Cu H a J) h' a J):
  Aw X anq σ (Cu H a J) {s with heap:=h',toks:=t'}:=
 I.write U (.inl rfl) (λb q c z=>(hs.2 b c).trans z) Y O
def CZ {P w}{H'}{h'}{kvs vs}(z:kvs.length<=HB)(O:(a==QD)=false)(J:KV kvs vs)(dd:h'.DictOf (bV P w) a vs):
  fH P w H' h' a (.dK kvs):=⟨z,O,vs,J,dd⟩
end
section
variable {X:Cx}{anq:List (Addr×Obj)}{σ:St}{H:Hp}{s:AP}{a:Addr}{kvs:List (Key×V)}{k:Key}{u:Mk}{A:Cw}{E:Mk->AP->Prop}
def acU {v}{more}{Q}(I:Aw X anq σ H s)(e:H a=Go (.dK kvs))(U:RelV (kV k) u)(l:HS kvs k=Go v)(b:more=[]\/∃x,more=[x])
  (h:∀O s',Aw X anq σ (Cu H a (.dK (Av kvs k))) s'->RelV v O->Q O s'):Bb (Bg X.prog X.w) A (call (.builtin "dict.pop") (.ref a::u::more)) Q E s:=by
 obtain⟨z,j,vs,J,dd⟩:=zq I.hok e;obtain⟨O,c,Y⟩:=Pu.some_of (l ▸ J.val k);have g:(keyPart u).isSome=true:=by
  cases k with
  | inl i=>obtain⟨t,q⟩:=U;subst q;rfl
  | inr x=>obtain⟨t,q⟩:=(U);subst q;rfl
 have m:argsOk "dict.pop" ⟨.ref a::u::more,[]⟩:=by
  rcases b with q|⟨x,q⟩
  subst q;exact PySem.F.args_dict_pop_2 _ _;subst q;exact PySem.F.args_dict_pop_3 _ _ _
 refine call_meetsIn PySem.F.slot_dict_pop dd.typeIs PySem.F.entry_dict_pop m (meets_dict_pop_there _ a (Cy U) more b g)
  ⟨vs,O,dd,J.length ▸ z,c,λh' S d=>h O _ ?_ Y⟩
 exact uY I (e ▸ True.intro) d (let⟨q,_,_,f,_⟩:=S;⟨q,f⟩)<|CZ (HW (zbI kvs k) z) j (J.drop k) S
end
abbrev ab1 (i:Expr):Prop:=∀J O,subscripted i false J O=operate [J,O] (getItem J O)
def Oj {prog w A}{E s}{env}{value J pos}{T id}{Q}
  (c:Wb (.type T) "__getitem__" = pure (Go (.builtin id))) (hs:ab1 J)
  (h:Bb (Bg prog w) A (eval value env) (λo U=>Bb (Bg prog w) A (eval J env) (λi s₂=>s₂.TypeIs o T/\Bb (Bg prog w) A (getItem o i) Q E s₂) E U) E s) :
  Bb (Bg prog w) A (eval (.Subscript value J pos) env) Q E s:=by
 refine Subscript_<|Kv h (λo U a=>Kv a (λi s₂ O=>?_) λ_ _ x=>x) λ_ _ x=>x
 obtain⟨hT,O⟩:=O;refine Ac<|Ac<|wpAny_specialOf hT c ?_
 have b:Bb (Bg prog w) A (subscripted J false o i) (λr S=>Bb (Bg prog w) A (letTemporaryGo value o r >>= λ_=>pure r) Q E S) E s₂:=hs o i ▸ wpAny_operating (Kv O (λr S Y=>Ac (wpAny_letTemporaryGo (Bj Y))) λ_ _ x=>x);first
  | exact Bj (Ac b)
  | exact Ac b
section
variable {X:Cx}{o i e value:Expr}{pos pos' tpos:Pos}{td ty tv:TE}
end
def DK {P w H}(h:Heap)(J:QD<h.objs.size):fH P w H (h.push {cls:=.type "dict",data:=.dict #[]}) h.objs.size (.dK []):=
 ⟨Nz _,beq_eq_false_iff_ne.mpr (Jp (Ip J)),[],.nil,Heap.DictOf.new h⟩
def Eu {P w H}(h:Heap)(J:QD<h.objs.size):fH P w H (h.push {cls:=.type "dict",data:=.dict #[]}) h.objs.size (.dT []):=
 ⟨Nz _,beq_eq_false_iff_ne.mpr (Jp (Ip J)),[],.nil,_,#[],0,Il _ rfl,⟨rfl,rfl,rfl⟩,rfl,rfl,ZC⟩
abbrev acu:TE:=λ_ H Q=>∀p,H p=JI->Q (.ref p) (Cu H p (.dK []))
section
variable {X:Cx}{pos:Pos}
def akM:PE X (.Dict [] [] pos) acu:=λanq s σ H Q I h=>
 wpAny_Dict_empty ⟨.ref _,_,I.laid (λ_ _ q=>HJ _ q) (Cm _) (DK _ I.big),rfl,h _ (I.hok.fresh (Cm _))⟩
end
abbrev Eo:List (TE×TE)->St->Hp->(List (V×V)->Hp->Prop)->Prop
 | [],_,H,Q=>Q [] H
 | (tk,tv)::r,σ,H,Q=>tk σ H λx H1=>tv σ H1 λy H2=>Eo r σ H2 λps H3=>Q ((x,y)::ps) H3
@[reducible]noncomputable def VV:List (V×V)->List (Mk×Mk)->Prop:=N6 λp q=>RelV p.1 q.1/\RelV p.2 q.2
abbrev PPs (X:Cx)(pos:Pos)(keys:List (Option Expr))(J:List Expr)(trs:List (TE×TE)):Prop:=
 ∀(anq:List (Addr×Obj)) (s:AP) (σ:St) (H:Hp) (Q:List (V×V)->Hp->Prop),Aw X anq σ H s->Eo trs σ H Q ->
  Bb (Bg X.prog X.w) X.A (evalPairs (pairTrees keys J X.env pos)) (λvs s'=>∃ps H',Aw X anq σ H' s'/\VV ps vs/\Q ps H') X.xe s
def akP {X:Cx}{pos:Pos}:PPs X pos [] [] []:=λanq s σ H Q I h=>pairTrees_nil_walk ⟨[],H,I,.nil,h⟩
variable {trs:List (TE×TE)}
def amc {X}{pos}{k v}{ks vs tk tv}(f:PE X k tk)(d:PE X v tv)(e:PPs X pos ks vs trs):
  PPs X pos (Go k::ks) (v::vs) ((tk,tv)::trs):=λanq s σ H Q I h=>
 pairTrees_cons_walk (Hg (f anq s σ H _ I h) λu S ⟨x,H1,j,Y,c⟩=>Hg (d anq S σ H1 _ j c) λw2 O ⟨y,H2,i,U,b⟩=>
  Hg (e anq O σ H2 _ i b) λws m n=>by obtain⟨ps,l,g,J,a⟩:=n;exact ⟨(x,y)::ps,l,g,.cons ⟨Y,U⟩ J,a⟩)
abbrev jK (kvs more:List (Key×V)):List (Key×V):=more.foldl (λacc J=>Mv acc J.1 J.2) kvs
def KV.merge:∀{more rs kvs vs},KV more rs->KV kvs vs->KV (jK kvs more) (RG vs rs):=by
 intro more rs kvs vs r;induction r generalizing kvs vs with
 | nil=>intro q;exact q
 | @cons p q ps S h t O=>
  intro J;have e:KV (Mv kvs p.1 p.2) (stored vs q.1 q.2):=by
   have:=J.put p.1 h.2
   simp_all
  exact O e
def iY:∀more kvs,(jK kvs more).length<=kvs.length+more.length
 | [],kvs=>by show kvs.length<=kvs.length+0;lia
 | p::r,kvs=>by
  have h1:=iY r (Mv kvs p.1 p.2);have h2:=sO kvs p.1 p.2;show(jK _ r).length<=_;grind
def uo {P w}:∀{kvs ws},VV (kvs.map λkv=>(kV kv.1,kv.2)) ws->∃rs,Carries (bV P w) ws rs/\KV kvs rs
 | [],_,r=>by cases r;exact⟨[],True.intro,.nil⟩
 | p::kvs,_,r=>by
  cases r with
  | @cons a b as bs h t=>
   obtain⟨rs,c,q⟩:=uo t;obtain⟨b1,b2⟩:=b;exact⟨(p.1,b2)::rs,⟨Cy h.1,rfl,c⟩,.cons ⟨rfl,h.2⟩ q⟩
abbrev afh (trs:List (TE×TE)):TE:=fun σ H Q=>∀p,H p=JI->Eo trs σ (Cu H p (.dK [])) λps H2=>H2 p=Go (.dK [])/\∃kvs:List (Key×V),ps=kvs.map (λkv=>(kV kv.1,kv.2))/\kvs.length<=15/\Q (.ref p) (Cu H2 p (.dK (jK [] kvs)))
variable {keys:List (Option Expr)}
def alo {X}{pos}{J}(h:PPs X pos keys J trs)(O:keys.all (·.isSome)=true)(l:keys.length=J.length)(h0:keys≠[])
  (Y:keys.length<=15):PE X (.Dict keys J pos) (afh trs):=by
 intro anq s σ H Q I q;refine wpAny_Dict_walk (knd:=bV _ _) O l h0 Y<|Hg (h anq _ σ _ _ (I.laid (λ_ _ q=>HJ _ q) (Cm _)<|DK _ I.big)<|q _<|I.hok.fresh<|Cm _) λws n g=>?_;obtain⟨ps,H2,a,U,e,kvs,ep,o,f⟩:=g
 subst ep;obtain⟨rs,c,rk⟩:=uo U;obtain⟨z,m,b,d,dd⟩:=zq a.hok e;cases d;refine⟨rs,c,dd,λh' S j=>⟨.ref _,_,?_,rfl,f⟩⟩;have i:(jK [] kvs).length<=HB:=by
  have h1:=iY kvs [];rw[List.length_nil]at h1;rw[sizeLine_eq];lia
 exact uY a (e ▸ True.intro) j (let⟨q,_,_,k,_⟩:=S;⟨q,k⟩)<|CZ i m (rk.merge .nil) S
abbrev Wz:W->Option Key
 | .int i=>Go (.inl i)
 | .str x=>Go (.inr x)
 | _=>JI
abbrev pI (kvs:List (Key×W))(k:Key):Option W:=(kvs.find? λkv=>decide (kv.1=k)).map (·.2)
abbrev TJ (kvs:List (Key×W))(k:Key)(w:W):List (Key×W):=
 if(kvs.any λkv=>decide (kv.1=k))=true then kvs.map (λkv=>if kv.1=k then(kv.1,w)else kv)else kvs++[(k,w)]
section
variable {K:Az}{H:Hp}{kvs:List (Key×W)}{kvv:List (Key×V)}{k:Key}{w:W}{v:V}
def jR (r:Bk K H μ w v)(e:Wz w=Go k):v=kV k:=by
 cases w with
 | int i|str x=>rw[Bk]at r;cases e;exact r
 | _=>cases e
def j5.val (r:j5 K H μ kvs kvv)(e:pI kvs k=Go w):∃v,HS kvv k=Go v/\Bk K H μ w v:=by
 induction r with
 | nil=>cases e
 | @cons p q ps O h t J=>
  by_cases z:p.1=k
  have e1:pI (p::ps) k=Go p.2:=by simp[pI,z]
  rw[e1]at e;cases e;exact⟨q.2,FJ<|h.1.symm.trans z,h.2⟩;have e1:pI (p::ps) k=pI ps k:=by simp[pI,z]
  rw[e1]at e;obtain⟨v,a,b⟩:=J e;exact⟨v,by rwa[Ej<|λy=>z<|h.1.trans y],b⟩
def j5.any (r:j5 K H μ kvs kvv)(k):(kvs.any λkv=>decide (kv.1=k))=(kvv.any λkv=>decide (kv.1=k)):=by
 induction r with
 | nil=>rfl
 | @cons p q ps O h t J=>rw[XJ,XJ,J,h.1]
def j5.repl (r:j5 K H μ kvs kvv)(O:Bk K H μ w v)(k):j5 K H μ (kvs.map λkv=>if kv.1=k then(kv.1,w)else kv) (kvv.map λkv=>if kv.1=k then(kv.1,v)else kv):=by
 induction r with
 | nil=>exact .nil
 | @cons p q ps S h t J=>
  rw[Hz];refine .cons ?_ J;grind
def j5.put (r:j5 K H μ kvs kvv)(J:Bk K H μ w v)(k):j5 K H μ (TJ kvs k w) (Mv kvv k v):=by
 unfold TJ Mv;rw[<-r.any k];by_cases e:(kvs.any λkv=>decide (kv.1=k))=true
 rw[if_pos e,if_pos e];exact r.repl J k;rw[if_neg e,if_neg e];exact Paired.snoc r ⟨rfl,J⟩
def G3.dctAt {h}{n}(R:G3 K μ H h)(e:h.c n=Go (.dct kvs)):∃p kvv,μ.f n=Go p/\H p=Go (.dK kvv)/\j5 K H μ kvs kvv:=by
 obtain⟨p,e1,xs,e2,r⟩:=R.cel n _ e;simp_all
end
variable {kvv:List (Key×V)}
section
variable {X:Cx}{a b:Expr}{mb:ME}{pos:Pos}
abbrev U0:M2:=λx y h Q=>match x,Wz y with
 | .loc n,Go k=>(match h.c n with
  | some (.dct kvs)=>(match pI kvs k with
   | some w=>Q w h
   | none=>False)
  | _=>False)
 | _,_=>False
def zbH {o i td ty}(g:PE X o td)(hi:PE X i ty)(hs:ab1 i):PE X (.Subscript o i pos) (fun σ H Q=>td σ H λx H1=>ty σ H1 λy H2=>∃a kvs k v,x=.ref a/\Rd H2 a (.dK kvs)/\y=kV k/\HS kvs k=Go v/\Q v H2):=by
 intro anq s σ H Q I h;refine Oj PySem.F.slot_dict_getitem.lookup hs<|Hg (g anq s σ H _ I h) λu U ⟨x,H1,m,b,d⟩=>Hg (hi anq U σ H1 _ m d) λiv p r=>?_;obtain⟨y,H2,S,Y,a,kvs,k,v,ex,e,j,l,c⟩:=r
 subst ex j;obtain rfl:u=Value.ref a:=b;obtain⟨z,q,vs,O,dd⟩:=ZP S.hok e;obtain⟨n,f,J⟩:=Pu.some_of (l ▸ O.val k);exact⟨dd.typeIs,wpAny_getItem_of (Cy Y) dd.mapOf f ⟨v,H2,S.tok _,J,c⟩⟩
def ac8 (i:DE X a ma)(g:DE X b mb)(hs:ab1 b):DE X (.Subscript a b pos) (Ah U0 ma mb):=(zbH i g hs).of fun σ H Q h=>two h λ{H2 μ2 h2 x y q o r} R Y U m k=>by
 unfold U0 at m;split at m
 rename_i n c e;split at m
 rename_i kvs l;split at m
 rename_i w j;obtain⟨p,kvv,f,d,S⟩:=R.dctAt l;obtain⟨p',e1,J⟩:=Y;obtain rfl:=by rw[f]at J;exact(IV J).symm
 obtain⟨v,e2,O⟩:=S.val j;exact⟨p',kvv,c,v,e1,.inl d,jR U e,e2,k _ _ ⟨μ2,w,h2,.refl,R,O,m⟩⟩;cases m;cases m;cases m
abbrev abo:Yw:=λo i v H N=>∃a kvs k,o=.ref a/\H a=Go (.dK kvs)/\i=kV k/\kvs.length<HB/\N (Cu H a (.dK (Mv kvs k v)))
def set_dict:acA X abo:=by
 rintro anq s σ H o i v b m u Q I U Y S ⟨a,kvs,k,h,e,j,l,q⟩;subst h j;obtain rfl:b=Value.ref a:=U;obtain⟨z,g,vs,J,dd⟩:=zq I.hok e;refine wpAny_setItem_pairs (hsz:=(J.length ▸ z)) (Cy Y) dd λh' O d=>⟨_,?_,q⟩;exact uY I (e ▸ True.intro) d (let⟨q,_,_,f,_⟩:=O;⟨q,f⟩)<|CZ (by have:=sO kvs k v;lia) g (J.put k S) O
abbrev xJ:ZD:=λo i w h N=>match o,Wz i with
 | .loc n,Go k=>(match h.c n with
  | some (.dct kvs)=>fG (kvs.length+1) (N (h.set n (.dct (TJ kvs k w))))
  | _=>False)
 | _,_=>False
def m7 {K}:Gp K abo xJ:=by
 intro H μ h o i v wo wi w f N R Y a r m k;unfold xJ at m;split at m
 rename_i n U e;split at m
 rename_i kvs d;obtain⟨p,kvv,O,b,S⟩:=R.dctAt d;obtain⟨p',e1,J⟩:=Y;obtain rfl:=by rw[O]at J;exact(IV J).symm
 refine⟨p',kvv,U,e1,b,jR a e,?_,k _ ⟨μ,_,(Ex.write R O).ext,R.write (c:=.dct _) O trivial ⟨_,aU,(j5.put (Paired.mapP S λ_ _ z=>⟨z.1,(Ex.write R O).ext.r _ _ z.2⟩) ((Ex.write R O).ext.r _ _ r) U)⟩,m.ok.2⟩⟩;have:=m.ok.1
 rw[XQ S]at this;lia;cases m;cases m
abbrev mDs:List (Key×ME)->MA
 | [],_,h,Q=>Q [] h
 | p::r,σ,h,Q=>p.2 σ h λw h1=>mDs r σ h1 λws h2=>Q (w::ws) h2
abbrev mkD:List (Key×ME)->List W->List (Key×W)->List (Key×W)
 | p::r,w::ws,acc=>mkD r ws (TJ acc p.1 w)
 | _,_,acc=>acc
abbrev acO (r:List (Key×ME)):ME:=fun σ h Q=>mDs r σ (h.new (.dct [])) λws h2=>match h2.c h.nx with
 | some (.dct [])=>Q (.loc h.nx) (h2.set h.nx (.dct (mkD r ws [])))
 | _=>False
inductive RZ (X:Cx):List (Option Expr)->List Expr->List (Key×ME)->Prop
 | nil:RZ X [] [] []
 | cons {x:Str} {j pos} {v:Expr}{m:ME}{ks:List (Option Expr)}{vs:List Expr}{r:List (Key×ME)}(h:DE X v m) (t:RZ X ks vs r):RZ X (Go (.Constant (.str x) j pos)::ks) (v::vs) ((.inr x,m)::r)
abbrev trD (K:Az)(r:List (Key×ME)):List (TE×TE):=r.map λp=>(tC (kV p.1),tD K p.2)
def RZ.pps {ks vs}{r}(h:RZ X ks vs r):PPs X pos ks vs (trD X.K r):=by
 induction h with
 | nil=>exact akP
 | cons h t J=>exact amc Uu h J
def RZ.all {ks vs}{r}(h:RZ X ks vs r):ks.all (·.isSome)=true/\ks.length=vs.length/\ks.length=r.length:=by
 induction h with
 | nil=>exact⟨rfl,rfl,rfl⟩
 | cons h t J=>exact⟨by rw[List.all_cons,J.1];rfl,by rw[PN,PN,J.2.1],by rw[PN,PN,J.2.2]⟩
def Dl {K}:∀{r σ H μ h}{σw}{J}{Q},G3 K μ H h->Slots K H μ σw σ->mDs r σw h J ->
  (∀vs ws H' μ' h',Ib K H μ H' μ'->G3 K μ' H' h'->aV K H' μ' ws vs->vs.length=r.length->J ws h'->Q ((r.zip vs).map λp=>(kV p.1.1,p.2)) H')->Eo (trD K r) σ H Q
 | [],σ,H,μ,h,σw,J,Q,R,S,m,k=>k [] [] H μ h .refl R aV.nil rfl m
 | p::r,σ,H,μ,h,σw,J,Q,R,S,m,k=>⟨μ,h,σw,_,R,S,m,λv H1 a=>by obtain⟨μ1,w,h1,e1,Y,O,m1⟩:=a;exact (Dl Y (S.ext e1) m1 λvs ws H2 μ2 h2 e2 R2 rs U q=>(k _ _ H2 μ2 h2 (e1.trans e2) R2 (aV.cons (e2.r _ _ O) rs) (by rw[PN,PN,U]) q))⟩
def Uy {K:Az}{H:Hp}{μ:Mu}:∀{r:List (Key×ME)}{ws:List W}{vs:List V}{acc:List (Key×W)}{J:List (Key×V)},aV K H μ ws vs->vs.length=r.length->j5 K H μ acc J ->
  j5 K H μ (mkD r ws acc) (jK J ((r.zip vs).map λp=>(p.1.1,p.2)))
 | [],ws,vs,acc,J,rs,S,U=>by
  assumption
 | p::r,ws,vs,acc,J,rs,S,U=>by
  cases ws with
  | nil=>rw[aV]at rs;subst rs;cases S
  | cons w ws=>
   obtain⟨v,Y,e,a,O⟩:=rs;subst e;exact Uy (r:=r) O (by simpa using S)<|U.put a _
def aaO {ks vs}{r}(h:RZ X ks vs r)(h0:ks≠[])(U:ks.length<=15):DE X (.Dict ks vs pos) (acO r):=
 (alo h.pps h.all.1 h.all.2.1 h0 U).of fun σ H Q n p Y=>by
  obtain⟨μ,g,σw,l,R,S,m,q⟩:=n;have k:G3 _ _ (Cu H p (.dK [])) (g.new (.dct [])):=R.newCell Y trivial ⟨[],aU,.nil⟩;have e1:=(Ex.newCell (o:=.dK []) R Y).ext;refine Dl k (S.ext e1) m λvs' ws H2 μ2 h2 e2 R2 rs a z=>?_;split at z
  rename_i j;obtain⟨p',kvv,O,i,d⟩:=R2.dctAt j;have e:Bk X.K (Cu H p (.dK [])) (μ.put g.nx p) (.loc _) (.ref p):=⟨p,rfl,Mu.put_same⟩
  obtain⟨f,ep,J⟩:=(e2.r _ _ e)
  cases ep;obtain rfl:=by rw[J]at O;exact(IV O).symm
  cases d;refine⟨i,(r.zip vs').map (λp=>(p.1.1,p.2)),by rw[Ky];rfl,?_,?_⟩;rw[Bo,List.length_zip,a,<-h.all.2.2,Nat.min_self];exact U;have b:=(Ex.write (o:=.dK (jK [] ((r.zip vs').map (λp=>(p.1.1,p.2))))) R2 J).ext;exact q _ _ ⟨μ2,.loc _,_,(e1.trans e2).trans b,R2.write (c:=.dct _) J trivial ⟨_,aU,(Uy (b.s rs) a .nil)⟩,⟨p',rfl,J⟩,z⟩;cases z
end
section
variable {X:Cx}{b:Expr}{mb:ME}{pos p:Pos}{x:Str}{a:Addr}{tbl:List (Key×W)}
end
variable {tbl:List (Key×W)}
section
variable {X:Cx}{pos p p':Pos}{x:Str}{a:Addr}
end
section
variable {X:Cx}
abbrev Jl (K:Az):V->List V->Hp->VK->Prop:=λx vs H Q=>∃(l:Addr) (ns:List Str) (k:Str) (j:Nat),x=.ref l/\vs=[.str k]/\Ja K H l (ns.map V.str)/\ns[j]?=Go k/\(∀m,m<j->ns[m]?≠Go k)/\Q (.int j) H
def zba:VH X "list.index" (Jl X.K):=by
 intro anq s σ H x vs v us Q I i o h;obtain⟨l,ns,k,j,rfl,rfl,z,g,c,q⟩:=h;cases i;obtain⟨u,rfl,b⟩:=o.one;obtain⟨t,rfl⟩:=b;obtain⟨its,r,pl,f⟩:=I.list z;obtain⟨⟨M,dd,L,sl⟩,n,e,K,G,E⟩:=pl;subst K G E;have B:=r.length;rw[Bo]at B;have O:∀{m:Nat}(S:m<its.toArray.size),∃a t',ns[m]?=Go a/\its.toArray[m]=.str a t':=λ{m} S=>by
  have U:m<ns.length:=by rw[KH]at S;lia
  obtain⟨u,A,b⟩:=r.get (show(ns.map V.str)[m]?=Go (.str ns[m]) by rw[Hf,Hw U];rfl);obtain⟨t',rfl⟩:=b;refine⟨ns[m],t',Hw U,?_⟩;have:=(Lx.mp A).2
  simpa using this
 have J:j<its.toArray.size:=by
  have:=(Lx.mp g).1
  rw[KH];lia
 have C:(HB:Nat)<2^63-1:=by decide
 have p:ns.length<=HB:=by rw[Bo]at f;exact f
 let D:Mk->Bool:=λy=>match y with
  | .str a _=>a==k
  | _=>false
 refine Xm F.slot_list_index ⟨_,e,rfl⟩ F.entry_list_index (F.args_list_index_2 _ _) (SeqAt.list_indexAt l its.toArray n JI sl (.str k t) D j J ?_ ?_ ?_) ⟨e,?_,?_⟩;rw[KH]at J;lia;obtain⟨a,t',Y,e2⟩:=O J;rw[e2];rw[g]at Y;cases Y;exact beq_self_eq_true k;intro m S d;obtain⟨a,t',Y,e2⟩:=O S;rw[e2];show(a==k)=false;refine beq_eq_false_iff_ne.mpr λx=>c m d ?_;rw[Y,x];intro y w;obtain⟨m,S,e2⟩:=Array.mem_iff_getElem.mp w;obtain⟨a,t',Y,e3⟩:=O S;rw[<-e2,e3];exact SeqAt.EqAt.str_str a t' k t;exact⟨.int j,H,I.tok _,⟨_,rfl⟩,q⟩
abbrev vo:MM:=λx ws h Q=>match ws with
 | [.str k]=>(match dF h x with
  | some us=>∃(ns:List Str) (j:Nat),us=ns.map W.str/\ns[j]?=Go k/\(∀m,m<j->ns[m]?≠Go k)/\Q (.int j) h
  | none=>False)
 | ws=>Oa x ws h Q
def uR {K:Az}{H:Hp}{μ:Mu}:∀{ns:List Str}{xs:List V},aV K H μ (ns.map W.str) xs->xs=ns.map V.str
 | [],xs,r=>r
 | n::ns,xs,r=>by
  obtain⟨v,vs,e,J,r⟩:=r;rw[e,J,uR r];rfl
def zby {K}:abE K (λx vs H Q=>Mi K x vs H Q\/Jl K x vs H Q) vo:=by
 intro H μ h x vs d ws e Q R S rs m k;unfold vo at m;split at m
 rename_i i;obtain⟨v,O,Y⟩:=gH rs;subst O Y;split at m
 rename_i us O;obtain⟨ns,j,c,b,J,m⟩:=m;obtain⟨p,xs,ex,a,U⟩:=dh R S O;rw[c]at U;obtain rfl:=uR U;exact .inr ⟨p,ns,i,j,ex,rfl,a,b,J,k _ _<|.int R m⟩;cases m;exact .inl<|zbS R S rs m k
def zbn {o e mo ma}{apos ant}(ho:DE X o mo)(ha:LR X [e] ma)
  (hbase:autoParam (W5 o "index" X.env (eval o X.env)=eval o X.env) aPq._auto_1)
  (hfew:autoParam (((JD ant (Ck [e] X.env)).all (λx=>!x.1)&&(Vy ant (Vz [] X.env)).all (λx=>x.1.isSome)
   && decide (([e]:List Expr).length+([]:List Od).length+(if([]:List Od).isEmpty then 0 else 1)<30))=true) aPq._auto_1)
  (hline:autoParam ((apos.endLine==ant.line)=true) aPq._auto_1) (hst:autoParam (Ck [e] X.env=(false,eval e X.env)::Ck [] X.env) aPq._auto_1) (hplain:autoParam ((JD ant (Ck [] X.env)).any (·.1)=false) aPq._auto_1) :
  DE X (.Call (.Attribute o "index" apos) [e] [] ant) (af0 vo mo ma):=(acX PySem.F.plainAttrs_list PySem.F.slot_list_index PySem.F.type_list_index (VH.or zbA zba) ho ha hbase hfew hline hst hplain).of fun σ H Q a=>by
 obtain⟨μ,h,σw,Qw,R,S,m,k⟩:=a;exact⟨μ,h,σw,_,R,S,m,λv H1 b=>by obtain⟨μ1,w,h1,e1,R1,r1,il⟩:=b;exact ⟨(zY R1 r1 il).1,μ1,h1,σw,_,R1,S.ext e1,((zY R1 r1 il).2),λvs H2 c=>by obtain⟨μ2,ws,h2,e2,R2,r2,m2⟩:=c;exact zby R2 (e2.r _ _ r1) r2 m2 λv H' z=>k _ _<|(z.trans e2).trans e1⟩⟩
end
section
variable {X:Cx}{K:Az}{H:Hp}{h:Gh}
end
section
variable {X:Cx}{a b c:Expr}{mb mc:ME}{pos:Pos}
end
section
variable {K:Az}{H:Hp}{fs:List (Str×W)}{fvs:List (Str×V)}{f:Str}{w:W}{v:V}
end
section
variable {X:Cx}{e o value:Expr}{es:List Expr}{mo mv:ME}{f:Str}{C:Addr}{pos pos' apos:Pos}
end
section
variable {prog:Cq}{w:Cd}{A:Cw}{E:Mk->AP->Prop}{s:AP}
def zbR:Wb (.type "list_reverseiterator") "__len__" = pure JI:=by rw[typeLookup_type,Zz];kernel_rfl
def aiD:Wb (.type "list_reverseiterator") "__length_hint__" = pure (Go (.builtin "list_reverseiterator.__length_hint__")):=by rw[typeLookup_type,Zz];kernel_rfl
def ahQ {r}{Q}(hT:s.TypeIs (.ref r) "list_reverseiterator")(h:Q false s):Bb (Bg prog w) A (Builtin.List.listLengthHint (.ref r)) Q E s:=by
 refine Ac<|wpAny_specialOf hT zbR ?_
 refine Ac<|wpAny_specialOf hT aiD ?_
 generalize J:("list_reverseiterator.__length_hint__" : String)=O;subst J;refine Ac<|wpAny_isInstance (T := "list_reverseiterator") (b:=true) hT (by rw[isSubtype_type];kernel_rfl) ?_
 exact Bj h
def ahw {R r l}{items}(hh:A.handled=JI)(a:s.heap.IsRevIter r l ((items.size:Int)-1))(I:s.heap.IsList l items)(y:l≠r)(S)(t:S≠r)(z:S≠l)(Y)(c)(C:s.heap.get? S=Go {cls:=.type "list",data:=.seq #[] c})
  (L:∀h' tk J k,(∀b o,b≠S->b≠r->s.heap.get? b=Go o->h'.get? b=Go o)->h'.get? S=Go {cls:=.type "list",dict:=JI,data:=.seq J k,slots:=#[]}->ItemsOf (λi v=>items[items.size-1-i]?=Go v) J items.size->R (.ok (.ret Y)) {s with heap:=h',toks:=tk}) (H:items.size<=HB) :
  Bb (Bg prog w) A.in1 (Builtin.List.listExtendWith (.ref S) (.ref r) Y)
   (λfin s'=>match fin with|.done f=>R (.ok f) s'|.again k=>k.quiet=true/\PL (Bg prog w) A k R s') (λe s'=>R (.error e) s') s:=by
 have u:S∉[r,l]:=by simp only[Kz,V4,or_false,not_or];exact⟨t,z⟩
 have W:=Walks.listRev (prog:=prog) (w:=w) (A:=A.in1) hh r l y items;have st:(λ(i:Nat) (h:Heap)=>i<=items.size/\h.IsRevIter r l ((items.size:Int)-1-(i:Int))/\h.IsList l items) 0 s.heap:=⟨Nz _,by simpa using a,I⟩
 have m:∀(h:Heap) (U tk:Nat),(λ(i:Nat) (h:Heap)=>i<=items.size/\h.IsRevIter r l ((items.size:Int)-1-(i:Int))/\h.IsList l items) 0 h->(∀b o,b≠S->s.heap.get? b=Go o->h.get? b=Go o) ->
   h.get? S=Go {cls:=.type "list",data:=.seq #[] U}->PL (Bg prog w) A (.builtin "list.extend.loop" ⟨[.ref S,.ref r,Y],[]⟩) R {s with heap:=h,toks:=tk}:=by
  intro h U tk x K j;refine codeAny_extend_loopS W.toS H S u Y items.size 0 _ #[] U rfl (Nz _) x j (ItemsOf.nil _) λs' J k D B q=>?_;rw[Moved.eq_with D];refine L s'.heap s'.toks J k (λb o d G e=>D.heap b o (λhmem=>?_)<|K b o d e) B q;rcases Kz.mp hmem with e'|hmem
  exact d e';exact G<|QW.mp hmem
 unfold Builtin.List.listExtendWith;refine Ac<|RJ (T := "list_reverseiterator") a.typeIs ?_
 have h1:Builtin.List.listSameRef (.ref S) (.ref r)=false:=by simp[Builtin.List.listSameRef,t]
 have F:(Value.type "list_reverseiterator"==Value.type "list")=false:=by decide +kernel
 have E:(Value.type "list_reverseiterator"==Value.type "tuple")=false:=by decide +kernel
 simp only[h1,F,E,Bool.or_false,ZW,if_false];refine Ac<|wpAny_pyIter_revIter a ?_
 refine Ac<|Ly<|ahQ a.typeIs ?_
 refine wpAny_ite_split (λ_=>?_)<|λ_=>Bj ⟨Ru PySem.F.plain_extend_loop _,m _ c _ st (λb o _ e=>e) C⟩
 refine Ac<|Ql ?_
 refine Ac ?_;show Bb _ _ (updateSeq S (·.push .none) >>= λ_=>updateSeq S (·.pop)) _ _ _;refine Ac<|wpAny_updateSeq C rfl ?_
 have O:=RP (Xo (·.push Value.none)) C rfl;refine wpAny_updateSeq (hz:=by seq_fits) O rfl ?_;have g:=RP (Xo (·.pop)) O rfl;refine Bj ⟨Ru PySem.F.plain_extend_loop _,m _ _ _ ?_ (λb o d e=>?_) g⟩;refine W.frame 0 _ _ st λb d o e=>?_;have p:b≠S:=λh=>u (h ▸ d)
 exact(P0 _ _<|Jp p).trans ((P0 _ _<|Jp p).trans e);exact(P0 _ _<|Jp d).trans ((P0 _ _<|Jp d).trans e)
end
def aiF:∀{xs}{us},BL xs us->BL xs.reverse us.reverse:=by
 intro xs us r;induction r with
 | nil=>exact .nil
 | cons h t J=>
  rw[Yv,Yv];exact BL.append J<|.cons h .nil
def GF {K:Az}{H:Hp}{μ:Mu}:∀{ws:List W}{vs:List V},aV K H μ ws vs->aV K H μ ws.reverse vs.reverse
 | [],vs,r=>by subst r;exact aV.nil
 | w::ws,vs,r=>by
  obtain⟨v,J,e,O,r⟩:=r;subst e;rw[Yv,Yv];exact aV.append (GF r)<|aV.cons O aV.nil
section
variable {X:Cx}
end
section
variable {X:Cx}{e:Expr}{me:ME}{x:Str}{a:Addr}{p pos:Pos}
end
section
variable {X:Cx}{C:Addr}{o e:Expr}{es:List Expr}{mo:ME}{pos apos:Pos}
end
abbrev Ez (kvs:List (List Int×W))(k:List Int):Option W:=(kvs.find? λx=>decide (x.1=k)).map (·.2)
abbrev aap (kvs:List (List Int×W))(k:List Int)(w:W):List (List Int×W):=if(Ez kvs k).isSome then kvs.map (λx=>if x.1=k then(x.1,w)else x)else kvs++[(k,w)]
section
variable {X:Cx}{anq:List (Addr×Obj)}{σ:St}{H:Hp}{s:AP}{K:Az}
abbrev Kq (K:Az)(H:Hp)(xs:List (List Int×Addr×Mk)):Prop:=∀x∈xs,IW K H x.2.1 (x.1.map V.int)
def zW {b}{k}(I:Aw X anq σ H s)(a:IW X.K H b (k.map V.int)):(tupleKind (intKind X.prog X.w)).is s.heap k b:=by
 obtain⟨O,S,⟨o,U,J,n,Y⟩,_⟩:=I.tuple a;exact⟨o,_,_,U,J,Y,Ed S⟩
def Ca {a:Addr}{xs:List (List Int×Addr×Mk)}(I:Aw X anq σ H s)(e:H a=Go (.ext (Ji a xs)))(S:Kq X.K H xs):xs.length<=HB/\(a==QD)=false/\s.heap.DictOfH (tupleKind (intKind X.prog X.w)) a xs:=by
 obtain⟨⟨z,y,J,o,es,ep,h1,h2,Y,U⟩,_⟩:=I.hok a _ e;exact⟨z,y,o,es,ep,h1,h2,Y,U,λx O=>zW I<|S x O,J⟩
def JB {P w}{H'}{a}{xs h}(z:xs.length<=HB)(y:(a==QD)=false)(d:h.DictOfH (tupleKind (intKind P w)) a xs):fH P w H' h a (.ext (Ji a xs)):=by
 obtain⟨o,es,ep,h1,h2,U,S,_,O⟩:=d;exact⟨⟨z,y,O,o,es,ep,h1,h2,U,S⟩,⟨o,h1⟩,λg1 b c k=>by obtain⟨z,y,J,o,es,ep,a1,a2,a3,Y⟩:=c;exact ⟨z,y,J,o,es,ep,k o a1,a2,a3,Y⟩⟩
def aks {x}{xs}{k:List Int}:atKey (x::xs) k=if x.1=k then Go x.2 else atKey xs k:=by
 unfold atKey;grind
def Es {x}{kvs k}:Ez (x::kvs) k=if x.1=k then Go x.2 else Ez kvs k:=by
 unfold Ez;grind
def wF:∀{kvs}{xs vs},kvs.map (·.1)=xs.map (·.1)->BL vs (xs.map (·.2.2))->aV K H μ (kvs.map (·.2)) vs->∀k,
  (∀w,Ez kvs k=Go w->∃p v,atKey xs k=Go p/\RelV v p.2/\Bk K H μ w v)/\(Ez kvs k).isSome=(atKey xs k).isSome
 | [],[],_,_,_,_,k=>⟨λw e=>by simp[Ez]at e,rfl⟩
 | x::kvs,y::xs,vs,e,S,U,k=>by
  rw[Hz]at e;obtain⟨e1,e2⟩:=V1 e;obtain⟨v,J,rfl,Y,O⟩:=U;cases S with
  | cons a b=>
   obtain⟨d,c⟩:=wF e2 b O k;rw[Es,aks,e1];by_cases z:y.1=k
   grind
   rw[if_neg z,if_neg z];simp_all
def G3.dttAt {h}{n}{kvs}(R:G3 K μ H h)(e:h.c n=Go (.dtt kvs)):∃p xs vs,μ.f n=Go p/\H p=Go (.ext (Ji p xs))/\kvs.map (·.1)=xs.map (·.1)/\BL vs (xs.map (·.2.2))/\aV K H μ (kvs.map λx=>W.tup (x.1.map W.int)) (xs.map λx=>V.ref x.2.1)/\aV K H μ (kvs.map (·.2)) vs:=by
 obtain⟨p,e1,xs,vs,a,b,c,d,f⟩:=R.cel n _ e;grind
def Dh:∀{k:List Int}{vs},aV K H μ (k.map W.int) vs->vs=k.map V.int
 | [],_,h=>h
 | i::k,_,h=>by
  obtain⟨v,vs,rfl,r,t⟩:=h;rw[r,Dh t];rfl
def akN {k:List Int}{b}(r:Bk K H μ (.tup (k.map .int)) (.ref b)):IW K H b (k.map V.int):=by
 obtain⟨p,xs,e,J,O⟩:=r;cases e
 rwa[Dh O]at J
def jO:∀{kvs:List (List Int×W)}{xs:List (List Int×Addr×Mk)},kvs.map (·.1)=xs.map (·.1)->aV K H μ (kvs.map λx=>W.tup (x.1.map W.int)) (xs.map λx=>V.ref x.2.1)->Kq K H xs
 | [],[],_,_=>λx a=>nomatch a
 | x::kvs,y::xs,e,S=>by
  rw[Hz]at e;obtain⟨e1,e2⟩:=V1 e;rw[Hz]at S;obtain⟨v,U,b,O,Y⟩:=S;obtain⟨rfl,rfl⟩:=V1 b;intro z J;rcases Kz.mp J with rfl|J
  rw[e1]at O;exact akN O;exact jO e2 Y z J
end
section
variable {X:Cx}{a b o i:Expr}{mb:ME}{td ty:TE}{pos:Pos}
abbrev Ur:W->Option (List Int)
 | .tup ws=>rT ws
 | _=>JI
abbrev abg:M2:=λx y h Q=>match x,Ur y with
 | .loc n,Go k=>(match h.c n with
  | some (.dtt kvs)=>(match Ez kvs k with
   | some w=>Q w h
   | none=>False)
  | _=>False)
 | _,_=>False
def pN {K H y v}{k}(r:Bk K H μ y v)(e:Ur y=Go k):∃b,v=.ref b/\IW K H b (k.map V.int):=by
 unfold Ur at e;split at e
 obtain⟨p,xs,e1,J,O⟩:=r;exact wQ O e ▸ ⟨p,e1,J⟩;cases e
def zO {k v}:∀{xs:List (List Int×Addr×Mk)},(xs.map (putAt k v)).map (·.1)=xs.map (·.1)
 | []=>rfl
 | x::xs=>by
  rw[Hz,Hz,zO];unfold putAt;grind
def yd {k:List Int}{v:Mk}:∀{xs:List (List Int×Addr×Mk)},(xs.map (putAt k v)).map (λx=>V.ref x.2.1)=xs.map (λx=>V.ref x.2.1)
 | []=>rfl
 | x::xs=>by
  rw[Hz,Hz,yd];unfold putAt;grind
abbrev ab2 (K:Az):Yw:=λo i v H N=>∃a xs k b,o=.ref a/\H a=Go (.ext (Ji a xs))/\Kq K H xs/\i=.ref b/\IW K H b (k.map V.int)/\xs.length<HB/\∀u,RelV v u->N (Cu H a (.ext (Ji a (storedH xs k b u))))
def zas {xs}{k:List Int}{b u}:(storedH xs k b u).length<=xs.length+1:=by
 unfold storedH;grind
def zbg (r:X.A.units+30<Jz):acA X (ab2 X.K):=by
 rintro anq s σ H o i v Y c u Q I S U O ⟨a,xs,k,b,n,e,h,p,m,l,q⟩;subst n p;obtain rfl:Y=Value.ref a:=S;obtain rfl:c=Value.ref b:=U;obtain⟨z,j,dd⟩:=Ca I e h;refine wpAny_setItem_heap (hsz:=z) (tupleKind_room_in1<|by lia) (zW I m) dd λh' J f=>⟨_,?_,q u O⟩;exact uY I (e ▸ True.intro) f (let⟨q,_,_,g,_⟩:=J;⟨q,g⟩)<|JB (by have:=zas (xs:=xs) (k:=k) (b:=b) (u:=u);lia) j J
abbrev Mr:ZD:=λo i w h N=>match o,Ur i with
 | .loc n,Go k=>(match h.c n with
  | some (.dtt kvs)=>fG (kvs.length+1) (N (h.set n (.dtt (aap kvs k w))))
  | _=>False)
 | _,_=>False
def Nm {K H μ}{k w v}{u}(c:RelV v u)(r:Bk K H μ w v):∀{kvs:List (List Int×W)}{xs:List (List Int×Addr×Mk)}{vs},kvs.map (·.1)=xs.map (·.1)->BL vs (xs.map (·.2.2))->aV K H μ (kvs.map (·.2)) vs ->
  ∃O,BL O ((xs.map (putAt k u)).map (·.2.2))/\aV K H μ ((kvs.map (λx=>if x.1=k then(x.1,w)else x)).map (·.2)) O
 | [],[],_,_,_,_=>⟨[],.nil,by rw[V5,V5,aV]⟩
 | x::kvs,y::xs,vs,e,f,g=>by
  obtain⟨e1,e2⟩:=V1 e;obtain⟨S,O,rfl,h,d⟩:=g;cases f with
  | cons a b=>
   obtain⟨J,Y,U⟩:=Nm c r e2 b d;by_cases z:y.1=k
   refine⟨v::J,?_,?_⟩;refine .cons ?_ Y;unfold putAt
   rwa[if_pos z]
   rw[Hz];refine⟨v,J,rfl,?_,U⟩
   rwa[if_pos (e1.trans z)]
   refine⟨S::J,?_,?_⟩;refine .cons ?_ Y;unfold putAt
   rwa[if_neg z]
   rw[Hz];refine⟨S,J,rfl,?_,U⟩
   rwa[if_neg (λq=>z (e1.symm.trans q))]
def Mz {k w}:∀{kvs:List (List Int×W)},(kvs.map (λx=>if x.1=k then(x.1,w)else x)).map (·.1)=kvs.map (·.1)
 | []=>rfl
 | x::kvs=>by
  rw[Hz,Hz,Mz];grind
def Kl {k w}:∀{kvs:List (List Int×W)},(kvs.map (λx=>if x.1=k then(x.1,w)else x)).map (λx=>W.tup (x.1.map W.int))=kvs.map (λx=>W.tup (x.1.map W.int))
 | []=>rfl
 | x::kvs=>by
  rw[Hz,Hz,Kl];grind
def aV.snoc {K:Az}{H:Hp}{μ:Mu}{w:W}{v:V}(r:Bk K H μ w v):∀{ws:List W}{vs:List V},aV K H μ ws vs->aV K H μ (ws++[w]) (vs++[v])
 | [],_,h=>by
  rw[h];exact⟨v,[],rfl,r,by rw[aV]⟩
 | a::ws,_,h=>by
  obtain⟨b,bs,rfl,h1,h2⟩:=h;exact⟨b,bs++[v],rfl,h1,aV.snoc r h2⟩
def pL {K H μ}:∀k:List Int,aV K H μ (k.map W.int) (k.map V.int)
 | []=>by rw[V5,V5,aV]
 | i::k=>⟨_,_,rfl,by rw[Bk],pL k⟩
def alp {K}:Gp K (ab2 K) Mr:=by
 intro H μ h o i v wo wi w B N R l s r m k;unfold Mr at m;split at m
 ·rename_i n O e;split at m
  ·rename_i kvs y;obtain⟨p,xs,vs,f,x,e1,e2,d,c⟩:=R.dttAt y;obtain⟨p',ex,S⟩:=l;obtain rfl:=by rw[f]at S;exact(IV S).symm
   obtain⟨b,z,j⟩:=pN s e;have A:=by have:=congrArg Rb e1;rwa[Bo,Bo]at this
   have J:=λ(o:HO)=>(Ex.write (o:=o) R f).ext
   refine⟨p',xs,O,b,ex,x,jO e1 d,z,j,by have:=m.ok.1;lia,λu g=>k _ ⟨μ,_,J _,R.write f trivial ?_,m.ok.2⟩⟩;have U:=(wF e1 e2 c O).2;cases Y:atKey xs O with
   | some q=>
    rw[Y]at U;obtain⟨a,u,t⟩:=Nm g r e1 e2 c;rw[storedH_old Y];unfold aap;rw[if_pos (show(Ez kvs O).isSome=true from U)];exact⟨_,a,aU,Mz.trans<|e1.trans zO.symm,u,by rw[Kl,yd];exact(J _).s d,(J _).s t⟩
   | none=>
    rw[Y]at U;rw[storedH_new Y];unfold aap;rw[if_neg (by rw[U];decide)];refine⟨_,vs++[v],aU,?_,?_,?_,?_⟩;rw[IK,IK,e1];rfl;rw[IK];exact BL.append e2 (.cons g .nil);rw[IK,IK];exact(J _).s (aV.snoc (by exact⟨b,_,rfl,j,pL O⟩) d);rw[IK];exact(J _).s (aV.snoc r c)
  cases m
 cases m
end
section
variable {prog:Cq}{w:Cd}{A:Cw}{E:Mk->AP->Prop}{s:AP}
end
section
variable {X:Cx}
end
abbrev ps (h:Int):Nat->Nat×Nat
 | 0=>(Xz h % 32,Xz h)
 | n+1=>SetTable.leap 31 (ps h n).1 (ps h n).2
section
variable {prog:Cq}{w:Cd}{A:Cw}{E:Mk->AP->Prop}{s:AP}{a:Addr}
end
section
variable {prog:Cq}{w:Cd}{A:Cw}{E:Mk->AP->Prop}{s:AP}{m:Nat}{t:sV}{a b:Addr}{k:List Int}
end
section
variable {prog:Cq}{w:Cd}{A:Cw}{E:Mk->AP->Prop}{R:Qi->AP->Prop}
end
section
variable {prog:Cq}{w:Cd}{A:Cw}{E:Mk->AP->Prop}{s:AP}
end
section
variable {X:Cx}{K:Az}
end
section
variable {X:Cx}{K:Az}{o e:Expr}{mo:ME}{apos ant:Pos}
end
abbrev Gi:List Mk->Bool
 | .ref _::r=>Gi r
 | l=>l==[.type "ValueError",.type "Exception",.type "BaseException",.type "object"]
def zbb (y:Mk)(l:List Mk):Gi l=true->refuseLoop y "__setattr__" l=pure ():=by
 induction l with
 | nil=>intro e;cases e
 | cons v r J=>
  intro e;cases v with
  | ref c=>
   rw[refuseLoop_ref];exact J e
  | _=>
   exact eq_of_beq e ▸ PySem.F.store_ValueError.passes y
def aau (l):Gi l=true->l.contains (.type "object")=true:=by
 induction l with
 | nil=>intro e;cases e
 | cons v r J=>
  intro e;cases v with
  | ref c=>
   rw[List.contains_cons,J e];exact Bool.or_true _
  | _=>
   rw[eq_of_beq e];decide +kernel
abbrev Wc (K:Az)(C:Addr):Bool:=(Wv K C).any λcd=>Gi cd.mro
section
variable {prog:Cq}{w:Cd}{A:Cw}{s:AP}{K:Az}{x C:Addr}{R:Qi->AP->Prop}
def ae2 {g}{dd nm}{J u}(X:K.In s.heap)(I:Xr s.heap x g C dd)(j:Wc K C=true)(ht:Nq K (.ref C) nm=Go JI)
  (h:Bb (Bg prog w) A.in1 (PySem.Builtin.ObjectAttr.storeInOwnDict (.ref x) (.ref C) (.str nm J) nm u false)
   (λf1 O=>match f1 with
    | .done y=>R (.ok y) O
    | .again f=>f.quiet=true/\PL (Bg prog w) A f R O) (λe1 O=>R (.error e1) O) s) :
  PL (Bg prog w) A (.call (.builtin "object.__setattr__") ⟨[.ref x,.str nm J,u],[]⟩) R s:=by
 obtain⟨c0,e,S⟩:=PySem.W.any_some j;have c:c0.mro.isEmpty=false:=by
  cases q:c0.mro with
  | nil=>rw[q]at S;cases S
  | cons _ _=>rfl
 have Y:Qp K C (.type "object")=Go true:=by
  unfold Qp;rw[e,Wq,if_neg (by rw[c];decide),aau _ S]
 have b:YG (Bg prog w) s.heap (Xn (.ref x) (.type "object")) true:=I.type.andThen (Zf X Y);refine codeAny_call_builtin ZJ.slot.plain ZJ.entry ?_;refine PySem.W.check_slot (i := "object.__setattr__") (owner := "object") (n := "__setattr__") (self:=.ref x) (rest:=[.str nm J,u]) (kw:=[]) ZJ.kind ZJ.split b (ZJ.args (.ref x) (.str nm J) u) ?_;have a:YG (Bg prog w) s.heap (mroOf (.ref C)) c0.mro:=(PySem.W.looks_clsIn X e).andThen .now;rw[PySem.W.osa_eq,refuse_eq];refine Ac<|Ac<|I.type.here<|Ac<|a.here ?_
 rw[zbb _ _ S];refine Bj<|Ac<|I.type.here<|Ac<|(ZK X ht).here (Ac ?_)
 exact Bj h
end
variable {nm:Str}
section
variable {prog:Cq}{w:Cd}{A:Cw}{E:Mk->AP->Prop}{s:AP}{K:Az}{x dx C f:Addr}{mA:Str->Option Mk}{name:Str}{v:Mk}
def aky {fs}{Q}(X:K.In s.heap)(i:s.heap.get? x=Go ⟨.ref C,JI,.fields fs,sl⟩)
  (hs:Nq K (.ref C) "__setattr__" = Go (Go (.builtin "object.__setattr__"))) (F:Wc K C=true) (ht:Nq K (.ref C) name=Go JI) (hh:ZV K C=true)
  (h:∀h',h'.get? x=Go ⟨.ref C,Go s.heap.objs.size,.fields fs,sl⟩->h'.Ns1 s.heap.objs.size (λy=>if y=name then Go v else JI)->(∀b o,b≠x->s.heap.get? b=Go o->h'.get? b=Go o)->Q () {s with heap:=h',toks:=s.toks+2}) :
  Bb (Bg prog w) A (setAttr (.ref x) name v) Q E s:=by
 have J:Xr s.heap x ⟨.ref C,JI,.fields fs,sl⟩ C JI:=⟨i,rfl,rfl,trivial⟩
 refine PySem.W.set_plain X J hs<|ae2 (s:={s with toks:=s.toks+1}) X J F ht ?_
 obtain⟨T,H,n⟩:=PySem.W.any_some hh;refine Ac<|Bj<|Ac<|Ac<|wpAny_loadPart i<|Ac<|PySem.W.Looks.here (s:={s with toks:=s.toks+1}) (PySem.W.looks_clsIn X H) ?_
 rw[n];obtain⟨O,g,d,t,os⟩:=s;refine Ac<|wpAny_alloc' ?_
 have k:x<O.objs.size:=Hh i;have U:(O.push {cls:=.type "dict",data:=.dict #[]}).get? x=Go ⟨.ref C,JI,.fields fs,sl⟩:=HJ _ i;have M:(O.push {cls:=.type "dict",data:=.dict #[]}).get? O.objs.size=Go {cls:=.type "dict",data:=.dict #[]}:=Il _ rfl;refine Ac<|wpAny_update' U ?_
 refine Bj ?_;show Bb _ _ (Builtin.ObjectAttr.storeInDict O.objs.size (Value.str name t) name v) _ _ _;have a:O.objs.size≠x:=Nk k;generalize r:(O.push {cls:=.type "dict",data:=.dict #[]}).update x (λo=>{o with dict:=Go O.objs.size})=j;have I:j.get? x=Go ⟨.ref C,Go O.objs.size,.fields fs,sl⟩:=by rw[<-r];exact RP _ U rfl
 have L:j.Ns1 O.objs.size (λ_=>JI):=by
  refine⟨{cls:=.type "dict",data:=.dict #[]},#[],_,?_,rfl,(λe G=>absurd G<|by simp),?_,λ_=>rfl⟩;rw[<-r,P0 _ _ (Jp a)];exact M;unfold UniqKeys;simp
 have D:∀b o,b≠x->O.get? b=Go o->j.get? b=Go o:=λb o q e=>by rw[<-r,P0 _ _ (Jp q)];exact HJ _ e
 refine Ac<|Bj<|Ac ?_
 refine wpAny_nsSet1 (s:=⟨j,g,d,t+1,os⟩) L λh' c Y=>?_;obtain⟨R,N,P,l,m,p⟩:=c.count (PySem.Within.cons name v (show PySem.Within (λ_=>JI) []from λ_ z=>absurd rfl z));refine Ac<|wpAny_lookBehind l (by rw[m];exact pastItsLine_dict (HW p<|by simp[sizeLine_eq])) ?_
 exact Bj (h h' ((Y.2 x (Jp a)).trans I) c λb o q e=>by
  by_cases f:b=O.objs.size
  rw[f]at e;exact absurd (Hh e) (Qo _);exact(Y.2 b f).trans (D b o q e))
end
section
variable {prog:Cq}{w:Cd}{A:Cw}{E:Mk->AP->Prop}{s:AP}{K:Az}{x:Addr}{ox:Obj}
def zbi {Q od name v}{O}(X:K.In s.heap)(I:Xr s.heap x ox D od)(a:Nq K (.ref D) "__getattribute__" = Go (Go (.builtin "BaseException.__getattribute__")))(Y:Nq K (.ref D) "__getattr__" = Go JI)
  (c:PySem.W.findObj K D od name=Go (.value v)) (hh:PySem.W.handedIn v=true) (e:Qp K D (.type "BaseException")=Go true)
  (h:Q v {s with toks:=s.toks+1}):Bb (Bg prog w) A (getAttr (.ref x) name O) Q E s:=by
 obtain⟨l,g,d,t,os⟩:=s;have b:=I.type (M:=Bg prog w);have k:=ZK (M:=Bg prog w) X a;have j:=ZK (M:=Bg prog w) X Y;have i:=PySem.W.looks_find (M:=Bg prog w) X I c;have f:=Zf (M:=Bg prog w) X e;unfold getAttr getAttrBy;refine Ac<|wpAny_mkText<|Ly<|Ac<|PySem.W.Looks.at b<|Ac<|PySem.W.Looks.at k ?_
 show Bb _ _ (if(onTheHeap (Value.ref D)&&(Value.builtin "BaseException.__getattribute__"==Value.builtin "object.__getattribute__"))=true then _ else getAttrByItsOwn _ _ _ _ _ _) _ _ _;have U:(Value.builtin "BaseException.__getattribute__"==Value.builtin "object.__getattribute__")=false:=by decide +kernel
 rw[U,YH,if_neg RM];unfold getAttrByItsOwn;refine Ac<|show Bb _ _ (Wb (Value.ref D) "__getattr__") _ _ _ from PySem.W.Looks.at j ?_
 refine Ac<|Wn<|Ly ?_
 unfold callGetattribute;rw[show onTheHeap (Value.builtin "BaseException.__getattribute__")=false from rfl,YH,if_neg RM];unfold boundAndCalled;rw[qY.ga.bind (.ref x)];refine Ac<|Bj ?_
 dsimp only;refine wpAny_call<|codeAny_call_builtin qY.ga.plain F.entry_bexc_ga ?_
 have Y:builtinKind "BaseException.__getattribute__" = Go .slot:=by decide +kernel
 have J:splitId "BaseException.__getattribute__" = Go ("BaseException", "__getattribute__"):=by decide +kernel
 have m:=F.args_bexc_ga (.ref x) (.str name t);simp only[checkBuiltinCall,Y,J];show Bb (Bg prog w) A.in1 (Xn (Value.ref x) (Value.type "BaseException") >>= _) _ _ _;refine Ac ?_;unfold Xn;refine Ac<|PySem.W.Looks.at b<|PySem.W.Looks.at f ?_
 rw[if_neg (by decide)];change Bb (Bg prog w) A.in1 (match Manifest.signature? "BaseException.__getattribute__" with
  | some S=>Bind.checkArgs "BaseException.__getattribute__" S ⟨[Value.ref x,Value.str name t],[]⟩
  | x=>pure ()) _ _ _
 repeat(any_goals(first|assumption|(with_reducible refine Y8 I.at_ ?_;rw[I.cls])|with_reducible refine PySem.W.Looks.at i ?_|wp_step))
 show Bb _ _ (handedOut v) _ _ _;rw[PySem.W.handedOut_of hh];exact Bj h
end
section
variable {prog:Cq}{w:Cd}{A:Cw}{E:Mk->AP->Prop}{h:Heap}{g:Array GenState}{d:Drawn}{t:Nat}{os:OsState}
variable {q:Str}{C N:Addr}{bs bm bmB:List Mk}{hdct:Bool}{sn:List Str}{sub:List Mk}{ab:Bool}{col:Option Bool}{dd:Option Addr}{k0 k1 k2 k3 k5:Option Mk}{B newId initId:String}{K:Az}{f:Addr}
@[reducible]noncomputable def Qf (C:Addr)(a:Addr):Obj:={cls:=.ref C,data:=.fields #[.ref a,.none,.none,.none,.bool false,.none]}
def ajT (F:ExcBaseFacts B newId initId bmB)(T:OwnTail h bmB bm){mN rest}{Q}(X:K.In h)(U:ZF K (.ref f)=Go (.type "function"))
  (c0:h.get? C=Go (YJ nm q C N bs bm hdct sn sub ab col dd k0 k1 k2 k3 k5 newId)) (i:h.Ns N mN) (hi:mN "__init__" = Go (.ref f))
  (j:Bb (Bg prog w) A (call (.ref f) (.ref (h.objs.size+1)::rest)) (λr s'=>r=.none/\Q (.done (.ret (.ref (h.objs.size+1)))) s') E ⟨(h.push {cls:=.type "tuple",data:=.seq rest.toArray}).push (Qf C h.objs.size),g,d,t,os⟩) (Y:rest.length<=HB) :
  Bb (Bg prog w) A (Wy.«type.__call__» ⟨.ref C::rest,[]⟩) Q E ⟨h,g,d,t,os⟩:=by
 have S:∀b o,h.get? b=Go o->((h.push {cls:=.type "tuple",data:=.seq rest.toArray}).push (Qf C h.objs.size)).get? b=Go o:=λb o z=>HJ _ (HJ _ z)
 have c:=S _ _ c0;have e:=i.keeps S;have l:=T.keeps S;have k:K.In ((h.push {cls:=.type "tuple",data:=.seq rest.toArray}).push (Qf C h.objs.size)):=λa o z=>S a o (X a o z)
 have O:((h.push {cls:=.type "tuple",data:=.seq rest.toArray}).push (Qf C h.objs.size)).get? (h.objs.size+1)=Go (Qf C h.objs.size):=by heap_get
 have own:(Value.ref C::bm).contains (.ref C)=true:=by rw[List.contains_cons];simp
 repeat(first|wp_step|(with_reducible refine J c0 ?_)|(with_reducible refine Y8 c0 ?_))
 refine codeAny_call_builtin_code (Code.quiet_builtin _ F.quiet)<|wpAny_check_new_subT F T c0<|codeAny_exc_new_subT F T c0 ?_ Y
 show Bb _ _ _ _ _ _;unfold Xn;repeat(first|wp_step|(with_reducible refine Y8 O ?_)|(with_reducible refine wpAny_isSubtype_exc c ?_;rw[own]))
 refine(show Bb _ _ (Wb (.ref C) _) _ _ _ from wpAny_typeLookup_tail c e l F.mroIs F.init.lookup ?_);rw[hi];refine Ly<|Ac<|PySem.W.Looks.here (s:=⟨_,g,d,t,os⟩) (PySem.W.bind_fn k (.ref<|h.objs.size+1) U) ?_
 refine Ac<|Kv j (λr s' z=>?_) λ_ _ z=>z
 rw[z.1];exact Bj<|show Bb _ _ (ret<|Value.ref<|h.objs.size+1) _ _ _ from Bj z.2
def vG (F:ExcBaseFacts B newId initId bmB)(T:OwnTail h bmB bm){mN rest}{Q}(X:K.In h)(J:ZF K (.ref f)=Go (.type "function"))
  (c0:h.get? C=Go (YJ nm q C N bs bm hdct sn sub ab col dd k0 k1 k2 k3 k5 newId)) (S:h.Ns N mN) (hi:mN "__init__" = Go (.ref f))
  (U:Bb (Bg prog w) (A.under (.builtin "type.__call__" ⟨.ref C::rest,[]⟩)) (call (.ref f) (.ref (h.objs.size+1)::rest)) (λr s'=>r=.none/\Q (.ref (h.objs.size+1)) s') E ⟨(h.push {cls:=.type "tuple",data:=.seq rest.toArray}).push (Qf C h.objs.size),g,d,t,os⟩) (O:rest.length<=HB) :
  Bb (Bg prog w) A (call (.ref C) rest) Q E ⟨h,g,d,t,os⟩:=by
 have b:Shared.TypeIs ⟨h,g,d,t,os⟩ (.ref C) "type":=⟨_,c0,rfl⟩
 have a:=tc_bind (.ref C);have Y:=tc_lookup;refine wpAny_call<|codeAny_of_tree<|show Bb _ _ (callAny (.ref C) _) _ _ _ from ?_
 repeat(any_goals(first|(with_reducible refine Y8 c0 ?_)|assumption|wp_step))
 exact⟨rfl,codeAny_call_builtin_at (Code.quiet_builtin _<|by decide +kernel) entry_typeCall<|wpAny_check_type_call_sub c0<|ajT F T X J c0 S hi U O⟩
end
variable {hdct:Bool}{sn:List Str}{bm sub:List Mk}{dd:Option Addr}{col:Option Bool}{mN:Str->Option Mk}{initId newId:String}
section
variable {prog:Cq}{w:Cd}{M:Model}{A:Cw}{E:Mk->AP->Prop}{s:AP}{env:Env}{K:Az}{f:Addr}
variable {q:Str}{C N:Addr}{bs bmB:List Mk}{ab:Bool}{k0 k1 k2 k3 k5:Option Mk}{B:String}
abbrev QtE (A:Cw)(h:Heap)(e:Addr):Prop:=∀v,A.handled=Go v->∃a l,v=.ref a/\Ir h l v/\e∉l
def QZ.heapL {P w H}{h v}(c:QZ H v)(x:Kg P w H h):∃l,Ir h l v/\∀a∈l,H a≠JI:=by
 induction c with
 | nil=>exact⟨[],.nil,λa J=>absurd J (by simp)⟩
 | @cons c o u vs z h1 h2 S _ O=>
  obtain⟨l,t,k⟩:=O;refine⟨_,.cons (x _ _ h1).1 h2 S t,λa J=>?_⟩;rcases Kz.mp J with rfl|J
  rw[h1];exact λq=>nomatch q
  exact k a J
def Quiet.qte {A P w H}{h e}(q:Quiet A H)(x:Kg P w H h)(J:H e=JI):QtE A h e:=λv z=>by
 obtain⟨⟨a,h1⟩,c⟩:=q v z;obtain⟨l,t,k⟩:=c.heapL x;exact⟨a,l,h1,t,λy=>k e y J⟩
def zaF {d oe}{ws e}{Q}(g:QtE A s.heap e)(O:s.heap.get? e=Go oe)(S:oe.data=.fields ws)(hz:2<ws.size)
  (h:∀h',(∀b,b≠e->h'.get? b=s.heap.get? b)->(∃o',h'.get? e=Go o'/\o'.cls=oe.cls/\o'.dict=oe.dict/\((A.handled=JI/\h'=s.heap)\/∃v,A.handled=Go v/\o'.data=.fields (ws.setIfInBounds 2 v)))->E (.ref e) {s with heap:=h'}):Bb (Bg prog w) A (raiseNew (.ref e):Sem d) Q E s:=by
 refine Ac<|wpAny_handled ?_
 cases hh:A.handled with
 | none=>
  exact Ac<|Bj<|YK<|h _ (λ_ _=>rfl) ⟨oe,O,rfl,rfl,.inl ⟨hh,rfl⟩⟩
 | some v=>
  obtain⟨a,l,rfl,c,U⟩:=g v hh;dsimp only;have f:(Value.ref a != Value.ref e)=true:=by
   simp only[bne_iff_ne];intro q;exact U<|Value.ref.inj q ▸ ((by cases c with|cons=>simp))
  rw[if_pos f];refine Ac<|Ly<|wpAny_runValue<|uM (Ac<|Ac<|wpAny_load O ?_) c U ⟨a,rfl⟩ _ false (λ_=>.refl) nofun
  rw[S];dsimp only;rw[if_pos hz];refine wpAny_update O<|YK ?_
  have J:=V8 S (·.setIfInBounds 2 (Value.ref a));exact h _ (λb i=>P0 _ _<|Jp i) ⟨_,RP _ O<|X6 J,Yt _ _,by obtain⟨c0,d0,j,sl⟩:=oe;cases S;rfl,.inr ⟨_,hh,J⟩⟩
abbrev Rsd (A:Cw)(C:Addr)(e:Addr)(t:Addr)(od:Option Addr)(h h':Heap):Prop:=(∀b,b≠e->h'.get? b=h.get? b)/\∃o',h'.get? e=Go o'/\o'.cls=.ref C/\o'.dict=od/\((A.handled=JI/\h'=h)\/∃v,A.handled=Go v/\o'.data=.fields (#[.ref t,.none,.none,.none,.bool false,.none].setIfInBounds 2 v))
def tX {x:Sem Mk}{Q:Flow->AP->Prop}(c:bm.contains (.type "BaseException")=true)
  (h:Bb (Bg prog w) A x (λv J=>∃e t od,v=.ref e/\J.heap.get? C=Go (YJ nm q C N bs bm hdct sn sub ab col dd k0 k1 k2 k3 k5 newId)/\J.heap.get? e=Go {Qf C t with dict:=od}/\QtE A J.heap e /\
   ∀h',Rsd A C e t od J.heap h'->E (.ref e) {J with heap:=h'}) E s):Bb (Bg prog w) A (raiseStmt env (Go x) JI) Q E s:=by
 have O:(Value.ref C::bm).contains (.type "BaseException")=true:=by rw[List.contains_cons,c];simp
 refine Ac<|Kv h (λv J k=>?_) λ_ _ z=>z;obtain⟨e,t,od,d,Y,U,b,z⟩:=k
 subst d;obtain⟨h1,i,j,f,g⟩:=J;repeat(first|wp_step|(with_reducible refine Y8 U ?_)|(with_reducible refine Y8 Y ?_)|(with_reducible refine wpAny_isSubtype_exc Y ?_;rw[O]))
 exact zaF b U rfl (by simp) λh' a l=>by obtain⟨o',b1,b2,b3,b4⟩:=l;exact z h' ⟨a,o',b1,b2,b3,b4⟩
def zax (F:ExcBaseFacts B newId initId bmB){x}{ant pos}{args}{Q}
  (o:bm.contains (.type "BaseException")=true) (d:(JD ant (Ck args env)).any (·.1)=false) (e:ZF K (.ref f)=Go (.type "function")) (hi:mN "__init__" = Go (.ref f))
  (h:Bb (Bg prog w) A (eval (.Name x np) env) (λfv S=>fv=.ref C/\Bb (Bg prog w) A (evalArgs (.ref C) true (JD ant (Ck args env)) [])
   (λa J=>(a.kw=[]/\a.pos.length<=HB/\K.In J.heap)/\(J.heap.get? C=Go (YJ nm q C N bs bm hdct sn sub ab col dd k0 k1 k2 k3 k5 newId)/\J.heap.Ns N mN/\OwnTail J.heap bmB bm) /\
    Bb (Bg prog w) (A.under (.builtin "type.__call__" ⟨.ref C::a.pos,[]⟩)) (call (.ref f) (.ref (J.heap.objs.size+1)::a.pos)) (λr O=>r=.none/\∃od,O.heap.get? C=Go (YJ nm q C N bs bm hdct sn sub ab col dd k0 k1 k2 k3 k5 newId)/\O.heap.get? (J.heap.objs.size+1)=Go {Qf C J.heap.objs.size with dict:=od}/\QtE A O.heap (J.heap.objs.size+1)/\∀h',Rsd A C (J.heap.objs.size+1) J.heap.objs.size od O.heap h'->E (.ref (J.heap.objs.size+1)) {O with heap:=h'}) E
     {J with heap:=(J.heap.push {cls:=.type "tuple",data:=.seq a.pos.toArray}).push (Qf C J.heap.objs.size)}) E S) E s) :
  Bb (Bg prog w) A (exec (.Raise (Go (.Call (.Name x np) args [] ant)) JI pos) env) Q E s:=by
 refine Ac<|Xj<|tX (nm:=nm) (q:=q) (C:=C) (N:=N) (bs:=bs) (hdct:=hdct) (sn:=sn) (sub:=sub) (ab:=ab) (col:=col) (dd:=dd) (k0:=k0) (k1:=k1) (k2:=k2) (k3:=k3) (k5:=k5) (newId:=newId) o<|Ac<|Kv (wpAny_Call_ofName<|Kv h (λfv S c=>?_) λ_ _ z=>z) (λv O U=>Ac<|Xj<|Bj U) λ_ _ z=>z;obtain⟨t,b⟩:=c
 subst t;refine Ac<|Ly<|Kv b (λa J ⟨⟨p,g,X⟩,⟨j,n,T⟩,Y⟩=>Ac<|Xj ?_) λ_ _ z=>z
 obtain⟨u,v⟩:=a;cases p;simp only[d];refine Ac<|wpAny_keeperOf_exc j<|Ac<|vG F T X e j n hi (Kv Y (λr O i=>⟨i.1,?_⟩) λ_ _ z=>z) g
 obtain⟨_,od,m,l,k⟩:=i;exact Ac<|Ly<|wpAny_point<|Bj ⟨_,_,od,rfl,m,l,k⟩
end
def akr {K}{h N n v}(X:K.In h)(G:h.Ns N m)(e:K7 K N n=Go (Go v)):m n=Go v:=by
 obtain⟨o,es,ep,J,S,_,O⟩:=G;unfold K7 at e;split at e
 rename_i z;have y:=X _ _ z;rw[J]at y;cases y;cases S;split at e
 rename_i U;cases e;have:=O n
 unfold nsFind findBy at this;simp_all
 simp_all
 cases e
abbrev Bf (K:Az)(C fi:Addr)(bmB:List Mk)(newId:String):Bool:=match K.lookup C with
 | some ⟨.type "type",_,.cls cd,sl⟩=>(match cd.mro,sl.toList with
  | .ref C'::bm,[_,_,_,_,Go (.builtin n),_]=>C'==C&&n==newId&&!cd.hasDel&&PySem.W.tailIn K bmB bm&&PySem.W.nsOkIn K cd.ns&&K7 K cd.ns "__init__"==Go (Go (.ref fi))
  | _,_=>false)
 | _=>false
variable {fi:Addr}
def akF {K}{h C}(X:K.In h)(q:Bf K C fi bm newId=true):
  ∃(tl:List Mk) (N:Addr) (nm U:Str) (bs:List Mk) (a:Bool) (sn:List Str) (sub:List Mk) (ab:Bool) (col:Option Bool) (dd:Option Addr) (k0 k1 k2 k3 k5:Option Mk) (mN:Str->Option Mk),
   K.lookup C=Go (YJ nm U C N bs tl a sn sub ab col dd k0 k1 k2 k3 k5 newId)/\h.Ns N mN/\mN "__init__" = Go (.ref fi)/\OwnTail h bm tl:=by
 unfold Bf at q;split at q
 rename_i dd g sl e;split at q
 rename_i j b k0 k1 k2 k3 n k5 c i;simp at q;obtain⟨⟨⟨⟨⟨rfl,rfl⟩,J⟩,ht⟩,O⟩,S⟩:=q;obtain⟨nm,bs,d,ns,U,a,sn,sub,ab,col,f⟩:=g;dsimp only at c J O S;subst c J;have Y:sl=#[k0,k1,k2,k3,Go (.builtin n),k5]:=by
  grind
 subst Y;exact⟨b,ns,nm,U,bs,a,sn,sub,ab,col,dd,k0,k1,k2,k3,k5,_,e,.of_isNs<|PySem.W.isNs_of_in X O,akr X (.of_isNs<|PySem.W.isNs_of_in X O) S,PySem.W.tail_of_in X ht⟩;cases q;cases q
abbrev exN (e C a:Addr):HO:=.ext λh=>h.get? e=Go (Qf C a)
abbrev exD (e C a dx:Addr):HO:=.ext λh=>h.get? e=Go {Qf C a with dict:=Go dx}
abbrev adG (K:Az)(C:Addr)(f:Str):Bool:=Nq K (.ref C) "__setattr__"==Go (Go (.builtin "object.__setattr__"))&&Wc K C&&Nq K (.ref C) f==Go JI&&ZV K C
abbrev ab6 (C:Addr)(f:Str)(ta tv:TE):TS:=λD σ H=>tv σ H λy H1=>ta σ H1 λx H2=>∃e a,x=.ref e/\H2 e=Go (exN e C a)/\∀dx,H2 dx=JI->dx≠e->D.nx σ (Cu (Cu H2 dx (.xd [(f,y)])) e (exD e C a dx))
section
variable {X:Cx}{o value:Expr}{f:Str}{C:Addr}{pos pos':Pos}{ta tv:TE}
def aly (hx:adG X.K C f=true)(ha:PE X o ta)(hv:PE X value tv)(hs:autoParam (Wg value (Go (.Attribute o f pos')) pos.line X.env=pure false) aPq._auto_1):PS X (.Assign [.Attribute o f pos'] value pos) (ab6 C f ta tv):=by
 unfold adG at hx;simp at hx;obtain⟨⟨⟨x1,x2⟩,x3⟩,x4⟩:=hx;intro anq s σ H D I h;refine plainObj_wpAny_Assign_Attribute (Hg (hv anq s σ H _ I h) λu s1 ⟨y,H1,I1,ry,q⟩=>Hg (ha anq s1 σ H1 _ I1 q) λov s2 c=>?_) hs;obtain⟨x,H2,I2,rx,e,a,ex,ee,q2⟩:=c;subst ex;obtain rfl:ov=Value.ref e:=rx;have ho:=(I2.hok e _ ee).1;have ne:=Nk (Hh ho);refine aky I2.kIn ho x1 x2 x3 x4 λh' hX hN kp=>⟨σ,_,?_,q2 _ (I2.hok.fresh<|Cm _) ne⟩;have m2:∀b,b≠e->(h'.update e λ_=>Qf C a).get? b=h'.get? b:=λb hb=>P0 _ _ (Jp hb)
 have Ia:Aw X anq σ (Cu H2 s2.heap.objs.size (.xd [(f,y)])) {s2 with heap:=h'.update e λ_=>Qf C a,toks:=s2.toks+2}:=by
  refine I2.laid (λb z hz=>?_) (Cm _) ⟨_,hN.at<|λod z=>m2 _ ne ▸ z,λg=>?_⟩;by_cases hb:b=e
  subst hb;rw[ho]at hz;rw[(RP _ hX rfl)];exact hz;rw[m2 b hb];exact kp b z hb hz;rw[W0];by_cases hg:g=f
  subst hg;rw[if_pos rfl,beq_self_eq_true];exact ry;rw[if_neg hg,show(g==f)=false from by simpa using hg];trivial
 exact Ia.write (by rw[aN<|Jp ne,ee];exact True.intro) (.inl rfl) (λb z hb hz=>m2 b hb ▸ hz) ⟨_,hX⟩ ⟨hX,⟨_,hX⟩,λh1 h2 z k=>k _ z⟩
end
abbrev spI (C:Addr)(f:Str):Sp:=λvs H Q _=>∃e a v,vs=[.ref e,v]/\H e=Go (exN e C a)/\∀dx,H dx=JI->dx≠e->Q .non (Cu (Cu H dx (.xd [(f,v)])) e (exD e C a dx))
def zcf {P:Cq}{w:Cd}{K:Az}{mg:Str->Option Mk}{base:Heap}{x qual:Str}{st:Stmt}{fd:ML}{O J f:Str}{C:Addr}{k:Nat}(F:Ss K x qual st fi fd)(S:g8 [O,J] [O,J] (bw st))
  (c:∀(cdv:Mk) (A:Cw) (outer:List Env) (s:AP) (H:Hp) (E:XK),jj k (A.deeper (RD qual (bw st) s.heap.objs.size fi cdv)) ->
   Py (Jg O8 P w K mg base [O,J] qual (bw st) fi cdv A outer s H E).nox (eX st) (ab6 C f (ac6 0) (ac6 1))):lJ P w K mg base O8 (k+1) fi fd [O,J] (spI C f):=by
 refine F.ok S (λvs H Q E g=>by obtain⟨e,a,v,U,_⟩:=g;rw[U];rfl) λcdv A outer s H vs Q E Y d=>?_;obtain⟨e,a,v,U,b,q⟩:=d;subst U;exact⟨_,c cdv A outer s H E Y,v,rfl,.ref e,rfl,e,a,rfl,b,q⟩
abbrev forget (H:Hp)(e:Addr):Hp:=λb=>if b=e then JI else H b
def iT {H}{e}:forget H e e=JI:=by unfold forget;rw[if_pos rfl]
def cY {H}{e b}(h:b≠e):forget H e b=H b:=by unfold forget;rw[if_neg h]
section
variable {X:Cx}{anq:List (Addr×Obj)}{σ:St}{H:Hp}{s:AP}{e:Addr}
def Aw.forget {f}{S:St}{a g}(I:Aw X anq σ H s)(d:H e=Go (.ext f))(Y:Aw X anq S a g)(h0:a e=JI)(h:X.s₀.heap.get? e=JI):Aw X anq σ (L2.forget H e) s:=by
 have U:∀b u,a b=Go u->b≠e:=λb u z y=>by rw[y,h0]at z;cases z
 refine⟨I.ok,I.os,I.bare,⟨I.base.keep,I.base.slot,λb O z y i=>?_,I.base.there,λb xs z=>?_,λb O v z=>?_,λb ps z=>?_⟩,I.loc,I.cell,?_,λx c z=>?_,λp j=>?_,λb v z=>?_,I.len⟩;rw[cY ((λb O z y=>by rw[y,h]at z;cases z) b O z)];exact I.base.free b O z y i;rw[cY (U b _ (Y.base.tups b xs z))];exact I.base.tups b xs z;rw[cY (U b _ (Y.base.frzs b O v z))];exact I.base.frzs b O v z;obtain⟨_,q⟩:=Y.base.tbls b ps z;rw[cY (U b _ q)];exact I.base.tbls b ps z;by_cases J:X.env.locals=e
 rw[J];exact iT;rw[cY J];exact I.free;by_cases J:c=e
 rw[J];exact iT;rw[cY J];exact I.freeC x c z;obtain⟨h1,l,k⟩:=I.pin p j;refine⟨h1,?_,k⟩;by_cases J:p.1=e
 simp_all
 rw[cY J];exact l;by_cases J:b=e
 rw[J,iT]at z;cases z;rw[cY J]at z;exact(I.hok b v z).stay (λ_ _ _ q=>q) (λc q=>by rw[cY (λy=>by rw[y,d]at q;cases q)];exact q) λc xs q=>by rw[cY (λy=>by rw[y,d]at q;cases q)];exact q
end
section
variable {X:Cx}{anq:List (Addr×Obj)}{σ:St}{H:Hp}{s:AP}{C:Addr}{x f:Str}{ant pos:Pos}{e:Expr}{t:TA}{k:Nat}{fd:ML}{ps:List Str}
def zaA {Q}{R:V->Hp->Prop}(hn:Z2 X)(hex:X.ex=[])(hg:Gl X x)(hm:X.mg x=Go (.ref C))(hq:Bf X.K C fi WX "ValueError.__new__" = true)(hfn:Xl X.K (.ref fi)=true)
  (Fi:lJ X.prog X.w X.K X.mg X.base O8 k fi fd ps (spI C f)) (hr:jj (k+1) X.A) (hb:Binds X.K fd ps []) (ha:PA X [e] t) (I:Aw X anq σ H s) (h:t σ H λvs H1=>∃v,vs=[v]/\R v H1)
  (hx:∀a dx H1 s' v,FX X anq σ (Cu H1 dx (.xd [(f,v)])) s' a C (Go dx)->H1 dx=JI->R v H1->X.xe (.ref a) s')
  (hdb:autoParam ((x==("__debug__" : Str))=false) aPq._auto_2) (he:autoParam (Ck [e] X.env=(false,eval e X.env)::Ck [] X.env) aPq._auto_1) :
  Bb (Bg X.prog X.w) X.A (exec (.Raise (Go (.Call (.Name x np) [e] [] ant)) JI pos) X.env) Q X.xe s:=by
 obtain⟨tl,N,nm,qn,bs,hd,sn,sub,ab,col,dd,k0,k1,k2,k3,k5,mN,hC,hN,hni,T⟩:=akF I.mod.kin hq;refine zax (K:=X.K) (f:=fi) (C:=C) (nm:=nm) (q:=qn) (N:=N) (bs:=bs) (bm:=tl) (hdct:=hd) (sn:=sn) (sub:=sub) (ab:=ab) (col:=col) (dd:=dd) (k0:=k0) (k1:=k1) (k2:=k2) (k3:=k3) (k5:=k5)
  PySem.F.excBase_ValueError (mN:=mN) (T.hasType PySem.F.excBase_ValueError.hasBase) (by rw[he];rfl) (beq_iff_eq.mp hfn) hni (wU I hg hm ⟨rfl,?_⟩ hdb)
 have g:=ha ant anq s σ H _ I h;rw[he]at g|-
 refine Zj<|Hg g λus s2 d=>?_;obtain⟨vs,H2,I2,r,v,ev,kk⟩:=d
 subst ev;obtain⟨u,rfl,ru⟩:=vals1 r;refine⟨⟨rfl,by simp[sizeLine_eq],I2.kIn⟩,⟨I2.kIn _ _ hC,hN.keeps I2.bk,T.keeps I2.bk⟩,?_⟩;have self:=by
  have:=Il (s2.heap.push {cls:=.type "tuple",data:=.seq [u].toArray}) (o:=Qf C s2.heap.objs.size) rfl
  rwa[RQ]at this
 have nw:=I2.newOf (b:=s2.heap.objs.size+1) (X3 (Ra _));have I3:Aw X anq σ (Cu H2 (s2.heap.objs.size+1) (exN (s2.heap.objs.size+1) C s2.heap.objs.size)) {s2 with heap:=(s2.heap.push {cls:=.type "tuple",data:=.seq [u].toArray}).push (Qf C s2.heap.objs.size),toks:=s2.toks}:=
  I2.laid (λb z hz=>HJ _ (HJ _ hz)) (Ra _) ⟨self,⟨_,self⟩,λh1 h2 z q=>q _ z⟩
 have sp:spI C f [.ref (s2.heap.objs.size+1),v] _ (λr H4=>r=.non/\∃dx,H2 dx=JI/\dx≠s2.heap.objs.size+1/\H4=Cu (Cu _ dx (.xd [(f,v)])) (s2.heap.objs.size+1) (exD (s2.heap.objs.size+1) C s2.heap.objs.size dx)) E0:=
  ⟨_,_,v,rfl,aU,λdx h1 h2=>⟨rfl,dx,by rw[aN h2]at h1;exact h1,h2,rfl⟩⟩
 have r2:BL [V.ref (s2.heap.objs.size+1),v] [Value.ref (s2.heap.objs.size+1),u]:=.cons rfl (.cons ru .nil);refine wpAny_call<|YQ (Fi.run _ X.stack _ _ ⟨[Value.ref<|s2.heap.objs.size+1,u],[]⟩ [Value.ref<|s2.heap.objs.size+1,u] _ _ E0 (hr.make C [u] []) (I3.env0.make C [u] []) (hb _ [Value.ref<|s2.heap.objs.size+1,u] I3.kIn (by rw[<-Fi.len _ _ _ _ sp];rfl)) r2 sp) λr s' hq'=>?_
 cases r with
 | error ev=>exact ab9 anq σ _ _ ev s' I3 hq'
 | ok fl=>
  cases fl with
  | ret uv=>
   obtain⟨v',H',I4,rv,ev,dx,h1,h2,eH⟩:=I3.after hq';subst ev eH;have he4:=(I4.hok (s2.heap.objs.size+1) _ aU).1;have s0:X.s₀.heap.get? (s2.heap.objs.size+1)=JI:=by
    rcases nw.s with q|q
    rw[hex]at q;cases q;exact q
   have I5:=I4.forget aU I2 nw.h s0;have eF:forget (Cu (Cu (Cu H2 (s2.heap.objs.size+1) (exN (s2.heap.objs.size+1) C s2.heap.objs.size)) dx (.xd [(f,v)])) (s2.heap.objs.size+1) (exD (s2.heap.objs.size+1) C s2.heap.objs.size dx)) (s2.heap.objs.size+1)=Cu H2 dx (.xd [(f,v)]):=by
    funext b;by_cases hbe:b=s2.heap.objs.size+1
    rw[hbe,iT,aN (Jp h2)];exact nw.h.symm;rw[cY hbe,aN hbe];by_cases hbd:b=dx
    rw[hbd,aU,aU];rw[aN hbd,aN hbd,aN hbe]
   rw[eF]at I5;have ne5:Cu H2 dx (.xd [(f,v)]) (s2.heap.objs.size+1)=JI:=by rw[aN (Jp h2)];exact nw.h
   have n5:New X anq (Cu H2 dx (.xd [(f,v)])) (s2.heap.objs.size+1):=⟨ne5,nw.s,nw.l,nw.c,nw.p,nw.f⟩
   refine⟨rv,Go dx,I4.kIn _ _ hC,he4,Quiet.qte (A:=X.A) I5.qt0 I5.hok ne5,λh' i=>?_⟩;obtain⟨rs,o',b1,b2,b3,b4⟩:=i;have st:Rm (New X anq (Cu H2 dx (.xd [(f,v)]))) (frs X.stack) s'.heap h':=by
    have nn:∀b,¬New X anq (Cu H2 dx (.xd [(f,v)])) b->b≠s2.heap.objs.size+1:=λb q z=>q (by rw[z];exact n5)
    refine⟨λb o q _ z=>(rs b<|nn b q).trans z,λb o q z=>⟨o.slots,(rs b<|nn b q).trans z⟩,λb o z=>?_⟩;by_cases hb:b=s2.heap.objs.size+1
    rw[hb];exact⟨o',b1⟩;exact⟨o,(rs b hb).trans z⟩
   refine hx _ dx H2 _ v ⟨I5.stp st,n5,o',?_⟩ h1 kk;rcases b4 with⟨_,rfl⟩|⟨y,hy,hd'⟩
   rw[he4]at b1;cases b1;exact⟨_,he4,rfl,rfl,rfl,by simp,⟨.none,rfl,.nil⟩,.inl rfl⟩;exact⟨_,b1,b2,b3,hd',by simp,⟨y,by simp,(hn y hy).mono (λ_ q=>q) I5.base.frzs⟩,.inl<|by simp⟩
  | next=>exact S7 hq'
  | brk=>exact S7 hq'
  | cont=>exact S7 hq'
end
abbrev vH (x f:Str)(ma:ME)(E:Bt):MS:=λ_ σ h=>ma σ h λw h1=>E ⟨x,[(f,w)]⟩ h1
section
variable {X:Cx}{e:Expr}{pos:Pos}
def zaG {C}{x f ant k fd}{ps}(hn:Z2 X)(hex:X.ex=[])(hg:Gl X x)(hm:X.mg x=Go (.ref C))(hq:Bf X.K C fi WX "ValueError.__new__" = true)(hfn:Xl X.K (.ref fi)=true)
  (Fi:lJ X.prog X.w X.K X.mg X.base O8 k fi fd ps (spI C f)) (hr:jj (k+1) X.A) (hb:Binds X.K fd ps []) (hx:Sv X.K C x=true) (hf:Al x=[f]) (ha:DE X e ma) (hdb:autoParam ((x==("__debug__" : Str))=false) aPq._auto_2) (he:autoParam (Ck [e] X.env=(false,eval e X.env)::Ck [] X.env) aPq._auto_1) :
  XD X Γ (.Raise (Go (.Call (.Name x np) [e] [] ant)) JI pos) (λE=>vH x f ma E):=by
 rintro anq s σ H D I ⟨g,μ,h,σw,Dw,E,R,S,m,k,kx⟩;have hxc:=by
  have:=hx
  unfold Sv at this;simp at this;exact this.1.1
 refine zaA (R:=λv H1=>∃μ1 w h1,Ib X.K H μ H1 μ1/\G3 X.K μ1 H1 h1/\Bk X.K H1 μ1 w v/\E ⟨x,[(f,w)]⟩ h1) hn hex hg hm hq hfn Fi hr hb (fL ha cX he) I ⟨μ,h,σw,λws h1=>∃w,ws=[w]/\E ⟨x,[(f,w)]⟩ h1,R,S,?_,λvs H' ⟨μ1,ws,h1,e1,R1,r1,w,ew,m1⟩=>?_⟩ (λa dx H1 s' v F hdx ⟨μ1,w,h1,e1,R1,r1,m1⟩=>?_) hdb he;exact(show ma σw h λw h1=>aG σw h1 λws h2=>∃w',(w::ws)=[w']/\E ⟨x,[(f,w')]⟩ h2 from by
  have:(λw h1=>E ⟨x,[(f,w)]⟩ h1)=(λ(w:W) (h1:Gh)=>aG σw h1 λws h2=>∃w',(w::ws)=[w']/\E ⟨x,[(f,w')]⟩ h2):=by
   funext w h1;apply propext;constructor;exact λz=>⟨w,rfl,z⟩;rintro⟨w',ew,z⟩;simp_all
  exact this ▸ m)
 subst ew;obtain⟨v,vr,ev,rv,r0⟩:=r1;subst r0;grind
 have ex:Ib X.K H1 μ1 (Cu H1 dx (.xd [(f,v)])) μ1:=(Ex.laid hdx).ext;refine kx _ s' ⟨a,C,x,Go dx,[(f,w)],anq,σ,_,μ1,h1,rfl,F,hxc,g,e1.trans ex,R1.laid hdx,.inr ⟨dx,[w],[v],rfl,hx,by rw[hf];rfl,by rw[hf];rfl,by rw[hf];rfl,?_,aV.one<|ex.r _ _ r1⟩,m1⟩;exact hf ▸ aU
def zaw {C:Addr}{x f:Str}{ant:Pos}{k:Nat}{fd:ML}{ps:List Str}(hc:X.calm=true)(hex:X.ex=[])(hg:Gl X x)(hm:X.mg x=Go (.ref C))(hq:Bf X.K C fi WX "ValueError.__new__" = true)(hfn:Xl X.K (.ref fi)=true)
  (Fi:lJ X.prog X.w X.K X.mg X.base O8 k fi fd ps (spI C f)) (hr:jj (k+1) X.A) (hb:Binds X.K fd ps []) (hx:Sv X.K C x=true) (hf:Al x=[f]) (ha:DE X e ma) (hdb:autoParam ((x==("__debug__" : Str))=false) aPq._auto_2) (he:autoParam (Ck [e] X.env=(false,eval e X.env)::Ck [] X.env) aPq._auto_1) :
  XD X Γ (.Raise (Go (.Call (.Name x np) [e] [] ant)) JI pos) (λE=>vH x f ma E):=
 λanq s σ H D I=>zaG (.of hc I.ok) hex hg hm hq hfn Fi hr hb hx hf ha hdb he anq s σ H D I
end
abbrev Xp (f:Str)(ma:ME):ME:=fun σ h Q=>ma σ h λw h1=>match w with
 | .exa n ws=>(match((Al n).zip ws).lookup f with
  | some v=>Q v h1
  | none=>False)
 | _=>False
def ud {K H μ}{f v}:∀{ns:List Str}{ws xs},aV K H μ ws xs->(ns.zip ws).lookup f=Go v->∃x,(ns.zip xs).lookup f=Go x/\Bk K H μ v x
 | n::ns,w::ws,xs,r,e=>by
  obtain⟨u,us,rfl,J,r⟩:=r;rw[Zb,W0]at e|-
  cases q:f==n with
  | true=>rw[q]at e;cases e;exact⟨u,rfl,J⟩
  | false=>rw[q]at e;exact ud r e
def Nj {f}{v:W}:∀{ns:List Str}{ws},(ns.zip ws).lookup f=Go v->f∈ns
 | n::ns,w::ws,e=>by
  rw[Zb,W0]at e;cases q:f==n with
  | true=>rw[beq_iff_eq.mp q];exact Q0 ..
  | false=>rw[q]at e;exact Lq _ (Nj e)
section
variable {X:Cx}{e:Expr}{f:Str}{pos:Pos}
def abS (ha:DE X e ma)(hb:autoParam (W5 e f X.env (eval e X.env)=eval e X.env) aPq._auto_1):DE X (.Attribute e f pos) (Xp f ma):=by
 rintro anq s σ H Q I ⟨μ,h,σw,Qw,R,S,m,q⟩;refine ajV hb<|Hg (ha anq s σ H _ I ⟨μ,h,σw,_,R,S,m,λ_ _ z=>z⟩) λu s1 a=>?_;obtain⟨x,H1,I1,rx,μ1,w,h1,e1,R1,r1,m1⟩:=a
 cases w with
 | exa n ws=>
  dsimp only at m1;split at m1
  ·rename_i v el;obtain⟨p,o,uu,dd,ns,xs,ev,hp,⟨C,hcl,hdi,hnc,hxa⟩,hdd,en,hln,rs⟩:=r1;subst ev en;obtain rfl:u=Value.ref p:=rx;obtain⟨y,ey,ry⟩:=ud rs el;obtain⟨mA,hns,hrel⟩:=(I1.hok dd _ hdd)
   have ry2:=hrel f;rw[ey]at ry2;cases qm:mA f with
   | none=>rw[qm]at ry2;cases ry2
   | some uv=>
    rw[qm]at ry2;obtain⟨od,hod,hl⟩:=zF hns;unfold Sv at hxa;simp at hxa;obtain⟨⟨hxc,hhd⟩,hall⟩:=hxa;obtain⟨_,⟨cd,Rr,hc,hmm,_⟩,hg,hg',_⟩:=Oz hxc;have hB:Qp X.K C (.type "BaseException")=Go true:=by
     unfold Qp;rw[hc,Wq,hmm];rfl
    exact zbi I1.kIn ⟨(I1.hok p _ hp).1,hcl,hnc,by rwa[hdi]⟩ hg hg' (PySem.W.findObj_own hhd (hall f<|Nj el) rfl<|by rw[hl,qm]) (ahK ry2) hB ⟨y,H1,I1.tok _,ry2,q _ _ ⟨μ1,v,h1,e1,R1,ry,m1⟩⟩
  cases m1
 | _=>cases m1
end
section
variable {X:Cx}
end
section
variable {X:Cx}{tg:Expr}
def ajx {iter}{body g}{mb0 pos}(hp:Zq (Bg X.prog X.w) X.A X.env X.xe)(hc:X.calm=true)(hΓ:∀σ,Γ σ)(hi:VL X tg iter mi)(hg:DG X tg g)(hb:Pk X Γ body mb0)
  (hs:autoParam (∀x,Wt iter X.env x=pure x) aPq._auto_4):XD X Γ (.For tg iter body [] pos) (λE=>tO mi g (mb0 E)):=(Uv hp hc hi hg hb hs).of λD σ H a=>by
 obtain⟨_,μ,h,σw,Dw,E,R,S,m,k,kx⟩:=a;refine⟨μ,h,σw,_,R,S,m,λJ H1 ⟨μ1,src,h1,e1,R1,ok,m1⟩=>⟨λi n σ' H'=>n=src.ws.length-i/\i<=src.ws.length/\DN _ H1 μ1 (iW src g _ Dw<|src.ws.drop i) σ' H',⟨src.ws.length,by simp,Nz _,μ1,σw,h1,.refl,R1,S.ext e1,m1⟩,?_⟩⟩;rintro i n σ2 H2 ⟨hn,hle,μ2,σw2,h2,e2,R2,S2,m2⟩;by_cases hlt:i<src.ws.length
 rw[Y5 hlt]at m2;obtain⟨ck,m2⟩:=Src.go_ok m2;obtain⟨hgo,hy⟩:=(ok e2 R2 ck).1 src.ws[i] (Hw hlt);refine .inr ⟨hgo,fun σ' H'=>DN _ H2 μ2 _ σ' H',fun σ' H' z=>⟨src.ws.length-(i+1),by lia,rfl,hlt,z.trans e2⟩,λx H3 y=>?_⟩;obtain⟨μ3,e3,R3,rx⟩:=hy x H3 y;refine⟨μ3,h2,σw2,src.ws[i],_,R3,S2.ext e3,rx,m2,fun σ4 H4 ⟨μ4,σw4,h4,e4,R4,S4,m4⟩=>?_⟩;have e24:=e3.trans e4;have e14:=(e1.trans e2).trans e24;exact⟨hΓ _,μ4,h4,σw4,_,E,R4,S4,m4,⟨fun σ' H' z=>z.trans e24,λv H' z=>k.rt _ _<|z.trans e14,fun σ' H' z=>k.nx _ _<|z.trans e14,fun σ' H' z=>z.trans e24⟩,λev s' z=>kx ev s'<|z.trans e14⟩;have ei:i=src.ws.length:=by lia
 subst ei;rw[List.drop_length]at m2;obtain⟨ck,m2⟩:=Src.go_ok m2;exact .inl ⟨(ok e2 R2 ck).2 (Cm _),k.nx _ _ ⟨μ2,σw2,h2,e1.trans e2,R2,S2,m2⟩⟩
end
section
variable {X:Cx}{K:Az}
end
section
variable {X:Cx}{pos p:Pos}{e:Expr}{es:List Expr}{k:Nat}{fs:List (Addr×Aq)}
end
abbrev Cmp (P:Cq)(w:Cd)(A:Cw)(s:AP)(kd:XM)(rk:Mk->Nat)(good:Mk->Prop):Prop:=
 ∀(E:Mk->AP->Prop) (Q:Bool->AP->Prop) (x y:Mk),good x->good y->Q (decide (rk x<rk y)) s->Bb (Bg P w) A (keyLt' kd x y) Q E s
section
variable {P:Cq}{w:Cd}{A:Cw}{E:Mk->AP->Prop}{s:AP}{kd:XM}{rk:Mk->Nat}{good:Mk->Prop}
abbrev Rk (rk:Mk->Nat)(a:Array JR)(i:Nat):Nat:=match a[i]? with
 | some p=>rk p.1
 | none=>0
abbrev cJ (rk:Mk->Nat)(a:Array JR)(i j:Nat):Prop:=∀p q,i<=p->p<q->q<j->Rk rk a p<Rk rk a q
structure Keys (rk:Mk->Nat) (good:Mk->Prop) (a:Array JR):Prop where
 good:∀p∈a.toList,good p.1
 nd:(a.toList.map λp=>rk p.1).Nodup
def Jx {a b i j}(h:a[i]?=b[j]?):Rk rk a i=Rk rk b j:=by unfold Rk;rw[h]
def Keys.perm {a b}(h:Keys rk good a)(p:b.Perm a):Keys rk good b:=by
 have pl:=Array.perm_iff_toList_perm.mp p;exact⟨λx J=>h.good x<|pl.mem_iff.mp J,(pl.map _).nodup_iff.mpr h.nd⟩
def Keys.ne {a}(h:Keys rk good a){i j}(hi:i<a.size)(O:j<a.size)(e:Rk rk a i=Rk rk a j):i=j:=by
 have e1:∀k (J:k<a.size),Rk rk a k=rk (a.toList[k]'(by simpa using J)).1:=λk J=>by
  unfold Rk;simp_all
 rw[e1 i hi,e1 j O]at e;refine(List.getElem_inj h.nd).mp (?_:(a.toList.map λp=>rk _)[i]'(by simpa using hi)=(a.toList.map λp=>rk _)[j]'(by simpa using O))
 simpa using e
structure Rn (kd:XM) (rk:Mk->Nat) (good:Mk->Prop) (st:M5):Prop where
 kind:Qj st=kd
 failed:failedOf st=JI
 keys:Keys rk good (HI st)
def Rn.arr {st}(h:Rn kd rk good st){b}(p:b.Perm (HI st)):Rn kd rk good (La st b):=⟨h.kind,h.failed,h.keys.perm p⟩
def Vo {a i st}{Q}(hi)(q:Q a[i] st):wpS (Bg P w) A E s (elem' a i) Q st:=by
 rw[elem'_eq,Yo hi];exact Oo q
def w_lt (C:Cmp P w A s kd rk good){x y st}{Q}(S:Qj st=kd)(O:good x.1)(J:good y.1)(q:Q (Go (decide (rk x.1<rk y.1))) st):wpS (Bg P w) A E s (lt' x y) Q st:=by
 rw[lt'_eq];exact LK<|wpS_get<|S ▸ LK (wpS_lift<|Wn<|C _ _ _ _ O J ⟨rfl,Oo q⟩)
def RK {a i}(hi):Rk rk a i=rk a[i].1:=by
 unfold Rk;rw[Yo hi]
def uy (C:Cmp P w A s kd rk good){i j st}{Q}(J:Rn kd rk good st)(hi:i<(HI st).size)(O:j<(HI st).size)(q:Q (Go (decide (Rk rk (HI st) i<Rk rk (HI st) j))) st):wpS (Bg P w) A E s (ltAt' i j) Q st:=by
 refine LK<|wpS_get<|LK<|Vo hi<|LK<|Vo O<|w_lt C J.kind (J.keys.good _<|by simp) (J.keys.good _<|by simp) ?_
 rwa[<-RK (rk:=rk) hi,<-RK (rk:=rk) O]
structure Within (a b:Array JR) (lo hi:Nat):Prop where
 perm:b.Perm a
 out:∀k,k<lo\/hi<=k->b[k]?=a[k]?
def Within.size {a b lo hi}(h:Within a b lo hi):b.size=a.size:=h.perm.size_eq
def Within.refl (a:Array JR)(lo hi:Nat):Within a a lo hi:=⟨Array.Perm.refl _,λ_ _=>rfl⟩
def Within.trans {a b c lo hi}(h:Within a b lo hi)(g:Within b c lo hi):Within a c lo hi:=⟨g.perm.trans h.perm,λk J=>(g.out k J).trans (h.out k J)⟩
def lB (st):La st (HI st)=st:=rfl
def qC {a lo n}(h:cJ rk a lo (lo+n))(h1:1<=n)(g:Rk rk a (lo+n-1)<Rk rk a (lo+n)):cJ rk a lo (lo+n+1):=λp q h2 J O=>by
 by_cases c:q<lo+n
 exact h p q h2 J c;have e:q=lo+n:=by lia
 subst e;by_cases S:p=lo+n-1
 simp_all
 exact Nat.lt_trans (h p _ h2 (by lia)<|by lia) g
def w_count (C:Cmp P w A s kd rk good){lo J st}{Q}(l:Rn kd rk good st)(h1:1<=J)(hz:lo+J<=(HI st).size)
  (q:∀n  (b),1<=n->n<=J->Within (HI st) b lo (lo+J)->cJ rk b lo (lo+n)->(cJ rk (HI st) lo (lo+J)->n=J/\b=HI st)->Q (Go n) (La st b)) :
  wpS (Bg P w) A E s (countRun' lo J) Q st:=by
 have M:∀{i j:Nat},i<(HI st).size->j<(HI st).size->i≠j->Rk rk (HI st) i≠Rk rk (HI st) j:=λhi W c e=>c (l.keys.ne hi W e)
 refine LK (wpS_mono (Xg
  (I:=λx c S=>S=st/\c=(JI,x)/\cJ rk (HI st) lo (lo+x)/\x<=J)
  (Q:=λc S=>S=st/\∃n,c=(JI,n)/\1<=n/\n<=J/\cJ rk (HI st) lo (lo+n)/\(n=J\/Rk rk (HI st) (lo+n)<Rk rk (HI st) (lo+n-1))) ?_ ?_ ⟨rfl,rfl,λp q a b c=>by lia,h1⟩) ?_)
 rintro x c S d t ⟨rfl,rfl,f,_⟩;refine LK<|uy C l (by lia) (by lia) ?_
 by_cases c:Rk rk (HI S) (lo+x)<Rk rk (HI S) (lo+x-1)
 rw[decide_eq_true c];exact Oo ⟨rfl,x,rfl,d,by lia,f,.inr c⟩;rw[decide_eq_false c];have:=M (i:=lo+x) (j:=lo+x-1) (by lia) (by lia) (by lia)
 exact Oo ⟨rfl,rfl,qC f d<|by lia,by lia⟩;rintro c S ⟨rfl,rfl,f,N⟩;have e:max 1 J=J:=by lia
 rw[e]at f|-
 exact⟨rfl,J,rfl,h1,Cm _,f,.inl rfl⟩;rintro c S ⟨rfl,n,rfl,z,D,f,F⟩;dsimp only;by_cases L:n=J
 subst L;simp only[beq_self_eq_true,if_true];have:=q n (HI S) z (Cm _) (.refl _ _ _) f λ_=>⟨rfl,rfl⟩
 rw[lB]at this;exact Oo this;have F:=F.resolve_left L;have p:¬cJ rk (HI S) lo (lo+J):=λr=>by
  have:=r (lo+n-1) (lo+n) (by lia) (by lia) (by lia)
  lia
 rw[if_neg (by simpa using L)];by_cases T:n>1
 rw[if_pos T];have h:=f lo (lo+n-1) (Cm _) (by lia) (by lia);refine LK<|uy C l (by lia) (by lia) ?_
 rw[decide_eq_true h];have:=q n (HI S) z D (.refl _ _ _) f λr=>absurd r p
 rw[lB]at this;exact Oo this;rw[if_neg T];have e1:n=1:=by lia
 subst e1;refine LK<|wpS_lift<|Ql ⟨rfl,?_⟩
 refine LK (wpS_mono (Xg
  (I:=λx c O=>O=S/\c=(JI,x,0)/\(∀u v,lo<=u->u<v->v<lo+x->Rk rk (HI S) v<Rk rk (HI S) u)/\x<=J)
  (Q:=λc O=>O=S/\∃m,c=(JI,m,0)/\2<=m/\m<=J/\∀u v,lo<=u->u<v->v<lo+m->Rk rk (HI S) v<Rk rk (HI S) u) ?_ ?_ ⟨rfl,rfl,λu v h2 H R=>?_,by lia⟩) ?_)
 rintro x c O d t ⟨rfl,rfl,g,_⟩;dsimp only;refine LK<|uy C l (by lia) (by lia) ?_
 by_cases c:Rk rk (HI O) (lo+x)<Rk rk (HI O) (lo+x-1)
 rw[decide_eq_true c];refine Oo ⟨rfl,rfl,λu v h2 H R=>?_,by lia⟩;by_cases c2:v<lo+x
 exact g u v h2 H c2;have K:v=lo+x:=by lia
 subst K;by_cases Z:u=lo+x-1
 rw[Z];exact c;exact Nat.lt_trans c<|g u (lo+x-1) h2 (by lia)<|by lia
 rw[decide_eq_false c];have:=M (i:=lo+x) (j:=lo+x-1) (by lia) (by lia) (by lia)
 refine LK<|uy C l (by lia) (by lia) ?_
 rw[decide_eq_true (show Rk rk (HI O) (lo+x-1)<Rk rk (HI O) (lo+x) by lia)];exact Oo ⟨rfl,x,rfl,by lia,by lia,g⟩;rintro c O ⟨rfl,rfl,g,N⟩;have e:max (1+1) J=J:=by lia
 rw[e]at g|-
 exact⟨rfl,J,rfl,by lia,Cm _,g⟩;have X:u=lo+1-1:=by lia
 have K:v=lo+1:=by lia
 rw[X,K];exact F;rintro c O ⟨rfl,m,rfl,m1,m2,g⟩;dsimp only;rw[if_neg (Qo 0)];refine LK<|wpS_reverse ?_
 have G:∀k,Rk rk (mirror (HI O) lo (lo+m) ((lo+m-lo) / 2)) k=if lo<=k/\k<lo+m then Rk rk (HI O) (lo+(lo+m)-1-k)else Rk rk (HI O) k:=λk=>by
  have e:=getElem?_mirror_all (xs:=HI O) (i:=lo) (j:=lo+m) (by lia) k;split
  rename_i c;rw[if_pos c]at e;exact Jx e;rename_i c;rw[if_neg c]at e;exact Jx e
 have B:Within (HI O) (mirror (HI O) lo (lo+m) ((lo+m-lo) / 2)) lo (lo+J):=⟨mirror_perm _ _ _ _,λk hk=>by
  rw[getElem?_mirror_all (by lia),if_neg (by lia)]⟩
 have y:cJ rk (mirror (HI O) lo (lo+m) ((lo+m-lo) / 2)) lo (lo+m):=λu v h2 H R=>by
  rw[G,G,if_pos (by lia),if_pos (by lia)];exact g _ _ (by lia) (by lia)<|by lia
 generalize mirror (HI O) lo (lo+m) ((lo+m-lo) / 2)=b at G B y;have o:Rn kd rk good (La O b):=l.arr B.perm;have V:(HI (La O b)).size=(HI O).size:=B.size;refine LK (wpS_mono (Xg
  (I:=λx c Y=>Y=La O b/\c=(JI,x)/\cJ rk b lo (lo+x)/\x<=J)
  (Q:=λc Y=>Y=La O b/\∃n,c=(JI,n)/\1<=n/\n<=J/\cJ rk b lo (lo+n)) ?_ ?_ ⟨rfl,rfl,y,m2⟩) ?_)
 rintro x c Y d t ⟨rfl,rfl,U,_⟩;dsimp only;refine LK<|uy C o (by lia) (by lia) ?_
 by_cases c:Rk rk (HI (La O b)) (lo+x)<Rk rk (HI (La O b)) (lo+x-1)
 rw[decide_eq_true c];exact Oo ⟨rfl,x,rfl,by lia,by lia,U⟩;rw[decide_eq_false c];have:Rk rk b (lo+x)≠Rk rk b (lo+x-1):=λe=>absurd (o.keys.ne (i:=lo+x) (j:=lo+x-1) (by lia) (by lia) e) (by lia)
 have c:¬Rk rk b (lo+x)<Rk rk b (lo+x-1):=c;exact Oo ⟨rfl,rfl,qC U (by lia)<|by lia,by lia⟩;rintro c Y ⟨rfl,rfl,U,N⟩;have e:max m J=J:=by lia
 rw[e]at U|-
 exact⟨rfl,J,rfl,h1,Cm _,U⟩;rintro c Y ⟨rfl,n,rfl,z,D,U⟩;exact Oo<|q n b z D B U λr=>absurd r p
end
variable {good:Mk->Prop}{kd:XM}
section
variable {P:Cq}{w:Cd}{A:Cw}{E:Mk->AP->Prop}{s:AP}{rk:Mk->Nat}
def abL (C:Cmp P w A s kd rk good){lo n U st}{Q}(G:Rn kd rk good st)(h1:1<=U)(X:U<=n)(hz:lo+n<=(HI st).size)(R:cJ rk (HI st) lo (lo+U))
  (q:∀b,Within (HI st) b lo (lo+n)->cJ rk b lo (lo+n)->Q true (La st b)):wpS (Bg P w) A E s (binarySort' lo n U) Q st:=by
 rw[binarySort'_eq];refine LK (wpS_mono (Xg
  (I:=λx c S=>c=(JI,())/\∃b,S=La st b/\Within (HI st) b lo (lo+n)/\cJ rk b lo (lo+x)/\x<=n)
  (Q:=λc S=>c=(JI,())/\∃b,S=La st b/\Within (HI st) b lo (lo+n)/\cJ rk b lo (lo+n)) ?_ ?_ ⟨rfl,HI st,(lB st).symm,.refl _ _ _,by rw[Nat.max_eq_left h1];exact R,by lia⟩) ?_)
 rintro x c S N M ⟨rfl,b,rfl,a,Y,_⟩;have h:Rn kd rk good (La st b):=G.arr a.perm;have V:(HI (La st b)).size=(HI st).size:=a.size;have D:b.size=(HI st).size:=a.size;have H:∀{i j:Nat},i<b.size->j<b.size->i≠j->Rk rk b i≠Rk rk b j:=λhi T c e=>c (h.keys.ne hi T e)
 refine LK (wpS_mono (Xg
  (I:=λy c O=>O=La st b/\∃l r,c=(JI,l,r)/\l<=r/\r<=x/\r-l<=x-y/\(∀p,lo<=p->p<lo+l->Rk rk b p<Rk rk b (lo+x))/\∀p,lo+r<=p->p<lo+x->Rk rk b (lo+x)<Rk rk b p)
  (Q:=λc O=>O=La st b/\∃l,c=(JI,l,l)/\l<=x/\(∀p,lo<=p->p<lo+l->Rk rk b p<Rk rk b (lo+x))/\∀p,lo+l<=p->p<lo+x->Rk rk b (lo+x)<Rk rk b p) ?_ ?_ ⟨rfl,0,x,rfl,Nz _,Cm _,by lia,λp h2 o=>by lia,λp h2 o=>by lia⟩) ?_)
 rintro y c O L K ⟨rfl,l,r,rfl,a1,a2,a3,g,f⟩;dsimp only;by_cases c:l>=r
 rw[if_pos c];have e:l=r:=by lia
 subst e;exact Oo ⟨rfl,l,rfl,a2,g,f⟩;rw[if_neg c];refine LK<|uy C h (by lia) (by lia) ?_
 by_cases J:Rk rk (HI (La st b)) (lo+x)<Rk rk (HI (La st b)) (lo+(l+r) / 2)
 rw[decide_eq_true J];refine Oo ⟨rfl,l,(l+r) / 2,rfl,by lia,by lia,by lia,g,λp h2 o=>?_⟩;have J:Rk rk b (lo+x)<Rk rk b (lo+(l+r) / 2):=J;by_cases d:p=lo+(l+r) / 2
 rw[d];exact J;exact Nat.lt_trans J<|Y _ p (by lia) (by lia)<|by omega
 rw[decide_eq_false J];have J:¬Rk rk b (lo+x)<Rk rk b (lo+(l+r) / 2):=J;have:=H (i:=lo+x) (j:=lo+(l+r) / 2) (by lia) (by lia) (by lia)
 refine Oo ⟨rfl,(l+r) / 2+1,r,rfl,by lia,by omega,by lia,λp h2 o=>?_,f⟩;by_cases d:p=lo+(l+r) / 2
 rw[d];lia;have:=Y p (lo+(l+r) / 2) (by lia) (by lia) (by lia)
 lia;rintro c O ⟨rfl,l,r,rfl,a1,a2,a3,g,f⟩;have e:l=r:=by lia
 subst e;exact⟨rfl,l,rfl,a2,g,f⟩;rintro c O ⟨rfl,l,rfl,a2,g,f⟩;dsimp only;rw[moveDown'_eq];refine LK<|wpS_modify ?_
 have m:∀k,(bubble b (lo+x) (lo+x-(lo+l)))[k]?=if k=lo+l then b[lo+x]? else if lo+l<k/\k<=lo+x then b[k-1]? else b[k]?:=λk=>by
  have:=getElem?_bubble (xs:=b) (src:=lo+x) (by lia) (lo+x-(lo+l)) (by lia) k
  rw[show lo+x-(lo+x-(lo+l))=lo+l by lia]at this;exact this
 have t:∀k,Rk rk (bubble b (lo+x) (lo+x-(lo+l))) k=if k=lo+l then Rk rk b (lo+x)else if lo+l<k/\k<=lo+x then Rk rk b (k-1)else Rk rk b k:=λk=>by
  have e:=m k;split
  rename_i c;rw[if_pos c]at e;exact Jx e;rename_i c;rw[if_neg c]at e;split
  rename_i J;rw[if_pos J]at e;exact Jx e;rename_i J;rw[if_neg J]at e;exact Jx e
 refine Oo ⟨rfl,bubble b (lo+x)<|lo+x-(lo+l),rfl,a.trans ⟨bubble_perm _ _ _,λk Z=>?_⟩,λu v h2 o h4=>?_,by lia⟩;rw[m,if_neg (by lia),if_neg (by lia)];rw[t,t];by_cases B:u=lo+l
 rw[if_pos B];by_cases J:v=lo+l
 lia;rw[if_neg J,if_pos (by lia)];exact f _ (by lia)<|by lia
 rw[if_neg B];by_cases d:lo+l<u/\u<=lo+x
 rw[if_pos d,if_neg (by lia),if_pos (by lia)];exact Y _ _ (by lia) (by lia)<|by lia
 rw[if_neg d];by_cases J:v=lo+l
 rw[if_pos J];exact g _ (by lia)<|by lia
 rw[if_neg J];by_cases z:lo+l<v/\v<=lo+x
 rw[if_pos z];by_cases c5:u=v-1
 lia;exact Y _ _ (by lia) (by lia)<|by lia
 rw[if_neg z];exact Y _ _ (by lia) (by lia)<|by lia
 rintro c S ⟨rfl,b,rfl,a,Y,W⟩;rw[show max (max U 1) n=n by lia]at Y;exact⟨rfl,b,rfl,a,Y⟩;rintro c S ⟨rfl,b,rfl,a,Y⟩;exact Oo<|q b a Y
def zbV (C:Cmp P w A s kd rk good){st}{Q}(i:Rn kd rk good st)(t:Wd st=#[])(h2:2<=(HI st).size)(hs:(HI st).size<64\/cJ rk (HI st) 0 (HI st).size)
  (q:∀J,(HI J).Perm (HI st)->failedOf J=JI->cJ rk (HI J) 0 (HI st).size->Q () J):wpS (Bg P w) A E s sortRuns' Q st:=by
 have u:(HI st).size<64->minRun' (HI st).size (HI st).size 0=(HI st).size:=λh=>by
  obtain⟨f,l⟩:∃f,(HI st).size=f+1:=⟨(HI st).size-1,by lia⟩
  have e:minRun' (f+1) (HI st).size 0=(HI st).size:=by rw[minRun'_succ,if_pos h];rfl
  rw[<-l]at e;exact e
 rw[sortRuns'_eq];refine LK<|wpS_get ?_
 dsimp only;generalize H:(HI st).size=N at *;generalize B:minRun' N N 0=mr at *;refine LK (wpS_mono (Xg
  (I:=λx c J=>(x=0/\c=(JI,0)/\J=st)\/(1<=x/\c=(JI,N)/\∃b O,J=setPending (La st b) O/\O.size=1/\b.Perm (HI st)/\cJ rk b 0 N))
  (Q:=λc J=>c=(JI,N)/\∃b O,J=setPending (La st b) O/\O.size=1/\b.Perm (HI st)/\cJ rk b 0 N) ?_ ?_ (.inl ⟨rfl,rfl,rfl⟩)) ?_)
 rintro x c J _ p (⟨rfl,rfl,rfl⟩|⟨h1,rfl,b,O,rfl,d,U,m⟩);rw[if_neg (by lia)];have Y:∀(b:Array JR),b.Perm (HI J)->cJ rk b 0 N->∃o O,setPending (La J b) ((Wd (La J b)).push (0,N,0))=setPending (La J o) O/\O.size=1/\o.Perm (HI J)/\cJ rk o 0 N:=λb d U=>⟨b,_,rfl,by show((Wd J).push _).size=1;rw[t];rfl,d,U⟩
 have v:∀b,(Wd (La J b)).back?=JI:=λb=>by show(Wd J).back?=JI;rw[t];rfl
 refine LK<|w_count C i (by lia) (by lia) λn b z y a r S=>?_
 simp only[Xh,Nat.sub_zero]at *;have g:Rn kd rk good (La J b):=i.arr a.perm;by_cases c:n<mr
 rw[if_pos c];have l:min N mr=N:=by
  rcases hs with h|h
  have:=u h;lia
  have:=(S h).1;lia
 generalize min N mr=F at *;subst l;refine LK<|wpS_lift<|Ql ⟨rfl,?_⟩
 refine LK<|abL C g z y (by show 0+F<=b.size;rw[a.size];lia) (by simpa using r) λb2 j k=>?_
 rw[if_neg (by simp)];refine LK<|wpS_get ?_
 have e:(Wd (La (La J b) b2)).back?=JI:=v b2;rw[e];exact LK<|wpS_modify<|Oo<|.inr ⟨by lia,rfl,Y b2 (j.perm.trans a.perm)<|by simpa using k⟩
 rw[if_neg c];have G:n=N:=by
  rcases hs with h|h
  have:=u h;lia
  exact(S h).1
 subst G;refine LK<|wpS_get ?_
 rw[v b];exact LK<|wpS_modify<|Oo<|.inr ⟨by lia,rfl,Y b a.perm r⟩
 dsimp only;rw[if_pos (Cm _)];exact Oo ⟨rfl,b,O,rfl,d,U,m⟩;rintro c J (⟨p,_,_⟩|⟨_,D,h⟩);lia;exact⟨D,h⟩;rintro c J ⟨rfl,b,O,rfl,d,U,m⟩;dsimp only;refine LK (wpS_mono (Xg
  (I:=λ_ c J=>c=(JI,())/\J=setPending (La st b) O) (Q:=λc J=>c=(JI,())/\J=setPending (La st b) O) ?_ ?_ ⟨rfl,rfl⟩) ?_)
 rintro x c J _ p ⟨rfl,rfl⟩;refine LK<|wpS_get ?_
 rw[if_pos (by show O.size<=1;lia)];exact Oo ⟨rfl,rfl⟩;rintro c J h;exact h;rintro c J ⟨rfl,rfl⟩;exact Oo<|q _ U i.failed m
end
abbrev CK (h:Heap)(d:Addr)(es:Array Rq)(ep:Nat):Prop:=∃o,h.get? d=Go o/\o.ExactDict/\o.data=.dict es ep
variable {d:Addr}{ep:Nat}
def CK.of {h h'}{es}(x:CK h d es ep)(e:∀o,h.get? d=Go o->h'.get? d=Go o):CK h' d es ep:=by
 obtain⟨o,g,r⟩:=x;exact⟨o,e o g,r⟩
def CK.ty {s:AP}{es}(x:CK s.heap d es ep):s.TypeIs (.ref d) "dict":=by
 obtain⟨o,g,r,_⟩:=x;exact⟨o,g,r.1⟩
section
variable {P:Cq}{w:Cd}{A:Cw}{E:Mk->AP->Prop}{s:AP}{it:Addr}{es:Array Rq}{i:Nat}
def Ga {Q}(U:(d==QD)=false)(x:CK s.heap d es ep)
  (q:Q (.ref s.heap.objs.size) {s with heap:=s.heap.push {cls:=.type "dict_keyiterator",data:=.fields #[.ref d,.int 0 0,.int es.size 0,.int ep 0]} }):Bb (Bg P w) A (pyIter (.ref d)) Q E s:=by
 have J:=x.ty;obtain⟨o,g,Y,S⟩:=x;refine wpAny_pyIter_slot J F.slot_dict_iter<|SM F.slot_dict_iter J F.entry_dict_iter (Ac<|Ac<|wpAny_notOrdered_dict J<|Bj ?_)<|F.args_dict_iter_1 _
 show Bb _ _ (Builtin.Dict.showsAll d >>= _) _ _ s;unfold Builtin.Dict.showsAll;rw[U];refine Ac<|Bj<|Ac<|wpAny_dictEntries g S<|Ac<|wpAny_dictEpoch g S<|Ac<|Rf<|Bj ⟨_,rfl, "dict_keyiterator",_,⟨_,Il _ rfl,rfl⟩,Zk.lookup,?_⟩
 simpa[QC]using q
def ahG {Q}(O:s.heap.IsKeyIter it d i es.size ep)(x:CK s.heap d es ep)(hi)
  (q:∀h',h'.IsKeyIter it d (i+1) es.size ep->W3 it s.heap h'->Q (Go es[i].key) {s with heap:=h'}):Bb (Bg P w) A (pyNext (.ref it)) Q E s:=by
 obtain⟨u,Y,c,U⟩:=id O;obtain⟨o,g,_,a⟩:=x;refine Ac<|Wn<|X8 (name:=Str.ofString "__next__") O.typeIs Zk<|SM Zk O.typeIs F.entry_dict_keyiterator_next ?_<|F.args_dict_keyiterator_next_1 _
 refine Ac<|Bj<|Ac<|Ac ?_
 first
  | refine Ac (qG O.typeIs (Bj ?_))
 refine Ac<|wpAny_fieldsOf Y U ?_
 refine Ac<|Bj<|Ac<|wpAny_dictEntries g a ?_
 rw[if_neg (by simp)];refine Ac<|Bj<|Ac<|wpAny_dictEpoch g a ?_
 rw[if_neg (by simp)];refine Bj ?_;simp only[show ¬((i:Int)<0)from by lia,if_false,Int.toNat_natCast,Yo hi];refine Ac ?_;first
  | refine Ac (qG O.typeIs (Bj ?_))
  | refine Ac (J O.typeIs (Bj ?_))
 refine Ac<|wpAny_isOneOf_keyiter O.typeIs ?_
 show Bb _ _ (setField (.ref it) 1 (QC ((i:Int)+1)) >>= _) _ _ s;refine Ac<|Xy Y U (by simp) ?_
 have b:(s.heap.update it (Obj.mapFields (·.setIfInBounds 1 (QC ((i:Int)+1))))).IsKeyIter it d (i+1) es.size ep:=by
  refine⟨_,RP _ Y<|X6<|V8 U _,(Yt ..).trans c,?_⟩;rw[V8 U];simp[QC]
 refine Ac<|Ly<|Ac<|wpAny_isOneOf_keyiter (s:={s with heap:=s.heap.update it (Obj.mapFields (·.setIfInBounds 1 (QC<|(i:Int)+1)))}) b.typeIs ?_
 show Bb _ _ (pure es[i].key) _ _ _;exact Bj<|Bj ⟨_,rfl,Bj<|q _ b<|nP ..⟩
def zbr {Q}(hh:A.handled=JI)(O:s.heap.IsKeyIter it d es.size es.size ep)(x:CK s.heap d es ep)(q:∀h',YM it s.heap h'->Q JI {s with heap:=h'}):Bb (Bg P w) A (pyNext (.ref it)) Q E s:=by
 obtain⟨u,U,e,c⟩:=id O;obtain⟨o,g,_,Y⟩:=x;refine Ac<|Wn<|X8 (name:=Str.ofString "__next__") O.typeIs Zk<|SM Zk O.typeIs F.entry_dict_keyiterator_next ?_<|F.args_dict_keyiterator_next_1 _
 refine Ac<|Bj<|Ac<|Ac ?_
 first
  | refine Ac (qG O.typeIs (Bj ?_))
 refine Ac<|wpAny_fieldsOf U c ?_
 refine Ac<|Bj<|Ac<|wpAny_dictEntries g Y ?_
 rw[if_neg (by simp)];refine Ac<|Bj<|Ac<|wpAny_dictEpoch g Y ?_
 rw[if_neg (by simp)];refine Bj ?_;simp only[show ¬((es.size:Int)<0)from by lia,if_false,Int.toNat_natCast,Array.getElem?_eq_none (Cm es.size)];refine Ac ?_;first
  | refine Ac (qG O.typeIs (Bj ?_))
  | refine Ac (J O.typeIs (Bj ?_))
 show Bb _ _ (setField (.ref it) 0 .none >>= _) _ _ s;refine Ac<|Xy U c (by simp) ?_
 show Bb _ _ (newExc (.type "StopIteration") [] >>= _) _ _ _;refine Ac ?_;simp only[newExc,newTuple];refine Ac<|Rf ?_<|by size_fits
 refine Ac (m:=Yx _ _)<|wpAny_of_eq (a:=Value.none) (by first|rfl|(simp only[Yx];rfl)) ?_
 refine Rf ?_<|by size_fits
 simp only[raiseNew];refine Ac<|wpAny_handled ?_
 rw[show A.in1.handled=JI from hh];refine Ac<|Bj<|YK ?_
 refine Ac<|wpAny_isInstance (b:=true) (T := "StopIteration") ⟨_,Il _ rfl,rfl⟩ isSubtype_stop ?_
 exact Bj<|q _<|((nP ..).extBut.push _).push _
def yg (hh:A.handled=JI)(I d:Addr)(c:d≠I)(es:Array Rq)(ep:Nat):
  Walks P w A I [I,d] [I] es.size (λi v=>∃h:i<es.size,v=es[i].key) (λi h=>h.IsKeyIter I d i es.size ep/\CK h d es ep) where
 sub:=λb J=>by simp at J;simp[J]
 frame:=λi h h' st k=>⟨by obtain⟨⟨o,g,r⟩,_⟩:=st;exact⟨o,k I (by simp) o g,r⟩,st.2.of λo e=>k d (by simp) o e⟩
 item:=λi s Q E hi st q=>ahG st.1 st.2 hi λh' g U=>q _ h' _ ⟨hi,rfl⟩ ⟨g,st.2.of λo e=>U.extBut d o c e⟩ λb o J e=>U.extBut b o (λz=>J (by simp[z])) e
 done:=λs Q E st q=>zbr hh st.1 st.2 λh' f=>q h' _ λb o J e=>f b o (λz=>J (by simp[z])) e
 self:=λ_ _ _ _ st q=>wpAny_pyIter_keyiter st.1 q
def aiW (b:(d==QD)=false):PySem.W.KdlSrc P w "dict" d d es.size (λi v=>∃h:i<es.size,v=es[i].key) (λh=>CK h d es ep) where
 type:=λ_ x=>x.ty
 there:=λ_ x=>by obtain⟨o,g,_⟩:=x;exact⟨Hh g,Hh g⟩
 keep:=λ_ _ x k=>x.of λo e=>k d (.inl rfl) o e
 notList:=by decide
 notTuple:=by decide
 hint:=λ_ _ _ _ x q=>PySem.W.kdl_hint_dict x.ty q
 iter:=λ_ s hh x=>⟨_,_,λ_ _ q=>Ga b x q,yg hh _ d (Ip (by obtain⟨o,g,_⟩:=x;exact Hh g)) es ep,⟨_,Il _ rfl,rfl,rfl⟩,x.of λo e=>HJ _ e⟩
def rK {Q}(hh:A.handled=JI)(y:(d==QD)=false)(x:CK s.heap d es ep)(hz:es.size<=HB)
  (q:∀h' tk,(∀b o,s.heap.get? b=Go o->h'.get? b=Go o)->s.heap.objs.size<h'.objs.size->Q (es.toList.map (·.key)) {s with heap:=h',toks:=tk}):Bb (Bg P w) A (collect (.ref d)) Q E s:=by
 have p:d<s.heap.objs.size:=by obtain⟨o,g,_⟩:=x;exact Hh g
 refine Ac<|wpAny_runValue<|Rx F.entry_proto_collect ?_
 refine Ac<|Rf<|Bj ⟨Ru F.plain_list_iadd _,Rx F.entry_list_iadd ?_⟩
 rw[X5 F.plain_list_iadd _];have g0:(s.heap.push {cls:=.type "list",data:=.seq ([]:List Mk).toArray}).get? s.heap.objs.size=Go {cls:=.type "list",data:=.seq ([]:List Mk).toArray}:=Il _ rfl;have l:∀(f:Flow) (s':AP),(f=.ret (.ref s.heap.objs.size)/\∃h' tk acc c,s'={s with heap:=h',toks:=tk}/\(∀b o,b≠s.heap.objs.size->(s.heap.push {cls:=.type "list",data:=.seq ([]:List Mk).toArray}).get? b=Go o->h'.get? b=Go o)/\h'.get? s.heap.objs.size=Go {cls:=.type "list",dict:=JI,data:=.seq acc c,slots:=#[]}/\ItemsOf (λi v=>∃h:i<es.size,v=es[i].key) acc es.size) ->
   ∃v,f=.ret v/\Bb (Bg P w) A (match v with
    | Value.ref a=>do
     let u <-load a
     match u.data with
     | Data.seq xs _=>pure xs.toList
     | _=>unsupported "internal:collect"
    | _=>unsupported "internal:collect") Q E s':=by
  rintro f s' ⟨rfl,h',tk,acc,c,rfl,k,e,it⟩;refine⟨_,rfl,?_⟩;refine Ac<|wpAny_load e ?_
  have B:acc.toList=es.toList.map (·.key):=by
   refine List.ext_getElem? λj=>?_;rw[Hf,Array.getElem?_toList,Array.getElem?_toList];by_cases t:j<es.size
   have Y:j<acc.size:=by rw[it.1];exact t
   obtain⟨_,z⟩:=it.2 j acc[j] (Yo Y);rw[Yo Y,Yo t,z];rfl;rw[Array.getElem?_eq_none (by rw[it.1];lia),Array.getElem?_eq_none (by lia)];rfl
  refine Bj ?_;rw[B];exact q h' tk (λb o g=>k b o (Ip<|Hh g)<|HJ _ g)<|Hh e
 refine Kv (PySem.W.kdl_extend (s:={s with heap:=s.heap.push {cls:=.type "list",data:=.seq ([]:List Mk).toArray} }) (R:=λr s'=>match r with
  | .ok f=>f=.ret (.ref s.heap.objs.size)/\∃h' tk acc c,s'={s with heap:=h',toks:=tk}/\(∀b o,b≠s.heap.objs.size->(s.heap.push {cls:=.type "list",data:=.seq ([]:List Mk).toArray}).get? b=Go o->h'.get? b=Go o)/\h'.get? s.heap.objs.size=Go {cls:=.type "list",dict:=JI,data:=.seq acc c,slots:=#[]}/\ItemsOf (λi v=>∃h:i<es.size,v=es[i].key) acc es.size
  | .error _=>False) (aiW (es:=es) (ep:=ep) y) hh (x.of λo e=>HJ _ e) s.heap.objs.size (Nk p) (Nk p) _ 0 g0 (λh' tk acc c k e it=>⟨rfl,h',tk,acc,c,rfl,k,e,it⟩) hz) (λr s' S=>?_) λe s' S=>S.elim
 cases r with
 | done f=>
  obtain⟨v,rfl,n⟩:=l f s' S;exact n
 | again c=>
  refine⟨S.1,YQ S.2 λr s' S=>?_⟩;cases r with
  | error e=>exact S.elim
  | ok f=>
   obtain⟨v,rfl,n⟩:=l f s' S;exact n
end
section
variable {P:Cq}{w:Cd}{A:Cw}{E:Mk->AP->Prop}{s:AP}{rk:Mk->Nat}
end
section
variable {rk:Mk->Nat}
abbrev SL (rk:Mk->Nat)(l:List JR):Prop:=l.Pairwise λx y=>rk x.1<rk y.1
abbrev Mrg (rk:Mk->Nat)(A B r:List JR):Prop:=r.Perm (A++B)/\SL rk r
end
section
variable {P:Cq}{w:Cd}{A:Cw}{E:Mk->AP->Prop}{s:AP}{rk:Mk->Nat}
abbrev Zn (st J:M5):Prop:=HI J=HI st/\Qj J=Qj st/\failedOf J=failedOf st/\Wd J=Wd st
structure Dn (rk:Mk->Nat) (a b:Array JR) (st:M5) {β:Type}(c:Option (Array JR)×β) (st':M5):Prop where
 sm:Zn st st'
 r:∃l,c.1=Go l/\Mrg rk a.toList b.toList l.toList
end
section
variable {rk:Mk->Nat}
end
section
variable {P:Cq}{w:Cd}{A:Cw}{E:Mk->AP->Prop}{s:AP}{rk:Mk->Nat}
end
abbrev Yg:List Int->List Int->Option Bool
 | a::k,b::l=>if a=b then Yg k l else Go (decide (a<b))
 | _,_=>JI
def O6:∀k l,(match Yg k l with|some r=>r|none=>decide (k.length<l.length))=decide (k<l)
 | [],[]|[],b::l|a::k,[]=>by simp[Yg]
 | a::k,b::l=>by
  unfold Yg;by_cases e:a=b
  subst e;rw[if_pos rfl];have:=O6 k l
  simp_all
  rw[if_neg e];exact decide_eq_decide.mpr (by rw[X7];simp[e])
section
variable {P:Cq}{w:Cd}{A:Cw}{E:Mk->AP->Prop}{s:AP}
abbrev zu (h:Heap)(v:Mk)(k:List Int):Prop:=∃a o its n,v=.ref a/\h.get? a=Go o/\o.cls=.type "tuple"/\o.data=.seq its n/\BL (k.map V.int) its.toList
def zbF {a b t u}{Q}(h:Q (decide (a<b)) s):Bb (Bg P w) A (oneLt' false (.int a t) (.int b u)) Q E s:=Ac (wpAny_richCompare_same (typeIs_int s a t) (typeIs_int s b u) slot_int_lt (call_int_lt ⟨by simp,Ys h⟩))
def J2 {f:(Mk×Mk)×Nat->Option Bool×Unit->Sem (ForInStep (Option Bool×Unit))}
  (U:∀(a b:Int) (t u:Tok) (i:Nat) (R:ForInStep (Option Bool×Unit)->AP->Prop),R (if a=b then .yield (JI,())else .done (Go (decide (a<b)),())) s->Bb (Bg P w) A (f ((.int a t,.int b u),i) (JI,())) R E s) :
  ∀{k l:List Int}{ps S:List Mk}{j:Nat},BL (k.map V.int) ps->BL (l.map V.int) S->∀{R:Option Bool×Unit->AP->Prop},R (Yg k l,()) s->Bb (Bg P w) A (forIn ((ps.zip S).zipIdx j) (JI,()) f) R E s
 | [],l,ps,S,j,O,J,R,q=>by
  cases O;exact Bj q
 | a::k,[],ps,S,j,O,J,R,q=>by
  cases J;exact List.zip_nil_right ▸ Bj q
 | a::k,b::l,ps,S,j,O,J,R,q=>by
  cases O with
  | cons c O=>
   cases J with
   | cons Y J=>
    obtain⟨t,rfl⟩:=c;obtain⟨u,rfl⟩:=Y;rw[Zb,List.zipIdx_cons,Yq];refine Ac<|U a b t u j _ ?_
    unfold Yg at q;by_cases e:a=b
    rw[if_pos e]at q|-
    exact J2 U O J q;rw[if_neg e]at q|-
    exact Bj q
def acC {Y x y}{k l}{Q}(j:zu s.heap x k)(h:zu s.heap y l)(q:Q (decide (k<l)) s):Bb (Bg P w) A (keyLt' (tuples' Y) x y) Q E s:=by
 obtain⟨a,o,its,n,rfl,v,_,B,U⟩:=j;obtain⟨b,u,O,m,rfl,p,_,z,S⟩:=h;refine Ac<|YS v B<|Ac<|YS p z<|Ac<|J2 (λc d t u i R J=>?_) U S ?_
 ·refine Ac<|wpAny_eqBool_int ?_
  by_cases e:c=d
  rw[if_pos e]at J;rw[show(c==d)=true by simpa using e];exact Bj J
  ·rw[if_neg e]at J;rw[show(c==d)=false by simpa using e];refine Ac ?_;cases C:(Y&&i==0)with
   | true=>exact oneLt_int (Bj J)
   | false=>exact zbF (Bj J)
 ·have e:=O6 k l;have g:its.size=k.length:=by have:=U.length;simpa using this.symm
  have f:O.size=l.length:=by have:=S.length;simpa using this.symm
  rw[<-e]at q;cases c:Yg k l with
  | some r=>rw[c]at q;exact Bj q
  | none=>rw[c]at q;rw[g,f];exact Bj q
def ajC {x}{i}{k}{Q}(S:zu s.heap x (i::k))(q:∀t,Q (Go (.int i t)) s):Bb (Bg P w) A (firstOfTuple' x) Q E s:=by
 obtain⟨a,o,its,n,rfl,J,Y,U,O⟩:=S;refine Ac<|RJ ⟨o,J,Y⟩<|Ac<|YS J U ?_
 obtain⟨xs⟩:=its;cases O with
 | cons r _=>
  obtain⟨t,rfl⟩:=r;exact Bj<|q t
def ux:∀{vs}{ks}{Q},N6 (λk v=>zu s.heap v k) ks vs->(∀k∈ks,k≠[])->(∀us:List Mk,us.length=vs.length->(∀u∈us,∃i t,u=.int i t)->Q (us.map Go) s)->Bb (Bg P w) A (vs.mapM firstOfTuple') Q E s
 | [],_,Q,h,_,q=>Bj (q [] rfl nofun)
 | v::vs,ks,Q,h,J,q=>by
  cases h with
  | @cons k _ O _ r h=>
   rw[List.mapM_cons];obtain⟨i,k',rfl⟩:∃i k',k=i::k':=Zu (J k Q0)
   refine Ac<|ajC r λt=>Ac<|ux h (λk U=>J k<|Lq _ U) λus S Y=>Bj<|q (.int i t::us) (by simp[S]) λu a=>?_
   grind
def yQ:∀{us:List Mk}{Q},(∀u∈us,∃i t,u=Value.int i t)->Q (us.map λ_=>.type "int") s->Bb (Bg P w) A (us.mapM typeOf) Q E s
 | [],Q,_,q=>Bj q
 | u::us,Q,h,q=>by
  rw[List.mapM_cons];obtain⟨i,t,rfl⟩:=h u Q0;exact Ac<|RJ (typeIs_int s i t)<|Ac<|yQ (λv J=>h v<|Lq _ J)<|Bj q
def ajl {vs}{ks Q}(h:N6 (λk v=>zu s.heap v k) ks vs)(S:∀k∈ks,k≠[])(h1:1<=vs.length)(q:Q (tuples' true) s):Bb (Bg P w) A (keyKind' vs.toArray) Q E s:=by
 rw[keyKind'_eq,List.mapM_toArray];refine Ac<|wpAny_map<|ux h S λus J O=>?_
 rw[if_pos (by simp)];refine Ac<|Ql<|Ac ?_
 have U:(us.map Go).toArray.filterMap id=us.toArray:=by
  simp
 rw[U,oneTypeOnly'_eq,List.mapM_toArray];refine Ac<|wpAny_map<|yQ O ?_
 obtain⟨u,us',rfl⟩:∃u us',us=u::us':=Zu λe=>by rw[e]at J;simp at J;lia
 show Bb _ _ (pure _) _ _ s;rw[if_pos (by simp)];exact Bj<|Bj q
end
variable {ks:List (List Int)}{l:List Int}
section
variable {P:Cq}{w:Cd}{A:Cw}{E:Mk->AP->Prop}{s:AP}
abbrev Im (ks:List (List Int))(k:List Int):Nat:=ks.countP λl=>decide (l<k)
def CG {k l}(h:k<l):∀ks:List (List Int),Im ks k<=Im ks l/\(k∈ks->Im ks k<Im ks l)
 | []=>⟨Cm _,nofun⟩
 | a::as=>by
  obtain⟨O,J⟩:=CG h as;unfold Im at *;grind
def qQ {k}(J:k∈ks):Im ks k<Im ks l↔k<l:=by
 refine⟨λh=>(pF λc=>?_),λh=>(CG h ks).2 J⟩;by_cases e:l=k
 simp_all
 exact absurd h<|Nat.not_lt.mpr (CG (pF λc3=>e<|List.le_antisymm c<|List.not_lt.mp c3) ks).1
def zu.fn {h v}{k}(x:zu h v k)(y:zu h v l):k=l:=by
 obtain⟨a,o,its,n,rfl,c,_,d,g⟩:=x;obtain⟨b,u,Y,m,e,J,_,O,f⟩:=y;cases e;rw[c]at J;cases J;rw[d]at O;cases O;have j:∀{k l:List Int}{xs:List Mk},BL (k.map V.int) xs->BL (l.map V.int) xs->k=l:=by
  intro k;induction k with
  | nil=>
   intro l xs h1 h2;cases h1;cases l with
   | nil=>rfl
   | cons b l=>cases h2
  | cons a k i=>
   intro l xs h1 h2;cases h1 with
   | cons U h1=>
    cases l with
    | nil=>cases h2
    | cons b l=>
     cases h2 with
     | cons S h2=>
      obtain⟨t,e1⟩:=U;obtain⟨u,e2⟩:=S;grind
 grind
def zu.of {h h' v}{k}(x:zu h v k)(e:∀b o,v=.ref b->o.cls=.type "tuple"->h.get? b=Go o->h'.get? b=Go o):zu h' v k:=by
 obtain⟨a,o,its,n,rfl,O,J,r⟩:=x;exact⟨a,o,its,n,rfl,e a o rfl J O,J,r⟩
structure XC (T:Heap->Mk->List Int->Prop):Prop where
 fn:∀{h:Heap}{v:Mk}{k l:List Int},T h v k->T h v l->k=l
 of:∀{h h':Heap}{v:Mk}{k:List Int},T h v k->(∀b o,o.cls=.type "tuple"->h.get? b=Go o->h'.get? b=Go o)->T h' v k
@[reducible]noncomputable def RV (T:Heap->Mk->List Int->Prop)(h:Heap):List (List Int)->List Mk->Prop:=N6 λk v=>T h v k
def iC {O J}{F G}:∀{as:List O}{bs:List J},N6 F as bs->(∀a b,b∈bs->F a b->G a b)->N6 G as bs
 | [],_,h,_=>by cases h;exact .nil
 | a::as,_,h,g=>by
  cases h with
  | cons r h=>exact .cons (g _ _ Q0 r) (iC h λa b S=>g a b (Lq _ S))
section
variable {T:Heap->Mk->List Int->Prop}(F:XC T)
include F
open Classical in
abbrev keyV (_:XC T)(h:Heap)(v:Mk):List Int:=if e:∃k,T h v k then e.choose else[]
def nM {h v}{k}(x:T h v k):keyV F h v=k:=by
 unfold keyV;have e:∃k,T h v k:=⟨k,x⟩
 rw[dif_pos e,F.fn e.choose_spec x]
def keys_map {h}:∀{ks vs},RV T h ks vs->ks=vs.map (keyV F h)/\∀v∈vs,∃k∈ks,T h v k
 | [],_,p=>by cases p;exact⟨rfl,nofun⟩
 | k::ks,_,p=>by
  cases p with
  | cons r p=>
   obtain⟨e,g⟩:=keys_map p;refine⟨by rw[Hz,nM F r,<-e],λv J=>?_⟩;grind
def uD {h:Heap}:∀{vs:List Mk},(∀v∈vs,∃k,T h v k)->RV T h (vs.map (keyV F h)) vs
 | [],_=>.nil
 | v::vs,g=>by
  obtain⟨k,x⟩:=g v Q0;exact .cons (nM F x ▸ x)<|uD λu J=>g u<|Lq _ J
abbrev WY (F:XC T)(h:Heap)(ks:List (List Int))(v:Mk):Nat:=Im ks (keyV F h v)
def abB {h}{vs b}(p:RV T h ks vs)(n:b.Perm (Qy vs))(m:cJ (WY F h ks) b 0 vs.length):
  ∃O,RV T h O (b.map (·.2)).toList/\O.Perm ks/\O.Pairwise (· < ·)/\(b.map (·.2)).toList.Perm vs:=by
 obtain⟨d,g⟩:=keys_map F p;have Y:=Array.perm_iff_toList_perm.mp n;have ep:(Qy vs).toList=vs.map λv=>(v,v):=by
  have z:∀l:List Mk,l.zip l=l.map λv=>(v,v):=λl=>by
   induction l with
   | nil=>rfl
   | cons a l e=>rw[Zb,e];rfl
  unfold Qy;simp_all
 rw[ep]at Y;have J:∀x∈b.toList,x.1=x.2/\x.2∈vs:=λx o=>by
  grind
 have S:=by
  have:=Y.map (·.2)
  simpa[Function.comp_def]using this
 rw[Array.toList_map];refine⟨(b.toList.map _).map _,uD F λv f=>?_,(d ▸ S.map _),?_,S⟩;obtain⟨k,_,x⟩:=g v (S.mem_iff.mp f);exact⟨k,x⟩;rw[Ky,SQ,List.pairwise_iff_getElem];intro i j hi c U;have:=m i j (Nz _) U ((by have:=S.length_eq;simpa using this) ▸ c)
 rw[RK (by simpa using hi),RK (by simpa using c)]at this;have e1:=J b[i] (by simp);rw[e1.1,(J b[j] (by simp)).1]at this;exact(qQ<|d ▸ Hr.mpr ⟨_,e1.2,rfl⟩).mp this
def zbE {h}{J vs}(p:RV T h ks vs):((Qy vs).toList.map λx=>WY F h J x.1)=ks.map (Im J):=by
 have ep:(Qy vs).toList.map (·.1)=vs:=by
  unfold Qy;rw[Array.toList_zip,List.map_fst_zip (Cm _)]
 rw[(keys_map F p).1,Ky];conv=>rhs;rw[<-ep,Ky]
 rfl
end
def akT (O:ks.Nodup):(ks.map (Im ks)).Nodup:=by
 unfold List.Nodup;rw[SQ];refine Zv (λ{k l} U S J e=>J ?_) O;exact List.le_antisymm (List.not_lt.mp (λc=>by have:=(qQ S).mpr c;lia))<|List.not_lt.mp (λc=>by have:=(qQ U).mpr c;lia)
@[reducible]noncomputable def hp6 (h:Heap)(a:Addr)(vs:List Mk):Heap:=((h.update a (Xo λ_=>#[])).push (seqObj "tuple" vs.toArray 0)).push (seqObj "list" #[] 0)
structure SkT (P:Cq) (w:Cd) (A:Cw) {T:Heap->Mk->List Int->Prop}(F:XC T) (kd:XM) (ks:List (List Int)) (vs:List Mk):Prop where
 kind:∀{E:Mk->AP->Prop}{s:AP}{Q:XM->AP->Prop},2<=vs.length->RV T s.heap ks vs->Q kd s->Bb (Bg P w) A (keyKind' vs.toArray) Q E s
 cmp:∀{s:AP},RV T s.heap ks vs->Cmp P w A s kd (WY F s.heap ks) (·∈vs)
def qR:XC zu:=⟨zu.fn,λx k=>x.of λb o _ J O=>k b o J O⟩
def abh {vs}(Y:2<=ks.length->∀k∈ks,k≠[]):SkT P w A qR (tuples' true) ks vs:=by
 refine⟨λh2 p q=>ajl p (Y<|p.length ▸ h2) (QX h2) q,λp E Q x y U S q=>?_⟩;obtain⟨k,a,O⟩:=(keys_map qR p).2 x U;obtain⟨l,_,J⟩:=(keys_map qR p).2 y S;refine acC O J ?_;unfold WY at q;rw[nM qR O,nM qR J]at q
 rwa[<-decide_eq_decide.mpr (qQ a)]
end
variable {T:Heap->Mk->List Int->Prop}
def Eh {J S:Type}{f:J->S}{l O}(h:O.Perm l):∀{xs},l=xs.map f->∃ys:List J,ys.Perm xs/\O=ys.map f:=by
 induction h with
 | nil=>
  simp_all
 | cons a h U=>
  intro xs e;cases xs with
  | nil=>simp at e
  | cons x xs=>
   obtain⟨e1,e2⟩:=V1 e;obtain⟨ys,p,e3⟩:=U e2;exact⟨x::ys,p.cons x,by rw[Hz,<-e1,<-e3]⟩
 | swap a b l=>
  intro xs e;match xs with
  | x::y::xs=>
   obtain⟨e1,e2⟩:=V1 e;obtain⟨e2,e3⟩:=V1 e2;exact⟨y::x::xs,.swap x y xs,by rw[Hz,Hz,<-e1,<-e2,<-e3]⟩
 | trans h1 h2 c Y=>
  intro xs e;obtain⟨ys,p,e1⟩:=Y e;obtain⟨zs,p2,e2⟩:=c e1;exact⟨zs,p2.trans p,e2⟩
section
variable {X:Cx}{K:Az}
def ajq {anq}{σ:St}{H s}{b}{k}(I:Aw X anq σ H s)(h:IW X.K H b (k.map V.int)):zu s.heap (.ref b) k:=by
 obtain⟨its,r,⟨o,J,S,n,O⟩,_⟩:=I.tuple h;exact⟨b,o,its.toArray,n,rfl,J,S,O,by simpa using r⟩
abbrev Ke (ks:List (List Int)):Prop:=2<=ks.length->∀k∈ks,k≠[]
end
section
variable {X:Cx}{o:Expr}{mo:ME}{ma:MA}{apos ant:Pos}
abbrev Mg:MM:=λx ws h Q=>match x,ws with
 | .loc n,[y,z]=>(match h.c n,Ur y with
  | some (.dtt kvs),Go k=>Q ((Ez kvs k).getD z) h
  | _,_=>False)
 | _,_=>False
abbrev KC (h:Gh)(x:W)(P:Prop):Prop:=match x with
 | .loc n=>(match h.c n with
  | some (.dtt _)=>P
  | _=>False)
 | _=>False
abbrev aed (r:MM)(mo:ME)(ma:MA):ME:=fun σ h Q=>mo σ h λx h1=>KC h1 x (ma σ h1 λxs h2=>r x xs h2 Q)
def acV (hu:X.A.units+30<Jz)(ho:DE X o mo)(ha:LR X [e1,e2] ma)
  (hbase:autoParam (W5 o "get" X.env (eval o X.env)=eval o X.env) aPq._auto_1)
  (hfew:autoParam (((JD ant (Ck [e1,e2] X.env)).all (λx=>!x.1)&&(Vy ant (Vz [] X.env)).all (λx=>x.1.isSome)
   && decide (([e1,e2]:List Expr).length+([]:List Od).length+(if([]:List Od).isEmpty then 0 else 1)<30))=true) aPq._auto_1)
  (hline:autoParam ((apos.endLine==ant.line)=true) aPq._auto_1) (hst:autoParam (Ck [e1,e2] X.env=(false,eval e1 X.env)::Ck [e2] X.env) aPq._auto_1) (hplain:autoParam ((JD ant (Ck [e2] X.env)).any (·.1)=false) aPq._auto_1) :
  DE X (.Call (.Attribute o "get" apos) [e1,e2] [] ant) (aed Mg mo ma):=by
 rintro anq s σ H Q I ⟨μ,h,σw,Qw,R,S,m,k⟩;refine mH hbase hfew hline rfl<|Hg (ho anq s σ H _ I ⟨μ,h,σw,_,R,S,m,λ_ _ z=>z⟩) λu s1 c=>?_;obtain⟨x,H1,I1,rx,μ1,wx,h1,e1',R1,r1,il⟩:=c
 unfold KC at il;split at il
 ·split at il
  ·rename_i kv0 ec0;have r0:=r1;obtain⟨a,rfl,ha'⟩:=r1;obtain rfl:u=Value.ref a:=rx;obtain⟨p,xs,vs,hp,hx,_⟩:=R1.dttAt ec0;have ep:p=a:=by rw[ha']at hp;exact(IV hp).symm
   subst ep;obtain⟨⟨z,y,nd,ob,es,epo,g1,g2,g3,g4⟩,_⟩:=I1.hok p _ hx;refine⟨"dict", "dict.get",PySem.F.plainAttrs_dict,nU,PySem.F.type_dict_get,⟨ob,g1,g2.1⟩,λb e=>by cases e;exact⟨ob,g1,g2.2.1⟩,?_⟩;have hA:=ha ant anq s1 σ H1 _ I1 ⟨μ1,h1,σw,_,R1,S.ext e1',il,λ_ _ z=>z⟩;rw[hst]at hA|-
   refine p8 (by show(false||(JD ant<|Ck [e2] X.env).any (·.1))=false;rw[hplain]<;>rfl)<|Zj ?_
   refine Hg hA λus s2 d=>?_;obtain⟨ys,H2,I2,r2,μ2,ws,h2,e2',R2,rs,m2⟩:=d;unfold Mg at m2;split at m2
   ·rename_i n' y' z' e3;cases e3;split at m2
    ·rename_i kvs kk ec ek;obtain⟨v1,v2,rfl,ry,rz⟩:=Ba rs;obtain⟨b,rfl,hb⟩:=pN ry ek;obtain⟨u1,u2,rfl,ru1,ru2⟩:=vals2 r2;cases ru1;obtain⟨p2,xs2,vs2,hp2,hx2,q1,q2,q3,q4⟩:=R2.dttAt ec;have r0':=e2'.r _ _ r0;rw[Bk]at r0';obtain⟨a2,ea,ha2⟩:=r0';cases ea;have ep2:p2=p:=by rw[ha2]at hp2;exact(IV hp2).symm
     subst ep2;obtain⟨_,hd2,dd⟩:=Ca I2 hx2 (jO q1 q3);obtain⟨t1,t2⟩:=wF q1 q2 q4 kk;refine call_meetsIn nU dd.typeIs PySem.F.entry_dict_get (PySem.F.args_dict_get_3 _ _ _) (meetsH_dict_get_default (tupleKind<|intKind X.prog X.w) p2 b hd2 u2) ⟨tupleKind_room_in1<|by lia,kk,xs2,zW I2 hb,dd,?_⟩;cases ev:Ez kvs kk with
     | some wv=>
      rw[ev]at m2;obtain⟨pp,v,a1,a2,a3⟩:=t1 wv ev;rw[a1];exact⟨v,H2,I2.tok _,a2,k _ _ ⟨μ2,wv,h2,e1'.trans e2',R2,a3,m2⟩⟩
     | none=>
      rw[ev]at m2 t2;have a1:atKey xs2 kk=JI:=by
       cases e:atKey xs2 kk with
       | none=>rfl
       | some _=>rw[e]at t2;cases t2
      rw[a1];exact⟨v2,H2,I2.tok _,ru2,k _ _ ⟨μ2,z',h2,e1'.trans e2',R2,rz,m2⟩⟩
    exact m2.elim
   exact m2.elim
  exact il.elim
 exact il.elim
end
section
variable {X:Cx}{K:Az}
def aif (k:X.calm=true):fj X (.builtin "min") (λxs H Q=>∃(p:Addr) (ns:List Int),xs=[.ref p]/\Ja X.K H p (ns.map V.int)/\0<ns.length/\∀M,M∈ns->(∀a,a∈ns->M<=a)->Q (.int M) H):=by
 rintro anq s σ H xs us Q I r ⟨p,ns,e,m,g,q⟩;subst e;obtain⟨u,rfl,d⟩:=vals1 r;cases d;obtain⟨its,O,pl,x⟩:=I.list m;have o:its.length=ns.length:=by rw[<-O.length,Bo]
 have Y:AllInts its.toArray:=λv S=>by
  obtain⟨i,hi,e⟩:=Array.mem_iff_getElem.mp S;obtain⟨t,e2⟩:=wY (i:=i) (v:=v) O (by rw[<-e];simp at hi|-);exact⟨_,t,e2⟩
 obtain⟨ys,U⟩:=Y.items;have b:=pl.isList;rw[U]at b;have f:=by
  have:=congrArg Array.size U
  simp[intItems]at this;lia
 have J:∀i,i<ns.length->numAt ys i=ns.getD i 0:=λi hi=>by
  obtain⟨t,e2⟩:=wY O (Hw _);have e3:(intItems ys)[i]?=Go (its[i]'(by lia)):=by rw[<-U];simp
  obtain⟨w,e4⟩:=intItems_at e3;rw[e2]at e4;injection e4 with n _
  exact n.symm
 refine min_intList (I.ok.hd k) b (by lia) λv h' tk S h=>?_;obtain⟨t,rfl⟩:=intItems_at S;obtain⟨h1,h2⟩:=argBest_lt (numAt ys) (ys.size-1);refine⟨.int _,H,I.kept h,⟨t,rfl⟩,q _ ?_ λa l=>?_⟩;rw[J _ (by lia),KD,Hw (by lia)];exact QV _;obtain⟨j,c,e⟩:=Y4.mp l;have:=h2 j (by lia)
 rw[J j c,KD,Hw c]at this;rw[<-e];exact this
abbrev S6:MC:=λws h Q=>match ws with
 | [w]=>(match dF h w with
  | some us=>∃ns:List Int,us=ns.map W.int/\0<ns.length/\∀M,M∈ns->(∀a,a∈ns->M<=a)->Q (.int M) h
  | none=>False)
 | _=>False
def aby (U:X.calm=true):fK X (.builtin "min") S6:=⟨_,aif U,by
 intro H μ h vs ws d Q R r m k;unfold S6 at m;split at m
 split at m
 rename_i w us b;obtain⟨v,e,O⟩:=gH r;obtain⟨p,ys,ex,S,rs⟩:=dh R O b;obtain⟨ns,c,J,m⟩:=m;subst e ex;rw[c]at rs;have:=nR rs
 subst this;exact⟨p,ns,rfl,S,J,λM a Y=>k _ _<|.int R<|m M a Y⟩;exact m.elim;cases m⟩
abbrev aaQ (K:Az):V->List V->Hp->VK->Prop:=λx vs H Q=>∃l b xs zs,x=.ref l/\vs=[.ref b]/\H l=Go (.lst xs)/\IW K H b zs/\xs.length+zs.length<=HB/\Q .non (Cu H l (.lst (xs++zs)))
def ajE:MtM X "list.extend" (aaQ X.K):=by
 intro anq s σ H x vs v us Q I Y a h;obtain⟨l,b,xs,zs,rfl,rfl,S,i,o,q⟩:=h;cases Y;obtain⟨u,rfl,c⟩:=a.one;cases c;obtain⟨z,its,n,r,p,e⟩:=I.lstM S;obtain⟨J,O,⟨d,e2,k,m,j⟩,f⟩:=I.tuple i;have g:=O.length;have U:its.toArray.size+J.toArray.size<=HB:=by rw[KH,KH];lia
 refine SM F.slot_list_extend ⟨_,e,rfl⟩ F.entry_list_extend ?_<|F.args_list_extend_2 _ _
 show Bb _ _ (Builtin.List.listExtendWith (.ref l) _ .none) _ _ _;refine Ac<|RJ ⟨d,e2,k⟩ ?_
 have tt:(Value.type "tuple"==Value.type "tuple")=true:=by rfl
 rw[if_pos (by rw[tt,Bool.or_true])];refine Ac<|YS e2 j<|Ac<|YS e rfl ?_
 rw[if_neg (by rw[zbM U,YH];exact RM)];refine Ac<|listUpdate_at e rfl (Bj ⟨_,rfl,?_⟩) (by lia) (by rw[Array.size_append];lia)
 refine⟨.non,_,I.lset S e (by simp) (r.append O) ?_,rfl,q⟩;rw[JK];omega
abbrev Ka:MM:=λx ws h Q=>match x,ws with
 | .loc n,[.tup zs]=>(match h.c n with
  | some (.lst us)=>fG (us.length+zs.length) (Q .non (h.set n (.lst (us++zs))))
  | _=>False)
 | _,_=>False
def acv:abE K (aaQ K) Ka:=by
 intro H μ h x vs f ws g Q R S rs m k;unfold Ka at m;split at m
 split at m
 rename_i n zs _ us e;obtain⟨p,xs,ex,b,a,O⟩:=Yi R S e;obtain⟨v,d,U⟩:=gH rs;obtain⟨q,ys,c,Y,J⟩:=U;subst c;exact⟨p,q,xs,ys,ex,d,a,Y,by rw[<-O.len,<-J.len];exact m.ok.1,k _ _<|.wrote R b (O.append J) (by rw[Bk]) m.ok.2⟩;cases m;cases m
variable {o e:Expr}{mo:ME}{ma:MA}{apos ant:Pos}
def ac7 (ho:DE X o mo)(ha:LR X [e] ma)
  (hbase:autoParam (W5 o "extend" X.env (eval o X.env)=eval o X.env) aPq._auto_1)
  (hfew:autoParam (((JD ant (Ck [e] X.env)).all (λx=>!x.1)&&(Vy ant (Vz [] X.env)).all (λx=>x.1.isSome)
   && decide (([e]:List Expr).length+([]:List Od).length+(if([]:List Od).isEmpty then 0 else 1)<30))=true) aPq._auto_1)
  (hline:autoParam ((apos.endLine==ant.line)=true) aPq._auto_1) (hst:autoParam (Ck [e] X.env=(false,eval e X.env)::Ck [] X.env) aPq._auto_1) (hplain:autoParam ((JD ant (Ck [] X.env)).any (·.1)=false) aPq._auto_1) :
  DE X (.Call (.Attribute o "extend" apos) [e] [] ant) (jW Ka mo ma):=afP PySem.F.slot_list_extend PySem.F.type_list_extend ajE acv ho ha hbase hfew hline hst hplain
end
section
variable {prog:Cq}{w:Cd}{A:Cw}{R:Qi->AP->Prop}{E:Mk->AP->Prop}{I:Addr}{ns:List Int}{its:List Mk}
abbrev Gr (ns:List Int)(j:Nat)(b:Int):Prop:=b∈ns/\∀k,k<j->ns.getD k 0<=b
end
variable {I:Addr}
section
variable {X:Cx}
end
section
open AutoSeq1 (wpAny_loadPart')
end
section
variable {prog:Cq}{w:Cd}{A:Cw}{E:Mk->AP->Prop}{s:AP}
end
section
variable {X:Cx}{K:Az}
end
section
variable {prog:Cq}{w:Cd}{A:Cw}{R:Qi->AP->Prop}{its:List Mk}
end
section
variable {X:Cx}{K:Az}
abbrev yL:List W->Option (List (List W))
 | []=>Go []
 | .tup k::r=>(yL r).map (k::·)
 | _=>JI
end
section
variable {X:Cx}
end
section
variable {prog:Cq}{w:Cd}{A:Cw}{E:Mk->AP->Prop}{s:AP}
def ala:Wb (.type "tuple") "keys" = pure JI:=by rw[typeLookup_type,Zz];kernel_rfl
def tZ:Wb (.type "list") "keys" = pure JI:=by rw[typeLookup_type,Zz];kernel_rfl
def zaE {a o}{xs k}{Q}(Y:s.heap.get? a=Go o)(j:o.cls=.type "tuple")(J:o.data=.seq xs k)(i:o.dict=JI)(m:A.handled=JI)
  (h:∀h' tk,(∀b U,s.heap.get? b=Go U->h'.get? b=Go U)->Q JI {s with heap:=h',toks:=tk}):Bb (Bg prog w) A (getAttr? (.ref a) "keys") Q E s:=by
 obtain⟨c,dct,n,sl⟩:=o;simp only at j J i;subst j J i;obtain⟨l,g,d,tk,os⟩:=s;have hT:∀O,(⟨l,g,d,O,os⟩:AP).TypeIs (.ref a) "tuple":=λ_=>⟨_,Y,rfl⟩
 have x:=sub_AttributeError;have v:=F.slot_tuple_getattribute.lookup;have u:=F.slot_tuple_getattribute.bind (.ref a);have t:=am_tuple_getattr_none;unfold getAttr? getAttrBy? getAttrBy;repeat(any_goals(first|assumption|exact hT _|((with_reducible show Bb _ _ (call (Value.builtin "tuple.__getattribute__") _ _) _ _ _);refine Xm F.slot_tuple_getattribute (hT _) am_entry_tuple_getattribute (F.args_tuple_getattribute_2 _ _) (meets_getattribute_miss_tuple a xs k sl "keys" _ ala (by decide) (by size_fits)) ⟨Y,m,λh' O e S=>?_⟩)|wp_step))
 obtain⟨q,p,r⟩:=S.there;show Bb _ _ (getattributeRaised _ _ _ _ _ _ _) _ _ _;unfold getattributeRaised;repeat(any_goals(first|assumption|wp_step))
 exact h _ _ S.keeps
def uc {a o}{xs k}{Q}(Y:s.heap.get? a=Go o)(j:o.cls=.type "list")(J:o.data=.seq xs k)(i:o.dict=JI)(m:A.handled=JI)
  (h:∀h' tk,(∀b U,s.heap.get? b=Go U->h'.get? b=Go U)->Q JI {s with heap:=h',toks:=tk}):Bb (Bg prog w) A (getAttr? (.ref a) "keys") Q E s:=by
 obtain⟨c,dct,n,sl⟩:=o;simp only at j J i;subst j J i;obtain⟨l,g,d,tk,os⟩:=s;have hT:∀O,(⟨l,g,d,O,os⟩:AP).TypeIs (.ref a) "list":=λ_=>⟨_,Y,rfl⟩
 have x:=sub_AttributeError;have v:=F.slot_list_getattribute.lookup;have u:=F.slot_list_getattribute.bind (.ref a);have t:=am_list_getattr_none;unfold getAttr? getAttrBy? getAttrBy;repeat(any_goals(first|assumption|exact hT _|((with_reducible show Bb _ _ (call (Value.builtin "list.__getattribute__") _ _) _ _ _);refine Xm F.slot_list_getattribute (hT _) am_entry_list_getattribute (F.args_list_getattribute_2 _ _) (meets_getattribute_miss_list a xs k sl "keys" _ tZ (by decide) (by size_fits)) ⟨Y,m,λh' O e S=>?_⟩)|wp_step))
 obtain⟨q,p,r⟩:=S.there;show Bb _ _ (getattributeRaised _ _ _ _ _ _ _) _ _ _;unfold getattributeRaised;repeat(any_goals(first|assumption|wp_step))
 exact h _ _ S.keeps
def mQ:entryFor table "dict.update.loop" = Go Wy.«dict.update.loop»:=entryFor_of_tree (by kernel_rfl)
def dO:plainId "dict.update.loop" = true:=by decide +kernel
@[reducible]noncomputable def Qs (prog:Cq)(w:Cd):=tupleKind (intKind prog w)
def Kc {h h'}{k a}(x:(Qs prog w).is h k a)(m:∀b o,h.get? b=Go o->h'.get? b=Go o):(Qs prog w).is h' k a:=by
 obtain⟨o,its,n,J,r⟩:=x;exact⟨o,its,n,m _ _ J,r⟩
def uF {h0 h h':Heap}{xs}(x:Xi (Qs prog w) h d xs)(O:∀o,h.get? d=Go o->h'.get? d=Go o)(J:∀y∈xs,(Qs prog w).is h' y.1 y.2.1):Xi (Qs prog w) h' d xs:=by
 obtain⟨o,es,ep,e1,e2,e3,e4,_,S⟩:=x;exact⟨o,es,ep,O o e1,e2,e3,e4,J,S⟩
def ahl {R}{items:Array Mk}{fp}{St}(W:Walks prog w A.in1 I fp [I] items.size (λi v=>items[i]?=Go v) St)(h:d∉fp)(hu:A.in1.units<Jz)(h0)(F:h0.get? d=JI)(l:h0.get? I=JI)
  {ps}(M:items.size=ps.length) (N:∀(j:Nat) (p),ps[j]?=Go p->∃q,items[j]?=Go (.ref q)/\IsTup h0 q #[.ref p.2.1,p.2.2]/\(Qs prog w).is h0 p.1 p.2.1) (L:(ps.map (·.1)).Nodup) (hz:ps.length<=HB) :
  ∀k j s  (t),ps.length-j=k->j<=ps.length->St j s.heap->Xi (Qs prog w) s.heap d (ps.take j)->(∀b o,h0.get? b=Go o->s.heap.get? b=Go o) ->
  (∀h' tk,Xi (Qs prog w) h' d ps->(∀b o,h0.get? b=Go o->h'.get? b=Go o)->R (.ok (.ret .none)) {s with heap:=h',toks:=tk}) ->
  PL (Bg prog w) A (.builtin "dict.update.loop" ⟨[.ref d,.ref I,.int (j) t,.none],[]⟩) R s:=by
 have V:d≠I:=λe=>h (W.sub d (by rw[e];simp))
 have keys:∀(j:Nat) (h':Heap),(∀b o,h0.get? b=Go o->h'.get? b=Go o)->∀y∈ps.take j,(Qs prog w).is h' y.1 y.2.1:=λj h' m y f=>by
  obtain⟨i,hi,e⟩:=Y4.mp (Zg f);obtain⟨q,_,_,C⟩:=N i y (by rw[<-e];exact Hw hi);exact Kc C m
 intro k;induction k with
 | zero=>
  intro j s t E hj st n c H;have r:j=ps.length:=by lia
  refine Rx mQ ?_;rw[X5 dO _];refine Ac<|W.done s _ _ (by rw[M,<-r];exact st) λh' tk S=>?_
  have m:∀b o,h0.get? b=Go o->h'.get? b=Go o:=λb o e=>S b o (by intro z;rw[QW.mp z,l]at e;cases e) (c b o e)
  have Y:Xi (Qs prog w) h' d ps:=by
   rw[r,J8]at n;refine uF (h0:=h0) n (λo e=>S d o (by simpa using V) e) λy f=>keys ps.length h' m y (by rw[J8];exact f)
  exact Ac<|Bj<|Bj<|H h' tk Y m
 | succ k Z=>
  intro j s t E hj st n c H;have O:j<ps.length:=by lia
  have ep:ps[j]?=Go ps[j]:=Hw O;generalize ps[j]=p at ep;obtain⟨q,eq,C,g⟩:=N j p ep;refine Rx mQ ?_;rw[X5 dO _];show Bb _ A.in1 (pyNext (.ref I) >>= _) _ _ s;refine Ac<|W.item j s _ _ (by rw[M];exact O) st λv h' tk Q x S=>?_
  have ev:v=.ref q:=by rw[eq]at Q;exact(IV Q).symm
  subst ev;have m:∀b o,h0.get? b=Go o->h'.get? b=Go o:=λb o e=>S b o (by intro z;rw[QW.mp z,l]at e;cases e) (c b o e)
  have Y:Xi (Qs prog w) h' d (ps.take j):=uF (h0:=h0) n (λo e=>S d o (by simpa using V) e) (keys j h' m);obtain⟨X,K,cq,nq,dq⟩:=C;have U:=m _ _ K;refine Ac<|Ly<|Ac<|wpAny_tryCatch ?_
  unfold Builtin.Dict.pairItems;refine Ac<|RJ (T := "tuple") ⟨X,U,cq⟩ ?_
  rw[if_pos (by decide)];refine Ac<|W6 U dq<|Bj ?_
  show Bb _ _ (Te [_,_] (dictSet d _ _)) _ _ _;have D:atKey (ps.take j) p.1=JI:=by
   unfold atKey;rw[Option.map_eq_none_iff,List.find?_eq_none];intro y f;have hn:p.1∉(ps.take j).map (·.1):=by
    have e1:ps=ps.take j++p::ps.drop (j+1):=by
     conv=>lhs;rw[<-List.take_append_drop j ps]
     congr 1
     rw[Y5 O];congr 1
     rw[Hw O]at ep;exact IV ep
    rw[e1,IK,List.nodup_append]at L;intro z;exact L.2.2 _ z p.1 (by simp) rfl
   intro z;exact hn<|Hr.mpr ⟨y,f,by simpa using z⟩
  refine Ly<|wpAny_dictSet_heap (hsz:=by rw[Ou];lia) hu (Kc g m) Y λh2 a B=>?_
  rw[storedH_new D]at a;have et:ps.take j++[(p.1,p.2.1,p.2.2)]=ps.take (j+1):=by rw[Ik,ep];rfl
  rw[et]at a;have J:∀b o,b≠d->h'.get? b=Go o->h2.get? b=Go o:=λb o G e=>B.extBut b o G e
  refine Bj ⟨Ru dO _,?_⟩;have r:((j:Int)+1)=((j+1:Nat):Int):=by lia
  show PL _ _ (.builtin "dict.update.loop" ⟨[.ref d,.ref I,.int ((j:Int)+1) 0,.none],[]⟩) _ _;rw[r];refine Z (j+1) _ 0 (by lia) O (W.frame _ _ _ x λb G o e=>J b o (λz=>h<|z ▸ G) e) a (λb o e=>J b o (λz=>by rw[z,F]at e;cases e)<|m b o e) λh3 u d3 m3=>H h3 u d3 m3
def wz {T}{items Q}(hh:A.handled=JI)(M:A.units+30<Jz)
  (src:(∃o n,s.heap.get? T=Go o/\o.cls=.type "tuple"/\o.data=.seq items n/\o.dict=JI)\/(∃o n,s.heap.get? T=Go o/\o.cls=.type "list"/\o.data=.seq items n/\o.dict=JI))
  {ps}(I:items.size=ps.length) (L:∀(j:Nat) (p),ps[j]?=Go p->∃q,items[j]?=Go (.ref q)/\IsTup s.heap q #[.ref p.2.1,p.2.2]/\(Qs prog w).is s.heap p.1 p.2.1) (G:(ps.map (·.1)).Nodup) (hz:ps.length<=HB)
  (h:∀h' tk,Xi (Qs prog w) h' s.heap.objs.size ps->(∀b o,s.heap.get? b=Go o->h'.get? b=Go o)->Q (.ref s.heap.objs.size) {s with heap:=h',toks:=tk}) :
  Bb (Bg prog w) A (call (.type "dict") [.ref T]) Q E s:=by
 have Y:A.in1.in1.handled=JI:=hh;have y:A.in1.in1.units<Jz:=by
  have:A.in1.in1.units=A.units+1+1:=rfl
  lia
 have u:T<s.heap.objs.size:=by
  rcases src with⟨o,_,e,_⟩|⟨o,_,e,_⟩<;>exact Hh e
 refine callType_codes (Q₁:=λobj a=>obj=.ref s.heap.objs.size/\a={s with heap:=s.heap.push {cls:=.type "dict",data:=.dict #[]} }) F.kt_called_dict (F.kt_typeCall_dict_1 _) F.entry_dict_init (kt_code_dict_new _ ⟨rfl,rfl⟩) ?_;rintro obj a ⟨rfl,rfl⟩;have t:({s with heap:=s.heap.push {cls:=.type "dict",data:=.dict #[]} }:AP).TypeIs (.ref s.heap.objs.size) "dict":=⟨_,Il _ rfl,rfl⟩
 refine⟨t,F.args_dict_init_2 _ _,?_⟩;unfold Wy.«dict.__init__»;refine Ac ?_;unfold Builtin.Dict.selfAndRest;refine Ac<|wpAny_notOrdered_dict t ?_
 show Bb _ _ (pure (s.heap.objs.size,[Value.ref T])) _ _ _;refine Bj ?_;show Bb _ _ (tB "dict.__init__" s.heap.objs.size (.ref T) [] .none) _ _ _;unfold tB;have c:∀(h1:Heap) (U:Nat),(∀b f,(s.heap.push {cls:=.type "dict",data:=.dict #[]}).get? b=Go f->h1.get? b=Go f)->∀(h2:Heap) (fp:List Addr) (St:Nat->Heap->Prop),h1.objs.size∉([s.heap.objs.size]:List Addr)->(∀b f,h1.get? b=Go f->h2.get? b=Go f)->s.heap.objs.size∉fp->Walks prog w A.in1.in1 h1.objs.size fp [h1.objs.size] items.size (λi v=>items[i]?=Go v) St->St 0 h2 ->
   PL (Bg prog w) A.in1 (.builtin "dict.update.loop" ⟨[.ref s.heap.objs.size,.ref h1.objs.size,QC 0,.none],[]⟩) (wants (λr l=>r=.none/\Q (.ref s.heap.objs.size) l) E) {s with heap:=h2,toks:=U}:=by
  intro h1 U m1 h2 fp St K m2 z W st;have S:=m1 _ _ (Il s.heap (o:={cls:=.type "dict",data:=.dict #[]}) rfl);refine ahl (A:=A.in1) W z y s.heap (X3<|Cm _) (X3<|QX<|Hh S) I L G hz ps.length 0 _ _ rfl (Nz _) st ?_ (λb o e=>m2 b o<|m1 b o<|HJ _ e) λh' tk d m=>⟨rfl,h h' tk d m⟩;exact⟨_,#[],0,m2 _ _ S,⟨rfl,rfl,rfl⟩,rfl,rfl,(λx H=>absurd H V4),ZC⟩
 rcases src with⟨o,n,C,k,x,B⟩|⟨o,n,C,k,x,B⟩
 have O:(s.heap.push {cls:=.type "dict",data:=.dict #[]}).get? T=Go o:=HJ _ C;refine Ac<|RJ (T := "tuple") ⟨o,O,k⟩ ?_
 rw[if_pos (by decide)];refine Ac<|zaE O k x B Y λh1 U m1=>?_
 rw[if_pos (show(JI:Option Mk).isNone=true from rfl)];refine Ac<|Ql ?_
 have hT:h1.IsTuple T items:=⟨o,m1 _ _ O,k,n,x⟩
 refine Ac<|wpAny_pyIter_tuple hT ?_
 have g:T<h1.objs.size:=Hh (m1 _ _ O);have S:=Hh (m1 _ _ (Il s.heap (o:={cls:=.type "dict",data:=.dict #[]}) rfl));refine Bj ⟨Ru dO _,?_⟩;exact c h1 U m1 _ _ _ (by simpa using Nk S) (λb f e=>HJ _ e) (by simp only[Kz,V4,or_false,not_or];exact⟨Ip S,Nk u⟩) (Walks.tuple Y _ T (Ip g) items) ⟨⟨_,Il _ rfl,rfl,rfl⟩,hT.push _⟩;have O:(s.heap.push {cls:=.type "dict",data:=.dict #[]}).get? T=Go o:=HJ _ C;refine Ac<|RJ (T := "list") ⟨o,O,k⟩ ?_
 rw[if_pos (by decide)];refine Ac<|uc O k x B Y λh1 U m1=>?_
 rw[if_pos (show(JI:Option Mk).isNone=true from rfl)];refine Ac<|Ql ?_
 have hT:h1.IsList T items:=⟨o,m1 _ _ O,k,n,x⟩
 refine Ac<|YB hT ?_
 have g:T<h1.objs.size:=Hh (m1 _ _ O);have S:=Hh (m1 _ _ (Il s.heap (o:={cls:=.type "dict",data:=.dict #[]}) rfl));refine Bj ⟨Ru dO _,?_⟩;exact c h1 U m1 _ _ _ (by simpa using Nk S) (λb f e=>HJ _ e) (by simp only[Kz,V4,or_false,not_or];exact⟨Ip S,Nk u⟩) (Walks.list Y _ T (Ip g) items) ⟨⟨_,Il _ rfl,rfl,rfl⟩,hT.push _⟩
end
section
variable {X:Cx}{K:Az}
@[reducible]noncomputable def ZS (K:Az)(H:Hp)(y:V)(p:List Int×Addr×V):Prop:=∃q,y=V.ref q/\IW K H q [.ref p.2.1,p.2.2]/\IW K H p.2.1 (p.1.map V.int)
def z8 {anq}{σ:St}{H s}(I:Aw X anq σ H s):∀{ys}{ps its},BL ys its->N6 (ZS X.K H) ys ps ->
  ∃xs:List (List Int×Addr×Mk),xs.map (·.1)=ps.map (·.1)/\xs.map (·.2.1)=ps.map (·.2.1)/\BL (ps.map (·.2.2)) (xs.map (·.2.2))/\∀(j:Nat) (p),xs[j]?=Go p->∃q,its[j]?=Go (.ref q)/\IsTup s.heap q #[.ref p.2.1,p.2.2]/\(Qs X.prog X.w).is s.heap p.1 p.2.1
 | _,_,_,.nil,.nil=>⟨[],rfl,rfl,.nil,λj p e=>by simp at e⟩
 | _,_,_,.cons r J,.cons (b:=p) f d=>by
  obtain⟨xs,a1,a2,a3,g⟩:=z8 I J d;obtain⟨q,rfl,h1,h2⟩:=f;cases r;obtain⟨js,a,ht,_⟩:=I.tuple h1;cases a with
  | cons Y U=>
   cases U with
   | cons S O=>
    cases O;cases Y;rename_i v;refine⟨(p.1,p.2.1,v)::xs,by simp[a1],by simp[a2],.cons S a3,λj z e=>?_⟩;cases j with
    | zero=>
     simp at e;subst e;exact⟨q,rfl,ht,zW I h2⟩
    | succ j=>
     obtain⟨c,b1,b2⟩:=g j z (by simpa using e);exact⟨c,by simpa using b1,b2⟩
def ahv (t:X.calm=true)(l:X.A.units+30<Jz):fj X (.type "dict") (λvs H Q=>∃(T:Addr) (ys:List V) (ps:List (List Int×Addr×V)),vs=[.ref T]/\(Ja X.K H T ys\/IW X.K H T ys)/\N6 (ZS X.K H) ys ps/\(ps.map (·.1)).Nodup /\
  ∀d,H d=JI->∀xs:List (List Int×Addr×Mk),xs.map (·.1)=ps.map (·.1)->xs.map (·.2.1)=ps.map (·.2.1)->BL (ps.map (·.2.2)) (xs.map (·.2.2))->Q (.ref d) (Cu H d (.ext (Ji d xs)))):=by
 rintro anq s σ H vs us Q I r ⟨T,ys,ps,v,S,h,k,q⟩;subst v;obtain⟨u,rfl,i⟩:=vals1 r;cases i;have O:∀its:List Mk,BL ys its->ys.length<=HB->((∃o n,s.heap.get? T=Go o/\o.cls=.type "tuple"/\o.data=.seq its.toArray n/\o.dict=JI)\/(∃o n,s.heap.get? T=Go o/\o.cls=.type "list"/\o.data=.seq its.toArray n/\o.dict=JI))->Bb (Bg X.prog X.w) X.A (call (.type "dict") [.ref T]) (EP X anq σ Q) X.xe s:=λits J U Y=>by
  obtain⟨xs,a1,a2,a3,x⟩:=z8 I J h;have e1:ys.length=its.length:=J.length;have e2:ys.length=ps.length:=XQ h;have e3:xs.length=ps.length:=by have:=congrArg Rb a1;simpa using this
  refine wz (I.ok.hd t) l Y (ps:=xs) (by rw[KH];lia) (λj p e=>by
   obtain⟨q,b1,b2⟩:=x j p e;exact⟨q,by rw[List.getElem?_toArray];exact b1,b2⟩) (by rw[a1];exact k) (by lia) λh' tk d m=>?_
  have y:(s.heap.objs.size==QD)=false:=(Eu (P:=X.prog) (w:=X.w) (H:=H) s.heap I.big).2.1;exact⟨.ref s.heap.objs.size,_,I.laid (a:=s.heap.objs.size) (o:=.ext (Ji s.heap.objs.size xs)) (t':=tk) m (Cm _)<|JB (P:=X.prog) (w:=X.w) (by lia) y d,rfl,q _ (I.hok.fresh<|Cm _) xs a1 a2 a3⟩
 rcases S with S|S
 obtain⟨its,J,⟨o,n,g,f,c,b⟩,U⟩:=I.list S;exact O its J U<|.inr ⟨o,n,g,f,b,c⟩
 obtain⟨its,J,⟨o,g,f,⟨n,c⟩,b⟩,U⟩:=I.tupO S;exact O its J U<|.inl ⟨o,n,g,f,c,b⟩
abbrev o9:List W->Option (List (List Int×W))
 | []=>Go []
 | .tup [k,v]::r=>(match Ur k with
  | some ks=>(o9 r).map ((ks,v)::·)
  | none=>JI)
 | _=>JI
def zM {H μ}:∀{us ys}{ps},aV K H μ us ys->o9 us=Go ps->∃J:List (List Int×Addr×V),N6 (ZS K H) ys J/\J.map (·.1)=ps.map (·.1)/\aV K H μ (ps.map λx=>W.tup (x.1.map W.int)) (J.map λx=>V.ref x.2.1)/\aV K H μ (ps.map (·.2)) (J.map (·.2.2))
 | [],ys,ps,r,e=>by
  cases e;subst r;exact⟨[],.nil,rfl,by rw[V5,V5,aV],by rw[V5,V5,aV]⟩
 | w::us,ys,ps,r,e=>by
  obtain⟨y,n,rfl,d,r⟩:=r;unfold o9 at e;split at e
  rename_i h;cases h
  ·rename_i k v a h;cases h;split at e
   ·rename_i ks l;cases q:o9 us with
    | none=>rw[q]at e;cases e
    | some o=>
     rw[q]at e;cases e;obtain⟨J,i,p2,g,f⟩:=zM r q;obtain⟨b,zs,rfl,j,c⟩:=d;obtain⟨m,Y,rfl,rk,S⟩:=Ba c;obtain⟨U,rfl,O⟩:=pN rk l;exact⟨(ks,U,Y)::J,.cons ⟨b,rfl,j,O⟩ i,by simp[p2],⟨_,_,rfl,⟨U,_,rfl,O,pL ks⟩,g⟩,(⟨_,_,rfl,S,f⟩)⟩
   cases e
  cases e
abbrev Fe:MC:=λws h Q=>match ws with
 | [w]=>(match view h w with
  | some us=>(match o9 us with
   | some ps=>(ps.map (·.1)).Nodup/\Q (.loc h.nx) (h.new (.dtt ps))
   | none=>False)
  | none=>False)
 | _=>False
def zbP (g:X.calm=true)(c:X.A.units+30<Jz):fK X (.type "dict") Fe:=⟨_,ahv g c,by
 intro H μ h vs ws n Q R r m k;unfold Fe at m;split at m
 split at m
 split at m
 rename_i w _ us i _ ps j;obtain⟨v,e,U⟩:=gH r;obtain⟨p,ys,ex,f,rs⟩:=vM R U i;obtain⟨J,b,p2,a,Y⟩:=zM rs j;subst e ex;refine⟨p,ys,J,rfl,f,b,by rw[p2];exact m.1,λd S xs a1 a2 a3=>?_⟩;have O:=(Ex.newCell (o:=.ext (Ji d xs)) R S).ext;have e3:(xs.map λx=>V.ref x.2.1)=J.map λx=>V.ref x.2.1:=by
  have:(xs.map (·.2.1)).map V.ref=(J.map (·.2.1)).map V.ref:=by rw[a2]
  rw[Ky,Ky]at this;exact this
 have l:G3 X.K (μ.put h.nx d) (Cu H d (.ext (Ji d xs))) (h.new (.dtt ps)):=R.newCell S trivial ⟨xs,J.map (·.2.2),aU,(by rw[a1,p2]),a3,by rw[e3];exact O.s a,O.s Y⟩;exact k _ _ ⟨_,.loc h.nx,_,O,l,by rw[Bk];exact⟨d,rfl,Mu.put_same⟩,m.2⟩;exact m.elim;exact m.elim;exact m.elim⟩
end
section
variable {prog:Cq}{w:Cd}{A:Cw}{E:Mk->AP->Prop}{s:AP}{r l:Addr}{items:Array Mk}
def ahW {Q}(hh:A.handled=JI)(S:s.heap.IsRevIter r l ((items.size:Int)-1))(f:s.heap.IsList l items)(d:l≠r)(j:items.size<=HB)
  (n:∀h' tk  (J),s.heap.objs.size<h'.objs.size->(∀b o,b≠r->s.heap.get? b=Go o->h'.get? b=Go o)->ItemsOf (λi v=>items[items.size-1-i]?=Go v) J items.size->Q J.toList {s with heap:=h',toks:=tk}):Bb (Bg prog w) A (collect (.ref r)) Q E s:=by
 have h:l<s.heap.objs.size:=by obtain⟨_,e,_⟩:=f;exact Hh e
 refine Ac<|wpAny_runValue<|Rx F.entry_proto_collect ?_
 refine Ac<|Rf ?_
 refine Bj ⟨Ru F.plain_list_iadd _,Rx F.entry_list_iadd ?_⟩;rw[X5 F.plain_list_iadd _];have O:(s.heap.push {cls:=.type "list",data:=.seq ([]:List Mk).toArray}).get? s.heap.objs.size=Go {cls:=.type "list",data:=.seq #[] 0}:=Il _ rfl;refine ahw (A:=A) (R:=λ(r:Qi) s'=>match r with
  | .ok (.ret v)=>Bb (Bg prog w) A (match v with
   | .ref a=>do
    match(<-load a).data with
    | .seq xs _=>pure xs.toList
    | _=>unsupported "internal:collect"
   | _=>unsupported "internal:collect") Q E s'
  | .ok _=>False
  | .error e=>E e s') hh (S.at λo e=>HJ _ e) (f.at λo e=>HJ _ e) d _ (Nk (by obtain⟨_,e,_⟩:=S;exact Hh e)) (Nk h) _ _ O (λh' tk J p k Y U=>?_) j
 refine Ac<|wpAny_load Y ?_
 exact Bj<|n h' tk J (Hh Y) (λb o m e=>k b o (Ip<|Hh e) m<|HJ _ e) U
def zag {Q₁}(hh:A.handled=JI)(S:s.heap.IsRevIter r l ((items.size:Int)-1))(n:s.heap.IsList l items)(U:l≠r)(f:items.size<=HB)
  (h:∀(h':Heap) (tk) (O),s.heap.objs.size<h'.objs.size->(∀b o,b≠r->s.heap.get? b=Go o->h'.get? b=Go o)->ItemsOf (λi v=>items[items.size-1-i]?=Go v) O items.size->Q₁ (.ref h'.objs.size) {s with heap:=h'.push {cls:=.type "tuple",data:=.seq O},toks:=tk}) :
  PL (Bg prog w) A (.call (.builtin "tuple.__new__") ⟨[.type "tuple",.ref r],[]⟩) (wants Q₁ E) s:=by
 refine codeAny_of_tree ?_;refine Ac<|wpAny_of_eq (F.newCall_tuple_1 _)<|Bj ⟨Ru F.plain_tuple_new _,Rx F.entry_tuple_new ?_⟩
 rw[X5 F.plain_tuple_new _];have d:=sub_tuple_self;have Y:=init_tuple_lookup;have k:=madeHere_tuple;have c:=S.typeIs;have a:A.in1.handled=JI:=hh
 wp_walk using RJ c,ahW a S n U f
 intro h' tk acc j m J;show Bb _ _ (pH acc.toList.toArray >>= λv=>ret v) _ _ _;unfold pH;refine Ac<|Rf ?_ (by show acc.toList.toArray.size<=HB;simp only[Array.toArray_toList];rw[J.1];exact f)
 refine Bj ?_;have e:acc.toList.toArray=acc:=by simp
 rw[e];exact h h' tk acc j m J
def ahJ {Q}(hh:A.handled=JI)(a:s.heap.IsRevIter r l ((items.size:Int)-1))(j:s.heap.IsList l items)(Y:l≠r)(f:items.size<=HB)
  (h:∀(h':Heap) (tk) (S),s.heap.objs.size<h'.objs.size->(∀b o,b≠r->s.heap.get? b=Go o->h'.get? b=Go o)->ItemsOf (λi v=>items[items.size-1-i]?=Go v) S items.size->Q (.ref h'.objs.size) {s with heap:=h'.push {cls:=.type "tuple",data:=.seq S},toks:=tk}) :
  Bb (Bg prog w) A (call (.type "tuple") [.ref r]) Q E s:=by
 refine callType_codes (Q₁:=λobj J=>J.TypeIs obj "tuple"/\Q obj J) F.called_tuple (F.typeCall_tuple_1 _) F.entry_object_init
  (zag hh a j Y f λh' tk acc e g U=>⟨⟨_,Il _ rfl,rfl⟩,h h' tk acc e g U⟩) λobj J O=>?_
 exact⟨O.1,F.args_object_init_2 obj _,object_init_meets F.called_tuple.init.lookup F.called_tuple.made (by decide) prog w _ _ J ⟨O.1,rfl,O.2⟩⟩
end
section
variable {X:Cx}
abbrev vR (me:ME):ME:=fun σ h Q=>me σ h λx h1=>match dF h1 x with
 | some us=>Q (.tup us.reverse) h1
 | none=>False
def CV {me}{p p' pos pos'}(hc:X.calm=true)(hl:Gl X "tuple")(hlm:X.mg "tuple" = JI)(hr:Gl X "reversed")(hrm:X.mg "reversed" = JI)(he:DE X e1 me)
  (h1:autoParam (Ck [.Call (.Name "reversed" p') [e1] [] pos'] X.env=(false,eval (.Call (.Name "reversed" p') [e1] [] pos') X.env)::Ck [] X.env) aPq._auto_1) (hp1:autoParam ((JD pos (Ck [] X.env)).any (·.1)=false) aPq._auto_1)
  (h2:autoParam (Ck [e1] X.env=(false,eval e1 X.env)::Ck [] X.env) aPq._auto_1) (hp2:autoParam ((JD pos' (Ck [] X.env)).any (·.1)=false) aPq._auto_1) :
  DE X (.Call (.Name "tuple" p) [.Call (.Name "reversed" p') [e1] [] pos'] [] pos) (vR me):=by
 rintro anq s σ H Q I ⟨μ,g,σw,Qw,R,S,m,q⟩;refine YF<|rO I hl hlm R7 ?_ (by decide)<|by decide
 refine Zm ?_ h1 hp1;show Bb _ _ (spliced ((false,eval _ X.env)::JD pos (Ck [] X.env))) _ _ s;refine Calls.spliced_cons ?_;refine YF<|rO I hr hrm boot_reversed ?_ (by decide)<|by decide
 refine Zm ?_ h2 hp2;rw[h2];refine Calls.spliced_cons<|Hg (he anq s σ H _ I ⟨μ,g,σw,_,R,S,m,λv H1 z=>z⟩) λu s1 c=>?_;obtain⟨x,H1,I1,rx,μ1,wx,g1,x1,R1,r1,m1⟩:=c
 refine Calls.spliced_nil ?_;split at m1
 rename_i us ev;obtain⟨a,xs,ex,hs,rs⟩:=dh R1 r1 ev;subst ex;obtain rfl:u=Value.ref a:=rx;obtain⟨its,r,pl,hz⟩:=I1.list hs;have anr:=r.length;refine call_reversed_list pl.isList ?_;refine Calls.spliced_nil ?_;have la:a<s1.heap.objs.size:=by obtain⟨_,e,_⟩:=pl.isList;exact Hh e
 have gi:(s1.heap.push (revObj a ((its.toArray.size:Int)-1))).IsRevIter s1.heap.objs.size a ((its.toArray.size:Int)-1):=⟨_,Il _ rfl,rfl,rfl⟩
 refine ahJ (I1.ok.hd hc) gi (pl.isList.at λo e=>HJ _ e) (Ip la) (by rw[KH,<-anr];exact hz) λh' tk acc' hsz kp it=>?_;have ea:acc'.toList=its.reverse:=by
  refine List.ext_getElem? λj=>?_;by_cases hj:j<its.length
  have hj':j<acc'.toList.length:=by rw[Ze,it.1,KH];exact hj
  have h3:=it.2 j (acc'.toList[j]) (by rw[<-Array.getElem?_toList];exact Hw hj');rw[Hw hj',List.getElem?_reverse hj,<-h3,KH];simp;rw[List.getElem?_eq_none (by rw[Ze,it.1,KH];lia),List.getElem?_eq_none (by rw[List.length_reverse];lia)]
 have kp':∀b o,s1.heap.get? b=Go o->h'.get? b=Go o:=λb o eb=>kp b o (Ip (Hh eb)) (HJ _ eb)
 have hge:s1.heap.objs.size<=h'.objs.size:=by
  have:(s1.heap.push (revObj a ((its.toArray.size:Int)-1))).objs.size=s1.heap.objs.size+1:=RQ _ _
  rw[this]at hsz;lia
 have hf:H1 h'.objs.size=JI:=I1.hok.fresh hge;refine⟨.ref h'.objs.size,_,I1.laid (a:=h'.objs.size) (o:=.tup xs.reverse) (t':=tk) (λb o eb=>HJ _<|kp' b o eb) hge<|show fH X.prog X.w _ _ _ (.tup xs.reverse)from⟨by rw[List.length_reverse];exact hz,acc'.toList,by rw[ea];exact aiF r,by simpa using Om.new h' acc'⟩,rfl,?_⟩;exact q _ _ ⟨μ1,.tup us.reverse,g1,x1.trans (Ex.laid hf).ext,R1.laid hf,.tupNew hf<|GF rs,m1⟩;exact m1.elim
end
section
variable {P:Cq}{w:Cd}{A:Cw}{E:Mk->AP->Prop}{s:AP}
abbrev afX (_:Heap)(v:Mk)(k:List Int):Prop:=∃i t,v=.int i t/\k=[i]
def xM:XC afX:=⟨λ⟨_,_,e,k⟩ ⟨_,_,e',J⟩=>by subst e k J;cases e';rfl,λx _=>x⟩
def wD {h}:∀{ks:List Int}{vs},BL (ks.map V.int) vs↔RV afX h (ks.map ([·])) vs
 | [],_=>⟨λh=>by cases h;exact .nil,λh=>by cases h;exact .nil⟩
 | k::ks,_=>⟨λh=>by
   cases h with
   | cons r h=>
    obtain⟨t,e⟩:=r;exact .cons ⟨k,t,e,rfl⟩<|wD.mp h,λh=>by
   cases h with
   | cons r h=>
    obtain⟨_,t,e,J⟩:=r;cases J
    exact .cons ⟨t,e⟩ (wD.mpr h)⟩
def Vf {i j:Int}:[i] < [j]↔i<j:=by rw[X7];simp
def adg {ks:List Int}{vs}(v:BL (ks.map V.int) vs):SkT P w A xM oneType' (ks.map ([·])) vs:=by
 refine⟨λh2 _ q=>?_,λp E Q x y U S q=>?_⟩
 ·have kd:keyKind' vs.toArray=pure oneType':=by
   match vs,v,h2 with
   | b::a::vs,v,_=>exact keyKind_ints (intsAre_of v)
  exact wpAny_of_eq kd q
 obtain⟨k,Y,O⟩:=(keys_map xM p).2 x U;obtain⟨l,_,J⟩:=(keys_map xM p).2 y S;unfold WY at q;rw[nM xM O,nM xM J]at q;obtain⟨i,t,rfl,rfl⟩:=O;obtain⟨j,u,rfl,rfl⟩:=J;refine oneLt_int ?_;have e:decide _=decide (i<j):=decide_eq_decide.mpr Vf
 rwa[<-e,<-decide_eq_decide.mpr (qQ Y)]
end
section
variable {X:Cx}{K:Az}
abbrev Aj {J:Type}(kvs:List (Key×J))(ks:List Int):Prop:=kvs.map (·.1)=ks.map Sum.inl
def vY {ks:List Int}:∀{kvs:List (Key×V)}{vs:List (Key×Mk)}{ks:List Int},KV kvs vs->Aj kvs ks->vs.map (·.1)=ks.map Sum.inl
 | [],_,ks,.nil,e=>by
  assumption
 | x::kvs,_,ks,.cons r t,e=>by
  cases ks with
  | nil=>simp[Aj]at e
  | cons k ks=>
   unfold Aj at e;rw[Hz]at e;obtain⟨e1,e2⟩:=V1 e;rw[Hz,Hz,vY (ks:=ks) t e2,<-r.1,e1]
def sG:∀{es}{vs}{ks:List Int},PySem.Pairs (bV X.prog X.w) es vs->vs.map (·.1)=ks.map Sum.inl->BL (ks.map V.int) (es.map (·.key))/\es.length=vs.length
 | _,_,ks,.nil,e=>by
  have:ks=[]:=by cases ks with
   | nil=>rfl
   | cons a l=>simp at e
  subst this;exact⟨.nil,rfl⟩
 | _,_,ks,.cons h1 h2 t,e=>by
  cases ks with
  | nil=>simp at e
  | cons k ks=>
   rw[Hz]at e;obtain⟨e1,e2⟩:=V1 e;obtain⟨U,S⟩:=sG t e2;refine⟨.cons ?_ U,by rw[PN,PN,S]⟩;rcases cC h1 with⟨i,u,J,O⟩|⟨x,u,J,O⟩
   rw[e1]at J;injection J with J
   exact⟨u,J ▸ O⟩;simp_all
def vL {H μ}:∀{kvs kvv ks},j5 K H μ kvs kvv->Aj kvs ks->Aj kvv ks
 | [],_,ks,.nil,e=>e
 | x::kvs,_,ks,.cons r t,e=>by
  cases ks with
  | nil=>simp[Aj]at e
  | cons k ks=>
   unfold Aj at e|-
   rw[Hz]at e;obtain⟨e1,e2⟩:=V1 e;have:=vL t e2
   rw[Hz,Hz,this,<-r.1,e1]
abbrev Xd:ME:=λ_ h Q=>Q (.loc h.nx) (h.new (.dct []))
def abD {pos}:DE X (.Dict [] [] pos) Xd:=akM.of fun σ H Q a p J=>by
 obtain⟨μ,g,σw,U,R,S,m,q⟩:=a;have O:G3 _ _ (Cu H p (.dK [])) (g.new (.dct [])):=R.newCell J trivial ⟨[],aU,.nil⟩;exact q _ _ ⟨_,.loc _,_,(Ex.newCell R J).ext,O,⟨p,rfl,Mu.put_same⟩,m⟩
end
section
variable {X:Cx}{o:Expr}{mo:ME}{ma:MA}{apos ant:Pos}
abbrev JT:MM:=λx ws h Q=>match x,ws with
 | .loc n,[y,z]=>(match h.c n,Wz y with
  | some (.dct kvs),Go k=>Q ((pI kvs k).getD z) h
  | _,_=>False)
 | _,_=>False
abbrev Iw (h:Gh)(x:W)(P:Prop):Prop:=match x with
 | .loc n=>(match h.c n with
  | some (.dct _)=>P
  | _=>False)
 | _=>False
abbrev Z6 (r:MM)(mo:ME)(ma:MA):ME:=fun σ h Q=>mo σ h λx h1=>Iw h1 x (ma σ h1 λxs h2=>r x xs h2 Q)
def wG {K H μ}{k}:∀{kvs kvv},j5 K H μ kvs kvv->(∀w,pI kvs k=Go w->∃v,HS kvv k=Go v/\Bk K H μ w v)/\(pI kvs k=JI->HS kvv k=JI)
 | [],_,.nil=>⟨λw e=>by simp[pI]at e,λ_=>rfl⟩
 | x::kvs,y::_,.cons r t=>by
  obtain⟨O,J⟩:=wG t;unfold pI HS at *;rw[List.find?_cons,List.find?_cons];by_cases c:x.1=k
  simp_all
  have S:¬y.1=k:=λe=>c (r.1.trans e)
  rw[decide_eq_false c];simp only[S];exact⟨O,J⟩
def Ti (hu:X.A.units+30<Jz)(ho:DE X o mo)(ha:LR X [e1,e2] ma)
  (hbase:autoParam (W5 o "get" X.env (eval o X.env)=eval o X.env) aPq._auto_1)
  (hfew:autoParam (((JD ant (Ck [e1,e2] X.env)).all (λx=>!x.1)&&(Vy ant (Vz [] X.env)).all (λx=>x.1.isSome)
   && decide (([e1,e2]:List Expr).length+([]:List Od).length+(if([]:List Od).isEmpty then 0 else 1)<30))=true) aPq._auto_1)
  (hline:autoParam ((apos.endLine==ant.line)=true) aPq._auto_1) (hst:autoParam (Ck [e1,e2] X.env=(false,eval e1 X.env)::Ck [e2] X.env) aPq._auto_1) (hplain:autoParam ((JD ant (Ck [e2] X.env)).any (·.1)=false) aPq._auto_1) :
  DE X (.Call (.Attribute o "get" apos) [e1,e2] [] ant) (Z6 JT mo ma):=by
 rintro anq s σ H Q I ⟨μ,h,σw,Qw,R,S,m,k⟩;refine mH hbase hfew hline rfl<|Hg (ho anq s σ H _ I ⟨μ,h,σw,_,R,S,m,λ_ _ z=>z⟩) λu s1 c=>?_;obtain⟨x,H1,I1,rx,μ1,wx,h1,e1',R1,r1,il⟩:=c
 unfold Iw at il;split at il
 ·split at il
  ·rename_i kv0 ec0;have r0:=r1;obtain⟨a,rfl,ha'⟩:=r1;obtain rfl:u=Value.ref a:=rx;obtain⟨p,kvv,hp,hx,_⟩:=R1.dctAt ec0;have ep:p=a:=by rw[ha']at hp;exact(IV hp).symm
   subst ep;obtain⟨z,y,vs0,aeK,dd0⟩:=zq I1.hok hx;obtain⟨ob,es,epo,g1,g2,_⟩:=id dd0;refine⟨"dict", "dict.get",PySem.F.plainAttrs_dict,nU,PySem.F.type_dict_get,⟨ob,g1,g2.1⟩,λb e=>by cases e;exact⟨ob,g1,g2.2.1⟩,?_⟩;have hA:=ha ant anq s1 σ H1 _ I1 ⟨μ1,h1,σw,_,R1,S.ext e1',il,λ_ _ z=>z⟩;rw[hst]at hA|-
   refine p8 (by show(false||(JD ant<|Ck [e2] X.env).any (·.1))=false;rw[hplain]<;>rfl)<|Zj ?_
   refine Hg hA λus s2 d=>?_;obtain⟨ys,H2,I2,r2,μ2,ws,h2,e2',R2,rs,m2⟩:=d;unfold JT at m2;split at m2
   ·rename_i n' y' z' e3;cases e3;split at m2
    ·rename_i kvs kk ec ek;obtain⟨v1,v2,rfl,ry,rz⟩:=Ba rs;have ev1:=jR ry ek;subst ev1;obtain⟨u1,u2,rfl,ru1,ru2⟩:=vals2 r2;obtain⟨p2,kvv2,hp2,hx2,rf2⟩:=R2.dctAt ec;have r0':=e2'.r _ _ r0;rw[Bk]at r0';obtain⟨a2,ea,ha2⟩:=r0';cases ea;have ep2:p2=p:=by rw[ha2]at hp2;exact(IV hp2).symm
     subst ep2;obtain⟨z2,hd2,vs2,rel2,dd⟩:=zq I2.hok hx2;obtain⟨t1,t2⟩:=wG (k:=kk) rf2;refine call_meetsIn nU dd.typeIs PySem.F.entry_dict_get (PySem.F.args_dict_get_3 _ _ _) (meets_dict_get_default (bV X.prog X.w) p2 (Cy ru1) hd2 u2) ⟨_,dd.mapOf,?_⟩;have hv:=(rel2.val kk).getD ru2;cases ev:pI kvs kk with
     | some wv=>
      rw[ev]at m2;obtain⟨v,a1,a3⟩:=t1 wv ev;rw[a1]at hv;exact⟨v,H2,I2.tok _,hv,k _ _ ⟨μ2,wv,h2,e1'.trans e2',R2,a3,m2⟩⟩
     | none=>
      rw[ev]at m2;rw[t2 ev]at hv;exact⟨v2,H2,I2.tok _,hv,k _ _ ⟨μ2,z',h2,e1'.trans e2',R2,rz,m2⟩⟩
    exact m2.elim
   exact m2.elim
  exact il.elim
 exact il.elim
end
section
variable {prog:Cq}{w:Cd}{A:Cw}{R:Qi->AP->Prop}{E:Mk->AP->Prop}{ns:List Int}{its:List Mk}
end
section
variable {X:Cx}
end
section
variable {X:Cx}{a b o i:Expr}{mb:ME}{td ty:TE}{pos:Pos}
def fK.or {f}{m1 m2}(h1:fK X f m1)(h2:fK X f m2):fK X f (λws h Q=>m1 ws h Q\/m2 ws h Q):=by
 obtain⟨a,U,O⟩:=h1;obtain⟨Y,S,J⟩:=h2;refine⟨_,fj.or U S,?_⟩;intro H μ h vs ws b Q R r m k;rcases m with m|m
 exact .inl<|O R r m k
 exact .inr<|J R r m k
abbrev Zc:M2:=λx y h Q=>abg x y h Q\/U0 x y h Q
def ama (C:X.A.units+30<Jz)(n:PE X o td)(hi:PE X i ty)(hs:ab1 i):PE X (.Subscript o i pos) (fun σ H Q=>td σ H λx H1=>ty σ H1 λy H2=>(∃a xs k b p v,x=.ref a/\H2 a=Go (.ext (Ji a xs))/\Kq X.K H2 xs/\y=.ref b/\IW X.K H2 b (k.map V.int)/\atKey xs k=Go p/\RelV v p.2/\Q v H2)\/∃a kvs k v,x=.ref a/\Rd H2 a (.dK kvs)/\y=kV k/\HS kvs k=Go v/\Q v H2):=by
 intro anq s σ H Q I h;refine Oj PySem.F.slot_dict_getitem.lookup hs<|Hg (n anq s σ H _ I h) λu f ⟨x,H1,w,d,j⟩=>Hg (hi anq f σ H1 _ w j) λiv B D=>?_;obtain⟨y,H2,O,c,J⟩:=D
 rcases J with⟨a,xs,k,b,p,v,ex,e,q,Y,t,l,g,J⟩|⟨a,kvs,k,v,ex,e,Y,l,J⟩
 subst ex Y;obtain rfl:u=Value.ref a:=d;obtain rfl:iv=Value.ref b:=c;obtain⟨z,r,dd⟩:=Ca O e q;exact⟨dd.typeIs,wpAny_getItem_heap (tupleKind_room_in1<|by omega) (zW O t) dd l ⟨v,H2,O.tok _,g,J⟩⟩;subst ex Y;obtain rfl:u=Value.ref a:=d;obtain⟨z,r,vs,U,dd⟩:=ZP O.hok e;obtain⟨A,m,S⟩:=Pu.some_of (l ▸ U.val k);exact⟨dd.typeIs,wpAny_getItem_of (Cy c) dd.mapOf m ⟨v,H2,O.tok _,S,J⟩⟩
def adn (r:X.A.units+30<Jz)(t:DE X a ma)(s:DE X b mb)(hs:ab1 b):DE X (.Subscript a b pos) (Ah Zc ma mb):=(ama r t s hs).of fun σ H Q h=>two h λ{H2 μ2 h2 x y E D F} R g f m k=>by
 rcases m with m|m
 unfold abg at m;split at m
 rename_i n O e;split at m
 rename_i kvs d;split at m
 rename_i w c;obtain⟨p,xs,vs,U,S,e1,e2,o,l⟩:=R.dttAt d;obtain⟨p',ex,J⟩:=g;obtain rfl:=by rw[U]at J;exact(IV J).symm
 obtain⟨C,B,Y⟩:=pN f e;obtain⟨q,v,A,z,u⟩:=(wF e1 e2 l O).1 w c;exact .inl ⟨p',xs,O,C,q,v,ex,S,jO e1 o,B,Y,A,z,k _ _ ⟨μ2,w,h2,.refl,R,u,m⟩⟩;cases m;cases m;cases m;unfold U0 at m;split at m
 rename_i n O e;split at m
 rename_i kvs d;split at m
 rename_i w c;obtain⟨p,kvv,U,S,j⟩:=R.dctAt d;obtain⟨p',e1,J⟩:=g;obtain rfl:=by rw[U]at J;exact(IV J).symm
 obtain⟨v,e2,i⟩:=j.val c;exact .inr ⟨p',kvv,O,v,e1,.inl S,jR f e,e2,k _ _ ⟨μ2,w,h2,.refl,R,i,m⟩⟩;cases m;cases m;cases m
end
section
variable {P:Cq}{w:Cd}{A:Cw}{E:Mk->AP->Prop}{s:AP}
end
section
variable {X:Cx}
end
abbrev Fk (P:Cq)(w:Cd)(K:Az)(mg:Str->Option Mk)(base:Heap)(k:Nat)(x:Str)(ms:Aq):Prop:=∃f fd ps,lJ P w K mg base O8 k f fd ps (lift K ms)/\mg x=Go (.ref f)/\RB K (.ref f)=true/\Binds K fd ps []
abbrev At (K:Az)(mg:Str->Option Mk)(x:Str)(st:Stmt)(ps:List Str):Prop:=∃f fd,Ss K x x st f fd/\mg x=Go (.ref f)/\Binds K fd ps []
section
variable {X:Cx}{e e3 e4:Expr}{es:List Expr}{mb mc md:ME}{pos:Pos}{k:Nat}{zl:List Str}{x:Str}{p:Pos}
def vV (i)(hN:autoParam (X.N[i]?=Go x) aPq._auto_3)(hv:Vis X.env.scope x:=by with_unfolding_all first|exact Or.inl rfl|exact Or.inr (Or.inl rfl)|exact Or.inr (Or.inr rfl))(hd:autoParam ((x==("__debug__" : Str))=false) aPq._auto_2)(hcd:autoParam ((x==("__classdict__" : Str))=false) aPq._auto_2):DE X (.Name x pos) (aA i):=dv i (pv i hN hv hd hcd)
def aC (h1:DE X e ma)(h2:LR X es mr)(s:autoParam (Hi e=false) aPq._auto_3):LR X (e::es) (aj ma mr):=fL h1 h2 (aO s)
def a1 (h1:DE X e ma)(s:autoParam (Hi e=false) aPq._auto_3):LR X [e] (aj ma aG):=aC h1 cX s
def a2 (h1:DE X e ma)(h2:DE X e2 mb)(s1:autoParam (Hi e=false) aPq._auto_3)(s2:autoParam (Hi e2=false) aPq._auto_3):LR X [e,e2] (aj ma (aj mb aG)):=aC h1 (a1 h2 s2) s1
def a3 (h1:DE X e ma)(h2:DE X e2 mb)(h3:DE X e3 mc)(s1:autoParam (Hi e=false) aPq._auto_3)(s2:autoParam (Hi e2=false) aPq._auto_3)(s3:autoParam (Hi e3=false) aPq._auto_3):LR X [e,e2,e3] (aj ma (aj mb (aj mc aG))):=aC h1 (a2 h2 h3 s2 s3) s1
def Bq {j}(F:Fk X.prog X.w X.K X.mg X.base j x ms)(ha:LR X (e::es) mr)(hr:autoParam (jj k X.A) aPq._auto_5)(hk:autoParam (j<=k) aPq._auto_2)(hg:autoParam (Gl X x) aPq._auto_3)(hdb:autoParam ((x==("__debug__" : Str))=false) aPq._auto_2)(h1:autoParam (Hi e=false) aPq._auto_3)(h2:autoParam (noStar es=true) aPq._auto_3):
  DE X (.Call (.Name x p) (e::es) [] pos) (aJ ms EF mr):=by
 obtain⟨f,fd,ps,a,b,c,d⟩:=F;exact ab0 (a.mono hk) hr hg b c d ha hdb (aO h1)<|bO h2
def Iu {id mc}(hc:fK X (.builtin id) mc)(hv:W4 x=Go (.builtin id))(ha:LR X (e::es) mr)(z:autoParam (∀n∈zl,X.mg n=JI) aPq._auto_5)(hz:autoParam (x∈zl) aPq._auto_2)(hg:autoParam (Gl X x) aPq._auto_3)(hn:autoParam (x ≠ "__name__") aPq._auto_2)(hdb:autoParam ((x==("__debug__" : Str))=false) aPq._auto_2)
  (h1:autoParam (Hi e=false) aPq._auto_3) (h2:autoParam (noStar es=true) aPq._auto_3):DE X (.Call (.Name x p) (e::es) [] pos) (HN mc mr):=akt hc hg (z _ hz) hv ha hn hdb (aO h1) (bO h2)
def dct {T mc}(hc:fK X (.type T) mc)(hv:W4 x=Go (.type T))(ha:LR X (e::es) mr)(z:autoParam (∀n∈zl,X.mg n=JI) aPq._auto_5)(hz:autoParam (x∈zl) aPq._auto_2)(hg:autoParam (Gl X x) aPq._auto_3)(hn:autoParam (x ≠ "__name__") aPq._auto_2)(hdb:autoParam ((x==("__debug__" : Str))=false) aPq._auto_2)
  (h1:autoParam (Hi e=false) aPq._auto_3) (h2:autoParam (noStar es=true) aPq._auto_3):DE X (.Call (.Name x p) (e::es) [] pos) (HN mc mr):=Gu hc hg (z _ hz) hv ha hn hdb (aO h1) (bO h2)
def G7 (i){pos'}(he:DE X e ma)(hN:autoParam (X.N.Nodup) aPq._auto_5)(hi:autoParam (X.N[i]?=Go x) aPq._auto_3)(hx:Loc X.env.scope x:=by with_unfolding_all first|exact Or.inl rfl|exact Or.inr rfl)(hs:autoParam (Wg e (Go (.Name x pos')) pos.line X.env=pure false) aPq._auto_3)
  (hf:X.fn x=true\/X.env.scope.names.lookup x=Go .local:=by with_unfolding_all first|exact .inl rfl|exact .inr rfl):DS X (.Assign [.Name x pos'] e pos) (bL ma (kI i)):=aaW hN hi hx he hs hf
def OD (i)(hN:autoParam (X.N.Nodup) aPq._auto_5)(hi:autoParam (X.N[i]?=Go x) aPq._auto_3)(hx:Loc X.env.scope x:=by with_unfolding_all first|exact Or.inl rfl|exact Or.inr rfl)(hf:X.fn x=true\/X.env.scope.names.lookup x=Go .local:=by with_unfolding_all first|exact .inl rfl|exact .inr rfl):DG X (.Name x pos) (kI i):=ajo (wX hN hi hx hf)
def Bp {a b:Expr}(ha:DE X a ma)(hb:DE X b mb)(hs:BP b:=by with_unfolding_all (intro _ _;rfl)):DE X (.Subscript a b pos) (Ah Bh ma mb):=agq ha hb hs
def Io {a b op m2}(ho:O7 X (N8 op) m2)(ha:DE X a ma)(hb:DE X b mb)(hm:XR op b=false:=by with_unfolding_all first|exact Vg _|rfl):DT X (.Compare a [op] [b] pos) (bQ (Ah m2 ma mb)):=aaS ho ha hb hm
def Tc {a b op m2}(ho:O7 X (N8 op) m2)(ha:DE X a ma)(hb:DE X b mb)(hm:XR op b=false:=by with_unfolding_all first|exact Vg _|rfl):DE X (.Compare a [op] [b] pos) (Ah m2 ma mb):=aee ho ha hb hm
def dl1 {scope iter}(ix)(hi:VL X (.Name x p) iter mi)(ht:∀C s H fp,aaL (blk X scope (jH X [x] ix) C s H fp) ifs tt)(he:∀C s H fp,DE (blk X scope (jH X [x] ix) C s H fp) elt te)(B:jz X scope [x] ix:=by with_unfolding_all exact cD rfl)(hc:autoParam (X.calm=true) aPq._auto_5)
  (hs:∀v,Wt iter X.env v=pure v:=by with_unfolding_all (intro _;rfl)):DE X (.ListComp elt [⟨.Name x p,iter,ifs,0⟩] scope pos) (Ht JL ix mi tt te):=S9 ix hc B G8 (G6 B) hi ht he hs
def Qu {scope iter}(ix)(hi:VL X (.Name x p) iter mi)(he:∀C s H fp,DE (blk X scope (jH X [x] ix) C s H fp) elt te)(B:jz X scope [x] ix:=by with_unfolding_all exact cD rfl)(hc:autoParam (X.calm=true) aPq._auto_5)
  (hs:∀v,Wt iter X.env v=pure v:=by with_unfolding_all (intro _;rfl)):DE X (.ListComp elt [⟨.Name x p,iter,[],0⟩] scope pos) (Ht JL ix mi jx te):=dl1 ix hi (λ_ _ _ _=>fJ) he B hc hs
def qq (hr:autoParam (jj k X.A) aPq._auto_5):X.A.units+30<Jz:=agm hr
def hh (hc:autoParam (X.calm=true) aPq._auto_5):X.calm=true:=hc
def TK {a}{tg}(ha:LR X [a] mr)(z:autoParam (∀n∈zl,X.mg n=JI) aPq._auto_5)(hz:autoParam (("range" : Str)∈zl) aPq._auto_2)(hg:autoParam (Gl X "range") aPq._auto_3)(hs:autoParam (Hi a=false) aPq._auto_3):VL X tg (.Call (.Name "range" p) [a] [] pos) (iy mr):=zaN hg (z _ hz) ha (Vh hs)
end
def fk {P w K}{mg base x}{st}{ps zl:List Str}(N){k}{pure}{body}(T:At K mg x st ps)(z:∀n∈zl,mg n=JI)
  (hb:∀f cdv A  (outer) (s) (H) (E),jj k (A.deeper (RD x (bw st) s.heap.objs.size f cdv))->N.Nodup->(Jg O8 P w K mg base N x (bw st) f cdv A outer s H E).nox.calm=true->(∀n∈zl,mg n=JI)->Sx (Jg O8 P w K mg base N x (bw st) f cdv A outer s H E).nox (eX st) (body EF))
  (S:g8 N ps (bw st):=by exact⟨rfl,rfl,rfl,by decide +kernel,rfl,by decide +kernel,by decide +kernel⟩) (hk:autoParam (9<=k) aPq._auto_2):Fk P w K mg base (k+1) x (Hj ps.length N.length pure body):=by
 obtain⟨f,fd,F,m,b⟩:=T;exact⟨f,fd,ps,afV F S λcdv A outer s H E hr=>hb f cdv A outer s H E hr S.nd (hr.calm hk) z,m,F.kp,b⟩
section
variable {X:Cx}{e:Expr}
abbrev Zo (m:ME):MT:=fun σ h Q=>m σ h λw h1=>match w with
 | .loc n=>(match h1.c n with
  | some (.dct kvs)=>Q (!kvs.isEmpty) h1
  | _=>False)
 | _=>False
def zbD {K H}{kvs}(r:j5 K H μ kvs kvv):kvs.isEmpty=kvv.isEmpty:=by
 cases r<;>rfl
def zbW (he:DE X e ma)(h:autoParam (∀whole,isTrue e X.env whole=(do let v <-whole;standAt e.pos;Te [v] (truthy v))) aPq._auto_4):DT X e (Zo ma):=(DR he h).of fun σ H Q b=>by
 obtain⟨μ,g,σw,Qw,R,S,m,q⟩:=b;refine⟨μ,g,σw,_,R,S,m,λv H1 a=>?_⟩;obtain⟨μ1,w,h1,e1,R1,r1,m1⟩:=a;split at m1
 split at m1
 rename_i kvs ec;obtain⟨p,ev,hm⟩:=r1;subst ev;obtain⟨p',kvv,hm',hx,rf⟩:=R1.dctAt ec;cases by rw[hm]at hm';exact(IV hm').symm
 exact⟨_,.inr<|.inr ⟨kvv,hx,by rw[zbD rf]⟩,q _ _ ⟨μ1,h1,e1,R1,m1⟩⟩;cases m1;cases m1
end
abbrev aae (kvs:List (Key×W))(k:Key):List (Key×W):=kvs.filter λkv=>decide (kv.1≠k)
def Gv {K H μ}{k}:∀{kvs kvv},j5 K H μ kvs kvv->j5 K H μ (aae kvs k) (Av kvv k)
 | [],_,.nil=>.nil
 | x::kvs,y::_,.cons r t=>by
  have i:=Gv (k:=k) t;unfold aae Av at *;rw[SN,SN,r.1];split
  exact .cons r i;exact i
section
variable {X:Cx}{o:Expr}{mo:ME}{ma:MA}{apos ant:Pos}
abbrev PX:MM:=λx ws h Q=>match x,ws with
 | .loc n,[y]=>(match h.c n,Wz y with
  | some (.dct kvs),Go k=>(match pI kvs k with
   | some v=>Q v (h.set n (.dct (aae kvs k)))
   | none=>False)
  | _,_=>False)
 | _,_=>False
def aaB (ho:DE X o mo)(ha:LR X [e1] ma)
  (hbase:autoParam (W5 o "pop" X.env (eval o X.env)=eval o X.env) aPq._auto_1)
  (hfew:autoParam (((JD ant (Ck [e1] X.env)).all (λx=>!x.1)&&(Vy ant (Vz [] X.env)).all (λx=>x.1.isSome)
   && decide (([e1]:List Expr).length+([]:List Od).length+(if([]:List Od).isEmpty then 0 else 1)<30))=true) aPq._auto_1)
  (hline:autoParam ((apos.endLine==ant.line)=true) aPq._auto_1) (hst:autoParam (Ck [e1] X.env=(false,eval e1 X.env)::Ck [] X.env) aPq._auto_1) (hplain:autoParam ((JD ant (Ck [] X.env)).any (·.1)=false) aPq._auto_1) :
  DE X (.Call (.Attribute o "pop" apos) [e1] [] ant) (Z6 PX mo ma):=by
 rintro anq s σ H Q I ⟨μ,h,σw,Qw,R,S,m,k⟩;refine mH hbase hfew hline rfl<|Hg (ho anq s σ H _ I ⟨μ,h,σw,_,R,S,m,λ_ _ z=>z⟩) λu s1 d=>?_;obtain⟨x,H1,I1,rx,μ1,wx,h1,e1',R1,r1,il⟩:=d
 unfold Iw at il;split at il
 split at il
 rename_i kv0 ec0;have r0:=r1;obtain⟨a,rfl,ha'⟩:=r1;obtain rfl:u=Value.ref a:=rx;obtain⟨p,kvv,hp,hx,_⟩:=R1.dctAt ec0;have ep:p=a:=by rw[ha']at hp;exact(IV hp).symm
 subst ep;obtain⟨z,y,vs0,aeK,dd0⟩:=zq I1.hok hx;obtain⟨ob,es,epo,g1,g2,_⟩:=id dd0;refine⟨"dict", "dict.pop",PySem.F.plainAttrs_dict,PySem.F.slot_dict_pop,PySem.F.type_dict_pop,⟨ob,g1,g2.1⟩,λb e=>by cases e;exact⟨ob,g1,g2.2.1⟩,?_⟩;have hA:=ha ant anq s1 σ H1 _ I1 ⟨μ1,h1,σw,_,R1,S.ext e1',il,λ_ _ z=>z⟩;rw[hst]at hA|-
 refine p8 (by show(false||(JD ant<|Ck [] X.env).any (·.1))=false;rw[hplain]<;>rfl)<|Zj ?_
 refine Hg hA λus s2 f=>?_;obtain⟨ys,H2,I2,r2,μ2,ws,h2,e2',R2,rs,m2⟩:=f;unfold PX at m2;split at m2
 rename_i n' y' e3;cases e3;split at m2
 rename_i kvs kk ec ek;split at m2
 rename_i wv ev;obtain⟨v1,rfl,ry⟩:=gH rs;have ev1:=jR ry ek;subst ev1;obtain⟨u1,rfl,ru1⟩:=vals1 r2;obtain⟨p2,kvv2,hp2,hx2,rf2⟩:=R2.dctAt ec;have r0':=e2'.r _ _ r0;obtain⟨a2,ea,ha2⟩:=r0';cases ea;have ep2:p2=p:=by rw[ha2]at hp2;exact(IV hp2).symm
 subst ep2;obtain⟨v,a1,a3⟩:=(wG (k:=kk) rf2).1 wv ev;have xt:=(Ex.write (o:=.dK (Av kvv2 kk)) R2 hp2).ext;refine acU (more:=[]) I2 hx2 ru1 a1 (.inl rfl) λw' s' I3 rw'=>⟨v,_,I3,rw',k _ _ ⟨μ2,wv,_,(e1'.trans e2').trans xt,R2.write (c:=.dct (aae kvs kk)) hp2 trivial ⟨_,aU,?_⟩,xt.r _ _ a3,m2⟩⟩;exact Gv<|Paired.mapP rf2 λ_ _ z=>⟨z.1,xt.r _ _ z.2⟩
 exact m2.elim;exact m2.elim;exact m2.elim;exact il.elim;exact il.elim
end
section
variable {X:Cx}
def ahR (C:X.calm=true):fj X (.builtin "max") (λvs H Q=>∃a kvs ks,vs=[.ref a]/\H a=Go (.dK kvs)/\Aj kvs ks/\0<ks.length/\∀M,M∈ks->(∀a,a∈ks->a<=M)->Q (.int M) H):=by
 rintro anq s σ H vs us Q I r ⟨a,kvs,ks,K,n,hi,p,q⟩;subst K;obtain⟨u,rfl,g⟩:=vals1 r;cases g;obtain⟨z,y,vs,O,dd⟩:=zq I.hok n;have m:=vY (ks:=ks) O hi;obtain⟨o,es,ep,d,G,F,_,E,P⟩:=dd;obtain⟨Y,p2⟩:=sG (X:=X) E m;have x:CK s.heap a es ep:=⟨o,d,G,F⟩
 have c:=Hh d;have le:=by have:=Y.length;simpa using this
 have J:∀i v,(∃h:i<es.size,v=es[i].key)->∃t,v=.int (ks.getD i 0) t:=λi v N=>by
  obtain⟨h,e⟩:=N;obtain⟨u,f,t,L⟩:=Y.get (i:=i) (x:=.int (ks.getD i 0)) (by rw[Hf,KD,Hw (by lia)];rfl);rw[Hf,Hw (by simpa using h)]at f;refine⟨t,?_⟩;rw[e,<-L]
  simpa using f
 refine call_max_walk<|Ga y x ?_
 refine⟨_,_,_,_,_,_,_,rfl,yg (A:=X.A.in1) (I.ok.hd C) _ a (Ip c) es ep,⟨⟨_,Il _ rfl,rfl,rfl⟩,x.of λo e=>HJ _ e⟩,λb U=>?_,by lia,CmpOf.ints_gt _ J,λv h' tk D w=>?_⟩;rw[RQ];rcases Kz.mp U with rfl|U
 exact Nat.lt_succ_self _;rw[QW.mp U];exact Nat.lt_succ_of_lt c;obtain⟨h1,h2⟩:=argBest_gt (λi=>ks.getD i 0) (es.size-1);obtain⟨t,rfl⟩:=J _ _ D;refine⟨.int _,H,I.kept (h':=h') (t':=tk)<|λb k e=>w b k (by rw[QW];exact Ip (Hh e))<|HJ _ e,⟨t,rfl⟩,q _ ?_ λb S=>?_⟩;rw[KD,Hw (by lia)];exact QV _;obtain⟨j,B,e⟩:=Y4.mp S;have:=h2 j (by lia)
 rw[KD (l:=ks) (i:=j),Hw B]at this;rw[<-e];exact this
abbrev Rh:MC:=λws h Q=>match ws with
 | [.loc n]=>(match h.c n with
  | some (.dct kvs)=>∃ks:List Int,Aj kvs ks/\0<ks.length/\∀M,M∈ks->(∀a,a∈ks->a<=M)->Q (.int M) h
  | _=>False)
 | _=>False
def adh (a:X.calm=true):fK X (.builtin "max") Rh:=⟨_,ahR a,by
 intro H μ h vs ws c Q R r m k;unfold Rh at m;split at m
 split at m
 rename_i kvs b;obtain⟨p,kvv,Y,U,O⟩:=R.dctAt b;obtain⟨v,rfl,S⟩:=gH r;obtain⟨p',rfl,J⟩:=S;obtain rfl:=by rw[Y]at J;exact(IV J).symm
 obtain⟨ks,m1,m2,m3⟩:=m;exact⟨p',kvv,ks,rfl,U,vL O m1,m2,λM h1 h2=>k _ _<|.int R<|m3 M h1 h2⟩;cases m;cases m⟩
end
section
variable {prog:Cq}{w:Cd}{A:Cw}{E:Mk->AP->Prop}{s:AP}
def uN {h h':Heap}{xs}(x:h.DictOf (bV prog w) d xs)(J:∀o,h.get? d=Go o->h'.get? d=Go o):h'.DictOf (bV prog w) d xs:=by
 obtain⟨o,es,ep,e1,r⟩:=x;exact⟨o,es,ep,J o e1,r⟩
def zak (vs rs:List (Key×Mk))(p:Key×Mk):RG vs (rs++[p])=stored (RG vs rs) p.1 p.2:=by
 unfold RG;simp_all
def aiq (vs)(k:Key)(v):(stored vs k v).length<=vs.length+1:=by
 unfold stored;grind
def uI:∀(rs vs:List (Key×Mk)),(RG vs rs).length<=vs.length+rs.length
 | [],vs=>by simp[RG]
 | r::rs,vs=>by
  have:=uI rs (stored vs r.1 r.2)
  have:=aiq vs r.1 r.2
  show(RG _ rs).length<=_;grind
def ahe {R}{items:Array Mk}{fp}{St}(W:Walks prog w A.in1 I fp [I] items.size (λi v=>items[i]?=Go v) St)(f:d∉fp)(h0)(C:h0.get? d=JI)(h:h0.get? I=JI)
  {ps}(G:items.size=ps.length) (V:∀(j:Nat) (p),ps[j]?=Go p->∃q x,items[j]?=Go (.ref q)/\IsTup h0 q #[x,p.2]/\(bV prog w).is p.1 x=true) (hz:ps.length<=HB) :
  ∀k j s  (t),ps.length-j=k->j<=ps.length->St j s.heap->s.heap.DictOf (bV prog w) d (RG [] (ps.take j))->(∀b o,h0.get? b=Go o->s.heap.get? b=Go o) ->
  (∀h' tk,h'.DictOf (bV prog w) d (RG [] ps)->(∀b o,h0.get? b=Go o->h'.get? b=Go o)->R (.ok (.ret .none)) {s with heap:=h',toks:=tk}) ->
  PL (Bg prog w) A (.builtin "dict.update.loop" ⟨[.ref d,.ref I,.int (j) t,.none],[]⟩) R s:=by
 have L:d≠I:=λe=>f (W.sub d (by rw[e];simp))
 intro k;induction k with
 | zero=>
  intro j s t B X st l a E;have n:j=ps.length:=by lia
  refine Rx mQ ?_;rw[X5 dO _];refine Ac<|W.done s _ _ (by rw[G,<-n];exact st) λh' tk O=>?_
  have m:∀b o,h0.get? b=Go o->h'.get? b=Go o:=λb o e=>O b o (by intro z;rw[QW.mp z,h]at e;cases e) (a b o e)
  have U:h'.DictOf (bV prog w) d (RG [] ps):=by
   rw[n,J8]at l;exact uN l λo e=>O d o (by simpa using L) e
  exact Ac<|Bj<|Bj<|E h' tk U m
 | succ k N=>
  intro j s t B X st l a E;have Y:j<ps.length:=by lia
  have ep:ps[j]?=Go ps[j]:=Hw Y;generalize ps[j]=p at ep;obtain⟨q,x,eq,Q,c⟩:=V j p ep;refine Rx mQ ?_;rw[X5 dO _];refine Ac<|W.item j s _ _ (by rw[G];exact Y) st λv h' tk K u O=>?_
  have Z:v=.ref q:=by rw[eq]at K;exact(IV K).symm
  subst Z;have m:∀b o,h0.get? b=Go o->h'.get? b=Go o:=λb o e=>O b o (by intro z;rw[QW.mp z,h]at e;cases e) (a b o e)
  have U:h'.DictOf (bV prog w) d (RG [] (ps.take j)):=uN l λo e=>O d o (by simpa using L) e
  obtain⟨M,F,cq,nq,dq⟩:=Q;have S:=m _ _ F;refine Ac<|Ly<|Ac<|wpAny_tryCatch ?_
  unfold Builtin.Dict.pairItems;refine Ac<|RJ (T := "tuple") ⟨M,S,cq⟩ ?_
  rw[if_pos (by decide)];refine Ac<|W6 S dq<|Bj ?_
  show Bb _ _ (Te [_,_] (dictSet d _ _)) _ _ _;refine Ly<|wpAny_dictSet_pairs (hsz:=HW (uI _ _) (by rw[Ou,List.length_nil];lia)) c U λh2 g y=>?_
  have et:stored (RG [] (ps.take j)) p.1 p.2=RG [] (ps.take (j+1)):=by
   have e1:ps.take (j+1)=ps.take j++[p]:=by rw[Ik,ep];rfl
   rw[e1];exact(zak _ _ _).symm
  rw[et]at g;have J:∀b o,b≠d->h'.get? b=Go o->h2.get? b=Go o:=λb o D e=>y.extBut b o D e
  refine Bj ⟨Ru dO _,?_⟩;have n:((j:Int)+1)=((j+1:Nat):Int):=by lia
  show PL _ _ (.builtin "dict.update.loop" ⟨[.ref d,.ref I,.int ((j:Int)+1) 0,.none],[]⟩) _ _;rw[n];refine N (j+1) _ 0 (by lia) Y (W.frame _ _ _ u λb D o e=>J b o (λz=>f<|z ▸ D) e) g (λb o e=>J b o (λz=>by rw[z,C]at e;cases e)<|m b o e) λh3 r d3 m3=>E h3 r d3 m3
def akC {T}{items Q}(hh:A.handled=JI)(M:A.units+30<Jz)
  (src:∃o n,s.heap.get? T=Go o/\o.cls=.type "list"/\o.data=.seq items n/\o.dict=JI)
  {ps}(D:items.size=ps.length) (H:∀(j:Nat) (p),ps[j]?=Go p->∃q y,items[j]?=Go (.ref q)/\IsTup s.heap q #[y,p.2]/\(bV prog w).is p.1 y=true) (hz:ps.length<=HB)
  (h:∀h' tk,h'.DictOf (bV prog w) s.heap.objs.size (RG [] ps)->(∀b o,s.heap.get? b=Go o->h'.get? b=Go o)->Q (.ref s.heap.objs.size) {s with heap:=h',toks:=tk}) :
  Bb (Bg prog w) A (call (.type "dict") [.ref T]) Q E s:=by
 have g:A.in1.in1.handled=JI:=hh;have C:A.in1.in1.units<Jz:=by
  have:A.in1.in1.units=A.units+1+1:=rfl
  lia
 have u:T<s.heap.objs.size:=by
  obtain⟨o,_,e,_⟩:=src;exact Hh e
 refine callType_codes (Q₁:=λobj Y=>obj=.ref s.heap.objs.size/\Y={s with heap:=s.heap.push {cls:=.type "dict",data:=.dict #[]} }) F.kt_called_dict (F.kt_typeCall_dict_1 _) F.entry_dict_init (kt_code_dict_new _ ⟨rfl,rfl⟩) ?_;rintro obj Y ⟨rfl,rfl⟩;have k:({s with heap:=s.heap.push {cls:=.type "dict",data:=.dict #[]} }:AP).TypeIs (.ref s.heap.objs.size) "dict":=⟨_,Il _ rfl,rfl⟩
 refine⟨k,F.args_dict_init_2 _ _,?_⟩;unfold Wy.«dict.__init__»;refine Ac ?_;unfold Builtin.Dict.selfAndRest;refine Ac<|wpAny_notOrdered_dict k ?_
 show Bb _ _ (pure (s.heap.objs.size,[Value.ref T])) _ _ _;refine Bj ?_;show Bb _ _ (tB "dict.__init__" s.heap.objs.size (.ref T) [] .none) _ _ _;unfold tB;have f:∀(h1:Heap) (S:Nat),(∀b a,(s.heap.push {cls:=.type "dict",data:=.dict #[]}).get? b=Go a->h1.get? b=Go a)->∀(h2:Heap) (fp:List Addr) (St:Nat->Heap->Prop),h1.objs.size∉([s.heap.objs.size]:List Addr)->(∀b a,h1.get? b=Go a->h2.get? b=Go a)->s.heap.objs.size∉fp->Walks prog w A.in1.in1 h1.objs.size fp [h1.objs.size] items.size (λi v=>items[i]?=Go v) St->St 0 h2 ->
   PL (Bg prog w) A.in1 (.builtin "dict.update.loop" ⟨[.ref s.heap.objs.size,.ref h1.objs.size,QC 0,.none],[]⟩) (wants (λr c=>r=.none/\Q (.ref s.heap.objs.size) c) E) {s with heap:=h2,toks:=S}:=by
  intro h1 S m1 h2 fp St G m2 t W st;have O:=m1 _ _ (Il s.heap (o:={cls:=.type "dict",data:=.dict #[]}) rfl);refine ahe (A:=A.in1) W t s.heap (X3<|Cm _) (X3<|QX<|Hh O) D H hz ps.length 0 _ _ rfl (Nz _) st ?_ (λb o e=>m2 b o<|m1 b o<|HJ _ e) λh' tk d m=>⟨rfl,h h' tk d m⟩;exact⟨_,#[],0,m2 _ _ O,⟨rfl,rfl,rfl⟩,rfl,λ_ I=>by simp at I,.nil,ZC⟩
 obtain⟨o,n,L,x,z,K⟩:=src;have U:(s.heap.push {cls:=.type "dict",data:=.dict #[]}).get? T=Go o:=HJ _ L;refine Ac<|RJ (T := "list") ⟨o,U,x⟩ ?_
 rw[if_pos (by decide)];refine Ac<|uc U x z K g λh1 S m1=>?_
 rw[if_pos (show(JI:Option Mk).isNone=true from rfl)];refine Ac<|Ql ?_
 have hT:h1.IsList T items:=⟨o,m1 _ _ U,x,n,z⟩
 refine Ac<|YB hT ?_
 have l:T<h1.objs.size:=Hh (m1 _ _ U);have O:=Hh (m1 _ _ (Il s.heap (o:={cls:=.type "dict",data:=.dict #[]}) rfl));refine Bj ⟨Ru dO _,?_⟩;exact f h1 S m1 _ _ _ (by simpa using Nk O) (λb a e=>HJ _ e) (by simp only[Kz,V4,or_false,not_or];exact⟨Ip O,Nk u⟩) (Walks.list g _ T (Ip l) items) ⟨⟨_,Il _ rfl,rfl,rfl⟩,hT.push _⟩
end
section
variable {X:Cx}{K:Az}
abbrev Zr (K:Az)(H:Hp)(y:V)(p:Key×V):Prop:=∃q,y=V.ref q/\IW K H q [kV p.1,p.2]
def zK {anq}{σ:St}{H s}(I:Aw X anq σ H s):∀{ys}{ps its},BL ys its->N6 (Zr X.K H) ys ps ->
  ∃xs:List (Key×Mk),KV ps xs/\∀(j:Nat) (p),xs[j]?=Go p->∃q J,its[j]?=Go (.ref q)/\IsTup s.heap q #[J,p.2]/\(bV X.prog X.w).is p.1 J=true
 | _,_,_,.nil,.nil=>⟨[],.nil,λj p e=>by simp at e⟩
 | _,_,_,.cons r O,.cons (b:=p) f d=>by
  obtain⟨xs,a1,g⟩:=zK I O d;obtain⟨q,rfl,h1⟩:=f;cases r;obtain⟨js,c,ht,_⟩:=I.tuple h1;cases c with
  | cons a Y=>
   cases Y with
   | cons U S=>
    cases S;rename_i J v;refine⟨(p.1,v)::xs,.cons ⟨rfl,U⟩ a1,λj z e=>?_⟩;cases j with
    | zero=>
     simp at e;subst e;exact⟨q,J,rfl,ht,Cy a⟩
    | succ j=>
     simp_all
def ahM (b:X.calm=true)(a:X.A.units+30<Jz):fj X (.type "dict") (λvs H Q=>∃(T:Addr) (ys:List V) (ps:List (Key×V)),vs=[.ref T]/\Ja X.K H T ys/\N6 (Zr X.K H) ys ps /\
  ∀d,H d=JI->Q (.ref d) (Cu H d (.dK (jK [] ps)))):=by
 rintro anq s σ H vs us Q I r ⟨T,ys,ps,k,c,O,q⟩;subst k;obtain⟨u,rfl,S⟩:=vals1 r;cases S;obtain⟨its,J,⟨o,n,i,h,g,f⟩,t⟩:=I.list c;obtain⟨xs,a1,l⟩:=zK I J O;have e1:=J.length;have e2:=XQ O;have e3:=a1.length;refine akC (I.ok.hd b) a ⟨o,n,i,h,f,g⟩ (ps:=xs) (by rw[KH];lia) (λj p e=>by
  obtain⟨q,Y,b1,b2⟩:=l j p e;exact⟨q,Y,List.getElem?_toArray ▸ b1,b2⟩) (by lia) λh' tk d m=>?_
 have U:=iY ps [];rw[List.length_nil]at U;exact⟨.ref _,_,I.laid m (Cm _)<|CZ (by lia) ((Eu (P:=X.prog) (w:=X.w) (H:=H) _ I.big).2.1) (KV.merge a1 .nil) d,rfl,q _<|I.hok.fresh<|Cm _⟩
abbrev oZ:List W->Option (List (Key×W))
 | []=>Go []
 | .tup [k,v]::r=>(match Wz k with
  | some ks=>(oZ r).map ((ks,v)::·)
  | none=>JI)
 | _=>JI
abbrev rD (kvs more:List (Key×W)):List (Key×W):=more.foldl (λacc J=>TJ acc J.1 J.2) kvs
def j5.merge {H μ}:∀{more mv}{kvs kvv},j5 K H μ more mv->j5 K H μ kvs kvv->j5 K H μ (rD kvs more) (jK kvv mv)
 | [],_,_,_,.nil,r=>r
 | x::more,y::mv,kvs,kvv,.cons a t,r=>by
  have:=j5.merge t (r.put a.2 x.1)
  show j5 K H μ _ (jK (Mv kvv _ _) mv)
  rwa[<-a.1]
def yq {H μ}:∀{us ys}{ps},aV K H μ us ys->oZ us=Go ps->∃J:List (Key×V),N6 (Zr K H) ys J/\j5 K H μ ps J
 | [],ys,ps,r,e=>by
  cases e;subst r;exact⟨[],.nil,.nil⟩
 | w::us,ys,ps,r,e=>by
  obtain⟨y,i,rfl,a,r⟩:=r;unfold oZ at e;split at e
  rename_i h;cases h
  ·rename_i k v U h;cases h;split at e
   ·rename_i ks f;cases q:oZ us with
    | none=>rw[q]at e;cases e
    | some j=>
     rw[q]at e;cases e;obtain⟨J,c,p2⟩:=yq r q;obtain⟨b,zs,rfl,d,Y⟩:=a;obtain⟨g,S,rfl,rk,O⟩:=Ba Y;cases jR rk f
     exact⟨(ks,S)::J,.cons ⟨b,rfl,d⟩ c,.cons ⟨rfl,O⟩ p2⟩
   cases e
  cases e
abbrev CW:MC:=λws h Q=>match ws with
 | [w]=>(match dF h w with
  | some us=>(match oZ us with
   | some ps=>Q (.loc h.nx) (h.new (.dct (rD [] ps)))
   | none=>False)
  | none=>False)
 | _=>False
def akd (c:X.calm=true)(a:X.A.units+30<Jz):fK X (.type "dict") CW:=⟨_,ahM c a,by
 intro H μ h vs ws j Q R r m k;unfold CW at m;split at m
 split at m
 split at m
 rename_i w _ us f _ ps g;obtain⟨v,e,U⟩:=gH r;obtain⟨p,ys,ex,b,rs⟩:=dh R U f;obtain⟨O,Y,p2⟩:=yq rs g;subst e ex;refine⟨p,ys,O,rfl,b,Y,λd S=>?_⟩;have J:=(Ex.newCell (o:=.dK (jK [] O)) R S).ext;have i:G3 _ _ (Cu H d (.dK _)) (h.new (.dct _)):=R.newCell S trivial ⟨_,aU,j5.merge (Paired.mapP p2 λ_ _ z=>⟨z.1,J.r _ _ z.2⟩) .nil⟩;exact k _ _ ⟨_,.loc _,_,J,i,⟨d,rfl,Mu.put_same⟩,m⟩;cases m;cases m;cases m⟩
end
section
variable {X:Cx}{c:Expr}{t:MT}
end
section
variable {X:Cx}
variable {o e:Expr}{es:List Expr}{mo:ME}{ma:MA}{name:Str}{apos ant:Pos}{id:String}{r:V->List V->Hp->VK->Prop}{mr:MM}
end
section
variable {X:Cx}{e:Expr}{es:List Expr}{pos p:Pos}{k j:Nat}{x:Str}{f:Addr}{fs:List (Addr×Aq)}
end
section
variable {X:Cx}
end
section
variable {X:Cx}{tg:Expr}
end
section
variable {prog:Cq}{w:Cd}{A:Cw}{E:Mk->AP->Prop}{s:AP}
end
section
variable {X:Cx}
end
section
variable {X:Cx}{K:Az}
end
section
variable {X:Cx}{body:List Stmt}{d:Str}{pos:Pos}{mh:Bt->MS}
end
section
variable {X:Cx}{anq:List (Addr×Obj)}{σ:St}{H:Hp}{s:AP}
def Aw.drop {i}{v h' t'}(I:Aw X anq σ H s)(p:X.N.Nodup)(hi:X.N[i]?=Go y)(h:s.heap.Ns X.env.locals m)(d:h'.Ns X.env.locals (λx=>if x=y then v else m x))(Y:W3 X.env.locals s.heap h'):
  Aw X anq (σ.set i JI) H {s with heap:=h',toks:=t'}:=by
 have J:=I.lost (t':=t') d Y;obtain⟨a,U,k⟩:=I.loc;have B:a=m:=by
  obtain⟨o,es,ep,S,D,_,C⟩:=h;obtain⟨o',z,A,O,n,_,l⟩:=U;rw[S]at O;grind
 subst B;refine⟨J.ok,J.os,J.bare,J.base,⟨_,d,λj x w h1 h2 t=>?_⟩,J.cell,J.free,J.freeC,J.pin,J.hok,by rw[Yk];exact I.len⟩;have b:j≠i:=λq=>by
  rw[q,List.getElem?_set]at h2;split at h2
  split at h2<;>cases h2
  exact absurd rfl ‹¬i=i›
 rw[lX (Jp b)]at h2;obtain⟨u,f,g⟩:=k j x w h1 h2 t;refine⟨u,f,?_⟩;rcases g with⟨k1,k2⟩|⟨k1,c,k2,k3⟩
 exact .inl ⟨k1,by show(if x=y then v else a x)=Go u;rw[if_neg<|λq=>b<|(List.getElem?_inj (Lx.mp h1).1 p).mp (by rw[h1,hi,q])];exact k2⟩;refine .inr ⟨k1,c,k2,?_⟩;obtain⟨o,S,r⟩:=k3;exact⟨o,(Y.2 c<|I.cne x c k2).trans S,r⟩
end
abbrev bN.drop (D:bN)(i:Nat):bN:={D with nx:=fun σ h=>D.nx (σ.set i JI) h,bk:=fun σ h=>D.bk (σ.set i JI) h,ct:=fun σ h=>D.ct (σ.set i JI) h}
abbrev Y6 (i:Nat)(d:Str)(mb:Bt->MS)(mh:MS):MS:=λD σ h=>mb (λx h'=>JC (Mf x.cls d) (mh (D.drop i) (σ.set i (Go (R6 x))) h') False) D σ h
def Slots.drop {K H σ}(S:Slots K H μ σw σ)(i):Slots K H μ (σw.set i JI) (σ.set i JI):=by
 refine⟨by rw[Yk,Yk,S.len],λj w q=>?_⟩;by_cases e:i=j
 grind
 rw[lX e]at q|-
 exact S.get j w q
section
variable {X:Cx}{body:List Stmt}{d:Str}{pos:Pos}{i:Nat}
def aiE (hN:X.N.Nodup)(hi:X.N[i]?=Go y)(hy:X.env.scope.names.lookup y=Go .local)(hg:Gl X d)(hm:X.mg d=Go (.ref D))(hxd:xZ X.K D d=true)(ht:Top X)(hx:X.ex=[])
  (hb:∀anq xe σ0,Pk (X.tr anq xe) (fun σ=>σ=σ0) body mb) (hh:∀a H0,Sx (X.hnd a H0).nox (b₀::suite) mh) (hdb:autoParam ((d==("__debug__" : Str))=false) aPq._auto_2) :
  DS X (.Try body [.ExceptHandler (Go (.Name d np)) (Go y) (b₀::suite) hpos] [] [] pos) (Y6 i d mb mh):=by
 rintro anq s σ H De I ⟨μ,h,σw,Dw,R,S,m,k⟩;refine wpAny_Try_except<|Hg (hb anq _ σ [] s σ H De I.tr ⟨rfl,μ,h,σw,Dw,_,R,S,m,k,λev s' xt=>?_⟩) λf s' q=>?_
 ·obtain⟨a,C,n,od,fs,pins',σ',H',μ',h',rfl,F,hxc,rfl,e1,R1,xd,q⟩:=xt;have F:=F.untr;cases hix:Mf n d with
  | false=>
   rw[hix]at q;exact q.elim
  | true=>
  rw[hix]at q;refine F.note ht F.inv.ok.frames λh1 F1=>F1.flight λh2 F2=>?_;obtain⟨_,oe0,vs0,he0,hc0,_⟩:=F2.xn;refine aiA hxc hxd hix ?_;refine Calls.Name_function_global F2.inv.ok.kind hg (Calls.loadGlobal_global (F2.inv.ok.glob ▸ F2.inv.mod.glob.keeps F2.inv.bk) hm ⟨rfl,F2.inv.kIn,⟨oe0,he0,hc0⟩,?_⟩) hdb;refine F2.flight λh3 F3=>?_;obtain⟨nw,oe,vs,he,hc,hdd,hdt,_,⟨zz,hv2,hzz⟩,_⟩:=F3.xn;obtain⟨H0,hok,_,Ih⟩:=F3.inv.hnd nw hx he hdt hv2 hzz;have Hn:=nw.h;refine wg (X:=X.hnd a H0) (v:=.ref a) Ih hN hi (.inl hy) rfl (λs4 I4=>?_)<|.inr hy
  have e2:Ib X.K H μ (Cu H' a (.frz oe (xU a oe))) μ':=e1.trans (Ex.laid Hn).ext;have rx:Bk X.K (Cu H' a (.frz oe (xU a oe))) μ' (R6 ⟨n,fs⟩) (.ref a):=by
   have nc:PySem.W.notCls oe=true:=by
    unfold PySem.W.notCls;rw[hdt]
   rcases xd with⟨rfl,rfl⟩|⟨dd,ws,xs,rfl,hxa,rfl,hl1,hl2,hdx,rs⟩
   exact⟨a,oe,_,rfl,aU,C,hc,hdd,nc,hxc⟩;rw[aaz hl1,Bk];exact⟨a,oe,_,dd,_,xs,rfl,aU,⟨C,hc,hdd,nc,hxa⟩,aN (aQ hdx Hn) ▸ hdx,rfl,hl2,(Ex.laid Hn).ext.s rs⟩
  refine Kv (hh a H0 anq s4 _ _ ⟨fun σ5 H5=>De.nx (σ5.set i JI) H5,De.rt,fun σ5 H5=>De.bk (σ5.set i JI) H5,fun σ5 H5=>De.ct (σ5.set i JI) H5⟩ (I4.wish _)
   ⟨μ',h',σw.set i (Go _),Dw.drop i,R1.laid Hn,(S.ext e2).set rx i,q,⟨?_,?_,?_,?_⟩⟩) (λf s5 q5=>?_) λ_ _ z=>z.elim
  rintro σ5 H5 ⟨μ5,σw5,h5,e5,R5,S5,m5⟩;exact k.nx _ _ ⟨μ5,_,h5,e2.trans e5,R5,S5.drop i,m5⟩;rintro v H5 ⟨μ5,w5,h5,e5,R5,r5,m5⟩;exact k.rt _ _ ⟨μ5,w5,h5,e2.trans e5,R5,r5,m5⟩;rintro σ5 H5 ⟨μ5,σw5,h5,e5,R5,S5,m5⟩;exact k.bk _ _ ⟨μ5,_,h5,e2.trans e5,R5,S5.drop i,m5⟩;rintro σ5 H5 ⟨μ5,σw5,h5,e5,R5,S5,m5⟩;exact k.ct _ _ ⟨μ5,_,h5,e2.trans e5,R5,S5.drop i,m5⟩
  ·have gone:∀{σ5:St}{H5:Hp}{Q5:Unit->AP->Prop},Aw (X.hnd a H0).nox anq σ5 H5 s5->(∀s6,Aw X anq _ H5 s6->Q5 () s6)->Bb (Bg X.prog X.w) X.A (do bindName X.env y .none;unbindBehindTheSuite X.env y hpos) Q5 X.xe s5:=λ{σ5 H5 Q5} I5 h5=>by
    have I5':=I5.unwish;obtain⟨mm,hns,_⟩:=I5'.loc;refine wpAny_nameGoes_keeps hy hns (by rw[F.inv.ok.kind];rfl) λh6 v6 hn6 sb6=>h5 _<|Aw.unhnd F3.inv.ok hok<|I5'.drop hN hi hns hn6 sb6
   cases f with
   | next=>obtain⟨σ5,H5,I5,z⟩:=q5;exact gone I5 λs6 I6=>⟨_,H5,I6,z⟩
   | brk=>obtain⟨σ5,H5,I5,z⟩:=q5;exact gone I5 λs6 I6=>⟨_,H5,I6,z⟩
   | cont=>obtain⟨σ5,H5,I5,z⟩:=q5;exact gone I5 λs6 I6=>⟨_,H5,I6,z⟩
   | ret v=>obtain⟨x5,σ5,H5,I5,r5,z⟩:=q5;exact gone I5 λs6 I6=>⟨x5,_,H5,I6,r5,z⟩
 ·have q:=SP.untr q;cases f with
  | next=>exact Yz q
  | brk=>exact q
  | cont=>exact q
  | ret v=>exact q
end
abbrev FkX (P:Cq)(w:Cd)(K:Az)(mg:Str->Option Mk)(base:Heap)(k:Nat)(x:Str)(ms:Aq):Prop:=∃f fd ps,lJ P w K mg base (VN P w) k f fd ps (HD K ms)/\mg x=Go (.ref f)/\RB K (.ref f)=true/\Binds K fd ps []
def agD {X}{e}{es pos k x p j}(F:FkX X.prog X.w X.K X.mg X.base j x ms)(ha:LR X (e::es) mr)(hr:autoParam (jj k X.A) aPq._auto_5)(hk:autoParam (j<=k) aPq._auto_2)(hg:autoParam (Gl X x) aPq._auto_3)(hdb:autoParam ((x==("__debug__" : Str))=false) aPq._auto_2)(h1:autoParam (Hi e=false) aPq._auto_3)(h2:autoParam (noStar es=true) aPq._auto_3):
  DEx X Γ (.Call (.Name x p) (e::es) [] pos) (λE=>aJ ms E mr):=by
 obtain⟨f,fd,ps,a,b,c,d⟩:=F;exact Lz (a.mono hk) hr hg b c d ha hdb (aO h1)<|bO h2
def fkX {P w K}{mg base x}{st}{ps zl:List Str}(N){k}{pure}{body}(T:At K mg x st ps)(z:∀n∈zl,mg n=JI)
  (hb:∀f cdv A  (outer) (s) (H) (E),jj k (A.deeper (RD x (bw st) s.heap.objs.size f cdv))->N.Nodup->(Jg (VN P w) P w K mg base N x (bw st) f cdv A outer s H E).calm=true->(∀n∈zl,mg n=JI)->Pk (Jg (VN P w) P w K mg base N x (bw st) f cdv A outer s H E) (λ_=>True) (eX st) body)
  (S:g8 N ps (bw st):=by exact⟨rfl,rfl,rfl,by decide +kernel,rfl,by decide +kernel,by decide +kernel⟩) (hk:autoParam (9<=k) aPq._auto_2):FkX P w K mg base (k+1) x (Hj ps.length N.length pure body):=by
 obtain⟨f,fd,F,m,b⟩:=T;exact⟨f,fd,ps,ad2 F S λcdv A outer s H E hr=>hb f cdv A outer s H E hr S.nd (hr.calm hk) z,m,F.kp,b⟩
section
variable {prog:Cq}{w:Cd}{A:Cw}{E:Mk->AP->Prop}{s:AP}{env:Env}
variable {q:Str}{C N:Addr}{bs bmB:List Mk}{ab:Bool}{k0 k1 k2 k3 k5:Option Mk}{B:String}
end
section
variable {X:Cx}{anq:List (Addr×Obj)}{σ:St}{H:Hp}{s:AP}{C:Addr}{x:Str}{ant pos:Pos}{e:Expr}{es:List Expr}{t:TA}
end
section
variable {X:Cx}{pos:Pos}
end
section
variable {X:Cx}{d:Str}{pos:Pos}{i:Nat}{anq:List (Addr×Obj)}{σ:St}{H H':Hp}{s:AP}{a C:Addr}{n:Str}{od:Option Addr}{fs:List (Str×W)}{h':Gh}{Dw:bN}{De:Ends}{rest:List ExceptHandler}
end
section
variable {X:Cx}{body:List Stmt}{b₁:Stmt}{suite':List Stmt}{d y' d':Str}{np' hpos' pos:Pos}{i i':Nat}{D':Addr}{mh':MS}
end
section
variable {prog:Cq}{w:Cd}{A:Cw}{E:Mk->AP->Prop}{s:AP}{K:Az}{x dx C:Addr}{mA:Str->Option Mk}{name:Str}{v:Mk}
end
section
variable {X:Cx}{o value:Expr}{f:Str}{C:Addr}{pos pos':Pos}{ta tv:TE}
end
section
variable {X:Cx}{anq:List (Addr×Obj)}{σ:St}{H:Hp}{s:AP}{C:Addr}{x f g:Str}{ant pos:Pos}{e e':Expr}{t:TA}{k:Nat}{fd:ML}{ps:List Str}
end
section
variable {X:Cx}{e e':Expr}{pos:Pos}{ma:MA}
end
section
variable {X:Cx}{K:Az}{o e:Expr}{mo:ME}{ma:MA}{apos ant:Pos}
end
section
variable {prog:Cq}{w:Cd}{A:Cw}{E:Mk->AP->Prop}{s:AP}
end
section
variable {X:Cx}{K:Az}
end
section
variable {X:Cx}{e:Expr}{es:List Expr}{pos:Pos}
end
section
variable {X:Cx}{zl:List Str}{x:Str}{p q pos:Pos}{a:Expr}{es:List Expr}
end
section
variable {X:Cx}{body:List Stmt}{d:Str}{pos:Pos}{i:Nat}
end
section
variable {K:Az}{C D':Addr}{n d d':Str}
end
section
variable {X:Cx}
variable {e a:Expr}{es:List Expr}{mb:ME}
end
section
variable {X:Cx}{o e:Expr}{mo:ME}{ma:Bt->MA}{apos ant:Pos}
end
section
variable {X:Cx}
variable {c a b e:Expr}{es:List Expr}{mb:ME}{pos pos' p:Pos}
abbrev aft (X:Cx)(k:Nat)(tbl:List (Str×Addr))(fs:List (Str×Aq)):Prop:=∀y ms,fs.lookup y=Go ms->∃f fd ps,tbl.lookup y=Go f/\lJ X.prog X.w X.K X.mg X.base (VN X.prog X.w) k f fd ps (HD X.K ms)/\RB X.K (.ref f)=true/\Binds X.K fd ps []
def ft {k}{tbl fs f fd}{ps}(F:lJ X.prog X.w X.K X.mg X.base (VN X.prog X.w) k f fd ps (HD X.K ms))(O:RB X.K (.ref f)=true)(S:Binds X.K fd ps [])(e:tbl.lookup y=Go f)(r:aft X k tbl fs):aft X k tbl ((y,ms)::fs):=λz J h=>by
 rw[W0]at h;cases q:z==y with
 | true=>
  grind
 | false=>
  rw[q]at h;exact r z J h
end
section
variable {X:Cx}
end
section
variable {P:Cq}{w:Cd}{A:Cw}{E:Mk->AP->Prop}{s:AP}
end
section
variable {X:Cx}{K:Az}
end
section
variable {prog:Cq}{w:Cd}{A:Cw}{R:Qi->AP->Prop}{its:List Mk}
def zbf (hh:A.handled=JI)(j:L≠I)(h0:Heap)(f:Nat->Bool)
  (ht:∀i v,its[i]?=Go v->∀(s:AP) (Q:Bool->AP->Prop) (E:Mk->AP->Prop),(∀b o,b≠I->h0.get? b=Go o->s.heap.get? b=Go o)->(∀tk,Q (f i) {s with toks:=tk})->Bb (Bg prog w) A.in1 (truthy v) Q E s) :
  ∀(k i:Nat) (s:AP),its.length-i=k->i<=its.length->s.heap.IsTupleIter I L i->s.heap.IsTuple L its.toArray->(∀b o,b≠I->h0.get? b=Go o->s.heap.get? b=Go o) ->
  (∀h' tk,(∀b o,b≠I->s.heap.get? b=Go o->h'.get? b=Go o)->R (.ok (.ret (.bool (((Le its.length).drop i).any f)))) {s with heap:=h',toks:=tk}) ->
  PL (Bg prog w) A (.builtin "any.loop" ⟨[.ref I],[]⟩) R s:=by
 have W:=Walks.tuple (prog:=prog) (w:=w) (A:=A.in1) hh I L j its.toArray;have m:its.toArray.size=its.length:=KH ..;intro k;induction k with
 | zero=>
  intro i s t hi h g U d;have l:i=its.length:=by lia
  refine Rx F.entry_any_loop ?_;rw[X5 F.plain_any_loop _];refine Ac<|W.done s _ _ ⟨by rw[m,<-l];exact h,g⟩ λh' tk J=>?_
  refine Ac<|Ql<|Bj ?_
  have:=d h' tk λb o h1 e=>J b o (by simpa using h1) e
  rw[List.drop_of_length_le (by simp;lia)]at this;exact this
 | succ k r=>
  intro i s t hi h g U d;have S:i<its.length:=by lia
  have p:(Le its.length).drop i=i::(Le its.length).drop (i+1):=by
   rw[Y5 (by simpa using S)];simp
  refine Rx F.entry_any_loop ?_;rw[X5 F.plain_any_loop _];refine Ac<|W.item i s _ _ (by rw[m];exact S) ⟨h,g⟩ λv h' tk u O J=>?_
  have J:∀b o,b≠I->s.heap.get? b=Go o->h'.get? b=Go o:=λb o h1 e=>J b o (by simpa using h1) e
  refine Ac<|Ly<|ht i v (by simpa using u) _ _ _ (λb o h1 e=>J b o h1<|U b o h1 e) λtk2=>?_
  refine Ac<|wpAny_letGo ?_
  cases q:f i with
  | false=>
   simp only[ZW,if_false];refine Bj ⟨Ru F.plain_any_loop _,r (i+1) _ (by lia) S O.1 O.2 (λb o h1 e=>J b o h1<|U b o h1 e) λh'' Y a=>?_⟩;have:=d h'' Y λb o c e=>a b o c (J b o c e)
   rw[p,XJ,q,Bool.false_or]at this;exact this
  | true=>
   simp only[if_true];refine Ac<|Ql<|Bj ?_
   have:=d h' tk2 J
   rw[p,XJ,q,Bool.true_or]at this;exact this
end
section
variable {X:Cx}{K:Az}
def zao (bs:List Bool):((Le bs.length).any λi=>(bs[i]?).getD false)=bs.any id:=by
 rw[Xv,V2,V2];constructor;rintro⟨i,hi,e⟩;have J:=Xa.mp hi;exact⟨bs[i],QV J,by simpa[J]using e⟩;rintro⟨b,O,e⟩;obtain⟨i,hi,rfl⟩:=Y4.mp O;exact⟨i,Xa.mpr hi,by simpa[hi]using e⟩
def zaS (B:X.calm=true):fj X (.builtin "any") (λxs H Q=>∃(p:Addr) (ys:List V) (J:List (List V)),xs=[.ref p]/\IW X.K H p ys/\N6 (λ(v) (k)=>∃b,v=V.ref b/\IW X.K H b k) ys J/\Q (.bl (J.any λk=>!k.isEmpty)) H):=by
 intro anq s σ H xs us Q I r h;obtain⟨p,ys,J,rfl,D,ht,q⟩:=h;obtain⟨u,rfl,w⟩:=vals1 r;cases w;obtain⟨its,f,pl,M⟩:=I.tuple D;have Y:=pl;have O:∀(i:Nat) (v:Mk),its[i]?=Go v->∃(b:Addr) (k:List V) (js:List Mk),v=Value.ref b/\J[i]?=Go k/\IsTup s.heap b js.toArray/\((js.toArray.size:Nat):Int)<2^63/\(!js.toArray.isEmpty)=!k.isEmpty:=λi v U=>by
  obtain⟨x,ex,t⟩:=zbe f U;obtain⟨k,d,b,rfl,C⟩:=yx ht ex;cases t;obtain⟨js,g,S,y⟩:=I.tuple C;have K:=g.length;have N:HB=16777216:=sizeLine_eq;exact⟨b,k,js,rfl,d,S,by simp only[KH];lia,nC g⟩
 refine call_function_tree F.kind_any F.plain_any F.entry_any (F.args_any1 _) ?_;refine Ac (m:=oneArg "any" _)<|Bj ?_
 refine Ac<|wpAny_pyIter_tuple Y ?_
 refine Bj ⟨Ru F.plain_any_loop _,?_⟩;have l:∀b o,s.heap.get? b=Go o->b≠s.heap.objs.size:=λb o e=>Ip (Hh e)
 refine zbf (I.ok.hd B) (Ip (by obtain⟨_,e,_⟩:=Y;exact Hh e)) (h0:=s.heap) (λi=>(J[i]?.map λk=>!k.isEmpty).getD false) (λi v U s' R T a E=>?_) its.length 0 _ (by lia) (Nz _) ⟨_,Il _ rfl,rfl,rfl⟩ (Y.push _) (λb o _ e=>HJ _ e) λh' tk a=>?_;obtain⟨b,k,js,rfl,d,ht,z,G⟩:=O i v U;obtain⟨o,j,c,n,A⟩:=ht;refine truthy_tuple ⟨o,a b o (l b o j) j,c,n,A⟩ z ?_;rw[G];have:=E (s'.toks+1+1)
 simp only[d,Yr,Option.getD_some]at this;exact this;rw[List.drop_zero];have e:((Le its.length).any λi=>(J[i]?.map λk=>!k.isEmpty).getD false)=J.any λk=>!k.isEmpty:=by
  have:=zao (J.map λk=>!k.isEmpty)
  rw[Bo]at this;rw[<-f.length,(XQ ht)];simp only[Hf]at this;rw[this,List.any_map];rfl
 rw[e];exact⟨.bl _,H,I.kept (h':=h') (t':=tk) λb x ex=>a b x (l b x ex)<|HJ _ ex,rfl,q⟩
def zG {H μ}:∀{ws xs}{ks},aV K H μ ws xs->yL ws=Go ks->∃J:List (List V),N6 (λ(v) (k)=>∃b,v=V.ref b/\IW K H b k) xs J/\J.any (λk=>!k.isEmpty)=ks.any λk=>!k.isEmpty
 | [],xs,ks,r,e=>by
  cases e;subst r;exact⟨[],.nil,rfl⟩
 | w::ws,xs,ks,r,e=>by
  obtain⟨v,Y,U,O,r⟩:=r;cases w with
  | tup k=>
   obtain⟨b,ys,e1,S,rk⟩:=O;rw[yL]at e;cases q:yL ws with
   | none=>rw[q]at e;cases e
   | some d=>
    rw[q]at e;cases e;obtain⟨J,p,a⟩:=zG r q;subst U;refine⟨ys::J,.cons ⟨b,e1,S⟩ p,?_⟩;have c:=rk.len;grind
  | _=>cases e
abbrev RN:MC:=λws h Q=>match ws with
 | [.tup us]=>(match yL us with
  | some ks=>Q (.bl (ks.any λk=>!k.isEmpty)) h
  | none=>False)
 | _=>False
def abX (Y:X.calm=true):fK X (.builtin "any") RN:=⟨_,zaS Y,by
 intro H μ h vs ws c Q R r m k;unfold RN at m;split at m
 split at m
 rename_i us _ ks a;obtain⟨v,e,O⟩:=gH r;obtain⟨p,ys,ex,U,rs⟩:=O;obtain⟨J,S,b⟩:=zG rs a;subst e ex;exact⟨p,ys,J,rfl,U,S,k _ _<|.bl R<|b ▸ m⟩;cases m;cases m⟩
end
section
variable {P:Cq}{w:Cd}{A:Cw}{E:Mk->AP->Prop}{s:AP}
def zbc {F:XC T}{a}{vs n}{R}(S:SkT P w A F kd ks vs)(k:s.heap.get? a=Go (seqObj "list" vs.toArray n))(p:RV T s.heap ks vs)(H:ks.Nodup)(hz:vs.length<=HB)(N:vs.length<64)
  (q:∀c  (J),RV T s.heap J c.toList->J.Perm ks->J.Pairwise (· < ·)->c.toList.Perm vs->R (.done (.ret .none)) {s with heap:=sortedHeap s.heap a vs c}) :
  Bb (Bg P w) A (Wy.«list.sort» ⟨[.ref a],[]⟩) R E s:=by
 rw[list_sort_plain];refine Ac<|YS k rfl<|Ac<|listUpdate_at k rfl ?_ (by simpa using hz)<|Nz _
 obtain⟨e1,h1⟩:∃e1,(s.heap.update a (Xo λ_=>#[])).get? a=Go (seqObj "list" #[] e1):=⟨_,get?_update_seq k (λ_=>#[])⟩
 refine Ac<|seqEpoch_at h1 rfl<|Ac<|wpAny_newTuple<|Ac<|wpAny_newList<|Ly ?_
 have m:(hp6 s.heap a vs).get? a=Go (seqObj "list" #[] e1):=HJ _ (HJ _ h1);have U:∀b o,o.cls=.type "tuple"->s.heap.get? b=Go o->(hp6 s.heap a vs).get? b=Go o:=λb o M u=>by
  have G:b≠a:=λe=>by rw[e,k]at u;cases u;simp at M
  exact HJ _<|HJ _<|(P0 _ _<|Jp G).trans u
 have j:RV T (hp6 s.heap a vs) ks vs:=iC p λk v _ x=>F.of x U
 dsimp only;have B:vs.toArray.size=vs.length:=by simp
 have i:∀b:Array JR,b.Perm (Qy vs)->cJ (WY F (hp6 s.heap a vs) ks) b 0 vs.length->R (.done (.ret .none)) {s with heap:=sortedHeap s.heap a vs (b.map (·.2))}:=λb L t=>by
  obtain⟨J,d,h,g,C⟩:=abB F j L t;refine q _ J (iC d λk v K x=>?_) h g C;obtain⟨l,_,y⟩:=(keys_map F p).2 v (C.mem_iff.mp K);exact F.fn (F.of y U) x ▸ y
 by_cases h2:vs.toArray.size<2
 rw[if_pos h2,if_pos h2];refine Ac<|Bj ?_
 rw[StateT.run_pure];refine Ac<|Bj ?_
 dsimp only;refine Ac<|seqEpoch_at m rfl<|Ac<|listUpdate_at m rfl ?_ (hsz2:=?_)
 simp only[bne_self_eq_false,ZW,if_false];refine Bj<|i (vs.toArray.zip vs.toArray) (Array.Perm.refl _) λu v _ X W=>?_
 lia;rw[Array.size_map];show(Qy vs).size<=_;rw[pairsOf_size];lia;rw[if_neg h2,if_neg h2];refine Ac<|S.kind (by lia) j<|Ac ?_
 have ep:(Qy vs).toList.map (·.1)=vs:=by
  unfold Qy;rw[Array.toList_zip,List.map_fst_zip (Cm _)]
 have D:Rn kd (WY F (hp6 s.heap a vs) ks) (·∈vs) (SortSt.mk' kd (Qy vs) #[] 7 JI):=⟨rfl,rfl,⟨λx I=>by show x.1∈vs;rw[<-ep];exact Hr.mpr ⟨x,I,rfl⟩,by
  rw[zbE F j];exact akT H⟩⟩
 have z:(Qy vs).size=vs.length:=pairsOf_size _;refine Kv (zbV (s:={s with heap:=hp6 s.heap a vs}) (Q:=λ_ O=>(HI O).Perm (Qy vs)/\failedOf O=JI/\cJ (WY F (hp6 s.heap a vs) ks) (HI O) 0 vs.length) (S.cmp j) D rfl (by show 2<=(Qy vs).size;lia) (.inl (by show(Qy vs).size<64;lia)) λst' d h g=>⟨d,h,by rw[<-z];exact g⟩) (λr s' t=>?_) λ_ _ e=>e;obtain⟨V,O⟩:=r;obtain⟨rfl,d,h,g⟩:=t;dsimp only;refine Ac<|seqEpoch_at m rfl<|Ac<|listUpdate_at m rfl ?_ (hsz2:=?_)
 rw[h];simp only[bne_self_eq_false,ZW,if_false];exact Bj<|i _ d g
 rw[Array.size_map,d.size_eq,z];lia
def rG {F:XC T}{v}{vs}{Q}(S:SkT P w A.in1.in1 F kd ks vs)
  (col:∀{E}{Q},(∀h' tk,(∀b o,s.heap.get? b=Go o->h'.get? b=Go o)->s.heap.objs.size<h'.objs.size->Q vs {s with heap:=h',toks:=tk})->Bb (Bg P w) A.in1 (collect v) Q E s)
  (p:RV T s.heap ks vs) (h:ks.Nodup) (hz:vs.length<=HB) (d:vs.length<64)
  (q:∀h' tk  (l:Addr) (out) (J) (c),(∀b o,s.heap.get? b=Go o->h'.get? b=Go o)->s.heap.objs.size<=l->h'.get? l=Go (seqObj "list" out c)->RV T s.heap J out.toList->J.Perm ks->J.Pairwise (· < ·)->out.toList.Perm vs->Q (.ref l) {s with heap:=h',toks:=tk}) :
  Bb (Bg P w) A (call (.builtin "sorted") [v]) Q E s:=by
 refine Calls.call_function_entry kind_sorted plain_sorted entry_sorted (args_sorted1 _) ?_;refine Ac<|Bj ?_
 refine Ac<|col λh1 tk k1 Y=>Ac<|wpAny_newList ?_
 have a:(h1.push (seqObj "list" vs.toArray 0)).get? h1.objs.size=Go _:=Il _ rfl;have k2:∀b o,s.heap.get? b=Go o->(h1.push (seqObj "list" vs.toArray 0)).get? b=Go o:=λb o O=>HJ _ (k1 b o O)
 refine Ac<|Ly<|SM slot_list_sort ⟨_,a,rfl⟩ entry_list_sort (zbc S a (iC p λk v _ y=>F.of y λb o _ O=>k2 b o O) h hz d λout J m k j g=>⟨_,rfl,Bj ⟨_,rfl,?_⟩⟩)<|args_list_sort _
 obtain⟨c,e⟩:=sortedHeap_at a;refine q _ tk _ out J c (λb o O=>?_) (QX Y) e ?_ k j g;have f:=Hh (k1 b o O);rw[sortedHeap_old (Ip f) (Js f (by rw[size_push'];exact Ra _))];exact k2 b o O;refine iC m λk v i y=>?_;obtain⟨l,_,z⟩:=(keys_map F p).2 v (g.mem_iff.mp i);exact F.fn (F.of z λb o _ O=>k2 b o O) y ▸ z
def zah {es}{Q}(hh:A.handled=JI)(S:(d==QD)=false)(x:CK s.heap d es ep)(hz:es.size<=HB)
  (p:N6 (λk v=>zu s.heap v k) ks (es.toList.map (·.key))) (U:2<=ks.length->∀k∈ks,k≠[]) (e:ks.Nodup) (Y:es.size<64)
  (q:∀h' tk  (l:Addr) (J) (O) (c),(∀b o,s.heap.get? b=Go o->h'.get? b=Go o)->s.heap.objs.size<=l->h'.get? l=Go (seqObj "list" J c)->N6 (λk v=>zu s.heap v k) O J.toList->O.Perm ks->O.Pairwise (· < ·)->J.toList.Perm (es.toList.map (·.key))->Q (.ref l) {s with heap:=h',toks:=tk}) :
  Bb (Bg P w) A (call (.builtin "sorted") [.ref d]) Q E s:=rG (abh U) (rK hh S x hz) p e (by simpa using hz) (by simpa using Y) q
def yK {es ks}{Q}(hh:A.handled=JI)(S:(d==QD)=false)(x:CK s.heap d es ep)(hz:es.size<=HB)
  (p:BL (ks.map V.int) (es.toList.map (·.key))) (f:ks.Nodup) (U:es.size<64)
  (q:∀h' tk  (l:Addr) (J) (O:List Int) (c),(∀b o,s.heap.get? b=Go o->h'.get? b=Go o)->s.heap.objs.size<=l->h'.get? l=Go (seqObj "list" J c)->BL (O.map V.int) J.toList->O.Perm ks->O.Pairwise (· < ·)->Q (.ref l) {s with heap:=h',toks:=tk}) :
  Bb (Bg P w) A (call (.builtin "sorted") [.ref d]) Q E s:=by
 refine rG (adg p) (rK hh S x hz) (wD.mp p) (SQ.mpr<|f.imp λh e=>h (V1 e).1) (by simpa using hz) (by simpa using U) λh' tk l J O c k1 k2 k3 j i g _=>?_;obtain⟨js,a,rfl⟩:=Eh i rfl;exact q h' tk l J js c k1 k2 k3 (wD.mpr j) a<|(SQ.mp g).imp Vf.mp
end
section
variable {X:Cx}{K:Az}
abbrev Yu (ks:List (List Int)):Prop:=ks.length<64/\Ke ks
def zaj (F:X.calm=true):fj X (.builtin "sorted") (λvs H Q=>∃a xs,vs=[.ref a]/\H a=Go (.ext (Ji a xs))/\Kq X.K H xs/\Yu (xs.map (·.1)) /\
  ∀ys:List (List Int×Addr×Mk),ys.Perm xs->(ys.map (·.1)).Pairwise (· < ·)->∀l,H l=JI->Q (.ref l) (Cu H l (.lst (ys.map λy=>V.ref y.2.1)))):=by
 rintro anq s σ H vs us Q I r ⟨a,xs,M,i,E,A,q⟩;subst M;obtain⟨u,rfl,B⟩:=vals1 r;cases B;obtain⟨⟨z,y,C,o,es,ep,L,K,G,t⟩,_⟩:=I.hok a _ i;have w:es.toList.map (·.key)=xs.map λx=>Value.ref x.2.1:=by
  rw[t,Ky];rfl
 have p:∀zs:List _,(∀x∈zs,x∈xs)->N6 (λk v=>zu s.heap v k) (zs.map _) (zs.map λx=>Value.ref x.2.1):=λzs m=>by
  induction zs with
  | nil=>exact .nil
  | cons x zs g=>exact .cons (ajq I (E x (m x Q0))) (g λy U=>m y (Lq _ U))
 have le:es.size=xs.length:=by rw[<-Ze,t,Bo]
 refine zah (I.ok.hd F) y ⟨o,L,K,G⟩ (le ▸ z) (w ▸ p xs λ_ h=>h) (A.2) C (by rw[le];simpa using A.1) λh' tk l f D c J n e b N Y d=>?_;rw[w]at d;obtain⟨ys,S,j⟩:=Eh d rfl;have U:=p ys λx i=>S.mem_iff.mp i
 have O:=by
  rw[j]at b;exact(keys_map qR b).1.trans (keys_map qR U).1.symm
 rw[O]at Y;refine⟨.ref l,_,I.laid J n<|show fH X.prog X.w _ h' _ (.lst _)from⟨by rw[Bo,S.length_eq];exact z,f.toList,c,?_,by simpa using e⟩,rfl,q ys S Y l<|I.hok.fresh n⟩;rw[j];clear j b O Y U S d;induction ys with
 | nil=>exact .nil
 | cons y ys g=>exact .cons rfl g
abbrev Ax:MC:=λws h Q=>match ws with
 | [.loc n]=>(match h.c n with
  | some (.dtt kvs)=>Yu (kvs.map (·.1))/\∀ks:List (List Int),ks.Perm (kvs.map (·.1))->ks.Pairwise (· < ·)->Q (.lst (ks.map λk=>.tup (k.map .int))) h
  | _=>False)
 | _=>False
def zbB (i:X.calm=true):fK X (.builtin "sorted") Ax:=⟨_,zaj i,by
 intro H μ h vs ws q Q R r m k;unfold Ax at m;split at m
 ·split at m
  ·rename_i kvs j;obtain⟨p,xs,Y,g,f,e1,e2,S,n⟩:=R.dttAt j;obtain⟨v,rfl,a⟩:=gH r;obtain⟨p',rfl,J⟩:=a;obtain rfl:=by rw[g]at J;exact(IV J).symm
   obtain⟨m1,m2⟩:=m;rw[e1]at m1 m2;refine⟨p',xs,rfl,f,jO e1 S,m1,λys b c l O=>(k _ _ ⟨μ,_,h,(Ex.laid O).ext,R.laid O,(.lstNew R O ?_),m2 _ (b.map _) c⟩)⟩;have o:∀zs:List _,(∀z∈zs,z∈xs)->aV X.K H μ ((zs.map (·.1)).map λk=>W.tup (k.map .int)) (zs.map λy=>V.ref y.2.1):=λzs U=>by
    induction zs with
    | nil=>exact .nil
    | cons z zs d=>
     exact aV.cons ⟨z.2.1,z.1.map _,rfl,(jO e1 S) z (U z Q0),sI _⟩<|d λy e=>U y<|Lq _ e
   grind
  cases m
 cases m⟩
def ahA (p:X.calm=true):fj X (.builtin "sorted") (λvs H Q=>∃a kvs ks,vs=[.ref a]/\H a=Go (.dK kvs)/\Aj kvs ks/\ks.length<64 /\
  ∀js:List Int,js.Perm ks->js.Pairwise (· < ·)->∀l,H l=JI->Q (.ref l) (Cu H l (.lst (js.map V.int)))):=by
 rintro anq s σ H vs us Q I r ⟨a,kvs,ks,B,n,hi,t,q⟩;subst B;obtain⟨u,rfl,i⟩:=vals1 r;cases i;obtain⟨z,y,vs,J,dd⟩:=zq I.hok n;have E:=XQ J;have b:=vY (ks:=ks) J hi;obtain⟨o,es,ep,A,x,w,_,v,g⟩:=dd;obtain⟨m,p2⟩:=sG v b;have f:BL (ks.map V.int) (es.toList.map (·.key))/\ks.Nodup/\es.size=vs.length:=by
  refine⟨m,?_,by rw[<-p2,Ze]⟩;rw[b]at g;exact(SQ.mp g).imp λh e=>h<|by rw[e]
 have D:=by have:=congrArg Rb b;simpa using this.symm
 refine yK (I.ok.hd p) y ⟨o,A,x,w⟩ (by lia) f.1 f.2.1 (by lia) λh' tk l U Y c O S e k d j=>?_;have C:=d.length_eq;exact⟨.ref l,_,I.laid O S<|show fH _ _ _ h' _ (.lst _)from⟨by rw[Bo];lia,U.toList,c,k,by simpa using e⟩,rfl,q Y d j l<|I.hok.fresh S⟩
abbrev Bs:MC:=λws h Q=>match ws with
 | [.loc n]=>(match h.c n with
  | some (.dct kvs)=>∃ks:List Int,Aj kvs ks/\ks.length<64/\∀js:List Int,js.Perm ks->js.Pairwise (· < ·)->Q (.lst (js.map .int)) h
  | _=>False)
 | _=>False
def alB (d:X.calm=true):fK X (.builtin "sorted") Bs:=⟨_,ahA d,by
 intro H μ h vs ws f Q R r m k;unfold Bs at m;split at m
 split at m
 rename_i kvs e;obtain⟨p,kvv,c,b,U⟩:=R.dctAt e;obtain⟨v,rfl,Y⟩:=gH r;obtain⟨p',rfl,J⟩:=Y;obtain rfl:=by rw[c]at J;exact(IV J).symm
 obtain⟨ks,m1,m3,m2⟩:=m;exact⟨p',kvv,ks,rfl,b,vL U m1,m3,λjs a S l O=>(k _ _ ⟨μ,_,h,(Ex.laid O).ext,R.laid O,.lstNew R O<|pL js,m2 js a S⟩)⟩;cases m;cases m⟩
abbrev GC:MC:=λws h Q=>Ax ws h Q\/Bs ws h Q
def ajy (J:X.calm=true):fK X (.builtin "sorted") GC:=(zbB J).or (alB J)
end
section
variable {X:Cx}{K:Az}{o e:Expr}{mo:ME}{ma:MA}{apos ant:Pos}
end
section
variable {prog:Cq}{w:Cd}{A:Cw}{R:Qi->AP->Prop}{its:List Mk}
end
section
variable {X:Cx}{K:Az}
end
end L2
namespace My
open PySem L2 PyProof.Rows
abbrev jF:W:=(.tup [(.tup [(.int 0),(.int 0),(.int 1)]),(.tup [(.int 1),(.int 0),(.int 1)]),(.tup [(.int 0),(.int 1),(.int 1)]),(.tup [(.int 1),(.int 1),(.int 1)])])
abbrev top (i:Nat):Stmt:=PySem.Challenge.pw_easelroom_k82_never_and_tied.main.body.getD i (.Pass ⟨0,0,0,0⟩)
abbrev agp (i j:Nat):Stmt:=match top i with
 | .ClassDef _ _ _ b _ _ _ _ _ _ _=>b.getD j (.Pass ⟨0,0,0,0⟩)
 | s=>s
@[reducible]noncomputable def Vq:Stmt:=top 94
@[reducible]noncomputable def iM:Stmt:=agp 5 0
def yZ:g8 ["self", "at"] ["self", "at"] (bw iM):=⟨rfl,rfl,rfl,by decide +kernel,rfl,by decide +kernel,by decide +kernel⟩
abbrev alm (E:Bt):MS:=
  (cI (aA 0))
abbrev je:Aq:=Hj 2 3 false λE=>
  (aY (bL (HN Um (aj (aA 0) aG)) (kI 0))
  (aY (bL (HN Um (aj (aA 1) aG)) (kI 1))
  (aY (Nt (bQ (Ah Q8 (aA 1) (mC (.int 0)))) (aY (bL (Ah HF (aA 0) (aA 1)) (kI 2))
  (aY (bL (aA 1) (kI 0))
  (bL (aA 2) (kI 1)))))
  (alm E))))
abbrev jh:Aq:=je
abbrev rJ (J:Aq)(E:Bt):MS:=
  (cI (aA 1))
abbrev xT (J:Aq):Aq:=Hj 1 3 false λE=>
  (aY (bL (mC (.int 0)) (kI 1))
  (aY (tO (Ii (aA 0)) (kI 2) (bL (aJ J E (aj (aA 2) (aj (aA 1) aG))) (kI 1)))
  (rJ J E)))
abbrev xX:Aq:=xT jh
abbrev pB:Aq:=Hj 2 2 false λE=>
  (cI (mIf (bQ (Ah Q8 (aA 0) (mC (.int 0)))) (cO (aj (cO (aj (Ah Q9 (cO (aj (mC (.int 0)) aG)) (aA 1)) (aj (aA 0) aG))) aG)) (cO aG)))
abbrev gR:Aq:=pB
abbrev oV:Aq:=Hj 2 2 false λE=>
  (cI (cO (aj (cO (aj (HN fu (aj (Ht JL [0] (iy (aj (aA 1) aG)) jx (mIf (bQ (Ah JZ (aA 0) (aA 1))) (mC (.int 1)) (mC (.int 0)))) aG)) (aj (mC (.int 1)) aG))) aG)))
abbrev oR:Aq:=oV
abbrev alf (E:Bt):MS:=
  (cI (aA 1))
abbrev gq:Aq:=Hj 1 2 false λE=>
  (aY (bL (HN fu (aj (Ht JL [0] (Ii (HN GC (aj (aA 0) aG))) (bQ (Ah Q8 (Ah Zc (aA 1) (aA 0)) (mC (.int 0)))) (cO (aj (aA 0) (aj (Ah Zc (aA 1) (aA 0)) aG)))) aG)) (kI 1))
  (aY (jg (bQ (Ah QL (HN Ho (aj (aA 1) aG)) (mC (.int 600)))) (qW "TooMuch" E) cW)
  (alf E)))
abbrev fZ:Aq:=gq
abbrev tV (J:Aq)(E:Bt):MS:=
  (cI (aJ J E (aj (aA 3) aG)))
abbrev oH (J:Aq):Aq:=Hj 3 6 true λE=>
  (aY (bL (HN Fe (aj (aA 0) aG)) (kI 3))
  (aY (tO (Ii (aA 1)) (pG 2 (jV (kI 4) (jV (kI 5) R9))) (bL (Ah bM (aed Mg (aA 3) (aj (aA 4) (aj (mC (.int 0)) aG))) (Ah vI (aA 2) (aA 5))) (Pj (aA 3) (aA 4) Mr)))
  (tV J E)))
abbrev gM:Aq:=oH fZ
abbrev Vc (J:Aq):Aq:=Hj 2 2 false λE=>
  (cI (aJ J E (aj (aA 0) (aj (aA 1) (aj (mC (.int 1)) aG)))))
abbrev zV:Aq:=Vc gM
abbrev Og (J:Aq):Aq:=Hj 2 2 false λE=>
  (cI (aJ J E (aj (aA 0) (aj (aA 1) (aj (mUn YX (mC (.int 1))) aG)))))
abbrev vh:Aq:=Og gM
abbrev ahi (E:Bt):MS:=
  (cI (aA 1))
abbrev GP:Aq:=Hj 1 3 false λE=>
  (aY (bL (mC (.int 0)) (kI 1))
  (aY (tO (Ii (aA 0)) (kI 2) (bL (Ah bM (Ah vI (aA 1) (mC (.int 65536))) (aA 2)) (kI 1)))
  (ahi E)))
abbrev uX:Aq:=GP
abbrev xu (E:Bt):MS:=
  (cI (vR (aA 2)))
abbrev uT:Aq:=Hj 2 4 true λE=>
  (aY (bL (jX aG) (kI 2))
  (aY (tO (iy (aj (aA 1) aG)) (kI 3) (aY (c7 (jW bG (aA 2) (aj (Ah HF (aA 0) (mC (.int 65536))) aG)))
  (bL (Ah Pg (aA 0) (mC (.int 65536))) (kI 0))))
  (xu E)))
abbrev n6:Aq:=uT
abbrev j7 (J:Aq):Aq:=Hj 1 1 false λE=>
  (cI (Ht (Qa 2) [] (Ii (aA 0)) jx (cO (aj (aJ J E (aj (aA 0) aG)) (aj (aA 1) aG)))))
abbrev iw:Aq:=j7 uX
abbrev jY:Aq:=Hj 1 3 false λE=>
  (tO (Ii (aA 0)) (pG 2 (jV (kI 1) (jV (kI 2) R9))) (jg (Ds (HN aai (aj (Ht JL [] (Ii (aA 1)) jx (Ah QL (aA 0) (mC (.int 60)))) aG))) (qW "TooMuch" E) cW))
abbrev jZ:Aq:=jY
abbrev yC (J O U S:Aq)(E:Bt):MS:=
  (aY (bL (mIf (Ds (aA 0)) (HN Ho (aj (Ah Bh (Ah Bh (aA 0) (mC (.int 0))) (mC (.int 0))) aG)) (mC (.int 0))) (kI 9))
  (aY (bL (aJ J E (aj (aA 2) aG)) (kI 10))
  (aY (bL (HN fu (aj (Ht (Qa 2) [9] (Ii (aA 10)) jx (cO (aj (aJ O E (aj (aA 0) (aj (aA 2) aG))) (aj (aA 1) aG)))) aG)) (kI 11))
  (aY (c7 (aJ S E (aj (aA 11) aG)))
  (cI (aA 11))))))
abbrev yH (O S J U:Aq)(E:Bt):MS:=
  (aY (bL Xd (kI 2))
  (aY (bL (aJ J E (aj (aA 1) aG)) (kI 3))
  (aY (tO (Ii (aJ J E (aj (aA 0) aG))) (pG 2 (jV (kI 4) (jV (kI 5) R9))) (tO (Ii (aA 3)) (pG 2 (jV (kI 6) (jV (kI 7) R9))) (aY (bL (Ah bM (aA 4) (aA 6)) (kI 8))
  (bL (Ah bM (Z6 JT (aA 2) (aj (aA 8) (aj (mC (.int 0)) aG))) (Ah vI (aA 5) (aA 7))) (Pj (aA 2) (aA 8) xJ)))))
  (yC O S J U E))))
abbrev Lb (J O S U:Aq):Aq:=Hj 2 12 true λE=>
  (aY (jg (bQ (Ah QL (Ah vI (HN Ho (aj (aA 0) aG)) (HN Ho (aj (aA 1) aG))) (mC (.int 20000)))) (qW "TooMuch" E) cW)
  (yH J O S U E))
abbrev lQ:Aq:=Lb fZ n6 iw jZ
abbrev aku (E:Bt):MS:=
  (cI (cO (aj (aA 3) (aj (Ah Pg (aA 1) (Ah Bh (aA 2) (mC (.int 1)))) aG))))
abbrev kW:Aq:=Hj 3 4 false λE=>
  (aY (bL (HN fu (aj (Ht (Qa 2) [] (Yy (aj (aA 0) (aj (Ah Bh (aA 2) (mC (.int 0))) aG))) jx (Ah Fo (aA 0) (aA 1))) aG)) (kI 3))
  (aY (jg (Vs (bQ (Ah Q8 (Ah HF (aA 1) (Ah Bh (aA 2) (mC (.int 1)))) (mC (.int 0)))) (Ds (HN aai (aj (Ht JL [] (Ii (aA 3)) jx (Ah kLt (aA 0) (mC (.int 0)))) aG)))) (cI (mC .non)) cW)
  (aku E)))
abbrev kE:Aq:=kW
abbrev rN:Aq:=Hj 4 8 false λE=>
  (tO (Ii (aA 1)) (pG 2 (jV (kI 4) (jV (kI 5) R9))) (aY (bL (Ah bM (aA 4) (aA 2)) (kI 6))
  (aY (bL (Ah Fo (Z6 JT (aA 0) (aj (aA 6) (aj (mC (.int 0)) aG))) (Ah vI (aA 3) (aA 5))) (kI 7))
  (jg (bQ (Ah JZ (aA 7) (mC (.int 0)))) (c7 (Z6 PX (aA 0) (aj (aA 6) aG))) (bL (aA 7) (Pj (aA 0) (aA 6) xJ))))))
abbrev rZ:Aq:=rN
abbrev uH (S J O U Y:Aq)(E:Bt):MS:=
  (cI (vR (aA 5)))
abbrev zap (S O J U Y:Aq)(E:Bt):MS:=
  (aY (bL (Ah Bh (aA 1) (mUn YX (mC (.int 1)))) (kI 2))
  (aY (bL (aJ J E (aj (aA 1) aG)) (kI 3))
  (aY (bL (HN CW (aj (aJ J E (aj (aA 0) aG)) aG)) (kI 4))
  (aY (bL (jX aG) (kI 5))
  (aY (Nt (Zo (aA 4)) (aY (bL (HN Rh (aj (aA 4) aG)) (kI 6))
  (aY (bL (aJ U E (aj (aJ O E (aj (aA 6) (aj (HN Ho (aj (Ah Bh (aA 2) (mC (.int 0))) aG)) aG))) (aj (Ah U0 (aA 4) (aA 6)) (aj (aA 2) aG)))) (kI 7))
  (aY (jg (bQ (Ah kIs (aA 7) (mC .non))) (cI (mC .non)) cW)
  (aY (jg (bQ (Ah JZ (HN Ho (aj (aA 5) aG)) (mC (.int 600)))) (qW "TooMuch" E) cW)
  (aY (c7 (jW bG (aA 5) (aj (aA 7) aG)))
  (c7 (aJ Y E (aj (aA 4) (aj (aA 3) (aj (aJ S E (aj (Ah Bh (aA 7) (mC (.int 0))) aG)) (aj (Ah Bh (aA 7) (mC (.int 1))) aG))))))))))))
  (uH S O J U Y E))))))
abbrev Gq (S J O U Y:Aq):Aq:=Hj 2 8 true λE=>
  (aY (jg (aah (Ds (aA 1))) (qW "NoPart" E) cW)
  (zap S J O U Y E))
abbrev Fw:Aq:=Gq uX n6 iw kE rZ
abbrev Fp (J:Aq):Aq:=Hj 1 1 false λE=>
  (cI (aJ J E (aj (Ht (Qa 2) [] (Ii (aA 0)) jx (aA 1)) aG)))
abbrev Fl:Aq:=Fp xX
abbrev zU:Aq:=Hj 3 3 false λE=>
  (cI (HN fu (aj (Ht (Qa 2) [1,2] (Ii (aA 0)) jx (cO (aj (HN fu (aj (Ht (Qa 2) [] (Yy (aj (aA 0) (aj (aA 3) aG))) jx (Ah Fo (aA 0) (aA 1))) aG)) (aj (Ah Pg (aA 1) (aA 2)) aG)))) aG)))
abbrev yN:Aq:=zU
abbrev gw:Aq:=Hj 1 2 false λE=>
  (aY (bL (Ah Bh (Ht JL [] (Ii (aA 0)) (Ds (aA 0)) (aA 0)) (mUn YX (mC (.int 1)))) (kI 1))
  (cI (Ah kLt (Ah Bh (Ah Bh (aA 1) (mUn YX (mC (.int 1)))) (mC (.int 1))) (mC (.int 0)))))
abbrev gB:Aq:=gw
abbrev q9 (O J S:Aq)(E:Bt):MS:=
  (aY (bL (Ht JL [1] (iy (aj (HN Ho (aj (Ah Bh (Ah Bh (aA 1) (mC (.int 0))) (mC (.int 0))) aG)) aG)) jx (HN S6 (aj (Ht (Qa 2) [0] (Ii (aA 1)) jx (Ah Bh (aA 0) (aA 2))) aG))) (kI 4))
  (cI (HN fu (aj (Ht JL [3,4] (Ii (aA 0)) jx (aJ J E (aj (aA 0) (aj (aA 1) (aj (aA 2) aG))))) aG))))
abbrev sE (J S O:Aq)(E:Bt):MS:=
  (aY (bL (aJ J E (aj (aA 1) aG)) (kI 3))
  (aY (jg (Ds (aJ O E (aj (aA 0) aG))) (bL (mUn YX (aA 3)) (kI 3)) cW)
  (q9 J S O E)))
abbrev yP (O J S:Aq):Aq:=Hj 1 5 true λE=>
  (aY (bL (jX aG) (kI 1))
  (aY (tO (Ii (aA 0)) (kI 2) (c7 (jW Ka (aA 1) (aj (aA 2) aG))))
  (sE O J S E)))
abbrev zX:Aq:=yP Fl yN gB
abbrev su:Aq:=Hj 1 1 false λE=>
  (cI (Ht JL [0] (iy (aj (HN Ho (aj (aA 0) aG)) aG)) (bQ (Ah JZ (Ah Bh (Ah Bh (aA 1) (aA 0)) (mC (.int 0))) (mC (.str "free")))) (aA 0)))
abbrev lA:Aq:=su
abbrev kJ (J:Aq):Aq:=Hj 1 1 false λE=>
  (cI (Ah vI (mC (.int 2)) (HN Z4 (aj (Ah Fo (HN Ho (aj (aJ J E (aj (aA 0) aG)) aG)) (mC (.int 4))) (aj (mC (.int 0)) aG)))))
abbrev cQ:Aq:=kJ lA
abbrev tM (O J U S:Aq)(E:Bt):MS:=
  (aY (bL (Ah vI (mC (.int 2)) (Ah Fo (aA 3) (mC (.int 4)))) (kI 4))
  (cI (cO (aj (aJ J E (aj (aA 4) (aj (aA 2) aG))) (aj (aJ J E (aj (Ah bM (aA 4) (mC (.int 1))) (aj (aA 2) aG))) (aj (aJ O E (aj (mC (.int 1)) (aj (aA 2) aG))) aG))))))
abbrev o8 (J U S O:Aq):Aq:=Hj 2 5 false λE=>
  (aY (bL (aJ O E (aj (aA 0) aG)) (kI 2))
  (aY (bL (af0 vo (aJ S E (aj (aA 0) aG)) (aj (aA 1) aG)) (kI 3))
  (aY (jg (bQ (Ah kLt (aA 3) (mC (.int 4)))) (cI (HN fu (aj (Ht JL [2] (Ii (Ah Bh (mC jF) (aA 3))) jx (aJ J E (aj (aA 0) (aj (aA 1) aG)))) aG))) cW)
  (tM J U S O E))))
abbrev gU:Aq:=o8 gR oR lA cQ
abbrev j9 (O J:Aq):Aq:=Hj 4 4 false λE=>
  (cI (aJ O E (aj (aJ J E (aj (Ah Bh (aA 0) (aA 2)) (aj (Ah Bh (aA 1) (aA 3)) aG))) (aj (aJ J E (aj (Ah Bh (aA 0) (aA 3)) (aj (Ah Bh (aA 1) (aA 2)) aG))) aG))))
abbrev kj:Aq:=j9 vh lQ
abbrev qy (J:Aq):Aq:=Hj 2 2 false λE=>
  (cI (cO (aj (aJ J E (aj (aA 0) (aj (aA 1) (aj (mC (.int 1)) (aj (mC (.int 2)) aG))))) (aj (aJ J E (aj (aA 0) (aj (aA 1) (aj (mC (.int 2)) (aj (mC (.int 0)) aG))))) (aj (aJ J E (aj (aA 0) (aj (aA 1) (aj (mC (.int 0)) (aj (mC (.int 1)) aG))))) aG)))))
abbrev d9:Aq:=qy kj
abbrev pY (J O:Aq)(E:Bt):MS:=
  (cI (aA 2))
abbrev xQ (J O:Aq):Aq:=Hj 2 5 false λE=>
  (aY (bL (cO aG) (kI 2))
  (aY (tO (Yy (aj (aA 0) (aj (aA 1) aG))) (pG 2 (jV (kI 3) (jV (kI 4) R9))) (bL (aJ J E (aj (aA 2) (aj (aJ O E (aj (aA 3) (aj (aA 4) aG))) aG))) (kI 2)))
  (pY J O E)))
abbrev iG:Aq:=xQ zV lQ
abbrev ug (O J:Aq):Aq:=Hj 3 3 false λE=>
  (cI (aJ J E (aj (aJ O E (aj (aA 0) (aj (aA 1) aG))) (aj (aA 2) aG))))
abbrev uq:Aq:=ug d9 iG
abbrev oG (J:Aq):Aq:=Hj 2 2 false λE=>
  (cI (HN fu (aj (Ht JL [1] (Ii (aA 0)) jx (aJ J E (aj (aA 0) (aj (aA 1) aG)))) aG)))
abbrev fB:Aq:=oG lQ
abbrev oX (J:Aq):Aq:=Hj 2 2 false λE=>
  (cI (HN fu (aj (Ht (Qa 2) [] (Yy (aj (aA 0) (aj (aA 1) aG))) jx (aJ J E (aj (aA 0) (aj (aA 1) aG)))) aG)))
abbrev gJ:Aq:=oX vh
abbrev kO (O J:Aq):Aq:=Hj 2 2 false λE=>
  (cI (cO (aj (aJ J E (aj (Ah Bh (aA 0) (mC (.int 0))) (aj (Ah Bh (aA 1) (mC (.int 0))) aG))) (aj (aJ O E (aj (aJ J E (aj (Ah Bh (aA 0) (mC (.int 0))) (aj (Ah Bh (aA 1) (mC (.int 1))) aG))) (aj (aJ J E (aj (Ah Bh (aA 0) (mC (.int 1))) (aj (Ah Bh (aA 1) (mC (.int 0))) aG))) aG))) (aj (aJ J E (aj (Ah Bh (aA 0) (mC (.int 1))) (aj (Ah Bh (aA 1) (mC (.int 1))) aG))) (aj (aJ O E (aj (aJ J E (aj (Ah Bh (aA 0) (mC (.int 0))) (aj (Ah Bh (aA 1) (mC (.int 2))) aG))) (aj (aJ J E (aj (Ah Bh (aA 0) (mC (.int 2))) (aj (Ah Bh (aA 1) (mC (.int 0))) aG))) aG))) (aj (aJ O E (aj (aJ J E (aj (Ah Bh (aA 0) (mC (.int 1))) (aj (Ah Bh (aA 1) (mC (.int 2))) aG))) (aj (aJ J E (aj (Ah Bh (aA 0) (mC (.int 2))) (aj (Ah Bh (aA 1) (mC (.int 1))) aG))) aG))) (aj (aJ J E (aj (Ah Bh (aA 0) (mC (.int 2))) (aj (Ah Bh (aA 1) (mC (.int 2))) aG))) aG))))))))
abbrev j8:Aq:=kO zV lQ
abbrev xH (J:Aq):Aq:=Hj 1 1 false λE=>
  (cI (aJ J E (aj (aA 0) (aj (aA 0) aG))))
abbrev lY:Aq:=xH zV
abbrev rQ (J:Aq):Aq:=Hj 1 1 false λE=>
  (cI (cO (aj (cO (aj (aJ J E (aj (Ah Bh (aA 0) (mC (.int 0))) aG)) (aj (Ah Bh (aA 0) (mC (.int 1))) (aj (Ah Bh (aA 0) (mC (.int 3))) aG)))) (aj (cO (aj (Ah Bh (aA 0) (mC (.int 1))) (aj (aJ J E (aj (Ah Bh (aA 0) (mC (.int 2))) aG)) (aj (Ah Bh (aA 0) (mC (.int 4))) aG)))) (aj (cO (aj (Ah Bh (aA 0) (mC (.int 3))) (aj (Ah Bh (aA 0) (mC (.int 4))) (aj (aJ J E (aj (Ah Bh (aA 0) (mC (.int 5))) aG)) aG)))) aG)))))
abbrev eN:Aq:=rQ lY
abbrev mV (J:Aq):Aq:=Hj 1 1 false λE=>
  (cI (cO (aj (aJ J E (aj (Ah Bh (aA 0) (mC (.int 1))) (aj (Ah Bh (aA 0) (mC (.int 2))) aG))) (aj (aJ J E (aj (Ah Bh (aA 0) (mC (.int 2))) (aj (Ah Bh (aA 0) (mC (.int 0))) aG))) (aj (aJ J E (aj (Ah Bh (aA 0) (mC (.int 0))) (aj (Ah Bh (aA 0) (mC (.int 1))) aG))) aG)))))
abbrev lZ:Aq:=mV d9
abbrev oY (J:Aq):Aq:=Hj 2 2 false λE=>
  (cI (HN fu (aj (Ht JL [1] (Ii (aA 0)) jx (aJ J E (aj (aA 0) (aj (aA 1) aG)))) aG)))
abbrev fD:Aq:=oY iG
abbrev fQ (J O:Aq):Aq:=Hj 3 3 false λE=>
  (cI (aJ J E (aj (aA 1) (aj (aJ O E (aj (aA 0) (aj (aA 2) aG))) aG))))
abbrev cF:Aq:=fQ iG fD
abbrev rC (J:Aq):Aq:=Hj 1 1 false λE=>
  (cI (aJ J E (aj (Ah Bh (aA 0) (mC (.int 0))) (aj (Ah Bh (aA 0) (mC (.int 1))) (aj (Ah Bh (aA 0) (mC (.int 2))) aG)))))
abbrev qM:Aq:=rC uq
abbrev rB (Y O J U a S:Aq):Aq:=Hj 1 7 false λE=>
  (aY (bL (aJ O E (aj (Ah Bh (aA 0) (mC (.int 0))) (aj (Ah Bh (aA 0) (mC (.int 1))) aG))) (kI 1))
  (aY (bL (aJ O E (aj (Ah Bh (aA 0) (mC (.int 2))) (aj (Ah Bh (aA 0) (mC (.int 3))) aG))) (kI 2))
  (aY (bL (aJ O E (aj (Ah Bh (aA 0) (mC (.int 0))) (aj (Ah Bh (aA 0) (mC (.int 2))) aG))) (kI 3))
  (aY (bL (aJ O E (aj (Ah Bh (aA 0) (mC (.int 1))) (aj (Ah Bh (aA 0) (mC (.int 3))) aG))) (kI 4))
  (aY (bL (aJ Y E (aj (aJ J E (aj (aA 1) (aj (Ah Bh (aA 0) (mC (.int 4))) aG))) (aj (aJ J E (aj (aA 2) (aj (Ah Bh (aA 0) (mC (.int 4))) aG))) aG))) (kI 5))
  (aY (bL (aJ Y E (aj (aJ J E (aj (aA 3) (aj (Ah Bh (aA 0) (mC (.int 4))) aG))) (aj (aJ J E (aj (aA 4) (aj (Ah Bh (aA 0) (mC (.int 4))) aG))) aG))) (kI 6))
  (cI (aJ a E (aj (aJ U E (aj (aJ S E (aj (aA 3) (aj (aA 4) aG))) (aj (aA 5) aG))) (aj (aJ U E (aj (aJ S E (aj (aA 1) (aj (aA 2) aG))) (aj (aA 6) aG))) aG))))))))))
abbrev qP:Aq:=rB lQ d9 iG fB gJ j8
abbrev uJ (S Y O U J:Aq):Aq:=Hj 2 3 false λE=>
  (aY (bL (aJ Y E (aj (aA 0) aG)) (kI 2))
  (cI (aJ S E (aj (aJ U E (aj (aJ O E (aj (aA 2) aG)) (aj (aA 1) aG))) (aj (aJ J E (aj (aA 2) aG)) aG)))))
abbrev uP:Aq:=uJ fB eN lZ fD qM
abbrev qF (J U Y S O:Aq):Aq:=Hj 3 6 false λE=>
  (aY (bL (aJ S E (aj (aA 0) aG)) (kI 3))
  (aY (bL (aJ O E (aj (aA 3) (aj (aA 2) (aj (aA 2) aG)))) (kI 4))
  (aY (bL (aJ Y E (aj (aJ O E (aj (aA 3) (aj (aA 1) (aj (aA 2) aG)))) aG)) (kI 5))
  (cI (aJ U E (aj (aJ J E (aj (aA 1) (aj (aA 4) aG))) (aj (aJ J E (aj (aA 2) (aj (aA 5) aG))) aG)))))))
abbrev rm:Aq:=qF fB gJ lY eN cF
abbrev Nu (J a Y S U O:Aq)(E:Bt):MS:=
  (cI (aJ J E (aj (Ah Bh (aA 4) (mC (.int 0))) (aj (Ah Bh (aA 4) (mC (.int 1))) aG))))
abbrev BX (a Y U O S J:Aq)(E:Bt):MS:=
  (aY (jg (bQ (Ah JZ (aA 3) (mC (.str "other")))) (cI (aJ J E (aj (Ah Bh (aA 4) (mC (.int 0))) (aj (Ah Bh (aA 4) (mC (.int 1))) (aj (Ah Bh (aA 4) (mC (.int 2))) aG))))) cW)
  (Nu a Y U O S J E))
abbrev vW (a Y U S J O:Aq)(E:Bt):MS:=
  (aY (jg (bQ (Ah JZ (aA 3) (mC (.str "pole")))) (cI (aJ J E (aj (Ah Bh (aA 4) (mC (.int 0))) (aj (Ah Bh (aA 4) (mC (.int 1))) aG)))) cW)
  (BX a Y U S J O E))
abbrev qU (a O J U Y S:Aq)(E:Bt):MS:=
  (aY (jg (bQ (Ah JZ (aA 3) (mC (.str "about")))) (cI (aJ J E (aj (aJ O E (aj (Ah Bh (aA 4) (mC (.int 0))) aG)) (aj (Ah Bh (aA 4) (mC (.int 1))) aG)))) cW)
  (vW a O J U Y S E))
abbrev abY (a Y U J S O:Aq):Aq:=Hj 3 5 false λE=>
  (aY (bL (Ah Bh (Ah Bh (aA 0) (aA 2)) (mC (.int 0))) (kI 3))
  (aY (bL (Ht JL [1] (Ii (Vr OJ (Ah Bh (aA 0) (aA 2)) (tH (mC (.int 1))) ju)) jx (Ah Bh (aA 1) (aA 0))) (kI 4))
  (aY (jg (bQ (Ah JZ (aA 3) (mC (.str "curve")))) (cI (aJ J E (aj (aA 4) aG))) cW)
  (qU a Y U J S O E))))
abbrev Qd:Aq:=abY d9 eN fD qP uP rm
abbrev adb (J O:Aq):Aq:=Hj 3 4 false λE=>
  (aY (bL (Ah Bh (aA 1) (Ah Bh (Ah Bh (aA 0) (aA 2)) (mC (.int 2)))) (kI 3))
  (cI (aJ O E (aj (aJ J E (aj (Ah Bh (aA 1) (Ah Bh (Ah Bh (aA 0) (aA 2)) (mC (.int 1)))) aG)) (aj (aA 3) (aj (aA 3) aG))))))
abbrev Qk:Aq:=adb eN cF
abbrev pZ:Aq:=Hj 1 1 false λE=>
  (cI (Ah Bh (Ht JL [] (Ii (aA 0)) (Ds (aA 0)) (aA 0)) (mC (.int 0))))
abbrev kZ:Aq:=pZ
abbrev uw (S O J:Aq):Aq:=Hj 1 2 false λE=>
  (aY (bL (aJ O E (aj (aA 0) aG)) (kI 1))
  (cI (cO (aj (aA 1) (aj (aJ S E (aj (aJ J E (aj (aA 0) aG)) (aj (aJ J E (aj (aA 1) aG)) aG))) aG)))))
abbrev nJ:Aq:=uw Fw zX kZ
abbrev sH (J O:Aq)(E:Bt):MS:=
  (cI (aJ J EF (aj (aA 0) (aj (aA 1) (aj (aA 2) aG)))))
abbrev Ab (O J:Aq):Aq:=Hj 3 3 false λE=>
  (aY (jg (adu (bQ (Ah JZ (Ah Bh (Ah Bh (aA 0) (aA 2)) (mC (.int 0))) (mC (.str "other")))) (bQ (Ah Q8 (aJ J EF (aj (aA 0) (aj (aA 1) (aj (aA 2) aG)))) (cO aG)))) (vH "Tied" "at" (aA 2) E) cW)
  (sH O J E))
abbrev zx:Aq:=Ab Qd Qk
abbrev zbO:Aq:=λ_ _ _ _=>False
abbrev DX:Aq:=zbO
abbrev ahI (S U O b a Y J:Aq)(E:Bt):MS:=
  (cI (aJ J EF (aj (aA 0) (aj (aA 1) (aj (aA 2) (aj (aA 3) aG))))))
abbrev z7 (O S J a Y U b:Aq):Aq:=Hj 2 6 true λE=>
  (aY (bL (jX aG) (kI 2))
  (aY (bL (jX aG) (kI 3))
  (aY (tO (iy (aj (HN Ho (aj (aA 0) aG)) aG)) (kI 4) (jg (bQ (Ah JZ (Ah Bh (Ah Bh (aA 0) (aA 4)) (mC (.int 0))) (mC (.str "free")))) (c7 (jW bG (aA 2) (aj (cO (aj (aJ J EF (aj (aA 0) (aj (aA 4) aG))) (aj (aJ O EF (aj (mC (.int 1)) (aj (aJ S EF (aj (aA 0) aG)) aG))) aG))) aG))) (aY (bL (aJ U E (aj (aA 0) (aj (Ht JL [] (Ii (aA 2)) jx (Ah Bh (aA 0) (mC (.int 0)))) (aj (aA 4) aG)))) (kI 5))
  (aY (jg (aah (Ds (HN RN (aj (aA 5) aG)))) (cI (cO (aj (mC (.str "never")) (aj (aA 4) aG)))) cW)
  (aY (c7 (jW bG (aA 2) (aj (aJ Y EF (aj (aA 5) aG)) aG)))
  (c7 (jW bG (aA 3) (aj (aJ a EF (aj (aA 5) aG)) aG))))))))
  (ahI O S J a Y U b E))))
abbrev zy:Aq:=z7 gR cQ gU kZ nJ zx DX
abbrev zaD (E:Bt):MS:=
  (cI (mC (.int 0)))
abbrev Gk:Aq:=Hj 2 2 false λE=>
  (aY (jg (bQ (Ah kLt (aA 1) (HN Ho (aj (aA 0) aG)))) (cI (Ah Bh (aA 0) (aA 1))) cW)
  (zaD E))
abbrev vC:Aq:=Gk
abbrev M7:Aq:=Hj 1 1 false λE=>
  (cI (jX (aj (Ah Xu (HN Um (aj (aA 0) aG)) (HN QK (aj (Ah kGe (HN Um (aj (aA 0) aG)) (Ah ae5 (mC (.int 10)) (mC (.int 18)))) aG))) (aj (Ah HF (HN Um (aj (aA 0) aG)) (mC (.int 2147483647))) aG))))
abbrev BW:Aq:=M7
abbrev zav (E:Bt):MS:=
  (aY (bL (Ah HF (Ah bM (Ah vI (Ah Bh (aA 0) (mC (.int 1))) (mC (.int 48271))) (mC (.int 11))) (mC (.int 2147483647))) (Pj (aA 0) (mC (.int 1)) Qx))
  (cI (Ah HF (Ah Pg (Ah HF (Ah vI (Ah Bh (aA 0) (mC (.int 1))) (Ah bM (Ah Pg (Ah Bh (aA 0) (mC (.int 1))) (mC (.int 65536))) (mC (.int 7)))) (mC (.int 2147483629))) (mC (.int 32))) (aA 1))))
abbrev Dy:Aq:=Hj 2 3 false λE=>
  (aY (jg (bQ (Ah QL (Ah Bh (aA 0) (mC (.int 0))) (mC (.int 0)))) (aY (bL (Ah HF (Ah Bh (aA 0) (mC (.int 0))) (aA 1)) (kI 2))
  (aY (bL (Ah Pg (Ah Bh (aA 0) (mC (.int 0))) (aA 1)) (Pj (aA 0) (mC (.int 0)) Qx))
  (cI (aA 2)))) cW)
  (zav E))
abbrev jc:Aq:=Dy
abbrev Er:Aq:=Hj 1 2 false λE=>
  (aY (bL (acO [(.inr "free",(j6 aG)),(.inr "join",(j6 (aj (mC (.str "spot")) (aj (mC (.str "spot")) aG)))),(.inr "meet",(j6 (aj (mC (.str "line")) (aj (mC (.str "line")) aG)))),(.inr "about",(j6 (aj (mC (.str "curve")) (aj (mC (.str "spot")) aG))))]) (kI 1))
  (aY (bL (j6 (aj (mC (.str "spot")) (aj (mC (.str "spot")) (aj (mC (.str "spot")) (aj (mC (.str "spot")) (aj (mC (.str "spot")) aG)))))) (Pj (aA 1) (mC (.str "curve")) xJ))
  (aY (bL (j6 (aj (mC (.str "curve")) (aj (mC (.str "line")) aG))) (Pj (aA 1) (mC (.str "pole")) xJ))
  (aY (bL (j6 (aj (mC (.str "curve")) (aj (mC (.str "spot")) (aj (mC (.str "spot")) aG)))) (Pj (aA 1) (mC (.str "other")) xJ))
  (cI (Ah U0 (aA 1) (aA 0)))))))
abbrev FZ:Aq:=Er
abbrev uh (E:Bt):MS:=
  (cI (Ah Bh (j6 (aj (mC (.str "spot")) (aj (mC (.str "curve")) aG))) (HN QK (aj (Ah JZ (Ah Bh (aA 0) (mC (.int 0))) (mC (.str "curve"))) aG))))
abbrev wZ:Aq:=Hj 1 1 false λE=>
  (aY (jg (Vs (bQ (Ah JZ (Ah Bh (aA 0) (mC (.int 0))) (mC (.str "join")))) (bQ (Ah JZ (Ah Bh (aA 0) (mC (.int 0))) (mC (.str "about"))))) (cI (mC (.str "line"))) cW)
  (uh E))
abbrev wJ:Aq:=wZ
abbrev wR (J O:Aq):Aq:=Hj 3 4 false λE=>
  (aY (bL (Ht JL [1,2] (iy (aj (HN Ho (aj (aA 1) aG)) aG)) (bQ (Ah JZ (aJ O E (aj (Ah Bh (aA 1) (aA 0)) aG)) (aA 2))) (aA 0)) (kI 3))
  (cI (Ah Bh (aA 3) (aJ J E (aj (aA 0) (aj (HN Ho (aj (aA 3) aG)) aG))))))
abbrev Fv:Aq:=wR jc wJ
abbrev zJ (S O U J:Aq)(E:Bt):MS:=
  (cI (HN fu (aj (Ah bM (j6 (aj (aA 5) aG)) (Ht JL [0,1] (Ii (aJ O E (aj (aA 5) aG))) jx (aJ J E (aj (aA 1) (aj (aA 2) (aj (aA 0) aG)))))) aG)))
abbrev Cr (J O S U:Aq):Aq:=Hj 3 7 false λE=>
  (aY (bL (Ht JL [] (Ii (aA 1)) jx (aJ S E (aj (aA 0) aG))) (kI 3))
  (aY (bL (j6 (aj (mC (.str "join")) (aj (mC (.str "meet")) (aj (mC (.str "curve")) (aj (mC (.str "about")) (aj (mC (.str "pole")) (aj (mC (.str "other")) (aj (mC (.str "join")) (aj (mC (.str "meet")) (aj (mC (.str "join")) (aj (mC (.str "meet")) aG))))))))))) (kI 4))
  (aY (bL (Ah Bh (aA 4) (aJ J E (aj (aA 0) (aj (mC (.int 10)) aG)))) (kI 5))
  (aY (bL (Ht JL [3] (Ii (aJ O E (aj (aA 5) aG))) (bQ (Ah GZ (aA 0) (aA 1))) (aA 0)) (kI 6))
  (aY (jg (Vs (bQ (Ah kLt (HN Ho (aj (aA 1) aG)) (aA 2))) (bQ (Ah QL (HN Ho (aj (aA 6) aG)) (mC (.int 0))))) (bL (Ah Bh (j6 (aj (mC (.str "join")) (aj (mC (.str "free")) aG))) (HN QK (aj (Ah kLt (HN Ho (aj (aA 1) aG)) (aA 2)) aG))) (kI 5)) cW)
  (zJ J O S U E))))))
abbrev Ni:Aq:=Cr jc FZ wJ Fv
abbrev qL (E:Bt):MS:=
  (cI (HN Zh (aj (aA 4) aG)))
abbrev rY (E:Bt):MS:=
  (aY (jg (bQ (Ah JZ (Ah Bh (aA 2) (mC (.int 0))) (mC (.str "other")))) (cI (Ah bM (Ah bM (Ah Bh (aA 4) (mC (.int 0))) (Ah vI (mC (.int 2)) (Ah Bh (aA 4) (mC (.int 1))))) (Ah vI (mC (.int 2)) (Ah Bh (aA 4) (mC (.int 2)))))) cW)
  (qL E))
abbrev sJ (E:Bt):MS:=
  (aY (jg (bQ (Ah JZ (Ah Bh (aA 2) (mC (.int 0))) (mC (.str "pole")))) (cI (Ah bM (Ah vI (mC (.int 5)) (Ah Bh (aA 4) (mC (.int 0)))) (Ah Bh (aA 4) (mC (.int 1))))) cW)
  (rY E))
abbrev qu (E:Bt):MS:=
  (aY (jg (bQ (Ah JZ (Ah Bh (aA 2) (mC (.int 0))) (mC (.str "curve")))) (cI (Ah vI (mC (.int 2)) (HN Zh (aj (aA 4) aG)))) cW)
  (sJ E))
abbrev qI:Aq:=Hj 4 5 false λE=>
  (aY (bL (Ht JL [1] (Ii (Vr OJ (aA 2) (tH (mC (.int 1))) ju)) jx (Ah Bh (aA 1) (aA 0))) (kI 4))
  (aY (jg (bQ (Ah JZ (Ah Bh (aA 2) (mC (.int 0))) (mC (.str "free")))) (cI (HN Z4 (aj (aA 3) (aj (HN QK (aj (Ah QL (HN Ho (aj (Ht JL [] (Ii (aA 0)) (bQ (Ah JZ (Ah Bh (aA 0) (mC (.int 0))) (mC (.str "free")))) (aA 0)) aG)) (mC (.int 3))) aG)) aG)))) cW)
  (qu E)))
abbrev yE:Aq:=qI
abbrev jw (J U O S Y:Aq)(E:Bt):MS:=
  (cI (aA 3))
abbrev iJ (S Y O U J:Aq):Aq:=Hj 3 10 true λE=>
  (aY (bL (jX aG) (kI 3))
  (aY (bL (jX aG) (kI 4))
  (aY (bL (jX aG) (kI 5))
  (aY (bL (Ah Bh (j6 (aj (mC (.int 6)) (aj (mC (.int 6)) (aj (mC (.int 6)) (aj (mC (.int 6)) (aj (mC (.int 6)) (aj (mC (.int 6)) (aj (mC (.int 4)) (aj (mC (.int 3)) aG))))))))) (aA 2)) (kI 6))
  (aY (tO (iy (aj (aA 1) aG)) (kI 7) (aY (bL (aJ Y E (aj (aJ S E (aj (aA 0) (aj (Ah bM (mC (.int 3)) (aA 7)) aG))) aG)) (kI 8))
  (aY (bL (aJ U E (aj (aA 8) (aj (aA 3) (aj (aA 2) aG)))) (kI 9))
  (aY (jg (adu (bQ (Ah JZ (Ah Bh (aA 9) (mC (.int 0))) (mC (.str "other")))) (bQ (Ah QL (aJ O E (aj (aA 8) (aj (mC (.int 12)) aG))) (mC (.int 0))))) (bL (cO (aj (mC (.str "other")) (aj (Ah Bh (aA 9) (mC (.int 1))) (aj (Ah Bh (Ah Bh (aA 3) (Ah Bh (aA 9) (mC (.int 1)))) (Ah bM (mC (.int 1)) (aJ O E (aj (aA 8) (aj (mC (.int 5)) aG))))) (aj (Ah Bh (aA 9) (mC (.int 3))) aG))))) (kI 9)) cW)
  (aY (jg (Vs (bQ (Ah QL (aJ J E (aj (aA 3) (aj (aA 4) (aj (aA 9) (aj (mC (.int 0)) aG))))) (aA 6))) (bQ (Ah QL (aJ J E (aj (aA 3) (aj (aA 5) (aj (aA 9) (aj (mC (.int 1)) aG))))) (mC (.int 60))))) (bL (cO (aj (mC (.str "join")) (aj (mC (.int 0)) (aj (HN WW (aj (mC (.int 1)) (aj (Ah Fo (aA 2) (mC (.int 1))) aG))) aG)))) (kI 9)) cW)
  (aY (c7 (jW bG (aA 4) (aj (aJ J E (aj (aA 3) (aj (aA 4) (aj (aA 9) (aj (mC (.int 0)) aG))))) aG)))
  (aY (c7 (jW bG (aA 5) (aj (aJ J E (aj (aA 3) (aj (aA 5) (aj (aA 9) (aj (mC (.int 1)) aG))))) aG)))
  (c7 (jW bG (aA 3) (aj (aA 9) aG))))))))))
  (jw S Y O U J E))))))
abbrev mj:Aq:=iJ vC BW jc Ni yE
abbrev MK:Aq:=Hj 1 1 false λE=>
  (cI (cO (aj (cO (aj (Ah Q9 (cO (aj (mC (.int 0)) aG)) (aA 0)) (aj (mC (.int 1)) aG))) aG)))
abbrev M4:Aq:=MK
abbrev T6:Aq:=Hj 2 2 false λE=>
  (cI (HN fu (aj (Ht JL [1] (Ii (aA 0)) jx (cO (aj (Ah Bh (aA 0) (mC (.int 0))) (aj (Ah vI (Ah Bh (aA 0) (mC (.int 1))) (aA 1)) aG)))) aG)))
abbrev Ul:Aq:=T6
abbrev qK (S O J U Y a:Aq)(E:Bt):MS:=
  (cI (aA 3))
abbrev xW (U S O Y a J:Aq):Aq:=Hj 2 7 false λE=>
  (aY (bL (jX aG) (kI 2))
  (aY (bL (jX aG) (kI 3))
  (aY (bL (aJ a E (aj (aJ U E (aj (aA 0) aG)) aG)) (kI 4))
  (aY (tO (iy (aj (HN Ho (aj (aA 0) aG)) aG)) (kI 5) (aY (jg (bQ (Ah JZ (Ah Bh (Ah Bh (aA 0) (aA 5)) (mC (.int 0))) (mC (.str "free")))) (c7 (jW bG (aA 3) (aj (cO (aj (aJ S E (aj (aA 0) (aj (aA 5) aG))) (aj (aA 4) aG))) aG))) (aY (bL (mC (.int 1)) (kI 6))
  (aY (jg (bQ (Ah J6 (aA 1) (mC .non))) (bL (Ah Fo (mC (.int 1)) (Ah vI (mC (.int 2)) (aJ Y E (aj (aA 1) (aj (mC (.int 2)) aG))))) (kI 6)) cW)
  (c7 (jW bG (aA 3) (aj (cO (aj (HN fu (aj (Ht JL [6] (Ii (aJ O E (aj (aA 0) (aj (aA 2) (aj (aA 5) aG))))) jx (aJ J E (aj (aA 0) (aj (aA 1) aG)))) aG)) (aj (aJ J E (aj (aA 4) (aj (aA 6) aG))) aG))) aG))))))
  (c7 (jW bG (aA 2) (aj (Ah Bh (Ah Bh (aA 3) (aA 5)) (mC (.int 0))) aG)))))
  (qK U S O Y a J E)))))
abbrev zL:Aq:=xW cQ gU Qd jc M4 Ul
abbrev uG (J O:Aq)(E:Bt):MS:=
  (cI (aA 0))
abbrev Dr (J O:Aq):Aq:=Hj 2 5 true λE=>
  (aY (bL (aJ O E (aj (aA 0) (aj (mC .non) aG))) (kI 2))
  (aY (bL (Ht JL [] (Ii (aA 2)) jx (Ah Bh (aA 0) (mC (.int 0)))) (kI 3))
  (aY (tO (iy (aj (HN Ho (aj (aA 0) aG)) aG)) (kI 4) (aY (jg (bQ (Ah JZ (HN Ho (aj (Ht JL [] (Ii (Ah Bh (aA 3) (aA 4))) (bQ (Ah Q8 (aA 0) (cO aG))) (aA 0)) aG)) (mC (.int 0)))) (cI (Vr OJ (aA 0) ju (tH (aA 4)))) cW)
  (jg (adu (bQ (Ah JZ (Ah Bh (Ah Bh (aA 0) (aA 4)) (mC (.int 0))) (mC (.str "other")))) (bQ (Ah Q8 (aJ J E (aj (aA 0) (aj (aA 3) (aj (aA 4) aG)))) (cO aG)))) (cI (Vr OJ (aA 0) ju (tH (aA 4)))) cW)))
  (uG J O E))))
abbrev Ey:Aq:=Dr Qk zL
abbrev ql (J:Aq)(E:Bt):MS:=
  (cI (Ah Bh (aA 6) (aJ J E (aj (aA 0) (aj (HN Ho (aj (aA 6) aG)) aG)))))
abbrev Dd (J:Aq):Aq:=Hj 2 8 false λE=>
  (aY (bL (HN Ho (aj (aA 1) aG)) (kI 2))
  (aY (bL (j6 (aj (cO (aj (mC (.str "join")) (aj (mC (.int 0)) (aj (mC (.int 1)) aG)))) (aj (cO (aj (mC (.str "join")) (aj (mC (.int 2)) (aj (mC (.int 3)) aG)))) (aj (cO (aj (mC (.str "meet")) (aj (aA 2) (aj (Ah bM (aA 2) (mC (.int 1))) aG)))) aG)))) (kI 3))
  (aY (bL (Ah bM (aA 3) (j6 (aj (cO (aj (mC (.str "curve")) (aj (mC (.int 0)) (aj (mC (.int 1)) (aj (Ah bM (aA 2) (mC (.int 2))) (aj (mC (.int 2)) (aj (mC (.int 4)) aG))))))) aG))) (kI 4))
  (aY (bL (j6 (aj (cO (aj (mC (.str "curve")) (aj (mC (.int 0)) (aj (mC (.int 1)) (aj (mC (.int 2)) (aj (mC (.int 3)) (aj (mC (.int 4)) aG))))))) aG)) (kI 5))
  (aY (bL (jX (aj (j6 (aj (cO (aj (mC (.str "join")) (aj (mC (.int 0)) (aj (mC (.int 0)) aG)))) aG)) (aj (j6 (aj (cO (aj (mC (.str "join")) (aj (mC (.int 0)) (aj (mC (.int 1)) aG)))) (aj (cO (aj (mC (.str "meet")) (aj (aA 2) (aj (aA 2) aG)))) aG))) (aj (Ah bM (Vr OJ (aA 3) ju (tH (mC (.int 1)))) (j6 (aj (cO (aj (mC (.str "join")) (aj (mC (.int 1)) (aj (mC (.int 0)) aG)))) (aj (cO (aj (mC (.str "meet")) (aj (aA 2) (aj (Ah bM (aA 2) (mC (.int 1))) aG)))) aG)))) aG)))) (kI 6))
  (aY (c7 (jW bG (aA 6) (aj (j6 (aj (cO (aj (mC (.str "curve")) (aj (mC (.int 0)) (aj (mC (.int 1)) (aj (mC (.int 2)) (aj (mC (.int 1)) (aj (mC (.int 3)) aG))))))) aG)) aG)))
  (aY (c7 (jW bG (aA 6) (aj (Ah bM (aA 3) (j6 (aj (cO (aj (mC (.str "meet")) (aj (Ah bM (aA 2) (mC (.int 1))) (aj (aA 2) aG)))) (aj (cO (aj (mC (.str "join")) (aj (mC (.int 0)) (aj (mC (.int 1)) aG)))) (aj (cO (aj (mC (.str "curve")) (aj (mC (.int 0)) (aj (mC (.int 1)) (aj (Ah bM (aA 2) (mC (.int 2))) (aj (Ah bM (aA 2) (mC (.int 3))) (aj (mC (.int 2)) aG))))))) aG))))) aG)))
  (aY (bL (Ah bM (aA 3) (j6 (aj (cO (aj (mC (.str "join")) (aj (mC (.int 0)) (aj (mC (.int 2)) aG)))) (aj (cO (aj (mC (.str "join")) (aj (mC (.int 1)) (aj (mC (.int 3)) aG)))) (aj (cO (aj (mC (.str "meet")) (aj (Ah bM (aA 2) (mC (.int 3))) (aj (Ah bM (aA 2) (mC (.int 4))) aG)))) (aj (cO (aj (mC (.str "join")) (aj (mC (.int 0)) (aj (mC (.int 3)) aG)))) (aj (cO (aj (mC (.str "join")) (aj (mC (.int 1)) (aj (mC (.int 2)) aG)))) aG))))))) (kI 7))
  (aY (bL (Ah bM (aA 7) (j6 (aj (cO (aj (mC (.str "meet")) (aj (Ah bM (aA 2) (mC (.int 6))) (aj (Ah bM (aA 2) (mC (.int 7))) aG)))) (aj (cO (aj (mC (.str "join")) (aj (Ah bM (aA 2) (mC (.int 5))) (aj (Ah bM (aA 2) (mC (.int 8))) aG)))) (aj (cO (aj (mC (.str "meet")) (aj (aA 2) (aj (Ah bM (aA 2) (mC (.int 9))) aG)))) aG))))) (kI 7))
  (aY (c7 (jW bG (aA 6) (aj (Ah bM (aA 7) (j6 (aj (cO (aj (mC (.str "curve")) (aj (mC (.int 0)) (aj (mC (.int 1)) (aj (Ah bM (aA 2) (mC (.int 2))) (aj (Ah bM (aA 2) (mC (.int 10))) (aj (mC (.int 2)) aG))))))) aG))) aG)))
  (aY (jg (bQ (Ah JZ (Vr OJ (aA 1) (tH (mC (.int 4))) (tH (mC (.int 5)))) (j6 (aj (cO (aj (mC (.str "free")) aG)) aG)))) (aY (c7 (jW bG (aA 6) (aj (Ah bM (aA 4) (j6 (aj (cO (aj (mC (.str "pole")) (aj (Ah bM (aA 2) (mC (.int 3))) (aj (aA 2) aG)))) aG))) aG)))
  (aY (c7 (jW bG (aA 6) (aj (Ah bM (aA 4) (j6 (aj (cO (aj (mC (.str "other")) (aj (Ah bM (aA 2) (mC (.int 3))) (aj (mC (.int 0)) (aj (mC (.int 1)) aG))))) aG))) aG)))
  (aY (c7 (jW bG (aA 6) (aj (Ah bM (aA 5) (j6 (aj (cO (aj (mC (.str "other")) (aj (aA 2) (aj (mC (.int 0)) (aj (mC (.int 0)) aG))))) aG))) aG)))
  (c7 (jW bG (aA 6) (aj (Ah bM (aA 5) (j6 (aj (cO (aj (mC (.str "join")) (aj (mC (.int 0)) (aj (mC (.int 1)) aG)))) (aj (cO (aj (mC (.str "join")) (aj (mC (.int 2)) (aj (mC (.int 3)) aG)))) (aj (cO (aj (mC (.str "meet")) (aj (Ah bM (aA 2) (mC (.int 1))) (aj (Ah bM (aA 2) (mC (.int 2))) aG)))) (aj (cO (aj (mC (.str "other")) (aj (aA 2) (aj (Ah bM (aA 2) (mC (.int 3))) (aj (mC (.int 0)) aG))))) aG)))))) aG)))))) cW)
  (ql J E))))))))))))
abbrev Dg:Aq:=Dd jc
abbrev ahE (J:Aq)(E:Bt):MS:=
  (cI (aA 1))
abbrev yw (ana:Aq):Aq:=Hj 1 3 false λE=>
  (aY (Y6 2 "EaselError" (λE=>(bL (aJ ana E (aj (HN Qc (aj (aA 0) aG)) (aj (cO (aj (mC (.str "same")) (aj (mC (.int 0)) (aj (mC (.int 0)) aG)))) aG))) (kI 1))) (aY (jg (Vs (aah (Ds (Z1 (λn=>(Mf n "Tied")) (aA 2)))) (Vs (Ds (Z1 (λn=>((Mf n "Stuck")||((Mf n "TooMuch")||false))) (aA 2))) (aah (Ds (Z1 (λn=>true) (aA 2)))))) (cI (cO (aj (mC (.str "other")) (aj (mC (.int 0)) aG)))) cW)
  (cI (cO (aj (mC (.str "tied")) (aj (Xp "at" (aA 2)) aG))))))
  (ahE ana E))
abbrev zP:Aq:=yw zy
abbrev acJ (J b a U O Y S:Aq):Aq:=Hj 1 8 false λE=>
  (aY (bL (Ah bM (mC (.int 4)) (Ah HF (aJ J E (aj (aA 0) (aj (mC (.int 0)) aG))) (mC (.int 2)))) (kI 1))
  (aY (bL (HN Z4 (aj (aA 1) (aj (Ah bM (mC (.int 1)) (Ah HF (Ah Pg (aJ J E (aj (aA 0) (aj (mC (.int 0)) aG))) (mC (.int 2))) (mC (.int 10)))) aG))) (kI 2))
  (aY (bL (aJ O E (aj (aJ U E (aj (aA 0) (aj (aA 2) (aj (aA 1) aG)))) (aj (aA 1) aG))) (kI 3))
  (aY (bL (aJ b E (aj (aJ J E (aj (aA 0) (aj (mC (.int 1)) aG))) aG)) (kI 4))
  (aY (bL (aJ Y E (aj (aA 4) (aj (aA 3) aG))) (kI 5))
  (aY (bL (Ah bM (aA 3) (aA 5)) (kI 3))
  (aY (bL (Ah Fo (HN Ho (aj (aA 3) aG)) (mC (.int 1))) (kI 6))
  (aY (bL (Ah Bh (j6 (aj (mC (.str "never")) (aj (mC (.str "tied")) aG))) (HN QK (aj (Rz (Ah JZ (Ah Bh (Ah Bh (aA 3) (aA 6)) (mC (.int 0))) (mC (.str "other"))) (Ah QL (Ah Bh (Ah Bh (aA 3) (aA 6)) (mC (.int 2))) (mC (.int 3)))) aG))) (kI 7))
  (aY (bL (Ah bM (aA 3) (Ht JL [] (iy (aj (HN WW (aj (Ah Fo (mC (.int 24)) (HN Ho (aj (aA 3) aG))) (aj (aJ a E (aj (aA 4) (aj (mC (.int 3)) aG))) aG))) aG)) jx (cO (aj (mC (.str "join")) (aj (mC (.int 0)) (aj (mC (.int 1)) aG)))))) (kI 3))
  (cI (Ah JZ (aJ S E (aj (aA 3) aG)) (cO (aj (aA 7) (aj (aA 6) aG))))))))))))))
abbrev Zd:Aq:=acJ vC BW jc mj Ey Dg zP
abbrev zl:List Str:=["ValueError", "abs", "any", "dict", "int", "isinstance", "len", "list", "max", "min", "range", "reversed", "sorted", "sum", "tuple", "zip"]
structure Ad where
 x_EaselError:Addr
 x_Stuck:Addr
 x_TooMuch:Addr
 x_Tied:Addr
 f_Tied_init:Addr
 d_Tied_init:ML
structure Txt (P:Cq) (w:Cd) (K:Az) (mg:Str->Option Mk) (base:Heap) (t:Ad):Prop where
 f0:At K mg "divisor_of_two" (top 7) ["one", "other"]
 f1:At K mg "divisor" (top 8) ["numbers"]
 f2:At K mg "number_sum" (top 14) ["number", "letters"]
 f3:At K mg "letter_sum" (top 15) ["letter", "letters"]
 f4:At K mg "sum_of_totals" (top 16) ["totals"]
 f5:At K mg "with_times" (top 17) ["one", "other", "factor"]
 f6:At K mg "plus" (top 18) ["one", "other"]
 f7:At K mg "minus" (top 19) ["one", "other"]
 f8:At K mg "packed" (top 20) ["powers"]
 f9:At K mg "unpacked" (top 21) ["key", "letters"]
 f10:At K mg "packed_terms" (top 22) ["one"]
 f11:At K mg "check_powers" (top 23) ["one"]
 f12:At K mg "times" (top 24) ["one", "other"]
 f13:At K mg "part_of_term" (top 25) ["powers", "number", "lead"]
 f14:At K mg "take_away" (top 26) ["left", "terms", "shift", "factor"]
 f15:At K mg "parted" (top 27) ["one", "other"]
 f16:At K mg "common" (top 33) ["one"]
 f17:At K mg "without" (top 34) ["one", "factor", "least"]
 f18:At K mg "ends_below_nought" (top 35) ["some"]
 f19:At K mg "lighter" (top 36) ["some"]
 f20:At K mg "free_rows" (top 45) ["rows"]
 f21:At K mg "letter_count" (top 47) ["rows"]
 f22:At K mg "free_thing" (top 48) ["rows", "k"]
 f23:At K mg "less_swapped" (top 49) ["one", "other", "i", "j"]
 f24:At K mg "sum_cross" (top 50) ["one", "other"]
 f25:At K mg "sum_dot" (top 51) ["one", "other"]
 f26:At K mg "sum_turn" (top 52) ["one", "other", "third"]
 f27:At K mg "sums_times" (top 53) ["some", "factor"]
 f28:At K mg "sums_minus" (top 54) ["some", "others"]
 f29:At K mg "sum_together" (top 55) ["line", "other"]
 f30:At K mg "doubled" (top 56) ["one"]
 f31:At K mg "sum_table" (top 57) ["curve"]
 f32:At K mg "turned_rows" (top 58) ["rows"]
 f33:At K mg "rows_times" (top 59) ["rows", "thing"]
 f34:At K mg "rows_on_both_sides" (top 60) ["rows", "one", "other"]
 f35:At K mg "rows_size" (top 61) ["rows"]
 f36:At K mg "curve_raw" (top 62) ["five"]
 f37:At K mg "pole_raw" (top 63) ["curve", "line"]
 f38:At K mg "other_raw" (top 64) ["curve", "one", "other"]
 f39:At K mg "raw" (top 65) ["rows", "things", "k"]
 f40:At K mg "tie" (top 66) ["rows", "things", "k"]
 f41:At K mg "first_sum" (top 71) ["some"]
 f42:At K mg "entry_of" (top 72) ["made"]
 f43:At K mg "row_raw" (top 73) ["rows", "things", "k"]
 f44:At K mg "answer" (top 74) ["rows", "claim", "paper", "made"]
 f45:At K mg "decided" (top 75) ["rows", "claim"]
 f46:At K mg "_law_cell" (top 77) ["_law_script", "_law_k"]
 f47:At K mg "_law_bag" (top 78) ["_law_cell_here"]
 f48:At K mg "_law_draw" (top 79) ["_law_bag_here", "_law_many"]
 f49:At K mg "_law_asks" (top 80) ["_law_word"]
 f50:At K mg "_law_sort" (top 81) ["_law_row_here"]
 f51:At K mg "_law_pick" (top 82) ["_law_bag_here", "_law_rows", "_law_sort_here"]
 f52:At K mg "_law_row" (top 83) ["_law_bag_here", "_law_rows", "_law_frees"]
 f53:At K mg "_law_reach" (top 84) ["_law_rows", "_law_reaches", "_law_row_here", "_law_first"]
 f54:At K mg "_law_near_rows" (top 85) ["_law_script", "_law_size", "_law_frees"]
 f55:At K mg "_law_one" (top 87) ["_law_letters"]
 f56:At K mg "_law_by" (top 88) ["_law_part", "_law_number"]
 f57:At K mg "_law_paper" (top 89) ["_law_rows", "_law_bag_here"]
 f58:At K mg "_law_head" (top 91) ["_law_rows", "_law_frees"]
 f59:At K mg "_law_last" (top 92) ["_law_bag_here", "_law_rows"]
 f60:At K mg "_law_asked" (top 93) ["_law_rows"]
 z:∀n∈zl,mg n=JI
 g_MOST_TERMS:∃n,mg "MOST_TERMS" = Go (.int 600 n)
 g_MOST_POWER:∃n,mg "MOST_POWER" = Go (.int 60 n)
 g_MOST_PAIRS:∃n,mg "MOST_PAIRS" = Go (.int 20000 n)
 g_FIELD:∃n,mg "FIELD" = Go (.int 65536 n)
 c_CORNERS:∃a,mg "CORNERS" = Go (.ref a)/\∀H μ,Bk K H μ jF (.ref a)
 xm_EaselError:mg "EaselError" = Go (.ref t.x_EaselError)
 xd_EaselError:xZ K t.x_EaselError "EaselError" = true
 xm_Stuck:mg "Stuck" = Go (.ref t.x_Stuck)
 xd_Stuck:xZ K t.x_Stuck "Stuck" = true
 xm_TooMuch:mg "TooMuch" = Go (.ref t.x_TooMuch)
 xd_TooMuch:xZ K t.x_TooMuch "TooMuch" = true
 xm_Tied:mg "Tied" = Go (.ref t.x_Tied)
 xd_Tied:xZ K t.x_Tied "Tied" = true
 F_Tied_init:Ss K "__init__" "Tied.__init__" iM t.f_Tied_init t.d_Tied_init
 b_Tied_init:Binds K t.d_Tied_init ["self", "at"] []
 xi_Tied:Bf K t.x_Tied t.f_Tied_init WX "ValueError.__new__" = true
 xf_Tied:Xl K (.ref t.f_Tied_init)=true
 xa_Tied:Sv K t.x_Tied "Tied" = true
 xs_Tied:adG K t.x_Tied "at" = true
section
variable {P:Cq}{w:Cd}{K:Az}{mg:Str->Option Mk}{base:Heap}{t:Ad}(T:Txt P w K mg base t)
include T
def aiC:lJ P w K mg base O8 1 t.f_Tied_init t.d_Tied_init ["self", "at"] (spI t.x_Tied "at"):=
 zcf T.F_Tied_init yZ λcdv A outer s H E J=>Bm (aly T.xs_Tied (pv 0) (pv 1) rfl)
def ahO:Fk P w K mg base 10 "answer" DX:=by
 obtain⟨f,fd,F,m,b⟩:=T.f44;exact⟨f,fd,_,⟨λ_ _ _ _ a=>by obtain⟨_,_,_,_,_,_,m,_⟩:=a;exact m.elim,λ_ _ _ _ _ _ _ _ _ _ _ _ _ c=>by obtain⟨_,_,_,_,_,_,m,_⟩:=c;exact m.elim⟩,m,F.kp,b⟩
def alc:Fk P w K mg base 10 "divisor_of_two" jh:=by
 refine fk ["one", "other", "rest"] T.f0 T.z ?_;intro _ _ _ _ _ _ _ O J S z;refine au (G7 0<|Iu Ox boot_abs<|a1<|vV 0) ?_;refine au (G7 1<|Iu Ox boot_abs<|a1<|vV 1) ?_;refine au (En R8 (Io (VP qq) (vV 1) aD)<|au (G7 2<|bY tG (vV 0)<|vV 1)<|au (G7 0<|vV 1)<|aF<|G7 1<|vV 2) ?_;exact aF<|aP<|vV 0
def zaB:Fk P w K mg base 11 "divisor" xX:=by
 refine fk ["numbers", "found", "number"] T.f1 T.z ?_;intro _ _ _ _ _ _ _ O J S z;exact au (G7 1 aD)<|au (iz R8 hh (bT<|vV 0) (OD 2)<|aF<|G7 1<|Bq (alc T)<|a2 (vV 2)<|vV 1)<|aF<|aP<|vV 1
def iH:Fk P w K mg base 10 "number_sum" gR:=by
 refine fk ["number", "letters"] T.f2 T.z ?_;intro _ _ _ _ _ _ _ O J S z;refine aF ?_;with_reducible exact aP (afp (Io (VP qq) (vV 0) aD) (bD (a1 (bD (a2 (bY U8 (bD (a1 aD)) (vV 1)) (vV 0))))) (bD cX))
def mG:Fk P w K mg base 10 "letter_sum" oR:=by
 refine fk ["letter", "letters"] T.f3 T.z ?_;intro _ _ _ _ _ _ _ O J S z;refine aF ?_;with_reducible exact aP (bD (a1 (bD (a2 (dct dZ R7 (a1 (Qu [0] (TK (a1 (vV 1))) (λ_ _ _ _=>(afp (Io (oJ qq) (vV 0) (vV 1)) aD aD))))) aD))))
def jq:Fk P w K mg base 10 "sum_of_totals" fZ:=by
 refine fk (k:=9) ["totals", "terms"] T.f4 T.z ?_;intro _ _ _ _ _ _ _ S O U z;obtain⟨_,J⟩:=T.g_MOST_TERMS;refine au (G7 1<|dct dZ R7<|a1<|dl1 [0] (bT<|Iu (ajy hh) PyProof.Rows.boot_sorted<|a1<|vV 0) (λ_ _ _ _=>(jA<|Io (VP qq) (adn qq (vV 1) (vV 0) (by intro _ _;rfl)) aD))<|λ_ _ _ _=>(bD<|a2 (vV 0)<|adn qq (vV 1) (vV 0) (by intro _ _;rfl))) ?_;refine au (dN (Io Pn (Iu fU NQ<|a1<|vV 1)<|dc (v:=.int 600) (gC (by rfl) J ⟨_,rfl⟩)<|λ_ _=>uW) (aF mL) bK) ?_;exact aF<|aP<|vV 1
def mU:Fk P w K mg base 11 "with_times" gM:=by
 refine fk (k:=10) ["one", "other", "factor", "totals", "powers", "number"] T.f5 T.z ?_;intro _ _ _ _ _ _ _ O J S z;refine au (G7 3<|dct (zbP hh qq) boot_dict<|a1<|vV 0) ?_;refine au (iz R8 hh (bT<|vV 1) (oA hh<|dM (OD 4)<|dM (OD 5) n8)<|aF<|oM (bY bC (acV qq (vV 3) (a2 (vV 4) aD) (by rfl) (Xk (by rfl)<|by rfl) (by rfl) (aO<|by rfl)<|bO<|by rfl)<|bY lK (vV 2)<|vV 5)<|oW (vV 3) (vV 4) (zbg qq) alp) ?_;exact aF<|aP<|Bq (jq T)<|a1<|vV 3
def pX:Fk P w K mg base 12 "plus" zV:=by
 refine fk ["one", "other"] T.f6 T.z ?_;intro _ _ _ _ _ _ _ O J S z;exact aF<|aP<|Bq (mU T)<|a3 (vV 0) (vV 1) aD
def Dp:Fk P w K mg base 12 "minus" vh:=by
 refine fk ["one", "other"] T.f7 T.z ?_;intro _ _ _ _ _ _ _ O J S z;exact aF<|aP<|Bq (mU T)<|a3 (vV 0) (vV 1)<|N5 aD
def zA:Fk P w K mg base 10 "packed" uX:=by
 refine fk ["powers", "key", "power"] T.f8 T.z ?_;intro _ _ _ _ _ _ _ S O U z;obtain⟨_,J⟩:=T.g_FIELD;refine au (G7 1 aD) ?_;refine au (iz R8 hh (bT<|vV 0) (OD 2)<|aF<|G7 1<|bY bC (bY lK (vV 1)<|dc (v:=.int 65536) (gC rfl J ⟨_,rfl⟩)<|λ_ _=>uW)<|vV 2) ?_;exact aF<|aP<|vV 1
def rE:Fk P w K mg base 10 "unpacked" n6:=by
 refine fk (k:=9) ["key", "letters", "powers", "taken"] T.f9 T.z ?_;intro _ _ _ _ _ _ _ S O U z;obtain⟨_,J⟩:=T.g_FIELD;refine au (G7 2<|jm cX) ?_;refine au (iz R8 hh (TK<|a1<|vV 1) (OD 3)<|au (bZ<|bW (vV 2) (a1<|bY tG (vV 0)<|dc (v:=.int 65536) (gC (by rfl) J ⟨_,rfl⟩)<|λ_ _=>uW) (by rfl) (gY<|by rfl) (by rfl) (aO<|by rfl)<|by rfl)<|aF<|G7 0<|bY Am (vV 0)<|dc (v:=.int 65536) (gC (by rfl) J ⟨_,rfl⟩)<|λ_ _=>uW) ?_;exact aF<|aP<|CV hh (by rfl) (by exact T.z _ (by decide)) (by rfl) (by exact T.z _ (by decide)) (vV 2) (aO<|by rfl) (bO<|by rfl) (aO<|by rfl)<|bO<|by rfl
def dU:Fk P w K mg base 11 "packed_terms" iw:=by
 refine fk ["one"] T.f10 T.z ?_;intro _ _ _ _ _ _ _ O J S z;exact aF<|aP<|S9 [] hh (cD rfl) Ae (zj hh<|cD rfl) (bT<|vV 0) (λ_ _ _ _=>fJ)<|λ_ _ _ _=>(bD<|a2 (Bq (zA T)<|a1<|vV 0)<|vV 1)
def aki:Fk P w K mg base 10 "check_powers" jZ:=by
 refine fk ["one", "powers", "number"] T.f11 T.z ?_;intro _ _ _ _ _ _ _ S O U z;obtain⟨_,J⟩:=T.g_MOST_POWER;exact aF<|iz R8 hh (bT<|vV 0) (oA hh<|dM (OD 1)<|dM (OD 2) n8)<|aF<|dN (jG<|Iu (aco hh) boot_any<|a1<|Qu [] (bT<|vV 1)<|λ_ _ _ _=>(Tc Pn (vV 0)<|dc (v:=.int 60) (gC (by rfl) J ⟨_,rfl⟩)<|λ_ _=>uW)) (aF mL) bK
def cN:Fk P w K mg base 12 "times" lQ:=by
 refine fk (k:=11) ["one", "other", "totals", "others", "key", "number", "other_key", "other_number", "place", "letters", "product", "unpacked_terms"] T.f12 T.z ?_;intro _ _ _ _ _ _ _ S O U z;obtain⟨_,J⟩:=T.g_MOST_PAIRS;refine au (dN (Io Pn (bY lK (Iu fU NQ<|a1<|vV 0)<|Iu fU NQ<|a1<|vV 1)<|dc (v:=.int 20000) (gC (by rfl) J ⟨_,rfl⟩)<|λ_ _=>uW) (aF mL) bK) ?_;refine au ?_ ?_;with_reducible exact G7 2 abD
 refine au (G7 3<|Bq (dU T)<|a1<|vV 1) ?_;refine au (iz R8 hh (bT<|Bq (dU T)<|a1<|vV 0) (oA hh<|dM (OD 4)<|dM (OD 5) n8)<|aF<|iz R8 hh (bT<|vV 3) (oA hh<|dM (OD 6)<|dM (OD 7) n8)<|au (G7 8<|bY bC (vV 4)<|vV 6)<|aF<|oM (bY bC (Ti qq (vV 2) (a2 (vV 8) aD) (by rfl) (Xk (by rfl)<|by rfl) (by rfl) (aO<|by rfl)<|bO<|by rfl)<|bY lK (vV 5)<|vV 7)<|oW (vV 2) (vV 8) set_dict m7) ?_;refine au (G7 9<|afp (jG<|vV 0) (Iu fU NQ<|a1<|Bp (Bp (vV 0) aD) aD) aD) ?_;refine au (G7 10<|Bq (jq T)<|a1<|vV 2) ?_;refine au (G7 11<|dct dZ R7<|a1<|S9 [9] hh (cD<|by rfl) Ae (zj hh<|cD<|by rfl) (bT<|vV 10) (λ_ _ _ _=>fJ)<|λ_ _ _ _=>(bD<|a2 (Bq (rE T)<|a2 (vV 0)<|vV 2)<|vV 1)) ?_;refine au (bZ<|Bq (aki T)<|a1<|vV 11) ?_;exact aF<|aP<|vV 11
def akf:Fk P w K mg base 10 "part_of_term" kE:=by
 refine fk (k:=9) ["powers", "number", "lead", "rest"] T.f13 T.z ?_;intro _ _ _ _ _ _ _ O J S z;refine au (G7 3<|dct dZ R7<|a1<|S9 [] hh (cD<|by rfl) Ae (zj hh<|cD<|by rfl) (Gm (by rfl) (by exact T.z _ (by decide)) (a2 (vV 0)<|Bp (vV 2) aD) (aO<|by rfl)<|bO<|by rfl) (λ_ _ _ _=>fJ)<|λ_ _ _ _=>(bY vQ (vV 0)<|vV 1)) ?_;refine au (dN (G9 (Io (VP qq) (bY tG (vV 1)<|Bp (vV 2) aD) aD)<|yh<|jG<|Iu (aco hh) boot_any<|a1<|Qu [] (bT<|vV 3)<|λ_ _ _ _=>(Tc aaf (vV 0) aD)).pt (aF<|aP K8) bK) ?_;exact aF<|aP<|bD<|a2 (vV 3)<|bY Am (vV 1)<|Bp (vV 2) aD
def yj:Fk P w K mg base 10 "take_away" rZ:=by
 refine fk (k:=9) ["left", "terms", "shift", "factor", "key", "number", "place", "rest"] T.f14 T.z ?_;intro _ _ _ _ _ _ _ O J S z;exact aF<|iz R8 hh (bT<|vV 1) (oA hh<|dM (OD 4)<|dM (OD 5) n8)<|au (G7 6<|bY bC (vV 4)<|vV 2)<|au (G7 7<|bY vQ (Ti qq (vV 0) (a2 (vV 6) aD) (by rfl) (Xk (by rfl)<|by rfl) (by rfl) (aO<|by rfl)<|bO<|by rfl)<|bY lK (vV 3)<|vV 5)<|aF<|dN (Io (oJ qq) (vV 7) aD) (aF<|bZ<|aaB (vV 0) (a1<|vV 6) (by rfl) (gY<|by rfl) (by rfl) (aO<|by rfl)<|by rfl)<|aF<|oM (vV 7)<|oW (vV 0) (vV 6) set_dict m7
def zaX:Fk P w K mg base 12 "parted" Fw:=by
 refine fk (k:=11) ["one", "other", "lead", "terms", "left", "found", "greatest", "term"] T.f15 T.z ?_;intro _ _ _ _ _ _ _ S O U z;obtain⟨_,J⟩:=T.g_MOST_TERMS;refine au (dN (Dk<|jG<|vV 1) (aF mL) bK) ?_;refine au (G7 2<|Bp (vV 1)<|N5 aD) ?_;refine au (G7 3<|Bq (dU T)<|a1<|vV 1) ?_;refine au (G7 4<|dct (akd hh qq) boot_dict<|a1<|Bq (dU T)<|a1<|vV 0) ?_;refine au (G7 5<|jm cX) ?_;refine au (En R8 (zbW<|vV 4)<|au (G7 6<|Iu (adh hh) boot_max<|a1<|vV 4)<|au (G7 7<|Bq (akf T)<|a3 (Bq (rE T)<|a2 (vV 6)<|Iu fU NQ<|a1<|Bp (vV 2) aD) (ac8 (vV 4) (vV 6) (by intro _ _;rfl))<|vV 2)<|au (dN (Io agl (vV 7) K8) (aF<|aP K8) bK)<|au (dN (Io (oJ qq) (Iu fU NQ<|a1<|vV 5)<|dc (v:=.int 600) (gC (by rfl) J ⟨_,rfl⟩)<|λ_ _=>uW) (aF mL) bK)<|au (bZ<|bW (vV 5) (a1<|vV 7) (by rfl) (gY<|by rfl) (by rfl) (aO<|by rfl)<|by rfl)<|aF<|bZ<|Bq (yj T)<|aC (vV 4)<|a3 (vV 3) (Bq (zA T)<|a1<|Bp (vV 7) aD)<|Bp (vV 7) aD) ?_;exact aF<|aP<|CV hh (by rfl) (by exact T.z _ (by decide)) (by rfl) (by exact T.z _ (by decide)) (vV 5) (aO<|by rfl) (bO<|by rfl) (aO<|by rfl)<|bO<|by rfl
def aiR:Fk P w K mg base 12 "common" Fl:=by
 refine fk ["one"] T.f16 T.z ?_;intro _ _ _ _ _ _ _ O J S z;exact aF<|aP<|Bq (zaB T)<|a1<|S9 [] hh (cD rfl) Ae (zj hh<|cD rfl) (bT<|vV 0) (λ_ _ _ _=>fJ)<|λ_ _ _ _=>(vV 1)
def zat:Fk P w K mg base 10 "without" yN:=by
 refine fk (k:=9) ["one", "factor", "least"] T.f17 T.z ?_;intro _ _ _ _ _ _ _ O J S z;exact aF<|aP<|dct dZ R7<|a1<|S9 [1,2] hh (cD<|by rfl) Ae (zj hh<|cD<|by rfl) (bT<|vV 0) (λ_ _ _ _=>fJ)<|λ_ _ _ _=>(bD<|a2 (dct dZ R7<|a1<|S9 [] hh (cD<|by rfl) Ae (zj hh<|cD<|by rfl) (Gm (by rfl) (by exact T.z _ (by decide)) (a2 (vV 0)<|vV 3) (aO<|by rfl)<|bO<|by rfl) (λ_ _ _ _=>fJ)<|λ_ _ _ _=>(bY vQ (vV 0)<|vV 1))<|bY Am (vV 1)<|vV 2)
def alr:Fk P w K mg base 10 "ends_below_nought" gB:=by
 refine fk ["some", "last"] T.f18 T.z ?_;intro _ _ _ _ _ _ _ O J S z;refine au (G7 1<|Bp (dl1 [] (bT<|vV 0) (λ_ _ _ _=>(jA<|jG<|vV 0))<|λ_ _ _ _=>(vV 0))<|N5 aD) ?_;exact aF<|aP<|Tc aaf (Bp (Bp (vV 1)<|N5 aD) aD) aD
def zaI:Fk P w K mg base 13 "lighter" zX:=by
 refine fk (k:=12) ["some", "terms", "one", "factor", "least"] T.f19 T.z ?_;intro _ _ _ _ _ _ _ O J S z;refine au (G7 1<|jm cX) ?_;refine au (iz R8 hh (bT<|vV 0) (OD 2)<|aF<|bZ<|ac7 (vV 1) (a1<|vV 2) (by rfl) (gY<|by rfl) (by rfl) (aO<|by rfl)<|by rfl) ?_;refine au (G7 3<|Bq (aiR T)<|a1<|vV 1) ?_;refine au (dN (jG<|Bq (alr T)<|a1<|vV 0) (aF<|G7 3<|N5<|vV 3) bK) ?_;refine au (G7 4<|Qu [1] (TK<|a1<|Iu fU NQ<|a1<|Bp (Bp (vV 1) aD) aD)<|λ_ _ _ _=>(Iu (aby hh) boot_min<|a1<|S9 [0] hh (cD<|by rfl) Ae (zj hh<|cD<|by rfl) (bT<|vV 1) (λ_ _ _ _=>fJ)<|λ_ _ _ _=>(Bp (vV 0)<|vV 2))) ?_;exact aF<|aP<|dct dZ R7<|a1<|Qu [3,4] (bT<|vV 0)<|λ_ _ _ _=>(Bq (zat T)<|a3 (vV 0) (vV 1)<|vV 2)
def oF:Fk P w K mg base 10 "free_rows" lA:=by
 refine fk ["rows"] T.f20 T.z ?_;intro _ _ _ _ _ _ _ O J S z;exact aF<|aP<|dl1 [0] (TK<|a1<|Iu fU NQ<|a1<|vV 0) (λ_ _ _ _=>(jA<|Io (oJ qq) (Bp (Bp (vV 1)<|vV 0) aD) aR))<|λ_ _ _ _=>(vV 0)
def gG:Fk P w K mg base 11 "letter_count" cQ:=by
 refine fk ["rows"] T.f21 T.z ?_;intro _ _ _ _ _ _ _ O J S z;exact aF<|aP<|bY lK aD<|Iu (YC hh) boot_max<|a2 (bY vQ (Iu fU NQ<|a1<|Bq (oF T)<|a1<|vV 0) aD) aD
def nj:Fk P w K mg base 12 "free_thing" gU:=by
 refine fk (k:=11) ["rows", "k", "letters", "place", "first"] T.f22 T.z ?_;intro _ _ _ _ _ _ _ Y U a z;obtain⟨S,O,J⟩:=T.c_CORNERS;refine au (G7 2<|Bq (gG T)<|a1<|vV 0) ?_;refine au (G7 3<|zbn (Bq (oF T)<|a1<|vV 0) (a1<|vV 1) (by rfl) (gY<|by rfl) (by rfl) (aO<|by rfl)<|by rfl) ?_;refine au (dN (Io aaf (vV 3) aD) (aF<|aP<|dct dZ R7<|a1<|Qu [2] (bT<|Bp (dc (v:=.ref S) (gC (by rfl) O<|by rfl) J)<|vV 3)<|λ_ _ _ _=>(Bq (iH T)<|a2 (vV 0)<|vV 1)) bK) ?_;refine au (G7 4<|bY lK aD<|bY vQ (vV 3) aD) ?_;exact aF<|aP<|bD<|a3 (Bq (mG T)<|a2 (vV 4)<|vV 2) (Bq (mG T)<|a2 (bY bC (vV 4) aD)<|vV 2)<|Bq (iH T)<|a2 aD<|vV 2
def gj:Fk P w K mg base 13 "less_swapped" kj:=by
 refine fk ["one", "other", "i", "j"] T.f23 T.z ?_;intro _ _ _ _ _ _ _ O J S z;exact aF<|aP<|Bq (Dp T)<|a2 (Bq (cN T)<|a2 (Bp (vV 0)<|vV 2)<|Bp (vV 1)<|vV 3)<|Bq (cN T)<|a2 (Bp (vV 0)<|vV 3)<|Bp (vV 1)<|vV 2
def cg:Fk P w K mg base 14 "sum_cross" d9:=by
 refine fk ["one", "other"] T.f24 T.z ?_;intro _ _ _ _ _ _ _ O J S z;exact aF<|aP<|bD<|a3 (Bq (gj T)<|aC (vV 0)<|a3 (vV 1) aD aD) (Bq (gj T)<|aC (vV 0)<|a3 (vV 1) aD aD)<|Bq (gj T)<|aC (vV 0)<|a3 (vV 1) aD aD
def eE:Fk P w K mg base 13 "sum_dot" iG:=by
 refine fk ["one", "other", "total", "mine", "its"] T.f25 T.z ?_;intro _ _ _ _ _ _ _ O J S z;refine au (G7 2<|bD cX) ?_;refine au (iz R8 hh (Gm (by rfl) (by exact T.z _ (by decide)) (a2 (vV 0)<|vV 1) (aO<|by rfl)<|bO<|by rfl) (oA hh<|dM (OD 3)<|dM (OD 4) n8)<|aF<|G7 2<|Bq (pX T)<|a2 (vV 2)<|Bq (cN T)<|a2 (vV 3)<|vV 4) ?_;exact aF<|aP<|vV 2
def zan:Fk P w K mg base 15 "sum_turn" uq:=by
 refine fk ["one", "other", "third"] T.f26 T.z ?_;intro _ _ _ _ _ _ _ O J S z;exact aF<|aP<|Bq (eE T)<|a2 (Bq (cg T)<|a2 (vV 0)<|vV 1)<|vV 2
def dY:Fk P w K mg base 13 "sums_times" fB:=by
 refine fk ["some", "factor"] T.f27 T.z ?_;intro _ _ _ _ _ _ _ O J S z;exact aF<|aP<|dct dZ R7<|a1<|Qu [1] (bT<|vV 0)<|λ_ _ _ _=>(Bq (cN T)<|a2 (vV 0)<|vV 1)
def ni:Fk P w K mg base 13 "sums_minus" gJ:=by
 refine fk ["some", "others"] T.f28 T.z ?_;intro _ _ _ _ _ _ _ O J S z;exact aF<|aP<|dct dZ R7<|a1<|S9 [] hh (cD<|by rfl) Ae (zj hh<|cD<|by rfl) (Gm (by rfl) (T.z _<|by decide) (a2 (vV 0)<|vV 1) (aO<|by rfl)<|bO<|by rfl) (λ_ _ _ _=>fJ)<|λ_ _ _ _=>(Bq (Dp T)<|a2 (vV 0)<|vV 1)
def jC:Fk P w K mg base 13 "sum_together" j8:=by
 refine fk (k:=12) ["line", "other"] T.f29 T.z ?_;intro _ _ _ _ _ _ _ O J S z;exact aF<|aP<|bD<|aC (Bq (cN T)<|a2 (Bp (vV 0) aD)<|Bp (vV 1) aD)<|aC (Bq (pX T)<|a2 (Bq (cN T)<|a2 (Bp (vV 0) aD)<|Bp (vV 1) aD)<|Bq (cN T)<|a2 (Bp (vV 0) aD)<|Bp (vV 1) aD)<|aC (Bq (cN T)<|a2 (Bp (vV 0) aD)<|Bp (vV 1) aD)<|a3 (Bq (pX T)<|a2 (Bq (cN T)<|a2 (Bp (vV 0) aD)<|Bp (vV 1) aD)<|Bq (cN T)<|a2 (Bp (vV 0) aD)<|Bp (vV 1) aD) (Bq (pX T)<|a2 (Bq (cN T)<|a2 (Bp (vV 0) aD)<|Bp (vV 1) aD)<|Bq (cN T)<|a2 (Bp (vV 0) aD)<|Bp (vV 1) aD)<|Bq (cN T)<|a2 (Bp (vV 0) aD)<|Bp (vV 1) aD
def jP:Fk P w K mg base 13 "doubled" lY:=by
 refine fk ["one"] T.f30 T.z ?_;intro _ _ _ _ _ _ _ O J S z;exact aF<|aP<|Bq (pX T)<|a2 (vV 0)<|vV 0
def gQ:Fk P w K mg base 14 "sum_table" eN:=by
 refine fk ["curve"] T.f31 T.z ?_;intro _ _ _ _ _ _ _ O J S z;refine aF ?_;with_reducible exact aP (bD (a3 (bD (a3 (Bq (by with_unfolding_all exact jP T) (a1 (Bp (vV 0) aD))) (Bp (vV 0) aD) (Bp (vV 0) aD))) (bD (a3 (Bp (vV 0) aD) (Bq (by with_unfolding_all exact jP T) (a1 (Bp (vV 0) aD))) (Bp (vV 0) aD))) (bD (a3 (Bp (vV 0) aD) (Bp (vV 0) aD) (Bq (by with_unfolding_all exact jP T) (a1 (Bp (vV 0) aD)))))))
def akO:Fk P w K mg base 15 "turned_rows" lZ:=by
 refine fk ["rows"] T.f32 T.z ?_;intro _ _ _ _ _ _ _ O J S z;exact aF<|aP<|bD<|a3 (Bq (cg T)<|a2 (Bp (vV 0) aD)<|Bp (vV 0) aD) (Bq (cg T)<|a2 (Bp (vV 0) aD)<|Bp (vV 0) aD)<|Bq (cg T)<|a2 (Bp (vV 0) aD)<|Bp (vV 0) aD
def iQ:Fk P w K mg base 14 "rows_times" fD:=by
 refine fk ["rows", "thing"] T.f33 T.z ?_;intro _ _ _ _ _ _ _ O J S z;exact aF<|aP<|dct dZ R7<|a1<|Qu [1] (bT<|vV 0)<|λ_ _ _ _=>(Bq (eE T)<|a2 (vV 0)<|vV 1)
def cV:Fk P w K mg base 15 "rows_on_both_sides" cF:=by
 refine fk ["rows", "one", "other"] T.f34 T.z ?_;intro _ _ _ _ _ _ _ O J S z;exact aF<|aP<|Bq (eE T)<|a2 (vV 1)<|Bq (iQ T)<|a2 (vV 0)<|vV 2
def zad:Fk P w K mg base 16 "rows_size" qM:=by
 refine fk ["rows"] T.f35 T.z ?_;intro _ _ _ _ _ _ _ O J S z;exact aF<|aP<|Bq (zan T)<|a3 (Bp (vV 0) aD) (Bp (vV 0) aD)<|Bp (vV 0) aD
def zT:Fk P w K mg base 15 "curve_raw" qP:=by
 refine fk (k:=14) ["five", "first", "second", "third", "last", "more", "less"] T.f36 T.z ?_;intro _ _ _ _ _ _ _ O J S z;refine au (G7 1<|Bq (cg T)<|a2 (Bp (vV 0) aD)<|Bp (vV 0) aD) ?_;refine au (G7 2<|Bq (cg T)<|a2 (Bp (vV 0) aD)<|Bp (vV 0) aD) ?_;refine au (G7 3<|Bq (cg T)<|a2 (Bp (vV 0) aD)<|Bp (vV 0) aD) ?_;refine au (G7 4<|Bq (cg T)<|a2 (Bp (vV 0) aD)<|Bp (vV 0) aD) ?_;refine au (G7 5<|Bq (cN T)<|a2 (Bq (eE T)<|a2 (vV 1)<|Bp (vV 0) aD)<|Bq (eE T)<|a2 (vV 2)<|Bp (vV 0) aD) ?_;refine au (G7 6<|Bq (cN T)<|a2 (Bq (eE T)<|a2 (vV 3)<|Bp (vV 0) aD)<|Bq (eE T)<|a2 (vV 4)<|Bp (vV 0) aD) ?_;exact aF<|aP<|Bq (ni T)<|a2 (Bq (dY T)<|a2 (Bq (jC T)<|a2 (vV 3)<|vV 4)<|vV 5)<|Bq (dY T)<|a2 (Bq (jC T)<|a2 (vV 1)<|vV 2)<|vV 6
def ahc:Fk P w K mg base 17 "pole_raw" uP:=by
 refine fk ["curve", "line", "rows"] T.f37 T.z ?_;intro _ _ _ _ _ _ _ O J S z;refine au (G7 2<|Bq (gQ T)<|a1<|vV 0) ?_;exact aF<|aP<|Bq (dY T)<|a2 (Bq (iQ T)<|a2 (Bq (akO T)<|a1<|vV 2)<|vV 1)<|Bq (zad T)<|a1<|vV 2
def yU:Fk P w K mg base 16 "other_raw" rm:=by
 refine fk (k:=15) ["curve", "one", "other", "rows", "own", "shared"] T.f38 T.z ?_;intro _ _ _ _ _ _ _ O J S z;refine au (G7 3<|Bq (gQ T)<|a1<|vV 0) ?_;refine au (G7 4<|Bq (cV T)<|a3 (vV 3) (vV 2)<|vV 2) ?_;refine au (G7 5<|Bq (jP T)<|a1<|Bq (cV T)<|a3 (vV 3) (vV 1)<|vV 2) ?_;exact aF<|aP<|Bq (ni T)<|a2 (Bq (dY T)<|a2 (vV 1)<|vV 4)<|Bq (dY T)<|a2 (vV 2)<|vV 5
def Uh:Fk P w K mg base 18 "raw" Qd:=by
 refine fk (k:=17) ["rows", "things", "k", "word", "told"] T.f39 T.z ?_;intro _ _ _ _ _ _ _ O J S z;refine au (G7 3<|Bp (Bp (vV 0)<|vV 2) aD) ?_;refine au (MN [1] (i:=4) (by assumption) (by rfl) (by exact Or.inl rfl) hh (cD<|by rfl) G8 (G6<|cD<|by rfl) (bT<|HY (Bp (vV 0)<|vV 2) (kY aD) qT) (λ_ _ _ _=>fJ)<|λ_ _ _ _=>(Bp (vV 1)<|vV 0)) ?_;refine au (dN (Io (oJ qq) (vV 3) aR) (aF<|aP<|Bq (zT T)<|a1<|vV 4) bK) ?_;refine au (dN (Io (oJ qq) (vV 3) aR) (aF<|aP<|Bq (iQ T)<|a2 (Bq (gQ T)<|a1<|Bp (vV 4) aD)<|Bp (vV 4) aD) bK) ?_;refine au (dN (Io (oJ qq) (vV 3) aR) (aF<|aP<|Bq (ahc T)<|a2 (Bp (vV 4) aD)<|Bp (vV 4) aD) bK) ?_;refine au (dN (Io (oJ qq) (vV 3) aR) (aF<|aP<|Bq (yU T)<|a3 (Bp (vV 4) aD) (Bp (vV 4) aD)<|Bp (vV 4) aD) bK) ?_;exact aF<|aP<|Bq (cg T)<|a2 (Bp (vV 4) aD)<|Bp (vV 4) aD
def T5:Fk P w K mg base 16 "tie" Qk:=by
 refine fk ["rows", "things", "k", "spot"] T.f40 T.z ?_;intro _ _ _ _ _ _ _ O J S z;refine au (G7 3<|Bp (vV 1)<|Bp (Bp (vV 0)<|vV 2) aD) ?_;exact aF<|aP<|Bq (cV T)<|a3 (Bq (gQ T)<|a1<|Bp (vV 1)<|Bp (Bp (vV 0)<|vV 2) aD) (vV 3)<|vV 3
def jJ:Fk P w K mg base 10 "first_sum" kZ:=by
 refine fk ["some"] T.f41 T.z ?_;intro _ _ _ _ _ _ _ O J S z;exact aF<|aP<|Bp (dl1 [] (bT<|vV 0) (λ_ _ _ _=>(jA<|jG<|vV 0))<|λ_ _ _ _=>(vV 0)) aD
def zai:Fk P w K mg base 14 "entry_of" nJ:=by
 refine fk ["made", "thing"] T.f42 T.z ?_;intro _ _ _ _ _ _ _ O J S z;exact au (G7 1<|Bq (zaI T)<|a1<|vV 0)<|aF<|aP<|bD<|a2 (vV 1)<|Bq (zaX T)<|a2 (Bq (jJ T)<|a1<|vV 0)<|Bq (jJ T)<|a1<|vV 1
def ahh:FkX P w K mg base 19 "row_raw" zx:=by
 refine fkX (k:=18) ["rows", "things", "k"] T.f43 T.z ?_;intro _ _ _ _ _ _ _ J O S z;refine fX (λ_=>trivial) ?_ ?_;exact TF (KY (Io (oJ qq) (Bp (Bp (vV 0)<|vV 2) aD) aR)<|Ay<|Io (VP qq) (Bq (T5 T)<|a3 (vV 0) (vV 1)<|vV 2)<|bD cX).pt (jd<|zaw hh (by rfl) (by rfl) T.xm_Tied T.xi_Tied T.xf_Tied ((aiC T).mono (by decide)) J (by exact T.b_Tied_init) T.xa_Tied (by rfl)<|vV 2) zbC;refine jd ?_;exact pD<|aP<|Bq (Uh T)<|a3 (vV 0) (vV 1)<|vV 2
def ahb:FkX P w K mg base 20 "decided" zy:=by
 refine fkX (k:=19) ["rows", "claim", "paper", "made", "k", "sums"] T.f45 T.z ?_;intro _ _ _ _ _ _ _ O J S z;refine fX (λ_=>trivial) ?_ ?_;exact pD<|G7 2<|jm cX
 refine fX (λ_=>trivial) ?_ ?_;exact pD<|G7 3<|jm cX
 refine fX (λ_=>trivial) ?_ ?_;exact ajx PassesOwn.leaving hh (λ_=>trivial) (TK<|a1<|Iu fU NQ<|a1<|vV 0) (OD 4)<|jd<|TF (Io (oJ qq) (Bp (Bp (vV 0)<|vV 4) aD) aR) (jd<|pD<|bZ<|bW (vV 2) (a1<|bD<|a2 (Bq (nj T)<|a2 (vV 0)<|vV 4)<|Bq (iH T)<|a2 aD<|Bq (gG T)<|a1<|vV 0) (by rfl) (gY<|by rfl) (by rfl) (aO<|by rfl)<|by rfl)<|fX (λ_=>trivial) (Lj (i:=5) (by assumption) (by rfl) (by exact Or.inl rfl)<|agD (ahh T)<|a3 (vV 0) (Qu [] (bT<|vV 2)<|λ_ _ _ _=>(Bp (vV 0) aD))<|vV 4)<|fX (λ_=>trivial) (pD<|dN (Dk<|jG<|Iu (abX hh) boot_any<|a1<|vV 5) (aF<|aP<|bD<|a2 aR<|vV 4) bK)<|fX (λ_=>trivial) (pD<|bZ<|bW (vV 2) (a1<|Bq (zai T)<|a1<|vV 5) (by rfl) (gY<|by rfl) (by rfl) (aO<|by rfl)<|by rfl)<|jd<|pD<|bZ<|bW (vV 3) (a1<|Bq (jJ T)<|a1<|vV 5) (by rfl) (gY<|by rfl) (by rfl) (aO<|by rfl)<|by rfl
 refine jd ?_;exact pD<|aP<|Bq (ahO T)<|aC (vV 0)<|a3 (vV 1) (vV 2)<|vV 3
def mD:Fk P w K mg base 10 "_law_cell" vC:=by
 refine fk ["_law_script", "_law_k"] T.f46 T.z ?_;intro _ _ _ _ _ _ _ O J S z;exact au (dN (Io aaf (vV 1)<|Iu fU NQ<|a1<|vV 0) (aF<|aP<|Bp (vV 0)<|vV 1) bK)<|aF<|aP aD
def DW:Fk P w K mg base 10 "_law_bag" BW:=by
 refine fk (k:=9) ["_law_cell_here"] T.f47 T.z ?_;intro _ _ _ _ _ _ _ O J S z;exact aF<|aP<|jm<|a2 (bY aaC (Iu Ox boot_abs<|a1<|vV 0)<|dct K4 boot_int<|a1<|Tc agP (Iu Ox boot_abs<|a1<|vV 0)<|bY aeN aD aD)<|bY tG (Iu Ox boot_abs<|a1<|vV 0) aD
def fY:Fk P w K mg base 10 "_law_draw" jc:=by
 refine fk (k:=9) ["_law_bag_here", "_law_many", "_law_found"] T.f48 T.z ?_;intro _ _ _ _ _ _ _ O J S z;refine au (dN (Io Pn (Bp (vV 0) aD) aD) (au (G7 2<|bY tG (Bp (vV 0) aD)<|vV 1)<|au (oM (bY Am (Bp (vV 0) aD)<|vV 1)<|oW (vV 0) aD set_list GJ)<|aF<|aP<|vV 2) bK) ?_;refine au (oM (bY tG (bY bC (bY lK (Bp (vV 0) aD) aD) aD) aD)<|oW (vV 0) aD set_list GJ) ?_;exact aF<|aP<|bY tG (bY Am (bY tG (bY lK (Bp (vV 0) aD)<|bY bC (bY Am (Bp (vV 0) aD) aD) aD) aD) aD)<|vV 1
def yF:Fk P w K mg base 10 "_law_asks" FZ:=by
 refine fk (k:=9) ["_law_word", "_law_asks_here"] T.f49 T.z ?_;intro _ _ _ _ _ _ _ O J S z;refine au ?_ ?_;with_reducible exact G7 1 (aaO (RZ.cons (dX cX) (RZ.cons (dX (a2 aR aR)) (RZ.cons (dX (a2 aR aR)) (RZ.cons (dX (a2 aR aR)) RZ.nil)))) (by with_unfolding_all exact List.cons_ne_nil _ _) (by with_unfolding_all exact Ow rfl))
 refine au (oM (dX<|aC aR<|aC aR<|a3 aR aR aR)<|oW (vV 1) aR set_dict m7) ?_;refine au (oM (dX<|a2 aR aR)<|oW (vV 1) aR set_dict m7) ?_;refine au (oM (dX<|a3 aR aR aR)<|oW (vV 1) aR set_dict m7) ?_;exact aF<|aP<|ac8 (vV 1) (vV 0) (by intro _ _;rfl)
def xG:Fk P w K mg base 10 "_law_sort" wJ:=by
 refine fk (k:=9) ["_law_row_here"] T.f50 T.z ?_;intro _ _ _ _ _ _ _ O J S z;refine au (dN (G9 (Io (oJ qq) (Bp (vV 0) aD) aR)<|yh<|Io (oJ qq) (Bp (vV 0) aD) aR).pt (aF<|aP aR) bK) ?_;exact aF<|aP<|Bp (dX<|a2 aR aR)<|dct K4 boot_int<|a1<|Tc (oJ qq) (Bp (vV 0) aD) aR
def ahZ:Fk P w K mg base 11 "_law_pick" Fv:=by
 refine fk (k:=10) ["_law_bag_here", "_law_rows", "_law_sort_here", "_law_numbers"] T.f51 T.z ?_;intro _ _ _ _ _ _ _ O J S z;refine au (MN [1,2] (i:=3) (by assumption) (by rfl) (by exact Or.inl rfl) hh (cD<|by rfl) G8 (G6<|cD<|by rfl) (TK<|a1<|Iu fU NQ<|a1<|vV 1) (λ_ _ _ _=>(jA<|Io (oJ qq) (Bq (xG T)<|a1<|Bp (vV 1)<|vV 0)<|vV 2))<|λ_ _ _ _=>(vV 0)) ?_;exact aF<|aP<|Bp (vV 3)<|Bq (fY T)<|a2 (vV 0)<|Iu fU NQ<|a1<|vV 3
def alO:Fk P w K mg base 12 "_law_row" Ni:=by
 refine fk (k:=11) ["_law_bag_here", "_law_rows", "_law_frees", "_law_sorts", "_law_words", "_law_word", "_law_lacking"] T.f52 T.z ?_;intro _ _ _ _ _ _ _ O J S z;refine au (G7 3<|Qu [] (bT<|vV 1)<|λ_ _ _ _=>(Bq (xG T)<|a1<|vV 0)) ?_;refine au ?_ ?_;(refine G7 4 ?_;refine dX ?_;refine aC aR ?_;refine aC aR ?_;refine aC aR ?_;refine aC aR ?_;refine aC aR ?_;refine aC aR ?_;refine aC aR ?_;exact a3 aR aR aR);refine au (G7 5<|Bp (vV 4)<|Bq (fY T)<|a2 (vV 0) aD) ?_;refine au (MN [3] (i:=6) (by assumption) (by rfl) (by exact Or.inl rfl) hh (cD<|by rfl) G8 (G6<|cD<|by rfl) (bT<|Bq (yF T)<|a1<|vV 5) (λ_ _ _ _=>(jA<|Io (acp qq) (vV 0)<|vV 1))<|λ_ _ _ _=>(vV 0)) ?_;refine au (dN (G9 (Io aaf (Iu fU NQ<|a1<|vV 1)<|vV 2)<|yh<|Io Pn (Iu fU NQ<|a1<|vV 6) aD).pt (aF<|G7 5<|Bp (dX<|a2 aR aR)<|dct K4 boot_int<|a1<|Tc aaf (Iu fU NQ<|a1<|vV 1)<|vV 2) bK) ?_;exact aF<|aP<|dct dZ R7<|a1<|bY bC (dX<|a1<|vV 5)<|Qu [0,1] (bT<|Bq (yF T)<|a1<|vV 5)<|λ_ _ _ _=>(Bq (ahZ T)<|a3 (vV 1) (vV 2)<|vV 0)
def jL:Fk P w K mg base 10 "_law_reach" yE:=by
 refine fk (k:=9) ["_law_rows", "_law_reaches", "_law_row_here", "_law_first", "_law_some"] T.f53 T.z ?_;intro _ _ _ _ _ _ _ O J S z;refine au (MN [1] (i:=4) (by assumption) (by rfl) (by exact Or.inl rfl) hh (cD<|by rfl) G8 (G6<|cD<|by rfl) (bT<|HY (vV 2) (kY aD) qT) (λ_ _ _ _=>fJ)<|λ_ _ _ _=>(Bp (vV 1)<|vV 0)) ?_;refine au (dN (Io (oJ qq) (Bp (vV 2) aD) aR) (aF<|aP<|Iu (YC hh) boot_max<|a2 (vV 3)<|dct K4 boot_int<|a1<|Tc Pn (Iu fU NQ<|a1<|dl1 [] (bT<|vV 0) (λ_ _ _ _=>(jA<|Io (oJ qq) (Bp (vV 0) aD) aR))<|λ_ _ _ _=>(vV 0)) aD) bK) ?_;refine au (dN (Io (oJ qq) (Bp (vV 2) aD) aR) (aF<|aP<|bY lK aD<|Iu (acI hh) boot_sum<|a1<|vV 4) bK) ?_;refine au (dN (Io (oJ qq) (Bp (vV 2) aD) aR) (aF<|aP<|bY bC (bY lK aD<|Bp (vV 4) aD)<|Bp (vV 4) aD) bK) ?_;refine au (dN (Io (oJ qq) (Bp (vV 2) aD) aR) (aF<|aP<|bY bC (bY bC (Bp (vV 4) aD)<|bY lK aD<|Bp (vV 4) aD)<|bY lK aD<|Bp (vV 4) aD) bK) ?_;exact aF<|aP<|Iu (acI hh) boot_sum<|a1<|vV 4
def tY:Fk P w K mg base 13 "_law_near_rows" mj:=by
 refine fk (k:=12) ["_law_script", "_law_size", "_law_frees", "_law_rows", "_law_reaches", "_law_weights", "_law_most", "_law_k", "_law_bag_here", "_law_row_here"] T.f54 T.z ?_;intro _ _ _ _ _ _ _ hr nd hc z;refine au (G7 3<|jm cX) ?_;refine au (G7 4<|jm cX) ?_;refine au (G7 5<|jm cX) ?_;refine au (G7 6<|Bp (dX<|aC aD<|aC aD<|aC aD<|aC aD<|aC aD<|a3 aD aD aD)<|vV 2) ?_;refine au (iz R8 hh (TK<|a1<|vV 1) (OD 7)<|au (G7 8<|Bq (DW T)<|a1<|Bq (mD T)<|a2 (vV 0)<|bY bC aD<|vV 7)<|au (G7 9<|Bq (alO T)<|a3 (vV 8) (vV 3)<|vV 2)<|au (dN (KY (Io (oJ qq) (Bp (vV 9) aD) aR)<|Ay<|Io Pn (Bq (fY T)<|a2 (vV 8) aD) aD).pt (aF<|G7 9<|bD<|aC aR<|a3 (Bp (vV 9) aD) (Bp (Bp (vV 3)<|Bp (vV 9) aD)<|bY bC aD<|Bq (fY T)<|a2 (vV 8) aD)<|Bp (vV 9) aD) bK)<|au (dN (G9 (Io Pn (Bq (jL T)<|aC (vV 3)<|a3 (vV 4) (vV 9) aD)<|vV 6)<|yh<|Io Pn (Bq (jL T)<|aC (vV 3)<|a3 (vV 5) (vV 9) aD) aD).pt (aF<|G7 9<|bD<|a3 aR aD<|Iu (ace hh) boot_min<|a2 aD<|bY vQ (vV 2) aD) bK)<|au (bZ<|bW (vV 4) (a1<|Bq (jL T)<|aC (vV 3)<|a3 (vV 4) (vV 9) aD) (by rfl) (gY<|by rfl) (by rfl) (aO<|by rfl)<|by rfl)<|au (bZ<|bW (vV 5) (a1<|Bq (jL T)<|aC (vV 3)<|a3 (vV 5) (vV 9) aD) (by rfl) (gY<|by rfl) (by rfl) (aO<|by rfl)<|by rfl)<|aF<|bZ<|bW (vV 3) (a1<|vV 9) (by rfl) (gY<|by rfl) (by rfl) (aO<|by rfl)<|by rfl) ?_;exact aF<|aP<|vV 3
def aie:Fk P w K mg base 10 "_law_one" M4:=by
 refine fk ["_law_letters"] T.f55 T.z ?_;intro _ _ _ _ _ _ _ O J S z;refine aF ?_;with_reducible exact aP (bD (a1 (bD (a2 (bY U8 (bD (a1 aD)) (vV 0)) aD))))
def Ov:Fk P w K mg base 10 "_law_by" Ul:=by
 refine fk ["_law_part", "_law_number"] T.f56 T.z ?_;intro _ _ _ _ _ _ _ O J S z;exact aF<|aP<|dct dZ R7<|a1<|Qu [1] (bT<|vV 0)<|λ_ _ _ _=>(bD<|a2 (Bp (vV 0) aD)<|bY lK (Bp (vV 0) aD)<|vV 1)
def zay:Fk P w K mg base 19 "_law_paper" zL:=by
 refine fk (k:=18) ["_law_rows", "_law_bag_here", "_law_things", "_law_paper_here", "_law_one_here", "_law_k", "_law_sign"] T.f57 T.z ?_;intro _ _ _ _ _ _ _ O J S z;refine au (G7 2<|jm cX) ?_;refine au (G7 3<|jm cX) ?_;refine au (G7 4<|Bq (aie T)<|a1<|Bq (gG T)<|a1<|vV 0) ?_;refine au (iz R8 hh (TK<|a1<|Iu fU NQ<|a1<|vV 0) (OD 5)<|au (dN (Io (oJ qq) (Bp (Bp (vV 0)<|vV 5) aD) aR) (aF<|bZ<|bW (vV 3) (a1<|bD<|a2 (Bq (nj T)<|a2 (vV 0)<|vV 5)<|vV 4) (by rfl) (gY<|by rfl) (by rfl) (aO<|by rfl)<|by rfl)<|au (G7 6 aD)<|au (dN (Io ac2 (vV 1) K8) (aF<|G7 6<|bY vQ aD<|bY lK aD<|Bq (fY T)<|a2 (vV 1) aD) bK)<|aF<|bZ<|bW (vV 3) (a1<|bD<|a2 (dct dZ R7<|a1<|Qu [6] (bT<|Bq (Uh T)<|a3 (vV 0) (vV 2)<|vV 5)<|λ_ _ _ _=>(Bq (Ov T)<|a2 (vV 0)<|vV 1))<|Bq (Ov T)<|a2 (vV 4)<|vV 6) (by rfl) (gY<|by rfl) (by rfl) (aO<|by rfl)<|by rfl)<|aF<|bZ<|bW (vV 2) (a1<|Bp (Bp (vV 3)<|vV 5) aD) (by rfl) (gY<|by rfl) (by rfl) (aO<|by rfl)<|by rfl) ?_;exact aF<|aP<|vV 3
def ahS:Fk P w K mg base 20 "_law_head" Ey:=by
 refine fk (k:=19) ["_law_rows", "_law_frees", "_law_paper_here", "_law_things", "_law_k"] T.f58 T.z ?_;intro _ _ _ _ _ _ _ O J S z;refine au (G7 2<|Bq (zay T)<|a2 (vV 0) K8) ?_;refine au (MN [] (i:=3) (by assumption) (by rfl) (by exact Or.inl rfl) hh (cD<|by rfl) G8 (G6<|cD<|by rfl) (bT<|vV 2) (λ_ _ _ _=>fJ)<|λ_ _ _ _=>(Bp (vV 0) aD)) ?_;refine au (iz R8 hh (TK<|a1<|Iu fU NQ<|a1<|vV 0) (OD 4)<|au (dN (Io (oJ qq) (Iu fU NQ<|a1<|dl1 [] (bT<|Bp (vV 3)<|vV 4) (λ_ _ _ _=>(jA<|Io (VP qq) (vV 0)<|bD cX))<|λ_ _ _ _=>(vV 0)) aD) (aF<|aP<|HY (vV 0) qT<|kY<|vV 4) bK)<|aF<|dN (KY (Io (oJ qq) (Bp (Bp (vV 0)<|vV 4) aD) aR)<|Ay<|Io (VP qq) (Bq (T5 T)<|a3 (vV 0) (vV 3)<|vV 4)<|bD cX).pt (aF<|aP<|HY (vV 0) qT<|kY<|vV 4) bK) ?_;exact aF<|aP<|vV 0
def aiY:Fk P w K mg base 11 "_law_last" Dg:=by
 refine fk (k:=10) ["_law_bag_here", "_law_rows", "_law_n", "_law_line", "_law_flat", "_law_round_one", "_law_some", "_law_four"] T.f59 T.z ?_;intro _ _ _ _ _ _ _ S O U z;refine au (G7 2<|Iu fU NQ<|a1<|vV 1) ?_;refine au ?_ ?_;with_reducible exact G7 3 (dX (a3 (bD (a3 aR aD aD)) (bD (a3 aR aD aD)) (bD (a3 aR (vV 2) (bY bC (vV 2) aD)))))
 refine au ?_ ?_;with_reducible exact G7 4 (bY bC (vV 3) (dX (a1 (bD (aC aR (aC aD (aC aD (a3 (bY bC (vV 2) aD) aD aD))))))))
 refine au ?_ ?_;with_reducible exact G7 5 (dX (a1 (bD (aC aR (aC aD (aC aD (a3 aD aD aD)))))))
 refine au ?_ ?_;with_reducible exact G7 6 (jm (a3 (dX (a1 (bD (a3 aR aD aD)))) (dX (a2 (bD (a3 aR aD aD)) (bD (a3 aR (vV 2) (vV 2))))) (bY bC (HY (vV 3) qT (kY aD)) (dX (a2 (bD (a3 aR aD aD)) (bD (a3 aR (vV 2) (bY bC (vV 2) aD))))))))
 refine au ?_ ?_;with_reducible exact bZ (hs:=by with_unfolding_all rfl) (bW (vV 6) (a1 (dX (a1 (bD (aC aR (aC aD (aC aD (a3 aD aD aD)))))))) (by with_unfolding_all rfl) (gY (by with_unfolding_all rfl)) (by with_unfolding_all rfl) (aO (by with_unfolding_all rfl)) (by with_unfolding_all rfl))
 refine au ?_ ?_;with_reducible exact bZ (hs:=by with_unfolding_all rfl) (bW (vV 6) (a1 (bY bC (vV 3) (dX (a3 (bD (a3 aR (bY bC (vV 2) aD) (vV 2))) (bD (a3 aR aD aD)) (bD (aC aR (aC aD (aC aD (a3 (bY bC (vV 2) aD) (bY bC (vV 2) aD) aD))))))))) (by with_unfolding_all rfl) (gY (by with_unfolding_all rfl)) (by with_unfolding_all rfl) (aO (by with_unfolding_all rfl)) (by with_unfolding_all rfl))
 refine au ?_ ?_;with_reducible exact G7 7 (bY bC (vV 3) (dX (aC (bD (a3 aR aD aD)) (aC (bD (a3 aR aD aD)) (a3 (bD (a3 aR (bY bC (vV 2) aD) (bY bC (vV 2) aD))) (bD (a3 aR aD aD)) (bD (a3 aR aD aD)))))))
 refine au ?_ ?_;with_reducible exact G7 7 (bY bC (vV 7) (dX (a3 (bD (a3 aR (bY bC (vV 2) aD) (bY bC (vV 2) aD))) (bD (a3 aR (bY bC (vV 2) aD) (bY bC (vV 2) aD))) (bD (a3 aR (vV 2) (bY bC (vV 2) aD))))))
 refine au ?_ ?_;with_reducible exact bZ (hs:=by with_unfolding_all rfl) (bW (vV 6) (a1 (bY bC (vV 7) (dX (a1 (bD (aC aR (aC aD (aC aD (a3 (bY bC (vV 2) aD) (bY bC (vV 2) aD) aD))))))))) (by with_unfolding_all rfl) (gY (by with_unfolding_all rfl)) (by with_unfolding_all rfl) (aO (by with_unfolding_all rfl)) (by with_unfolding_all rfl))
 refine au ?_ ?_;with_reducible exact dN (Io (oJ qq) (HY (vV 1) (kY aD) (kY aD)) (dX (a1 (bD (a1 aR))))) (au (bZ (hs:=by with_unfolding_all rfl) (bW (vV 6) (a1 (bY bC (vV 4) (dX (a1 (bD (a3 aR (bY bC (vV 2) aD) (vV 2))))))) (by with_unfolding_all rfl) (gY (by with_unfolding_all rfl)) (by with_unfolding_all rfl) (aO (by with_unfolding_all rfl)) (by with_unfolding_all rfl))) (au (bZ (hs:=by with_unfolding_all rfl) (bW (vV 6) (a1 (bY bC (vV 4) (dX (a1 (bD (aC aR (a3 (bY bC (vV 2) aD) aD aD))))))) (by with_unfolding_all rfl) (gY (by with_unfolding_all rfl)) (by with_unfolding_all rfl) (aO (by with_unfolding_all rfl)) (by with_unfolding_all rfl))) (au (bZ (hs:=by with_unfolding_all rfl) (bW (vV 6) (a1 (bY bC (vV 5) (dX (a1 (bD (aC aR (a3 (vV 2) aD aD))))))) (by with_unfolding_all rfl) (gY (by with_unfolding_all rfl)) (by with_unfolding_all rfl) (aO (by with_unfolding_all rfl)) (by with_unfolding_all rfl))) (aF (bZ (hs:=by with_unfolding_all rfl) (bW (vV 6) (a1 (bY bC (vV 5) (dX (aC (bD (a3 aR aD aD)) (a3 (bD (a3 aR aD aD)) (bD (a3 aR (bY bC (vV 2) aD) (bY bC (vV 2) aD))) (bD (aC aR (a3 (vV 2) (bY bC (vV 2) aD) aD)))))))) (by with_unfolding_all rfl) (gY (by with_unfolding_all rfl)) (by with_unfolding_all rfl) (aO (by with_unfolding_all rfl)) (by with_unfolding_all rfl))))))) bK
 exact aF<|aP<|Bp (vV 6)<|Bq (fY T)<|a2 (vV 0)<|Iu fU NQ<|a1<|vV 6
def zaq:Fk P w K mg base 21 "_law_asked" zP:=by
 refine fk (k:=20) ["_law_rows", "_law_found", "e"] T.f60 T.z ?_;intro _ _ _ _ _ _ _ b Y c z;obtain⟨_,_,_,J,O,S,U⟩:=ahb T;refine au ((aiE (i:=2) Y (by rfl) (by rfl) (by rfl) T.xm_EaselError T.xd_EaselError ⟨rfl,rfl⟩ rfl (λanq xe a=>(jd (Lj (i:=1) Y (by rfl) (by exact Or.inl rfl) (Lz (J.mono (by decide)) b (by rfl) (by exact O) (by exact S) (by exact U) (fL (Gu aa2 (by rfl) (by exact T.z _ (by decide)) boot_list (fL (dv 0 (pv 0)) cX (aO (by rfl))) (by decide) (by decide) (aO (by rfl)) (bO (by rfl))) (fL (bD (fL aR (fL aD (fL aD cX (aO (by rfl))) (aO (by rfl))) (aO (by rfl)))) cX (aO (by rfl))) (aO (by rfl))) (by decide) (aO (by rfl)) (bO (by rfl)))))) (λa d=>by
  exact(au (dN (G9 (Dk (jG (UG (by rfl) (by exact T.z _ (by decide)) (dv 2 (pv 2)) (gC (v:=.ref t.x_Tied) (by rfl) T.xm_Tied (by rfl)) (Lg.own T.xd_Tied) (aO (by rfl)) (aO (by rfl)) (bO (by rfl))))) (G9 (jG (adA (by rfl) (by exact T.z _ (by decide)) (dv 2 (pv 2)) (Sg.cons (gC (v:=.ref t.x_Stuck) (by rfl) T.xm_Stuck (by rfl)) (Lg.own T.xd_Stuck) (Sg.cons (gC (v:=.ref t.x_TooMuch) (by rfl) T.xm_TooMuch (by rfl)) (Lg.own T.xd_TooMuch) Sg.nil (aO (by rfl))) (aO (by rfl))) (by exact Ow rfl) (aO (by rfl)) (aO (by rfl)) (bO (by rfl)))) (yh (Dk (jG (UG (by rfl) (by exact T.z _ (by decide)) (dv 2 (pv 2)) (alG (v:=.ty "ValueError") (by rfl) (by exact T.z _ (by decide)) PyProof.Rows.Boot.«ValueError» (by rfl)) Lg.val (aO (by rfl)) (aO (by rfl)) (bO (by rfl)))))))).pt (aF (aP (bD (fL aR (fL aD cX (aO (by rfl))) (aO (by rfl)))))) bK) (aF (aP (bD (fL aR (fL (abS (dv 2 (pv 2)) (by rfl)) cX (aO (by rfl))) (aO (by rfl)))))))))) ?_
 exact aF<|aP<|vV 1
def aa7 {f fd}(F:Ss K "law" "law" Vq f fd):lJ P w K mg base O8 22 f fd ["_law_script"] (lift K Zd):=by
 have S:g8 ["_law_script", "_law_frees", "_law_size", "_law_rows", "_law_bag_here", "_law_more", "_law_at", "_law_word"] ["_law_script"] (bw Vq):=⟨rfl,rfl,rfl,by decide +kernel,rfl,by decide +kernel,by decide +kernel⟩
 refine afV (k:=21) F S λ_ _ _ _ _ _ J=>?_;have U:=J.calm (by decide);have O:=S.nd;have z:=T.z;refine au (G7 1<|bY bC aD<|bY tG (Bq (mD T)<|a2 (vV 0) aD) aD) ?_;refine au (G7 2<|Iu (YC hh) boot_max<|a2 (vV 1)<|bY bC aD<|bY tG (bY Am (Bq (mD T)<|a2 (vV 0) aD) aD) aD) ?_;refine au (G7 3<|Bq (ahS T)<|a2 (Bq (tY T)<|a3 (vV 0) (vV 2)<|vV 1)<|vV 1) ?_;refine au (G7 4<|Bq (DW T)<|a1<|Bq (mD T)<|a2 (vV 0) aD) ?_;refine au (G7 5<|Bq (aiY T)<|a2 (vV 4)<|vV 3) ?_;refine au (G7 3<|bY bC (vV 3)<|vV 5) ?_;refine au (G7 6<|bY vQ (Iu fU NQ<|a1<|vV 3) aD) ?_;refine au (G7 7<|Bp (dX<|a2 aR aR)<|dct K4 boot_int<|a1<|ad3 (Tc (oJ qq) (Bp (Bp (vV 3)<|vV 6) aD) aR)<|aep<|Tc Pn (Bp (Bp (vV 3)<|vV 6) aD) aD) ?_;refine au (G7 3<|bY bC (vV 3)<|Qu [] (TK<|a1<|Iu (ace hh) boot_min<|a2 (bY vQ aD<|Iu fU NQ<|a1<|vV 3)<|Bq (fY T)<|a2 (vV 4) aD)<|λ_ _ _ _=>(bD<|a3 aR aD aD)) ?_;exact aF<|aP<|Tc (oJ qq) (Bq (zaq T)<|a1<|vV 3)<|bD<|a2 (vV 7)<|vV 6
end
variable {mg:Str->Option Mk}{K:Az}
abbrev fO (x:Str)(s:Stmt)(O:Mk)(od:Option Addr)(kV dc J:Mk)(U:Option Addr)(S ct:Mk)(sl:Array (Option Mk)):Option Obj:=Go ⟨O,od,.func (Wk x x (lM s) (eX s) (bw s) .none kV dc J U S ct),sl⟩
abbrev sR (f:Addr):Option (Option Mk):=Go (Go (.ref f))
abbrev alu (x q:Str)(s:Stmt)(O:Mk)(od:Option Addr)(kV dc J:Mk)(U:Option Addr)(S ct:Mk)(sl:Array (Option Mk)):Option Obj:=Go ⟨O,od,.func (Wk x q (lM s) (eX s) (bw s) .none kV dc J U S ct),sl⟩
abbrev dJ (K:Az)(x:Str)(s:Stmt):Prop:=∃f S od kV dc O U J ct sl,K7 K Iz x=sR f/\K.lookup f=fO x s S od kV dc O U J ct sl/\Yc K J x=true/\RB K (.ref f)=true
variable {x:Str}
def Jk {s f S}{od kV dc O}{U J ct}{sl}(a:K7 K Iz x=sR f)(l:K.lookup f=fO x s S od kV dc O U J ct sl)(c:Yc K J x=true)(k:RB K (.ref f)=true):dJ K x s:=⟨f,S,od,kV,dc,O,U,J,ct,sl,a,l,c,k⟩
def nl1 {us:List Mk}(h:us.length=1):∃a,us=[a]:=match us,h with
 | [a],_=>⟨a,rfl⟩
def nl2 {us:List Mk}(h:us.length=2):∃a b,us=[a,b]:=match us,h with
 | [a,b],_=>⟨a,b,rfl⟩
def nl3 {us:List Mk}(h:us.length=3):∃a b c,us=[a,b,c]:=match us,h with
 | [a,b,c],_=>⟨a,b,c,rfl⟩
def nl4 {us:List Mk}(h:us.length=4):∃a b c d,us=[a,b,c,d]:=match us,h with
 | [a,b,c,d],_=>⟨a,b,c,d,rfl⟩
def bJ {h}{st}{ps}(X:K.In h)(G:h.Ns Iz mg)(H:dJ K x st)(hb:∀kV doc pm  (an) (cdv ct) (us),us.length=ps.length->bindArgs (Wk x x (lM st) (eX st) (bw st) .none kV doc pm an cdv ct) ⟨us,[]⟩=pure (ps.zip us):=by intro _ _ _ _ _ _ us hl;first|(obtain⟨_,rfl⟩:=nl1 hl;rfl)|(obtain⟨_,_,rfl⟩:=nl2 hl;rfl)|(obtain⟨_,_,_,rfl⟩:=nl3 hl;rfl)|(obtain⟨_,_,_,_,rfl⟩:=nl4 hl;rfl)):At K mg x st ps:=by
 obtain⟨f,oc,od,kV,dc,pm,an,cd,ct,sl,a,l,c,k⟩:=H;exact⟨f,_,Gd l c k,Rv X G a,(Gd l c k).binds hb⟩
def zc {n}{l}(a:mg n=JI)(b:∀m∈l,mg m=JI):∀m∈n::l,mg m=JI:=by simp_all
def all_mk {l:PySem.W.OpenLaw}{w:Cd}{h:Heap}{fa:Addr}(hlaw:∀ns:List Int,ns.length<=63->Zd [.kls (ns.map W.int)] g0 (λw _=>w=.bl true) EF)(X:K.In h)(G:h.Ns Iz mg)(hfa:mg "law" = Go (.ref fa))
  (h0:dJ K "divisor_of_two" (top 7))
  (h1:dJ K "divisor" (top 8))
  (h2:dJ K "number_sum" (top 14))
  (h3:dJ K "letter_sum" (top 15))
  (h4:dJ K "sum_of_totals" (top 16))
  (h5:dJ K "with_times" (top 17))
  (h6:dJ K "plus" (top 18))
  (h7:dJ K "minus" (top 19))
  (h8:dJ K "packed" (top 20))
  (h9:dJ K "unpacked" (top 21))
  (h10:dJ K "packed_terms" (top 22))
  (h11:dJ K "check_powers" (top 23))
  (h12:dJ K "times" (top 24))
  (h13:dJ K "part_of_term" (top 25))
  (h14:dJ K "take_away" (top 26))
  (h15:dJ K "parted" (top 27))
  (h16:dJ K "common" (top 33))
  (h17:dJ K "without" (top 34))
  (h18:dJ K "ends_below_nought" (top 35))
  (h19:dJ K "lighter" (top 36))
  (h20:dJ K "free_rows" (top 45))
  (h21:dJ K "letter_count" (top 47))
  (h22:dJ K "free_thing" (top 48))
  (h23:dJ K "less_swapped" (top 49))
  (h24:dJ K "sum_cross" (top 50))
  (h25:dJ K "sum_dot" (top 51))
  (h26:dJ K "sum_turn" (top 52))
  (h27:dJ K "sums_times" (top 53))
  (h28:dJ K "sums_minus" (top 54))
  (h29:dJ K "sum_together" (top 55))
  (h30:dJ K "doubled" (top 56))
  (h31:dJ K "sum_table" (top 57))
  (h32:dJ K "turned_rows" (top 58))
  (h33:dJ K "rows_times" (top 59))
  (h34:dJ K "rows_on_both_sides" (top 60))
  (h35:dJ K "rows_size" (top 61))
  (h36:dJ K "curve_raw" (top 62))
  (h37:dJ K "pole_raw" (top 63))
  (h38:dJ K "other_raw" (top 64))
  (h39:dJ K "raw" (top 65))
  (h40:dJ K "tie" (top 66))
  (h41:dJ K "first_sum" (top 71))
  (h42:dJ K "entry_of" (top 72))
  (h43:dJ K "row_raw" (top 73))
  (h44:dJ K "answer" (top 74))
  (h45:dJ K "decided" (top 75))
  (h46:dJ K "_law_cell" (top 77))
  (h47:dJ K "_law_bag" (top 78))
  (h48:dJ K "_law_draw" (top 79))
  (h49:dJ K "_law_asks" (top 80))
  (h50:dJ K "_law_sort" (top 81))
  (h51:dJ K "_law_pick" (top 82))
  (h52:dJ K "_law_row" (top 83))
  (h53:dJ K "_law_reach" (top 84))
  (h54:dJ K "_law_near_rows" (top 85))
  (h55:dJ K "_law_one" (top 87))
  (h56:dJ K "_law_by" (top 88))
  (h57:dJ K "_law_paper" (top 89))
  (h58:dJ K "_law_head" (top 91))
  (h59:dJ K "_law_last" (top 92))
  (h60:dJ K "_law_asked" (top 93))
  (h61:dJ K "law" (top 94))
  (L:K7 K Iz "ValueError" = Go JI)
  (z_abs:K7 K Iz "abs" = Go JI)
  (z_any:K7 K Iz "any" = Go JI)
  (z_dict:K7 K Iz "dict" = Go JI)
  (z_int:K7 K Iz "int" = Go JI)
  (I:K7 K Iz "isinstance" = Go JI)
  (z_len:K7 K Iz "len" = Go JI)
  (z_list:K7 K Iz "list" = Go JI)
  (z_max:K7 K Iz "max" = Go JI)
  (z_min:K7 K Iz "min" = Go JI)
  (z_range:K7 K Iz "range" = Go JI)
  (z_reversed:K7 K Iz "reversed" = Go JI)
  (z_sorted:K7 K Iz "sorted" = Go JI)
  (z_sum:K7 K Iz "sum" = Go JI)
  (z_tuple:K7 K Iz "tuple" = Go JI)
  (z_zip:K7 K Iz "zip" = Go JI)
  {jF:Addr}{slk_CORNERS:Array (Option Mk)}{nk_CORNERS:Nat}{g:Addr}{F:Array (Option Mk)}{Q:Nat}{B:_}{A:_}{z:_}{d:Addr}{E:Array (Option Mk)}{P:Nat}{y:_}{x:_}{u:_}{b:Addr}{D:Array (Option Mk)}{N:Nat}{t:_}{r:_}{q:_}{Y:Addr}{C:Array (Option Mk)}{M:Nat}{p:_}{o:_}{m:_}
  (gk_CORNERS:K7 K Iz "CORNERS" = Go (Go (.ref jF)))
  (lk_CORNERS:K.lookup jF=Go ⟨.type "tuple",JI,.seq #[(.ref g),(.ref d),(.ref b),(.ref Y)] nk_CORNERS,slk_CORNERS⟩)
  (lk_CORNERS_0:K.lookup g=Go ⟨.type "tuple",JI,.seq #[(.int 0 B),(.int 0 A),(.int 1 z)] Q,F⟩)
  (Z:K.lookup d=Go ⟨.type "tuple",JI,.seq #[(.int 1 y),(.int 0 x),(.int 1 u)] P,E⟩)
  (V:K.lookup b=Go ⟨.type "tuple",JI,.seq #[(.int 0 t),(.int 1 r),(.int 1 q)] N,D⟩)
  (R:K.lookup Y=Go ⟨.type "tuple",JI,.seq #[(.int 1 p),(.int 1 o),(.int 1 m)] M,C⟩)
  (g_MOST_TERMS:∃n,K7 K Iz "MOST_TERMS" = Go (Go (.int 600 n)))
  (g_MOST_POWER:∃n,K7 K Iz "MOST_POWER" = Go (Go (.int 60 n)))
  (g_MOST_PAIRS:∃n,K7 K Iz "MOST_PAIRS" = Go (Go (.int 20000 n)))
  (g_FIELD:∃n,K7 K Iz "FIELD" = Go (Go (.int 65536 n)))
  {J:Addr}
  {j:Addr}
  {U:Addr}
  {S:Addr}
  {O:Addr}{odi_Tied ani_Tied:Option Addr}{sli_Tied:Array (Option Mk)}{oci_Tied kVi_Tied dci_Tied pmi_Tied cdi_Tied cti_Tied:Mk}
  (H:K7 K Iz "EaselError" = sR J) (i:xZ K J "EaselError" = true)
  (gx_Stuck:K7 K Iz "Stuck" = sR j) (xd_Stuck:xZ K j "Stuck" = true)
  (gx_TooMuch:K7 K Iz "TooMuch" = sR U) (xd_TooMuch:xZ K U "TooMuch" = true)
  (gx_Tied:K7 K Iz "Tied" = sR S) (xd_Tied:xZ K S "Tied" = true)
  (ai_Tied:Nq K (.ref S) "__init__" = sR O) (li_Tied:K.lookup O=alu "__init__" "Tied.__init__" iM oci_Tied odi_Tied kVi_Tied dci_Tied pmi_Tied ani_Tied cdi_Tied cti_Tied sli_Tied) (ci_Tied:Yc K cdi_Tied "Tied.__init__" = true) (ki_Tied:RB K (.ref O)=true)
  (xi_Tied:Bf K S O WX "ValueError.__new__" = true) (xf_Tied:Xl K (.ref O)=true) (xa_Tied:Sv K S "Tied" = true) (xs_Tied:adG K S "at" = true)
  : ∃fd:ML,(∀(s:AP) (v:Mk),BindsTo s fd ⟨[v],[]⟩ [("_law_script",v)])/\∀base:Heap,K.In base->base.Ns Iz mg->lJ l.prog w K mg base O8 22 fa fd ["_law_script"] (X4 K):=by
 have Fi_Tied:=Gd (st:=iM) li_Tied ci_Tied ki_Tied;have bi_Tied:=Fi_Tied.binds (ps:=["self", "at"]) λ_ _ _ _ _ _ us hl=>match us,hl with|[_,_],_=>rfl
 have T:∀base,Txt l.prog w K mg base ⟨J,j,U,S,O,_⟩:=λ_=>⟨bJ X G h0,bJ X G h1,bJ X G h2,bJ X G h3,bJ X G h4,bJ X G h5,bJ X G h6,bJ X G h7,bJ X G h8,bJ X G h9,bJ X G h10,bJ X G h11,bJ X G h12,bJ X G h13,bJ X G h14,bJ X G h15,bJ X G h16,bJ X G h17,bJ X G h18,bJ X G h19,bJ X G h20,bJ X G h21,bJ X G h22,bJ X G h23,bJ X G h24,bJ X G h25,bJ X G h26,bJ X G h27,bJ X G h28,bJ X G h29,bJ X G h30,bJ X G h31,bJ X G h32,bJ X G h33,bJ X G h34,bJ X G h35,bJ X G h36,bJ X G h37,bJ X G h38,bJ X G h39,bJ X G h40,bJ X G h41,bJ X G h42,bJ X G h43,bJ X G h44,bJ X G h45,bJ X G h46,bJ X G h47,bJ X G h48,bJ X G h49,bJ X G h50,bJ X G h51,bJ X G h52,bJ X G h53,bJ X G h54,bJ X G h55,bJ X G h56,bJ X G h57,bJ X G h58,bJ X G h59,bJ X G h60,zc (Qm X G L) (zc (Qm X G z_abs) (zc (Qm X G z_any) (zc (Qm X G z_dict) (zc (Qm X G z_int) (zc (Qm X G I) (zc (Qm X G z_len) (zc (Qm X G z_list) (zc (Qm X G z_max) (zc (Qm X G z_min) (zc (Qm X G z_range) (zc (Qm X G z_reversed) (zc (Qm X G z_sorted) (zc (Qm X G z_sum) (zc (Qm X G z_tuple) (zc (Qm X G z_zip) (λ_ h=>nomatch h)))))))))))))))),g_MOST_TERMS.imp λ_ e=>Rv X G e,g_MOST_POWER.imp λ_ e=>Rv X G e,g_MOST_PAIRS.imp λ_ e=>Rv X G e,g_FIELD.imp λ_ e=>Rv X G e,⟨_,Rv X G gk_CORNERS,λ_ _=>((mX lk_CORNERS (by simp<;>decide) (.cons adN (.cons adN (.cons adN (.cons adN .nil)))) λ_ _=>(jU ((mX lk_CORNERS_0 (by simp<;>decide) (.cons Je (.cons Je (.cons Je .nil))) λ_ _=>(jU uW (jU uW (jU uW G5)))) _ _) (jU ((mX Z (by simp<;>decide) (.cons Je (.cons Je (.cons Je .nil))) λ_ _=>(jU uW (jU uW (jU uW G5)))) _ _) (jU ((mX V (by simp<;>decide) (.cons Je (.cons Je (.cons Je .nil))) λ_ _=>(jU uW (jU uW (jU uW G5)))) _ _) (jU ((mX R (by simp<;>decide) (.cons Je (.cons Je (.cons Je .nil))) λ_ _=>(jU uW (jU uW (jU uW G5)))) _ _) G5))))) _ _)⟩,Rv X G H,i,Rv X G gx_Stuck,xd_Stuck,Rv X G gx_TooMuch,xd_TooMuch,Rv X G gx_Tied,xd_Tied,Fi_Tied,bi_Tied,xi_Tied,xf_Tied,xa_Tied,xs_Tied⟩
 obtain⟨f,oc,od,kV,dc,pm,an,cd,ct,sl,a,l,c,k⟩:=h61;have e:=hfa.symm.trans (Rv X G a);cases e;exact⟨_,λs v=>.of_eq rfl,λbase _ _=>ajY hlaw<|aa7 (T base)<|Gd (st:=Vq) l c k⟩
variable {XP:(Str->Option Mk)->Heap->Prop}
def walk {l:PySem.W.OpenLaw}{q}{loose}{YP d}{K:Params->Az}(S:l.most=Go 63)(J:d.params.defaults=[])
  (Y:∀w  (h),YP w h->(K w.params).In h)
  (F:∀w  (mg) (O) (h),(K w.params).In h->h.Ns Iz mg->mg d.name=Go (.ref O) ->
   ∃fd,(∀s u,BindsTo s fd ⟨[u],[]⟩ [("_law_script",u)])/\∀base,(K w.params).In base->base.Ns Iz mg->lJ l.prog w (K w.params) mg base O8 22 O fd ["_law_script"] (X4 (K w.params))) :
  PySem.W.WalkO q loose XP YP l.row.toRowW d [] (λf vs=>PySem.call f vs):=
 L2.Ol S (by decide) J ⟨λ_=>rfl,by decide,by decide⟩ Y F (λ_ _ a ns U c b=>⟨a,ns,rfl,b,c,U,λ_=>rfl⟩) λ_ _ _ _ _ z=>z
set_option hygiene false in
local macro_rules | `(tactic| trivial) => `(tactic| with_reducible exact Sm.lit (by decide))
set_option hygiene false in
local macro_rules | `(tactic| trivial) => `(tactic| with_reducible exact Sm.zero)
set_option hygiene false in
local macro_rules | `(tactic| trivial) => `(tactic| with_reducible exact Sm.neg (by trivial))
set_option hygiene false in
local macro_rules | `(tactic| trivial) => `(tactic| with_reducible exact Sm.sub (by trivial) (by trivial))
set_option hygiene false in
local macro_rules | `(tactic| trivial) => `(tactic| with_reducible exact Sm.add (by trivial) (by trivial))
set_option hygiene false in
local macro_rules | `(tactic| trivial) => `(tactic| with_reducible exact Sm.mul (by trivial) (by trivial))
set_option hygiene false in
local macro_rules | `(tactic| trivial) => `(tactic| with_reducible assumption)
def sU (h:Gh)(n)(c):(h.set n c).c n=Go c:=by show(if n=n then Go c else h.c n)=Go c;rw[if_pos rfl]
variable {h:Gh}{m n:Nat}
def j4 {c}(e:m≠n):(h.set n c).c m=h.c m:=by show(if m=n then Go c else h.c m)=_;rw[if_neg e]
def Ao (h:Gh)(c):(h.new c).c h.nx=Go c:=by show(if _=h.nx then Go c else h.c _)=Go c;rw[if_pos rfl]
def rA {c}(e:m≠h.nx):(h.new c).c m=h.c m:=by show(if m=h.nx then Go c else h.c m)=_;rw[if_neg e]
variable {ws:List W}
def iV (e:h.c n=Go (.lst ws)):view h (.loc n)=Go ws:=by simp[view,dF,e]
abbrev Sh (n:Nat)(h h':Gh):Prop:=h'.nx=h.nx/\∀m,m≠n->h'.c m=h.c m
def Sh.set {n h}{c}:Sh n h (h.set n c):=⟨rfl,λ_ e=>j4 e⟩
def gP {a b:Int}(h:0<b):a.fmod b=a % b:=by lia
def vU {a b:Int}(h:0<b):a.fdiv b=a / b:=by lia
def W9 {A B c}(e:c=true)(h:A):JC c A B:=by subst e;exact h
def aer {A B c}(e:c=false)(h:B):JC c A B:=by subst e;exact h
def aa9 {c}[Decidable c]{A B}(h1:c->A)(h2:¬c->B):JC (decide c) A B:=by
 by_cases h:c
 rw[decide_eq_true h];exact h1 h;rw[decide_eq_false h];exact h2 h
def eU {U:List W}{g:MG}{b:MS}{D:bN}(I:Nat->Sw->Gh->Prop)
  (J:∀(i:Nat) (w:W) (σ:Sw) (h:Gh) (N:Sw->Gh->Prop),(∀σ' h',I (i+1) σ' h'->N σ' h')->ws[i]?=Go w->I i σ h->g w σ h fun S h1=>b {D with nx:=N,ct:=N,bk:=D.nx} S h1)
  (O:∀σ h,I ws.length σ h->D.nx σ h):∀{σ:Sw}{h:Gh},I 0 σ h->iW ⟨U,JI⟩ g b D ws σ h:=by
 induction ws generalizing I with
 | nil=>intro σ h Y;exact O σ h Y
 | cons w ws a=>
  intro σ h Y;exact J 0 w σ h _ (fun σ' h' q=>(a _ (λi w σ h N c e hi=>J (i+1) w σ h N c (by simpa using e) hi) (fun σ h q=>O σ h q) q)) rfl Y
variable {te:ME}{tt:MT}{σ:Sw}{own:W->Option (List W)}{Q:WK}
def cU {U}{ix}(I:Nat->List W->Gh->Prop)
  (J:∀i w  (acc) (h) (N:List W->Gh->Prop),(∀O h',I (i+1) O h'->N O h')->ws[i]?=Go w->I i acc h ->
   ∃vs,own w=Go vs/\tt (vs.map Go++mY ix σ) h λc h1=>JC c (te (vs.map Go++mY ix σ) h1 λv h2=>N (acc++[v]) h2) (N acc h1))
  (S:∀acc h,I ws.length acc h->Q (.lst acc) h):∀{acc h},I 0 acc h->Ak ⟨U,JI⟩ own ix tt te σ Q ws acc h:=by
 induction ws generalizing I with
 | nil=>intro acc h Y;exact S acc h Y
 | cons w ws a=>
  intro acc h Y;obtain⟨vs,d,q⟩:=J 0 w acc h _ (λacc' h' q=>a _ (λi w acc h N b e hi=>J (i+1) w acc h N b (by simpa using e) hi) (λacc h q=>S acc h q) q) rfl Y;show(match own w with
   | some vs=>_
   | none=>False)
  rwa[d]
variable {i:Nat}{w:W}
def Et {lo}(e:(Gx lo n)[i]?=Go w):i<n/\w=.int (lo+(i)):=by
 have hi:=by
  have:=(Lx.mp e).1
  simpa[Gx]using this
 unfold Gx at e
 simp_all
def wW {lo}:(Gx lo n).length=n:=by simp[Gx]
variable {ma:MA}
def akz {j g b D}(Y:∀R,ma σ h R=R [.int j] h)(h1:-(2^62)<=j)(h2:j<2^62)(I:Nat->Sw->Gh->Prop)
  (J:∀i σ h  (N),(∀σ' h',I (i+1) σ' h'->N σ' h')->i<j.toNat->I i σ h->g (.int (i)) σ h fun O h1=>b {D with nx:=N,ct:=N,bk:=D.nx} O h1)
  (U:∀σ h,I j.toNat σ h->D.nx σ h) (h0:I 0 σ h):tO (iy ma) g b D σ h:=by
 unfold tO iy;rw[Y];refine KR.mk h1 h2 ?_;refine eU I (λi w σ h N a e hi=>?_) (fun σ h q=>U σ h (by rw[wW]at q;exact q)) h0;obtain⟨S,rfl⟩:=Et e;rw[Int.zero_add];exact J i σ h N a S hi
variable {ns:List Int}
def ajv {k}(h0:0<=k)(h1:k<((ns.map W.int).length:Int)):Mj (ns.map W.int) k=Go (.int (ns.getD k.toNat 0)):=by
 have e:(ns.map W.int)[k.toNat]?=Go (.int (ns.getD k.toNat 0)):=by
  simp_all
 have:=bB e
 rwa[show((k.toNat:Nat):Int)=k by lia]at this
abbrev gF (f n:Int):Int:=((Vv n f:Nat):Int)
abbrev gL (ns:List Int):Int:=ns.foldl gF 0
def Ml (ns)(n):gL (ns++[n])=gF (gL ns) n:=by unfold gL;rw[YD];rfl
def ad5 (f n):0<=gF f n:=Int.natCast_nonneg _
def ae8 (ns):0<=gL ns:=by
 rcases List.eq_nil_or_concat ns with rfl|⟨l,a,rfl⟩
 exact Int.le_refl _;rw[List.concat_eq_append,Ml];exact ad5 _ _
def ajB {x y}(O:0<=x)(J:0<y):Vv y (x.fmod y)=Vv x y/\0<=x.fmod y/\x.fmod y<y:=by
 rw[Int.fmod_eq_emod_of_nonneg x (Int.le_of_lt J)];refine⟨?_,Ye _<|by lia,ZR _ J⟩;obtain⟨m,rfl⟩:=Yn O;obtain⟨n,rfl⟩:=Yn (Int.le_of_lt J);rw[<-Int.natCast_emod,Int.gcd_natCast_natCast,Int.gcd_natCast_natCast,Nat.gcd_comm m n,Nat.gcd_rec n m,Nat.gcd_comm]
def Tg (a:Int):0<=(if a<0 then -a else a):=by lia
def abs_eq (a):(if a<0 then -a else a)=(a.natAbs:Int):=by lia
def aiH (a b):Vv (if a<0 then -a else a) (if b<0 then -b else b)=Vv a b:=by
 rw[abs_eq,abs_eq];simp[Vv]
def zae {x}(h:0<=x):((Vv x 0):Int)=x:=by
 rw[Int.gcd_zero_right];lia
abbrev abK (c:Aq):Prop:=∀{h:Gh}{a b:Int}{Q:WK}{E:Bt},Q (.int (gF b a)) h->c [.int a,.int b] h Q E
def afa:abK je:=by
 intro h a b Q E q;refine⟨λm σ h'=>h'=h/\∃x y r,σ=[Go<|.int x,Go<|.int y,r]/\0<=x/\0<=y/\Vv x y=Vv a b/\m=y.toNat,⟨_,rfl,_,_,JI,rfl,Tg a,Tg b,aiH a b,rfl⟩,?_⟩;rintro m σ h' ⟨rfl,x,y,r,rfl,J,S,O,rfl⟩;refine⟨λe=>?_,λe=>?_⟩;have U:=by simpa[Hv]using e
 obtain⟨c,Y,d⟩:=ajB J (by lia:0<y);refine⟨U,(x.fmod y).toNat,by lia,rfl,y,x.fmod y,_,rfl,S,Y,c.trans O,rfl⟩;cases by simpa[Hv]using e
 have:gF b a=x:=by unfold gF;rw[<-O];exact zae J
 rwa[this]at q
abbrev Ints (w:W)(ns:List Int):Prop:=w=.lst (ns.map .int)\/w=.tup (ns.map .int)
abbrev yW (c:Aq):Prop:=∀{h:Gh}{w:W}{ns:List Int}{Q:WK}{E:Bt},Ints w ns->Q (.int (gL ns)) h->c [w] h Q E
def ints_get (e:(ns.map W.int)[i]?=Go w):∃n,ns[i]?=Go n/\w=.int n:=by
 rw[Hf]at e;grind
def akm {n}(e:ns[i]?=Go n):gL (ns.take (i+1))=gF (gL (ns.take i)) n:=by
 rw[Ik,e,<-Ml];rfl
def zaK {tw}(ht:abK tw):yW (xT tw):=by
 intro h w ns Q E U q;have J:iW ⟨ns.map .int,JI⟩ (kI 2) (bL (aJ tw E (aj (aA 2) (aj (aA 1) aG))) (kI 1)) {nx:=rJ tw E {nx:=λ_ h'=>Q .non h',rt:=λw h'=>Q w h'},rt:=λw h'=>Q w h'} (ns.map .int) [Go w,Go (.int 0),JI] h:=by
  refine eU (λi σ h'=>h'=h/\∃o,σ=[Go w,Go<|.int<|gL<|ns.take i,o]) ?_ ?_ ⟨rfl,JI,rfl⟩;rintro i x σ h' N Y e ⟨rfl,o,rfl⟩;obtain⟨n,a,rfl⟩:=ints_get e;refine ht<|Y _ _ ⟨rfl,Go<|.int n,?_⟩
  rw[akm a];rfl;rintro σ h' ⟨rfl,o,rfl⟩
  rwa[Bo,J8]
 rcases U with rfl|rfl<;>exact J
def afd {f n}(O:Sm m f)(J:Sm m n):Sm m (gF f n):=by
 unfold gF Sm at *;unfold Vv;by_cases e:n.natAbs=0
 simp_all
 exact Wu (Nat.gcd_le_left _<|Nat.pos_of_ne_zero e) J
def aei (h:∀n∈ns,Sm m n):Sm m (gL ns):=by
 have:∀(ns:List Int) (f:Int),Sm m f->(∀n∈ns,Sm m n)->Sm m (ns.foldl gF f):=by
  intro ns;induction ns with
  | nil=>intro f J _;exact J
  | cons n ns O=>intro f J h;exact O _ (afd J (h n (by simp))) λx S=>h x (by simp[S])
 exact this ns 0 Sm.zero h
abbrev zbd (ns:List Int):Prop:=∃n∈ns,n≠0
def UW (f n):gF f n ∣ f/\gF f n ∣ n:=⟨Int.gcd_dvd_right ..,Int.gcd_dvd_left ..⟩
def U4:∀n∈ns,gL ns ∣ n:=by
 have:∀(ns:List Int) (f:Int),ns.foldl gF f ∣ f/\∀n∈ns,ns.foldl gF f ∣ n:=by
  intro ns;induction ns with
  | nil=>intro f;exact⟨Int.dvd_refl _,nofun⟩
  | cons a ns O=>
   intro f;obtain⟨h1,h2⟩:=O _;refine⟨Int.dvd_trans h1 (UW f a).1,λn J=>?_⟩;rcases Kz.mp J with rfl|J
   exact Int.dvd_trans h1 (UW f n).2;exact h2 n J
 exact(this ns 0).2
def ael (h:zbd ns):0<gL ns:=by
 have U:=ae8 ns;obtain⟨n,J,O⟩:=h;have S:=U4 n J;by_cases e:gL ns=0
 simp_all
 lia
def nG (a b):Hv (.int a) (.int b)=(a==b):=rfl
@[reducible]noncomputable def Tr:=Int×Int×Int
abbrev tl (t:Tr):List Int:=[t.1,t.2.1,t.2.2]
abbrev sc (k:Int)(t:Tr):Tr:=(t.1*k,t.2.1*k,t.2.2*k)
abbrev Jo (p q:Tr):Tr:=(p.2.1*q.2.2-p.2.2*q.2.1,p.2.2*q.1-p.1*q.2.2,p.1*q.2.1-p.2.1*q.1)
abbrev LI (p q:Tr):Int:=p.1*q.1+p.2.1*q.2.1+p.2.2*q.2.2
def ait (e:h.c n=Go (.lst ws)):dF h (.loc n)=Go ws:=by simp[dF,e]
def BZ:∀bs,Pr (bs.map W.bl)=Go bs
 | []=>rfl
 | b::bs=>by rw[Hz,Pr,BZ bs];rfl
def Pb {s}{ix}(I:Nat->List W->Gh->Prop)
  (Y:∀i acc h,I i acc h->∀P,P->s.go h P)
  (J:∀i w  (acc) (h) (N:List W->Gh->Prop),(∀O h',I (i+1) O h'->N O h')->ws[i]?=Go w->I i acc h ->
   ∃vs,own w=Go vs/\tt (vs.map Go++mY ix σ) h λc h1=>JC c (te (vs.map Go++mY ix σ) h1 λv h2=>N (acc++[v]) h2) (N acc h1))
  (U:∀acc h,I ws.length acc h->Q (.lst acc) h):∀{acc h},I 0 acc h->Ak s own ix tt te σ Q ws acc h:=by
 induction ws generalizing I with
 | nil=>intro acc h S;exact Y 0 acc h S _ (U acc h S)
 | cons w ws a=>
  intro acc h S;obtain⟨vs,d,q⟩:=J 0 w acc h _ (λacc' h' q=>a _ (λi=>Y _) (λi w acc h N b e hi=>J (i+1) w acc h N b (by simpa using e) hi) (λacc h q=>U acc h q) q) rfl S;refine Y 0 acc h S _ ?_
  rwa[d]
def acQ {us}(e:h.c n=Go (.lst us))(hz:us.length<HB)(k:Q .non (h.set n (.lst (us++[w])))):bG (.loc n) [w] h Q:=by
 show(match h.c n with
  | some (Cell.lst us)=>_
  | _=>False)
 simp_all
def Uz {j}{ix}(Y:∀R,ma σ h R=R [.int j] h)(h1:-(2^62)<=j)(h2:j<2^62)(hz:j.toNat<=HB)(I:Nat->List W->Gh->Prop)
  (O:∀i  (acc) (h) (N:List W->Gh->Prop),(∀J h',I (i+1) J h'->N J h')->i<j.toNat->I i acc h ->
   ∃vs,own (.int (i))=Go vs/\tt (vs.map Go++mY ix σ) h λc h1=>JC c (te (vs.map Go++mY ix σ) h1 λv h2=>N (acc++[v]) h2) (N acc h1))
  (U:∀acc h,I j.toNat acc h->Q (.lst acc) h) (h0:I 0 [] h):Ht own ix (iy ma) tt te σ h Q:=by
 unfold Ht iy;rw[Y];refine KR.mk h1 h2<|fG.mk (wW ▸ hz) ?_
 refine cU I (λi w acc h N a e hi=>?_) (λacc h q=>U acc h (by rw[wW]at q;exact q)) h0;obtain⟨S,rfl⟩:=Et e;rw[Int.zero_add];exact O i acc h N a S hi
def ajs (a b):Hv (.str a) (.str b)=(a==b):=rfl
abbrev Pz (h:Gh)(n:Nat):Prop:=∃a b,h.c n=Go (.lst [.int a,.int b])/\0<=b/\b<2147483647
abbrev qj (c:Aq):Prop:=∀{h:Gh}{n:Nat}{J:Int}{Q:WK}{E:Bt},Pz h n->0<J->Sm 60 J->(∀d h',0<=d->d<J->Pz h' n->Sh n h h'->Q (.int d) h')->c [.loc n,.int J] h Q E
def yM:qj Dy:=by
 intro h n O Q E i Y g k;obtain⟨a,b,e,b0,b1⟩:=i;have J:O≠0:=by lia
 have d:=iV e;have U:∀{h':Gh}{a b:Int},h'.c n=Go (.lst [.int a,.int b])->0<=b->b<2147483647->Pz h' n:=λe j h1=>⟨_,_,e,j,h1⟩
 show(match view h (.loc n)with
  | some ws=>_
  | none=>False)
 rw[d];refine sZ (λ_=>?_)<|λ_=>?_
 ·show(match view h (.loc n)with
   | some ws=>_
   | none=>False)
  rw[d];refine And.intro J ?_;show(match view h (.loc n)with
   | some ws=>_
   | none=>False)
  rw[d];refine And.intro ⟨J,60,by decide,g⟩ ?_;show(match h.c n with
   | some (Cell.lst ws)=>_
   | _=>False)
  rw[e];rw[gP Y];exact k _ _ (Ye _ J) (ZR _ Y) (U (sU _ _ _) b0 b1) Sh.set
 ·show(match view h (.loc n)with
   | some ws=>_
   | none=>False)
  rw[d];refine And.intro (.of (m:=31) (n:=64) (MP (by lia)<|by lia) (.lit rfl) (by decide)<|by decide) ?_;refine And.intro (show(2147483647:Int)≠0 by decide) ?_;show(match h.c n with
   | some (Cell.lst ws)=>_
   | _=>False)
  rw[e];have c0:0<=(b*48271+11).fmod 2147483647:=by rw[gP (by decide)];exact Ye _ (by decide)
  have l:(b*48271+11).fmod 2147483647<2147483647:=by rw[gP (by decide)];exact ZR _ (by decide)
  have e2:(h.set n (.lst [.int a,.int ((b*48271+11).fmod 2147483647)])).c n=Go (.lst [.int a,.int ((b*48271+11).fmod 2147483647)]):=sU _ _ _;have S:=iV e2;have f:Sh n h (h.set n (.lst [.int a,.int ((b*48271+11).fmod 2147483647)])):=Sh.set;show(match view (h.set n (.lst [.int a,.int ((b*48271+11).fmod 2147483647)])) (.loc n)with
   | some ws=>_
   | none=>False)
  rw[S];show(match view (h.set n (.lst [.int a,.int ((b*48271+11).fmod 2147483647)])) (.loc n)with
   | some ws=>_
   | none=>False)
  rw[S];generalize(b*48271+11).fmod 2147483647=c at *;refine And.intro ⟨by decide,64,by decide,.lit rfl⟩ ?_;have p:0<=c.fdiv 65536:=by rw[vU (by decide)];lia
  have o:c.fdiv 65536<2147483647:=by rw[vU (by decide)];lia
  refine And.intro (.of (m:=31) (n:=40) (MP (by lia)<|by lia) (MP (by lia)<|by omega) (by decide)<|by decide) ?_;refine And.intro (show(2147483629:Int)≠0 by decide) ?_;refine And.intro ⟨by decide,64,by decide,.lit rfl⟩ ?_;refine And.intro J ?_;rw[gP Y];exact k _ _ (Ye _ J) (ZR _ Y) (U e2 c0 l) f
abbrev BK (c:Aq):Prop:=∀{h:Gh}{ns:List Int}{k:Int}{Q:WK}{E:Bt},0<=k->Q (.int (ns.getD k.toNat 0)) h->c [.kls (ns.map .int),.int k] h Q E
def Ui:BK Gk:=by
 intro h ns k Q E J q;refine sZ (λhk=>?_)<|λhk=>?_
 conv=>whnf
 rwa[ajv J hk]
 have e:ns.getD k.toNat 0=0:=by
  simp_all
 rwa[e]at q
abbrev tK (Q:Bool->Gh->Prop):WK:=λw h=>match w with
 | .bl c=>Q c h
 | _=>False
abbrev uK (Q:Bool->Gh->Prop):WK:=λw h=>match acf h w with
 | some b=>Q b h
 | none=>False
abbrev aK (b:ME)(σ:Sw)(Q:WK):WK:=λx h=>match x with
 | .bl true=>b σ h Q
 | .bl false=>Q (.bl false) h
 | _=>False
abbrev iK (R:Src->Gh->Prop):WK:=λw h=>match Ue h w with
 | some s=>R s h
 | none=>False
abbrev xK (f:Str->Bool)(Q:WK):WK:=λw h=>match w with
 | .exc n=>Q (.bl (f n)) h
 | .exa n _=>Q (.bl (f n)) h
 | _=>False
abbrev pK (Q:Option Int->Gh->Prop):WK:=λw h=>match w with
 | .int i=>Q (Go i) h
 | _=>False
abbrev agb (g:MG)(b:MS)(D:bN)(σ:Sw):Src->Gh->Prop:=λs h=>iW s g b D s.ws σ h
abbrev lcK (own:W->Option (List W))(ix:List Nat)(tt:MT)(te:ME)(σ:Sw)(Q:WK):Src->Gh->Prop:=λs h=>fG s.ws.length (Ak s own ix tt te σ Q s.ws [] h)
abbrev rgK (R:Src->Gh->Prop):List W->Gh->Prop:=λws h=>match ws with
 | [.int j]=>KR j (R ⟨Gx 0 j.toNat,JI⟩ h)
 | _=>False
def aM {m u D}(x:m {D with nx:=u D} σ h):aY m u D σ h:=x
variable {N:Sw->Gh->Prop}
def bI {b c r}(x:N σ h):bN.nx ⟨N,r,b,c⟩ σ h:=x
def fV {b c r}(x:r w h):bN.rt ⟨N,r,b,c⟩ w h:=x
def bH {D}(x:D.nx σ h):cW D σ h:=x
def aW {m g D}(x:m σ h λw h1=>g w σ h1 D.nx):bL m g D σ h:=x
def dG {m D}(x:m σ h λ_ h1=>D.nx σ h1):c7 m D σ h:=x
def bF {m D}(x:m σ h D.rt):cI m D σ h:=x
variable {E:Bt}
def jN {c D}(x:E ⟨c,[]⟩ h):qW c E D σ h:=x
def bU {t}{a b D}(x:t σ h λc h1=>br c (a D σ h1) (b D σ h1)):jg t a b D σ h:=x
def Y9 {t}{a b}(x:t σ h λc h1=>br c (a σ h1 Q) (b σ h1 Q)):mIf t a b σ h Q:=x
variable {d:Str}
def lW {g}(e:w=.tup ws)(b:QS ws.length n=true)(x:g ws σ h N):pG n g w σ h N:=by
 subst e;unfold pG;dsimp only
 rwa[b]
def eO {g r}(x:g w σ h fun J h1=>r ws J h1 N):jV g r (w::ws) σ h N:=x
def Fb (x:N σ h):R9 [] σ h N:=x
def aq (e:σ[i]?=Go (Go w))(x:Q w h):aA i σ h Q:=by
 unfold aA
 rwa[e]
def aX (x:Q w h):mC w σ h Q:=x
def aH {r}{ma mb}(x:ma σ h λa h1=>mb σ h1 λb h2=>r a b h2 Q):Ah r ma mb σ h Q:=x
def Ot {r ma}(x:ma σ h λa h1=>r a h1 Q):mUn r ma σ h Q:=x
def yV {i}(x:Q (.int (-i)) h):YX (.int i) h Q:=x
def ao {a r}{Q}(x:a σ h λw h1=>r σ h1 λws h2=>Q (w::ws) h2):aj a r σ h Q:=x
def aB {Q}(x:Q [] h):aG σ h Q:=x
def bR {P}(e:Vx n 1000=true)(x:P):fG n P:=by
 unfold fG
 rwa[e]
def cZ {t}(x:t σ h λws h1=>fG ws.length (Q (.tup ws) h1)):cO t σ h Q:=x
def JF {t:MA}(x:t σ h λws h1=>fG ws.length (Q (.lst ws) h1)):j6 t σ h Q:=x
def aL {c}(x:ma σ h λws h1=>c ws h1 Q E):aJ c E ma σ h Q:=x
def cB {r}(x:ma σ h λws h1=>r ws h1 Q):HN r ma σ h Q:=x
def aZ {m}{Q}(x:m σ h (tK Q)):bQ m σ h Q:=x
def iu {c}{Q}(x:Q c h):tK Q (.bl c) h:=x
def jk {m}{Q}(x:m σ h (uK Q)):Ds m σ h Q:=x
def Jd {b}{Q}(e:acf h w=Go b)(x:Q b h):uK Q w h:=by
 unfold uK
 rwa[e]
def Gz {t}{Q}(x:t σ h λc h1=>Q (!c) h1):aah t σ h Q:=x
def Gg {t u:MT}{Q:Bool->Gh->Prop}(x:t σ h λc h1=>br c (u σ h1 Q) (Q false h1)):adu t u σ h Q:=x
def Qn {t u}{Q}(x:t σ h λc h1=>br c (Q true h1) (u σ h1 Q)):Vs t u σ h Q:=x
def dB {Q}(x:Q true h):jx σ h Q:=x
def M6 {a b}(x:a σ h (aK b σ Q)):Rz a b σ h Q:=x
def aeY {b}{c}(x:br c (b σ h Q) (Q (.bl false) h)):aK b σ Q (.bl c) h:=by
 cases c with
 | true=>exact x.1 rfl
 | false=>exact x.2 rfl
def Jv {f m}(x:m σ h (xK f Q)):Z1 f m σ h Q:=x
def afs {f n}(x:Q (.bl (f n)) h):xK f Q (.exa n ws) h:=x
variable {a:Prop}
def Hx {b}(x:a):br true a b:=tU rfl x
def nY {b}(x:b):br false a b:=nA rfl x
def U9 {b}(x:b):br (!true) a b:=nY x
def Uo {b:Prop}(x:a):br (!false) a b:=Hx x
def cH {b}(x:a):JC true a b:=x
def ur {b}(x:b):JC false a b:=x
def rF {i j}(x:Q (.int (i-j)) h):Fo (.int i) (.int j) h Q:=x
def gD {i j}(x:Q (.int (i+j)) h):bM (.int i) (.int j) h Q:=x
def oN {i j}(c:pJ i j)(x:Q (.int (i*j)) h):vI (.int i) (.int j) h Q:=⟨c,x⟩
def Fj {i j}(c:Mw i j)(x:Q (.int (i.fdiv j)) h):Pg (.int i) (.int j) h Q:=⟨c,x⟩
def Fy {i j}(c:j≠0)(x:Q (.int (i.fmod j)) h):HF (.int i) (.int j) h Q:=⟨c,x⟩
def Yd {i j:Int}(x:Q (.bl (decide (i<j))) h):kLt (.int i) (.int j) h Q:=x
def sW {i j}(x:Q (.bl (decide (i>j))) h):QL (.int i) (.int j) h Q:=x
def W2 {i j}(x:Q (.bl (decide (i=j))) h):JZ (.int i) (.int j) h Q:=x
def Rt {i j}(x:Q (.bl (decide (i≠j))) h):Q8 (.int i) (.int j) h Q:=by
 have e:(!Hv (.int i) (.int j))=decide (i≠j):=by rw[nG];by_cases z:i=j<;>simp[z]
 show Q _ h
 rwa[e]
def bA {x}{i}(e:view h x=Go ws)(a:Mj ws i=Go w)(k:Q w h):Bh x (.int i) h Q:=by
 unfold Bh;simp_all
def dD {xs}(e:view h w=Go xs)(x:Q (.int (xs.length:Int)) h):Ho [w] h Q:=by
 unfold Ho;simp_all
def eZ {us}(x:Q (.tup us) h):fu [.lst us] h Q:=x
variable {bs:List Bool}
def JW {us}(e:dF h w=Go us)(b:Pr us=Go bs)(x:Q (.bl (bs.any id)) h):aai [w] h Q:=by
 unfold aai;simp_all
def Uc {us}(e:dF h w=Go us)(b:rT us=Go ns)(x:Q (.int ns.sum) h):Zh [w] h Q:=by
 unfold Zh;simp_all
def El {b:Bool}(x:Q (.int (if b then 1 else 0)) h):QK [.bl b] h Q:=x
def oE {mi g b D}(x:mi σ h (agb g b D σ)):tO mi g b D σ h:=x
variable {o:Option (Nat×List W)}
def oO {g b D}(x:iW ⟨ws,o⟩ g b D ws σ h):agb g b D σ ⟨ws,o⟩ h:=x
def wK {r:List W}{g:MG}{b:MS}{D:bN}(x:g w σ h fun J h1=>b {D with nx:=iW ⟨ws,JI⟩ g b D r,ct:=iW ⟨ws,JI⟩ g b D r,bk:=D.nx} J h1):iW ⟨ws,JI⟩ g b D (w::r) σ h:=x
def iB {m}{R}(x:m σ h (iK R)):Ii m σ h R:=x
def tQ {R}(e:Ue h w=Go ⟨ws,o⟩)(x:R ⟨ws,o⟩ h):iK R w h:=by
 unfold iK
 rwa[e]
def lC {R}(x:ma σ h (rgK R)):iy ma σ h R:=x
variable {as:List W}
def iD {ix mi}(x:mi σ h (lcK own ix tt te σ Q)):Ht own ix mi tt te σ h Q:=x
def abZ {ix}(e:Vx ws.length 1000=true)(x:Ak ⟨ws,o⟩ own ix tt te σ Q ws [] h):lcK own ix tt te σ Q ⟨ws,o⟩ h:=bR e x
variable {acc:List W}
def U7 {ix:List Nat}(x:Q (.lst acc) h):Ak ⟨ws,JI⟩ own ix tt te σ Q [] acc h:=x
variable {body:Bt->MS}
def afm {N}(J:QS ws.length n=true)(x:body E {nx:=λ_ h'=>Q .non h',rt:=Q} (ws.map Go++J4 (N-ws.length) JI) h):Hj n N false body ws h Q E:=by
 unfold Hj
 rwa[J]
variable {r:W->Option Int->Option Int->Gh->WK->Prop}
def Zi {m}{l u}(x:m σ h λa h1=>l σ h1 λlo h2=>u σ h2 λhi J=>r a lo hi J Q):Vr r m l u σ h Q:=x
def vO {m}{Q}(x:m σ h (pK Q)):tH m σ h Q:=x
def adF {i}{Q}(x:Q (Go i) h):pK Q (.int i) h:=x
variable {j:Nat}
def Z0 {J:Type}{a x:J}{l:List J}:(a::l).set 0 x=x::l:=rfl
def Z7 {J:Type}{a x:J}{l l'}(e:l.set n x=l'):(a::l).set (n+1) x=a::l':=by simp_all
def lU {σ':Sw}(e:σ.set i (Go w)=σ')(x:N σ' h):kI i w σ h N:=by
 subst e;exact x
def nV {σ'}(x:N σ' h)(e:σ.set i (Go w)=σ':=by repeat(first|with_reducible exact Z0|with_reducible apply Z7)):kI i w σ h N:=lU e x
abbrev ini (ws:List W)(n:Nat):Sw:=ws.map Go++J4 (n-ws.length) JI
def afy:ini [] 0=[]:=rfl
def afF {l}(e:ini [] n=l):ini [] (n+1)=JI::l:=by
 subst e;rfl
def afQ {l:Sw}(e:ini ws n=l):ini (w::ws) (n+1)=Go w::l:=by
 subst e;unfold ini;simp_all
def d8 {N}(J:QS ws.length n=true)(e:ini ws N=σ)(x:body E {nx:=λ_ h'=>Q .non h',rt:=Q} σ h):Hj n N false body ws h Q E:=by
 subst e;exact afm J x
def JM {mo mi ms}(x:mo σ h λo h1=>mi σ h1 λi h2=>ms o i w h2 λh3=>N σ h3):Pj mo mi ms w σ h N:=x
def agW {R}(e:h.c n=Go (.lst ws))(x:R ⟨ws,Go (n,ws)⟩ h):iK R (.loc n) h:=tQ (by simp[Ue,e]) x
def mJ {N}(J:QS ws.length n=true)(e:ini ws N=σ)(x:body E {nx:=λ_ h'=>jy true h .non h' Q,rt:=λw h'=>jy true h w h' Q} σ h):Hj n N true body ws h Q E:=by
 subst e;unfold Hj
 rwa[J]
def ahV {a b}(e:Vx (a.length+b.length) 1000=true)(x:Q (.lst (a++b)) h):bM (.lst a) (.lst b) h Q:=bR e x
def eY {a b}(x:Q (.bl (decide (a=b))) h):JZ (.str a) (.str b) h Q:=x
set_option hygiene false in
open Lean in
local macro_rules | `(tactic| rfl') => do
 let J (n:String):=mkIdent (.mkSimple n)
 let A (n:String):MacroM (TSyntax `tactic):=`(tactic| with_reducible apply $(J n))
 let W (l:List String):MacroM (TSyntax `tactic):=do
  let mut r ← `(tactic| with_reducible exact $(J l.head!))
  for n in l.tail do
   let t ← A n
   r ← `(tactic| first|$r:tactic|$t:tactic)
  `(tactic| repeat $r:tactic)
 let Z ← W ["Z0","Z7"]
 let Y ← W ["afI","afM","aeh"]
 let V ← W ["afy","afQ","afF"]
 let X ← `(tactic| exact rfl)
 let D ← `(tactic| decide +kernel)
 let N ← `(tactic| with_reducible assumption)
 let P ← `(tactic| exact pJ.of (by trivial) (by trivial) (by lia) (by lia))
 let mut r ← `(tactic| fail)
 for (k,n) in ("rrrrr1rrurrrrrrrrrrr1rrrrrrrrrrrrrrr1rrr2rrrrorrrr21r22rrrrr1rpr1rqrrrskdddraaaabbyq1rd".toList.zip ("aM aW aL ao aB aq aX aH lU bI fV bU Y9 bF dG bH jN aZ iu jk Jd Gz Gg Qn dB M6 aeY Jv Hx nY U9 Uo cH ur cZ JF bR cB Ot yV lW eO Fb rF gD oN Yd sW W2 Rt bA dD eZ JW Uc El oE oO wK iB tQ lC aeu iD abZ U7 d8 Zi vO adF adS afk ad0 aeL ae7 JM agW zbq ahY ajH alC adV adY mJ ahV eY aaU".splitOn " ")).reverse do
  let mut t ← A n
  if k=='r' then t ← `(tactic| with_reducible refine $(J n) ?_)
  else if k=='u' then t ← `(tactic| with_reducible refine lU (by $Z:tactic) ?_)
  else if k=='s' then t ← `(tactic| with_reducible refine adS (by $Z:tactic) (by $Z:tactic) (by $Z:tactic) ?_)
  else for u in (if k=='1' then [X] else if k=='2' then [X,X] else if k=='d' then [D] else if k=='a' then [N] else if k=='b' then [N,X] else if k=='p' then [X,X,Y] else if k=='q' then [X,V] else if k=='k' then [D,Z] else if k=='y' then [N,X,Y] else [P]) do t ← `(tactic| ($t:tactic;$u:tactic))
  r ← `(tactic| first|$t:tactic|$r:tactic)
 `(tactic| repeat $r:tactic)
def dR {r}{mo}(x:mo σ h λx h1=>Jb h1 x (ma σ h1 λxs h2=>r x xs h2 Q)):jW r mo ma σ h Q:=x
def cL {us P}(e:h.c n=Go (.lst us))(p:P):Jb h (.loc n) P:=by
 simp[Jb,e];exact p
def gW (J:∀R,ma σ h R=R ws h)(hz:Vx ws.length 1000=true)(x:∀g,g.c h.nx=Go (.lst ws)->(∀n,n≠h.nx->g.c n=h.c n)->g.nx=h.nx+1->Q (.loc h.nx) g):jX ma σ h Q:=by
 unfold jX;rw[J];exact bR hz<|x _ (Ao _ _) (λ_ e=>rA e) rfl
def jt {us}(e:h.c n=Go (.lst us))(hz:us.length<=1000)(k:∀g,g.c n=Go (.lst (us++[w]))->(∀m,m≠n->g.c m=h.c m)->g.nx=h.nx->Q .non g):bG (.loc n) [w] h Q:=
 acQ e (Wu hz (by decide)) (k _ (sU _ _ _) (λ_ e=>j4 e) rfl)
abbrev rng (a m:Nat):List Nat:=List.range' a (m-a)
def akq (a m:Nat):Gx (a:Int) ((m:Int)-(a:Int)).toNat=(rng a m).map λx:Nat=>W.int (x:Int):=by
 unfold Gx rng;rw[List.range'_eq_map_range];simp
def ahU (m):Gx 0 ((m:Nat):Int).toNat=(rng 0 m).map λx:Nat=>W.int (x):=by
 have:=akq 0 m
 exact this
def BR {R}(h2:m<=1000)(x:R ⟨(rng 0 m).map λx:Nat=>W.int (x),JI⟩ h):rgK R [.int (m)] h:=by
 rw[<-ahU]at x;exact KR.mk (by lia) (by lia) x
abbrev nxt (l:List Nat):Nat:=match l.getLast? with
 | none=>0
 | some x=>x+1
abbrev grow (m:Nat)(l:List Nat):List (List Nat):=(rng (nxt l) m).map λp=>l++[p]
def lH {a x}(e:(rng a m)[i]?=Go x):x=a+i/\x<m:=by
 unfold rng at e;grind
@[reducible]noncomputable def Tm:=List Int×Int
abbrev J7 (t:Tm):W:=.tup [.tup (t.1.map .int),.int t.2]
abbrev Ce (ts:List Tm):W:=.tup (ts.map J7)
abbrev Ge (h h':Gh):Prop:=h.nx<=h'.nx/\∀n,n<h.nx->h'.c n=h.c n
def Cj (n):∀l:List Int,MH n (l.map .int)
 | []=>by simp[MH]
 | x::l=>⟨by simp[Lo],Cj n l⟩
abbrev NZ (ts:List Tm):List (List Int×W):=ts.map λt=>(t.1,.int t.2)
abbrev uE (ts:List Tm)(k:List Int)(n:Int):List Tm:=if ts.any (λt=>decide (t.1=k))then ts.map (λt=>if t.1=k then(t.1,n)else t)else ts++[(k,n)]
def FT:∀ts k,Ez (NZ ts) k=((ts.find? λt=>decide (t.1=k)).map λt=>W.int t.2)
 | [],k=>rfl
 | t::ts,k=>by
  show Ez ((t.1,.int _)::NZ ts) k=_;rw[Es,FT ts k];grind
def abC (ts)(k)(n):aap (NZ ts) k (.int n)=NZ (uE ts k n):=by
 have e:(Ez (NZ ts) k).isSome=ts.any λt=>decide (t.1=k):=by
  rw[FT,Option.isSome_map,Xv,List.find?_isSome,V2]
 unfold aap uE;rw[e];by_cases c:(ts.any λt=>decide (t.1=k))=true
 rw[if_pos c,if_pos c];unfold NZ;rw[Ky,Ky];refine Q6 λt _=>?_;grind
 rw[if_neg c,if_neg c];simp[NZ]
def Nh (ts:List Tm)(k:List Int)(n:Int):(uE ts k n).length<=ts.length+1:=by
 unfold uE;grind
def Gw (k):Ur (.tup (k.map .int))=Go k:=by
 show rT _=Go k;induction k with
 | nil=>rfl
 | cons a k J=>rw[Hz];simp[rT,J]
variable {k:List Int}{ts:List Tm}
def acs {x}{N}(e:h.c n=Go (.dtt (NZ ts)))(hz:ts.length<=990)(q:∀g,g.c n=Go (.dtt (NZ (uE ts k x)))->(∀m,m≠n->g.c m=h.c m)->g.nx=h.nx->N g):Mr (.loc n) (.tup (k.map .int)) (.int x) h N:=by
 unfold Mr;rw[Gw];dsimp only;rw[e];refine fG.mk (HW (m:=1000) (by unfold NZ;rw[Bo];lia)<|by decide) ?_;rw[abC];exact q _ (sU _ _ _) (λ_ e=>j4 e) rfl
variable {t:Tm}
def aeQ (e:h.c n=Go (.dtt (NZ ts)))(f:(ts.find? λt=>decide (t.1=k))=Go t)(q:Q (.int t.2) h):abg (.loc n) (.tup (k.map .int)) h Q:=by
 unfold abg;rw[Gw];dsimp only;rw[e];dsimp only
 rwa[FT,f]
def aib (ts)(k)(n)(J:(ts.map (·.1)).Nodup):((uE ts k n).map (·.1)).Nodup:=by
 unfold uE;split
 rw[Ky];have e:(((·.1):Tm->List Int) ∘λt:Tm=>if t.1=k then(t.1,n)else t)=(·.1):=by
  funext t;lia
 rwa[e]
 rename_i c;rw[IK,List.nodup_append];grind
abbrev getM (ts:List Tm)(k:List Int):Int:=((ts.find? λt=>decide (t.1=k)).map (·.2)).getD 0
abbrev Hu (ts:List Tm)(k:List Int)(v:Int):List Tm:=uE ts k (getM ts k+v)
abbrev uQ (ts:List Tm)(ks:List (List Int)):List Tm:=(ks.map λk=>(k,getM ts k)).filter λt=>decide (t.2≠0)
abbrev lin (f:List Int->Int)(ts:List Tm):Int:=(ts.map λt=>f t.1*t.2).sum
def cA (t)(ts)(k):getM (t::ts) k=if t.1=k then t.2 else getM ts k:=by
 unfold getM;grind
def zbo (ts us)(k):getM (ts++us) k=if k∈ts.map (·.1)then getM ts k else getM us k:=by
 induction ts with
 | nil=>simp
 | cons t ts J=>
  rw[List.cons_append,cA,cA];grind
def getM_none (h:k∉ts.map (·.1)):getM ts k=0:=by
 induction ts with
 | nil=>rfl
 | cons t ts J=>
  rw[cA,if_neg (λe=>h (by simp[e])),J λm=>h (Lq _ m)]
def jM (J:(ts.map (·.1)).Nodup)(h:t∈ts):getM ts t.1=t.2:=by
 induction ts with
 | nil=>cases h
 | cons u ts O=>
  rw[Hz]at J;rw[cA];grind
def get_map (ts)(k r)(n):getM (ts.map λt=>if t.1=k then(t.1,n)else t) r=if r=k/\k∈ts.map (·.1)then n else getM ts r:=by
 induction ts with
 | nil=>simp
 | cons t ts J=>
  rw[Hz,cA,cA];grind
def BJ (n:Int)(h:k∈ts.map (·.1)):uE ts k n=ts.map λt=>if t.1=k then(t.1,n)else t:=by
 unfold uE;simp_all
def pW (n)(h:k∉ts.map (·.1)):uE ts k n=ts++[(k,n)]:=by
 unfold uE;simp_all
def KJ (ts)(k r)(n):getM (uE ts k n) r=if r=k then n else getM ts r:=by
 by_cases h:k∈ts.map (·.1)
 rw[BJ n h,get_map];simp_all
 rw[pW n h,zbo];by_cases q:r=k
 rw[if_pos q,q,if_neg h,cA,if_pos rfl];rw[if_neg q];by_cases m:r∈ts.map (·.1)
 rw[if_pos m];rw[if_neg m,cA,if_neg (Jp q),getM_none m];rfl
def ahP (ts)(k r)(v):getM (Hu ts k v) r=getM ts r+if r=k then v else 0:=by
 unfold Hu;rw[KJ];grind
def keys_map (ts:List Tm)(k)(n):(ts.map λt=>if t.1=k then(t.1,n)else t).map (·.1)=ts.map (·.1):=by
 rw[Ky];refine Q6 λt _=>?_;lia
def vN (ts)(k)(v):(Hu ts k v).map (·.1)=if k∈ts.map (·.1)then ts.map (·.1)else ts.map (·.1)++[k]:=by
 unfold Hu;by_cases h:k∈ts.map (·.1)
 rw[BJ _ h,keys_map,if_pos h];rw[pW _ h,if_neg h,IK];rfl
variable {v:Int}
def Ag (J:(ts.map (·.1)).Nodup):((Hu ts k v).map (·.1)).Nodup:=aib ts k _ J
def cG (f)(t)(ts):lin f (t::ts)=f t.1*t.2+lin f ts:=rfl
def nO (f)(ts us):lin f (ts++us)=lin f ts+lin f us:=by unfold lin;simp
def Jm {f k n}:∀{ts},(ts.map (·.1)).Nodup->k∈ts.map (·.1)->lin f (ts.map λt=>if t.1=k then(t.1,n)else t)=lin f ts+f k*(n-getM ts k)
 | t::ts,J,h=>by
  rw[Hz,Wo]at J;rw[Hz,cG,cG,cA];by_cases e:t.1=k
  have S:(ts.map λt=>if t.1=k then(t.1,n)else t)=ts:=by
   refine(Q6 λu O=>?_).trans (List.map_id _);grind
  lia
  rw[if_neg e,if_neg e,Jm J.2 (by rcases Kz.mp h with q|q;exact absurd q.symm e;exact q)];lia
def JN {f}(J:(ts.map (·.1)).Nodup):lin f (Hu ts k v)=lin f ts+f k*v:=by
 unfold Hu;by_cases h:k∈ts.map (·.1)
 rw[BJ _ h,Jm J h];grind
 rw[pW _ h,nO,getM_none h];unfold lin;simp
def zbu {a b:List Int}(p:a.Perm b):a.sum=b.sum:=by
 induction p with
 | nil=>rfl
 | cons x _ S=>simp[S]
 | swap x y l=>simp;lia
 | trans _ _ O J=>exact O.trans J
def nH (f):∀ts,lin f (ts.filter λt=>decide (t.2≠0))=lin f ts
 | []=>rfl
 | t::ts=>by
  rw[SN];by_cases e:t.2=0
  rw[if_neg (by simp[e]),nH f ts,cG,e];lia;rw[if_pos (by simp[e]),cG,cG,nH f ts]
variable {ks:List (List Int)}{D:List Tm}
def aiV {f}(J:(D.map (·.1)).Nodup)(p:ks.Perm (D.map (·.1))):lin f (uQ D ks)=lin f D:=by
 unfold uQ;rw[nH];unfold lin;rw[Ky,zbu (p.map _),Ky];congr 1
 refine Q6 λt ht=>?_;simp;rw[jM J ht]
def U6 {u:Tm}(J:(D.map (·.1)).Nodup)(p:∀k∈ks,k∈D.map (·.1))(h:u∈uQ D ks):u∈D/\u.2≠0:=by
 obtain⟨h1,h2⟩:=SJ.mp h;obtain⟨k,O,rfl⟩:=Hr.mp h1;obtain⟨t,ht,rfl⟩:=Hr.mp (p k O);rw[jM J ht]at h2|-
 simp_all
def ajK (D)(ks):(uQ D ks).length<=ks.length:=HW (List.length_filter_le _ _) (by rw[Bo];exact Cm _)
def Mp (h:ks.Pairwise (· < ·)):((uQ D ks).map (·.1)).Pairwise (· < ·):=by
 rw[SQ];refine List.Pairwise.filter _ ?_
 rwa[SQ]
def dW (h:ks.Pairwise (· < ·)):ks.Nodup:=by
 refine h.imp λ{a b} h e=>?_;grind
abbrev fr (l:Nat)(x:Int)(r k:List Int):Int:=if r=k.set l 0 then x^(k.getD l 0).toNat else 0
def CR {J:Type}{P:List J->Prop}(h0:P [])(h1:∀ts t,P ts->P (ts++[t]))(ts):P ts:=by
 have:∀us:List J,P us.reverse:=λus=>by
  induction us with
  | nil=>exact h0
  | cons a us O=>rw[Yv];exact h1 _ _ O
 have:=this ts.reverse
 rwa[List.reverse_reverse]at this
def TY (e:h.c n=Go (.dtt (NZ ts)))(m:k∈ts.map (·.1))(q:Q (.int (getM ts k)) h):abg (.loc n) (.tup (k.map .int)) h Q:=by
 cases f:ts.find? λt=>decide (t.1=k)with
 | none=>
  grind
 | some t=>
  have J:getM ts k=t.2:=by unfold getM;rw[f];rfl
  rw[J]at q;exact aeQ e f q
variable {L:Nat}
def zbv (O:(ts.map (·.1)).Nodup)(U:∀t∈ts,t.1.length=L):Ke (ts.map (·.1)):=by
 intro h2 k S e;obtain⟨t,ht,e1⟩:=Hr.mp S;have Y:L=0:=by rw[<-U t ht,e1,e];rfl
 have J:∀k∈ts.map (·.1),k=[]:=λk S=>by
  grind
 generalize ts.map _=ks at O h2 J;match ks,O,h2,J with
 | a::b::r,O,_,J=>
  rw[(J a (by simp)),(J b (by simp))]at O;simp at O
def CJ (us)(k:Nat):xq us JI (Go (k))=us.take k:=by
 unfold xq;rw[HT.vJ,HT.QM];simp_all
def aiZ (us)(k:Nat):xq us (Go (k)) JI=us.drop k:=by
 unfold xq;rw[HT.vJ];by_cases h:k<=us.length
 rw[Nat.min_eq_left h,ZM (List.length_drop ▸ Cm _)];rw[Nat.min_eq_right (by lia),List.drop_length,List.drop_of_length_le (by lia)];simp
def qZ {Q}(x:Q JI h):ju σ h Q:=x
def aeZ (e:h.c n=Go (.dtt (NZ ts)))(q:Q (.int (getM ts k)) h):Mg (.loc n) [.tup (k.map .int),.int 0] h Q:=by
 unfold Mg;dsimp only;rw[e,Gw];dsimp only;rw[FT];have:(((ts.find? λt=>decide (t.1=k)).map λt=>W.int t.2).getD (.int 0))=.int (getM ts k):=by
  unfold getM;cases ts.find? λt=>decide (t.1=k)<;>rfl
 rwa[this]
def alF {kvs P}(e:h.c n=Go (.dtt kvs))(p:P):KC h (.loc n) P:=by
 unfold KC;simp_all
def aaZ {r}{mo}(x:mo σ h λx h1=>KC h1 x (ma σ h1 λxs h2=>r x xs h2 Q)):aed r mo ma σ h Q:=x
def aeP (n:Nat)(t:Tm):Lo n (J7 t):=⟨Cj _ _,trivial,trivial⟩
def Ve (n):∀ts:List Tm,MH n (ts.map J7)
 | []=>by simp[MH]
 | t::ts=>⟨aeP n t,Ve n ts⟩
def ZQ (n)(ts):Lo n (Ce ts):=Ve n ts
def TV (n):∀ss:List (List Tm),MH n (ss.map Ce)
 | []=>by simp[MH]
 | s::ss=>⟨ZQ n s,TV n ss⟩
abbrev pack (k:List Int):Int:=k.foldl (λa p=>a*65536+p) 0
abbrev Kb (L:Nat)(k:List Int):Prop:=k.length=L/\∀p∈k,0<=p/\p<=100
def dH (k)(p):pack (k++[p])=pack k*65536+p:=by unfold pack;rw[YD];rfl
def sS {p}(h:Kb (L+1) (k++[p])):Kb L k/\0<=p/\p<=100:=by
 refine⟨⟨by have:=h.1;simp at this;omega,λq J=>h.2 q<|Ri _ J⟩,h.2 p<|by simp⟩
def lG (h:k.length=L+1):∃(a:List Int) (p:Int),k=a++[p]:=by
 refine⟨k.dropLast,k.getLast (by intro e;rw[e]at h;simp at h),?_⟩;exact(List.dropLast_concat_getLast _).symm
def iR:∀{L}{k l},Kb L k->Kb L l->pack k=pack l->k=l
 | 0,k,l,h1,h2,_=>by rw[VB h1.1,VB h2.1]
 | L+1,k,l,h1,h2,e=>by
  obtain⟨a,p,rfl⟩:=lG h1.1;obtain⟨b,q,rfl⟩:=lG h2.1;obtain⟨O,c,Y⟩:=sS h1;obtain⟨J,U,S⟩:=sS h2;rw[dH,dH]at e;have e2:p=q:=by lia
  rw[iR O J (by lia),e2]
def Li:∀{a b}{p q:Int},a.length=b.length->(a++[p]<b++[q]↔a<b\/a=b/\p<q)
 | [],[],p,q,_=>by simp[X7]
 | x::a,y::b,p,q,h=>by
  rw[List.cons_append,List.cons_append,X7,X7,(Li (by simpa using h))];grind
def wM:∀{L}{k l},Kb L k->Kb L l->(k<l↔pack k<pack l)
 | 0,k,l,h1,h2=>by
  rw[VB h1.1,VB h2.1];simp_all
 | L+1,k,l,h1,h2=>by
  obtain⟨a,p,rfl⟩:=lG h1.1;obtain⟨b,q,rfl⟩:=lG h2.1;obtain⟨O,e,d⟩:=sS h1;obtain⟨J,Y,U⟩:=sS h2;have S:=wM O J;rw[Li (by rw[O.1,J.1]),dH,dH];constructor;lia
  intro h;rcases Int.lt_trichotomy _ _ with c|c|c
  exact .inl<|S.mpr c
  exact .inr ⟨iR O J c,by lia⟩;lia
abbrev d7 (k l:List Int):List Int:=Wi (· + ·) k l
def v8 {l}(h:k.length=l.length):(d7 k l).length=k.length:=by unfold d7;rw[Zy,h,Nat.min_self]
def yD:∀k l,d7 k l=d7 l k
 | [],[]|[],_::_|_::_,[]=>rfl
 | a::k,b::l=>by
  show _::d7 k l=(b+a)::d7 l k;rw[yD k l,Int.add_comm]
def yp:∀{k l p q},k.length=l.length->d7 (k++[p]) (l++[q])=d7 k l++[p+q]
 | [],[],p,q,_=>rfl
 | x::a,y::b,p,q,h=>by
  show _::d7 (a++[p]) (b++[q])=(x+y)::(d7 a b++[p+q]);rw[yp (by simpa using h)]
def iZ:∀{L:Nat}{k l:List Int},k.length=L->l.length=L->pack (d7 k l)=pack k+pack l
 | 0,k,l,h1,h2=>by rw[VB h1,VB h2];rfl
 | L+1,k,l,h1,h2=>by
  obtain⟨a,p,rfl⟩:=lG h1;obtain⟨b,q,rfl⟩:=lG h2;have O:=by simpa using h1
  have J:=by simpa using h2
  rw[yp (by rw[O,J]),dH,dH,dH,iZ O J];lia
def pO:∀{k l p},p∈d7 k l->∃a∈k,∃b∈l,p=a+b
 | a::k,b::l,p,h=>by
  rcases Kz.mp h with rfl|h
  simp_all
  obtain⟨x,O,y,J,e⟩:=pO h;grind
def wk:∀{L}{k},Kb L k->0<=pack k/\(pack k).natAbs<2^(16*L)
 | 0,k,h=>by rw[VB h.1];exact⟨Int.le_refl _,by decide⟩
 | L+1,k,h=>by
  obtain⟨a,p,rfl⟩:=lG h.1;obtain⟨J,S,O⟩:=sS h;obtain⟨Y,U⟩:=wk J;rw[dH,Nat.mul_succ,Nat.pow_add];lia
abbrev Ie (k:List Int)(n:Int)(vs:List Tm)(D:List Tm):List Tm:=vs.foldl (λD s=>Hu D (d7 k s.1) (n*s.2)) D
abbrev mO (us vs:List Tm):List Tm:=us.foldl (λD t=>Ie t.1 t.2 vs D) []
def fW (k)(n)(vs D)(s):Ie k n (vs++[s]) D=Hu (Ie k n vs D) (d7 k s.1) (n*s.2):=by unfold Ie;rw[YD];rfl
def gk (us vs)(t):mO (us++[t]) vs=Ie t.1 t.2 vs (mO us vs):=by unfold mO;rw[YD];rfl
variable {vs:List Tm}
def Oc {n:Int}(h:(D.map (·.1)).Nodup):((Ie k n vs D).map (·.1)).Nodup:=by
 refine CR (P:=λvs=>((Ie k n vs D).map _).Nodup) h (λvs t J=>?_) vs;rw[fW];exact Ag J
def lN (us vs):((mO us vs).map (·.1)).Nodup:=by
 refine CR (P:=λus=>((mO us vs).map _).Nodup) ZC (λus t J=>?_) us;rw[gk];exact Oc J
def Ei (k)(n)(vs D):(Ie k n vs D).length<=D.length+vs.length:=by
 refine CR (P:=λvs=>(Ie k n vs D).length<=D.length+vs.length) (Cm _) (λvs t J=>?_) vs;rw[fW,JK,ZL];exact HW (Nh ..)<|by lia
def Fz (us vs):(mO us vs).length<=us.length*vs.length:=by
 refine CR (P:=λus=>(mO us vs).length<=us.length*vs.length) (Nz _) (λus t J=>?_) us;rw[gk,JK,ZL,Nat.add_mul];exact HW (Ei ..)<|by lia
abbrev dl (r k:List Int):Int:=if k=r then 1 else 0
def aiP (k)(n)(r)(D vs):getM (Ie k n vs D) r=getM D r+n*lin (λl=>dl r (d7 k l)) vs:=by
 refine CR (P:=λvs=>getM (Ie k n vs D) r=getM D r+n*lin _ vs) (by show getM D r=getM D r+n*0;lia) (λvs t J=>?_) vs;rw[fW,ahP,nO,J];show _=_+n*(_+(dl r _*t.2+0));unfold dl;grind
def zbp (r)(us vs):getM (mO us vs) r=lin (λk=>lin (λl=>dl r (d7 k l)) vs) us:=by
 refine CR (P:=λus=>getM (mO us vs) r=lin _ us) rfl (λus t J=>?_) us;rw[gk,aiP,nO];show _=_+(_+0);grind
def qz (f)(c):∀us,lin (λk=>f k*c) us=lin f us*c
 | []=>by show(0:Int)=0*c;lia
 | t::us=>by rw[cG,cG,qz f c us];grind
abbrev GQ (D rs:List Tm):Prop:=∃ks:List (List Int),ks.Perm (D.map (·.1))/\ks.Pairwise (· < ·)/\rs=uQ D ks
abbrev Ms (L:Nat)(us:List Tm):Prop:=us.length<=210/\(us.map (·.1)).Pairwise (· < ·)/\∀t∈us,t.1.length=L/\t.2≠0/\Sm 30000 t.2/\∀p∈t.1,0<=p/\p<=40
def Ld {l}(J:k.length=L/\∀p∈k,0<=p/\p<=40)(S:l.length=L/\∀p∈l,0<=p/\p<=40):Kb L (d7 k l):=by
 refine⟨by rw[v8<|by rw[J.1,S.1],J.1],λp O=>?_⟩;obtain⟨a,Y,b,U,rfl⟩:=pO O;grind
def Lf (ht:t.1.length=L/\∀p∈t.1,0<=p/\p<=40)(O:∀t∈vs,t.1.length=L/\∀p∈t.1,0<=p/\p<=40)(Y:∀k∈D.map (·.1),Kb L k):∀k∈(Ie t.1 t.2 vs D).map (·.1),Kb L k:=by
 revert O
 refine CR (P:=λvs=>(∀t∈vs,t.1.length=L/\∀p∈t.1,0<=p/\p<=40)->∀k∈(Ie _ _ vs D).map _,Kb L k) (λ_=>Y) (λvs s S O k J=>?_) vs;rw[fW,vN]at J;have J:k∈(Ie t.1 t.2 vs D).map (·.1)\/k=d7 t.1 s.1:=by
  split at J
  exact .inl J;simp_all
 rcases J with J|rfl
 exact S (λu U=>O u<|Ri _ U) k J;exact Ld ht<|O s<|by simp
variable {us:List Tm}
def zQ (J:∀t∈us,t.1.length=L/\∀p∈t.1,0<=p/\p<=40)(S:∀t∈vs,t.1.length=L/\∀p∈t.1,0<=p/\p<=40):∀k∈(mO us vs).map (·.1),Kb L k:=by
 revert J
 refine CR (P:=λus=>(∀t∈us,t.1.length=L/\∀p∈t.1,0<=p/\p<=40)->∀k∈(mO us vs).map _,Kb L k) (λ_ k U=>by simp[mO]at U) (λus t O J=>?_) us;rw[gk];exact Lf (J t<|by simp) S<|O λu h=>J u<|Ri _ h
abbrev Ig (D:List Tm):List (Key×W):=D.map λt=>(.inl (pack t.1),.int t.2)
def uV (O:∀j∈D.map (·.1),Kb L j)(J:Kb L k):pI (Ig D) (.inl (pack k))=((D.find? λt=>decide (t.1=k)).map λt=>W.int t.2):=by
 unfold pI Ig;induction D with
 | nil=>rfl
 | cons t D S=>
  rw[Hz,List.find?_cons];by_cases c:t.1=k
  simp_all
  rw[decide_eq_false (λe=>c (iR (O _ (by simp)) J (Sum.inl.inj e)))];simp_all
def alD (O:∀j∈D.map (·.1),Kb L j)(J:Kb L k):(pI (Ig D) (.inl (pack k))).getD (.int 0)=.int (getM D k):=by
 rw[uV O J];unfold getM;cases D.find? λt=>decide (t.1=k)<;>rfl
def KZ {n}(O:∀j∈D.map (·.1),Kb L j)(J:Kb L k):TJ (Ig D) (.inl (pack k)) (.int n)=Ig (uE D k n):=by
 have S:((Ig D).any λkv=>decide (kv.1=Sum.inl (pack k)))=D.any λt=>decide (t.1=k):=by
  unfold Ig;rw[List.any_map,Xv,V2,V2];constructor;rintro⟨t,ht,e⟩;simp only[Function.comp,decide_eq_true_iff]at e;exact⟨t,ht,decide_eq_true<|iR (O _<|Hr.mpr ⟨t,ht,rfl⟩) J<|Sum.inl.inj e⟩;grind
 unfold TJ uE;rw[S];by_cases c:(D.any λt=>decide (t.1=k))=true
 rw[if_pos c,if_pos c];unfold Ig;rw[Ky,Ky];refine Q6 λt ht=>?_;simp only[Function.comp];by_cases e:t.1=k
 simp_all
 rw[if_neg e,if_neg (λz=>e (iR (O _ (Hr.mpr ⟨t,ht,rfl⟩)) J (Sum.inl.inj z)))];rw[if_neg c,if_neg c];simp[Ig]
def KQ:∀{ks js:List Int},ks.Perm js->ks.Pairwise (· < ·)->js.Pairwise (· < ·)->ks=js
 | [],js,p,_,_=>p.symm.eq_nil.symm
 | a::ks,[],p,_,_=>p.eq_nil
 | a::ks,b::js,p,h1,h2=>by
  have e:a=b:=by
   have ma:=p.mem_iff.mp (Q0 ..);have mb:=p.mem_iff.mpr (Q0 ..);rcases Kz.mp ma with e|ma
   exact e;rcases Kz.mp mb with e|mb
   exact e.symm;have:=(WD.mp h1).1 b mb
   have:=(WD.mp h2).1 a ma
   lia
  subst e;rw[KQ (List.Perm.cons_inv p) (WD.mp h1).2 (WD.mp h2).2]
abbrev Wj (a:List Int):List (List Int)->List (List Int)
 | []=>[a]
 | b::l=>if a<b then a::b::l else b::Wj a l
def rW (a):∀l,(Wj a l).Perm (a::l)
 | []=>.refl _
 | b::l=>by
  unfold Wj;split
  exact .refl _
  ·exact(List.Perm.cons b<|rW a l).trans (List.Perm.swap a b l)
def Ek {a}:∀{l},l.Pairwise (· < ·)->a∉l->(Wj a l).Pairwise (· < ·)
 | [],_,_=>by simp[Wj]
 | b::l,h,n=>by
  rw[WD]at h;unfold Wj;split
  rename_i c;rw[WD];refine⟨λx J=>?_,WD.mpr h⟩;grind
  rename_i c;rw[WD];refine⟨λx J=>?_,Ek h.2 λm=>n<|Lq _ m⟩;rcases Kz.mp ((rW a l).mem_iff.mp J)with rfl|J
  grind
  simp_all
def Qq:∀l,l.Nodup->∃ks:List (List Int),ks.Perm l/\ks.Pairwise (· < ·)
 | [],_=>⟨[],.refl _,.nil⟩
 | a::l,J=>by
  rw[Wo]at J;obtain⟨ks,p,s⟩:=Qq l J.2;exact⟨Wj a ks,(rW a ks).trans (p.cons a),Ek s λm=>J.1<|p.mem_iff.mp m⟩
abbrev PkX (c0:Aq):Prop:=∀{h:Gh}{k:List Int}{L:Nat}{Q:WK}{E:Bt},Kb L k->L<=8->Q (.int (pack k)) h->c0 [.tup (k.map .int)] h Q E
def akR (h:Kb L k)(i):Kb (min i L) (k.take i):=⟨by rw[Ou,h.1],λp J=>h.2 p (Zg J)⟩
def Jq:PkX GP:=by
 intro h k L Q E U a q;refine eU (λi σ h'=>h'=h/\∃J:Option W,σ=[Go _,Go<|.int<|pack<|k.take i,J]) ?_ ?_ ⟨rfl,JI,rfl⟩;rintro i w σ h' N Y e ⟨rfl,J,rfl⟩;obtain⟨p,ep,rfl⟩:=ints_get e;have S:Sm 128 _:=Js ((wk (akR U i)).2) (fM (by decide) (by lia));refine aW<|aH<|aH<|aq rfl<|aX<|oN (.of S (.lit rfl) (by decide)<|by decide)<|aq rfl<|gD ?_
 refine lU (σ':=[Go _,Go _,Go<|.int p]) ?_<|bI<|Y _ _ ⟨rfl,_,rfl⟩
 rw[Ik,ep];show _=[Go (W.tup _),Go (.int (pack (k.take i++[p]))),Go (.int p)];rw[dH];rfl;rintro σ h' ⟨rfl,J,rfl⟩;rw[Bo,J8];exact bI<|bF<|aq rfl<|fV q
abbrev UnX (c0:Aq):Prop:=∀{h:Gh}{k:List Int}{L:Nat}{Q:WK}{E:Bt},Kb L k->L<=8->Q (.tup (k.map .int)) h->c0 [.int (pack k),.int (L:Int)] h Q E
def aij (h:Kb L k)(hi:i<L):(pack (k.take (L-i))).fmod 65536=k.getD (L-1-i) 0/\(pack (k.take (L-i))).fdiv 65536=pack (k.take (L-(i+1))):=by
 have O:=h.1;have e1:L-i=(L-1-i)+1:=by lia
 have e2:L-(i+1)=L-1-i:=by lia
 have J:k[L-1-i]?=Go _:=Hw (by lia);have S:=h.2 (k[L-1-i]'(by lia)) (QV _);rw[e2,e1,Ik,J];show(pack (k.take _++[k[L-1-i]'(by lia)])).fmod 65536=_/\(pack (k.take _++[k[L-1-i]'(by lia)])).fdiv 65536=_;rw[dH,KD,J,gP (by decide),vU (by decide)];grind
def abd {us}(J:σ[i]?=Go (Go (.loc n)))(e:h.c n=Go (.lst us))(x:Q (.tup us.reverse) h):vR (aA i) σ h Q:=by
 refine aq J ?_
 rwa[ait e]
abbrev dg (k:List Int)(L i:Nat):List Int:=(Le i).map λj=>k.getD (L-1-j) 0
def abn (h:k.length=L):(dg k L L).reverse=k:=by
 have J:(dg k L L).length=L:=by unfold dg;simp
 refine List.ext_getElem (by rw[List.length_reverse,J,h]) λj h1 h2=>?_;rw[List.getElem_reverse];simp[dg];grind
def aaG:UnX uT:=by
 intro h k L Q E U l q;refine mJ rfl (σ:=[Go<|.int<|pack k,Go<|.int L,JI,JI]) rfl ?_;refine aM<|aW<|gW (ws:=[]) (λR=>rfl) rfl λg e b j=>?_
 refine nV<|bI ?_
 refine akz (λ_=>rfl) (by lia) (by lia) (λi σ h'=>i<=L/\∃J:Option W,σ=[Go<|.int<|pack<|k.take<|L-i,Go<|.int L,Go<|.loc h.nx,J]/\h'.c h.nx=Go (.lst<|(dg k L i).map .int)/\∀n,n≠h.nx->h'.c n=h.c n) ?_ ?_ ⟨Nz _,JI,by rw[Nat.sub_zero,ZM (by rw[U.1];exact Cm _)],e,b⟩;rintro i σ h' N d hi ⟨_,J,rfl,e2,O⟩;obtain⟨a,Y⟩:=aij U hi;refine aM<|dG<|dR<|aq rfl<|cL e2<|ao<|aH<|aq rfl<|aX<|Fy (by decide)<|aB ?_
 refine jt e2 (by rw[Bo];unfold dg;simp;lia) λg2 a1 a2 a3=>bI ?_;refine aW<|aH<|aq rfl<|aX<|Fj ⟨by decide,64,by decide,.lit rfl⟩ ?_
 rw[Y];refine d _ _ ⟨by lia,_,rfl,?_,λn S=>by rw[a2 n S];exact O n S⟩;rw[a1,a];unfold dg;rw[Xx,IK,IK];rfl;rintro σ h' ⟨_,J,rfl,e2,O⟩;have g:(L:Int).toNat=L:=by lia
 rw[g]at e2;refine bI<|bF<|abd rfl e2 ?_
 rw[<-List.map_reverse,abn U.1];exact⟨λn c S f=>by rw[O n<|by lia];exact f,.inl ⟨by rw[Lo];exact Cj _ _,q⟩⟩
abbrev Sy (t:Tm):W:=.tup [.int (pack t.1),.int t.2]
abbrev PtX (c0:Aq):Prop:=∀{h:Gh}{us:List Tm}{L:Nat}{Q:WK}{E:Bt},(∀t∈us,Kb L t.1)->us.length<=1000->L<=8->Q (.lst (us.map Sy)) h->c0 [Ce us] h Q E
def afJ {S}(O:PkX S):PtX (j7 S):=by
 intro h us L Q E U b a q;refine d8 rfl rfl<|bF<|iD<|iB<|aq rfl<|tQ rfl<|fG.mk (HW (by rwa[Bo])<|by decide)<|cU (λi acc g=>g=h/\acc=(us.take i).map Sy) ?_ (by simp_all) ⟨rfl,rfl⟩
 rintro i w acc g N Y e ⟨rfl,rfl⟩;rw[Hf]at e;cases J:us[i]? with
 | none=>rw[J]at e;cases e
 | some t=>
  rw[J]at e;cases e;refine⟨[.tup _,.int t.2],rfl,dB<|cH<|cZ<|ao<|aL<|ao<|aq rfl<|aB<|O (U t<|O5 J) a<|ao<|aq rfl<|aB<|bR rfl<|Y _ _ ⟨rfl,?_⟩⟩;rw[Ik,J,IK];rfl
def Vk (e:h.c n=Go (.dct (Ig D)))(J:∀j∈D.map (·.1),Kb L j)(m:k∈D.map (·.1))(q:Q (.int (getM D k)) h):U0 (.loc n) (.int (pack k)) h Q:=by
 show(match h.c n with
  | some (.dct kvs)=>(match pI kvs _ with
   | some w=>Q w h
   | none=>False)
  | _=>False)
 rw[e];show(match pI _ _ with
  | some w=>Q w h
  | none=>False)
 rw[uV J (J k m)];cases f:D.find? λt=>decide (t.1=k)with
 | none=>
  grind
 | some t=>
  have O:getM D k=t.2:=by unfold getM;rw[f];rfl
  rwa[O]at q
abbrev itW (t:Tm):W:=.tup [.int (pack t.1),.int t.2]
abbrev adq (rs:List Tm):Prop:=∃t∈rs,∃p∈t.1,60<p
instance (rs:List Tm):Decidable (adq rs):=by unfold adq;infer_instance
abbrev CpX (c0:Aq):Prop:=∀{h:Gh}{rs:List Tm}{L:Nat}{Q:WK}{E:Bt},(∀t∈rs,t.1.length=L)->L<=8->rs.length<=600->(¬adq rs->Q .non h)->(adq rs->E ⟨"TooMuch",[]⟩ h)->c0 [Ce rs] h Q E
def agI:CpX jY:=by
 intro h rs L Q E l v s k f;refine d8 rfl rfl ?_;refine eU (λi σ h'=>h'=h/\(∀t∈rs.take i,∀p∈t.1,¬60<p)/\∃a Y:Option W,σ=[Go<|Ce rs,a,Y]) ?_ ?_ ⟨rfl,λ_ h=>by simp at h,JI,JI,rfl⟩
 ·rintro i w σ h' N n e ⟨rfl,lo,a,Y,rfl⟩;rw[Hf]at e;cases U:rs[i]? with
  | none=>rw[U]at e;cases e
  | some t=>
   rw[U]at e;cases e;have d:=O5 U;have r:=l t d;refine lW rfl rfl<|eO<|nV ?_
   refine eO<|nV ?_
   refine bU<|jk<|cB<|ao<|iD<|iB<|aq rfl<|tQ (o:=JI) rfl<|fG.mk (HW (m:=1000) (by rw[Bo];lia)<|by decide) ?_
   refine cU (λj acc g=>g=h'/\acc=((t.1.take j).map λp=>decide<|p>60).map .bl) ?_ ?_ ⟨rfl,rfl⟩;rintro j w acc g x b e' ⟨rfl,rfl⟩;obtain⟨p,ep,rfl⟩:=ints_get e';refine⟨[.int p],rfl,dB<|cH<|aH<|aq rfl<|aX<|sW<|b _ _ ⟨rfl,?_⟩⟩;rw[Ik,ep];simp;rintro acc g ⟨rfl,rfl⟩;rw[Bo,J8];refine aB<|JW rfl (BZ _)<|Jd rfl ?_
   have q:(t.1.map λp=>decide (p>60)).any id=decide (∃p∈t.1,60<p):=by
    rw[Xv,List.any_map,V2,decide_eq_true_iff];constructor;rintro⟨p,O,e⟩;exact⟨p,O,by simpa using e⟩;rintro⟨p,O,e⟩;exact⟨p,O,by simpa using e⟩
   rw[q];refine sZ (λc=>jN<|f ⟨t,d,c⟩) λc=>bH<|n _ _ ⟨rfl,λu S p O J=>?_,_,_,rfl⟩
   rw[Ik,U]at S;rcases Wx.mp S with S|S
   exact lo u S p O J;have:u=t:=by simpa using S
   exact c ⟨p,this ▸ O,J⟩
 rintro σ h' ⟨rfl,lo,a,Y,rfl⟩;rw[Bo,J8]at lo;exact bI<|k λy=>by obtain⟨t,ht,p,O,J⟩:=y;exact lo t ht p O J
abbrev Over (us vs rs:List Tm):Prop:=20000<us.length*vs.length\/600<rs.length\/adq rs
def Vb {x}{N}(e:h.c n=Go (.dct (Ig D)))(O:∀j∈D.map (·.1),Kb L j)(J:Kb L k)(hz:D.length<=30000)(q:∀g,g.c n=Go (.dct (Ig (uE D k x)))->(∀m,m≠n->g.c m=h.c m)->g.nx=h.nx->N g):xJ (.loc n) (.int (pack k)) (.int x) h N:=by
 show(match h.c n with
  | some (.dct kvs)=>fG _ _
  | _=>False)
 rw[e];refine fG.mk (HW (m:=30001) (by unfold Ig;rw[Bo];lia)<|by decide) ?_;exact KZ O J ▸ q _ (sU _ _ _) (λ_ e=>j4 e) rfl
def Tf (e:h.c n=Go (.dct (Ig D)))(O:∀j∈D.map (·.1),Kb L j)(J:Kb L k)(q:Q (.int (getM D k)) h):JT (.loc n) [.int (pack k),.int 0] h Q:=by
 show(match h.c n,(Go _:Option Key)with
  | some (.dct kvs),Go k=>Q _ h
  | _,_=>False)
 rw[e];show Q _ h
 rwa[alD O J]
def Cg {kvs P}(e:h.c n=Go (.dct kvs))(p:P):Iw h (.loc n) P:=by
 unfold Iw;simp_all
def Jy {r}{mo}(x:mo σ h λx h1=>Iw h1 x (ma σ h1 λxs h2=>r x xs h2 Q)):Z6 r mo ma σ h Q:=x
def akH (x:∀g,g.c h.nx=Go (.dct (Ig []))->(∀n,n≠h.nx->g.c n=h.c n)->g.nx=h.nx+1->Q (.loc h.nx) g):Xd σ h Q:=x _ (Ao _ _) (λ_ e=>rA e) rfl
def aht (e:us[i]?=Go t):mO (us.take (i+1)) vs=Ie t.1 t.2 vs (mO (us.take i) vs):=by
 rw[Ik,e];exact gk ..
def aiS {n s}(e:vs[i]?=Go s):Ie k n (vs.take (i+1)) D=Hu (Ie k n (vs.take i) D) (d7 k s.1) (n*s.2):=by
 rw[Ik,e];exact fW ..
def Ms.kb (h:Ms L us):∀t∈us,t.1.length=L/\∀p∈t.1,0<=p/\p<=40:=λt ht=>⟨(h.2.2 t ht).1,(h.2.2 t ht).2.2.2⟩
def GQ.facts {rs}(Y:∀k∈D.map (·.1),Kb L k)(S:(D.map (·.1)).Nodup)(a:GQ D rs):(∀t∈rs,Kb L t.1/\t.2≠0)/\(rs.map (·.1)).Pairwise (· < ·):=by
 obtain⟨ks,O,J,rfl⟩:=a;refine⟨λt ht=>?_,Mp J⟩;have:=U6 S (λk U=>O.mem_iff.mp U) ht
 grind
def Gn:∀us,o9 (us.map J7)=Go (NZ us)
 | []=>rfl
 | t::us=>by
  show(match Ur _ with
   | some ks=>(o9 _).map _
   | none=>JI)=_
  rw[Gw,Gn us];rfl
def adx (J:(us.map (·.1)).Nodup)(x:∀g,g.c h.nx=Go (.dtt (NZ us))->(∀n,n≠h.nx->g.c n=h.c n)->g.nx=h.nx+1->Q (.loc h.nx) g):Fe [Ce us] h Q:=by
 show(match o9 _ with
  | some ps=>(ps.map _).Nodup/\Q _ _
  | none=>False)
 rw[Gn];refine⟨?_,x _ (Ao _ _) (λ_ e=>rA e) rfl⟩;have:(NZ us).map (·.1)=us.map (·.1):=by unfold NZ;rw[Ky];rfl
 rwa[this]
def Vl {h'}(J:∀n,n<h.nx->h'.c n=h.c n)(q:Q (Ce us) h):jy true h (Ce us) h' Q:=
 ⟨λn c O S=>J n O ▸ S,.inl ⟨ZQ _ _,q⟩⟩
abbrev sY (f:Int)(us vs:List Tm):List Tm:=vs.foldl (λD t=>Hu D t.1 (f*t.2)) us
def jB (f:Int)(us vs:List Tm)(t:Tm):sY f us (vs++[t])=Hu (sY f us vs) t.1 (f*t.2):=by unfold sY;rw[YD];rfl
def lO {f}(h:(us.map (·.1)).Nodup):((sY f us vs).map (·.1)).Nodup:=by
 refine CR (P:=λvs=>((sY f us vs).map _).Nodup) h (λvs t J=>?_) vs;rw[jB];exact Ag J
def vg (f)(us vs):(sY f us vs).length<=us.length+vs.length:=by
 refine CR (P:=λvs=>(sY f us vs).length<=us.length+vs.length) (Cm _) (λvs t J=>?_) vs;rw[jB,JK,ZL];exact HW (Nh ..)<|by lia
def Jw {r}:∀{vs},(vs.map (·.1)).Nodup->lin (λk=>if k=r then 1 else 0) vs=getM vs r
 | [],_=>rfl
 | t::vs,J=>by
  rw[Hz,Wo]at J;rw[cG,cA,Jw J.2];by_cases c:t.1=r
  rw[if_pos c,if_pos c,getM_none (c ▸ J.1)];lia;simp_all
def rH {f}:∀k∈(sY f us vs).map (·.1),k∈us.map (·.1)\/k∈vs.map (·.1):=by
 refine CR (P:=λvs=>∀k∈(sY f us vs).map _,k∈us.map _\/k∈vs.map _) (λk h=>.inl h) (λvs t O k J=>?_) vs;rw[jB,vN]at J;grind
abbrev Ls (L:Nat)(us:List Tm):Prop:=us.length<=400/\(us.map (·.1)).Pairwise (· < ·)/\∀t∈us,t.1.length=L/\t.2≠0/\Sm 30000 t.2
def aay {f}(O:Ls L us)(J:Ls L vs):∀t∈sY f us vs,t.1.length=L:=λt ht=>by
 rcases rH _ (Hr.mpr ⟨t,ht,rfl⟩)with h|h
 obtain⟨u,h1,h2⟩:=Hr.mp h;rw[<-h2];exact(O.2.2 u h1).1;obtain⟨u,h1,h2⟩:=Hr.mp h;rw[<-h2];exact(J.2.2 u h1).1
abbrev afL (c0:Aq):Prop:=∀{h:Gh}{n:Nat}{ts:List Tm}{Q:WK}{E:Bt},h.c n=Go (.dtt (NZ ts))->ts.length<64->Ke (ts.map (·.1))->(∀ks:List (List Int),ks.Perm (ts.map (·.1))->ks.Pairwise (· < ·)->((uQ ts ks).length<=600->Q (Ce (uQ ts ks)) h)/\(600<(uQ ts ks).length->E ⟨"TooMuch",[]⟩ h))->c0 [.loc n] h Q E
def zbK (c:σ[0]?=Go (Go (.loc n)))(U:h.c n=Go (.dct (Ig D)))(S:∀j∈D.map (·.1),Kb L j)(p:(D.map (·.1)).Nodup)(hz:D.length<64)
  (q:∀rs,GQ D rs->Q (.lst (rs.map itW)) h) :
  Ht JL [0] (Ii (HN GC (aj (aA 0) aG))) (bQ (Ah Q8 (Ah Zc (aA 1) (aA 0)) (mC (.int 0)))) (cO (aj (aA 0) (aj (Ah Zc (aA 1) (aA 0)) aG))) σ h Q:=by
 have v:mY [0] σ=[Go (.loc n)]:=by unfold mY;rw[Hz,c];rfl
 refine iD<|iB<|cB<|ao<|aq c<|aB<|Or.inr ?_
 show(match h.c n with
  | some (.dct kvs)=>∃ks:List Int,Aj kvs ks/\ks.length<64/\∀js:List Int,js.Perm ks->js.Pairwise (· < ·)->_
  | _=>False)
 rw[U];refine⟨(D.map (·.1)).map pack,by unfold Aj Ig;rw[Ky,Ky,Ky];rfl,by rw[Bo,Bo];exact hz,λjs l g=>?_⟩;obtain⟨ks,J,Y⟩:=Qq (D.map (·.1)) p;have u:js=ks.map pack:=by
  refine KQ (l.trans (J.map pack).symm) g ?_;rw[SQ];exact Zv (λ{a b} s r h=>(wM (S a<|J.mem_iff.mp s)<|S b<|J.mem_iff.mp r).mp h) Y
 subst u;have q:=q _ ⟨ks,J,Y,rfl⟩;have x:ks.length=D.length:=by rw[J.length_eq,Bo]
 refine tQ (ws:=(ks.map pack).map .int) (o:=JI) rfl<|fG.mk (HW (m:=30000) (by rw[Bo,Bo];lia)<|by decide) ?_
 refine cU (λi acc h'=>h'=h/\acc=(uQ D<|ks.take i).map itW) ?_ ?_ ⟨rfl,rfl⟩
 ·rintro i w acc h' N d e ⟨rfl,rfl⟩;rw[Ky,Hf]at e;cases O:ks[i]? with
  | none=>rw[O]at e;cases e
  | some k=>
   rw[O]at e;cases e;have mk:=J.mem_iff.mp (O5 O);refine⟨[.int<|pack k],rfl,?_⟩;rw[v];have f:uQ D (ks.take (i+1))=uQ D (ks.take i)++([(k,getM D k)].filter λt:Tm=>decide (t.2≠0)):=by
    unfold uQ;rw[Ik,O,IK,Za];rfl
   refine aZ<|aH<|aH<|aq rfl<|aq rfl<|Or.inr<|Vk U S mk<|aX<|Rt<|iu ?_
   refine aa9 (λne=>?_) λne=>?_;refine cZ<|ao<|aq rfl<|ao<|aH<|aq rfl<|aq rfl<|Or.inr<|Vk U S mk<|aB<|bR rfl ?_
   refine d _ _ ⟨rfl,?_⟩;rw[f,SN,if_pos (by simpa using ne),IK];rfl;refine d _ _ ⟨rfl,?_⟩;rw[f,SN,if_neg (by simpa using ne)];simp
 rintro acc h' ⟨rfl,rfl⟩;rw[Bo,Bo,J8];exact q
abbrev afK (c0:Aq):Prop:=∀{h:Gh}{n:Nat}{D:List Tm}{L:Nat}{Q:WK}{E:Bt},h.c n=Go (.dct (Ig D))->(∀j∈D.map (·.1),Kb L j)->(D.map (·.1)).Nodup->D.length<64->(∀rs,GQ D rs->(rs.length<=600->Q (.tup (rs.map itW)) h)/\(600<rs.length->E ⟨"TooMuch",[]⟩ h))->c0 [.loc n] h Q E
def zbZ:afK gq:=by
 intro h n D L Q E b a S U q;refine d8 rfl (σ:=[Go _,JI]) rfl<|aM<|aW<|cB<|ao<|zbK rfl b a S U λrs Y=>aB<|eZ ?_
 obtain⟨O,J⟩:=q rs Y;refine nV<|bI<|aM<|bU<|aZ<|aH<|cB<|ao<|aq rfl<|aB<|dD rfl ?_
 rw[Bo];exact aX<|sW<|iu<|sZ (λc=>jN<|J<|by lia) λc=>bH<|bI<|bF<|aq rfl<|fV<|O<|by lia
def zbJ (Y:σ[0]?=Go (Go (.loc n)))(U:h.c n=Go (.dtt (NZ ts)))(hz:ts.length<64)(hs:Ke (ts.map (·.1)))
  (q:∀ks:List (List Int),ks.Perm (ts.map (·.1))->ks.Pairwise (· < ·)->Q (.lst ((uQ ts ks).map J7)) h) :
  Ht JL [0] (Ii (HN GC (aj (aA 0) aG))) (bQ (Ah Q8 (Ah Zc (aA 1) (aA 0)) (mC (.int 0)))) (cO (aj (aA 0) (aj (Ah Zc (aA 1) (aA 0)) aG))) σ h Q:=by
 have d:mY [0] σ=[Go (.loc n)]:=by unfold mY;rw[Hz,Y];rfl
 refine iD<|iB<|cB<|ao<|aq Y<|aB<|Or.inl ?_
 show(match h.c n with
  | some (.dtt kvs)=>Yu (kvs.map (·.1))/\∀ks:List (List Int),ks.Perm (kvs.map (·.1))->ks.Pairwise (· < ·)->_
  | _=>False)
 rw[U];have S:(NZ ts).map (·.1)=ts.map (·.1):=by unfold NZ;rw[Ky];rfl
 refine⟨⟨by rw[S,Bo];exact hz,by rw[S];exact hs⟩,λks O c=>?_⟩;rw[S]at O;have q:=q ks O c;have f:ks.length=ts.length:=by rw[O.length_eq,Bo]
 refine tQ (o:=JI) rfl<|fG.mk (HW (m:=1000) (by rw[Bo];lia)<|by decide) ?_
 refine cU (λi acc h'=>h'=h/\acc=(uQ ts<|ks.take i).map J7) ?_ ?_ ⟨rfl,rfl⟩
 ·rintro i w acc h' N a e ⟨rfl,rfl⟩;rw[Hf]at e;cases J:ks[i]? with
  | none=>rw[J]at e;cases e
  | some k=>
   rw[J]at e;cases e;have mk:=O.mem_iff.mp (O5 J);refine⟨[.tup<|k.map .int],rfl,?_⟩;rw[d];have b:uQ ts (ks.take (i+1))=uQ ts (ks.take i)++([(k,getM ts k)].filter λt:Tm=>decide (t.2≠0)):=by
    unfold uQ;rw[Ik,J,IK,Za];rfl
   refine aZ<|aH<|aH<|aq rfl<|aq rfl<|Or.inl<|TY U mk<|aX<|Rt<|iu ?_
   refine aa9 (λne=>?_) λne=>?_;refine cZ<|ao<|aq rfl<|ao<|aH<|aq rfl<|aq rfl<|Or.inl<|TY U mk<|aB<|bR rfl ?_
   refine a _ _ ⟨rfl,?_⟩;rw[b,SN,if_pos (by simpa using ne),IK];rfl;refine a _ _ ⟨rfl,?_⟩;rw[b,SN,if_neg (by simpa using ne)];simp
 rintro acc h' ⟨rfl,rfl⟩;rw[Bo,J8];exact q
def abw:afL gq:=by
 intro h n ts Q E b Y a q;refine d8 rfl (σ:=[Go _,JI]) rfl<|aM<|aW<|cB<|ao<|zbJ rfl b Y a λks U J=>aB<|eZ ?_
 obtain⟨S,O⟩:=q ks U J;refine nV<|bI<|aM<|bU<|aZ<|aH<|cB<|ao<|aq rfl<|aB<|dD rfl ?_
 rw[Bo];exact aX<|sW<|iu<|sZ (λc=>jN<|O<|by lia) λc=>bH<|bI<|bF<|aq rfl<|fV<|S<|by lia
abbrev afU (f:Int)(us vs rs:List Tm):Prop:=∃ks:List (List Int),ks.Perm ((sY f us vs).map (·.1))/\ks.Pairwise (· < ·)/\rs=uQ (sY f us vs) ks
abbrev WhX (c0:Aq):Prop:=∀{h:Gh}{us vs:List Tm}{f:Int}{L:Nat}{Q:WK}{E:Bt},Ls L us->Ls L vs->Sm 64 f->(sY f us vs).length<64->(∀rs,afU f us vs rs->(rs.length<=600->Q (Ce rs) h)/\(600<rs.length->∀h':Gh,E ⟨"TooMuch",[]⟩ h'))->c0 [Ce us,Ce vs,.int f] h Q E
def ahL {f}(e:vs[i]?=Go t):sY f us (vs.take (i+1))=Hu (sY f us (vs.take i)) t.1 (f*t.2):=by
 rw[Ik,e];exact jB ..
def agC {g:Aq}(b:afL g):WhX (oH g):=by
 intro h us vs f L Q E O a k d q;have y:=O.1;have x:=a.1;refine mJ rfl rfl<|aM<|aW<|cB<|ao<|aq rfl<|aB<|adx (dW O.2.1) λg u r v=>?_
 refine eU (λi σ h'=>∃U S:Option W,σ=[Go<|Ce us,Go<|Ce vs,Go<|.int f,Go<|.loc h.nx,U,S]/\h'.c h.nx=Go (.dtt<|NZ<|sY f us<|vs.take i)/\∀n,n≠h.nx->h'.c n=h.c n) ?_ ?_ ⟨JI,JI,rfl,u,r⟩
 ·rintro i w σ h' N s e ⟨U,S,rfl,e2,Y⟩;rw[Hf]at e;cases J:vs[i]? with
  | none=>rw[J]at e;cases e
  | some t=>
   rw[J]at e;cases e;have ld:=vg f us (vs.take i);rw[Ou]at ld;refine lW rfl rfl<|eO<|nV ?_
   refine eO<|nV ?_
   refine aW<|aH<|aaZ<|aq rfl<|alF e2<|ao<|aq rfl<|ao<|aX<|aB<|aeZ e2 ?_
   refine aH<|aq rfl<|aq rfl<|oN (.of k (a.2.2 t<|O5 J).2.2 (by decide) (by decide))<|gD<|JM<|aq rfl<|aq rfl ?_
   refine acs e2 (by lia) λg2 a1 a2 a3=>bI<|s _ _ ⟨_,_,rfl,?_,λn c=>a2 n c ▸ Y n c⟩
   rw[ahL J];exact a1
 rintro σ h' ⟨U,S,rfl,e2,Y⟩;rw[Bo,J8]at e2;refine b e2 d (zbv (L:=L) (lO<|dW O.2.1)<|aay O a) λks p j=>?_;obtain⟨o,m⟩:=q _ ⟨ks,p,j,rfl⟩;exact⟨λl=>Vl (λn c=>Y n<|by lia)<|o l,λl=>m l h'⟩
abbrev PlX (f:Int)(c0:Aq):Prop:=∀{h:Gh}{us vs:List Tm}{L:Nat}{Q:WK}{E:Bt},Ls L us->Ls L vs->(sY f us vs).length<64->(∀rs,afU f us vs rs->(rs.length<=600->Q (Ce rs) h)/\(600<rs.length->∀h':Gh,E ⟨"TooMuch",[]⟩ h'))->c0 [Ce us,Ce vs] h Q E
def abq {wt}(J:WhX wt):PlX 1 (Vc wt):=by
 intro h us vs L Q E U S O q;exact d8 rfl rfl<|bF<|aL<|ao<|aq rfl<|ao<|aq rfl<|ao<|aX<|aB<|J U S (.lit rfl) O q
def alg {wt}(J:WhX wt):PlX (-1) (Og wt):=by
 intro h us vs L Q E U S O q;exact d8 rfl rfl<|bF<|aL<|ao<|aq rfl<|ao<|aq rfl<|ao<|Ot<|aX<|yV<|aB<|J U S (.lit rfl) O q
def zbl {g b D}(J:σ[i]?=Go (Go (.lst ws)))(x:iW ⟨ws,JI⟩ g b D ws σ h):tO (Ii (aA i)) g b D σ h:=oE (iB (aq J (tQ rfl (oO x))))
def T9 {l}:Mj (w::l) 0=Go w:=by
 unfold Mj Qt;simp
def lets (J:σ[0]?=Go (Go (Ce us)))(O:∀t∈us,t.1.length=L)(q:∀l,(us≠[]->l=L)->Q (.int l) h):
  mIf (Ds (aA 0)) (HN Ho (aj (Ah Bh (Ah Bh (aA 0) (mC (.int 0))) (mC (.int 0))) aG)) (mC (.int 0)) σ h Q:=by
 cases us with
 | nil=>exact Y9 (jk (aq J (Jd rfl (nY (aX (q 0 λn=>absurd rfl n))))))
 | cons t us=>
  refine Y9<|jk<|aq J<|Jd rfl<|Hx<|cB<|ao<|aH<|aH<|aq J<|aX<|bA rfl T9<|aX<|bA rfl T9<|aB<|dD rfl ?_
  simp_all
def agy {l}{rs U E0}(S:UnX U)(a:σ[10]?=Go (Go (.tup (rs.map itW))))(O:σ[9]?=Go (Go (.int l)))(b:∀t∈rs,Kb L t.1)(c:rs≠[]->l=L)(f:L<=8)(hz:rs.length<=600)(q:Q (.lst (rs.map J7)) h):
  Ht (Qa 2) [9] (Ii (aA 10)) jx (cO (aj (aJ U E0 (aj (aA 0) (aj (aA 2) aG))) (aj (aA 1) aG))) σ h Q:=by
 have k:mY [9] σ=[Go (.int l)]:=by unfold mY;rw[Hz,O];rfl
 refine iD<|iB<|aq a<|tQ (ws:=rs.map itW) (o:=JI) rfl<|fG.mk (HW (m:=1000) (by rw[Bo];lia)<|by decide) ?_
 refine cU (λi acc g=>g=h/\acc=(rs.take i).map J7) ?_ ?_ ⟨rfl,rfl⟩
 ·rintro i w acc g N d e ⟨rfl,rfl⟩;rw[Hf]at e;cases J:rs[i]? with
  | none=>rw[J]at e;cases e
  | some t=>
   rw[J]at e;cases e;have Y:=O5 J;have j:=c (List.ne_nil_of_mem Y);subst j;refine⟨[.int<|pack t.1,.int t.2],rfl,?_⟩;rw[k];refine S (b t Y) f<|ao<|aq rfl<|aB<|bR rfl<|d _ _ ⟨rfl,?_⟩
   rw[Ik,J,IK];rfl
 rintro acc g ⟨rfl,rfl⟩;rw[Bo,J8];exact q
abbrev adP (c0:Aq):Prop:=∀{h:Gh}{us vs:List Tm}{L:Nat}{Q:WK}{E:Bt},Ms L us->Ms L vs->L<=8->(mO us vs).length<64->(∀rs,GQ (mO us vs) rs->(¬Over us vs rs->Q (Ce rs) h)/\(Over us vs rs->∀h':Gh,E ⟨"TooMuch",[]⟩ h'))->c0 [Ce us,Ce vs] h Q E
@[reducible]noncomputable def ht (us vs:List Tm)(h:Gh)(r:Sw):Sw:=Go (Ce us)::Go (Ce vs)::Go (.loc h.nx)::Go (.lst (vs.map Sy))::r
def akg {so un pt cp}(I:afK so)(H:UnX un)(b:PtX pt)(R:CpX cp):adP (Lb so un pt cp):=by
 intro h us vs L Q E Y G r V q;have lu:=Y.1;have lv:=G.1;have S:=Y.kb;have U:=G.kb;have D:∀t∈us,Kb L t.1:=λt ht=>⟨(S t ht).1,λp M=>by have:=(S t ht).2 p M;lia⟩
 have C:∀t∈vs,Kb L t.1:=λt ht=>⟨(U t ht).1,λp M=>by have:=(U t ht).2 p M;lia⟩
 have kD:=zQ S U;obtain⟨ks,y,sk⟩:=Qq _ (lN us vs);have hO:GQ (mO us vs) (uQ (mO us vs) ks):=⟨ks,y,sk,rfl⟩
 refine mJ rfl (σ:=[Go<|Ce us,Go<|Ce vs,JI,JI,JI,JI,JI,JI,JI,JI,JI,JI]) rfl ?_;refine aM<|bU<|aZ<|aH<|aH<|cB<|ao<|aq rfl<|aB<|dD (xs:=us.map J7) rfl<|cB<|ao<|aq rfl<|aB<|dD (xs:=vs.map J7) rfl ?_
 rw[Bo,Bo];refine oN (.of (n:=8) (m:=8) (by unfold Sm;show(us.length:Int).natAbs<256;lia) (by unfold Sm;show(vs.length:Int).natAbs<256;lia) (by decide)<|by decide)<|aX<|sW<|iu ?_
 generalize ez:us.length*vs.length=z;refine sZ (λc=>jN<|(q _ hO).2 (.inl<|by lia) _) λc=>bH<|bI ?_
 have hz:us.length*vs.length<=20000:=by lia
 unfold yH;refine aM<|aW<|akH λg eg og xg=>?_
 refine nV<|bI ?_
 refine aM<|aW<|aL<|ao<|aq rfl<|aB<|b C (by lia) r ?_
 refine nV<|bI ?_
 refine aM<|oE<|iB<|aL<|ao<|aq rfl<|aB<|b D (by lia) r<|tQ (ws:=us.map Sy) (o:=JI) rfl<|oO ?_
 refine eU (λi σ h'=>∃x v s6 O J:Option W,σ=ht us vs h [x,v,s6,O,J,JI,JI,JI]/\h'.c h.nx=Go (.dct<|Ig<|mO (us.take i) vs)/\h'.nx=h.nx+1/\∀n,n≠h.nx->h'.c n=h.c n) ?_ ?_ ⟨JI,JI,JI,JI,JI,rfl,eg,xg,og⟩
 ·rintro i w σ h' N hN e ⟨x,v,s6,O,J,rfl,e2,Z,B⟩;rw[Hf]at e;cases f:us[i]? with
  | none=>rw[f]at e;cases e
  | some t=>
   rw[f]at e;cases e;have g:=O5 f;have zi:(us.take i).length*vs.length<=20000:=HW (Nat.mul_le_mul_right _ (by rw[Ou];lia)) hz;have ldi:=HW (Fz (us.take i) vs) zi;have F:∀k∈(mO (us.take i) vs).map (·.1),Kb L k:=zQ (λu Y=>S u (Zg Y)) U
   refine lW rfl rfl<|eO<|nV ?_
   refine eO<|nV ?_
   refine Fb ?_;refine zbl (ws:=vs.map Sy) rfl ?_;refine eU (λj σ h'=>∃s6 O J:Option W,σ=ht us vs h [Go<|.int<|pack t.1,Go<|.int t.2,s6,O,J,JI,JI,JI]/\h'.c h.nx=Go (.dct<|Ig<|Ie t.1 t.2 (vs.take j)<|mO (us.take i) vs)/\h'.nx=h.nx+1/\∀n,n≠h.nx->h'.c n=h.c n) ?_ ?_ ⟨s6,O,J,rfl,e2,Z,B⟩
   ·rintro j w σ h2 N2 T e' ⟨s6,O,J,rfl,e3,X,A⟩;rw[Hf]at e';cases d:vs[j]? with
    | none=>rw[d]at e';cases e'
    | some s=>
     rw[d]at e';cases e'
     have ms:=O5 d;have a:=Lf (t:=t) (vs:=vs.take j) (S t g) (λu Y=>U u (Zg Y)) F;have kz:=Ld (S t g) (U s ms);have lj:=Ei t.1 t.2 (vs.take j) (mO (us.take i) vs);rw[Ou]at lj;refine lW rfl rfl<|eO<|nV ?_
     refine eO<|nV ?_
     refine Fb ?_;refine aM<|aW<|aH<|aq rfl<|aq rfl<|gD ?_
     rw[<-iZ (S t g).1 (U s ms).1];refine nV<|bI ?_
     refine aW<|aH<|Jy<|aq rfl<|Cg e3<|ao<|aq rfl<|ao<|aX<|aB<|Tf e3 a kz ?_
     refine aH<|aq rfl<|aq rfl<|oN (.of (Y.2.2 t g).2.2.1 (G.2.2 s ms).2.2.1 (by decide) (by decide))<|gD<|JM<|aq rfl<|aq rfl ?_
     refine Vb e3 a kz (by lia) λg2 a1 a2 a3=>bI<|T _ _ ⟨_,_,_,rfl,?_,by lia,λn c=>by rw[a2 n c];exact A n c⟩
     rw[aiS d];exact a1
   rintro σ h2 ⟨s6,O,J,rfl,e3,X,A⟩;rw[Bo,J8]at e3;refine bI<|hN _ _ ⟨_,_,_,_,_,rfl,?_,X,A⟩
   rw[aht f];exact e3
 rintro σ h' ⟨x,v,s6,O,J,rfl,e2,Z,B⟩;rw[Bo,J8]at e2;have ge:Ge h h':=⟨by lia,λn c=>B n (by lia)⟩
 refine bI ?_;unfold yC;refine aM<|aW<|lets (L:=L) rfl (λt ht=>(S t ht).1) λl el=>?_
 refine nV<|bI ?_
 refine aM<|aW<|aL<|ao<|aq rfl<|aB ?_
 refine I e2 kD (lN us vs) V λrs K=>?_;obtain⟨q1,q2⟩:=q rs K;have fr:=(K.facts kD (lN us vs)).1;refine⟨λl6=>?_,λl6=>q2 (.inr<|.inl l6) _⟩;have P:rs≠[]->l=L:=λn=>el λeu=>n (by
  subst eu;obtain⟨ks,y,sk,rfl⟩:=K;have:ks=[]:=y.eq_nil
  rw[this];rfl)
 refine nV<|bI ?_
 refine aM<|aW<|cB<|ao<|agy H rfl rfl (λt ht=>(fr t ht).1) P r l6<|aB<|eZ ?_
 refine nV<|bI ?_
 refine aM<|dG<|aL<|ao<|aq rfl<|aB ?_
 refine R (λt ht=>(fr t ht).1.1) r l6 (λlo=>bI<|bF<|aq rfl<|fV<|Vl (λn c=>ge.2 n c)<|q1 λo=>?_) λhi=>q2 (.inr<|.inr hi) _;rcases o with o|o|o
 lia;lia;exact lo o
abbrev mo (ps xs:List Int):Nat->Int
 | 0=>1
 | i+1=>mo ps xs i*(xs.getD i 0)^(ps.getD i 0).toNat
variable {g:List Int->Int}
def vB {f g}:∀{us},(∀t∈us,f t.1=g t.1)->lin f us=lin g us
 | [],_=>rfl
 | t::us,h=>by rw[cG,cG,h t (by simp),vB λu J=>h u (Lq _ J)]
def wH {r}:∀{vs},(vs.map (·.1)).Nodup->lin (dl r) vs=getM vs r
 | [],_=>rfl
 | t::vs,J=>by
  rw[Hz,Wo]at J;rw[cG,cA,wH J.2];unfold dl;by_cases c:t.1=r
  rw[if_pos c,if_pos c,getM_none (c ▸ J.1)];lia;simp_all
def ajf {n:Int}(J:(D.map (·.1)).Nodup)(vs:List Tm):lin g (Ie k n vs D)=lin g D+n*lin (λl=>g (d7 k l)) vs:=by
 refine CR (P:=λvs=>lin g (Ie k n vs D)=lin g D+n*lin _ vs) (by show lin g D=lin g D+n*0;lia) (λvs t O=>?_) vs;rw[fW,JN (Oc J),nO];show _=_+n*(_+(g _*t.2+0));grind
def ais (g)(us vs):lin g (mO us vs)=lin (λk=>lin (λl=>g (d7 k l)) vs) us:=by
 refine CR (P:=λus=>lin g (mO us vs)=lin (λk=>lin (λl=>g<|d7 k l) vs) us) rfl (λus t J=>?_) us;rw[gk,ajf (lN us vs),nO];show _=_+(_+0);grind
def als (O:∀t∈us,∀s∈vs,g (d7 t.1 s.1)=g t.1*g s.1):lin g (mO us vs)=lin g us*lin g vs:=by
 rw[ais,<-qz];refine vB λt ht=>?_;rw[Int.mul_comm,<-qz];refine vB λs J=>?_;grind
def Oe {f}(J:(us.map (·.1)).Nodup)(vs):lin g (sY f us vs)=lin g us+f*lin g vs:=by
 refine CR (P:=λvs=>lin g _=lin g us+f*lin g vs) (by show lin g us=lin g us+f*0;lia) (λvs t O=>?_) vs;rw[jB,JN (lO J),nO];show _=_+f*(_+(g _*t.2+0));grind
def GQ.lin {D rs}(O:(D.map (·.1)).Nodup)(a:GQ D rs)(g):lin g rs=lin g D:=by
 obtain⟨ks,J,_,rfl⟩:=a;exact aiV O J
def Ob:∀{k l i},k.length=l.length->(d7 k l).getD i 0=k.getD i 0+l.getD i 0
 | [],[],_,_|a::k,b::l,0,_=>rfl
 | a::k,b::l,i+1,h=>by
  show(d7 k l).getD i 0=k.getD i 0+l.getD i 0;exact Ob<|by simpa using h
def Cp {k l xs}(O:k.length=l.length)(S:∀i,0<=k.getD i 0)(J:∀i,0<=l.getD i 0):∀i,mo (d7 k l) xs i=mo k xs i*mo l xs i
 | 0=>rfl
 | i+1=>by
  rw[mo,mo,mo,Cp O S J i,Ob O,Int.toNat_add (S i) (J i)];grind
def J3 {f B C}(J:∀k,(f k).natAbs<=B):∀{us},(∀t∈us,t.2.natAbs<=C)->(lin f us).natAbs<=us.length*(B*C)
 | [],_=>Nz _
 | t::us,h=>by
  rw[PN,Nat.succ_mul,Nat.add_comm];refine HW (Int.natAbs_add_le _ _)<|Nat.add_le_add ?_<|J3 J λu O=>h u<|Lq _ O
  rw[Int.natAbs_mul];exact Nat.mul_le_mul (J _)<|h t<|by simp
def zbm {n:Int}(vs:List Tm):∀x∈(Ie k n vs D).map (·.1),x∈D.map (·.1)\/∃s∈vs,x=d7 k s.1:=by
 refine CR (P:=λvs=>∀x∈(Ie k n vs D).map _,x∈D.map _\/∃s∈vs,x=d7 k s.1) (λ_ h=>.inl h) (λvs s O x J=>?_) vs;rw[fW,vN]at J;have J:x∈(Ie k n vs D).map (·.1)\/x=d7 k s.1:=by
  grind
 rcases J with J|J
 rcases O x J with h|⟨u,S,e⟩
 exact .inl h;grind
 exact .inr ⟨s,by simp,J⟩
def Dq (us vs):∀x∈(mO us vs).map (·.1),∃t∈us,∃s∈vs,x=d7 t.1 s.1:=by
 refine CR (P:=λus=>∀x∈(mO us vs).map _,∃t∈us,∃s∈vs,x=d7 t.1 s.1) (λx h=>by simp[mO]at h) (λus t O x J=>?_) us;rw[gk]at J;rcases zbm vs x J with h|⟨s,S,e⟩
 obtain⟨u,U,s,S,e⟩:=O x h;grind
 grind
abbrev Mb (L b p n:Nat)(us:List Tm):Prop:=us.length<=n/\(us.map (·.1)).Pairwise (· < ·)/\∀t∈us,t.1.length=L/\t.2≠0/\Sm b t.2/\∀q∈t.1,0<=q/\q<=(p:Int)
variable {b p:Nat}
def Mb.mono {L b p n O p' J us}(h:Mb L b p n us)(U:b<=O)(Y:p<=p')(a:n<=J):Mb L O p' J us:=
 ⟨by have:=h.1;lia,h.2.1,λt ht=>⟨(h.2.2 t ht).1,(h.2.2 t ht).2.1,(h.2.2 t ht).2.2.1.mono U,λq S=>by have:=(h.2.2 t ht).2.2.2 q S;lia⟩⟩
def Mb.ms (h:Mb L 30000 30 64 us):Ms L us:=⟨by have:=h.1;lia,h.2.1,λt ht=>⟨(h.2.2 t ht).1,(h.2.2 t ht).2.1,(h.2.2 t ht).2.2.1,λq J=>by have:=(h.2.2 t ht).2.2.2 q J;lia⟩⟩
def Mb.nn (h:Mb L b p n us)(ht:t∈us)(i):0<=t.1.getD i 0:=by
 rw[KD];cases e:t.1[i]? with
 | none=>exact Int.le_refl _
 | some x=>exact((h.2.2 t ht).2.2.2 x (O5 e)).1
def GQ.mem {rs}(O:(D.map (·.1)).Nodup)(a:GQ D rs):rs.length<=D.length/\(rs.map (·.1)).Pairwise (· < ·)/\∀t∈rs,t.1∈D.map (·.1)/\t.2≠0/\t.2=getM D t.1:=by
 obtain⟨ks,J,S,rfl⟩:=a;have lo:=ajK D ks;rw[J.length_eq,Bo]at lo;refine⟨lo,Mp S,λt ht=>?_⟩;have:=U6 O (λk U=>J.mem_iff.mp U) ht
 exact⟨Hr.mpr ⟨t,this.1,rfl⟩,this.2,(jM O this.1).symm⟩
variable {c:Nat}
def abb {q}{rs}(J:Mb L b p n us)(S:Mb L c q m vs)(g:n<=64)(h:m<=64)(a:GQ (mO us vs) rs):Mb L (b+c+13) (p+q) (n*m) rs:=by
 obtain⟨h1,h2,i⟩:=a.mem (lN us vs);refine⟨(HW (HW h1<|Fz us vs)<|Nat.mul_le_mul J.1 S.1),h2,λt ht=>?_⟩;obtain⟨k1,k2,k3⟩:=i t ht;obtain⟨x,U,s,O,e⟩:=Dq us vs _ k1;refine⟨by rw[e,v8<|by rw[(J.2.2 x U).1,(S.2.2 s O).1],(J.2.2 x U).1],k2,?_,λz Y=>?_⟩;rw[k3,zbp];refine Wu (J3 (λk=>HW (J3 (B:=1) (λl=>(λk l=>by unfold dl;split<;>decide) k l) λs O=>QX (S.2.2 s O).2.2.1) (by rw[Nat.one_mul];exact Nat.mul_le_mul_right _ (HW S.1 h))) λs O=>QX (J.2.2 s O).2.2.1)<|Wu (Nat.mul_le_mul_right _<|HW J.1 g) ?_
 rw[Nat.pow_add,Nat.pow_add];have j:0<2^b*2^c:=Nat.mul_pos (YL (by decide)) (YL (by decide));have e:64*(64*2^c*2^b)=4096*(2^b*2^c):=by
  rw[Nat.mul_assoc 64,<-Nat.mul_assoc 64 64,Nat.mul_comm (2^c)]
 lia;rw[e]at Y;obtain⟨y,d,w,f,rfl⟩:=pO Y;have:=(J.2.2 x U).2.2.2 y d
 have:=(S.2.2 s O).2.2.2 w f
 lia
def Ub (h:∀t∈us,Sm b t.2)(r):Sm b (getM us r):=by
 unfold getM;cases e:us.find? λt=>decide (t.1=r)with
 | none=>exact YL (by decide)
 | some t=>exact h t (List.mem_of_find?_eq_some e)
def ado {f}{rs}(S:Mb L b p n us)(O:Mb L b p n vs)(c:f=1\/f=-1)(a:GQ (sY f us vs) rs):Mb L (b+1) p (n+n) rs:=by
 have U:=dW S.2.1;obtain⟨h1,h2,d⟩:=a.mem (lO U);refine⟨(HW (HW h1<|vg f us vs)<|Nat.add_le_add S.1 O.1),h2,λt ht=>?_⟩;obtain⟨k1,k2,k3⟩:=d t ht;have Y:t.1.length=L/\∀q∈t.1,0<=q/\q<=(p:Int):=by
  rcases rH _ k1 with h|h
  obtain⟨u,J,e⟩:=Hr.mp h;exact e ▸ ⟨(S.2.2 u J).1,(S.2.2 u J).2.2.2⟩;obtain⟨u,J,e⟩:=Hr.mp h;exact e ▸ ⟨(O.2.2 u J).1,(O.2.2 u J).2.2.2⟩
 refine⟨Y.1,k2,?_,Y.2⟩;have e:getM (sY f us vs) t.1=getM us t.1+f*getM vs t.1:=by rw[<-wH (lO U),Oe U,wH U,wH (dW O.2.1)]
 have b1:=Ub (λu h=>(S.2.2 u h).2.2.1) t.1;have b2:=Ub (λu h=>(O.2.2 u h).2.2.1) t.1;unfold Sm at *;rcases c with rfl|rfl<;>omega
def Br:∀{J:List Int}{lo hi},J.Pairwise (· < ·)->(∀c∈J,lo<=c/\c<hi)->lo<=hi->(J.length:Int)<=hi-lo
 | [],lo,hi,_,_,h=>by simp;omega
 | c::J,lo,hi,s,b,_=>by
  rw[WD]at s;have S:=b c (by simp);have:=Br (lo:=lo+1) (hi:=hi) s.2 (λd O=>by have:=s.1 d O;have:=b d (Lq _ O);lia) (by lia)
  grind
abbrev code (P:Int):List Int->Int
 | [a]=>a
 | [a,b]=>a*P+b
 | _=>0
def Bx {P}(S:L<=2){l}(O:k.length=L/\∀q∈k,0<=q/\q<P)(J:l.length=L/\∀q∈l,0<=q/\q<P)(h:k<l):code P k<code P l:=by
 match k,l,O,J with
 | [a],[b],_,_=>
  rw[X7]at h;rcases h with h|⟨_,h⟩
  exact h;exact absurd h<|List.lt_irrefl _
 | [a,c],[b,d],O,J=>
  have Y:=O.2 c (by simp);have U:=J.2 d (by simp);show a*P+c<b*P+d;rw[X7]at h;rcases h with h|⟨e,h⟩
  have:(a+1)*P<=b*P:=tE (by lia) (by lia)
  rw[Int.add_mul,Int.one_mul]at this;lia;rw[X7]at h;rcases h with h|⟨_,h⟩
  rw[e];lia;exact absurd h<|List.lt_irrefl _
 | _::_::_::_,_,O,J=>
  have:=O.1
  simp only[PN]at this;lia
 | _,_::_::_::_,O,J=>
  have:=J.1
  simp only[PN]at this;lia
def Bd {P}(c:L<=2)(J:k.length=L/\∀q∈k,0<=q/\q<P)(S:1<=P):0<=code P k/\code P k<P*P:=by
 have U:1*P<=P*P:=tE S (by lia);match k,J with
 | [],_=>exact⟨Int.le_refl _,by show(0:Int)<P*P;lia⟩
 | [a],J=>
  have:=J.2 a (by simp)
  exact⟨this.1,by show a<P*P;lia⟩
 | [a,b],J=>
  have O:=J.2 a (by simp);have Y:=J.2 b (by simp);have h1:0*P<=a*P:=tE O.1 (by lia);have h2:(a+1)*P<=P*P:=tE (by lia) (by lia);rw[Int.add_mul]at h2;exact⟨by show 0<=a*P+b;lia,by show a*P+b<P*P;lia⟩
 | _::_::_::_,J=>
  grind
def Mb.box (h:Mb L b p n us)(O:L<=2):Mb L b p ((p+1)*(p+1)) us:=by
 refine⟨?_,h.2.1,h.2.2⟩;have J:∀k∈us.map (·.1),k.length=L/\∀q∈k,0<=q/\q<(p:Int)+1:=λk J=>by
  obtain⟨t,ht,rfl⟩:=Hr.mp J;exact⟨(h.2.2 t ht).1,λq S=>by have:=(h.2.2 t ht).2.2.2 q S;lia⟩
 have:=Br (by
  rw[SQ];exact Zv (λ{a b} c Y h=>Bx O (J a c) (J b Y) h) h.2.1) (λc U=>by
  obtain⟨k,h1,rfl⟩:=Hr.mp U;exact Bd O (J k h1) (by lia)) (Int.mul_nonneg (by lia) (by lia))
 grind
def Kp (S:L<=2){J:List (List Int)}(c:J.Nodup)(h:∀k∈J,k.length=L/\∀q∈k,0<=q/\q<=(p))(g:p<=6):J.length<64:=by
 obtain⟨ks,Y,U⟩:=Qq J c;have O:∀k∈ks,k.length=L/\∀q∈k,0<=q/\q<(7:Int):=λk m=>by
  grind
 have:=Br (by
  rw[SQ];exact Zv (λ{a b} f e h=>Bx S (O a f) (O b e) h) U) (λc d=>by
  obtain⟨k,h1,rfl⟩:=Hr.mp d;exact Bd S (O k h1) (by decide)) (by decide)
 rw[Bo,Y.length_eq]at this;lia
@[reducible]noncomputable def Fn:=List Int->Int
structure Z (L p c:Nat) (f:Fn) (us:List Tm):Prop where
 m:Mb L (13*c) p 64 us
 v:∀xs,lin (λq=>mo q xs L) us=f xs
 l2:L<=2
def Z.le {p' J f}(h:Z L p c f us)(O:p<=p')(S:c<=J):Z L p' J f us:=⟨h.m.mono (Nat.mul_le_mul_left _ S) O (Cm _),h.v,h.l2⟩
def Z.eq {f g}(h:Z L p c f us)(e:∀xs,f xs=g xs):Z L p c g us:=⟨h.m,λxs=>by rw[h.v,e],h.l2⟩
def Z.nil {L}(J:L<=2)(p c):Z L p c (λ_=>0) []:=⟨⟨Nz _,.nil,λ_ h=>(nomatch h)⟩,λ_=>rfl,J⟩
def Mb.z (h:Mb L b p n us)(O:L<=2)(S:p<=6)(J:b<=13*c):Mb L (13*c) p 64 us:=by
 have q:(p+1)*(p+1)<=8*8:=Nat.mul_le_mul (by lia) (by lia);exact(h.box O).mono J (Cm _) q
abbrev T2 (c0:Aq):Prop:=∀{h:Gh}{us vs:List Tm}{L p q c d:Nat}{f g:Fn}{Q:WK}{E:Bt},Z L p c f us->Z L q d g vs->p+q<=6->c+d<=2000 ->
 (∀rs,Z L (p+q) (c+d+1) (λxs=>f xs*g xs) rs->Q (Ce rs) h)->c0 [Ce us,Ce vs] h Q E
variable {c0:Aq}
def adP.t2 (n:adP c0):T2 c0:=by
 intro h us vs L p q c d f g Q E J O b u x;refine n (J.m.mono (by lia) (by lia) (by lia)).ms (O.m.mono (by lia) (by lia) (by lia)).ms (by have:=J.l2;lia) (by
  rw[<-Bo];refine Kp J.l2 (lN us vs) (λk m=>?_) b;obtain⟨x,j,s,Y,e⟩:=Dq us vs k m;have X:=J.m.2.2 x j;have S:=O.m.2.2 s Y;refine⟨by rw[e,v8<|by rw[X.1,S.1],X.1],λz U=>?_⟩;rw[e]at U;obtain⟨y,i,w,l,rfl⟩:=pO U;have:=X.2.2.2 y i
  have:=S.2.2.2 w l
  lia) λrs a=>?_
 have mr:=(abb J.m O.m (by decide) (by decide) a).z (c:=c+d+1) J.l2 b (by lia);refine⟨λ_=>x rs ⟨mr,λxs=>(by rw[a.lin<|lN us vs,als λt ht s Y=>Cp (by rw[(J.m.2.2 t ht).1,(O.m.2.2 s Y).1]) (J.m.nn ht) (O.m.nn Y) L,J.v,O.v]),J.l2⟩,λo=>?_⟩;rcases o with o|o|⟨t,ht,z,U,r⟩
 have:=Nat.mul_le_mul J.m.1 O.m.1
 lia;have:=mr.1
 lia;have:=(mr.2.2 t ht).2.2.2 z U
 lia
def akn {f}{rs}(J:Mb L b p n us)(O:Mb L b p m vs)(S:f=1\/f=-1)(a:GQ (sY f us vs) rs):Mb L (b+1) p (n+m) rs:=⟨(HW (HW ((a.mem (lO (dW J.2.1))).1) (vg f us vs)) (Nat.add_le_add J.1 O.1)),(ado (J.mono (Cm _) (Cm _) (Nat.le_max_left n m)) (O.mono (Cm _) (Cm _) (Nat.le_max_right n m)) S a).2⟩
def Z.ls {f}(h:Z L p c f us)(J:c<=2000):Ls L us:=⟨by have:=h.m.1;lia,h.m.2.1,λt ht=>⟨(h.m.2.2 t ht).1,(h.m.2.2 t ht).2.1,(h.m.2.2 t ht).2.2.1.mono (by lia)⟩⟩
abbrev P2 (s:Int)(c0:Aq):Prop:=∀{h:Gh}{us vs:List Tm}{L p c:Nat}{f g:Fn}{Q:WK}{E:Bt},Z L p c f us->Z L p c g vs->p<=6->c<=2000 ->
 (∀rs,Z L p (c+1) (λxs=>f xs+s*g xs) rs->Q (Ce rs) h)->c0 [Ce us,Ce vs] h Q E
def PlX.p2 {s}(hs:s=1\/s=-1)(d:PlX s c0):P2 s c0:=by
 intro h us vs L p c f g Q E J O U Y x;have S:=dW J.m.2.1;refine d (J.ls Y) (O.ls Y) (by
  rw[<-Bo];refine Kp J.l2 (lO S) (λk b=>?_) U;rcases rH k b with m|m
  obtain⟨t,ht,rfl⟩:=Hr.mp m;exact⟨(J.m.2.2 t ht).1,(J.m.2.2 t ht).2.2.2⟩;obtain⟨t,ht,rfl⟩:=Hr.mp m;exact⟨(O.m.2.2 t ht).1,(O.m.2.2 t ht).2.2.2⟩) λrs a=>?_
 have mr:=(akn J.m O.m hs a).z (c:=c+1) J.l2 U (by lia);refine⟨λ_=>x rs ⟨mr,λxs=>(by rw[GQ.lin (lO S) a,Oe S,J.v,O.v]),J.l2⟩,λl=>?_⟩;have:=mr.1
 lia
@[reducible]noncomputable def tW (T:List (List Tm)):W:=.tup (T.map Ce)
@[reducible]noncomputable def Ft:=List Int->Tr
structure ajS (L p c:Nat) (F:Ft) (x y z:List Tm):Prop where
 x1:Z L p c (λxs=>(F xs).1) x
 x2:Z L p c (λxs=>(F xs).2.1) y
 x3:Z L p c (λxs=>(F xs).2.2) z
abbrev V3 (L p c:Nat)(F:Ft)(T:List (List Tm)):Prop:=∃x y z,T=[x,y,z]/\ajS L p c F x y z
variable {F:Ft}{T:List (List Tm)}
def V3.le {L p c p' S F}{T}(h:V3 L p c F T)(J:p<=p')(O:c<=S):V3 L p' S F T:=by
 obtain⟨x,y,z,e,a⟩:=h;exact⟨x,y,z,e,a.x1.le J O,a.x2.le J O,a.x3.le J O⟩
variable {A:List (List Tm)}
def aag {u}(e:A[i]?=Go u)(x:Q (Ce u) h):Bh (tW A) (.int (i)) h Q:=
 bA rfl (bB (by rw[Hf,e];rfl)) x
abbrev Ls2 (c0:Aq):Prop:=∀{h:Gh}{A B:List (List Tm)}{i j:Nat}{U S O J:List Tm}{e b a Y:Fn}{L p q c d:Nat}{Q:WK}{E:Bt},p+q<=6->c+d<=1990 ->
 A[i]?=Go U->A[j]?=Go S->B[j]?=Go O->B[i]?=Go J->Z L p c e U->Z L p c b S->Z L q d a O->Z L q d Y J ->
 (∀rs,Z L (p+q) (c+d+2) (λxs=>e xs*a xs-b xs*Y xs) rs->Q (Ce rs) h)->c0 [tW A,tW B,.int (i:Int),.int (j:Int)] h Q E
variable {ti:Aq}
def aaV {mi}(S:P2 (-1) mi)(J:T2 ti):Ls2 (j9 mi ti):=by
 intro h A B i j f e b a n m l k L p q c d Q E O g e1 e2 e3 e4 a1 a2 a3 Y x;exact d8 rfl rfl<|bF<|aL<|ao<|aL<|ao<|aH<|aq rfl<|aq rfl<|aag e1<|ao<|aH<|aq rfl<|aq rfl<|aag e3<|aB<|J a1 a3 O (by lia) λr1 b1=>(ao<|aL<|ao<|aH<|aq rfl<|aq rfl<|aag e2<|ao<|aH<|aq rfl<|aq rfl<|aag e4<|aB<|J a2 Y O (by lia) λr2 b2=>aB<|S b1 b2 O (by lia) λrs U=>fV<|x rs<|U.eq λxs=>by lia)
abbrev Cr2 (c0:Aq):Prop:=∀{h:Gh}{S T:List (List Tm)}{F G:Ft}{L p q c d:Nat}{Q:WK}{E:Bt},V3 L p c F S->V3 L q d G T->p+q<=6->c+d<=1990 ->
 (∀R,V3 L (p+q) (c+d+2) (λxs=>Jo (F xs) (G xs)) R->Q (tW R) h)->c0 [tW S,tW T] h Q E
def aiI {Y}(J:Ls2 Y):Cr2 (qy Y):=by
 rintro h S T F G L p q c d Q E ⟨x,y,z,rfl,e1⟩ ⟨u,v,w,rfl,e2⟩ O U b;exact J O U rfl rfl rfl rfl e1.x2 e1.x3 e2.x3 e2.x2 λa g=>(J O U rfl rfl rfl rfl e1.x3 e1.x1 e2.x1 e2.x3 λb1 f=>(J O U rfl rfl rfl rfl e1.x1 e1.x2 e2.x2 e2.x1 λc1 e=>(aB<|bR rfl<|fV<|b _ ⟨a,b1,c1,rfl,g,f,e⟩)))
abbrev Do2 (c0:Aq):Prop:=∀{h:Gh}{S T:List (List Tm)}{F G:Ft}{L p q c d:Nat}{Q:WK}{E:Bt},V3 L p c F S->V3 L q d G T->p+q<=6->c+d<=1990 ->
 (∀r,Z L (p+q) (c+d+4) (λxs=>LI (F xs) (G xs)) r->Q (Ce r) h)->c0 [tW S,tW T] h Q E
variable {pl:Aq}
def acT (a:P2 1 pl)(Y:T2 ti):Do2 (xQ pl ti):=by
 rintro h S T F G L p q c d Q E ⟨x,y,z,rfl,e1⟩ ⟨u,v,w,rfl,e2⟩ j C k;have J:∀{t O ix:List Tm}{s3 s4:Option W}{h':Gh}{A f g:Fn}{b b0 c0:Sw->Gh->Prop}{e:WK}(i:Nat),i<=2->Z L (p+q) (c+d+1+i) A t->Z L p c f O->Z L q d g ix ->
   (∀rs,Z L (p+q) (c+d+1+(i+1)) (λxs=>A xs+f xs*g xs) rs->b [Go (tW [x,y,z]),Go (tW [u,v,w]),Go (Ce rs),Go (Ce O),Go (Ce ix)] h') ->
   (pG 2 (jV (kI 3) (jV (kI 4) R9))) (.tup [Ce O,Ce ix]) [Go (tW [x,y,z]),Go (tW [u,v,w]),Go (Ce t),s3,s4] h' fun U h1=>(bL (aJ pl E (aj (aA 2) (aj (aJ ti E (aj (aA 3) (aj (aA 4) aG))) aG))) (kI 2)) {nx:=b,rt:=e,bk:=b0,ct:=c0} U h1:=λ{t O ix s3 s4 h' A f g b b0 c0 e} i hi m o r l=>by
  refine lW rfl rfl<|eO<|nV ?_
  refine eO<|nV ?_
  refine aW<|aL<|ao<|aq rfl<|ao<|aL<|ao<|aq rfl<|ao<|aq rfl<|aB<|Y o r j (by lia) λr1 b1=>aB ?_
  refine a m (b1.le (Cm _)<|by lia) j (by lia) λrs n=>?_;exact l rs<|n.eq λxs=>by lia
 refine wK<|J (s3:=JI) (s4:=JI) (t:=[]) (A:=λ_=>0) 0 (by lia) (Z.nil e1.x1.l2 ..) e1.x1 e2.x1 λr1 a1=>?_
 refine wK<|J 1 (by lia) a1 e1.x2 e2.x2 λr2 a2=>?_
 refine wK<|J 2 (by lia) a2 e1.x3 e2.x3 λr3 a3=>?_
 unfold pY;exact bI<|bF<|aq rfl<|fV<|k r3 (a3.eq λxs=>by show 0+_+_+_=_;unfold LI;lia)
@[reducible]noncomputable def Mt:=Tr×Tr×Tr
@[reducible]noncomputable def C6:=Int×Int×Int×Int×Int×Int
abbrev vm (M:Mt)(v:Tr):Tr:=(LI M.1 v,LI M.2.1 v,LI M.2.2 v)
abbrev cof (M:Mt):Mt:=(Jo M.2.1 M.2.2,Jo M.2.2 M.1,Jo M.1 M.2.1)
abbrev det (M:Mt):Int:=LI (Jo M.1 M.2.1) M.2.2
abbrev sM (k:Int)(M:Mt):Mt:=(sc k M.1,sc k M.2.1,sc k M.2.2)
abbrev s6 (k:Int)(c:C6):C6:=(c.1*k,c.2.1*k,c.2.2.1*k,c.2.2.2.1*k,c.2.2.2.2.1*k,c.2.2.2.2.2*k)
abbrev m6 (c d:C6):C6:=(c.1-d.1,c.2.1-d.2.1,c.2.2.1-d.2.2.1,c.2.2.2.1-d.2.2.2.1,c.2.2.2.2.1-d.2.2.2.2.1,c.2.2.2.2.2-d.2.2.2.2.2)
abbrev m3 (p q:Tr):Tr:=(p.1-q.1,p.2.1-q.2.1,p.2.2-q.2.2)
abbrev xO (c:C6):Mt:=((2*c.1,c.2.1,c.2.2.2.1),(c.2.1,2*c.2.2.1,c.2.2.2.2.1),(c.2.2.2.1,c.2.2.2.2.1,2*c.2.2.2.2.2))
abbrev vD (p q:Tr):C6:=(p.1*q.1,p.1*q.2.1+p.2.1*q.1,p.2.1*q.2.1,p.1*q.2.2+p.2.2*q.1,p.2.1*q.2.2+p.2.2*q.2.1,p.2.2*q.2.2)
abbrev Jf (a b c d e:Tr):C6:=m6 (s6 (LI (Jo a b) e*LI (Jo c d) e) (vD (Jo a c) (Jo b d))) (s6 (LI (Jo a c) e*LI (Jo b d) e) (vD (Jo a b) (Jo c d)))
abbrev Va (c:C6)(l:Tr):Tr:=sc (det (xO c)) (vm (cof (xO c)) l)
abbrev Qv (c:C6)(p q:Tr):Int:=LI p (vm (xO c) q)
abbrev Pq (c:C6)(p q:Tr):Tr:=m3 (sc (Qv c q q) p) (sc (2*Qv c p q) q)
def uL (k l)(p q):Jo (sc k p) (sc l q)=sc (k*l) (Jo p q):=by
 simp[Jo,sc];grind
def Hy (k l)(p q):LI (sc k p) (sc l q)=LI p q*(k*l):=by
 simp[LI,sc];grind
def Yl (k l:Int)(M:Mt)(p:Tr):vm (sM k M) (sc l p)=sc (k*l) (vm M p):=by
 show(LI (sc k _) _,LI (sc k _) _,LI (sc k _) _)=_;rw[Hy,Hy,Hy];rfl
def acz (k)(M):cof (sM k M)=sM (k*k) (cof M):=by
 show(Jo (sc k _) (sc k _),Jo (sc k _) (sc k _),Jo (sc k _) (sc k _))=_;rw[uL,uL,uL];rfl
def Tt (k)(M):det (sM k M)=det M*(k*k*k):=by
 show LI (Jo (sc k _) (sc k _)) (sc k _)=_;rw[uL,Hy];rfl
def Dm (k)(c):xO (s6 k c)=sM k (xO c):=by
 simp[xO,s6,sM,sc];grind
def akV (k l)(p q):vD (sc k p) (sc l q)=s6 (k*l) (vD p q):=by
 simp[vD,sc,s6];grind
def Sq (k l)(c):s6 k (s6 l c)=s6 (l*k) c:=by
 simp[s6,Int.mul_assoc]
def qH (k l)(p):sc k (sc l p)=sc (l*k) p:=by
 simp[sc,Int.mul_assoc]
def aeo (k)(c d):m6 (s6 k c) (s6 k d)=s6 k (m6 c d):=by
 simp[m6,s6,Int.sub_mul]
def ae0 (k:Int)(p q:Tr):m3 (sc k p) (sc k q)=sc k (m3 p q):=by
 simp[m3,sc,Int.sub_mul]
def ab5 (k l m n o)(a b c d e):Jf (sc k a) (sc l b) (sc m c) (sc n d) (sc o e)=s6 (k*k*l*l*m*m*n*n*o*o) (Jf a b c d e):=by
 unfold Jf;simp[uL,Hy,akV,Sq];rw[<-aeo,Sq,Sq];congr 2<;>grind
def abv (k l)(c)(p):Va (s6 k c) (sc l p)=sc (k*k*k*k*k*l) (Va c p):=by
 unfold Va;rw[Dm,acz,Tt,Yl,qH,qH];grind
def K1 (k l m)(c)(p q):Qv (s6 k c) (sc l p) (sc m q)=Qv c p q*(k*l*m):=by
 unfold Qv;rw[Dm,Yl,Hy];grind
def aaY (k l m)(c)(p q):Pq (s6 k c) (sc l p) (sc m q)=sc (k*l*m*m) (Pq c p q):=by
 unfold Pq;rw[K1,K1,qH,qH,<-ae0,qH,qH];congr 2<;>grind
inductive EZ (L p c:Nat):List Fn->List (List Tm)->Prop
 | nil:EZ L p c [] []
 | cons {f:Fn}{us:List Tm}{fs:List Fn}{T:List (List Tm)}:Z L p c f us->EZ L p c fs T->EZ L p c (f::fs) (us::T)
variable {fs:List Fn}
def EZ.length {L p c}{fs}{T}(e:EZ L p c fs T):fs.length=T.length:=by
 induction e with
 | nil=>rfl
 | cons _ _ J=>simp[J]
def EZ.snoc {f}(e:EZ L p c fs T)(h:Z L p c f us):EZ L p c (fs++[f]) (T++[us]):=by
 induction e with
 | nil=>exact .cons h .nil
 | cons a _ J=>exact .cons a J
def EZ.at {L p c}{fs}{T}(e:EZ L p c fs T){i:Nat}{us}(h:T[i]?=Go us):∃f,fs[i]?=Go f/\Z L p c f us:=by
 induction e generalizing i with
 | nil=>simp at h
 | cons a _ J=>
  cases i with
  | zero=>cases h;exact⟨_,rfl,a⟩
  | succ i=>exact J h
abbrev fs3 (F:Ft):List Fn:=[λxs=>(F xs).1,λxs=>(F xs).2.1,λxs=>(F xs).2.2]
@[reducible]noncomputable def Fc:=List Int->C6
abbrev fs6 (F:Fc):List Fn:=[λxs=>(F xs).1,λxs=>(F xs).2.1,λxs=>(F xs).2.2.1,λxs=>(F xs).2.2.2.1,λxs=>(F xs).2.2.2.2.1,λxs=>(F xs).2.2.2.2.2]
def V3.ez (h:V3 L p c F T):EZ L p c (fs3 F) T:=by
 obtain⟨x,y,z,rfl,a⟩:=h;exact .cons a.x1<|.cons a.x2<|.cons a.x3 .nil
def EZ.v3 (h:EZ L p c (fs3 F) T):V3 L p c F T:=by
 cases h with
 | cons a h=>cases h with
  | cons b h=>cases h with
   | cons d h=>cases h;exact⟨_,_,_,rfl,a,b,d⟩
abbrev V6 (L p c:Nat)(F:Fc)(T:List (List Tm)):Prop:=EZ L p c (fs6 F) T
abbrev St2 (c0:Aq):Prop:=∀{h:Gh}{T:List (List Tm)}{fs:List Fn}{vs:List Tm}{g:Fn}{L p q c d:Nat}{Q:WK}{E:Bt},EZ L p c fs T->Z L q d g vs->p+q<=6->c+d<=1990->T.length<=6 ->
 (∀R,EZ L (p+q) (c+d+1) (fs.map λf xs=>f xs*g xs) R->Q (tW R) h)->c0 [tW T,Ce vs] h Q E
def ajm (S:T2 ti):St2 (oG ti):=by
 intro h T fs vs g L p q c d Q E e j a m hT Y;refine d8 rfl rfl<|bF<|cB<|ao<|iD<|iB<|aq rfl<|tQ rfl<|fG.mk (HW (by rw[Bo];lia)<|by decide) ?_
 refine cU (λi acc h'=>h'=h/\∃R,acc=R.map Ce/\EZ L (p+q) (c+d+1) ((fs.take i).map λf xs=>f xs*g xs) R) ?_ ?_ ⟨rfl,[],rfl,.nil⟩
 ·rintro i w acc h' n b e' ⟨rfl,R,rfl,J⟩;rw[Hf]at e';cases O:T[i]? with
  | none=>rw[O]at e';cases e'
  | some us=>
   rw[O]at e';cases e'
   obtain⟨f,l,k⟩:=e.at O;refine⟨[Ce us],rfl,dB<|cH<|aL<|ao<|aq rfl<|ao<|aq rfl<|aB ?_⟩;refine S k j a (by lia) λrs U=>b _ _ ⟨rfl,R++[rs],by rw[IK];rfl,?_⟩;rw[Ik,l,IK];exact J.snoc U
 rintro acc h' ⟨rfl,R,rfl,J⟩;rw[Bo,<-e.length,J8]at J;exact aB<|eZ<|fV<|Y R J
abbrev Sm2 (c0:Aq):Prop:=∀{h:Gh}{T S:List (List Tm)}{fs J:List Fn}{L p c:Nat}{Q:WK}{E:Bt},EZ L p c fs T->EZ L p c J S->p<=6->c<=2000->T.length<=6->T.length=S.length ->
 (∀R,EZ L p (c+1) (Wi (λf g xs=>f xs-g xs) fs J) R->Q (tW R) h)->c0 [tW T,tW S] h Q E
def zbj {J f g}{F:Fn->Fn->Fn}(e1:fs[i]?=Go f)(e2:J[i]?=Go g):(Wi F fs J).take (i+1)=(Wi F fs J).take i++[F f g]:=by
 rw[Ik,List.getElem?_zipWith,e1,e2];rfl
def ajR {mi}(e:P2 (-1) mi):Sm2 (oX mi):=by
 intro h T S fs q L p c Q E e1 e2 m n hT x l;have v:=e2.length;have k:(pC (T.map Ce) (S.map Ce)).length=T.length:=by rw[vf,Bo,Bo];lia
 refine fG.mk (HW (by rw[k];lia)<|by decide) ?_;refine cU (λi acc h'=>h'=h/\∃R,acc=R.map Ce/\EZ L p (c+1) ((Wi (λf g xs=>f xs-g xs) fs q).take i) R) ?_ ?_ ⟨rfl,[],rfl,.nil⟩
 ·rintro i w acc h' y o e' ⟨rfl,R,rfl,U⟩;obtain⟨a,b,O,J,rfl⟩:=pP e';rw[Hf]at O J;cases d:T[i]? with
  | none=>rw[d]at O;cases O
  | some us=>
   cases Y:S[i]? with
   | none=>rw[Y]at J;cases J
   | some vs=>
    rw[d]at O;rw[Y]at J;cases O;cases J;obtain⟨f,u,s⟩:=e1.at d;obtain⟨g,t,r⟩:=e2.at Y;refine⟨[Ce us,Ce vs],rfl,dB<|cH<|aL<|ao<|aq rfl<|ao<|aq rfl<|aB ?_⟩;refine e s r m n λrs j=>o _ _ ⟨rfl,R++[rs],by rw[IK];rfl,?_⟩;exact zbj u t ▸ U.snoc (j.eq λxs=>by lia)
 rintro acc h' ⟨rfl,R,rfl,U⟩;rw[k,ZM (by rw[Zy];lia)]at U;exact aB<|eZ<|fV<|l R U
abbrev Db2 (c0:Aq):Prop:=∀{h:Gh}{us:List Tm}{f:Fn}{L p c:Nat}{Q:WK}{E:Bt},Z L p c f us->p<=6->c<=2000->(∀rs,Z L p (c+1) (λxs=>2*f xs) rs->Q (Ce rs) h)->c0 [Ce us] h Q E
def ahB (J:P2 1 pl):Db2 (xH pl):=by
 intro h us f L p c Q E e S U O;exact J e e S U λrs a=>fV<|O rs<|a.eq λxs=>by lia
def tij (J:T2 ti){q d}{B u v f g}(S:σ[0]?=Go (Go (tW A)))(O:σ[1]?=Go (Go (tW B)))(e:A[i]?=Go u)(b:B[j]?=Go v)(Y:Z L p c f u)(U:Z L q d g v)(a:p+q<=6)(k:c+d<=1990)
  (x:∀rs,Z L (p+q) (c+d+1) (λxs=>f xs*g xs) rs->Q (Ce rs) h) :
  aJ ti E (aj (Ah Bh (aA 0) (mC (.int (i)))) (aj (Ah Bh (aA 1) (mC (.int (j)))) aG)) σ h Q:=
 aL (ao (aH (aq S (aX (aag e (ao (aH (aq O (aX (aag b (aB (J Y U a (by lia) x))))))))))))
def pij (U:P2 1 pl)(J:T2 ti){q d:Nat}{B:List (List Tm)}{i' n:Nat}{u v m l:List Tm}{f g s r:Fn}(k:σ[0]?=Go (Go (tW A)))(e:σ[1]?=Go (Go (tW B)))(Y:p+q<=6)(o:c+d<=1990)(z:A[i]?=Go u)(y:B[j]?=Go v)(w:Z L p c f u)(t:Z L q d g v)(b:A[i']?=Go m)(a:B[n]?=Go l)(S:Z L p c s m)(O:Z L q d r l)
  (x:∀rs,Z L (p+q) (c+d+2) (λxs=>f xs*g xs+s xs*r xs) rs->Q (Ce rs) h) :
  aJ pl E (aj (aJ ti E (aj (Ah Bh (aA 0) (mC (.int (i:Int)))) (aj (Ah Bh (aA 1) (mC (.int (j:Int)))) aG))) (aj (aJ ti E (aj (Ah Bh (aA 0) (mC (.int (i':Int)))) (aj (Ah Bh (aA 1) (mC (.int (n:Int)))) aG))) aG)) σ h Q:=
 aL (ao (tij J k e z y w t Y o λr1 e1=>ao (tij J k e b a S O Y o λr2 e2=>aB (U e1 e2 Y (by lia) λrs C=>x rs (C.eq λxs=>by lia)))))
abbrev To2 (c0:Aq):Prop:=∀{h:Gh}{S T:List (List Tm)}{F G:Ft}{L p q c d:Nat}{Q:WK}{E:Bt},V3 L p c F S->V3 L q d G T->p+q<=6->c+d<=1990 ->
 (∀R,V6 L (p+q) (c+d+2) (λxs=>vD (F xs) (G xs)) R->Q (tW R) h)->c0 [tW S,tW T] h Q E
def ahq (O:P2 1 pl)(J:T2 ti):To2 (kO pl ti):=by
 rintro h S T F G L p q c d Q E ⟨x,y,z,rfl,e1⟩ ⟨u,v,w,rfl,e2⟩ U Y a;refine d8 rfl rfl<|bF<|cZ<|ao ?_
 refine tij (i:=0) (j:=0) J rfl rfl rfl rfl e1.x1 e2.x1 U Y λa1 b1=>ao ?_;refine pij (i:=0) (j:=1) O J rfl rfl U Y rfl rfl e1.x1 e2.x2 rfl rfl e1.x2 e2.x1 λa2 b2=>ao ?_;refine tij (i:=1) (j:=1) J rfl rfl rfl rfl e1.x2 e2.x2 U Y λa3 b3=>ao ?_;refine pij (i:=0) (j:=2) O J rfl rfl U Y rfl rfl e1.x1 e2.x3 rfl rfl e1.x3 e2.x1 λa4 b4=>ao ?_;refine pij (i:=1) O J rfl rfl U Y rfl rfl e1.x2 e2.x3 rfl rfl e1.x3 e2.x2 λa5 e=>ao ?_;refine tij (i:=2) (j:=2) J rfl rfl rfl rfl e1.x3 e2.x3 U Y λa6 b=>aB<|bR rfl<|fV<|a [a1,a2,a3,a4,a5,a6] ?_
 have l:=Cm (p+q);have m:c+d+1<=c+d+2:=by lia
 exact .cons (b1.le l m)<|.cons b2<|.cons (b3.le l m)<|.cons b4<|.cons e<|.cons (b.le l m) .nil
@[reducible]noncomputable def t3 (A B C:List (List Tm)):W:=.tup [tW A,tW B,tW C]
structure V9 (L p c:Nat) (M:List Int->Mt) (A B C:List (List Tm)):Prop where
 a:V3 L p c (λxs=>(M xs).1) A
 b:V3 L p c (λxs=>(M xs).2.1) B
 c:V3 L p c (λxs=>(M xs).2.2) C
abbrev Ta2 (c0:Aq):Prop:=∀{h:Gh}{T:List (List Tm)}{F:Fc}{L p c:Nat}{Q:WK}{E:Bt},V6 L p c F T->p<=6->c<=2000 ->
 (∀A B C,V9 L p (c+1) (λxs=>xO (F xs)) A B C->Q (t3 A B C) h)->c0 [tW T] h Q E
def zcc {k}(J:Db2 k):Ta2 (rQ k):=by
 intro h T F L p c Q E e O S l;cases e with
 | @cons _ u _ _ r e=>cases e with
  | @cons _ b _ _ e1 e=>cases e with
   | @cons _ t _ _ e2 e=>cases e with
    | @cons _ Y _ _ e3 e=>cases e with
     | @cons _ U _ _ e4 e=>cases e with
      | @cons _ s _ _ q e=>
       cases e;refine J r O S λa o=>(J e2 O S λd n=>(J q O S λg m=>aB<|bR rfl<|aB<|bR rfl<|fV ?_));have j:=e1.le (Cm p) (Ra c);have i:=e3.le (Cm p) (Ra c);have f:=e4.le (Cm p) (Ra c);exact l _ _ _ ⟨⟨a,b,Y,rfl,o,j,i⟩,⟨b,d,U,rfl,j,n,f⟩,Y,U,g,rfl,i,f,m⟩
abbrev Tu2 (c0:Aq):Prop:=∀{h:Gh}{S T R:List (List Tm)}{F G H:Ft}{L p q o c d b:Nat}{Q:WK}{E:Bt},V3 L p c F S->V3 L q d G T->V3 L o b H R->p+q+o<=6->c+d+b<=1980 ->
 (∀e,Z L (p+q+o) (c+d+b+6) (λxs=>LI (Jo (F xs) (G xs)) (H xs)) e->Q (Ce e) h)->c0 [tW S,tW T,tW R] h Q E
def aje {Y U:Aq}(O:Cr2 Y)(J:Do2 U):Tu2 (ug Y U):=by
 intro h S T R F G H L p q o c d b Q E e1 e2 e3 f i a;exact O e1 e2 (by lia) (by lia) λA g=>ao<|aq rfl<|aB<|J g e3 f (by lia) λr2 e=>fV<|a r2<|e.le (Cm _)<|by lia
abbrev Tr2 (c0:Aq):Prop:=∀{h:Gh}{A B C:List (List Tm)}{M:List Int->Mt}{L p c:Nat}{Q:WK}{E:Bt},V9 L p c M A B C->p+p<=6->c+c<=1990 ->
 (∀X Y U,V9 L (p+p) (c+c+2) (λxs=>cof (M xs)) X Y U->Q (t3 X Y U) h)->c0 [t3 A B C] h Q E
def aiG {U}(J:Cr2 U):Tr2 (mV U):=by
 intro h A B C M L p c Q E e O S q';exact J e.b e.c O S λX e1=>(J e.c e.a O S λY e2=>(J e.a e.b O S λU e3=>aB<|bR rfl<|fV<|q' _ _ _ ⟨e1,e2,e3⟩))
abbrev Rt2 (c0:Aq):Prop:=∀{h:Gh}{A B C T:List (List Tm)}{M:List Int->Mt}{G:Ft}{L p q c d:Nat}{Q:WK}{E:Bt},V9 L p c M A B C->V3 L q d G T->p+q<=6->c+d<=1990 ->
 (∀R,V3 L (p+q) (c+d+4) (λxs=>vm (M xs) (G xs)) R->Q (tW R) h)->c0 [t3 A B C,tW T] h Q E
def alW {Y}(J:Do2 Y):Rt2 (oY Y):=by
 intro h A B C T M G L p q c d Q E e U O S a;exact J e.a U O S λx ex=>(J e.b U O S λy f=>(J e.c U O S λz b=>U7<|aB<|eZ<|fV<|a _ ⟨x,y,z,rfl,ex,f,b⟩))
abbrev Bo2 (c0:Aq):Prop:=∀{h:Gh}{A B C S T:List (List Tm)}{M:List Int->Mt}{F G:Ft}{L p q o c d b:Nat}{Q:WK}{E:Bt},V9 L p c M A B C->V3 L q d F S->V3 L o b G T->p+q+o<=6->c+d+b<=1980 ->
 (∀e,Z L (p+q+o) (c+d+b+8) (λxs=>LI (F xs) (vm (M xs) (G xs))) e->Q (Ce e) h)->c0 [t3 A B C,tW S,tW T] h Q E
def aa4 {U rt}(O:Do2 U)(J:Rt2 rt):Bo2 (fQ U rt):=by
 intro h A B C S T M F G L p q o c d b Q E e g f i j Y;exact J e f (by lia) (by lia) λR a=>aB<|O g a (by lia) (by lia) λr2 e=>fV<|Y r2<|e.le (by lia)<|by lia
abbrev Sz2 (c0:Aq):Prop:=∀{h:Gh}{A B C:List (List Tm)}{M:List Int->Mt}{L p c:Nat}{Q:WK}{E:Bt},V9 L p c M A B C->p+p+p<=6->c+c+c<=1980 ->
 (∀e,Z L (p+p+p) (c+c+c+6) (λxs=>LI (Jo (M xs).1 (M xs).2.1) (M xs).2.2) e->Q (Ce e) h)->c0 [t3 A B C] h Q E
def akB {O:Aq}(J:Tu2 O):Sz2 (rC O):=by
 intro h A B C M L p c Q E e U Y S;exact J e.a e.b e.c U Y λr a=>fV<|S r a
def Kh {B}{g e}:∀{us},(∀t∈us,B^e ∣ g t.1)->B^e ∣ lin g us
 | [],_=>⟨0,by simp[lin]⟩
 | t::us,h=>Int.dvd_add (Int.dvd_trans (h t (by simp)) ⟨t.2,rfl⟩) (Kh λu J=>h u (Lq _ J))
abbrev far (B:Int):Nat->List Int
 | 0=>[]
 | 1=>[B]
 | _=>[B^8,B]
def Tv (S:L<=2)(B)(O:k.length=L)(J:∀q∈k,0<=q/\q<8):mo k (far B L) L=B^(code 8 k).toNat:=by
 match k,L,O,S with
 | [],0,_,_=>exact(Int.pow_zero B).symm
 | [a],1,_,_=>
  show 1*B^a.toNat=_;rw[Int.one_mul];rfl
 | [a,b],2,_,_=>
  have Y:=J a (by simp);have U:=J b (by simp);show 1*(B^8)^a.toNat*B^b.toNat=B^(a*8+b).toNat;rw[Int.one_mul,<-Int.pow_mul,<-Int.pow_add];congr 1
  lia
def aiM (J:L<=2)(B):(far B L).length=L:=by
 match L,J with
 | 0,_|1,_|2,_=>rfl
def abp {B}(h:B≠0):∀x∈far B L,x≠0:=by
 intro x J;match L with
 | 1=>rw[QW.mp J];exact h
 | L+2=>
  rcases Kz.mp J with rfl|J
  exact Int.pow_ne_zero h;simp_all
abbrev QJ (L:Nat)(xs:List Int):Prop:=xs.length=L/\∀x∈xs,x≠0
def Z.van {f}(h:Z L p c f us)(o:p<=6)(z:∀xs,QJ L xs->f xs=0):us=[]:=by
 cases us with
 | nil=>rfl
 | cons t us=>
  exfalso;obtain⟨_,srt,U⟩:=h.m;have S:=h.l2;have J:∀u∈t::us,u.1.length=L/\∀q∈u.1,0<=q/\q<8:=λu O=>⟨(U u O).1,λq a=>by have:=(U u O).2.2.2 q a;lia⟩
  obtain⟨_,j,tb,_⟩:=U t (by simp);have k:(0:Int)<2^(13*c):=Int.pow_pos (by decide);have e:=h.v (far (2^(13*c)) L);rw[z _ ⟨aiM S _,abp (by lia)⟩,cG,Tv S _ (J t (by simp)).1 (J t (by simp)).2]at e;generalize i:(2:Int)^(13*c)=B at *;have tb:t.2.natAbs<B.natAbs:=by
   rw[<-i];exact tb
  generalize r:(code 8 t.1).toNat=n at *;have d:B^(n+1) ∣ lin (λq=>mo q _ L) us:=Kh λu O=>by
   have Y:=J u (Lq _ O);rw[Tv S B Y.1 Y.2];rw[Hz,WD]at srt;have l:=Bx S (J t (by simp)) Y (srt.1 u.1 (Hr.mpr ⟨u,O,rfl⟩));have b0:=Bd S (J t (by simp)) (by decide);obtain⟨m,b⟩:∃m,(code 8 u.1).toNat=n+1+m:=⟨(code 8 u.1).toNat-(n+1),by lia⟩
   exact⟨B^m,by rw[b,Int.pow_add B (n+1) m]⟩
  obtain⟨M,g⟩:=d;rw[g,Int.pow_succ,Int.mul_assoc,<-Int.mul_add]at e;rcases Yh.mp e with e|e
  exact Int.pow_ne_zero (by lia) e;have:B ∣ t.2:=⟨-M,by rw[Int.mul_neg];lia⟩
  have:=Int.natAbs_dvd_natAbs.mpr this
  have:=Nat.le_of_dvd (by lia) this
  lia
def EZ.le {L p c p' J fs}{T}(e:EZ L p c fs T)(S:p<=p')(U:c<=J):EZ L p' J fs T:=by
 induction e with
 | nil=>exact .nil
 | cons a _ O=>exact .cons (a.le S U) O
def V6.len {F}(h:V6 L p c F T):T.length=6:=(EZ.length h).symm
def V3.l2 {L p c F}{T}(h:V3 L p c F T):L<=2:=by
 obtain⟨_,_,_,_,a⟩:=h;exact a.x1.l2
def V3.len (h:V3 L p c F T):T.length=3:=(EZ.length h.ez).symm
def Px {A:List (List (List Tm))}(e:A[i]?=Go T)(x:Q (tW T) h):Bh (.lst (A.map tW)) (.int (i)) h Q:=
 bA rfl (bB (by rw[Hf,e];rfl)) x
abbrev Cu2 (c0:Aq):Prop:=∀{h:Gh}{A B C D X:List (List Tm)}{g f e fd d:Ft}{L S pb O J px c b a Y U:Nat}{Q:WK}{E:Bt},V3 L S c g A->V3 L pb b f B->V3 L O a e C->V3 L J Y fd D->V3 L px U d X ->
 2*(S+pb+O+J+px)<=6->2*(c+b+a+Y+U)<=1900 ->
 (∀R,V6 L (2*(S+pb+O+J+px)) (2*(c+b+a+Y+U)+21) (λxs=>Jf (g xs) (f xs) (e xs) (fd xs) (d xs)) R->Q (tW R) h)->c0 [.lst ([A,B,C,D,X].map tW)] h Q E
def ajG {l k st b to}(U:T2 ti)(O:Cr2 l)(J:Do2 k)(Y:St2 st)(a:Sm2 b)(S:To2 to):Cu2 (rB ti l k st b to):=by
 intro h A B C D X Z W V fd R L u pb t s px G F z y w Q E j g f d ex v P r;refine d8 rfl (σ:=[Go<|.lst<|[A,B,C,D,X].map tW,JI,JI,JI,JI,JI,JI]) rfl ?_;have ix:∀{σ:Sw}{i:Nat}{T:List (List Tm)}{h:Gh}{Q:WK},σ[0]?=Go (Go (.lst ([A,B,C,D,X].map tW)))->[A,B,C,D,X][i]?=Go T->Q (tW T) h->Ah Bh (aA 0) (mC (.int (i:Int))) σ h Q:=λv0 e x=>aH (aq v0 (aX (Px e x)))
 refine O j g (by lia) (by lia) λR1 e1=>nV<|bI ?_
 refine O f d (by lia) (by lia) λR2 e2=>nV<|bI ?_
 refine O j f (by lia) (by lia) λR3 e3=>nV<|bI ?_
 refine O g d (by lia) (by lia) λR4 e4=>nV<|bI ?_
 refine J e1 ex (by lia) (by lia) λt1 b1=>ao<|aL<|ao<|aq rfl<|ao<|ix (i:=4) rfl rfl<|aB ?_
 refine J e2 ex (by lia) (by lia) λt2 b2=>aB<|U b1 b2 (by lia) (by lia) λmo b3=>?_
 refine nV<|bI ?_
 refine aM<|aW<|aL<|ao<|aL<|ao<|aq rfl<|ao<|ix (i:=4) rfl rfl<|aB ?_
 refine J e3 ex (by lia) (by lia) λt3' b4=>ao<|aL<|ao<|aq rfl<|ao<|ix (i:=4) rfl rfl<|aB ?_
 refine J e4 ex (by lia) (by lia) λt4 K=>aB<|U b4 K (by lia) (by lia) λle I=>?_
 refine nV<|bI ?_
 refine bF<|aL<|ao<|aL<|ao<|aL<|ao<|aq rfl<|ao<|aq rfl<|aB ?_
 refine S e3 e4 (by lia) (by lia) λS1 q=>ao<|aq rfl<|aB<|Y q b3 (by lia) (by lia) (by rw[q.len];decide) λS2 o=>?_
 refine ao<|aL<|ao<|aL<|ao<|aq rfl<|ao<|aq rfl<|aB ?_
 refine S e1 e2 (by lia) (by lia) λS3 n=>ao<|aq rfl<|aB<|Y n I (by lia) (by lia) (by rw[n.len];decide) λS4 m=>aB ?_
 have N:S2.length=6:=o.length.symm;have M:S4.length=6:=m.length.symm;refine a (p:=2*(u+pb+t+s+px)) (c:=2*(G+F+z+y+w)+20) (o.le (by lia)<|by lia) (m.le (by lia)<|by lia) v (by lia) (by lia) (by lia) λS5 H=>fV<|r S5 H
abbrev Po2 (c0:Aq):Prop:=∀{h:Gh}{A B:List (List Tm)}{O:Fc}{Y:Ft}{L J pb U S P:Nat}{Q:WK}{E:Bt},V6 L J U O A->V3 L pb S Y B->5*J+pb<=P\/2*J+pb<=P/\3*J<=6/\(∀xs,QJ L xs->det (xO (O xs))=0)->P<=6->5*U+S<=1900 ->
 (∀R,V3 L P (5*U+S+18) (λxs=>Va (O xs) (Y xs)) R->Q (tW R) h)->c0 [tW A,tW B] h Q E
def acw {st ta f rt g:Aq}(a:St2 st)(S:Ta2 ta)(O:Tr2 f)(b:Rt2 rt)(hsz:Sz2 g):Po2 (uJ st ta f rt g):=by
 intro h A B o v L i pb d C P Q E p l j u t m;refine d8 rfl (σ:=[Go _,Go<|tW B,JI]) rfl<|aM<|aW<|aL<|ao<|aq rfl<|aB ?_
 refine S p (by lia) (by lia) λX Y U e=>nV<|bI ?_
 refine O e (by lia) (by lia) λX2 D F e2=>?_;refine ao<|aq rfl<|aB<|b e2 l (by lia) (by lia) λR k=>?_
 refine ao<|aL<|ao<|aq rfl<|aB<|hsz e (by lia) (by lia) λz c=>aB ?_
 have J:∀q,Z L q (d+1+(d+1)+(d+1)+6) (λxs=>det (xO (o xs))) z->i+i+pb+q<=P->st [tW R,Ce z] h (λw h'=>bN.rt ⟨λw h'=>Q .non h',Q,λw h'=>Q .non h',λw h'=>Q .non h'⟩ w h') E:=λq n s=>?_
 rcases j with j|⟨y,x,r⟩
 exact J _ c<|by lia
 have:=c.van (by lia) r
 subst this;exact J 0 ((Z.nil l.l2 0 _).eq c.v)<|by lia
 exact a k.ez n (by lia) (by lia) (by rw[k.len];decide) λR2 e3=>fV<|m R2<|V3.le (EZ.v3 e3) (by omega)<|by lia
abbrev Ot2 (c0:Aq):Prop:=∀{h:Gh}{A B C:List (List Tm)}{c:Fc}{b a:Ft}{L S pb J Y U O:Nat}{Q:WK}{E:Bt},V6 L S Y c A->V3 L pb U b B->V3 L J O a C->S+pb+J+J<=6->Y+U+O+O<=1900 ->
 (∀R,V3 L (S+pb+J+J) (Y+U+O+O+12) (λxs=>Pq (c xs) (b xs) (a xs)) R->Q (tW R) h)->c0 [tW A,tW B,tW C] h Q E
def alZ {st g i ta a}(J:St2 st)(c:Sm2 g)(d:Db2 i)(b:Ta2 ta)(O:Bo2 a):Ot2 (qF st g i ta a):=by
 intro h A B C y x w L s pb r F D z Q E p f S m v l;refine d8 rfl (σ:=[Go _,Go<|tW B,Go<|tW C,JI,JI,JI]) rfl<|aM<|aW<|aL<|ao<|aq rfl<|aB ?_
 refine b p (by lia) (by lia) λX Y U e=>nV<|bI ?_
 refine O e S S (by lia) (by lia) λow n=>nV<|bI ?_
 refine O e f S (by lia) (by lia) λsh es=>aB<|d es (by lia) (by lia) λsd o=>?_
 refine J f.ez n (by lia) (by lia) (by rw[f.len];decide) λR1 k=>ao<|aL<|ao<|aq rfl<|ao<|aq rfl<|aB ?_
 refine J S.ez o (by lia) (by lia) (by rw[S.len];decide) λR2 j=>aB ?_;have u:R1.length=3:=k.length.symm;have t:R2.length=3:=j.length.symm;exact c (k.le (by lia)<|by lia) (j.le (by lia)<|by lia) m (by lia) (by lia) (by lia) λR3 q=>fV<|l R3<|EZ.v3 q
inductive Fu
 | t (F:Ft)
 | c (F:Fc)
abbrev VV (L p c:Nat):Fu->List (List Tm)->Prop
 | .t F,T=>V3 L p c F T
 | .c F,T=>V6 L p c F T
structure Tz (L r w:Nat) (F:Fu) (T:List (List Tm)):Prop where
 v:VV L r (6*w-5) F T
 w1:1<=w
inductive Tl (L:Nat):List Nat->List Nat->List Fu->List (List (List Tm))->Prop
 | nil:Tl L [] [] [] []
 | cons {r w:Nat}{rs ws:List Nat}{F:Fu}{Fs:List Fu}{T:List (List Tm)}{Ts:List (List (List Tm))}:Tz L r w F T->Tl L rs ws Fs Ts->Tl L (r::rs) (w::ws) (F::Fs) (T::Ts)
abbrev rc (x:Str)(l:List Nat):Nat:=if x = "curve" then 2*l.sum else if x = "pole" then 5*l.getD 0 0+l.getD 1 0 else if x = "other" then l.getD 0 0+2*l.getD 1 0+2*l.getD 2 0 else l.sum
inductive RF:Str->List Fu->Fu->Prop
 | join {x:Str}{F G:Ft}:x = "join"\/x = "meet"->RF x [.t F,.t G] (.t λxs=>Jo (F xs) (G xs))
 | curve {a b c d e:Ft}:RF "curve" [.t a,.t b,.t c,.t d,.t e] (.c λxs=>Jf (a xs) (b xs) (c xs) (d xs) (e xs))
 | about {F:Fc}{G:Ft}:RF "about" [.c F,.t G] (.t λxs=>vm (xO (F xs)) (G xs))
 | pole {F:Fc}{G:Ft}:RF "pole" [.c F,.t G] (.t λxs=>Va (F xs) (G xs))
 | other {F:Fc}{G H:Ft}:RF "other" [.c F,.t G,.t H] (.t λxs=>Pq (F xs) (G xs) (H xs))
abbrev Rd (L:Nat)(x:Str)(rs:List Nat)(Fs:List Fu)(P:Nat):Prop:=P<=6/\(rc x rs<=P\/x = "pole"/\2*rs.getD 0 0+rs.getD 1 0<=P/\3*rs.getD 0 0<=6/\∀F G,Fs=[.c F,.t G]->∀xs,QJ L xs->det (xO (F xs))=0)
variable {Fs:List Fu}{rs:List Nat}{P:Nat}
def Rd.le (h:Rd L x rs Fs P)(n:x ≠ "pole"):rc x rs<=P:=by
 rcases h.2 with h|⟨h,_⟩
 exact h;simp_all
abbrev RaX (c0:Aq):Prop:=∀{h:Gh}{rw tv:W}{O J:List W}{k:Nat}{x:Str}{js:List Nat}{Ts:List (List (List Tm))}{Fs:List Fu}{o:Fu}{L P:Nat}{rs ws:List Nat}{Q:WK}{E:Bt},view h rw=Go O->O[k]?=Go (.tup (.str x::js.map λj:Nat=>W.int (j:Int)))->view h tv=Go J ->
 js.map (λj=>J[j]?)=Ts.map (λT=>Go (tW T))->Tl L rs ws Fs Ts->RF x Fs o->Rd L x rs Fs P->rc x ws<=300->(∀R,Tz L P (rc x ws) o R->Q (tW R) h)->c0 [rw,tv,.int (k:Int)] h Q E
def ou {l}:Mj (w::l) 0=Go w:=by
 unfold Mj Qt;simp
def af8 (w)(ws):xq (w::ws) (Go 1) JI=ws:=by
 first|rfl|exact aiZ _ 1|simp
def afY {us}{lo hi}(e:xq ws lo hi=us)(x:Q (.tup us) h):OJ (.tup ws) lo hi h Q:=by
 subst e;exact x
def tlL {L rs ws Fs Ts}(h:Tl L rs ws Fs Ts):Ts.length=Fs.length:=by
 induction h with
 | nil=>rfl
 | cons _ _ i=>exact congrArg (·+1) i
def RFf {x Fs o}(h:RF x Fs o):Fs.length<=5:=by cases h<;>simp
def aeS {cr ta rt cu po ot:Aq}(hcr:Cr2 cr)(hta:Ta2 ta)(hrt:Rt2 rt)(hcu:Cu2 cu)(hpo:Po2 po)(hot:Ot2 ot):RaX (abY cr ta rt cu po ot):=by
 intro h rw tv rws thg k x js Ts Fs o L P rs ws Q E er ek etv et tl rf hd hw q';have lj:js.length=Ts.length:=by have:=congrArg Rb et;simpa using this
 have lw:Ts.length<=5:=by have:=tlL tl;have:=RFf rf;lia
 refine d8 rfl (σ:=[Go rw,Go tv,Go<|.int (k:Int),JI,JI]) rfl<|aM<|aW<|aH<|aH<|aq rfl<|aq rfl<|bA (ws:=rws) er (bB ek)<|aX<|bA (ws:=.str x::js.map λj:Nat=>W.int (j:Int)) rfl ou ?_
 refine nV<|bI ?_
 refine iD<|iB<|Zi<|aH<|aq rfl<|aq rfl<|bA (ws:=rws) er (bB ek)<|vO<|aX<|adF<|qZ ?_
 refine afY (af8 _ _)<|tQ (ws:=js.map λj:Nat=>W.int (j:Int)) (o:=JI) rfl<|fG.mk (HW (m:=1000) (by rw[Bo];lia)<|by decide) ?_
 refine cU (λi acc g=>g=h/\acc=(Ts.take i).map tW) ?_ ?_ ⟨rfl,rfl⟩
 ·rintro i w acc g N hN e ⟨rfl,rfl⟩;rw[Hf]at e;cases qe:js[i]? with
  | none=>rw[qe]at e;cases e
  | some j=>
   rw[qe]at e;cases e;have hi:=(Lx.mp qe).1;have qw:Ts[i]?=Go (Ts[i]'(by lia)):=Hw _;have e2:=congrArg (·[i]?) et;simp only[Hf,qe,qw,Yr]at e2;refine⟨[.int (j:Int)],rfl,dB<|cH<|aH<|aq rfl<|aq rfl<|bA (ws:=thg) etv (bB<|IV e2)<|hN _ _ ⟨rfl,?_⟩⟩;rw[Ik,qw,IK];rfl
 rintro acc g ⟨rfl,rfl⟩;rw[Bo,lj,J8];refine nV<|bI ?_
 refine aM<|bU<|aZ<|aH<|aq rfl<|aX<|eY<|iu ?_
 have hP:=hd.1;cases rf with
 | curve=>
  obtain _|⟨a1,_|⟨a2,_|⟨a3,_|⟨a4,_|⟨a5,_|_⟩⟩⟩⟩⟩:=tl
  have hd:=hd.le (by decide);have e:∀a b c d e:Nat,rc "curve" [a,b,c,d,e]=2*(a+(b+(c+(d+(e+0))))):=λ_ _ _ _ _=>rfl
  rw[e]at hw q' hd;have:=a1.w1;have:=a2.w1;have:=a3.w1;have:=a4.w1;have:=a5.w1
  refine tU (by decide)<|bF<|aL<|ao<|aq rfl<|aB ?_
  exact hcu a1.v a2.v a3.v a4.v a5.v (by lia) (by lia) λR e=>fV<|q' R ⟨EZ.le e (by lia)<|by lia,by lia⟩
 | about=>
  obtain _|⟨a1,_|⟨a2,_|_⟩⟩:=tl
  have hd:=hd.le (by decide);have e:∀a b:Nat,rc "about" [a,b]=a+(b+0):=λ_ _=>rfl
  rw[e]at hw q' hd;have:=a1.w1;have:=a2.w1
  refine nA (by decide)<|bH<|bI ?_
  unfold qU;refine aM<|bU<|aZ<|aH<|aq rfl<|aX<|eY<|iu<|tU (by decide) ?_
  refine bF<|aL<|ao<|aL<|ao<|aH<|aq rfl<|aX<|Px (i:=0) rfl<|aB ?_
  refine hta a1.v (by lia) (by lia) λA B C e1=>ao<|aH<|aq rfl<|aX<|Px (i:=1) rfl<|aB ?_
  exact hrt e1 a2.v (by lia) (by lia) λR er=>fV<|q' R ⟨V3.le er (by omega)<|by lia,by lia⟩
 | pole=>
  obtain _|⟨a1,_|⟨a2,_|_⟩⟩:=tl
  have hd:=hd.2.imp id λf=>by obtain⟨_,h2,h3,h4⟩:=f;exact And.intro h2 (And.intro h3 (h4 _ _ rfl))
  have e:∀a b:Nat,rc "pole" [a,b]=5*a+b:=λ_ _=>rfl
  rw[e]at hw q';have:=a1.w1;have:=a2.w1
  refine nA (by decide)<|bH<|bI ?_
  unfold qU;refine aM<|bU<|aZ<|aH<|aq rfl<|aX<|eY<|iu<|nA (by decide)<|bH<|bI ?_
  unfold vW;refine aM<|bU<|aZ<|aH<|aq rfl<|aX<|eY<|iu<|tU (by decide) ?_
  refine bF<|aL<|ao<|aH<|aq rfl<|aX<|Px (i:=0) rfl<|ao<|aH<|aq rfl<|aX<|Px (i:=1) rfl<|aB ?_
  exact hpo a1.v a2.v hd hP (by lia) λR e=>fV<|q' R ⟨V3.le e (Cm _)<|by lia,by lia⟩
 | other=>
  obtain _|⟨a1,_|⟨a2,_|⟨a3,_|_⟩⟩⟩:=tl
  have hd:=hd.le (by decide);have e:∀a b c:Nat,rc "other" [a,b,c]=a+2*b+2*c:=λ_ _ _=>rfl
  rw[e]at hw q' hd;have:=a1.w1;have:=a2.w1;have:=a3.w1
  refine nA (by decide)<|bH<|bI ?_
  unfold qU;refine aM<|bU<|aZ<|aH<|aq rfl<|aX<|eY<|iu<|nA (by decide)<|bH<|bI ?_
  unfold vW;refine aM<|bU<|aZ<|aH<|aq rfl<|aX<|eY<|iu<|nA (by decide)<|bH<|bI ?_
  unfold BX;refine aM<|bU<|aZ<|aH<|aq rfl<|aX<|eY<|iu<|tU (by decide) ?_
  refine bF<|aL<|ao<|aH<|aq rfl<|aX<|Px (i:=0) rfl<|ao<|aH<|aq rfl<|aX<|Px (i:=1) rfl ?_
  refine ao<|aH<|aq rfl<|aX<|Px (i:=2) rfl<|aB ?_
  exact hot a1.v a2.v a3.v (by lia) (by lia) λR e=>fV<|q' R ⟨V3.le e (by lia)<|by lia,by lia⟩
 | join hx=>
  obtain _|⟨a1,_|⟨a2,_|_⟩⟩:=tl
  have c1:x ≠ "curve":=by rcases hx with rfl|rfl<;>decide
  have c2:x ≠ "about":=by rcases hx with rfl|rfl<;>decide
  have c3:x ≠ "pole":=by rcases hx with rfl|rfl<;>decide
  have c4:x ≠ "other":=by rcases hx with rfl|rfl<;>decide
  have e:∀a b:Nat,rc x [a,b]=a+(b+0):=λ_ _=>by unfold rc;rw[if_neg c1,if_neg c3,if_neg c4];rfl
  have hd:=hd.le c3;rw[e]at hw q' hd;have:=a1.w1;have:=a2.w1
  refine nA (decide_eq_false c1)<|bH<|bI ?_
  unfold qU;refine aM<|bU<|aZ<|aH<|aq rfl<|aX<|eY<|iu<|nA (decide_eq_false c2)<|bH<|bI ?_
  unfold vW;refine aM<|bU<|aZ<|aH<|aq rfl<|aX<|eY<|iu<|nA (decide_eq_false c3)<|bH<|bI ?_
  unfold BX;refine aM<|bU<|aZ<|aH<|aq rfl<|aX<|eY<|iu<|nA (decide_eq_false c4)<|bH<|bI ?_
  unfold Nu;refine bF<|aL<|ao<|aH<|aq rfl<|aX<|Px (i:=0) rfl<|ao<|aH<|aq rfl<|aX<|Px (i:=1) rfl<|aB ?_
  exact hcr a1.v a2.v (by lia) (by lia) λR er=>fV<|q' R ⟨V3.le er (by omega)<|by lia,by lia⟩
def FQ:∀ps J,pC (ps.map .int) (J.map .int)=(List.zip ps J).map λx=>.tup [.int x.1,.int x.2]
 | [],_|_::_,[]=>by simp[pC]
 | a::ps,b::J=>by rw[Hz,Hz,pC,FQ ps J];rfl
def alz {ps qs wi J U}{f}(e1:σ[i]?=Go (Go wi))(e2:σ[j]?=Go (Go J))(c:nQ wi=Go (ps.map .int))(Y:nQ J=Go (qs.map .int))(hz:ps.length<=1000)
  (S:∀a b R,R (.int (f a b)) h->U [Go (.int a),Go (.int b)] h R) (q:Q (.lst ((Wi f ps qs).map .int)) h):Ht (Qa 2) [] (Yy (aj (aA i) (aj (aA j) aG))) jx U σ h Q:=by
 refine iD<|ao<|aq e1<|ao<|aq e2<|aB ?_
 show(match Ks h wi J with
  | some s=>_
  | none=>False)
 have g:Ks h wi J=Go ⟨pC (ps.map .int) (qs.map .int),JI⟩:=by unfold Ks;rw[c,Y]
 rw[g,FQ];refine fG.mk (HW (m:=1000) (by rw[Bo,List.length_zip];lia)<|by decide) ?_;refine cU (λi acc h'=>h'=h/\acc=(((List.zip ps qs).take i).map λx=>f x.1 x.2).map .int) ?_ ?_ ⟨rfl,rfl⟩
 ·rintro i w acc h' N d e ⟨rfl,rfl⟩;rw[Hf]at e;cases O:(List.zip ps qs)[i]? with
  | none=>rw[O]at e;cases e
  | some x=>
   rw[O]at e;cases e;refine⟨[.int _,.int x.2],rfl,dB<|cH<|S _ _ _<|d _ _ ⟨rfl,?_⟩⟩;rw[Ik,O];simp
 rintro acc h' ⟨rfl,rfl⟩;rw[Bo,J8];have:(List.zip ps qs).map (λx=>f x.1 x.2)=Wi f ps qs:=by rw[List.zip,List.map_zipWith]
 rwa[this]
def ac3 (e:h.c n=Go (.lst ws)):Ue h (.loc n)=Go ⟨ws,Go (n,ws)⟩:=by
 simp[Ue,e]
def v7 {ix}(U:σ[i]?=Go (Go (.loc n)))(S:h.c n=Go (.lst ws))(hz:ws.length<=1000)(I:Nat->List W->Prop)
  (J:∀j w  (acc) (N:List W->Gh->Prop),(∀acc',I (j+1) acc'->N acc' h)->ws[j]?=Go w->I j acc->∃vs,own w=Go vs/\tt (vs.map Go++mY ix σ) h λc h1=>JC c (te (vs.map Go++mY ix σ) h1 λv h2=>N (acc++[v]) h2) (N acc h1))
  (O:∀acc,I ws.length acc->Q (.lst acc) h) (h0:I 0 []):Ht own ix (Ii (aA i)) tt te σ h Q:=by
 refine iD<|iB<|aq U<|tQ (ac3 S)<|fG.mk (HW hz<|by decide) ?_
 refine Pb (λj acc h'=>h'=h/\I j acc) (λj acc h' d P p=>by obtain⟨e,_⟩:=d;subst e;exact⟨S,p⟩) ?_ (λacc h' f=>by obtain⟨e,a⟩:=f;subst e;exact O acc a) ⟨rfl,h0⟩;rintro j w acc h' N Y e ⟨rfl,a⟩;exact J j w acc N (λacc' b=>Y acc' h' ⟨rfl,b⟩) e a
abbrev ach (h:Gh)(w:W)(ts:List Tm):Prop:=w=.tup (ts.map J7)\/w=.lst (ts.map J7)\/∃n,w=.loc n/\h.c n=Go (.lst (ts.map J7))
def Ku {ix}(U:σ[i]?=Go (Go w))(e:ach h w ts)(hz:ts.length<=1000)(I:Nat->List W->Prop)
  (O:∀j t  (acc) (N:List W->Gh->Prop),(∀acc',I (j+1) acc'->N acc' h)->ts[j]?=Go t->I j acc->∃vs,own (J7 t)=Go vs/\tt (vs.map Go++mY ix σ) h λc h1=>JC c (te (vs.map Go++mY ix σ) h1 λv h2=>N (acc++[v]) h2) (N acc h1))
  (d:∀acc,I ts.length acc->Q (.lst acc) h) (h0:I 0 []):Ht own ix (Ii (aA i)) tt te σ h Q:=by
 have f:(ts.map J7).length<=1000:=by rwa[Bo]
 have st:∀(j:Nat) (w:W) (acc:List W) (N:List W->Gh->Prop),(∀acc',I _ acc'->N acc' h)->(ts.map J7)[j]?=Go w->I j acc->∃vs,own w=Go vs/\tt (vs.map Go++mY ix σ) h λc h1=>JC c (te (vs.map Go++mY ix σ) h1 λv h2=>N (acc++[v]) h2) (N acc h1):=λj w acc N Y e a=>by
  rw[Hf]at e;cases S:ts[j]? with
  | none=>rw[S]at e;cases e
  | some t=>
   rw[S]at e;cases e;exact O j t acc N Y S a
 have fi:∀acc,I (ts.map J7).length acc->Q _ h:=λacc a=>d acc (by rw[Bo]at a;exact a)
 have J:∀u:W,Ue h u=Go ⟨ts.map J7,JI⟩->σ[i]?=Go _->Ht own ix _ tt te σ h Q:=λu l k=>by
  refine iD<|iB<|aq k<|tQ l<|fG.mk (HW f<|by decide) ?_
  refine cU (λj acc h'=>h'=h/\I j acc) ?_ (λacc h' o=>by obtain⟨e,a⟩:=o;subst e;exact fi acc a) ⟨rfl,h0⟩;rintro j g acc h' N Y e' ⟨rfl,a⟩;exact st j g acc N (λacc' b=>Y acc' h' ⟨rfl,b⟩) e' a
 rcases e with rfl|rfl|⟨n,rfl,m⟩
 exact J _ rfl U;exact J _ rfl U;exact v7 U m f I st fi h0
def Ju (t):Qa 2 (J7 t)=Go [.tup (t.1.map .int),.int t.2]:=rfl
def ajN (J:σ[i]?=Go (Go w))(e:ach h w ts)(hz:ts.length<=1000)(q:Q (.lst ((ts.map (·.2)).map .int)) h):Ht (Qa 2) [] (Ii (aA i)) jx (aA 1) σ h Q:=by
 refine Ku J e hz (λj acc=>acc=((ts.take j).map (·.2)).map .int) ?_ (by simp_all) rfl;rintro j t acc N O e rfl;refine⟨_,Ju t,dB<|cH<|aq rfl<|O _ ?_⟩;rw[Ik,e];simp
abbrev CmX (c0:Aq):Prop:=∀{h:Gh}{w:W}{ts:List Tm}{Q:WK}{E:Bt},ach h w ts->ts.length<=1000->Q (.int (gL (ts.map (·.2)))) h->c0 [w] h Q E
def zbk {dv}(J:yW dv):CmX (Fp dv):=by
 intro h w ts Q E e O q;exact d8 rfl rfl<|bF<|aL<|ao<|ajN rfl e O<|aB<|J (.inl rfl) q
abbrev eV (G:Int)(le:List Int)(t:Tm):Tm:=(Wi (· - ·) t.1 le,t.2.fdiv G)
abbrev WoX (c0:Aq):Prop:=∀{h:Gh}{s:List Tm}{G:Int}{le:List Int}{L m:Nat}{Q:WK}{E:Bt},L<=8->(∀t∈s,t.1.length=L)->s.length<=600->G≠0->m<=8000->Sm m G->Q (Ce (s.map (eV G le))) h->c0 [Ce s,.int G,.lst (le.map .int)] h Q E
def zaR:WoX zU:=by
 intro h s G le L m Q E d O a g0 S J q;refine d8 rfl rfl<|bF<|cB<|ao<|Ku rfl (.inl rfl) (by lia) (λj acc=>acc=((s.take j).map (eV G le)).map J7) ?_ ?_ rfl
 rintro j t acc N Y e rfl;have c:=O t (O5 e);refine⟨_,Ju t,dB<|cH<|cZ<|ao<|cB<|ao<|alz rfl rfl rfl rfl (by lia) (λa b R U=>aH<|aq rfl<|aq rfl<|rF U)<|aB<|eZ<|ao<|aH<|aq rfl<|aq rfl<|Fj ⟨g0,m,S,J⟩<|aB<|bR rfl<|Y _ ?_⟩;rw[Ik,e,IK,IK];rfl;rintro acc rfl
 rwa[J8]
abbrev Qz (ss:List (List Tm)):Int:=match(ss.filter λs=>decide (s≠[])).getLast? with
 | some s=>(match s.getLast? with
  | some t=>t.2
  | none=>0)
 | none=>0
variable {ss:List (List Tm)}
def alQ (h:∃s∈ss,s≠[]):∃s t,(ss.filter λs=>decide (s≠[])).getLast?=Go s/\s.getLast?=Go t/\Qz ss=t.2/\s∈ss:=by
 obtain⟨Y,O,U⟩:=h;have J:(ss.filter λs=>decide (s≠[]))≠[]:=List.ne_nil_of_mem (SJ.mpr ⟨O,by simpa using U⟩);have e1:=List.getLast?_eq_some_getLast J;have S:=SJ.mp (List.getLast_mem J);generalize(ss.filter λs=>decide _).getLast J=s at e1 S;have e2:=List.getLast?_eq_some_getLast (by simpa using S.2);refine⟨s,_,e1,e2,?_,S.1⟩;unfold Qz;simp_all
def Fd {us}(h:us.getLast?=Go w):Mj us (-1)=Go w:=by
 have J:us≠[]:=by
  grind
 obtain⟨i,hi⟩:∃i,us.length=i+1:=⟨us.length-1,by have:=List.length_pos_iff.mpr J;lia⟩
 have e1:Qt (i+1) (-1)=Go i:=by
  unfold Qt;repeat' split
  all_goals first|lia|(congr 1;lia)
 unfold Mj;grind
def GK {us x}(v:view h x=Go us)(e:us.getLast?=Go w)(q:Q w h):Bh x (.int (-1)) h Q:=bA v (Fd e) q
abbrev EbX (c0:Aq):Prop:=∀{h:Gh}{ss:List (List Tm)}{Q:WK}{E:Bt},ss.length<=1000->(∃s∈ss,s≠[])->Q (.bl (decide (Qz ss<0))) h->c0 [.tup (ss.map Ce)] h Q E
def K3 (S:σ[i]?=Go (Go (.tup (ss.map Ce))))(hz:ss.length<=1000)(ht:∀s  (R),R (decide (s≠[])) h->tt [Go (Ce s)] h R)(q:Q (.lst ((ss.filter λs=>decide (s≠[])).map Ce)) h):Ht JL [] (Ii (aA i)) tt (aA 0) σ h Q:=by
 refine iD<|iB<|aq S<|tQ rfl<|fG.mk (HW (by rwa[Bo])<|by decide)<|cU (λi acc h'=>h'=h/\acc=((ss.take i).filter λs=>decide<|s≠[]).map Ce) ?_ ?_ ⟨rfl,rfl⟩
 ·rintro i w acc h' N O e ⟨rfl,rfl⟩;rw[Hf]at e;cases J:ss[i]? with
  | none=>rw[J]at e;cases e
  | some s=>
   rw[J]at e;cases e;refine⟨[Ce s],rfl,ht s _ ?_⟩;by_cases c:s≠[]
   rw[decide_eq_true c];refine cH<|aq rfl<|O _ _ ⟨rfl,?_⟩
   rw[Ik,J];simp[c];rw[decide_eq_false c];refine ur<|O _ _ ⟨rfl,?_⟩
   rw[Ik,J];simp[c]
 rintro acc h' ⟨rfl,rfl⟩
 rwa[Bo,J8]
def Ua (h)(s):acf h (Ce s)=Go (decide (s≠[])):=by
 cases s with
 | nil|cons t s=>rfl
def acM:EbX gw:=by
 intro h ss Q E O J q;obtain⟨s,t,e1,e2,e3,_⟩:=alQ J;refine d8 rfl rfl<|aM<|aW<|aH<|K3 rfl O (λs R S=>jk<|aq rfl<|Jd (Ua _ _) S) ?_
 refine Ot<|aX<|yV<|GK rfl (by rw[List.getLast?_map,e1];rfl) ?_
 refine lU rfl<|bI<|bF<|aH<|aH<|aH<|aq rfl ?_
 refine Ot<|aX<|yV<|GK rfl (by rw[List.getLast?_map,e2];rfl) ?_
 refine aX<|bA rfl rfl<|aX<|Yd ?_
 rwa[<-e3]
abbrev mnL (ns:List Int):Int:=ns.min?.getD 0
def acW {M:Int}(h1:M∈ns)(h2:∀a∈ns,M<=a):M=mnL ns:=by
 unfold mnL;rw[List.min?_eq_some_iff.mpr ⟨h1,h2⟩];rfl
abbrev gK (L:Nat)(ts:List Tm):List Int:=(Le L).map λi=>mnL (ts.map λt=>t.1.getD i 0)
def alI (b:σ[1]?=Go (Go w))(e:ach h w ts)(hz:ts.length<=1000)(U:ts≠[])(u:L<=8)(c:∀t∈ts,t.1.length=L)(q:Q (.lst ((gK L ts).map .int)) h):
  Ht JL [1] (iy (aj (HN Ho (aj (Ah Bh (Ah Bh (aA 1) (mC (.int 0))) (mC (.int 0))) aG)) aG)) jx (HN S6 (aj (Ht (Qa 2) [0] (Ii (aA 1)) jx (Ah Bh (aA 0) (aA 2))) aG)) σ h Q:=by
 obtain⟨O,J,rfl⟩:=Zu U;have f:view h w=Go ((O::J).map J7):=by
  rcases e with rfl|rfl|⟨n,rfl,r⟩
  rfl;rfl;exact iV r
 refine iD<|lC<|ao<|cB<|ao<|aH<|aH<|aq b ?_
 refine aX<|bA (w:=J7 O) f (bB (j:=0) rfl) ?_
 refine aX<|bA rfl rfl ?_
 refine aB<|dD rfl<|aB ?_
 rw[Bo,c O Q0];refine BR (by lia) ?_;have k:mY [1] σ=[Go w]:=by
  show[(σ[1]?).getD JI]=_;rw[b];rfl
 have a:((rng 0 L).map λx:Nat=>W.int (x:Int)).length=L:=by
  rw[Bo];unfold rng;rw[YZ];lia
 refine fG.mk (HW (m:=1000) (by rw[a];lia)<|by decide) ?_;refine cU (λi acc h'=>h'=h/\acc=(((Le L).take i).map λi=>mnL<|(O::J).map λt=>t.1.getD i 0).map .int) ?_ ?_ ⟨rfl,rfl⟩
 ·rintro i s acc h' N l e2 ⟨rfl,rfl⟩;rw[Hf]at e2;cases S:(rng 0 L)[i]? with
  | none=>rw[S]at e2;cases e2
  | some i'=>
   rw[S]at e2;cases e2;obtain⟨d,hi⟩:=lH S;rw[Xh]at d;subst d;refine⟨[.int (i':Int)],rfl,?_⟩;rw[k];refine dB<|cH<|cB<|ao ?_
   refine Ku (i:=1) rfl e hz (λj acc=>acc=(((O::J).take j).map λt=>t.1.getD i' 0).map .int) ?_ ?_ rfl;rintro j t acc v Y e' rfl;have ht:=c t (O5 e');refine⟨_,Ju t,dB<|cH<|aH<|aq rfl<|aq rfl ?_⟩;have p:t.1[i']?=Go (t.1.getD i' 0):=by
    rw[KD,Hw (by lia)];rfl
   refine bA (ws:=t.1.map .int) rfl (bB (by rw[Hf,p];rfl))<|Y _ ?_
   rw[Ik,e'];simp;rintro acc rfl;rw[J8];refine aB ⟨(O::J).map λt=>t.1.getD i' 0,rfl,by simp,λM o g=>?_⟩;refine l _ _ ⟨rfl,?_⟩;rw[Ik,Zx (by omega),acW o g];simp
 rintro acc h' ⟨rfl,rfl⟩;rw[a,ZM (by simp)];exact q
abbrev Jh (ss:List (List Tm)):Int:=if Qz ss<0 then-gL (ss.flatten.map (·.2))else gL (ss.flatten.map (·.2))
abbrev LT (L:Nat)(ss:List (List Tm)):List (List Tm):=ss.map λs=>s.map (eV (Jh ss) (gK L ss.flatten))
structure So (L m:Nat) (ss:List (List Tm)):Prop where
 wf:∀s∈ss,∀t∈s,t.1.length=L/\t.2≠0/\Sm m t.2
 few:1<=ss.length/\ss.length<=6
 lens:∀s∈ss,s.length<=64
def Uj:∀r:List (List Tm),(∀s∈r,s.length<=64)->r.flatten.length<=64*r.length
 | [],_=>by simp
 | a::r,J=>by
  have h1:=J a Q0;have h2:=Uj r λs O=>J s (Lq _ O)
  grind
def alK (J:So L m ss):ss.flatten.length<=1000:=by
 have:=Uj ss J.lens
 have:=J.few.2
 lia
variable {s:List Tm}
def ajP (J:So L m ss)(hs:s∈ss):s.length<=600:=by
 have:=J.lens s hs
 lia
def Bw (h:∃s∈ss,s≠[]):ss.flatten≠[]:=by simp_all
def K6 (S:So L m ss)(U:∃s∈ss,s≠[]):Jh ss≠0/\Sm m (Jh ss)/\Sm m (gL (ss.flatten.map (·.2))):=by
 have O:∀t∈ss.flatten,t.2≠0/\Sm m _:=λt ht=>by
  obtain⟨s,Y,b⟩:=List.mem_flatten.mp ht;exact(S.wf s Y t b).2
 have J:=aei λn a=>by
  obtain⟨t,ht,rfl⟩:=Hr.mp a;exact(O t ht).2
 have c:0<gL (ss.flatten.map (·.2)):=by
  obtain⟨t,r,e⟩:=Zu (Bw U);exact ael ⟨t.2,Hr.mpr ⟨t,e ▸ Q0,rfl⟩,(O t<|e ▸ Q0).1⟩
 unfold Jh;split
 exact⟨by omega,by unfold Sm at J|-;rw[Int.natAbs_neg];exact J,J⟩;grind
def akk (J:So L m ss):∀t∈ss.flatten,t.1.length=L:=λt ht=>by
 obtain⟨s,O,S⟩:=List.mem_flatten.mp ht;exact(J.wf s O t S).1
abbrev LiX (c0:Aq):Prop:=∀{h:Gh}{ss:List (List Tm)}{L m:Nat}{Q:WK}{E:Bt},L<=8->m<=8000->So L m ss->(∃s∈ss,s≠[])->Q (.tup ((LT L ss).map Ce)) h->c0 [.tup (ss.map Ce)] h Q E
def acL {us zs}(e:h.c n=Go (.lst us))(hz:us.length+zs.length<=1000)(k:∀g,g.c n=Go (.lst (us++zs))->(∀m,m≠n->g.c m=h.c m)->g.nx=h.nx->Q .non g):Ka (.loc n) [.tup zs] h Q:=by
 show(match h.c n with
  | some (.lst us)=>fG _ _
  | _=>False)
 exact e ▸ fG.mk (HW hz<|by decide) (k _ (sU _ _ _) (λ_ e=>j4 e) rfl)
def ajw (e:ss[i]?=Go s):(ss.take (i+1)).flatten=(ss.take i).flatten++s:=by
 rw[Ik,e];simp
def zaQ (ss:List (List Tm))(i:Nat):(ss.take i).flatten.length<=ss.flatten.length:=by
 have:=congrArg (λl:List _=>l.flatten.length) (List.take_append_drop i ss)
 grind
def ahs {p wo l}(j:CmX p)(b:WoX wo)(f:EbX l):LiX (yP p wo l):=by
 intro h ss L m Q E v B O a q;have fl:=alK O;obtain⟨g0,x,K⟩:=K6 O a;have I:=O.few.2;refine mJ rfl (σ:=[Go<|.tup<|ss.map Ce,JI,JI,JI,JI]) rfl ?_;refine aM<|aW<|gW (ws:=[]) (λR=>rfl) rfl λg C z F=>?_
 refine eU (λi σ h'=>∃S:Option W,σ=[Go<|.tup<|ss.map Ce,Go<|.loc h.nx,S,JI,JI]/\h'.c h.nx=Go (.lst<|(ss.take i).flatten.map J7)/\∀n,n≠h.nx->h'.c n=h.c n) ?_ ?_ ⟨JI,rfl,C,z⟩
 ·rintro i w σ h' N k e ⟨S,rfl,a1,a2⟩;rw[Hf]at e;cases J:ss[i]? with
  | none=>rw[J]at e;cases e
  | some s=>
   rw[J]at e;cases e;have u:=ajw J;have A:=zaQ ss (i+1);rw[u,JK]at A;refine dG<|dR<|aq rfl<|cL a1<|ao<|aq rfl<|aB ?_
   refine acL a1 (by rw[Bo,Bo];lia) λg2 b1 b2 b3=>bI<|k _ _ ⟨_,rfl,?_,λn d=>by rw[b2 n d];exact a2 n d⟩
   rw[b1,u,IK]
 ·rintro σ h' ⟨S,rfl,a1,a2⟩;rw[Bo,J8]at a1;have U:ach h' (.loc h.nx) ss.flatten:=.inr (.inr ⟨_,rfl,a1⟩);have r:∀G:Int,G=Jh ss->q9 p wo l E {nx:=λ_ h'=>jy true h .non h' Q,rt:=λw h'=>jy true h w h' Q} [Go (.tup (ss.map Ce)),Go (.loc h.nx),S,Go (.int G),JI] h':=by
   intro G y;rw[<-y]at g0 x;refine aM<|aW<|alI (L:=L) rfl U fl (Bw a) v (akk O) ?_
   refine lU (σ':=[Go<|.tup<|ss.map Ce,Go<|.loc h.nx,S,Go<|.int G,Go<|.lst<|(gK L ss.flatten).map .int]) rfl<|bI<|bF<|cB<|ao ?_
   refine iD<|iB<|aq rfl<|tQ (ws:=ss.map Ce) (o:=JI) rfl<|fG.mk (HW (m:=1000) (by rw[Bo];lia)<|by decide) ?_
   refine cU (λi acc g=>g=h'/\acc=((ss.take i).map λs=>s.map<|eV G<|gK L ss.flatten).map Ce) ?_ ?_ ⟨rfl,rfl⟩
   ·rintro i w acc g N k e ⟨rfl,rfl⟩;rw[Hf]at e;cases J:ss[i]? with
    | none=>rw[J]at e;cases e
    | some s=>
     rw[J]at e;cases e;have ms:=O5 J;refine⟨[Ce s],rfl,dB<|cH<|aL<|ao<|aq rfl<|ao<|aq rfl<|ao<|aq rfl<|aB ?_⟩;refine b (L:=L) v (λt ht=>(O.wf s ms t ht).1) (ajP O ms) g0 B x<|k _ _ ⟨rfl,?_⟩
     rw[Ik,J];simp
   rintro acc g ⟨rfl,rfl⟩;rw[Bo,J8,y];exact aB<|eZ ⟨λn c d D=>by rw[a2 n<|by lia];exact D,.inl ⟨by rw[Lo];exact TV _ _,q⟩⟩
  unfold sE;refine bI<|aM<|aW<|aL<|ao<|aq rfl<|aB<|j U fl ?_
  refine lU (σ':=[Go<|.tup<|ss.map Ce,Go<|.loc h.nx,S,Go<|.int<|gL<|ss.flatten.map (·.2),JI]) rfl<|bI<|aM<|bU<|jk<|aL<|ao<|aq rfl<|aB ?_
  refine f (by lia) a<|Jd rfl<|sZ (λc=>?_) λc=>?_
  refine aW<|Ot<|aq rfl<|yV<|lU rfl<|bI<|r _ ?_
  unfold Jh;rw[if_pos c];refine bH<|bI<|r _ ?_
  unfold Jh;rw[if_neg c]
abbrev XF (ts:List Tm)(k:List Int):List Tm:=ts.filter λt=>decide (t.1≠k)
abbrev Ec (ts:List Tm)(k:List Int)(v:Int):List Tm:=if v=0 then XF ts k else uE ts k v
structure Dc (L:Nat) (D:List Tm):Prop where
 kb:∀j∈D.map (·.1),Kb L j
 nd:(D.map (·.1)).Nodup
 nz:∀t∈D,t.2≠0
def ake (O:∀j∈D.map (·.1),Kb L j)(J:Kb L k):aae (Ig D) (.inl (pack k))=Ig (XF D k):=by
 unfold aae Ig XF;rw[List.filter_map];congr 1
 refine List.filter_congr λt ht=>?_;show decide (Sum.inl _≠(Sum.inl _:Key))=decide _;exact decide_eq_decide.mpr ⟨λh e=>h<|by rw[e],λh e=>h<|iR (O _<|Hr.mpr ⟨t,ht,rfl⟩) J<|Sum.inl.inj e⟩
def alP (D)(k r):getM (XF D k) r=if r=k then 0 else getM D r:=by
 induction D with
 | nil=>unfold XF getM;simp
 | cons t D J=>
  unfold XF at *;rw[SN];by_cases c:t.1=k
  rw[cA];grind
  rw[if_pos (by simpa using c),cA,cA];grind
def aiT (D)(k r)(v):getM (Ec D k v) r=if r=k then v else getM D r:=by
 unfold Ec;split
 rename_i e;rw[alP,e];exact KJ ..
def vP (h:t∈Ec D k v):t∈D\/v≠0/\t=(k,v):=by
 unfold Ec at h;split at h
 exact .inl (SJ.mp h).1;rename_i e;unfold uE at h;grind
def aii (J:(D.map (·.1)).Nodup):((Ec D k v).map (·.1)).Nodup:=by
 unfold Ec;split
 exact J.sublist<|List.Sublist.map _ List.filter_sublist
 unfold uE;split
 rw[keys_map];exact J;rename_i c;rw[IK,List.nodup_append];grind
def Dc.put (h:Dc L D)(J:Kb L k):Dc L (Ec D k v):=by
 refine⟨λj O=>?_,aii h.nd,λt ht=>?_⟩;obtain⟨t,ht,rfl⟩:=Hr.mp O;rcases vP ht with m|⟨_,rfl⟩
 exact h.kb _<|Hr.mpr ⟨t,m,rfl⟩
 exact J;rcases vP ht with m|⟨e,rfl⟩
 exact h.nz t m;exact e
def aix (D)(k)(v):(Ec D k v).length<=D.length+1:=by
 unfold Ec;split
 exact HW (List.length_filter_le _ _)<|Ra _
 unfold uE;grind
def acY (e:h.c n=Go (.dct (Ig D)))(O:∀j∈D.map (·.1),Kb L j)(J:Kb L k)(m:k∈D.map (·.1))(q:∀g w,g.c n=Go (.dct (Ig (XF D k)))->(∀m,m≠n->g.c m=h.c m)->g.nx=h.nx->Q w g):PX (.loc n) [.int (pack k)] h Q:=by
 show(match h.c n,(Go _:Option Key)with
  | some (.dct kvs),Go k=>(match pI kvs k with
   | some v=>Q v _
   | none=>False)
  | _,_=>False)
 rw[e];show(match pI _ _ with
  | some v=>Q v _
  | none=>False)
 rw[uV O J,ake O J];obtain⟨t,ht,S⟩:=Hr.mp m;cases c:D.find? λt=>decide (t.1=k)with
 | none=>exact absurd (decide_eq_true S) (by simpa using List.find?_eq_none.mp c t ht)
 | some u=>exact q _ _ (sU _ _ _) (λ_ e=>j4 e) rfl
abbrev MJ (s:List Int)(f:Int)(vs D:List Tm):List Tm:=vs.foldl (λD t=>Ec D (d7 s t.1) (getM D (d7 s t.1)-f*t.2)) D
def m9 (s)(f)(vs D)(t):MJ s f (vs++[t]) D=Ec (MJ s f vs D) (d7 s t.1) (getM (MJ s f vs D) (d7 s t.1)-f*t.2):=by unfold MJ;rw[YD];rfl
def DP {s f}(e:vs[j]?=Go t):MJ s f (vs.take (j+1)) D=Ec (MJ s f (vs.take j) D) (d7 s t.1) (getM (MJ s f (vs.take j) D) (d7 s t.1)-f*t.2):=by
 rw[Ik,e];exact m9 ..
abbrev dz (s r k:List Int):Int:=if d7 s k=r then 1 else 0
def J5 (s)(f)(vs D)(r):getM (MJ s f vs D) r=getM D r-f*lin (dz s r) vs:=by
 refine CR (P:=λvs=>getM (MJ s f vs D) r=getM D r-f*lin _ vs) (by simp[MJ,lin]) (λvs t J=>?_) vs;rw[m9,aiT];have O:lin (dz s r) (vs++[t])=lin (dz s r) vs+dz s r t.1*t.2:=by unfold lin;simp
 unfold dz at *;grind
def yR {s f}(U:Dc L D)(J:∀t∈vs,Kb L (d7 s t.1)):Dc L (MJ s f vs D):=by
 revert J
 refine CR (P:=λvs=>(∀t∈vs,Kb L<|d7 s t.1)->Dc L (MJ s f vs D)) (λ_=>U) (λvs t O J=>?_) vs;rw[m9];exact(O λu S=>J u<|Ri _ S).put (J t<|by simp)
def alL (s)(f)(vs D):(MJ s f vs D).length<=D.length+vs.length:=by
 refine CR (P:=λvs=>(MJ s f vs D).length<=D.length+vs.length) (Cm _) (λvs t J=>?_) vs;rw[m9];have:=aix (MJ s f vs D) (d7 s t.1) (getM (MJ s f vs D) (d7 s t.1)-f*t.2)
 simp;lia
abbrev afC (c0:Aq):Prop:=∀{h:Gh}{n:Nat}{D vs:List Tm}{s:List Int}{f:Int}{L:Nat}{Q:WK}{E:Bt},h.c n=Go (.dct (Ig D))->Dc L D->D.length+vs.length<=30000->s.length=L->(∀t∈vs,t.1.length=L/\Kb L (d7 s t.1)/\t.2≠0/\Sm 8000 t.2)->f≠0->Sm 8000 f ->
 (∀g:Gh,g.c n=Go (.dct (Ig (MJ s f vs D)))->(∀m,m≠n->g.c m=h.c m)->g.nx=h.nx->Q .non g)->c0 [.loc n,.lst (vs.map Sy),.int (pack s),.int f] h Q E
def aaD:afC rN:=by
 intro h n D vs s f L Q E e y B x g A l q;refine eU (λj σ h'=>∃a Y s6 U:Option W,σ=[Go<|.loc n,Go<|.lst<|vs.map Sy,Go<|.int<|pack s,Go<|.int f,a,Y,s6,U]/\h'.c n=Go (.dct<|Ig<|MJ s f (vs.take j) D)/\h'.nx=h.nx/\∀m,m≠n->h'.c m=h.c m) ?_ ?_ ⟨JI,JI,JI,JI,rfl,e,rfl,λ_ _=>rfl⟩
 ·rintro j w σ h' N i e' ⟨a,Y,s6,U,rfl,e3,d,S⟩;rw[Hf]at e';cases J:vs[j]? with
  | none=>rw[J]at e';cases e'
  | some t=>
   rw[J]at e';cases e'
   have o:=O5 J;obtain⟨p,kt,k,st⟩:=g t o;have b:Dc L (MJ s f (vs.take j) D):=yR y λu v=>(g u (Zg v)).2.1
   have r:=alL s f (vs.take j) D;rw[Ou]at r;refine lW rfl rfl<|eO ?_
   refine nV<|eO ?_
   refine nV<|Fb ?_
   refine aM<|aW<|aH<|aq rfl<|aq rfl<|gD ?_
   rw[Int.add_comm,<-iZ x p];refine nV<|bI ?_
   refine aM<|aW<|aH<|Jy<|aq rfl<|Cg e3<|ao<|aq rfl<|ao<|aX<|aB<|Tf e3 b.kb kt ?_
   refine aH<|aq rfl<|aq rfl<|oN (.of l st (by decide)<|by decide)<|rF ?_
   refine sZ (λc=>?_) λc=>?_;refine dG<|Jy<|aq rfl<|Cg e3<|ao<|aq rfl<|aB ?_
   refine acY e3 b.kb kt ?_ λg w a1 a2 a3=>bI<|i _ _ ⟨_,_,_,_,rfl,?_,by lia,λm O=>by rw[a2 m O];exact S m O⟩
   refine pF λz=>?_;rw[getM_none z]at c;have:=Xb A k
   lia;rw[DP J];unfold Ec;rw[if_pos c];exact a1;refine Vb e3 b.kb kt (by lia) λg a1 a2 a3=>bI<|i _ _ ⟨_,_,_,_,rfl,?_,by lia,λm O=>by rw[a2 m O];exact S m O⟩
   rw[DP J];unfold Ec;rw[if_neg c];exact a1
 rintro σ h' ⟨a,Y,s6,U,rfl,e3,d,S⟩;rw[Bo,J8]at e3;exact bI<|q _ e3 S d
abbrev fP (k l:List Int):List Int:=Wi (· - ·) k l
def xV:∀{k l p q},k.length=l.length->fP (k++[p]) (l++[q])=fP k l++[p-q]
 | [],[],_,_,_=>rfl
 | a::k,b::l,p,q,h=>by
  have:=xV (p:=p) (q:=q) (by simpa using h)
  unfold fP at *
  simp_all
def pU {l:List Int}(h:k.length=l.length):(fP k l).length=k.length:=by unfold fP;rw[Zy,h,Nat.min_self]
def zN:∀{k l},k.length=l.length->fP (d7 k l) l=k
 | [],[],_=>rfl
 | a::k,b::l,h=>by
  have:=zN (by simpa using h)
  unfold fP d7 at *
  simp_all
def mZ:∀{k l},k.length=l.length->d7 (fP k l) l=k
 | [],[],_=>rfl
 | a::k,b::l,h=>by
  have:=mZ (by simpa using h)
  unfold fP d7 at *
  simp_all
def u5:∀{k l:List Int},k.length=l.length->(pC (k.map W.int) (l.map .int)).length=k.length
 | [],[],_=>rfl
 | a::k,b::l,h=>congrArg _ (u5 (by simpa using h))
abbrev Ng (k:List Int):Prop:=∃p∈k,p<0
instance (k:List Int):Decidable (Ng k):=inferInstanceAs (Decidable (∃p∈k,p<0))
abbrev PoX (c0:Aq):Prop:=∀{h:Gh}{k:List Int}{v:Int}{t:Tm}{L:Nat}{Q:WK}{E:Bt},k.length=L->t.1.length=L->L<=8->t.2≠0->Sm 8000 v->Sm 8000 t.2->(v.fmod t.2≠0\/Ng (fP k t.1)->Q .non h)->(v.fmod t.2=0->¬Ng (fP k t.1)->Q (J7 (fP k t.1,v.fdiv t.2)) h)->c0 [.tup (k.map .int),.int v,J7 t] h Q E
def acD:PoX kW:=by
 intro h k v t L Q E J ht A f z st l n;refine d8 rfl (σ:=[Go<|.tup<|k.map .int,Go<|.int v,Go<|J7 t,JI]) rfl<|aM<|aW ?_
 refine fG.mk (HW (m:=1000) (by rw[u5<|by rw[J,ht]];lia)<|by decide) ?_;refine cU (λi acc g=>g=h/\acc=(fP (k.take i)<|t.1.take i).map .int) ?_ ?_ ⟨rfl,rfl⟩;rintro i w acc g N q e ⟨rfl,rfl⟩;obtain⟨a,b,Y,u,rfl⟩:=pP e;obtain⟨p,ep,rfl⟩:=ints_get Y;obtain⟨r,s,rfl⟩:=ints_get u;refine⟨[.int p,.int r],rfl,dB<|cH<|aH<|aq rfl<|aq rfl<|rF<|q _ _ ⟨rfl,?_⟩⟩;rw[Ik,Ik,ep,s];show _=(fP (k.take i++[p]) (t.1.take i++[r])).map W.int;rw[xV (by rw[Ou,Ou,J,ht]),IK];rfl;rintro acc g ⟨rfl,rfl⟩;rw[u5 (by rw[J,ht]),J8,J,<-ht,J8];refine nV<|bI ?_
 refine aM<|bU<|Qn<|aZ<|aH<|aH<|aq rfl<|aH<|aq rfl<|aX<|bA (x:=J7 t) (i:=1) (w:=.int t.2) rfl rfl<|Fy f<|aX<|Rt<|iu ?_
 refine sZ (λc=>Hx<|bF<|aX<|fV<|l<|.inl c) λc=>?_;refine jk<|cB<|ao<|iD<|iB<|aq rfl<|tQ (ws:=(fP k t.1).map .int) (o:=JI) rfl<|fG.mk (HW (m:=1000) (by rw[Bo,pU<|by rw[J,ht]];lia)<|by decide) ?_
 refine cU (λj acc U=>U=g/\acc=(((fP k t.1).take j).map λp=>decide<|p<0).map .bl) ?_ ?_ ⟨rfl,rfl⟩;rintro j w acc U B S e' ⟨rfl,rfl⟩;obtain⟨p,ep,rfl⟩:=ints_get e';refine⟨[.int p],rfl,dB<|cH<|aH<|aq rfl<|aX<|Yd<|S _ _ ⟨rfl,?_⟩⟩;rw[Ik,ep];simp;rintro acc U ⟨rfl,rfl⟩;rw[Bo,J8];refine aB<|JW (us:=((fP k t.1).map λp=>decide<|p<0).map .bl) (bs:=(fP k t.1).map λp=>decide<|p<0) rfl (BZ _)<|Jd rfl ?_
 have Y:((fP k t.1).map λp=>decide (p<0)).any id=decide (Ng (fP k t.1)):=by
  rw[Xv,List.any_map,V2,decide_eq_true_iff];constructor;rintro⟨p,O,e⟩;exact⟨p,O,by simpa using e⟩;rintro⟨p,O,e⟩;exact⟨p,O,by simpa using e⟩
 rw[Y];refine sZ (λd=>bF<|aX<|fV<|l<|.inr d) λd=>bH<|bI ?_
 have y:v.fmod t.2=0:=pF c;refine bF<|cZ<|ao<|aq rfl<|ao<|aH<|aq rfl<|aH<|aq rfl<|aX<|bA (x:=J7 t) (i:=1) (w:=.int t.2) rfl rfl<|Fj ⟨f,8000,by decide,st⟩<|aB<|bR rfl<|fV<|n y d
def aaA (e:h.c n=Go (.dct (Ig D)))(J:Dc L D)(m:k∈D.map (·.1))(q:Q (.int (getM D k)) h):U0 (.loc n) (.int (pack k)) h Q:=by
 show(match h.c n with
  | some (.dct kvs)=>(match pI kvs _ with
   | some w=>Q w h
   | none=>False)
  | _=>False)
 rw[e];show(match pI _ _ with
   | some w=>Q w h
   | none=>False)
 rw[uV J.kb (J.kb k m)];unfold getM at q;obtain⟨t,ht,O⟩:=Hr.mp m;cases c:D.find? λt=>decide (t.1=k)with
 | none=>exact absurd (decide_eq_true O) (by simpa using List.find?_eq_none.mp c t ht)
 | some u=>rw[c]at q;exact q
def ac5 {Q}(J:σ[i]?=Go (Go (.loc n)))(e:h.c n=Go (.dct (Ig D)))(q:Q (!D.isEmpty) h):Zo (aA i) σ h Q:=by
 refine aq J ?_;show(match h.c n with
  | some (.dct kvs)=>Q _ h
  | _=>False)
 rw[e];show Q _ h;have:(Ig D).isEmpty=D.isEmpty:=by cases D<;>rfl
 rwa[this]
def aa1 (e:h.c n=Go (.dct (Ig D)))(Y:D≠[])(q:∀k,k∈D.map (·.1)->(∀j∈D.map (·.1),pack j<=pack k)->Q (.int (pack k)) h):Rh [.loc n] h Q:=by
 show(match h.c n with
  | some (.dct kvs)=>∃ks:List Int,Aj kvs ks/\0<ks.length/\∀M,M∈ks->(∀a,a∈ks->a<=M)->Q _ h
  | _=>False)
 rw[e];refine⟨(D.map (·.1)).map pack,?_,(by grind),λM U S=>?_⟩;unfold Aj Ig
 simp_all
 obtain⟨k,J,rfl⟩:=Hr.mp U;exact q k J λj O=>S _<|Hr.mpr ⟨j,O,rfl⟩
def yt:∀us,oZ (us.map Sy)=Go (Ig us)
 | []=>rfl
 | t::us=>by
  show(match Wz (.int (pack t.1))with
   | some ks=>(oZ _).map _
   | none=>JI)=_
  rw[yt us];rfl
def aiw (S:∀j∈us.map (·.1),Kb L j)(J:(us.map (·.1)).Nodup):rD [] (Ig us)=Ig us:=by
 revert S J
 refine CR (P:=λus=>(∀j∈us.map (·.1),Kb L j)->(us.map (·.1)).Nodup->rD [] (Ig us)=Ig us) (λ_ _=>rfl) (λus t U S J=>?_) us;rw[IK]at S J;rw[List.nodup_append]at J;have O:=λj Y=>S j (Ri _ Y)
 have e1:Ig (us++[t])=Ig us++[(.inl (pack t.1),.int t.2)]:=by unfold Ig;rw[IK];rfl
 have e2:rD [] (Ig us++[(.inl (pack t.1),.int t.2)])=TJ (rD [] (Ig us)) (.inl (pack t.1)) (.int t.2):=by unfold rD;rw[YD];rfl
 rw[e1,e2,(U O J.1),KZ O (S t.1 (by simp)),pW t.2 (λm=>J.2.2 _ m t.1 (by simp) rfl),e1]
def zbX (O:∀j∈us.map (·.1),Kb L j)(J:(us.map (·.1)).Nodup)(q:∀g,g.c h.nx=Go (.dct (Ig us))->(∀n,n≠h.nx->g.c n=h.c n)->g.nx=h.nx+1->Q (.loc h.nx) g):CW [.lst (us.map Sy)] h Q:=by
 show(match oZ _ with
   | some ps=>Q _ _
   | none=>False)
 rw[yt];show Q _ _;rw[aiw O J];exact q _ (Ao _ _) (λ_ e=>rA e) rfl
structure Vt (L:Nat) (vs:List Tm) (ld:Tm):Prop where
 ex:∃vi,vs=vi++[ld]
 kb:∀t∈vs,Kb L t.1/\t.2≠0/\Sm 8000 t.2
 srt:(vs.map (·.1)).Pairwise (· < ·)
 len:vs.length<=1000
variable {ld:Tm}
def Vt.mem (V:Vt L vs ld):ld∈vs:=by obtain⟨J,rfl⟩:=V.ex;simp
def Vt.le (V:Vt L vs ld)(h:t∈vs):t=ld\/pack t.1<pack ld.1:=by
 have J:=V.kb t h;obtain⟨O,rfl⟩:=V.ex;have s:=V.srt;rw[IK,List.pairwise_append]at s;rcases Wx.mp h with h|h
 exact .inr<|(wM J.1 (V.kb ld V.mem).1).mp (s.2.2 _ (Hr.mpr ⟨t,h,rfl⟩) _<|by simp)
 simp_all
def aaP {s}(V:Vt L vs ld)(hs:s.length=L):lin (dz s (d7 s ld.1)) vs=ld.2:=by
 have z:∀t∈vs,t≠ld->d7 s _≠d7 s ld.1:=λt ht Y e=>by
  have:=V.le ht
  have e2:=congrArg pack e;rw[iZ hs (V.kb t ht).1.1,iZ hs (V.kb ld V.mem).1.1]at e2;simp_all
 obtain⟨J,rfl⟩:=V.ex;have O:∀t∈J,t≠ld:=λt ht e=>by
  have s:=V.srt;grind
 unfold lin;rw[IK,List.sum_append];have U:(J.map λt=>dz s (d7 s ld.1) t.1*t.2).sum=0:=by
  have:J.map (λt=>dz s _ _*t.2)=J.map λ_=>(0:Int):=Q6 λt ht=>by
   unfold dz;rw[if_neg (z t (Ri _ ht) (O t ht))];exact Int.zero_mul _
  rw[this];clear this z O V;induction J with
  | nil=>rfl
  | cons _ _ S=>rw[Hz,List.sum_cons,S];rfl
 rw[U];show 0+(dz s _ _*ld.2+0)=_;unfold dz;rw[if_pos rfl];lia
def aec {K}(V:Vt L vs ld)(c:Dc L D)(l:K∈D.map (·.1))(i:∀j∈D.map (·.1),pack j<=pack K)(s:¬Ng (fP K ld.1))(v:(getM D K).fmod ld.2=0)(n:∀t∈vs,Kb L (d7 (fP K ld.1) t.1)):
  ∀j∈(MJ (fP K ld.1) ((getM D K).fdiv ld.2) vs D).map (·.1),pack j<pack K:=by
 have U:=c.kb K l;have a:=V.kb ld V.mem;have S:K.length=ld.1.length:=by rw[U.1,a.1.1]
 have O:(fP K ld.1).length=L:=by rw[pU S,U.1]
 have dc:=yR (f:=(getM D K).fdiv ld.2) c n;have g:getM (MJ (fP K ld.1) ((getM D K).fdiv ld.2) vs D) K=0:=by
  rw[J5];have:=aaP V O
  rw[mZ S]at this;have:=Int.mul_fdiv_add_fmod (getM D K) ld.2
  grind
 intro j J;have k:j≠K:=λe=>by
  subst e;obtain⟨t,ht,r⟩:=Hr.mp J;have:=jM dc.nd ht
  rw[r,g]at this;exact dc.nz t ht this.symm
 have le:=by
  have q:=λws=>by
   refine CR (P:=λws=>(∀t∈ws,t∈vs)->∀j∈(MJ (fP K ld.1) ((getM D K).fdiv ld.2) ws D).map _,pack j<=pack K) (λ_=>i) (λws t o b j J=>?_) ws;rw[m9]at J;obtain⟨u,p,d⟩:=Hr.mp J;rcases vP p with m|⟨_,rfl⟩
   exact o (λt ht=>b t<|Ri _ ht) j<|Hr.mpr ⟨u,m,d⟩
   have Y:=b t (by simp);rw[<-d];have e2:=iZ O a.1.1;rw[mZ S]at e2;rw[(iZ O (V.kb t Y).1.1)];rcases V.le Y with h|h
   rw[h];lia;lia
  exact q vs (λ_ h=>h) j J
 have:=iR (dc.kb j J) U
 exact Int.lt_iff_le_and_ne.mpr ⟨le,λe=>k<|this e⟩
abbrev aeG (c0:Aq):Prop:=∀{h:Gh}{us vs:List Tm}{ld:Tm}{L:Nat}{Q:WK}{E:Bt}(J:List Tm->List Tm->Prop),L<=8->Dc L us->us.length<=1000->Vt L vs ld->J [] us ->
 (∀f D K,J f D->Dc L D->K∈D.map (·.1)->(∀j∈D.map (·.1),pack j<=pack K)->D.length<=20000/\Sm 8000 (getM D K)/\f.length<=600 /\
  ((getM D K).fmod ld.2≠0\/Ng (fP K ld.1)->Q .non h) /\
  ((getM D K).fmod ld.2=0->¬Ng (fP K ld.1)->(f.length=600->∀h',Ge h h'->E ⟨"TooMuch",[]⟩ h') /\
   (f.length≠600->(getM D K).fdiv ld.2≠0/\Sm 8000 ((getM D K).fdiv ld.2)/\(∀t∈vs,Kb L (d7 (fP K ld.1) t.1))/\J (f++[(fP K ld.1,(getM D K).fdiv ld.2)]) (MJ (fP K ld.1) ((getM D K).fdiv ld.2) vs D)))) ->
 (∀f,J f []->Q (Ce f.reverse) h)->c0 [Ce us,Ce vs] h Q E
def alk {l}(O:Kb L k)(S:Kb L l)(n:¬Ng (fP k l)):Kb L (fP k l):=by
 refine⟨by rw[pU<|by rw[O.1,S.1],O.1],λp J=>⟨Int.not_lt.mp λc=>n ⟨p,J,c⟩,?_⟩⟩;unfold fP at J;obtain⟨i,hi,e⟩:=Y4.mp J;rw[List.getElem_zipWith]at e;rw[Zy]at hi;have h1:=O.2 (k[i]'(by lia)) (QV _);have h2:=S.2 (l[i]'(by lia)) (QV _);lia
def ajd (e:∃J,vs=J++[ld])(q:Q (J7 ld) h):Bh (Ce vs) (.int (-1)) h Q:=by
 obtain⟨J,rfl⟩:=e;exact bA rfl (Fd<|by simp) q
def ajk (x:Q (.bl true) h):kIs .non .non h Q:=x
def acg (x:Q (.bl false) h):kIs (J7 t) .non h Q:=x
def zbw {R I N P tk}(B:PkX R)(y:UnX I)(g:PtX N)(A:PoX P)(z:afC tk):aeG (Gq R I N P tk):=by
 intro h us vs ld L Q E J k d lu V j0 U C;have a:=V.kb ld V.mem;have u:vs≠[]:=λe=>by have:=V.mem;rw[e]at this;cases this
 refine mJ rfl (σ:=[Go<|Ce us,Go<|Ce vs,JI,JI,JI,JI,JI,JI]) rfl ?_;refine aM<|bU<|Gz<|jk<|aq rfl<|Jd (b:=true) ?_ ?_
 ·cases vs with
  | nil=>exact absurd rfl u
  | cons _ _=>rfl
 refine nY<|bH<|bI ?_
 refine ajd V.ex ?_;refine nV<|bI ?_
 refine aM<|aW<|aL<|ao<|aq rfl<|aB<|g (λt ht=>(V.kb t ht).1) V.len k ?_
 refine nV<|bI ?_
 refine aM<|aW<|cB<|ao<|aL<|ao<|aq rfl<|aB<|g (λt ht=>d.kb _<|Hr.mpr ⟨t,ht,rfl⟩) lu k<|aB ?_
 refine zbX d.kb d.nd λg1 a1 b1 c1=>?_;refine nV<|bI ?_
 refine aM<|aW<|gW (ws:=[]) (λR=>rfl) rfl λg2 a2 b2 c2=>?_
 refine nV<|bI ?_
 have nb:g1.nx=h.nx+1:=c1;refine aM ?_;refine⟨λm σ h'=>∃(f D:List Tm) (s6 M:Option W),σ=[Go<|Ce us,Go<|Ce vs,Go<|J7 ld,Go<|.lst<|vs.map Sy,Go<|.loc h.nx,Go<|.loc g1.nx,s6,M]/\h'.c h.nx=Go (.dct<|Ig D)/\h'.c g1.nx=Go (.lst<|f.map J7)/\(∀n,n<h.nx->h'.c n=h.c n)/\h.nx<=h'.nx/\J f D/\Dc L D/\∀j∈D.map (·.1),(pack j).toNat<m,?_,?_⟩;refine⟨2^200,[],us,JI,JI,rfl,?_,a2,λn S=>?_,by lia,j0,d,λj q=>?_⟩;rw[b2 _ (by lia)];exact a1;rw[b2 n (by lia),b1 n (by lia)];have:=(wk (d.kb j q))
 have p2:(2:Nat)^(16*L)<=2^200:=fM (by decide) (by lia);lia
 ·rintro m σ h' ⟨f,D,s6,M,rfl,s,r,p,kn,T,dc,X⟩;refine ac5 rfl s ?_;cases D with
  | nil=>
   refine nY ?_;unfold uH;refine bI<|bF<|abd rfl r ?_
   rw[<-List.map_reverse];exact⟨λn c S F=>by rw[p n S];exact F,.inl ⟨ZQ _ _,C f T⟩⟩
  | cons d0 D0=>
   generalize l:d0::D0=D at *;have ne:D≠[]:=by rw[<-l];simp
   rw[show(!D.isEmpty)=true by rw[<-l];rfl];refine Hx ?_;refine aM<|aW<|cB<|ao<|aq rfl<|aB<|aa1 s ne λK Y H=>?_
   obtain⟨lD,sK,lf,qn,qd⟩:=U f D K T dc Y H;have v:=dc.kb K Y;refine nV<|bI ?_
   refine aM<|aW<|aL<|ao<|aL<|ao<|aq rfl<|ao<|cB<|ao<|aH<|aq rfl<|aX<|bA (x:=J7 ld) (i:=0) (w:=.tup (ld.1.map .int)) rfl rfl<|aB<|dD (xs:=ld.1.map .int) rfl<|aB ?_
   rw[Bo,a.1.1];refine y v k ?_;refine ao<|aH<|aq rfl<|aq rfl<|aaA s dc Y<|ao<|aq rfl<|aB ?_
   refine A v.1 a.1.1 k a.2.1 sK a.2.2 (λc=>?_) λc1' O=>?_;refine nV<|bI ?_
   refine aM<|bU<|aZ<|aH<|aq rfl<|aX ?_
   refine ajk<|iu<|Hx<|bF<|aX ?_
   exact⟨λn c S F=>by rw[p n S];exact F,.inl ⟨by simp[Lo],qn c⟩⟩;obtain⟨qx,qg⟩:=qd c1' O;refine nV<|bI ?_
   refine aM<|bU<|aZ<|aH<|aq rfl<|aX ?_
   refine acg<|iu<|nY<|bH<|bI ?_
   refine aM<|bU<|aZ<|aH<|cB<|ao<|aq rfl<|aB<|dD (xs:=f.map J7) (iV r)<|aX<|W2<|iu ?_
   rw[Bo];refine sZ (λc6=>jN<|qx (by lia) h' ⟨kn,p⟩) λc6=>bH<|bI ?_
   obtain⟨f0,Z,o,jn⟩:=qg (by lia);have ks:=alk v a.1 O;refine aM<|dG<|dR<|aq rfl<|cL r<|ao<|aq rfl<|aB<|jt r (by rw[Bo];lia) λg3 a3 b3 c3=>bI ?_
   have G:g3.c h.nx=Go (.dct (Ig D)):=by rw[b3 _ (by lia)];exact s
   refine dG<|aL<|ao<|aq rfl<|ao<|aq rfl<|ao<|aL<|ao<|aH<|aq rfl<|aX<|bA (x:=J7 (fP K ld.1,(getM D K).fdiv ld.2)) (i:=0) (w:=.tup ((fP K ld.1).map .int)) rfl rfl<|aB<|B ks k ?_
   refine ao<|aH<|aq rfl<|aX<|bA (x:=J7 (fP K ld.1,(getM D K).fdiv ld.2)) (i:=1) (w:=.int ((getM D K).fdiv ld.2)) rfl rfl<|aB ?_
   refine z G dc (by have:=V.len;lia) ks.1 (λt ht=>⟨(V.kb t ht).1.1,o t ht,(V.kb t ht).2⟩) f0 Z λg4 a4 b4 c4=>bI ?_;have tl:=aec V dc Y H O c1' o;refine⟨(pack K).toNat,X K Y,f++[(fP K ld.1,(getM D K).fdiv ld.2)],_,_,_,rfl,a4,?_,λn S=>?_,by lia,jn,yR dc o,λj q=>?_⟩;rw[b4 _ (by lia),a3,IK];rfl;rw[b4 n (by lia),b3 n (by lia),p n S];have:=tl j q
   have:=(wk ((yR dc o).kb j q)).1
   lia
variable {le:List Int}
def acS (h:k.length=L)(J:le.length=L):d7 (fP k le) le=k:=mZ (by rw[h,J])
def zB (L)(ts):(gK L ts).length=L:=by unfold gK;rw[Bo,List.length_range]
def abH:∀{ns},ns≠[]->mnL ns∈ns/\∀a∈ns,mnL ns<=a
 | a::ns,_=>by
  have e:(a::ns).min?=Go _:=rfl;have:=List.min?_eq_some_iff.mp e
  exact this
def EY (ht:t∈ts)(hi:i<L):(gK L ts).getD i 0<=t.1.getD i 0/\∃u∈ts,(gK L ts).getD i 0=u.1.getD i 0:=by
 obtain⟨h1,h2⟩:=abH (List.ne_nil_of_mem (Hr.mpr ⟨t,ht,rfl⟩));have e:(gK L ts).getD i 0=mnL (ts.map λt=>t.1.getD i 0):=by
  unfold gK;rw[KD,Hf,Zx hi];rfl
 rw[e];refine⟨h2 _<|Hr.mpr ⟨t,ht,rfl⟩,?_⟩;grind
def ab4 {l}(h:k.length=l.length):(fP k l).getD i 0=k.getD i 0-l.getD i 0:=by
 unfold fP;rw[KD,List.getElem?_zipWith];grind
def Km {q:Int}(h:q∈k):∃i,i<k.length/\q=k.getD i 0:=by
 obtain⟨i,hi,e⟩:=Y4.mp h;exact⟨i,hi,by rw[KD,Hw hi,<-e];rfl⟩
structure Lit (L p m:Nat) (us:List Tm) (G:Int) (le:List Int):Prop where
 len:le.length=L
 le0:∀q∈le,0<=q/\q<=(p:Int)
 g0:G≠0
 gs:Sm m G
 low:∀t∈us,∀i,i<L->le.getD i 0<=t.1.getD i 0
 dv:∀t∈us,G ∣ t.2
def Lit.of (a:So L m ss)(U:∃s∈ss,s≠[])(h:∀s∈ss,Mb L m p n s)(hs:s∈ss):Lit L p m s (Jh ss) (gK L ss.flatten):=by
 obtain⟨g0,j,_⟩:=K6 a U;have S:∀t∈s,t∈ss.flatten:=λt ht=>List.mem_flatten.mpr ⟨s,hs,ht⟩
 obtain⟨Y,l,k⟩:=Zu (Bw U);have c:Y∈ss.flatten:=by rw[k];simp
 refine⟨zB ..,λq g=>?_,g0,j,λt ht i hi=>(EY (S t ht) hi).1,λt ht=>?_⟩;obtain⟨i,hi,rfl⟩:=Km g;rw[zB]at hi;obtain⟨u,f,e⟩:=(EY c hi).2;rw[e];obtain⟨b,O,J⟩:=List.mem_flatten.mp f;have w:=((h b O).2.2 u J)
 simp_all
 have d:=U4 t.2 (Hr.mpr ⟨t,S t ht,rfl⟩);unfold Jh;split
 simp_all
 exact d
section
variable {G:Int}(hLt:Lit L p m us G le)
include hLt
def Lit.back (J:Mb L m p n us)(ht:t∈us):d7 le (eV G le t).1=t.1/\G*(eV G le t).2=t.2:=by
 refine⟨?_,?_⟩;show d7 le (fP t.1 le)=t.1;rw[yD];exact acS (J.2.2 t ht).1 hLt.len;obtain⟨q,e⟩:=hLt.dv t ht;show G*t.2.fdiv G=t.2;rw[e,Int.mul_fdiv_cancel_left _ hLt.g0]
def Lit.mb (O:Mb L m p n us):Mb L m p n (us.map (eV G le)):=by
 refine⟨by rw[Bo];exact O.1,?_,λt ht=>?_⟩
 ·rw[Ky,SQ];have s:=O.2.1;rw[SQ]at s;refine Zv (λ{a b} A w c=>?_) s;show fP a.1 le<fP b.1 le;have r:=(O.2.2 a A).1;have q:=(O.2.2 b w).1;have f:∀{x y l:List Int},x.length=l.length->y.length=l.length->x<y->fP x l<fP y l:=λ{x y l} Y U c=>by
   induction l generalizing x y with
   | nil=>rw[VB Y,VB U]at c;exact absurd c (List.lt_irrefl _)
   | cons z l t=>
    match x,y,Y,U with
    | a::x,b::y,Y,U=>
     show(a-z)::fP x l<(b-z)::fP y l;rw[X7]at c|-
     rcases c with c|⟨c,d⟩
     exact .inl<|by lia
     exact .inr ⟨by rw[c],t (by simpa using Y) (by simpa using U) d⟩
  exact f (by rw[r,hLt.len]) (by rw[q,hLt.len]) c
 obtain⟨u,J,rfl⟩:=Hr.mp ht;obtain⟨b1,b2⟩:=hLt.back O J;obtain⟨S,o,g,j⟩:=O.2.2 u J;have h:(eV G le u).1.length=L:=by
  show(fP u.1 le).length=L;rw[pU (by rw[S,hLt.len]),S]
 refine⟨h,λz=>o<|by rw[<-b2,z,Int.mul_zero],?_,λq v=>?_⟩;unfold Sm at *;rw[<-b2,Int.natAbs_mul]at g;have:0<G.natAbs:=Int.natAbs_pos.mpr hLt.g0
 exact Wu (Nat.le_mul_of_pos_left _ this) g;obtain⟨i,hi,rfl⟩:=Km v;rw[h]at hi;have e:(eV G le u).1.getD i 0=u.1.getD i 0-le.getD i 0:=ab4 (by rw[S,hLt.len]);have D:=hLt.low u J i hi;have m1:∀{k:List Int},k.length=L->k.getD i 0∈k:=λ{k} E=>by
  rw[KD,Hw (by lia)];exact QV _
 have C:=hLt.le0 _ (m1 hLt.len);have B:=j _ (m1 S);rw[e];lia
def Lit.wor (O:Mb L m p n us)(xs:List Int):lin (λq=>mo q xs L) us=G*mo le xs L*lin (λq=>mo q xs L) (us.map (eV G le)):=by
 have Y:∀i,0<=le.getD i 0:=λi=>by
  by_cases c:i<le.length
  exact(hLt.le0 _ (by rw[KD,Hw c];exact QV _)).1;rw[KD,List.getElem?_eq_none (by lia)];exact Int.le_refl _
 have U:=hLt.mb O;have S:∀vs:List Tm,(∀t∈vs,t∈us)->lin (λq=>mo q xs L) vs=G*mo le xs L*lin (λq=>mo q xs L) (vs.map (eV G le)):=λvs J=>by
  induction vs with
  | nil=>show(0:Int)=_*0;lia
  | cons t vs b=>
   obtain⟨b1,b2⟩:=hLt.back O (J t (by simp));have a:(eV G le t).1.length=L:=(U.2.2 _ (Hr.mpr ⟨t,J t (by simp),rfl⟩)).1;rw[cG,Hz,cG,b λu O=>J u (Lq _ O),<-b1,Cp (by rw[hLt.len,a]) Y (λi=>U.nn (Hr.mpr ⟨t,J t (by simp),rfl⟩) i) L];conv=>lhs;rw[<-b2]
   grind
 exact S us λ_ ht=>ht
end
variable {G:Int}
def adv {r}(h:Lit L p m us G le)(J:Mb L m p n us):G*lin (dz le r) (us.map (eV G le))=getM us r:=by
 rw[<-Jw (dW J.2.1)];have S:∀vs:List Tm,(∀t∈vs,t∈us)->G*lin (dz le r) (vs.map _)=lin (λk=>if k=r then 1 else 0) vs:=λvs O=>by
  induction vs with
  | nil=>show _*(0:Int)=0;lia
  | cons t vs U=>
   obtain⟨b1,b2⟩:=h.back J (O t (by simp));rw[Hz,cG,cG,Int.mul_add,U λu J=>O u (Lq _ J)];unfold dz;rw[b1];grind
 simp_all
def kb7 (J:Mb L m p n us)(S:p<=6)(ht:t∈us):Kb L t.1:=⟨(J.2.2 t ht).1,λq O=>by have:=(J.2.2 t ht).2.2.2 q O;lia⟩
def akl (B:aeG c0)(l:Lit L p m us G le)(O:Mb L m p n us)(F:L<=8)(a:p<=6)(d:m<=8000)(N:n<=64)(g:us≠[])(q:∀u,Q u h):c0 [Ce us,Ce (us.map (eV G le))] h Q E:=by
 have U:=l.mb O;have Y:=(List.dropLast_concat_getLast g).symm;generalize us.dropLast=o at Y;generalize us.getLast g=t at Y;have b:t∈us:=by rw[Y];simp
 obtain⟨b1,b2⟩:=l.back O b;have mv:eV G le t∈us.map (eV G le):=Hr.mpr ⟨t,b,rfl⟩;have M:Dc L us:=⟨λj C=>by obtain⟨u,J,rfl⟩:=Hr.mp C;exact kb7 O a J,dW O.2.1,λu J=>(O.2.2 u J).2.1⟩
 have z:=by
  have e:fP (d7 le (eV G le t).1) (eV G le t).1=le:=zN (by rw[l.len,(U.2.2 _ mv).1]);rw[b1]at e;exact e
 refine B (ld:=eV G le t) (λf D=>f=[]/\D=us\/f=[(le,G)]/\D=[]) F M (by have:=O.1;lia) (⟨⟨o.map<|eV G le,by rw[Y];simp⟩,λu J=>⟨kb7 U a J,(U.2.2 u J).2.1,(U.2.2 u J).2.2.1.mono d⟩,U.2.1,by have:=U.1;lia⟩) (.inl ⟨rfl,rfl⟩) (λf D K=>?_) λf _=>q _;rintro(⟨rfl,rfl⟩|⟨rfl,rfl⟩) dc i k
 ·have H:K=t.1:=by
   obtain⟨u,J,rfl⟩:=Hr.mp i;rw[Y]at J;rcases Wx.mp J with J|J
   have s:=O.2.1;rw[Y,IK,List.pairwise_append]at s;have j:=s.2.2 u.1 (Hr.mpr ⟨u,J,rfl⟩) t.1 (by simp);have:=(wM (kb7 O a (by rw[Y];exact Ri _ J)) (kb7 O a b)).mp j
   have:=k t.1 (Hr.mpr ⟨t,b,rfl⟩)
   lia;rw[QW.mp J]
  subst H;have x:=(U.2.2 _ mv).2.1;rw[(jM (dW O.2.1) b),z,<-b2,Int.mul_fmod_left,Int.mul_fdiv_cancel _ x,b2];have w:¬Ng le:=λP=>by obtain⟨q,y,j⟩:=P;have:=(l.le0 q y).1;lia
  refine⟨by have:=O.1;lia,(O.2.2 t b).2.2.1.mono d,by simp,λc=>absurd rfl<|c.resolve_right w,λ_ _=>⟨λc=>by simp at c,λ_=>⟨l.g0,l.gs.mono d,λu J=>?_,.inr ⟨rfl,?_⟩⟩⟩⟩;obtain⟨v,S,rfl⟩:=Hr.mp J;rw[(l.back O S).1];exact kb7 O a S
  ·have A:∀u∈D.map (eV G le),Kb L (d7 le u.1):=λu J=>by
    obtain⟨v,S,rfl⟩:=Hr.mp J;rw[(l.back O S).1];exact kb7 O a S
   have dn:=yR (f:=G) dc A;cases I:MJ le G (D.map (eV G le)) D with
   | nil=>rfl
   | cons u r=>
    exfalso;have J:u∈MJ le G (D.map (eV G le)) D:=by rw[I];simp
    have:=jM dn.nd J
    rw[J5,adv l O]at this;exact dn.nz u J<|by lia
 cases i
abbrev Ph (T:List (List Tm)):List Tm:=(T.filter λs=>decide (s≠[])).headD []
def Eb (h:∃s∈T,s≠[]):Ph T∈T/\Ph T≠[]/\(T.filter λs=>decide (s≠[]))[0]?=Go (Ph T):=by
 obtain⟨s,O,n⟩:=h;have J:s∈T.filter λs=>decide (s≠[]):=SJ.mpr ⟨O,by simpa using n⟩
 unfold Ph;generalize e:T.filter _=l at J;cases l with
 | nil=>cases J
 | cons a l=>
  grind
def zbL (f:Tm->Tm):Ph (T.map λs=>s.map f)=(Ph T).map f:=by
 unfold Ph;rw[List.filter_map];have e:((λs=>decide (s≠[])) ∘λs:List Tm=>s.map f)=λs=>decide (s≠[]):=by
  funext s
  simp_all
 rw[e];cases T.filter _<;>rfl
abbrev FsX (c0:Aq):Prop:=∀{h:Gh}{T:List (List Tm)}{Q:WK}{E:Bt},T.length<=6->(∃s∈T,s≠[])->Q (Ce (Ph T)) h->c0 [tW T] h Q E
def Kw:FsX pZ:=by
 intro h T Q E hT J q;refine d8 rfl rfl<|bF<|aH<|K3 rfl (by lia) (λs R O=>jk<|aq rfl<|Jd (Ua _ _) O) ?_
 refine aX<|bA rfl (bB (by rw[Hf,(Eb J).2.2];rfl))<|fV q
abbrev Lk (L:Nat)(k:Fn):Fu->Fu->Prop
 | .t F,.t G=>∀xs,QJ L xs->F xs=sc (k xs) (G xs)
 | .c F,.c G=>∀xs,QJ L xs->F xs=s6 (k xs) (G xs)
 | _,_=>False
abbrev Kn (L:Nat)(k:Fn):Prop:=∀xs,QJ L xs->k xs≠0
abbrev Rp (L:Nat)(us:List Tm):Fn:=λxs=>lin (λq=>mo q xs L) us
def abr {L}{xs}(h:QJ L xs)(k):∀i,i<=L->mo k xs i≠0
 | 0,_=>by show(1:Int)≠0;decide
 | i+1,hi=>by
  refine Xb (abr h k i<|by lia)<|Int.pow_ne_zero ?_
  rw[KD,Hw (by have:=h.1;lia)];exact h.2 _<|QV _
def Z.lit {f}(hz:Z L p c f us)(l:Lit L p (13*c) us G le):Z L p c (Rp L (us.map (eV G le))) (us.map (eV G le))/\∀xs,f xs=Rp L (us.map (eV G le)) xs*(G*mo le xs L):=
 ⟨⟨l.mb hz.m,λ_=>rfl,hz.l2⟩,λxs=>by rw[<-hz.v,l.wor hz.m,Int.mul_comm];rfl⟩
def Tz.mbs {r w:Nat}{F:Fu}(h:Tz L r w F T):1<=T.length/\T.length<=6/\L<=2/\∀s∈T,Mb L (13*(6*w-5)) r 64 s:=by
 have v:=h.v;have J:∀{fs:List Fn}{T:List _},EZ L r (6*w-5) fs T->∀s∈T,Mb L _ r 64 s:=λ{fs T} e=>by
  induction e with
  | nil=>exact λ_ O=>(nomatch O)
  | cons a _ S=>
   intro s O;rcases Kz.mp O with rfl|O
   exact a.m;exact S s O
 cases F with
 | t F=>exact⟨by rw[V3.len v];decide,by rw[V3.len v];decide,V3.l2 v,J (V3.ez v)⟩
 | c F=>
  refine⟨by rw[V6.len v];decide,by rw[V6.len v];decide,?_,J v⟩;cases v with
  | cons a _=>exact a.l2
abbrev aeO (c0:Aq):Prop:=∀{h:Gh}{T:List (List Tm)}{F:Fu}{L r w:Nat}{Q:WK}{E:Bt},Tz L r w F T->r<=6->w<=100->(∃s∈T,s≠[])->(∀J O k u,Tz L r w O J->Lk L k F O->Kn L k->Q (.tup [tW J,u]) h)->c0 [tW T] h Q E
def aju {o A fs}(j:aeG o)(k:LiX A)(U:FsX fs):aeO (uw o A fs):=by
 intro h T F L r w Q E f K W S q;obtain⟨I,i,X,mb⟩:=f.mbs;have m:=f.w1;have p:13*(6*w-5)<=8000:=by lia
 have g:So L (13*(6*w-5)) T:=⟨λs O t ht=>⟨((mb s O).2.2 t ht).1,((mb s O).2.2 t ht).2.1,((mb s O).2.2 t ht).2.2.1⟩,⟨I,i⟩,λs O=>(mb s O).1⟩
 have J:∀s∈T,Lit L r (13*(6*w-5)) s (Jh T) (gK L T.flatten):=λs O=>Lit.of g S mb O
 obtain⟨l,C,_⟩:=Eb S;refine k (by lia) p g S ?_;refine U i S<|ao<|aL<|ao<|aq rfl<|aB ?_
 refine U (T:=LT L T) (by unfold LT;rw[Bo];exact i) (⟨_,Hr.mpr ⟨_,l,rfl⟩,by simpa using C⟩)<|aB ?_
 have e:Ph (LT L T)=(Ph T).map (eV (Jh T) (gK L T.flatten)):=zbL _;rw[e];refine akl j (J _ l) (mb _ l) (by lia) K p (by decide) C λu=>aB<|bR rfl<|fV ?_
 have B:Kn L λxs=>Jh T*mo (gK L T.flatten) xs L:=λxs n=>Xb (K6 g S).1 (abr n _ L (Cm _))
 have v:=f.v;cases F with
 | t F=>
  obtain⟨x,y,z,rfl,a⟩:=v;obtain⟨d,e1⟩:=a.x1.lit (J x (by simp));obtain⟨b,e2⟩:=a.x2.lit (J y (by simp));obtain⟨Y,e3⟩:=a.x3.lit (J z (by simp));exact q _ (.t λxs=>(Rp L _ xs,Rp L _ xs,Rp L _ xs)) _ u ⟨⟨_,_,_,rfl,d,b,Y⟩,m⟩ (λxs _=>QT (e1 xs)<|QT (e2 xs)<|e3 xs) B
 | c F=>
  obtain _|⟨a1,_|⟨a2,_|⟨a3,_|⟨V,_|⟨R,_|⟨P,_|_⟩⟩⟩⟩⟩⟩:=v
  obtain⟨d,e1⟩:=a1.lit (J _ (by simp));obtain⟨b,e2⟩:=a2.lit (J _ (by simp));obtain⟨Y,e3⟩:=a3.lit (J _ (by simp));obtain⟨H,e4⟩:=V.lit (J _ (by simp));obtain⟨G,N⟩:=R.lit (J _ (by simp));obtain⟨D,M⟩:=P.lit (J _ (by simp));exact q _ (.c λxs=>(Rp L _ xs,Rp L _ xs,Rp L _ xs,Rp L _ xs,Rp L _ xs,Rp L _ xs)) _ u ⟨.cons d<|.cons b<|.cons Y<|.cons H<|.cons G<|.cons D .nil,m⟩ (λxs _=>QT (e1 xs)<|QT (e2 xs)<|QT (e3 xs)<|QT (e4 xs)<|QT (N xs)<|M xs) B
inductive Ll (L:Nat):List Fu->List Fu->Prop
 | nil:Ll L [] []
 | cons {F G:Fu}{Fs Gs:List Fu}(k:Fn):Lk L k F G->Kn L k->Ll L Fs Gs->Ll L (F::Fs) (G::Gs)
def Kn.mul {k l}(a:Kn L k)(b:Kn L l):Kn L λxs=>k xs*l xs:=λxs n=>Xb (a xs n) (b xs n)
variable {Gs:List Fu}
def RF.like {o}(h:RF x Fs o)(l:Ll L Fs Gs):∃o' k,RF x Gs o'/\Lk L k o o'/\Kn L k:=by
 cases h with
 | join m=>
  obtain _|@⟨_,a,_,_,k1,S,J,_|@⟨_,Y,_,_,k2,O,U,_|_⟩⟩:=l
  cases a<;>cases Y<;>simp only[Lk]at S O
  exact⟨_,_,.join m,λxs n=>by show Jo _ _=_;rw[S xs n,O xs n,uL],J.mul U⟩
 | curve=>
  obtain _|@⟨_,a,_,_,k1,S,J,_|@⟨_,Y,_,_,k2,O,U,_|@⟨_,d,_,_,k3,c,b,_|@⟨_,q,_,_,j,i,f,_|@⟨_,p,_,_,k5,g,e,_|_⟩⟩⟩⟩⟩:=l
  cases a<;>simp only[Lk]at S
  cases Y<;>simp only[Lk]at O
  cases d<;>simp only[Lk]at c
  cases q<;>simp only[Lk]at i
  cases p<;>simp only[Lk]at g
  refine⟨_,λxs=>k1 xs*k1 xs*k2 xs*k2 xs*k3 xs*k3 xs*j xs*j xs*k5 xs*k5 xs,.curve,λxs n=>by show Jf _ _ _ _ _=_;rw[S xs n,O xs n,c xs n,i xs n,g xs n,ab5],?_⟩;exact(((((((((J.mul J).mul U).mul U).mul b).mul b).mul f).mul f).mul e).mul e)
 | about=>
  obtain _|@⟨_,a,_,_,k1,S,J,_|@⟨_,Y,_,_,k2,O,U,_|_⟩⟩:=l
  cases a<;>cases Y<;>simp only[Lk]at S O
  exact⟨_,_,.about,λxs n=>by show vm _ _=_;rw[S xs n,O xs n,Dm,Yl],J.mul U⟩
 | pole=>
  obtain _|@⟨_,a,_,_,k1,S,J,_|@⟨_,Y,_,_,k2,O,U,_|_⟩⟩:=l
  cases a<;>cases Y<;>simp[Lk]at S O
  exact⟨_,λxs=>k1 xs*k1 xs*k1 xs*k1 xs*k1 xs*k2 xs,.pole,λxs n=>by show Va _ _=_;rw[S xs n,O xs n,abv],((((J.mul J).mul J).mul J).mul J).mul U⟩
 | other=>
  obtain _|@⟨_,a,_,_,k1,S,J,_|@⟨_,Y,_,_,k2,O,U,_|@⟨_,d,_,_,k3,c,b,_|_⟩⟩⟩:=l
  cases a<;>simp only[Lk]at S
  cases Y<;>simp only[Lk]at O
  cases d<;>simp only[Lk]at c
  exact⟨_,λxs=>k1 xs*k2 xs*k3 xs*k3 xs,.other,λxs n=>by show Pq _ _ _=_;rw[S xs n,O xs n,c xs n,aaY],((J.mul U).mul b).mul b⟩
abbrev RW (L:Nat):Fu->Prop
 | .t F=>∀xs,QJ L xs->F xs=(0,0,0)
 | .c F=>∀xs,QJ L xs->F xs=(0,0,0,0,0,0)
def TX {k:Int}(h:k≠0)(p:Tr):sc k p=(0,0,0)↔p=(0,0,0):=by
 obtain⟨a,b,c⟩:=p;simp[sc,Yh,h]
def Tp {k}(h:k≠0)(p):s6 k p=(0,0,0,0,0,0)↔p=(0,0,0,0,0,0):=by
 obtain⟨a,b,c,d,e,f⟩:=p;simp[s6,Yh,h]
def Lk.nou {k}{F G}(h:Lk L k F G)(n:Kn L k):RW L F↔RW L G:=by
 cases F<;>cases G<;>simp[Lk]at h
 exact⟨λz xs m=>(TX (n xs m) _).mp (h xs m ▸ z xs m),λz xs m=>by rw[h xs m];exact(TX (n xs m) _).mpr (z xs m)⟩;exact⟨λz xs m=>(Tp (n xs m) _).mp (h xs m ▸ z xs m),λz xs m=>by rw[h xs m];exact(Tp (n xs m) _).mpr (z xs m)⟩
def Z.nou {f}(h:Z L p c f us)(J:p<=6):us=[]↔∀xs,QJ L xs->f xs=0:=
 ⟨λe xs _=>by rw[<-h.v,e];rfl,h.van J⟩
def EZ.nou {L p c}{fs}{T}(h:EZ L p c fs T)(O:p<=6):(∀s∈T,s=[])↔∀f∈fs,∀xs,QJ L xs->f xs=0:=by
 induction h with
 | nil=>simp
 | cons a _ J=>
  rw[jT,jT,J,a.nou O]
def Tz.nou {L r w F}{T}(h:Tz L r w F T)(J:r<=6):(∀s∈T,s=[])↔RW L F:=by
 have v:=h.v;cases F with
 | t F=>
  rw[(V3.ez v).nou J];simp only[fs3,jT,V4,false_implies,implies_true,and_true];exact⟨λg xs n=>by obtain⟨a,b,c⟩:=g;exact QT (a xs n)<|QT (b xs n)<|c xs n,λz=>⟨λxs n=>by rw[z xs n],λxs n=>by rw[z xs n],λxs n=>by rw[z xs n]⟩⟩
 | c F=>
  rw[EZ.nou v J];simp only[fs6,jT,V4,false_implies,implies_true,and_true];exact⟨λi xs n=>by obtain⟨a,b,c,d,e,f⟩:=i;exact QT (a xs n)<|QT (b xs n)<|QT (c xs n)<|QT (d xs n)<|QT (e xs n)<|f xs n,λz=>⟨λxs n=>by rw[z xs n],λxs n=>by rw[z xs n],λxs n=>by rw[z xs n],λxs n=>by rw[z xs n],λxs n=>by rw[z xs n],λxs n=>by rw[z xs n]⟩⟩
abbrev RT (L:Nat):List Fu->Prop
 | [.c F,.t G,_]=>∀xs,QJ L xs->Qv (F xs) (G xs) (G xs)=0
 | _=>True
def Ll.tie {o}(l:Ll L Fs Gs)(c:RF "other" Fs o):RT L Fs↔RT L Gs:=by
 cases c with
 | join h=>rcases h with h|h<;>exact nomatch h
 | other=>
  obtain _|@⟨_,j,_,_,k1,O,U,_|@⟨_,i,_,_,k2,J,S,_|@⟨_,r,_,_,k3,m,k,_|_⟩⟩⟩:=l
  cases j<;>simp[Lk]at O
  cases i<;>simp[Lk]at J
  have e:∀{C D:C6}{p q:Tr}{a b:Int},a≠0->b≠0->C=s6 a D->p=sc b q->(Qv C p p=0↔Qv D q q=0):=λ{C D p q a b} g Y f d=>by
   subst f d;rw[K1,Yh,or_iff_left (Xb (Xb g Y) Y)]
  exact⟨λz xs n=>(e (U xs n) (S xs n) (O xs n)<|J xs n).mp (z xs n),λz xs n=>(e (U xs n) (S xs n) (O xs n)<|J xs n).mpr (z xs n)⟩
abbrev TiX (c0:Aq):Prop:=∀{h:Gh}{rw tv:W}{O J:List W}{k:Nat}{js:List Nat}{Ts:List (List (List Tm))}{Fs:List Fu}{o:Fu}{L:Nat}{rs ws:List Nat}{Q:WK}{E:Bt},view h rw=Go O->O[k]?=Go (.tup (.str "other"::js.map λj:Nat=>W.int (j:Int)))->view h tv=Go J ->
 js.map (λj=>J[j]?)=Ts.map (λT=>Go (tW T))->Tl L rs ws Fs Ts->RF "other" Fs o->rc "other" rs<=6->rc "other" ws<=100->(∀e,(e=[]↔RT L Fs)->Q (Ce e) h)->c0 [rw,tv,.int (k:Int)] h Q E
def aeC {ta f}(S:Ta2 ta)(U:Bo2 f):TiX (adb ta f):=by
 intro h rw tv l g k js Ts Fs o L rs ws Q E Y d J O tl m t s q;cases m with
 | join h=>rcases h with h|h<;>exact absurd h (by decide)
 | other=>
  obtain _|⟨a1,_|⟨a2,_|⟨a3,_|_⟩⟩⟩:=tl
  have e:∀a b c:Nat,rc "other" [a,b,c]=a+2*b+2*c:=λ_ _ _=>rfl
  rw[e]at t s;have n:js.length=3:=by have:=congrArg Rb O;simpa using this
  match js,n,O with
  | [r,p,v],_,O=>
   simp at O;obtain⟨j,i,_⟩:=O;refine d8 rfl (σ:=[Go rw,Go tv,Go<|.int (k:Int),JI]) rfl<|aM<|aW ?_
   refine aH<|aq rfl<|aH<|aH<|aq rfl<|aq rfl<|bA Y (bB d)<|aX<|bA (w:=.int (p:Int)) rfl rfl<|bA J (bB i) ?_
   refine nV<|bI<|bF<|aL<|ao<|aL<|ao ?_
   refine aH<|aq rfl<|aH<|aH<|aq rfl<|aq rfl<|bA Y (bB d)<|aX<|bA (w:=.int (r:Int)) rfl rfl<|bA J (bB j)<|aB ?_
   refine S a1.v (by lia) (by lia) λA B C u=>ao<|aq rfl<|ao<|aq rfl<|aB ?_
   exact U u a2.v a2.v (by lia) (by lia) λe z=>fV<|q e<|z.nou<|by lia
abbrev frB:W->Bool
 | .tup (.str s::_)=>s == "free"
 | _=>false
abbrev RowW (w:W):Prop:=∃s r,w=.tup (.str s::r)
abbrev Jc (ws:List W):List Nat:=(Le ws.length).filter λj=>frB (ws.getD j .non)
abbrev fC (ws:List W):List Int:=(Jc ws).map λj=>((j:Nat):Int)
def ahk (ws):(Jc ws).Nodup:=List.Pairwise.filter _ List.nodup_range
abbrev nF (c0:Aq):Prop:=∀{h:Gh}{ws:List W}{Q:WK}{E:Bt},ws.length<=100->(∀w∈ws,RowW w)->Q (.lst ((fC ws).map .int)) h->c0 [.lst ws] h Q E
def rR:nF su:=by
 intro h ws Q E a U q;show Ht JL [0] (iy (aj (HN Ho _) aG)) _ (aA 0) [Go (.lst ws)] h _;refine Uz (λ_=>rfl) (by lia) (by lia) (HW (show(ws.length:Int).toNat<=100 by lia)<|by decide) (λi acc h'=>h'=h/\acc=(((Le i).filter λj=>frB<|ws.getD j .non).map λj=>((j:Nat):Int)).map W.int) ?_ ?_ ⟨rfl,rfl⟩
 ·rintro i acc h' N J Y ⟨rfl,rfl⟩;have hi:i<ws.length:=by lia
  refine⟨[.int (i:Int)],rfl,?_⟩;obtain⟨s,r,O⟩:=U ws[i] (QV hi);have S:frB (ws.getD i .non)=(s == "free"):=by
   rw[KD,Hw hi];rw[O];rfl
  show(match Mj ws _ with
   | some w=>_
   | none=>False)
  rw[(bB (Hw hi)),O];show(match Mj (W.str s::r) ((0:Nat):Int)with
   | some w=>_
   | none=>False)
  rw[(bB rfl)];show JC _ _ (N _ h');rw[ajs];cases es:(s == "free")with
  | true=>
   refine W9 rfl<|J _ _ ⟨rfl,?_⟩
   rw[Xx,Za,SN,S,es];simp
  | false=>
   refine aer rfl<|J _ _ ⟨rfl,?_⟩
   rw[Xx,Za,SN,S,es];simp
 rintro acc h' ⟨rfl,rfl⟩;exact q
abbrev U5 (ps:List Int):Int:=2*(if 0>(ps.length:Int)-4 then 0 else(ps.length:Int)-4)
abbrev qX (c0:Aq):Prop:=∀{h:Gh}{ws:List W}{Q:WK}{E:Bt},ws.length<=100->(∀w∈ws,RowW w)->Q (.int (U5 (fC ws))) h->c0 [.lst ws] h Q E
def zar (ws):(fC ws).length<=ws.length:=by
 unfold fC Jc;grind
def w_count {J}(O:nF J):qX (kJ J):=by
 intro h ws Q E Y U q;have:=zar ws
 refine O Y U ?_;have S:(((fC ws).map W.int).length:Int)=(fC ws).length:=by rw[Bo]
 refine And.intro (.of (n:=20) (.lit rfl) (MP (by split<;>omega) (by split<;>lia)) (by decide)<|by decide) ?_
 rwa[S]
abbrev zs (L:Int):List Int:=J4 L.toNat 0
abbrev w6 (n L:Int):W:=if n=0 then .tup []else .tup [.tup [.tup ((zs L).map .int),.int n]]
abbrev agt (l L:Int):List Int:=(Le L.toNat).map λ(i:Nat)=>if(i:Int)=l then 1 else 0
abbrev Z9 (l L:Int):W:=.tup [.tup [.tup ((agt l L).map .int),.int 1]]
def ahC (k):(J4 k [W.int 0]).flatten=(J4 k (0)).map W.int:=by simp_all
abbrev QB (c0:Aq):Prop:=∀{h:Gh}{n L:Int}{Q:WK}{E:Bt},0<=L->L<=100->Q (w6 n L) h->c0 [.int n,.int L] h Q E
def aeW:QB pB:=by
 intro h n L Q E J O q;show br _ _ _;rw[nG];by_cases e:n=0
 refine nA (by simp[e]) ?_;unfold w6 at q
 rwa[if_pos e]at q
 refine tU (by simp[e]) ?_;unfold w6 at q;rw[if_neg e]at q;refine And.intro ⟨J,by lia,by show 1*L.toNat<=1000;lia⟩ ?_
 rwa[ahC]
abbrev abl (c0:Aq):Prop:=∀{h:Gh}{l L:Int}{Q:WK}{E:Bt},0<=L->L<=100->Q (Z9 l L) h->c0 [.int l,.int L] h Q E
def adU:abl oV:=by
 intro h l L Q E U S q;show Ht JL [0] (iy (aj (aA 1) aG)) jx _ [Go _,Go (.int L)] h _;refine Uz (λ_=>rfl) (by lia) (by lia) (HW (show _<=100 by lia)<|by decide) (λi acc h'=>h'=h/\acc=((Le i).map λ(i:Nat)=>if(i:Int)=l then(1:Int)else 0).map W.int) ?_ ?_ ⟨rfl,rfl⟩;rintro i acc h' N J O ⟨rfl,rfl⟩;refine⟨[.int _],rfl,?_⟩;show br _ _ _;rw[nG];by_cases e:(i:Int)=l
 refine tU (by simp[e])<|J _ _ ⟨rfl,?_⟩
 rw[Xx];simp[e];refine nA (by simp[e])<|J _ _ ⟨rfl,?_⟩
 rw[Xx];simp[e];rintro acc h' ⟨rfl,rfl⟩;exact q
abbrev Ud (at':Nat)(L:Int):W:=match at' with
 | 0=>.tup [w6 0 L,w6 0 L,w6 1 L]
 | 1=>.tup [w6 1 L,w6 0 L,w6 1 L]
 | 2=>.tup [w6 0 L,w6 1 L,w6 1 L]
 | 3=>.tup [w6 1 L,w6 1 L,w6 1 L]
 | n+4=>.tup [Z9 (2*(n:Int)) L,Z9 (2*(n:Int)+1) L,w6 1 L]
abbrev wN (c0:Aq):Prop:=∀{h:Gh}{ws:List W}{J:Nat}{k:Int}{Q:WK}{E:Bt},ws.length<=100->(∀w∈ws,RowW w)->(fC ws).length<=6->(fC ws)[J]?=Go k->Q (Ud J (U5 (fC ws))) h->c0 [.lst ws,.int k] h Q E
def zau {J:Nat}{k:Int}(h:(fC ws)[J]?=Go k):∀m,m<J->(fC ws)[m]?≠Go k:=by
 intro m U e;unfold fC at h e;rw[Hf]at h e;cases h1:(Jc ws)[J]? with
 | none=>rw[h1]at h;cases h
 | some a=>
  cases h2:(Jc ws)[m]? with
  | none=>rw[h2]at e;cases e
  | some b=>
   rw[h1]at h;rw[h2]at e;have c:((a:Nat):Int)=k:=IV h;have Y:((b:Nat):Int)=k:=IV e;have S:=(Lx.mp h1)
   have O:=(Lx.mp h2)
   have:=List.pairwise_iff_getElem.mp (ahk ws) m J O.1 S.1 U
   lia
def alX {ps}(h:ps.length<=6):0<=U5 ps/\U5 ps<=100:=by
 unfold U5;omega
def ajg {c nm d ct}(f:nF c)(J:QB nm)(b:abl d)(g:qX ct):wN (o8 nm d c ct):=by
 intro h ws Y k Q E j i l U q;obtain⟨S,O⟩:=alX l;have a:Y<7:=by have:=(Lx.mp U).1;lia
 refine g j i ?_;refine f j i ?_;refine⟨fC ws,Y,rfl,U,zau U,?_⟩;generalize U5 (fC ws)=L at *;match Y,a,q with
 | 0,_,q=>
  refine tU (by decide) ?_;refine J S O ?_;refine J S O ?_;exact J S O q
 | 1,_,q=>
  refine tU (by decide) ?_;refine J S O ?_;show nm [.int 0,.int L] h _ _;refine J S O ?_;show nm [.int 1,.int L] h _ _;exact J S O q
 | 2,_,q=>
  refine tU (by decide) ?_;show nm [.int 0,.int L] h _ _;refine J S O ?_;show nm [.int 1,.int L] h _ _;refine J S O ?_;show nm [.int 1,.int L] h _ _;exact J S O q
 | 3,_,q=>
  refine tU (by decide) ?_;show nm [.int 1,.int L] h _ _;refine J S O ?_;show nm [.int 1,.int L] h _ _;refine J S O ?_;show nm [.int 1,.int L] h _ _;exact J S O q
 | n+4,o,q=>
  refine nA (decide_eq_false<|by lia) ?_;have e:((n+4:Nat):Int)-4=n:=by lia
  refine And.intro (.of (m:=64) (n:=10) (.lit rfl) (MP (by lia)<|by lia) (by decide)<|by decide) ?_;show d [.int (2*(((n+4:Nat):Int)-4)),.int L] h _ _;rw[e];refine b S O ?_;show d [.int (2*(n:Int)+1),.int L] h _ _;refine b S O ?_;show nm [.int 1,.int L] h _ _;exact J S O q
structure FR (f:Nat) (ws:List W):Prop where
 len:ws.length<=100
 row:∀w∈ws,RowW w
 le:f<=ws.length
 iff:∀j,j<ws.length->(frB (ws.getD j .non)=true↔j<f)
variable {f:Nat}
def FR.frN (h:FR f ws):Jc ws=Le f:=by
 have J:∀n,f<=n->(Le n).filter (λj=>decide (j<f))=Le f:=λn S=>by
  induction n with
  | zero=>rw[Nat.le_zero.mp S];rfl
  | succ n U=>
   rw[Xx,Za];by_cases c:f=n+1
   rw[(List.filter_eq_self.mpr λj O=>by have:=Xa.mp O;simp;lia),c,Xx];simp;grind
 rw[<-J _ h.le];refine List.filter_congr λj O=>?_;have:=h.iff j (Xa.mp O)
 lia
def FR.ix (h:FR f ws):fC ws=(Le f).map λj=>((j:Nat):Int):=by unfold fC;rw[h.frN]
def FR.let (h:FR f ws)(J:f=4\/f=5):U5 (fC ws)=((2*(f-4):Nat):Int):=by
 unfold U5;rw[h.ix];grind
abbrev Uk:Nat->Fu
 | 0=>.t λ_=>(0,0,1)
 | 1=>.t λ_=>(1,0,1)
 | 2=>.t λ_=>(0,1,1)
 | 3=>.t λ_=>(1,1,1)
 | _=>.t λxs=>(xs.getD 0 0,xs.getD 1 0,1)
def U3 (U:L=0\/L=2)(n)(S:n=0\/n=1):∃us,w6 n (L)=Ce us/\∀r,Z L r 1 (λ_=>n) us:=by
 have J:L<=2:=by lia
 rcases S with rfl|rfl
 exact⟨[],rfl,λr=>Z.nil J r 1⟩;refine⟨[(zs L,1)],rfl,λr=>⟨⟨by simp,by simp,λt ht=>?_⟩,λxs=>?_,J⟩⟩;rw[QW.mp ht];refine⟨by unfold zs;rw[W7];lia,by show(1:Int)≠0;decide,by show(1:Int).natAbs<_;decide,λq O=>?_⟩;rw[List.eq_of_mem_replicate O];lia;rcases U with rfl|rfl
 rfl;show 1*xs.getD 0 0^0*xs.getD 1 0^0*1+0=1;simp_all
def Vn {l:Nat}(S:l<2):∃us,Z9 (l) 2=Ce us/\∀r,1<=r->Z 2 r 1 (λxs=>xs.getD l 0) us:=by
 match l,S with
 | 0,_=>
  refine⟨[([1,0],1)],rfl,λr J=>⟨⟨by decide,by simp,λt ht=>?_⟩,λxs=>?_,by decide⟩⟩;rw[QW.mp ht];refine⟨rfl,by decide,by unfold Sm;decide,λq O=>?_⟩;grind
  show 1*xs.getD 0 0^1*xs.getD 1 0^0*1+0=xs.getD 0 0;grind
 | 1,_=>
  refine⟨[([0,1],1)],rfl,λr J=>⟨⟨by decide,by simp,λt ht=>?_⟩,λxs=>?_,by decide⟩⟩;rw[QW.mp ht];refine⟨rfl,by decide,by unfold Sm;decide,λq O=>?_⟩;grind
  show 1*xs.getD 0 0^0*xs.getD 1 0^1*1+0=xs.getD 1 0;rw[Int.pow_zero,Int.pow_succ,Int.pow_zero];lia
def akI {k}(j:f=4\/f=5)(Y:k<f):∃T,Ud k ((2*(f-4):Nat):Int)=tW T/\Tz (2*(f-4)) (if k<4 then 0 else 1) 1 (Uk k) T:=by
 have d:2*(f-4)=0\/2*(f-4)=2:=by lia
 obtain⟨U,c,S⟩:=U3 d 0 (.inl rfl);obtain⟨O,e1,J⟩:=U3 d 1 (.inr rfl);match k,Y with
 | 0,_=>exact⟨[U,U,O],by show W.tup [_,_,_]=_;rw[c,e1];rfl,⟨⟨_,_,_,rfl,S 0,S 0,J 0⟩,Cm _⟩⟩
 | 1,_=>exact⟨[O,U,O],by show W.tup [_,_,_]=_;rw[c,e1];rfl,⟨⟨_,_,_,rfl,J 0,S 0,J 0⟩,Cm _⟩⟩
 | 2,_=>exact⟨[U,O,O],by show W.tup [_,_,_]=_;rw[c,e1];rfl,⟨_,_,_,rfl,S 0,J 0,J 0⟩,Cm _⟩
 | 3,_=>exact⟨[O,O,O],by show W.tup [_,_,_]=_;rw[e1];rfl,⟨⟨_,_,_,rfl,J 0,J 0,J 0⟩,Cm _⟩⟩
 | 4,Y=>
  obtain rfl:f=5:=by lia
  obtain⟨a,i,g⟩:=Vn (l:=0) (by decide);obtain⟨b,h,e⟩:=Vn (l:=1) (by decide);exact⟨[a,b,O],by show W.tup [Z9 ((0:Nat):Int) 2,Z9 ((1:Nat):Int) 2,w6 1 _]=_;rw[i,h,e1];rfl,⟨_,_,_,rfl,g 1<|Cm _,e 1<|Cm _,J 1⟩,Cm _⟩
 | n+5,Y=>lia
abbrev FtX (c0:Aq):Prop:=∀{h:Gh}{ws:List W}{f k:Nat}{Q:WK}{E:Bt},FR f ws->f=4\/f=5->k<f->(∀T,Tz (2*(f-4)) (if k<4 then 0 else 1) 1 (Uk k) T->Q (tW T) h)->c0 [.lst ws,.int (k:Int)] h Q E
def wN.ft (U:wN c0):FtX c0:=by
 intro h ws f k Q E J O S q;obtain⟨T,e,z⟩:=akI O S;refine U J.len J.row (by rw[J.ix,Bo,List.length_range];lia) (by rw[J.ix,Hf,Zx S];rfl) ?_;rw[J.let O,e];exact q T z
abbrev LcX (c0:Aq):Prop:=∀{h:Gh}{ws:List W}{f:Nat}{Q:WK}{E:Bt},FR f ws->f=4\/f=5->Q (.int ((2*(f-4):Nat):Int)) h->c0 [.lst ws] h Q E
def qX.lc (S:qX c0):LcX c0:=by
 intro h ws f Q E J O q;exact S J.len J.row<|J.let O ▸ q
abbrev d0:Fu:=.t λ_=>(0,0,0)
@[reducible]noncomputable def atF (Fs:List Fu)(j:Nat):Fu:=Fs.getD j d0
@[reducible]noncomputable def Hl (l:List Nat)(j:Nat):Nat:=l.getD j 0
@[reducible]noncomputable def JX:=Str×List Nat
abbrev G4 (r:JX):W:=.tup (.str r.1::r.2.map λj:Nat=>W.int (j:Int))
inductive Qe (f:Nat) (R:List JX) (Fs:List Fu) (rs ws:List Nat) (k:Nat):Prop
 | free:k<f->R[k]?=Go (("free" : Str),([]:List Nat))->atF Fs k=Uk k->Hl rs k=(if k<4 then 0 else 1)->Hl ws k=1->Qe f R Fs rs ws k
 | made {x:Str}{js:List Nat}:f<=k->R[k]?=Go (x,js)->x ≠ "free"->(∀j∈js,j<k)->RF x (js.map (atF Fs)) (atF Fs k)->Rd (2*(f-4)) x (js.map (Hl rs)) (js.map (atF Fs)) (Hl rs k)->Hl ws k=rc x (js.map (Hl ws))->Hl ws k<=100->(x = "other"->rc x (js.map (Hl rs))<=6)->Qe f R Fs rs ws k
abbrev Dn (L:Nat)(R:List JX)(Fs:List Fu)(k:Nat):Prop:=¬RW L (atF Fs k)/\∀js:List Nat,R[k]?=Go (("other" : Str),js)->RT L (js.map (atF Fs))
structure SX (L:Nat) (Fs:List Fu) (rs ws:List Nat) (k:Nat) (Gs:List Fu) (Ts:List (List (List Tm))):Prop where
 lg:Gs.length=k
 lt:Ts.length=k
 tz:∀j,j<k->Tz L (Hl rs j) (Hl ws j) (atF Gs j) (Ts.getD j [])
 r7:∀j,j<k->Hl rs j<=6
 lk:∀j,j<k->∃q,Lk L q (atF Fs j) (atF Gs j)/\Kn L q
variable {Ts:List (List (List Tm))}
def SX.tl {L k}{Fs Gs}{rs ws}{Ts}(s:SX L Fs rs ws k Gs Ts):∀{js:List Nat},(∀j∈js,j<k)->Tl L (js.map (Hl rs)) (js.map (Hl ws)) (js.map (atF Gs)) (js.map λj=>Ts.getD j [])
 | [],_=>.nil
 | j::js,h=>.cons (s.tz j (h j (by simp))) (s.tl λi hi=>h i (Lq _ hi))
def SX.ll {L k}{Fs Gs}{rs ws}{Ts}(s:SX L Fs rs ws k Gs Ts):∀{js:List Nat},(∀j∈js,j<k)->Ll L (js.map (atF Fs)) (js.map (atF Gs))
 | [],_=>.nil
 | j::js,h=>by
  obtain⟨q,a,b⟩:=s.lk j (h j (by simp));exact .cons q a b<|s.ll λi hi=>h i<|Lq _ hi
def cR {J:Type}{l}{a d:J}(h:j<l.length):(l++[a]).getD j d=l.getD j d:=by grind
def cj {J:Type}{l}{a d:J}(h:j=l.length):(l++[a]).getD j d=a:=by
 rw[KD,V7 (by lia),h,Nat.sub_self];rfl
def SX.snoc {k}{ws}(s:SX L Fs rs ws k Gs Ts){G q}(S:Tz L (Hl rs k) (Hl ws k) G T)(U:Hl rs k<=6)(Y:Lk L q (atF Fs k) G)(O:Kn L q):SX L Fs rs ws (k+1) (Gs++[G]) (Ts++[T]):=by
 refine⟨by rw[JK,s.lg];rfl,by rw[JK,s.lt];rfl,λj J=>?_,λj J=>?_,λj J=>?_⟩;by_cases c:j<k
 show Tz L _ _ ((Gs++[G]).getD j d0) _;rw[cR (s.lg ▸ c),cR (s.lt ▸ c)];exact s.tz j c;have e:j=k:=by lia
 subst e;show Tz L _ _ ((Gs++[G]).getD j d0) _
 rwa[cj s.lg.symm,cj s.lt.symm]
 by_cases c:j<k
 exact s.r7 j c;grind
 by_cases c:j<k
 show ∃q,Lk L q _ ((Gs++[G]).getD j d0)/\_
 exact cR (s.lg ▸ c) ▸ s.lk j c;have e:j=k:=by lia
 subst e;refine⟨q,?_,O⟩;show Lk L q _ ((Gs++[G]).getD j d0)
 rwa[cj s.lg.symm]
def Lk.one (L)(F):Lk L (λ_=>1) F F:=by
 cases F with
 | t F=>exact λxs _=>by simp[sc]
 | c F=>exact λxs _=>by simp[s6]
def alv {k}(h:k<f)(O:f<=5):¬RW L (Uk k):=λz=>by
 have J:QJ L (J4 L 1):=⟨W7 ..,λx J=>by rw[List.eq_of_mem_replicate J];decide⟩
 match k,h with
 | 0,_=>exact absurd (show((0,0,1):Tr)=(0,0,0)from z _ J) (by decide)
 | 1,_=>exact absurd (show((1,0,1):Tr)=(0,0,0)from z _ J) (by decide)
 | 2,_=>exact absurd (show((0,1,1):Tr)=(0,0,0)from z _ J) (by decide)
 | 3,_=>exact absurd (show((1,1,1):Tr)=(0,0,0)from z _ J) (by decide)
 | n+4,_=>
  have:=z _ J
  simp_all
def ahr {f:Str}{ma:ME}{D:bN}(k:ma σ h λw h1=>E ⟨x,[(f,w)]⟩ h1):vH x f ma E D σ h:=k
def Bv (q:Q (.bl (decide (s≠[]))) h)(J:Hq 30 (Ce s)=true):Q8 (Ce s) (.tup []) h Q:=by
 show JC _ _ False;rw[J];have:(!Hv (Ce s) (.tup []))=decide (s≠[]):=by
  cases s with
  | nil|cons t s=>rfl
 rwa[this]
def Mx (s):Hq 30 (Ce s)=true:=by
 show(s.map J7).all _=true;rw[List.all_map,Xc];intro t _;have e:(t.1.map W.int).all (Hq 27)=true:=by
  rw[List.all_map,Xc];intro _ _;rfl
 show((t.1.map _).all _&&_)=true;rw[e];rfl
abbrev RrX (c0:Aq):Prop:=∀{h:Gh}{rw tv:W}{O J:List W}{k:Nat}{x:Str}{js:List Nat}{Ts:List (List (List Tm))}{Fs:List Fu}{o:Fu}{L P:Nat}{rs ws:List Nat}{Q:WK}{E:Bt},view h rw=Go O->O[k]?=Go (G4 (x,js))->view h tv=Go J ->
 js.map (λj=>J[j]?)=Ts.map (λT=>Go (tW T))->Tl L rs ws Fs Ts->RF x Fs o->Rd L x rs Fs P->(x = "other"->rc x rs<=6)->rc x ws<=100->(x = "other"->¬RT L Fs->E ⟨"Tied",[("at",.int (k:Int))]⟩ h)->((x = "other"->RT L Fs)->∀R,Tz L P (rc x ws) o R->Q (tW R) h)->c0 [rw,tv,.int (k:Int)] h Q E
def aas {O}(U:RaX O)(S:TiX ti):RrX (Ab O ti):=by
 intro h rw tv j i k x js Ts Fs o L P rs ws Q E Y a J g tl b r p m l q;refine d8 rfl rfl<|aM<|bU<|Gg<|aZ ?_
 refine aH<|aH<|aH<|aq rfl<|aq rfl<|bA Y (bB a)<|aX<|bA (ws:=.str x::js.map λj:Nat=>W.int _) rfl ou<|aX<|eY<|iu ?_
 have f:(x = "other"->RT L Fs)->(sH O ti E) {nx:=λx h'=>jy false h W.non h' Q,rt:=λw h'=>jy false h w h' Q} [Go rw,Go tv,Go _] h:=λht=>by
  exact U (x:=x) Y a J g tl b r (by lia) λR z=>fV<|q ht R z
 by_cases c:x = "other"
 subst c;refine tU (by decide)<|aZ<|aH<|aL<|ao<|aq rfl<|ao<|aq rfl<|ao<|aq rfl<|aB ?_
 refine S Y a J g tl b (p rfl) m λe d=>cZ<|aB<|bR rfl<|Bv (iu ?_)<|Mx e
 refine sZ (λn=>ahr<|aq rfl<|l rfl λt=>n<|d.mpr t) λn=>bH<|bI<|f λ_=>d.mp<|Decidable.not_not.mp n
 refine nA (decide_eq_false c)<|nY<|bH<|bI<|f λe=>absurd e c
def Ln:∀R:List (List Tm),yL (R.map Ce)=Go (R.map λs=>s.map J7)
 | []=>rfl
 | s::R=>by
  show(yL _).map _=_;rw[Ln R];rfl
def abO {R}(q:Q (.bl (R.any λs=>!s.isEmpty)) h):RN [tW R] h Q:=by
 show(match yL _ with
  | some ks=>Q _ h
  | none=>False)
 rw[Ln];dsimp only;rw[List.any_map];have e:((λk:List W=>!k.isEmpty) ∘λs:List Tm=>s.map J7)=λs=>!s.isEmpty:=by
  funext s
  simp_all
 rwa[e]
def K9 {R:List (List Tm)}:(R.any λs=>!s.isEmpty)=false↔∀s∈R,s=[]:=by simp_all
abbrev Ent (Ts:List (List (List Tm)))(es:List W):Prop:=es.length=Ts.length/\∀j,j<Ts.length->∃u,es[j]?=Go (.tup [tW (Ts.getD j []),u])
def Ent.snoc {es}(e:Ent Ts es)(T)(u):Ent (Ts++[T]) (es++[.tup [tW T,u]]):=by
 refine⟨by rw[JK,JK,e.1];rfl,λj O=>?_⟩;by_cases c:j<Ts.length
 rw[cR c,QF (e.1 ▸ c)];exact e.2 j c;have J:j=Ts.length:=by simp at O;lia
 rw[cj J,V7 (by rw[e.1];lia),J,e.1,Nat.sub_self];exact⟨u,rfl⟩
def RF.det_ok {o}(a:RF x Fs o)(l:Ll L Fs Gs)(h:∀F G,Fs=[.c F,.t G]->∀xs,QJ L xs->det (xO (F xs))=0):∀F G,Gs=[.c F,.t G]->∀xs,QJ L xs->det (xO (F xs))=0:=by
 rintro F G rfl xs n;obtain _|@⟨Y,_,_,_,k1,J,O,_|@⟨U,_,_,_,k2,S,b,_|_⟩⟩:=l
 cases Y<;>cases U<;>simp[Lk]at J S
 have:=h _ _ rfl xs n
 rw[J xs n,Dm,Tt]at this;have k0:=O xs n;exact(Yh.mp this).resolve_right (Xb (Xb k0 k0) k0)
def Lk.trans {k l}{F G H}(a:Lk L k F G)(b:Lk L l G H):Lk L (λxs=>k xs*l xs) F H:=by
 cases F<;>cases G<;>simp[Lk]at a<;>cases H<;>simp[Lk]at b
 exact λxs n=>by rw[a xs n,b xs n,qH,Int.mul_comm]
 exact λxs n=>by rw[a xs n,b xs n,Sq,Int.mul_comm]
abbrev DeX (c0:Aq):Prop:=∀{h:Gh}{R:List JX}{J:W}{f m:Nat}{Fs:List Fu}{rs ws:List Nat}{x:Str}{js:List Nat}{Q:WK}{E:Bt},FR f (R.map G4)->f=4\/f=5->(∀k,k<=m->Qe f R Fs rs ws k)->(∀k,k<m->f<=k->Dn (2*(f-4)) R Fs k)->f<=m->R[m]?=Go (x,js) ->
 (x = "other"->¬RT (2*(f-4)) (js.map (atF Fs))->∀h':Gh,E ⟨"Tied",[("at",.int (m:Int))]⟩ h') ->
 ((x = "other"->RT (2*(f-4)) (js.map (atF Fs)))->RW (2*(f-4)) (atF Fs m)/\Q (.tup [.str "never",.int (m:Int)]) h)->c0 [.lst (R.map G4),J] h Q E
inductive DI (m f:Nat)(R:List JX)(cl:W)(Fs:List Fu)(rs ws:List Nat)(h:Gh)(P M i:Nat)(h':Gh):Sw->Prop
 | mk (s4 s5:Option W)(Gs:List Fu)(Ts:List (List (List Tm)))(es ms:List W):i<=m->h'.c P=Go (.lst es)->h'.c M=Go (.lst ms)->ms.length<=i->Ent Ts es->SX (2*(f-4)) Fs rs ws i Gs Ts->h.nx<=h'.nx->(∀n,n<h.nx->h'.c n=h.c n)->DI m f R cl Fs rs ws h P M i h' [Go<|.lst<|R.map G4,Go cl,Go<|.loc P,Go<|.loc M,s4,s5]
def zaU {nm lc ft fs en rr an}(hnm:QB nm)(hlc:LcX lc)(hft:FtX ft)(hfs:FsX fs)(hen:aeO en)(hrr:RrX rr):DeX (z7 nm lc ft fs en rr an):=by
 intro h R cl f m Fs rs ws x js Q E hF h45 rows done hm em qt qn;have lR:R.length<=100:=by have:=hF.len;rwa[Bo]at this
 have mR:m<R.length:=(Lx.mp em).1;refine mJ rfl (σ:=[Go<|.lst<|R.map G4,Go cl,JI,JI,JI,JI]) rfl ?_;refine aM<|aW<|gW (ws:=[]) (λR=>rfl) rfl λg1 a1 b1 c1=>nV<|bI ?_
 refine aM<|aW<|gW (ws:=[]) (λR=>rfl) rfl λg2 a2 b2 c2=>nV<|bI ?_
 obtain⟨P,eP⟩:∃P,P=h.nx:=⟨_,rfl⟩
 obtain⟨M,eM⟩:∃M,M=g1.nx:=⟨_,rfl⟩
 rw[<-eP,<-eM];refine aM<|oE<|lC<|ao<|cB<|ao<|aq rfl<|aB<|dD (xs:=R.map G4) rfl ?_
 rw[Bo];refine aB<|BR (m:=R.length) (by lia)<|oO ?_
 refine eU (λi σ h'=>DI m f R cl Fs rs ws h P M i h' σ) ?_ ?_ ?_
 ·rintro i w σ h' N hN e ⟨s4,s5,Gs,Ts,es,ms,him,cP,cM,lm,en',st,nx',ko⟩;rw[Hf]at e;cases qe:(rng 0 R.length)[i]? with
  | none=>rw[qe]at e;cases e
  | some p=>
   rw[qe]at e;cases e;obtain⟨ei,hi⟩:=lH qe;rw[Xh]at ei;subst ei;refine nV<|bU<|aZ ?_
   have lE:es.length=p:=by rw[en'.1,st.lt]
   cases rows p him with
   | free kf er e1 e2 e3=>
    have er':(R.map G4)[p]?=Go (G4 ("free",[])):=by rw[Hf,er];rfl
    refine aH<|aH<|aH<|aq rfl<|aq rfl<|bA (ws:=R.map G4) rfl (bB er')<|aX<|bA (ws:=[.str "free"]) (w:=.str "free") rfl ou<|aX<|eY<|iu ?_
    refine tU (by decide)<|dG<|dR<|aq rfl<|cL cP<|ao<|cZ<|ao<|aL<|ao<|aq rfl<|ao<|aq rfl<|aB ?_
    refine hft hF h45 kf λT tz=>ao<|aL<|ao<|aX<|ao<|aL<|ao<|aq rfl<|aB ?_
    refine hlc hF h45<|aB<|hnm (Int.natCast_nonneg _) (by lia)<|aB<|bR rfl<|aB ?_
    refine jt cP (by lia) λg3 a3 b3 c3=>bI<|hN _ _ ⟨_,_,Gs++[Uk p],Ts++[T],_,ms,by lia,a3,by rw[b3 M<|by lia];exact cM,by lia,en'.snoc T _,?_,by lia,λn hn=>by rw[b3 n<|by lia];exact ko n hn⟩
    refine st.snoc (q:=λ_=>1) (by rw[e2,e3];exact tz) (by rw[e2];split<;>lia) (by rw[e1];exact Lk.one _ _) λ_ _=>Int.one_ne_zero
   | @made y is fk er nf lt rf rd e3 w100 ho=>
    have er':(R.map G4)[p]?=Go (G4 (y,is)):=by rw[Hf,er];rfl
    refine aH<|aH<|aH<|aq rfl<|aq rfl<|bA (ws:=R.map G4) rfl (bB er')<|aX<|bA (ws:=.str y::is.map λj:Nat=>W.int (j:Int)) rfl ou<|aX<|eY<|iu ?_
    refine nA (decide_eq_false nf)<|aM<|aW<|aL<|ao<|aq rfl<|ao ?_
    refine v7 (own:=JL) rfl cP (by lia) (λj acc=>acc=(Ts.take j).map tW) (λj w acc N2 hN2 ew ea=>?_) (λacc ea=>?_) rfl;have hj:j<Ts.length:=by have:=(Lx.mp ew).1;rw[en'.1]at this;exact this
    obtain⟨u,eu⟩:=en'.2 j hj;rw[ew]at eu;cases eu;refine⟨[.tup [tW<|Ts.getD j [],u]],rfl,dB<|cH<|aH<|aq rfl<|aX<|bA (ws:=[tW<|Ts.getD j [],u]) (w:=tW (Ts.getD j [])) rfl rfl<|hN2 _ ?_⟩;have eg:Ts[j]?=Go (Ts.getD j []):=by rw[KD,Hw hj];rfl
    rw[ea,Ik,eg,IK];rfl
    ·rw[en'.1,J8]at ea;subst ea;obtain⟨o',q,rf',lk,kn⟩:=rf.like (st.ll lt);have et:is.map (λj=>(Ts.map tW)[j]?)=(is.map λj=>Ts.getD j []).map λT=>Go (tW T):=by
      rw[Ky];refine Q6 λj hj=>?_;have hj':j<Ts.length:=by rw[st.lt];exact lt j hj
      show(Ts.map tW)[j]?=Go (tW (Ts.getD j []));rw[Hf,KD,Hw hj'];rfl
     have hp7:=rd.1;have rd':Rd (2*(f-4)) y (is.map (Hl rs)) (is.map (atF Gs)) (Hl rs p):=⟨rd.1,rd.2.imp id λg=>by obtain⟨a,b,c,d⟩:=g;exact ⟨a,b,c,rf.det_ok (st.ll lt) d⟩⟩
     refine ao<|aq rfl<|aB ?_
     have pm:p=m->y=x/\is=js:=λe=>by
      subst e;rw[er]at em;exact Prod.mk.inj<|IV em
     refine hrr (x:=y) (js:=is) rfl er' rfl et (st.tl lt) rf' rd' ho (by rw[<-e3];exact w100) (λhy nt=>?_) λht S tz=>?_
     ·subst hy;have nt':¬RT (2*(f-4)) (is.map (atF Fs)):=λt=>nt (((st.ll lt).tie rf).mp t)
      by_cases c:p=m
      obtain⟨rfl,rfl⟩:=pm c;subst c;exact qt rfl nt' _
      ·exact absurd ((done p (by lia) fk).2 is er) nt'
     ·rw[<-e3]at tz;refine nV<|bI<|aM<|bU<|Gz<|jk<|cB<|ao<|aq rfl<|aB<|abO<|Jd rfl ?_
      have nou:(∀s∈S,s=[])↔RW (2*(f-4)) (atF Fs p):=(tz.nou hp7).trans (lk.nou kn).symm;by_cases c:p=m
      obtain⟨rfl,rfl⟩:=pm c;subst c;obtain⟨z,q'⟩:=qn λhy=>by subst hy;exact((st.ll lt).tie rf).mpr (ht rfl)
      rw[K9.mpr (nou.mpr z)];refine Uo<|bF<|cZ<|ao<|aX<|ao<|aq rfl<|aB<|bR rfl ?_
      exact⟨λn c hn ec=>by rw[ko n hn];exact ec,.inl ⟨by simp[Lo,MH],q'⟩⟩
      ·have hn:=(done p (by lia) fk).1;have ha:(S.any λs=>!s.isEmpty)=true:=by
        cases e:S.any λs=>!s.isEmpty with
        | true=>rfl
        | false=>exact absurd (nou.mp (K9.mp e)) hn
       have ne:∃s∈S,s≠[]:=by
        obtain⟨s,hs,e⟩:=V2.mp ha;exact⟨s,hs,by simpa using e⟩
       rw[ha];refine U9<|bH<|bI<|aM<|dG<|dR<|aq rfl<|cL cP<|ao<|aL<|ao<|aq rfl<|aB ?_
       refine hen tz hp7 w100 ne λT' F' k u tz' lk' kn'=>aB ?_;refine jt cP (by lia) λg3 a3 b3 c3=>bI ?_;refine dG<|dR<|aq rfl<|cL (by rw[b3 M<|by lia];exact cM)<|ao<|aL<|ao<|aq rfl<|aB ?_
       refine hfs tz.mbs.2.1 ne<|aB<|jt (by rw[b3 M<|by lia];exact cM) (by lia) λg4 a4 b4 c4=>bI<|hN _ _ ⟨_,_,Gs++[F'],Ts++[T'],_,_,by lia,by rw[b4 P<|by lia];exact a3,a4,?_,en'.snoc T' u,?_,by lia,λn hn=>by rw[b4 n<|by lia,b3 n<|by lia];exact ko n hn⟩
       rw[JK];exact Nat.add_le_add_right lm 1;exact st.snoc tz' hp7 (lk.trans lk')<|kn.mul kn'
 rintro σ h' ⟨s4,s5,Gs,Ts,es,ms,him,_⟩;exfalso;rw[Bo]at him;unfold rng at him;rw[YZ]at him;lia;exact⟨JI,JI,[],[],[],[],Nz _,by rw[b2 P<|by lia,eP];exact a1,by rw[eM];exact a2,Cm _,⟨rfl,λj hj=>absurd hj<|Ry _⟩,⟨rfl,rfl,λj hj=>absurd hj<|Ry _,λj hj=>absurd hj<|Ry _,λj hj=>absurd hj<|Ry _⟩,by lia,λn hn=>by rw[b2 n<|by lia,b1 n<|by lia]⟩
abbrev VJ (c0:Aq):Prop:=∀{h:Gh}{a:Int}{Q:WK}{E:Bt},(∀h',Pz h' h.nx->h'.nx=h.nx+1->(∀m,m≠h.nx->h'.c m=h.c m)->Q (.loc h.nx) h')->c0 [.int a] h Q E
def abU:VJ M7:=by
 intro h a Q E k;refine And.intro ⟨by decide,by decide,by decide⟩<|And.intro (.inr<|.inr ?_) ?_
 have g:∀b:Bool,Sm 64 (if b=true then(1:Int)else 0):=λb=>by
  cases b;exact Sm.zero;exact .lit rfl
 exact g _;refine And.intro (show _≠0 by decide)<|k _ ⟨_,_,Ao _ _,?_,(by lia)⟩ rfl λm J=>rA J
 rw[gP (by decide)];exact Ye _ (by decide)
abbrev Nv:List Str:=["free", "join", "meet", "curve", "about", "pole", "other"]
abbrev xr (x:Str):List Str:=if x = "join" then["spot", "spot"]else if x = "meet" then["line", "line"]else if x = "about" then["curve", "spot"]else
 if x = "curve" then["spot", "spot", "spot", "spot", "spot"]else if x = "pole" then["curve", "line"]else if x = "other" then["curve", "spot", "spot"]else[]
abbrev Nw1 (h h':Gh):Prop:=(∀m,m≠h.nx->h'.c m=h.c m)/\h'.nx=h.nx+1
abbrev XH (c0:Aq):Prop:=∀{h:Gh}{x:Str}{Q:WK}{E:Bt},x∈Nv->(∀h',Nw1 h h'->Q (.lst ((xr x).map .str)) h')->c0 [.str x] h Q E
abbrev afT:List (Key×W):=[(.inr "free",.lst []),(.inr "join",.lst [.str "spot",.str "spot"]),(.inr "meet",.lst [.str "line",.str "line"]),(.inr "about",.lst [.str "curve",.str "spot"]),
 (.inr "curve",.lst [.str "spot",.str "spot",.str "spot",.str "spot",.str "spot"]),(.inr "pole",.lst [.str "curve",.str "line"]),(.inr "other",.lst [.str "curve",.str "spot",.str "spot"])]
def aji (J:x∈Nv):pI afT (.inr x)=Go (.lst ((xr x).map .str)):=by
 unfold Nv at J;simp at J;rcases J with e|e|e|e|e|e|e<;>subst e<;>rfl
def acR:XH Er:=by
 intro h x Q E O k;show(match(h.new _).c h.nx with
  | some (.dct [])=>_
  | _=>False)
 rw[Ao];show(match(((h.new (.dct [])).set h.nx _).c h.nx)with
  | some (.dct kvs)=>_
  | _=>False)
 rw[sU];show(match((((h.new (.dct [])).set h.nx _).set h.nx _).c h.nx)with
  | some (.dct kvs)=>_
  | _=>False)
 rw[sU];show(match(((((h.new _).set h.nx (.dct _)).set h.nx _).set h.nx _).c h.nx)with
  | some (.dct kvs)=>_
  | _=>False)
 rw[sU];show(match((((((h.new (.dct [])).set h.nx _).set h.nx _).set h.nx _).set h.nx _).c h.nx)with
  | some (.dct kvs)=>_
  | _=>False)
 rw[sU];show(match pI afT (.inr x)with
  | some w=>_
  | none=>False)
 rw[aji O];refine k _ ⟨λm J=>?_,rfl⟩;rw[j4 J,j4 J,j4 J,j4 J,rA J]
abbrev lV (x:Str):Str:=if x = "join" then "line" else if x = "about" then "line" else if x = "curve" then "curve" else "spot"
abbrev NK (c0:Aq):Prop:=∀{h:Gh}{x:Str}{ws:List W}{Q:WK}{E:Bt},x∈Nv->Q (.str (lV x)) h->c0 [.tup (.str x::ws)] h Q E
def Ug:NK wZ:=by
 intro h x ws Q E J k;unfold lV at k;have ix:∀{Q':WK}{h':Gh},Q' (.str x) h'->Bh (.tup (.str x::ws)) (.int 0) h' Q':=λz=>bA rfl (bB rfl) z
 unfold wZ;rfl'
 refine ix<|aX<|eY<|iu<|sZ (λe=>?_)<|λe=>?_
 ·rw[if_pos e]at k;rfl'
  exact k
 ·rw[if_neg e]at k;rfl'
  refine ix<|aX<|eY<|iu<|sZ (λe=>?_)<|λe=>?_
  rw[if_pos e]at k;exact k
  ·rw[if_neg e]at k;unfold uh;rfl'
   refine ix<|aX<|eY ?_
   by_cases e:x=("curve" : Str)
   rw[if_pos e]at k;rw[decide_eq_true e];exact k;rw[if_neg e]at k;rw[decide_eq_false e];exact k
abbrev Row (w:W):Prop:=∃x ns,x∈Nv/\w=.tup (.str x::(ns:List Int).map .int)
abbrev srt:W->Str
 | .tup (.str x::_)=>lV x
 | _ => ""
def Row.sort (r:Row w)(O:NK c0)(k:Q (.str (srt w)) h):c0 [w] h Q E:=by
 obtain⟨x,ns,J,e⟩:=r;subst e;exact O J k
abbrev nth (ss:List Str):W->Option Str
 | .int i=>if 0<=i then ss[i.toNat]? else JI
 | _=>JI
def acr {ss:List Str}(e:0<=v):nth ss (.int v)=ss[v.toNat]?:=by
 show(if 0<=v then ss[v.toNat]? else JI)=_;rw[if_pos e]
abbrev Y7 (c0:Aq):Prop:=∀{h:Gh}{b n:Nat}{J:List W}{s:Str}{Q:WK}{E:Bt},Pz h b->h.c n=Go (.lst J)->b≠n->(∀r∈J,Row r)->J.length<=24->(∃r∈J,srt r=s) ->
 (∀(j:Nat) h',(J.map srt)[j]?=Go s->Pz h' b->Sh b h h'->Q (.int j) h')->c0 [.loc b,.loc n,.str s] h Q E
def akv {u}(F:qj c0)(hs:NK u):Y7 (wR c0 u):=by
 intro h b n J s Q E G B H v I f k;have p:=iV B;unfold wR;rfl'
 refine dD p<|aB<|BR (m:=J.length) (by lia)<|abZ (by rw[Bo];unfold rng;rw[YZ];exact Nat.ble_eq.mpr (by lia)) ?_
 refine cU (λi acc h'=>h'=h/\∃js:List Nat,acc=js.map (λj:Nat=>W.int (j:Int))/\js.length<=i/\((∃k,k<i/\∃r,J[k]?=Go r/\srt r=s)->js≠[])/\∀j∈js,(J.map srt)[j]?=Go s) ?_ ?_ ⟨rfl,[],rfl,Cm _,λL=>by obtain⟨_,z,_⟩:=L;exact absurd z<|Ry _,λj O=>absurd O<|by simp⟩;rintro i w acc h' N o e ⟨rfl,js,rfl,U,c,a⟩;rw[Hf]at e;obtain⟨x,ex,rfl⟩:=S8.mp e;have t:=(lH ex).1;have l:=(lH ex).2;rw[Xh]at t;subst t;have S:J[x]?=Go J[x]:=Hw l;refine⟨[.int (x:Int)],rfl,?_⟩;refine aZ<|aH<|aL<|ao<|aH<|aq rfl<|aq rfl<|bA p (bB S)<|aB<|(v _<|QV l).sort hs (aq rfl<|eY<|iu ?_)
 by_cases z:srt J[x]=s
 rw[decide_eq_true z];refine cH<|aq rfl<|o _ _ ⟨rfl,js++[x],by rw[IK];rfl,by rw[JK];exact Nat.succ_le_succ U,λ_ y=>?_,λj O=>?_⟩
 exact absurd (congrArg Rb y) (by rw[JK];exact Nat.succ_ne_zero _);rcases Wx.mp O with O|O
 exact a j O;rw[QW.mp O,Hf,S,Yr,z];rw[decide_eq_false z];refine ur<|o _ _ ⟨rfl,js,rfl,Nat.le_succ_of_le U,λ⟨q,d,r,e1,e2⟩=>c ⟨q,?_,r,e1,e2⟩,a⟩
 rcases Nat.lt_or_ge q x with y|y
 exact y;have:q=x:=by lia
 subst this;rw[S]at e1;cases e1;exact absurd e2 z
 ·rintro acc h' ⟨rfl,js,rfl,U,c,a⟩;have O:js≠[]:=by
   obtain⟨r,h1,h2⟩:=f;obtain⟨q,d,e⟩:=List.getElem_of_mem h1;refine c ⟨q,?_,r,by rw[Hw d,e],h2⟩;rw[Bo];unfold rng;rw[YZ];exact d
  have C:js.length<=24:=by
   rw[Bo]at U;unfold rng at U;rw[YZ]at U;lia
  have D:0<js.length:=List.length_pos_iff.mpr O;rfl'
  rw[Bo];refine F G (by lia) (by unfold Sm;lia) λd h2 d0 K g A=>?_;obtain⟨dn,rfl⟩:=Yn d0;have Y:dn<js.length:=by lia
  refine bA (ws:=js.map λj:Nat=>W.int (j:Int)) (w:=.int (js[dn]:Int)) rfl (bB (by rw[Hf,Hw Y];rfl)) ?_;exact k _ _ (a _<|QV Y) g A
abbrev Gr (b:Nat)(h h':Gh):Prop:=h.nx<=h'.nx/\∀m,m<h.nx->m≠b->h'.c m=h.c m
def Gr.trans {b}{h h1 h2}(x:Gr b h h1)(y:Gr b h1 h2):Gr b h h2:=⟨HW x.1 y.1,λm O J=>(y.2 m (Js O x.1) J).trans (x.2 m O J)⟩
def Sh.gr {h1}(x:Sh b h h1):Gr b h h1:=⟨YT x.1.symm,λm _ J=>x.2 m J⟩
def Nw1.gr {h1}(x:Nw1 h h1):Gr b h h1:=⟨x.2 ▸ Ra _,λm J _=>x.1 m (Ip J)⟩
def Nw1.bag {h1}(x:Nw1 h h1)(O:Pz h b)(J:b<h.nx):Pz h1 b:=by
 obtain⟨p,q,e,r⟩:=O;exact⟨p,q,(x.1 b<|Ip J).trans e,r⟩
def abQ {S:Aq}(hs:NK S){J:List W}(Y:h.c n=Go (.lst J))(U:∀r∈J,Row r)(a:J.length<=24)(q:Q (.lst (J.map λr=>.str (srt r))) h):
  lcK JL [] jx (aJ S E (aj (aA 0) aG)) σ Q ⟨J,Go (n,J)⟩ h:=by
 refine fG.mk (HW a<|by decide)<|Pb (λi acc h'=>h'=h/\acc=(J.take i).map λr=>.str<|srt r) ?_ ?_ (by simp_all) ⟨rfl,rfl⟩
 rintro i acc h' ⟨rfl,_⟩ P p;exact⟨Y,p⟩;rintro i w acc h' N b O ⟨rfl,rfl⟩;refine⟨[w],rfl,dB<|cH<|aL<|ao<|aq rfl<|aB<|(U w<|O5 O).sort hs (b _ _ ⟨rfl,?_⟩)⟩;rw[Ik,O,IK];rfl
def agk {y}{us:List Str}{a}(e:dF h y=Go (us.map .str))(k:Q (.bl (!decide (a∈us))) h):GZ (.str a) y h Q:=by
 have e1:(Hq 20 (.str a)&&(us.map W.str).all (Hq 20))=true:=by
  rw[Rj];refine⟨rfl,Xc.mpr λw J=>?_⟩;obtain⟨x,_,rfl⟩:=Hr.mp J;rfl
 have e2:((us.map W.str).any λu=>Hv u (.str a))=decide (a∈us):=by
  rw[Xv,V2,decide_eq_true_iff];constructor;rintro⟨w,J,O⟩;obtain⟨x,U,rfl⟩:=Hr.mp J
  rwa[<-eq_of_beq O]
  intro S;exact⟨.str a,Hr.mpr ⟨a,S,rfl⟩,beq_self_eq_true a⟩
 unfold GZ;rw[e];show JC _ _ _
 rwa[e1,e2]
def aea {us ss:List Str}{ix}(Y:mY ix σ=[Go (.lst (ss.map .str))])(a:us.length<=24)(q:∀J,(J=[]->∀u∈us,u∈ss)->J.length<=24->Q (.lst (J.map .str)) h):
  lcK JL ix (bQ (Ah GZ (aA 0) (aA 1))) (aA 0) σ Q ⟨us.map .str,JI⟩ h:=by
 refine fG.mk (by rw[Bo];exact HW a (by decide)) ?_;refine cU (λi acc h'=>h'=h/\∃J:List Str,acc=J.map .str/\J.length<=i/\(J=[]->∀u∈us.take i,u∈ss)) ?_ ?_ ⟨rfl,[],rfl,Cm _,λ_ u c=>by simp at c⟩;rintro i w acc h' N b e ⟨rfl,J,rfl,O,S⟩;rw[Hf]at e;obtain⟨u,d,rfl⟩:=S8.mp e;refine⟨[.str u],rfl,?_⟩;rw[Y];refine aZ<|aH<|aq rfl<|aq rfl<|agk rfl<|iu ?_
 by_cases z:u∈ss
 rw[decide_eq_true z];refine ur<|b _ _ ⟨rfl,J,rfl,Nat.le_succ_of_le O,λe v U=>?_⟩
 rw[Ik]at U;rcases Wx.mp U with U|U
 simp_all
 simp_all
 rw[decide_eq_false z];refine cH<|aq rfl<|b _ _ ⟨rfl,J++[u],by rw[IK];rfl,JK ▸ Nat.succ_le_succ O,λy=>?_⟩
 exact absurd (congrArg Rb y)<|JK ▸ Nat.succ_ne_zero _
 rintro acc h' ⟨rfl,J,rfl,O,S⟩;rw[Bo]at O S;rw[J8]at S;exact q J S<|HW O a
def qJ (J:x∈Nv):(xr x).length<=24:=by
 unfold Nv at J;simp at J;rcases J with e|e|e|e|e|e|e<;>subst e<;>decide
def V0 {a b}(hz:a.length+b.length<=1000)(x:Q (.lst (a++b)) h):bM (.lst a) (.lst b) h Q:=fG.mk (HW hz (by decide:1000<=HB)) x
def Oi {p c2 o}(C:XH p)(y:Y7 o){J}{a2 a3 K I D}(B:Pz h b)(z:h.c n=Go (.lst J))(f:b≠n)(G:b<h.nx)(q:n<h.nx)
  (v:∀r∈J,Row r) (A:J.length<=24) (U:x∈Nv) (hs:∀s∈xr x,∃r∈J,srt r=s) (k:∀(ns:List Int) h',(ns.map W.int).map (nth (J.map srt))=(xr x).map Go->Pz h' b->Gr b h h'->D.rt (.tup (.str x::ns.map .int)) h') :
  zJ c0 p c2 o E D [Go (.loc b),Go (.loc n),a2,a3,K,Go (.str x),I] h:=by
 refine C U λh2 S=>?_;refine fG.mk (by rw[Bo];exact HW (qJ U) (by decide)) ?_;refine cU (λi acc h'=>Pz h' b/\Sh b h2 h'/\∃ns:List Int,acc=ns.map .int/\ns.length=i/\(ns.map W.int).map (nth<|J.map srt)=((xr x).take i).map Go) ?_ ?_ ⟨(S.bag B G),⟨rfl,λ_ _=>rfl⟩,[],rfl,rfl,rfl⟩;rintro i w acc h' N F e ⟨O,o',ns,rfl,c,a⟩;rw[Hf]at e;obtain⟨u,l,rfl⟩:=S8.mp e;refine⟨[.str u],rfl,dB<|cH<|aL<|ao<|aq rfl<|ao<|aq rfl<|ao<|aq rfl<|aB<|y O ((o'.2 n<|Jp f).trans ((S.1 n<|Ip q).trans z)) f v A (hs u<|O5 l) λj L t Y d=>?_ ⟩;exact F _ _ ⟨Y,⟨d.1.trans o'.1,λm g=>(d.2 m g).trans (o'.2 m g)⟩,ns++[(j:Int)],by rw[IK];rfl,by rw[JK,c];rfl,by rw[IK,IK,a,Ik,l,IK];show _++[nth _ _]=_;rw[acr<|Int.natCast_nonneg _,Int.toNat_natCast,t];rfl⟩;rintro acc h' ⟨O,o',ns,rfl,c,a⟩;have H:ns.length<=24:=by rw[c,Bo];exact qJ U
 refine V0 (by rw[Bo];show 1+ns.length<=1000;lia) ?_;exact k ns h' (by rw[a,Bo,J8]) O<|S.gr.trans o'.gr
abbrev ok1 (ss:List Str):W->Bool
 | .tup (.str x::ns)=>decide (x∈Nv)&&decide (ns.map (nth ss)=(xr x).map Go)
 | _=>false
abbrev agO:W->Bool
 | .tup (.str x::_)=>decide (x = "free")
 | _=>false
def VR {ss:List Str}{ns:List W}(J:x∈Nv)(e:ns.map (nth ss)=(xr x).map Go):ok1 ss (.tup (.str x::ns))=true:=by
 show(decide _&&decide _)=true;simp_all
abbrev Wf:List Str:=["join", "meet", "curve", "about", "pole", "other", "join", "meet", "join", "meet"]
def alR:∀i:Fin Wf.length,Wf[i]∈Nv:=by decide +kernel
abbrev af6 (c0:Aq):Prop:=∀{h:Gh}{b n:Nat}{J:List W}{fr:Int}{Q:WK}{E:Bt},Pz h b->h.c n=Go (.lst J)->b≠n->b<h.nx->n<h.nx->(∀r∈J,Row r)->J.length<=23 ->
 ((J.length:Int)<fr\/∃r∈J,srt r = "spot")->(∀r h',Row r->((J.length:Int)<fr->srt r = "spot")->ok1 (J.map srt) r=true->agO r=decide ((J.length:Int)<fr)->Pz h' b->Gr b h h'->Q r h')->c0 [.loc b,.loc n,.int fr] h Q E
def aex {H c2 G}(M:qj c0)(l:XH H)(hs:NK c2)(q:Y7 G):af6 (Cr c0 H c2 G):=by
 intro h b n S fr Q E N C i I B j V p k;unfold Cr;rfl'
 refine abQ hs C j (by lia) ?_;rfl'
 refine M N (by decide) (by unfold Sm;decide) λd h1 d0 X u A=>?_;obtain⟨dn,rfl⟩:=Yn d0;have U:dn<Wf.length:=by show dn<10;lia
 have c:Wf[dn]∈Nv:=alR ⟨dn,U⟩;have K:("free" : Str)∉Wf:=by decide
 generalize F:Wf[dn]=x at c;have v:Gr b h h1:=A.gr;have t:h1.c n=Go (.lst S):=(A.2 n (Jp i)).trans C;rfl'
 refine bA (ws:=Wf.map W.str) (w:=.str x) rfl (bB (by rw[Hf,Hw U,F];rfl)) ?_;rfl'
 refine l c λh2 o=>?_;have nl1:n<h1.nx:=Js B v.1;have y:b<h1.nx:=Js I v.1;have O:h2.c n=Go (.lst S):=(o.1 n (Ip nl1)).trans t;have Y:Pz h2 b:=o.bag u y;have f:Gr b h h2:=v.trans o.gr;have m:=iV O;rfl'
 refine aea (ss:=S.map srt) (by rw[Ky];rfl) (qJ c) λls L T=>?_;have nl2:n<h2.nx:=Js B f.1;have a:b<h2.nx:=Js I f.1;rfl'
 refine dD m ?_;rfl'
 refine sZ (λe=>?_)<|λe=>?_
 ·rfl'
  refine dD m ?_;rfl'
  rw[decide_eq_true e];refine Oi (c0:=c0) (c2:=c2) (x := "free") l q Y O i a nl2 j (by lia) (by decide) (λs hs=>absurd (show s∈([]:List Str)from hs)<|by simp) λns D g J d=>?_;exact k _ _ ⟨"free",ns,by decide,rfl⟩ (λ_=>rfl) (VR (by decide) g) (by rw[decide_eq_true e];rfl) J<|f.trans d
 ·rfl'
  refine sZ (λe'=>?_)<|λe'=>?_
  ·rfl'
   refine dD m ?_;rfl'
   rw[decide_eq_false e];refine Oi (c0:=c0) (c2:=c2) (x := "join") l q Y O i a nl2 j (by lia) (by decide) (λs hs=>?_) λns D g J d=>?_;have es:s = "spot":=by
    have P:s∈(["spot", "spot"]:List Str):=hs
    simpa using P
   rw[es];exact p.resolve_left e;exact k _ _ ⟨"join",ns,by decide,rfl⟩ (λz=>absurd z e) (VR (by decide) g) (by rw[decide_eq_false e];rfl) J<|f.trans d
  have R:ls=[]:=by
   rw[Bo]at e';exact List.length_eq_zero_iff.mp<|by lia
  refine Oi (c0:=c0) (c2:=c2) (x:=x) l q Y O i a nl2 j (by lia) c (λs hs=>?_) λns D g J d=>?_;obtain⟨r,h1,h2⟩:=Hr.mp (L R s hs);exact⟨r,h1,h2⟩;exact k _ _ ⟨x,ns,c,rfl⟩ (λz=>absurd z e) (VR c g) (by rw[decide_eq_false e];exact decide_eq_false (λz=>K<|z ▸ F ▸ QV U)) J<|f.trans d
abbrev pR (wt:List Nat):List W:=wt.map λk:Nat=>W.int (k:Int)
variable {wt:List Nat}
def ajZ {M}(h:∀k∈wt,k<=M)(j):wt.getD j 0<=M:=by
 rw[KD];cases e:wt[j]? with
 | none=>exact Nz _
 | some k=>exact h k (O5 e)
def len1 {l:List Nat}(h:l.length=2):∃a b,l=[a,b]:=by
 match l,h with
 | [a,b],_=>exact⟨a,b,rfl⟩
def afo {l:List Nat}(h:l.length=3):∃a b c,l=[a,b,c]:=by
 match l,h with
 | [a,b,c],_=>exact⟨a,b,c,rfl⟩
def Fg:∀l,rT (pR l)=Go (l.map λk:Nat=>(k:Int))
 | []=>rfl
 | a::l=>by
  show(rT (pR l)).map _=_;rw[Fg l];rfl
def sum_nat:∀l:List Nat,(l.map λk:Nat=>(k:Int)).sum=((l.sum:Nat):Int)
 | []=>rfl
 | a::l=>by
  rw[Hz,List.sum_cons,sum_nat l];simp_all
def Tw {l R}(q:R (.int ((l.sum:Nat):Int)) h):Zh [.lst (pR l)] h R:=Uc rfl (Fg l) (by rwa[sum_nat])
def CQ (J:c<=5)(h1:j<=10000)(x:Q (.int ((c*j:Nat):Int)) h):vI (.int (c)) (.int (j)) h Q:=oN (pJ.of (m:=64) (n:=64) (by unfold Sm;omega) (by unfold Sm;omega) (by decide) (by decide)) x
def aaN {l}{k:Nat}(e:l[i]?=Go k)(x:Q (.int (k)) h):Bh (.lst (pR l)) (.int (i)) h Q:=
 bA rfl (bB (by unfold pR;rw[Hf,e];rfl)) x
def add_n {a}(x:Q (.int ((a+b:Nat):Int)) h):bM (.int (a)) (.int (b)) h Q:=gD x
abbrev frc (R:List JX):Nat:=R.countP λp=>decide (p.1=("free" : Str))
abbrev PK (fsr fr:Nat)(x:Str)(l:List Nat):Nat:=if x = "free" then Nat.max fsr (if 3<fr then 1 else 0)else rc x l
abbrev Tst (x y:Str)(c:MS)(b:MS)(O J s3 s4:Option W)(js:List Nat)(D:bN)(h:Gh):Prop:=aY (jg (bQ (Ah JZ (Ah Bh (aA 2) (mC (.int 0))) (mC (.str y)))) b cW) c D [O,J,Go (G4 (x,js)),s3,s4] h
variable {js:List Nat}
def Du {y}{c b}{O J s3 s4 D}(S:x≠y)(k:c D [O,J,Go (G4 (x,js)),s3,s4] h):Tst x y c b O J s3 s4 js D h:=
 aM (bU (aZ (aH (aH (aq rfl (aX (bA rfl ou (aX (eY (iu (nA (decide_eq_false S) (bH (bI k)))))))))))))
def vZ {c b}{O J s3 s4 D}(k:b {D with nx:=c D} [O,J,Go (G4 (x,js)),s3,s4] h):Tst x x c b O J s3 s4 js D h:=
 aM (bU (aZ (aH (aH (aq rfl (aX (bA rfl ou (aX (eY (iu (tU (decide_eq_true rfl) k)))))))))))
abbrev ReX (c0:Aq):Prop:=∀{h:Gh}{a b fsr:Nat}{R:List JX}{wt js:List Nat}{x:Str}{Q:WK}{E:Bt},h.c a=Go (.lst (R.map G4))->h.c b=Go (.lst (pR wt))->R.length<=100->(∀k∈wt,k<=60)->(∀j∈js,j<wt.length)->js.length=(xr x).length->x∈Nv ->
 Q (.int ((PK fsr (frc R) x (js.map λj=>wt.getD j 0):Nat):Int)) h->c0 [.loc a,.loc b,G4 (x,js),.int (fsr:Int)] h Q E
def Vm {a}(x:Q (.int ((Nat.max a b:Nat):Int)) h):Z4 [.int (a),.int (b)] h Q:=by
 show Q _ h;grind
def ajA:ReX qI:=by
 intro h a b U R wt js x Q E P M T H K I y k;have f:(js.map λj=>wt.getD j 0).length=(xr x).length:=by rw[Bo];exact I
 have d:∀v∈(js.map λj=>wt.getD j 0),v<=60:=λv n=>by
  obtain⟨j,_,rfl⟩:=Hr.mp n;exact ajZ H j
 have V:js.length<=100:=by have:=qJ y;lia
 have B:view h (.loc b)=Go (pR wt):=by simp only[view,dF,M]
 unfold qI;refine d8 rfl (σ:=[Go<|.loc a,Go<|.loc b,Go<|G4 (x,js),Go<|.int (U:Int),JI]) rfl ?_;refine aM<|aW<|iD<|iB<|Zi<|aq rfl<|vO<|aX<|adF<|qZ ?_
 refine afY (af8 _ _)<|tQ (ws:=js.map λj:Nat=>W.int (j:Int)) (o:=JI) rfl<|fG.mk (HW (m:=1000) (by rw[Bo];lia)<|by decide) ?_
 refine cU (λi acc g=>g=h/\acc=pR ((js.take i).map λj=>wt.getD j 0)) ?_ ?_ ⟨rfl,rfl⟩;rintro i w acc g N L e ⟨rfl,rfl⟩;rw[Hf]at e;obtain⟨j,A,rfl⟩:=S8.mp e;have q:=K j (O5 A);refine⟨[.int (j:Int)],rfl,dB<|cH<|aH<|aq rfl<|aq rfl<|bA (ws:=pR wt) (w:=.int ((wt.getD j 0:Nat):Int)) B (bB ?_)<|L _ _ ⟨rfl,?_⟩⟩;unfold pR;rw[Hf,KD,Hw q];rfl;rw[Ik,A,IK];unfold pR;rw[IK];rfl;rintro acc g ⟨rfl,rfl⟩;rw[Bo,J8];refine nV<|bI ?_
 generalize(js.map λj=>wt.getD j 0)=l at f d k|-
 have u:∀v:Nat,v=PK U (frc R) x l->Q (.int (v:Int)) g:=λv e=>by rw[e];exact k
 have k2:∀v:Nat,x ≠ "free"->v=rc x l->Q (.int (v:Int)) g:=λv F e=>u v (by unfold PK;rw[if_neg F];exact e)
 by_cases J:x = "free"
 subst J;refine vZ<|bF<|cB<|ao<|aq rfl<|ao<|cB<|ao<|aH<|cB<|ao ?_
 refine v7 (own:=JL) rfl P (by rw[Bo];lia) (λj acc=>acc.length=frc (R.take j)) (λj w acc Z S z Y=>?_) (λacc Y=>?_) rfl;rw[Hf]at z;obtain⟨p,ep,rfl⟩:=S8.mp z;refine⟨[G4 p],rfl,aZ<|aH<|aH<|aq rfl<|aX<|bA (ws:=.str p.1::p.2.map λj:Nat=>W.int (j:Int)) (w:=.str p.1) rfl ou<|aX<|eY<|iu ?_⟩;have es:frc (R.take (j+1))=frc (R.take j)+(if p.1 = "free" then 1 else 0):=by
  unfold frc;rw[Ik,ep,List.countP_append];simp[List.countP_cons]
 by_cases c:p.1 = "free"
 rw[decide_eq_true c];exact cH<|aq rfl<|S _ (by rw[JK,Y,es,if_pos c];rfl)
 rw[decide_eq_false c];exact ur<|S _ (by rw[es,if_neg c];exact Y)
 rw[Bo,J8]at Y;refine aB<|dD (xs:=acc) rfl<|aX<|sW<|aB<|El<|aB ?_
 rw[Y];have e1:(if decide (((frc R:Nat):Int)>3)=true then(1:Int)else 0)=(((if 3<frc R then 1 else 0:Nat):Nat):Int):=by
  by_cases c:3<frc R
  rw[if_pos c,decide_eq_true (by lia)];rfl;rw[if_neg c,decide_eq_false (by lia)];rfl
 rw[e1];exact Vm<|fV<|u _ (by unfold PK;rw[if_pos rfl])
 ·refine Du J ?_;unfold qu sJ rY qL;have O:x ≠ "curve"->x ≠ "pole"->x ≠ "other"->rc x l=l.sum:=λa b c=>by unfold rc;rw[if_neg a,if_neg b,if_neg c]
  have C:∀(l:List Nat),(∀v∈l,v<=60)->l.sum<=60*l.length:=λl=>by
   induction l with
   | nil=>exact λ_=>Cm _
   | cons a l G=>
    intro h;have:=G λv n=>h v (Lq _ n)
    have:=h a (Q0 ..)
    rw[List.sum_cons,PN];lia
  have D:=C l d;have X:=qJ y;by_cases t:x = "curve"
  subst t;refine vZ<|bF<|aH<|aX<|cB<|ao<|aq rfl<|aB<|Tw<|CQ (c:=2) (by decide) (by lia) ?_
  exact fV<|k2 _ J rfl
  refine Du t ?_;by_cases s:x = "pole"
  subst s;obtain⟨a,b,rfl⟩:=len1 f;simp only[Kz,V4,or_false,forall_eq_or_imp,forall_eq]at d;refine vZ<|bF<|aH<|aH<|aX<|aH<|aq rfl<|aX<|aaN (i:=0) (k:=a) rfl<|CQ (c:=5) (by decide) (by lia)<|aH<|aq rfl<|aX<|aaN (i:=1) (k:=b) rfl<|add_n ?_
  exact fV<|k2 _ J rfl
  refine Du s ?_;by_cases r:x = "other"
  subst r;obtain⟨a,b,c,rfl⟩:=afo f;simp only[Kz,V4,or_false,forall_eq_or_imp,forall_eq]at d;refine vZ<|bF<|aH<|aH<|aH<|aq rfl<|aX<|aaN (i:=0) (k:=a) rfl<|aH<|aX<|aH<|aq rfl<|aX<|aaN (i:=1) (k:=b) rfl<|CQ (c:=2) (by decide) (by lia)<|add_n<|aH<|aX<|aH<|aq rfl<|aX<|aaN (i:=2) (k:=c) rfl<|CQ (c:=2) (by decide) (by lia)<|add_n ?_
  exact fV<|k2 _ J rfl
  refine Du r<|bF<|cB<|ao<|aq rfl<|aB<|Tw<|fV<|k2 _ J (O t s r).symm
abbrev Mq (R:List JX):List Str:=R.map λp=>lV p.1
def qb (R):(Mq R).length=R.length:=by unfold Mq;rw[Bo]
def ajU {ss r}(S:Row r)(J:ok1 ss r=true):∃x js,r=G4 (x,js)/\x∈Nv/\js.map (λj=>ss[j]?)=(xr x).map Go:=by
 obtain⟨x,ns,O,rfl⟩:=S;have J:(decide _&&decide _)=true:=J;rw[Rj]at J;have e:=of_decide_eq_true J.2;rw[Ky]at e;have pos:∀i∈ns,0<=i:=λi hi=>by
  obtain⟨s,_,es⟩:=Hr.mp (e ▸ Hr.mpr ⟨i,hi,rfl⟩);have es:Go s=(if 0<=i then ss[i.toNat]? else JI):=es;lia
 refine⟨x,ns.map Int.toNat,?_,O,?_⟩;unfold G4;rw[Ky];congr 2
 apply Q6;grind
 rw[<-e,Ky];apply Q6;intro i hi;show ss[i.toNat]?=(if 0<=i then ss[i.toNat]? else JI);simp_all
def Pa {ss us:List Str}(e:js.map (λj=>ss[j]?)=us.map Go):∀j∈js,j<ss.length:=λj J=>by
 obtain⟨s,_,es⟩:=Hr.mp (e ▸ Hr.mpr ⟨j,J,rfl⟩);grind
def FP {J:Type}{R}{p q:J}(e:(R++[p])[i]?=Go q):R[i]?=Go q\/i=R.length/\q=p:=by
 rcases Nat.lt_or_ge i _ with h|h
 exact QF h ▸ .inl e;have h1:=(Lx.mp e).1;rw[JK,ZL]at h1;have h2:i=R.length:=by lia
 subst h2;simp_all
def iI {J:Type}{l}{a d:J}(h:∀j∈js,j<l.length):(js.map λj=>(l++[a]).getD j d)=js.map λj=>l.getD j d:=Q6 λj O=>cR (h j O)
def Gb {J:Type}{l}{a:J}(h:∀j∈js,j<l.length):(js.map λj=>(l++[a])[j]?)=js.map λj=>l[j]?:=Q6 λj O=>QF (h j O)
structure NrK (f:Nat) (R:List JX) (rs ws:List Nat) (i:Nat) (x:Str) (js:List Nat):Prop where
 wd:x∈Nv
 lt:∀j∈js,j<i
 ss:js.map (λj=>(Mq R)[j]?)=(xr x).map Go
 fr:x = "free"↔i<f
 rr:Hl rs i=PK 0 (frc (R.take i)) x (js.map (Hl rs))
 r6:Hl rs i<=6
 ww:Hl ws i=PK 1 (frc (R.take i)) x (js.map (Hl ws))
 w60:Hl ws i<=60
structure Nr (f:Nat) (R:List JX) (rs ws:List Nat):Prop where
 lr:rs.length=R.length
 lw:ws.length=R.length
 row:∀(i:Nat) (x:Str) (js:List Nat),R[i]?=Go (x,js)->NrK f R rs ws i x js
def Nr.nil (f):Nr f [] [] []:=⟨rfl,rfl,nofun⟩
variable {R:List JX}
def Nr.snoc {ws}(N:Nr f R rs ws){r w}(d:x∈Nv)(e:js.map (λj=>(Mq R)[j]?)=(xr x).map Go)(fr:x = "free"↔R.length<f)(k:r=PK 0 (frc R) x (js.map (Hl rs)))(c:r<=6)(g:w=PK 1 (frc R) x (js.map (Hl ws)))(Y:w<=60):Nr f (R++[(x,js)]) (rs++[r]) (ws++[w]):=by
 have O:∀j∈js,j<R.length:=by rw[<-qb];exact Pa e
 have a:Mq (R++[(x,js)])=Mq R++[lV x]:=by unfold Mq;rw[IK];rfl
 refine⟨by rw[JK,JK,N.lr];rfl,by rw[JK,JK,N.lw];rfl,λi b S h=>?_⟩;rcases FP h with h|⟨rfl,hh⟩
 have U:=(Lx.mp h).1;have K:=N.row i b S h;have J:∀j∈S,j<R.length:=λj O=>by have:=K.lt j O;lia
 have tk:(R++[(x,js)]).take i=R.take i:=List.take_append_of_le_length (QX U);refine⟨K.wd,K.lt,?_,K.fr,?_,?_,?_,?_⟩;rw[a,Gb (by rw[qb];exact J)];exact K.ss;rw[tk,iI (N.lr ▸ J)];exact(cR (by rw[N.lr];exact U)).trans K.rr;exact HW (YT<|cR (by rw[N.lr];exact U)) K.r6;rw[tk,iI (by rw[N.lw];exact J)];exact(cR (by rw[N.lw];exact U)).trans K.ww;exact HW (YT<|cR (by rw[N.lw];exact U)) K.w60;cases hh;have tk:(R++[(x,js)]).take R.length=R:=by rw[List.take_append_of_le_length (Cm _),J8]
 refine⟨d,O,?_,fr,?_,?_,?_,?_⟩;rw[a,Gb (by rw[qb];exact O)];exact e;rw[tk,iI (N.lr ▸ O)];exact(cj N.lr.symm).trans k;exact HW (YT<|cj N.lr.symm) c;rw[tk,iI (N.lw ▸ O)];exact(cj N.lw.symm).trans g;exact HW (YT<|cj N.lw.symm) Y
def Nr.les {ws}(N:Nr f R rs ws):(∀k∈rs,k<=60)/\∀k∈ws,k<=60:=by
 constructor;intro k J;obtain⟨i,hi,e⟩:=List.getElem_of_mem J;have:=(N.row i _ _ (Hw (N.lr ▸ hi))).r6
 grind
 intro k J;obtain⟨i,hi,e⟩:=List.getElem_of_mem J;have:=(N.row i _ _ (Hw (N.lw ▸ hi))).w60
 simp_all
def Nr.free {f}{R}{rs ws}(N:Nr f R rs ws){i}(h:i<f)(hi:i<R.length):R[i]?=Go (("free" : Str),([]:List Nat)):=by
 obtain⟨x,js,e⟩:∃x js,R[i]?=Go (x,js):=⟨_,_,Hw hi⟩
 have K:=N.row i x js e;have:=K.fr.mpr h
 subst this;have:=K.ss
 rw[e];cases js with
 | nil=>rfl
 | cons j js=>cases this
def pQ {ws}(N:Nr f R rs ws):∀i,i<=R.length->i<=f->frc (R.take i)=i:=by
 intro i;induction i with
 | zero=>exact λ_ _=>rfl
 | succ i J=>
  intro h1 h2;unfold frc at J|-
  rw[Ik,List.countP_append,J (by lia) (by lia),N.free (by lia) (by lia)];rfl
def akQ (R:List JX):(R.map G4).map srt=Mq R:=by
 rw[Ky];rfl
def Nr.rowW {ws}(N:Nr f R rs ws):∀r∈R.map G4,Row r:=λr J=>by
 obtain⟨p,O,rfl⟩:=Hr.mp J;obtain⟨q,S⟩:=List.getElem?_of_mem O;refine⟨p.1,p.2.map λk:Nat=>(k:Int),(N.row q _ _ S).wd,?_⟩;rw[Ky];rfl
def aav (n):((rng 0 n).map λx:Nat=>W.int (x)).length=n:=by unfold rng;rw[Bo,YZ];lia
def UL {i j}(x:Q (.int (if j<i then j else i)) h):WW [.int i,.int j] h Q:=x
def Dz (N):∀js,MH N (pR js)
 | []=>by simp[pR,MH]
 | a::js=>by
  show MH N (W.int a::pR js);simp[MH,Lo];exact Dz N js
def wC (N):∀R:List JX,MH N (R.map G4)
 | []=>by simp[MH]
 | p::R=>by
  show MH N (W.tup _::R.map G4);simp[MH,Lo];exact⟨Dz N _,wC N R⟩
def NT {k:Nat}:pR wt++[W.int (k)]=pR (wt++[k]):=by
 unfold pR;simp_all
def Oh (x)(js:List Nat)(i)(e:js[i]?=Go j):Mj (W.str x::js.map λj:Nat=>W.int (j)) ((i+1:Nat):Int)=Go (.int (j)):=bB (by rw[List.getElem?_cons_succ,Hf,e];rfl)
abbrev abj (c0:Aq):Prop:=∀{h:Gh}{ns:List Int}{J f:Nat}{Q:WK}{E:Bt},f=4\/f=5->f<=J->J<=10->(∀R rs ws,Nr f R rs ws->R.length=J->Q (.lst (R.map G4)) h)->c0 [.kls (ns.map .int),.int (J:Int),.int (f:Int)] h Q E
variable {dr:Aq}
inductive NI (f sz:Nat)(ns:List Int)(h:Gh)(a b c i:Nat)(h':Gh):Sw->Prop
 | mk (R:List JX)(rs ws:List Nat)(a7 a8 a9:Option W):Nr f R rs ws->R.length=i->h'.c a=Go (.lst<|R.map G4)->h'.c b=Go (.lst<|pR rs)->h'.c c=Go (.lst<|pR ws)->c<h'.nx->(∀m,m<h.nx->h'.c m=h.c m)->NI f sz ns h a b c i h' [Go<|.kls<|ns.map .int,Go<|.int (sz:Int),Go<|.int (f:Int),Go<|.loc a,Go<|.loc b,Go<|.loc c,Go<|.int 6,a7,a8,a9]
def acK {ce ba ro re}(hc:BK ce)(hb:VJ ba)(hd:qj dr)(hr:af6 ro)(hw:ReX re):abj (iJ ce ba dr ro re):=by
 intro h ns sz f Q E hf fs s10 k;unfold iJ;refine mJ rfl (σ:=[Go<|.kls<|ns.map .int,Go<|.int (sz:Int),Go<|.int (f:Int),JI,JI,JI,JI,JI,JI,JI]) rfl ?_;refine aM<|aW<|gW (ws:=[]) (λR=>rfl) rfl λg1 gc1 go1 gn1=>nV<|bI ?_
 refine aM<|aW<|gW (ws:=[]) (λR=>rfl) rfl λg2 gc2 go2 gn2=>nV<|bI ?_
 refine aM<|aW<|gW (ws:=[]) (λR=>rfl) rfl λg3 gc3 go3 gn3=>nV<|bI ?_
 obtain⟨a,ea⟩:∃a,a=h.nx:=⟨_,rfl⟩
 obtain⟨b,eb⟩:∃b,b=g1.nx:=⟨_,rfl⟩
 obtain⟨c,ec⟩:∃c,c=g2.nx:=⟨_,rfl⟩
 rw[<-ea]at gc1 go1 gn1|-
 rw[<-eb]at gc2 go2 gn2|-
 rw[<-ec]at gc3 go3 gn3|-
 have e6:Mj ([6,6,6,6,6,6,4,3].map W.int) (f:Int)=Go (.int 6):=by rcases hf with rfl|rfl<;>rfl
 refine aM<|aW<|aH<|JF<|ao<|aX<|ao<|aX<|ao<|aX<|ao<|aX<|ao<|aX<|ao<|aX<|ao<|aX<|ao<|aX<|aB<|bR rfl<|aq rfl<|bA (ws:=[6,6,6,6,6,6,4,3].map W.int) rfl e6<|nV<|bI ?_
 refine aM<|oE<|lC<|ao<|aq rfl<|aB<|BR (m:=sz) (by lia)<|oO ?_
 refine eU (λi σ h'=>NI f sz ns h a b c i h' σ) ?_ ?_ ⟨[],[],[],JI,JI,JI,.nil f,rfl,by rw[go3 a<|by lia,go2 a<|by lia];exact gc1,by rw[go3 b<|by lia];exact gc2,gc3,by lia,λm hm=>by rw[go3 m<|by lia,go2 m<|by lia,go1 m<|by lia]⟩
 ·rintro i w σ h' N hN ew ⟨R,rs,ws,a7,a8,a9,D,pl,ca,cb,cc,bx,ho⟩;rw[Hf]at ew;obtain⟨j,ej,rfl⟩:=S8.mp ew;obtain⟨ei,hik⟩:=lH ej;rw[Xh]at ei;subst ei;have hi:j<sz:=by simpa using hik
  have rl:(R.map G4).length=R.length:=Bo ..;refine nV<|aM<|aW<|aL<|ao<|aL<|ao<|aq rfl<|ao<|aH<|aX<|aq rfl<|gD<|aB<|hc (k:=3+(j:Int)) (by lia)<|aB ?_
  refine hb λh1 bf n1 o1=>nV<|bI ?_
  obtain⟨bg,ebg⟩:∃bg,bg=h'.nx:=⟨_,rfl⟩
  rw[<-ebg]at bf n1 o1|-
  have ca1:h1.c a=Go (.lst (R.map G4)):=(o1 a (by lia)).trans ca;refine aM<|aW<|aL<|ao<|aq rfl<|ao<|aq rfl<|ao<|aq rfl<|aB ?_
  refine hr bf ca1 (by lia) (by lia) (by lia) D.rowW (by lia) ?_ λr h2 rr _ ro rf bg2 gr2=>nV<|bI ?_
  by_cases q:((R.map G4).length:Int)<f
  exact .inl q;refine .inr ⟨G4 ("free",[]),O5 (i:=0) ?_,rfl⟩;rw[Hf,D.free (i:=0) (by lia) (by lia)];rfl;rw[akQ]at ro;rw[rl,pl]at rf;obtain⟨x,js,rfl,hx,es⟩:=ajU rr ro;have fx:x = "free"↔R.length<f:=by
   have rf:decide (x = "free")=decide ((j:Int)<f):=rf;rw[pl];constructor;intro e;rw[decide_eq_true e]at rf;have:=of_decide_eq_true rf.symm
   lia;intro e;rw[decide_eq_true (show(j:Int)<f by lia)]at rf;exact of_decide_eq_true rf
  have keep:∀h3:Gh,Gr bg h1 h3->h3.c a=Go (.lst (R.map G4))/\h3.c b=Go (.lst (pR rs))/\h3.c c=Go (.lst (pR ws))/\c<h3.nx/\∀m,m<h.nx->h3.c m=h.c m:=λh3 g=>by
   have g1:=g.1;refine⟨(g.2 a (by lia)<|by lia).trans ca1,?_,?_,by lia,λm hm=>?_⟩;rw[g.2 b (by lia) (by lia),o1 b (by lia)];exact cb;rw[g.2 c (by lia) (by lia),o1 c (by lia)];exact cc;rw[g.2 m (by lia) (by lia),o1 m (by lia),ho m hm]
  have l100:R.length<=100:=by lia
  have app:∀{x:Str}{js:List Nat}{h3:Gh},Gr bg h1 h3->x∈Nv->js.map (λj=>(Mq R)[j]?)=(xr x).map Go->(x = "free"↔R.length<f)->PK 0 (frc R) x (js.map (Hl rs))<=6->PK 1 (frc R) x (js.map (Hl ws))<=60 ->
   (aY (c7 (jW bG (aA 4) (aj (aJ re E (aj (aA 3) (aj (aA 4) (aj (aA 9) (aj (mC (.int 0)) aG))))) aG)))
   (aY (c7 (jW bG (aA 5) (aj (aJ re E (aj (aA 3) (aj (aA 5) (aj (aA 9) (aj (mC (.int 1)) aG))))) aG)))
   (c7 (jW bG (aA 3) (aj (aA 9) aG))))) {nx:=N,rt:=λw h'=>jy true h w h' Q} [Go (.kls (ns.map .int)),Go (.int (sz:Int)),Go (.int (f:Int)),Go (.loc a),Go (.loc b),Go (.loc c),Go (.int 6),Go (.int (j:Int)),Go (.loc bg),Go (G4 (x,js))] h3:=by
   intro x js h3 g hx es fx q1 q2;obtain⟨ca3,cb3,cc3,bx3,ho3⟩:=keep h3 g;have hj:∀j∈js,j<R.length:=by rw[<-qb];exact Pa es
   have jl:js.length=(xr x).length:=by have:=congrArg Rb es;rw[Bo,Bo]at this;exact this
   refine aM<|dG<|dR<|aq rfl<|cL cb3<|ao<|aL<|ao<|aq rfl<|ao<|aq rfl<|ao<|aq rfl<|ao<|aX<|aB ?_
   refine hw (fsr:=0) ca3 cb3 l100 D.les.1 (by rw[D.lr];exact hj) jl hx<|aB ?_
   refine jt cb3 (by unfold pR;rw[Bo,D.lr];lia) λg4 gc4 go4 gn4=>bI ?_;have ca4:g4.c a=Go (.lst (R.map G4)):=(go4 a (by lia)).trans ca3;have cc4:g4.c c=Go (.lst (pR ws)):=(go4 c (by lia)).trans cc3;refine aM<|dG<|dR<|aq rfl<|cL cc4<|ao<|aL<|ao<|aq rfl<|ao<|aq rfl<|ao<|aq rfl<|ao<|aX<|aB ?_
   refine hw (fsr:=1) ca4 cc4 l100 D.les.2 (by rw[D.lw];exact hj) jl hx<|aB ?_
   refine jt cc4 (by unfold pR;rw[Bo,D.lw];lia) λg5 gc5 go5 gn5=>bI ?_;have ca5:g5.c a=Go (.lst (R.map G4)):=(go5 a (by lia)).trans ca4;refine dG<|dR<|aq rfl<|cL ca5<|ao<|aq rfl<|aB ?_
   refine jt ca5 (by rw[rl];lia) λg6 gc6 go6 gn6=>bI<|hN _ _ ⟨R++[(x,js)],_,_,_,_,_,D.snoc hx es fx rfl q1 rfl q2,by rw[JK,pl];rfl,by rw[gc6,IK];rfl,by rw[go6 b<|by lia,go5 b<|by lia,gc4,NT],by rw[go6 c<|by lia,gc5,NT],by lia,λm hm=>by rw[go6 m<|by lia,go5 m<|by lia,go4 m<|by lia,ho3 m hm]⟩
  have chk:∀{x:Str}{js:List Nat}{h3:Gh},Gr bg h1 h3->x∈Nv->js.map (λj=>(Mq R)[j]?)=(xr x).map Go->(x = "free"↔R.length<f) ->
   (aY (jg (Vs (bQ (Ah QL (aJ re E (aj (aA 3) (aj (aA 4) (aj (aA 9) (aj (mC (.int 0)) aG))))) (aA 6))) (bQ (Ah QL (aJ re E (aj (aA 3) (aj (aA 5) (aj (aA 9) (aj (mC (.int 1)) aG))))) (mC (.int 60))))) (bL (cO (aj (mC (.str "join")) (aj (mC (.int 0)) (aj (HN WW (aj (mC (.int 1)) (aj (Ah Fo (aA 2) (mC (.int 1))) aG))) aG)))) (kI 9)) cW)
   (aY (c7 (jW bG (aA 4) (aj (aJ re E (aj (aA 3) (aj (aA 4) (aj (aA 9) (aj (mC (.int 0)) aG))))) aG)))
   (aY (c7 (jW bG (aA 5) (aj (aJ re E (aj (aA 3) (aj (aA 5) (aj (aA 9) (aj (mC (.int 1)) aG))))) aG)))
   (c7 (jW bG (aA 3) (aj (aA 9) aG)))))) {nx:=N,rt:=λw h'=>jy true h w h' Q} [Go (.kls (ns.map .int)),Go (.int (sz:Int)),Go (.int (f:Int)),Go (.loc a),Go (.loc b),Go (.loc c),Go (.int 6),Go (.int (j:Int)),Go (.loc bg),Go (G4 (x,js))] h3:=by
   intro x js h3 g hx es fx;obtain⟨ca3,cb3,cc3,bx3,ho3⟩:=keep h3 g;have hj:∀j∈js,j<R.length:=by rw[<-qb];exact Pa es
   have jl:js.length=(xr x).length:=by have:=congrArg Rb es;rw[Bo,Bo]at this;exact this
   have bad:¬(PK 0 (frc R) x (js.map (Hl rs))<=6/\PK 1 (frc R) x (js.map (Hl ws))<=60)->(aY (bL (cO (aj (mC (.str "join")) (aj (mC (.int 0)) (aj (HN WW (aj (mC (.int 1)) (aj (Ah Fo (aA 2) (mC (.int 1))) aG))) aG)))) (kI 9))
    (aY (c7 (jW bG (aA 4) (aj (aJ re E (aj (aA 3) (aj (aA 4) (aj (aA 9) (aj (mC (.int 0)) aG))))) aG)))
    (aY (c7 (jW bG (aA 5) (aj (aJ re E (aj (aA 3) (aj (aA 5) (aj (aA 9) (aj (mC (.int 1)) aG))))) aG)))
    (c7 (jW bG (aA 3) (aj (aA 9) aG)))))) {nx:=N,rt:=λw h'=>jy true h w h' Q} [Go (.kls (ns.map .int)),Go (.int (sz:Int)),Go (.int (f:Int)),Go (.loc a),Go (.loc b),Go (.loc c),Go (.int 6),Go (.int (j:Int)),Go (.loc bg),Go (G4 (x,js))] h3:=λn=>by
    have nf:¬R.length<f:=λz=>n (by
     have e0:=fx.mpr z;subst e0;have:frc R=R.length:=by have:=pQ D R.length (Cm _) (QX z);rwa[J8]at this
     unfold PK;rw[if_pos rfl,if_pos rfl,this];show max 0 _<=6/\max 1 _<=60;split<;>decide)
    refine aM<|aW<|cZ<|ao<|aX<|ao<|aX<|ao<|cB<|ao<|aX<|ao<|aH<|aq rfl<|aX<|rF<|aB<|UL<|aB<|bR rfl<|nV<|bI ?_
    rw[if_neg (by lia)];have f0:=D.free (i:=0) (by lia) (by lia);have f1:=D.free (i:=1) (by lia) (by lia);have q0:=D.row 0 _ _ f0;have q1:=D.row 1 _ _ f1;have c0:=pQ D 0 (by lia) (by lia);have c1:=pQ D 1 (by lia) (by lia);have r0:Hl rs 0=0:=by rw[q0.rr,c0];rfl
    have r1:Hl rs 1=0:=by rw[q1.rr,c1];rfl
    have w0:Hl ws 0=1:=by rw[q0.ww,c0];rfl
    have w1:Hl ws 1=1:=by rw[q1.ww,c1];rfl
    refine app (x := "join") (js:=[0,1]) g (by decide) ?_ ⟨λz=>absurd z<|by decide,λz=>absurd z nf⟩ ?_ ?_;unfold Mq;simp only[Hz,V5,Hf,f0,f1];rfl;rw[Hz,Hz,V5,r0,r1];exact Ow rfl;rw[Hz,Hz,V5,w0,w1];exact Ow rfl
   refine aM<|bU<|Qn<|aZ<|aH<|aL<|ao<|aq rfl<|ao<|aq rfl<|ao<|aq rfl<|ao<|aX<|aB ?_
   refine hw (fsr:=0) ca3 cb3 l100 D.les.1 (by rw[D.lr];exact hj) jl hx<|aq rfl<|sW<|iu ?_
   refine sZ (λz=>tU rfl<|bad λy=>?_) λz=>?_;have y1:PK 0 (frc R) x (js.map λj=>rs.getD j 0)<=6:=y.1;lia;refine aZ<|aH<|aL<|ao<|aq rfl<|ao<|aq rfl<|ao<|aq rfl<|ao<|aX<|aB ?_
   refine hw (fsr:=1) ca3 cc3 l100 D.les.2 (by rw[D.lw];exact hj) jl hx<|aX<|sW<|iu ?_
   refine sZ (λz=>bad λy=>?_) λy=>bH<|bI ?_
   have y1:PK 1 (frc R) x (js.map λj=>ws.getD j 0)<=60:=y.2;lia;exact app g hx es fx (show PK 0 (frc R) x (js.map λj=>rs.getD j 0)<=6 by lia)<|show PK 1 (frc R) x (js.map λj=>ws.getD j 0)<=60 by lia
  refine aM<|bU<|Gg<|aZ<|aH<|aH<|aq rfl<|aX<|bA (ws:=.str x::js.map λj:Nat=>W.int (j:Int)) rfl ou<|aX<|eY<|iu ?_
  by_cases xo:x = "other"
  ·subst xo;refine tU (decide_eq_true rfl)<|aZ<|aH<|aL<|ao<|aq rfl<|ao<|aX<|aB ?_
   refine hd bg2 (by decide) (by unfold Sm;decide) λd h4 d0 d1 bg4 o4=>aX<|sW<|iu ?_
   have gr4:=gr2.trans o4.gr;refine sZ (λdp=>?_) λ_=>bH<|bI<|chk gr4 hx es fx
   obtain⟨ca4,cb4,cc4,bx4,ho4⟩:=keep h4 gr4;have jl:js.length=3:=by have:=congrArg Rb es;rw[Bo,Bo]at this;exact this
   obtain⟨q,p,l,rfl⟩:=afo jl;have es':[(Mq R)[q]?,(Mq R)[p]?,(Mq R)[l]?]=([Go "curve",Go "spot",Go "spot"]:List (Option Str)):=es;injection es' with eq es'
   injection es' with ep es'
   injection es' with el _
   have eq':=eq;unfold Mq at eq';rw[Hf]at eq';obtain⟨⟨y,is⟩,ey,sy⟩:=S8.mp eq';have sy:lV y=("curve" : Str):=sy;have K:=D.row q y is ey;have yc:y = "curve":=by
    have wd:=K.wd;unfold Nv at wd;simp only[Kz,V4,or_false]at wd;rcases wd with rfl|rfl|rfl|rfl|rfl|rfl|rfl<;>first|rfl|exact absurd sy (by decide)
   subst yc;have il:is.length=5:=by have:=congrArg Rb K.ss;rw[Bo,Bo]at this;exact this
   have isp:∀(i j:Nat),is[i]?=Go j->(Mq R)[j]?=Go ("spot" : Str):=λi j e=>by
    have:=congrArg (λl=>l[i]?) K.ss
    simp only[Hf,e,Yr]at this;have i5:i<5:=by rw[<-il];exact(Lx.mp e).1
    match i,i5 with
    | 0,_=>exact IV this
    | 1,_=>exact IV this
    | 2,_=>exact IV this
    | 3,_=>exact IV this
    | 4,_=>exact IV this
   have va4:view h4 (.loc a)=Go (R.map G4):=by simp only[view,dF,ca4]
   refine aM<|aW<|cZ<|ao<|aX<|ao<|aH<|aq rfl<|aX<|bA (w:=.int (q:Int)) (ws:=.str "other"::[q,p,l].map λj:Nat=>W.int (j:Int)) rfl (Oh _ _ 0 rfl) ?_
   refine ao<|aH<|aH<|aq rfl<|aH<|aq rfl<|aX<|bA (w:=.int (q:Int)) (ws:=.str "other"::[q,p,l].map λj:Nat=>W.int (j:Int)) rfl (Oh _ _ 0 rfl) ?_
   refine bA (w:=G4 ("curve",is)) va4 (bB (by rw[Hf,ey];rfl))<|aH<|aX<|aL<|ao<|aq rfl<|ao<|aX<|aB ?_
   refine hd bg4 (by decide) (by unfold Sm;decide) λe h5 e0 e1 bg5 o5=>gD ?_;have gr5:=gr4.trans o5.gr;obtain⟨en,rfl⟩:=Yn e0;have hen:en<is.length:=by lia
   have ge:is[en]?=Go is[en]:=Hw hen;rw[show(1:Int)+((en:Nat):Int)=((en+1:Nat):Int)from by lia];refine bA (w:=.int (is[en]:Int)) (ws:=.str "curve"::is.map λj:Nat=>W.int (j:Int)) rfl (Oh _ _ en ge) ?_;refine ao<|aH<|aq rfl<|aX<|bA (w:=.int (l:Int)) (ws:=.str "other"::[q,p,l].map λj:Nat=>W.int (j:Int)) rfl (Oh _ _ 2 rfl)<|aB<|bR rfl<|nV<|bI ?_
   refine chk (x := "other") (js:=[q,is[en],l]) gr5 (by decide) ?_ fx;show[(Mq R)[q]?,(Mq R)[is[en]]?,(Mq R)[l]?]=([Go "curve",Go "spot",Go "spot"]:List (Option Str));rw[eq,isp en _ ge,el]
  refine nA (decide_eq_false xo)<|nY<|bH<|bI<|chk gr2 hx es fx
 rintro σ h' ⟨R,rs,ws,a7,a8,a9,D,pl,ca,cb,cc,bx,ho⟩;rw[aav]at pl;refine bI ?_;unfold jw;exact bF<|aq rfl<|fV ⟨λm c hm e=>by rw[ho m hm];exact e,.inr ⟨a,R.map G4,rfl,by lia,ca,wC _ _,k R rs ws D pl⟩⟩
def Qe.up {r}{Y}{S ws O k}(K:Qe f R Fs rs ws k)(q:r[k]?=R[k]?)(o:∀j,j<=k->atF Y j=atF Fs j)(n:∀j,j<=k->Hl S j=Hl rs j)(m:∀j,j<=k->Hl O j=Hl ws j):Qe f r Y S O k:=by
 have J:=Cm k;cases K with
 | free a b c d e=>exact .free a (q.trans b) ((o k J).trans c) ((n k J).trans d) ((m k J).trans e)
 | @made x js a b c d e g h i l=>
  have p:=Q6 λj U=>o j (QX (d j U))
  have mr:=Q6 λj U=>n j (QX (d j U))
  exact .made a (q.trans b) c d (by rw[p,o k J];exact e) (by rw[p,mr,n k J];exact g) (by rw[(Q6 λj U=>m j<|QX<|d j U),m k J];exact h) (m k J ▸ i)<|mr ▸ l
structure Ma (f:Nat) (R:List JX) (Fs:List Fu) (rs ws:List Nat):Prop where
 lf:Fs.length=R.length
 lr:rs.length=R.length
 lw:ws.length=R.length
 row:∀k,k<R.length->Qe f R Fs rs ws k
def Ma.app {ws}(B:Ma f R Fs rs ws){p o}{w}(K:Qe f (R++[p]) (Fs++[o]) (rs++[P]) (ws++[w]) R.length):Ma f (R++[p]) (Fs++[o]) (rs++[P]) (ws++[w]):=by
 refine⟨by rw[JK,JK,B.lf];rfl,by rw[JK,JK,B.lr];rfl,by rw[JK,JK,B.lw];rfl,λk O=>?_⟩;rw[JK]at O;by_cases c:k<R.length
 exact(B.row k c).up (QF c) (λj J=>cR (by rw[B.lf];lia)) (λj J=>cR (by rw[B.lr];lia)) (λj J=>cR (by rw[B.lw];lia));grind
def jE {J:Type}(R)(p:J):(R++[p])[R.length]?=Go p:=by simp_all
def Ma.snoc {ws}(B:Ma f R Fs rs ws){o}{w}(d:f<=R.length)(b:x ≠ "free")(O:∀j∈js,j<R.length)(Y:RF x (js.map (atF Fs)) o)(a:Rd (2*(f-4)) x (js.map (Hl rs)) (js.map (atF Fs)) P)(e:w=rc x (js.map (Hl ws)))(S:w<=100)(c:x = "other"->rc x (js.map (Hl rs))<=6):Ma f (R++[(x,js)]) (Fs++[o]) (rs++[P]) (ws++[w]):=by
 refine B.app ?_;have U:js.map (atF (Fs++[o]))=js.map (atF Fs):=iI (B.lf ▸ O);have mr:js.map (Hl (rs++[P]))=js.map (Hl rs):=iI (B.lr ▸ O);have h:atF _ _=o:=cj B.lf.symm;have g:Hl _ _=P:=cj B.lr.symm;have J:Hl _ _=w:=cj B.lw.symm;exact .made d (jE ..) b O (by rw[U,h];exact Y) (by rw[U,mr,g];exact a) (by rw[(iI<|B.lw ▸ O),J];exact e) (by rwa[J])<|mr ▸ c
def Ma.free {f:Nat}{R:List JX}{Fs:List Fu}{rs ws:List Nat}(B:Ma f R Fs rs ws)(J:R.length<f):Ma f (R++[(("free" : Str),([]:List Nat))]) (Fs++[Uk R.length]) (rs++[if R.length<4 then 0 else 1]) (ws++[1]):=
 B.app (.free J (jE ..) (cj B.lf.symm) (cj B.lr.symm) (cj B.lw.symm))
def gA {J:Type}{l:List J}{d}(h:j<m):(l.take m).getD j d=l.getD j d:=by simp_all
def Ma.take {f}{R}{Fs}{rs ws}(B:Ma f R Fs rs ws)(m):Ma f (R.take m) (Fs.take m) (rs.take m) (ws.take m):=by
 refine⟨by rw[Ou,Ou,B.lf],by rw[Ou,Ou,B.lr],by rw[Ou,Ou,B.lw],λk O=>?_⟩;rw[Ou]at O;exact(B.row k<|by lia).up (by rw[List.getElem?_take,if_pos<|by lia]) (λj J=>gA<|by lia) (λj J=>gA<|by lia) (λj J=>gA<|by lia)
abbrev Kd (s:Str):Fu->Prop
 | .t _=>s ≠ "curve"
 | .c _=>s = "curve"
inductive Kds:List Str->List Fu->Prop
 | nil:Kds [] []
 | cons {s:Str}{F:Fu}{ss:List Str}{Fs:List Fu}:Kd s F->Kds ss Fs->Kds (s::ss) (F::Fs)
def Ij {s F}(h:Kd s F)(n:s ≠ "curve"):∃G,F=.t G:=by
 cases F with
 | t G=>exact⟨G,rfl⟩
 | c G=>exact absurd h n
def aen {F}(h:Kd "curve" F):∃G,F=.c G:=by
 cases F with
 | t G=>exact absurd rfl h
 | c G=>exact⟨G,rfl⟩
def RF.ex (O:x∈Nv)(S:x ≠ "free")(k:Kds (xr x) Fs):∃o,RF x Fs o/\Kd (lV x) o:=by
 have ns:("spot" : Str) ≠ "curve":=by decide
 have J:("line" : Str) ≠ "curve":=by decide
 unfold Nv at O;simp only[Kz,V4,or_false]at O;rcases O with rfl|rfl|rfl|rfl|rfl|rfl|rfl
 exact absurd rfl S;obtain _|⟨k1,_|⟨k2,_|_⟩⟩:=k
 obtain⟨_,rfl⟩:=Ij k1 ns;obtain⟨_,rfl⟩:=Ij k2 ns;exact⟨_,.join<|.inl rfl,show lV "join" ≠ "curve" by decide⟩;obtain _|⟨k1,_|⟨k2,_|_⟩⟩:=k
 obtain⟨_,rfl⟩:=Ij k1 J;obtain⟨_,rfl⟩:=Ij k2 J;exact⟨_,.join<|.inr rfl,show lV "meet" ≠ "curve" by decide⟩;obtain _|⟨k1,_|⟨k2,_|⟨k3,_|⟨U,_|⟨k5,_|_⟩⟩⟩⟩⟩:=k
 obtain⟨_,rfl⟩:=Ij k1 ns;obtain⟨_,rfl⟩:=Ij k2 ns;obtain⟨_,rfl⟩:=Ij k3 ns;obtain⟨_,rfl⟩:=Ij U ns;obtain⟨_,rfl⟩:=Ij k5 ns;exact⟨_,.curve,show lV "curve" = "curve" by decide⟩;obtain _|⟨k1,_|⟨k2,_|_⟩⟩:=k
 obtain⟨_,rfl⟩:=aen k1;obtain⟨_,rfl⟩:=Ij k2 ns;exact⟨_,.about,show lV "about" ≠ "curve" by decide⟩;obtain _|⟨k1,_|⟨k2,_|_⟩⟩:=k
 obtain⟨_,rfl⟩:=aen k1;obtain⟨_,rfl⟩:=Ij k2 J;exact⟨_,.pole,show lV "pole" ≠ "curve" by decide⟩;have k:Kds ["curve", "spot", "spot"] Fs:=k;obtain _|⟨k1,_|⟨k2,_|⟨k3,_|_⟩⟩⟩:=k
 obtain⟨_,rfl⟩:=aen k1;obtain⟨_,rfl⟩:=Ij k2 ns;obtain⟨_,rfl⟩:=Ij k3 ns;exact⟨_,.other,show lV "other" ≠ "curve" by decide⟩
def T8 {Fs:List Fu}{ss0:List Str}(J:∀j s,j<Fs.length->ss0[j]?=Go s->Kd s (atF Fs j)):∀{js:List Nat}{ss:List Str},(∀j∈js,j<Fs.length)->js.map (λj=>ss0[j]?)=ss.map Go->Kds ss (js.map (atF Fs))
 | [],[],_,_=>.nil
 | j::js,s::ss,O,e=>by
  injection e with e1 e2
  exact .cons (J j s (O j<|Q0 ..) e1)<|T8 J (λj h=>O j<|Lq _ h) e2
def Nr.dwf {ws}(N:Nr f R rs ws):∃Fs,Ma f R Fs rs ws:=by
 have O:∀i,i<=R.length->∃Fs,Ma f (R.take i) Fs (rs.take i) (ws.take i)/\∀j s,j<i->(Mq R)[j]?=Go s->Kd s (atF Fs j):=by
  intro i;induction i with
  | zero=>exact λ_=>⟨[],⟨rfl,rfl,rfl,λk w=>absurd w (Ry _)⟩,λj _ h=>absurd h (Ry _)⟩
  | succ i v=>
   intro hi;obtain⟨Fs,B,kd⟩:=v (by lia);have S:(R.take i).length=i:=by rw[Ou];lia
   obtain⟨x,js,e⟩:∃x js,R[i]?=Go (x,js):=⟨_,_,Hw (by lia)⟩
   have K:=N.row i x js e;have A:rs[i]?=Go (Hl rs i):=by unfold Hl;rw[KD,Hw (by rw[N.lr];lia)];rfl
   have y:ws[i]?=Go (Hl ws i):=by unfold Hl;rw[KD,Hw (by rw[N.lw];lia)];rfl
   have Y:Fs.length=i:=B.lf.trans S;have p:R.take (i+1)=R.take i++[(x,js)]:=by rw[Ik,e];rfl
   have n:rs.take (i+1)=rs.take i++[Hl rs i]:=by rw[Ik,A];rfl
   have tw:ws.take (i+1)=ws.take i++[Hl ws i]:=by rw[Ik,y];rfl
   have U:∀o,Kd (lV x) o->∀j s,j<i+1->(Mq R)[j]?=Go s->Kd s (atF (Fs++[o]) j):=λo b j s a es=>by
    by_cases c:j<i
    rw[show atF (Fs++[o]) j=atF Fs j from cR (by rw[Y];exact c)];exact kd j s c es;have:j=i:=by lia
    subst this;rw[show atF (Fs++[o]) j=o from cj Y.symm];unfold Mq at es;rw[Hf,e]at es;cases es;exact b
   have mr:js.map (Hl (rs.take i))=js.map (Hl rs):=Q6 λj a=>gA (K.lt j a)
   have u:js.map (Hl (ws.take i))=js.map (Hl ws):=Q6 λj a=>gA (K.lt j a)
   rw[p,n,tw];by_cases J:x = "free"
   subst J;have d:=K.fr.mp rfl;have C:js=[]:=by
    have:=N.free d (by lia)
    rw[e]at this;exact congrArg Prod.snd<|IV this
   subst C;have g:=pQ N i (by lia) (by lia);have k:=B.free (by rw[S];exact d);rw[S]at k;have t:Hl rs i=if i<4 then 0 else 1:=by
    rw[K.rr,g];show max 0 (if 3<i then 1 else 0)=_;split<;>split<;>lia
   have m:Hl ws i=1:=by
    rw[K.ww,g];show max 1 (if 3<i then 1 else 0)=_;split<;>rfl
   rw[t,m];refine⟨_,k,U _ ?_⟩;unfold Uk;split<;>exact show lV "free" ≠ "curve" by decide
   obtain⟨o,r,b⟩:=RF.ex K.wd J (T8 (Fs:=Fs) (ss0:=Mq R) (λj s h=>kd j s (by rw[<-Y];exact h)) (by rw[Y];exact K.lt) K.ss);have e1:Hl rs i=rc x (js.map (Hl rs)):=by rw[K.rr];unfold PK;rw[if_neg J]
   have e2:Hl ws i=rc x (js.map (Hl ws)):=by rw[K.ww];unfold PK;rw[if_neg J]
   have D:=K.r6;have l:=K.w60;refine⟨_,B.snoc (o:=o) (by rw[S];exact Nat.le_of_not_lt λz=>J<|K.fr.mpr z) J (by rw[S];exact K.lt) r ⟨by lia,.inl (by rw[mr,<-e1];exact Cm _)⟩ (by rw[u];exact e2) (by lia) (λ_=>by rw[mr,<-e1];lia),U o b⟩
 obtain⟨Fs,B,_⟩:=O R.length (Cm _);rw[J8,<-N.lr,J8,N.lr,<-N.lw,J8]at B;exact⟨Fs,B⟩
def Ma.rw_get {ws}(B:Ma f R Fs rs ws){k}(J:k<R.length):∃x js,R[k]?=Go (x,js)/\(x = "free"↔k<f):=by
 cases B.row k J with
 | free a b _ _ _=>exact⟨_,_,b,λ_=>a,λ_=>rfl⟩
 | made a b c _ _ _ _ _ _=>exact⟨_,_,b,λe=>absurd e c,λh=>absurd h (by lia)⟩
def Ma.fr {ws}(B:Ma f R Fs rs ws)(S:f<=R.length)(l:R.length<=100):FR f (R.map G4):=by
 refine⟨by rwa[Bo],λw O=>?_,by rwa[Bo],λj J=>?_⟩;obtain⟨p,_,rfl⟩:=Hr.mp O;exact⟨_,_,rfl⟩;rw[Bo]at J;obtain⟨x,js,e,i⟩:=B.rw_get J;have:(R.map G4).getD j .non=G4 (x,js):=by rw[KD,Hf,e];rfl
 rw[this,<-i];show(x == "free")=true↔_;rw[beq_iff_eq]
def Ef {c}:∀n,(J4 n [W.int c]).flatten=(J4 n c).map .int
 | 0=>rfl
 | n+1=>by
  rw[List.replicate_succ,List.flatten_cons,Ef n];rfl
def adQ {c}(J:L<=8)(q:Q (.tup ((J4 L c).map .int)) h):Q9 (.tup [.int c]) (.int (L)) h Q:=by
 have O:=by lia
 refine⟨⟨by lia,by lia,by simp;lia⟩,?_⟩
 rwa[Ef]
abbrev adM (L:Nat):List Tm:=[(J4 L 0,1)]
abbrev acN (c0:Aq):Prop:=∀{h:Gh}{L:Nat}{Q:WK}{E:Bt},L<=2->Q (Ce (adM L)) h->c0 [.int (L:Int)] h Q E
def acZ:acN MK:=by
 intro h L Q E J q;exact d8 rfl rfl<|bF<|cZ<|ao<|cZ<|ao<|aH<|cZ<|ao<|aX<|aB<|bR rfl<|aq rfl<|adQ (by lia)<|ao<|aX<|aB<|bR rfl<|aB<|bR rfl<|fV q
abbrev afD (c0:Aq):Prop:=∀{h:Gh}{us:List Tm}{Q:WK}{E:Bt},us.length<=100->(∀t∈us,Sm 8000 t.2)->Q (Ce us) h->c0 [Ce us,.int 1] h Q E
def ad8:afD T6:=by
 intro h us Q E U O q;refine d8 rfl rfl<|bF<|cB<|ao<|iD<|iB<|aq rfl<|tQ rfl<|fG.mk (HW (by rw[Bo];lia)<|by decide) ?_
 refine cU (λi acc g=>g=h/\acc=(us.take i).map J7) ?_ ?_ ⟨rfl,rfl⟩;rintro i w acc g N S e ⟨rfl,rfl⟩;rw[Hf]at e;obtain⟨t,J,rfl⟩:=S8.mp e;refine⟨[J7 t],rfl,dB<|cH<|cZ<|ao<|aH<|aq rfl<|aX<|bA rfl rfl ?_⟩;refine ao<|aH<|aH<|aq rfl<|aX<|bA rfl rfl<|aq rfl<|oN (pJ.of (O t<|O5 J) (Sm.lit rfl) (by decide)<|by decide)<|aB<|bR rfl<|S _ _ ⟨rfl,?_⟩
 rw[Ik,J,IK,Int.mul_one];rfl;rintro acc g ⟨rfl,rfl⟩;rw[Bo,J8];exact fV q
abbrev af4 (c0:Aq):Prop:=∀{h:Gh}{f:Nat}{R:List JX}{Fs:List Fu}{rs ws:List Nat}{Q:WK}{E:Bt},Ma f R Fs rs ws->f=4\/f=5->f<=R.length->R.length<=100 ->
 (∀(n:Nat) (Ts:List (List (List Tm))) (es:List W) (g:Gh),SX (2*(f-4)) Fs rs ws R.length Fs Ts->Ent Ts es->g.c n=Go (.lst es)->h.nx<=n->n<g.nx->(∀m,m<h.nx->g.c m=h.c m)->Q (.loc n) g)->c0 [.lst (R.map G4),.non] h Q E
def CN (h:∀j∈js,j<i):js.map (atF (Fs.take i))=js.map (atF Fs):=Q6 λj J=>gA (h j J)
def zcd (x:Q (.bl (!QG w)) h):J6 w .non h Q:=by cases w<;>exact x
def zbU {lc ft ra on C}(L:LcX lc)(X:FtX ft)(H:RaX ra)(K:acN on)(v:afD C):af4 (xW lc ft ra dr on C):=by
 intro h f R Fs rs ws Q E B z hf l q;have hF:=B.fr hf l;refine d8 rfl (σ:=[Go<|.lst<|R.map G4,Go .non,JI,JI,JI,JI,JI]) rfl ?_;refine aM<|aW<|gW (ws:=[]) (λR=>rfl) rfl λg1 a1 b1 c1=>nV<|bI ?_
 refine aM<|aW<|gW (ws:=[]) (λR=>rfl) rfl λg2 a2 b2 c2=>nV<|bI ?_
 obtain⟨T,eT⟩:∃P,P=h.nx:=⟨_,rfl⟩
 obtain⟨P,eP⟩:∃M,M=g1.nx:=⟨_,rfl⟩
 rw[<-eT]at a1 b1 c1|-
 rw[<-eP]at a2 b2 c2|-
 refine L hF z<|aB<|K (by lia)<|nV<|bI ?_
 refine aM<|oE<|lC<|ao<|cB<|ao<|aq rfl<|aB<|dD (xs:=R.map G4) rfl ?_
 rw[Bo];refine aB<|BR (m:=R.length) (by lia)<|oO ?_
 refine eU (λi σ h'=>∃(F s6:Option W) (Ts:List (List<|List Tm)) (es:List W),σ=[Go<|.lst<|R.map G4,Go .non,Go<|.loc T,Go<|.loc P,Go<|Ce<|adM<|2*(f-4),F,s6]/\h'.c T=Go (.lst<|Ts.map tW)/\h'.c P=Go (.lst es)/\Ent Ts es/\SX (2*(f-4)) Fs rs ws i (Fs.take i) Ts/\P<h'.nx/\∀n,n<h.nx->h'.c n=h.c n) ?_ ?_ ?_
 ·rintro i w σ h' N hN e ⟨F,s6,Ts,es,rfl,a,U,D,st,k,b⟩;rw[Hf]at e;obtain⟨p,ep,rfl⟩:=S8.mp e;obtain⟨ei,hi⟩:=lH ep;rw[Xh]at ei;subst ei;have hp:p<R.length:=by simpa using hi
  have lE:es.length=p:=by rw[D.1,st.lt]
  have lT:Ts.length=p:=st.lt;have tk:Fs.take (p+1)=Fs.take p++[atF Fs p]:=by
   have:Fs[p]?=Go (atF Fs p):=by unfold atF;rw[KD,Hw (by rw[B.lf];exact hp)];rfl
   rw[Ik,this];rfl
  have d:∀{S:List (List Tm)}{u:W}{g:Gh}{s6:Option W},Tz (2*(f-4)) (Hl rs p) (Hl ws p) (atF Fs p) S->Hl rs p<=6->g.c T=Go (.lst (Ts.map tW))->g.c P=Go (.lst (es++[.tup [tW S,u]]))->P<g.nx->(∀n,n<h.nx->g.c n=h.c n) ->
    c7 (jW bG (aA 2) (aj (Ah Bh (Ah Bh (aA 3) (aA 5)) (mC (.int 0))) aG)) {nx:=N,rt:=λw h'=>jy false h w h' Q} [Go (.lst (R.map G4)),Go .non,Go (.loc T),Go (.loc P),Go (Ce (adM (2*(f-4)))),Go (.int (p:Int)),s6] g:=by
   intro S u g s6 Y r7 a U nx b;refine dG<|dR<|aq rfl<|cL a<|ao<|aH<|aH<|aq rfl<|aq rfl<|bA (w:=.tup [tW S,u]) (ws:=es++[.tup [tW S,u]]) (by simp only[view,dF,U]) (bB ?_)<|aX<|bA (w:=tW S) (ws:=[tW S,u]) rfl rfl<|aB ?_
   rw[<-lE];exact jE ..;refine jt a (by rw[Bo];lia) λg3 a3 b3 c3=>bI<|hN _ _ ⟨_,_,Ts++[S],es++[.tup [tW S,u]],rfl,by rw[a3,IK];rfl,by rw[b3 P<|by lia];exact U,D.snoc S u,?_,by lia,λn c=>by rw[b3 n<|by lia];exact b n c⟩
   rw[tk];exact st.snoc (q:=λ_=>1) Y r7 (Lk.one _ _) λ_ _=>Int.one_ne_zero
  refine nV<|aM<|bU<|aZ ?_
  cases B.row p hp with
  | free kf er e1 e2 e3=>
   have O:(R.map G4)[p]?=Go (G4 ("free",[])):=by rw[Hf,er];rfl
   refine aH<|aH<|aH<|aq rfl<|aq rfl<|bA (ws:=R.map G4) rfl (bB O)<|aX<|bA (ws:=[.str "free"]) (w:=.str "free") rfl ou<|aX<|eY<|iu ?_
   refine tU (by decide)<|dG<|dR<|aq rfl<|cL U<|ao<|cZ<|ao<|aL<|ao<|aq rfl<|ao<|aq rfl<|aB ?_
   refine X hF z kf λS Y=>ao<|aq rfl<|aB<|bR rfl<|aB ?_
   refine jt U (by lia) λg3 a3 b3 c3=>bI (d (S:=S) (by rw[e1,e2,e3];exact Y) (by rw[e2];split<;>lia) (by rw[b3 T<|by lia];exact a) a3 (by lia) λn c=>by rw[b3 n<|by lia];exact b n c)
  | @made y r fk er nf G rf rd e3 w100 ho=>
   have O:(R.map G4)[p]?=Go (G4 (y,r)):=by rw[Hf,er];rfl
   refine aH<|aH<|aH<|aq rfl<|aq rfl<|bA (ws:=R.map G4) rfl (bB O)<|aX<|bA (ws:=.str y::r.map λj:Nat=>W.int (j:Int)) rfl ou<|aX<|eY<|iu ?_
   refine nA (decide_eq_false nf)<|aM<|aW<|aX<|nV<|bI ?_
   refine aM<|bU<|aZ<|aH<|aq rfl<|aX<|zcd<|iu<|nA rfl<|bH<|bI ?_
   refine dG<|dR<|aq rfl<|cL U<|ao<|cZ<|ao<|cB<|ao<|iD<|iB<|aL<|ao<|aq rfl<|ao<|aq rfl<|ao<|aq rfl<|aB ?_
   have et:r.map (λj=>(Ts.map tW)[j]?)=(r.map λj=>Ts.getD j []).map λT=>Go (tW T):=by
    rw[Ky];refine Q6 λj J=>?_;have V:j<Ts.length:=by rw[st.lt];exact G j J
    show(Ts.map tW)[j]?=Go (tW (Ts.getD j []));rw[Hf,KD,Hw V];rfl
   have I:=rd.1;have tl:=st.tl G;rw[CN G]at tl;refine H (x:=y) (js:=r) rfl O (by simp only[view,dF,a]) et tl rf rd (by rw[<-e3];lia) λS Y=>?_;have ms:=Y.mbs;rw[<-e3]at Y;refine tQ (ws:=S.map Ce) (o:=JI) rfl<|fG.mk (HW (m:=1000) (by rw[Bo];lia)<|by decide) ?_
   refine cU (λj acc g=>g=h'/\acc=(S.take j).map Ce) ?_ ?_ ⟨rfl,rfl⟩;rintro j w acc g N2 Z e2 ⟨rfl,rfl⟩;rw[Hf]at e2;obtain⟨s,A,rfl⟩:=S8.mp e2;have mb:=ms.2.2.2 s (O5 A);refine⟨[Ce s],rfl,dB<|cH<|aL<|ao<|aq rfl<|ao<|aq rfl<|aB ?_⟩;refine v (by have:=mb.1;lia) (λt ht=>(mb.2.2 t ht).2.2.1.mono (by lia))<|Z _ _ ⟨rfl,?_⟩
   rw[Ik,A,IK];rfl;rintro acc g ⟨rfl,rfl⟩;rw[Bo,J8];refine aB<|eZ<|ao<|aL<|ao<|aq rfl<|ao<|aq rfl<|aB ?_
   refine v (us:=adM (2*(f-4))) (show 1<=100 by decide) (λt ht=>by rw[QW.mp ht];exact(Sm.lit (i:=1) rfl).mono (by decide))<|aB<|bR rfl<|aB ?_
   refine jt U (by lia) λg3 a3 b3 c3=>bI (d (S:=S) Y I (by rw[b3 T<|by lia];exact a) a3 (by lia) λn c=>by rw[b3 n<|by lia];exact b n c)
 rintro σ h' ⟨F,s6,Ts,es,rfl,a,U,D,st,k,b⟩;rw[aav]at st;rw[<-B.lf,J8,B.lf]at st;refine bI ?_;unfold qK;refine bF<|aq rfl<|fV ?_
 exact q P Ts es h' st D U (by lia) k b;exact⟨JI,JI,[],[],rfl,by rw[b2 T<|by lia];exact a1,a2,⟨rfl,λj J=>absurd J<|Ry _⟩,⟨rfl,rfl,λj J=>absurd J<|Ry _,λj J=>absurd J<|Ry _,λj J=>absurd J<|Ry _⟩,by lia,λn c=>by rw[b2 n<|by lia,b1 n<|by lia]⟩
abbrev acB (c0:Aq):Prop:=∀{h:Gh}{f:Nat}{R:List JX}{Fs:List Fu}{rs ws:List Nat}{J:W}{Q:WK}{E:Bt},Ma f R Fs rs ws->f=4\/f=5->f<=R.length->R.length<=100 ->
 (∀m,f<=m->m<=R.length->(∀k,k<m->f<=k->Dn (2*(f-4)) R Fs k)->Q (.lst ((R.take m).map G4)) h)->c0 [.lst (R.map G4),J] h Q E
def zbT {ws:List Nat}(st:SX (2*(f-4)) Fs rs ws R.length Fs Ts)(J:∀j∈js,j<R.length):js.map (λj=>(Ts.map tW)[j]?)=(js.map λj=>Ts.getD j []).map λT=>Go (tW T):=by
 rw[Ky];refine Q6 λj O=>?_;show _[j]?=Go (tW (Ts.getD j []));rw[Hf,KD,Hw (st.lt ▸ J j O)];rfl
def w_head {pa}(hti:TiX ti)(hpa:af4 pa):acB (Dr ti pa):=by
 intro h f R Fs rs ws fv Q E B h45 hf l100 q;refine mJ rfl (σ:=[Go<|.lst<|R.map G4,Go fv,JI,JI,JI]) rfl ?_;refine hpa B h45 hf l100 λn Ts es g st en cn hn nx ko=>nV<|bI ?_
 refine aM<|aW ?_
 refine v7 (own:=JL) rfl cn (by rw[en.1,st.lt];lia) (λj acc=>acc=(Ts.take j).map tW) (λj w acc N2 hN2 ew ea=>?_) (λacc ea=>?_) rfl;have hj:j<Ts.length:=by have:=(Lx.mp ew).1;rw[en.1]at this;exact this
 obtain⟨u,eu⟩:=en.2 j hj;rw[ew]at eu;cases eu;refine⟨[.tup [tW<|Ts.getD j [],u]],rfl,dB<|cH<|aH<|aq rfl<|aX<|bA (ws:=[tW<|Ts.getD j [],u]) (w:=tW (Ts.getD j [])) rfl rfl<|hN2 _ ?_⟩;have eg:Ts[j]?=Go (Ts.getD j []):=by rw[KD,Hw hj];rfl
 rw[ea,Ik,eg,IK];rfl;rw[en.1,J8]at ea;subst ea;refine nV<|bI ?_
 refine aM<|oE<|lC<|ao<|cB<|ao<|aq rfl<|aB<|dD (xs:=R.map G4) rfl ?_
 rw[Bo];refine aB<|BR (m:=R.length) (by lia)<|oO ?_
 refine eU (λi σ h'=>h'=g/\(∃s4:Option W,σ=[Go<|.lst<|R.map G4,Go fv,Go<|.loc n,Go<|.lst<|Ts.map tW,s4])/\∀k,k<i->f<=k->Dn (2*(f-4)) R Fs k) ?_ ?_ ⟨rfl,⟨JI,rfl⟩,λk hk=>absurd hk<|Ry _⟩
 ·rintro i w σ h' N hN e ⟨rfl,⟨s4,rfl⟩,dn⟩;rw[Hf]at e;obtain⟨p,ep,rfl⟩:=S8.mp e;obtain⟨ei,hi⟩:=lH ep;rw[Xh]at ei;subst ei;have hp:p<R.length:=by simpa using hi
  have out:f<=p->(cI (Vr OJ (aA 0) ju (tH (aA 4)))) {nx:=N,rt:=λw h'=>jy true h w h' Q} [Go (.lst (R.map G4)),Go fv,Go (.loc n),Go (.lst (Ts.map tW)),Go (.int (p:Int))] h':=λfp=>by
   show bN.rt _ (.lst (xq (R.map G4) JI (Go (p:Int)))) _;rw[CJ,<-List.map_take];exact⟨λm c hm e=>by rw[ko m hm];exact e,.inl ⟨by simp only[Lo];exact wC _ _,q p fp (QX hp) dn⟩⟩
  have eT:(Ts.map tW)[p]?=Go (tW (Ts.getD p [])):=by rw[Hf,KD,Hw (by rw[st.lt];exact hp)];rfl
  have tz:=st.tz p hp;have r7:=st.r7 p hp;generalize eS:Ts.getD p []=S at tz eT;have ms:=tz.mbs;have nou:(∀s∈S,s=[])↔RW (2*(f-4)) (atF Fs p):=tz.nou r7;refine nV<|aM<|bU<|aZ<|aH<|cB<|ao<|iD<|iB<|aH<|aq rfl<|aq rfl<|bA (w:=tW S) (ws:=Ts.map tW) rfl (bB eT) ?_
  refine tQ (ws:=S.map Ce) (o:=JI) rfl<|fG.mk (HW (m:=1000) (by rw[Bo];lia)<|by decide) ?_
  refine cU (λj acc g=>g=h'/\acc.length<=j/\(acc=[]↔∀s∈S.take j,s=[])) ?_ ?_ ⟨rfl,Cm _,by simp⟩;rintro j w acc g N2 hN2 e2 ⟨rfl,al,ai⟩;rw[Hf]at e2;obtain⟨s,es',rfl⟩:=S8.mp e2;have tk:S.take (j+1)=S.take j++[s]:=by rw[Ik,es'];rfl
  refine⟨[Ce s],rfl,aZ<|aH<|aq rfl<|cZ<|aB<|bR rfl<|Bv (iu ?_)<|Mx s⟩;by_cases c:s=[]
  rw[decide_eq_false (λz=>z c)];refine ur<|hN2 _ _ ⟨rfl,by lia,?_⟩
  rw[tk,ai];exact⟨λz s' hs=>(Wx.mp hs).elim (z s') λe=>(QW.mp e).trans c,λz s' hs=>z s'<|Ri _ hs⟩;rw[decide_eq_true c];refine cH<|aq rfl<|hN2 _ _ ⟨rfl,by rw[JK];exact Nat.succ_le_succ al,?_⟩
  rw[tk];simp[c];rintro acc g' ⟨rfl,al,ai⟩;rw[Bo,J8]at ai;refine aB<|dD (xs:=acc) rfl<|aX<|W2<|iu ?_
  by_cases z:∀s∈S,s=[]
  ·have ea:acc=[]:=ai.mpr z;subst ea;refine tU rfl<|out ?_
   by_cases c:f<=p
   exact c
   ·exfalso;cases B.row p hp with
    | free a _ e _ _=>
     rw[e]at nou;exact alv a (by lia)<|nou.mp z
    | made a _ _ _ _ _ _ _ _=>exact c a
  ·have nn:¬RW (2*(f-4)) (atF Fs p):=λy=>z (nou.mpr y)
   have al:acc.length≠0:=λy=>z (ai.mp (List.length_eq_zero_iff.mp y))
   refine nA (decide_eq_false<|by lia)<|bH<|bI ?_
   have go:(∀js:List Nat,R[p]?=Go (("other" : Str),js)->RT (2*(f-4)) (js.map (atF Fs)))->N [Go (.lst (R.map G4)),Go fv,Go (.loc n),Go (.lst (Ts.map tW)),Go (.int (p:Int))] g':=λt=>
    hN _ _ ⟨rfl,⟨_,rfl⟩,λk hk fk=>by
     by_cases c:k=p
     subst c;exact⟨nn,t⟩;exact dn k (by lia) fk⟩
   refine bU<|Gg<|aZ ?_
   cases B.row p hp with
   | free kf er e1 e2 e3=>
    have er':(R.map G4)[p]?=Go (G4 ("free",[])):=by rw[Hf,er];rfl
    refine aH<|aH<|aH<|aq rfl<|aq rfl<|bA (ws:=R.map G4) rfl (bB er')<|aX<|bA (ws:=[.str "free"]) (w:=.str "free") rfl ou<|aX<|eY<|iu ?_
    refine nA (by decide)<|nY<|bH<|bI<|go λjs e=>?_
    rw[er]at e;cases e
   | @made y is fk er nf lt rf rd e3 w100 ho=>
    have er':(R.map G4)[p]?=Go (G4 (y,is)):=by rw[Hf,er];rfl
    have lt':∀j∈is,j<R.length:=λj hj=>by have:=lt j hj;lia
    refine aH<|aH<|aH<|aq rfl<|aq rfl<|bA (ws:=R.map G4) rfl (bB er')<|aX<|bA (ws:=.str y::is.map λj:Nat=>W.int (j:Int)) rfl ou<|aX<|eY<|iu ?_
    by_cases c:y = "other"
    subst c;refine tU (decide_eq_true rfl)<|aZ<|aH<|aL<|ao<|aq rfl<|ao<|aq rfl<|ao<|aq rfl<|aB ?_
    refine hti (js:=is) rfl er' rfl (zbT st lt') (st.tl lt') rf (ho rfl) (by rw[<-e3];exact w100) λe he=>cZ<|aB<|bR rfl<|Bv (iu ?_)<|Mx e
    refine sZ (λ_=>out fk) λy=>bH<|bI<|go λjs ej=>?_
    rw[er]at ej;cases ej;exact he.mp<|Decidable.not_not.mp y
    refine nA (decide_eq_false c)<|nY<|bH<|bI<|go λjs ej=>?_
    rw[er]at ej;cases ej;exact absurd rfl c
 rintro σ h' ⟨rfl,⟨s4,rfl⟩,dn⟩;rw[aav]at dn;refine bI ?_;unfold uG;refine bF<|aq rfl<|fV ?_
 have:=q R.length hf (Cm _) dn
 rw[J8]at this;exact⟨λm c hm e=>by rw[ko m hm];exact e,.inl ⟨by simp only[Lo];exact wC _ _,this⟩⟩
structure Hs (f:Nat) (R:List JX) (Fs:List Fu) (rs ws:List Nat):Prop where
 b:Ma f R Fs rs ws
 d:∀k,k<R.length->f<=k->Dn (2*(f-4)) R Fs k
abbrev At3 (Fs:List Fu)(rs ws:List Nat)(j:Nat)(F:Fu)(r w:Nat):Prop:=Fs[j]?=Go F/\rs[j]?=Go r/\ws[j]?=Go w
@[reducible]noncomputable def Ea:=Fu×Nat×Nat
structure PB (f n:Nat) (R:List JX) (es:List Ea) (Fs:List Fu) (rs ws:List Nat):Prop where
 h:Hs f R Fs rs ws
 fn:f<=n
 len:R.length=n+es.length
 at':∀i e,es[i]?=Go e->At3 Fs rs ws (n+i) e.1 e.2.1 e.2.2
inductive Q7 (f n:Nat) (es:List Ea):Nat->Fu->Nat->Nat->Prop
 | b {j:Nat}:j<f->Q7 f n es j (Uk j) (if j<4 then 0 else 1) 1
 | e {i:Nat}{F:Fu}{r w:Nat}:es[i]?=Go (F,r,w)->Q7 f n es (n+i) F r w
inductive Ar (f n:Nat) (es:List Ea):List Nat->List Fu->List Nat->List Nat->Prop
 | nil:Ar f n es [] [] [] []
 | cons {j r w:Nat}{F:Fu}{js rs ws:List Nat}{Fs:List Fu}:Q7 f n es j F r w->Ar f n es js Fs rs ws->Ar f n es (j::js) (F::Fs) (r::rs) (w::ws)
variable {es:List Ea}
def PB.lk {ws}(S:PB f n R es Fs rs ws){r w F}(a:Q7 f n es j F r w):j<R.length/\atF Fs j=F/\Hl rs j=r/\Hl ws j=w:=by
 cases a with
 | b h=>
  have J:j<R.length:=by have:=S.len;have:=S.fn;lia
  refine⟨J,?_⟩;cases S.h.b.row j J with
  | free _ _ c d e=>exact⟨c,d,e⟩
  | made a _ _ _ _ _ _ _ _=>lia
 | @e i F r w h=>
  have hi:=(Lx.mp h).1;obtain⟨a,b,c⟩:=S.at' i _ h;refine⟨by have:=S.len;lia,?_,?_,?_⟩;simp_all
  simp_all
  show ws.getD _ _=_;rw[KD,c];rfl
def PB.ar {ws}(S:PB f n R es Fs rs ws){r w}(a:Ar f n es js Gs r w):(∀j∈js,j<R.length)/\js.map (atF Fs)=Gs/\js.map (Hl rs)=r/\js.map (Hl ws)=w:=by
 induction a with
 | nil=>exact⟨λj J=>(by cases J),rfl,rfl,rfl⟩
 | cons l _ O=>
  obtain⟨a,b,c,d⟩:=S.lk l;simp_all
def Rd.of (h:Vx (rc x rs) P=true)(p:Vx P 6=true):Rd L x rs Fs P:=⟨Ow p,.inl (Ow h)⟩
def PB.row {ws}(S:PB f n R es Fs rs ws){r w o}(a:Ar f n es js Gs r w)(nf:x ≠ "free")(rf:RF x Gs o)(rd:Rd (2*(f-4)) x r Gs P)(w100:rc x w<=100)(ho:x = "other"->rc x r<=6):Ma f (R++[(x,js)]) (Fs++[o]) (rs++[P]) (ws++[rc x w]):=by
 obtain⟨lt,e1,e2,e3⟩:=S.ar a;have:=S.fn
 have:=S.len
 exact S.h.b.snoc (by lia) nf lt (e1 ▸ rf) (by rw[e1,e2];exact rd) (by rw[e3]) w100<|e2 ▸ ho
def Ut {ws}(B:Ma f R Fs rs ws){p o}{k}(J:k<R.length)(d:Dn L R Fs k):Dn L (R++[p]) (Fs++[o]) k:=by
 refine⟨by rw[show atF _ k=atF Fs k from cR (B.lf ▸ J)];exact d.1,λjs e=>?_⟩;rw[QF J]at e;have O:∀j∈js,j<Fs.length:=λj S=>by
  rw[B.lf];cases B.row k J with
  | free _ b _ _ _=>rw[b]at e;cases e
  | made _ b _ l _ _ _ _ _=>rw[b]at e;cases e;have:=l j S;lia
 exact iI O ▸ d.2 js e
def PB.put {ws}(S:PB f n R es Fs rs ws){r w o}(a:Ar f n es js Gs r w)(d:x ≠ "free")(U:RF x Gs o)(Y:Rd (2*(f-4)) x r Gs P)(J:rc x w<=100)(O:x ≠ "other")(l:¬RW (2*(f-4)) o):PB f n (R++[(x,js)]) (es++[(o,P,rc x w)]) (Fs++[o]) (rs++[P]) (ws++[rc x w]):=by
 have sl:=S.len;refine⟨⟨(S.row a d U Y J λe=>absurd e O),λk g fk=>?_⟩,S.fn,by rw[JK,JK,S.len];rfl,λi e h=>?_⟩;rw[JK,ZL]at g;by_cases c:k<R.length
 exact Ut S.h.b c<|S.h.d k c fk
 have j:k=R.length:=by lia
 subst j;refine⟨by rwa[show atF _ _=o from cj S.h.b.lf.symm],λjs' e=>?_⟩;rw[jE]at e;cases e;exact absurd rfl O;rcases FP h with h|⟨rfl,rfl⟩
 have hi:=(Lx.mp h).1;obtain⟨a,b,c⟩:=S.at' i e h;exact⟨by rw[QF (by rw[S.h.b.lf];lia)];exact a,by rw[QF (by rw[S.h.b.lr];lia)];exact b,by rw[QF (by rw[S.h.b.lw];lia)];exact c⟩;rw[<-sl];exact⟨S.h.b.lf ▸ jE ..,S.h.b.lr ▸ jE ..,S.h.b.lw ▸ jE ..⟩
abbrev Wh (L:Nat)(x:Str)(Gs:List Fu)(o:Fu):Bool->Prop
 | true=>x = "other"/\¬RT L Gs
 | false=>(x = "other"->RT L Gs)/\RW L o
structure Fin' (f:Nat) (R:List JX) (t:Bool) (Fs:List Fu) (rs ws:List Nat) (m:Nat) (x:Str) (js:List Nat):Prop where
 b:Ma f R Fs rs ws
 len:R.length=m+1
 fm:f<=m
 e:R[m]?=Go (x,js)
 d:∀k,k<m->f<=k->Dn (2*(f-4)) R Fs k
 k:Wh (2*(f-4)) x (js.map (atF Fs)) (atF Fs m) t
 w:(x = "other"/\3<js.getD 1 0)↔t=true
abbrev Fin (f:Nat)(R:List JX):Prop:=∃t Fs rs ws m x js,Fin' f R t Fs rs ws m x js
def PB.fin {ws}(S:PB f n R es Fs rs ws)(t){r w o}(a:Ar f n es js Gs r w)(b:x ≠ "free")(U:RF x Gs o)(Y:Rd (2*(f-4)) x r Gs P)(J:rc x w<=100)(g:x = "other"->rc x r<=6)
  (k:Wh (2*(f-4)) x Gs o t) (e:(x = "other"/\3<js.getD 1 0)↔t=true):Fin f (R++[(x,js)]):=by
 obtain⟨d,e1,e2,e3⟩:=S.ar a;have c:js.map (atF (Fs++[o]))=Gs:=by rw[iI (S.h.b.lf ▸ d),e1]
 have h:atF _ _=o:=cj S.h.b.lf.symm;have:=S.fn
 have:=S.len
 refine⟨t,_,_,_,R.length,x,js,S.row a b U Y J g,by rw[JK];rfl,by lia,jE ..,λk O fk=>Ut S.h.b O<|S.h.d k O fk,?_,e⟩
 rwa[c,h]
@[reducible]noncomputable def Ro:=λ(x:Str) (js:List Nat)=>((x,js):JX)
abbrev vs4 (n:Nat):List (List JX):=[[Ro "join" [0,0]],
 [Ro "join" [0,1],Ro "meet" [n,n]],
 [Ro "join" [0,1],Ro "join" [1,0],Ro "meet" [n,n+1]],
 [Ro "curve" [0,1,2,1,3]],
 [Ro "join" [0,1],Ro "join" [2,3],Ro "meet" [n,n+1],Ro "meet" [n+1,n],Ro "join" [0,1],Ro "curve" [0,1,n+2,n+3,2]],
 [Ro "join" [0,1],Ro "join" [2,3],Ro "meet" [n,n+1],Ro "join" [0,2],Ro "join" [1,3],Ro "meet" [n+3,n+4],Ro "join" [0,3],Ro "join" [1,2],Ro "meet" [n+6,n+7],Ro "join" [n+5,n+8],Ro "meet" [n,n+9],Ro "curve" [0,1,n+2,n+10,2]]]
abbrev vs5 (n:Nat):List (List JX):=[[Ro "join" [0,1],Ro "join" [2,3],Ro "meet" [n,n+1],Ro "curve" [0,1,n+2,2,4],Ro "pole" [n+3,n]],
 [Ro "join" [0,1],Ro "join" [2,3],Ro "meet" [n,n+1],Ro "curve" [0,1,n+2,2,4],Ro "other" [n+3,0,1]],
 [Ro "curve" [0,1,2,3,4],Ro "other" [n,0,0]],
 [Ro "curve" [0,1,2,3,4],Ro "join" [0,1],Ro "join" [2,3],Ro "meet" [n+1,n+2],Ro "other" [n,n+3,0]]]
def vA:∀(v R:List JX),v.foldl (λR p=>R++[p]) R=R++v
 | [],R=>by rw[Yj];rfl
 | p::v,R=>by
  show v.foldl _ _=_;rw[vA v,List.append_assoc];rfl
def agv (v)(e:∀xs,F xs=v)(h:v≠(0,0,0)):¬RW L (.t F):=λz=>by
 have J:QJ L (J4 L 1):=⟨W7 ..,λx J=>by rw[List.eq_of_mem_replicate J];decide⟩
 have:=z _ J
 simp_all
def abz (v:Tr){G:Ft}(e:∀xs,Jo (F xs) (G xs)=v)(h:v≠(0,0,0)):¬RW L (.t λxs=>Jo (F xs) (G xs)):=agv v e h
section
variable {ws:List Nat}
def PB.jn (S:PB f n R es Fs rs ws)(hx:x = "join"\/x = "meet"){q G}(a:Q7 f n es i (.t F) 0 p)(b:Q7 f n es j (.t G) 0 q)(v)(e:∀xs,Jo (F xs) (G xs)=v)(h:v≠(0,0,0))(hw:p+q<=100):PB f n (R++[(x,[i,j])]) (es++[(.t λxs=>Jo (F xs) (G xs),0,p+(q+0))]) (Fs++[.t λxs=>Jo (F xs) (G xs)]) (rs++[0]) (ws++[p+(q+0)]):=by
 rcases hx with rfl|rfl
 exact S.put (.cons a<|.cons b .nil) (by decide) (.join<|.inl rfl) (.of rfl rfl) (show p+(q+0)<=100 by omega) (by decide)<|abz v e h
 exact S.put (.cons a<|.cons b .nil) (by decide) (.join<|.inr rfl) (.of rfl rfl) (show p+(q+0)<=100 by omega) (by decide)<|abz v e h
def PB.jf (S:PB f n R es Fs rs ws)(J:x = "join"\/x = "meet"){q G}(a:Q7 f n es i (.t F) 0 p)(b:Q7 f n es j (.t G) 0 q)(e:∀xs,Jo (F xs) (G xs)=(0,0,0))(O:p+q<=100):Fin f (R++[(x,[i,j])]):=by
 rcases J with rfl|rfl
 exact S.fin false (.cons a<|.cons b .nil) (by decide) (.join<|.inl rfl) (.of (P:=0) rfl rfl) (show p+(q+0)<=100 by omega) nofun ⟨nofun,λxs _=>e xs⟩ ⟨λz=>absurd z.1<|by decide,λz=>(by cases z)⟩;exact S.fin false (.cons a<|.cons b .nil) (by decide) (.join<|.inr rfl) (.of (P:=0) rfl rfl) (show p+(q+0)<=100 by omega) nofun ⟨nofun,λxs _=>e xs⟩ ⟨λz=>absurd z.1<|by decide,λz=>(by cases z)⟩
def PB.cf (S:PB f n R es Fs rs ws){k l q r s t A B C D X}(a:Q7 f n es i (.t A) 0 p)(b:Q7 f n es j (.t B) 0 q)(c:Q7 f n es k (.t C) 0 r)(d:Q7 f n es l (.t D) 0 s)(x:Q7 f n es m (.t X) 0 t)(e:∀xs,Jf (A xs) (B xs) (C xs) (D xs) (X xs)=(0,0,0,0,0,0))(J:2*(p+q+r+s+t)<=100):Fin f (R++[Ro "curve" [i,j,k,l,m]]):=
 S.fin false (.cons a (.cons b (.cons c (.cons d (.cons x .nil))))) (by decide) .curve (.of (P:=0) rfl rfl) (show 2*(p+(q+(r+(s+(t+0)))))<=100 by lia) nofun ⟨nofun,λxs _=>e xs⟩ ⟨λz=>absurd z.1 (by decide),λz=>(by cases z)⟩
end
def b0 (h:4<=f):Q7 f n es 0 (.t λ_=>(0,0,1)) 0 1:=.b (by lia)
def b1 (h:4<=f):Q7 f n es 1 (.t λ_=>(1,0,1)) 0 1:=.b (by lia)
def b2 (h:4<=f):Q7 f n es 2 (.t λ_=>(0,1,1)) 0 1:=.b (by lia)
def b3 (h:4<=f):Q7 f n es 3 (.t λ_=>(1,1,1)) 0 1:=.b (by lia)
def b4:Q7 5 n es 4 (.t λxs=>(xs.getD 0 0,xs.getD 1 0,1)) 1 1:=.b (by lia)
def agS {ws}(H:Hs f R Fs rs ws)(J:4<=f)(c:f<=R.length):∀v∈vs4 R.length,Fin f (R++v):=by
 have S:PB f R.length R [] Fs rs ws:=⟨H,c,rfl,nofun⟩
 have j:("join" : Str) = "join"\/("join" : Str) = "meet":=.inl rfl;have m:("meet" : Str) = "join"\/("meet" : Str) = "meet":=.inr rfl;intro v Y;rw[<-vA];rcases Y with _|⟨_,_|⟨_,_|⟨_,_|⟨_,_|⟨_,_|⟨_,Y⟩⟩⟩⟩⟩⟩
 exact S.jf j (b0 J) (b0 J) (λ_=>rfl)<|by decide
 have O:=S.jn j (b0 J) (b1 J) (0,1,0) (λ_=>rfl) (by decide) (by decide);exact O.jf m (.e (i:=0) rfl) (.e (i:=0) rfl) (λ_=>rfl)<|by decide
 have O:=S.jn j (b0 J) (b1 J) (0,1,0) (λ_=>rfl) (by decide) (by decide);have U:=O.jn j (b1 J) (b0 J) (0,-1,0) (λ_=>rfl) (by decide) (by decide);exact U.jf m (.e (i:=0) rfl) (.e (i:=1) rfl) (λ_=>rfl)<|by decide
 exact S.cf (b0 J) (b1 J) (b2 J) (b1 J) (b3 J) (λ_=>rfl)<|by decide
 have O:=S.jn j (b0 J) (b1 J) (0,1,0) (λ_=>rfl) (by decide) (by decide);have U:=O.jn j (b2 J) (b3 J) (0,1,-1) (λ_=>rfl) (by decide) (by decide);have b:=U.jn m (.e (i:=0) rfl) (.e (i:=1) rfl) (-1,0,0) (λ_=>rfl) (by decide) (by decide);have d:=b.jn m (.e (i:=1) rfl) (.e (i:=0) rfl) (1,0,0) (λ_=>rfl) (by decide) (by decide);have a:=d.jn j (b0 J) (b1 J) (0,1,0) (λ_=>rfl) (by decide) (by decide);exact a.cf (b0 J) (b1 J) (.e (i:=2) rfl) (.e (i:=3) rfl) (b2 J) (λ_=>rfl)<|by decide
 have O:=S.jn j (b0 J) (b1 J) (0,1,0) (λ_=>rfl) (by decide) (by decide);have U:=O.jn j (b2 J) (b3 J) (0,1,-1) (λ_=>rfl) (by decide) (by decide);have b:=U.jn m (.e (i:=0) rfl) (.e (i:=1) rfl) (-1,0,0) (λ_=>rfl) (by decide) (by decide);have a:=(b.jn j (b0 J) (b2 J) (-1,0,0) (λ_=>rfl) (by decide) (by decide)).jn j (b1 J) (b3 J) (-1,0,1) (λ_=>rfl) (by decide) (by decide);exact((((((a.jn m (.e (i:=3) rfl) (.e (i:=4) rfl) (0,1,0) (λ_=>rfl) (by decide)<|by decide).jn j (b0 J) (b3 J) (-1,1,0) (λ_=>rfl) (by decide) (by decide)).jn j (b1 J) (b2 J) (-1,-1,1) (λ_=>rfl) (by decide) (by decide)).jn m (.e (i:=6) rfl) (.e (i:=7) rfl) (1,1,2) (λ_=>rfl) (by decide) (by decide)).jn j (.e (i:=5) rfl) (.e (i:=8) rfl) (2,0,-1) (λ_=>rfl) (by decide) (by decide)).jn m (.e (i:=0) rfl) (.e (i:=9) rfl) (-1,0,-2) (λ_=>rfl) (by decide) (by decide)).cf (b0 J) (b1 J) (.e (i:=2) rfl) (.e (i:=10) rfl) (b2 J) (λ_=>rfl) (by decide);cases Y
abbrev Vu:Fc:=λxs=>Jf (0,0,1) (1,0,1) (-1,0,0) (0,1,1) (xs.getD 0 0,xs.getD 1 0,1)
abbrev roC:Fc:=λxs=>Jf (0,0,1) (1,0,1) (0,1,1) (1,1,1) (xs.getD 0 0,xs.getD 1 0,1)
def ad6:QJ 2 [2,3]:=⟨rfl,by decide⟩
def Us (xs:List Int):det (xO (Vu xs))=0:=by
 unfold Vu;simp only[det,xO,Jf,m6,s6,vD,Jo,LI];simp_all
def XS (xs):Qv (Vu xs) (0,0,1) (0,0,1)=0/\Qv (Vu xs) (1,0,1) (1,0,1)=0/\Qv (Vu xs) (0,0,1) (1,0,1)=0:=by
 unfold Vu;simp only[Qv,vm,xO,Jf,m6,s6,vD,Jo,LI];simp_all
def aga (xs):Qv (roC xs) (0,0,1) (0,0,1)=0:=by
 unfold roC;simp only[Qv,vm,xO,Jf,m6,s6,vD,Jo,LI];simp_all
def agd {ws}(H:Hs 5 R Fs rs ws)(a:5<=R.length):∀v∈vs5 R.length,Fin 5 (R++v):=by
 have S:PB 5 R.length R [] Fs rs ws:=⟨H,a,rfl,λi e h=>by cases h⟩
 have j:("join" : Str) = "join"\/("join" : Str) = "meet":=.inl rfl;have m:("meet" : Str) = "join"\/("meet" : Str) = "meet":=.inr rfl;have J:4<=5:=by decide
 have g:=S.jn j (b0 J) (b1 J) (0,1,0) (λ_=>rfl) (by decide) (by decide);have f:=g.jn j (b2 J) (b3 J) (0,1,-1) (λ_=>rfl) (by decide) (by decide);have d:=f.jn m (.e (i:=0) rfl) (.e (i:=1) rfl) (-1,0,0) (λ_=>rfl) (by decide) (by decide);have Y:=d.put (o:=.c Vu) (P:=2) (.cons (b0 J) (.cons (b1 J) (.cons (.e (i:=2) rfl) (.cons (b2 J) (.cons b4 .nil))))) (by decide) .curve (.of rfl rfl) (by decide) (by decide) λz=>absurd (z [2,3] ad6) (by decide)
 have U:=S.put (o:=.c roC) (P:=2) (.cons (b0 J) (.cons (b1 J) (.cons (b2 J) (.cons (b3 J) (.cons b4 .nil))))) (by decide) .curve (.of rfl rfl) (by decide) (by decide) λz=>absurd (z [2,3] ad6) (by decide)
 intro v O;rw[<-vA];rcases O with _|⟨_,_|⟨_,_|⟨_,_|⟨_,O⟩⟩⟩⟩
 refine Y.fin false (P:=4) (.cons (.e (i:=3) rfl)<|.cons (.e (i:=0) rfl) .nil) (by decide) .pole ⟨by decide,.inr ⟨rfl,by decide,by decide,λF G e xs _=>?_⟩⟩ (by decide) (λz=>absurd z<|by decide) ⟨nofun,λxs _=>?_⟩ ⟨λz=>absurd z.1<|by decide,λz=>(by cases z)⟩;cases e;exact Us xs;show Va (Vu xs) _=_;unfold Va;rw[Us xs];simp[sc];refine Y.fin false (P:=2) (.cons (.e (i:=3) rfl)<|.cons (b0 J)<|.cons (b1 J) .nil) (by decide) .other (.of rfl rfl) (by decide) (λ_=>by decide) ⟨λ_ xs _=>(XS xs).1,λxs _=>?_⟩ ⟨λz=>absurd z.2<|show ¬3<0 by decide,λz=>(by cases z)⟩;show Pq (Vu xs) _ _=_;unfold Pq;rw[(XS xs).2.1,(XS xs).2.2];rfl;refine U.fin false (P:=2) (.cons (.e (i:=0) rfl)<|.cons (b0 J)<|.cons (b0 J) .nil) (by decide) .other (.of rfl rfl) (by decide) (λ_=>by decide) ⟨λ_ xs _=>aga xs,λxs _=>?_⟩ ⟨λz=>absurd z.2<|show ¬3<0 by decide,λz=>(by cases z)⟩;show Pq (roC xs) _ _=_;unfold Pq;rw[aga xs];rfl;have T2:=U.jn j (b0 J) (b1 J) (0,1,0) (λ_=>rfl) (by decide) (by decide);have c:=T2.jn j (b2 J) (b3 J) (0,1,-1) (λ_=>rfl) (by decide) (by decide);have b:=c.jn m (.e (i:=1) rfl) (.e (i:=2) rfl) (-1,0,0) (λ_=>rfl) (by decide) (by decide);refine b.fin true (P:=2) (.cons (.e (i:=0) rfl)<|.cons (.e (i:=3) rfl)<|.cons (b0 J) .nil) (by decide) .other (.of rfl rfl) (by decide) (λ_=>by decide) ⟨rfl,λz=>absurd (z [2,3] ad6)<|by decide⟩ ⟨λ_=>rfl,λ_=>⟨rfl,?_⟩⟩;show 3<R.length+3;lia;cases O
def aiJ {t}(x:t σ h λws h1=>fG ws.length (Q (.loc h1.nx) (h1.new (.lst ws)))):jX t σ h Q:=x
def slT {k}(x:Q (.lst (ws.take k)) h):OJ (.lst ws) JI (Go (k)) h Q:=by
 show Q _ h
 rwa[CJ]
def aaE (ws):xq ws (Go 4) (Go 5)=(match ws[4]? with
  | some w=>[w]
  | none=>[]):=by
 unfold xq;rw[show(4:Int)=((4:Nat):Int)from rfl,show(5:Int)=((5:Nat):Int)from rfl,HT.vJ,HT.vJ];by_cases c:4<ws.length
 rw[Hw c,Nat.min_eq_left (by lia),Nat.min_eq_left (by lia),Y5 c];rfl;simp_all
def aeB (R:List JX)(x:Q (.bl (decide (R[4]?=Go (("free" : Str),([]:List Nat))))) h):JZ (.lst (xq (R.map G4) (Go 4) (Go 5))) (.lst [.tup [.str "free"]]) h Q:=by
 rw[aaE,Hf];cases e:R[4]? with
 | none=>
  rw[e]at x;exact x
 | some p=>
  obtain⟨y,js⟩:=p;rw[e]at x;have pl:Hq 30 (.lst [G4 (y,js)])=true:=by
   have:(js.map λj:Nat=>W.int (j:Int)).all (Hq 28)=true:=by
    rw[List.all_map,Xc];intro _ _;rfl
   show((((js.map λj:Nat=>W.int _).all _))&&true)=true;rw[this];rfl
  have J:Hv (.lst [G4 (y,js)]) (.lst [.tup [.str "free"]])=decide (Go ((y,js):JX)=Go (("free" : Str),([]:List Nat))):=by
   cases js with
   | nil=>
    show((y == "free")&&true&&true)=_;rw[Bool.and_true,Bool.and_true];by_cases c:y = "free"
    subst c;simp;rw[decide_eq_false (λz=>c (congrArg Prod.fst (IV z)))];exact beq_false_of_ne c
   | cons j js=>
    rw[decide_eq_false _];show((y == "free")&&sX _ []&&true)=false;rw[sX];simp;all_goals simp
  show JC (Hq 30 (.lst [G4 _])&&Hq 30 _) (Q (.bl (Hv (.lst [G4 (y,js)]) _)) h) False;rw[pl,J];exact x
abbrev lsW (v:List JX):W:=.lst (v.map G4)
def slG {lo hi}(x:Q (.lst (xq ws lo hi)) h):OJ (.lst ws) lo hi h Q:=x
def J1 (hd:qj dr){vs:List (List JX)}{D g}(s0:σ[0]?=Go (Go (.loc b)))(s6:σ[6]?=Go (Go (.loc p)))(hb:Pz g b)(hp:g.c p=Go (.lst (vs.map lsW)))(l:0<vs.length)(l1:vs.length<=100)(k:∀v h',v∈vs->Pz h' b->Sh b g h'->D.rt (lsW v) h'):ql dr E D σ g:=by
 have vp:view g (.loc p)=Go (vs.map lsW):=by simp only[view,dF,hp]
 refine bF<|aH<|aq s6<|aL<|ao<|aq s0<|ao<|cB<|ao<|aq s6<|aB<|dD vp ?_
 rw[Bo];refine aB<|hd hb (by lia) (by unfold Sm;omega) λd h2 d0 d1 hb2 ho=>?_
 obtain⟨dn,rfl⟩:=Yn d0;have hdn:dn<vs.length:=by lia
 by_cases c:b=p
 ·subst c;obtain⟨_,_,e,_⟩:=hb;rw[hp]at e;have:=congrArg (λo:Option Cell=>match o with
   | some (.lst (.int _::_))=>1
   | _=>0) e
  match vs,l,this with
  | _::_,_,this=>exact absurd this (show ¬(0:Nat)=1 by decide)
 have vp2:view h2 (.loc p)=Go (vs.map lsW):=by simp only[view,dF,(ho.2 p (Jp c)).trans hp]
 exact bA (w:=lsW vs[dn]) vp2 (bB (by rw[Hf,Hw hdn];rfl))<|k _ _ (QV hdn) hb2 ho
abbrev aaH (c0:Aq):Prop:=∀{h:Gh}{b f:Nat}{R:List JX}{Q:WK}{E:Bt},Pz h b->b<h.nx->(R[4]?=Go (("free" : Str),([]:List Nat))↔f=5)->R.length<=10->(∀v h',v∈vs4 R.length\/f=5/\v∈vs5 R.length->Pz h' b->h.nx<=h'.nx->(∀m,m<h.nx->m≠b->h'.c m=h.c m)->Q (lsW v) h')->c0 [.loc b,.lst (R.map G4)] h Q E
def aaR (hd:qj dr):aaH (Dd dr):=by
 intro h b f R Q E hb hl h4 l10 q;refine d8 rfl (σ:=[Go<|.loc b,Go<|.lst<|R.map G4,JI,JI,JI,JI,JI,JI]) rfl ?_;refine aM<|aW<|cB<|ao<|aq rfl<|aB<|dD (xs:=R.map G4) rfl<|nV<|bI ?_
 rw[Bo];generalize R.length=n at *;rfl'
 refine aiJ ?_;rfl'
 refine qZ<|vO<|aX<|adF ?_
 refine slT (k:=1) ?_;rfl'
 generalize eg:h.new _=g;have gc:=congrArg (λg=>g.c h.nx) eg;rw[Ao]at gc;have gc:=gc.symm;have go:∀m,m<h.nx->g.c m=h.c m:=λm hm=>by rw[<-eg];exact rA (by lia)
 have gn:g.nx=h.nx+1:=by rw[<-eg];rfl
 clear eg;refine dR<|aq rfl<|cL gc ?_
 rfl'
 refine jt gc (Ow rfl) λg1 gc1 go1 gn1=>?_;rfl'
 refine dR<|aq rfl<|cL gc1 ?_
 rfl'
 refine jt gc1 (Ow rfl) λg2 gc2 go2 gn2=>?_;rfl'
 refine dR<|aq rfl<|cL gc2 ?_
 rfl'
 refine jt gc2 (Ow rfl) λg3 gc3 go3 gn3=>?_;rfl'
 refine slG ?_;rfl'
 refine aeB R ?_;rfl'
 have hbg:Pz g3 b:=by
  obtain⟨p,q,e,r⟩:=hb;exact⟨p,q,by rw[go3 b<|by lia,go2 b<|by lia,go1 b<|by lia,go b hl];exact e,r⟩
 refine sZ (λc=>?_) λc=>?_
 ·rfl'
  refine dR<|aq rfl<|cL gc3 ?_
  rfl'
  refine jt gc3 (Ow rfl) λg4 gc4 go4 gn4=>?_;rfl'
  refine dR<|aq rfl<|cL gc4 ?_
  rfl'
  refine jt gc4 (Ow rfl) λg5 gc5 go5 gn5=>?_;rfl'
  refine dR<|aq rfl<|cL gc5 ?_
  rfl'
  refine jt gc5 (Ow rfl) λg6 gc6 go6 gn6=>?_;rfl'
  refine dR<|aq rfl<|cL gc6 ?_
  rfl'
  refine jt gc6 (Ow rfl) λg7 gc7 go7 gn7=>?_;rfl'
  refine J1 hd (vs:=vs4 n++vs5 n) rfl rfl ?_ gc7 (Ow rfl) (Ow rfl) λv h' hv hb' ho=>fV ?_;obtain⟨p,q,e,r⟩:=hbg;exact⟨p,q,by rw[go7 b<|by lia,go6 b<|by lia,go5 b<|by lia,go4 b<|by lia];exact e,r⟩;have o1:=ho.1;refine q v h' ((Wx.mp hv).imp id λy=>⟨h4.mp c,y⟩) hb' (by lia) λm hm ne=>?_;rw[ho.2 m ne,go7 m (by lia),go6 m (by lia),go5 m (by lia),go4 m (by lia),go3 m (by lia),go2 m (by lia),go1 m (by lia),go m hm]
 ·rfl'
  refine J1 hd (vs:=vs4 n) rfl rfl hbg gc3 (Ow rfl) (Ow rfl) λv h' hv hb' ho=>fV ?_;have o1:=ho.1;refine q v h' (.inl hv) hb' (by lia) λm hm ne=>?_;rw[ho.2 m ne,go3 m (by lia),go2 m (by lia),go1 m (by lia),go m hm]
def aiK {mb mh D}(x:mb (λx h'=>JC (Mf x.cls d) (mh (D.drop i) (σ.set i (Go (R6 x))) h') False) D σ h):Y6 i d mb mh D σ h:=x
def alb {f n v}{ma}(m:∀R,R (.exa n ws) h->ma σ h R)(e:((Al n).zip ws).lookup f=Go v)(q:Q v h):Xp f ma σ h Q:=m _ (by
 show(match((Al n).zip ws).lookup f with
  | some v=>Q v h
  | none=>False)
 exact e ▸ q)
abbrev wdT:Bool->Str
 | true => "tied"
 | false => "never"
abbrev ab3 (c0:Aq):Prop:=∀{h:Gh}{R:List JX}{f m:Nat}{Fs:List Fu}{rs ws:List Nat}{x:Str}{js:List Nat}{t:Bool}{Q:WK}{E:Bt},FR f (R.map G4)->f=4\/f=5->(∀k,k<=m->Qe f R Fs rs ws k)->(∀k,k<m->f<=k->Dn (2*(f-4)) R Fs k)->f<=m->R[m]?=Go (x,js) ->
 Wh (2*(f-4)) x (js.map (atF Fs)) (atF Fs m) t->(∀h',Q (.tup [.str (wdT t),.int (m:Int)]) h')->c0 [.lst (R.map G4)] h Q E
def alY {g}(S:DeX g):ab3 (yw g):=by
 intro h R f m Fs rs ws x js t Q E d U J O c e Y q;refine d8 rfl (σ:=[Go _,JI,JI]) rfl<|aM<|aiK ?_
 cases t with
 | true=>
  refine S d U J O c e (λ_ _ h'=>?_) λz=>absurd (z Y.1) Y.2;refine nY<|Qn<|jk<|Jv<|aq rfl<|afs<|Jd rfl ?_
  refine nY<|Gz<|jk<|Jv<|aq rfl<|afs<|Jd rfl<|nY<|bH<|bI ?_
  exact bF<|cZ<|ao<|aX<|ao<|alb (n := "Tied") (λR q=>aq rfl q) rfl<|aB<|bR rfl<|fV<|q h'
 | false=>
  refine S d U J O c e (λa b=>absurd (Y.1 a) b) λ_=>⟨Y.2,nV<|bI ?_⟩;exact bF<|aq rfl<|fV<|q _
def zbQ {ws}(B:Ma f R Fs rs ws){k}(hk:k<m)(hl:k<R.length)(d:Dn L R Fs k):Dn L (R.take m) (Fs.take m) k:=by
 refine⟨by rw[show atF _ k=atF Fs k from gA hk];exact d.1,λjs e=>?_⟩;rw[List.getElem?_take,if_pos hk]at e;have lt:∀j∈js,j<m:=λj hj=>by
  cases B.row k hl with
  | free _ b _ _ _=>rw[b]at e;cases e
  | made _ b _ l _ _ _ _ _=>rw[b]at e;cases e;have:=l j hj;lia
 rw[CN lt];exact d.2 js e
def adp {v}(h:v∈vs4 n\/v∈vs5 n):v.length<=12:=by
 rcases h with h|h
 ·rcases h with _|⟨_,_|⟨_,_|⟨_,_|⟨_,_|⟨_,_|⟨_,h⟩⟩⟩⟩⟩⟩
  iterate 6 exact Ow rfl
  cases h
 ·rcases h with _|⟨_,_|⟨_,_|⟨_,_|⟨_,h⟩⟩⟩⟩
  iterate 4 exact Ow rfl
  cases h
def FR.join {f}{R:List JX}(h:FR f (R.map G4))(c)(l:R.length+c<=100):FR f ((R++J4 c (Ro "join" [0,1])).map G4):=by
 refine⟨by rw[Bo,JK,W7];exact l,λw J=>?_,?_,λj O=>?_⟩;obtain⟨p,_,rfl⟩:=Hr.mp J;exact⟨_,_,rfl⟩;have:=h.le
 grind
 rw[Bo,JK,W7]at O;have le:=h.le;rw[Bo]at le;rw[IK];by_cases S:j<R.length
 rw[KD,QF (by rwa[Bo])];exact h.iff j<|by rwa[Bo]
 rw[KD,V7 (by rw[Bo];lia),Bo,Hf,Zt,if_pos (by omega)];constructor;intro z;exact nomatch z
 lia
def aez {a m}(x:Q (.bl true) h):JZ (.tup [.str a,.int m]) (.tup [.str a,.int m]) h Q:=by
 have eq:Hv (.tup [.str a,.int m]) (.tup [.str a,.int m])=true:=by
  rw[Hv,sX,sX,Hv,Hv,sX];simp
 show JC true _ False
 rwa[eq]
def afe {ce ba ne he la as'}(hce:BK ce)(hba:VJ ba)(hdr:qj dr)(hne:abj ne)(hhe:acB he)(hla:aaH la)(has:ab3 as')(ns:List Int):acJ ce ba dr ne he la as' [.kls (ns.map W.int)] g0 (λw _=>w=.bl true) EF:=by
 refine d8 rfl (σ:=[Go<|.kls<|ns.map W.int,JI,JI,JI,JI,JI,JI,JI]) rfl ?_;refine aM<|aW<|aH<|aX<|aH<|aL<|ao<|aq rfl<|ao<|aX<|aB<|hce (k:=0) (by decide) ?_
 refine aX<|Fy (by decide)<|gD ?_
 generalize ns.getD (0:Int).toNat 0=n0;obtain⟨f,ef,h45⟩:∃f:Nat,(4:Int)+n0.fmod 2=(f:Int)/\(f=4\/f=5):=by
  have e:=gP (a:=n0) (b:=2) (by decide);exact⟨(4+n0.fmod 2).toNat,by lia,by lia⟩
 rw[ef];refine nV<|bI ?_
 refine aM<|aW<|cB<|ao<|aq rfl<|ao<|aH<|aX<|aH<|aH<|aL<|ao<|aq rfl<|ao<|aX<|aB<|hce (k:=0) (by decide) ?_
 refine aX<|Fj ?_<|aX<|Fy (by decide)<|gD<|aB ?_
 exact⟨by decide,64,by decide,Sm.lit rfl⟩;generalize(ns.getD (0:Int).toNat 0).fdiv 2=n1;obtain⟨s,es,s10⟩:∃s:Nat,(1:Int)+n1.fmod 10=(s:Int)/\s<=10:=by
  have e:=gP (a:=n1) (b:=10) (by decide);have h0:=Ye n1 (show(10:Int)≠0 by decide);have h1:=ZR n1 (show(0:Int)<10 by decide);exact⟨(1+n1.fmod 10).toNat,by lia,by lia⟩
 rw[es];refine Vm<|nV<|bI ?_
 obtain⟨sz,esz⟩:∃z,z=Nat.max f s:=⟨_,rfl⟩
 have hs1:f<=sz:=by rw[esz];exact Nat.le_max_left ..
 have hs2:sz<=10:=by rw[esz];exact Nat.max_le.mpr ⟨by omega,s10⟩
 rw[<-esz];refine aM<|aW<|aL<|ao<|aL<|ao<|aq rfl<|ao<|aq rfl<|ao<|aq rfl<|aB ?_
 refine hne h45 hs1 hs2 λR rs ws N lR=>ao<|aq rfl<|aB ?_
 obtain⟨Fs,B⟩:=N.dwf;refine hhe B h45 (by lia) (by lia) λm fm mR dn=>nV<|bI ?_
 have B0:=B.take m;have lm:(R.take m).length=m:=by rw[Ou];lia
 have H0:Hs f (R.take m) (Fs.take m) (rs.take m) (ws.take m):=⟨B0,λk hk fk=>by
  rw[lm]at hk;exact zbQ B hk (by lia) (dn k hk fk)⟩
 generalize R.take m=R0 at B0 H0 lm;refine aM<|aW<|aL<|ao<|aL<|ao<|aq rfl<|ao<|aX<|aB<|hce (k:=1) (by decide) ?_
 refine aB<|hba λg1 bg n1' o1=>nV<|bI ?_
 obtain⟨bg0,ebg⟩:∃b,b=g0.nx:=⟨_,rfl⟩
 rw[<-ebg]at bg n1' o1|-
 refine aM<|aW<|aL<|ao<|aq rfl<|ao<|aq rfl<|aB ?_
 refine hla (f:=f) bg (by lia) ?_ (by lia) λv g2 hv bg2 nx2 o2=>nV<|bI ?_
 ·constructor
  ·intro e;have l4:=(Lx.mp e).1;cases B0.row 4 l4 with
   | free a _ _ _ _=>lia
   | made _ b c _ _ _ _ _ _=>
    rw[e]at b;cases b;exact absurd rfl c
  ·intro e;subst e;cases B0.row 4 (by lia)with
   | free _ b _ _ _=>exact b
   | made a _ _ _ _ _ _ _ _=>lia
 have hv12:v.length<=12:=adp (hv.imp id And.right);have F0:Fin f (R0++v):=by
  rw[lm]at hv;rcases hv with hv|⟨rfl,hv⟩
  exact agS H0 (by lia) (by lia) v (by rw[lm];exact hv);exact agd H0 (by lia) v (by rw[lm];exact hv)
 obtain⟨t,Gs,ps,qs,M,x,js,F⟩:=F0;refine aM<|aW<|aH<|aq rfl<|aq rfl ?_
 unfold lsW;refine V0 (by rw[Bo,Bo];lia) ?_;rw[<-IK];refine nV<|bI ?_
 have lRR:(R0++v).length=M+1:=F.len;have lRR2:M+1<=22:=by rw[<-lRR,JK];lia
 have F':=F;generalize R0++v=RR at F lRR;refine aM<|aW<|aH<|cB<|ao<|aq rfl<|aB<|dD (xs:=RR.map G4) rfl<|aX<|rF ?_
 rw[Bo,lRR,show((M+1:Nat):Int)-1=(M:Int) by lia];refine nV<|bI ?_
 have eM:(RR.map G4)[M]?=Go (G4 (x,js)):=by rw[Hf,F.e];rfl
 have eW:(RR.map G4).length<=100:=by rw[Bo];lia
 have word:∀{Q:WK}{h:Gh}{σ:Sw},σ[3]?=Go (Go (.lst (RR.map G4)))->σ[6]?=Go (Go (.int (M:Int)))->Q (.str (wdT t)) h->Ah Bh (j6 (aj (mC (.str "never")) (aj (mC (.str "tied")) aG))) (HN QK (aj (Rz (Ah JZ (Ah Bh (Ah Bh (aA 3) (aA 6)) (mC (.int 0))) (mC (.str "other"))) (Ah QL (Ah Bh (Ah Bh (aA 3) (aA 6)) (mC (.int 2))) (mC (.int 3)))) aG)) σ h Q:=λ{Q h σ} e3 e6 q=>by
  refine aH<|JF<|ao<|aX<|ao<|aX<|aB<|bR rfl ?_
  have fin:∀b:Bool,(b=true↔t=true)->Bh (.lst [.str "never",.str "tied"]) (.int (if b then 1 else 0)) h Q:=λb hb=>by
   cases b with
   | true=>
    have:t=true:=hb.mp rfl
    subst this;exact bA (w:=.str "tied") (ws:=[.str "never",.str "tied"]) rfl rfl q
   | false=>
    have:t=false:=by cases t with
     | true=>exact absurd (hb.mpr rfl) (by decide)
     | false=>rfl
    subst this;exact bA (w:=.str "never") (ws:=[.str "never",.str "tied"]) rfl rfl q
  refine cB<|ao<|M6<|aH<|aH<|aH<|aq e3<|aq e6<|bA (ws:=RR.map G4) rfl (bB eM)<|aX<|bA (ws:=.str x::js.map λj:Nat=>W.int (j:Int)) rfl ou<|aX<|eY ?_
  by_cases c:x = "other"
  ·rw[decide_eq_true c];have l3:js.length=3:=by
    subst c;cases F.b.row M (by lia)with
    | free _ b _ _ _=>rw[F.e]at b;cases b
    | made _ b _ _ rf _ _ _ _=>
     rw[F.e]at b;cases b;generalize eG:js.map (atF Gs)=G at rf;generalize atF Gs M=O at rf;have:=congrArg Rb eG
     rw[Bo]at this;rw[this];cases rf with
     | join h=>exact absurd h (by decide)
     | other=>rfl
   obtain⟨p,q',l,rfl⟩:=afo l3;refine aeY<|tU rfl ?_
   refine aH<|aH<|aH<|aq e3<|aq e6<|bA (ws:=RR.map G4) rfl (bB eM)<|aX<|bA (w:=.int (q':Int)) (ws:=.str x::[p,q',l].map λj:Nat=>W.int (j:Int)) rfl (Oh _ _ 1 rfl)<|aX<|sW ?_
   refine aB<|El<|fin _ ?_
   rw[decide_eq_true_iff,<-F.w];constructor;intro z;exact⟨c,show 3<q' by lia⟩;intro z;have z2:3<q':=z.2;lia
  rw[decide_eq_false c];refine aeY<|nA rfl<|aB<|El<|fin false ?_
  rw[<-F.w];exact⟨λz=>(by cases z),λz=>absurd z.1 c⟩
 refine aM<|aW<|word rfl rfl<|nV<|bI ?_
 refine aM<|aW<|aH<|aq rfl<|iD<|lC<|ao<|cB<|ao<|aH<|aX<|cB<|ao<|aq rfl<|aB<|dD (xs:=RR.map G4) rfl<|rF ?_
 refine ao<|aL<|ao<|aq rfl<|ao<|aX<|aB ?_
 refine hdr bg2 (by decide) (by unfold Sm;decide) λd g3 d0 d1 bg3 o3=>aB<|UL<|aB ?_
 rw[Bo,lRR];obtain⟨c,ec,c2⟩:∃c:Nat,(if d<24-((M+1:Nat):Int)then d else 24-((M+1:Nat):Int))=(c:Int)/\c<=2:=by
  refine⟨(if d<24-((M+1:Nat):Int)then d else 24-((M+1:Nat):Int)).toNat,?_,?_⟩<;>split<;>lia
 rw[ec];refine BR (m:=c) (by lia) ?_;refine fG.mk (HW (m:=1000) (by rw[aav];lia)<|by decide) ?_;refine cU (λi acc g=>g=g3/\acc=(J4 i<|Ro "join" [0,1]).map G4) ?_ ?_ ⟨rfl,rfl⟩;rintro i w acc g N' hN' e ⟨rfl,rfl⟩;refine⟨[w],rfl,dB<|cH<|cZ<|ao<|aX<|ao<|aX<|ao<|aX<|aB<|bR rfl<|hN' _ _ ⟨rfl,?_⟩⟩;rw[List.replicate_succ',IK];rfl;rintro acc g ⟨rfl,rfl⟩;rw[aav];refine V0 (by rw[Bo,Bo,W7];lia) ?_;rw[<-IK];refine nV<|bI ?_
 refine bF<|aH<|aL<|ao<|aq rfl<|aB ?_
 have RL:(RR++J4 c (Ro "join" [0,1])).length<=100:=by rw[JK,W7];lia
 refine has (t:=t) ((F.b.fr (by have:=F.fm;lia)<|by lia).join c (by lia)) h45 (λk hk=>(F.b.row k<|by lia).up (QF<|by lia) (λ_ _=>rfl) (λ_ _=>rfl) λ_ _=>rfl) (λk hk fk=>?_) F.fm (by rw[QF<|by lia];exact F.e) F.k λh'=>?_;have dk:=F.d k hk fk;exact⟨dk.1,λjs e=>dk.2 js (by rw[QF<|by lia]at e;exact e)⟩;refine cZ<|ao<|aq rfl<|ao<|aq rfl<|aB<|bR rfl<|aez ?_
 exact fV rfl
def adC (ns:List Int)(_:ns.length<=63):Zd [.kls (ns.map W.int)] g0 (λw _=>w=.bl true) EF:=by
 have wt:WhX gM:=agC abw;have ti:T2 lQ:=adP.t2 (akg zbZ aaG (afJ Jq) agI);have pl:P2 1 zV:=PlX.p2 (.inl rfl) (abq wt);have mi:P2 (-1) vh:=PlX.p2 (.inr rfl) (alg wt);have S:Cr2 d9:=aiI (aaV mi ti);have O:Do2 iG:=acT pl ti;have st:St2 fB:=ajm ti;have Y:Sm2 gJ:=ajR mi;have c:Db2 lY:=ahB pl;have ta:Ta2 eN:=zcc c;have U:Rt2 fD:=alW O;have e:Bo2 cF:=aa4 O U;have a:RaX Qd:=aeS S ta U (ajG ti S O st Y (ahq pl ti)) (acw st ta (aiG S) U (akB (aje S O))) (alZ st Y c ta e);have J:TiX Qk:=aeC ta e;have nm:QB gR:=aeW;have d:qX cQ:=w_count rR;have b:LcX cQ:=d.lc;have ft:FtX gU:=wN.ft (ajg rR nm adU d);have f:aeO nJ:=aju (zbw Jq aaG (afJ Jq) acD aaD) (ahs (zbk (zaK afa)) zaR acM) Kw;exact afe Ui abU yM (acK Ui abU yM (aex yM acR Ug<|akv yM Ug) ajA) (w_head J<|zbU b ft a acZ ad8) (aaR yM) (alY<|zaU nm b ft Kw f<|aas a J) ns
end My
namespace PySem.W.Fast
universe tw15979240269966257151 tw13571538423431748678 tw5298418286452241332 tw301843931436010175 tw4067690954454420875 tw8145906760238167351 tw1933641790084369722 tw10236740777172708118 tw10007465489217747162 tw6213185313831808349 tw3505312552938871623 tw572021671169664723 tw1193578311524906512 tw16043823667270488539 tw17331903290156420581 tw4512677052842176235 tw10940059457830962063 tw16238764874114795794 tw3619036130015187434 tw5279058342326936845 tw11129530518203937441 tw14037753470495548964 tw10779163879488102639 tw1869354827353462639 tw15616498569295378584 tw11238376777044085523 tw14384382036574543575 tw16915005591494933401 tw17806853135075212716 tw8587540721616313660 tw17919028778679830947 tw17529817196188008374 tw15212000231144180656 tw9511868536032368203 tw706009360963235963 tw797885322845048876 tw2842218747878779900 tw11513420865655222161 tw2707749949241483312 tw5319620588550929478 tw2007731069520004746 tw13393176250982029476 tw10736493962496389868 tw6129662640397237143 tw14479014749691212365 tw12964164401880608625 tw5073716662714944173 tw4447855044823406555 tw10065029448242695383 tw18157582341133149542 tw13252987988709981312 tw820001374253176447 tw1021260471726721683 tw8897018055195414564 tw8848530899353959771 tw6197788307517136183 tw5927444861840309905 tw12924864252331061081 tw4608768416350509413 tw16016953654673923527 tw10611584568389419913 tw13501189665783463209 tw9047446383422707353 tw12814998969405297947 tw16285427902953076456 tw1890442186066305420 tw3036154528270806882 tw1444508355845976185 tw13016296868928922410 tw15331563621395269624 tw17825155760804215900 tw12749342752858800648 tw6592635272679059574 tw4598138945177131516 tw8773512388986101756 tw16151858680214417770 tw10155866665501657632 tw15236549809075737074 tw1707689232899535707 tw9271912360246495340 tw14157824061498288343 tw890733935564594813 tw13490527417469792685 tw8687599330708496834 tw9604613894549829657 tw16402120149235915686 tw11819870877765501220 tw14684142144462391364 tw647770516690569730 tw2193084666677235759 tw6603558167111647460 tw14606422457108253302 tw7388102486623392675 tw18303843621362427496 tw10492088613431676009 tw753715653850213069 tw2743293857791595499 tw17343581198754763857 tw13207689968955536669 tw8523133462599263723 tw4172718030104203096 tw4447248562793776615 tw1930825383263018748 tw17022103184471111366 tw1737819573644137824 tw630857206614220236 tw8427879684420118658 tw15748320684427420552 tw4232243180774680434 tw2886675234073638971 tw7565785013933809861 tw15536123359961947006 tw9786102899759076312 tw9573192548550938290 tw12581052834100756613 tw17206973517160369864 tw17571225373762324858 tw534677040058761282 tw12656324678341469524 tw18259683797247742347 tw12913740575591587887 tw12997257255685126409 tw13718343737050661741 tw3733127700255362417 tw11667178881384423988 tw16790046050490753346 tw2822145075143915469 tw17218557338874583942 tw17285797773556683995 tw11509505204490860219 tw5101653640516144066 tw2538952449278538745 tw8409964155639701459 tw6427004883902294738 tw8730442992187093213 tw17684250865317593194 tw4639579096482386302 tw3619107352968067071 tw14754894586651559835 tw9150579665463196885 tw11049000734688259123 tw3433139823587361260 tw11223130714495180051 tw15641827276236586166 tw13167228629294000870 tw11924250545342404291 tw15279167441990442954 tw18087824125459506334 tw14897426436791315693 tw18362462280878839521 tw8170039900150464018 tw3308979111025219902 tw4065822019468229893 tw3943848810885410897 tw14030909192822219414 tw8761525861822773981 tw1534033568789263448 tw15973382749071926471 tw2783708147617651154 tw5060026125240258810 tw725742446818977725 tw9070764030278298254 tw17844113616851181230 tw602621388994156946 tw17274628926305193069 tw5778727251610160025 tw4087540944186869752 tw3450626966380127195 tw4301287581745806790 tw7297579697124658125 tw7435252945656981793 tw3488443443295950599 tw12911172796694499165 tw12777320333401765670 tw17065853885825011972 tw7150364004765920118 tw7082317417122761450 tw14221529503120676616 tw934244089200870573 tw1989863519462833072 tw10799070126671485194 tw11388459448100292248 tw16139841178415197043 tw2704444210818574648 tw16494532738518243626 tw7172550182227803451 tw15969560123168879043 tw16934882096436285255 tw5002570952851963382 tw4206556115403125746 tw14588408053837591775 tw9223039114488549163 tw16006202049689350973 tw12297873610953531899 tw13390071632471911685 tw18225892310731451334 tw6688417578605913202 tw5817501186495216539 tw5280429451708729362 tw746107070750761494 tw3398555950299391971 tw1488619072992928094 tw14787046557275064755 tw15242854458988877322 tw1496869348098746045 tw9454176092216731828 tw16210885944221588723 tw3954713478559645906 tw5349668858511505581 tw7038250928589271709 tw4656800844213071899 tw993343927473171441 tw8663135279415309061 tw9872308801109727710 tw12973726910248957813 tw1469833742868865923 tw13184144328159929964 tw9482381483571184893 tw6443977734354736771 tw10715630893717143016 tw8087977405859927555 tw15450842679959164334 tw1178296763007425499 tw4934640724142785394 tw12830268736477140779 tw13013873221306395156 tw2669756833211866898 tw7013796579763670062 tw7109827496935679446 tw3085321555793430020 tw15215337237145900601 tw15349296870957458894 tw9776822270889320552 tw6844813775062867591 tw12597935356217125593 tw3057445867038040082 tw2866972624366216617 tw11341737152890483121 tw1003721325683482559 tw12031597695632563437 tw5560014592575843203 tw9865394129664935177 tw10973139996279610652 tw11189623138352533080 tw7108777752234273168 tw7510225383414301241 tw15672995084801061715 tw9831905447031850230 tw5924249669805405805 tw14841636184780400294 tw396784409339248797 tw1510688869244346457 tw13942924250780483498 tw25977763364480496 tw6872945917519624465 tw2188195725349316304 tw7168702483890298823 tw15499106919713150436 tw1033020660954824485 tw7488310952087976806 tw2471449597014219203 tw13517226491026713811 tw8472201562759759962 tw16745273245038312966 tw4361882458018686007 tw13953483598448186548 tw7457685308568858035 tw1011216444352356061 tw6071441558973682457 tw1160479907860654769 tw12951006546682339163 tw8568695966657248289 tw17044645498639818249 tw7753729898753867180 tw8221543880290231170 tw11295972939023543765 tw15899810211500725168 tw5006542486323346823 tw308504814952186482 tw5862554048774672394 tw4236086750175961572 tw11917069158111569784 tw10837201533636343624 tw13339237689831889328 tw1670890596889086879 tw8492007316363331686 tw14038004351460253511 tw7995969682649557125 tw18264523153194220420 tw5303912455085323413 tw11328557854705796827 tw1490064176085042307 tw13630170303390268745 tw12376056373983676455 tw5607258426355532910 tw4498684416756874007 tw15167857898532922872 tw17279936725661703803 tw102528964930870306 tw16372660461677958623 tw3265815750163264553 tw6218073909450300130 tw12539332443933360208 tw8009526876051724654 tw6116541023208535377 tw10432306987206246733 tw4424558954979993493 tw7264325093055024020 tw377076221344459333 tw13092732879879474292 tw7172169429438788849 tw15045639799403736505 tw7463701742798731685 tw17394697011631611586 tw1304095507682871931 tw17882376728287062338 tw2513945060743767920 tw5641263592424837163 tw7180273262836971372 tw1225904750218480087 tw3858800403425914172 tw8641799665389952634 tw15790130060714617442 tw2080725902015517839 tw10343368849987908276 tw4173600928537291748 tw18136969608828562771 tw288113335905857134 tw12473610475707344404 tw17555579783193690567 tw1907126150704437376 tw7775670019561635555 tw11984768239455910470 tw6196564784007302682 tw7711505030162088856 tw18355990231125472983 tw3583270910026982028 tw17560047668874591073 tw3078556533598078794 tw13206643499934147893 tw258024220290930093 tw7209009089231961335 tw17545403074114025690 tw12259552228562202400 tw17521207785329072131 tw1640856271576847656 tw9871861395872261743 tw4172064643225892606 tw6313738808817322801 tw7371658080785689608 tw16312471952859513974 tw15057866582201926444 tw2366933905989449895 tw2236671476774999758 tw559127351926080835 tw3737934853980589607 tw4701236204948153723 tw5669967971758518036 tw283234880335306078 tw1225892466127102703 tw3219174631603517051 tw16790733882356129413 tw9405877933184309522 tw11825653089704893238 tw11867483687932299938 tw4433416830740619119
end PySem.W.Fast
open PySem PySem.W PyProof.Rows
theorem PySem.Challenge.cw_easelroom_k82_never_and_tied_holds : PySem.Challenge.rw_easelroom_k82_never_and_tied.Holds := by
 w_on;o_law;k_head;(case hw=>w_witness2)
 refine My.walk (l:=PySem.Challenge.rw_easelroom_k82_never_and_tied) rfl rfl (λw h Y=>PySem.W.kIn_of Y) ?F
 case F=>
  intro w mg fa h KX G hmg;refine' My.all_mk My.adC KX G hmg ?h0 ?h1 ?h2 ?h3 ?h4 ?h5 ?h6 ?h7 ?h8 ?h9 ?h10 ?h11 ?h12 ?h13 ?h14 ?h15 ?h16 ?h17 ?h18 ?h19 ?h20 ?h21 ?h22 ?h23 ?h24 ?h25 ?h26 ?h27 ?h28 ?h29 ?h30 ?h31 ?h32 ?h33 ?h34 ?h35 ?h36 ?h37 ?h38 ?h39 ?h40 ?h41 ?h42 ?h43 ?h44 ?h45 ?h46 ?h47 ?h48 ?h49 ?h50 ?h51 ?h52 ?h53 ?h54 ?h55 ?h56 ?h57 ?h58 ?h59 ?h60 ?h61 ?z_ValueError ?z_abs ?z_any ?z_dict ?z_int ?z_isinstance ?z_len ?z_list ?z_max ?z_min ?z_range ?z_reversed ?z_sorted ?z_sum ?z_tuple ?z_zip ?gk_CORNERS ?lk_CORNERS ?lk_CORNERS_0 ?lk_CORNERS_1 ?lk_CORNERS_2 ?lk_CORNERS_3 ?g_MOST_TERMS ?g_MOST_POWER ?g_MOST_PAIRS ?g_FIELD ?gx_EaselError ?xd_EaselError ?gx_Stuck ?xd_Stuck ?gx_TooMuch ?xd_TooMuch ?gx_Tied ?xd_Tied ?ai_Tied ?li_Tied ?ci_Tied ?ki_Tied ?xi_Tied ?xf_Tied ?xa_Tied ?xs_Tied
  (case h0|h1|h2|h3|h4|h5|h6|h7|h8|h9|h10|h11|h12|h13|h14=>(apply My.Jk<;>k_is))
  (case h15|h16|h17|h18|h19|h20|h21|h22|h23|h24|h25|h26|h27|h28|h29=>(apply My.Jk<;>k_is))
  (case h30|h31|h32|h33|h34|h35|h36|h37|h38|h39|h40|h41|h42|h43|h44=>(apply My.Jk<;>k_is))
  (case h45|h46|h47|h48|h49|h50|h51|h52|h53|h54|h55|h56|h57|h58|h59=>(apply My.Jk<;>k_is))
  (case h60|h61=>(apply My.Jk<;>k_is))
  (case z_ValueError|z_abs|z_any|z_dict|z_int|z_isinstance|z_len|z_list|z_max|z_min|z_range|z_reversed|z_sorted|z_sum|z_tuple|z_zip|gk_CORNERS|lk_CORNERS|lk_CORNERS_0|lk_CORNERS_1|lk_CORNERS_2|lk_CORNERS_3=>k_is)
  (case g_MOST_TERMS|g_MOST_POWER|g_MOST_PAIRS|g_FIELD=>(apply Exists.intro<;>k_is))
  (case gx_EaselError|gx_Stuck|gx_TooMuch|gx_Tied|ai_Tied|li_Tied|ci_Tied|ki_Tied=>k_is)
  (case xd_EaselError|xd_Stuck|xd_TooMuch|xd_Tied|xi_Tied|xf_Tied|xa_Tied|xs_Tied=>kernel_rfl)