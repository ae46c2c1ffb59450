import PyProof.Rows.All
import Wide.All
import OpenK.AllK
import Wide.FinOn
import Lean
import PyProof.EqAt
import PyProof.EqKinds
import PyProof.TupleCall
import PySem.Challenge.RW_easelroom_k73_raws_of_placed_things
set_option Elab.async false
set_option linter.all false
set_option maxRecDepth 100000
set_option maxHeartbeats 0
local macro_rules | `(tactic| lia) => `(tactic| first | lia (splits := 9) | omega)
open Option renaming some→AP,none→Af
open PySem renaming wpAny_bind→BL,Value→Aj,Shared→Bc,wpAny_pure→DK,Spec→ajh,starEach→Dc,Program→Dm,SetTable→Ui,sizeLine→El,wpAny→CR,mainGlobals→KH,Around→Ej,model→Cq,wpAny_holding→N7,World→DX,boot_len→Oa,wpAny_mono→Li,wpAny_field→Mv,wpAny_newObj_type→SX,NameKind→Pa,Builtin→V3,wpAny_callSpecial?_slot→Vj,wpAny_call_entry→Uh,cellsFrom→Nf,PassesOwn→vo,wpAny_Call_Name_kw→Vm,mem_of_lookup→Wh,assignEach→Ox,FuncData→Nu,compareOp→Oi,tupleKeyHash→U9,codeAny_builtin→Vk,backTo→Ku,foldedSetIterable→YK,wpAny_seqItems→Vd,Paired→Qv,sysModules→U0,binaryOp→Ow,plainId_quiet→Vc,wpAny_setField→Vy,intKind→O8,builtinLookup_eq_fast→fM,wpAny_truthy_bool→Za,wpAny_specialOf→Yo,wpAny_setState_of→ZW,wpAny_pyIter_list→ZV,typeLookup_type→Yl,codeAny_mono→Wc,wpAny_of_eq→Ve,wpAny_attempt→YQ,wpAny_typeNameOfWhole_keyiter→zQ,cLine→Lb,wpAny_setField_rec→Zk,wpAny_typeOf→YB,wpAny_passesOwn→ZF,codeAny→Qt,bootBuiltins→Y9,wpAny_standAt→Yd,wpAny_rule→Va,wpAny_loadPart_at→Zi,behindInMarks→Yc,attributeBase→Yb,rawInt→O7,isSubtype_type→ZM,wpAny_isInstance→Zu,Keyword→SM,wpAny_execs_nil→Zn,typeLookup→YC,keywordEach→Ye,firstArgMember→Zg,DictEntry→Y8,wpAny_throw→Z4,unsupported→Z3,swapsWith→Y7,sliceBounds→Z0,sizeLine_eq→Yz,excClassObj→Yy,IsPair→Tp,wpAny_runValue→pR,wpAny_call→ZC,holding→VR,Result→Um
open PySem.W renaming Frag→CQ,nsIn→La,mg_none_of→T5,Looks→Zc,excIn→Ra,mg_of→T3,findIn→UG,keepIn→Us,fnOf→YM,mroIn→Yj,clsIn→Yh,codeIn→Zo,looks_mroIn→xX,typeIn→oE
open PySem.Heap renaming get?_push_of_some→FW,lt_size→FP,get?_push_size→Kf,get?_update_other→Ql,get?_update_self→R7,SameBut→Qf,size_push→Ud,get?_none_of_le→ZR,DictOfH→ZL,ExtBut→Z6
open List renaming length_map→Ds,getElem?_eq_getElem→Lq,getElem?_map→Kh,size_toArray→Lf,length_append→Lp,map_cons→KQ,replicate→Kv,getElem?_eq_some_iff→Qc,take_succ→M4,take_length→Nj,map_append→NP,mem_cons→M5,length_cons→Od,mem_of_getElem?→T7,mem_cons_of_mem→T6,mem_singleton→R6,getElem?_append_left→Ut,getElem?_append_right→V9,getD_eq_getElem?_getD→V8,not_mem_nil→Qz,mem_map→Ni,length_singleton→V2,mem_cons_self→Ub,length_take→U7,map_congr_left→V1,mem_append_right→Wi,nodup_cons→V4,all_eq_true→Vl,range→Rb,mem_filter→Wb,lookup_cons→YJ,eq_nil_of_length_eq_zero→vA,mem_range→Wa,map_nil→Uz,map_map→Uy,mem_append→YH,length→Uo,length_replicate→Zv,length_range'→ZQ,drop_eq_getElem_cons→vh,getElem_mem→ZS,foldl_cons→ZJ,replicate_succ'→rO,mem_append_left→qZ,length_set→Zt,getElem?_take→uZ,getElem?_replicate→yu,append_nil→Zr,reverse_cons→uQ,getElem?_set_ne→w6,getElem?_of_mem→vq,any_cons→Ze
open Nat renaming le_refl→Em,lt_of_lt_of_le→Kz,le_trans→K7,ne_of_lt→KC,ne_of_gt→PN,lt_irrefl→RX,zero_le→Pz,le_of_ble_eq_true→YW,lt_of_le_of_lt→ZP,le_of_lt→Vb,not_lt_zero→Yq,eq_of_beq_eq_true→rW,le_succ→YG,lt_succ_self→p8,beq→UW,zero_add→Zd
open Option.some renaming inj→Ky
open PySem.PassesOwn renaming never→QD
open Bool renaming false_ne_true→T4,and_eq_true→V5,not_eq_true→Zh,false_eq_true→uT,and_false→nA
open Int renaming mul_ne_zero→Ph,mul_eq_zero→Ue,toNat_natCast→Zb,emod_lt_of_pos→Zz,emod_nonneg→ZG,mul_comm→Yg,eq_ofNat_of_zero_le→yc,gcd→UJ
open PySem.Obj renaming data_mapFields→U8,isFreed_of_fields→Vh,cls_mapFields→Zj,mapSeq→Yw
open PyProof.Rows renaming slot_tuple_getitem→Yt,callWith_type1→Yr,boot_tuple→V0,AllBare→VP,envOfC→Ua
open Classical renaming byContradiction→Wd,epsilon_spec→vd
open PySem.SeqAt renaming EqAt→Ys,ne_of_list_tuple→yS
open Ne renaming symm→Ke
open PySem.Heap.SameBut renaming update→Vg
open PySem.Builtin.SmallTypes renaming nextOf→Yv
open Option renaming map_eq_some_iff→YX
open PySem.SetTable renaming bits→Uc,insertAt→YS,layClean→alT,probe→Zq,runEnd→uF
open PySem.F renaming slot_dict_keyiterator_next→ug,slot_tuple_iterator_next→zM,excBase_ValueError→zN,store_object→sV,slot_zip_next→yQ,slot_dict_get→yF,called_set→Z7
open List.cons renaming inj→Vz
open PySem.Around renaming under_plainId→lw
open False renaming elim→Uq
open PyProof.Rows.F renaming plain_set_update_loop→vC
open PySem.Builtin.Tuple renaming tupleExact→xW
open PySem.SetTable.layClean renaming free→xH
open PySem.Calls renaming Name_function_global→wW,evalArgs_plain→rR
open Array renaming getElem?_eq_getElem→wQ,length_toList→vp
open PySem.Code renaming quiet_builtin→uU
open PySem.Paired renaming length→Zm
open Lean renaming maxHeartbeats→ano,maxRecDepth→anD
local macro_rules | `(tactic| show $e) => `(tactic| refine $e)
local macro_rules | `({$x:term,*}) => `(⟨$x,*⟩)
local macro_rules | `(∅) => `(by decide)
local macro_rules | `(⋯) => `(by lia)
local macro_rules | `(~~~$x) => `(($x).heap.objs.size)
set_option hygiene false in
local macro_rules | `(tactic| skip) => `(tactic| intro _ _ _ _ _ _ _ hr nd hc z)
set_option compiler.extract_closed false
set_option genSizeOf false
open Lean in
local macro_rules | `(command| def $i:declId $s:optDeclSig $v:declVal) => do
  let g:TSyntax ``Parser.Command.declSig := ⟨mkNode ``Parser.Command.declSig #[s.raw[0],s.raw[1][0]]⟩
  let c ← `(command| theorem $i $g $v:declVal)
  return c.raw.rewriteBottomUp fun x => x.setInfo .none
local macro_rules | `(command| abbrev $i:declId $s:optDeclSig $v:declVal) => `(command| noncomputable def $i:declId $s:optDeclSig $v:declVal)
open Lean in
local macro_rules | `(command| universe $x*) => do return mkNullNode (← x.mapM fun i => `(command| theorem $i:ident : True := ⟨⟩))
namespace L2
open PySem PySem.Spec PyProof.Rows
@[reducible]noncomputable def Key:=Sum Int Str
abbrev KZ:Key->Aj->Bool
 | .inl k,v=>Value.isInt k v
 | .inr x,v=>Value.isStrOf x v
abbrev aiW (w:DX):Key->Int
 | .inl k=>hashInt k
 | .inr x=>hashStr w x
def cj:∀{k v},KZ k v=true->(∃i t,k=Sum.inl i/\v=Value.int i t)\/(∃x t,k=Sum.inr x/\v=Value.str x t)
 | .inl i,v,h=>by
  obtain⟨t,e⟩:=Value.isInt_shape h;simp_all
 | .inr x,v,h=>by
  obtain⟨t,e⟩:=Value.isStrOf_shape h;simp_all
def akd (i)(t):KZ (.inl i) (.int i t)=true:=by simp[KZ,Value.isInt]
def akX (x)(t):KZ (.inr x) (.str x t)=true:=by simp[KZ,Value.isStrOf]
def aeY (a b):decide ((Sum.inl a:Key)=Sum.inl b)=(a==b):=by grind
def ae6 (a b):decide ((Sum.inr a:Key)=Sum.inr b)=decide (a=b):=by simp_all
def acI (a)(b):decide ((Sum.inl a:Key)=Sum.inr b)=false:=rfl
def acS (a)(b):decide ((Sum.inr a:Key)=Sum.inl b)=false:=rfl
abbrev dZ (prog:Dm)(w:DX):PySem.KeyKind prog w Key where
 is:=KZ
 hash:=aiW w
 inj:=λv a b ha hb=>by
  rcases cj ha with⟨i,t,rfl,rfl⟩|⟨x,t,rfl,rfl⟩
  rcases cj hb with⟨j,u,rfl,e⟩|⟨y,u,rfl,e⟩
  injection e with e1 _;rw[e1]
  exact nomatch e
  rcases cj hb with⟨j,u,rfl,e⟩|⟨y,u,rfl,e⟩
  exact nomatch e
  injection e with e1 _;rw[e1]
 byValue:=λk v h=>by
  rcases cj h with⟨i,t,rfl,rfl⟩|⟨x,t,rfl,rfl⟩<;>rfl
 pyHash:=λhv h=>by
  rcases cj hv with⟨i,t,rfl,rfl⟩|⟨x,t,rfl,rfl⟩
  exact wpAny_pyHash_int h;exact wpAny_pyHash_str h
 eqBool:=λhu hv h=>by
  rcases cj hu with⟨i,t,rfl,rfl⟩|⟨x,t,rfl,rfl⟩
  rcases cj hv with⟨j,u,rfl,rfl⟩|⟨y,u,rfl,rfl⟩
  rw[aeY]at h;exact wpAny_eqBool_int h;rw[acI]at h;exact SeqAt.EqAt.int_str i t y u _ _ _ _ h;rcases cj hv with⟨j,u,rfl,rfl⟩|⟨y,u,rfl,rfl⟩
  rw[acS]at h;exact SeqAt.EqAt.str_int x t j u _ _ _ _ h;rw[ae6]at h;exact wpAny_eqBool_str h
 «strs»:=λk x t v h=>by
  rcases cj h with⟨i,u,rfl,e⟩|⟨y,u,rfl,e⟩
  exact nomatch e
  injection e with e1 _
  subst e1;cases v<;>rfl
def aje (prog)(w)(i)(t):(dZ prog w).is (.inl i) (.int i t)=true:=akd i t
def zaq (prog)(w)(x)(t):(dZ prog w).is (.inr x) (.str x t)=true:=akX x t
inductive V where
 | non|bl (b:Bool)|int (i:Int)|str (x:Str)|byt (b:Array UInt8)|flt (b:UInt64)|ref (a:Addr)|ty (n:String)
 deriving DecidableEq
abbrev RelV:V->Aj->Prop
 | .non,u=>u=Value.none
 | .bl b,u=>u=Value.bool b
 | .int i,u=>∃t,u=Value.int i t
 | .str x,u=>∃t,u=Value.str x t
 | .byt b,u=>∃t,u=Value.bytes b t
 | .flt b,u=>∃t,u=Value.float b t
 | .ref a,u=>u=Value.ref a
 | .ty n,u=>u=Value.type n
@[reducible]noncomputable def Cg:List V->List Aj->Prop:=Qv RelV
variable {xs:List V}{us:List Aj}
def Cg.length {xs}{us}(r:Cg xs us):xs.length=us.length:=Zm r
def Cg.get:∀{xs}{us}{i:Nat}{x},Cg xs us->xs[i]?=AP x->∃u,us[i]?=AP u/\RelV x u
 | _,_,0,_,.cons r _,e=>by simp at e;subst e;show{_,rfl,r}
 | _,_,i+1,x,.cons _ t,e=>by
  obtain⟨u,h1,h2⟩:=Cg.get t (by simpa using e)
  simp_all
variable {u:Aj}
def Cg.set {x}{u}(r:RelV x u):∀{xs}{us}(i),Cg xs us->Cg (xs.set i x) (us.set i u)
 | _,_,_,.nil=>.nil
 | _,_,0,.cons _ t=>.cons r t
 | _,_,i+1,.cons q t=>.cons q (Cg.set r i t)
def Cg.append:∀{xs ys}{us ws},Cg xs us->Cg ys ws->Cg (xs++ys) (us++ws)
 | _,_,_,_,.nil,s=>s
 | _,_,_,_,.cons r t,s=>.cons r (Cg.append t s)
def Cg.take:∀{xs}{us}(n),Cg xs us->Cg (xs.take n) (us.take n)
 | _,_,0,_|_,_,_+1,.nil=>.nil
 | _,_,n+1,.cons r t=>.cons r (Cg.take n t)
def Cg.drop:∀{xs}{us}(n),Cg xs us->Cg (xs.drop n) (us.drop n)
 | _,_,0,r=>r
 | _,_,_+1,.nil=>.nil
 | _,_,n+1,.cons _ t=>Cg.drop n t
abbrev Wg:Option V->Option Aj->Prop
 | some v,AP u=>RelV v u
 | none,Af=>True
 | _,_=>False
variable {κ:Type}
abbrev KV:List (κ×V)->List (κ×Aj)->Prop:=Qv λ(p:κ×V) (q:κ×Aj)=>p.1=q.1/\RelV p.2 q.2
abbrev kV:Key->V
 | .inl i=>.int i
 | .inr x=>.str x
inductive HO where
 | lst (xs:List V)
 | tup (xs:List V)
 | dK (kvs:List (Key×V))|dT (kvs:List (List Key×V))
 | set (S:Int->Bool) (n:Nat)
 | ins (C dx:Addr) (fs:List (Str×V))
 | own (x:Addr)
 | xd (fs:List (Str×V))
 | met (f x:Addr)
 | rng (lo hi:Int)
 | frz (o:Obj) (u:HO)
 | tbl (ps:Array Aj)
 | ext (φ:Heap->Prop)
@[reducible]noncomputable def Hp:=Addr->Option HO
abbrev Dn (H:Hp)(a:Addr)(o:HO):Hp:=λb=>if b=a then AP o else H b
variable {a:Addr}{H:Hp}
def aV {o}:Dn H a o a=AP o:=by unfold Dn;rw[if_pos rfl]
variable {b:Addr}
def aL {o}(h:b≠a):Dn H a o b=H b:=by unfold Dn;rw[if_neg h]
def aQ {o}(h:H a=AP o)(h':H b=Af):a≠b:=⋯
section
variable (P:Dm)(w:DX)
abbrev Sv (h:Heap)(a:Addr)(items:Array Aj):Prop:=∃o,h.get? a=AP o/\o.cls=.type "tuple"/\(∃n,o.data=.seq items n)/\o.dict=Af
def Sv.tup {h}{items}(x:Sv h a items):IsTup h a items:=let⟨o,G,O,J,_⟩:=x;⟨o,G,O,J⟩
def Sv.new (h:Heap)(items):Sv (h.push {cls:=.type "tuple",data:=.seq items}) h.objs.size items:={_,Kf _ rfl,rfl,{_,rfl},rfl}
abbrev fG (H:Hp)(h:Heap)(a:Addr):HO->Prop
 | .lst xs=>xs.length<=El/\∃(its:List Aj) (n:Nat),Cg xs its/\h.get? a=AP {cls:=.type "list",data:=.seq its.toArray n}
 | .tup xs=>xs.length<=El/\∃its:List Aj,Cg xs its/\Sv h a its.toArray
 | .dK kvs=>kvs.length<=El/\(a==U0)=false/\∃vs,KV kvs vs/\h.DictOf (dZ P w) a vs
 | .dT kvs=>kvs.length<=El/\(a==U0)=false/\∃xs:List (List Key×Addr×Aj),
   Qv (λ(p:List Key×V) (q:List Key×Addr×Aj)=>p.1=q.1/\H q.2.1=AP (.tup (p.1.map kV))/\RelV p.2 q.2.2) kvs xs /\
   ∃o es ep,h.get? a=AP o/\o.ExactDict/\o.data=.dict es ep/\es.toList=xs.map (entryOfKey (tupleKind (dZ P w)))/\(xs.map (·.1)).Nodup
 | .set S n=>h.SetOf (O8 P w) a S n
 | .ins C dx fs=>H dx=AP (.own a)/\fs.length<=1000/\dx≠a/\h.get? a=AP (PySem.W.instObj C dx) /\
   ∃mA,h.Ns1 dx mA/\(∀f,Wg (fs.lookup f) (mA f))/\PySem.Within mA (fs.map (·.1))
 | .own _=>∃o,h.get? a=AP o
 | .xd fs=>∃mA,h.Ns1 a mA/\∀f,Wg (fs.lookup f) (mA f)
 | .rng lo hi=>∃t u v,h.get? a=AP {cls:=.type "range",data:=.fields #[.int lo t,.int hi u,.int 1 v]}
 | .frz o u=>h.get? a=AP o/\fG H h a u
 | .tbl ps=>h.get? a=AP {cls:=.none,data:=.fields ps}
 | .met f x=>h.get? a=AP (PySem.W.methodObj (.ref f) (.ref x))
 | .ext φ=>φ h/\(∃o,h.get? a=AP o)/\∀h1 h2:Heap,φ h1->(∀o,h1.get? a=AP o->h2.get? a=AP o)->φ h2
abbrev MJ (H:Hp)(h:Heap):Prop:=∀a o,H a=AP o->fG P w H h a o
end
variable {h:Heap}
section
variable {P:Dm}{w:DX}{H':Hp}{h':Heap}{o:HO}
def fG.lt (x:fG P w H h a o):a<h.objs.size:=by
 cases o with
 | lst xs=>obtain⟨_,_,_,_,e⟩:=x;show FP e
 | tup xs=>obtain⟨_,_,_,p⟩:=x;show p.tup.lt
 | dK kvs|dT kvs=>obtain⟨_,_,_,_,o,_,_,e,_⟩:=x;show FP e
 | set S n=>obtain⟨o,_,_,_,e,_⟩:=x;show FP e
 | ins C dx fs=>obtain⟨_,_,_,e,_⟩:=x;show FP e
 | own y=>obtain⟨_,e⟩:=x;show FP e
 | xd fs=>obtain⟨_,⟨_,_,_,e,_⟩,_⟩:=x;show FP e
 | rng lo hi=>obtain⟨_,_,_,e⟩:=x;show FP e
 | frz J u=>obtain⟨e,_⟩:=x;show FP e
 | tbl ps|met f y=>show FP x
 | ext G=>obtain⟨_,⟨_,e⟩,_⟩:=x;show FP e
def Paired.mapP {Y U}{F G}:∀{O:List Y}{J:List U},Qv F O J->(∀a b,F a b->G a b)->Qv G O J
 | _,_,.nil,_=>.nil
 | _,_,.cons r t,f=>.cons (f _ _ r) (Paired.mapP t f)
def fG.stay (x:fG P w H h a o)(k:∀b u,(b=a\/H b=AP (.own a))->h.get? b=AP u->h'.get? b=AP u)
  (Y:∀b,H b=AP (.own a)->H' b=AP (.own a)) (ht:∀b xs,H b=AP (.tup xs)->H' b=AP (.tup xs)):fG P w H' h' a o:=by
 induction o with
 | lst xs=>obtain⟨z,its,n,r,e⟩:=x;show{z,its,n,r,k _ _ (.inl rfl) e}
 | tup xs=>obtain⟨z,its,r,G,e,c⟩:=x;show{z,its,r,G,k _ _ (.inl rfl) e,c}
 | dK kvs=>obtain⟨z,y,J,r,G,es,ep,e,c⟩:=x;show{z,y,J,r,G,es,ep,k _ _ (.inl rfl) e,c}
 | dT kvs=>
  obtain⟨z,y,xs,r,G,es,ep,e,c⟩:=x;show{z,y,xs,Paired.mapP r λp q z=>{z.1,ht _ _ z.2.1,z.2.2},G,es,ep,k _ _ (.inl rfl) e,c}
 | set S n=>obtain⟨G,es,ep,t,e,c⟩:=x;show{G,es,ep,t,k _ _ (.inl rfl) e,c}
 | ins C dx fs=>
  obtain⟨d,z,O,e,mA,⟨od,es,ep,e2,c⟩,r⟩:=x;show{Y _ d,z,O,k _ _ (.inl rfl) e,mA,{od,es,ep,k _ _ (.inr d) e2,c},r}
 | own y=>obtain⟨G,e⟩:=x;show{G,k _ _ (.inl rfl) e}
 | xd fs=>obtain⟨mA,⟨od,es,ep,e,c⟩,r⟩:=x;show{mA,{od,es,ep,k _ _ (.inl rfl) e,c},r}
 | rng lo hi=>obtain⟨t,u,v,e⟩:=x;show{t,u,v,k _ _ (.inl rfl) e}
 | frz G u U=>obtain⟨e,q⟩:=x;show{k _ _ (.inl rfl) e,U q}
 | tbl ps|met f y=>
  have e:=x;show k a _ (.inl rfl) e
 | ext g=>obtain⟨p,⟨o,e⟩,st⟩:=x;show{st _ _ p λo q=>k _ _ (.inl rfl) q,{o,k _ _ (.inl rfl) e},st}
def MJ.lt (x:MJ P w H h)(e:H a=AP o):a<h.objs.size:=(x a o e).lt
def MJ.fresh (x:MJ P w H h)(e:h.objs.size<=a):H a=Af:=by
 cases q:H a with
 | none=>rfl
 | some u=>show absurd (Kz (x.lt q) e) (RX _)
def MJ.kept (x:MJ P w H h)(k:∀b u,h.get? b=AP u->h'.get? b=AP u):MJ P w H h':=λa o e=>
 (x a o e).stay (λb u _ q=>k b u q) (λ_ q=>q) λ_ _ q=>q
def MJ.laid (x:MJ P w H h)(k:∀b u,h.get? b=AP u->h'.get? b=AP u)(U:h.objs.size<=a)(G:fG P w (Dn H a o) h' a o):MJ P w (Dn H a o) h':=λb u e=>by
 have J:=x.fresh U;by_cases O:b=a
 subst O;rw[aV]at e;cases e;show G;rw[aL O]at e;show(x b u e).stay (λc v _ q=>k c v q) (λc q=>aL (aQ q J) ▸ q) λc xs q=>aL (aQ q J) ▸ q
end
variable {h':Heap}{H':Hp}{w:DX}{P:Dm}
abbrev Rd (H:Hp)(a:Addr)(u:HO):Prop:=H a=AP u\/∃o,H a=AP (.frz o u)
def Rd.ok {u}(r:Rd H a u)(x:MJ P w H h):fG P w H h a u:=by
 rcases r with r|⟨o,r⟩
 exact x a u r;obtain⟨_,q⟩:=x a _ r;exact q
abbrev Mut:Option HO->Prop
 | some (.lst _)=>True
 | some (.dK _)=>True
 | some (.dT _)=>True
 | some (.set _ _)=>True
 | some (.ins _ _ _)=>True
 | some (.ext _)=>True
 | some (.xd _)=>True
 | _=>False
section
variable {x e:Addr}{o':HO}
def MJ.write (f:MJ P w H h)(J:Mut (H x))(i:e=x\/H e=AP (.own x))(k:∀b u,b≠e->h.get? b=AP u->h'.get? b=AP u)(U:∃u,h'.get? e=AP u)
  (O:fG P w (Dn H x o') h' x o'):MJ P w (Dn H x o') h':=λb u q=>by
 have G:∀c y,H c=AP (.own y)->c≠x:=λc y r z=>by subst z;rw[r]at J;show J
 by_cases d:b=x
 subst d;rw[aV]at q;cases q;show O;rw[aL d]at q;by_cases Y:b=e
 have a:H b=AP (.own x):=by
  simp_all
 rw[q]at a;cases a;obtain⟨v,g⟩:=U;show{v,Y ▸ g};show(f b u q).stay (λc v j r=>k c v ?_ r) (λc r=>aL (G c b r) ▸ r) λc xs r=>by rw[aL ((λc xs r z=>by subst z;rw[r]at J;show J) c xs r)];show r
 grind
end
structure Un (fs ex:List Addr) (H H':Hp) (h h':Heap):Prop where
 keep:∀b o,h.get? b=AP o->H b=Af->b∉fs->b∉ex->h'.get? b=AP o
 slot:∀b o,h.get? b=AP o->H b=Af->b∈fs->b∉ex->∃sl,h'.get? b=AP {o with slots:=sl}
 free:∀b o,h.get? b=AP o->H b=Af->b∉ex->H' b=Af
 there:∀b o,h.get? b=AP o->b∉ex->∃o',h'.get? b=AP o'
 tups:∀b xs,H b=AP (.tup xs)->H' b=AP (.tup xs)
 frzs:∀b o u,H b=AP (.frz o u)->H' b=AP (.frz o u)
 tbls:∀b ps,H b=AP (.tbl ps)->∃more,H' b=AP (.tbl (ps++more))
section
variable {fs fs' ex ex':List Addr}{H1 H2:Hp}{h1 h2:Heap}{x e:Addr}{o:HO}
def Un.any (u:Un fs ex H H1 h h1){G}(q:h.get? b=AP G)(n:H b=Af)(J:b∉ex):∃sl,h1.get? b=AP {G with slots:=sl}:=by
 by_cases O:b∈fs
 show u.slot b G q n O J;show{G.slots,u.keep b G q n O J}
def Un.kept (k:∀b u,h.get? b=AP u->h'.get? b=AP u):Un fs ex H H h h':=
 {λb G q _ _ _=>k b G q,λb G q _ _ _=>{G.slots,k b G q},λ_ _ _ n _=>n,λb G q _=>{G,k b G q},λ_ _ q=>q,λ_ _ _ q=>q,λ_ ps q=>{#[],by rw[q];simp}}
def Un.refl:Un fs ex H H h h:=Un.kept λ_ _ q=>q
def Un.laid (k:∀b u,h.get? b=AP u->h'.get? b=AP u)(f:h.objs.size<=a)(J:H a=Af):Un fs ex H (Dn H a o) h h' where
 keep:=λb u q _ _ _=>k b u q
 slot:=λb u q _ _ _=>{u.slots,k b u q}
 free:=λb u q n _=>aL (KC (Kz (FP q) f)) ▸ n
 there:=λb u q _=>{u,k b u q}
 tups:=λb xs q=>aL (aQ q J) ▸ q
 frzs:=λb u xs q=>aL (aQ q J) ▸ q
 tbls:=λb ps q=>{#[],by rw[aL (aQ q J),q];simp}
def Un.write (G:Mut (H x))(a:e=x\/H e=AP (.own x))(k:∀b u,b≠e->h.get? b=AP u->h'.get? b=AP u)(Y:∃u,h'.get? e=AP u):Un fs ex H (Dn H x o) h h':=by
 have U:∀b,H b=Af->b≠x:=λb n z=>by subst z;rw[n]at G;show G
 have O:∀b,H b=Af->b≠e:=λb n z=>by
  simp_all
 have J:∀b u,H b=AP u->¬Mut (AP u)->b≠x:=λb u q nm z=>by subst z;rw[q]at G;show nm G
 show{λb u q n _ _=>k b u (O b n) q,λb u q n _ _=>{u.slots,k b u (O b n) q},λb u q n _=>aL (U b n) ▸ n,λb u q _=>?_,
  λb xs q=>aL (J b _ q λz=>z) ▸ q,λb u xs q=>aL (J b _ q λz=>z) ▸ q,λb ps q=>{#[],by rw[aL (J b _ q λz=>z),q];simp}}
 grind
end
abbrev trk (h:Heap)(H:Hp):List Addr:=(Rb h.objs.size).filter λa=>(H a).isSome
abbrev abu (h:Heap)(H:Hp):Heap:=PySem.W.hideAll h (trk h H)
def zaU (h)(H):(abu h H).objs.size=h.objs.size:=PySem.W.hideAll_size _ _
def akK {o}(e:h.get? b=AP o)(n:H b=Af):(abu h H).get? b=AP o:=
 PySem.W.hideAll_get _ e λhm=>by
  have q:=(Wb.mp hm).2;simp_all
def abl {o}(e:(abu h H).get? b=AP o):h.get? b=AP o/\H b=Af:=by
 have e':=PySem.W.of_hideAll _ e;show{e',?_};cases q:H b with
 | none=>rfl
 | some x=>
  have z:(abu h H).get? b=Af:=PySem.W.hideAll_none _ (Wb.mpr {Wa.mpr (FP e'),by simp[q]});simp_all
structure Mod (K:CQ) (mg:Str->Option Aj) (base:Heap):Prop where
 kin:K.In base
 glob:base.Ns KH mg
 blt:∃mb,base.Ns builtinsNs mb/\∀x:Str,x ≠ "__name__"->mb x=Y9 x
 nolimit:base.NoLimit
structure Cx where
 prog:Dm
 w:DX
 K:CQ
 mg:Str->Option Aj
 base:Heap
 A:Ej
 N:List Str
 s₀:Bc
 H₀:Hp
 env:Env
 outer:List Env
 stack:List Env
 ex:List Addr
 fn:Str->Bool
 calm:Bool
 pn:List (Addr×Obj)
 xe:Aj->Bc->Prop
abbrev frs (l:List Env):List Addr:=l.filterMap (·.frame)
@[reducible]noncomputable def Cx.fs (X:Cx):List Addr:=frs X.outer
abbrev Vis (sc:Scope)(x:Str):Prop:=sc.names.lookup x=AP .local\/sc.names.lookup x=AP .cell\/sc.names.lookup x=AP .free
abbrev Loc (sc:Scope)(x:Str):Prop:=sc.names.lookup x=AP .local\/sc.names.lookup x=AP .cell
abbrev Look (env:Env)(h:Heap)(m:Str->Option Aj)(x:Str)(u:Aj):Prop:=
 (env.kindOf x=AP .local/\m x=AP u)\/((env.kindOf x=AP .cell\/env.kindOf x=AP .free)/\∃c,env.cells.lookup x=AP c/\h.IsCell c (AP u))
inductive T9 (H:Hp):Aj->Prop
 | nil:T9 H .none
 | cons {c:Addr}{o:Obj}{u:HO}{vs:Array Aj}{z:Aj}(h1:H c=AP (.frz o u)) (h2:o.data=.fields vs) (h3:vs[2]?=AP z) (t:T9 H z):T9 H (.ref c)
def T9.mono {v}(c:T9 H v)(k:∀a o u,H a=AP (.frz o u)->H' a=AP (.frz o u)):T9 H' v:=by
 induction c with
 | nil=>show .nil
 | cons h1 h2 J _ G=>show .cons (k _ _ _ h1) h2 J G
abbrev Still (H:Hp)(v:Aj):Prop:=(∃a,v=.ref a)/\T9 H v
abbrev Quiet (A:Ej)(H:Hp):Prop:=∀v,A.handled=AP v->Still H v
structure Cx.Ok (X:Cx):Prop where
 mod:Mod X.K X.mg X.base
 kind:X.env.scope.kind=.function
 glob:X.env.globals=KH
 blt:X.env.builtins=builtinsNs
 above:X.s₀.heap.objs.size<=X.env.locals
 inj:∀x y c,X.env.cells.lookup x=AP c->X.env.cells.lookup y=AP c->x=y
 has:∀x,(X.env.kindOf x=AP .cell\/X.env.kindOf x=AP .free)->∃c,X.env.cells.lookup x=AP c
 cab:∀x c,X.fn x=true->X.env.cells.lookup x=AP c->X.s₀.heap.objs.size<=c
 hd:X.calm=true->X.A.handled=Af
 qt:Quiet X.A X.H₀
 frames:X.A.frames=AP X.stack
 stk:X.stack=X.outer\/(X.stack=X.env::X.outer/\X.env.frame=AP X.env.locals)
 exf:∀b∈X.ex,b≠X.env.locals/\∀x c,X.env.cells.lookup x=AP c->c≠b
 bs:∀b o,X.base.get? b=AP o->X.s₀.heap.get? b=AP o/\X.H₀ b=Af
 bsz:X.base.objs.size<=X.s₀.heap.objs.size
 noex:∀b o,X.base.get? b=AP o->b∉X.ex
 exfs:∀b∈X.ex,b∉X.fs
 funs:X.s₀.heap.FunFrames X.base X.outer
 frf:∀b∈X.fs,X.H₀ b=Af
structure Bk (X:Cx) (apn:List (Addr×Obj)) (σ:List (Option V)) (H:Hp) (s:Bc):Prop where
 ok:X.Ok
 os:s.os=X.s₀.os
 bare:VP s.gens
 base:Un X.fs X.ex X.H₀ H X.s₀.heap s.heap
 loc:∃m,s.heap.Ns X.env.locals m/\∀(i:Nat) (x:Str) (v:V),X.N[i]?=AP x->σ[i]?=AP (AP v)->Vis X.env.scope x->∃u,RelV v u/\Look X.env s.heap m x u
 cell:∀x c,X.env.cells.lookup x=AP c->∃v,s.heap.IsCell c v
 free:H X.env.locals=Af
 freeC:∀x c,X.env.cells.lookup x=AP c->H c=Af
 pin:∀p∈X.pn++apn,s.heap.get? p.1=AP p.2/\H p.1=Af/\p.1≠X.env.locals/\p.1∉X.fs/\∀v,p.2.data≠.cell v
 hok:MJ X.prog X.w H s.heap
 len:σ.length=X.N.length
section
variable {X:Cx}{apn:List (Addr×Obj)}{σ:List (Option V)}{s:Bc}
def Cx.Ok.nofr (G:X.Ok){o}(e:X.base.get? b=AP o):b∉X.fs:=λhb=>by
 have:=(G.funs.mem hb).1
 simp_all
def Bk.bs (I:Bk X apn σ H s):∀b o,X.base.get? b=AP o->s.heap.get? b=AP o/\H b=Af:=λb o e=>
 {I.base.keep b o (I.ok.bs b o e).1 (I.ok.bs b o e).2 (I.ok.nofr e) (I.ok.noex b o e),I.base.free b o (I.ok.bs b o e).1 (I.ok.bs b o e).2 (I.ok.noex b o e)}
def Bk.qt0 (I:Bk X apn σ H s):Quiet X.A H:=λv e=>{(I.ok.qt v e).1,(I.ok.qt v e).2.mono I.base.frzs}
def Bk.bk (I:Bk X apn σ H s):∀b o,X.base.get? b=AP o->s.heap.get? b=AP o:=λb o e=>(I.bs b o e).1
def Bk.mod (I:Bk X apn σ H s):Mod X.K X.mg X.base:=I.ok.mod
def Bk.kIn (I:Bk X apn σ H s):X.K.In s.heap:=I.ok.mod.kin.keeps I.bk
def Bk.lt (I:Bk X apn σ H s):X.env.locals<s.heap.objs.size:=let⟨_,G,_⟩:=I.loc;G.lt
def Bk.sz (I:Bk X apn σ H s):X.s₀.heap.objs.size<=s.heap.objs.size:=K7 I.ok.above (Vb I.lt)
def Bk.nofs (I:Bk X apn σ H s)(h:s.heap.objs.size<=a):a∉X.fs:=λhb=>by
 obtain⟨_,o,G,_⟩:=I.ok.funs.mem hb;show absurd (Kz (FP G)<|K7 I.sz h)<|RX _
def Bk.cne (I:Bk X apn σ H s):∀x c,X.env.cells.lookup x=AP c->c≠X.env.locals:=λx c e z=>by
 obtain⟨v,o,O,U⟩:=I.cell x c e;obtain⟨m,⟨o',es,ep,G,J,_⟩,_⟩:=I.loc;simp_all
def Bk.funs (I:Bk X apn σ H s):s.heap.FunFrames X.base X.outer:=by
 have U:∀(l:List Env),(∀b∈frs l,b∈X.fs)->X.s₀.heap.FunFrames X.base l->s.heap.FunFrames X.base l:=by
  intro l;induction l with
  | nil=>intro _ _;trivial
  | cons env r Y=>
   intro hs hl;obtain⟨f,⟨L,o,G,d,c,g⟩,a⟩:=hl;have O:=hs L (by unfold frs;rw[List.filterMap_cons,G];show Ub);obtain⟨sl,e⟩:=I.base.slot L o c (I.ok.frf L O) O λz=>I.ok.exfs L z O
   show{f,{L,_,G,d,e,g},Y (λb J=>hs b (by unfold frs;rw[List.filterMap_cons,G];show T6 _ J)) a}
 show U _ (λ_ J=>J) I.ok.funs
def Bk.stack (I:Bk X apn σ H s):s.heap.FunFrames X.base X.stack:=by
 rcases I.ok.stk with e|⟨e,J⟩
 rw[e];show I.funs;rw[e];obtain⟨m,G,_⟩:=I.loc;show .cons (by rw[I.ok.kind];decide) J G ?_ I.funs;show ZR<|K7 I.ok.bsz I.ok.above
def Bk.stkSub (I:Bk X apn σ H s):∀b∈frs X.stack,b∈X.env.locals::X.fs:=λb G=>by
 rcases I.ok.stk with e|⟨e,J⟩
 simp_all
 rw[e]at G;unfold frs at G
 rwa[List.filterMap_cons,J]at G
def Bk.stkFree (I:Bk X apn σ H s):∀b∈frs X.stack,H b=Af:=λb G=>by
 rcases M5.mp (I.stkSub b G)with e|G
 rw[e];show I.free;obtain⟨_,o,J,_⟩:=I.ok.funs.mem G;show I.base.free b o J (I.ok.frf b G) λz=>I.ok.exfs b z G
def Bk.stepG {R t'}{d'}{ch:List Addr}(I:Bk X apn σ H s)
  (Y:∀b∈ch,(b∈X.ex\/X.s₀.heap.get? b=Af)/\b≠X.env.locals/\(∀x c,X.env.cells.lookup x=AP c->c≠b)/\∀p∈X.pn++apn,p.1≠b)
  (U:∀b o,b≠X.env.locals->b∉X.fs->b∉ch->s.heap.get? b=AP o->H b=Af->h'.get? b=AP o)
  (h:∀b o,b≠X.env.locals->b∈X.fs->b∉ch->s.heap.get? b=AP o->H b=Af->∃sl,h'.get? b=AP {o with slots:=sl}) (J:∀b o,b∉ch->s.heap.get? b=AP o->H b=Af->H' b=Af)
  (j:∀b o,b∉ch->s.heap.get? b=AP o->∃o',h'.get? b=AP o')
  (y:∀b xs,H b=AP (.tup xs)->H' b=AP (.tup xs)) (D:∀b o u,H b=AP (.frz o u)->H' b=AP (.frz o u)) (A:∀b ps,H b=AP (.tbl ps)->∃C,H' b=AP (.tbl (ps++C)))
  (ns:∀m,s.heap.Ns X.env.locals m->h'.Ns X.env.locals m) (F:MJ X.prog X.w H' h') (T:VP R) :
  Bk X apn σ H' {s with heap:=h',gens:=R,drawn:=d',toks:=t'}:=by
 have B:∀b o,X.s₀.heap.get? b=AP o->b≠X.env.locals:=λb o e=>KC (Kz (FP e) I.ok.above)
 have g:∀b o,X.s₀.heap.get? b=AP o->b∉X.ex->b∉ch:=λb o e G t=>by
  rcases(Y b t).1 with z|z
  show G z;rw[z]at e;cases e
 have f:∀x c,X.env.cells.lookup x=AP c->∀v,s.heap.IsCell c v->h'.IsCell c v:=λx c e v a=>by
  obtain⟨o,w,K⟩:=a;have O:=λz=>(Y c z).2.2.1 x c e rfl
  by_cases Q:c∈X.fs
  obtain⟨sl,q⟩:=h c o (I.cne x c e) Q O w (I.freeC x c e);show{_,q,K};show{o,U c o (I.cne x c e) Q O w<|I.freeC x c e,K}
 show{I.ok,I.os,T,{λb o e n t G=>(U b o (B b o e) t (g b o e G) (I.base.keep b o e n t G)<|I.base.free b o e n G),λb o e n t G=>?_,λb o e n G=>?_,λb o e G=>?_,λb xs e=>y b xs<|I.base.tups b xs e,λb o xs e=>D b o xs<|I.base.frzs b o xs e,λb ps e=>?_},?_,λx c e=>?_,?_,λx c e=>?_,λp N=>?_,F,I.len};obtain⟨sl,e1⟩:=I.base.slot b o e n t G;obtain⟨E,e2⟩:=h b _ (B b o e) t (g b o e G) e1 (I.base.free b o e n G);show⟨E,e2⟩;obtain⟨o',e1⟩:=I.base.there b o e G;show J b o' (g b o e G) e1<|I.base.free b o e n G
 obtain⟨o',e1⟩:=I.base.there b o e G;show j b o' (g b o e G) e1;obtain⟨m1,e1⟩:=I.base.tbls b ps e;obtain⟨m2,e2⟩:=A b _ e1;show{m1++m2,by rw[e2,Array.append_assoc]};obtain⟨m,S,hl⟩:=I.loc;show{m,ns m S,λi x v e1 e2 e3=>?_};obtain⟨u,r,l⟩:=hl i x v e1 e2 e3;show{u,r,?_};rcases l with l|⟨k,c,e,z⟩
 show .inl l;show .inr {k,c,e,f x c e _ z};obtain⟨v,z⟩:=I.cell x c e;show{v,f x c e v z};obtain⟨m,⟨o,_,_,w,_⟩,_⟩:=I.loc;show J _ o (λz=>(Y _ z).2.1 rfl) w I.free;obtain⟨v,o,w,K⟩:=I.cell x c e;show J c o (λz=>(Y c z).2.2.1 x c e rfl) w<|I.freeC x c e
 obtain⟨e,n,M,L,d⟩:=I.pin p N;have O:=λz=>(Y _ z).2.2.2 p N rfl
 show{U _ _ M L O e n,J _ _ O e n,M,L,d}
def Bk.step {i t'}{d'}{ch:List Addr}(I:Bk X apn σ H s)
  (d:∀b∈ch,(b∈X.ex\/X.s₀.heap.objs.size<=b)/\b≠X.env.locals/\(∀x c,X.env.cells.lookup x=AP c->c≠b)/\∀p∈X.pn++apn,p.1≠b)
  (a:∀b o,b≠X.env.locals->b∉X.fs->b∉ch->s.heap.get? b=AP o->H b=Af->h'.get? b=AP o)
  (U:∀b o,b≠X.env.locals->b∈X.fs->b∉ch->s.heap.get? b=AP o->H b=Af->∃sl,h'.get? b=AP {o with slots:=sl}) (f:∀b o,b∉ch->s.heap.get? b=AP o->H b=Af->H' b=Af)
  (G:∀b o,b∉ch->s.heap.get? b=AP o->∃o',h'.get? b=AP o')
  (J:∀b xs,H b=AP (.tup xs)->H' b=AP (.tup xs)) (e:∀b o u,H b=AP (.frz o u)->H' b=AP (.frz o u)) (O:∀b ps,H b=AP (.tbl ps)->∃Y,H' b=AP (.tbl (ps++Y)))
  (ns:∀m,s.heap.Ns X.env.locals m->h'.Ns X.env.locals m) (g:MJ X.prog X.w H' h') (j:VP i) :
  Bk X apn σ H' {s with heap:=h',gens:=i,drawn:=d',toks:=t'}:=
 I.stepG (λb z=>{(d b z).1.imp id λq=>ZR q,(d b z).2}) a U f G J e O ns g j
def Bk.un {t'}(I:Bk X apn σ H s)(u:Un X.fs [] H H' s.heap h')(J:MJ X.prog X.w H' h'):Bk X apn σ H' {s with heap:=h',toks:=t'}:=by
 obtain⟨m,⟨o,es,ep,a,r⟩,_⟩:=I.loc;obtain⟨sl,g⟩:=u.any a I.free (by simp);show I.step (ch:=[]) nofun (λb o _ O _ e n=>u.keep b o e n O (by simp)) (λb o _ O _ e n=>u.slot b o e n O (by simp)) (λb o _ e n=>u.free b o e n (by simp)) (λb o _ e=>u.there b o e (by simp)) u.tups u.frzs u.tbls (λm' f=>by
  obtain⟨o',U,Y,G,d⟩:=f;rw[a]at G;cases G;show{_,U,Y,g,d}) J I.bare
def Bk.call {h t'}{d'}{ch}(I:Bk X apn σ H s)(u:Un (frs X.stack) ch H H' s.heap h')(U:MJ X.prog X.w H' h')(k:VP h)
  (O:∀b∈ch,(b∈X.ex\/X.s₀.heap.objs.size<=b)/\b≠X.env.locals/\(∀x c,X.env.cells.lookup x=AP c->c≠b)/\∀p∈X.pn++apn,p.1≠b) :
  Bk X apn σ H' {s with heap:=h',gens:=h,drawn:=d',toks:=t'}:=by
 obtain⟨m,⟨o,es,ep,f,r⟩,_⟩:=I.loc;obtain⟨sl,Y⟩:=u.any f I.free λz=>(O _ z).2.1 rfl
 show I.step O (λb o Y l G e n=>u.keep b o e n (λz=>(M5.mp (I.stkSub b z)).elim Y l) G) (λb o _ _ G e n=>u.any e n G) (λb o G e n=>u.free b o e n G) (λb o G e=>u.there b o e G) u.tups u.frzs u.tbls (λm' j=>by
  obtain⟨o',a,d,J,i⟩:=j;rw[f]at J;cases J;show{_,a,d,Y,i}) U k
def Bk.turned {t'}{it}(I:Bk X apn σ H s)(k:∀b o,b≠it->s.heap.get? b=AP o->h'.get? b=AP o)(Y:H it=Af)(d:it≠X.env.locals)
  (h1:it∈X.ex\/X.s₀.heap.objs.size<=it) (h2:∀x c,X.env.cells.lookup x=AP c->c≠it) (g:∀p∈X.pn++apn,p.1≠it):Bk X apn σ H {s with heap:=h',toks:=t'}:=by
 have J:∀b u,H b=AP u->b≠it:=λb u e z=>by rw[z,Y]at e;cases e
 show I.step (ch:=[it]) (λb f=>?_) (λb o _ _ G e _=>k b o (λz=>G<|by simp[z]) e) (λb o _ _ G e _=>{o.slots,k b o (λz=>G<|by simp[z]) e}) (λ_ _ _ _ n=>n)
  (λb o G e=>{o,k b o (λz=>G (by simp[z])) e}) (λ_ _ e=>e) (λ_ _ _ e=>e) (λb ps e=>{#[],by rw[e];simp}) (λm a=>?_) (λb u e=>?_) I.bare
 grind
 obtain⟨o,es,ep,U,r⟩:=a;show{o,es,ep,k _ o (Ke d) U,r};show(I.hok b u e).stay (λc v G q=>k c v ?_ q) (λ_ q=>q) λ_ _ q=>q;rcases G with z|z
 simp_all
 show J c _ z
def Bk.tok (I:Bk X apn σ H s)(t):Bk X apn σ H {s with toks:=t}:=I.un Un.refl I.hok
def Bk.kept {t'}(I:Bk X apn σ H s)(k:∀b u,s.heap.get? b=AP u->h'.get? b=AP u):Bk X apn σ H {s with heap:=h',toks:=t'}:=I.un (Un.kept k) (I.hok.kept k)
def Bk.laid {a:Addr}{o}{t'}(I:Bk X apn σ H s)(k:∀b u,s.heap.get? b=AP u->h'.get? b=AP u)(J:s.heap.objs.size<=a)(G:fG X.prog X.w (Dn H a o) h' a o) :
  Bk X apn σ (Dn H a o) {s with heap:=h',toks:=t'}:=I.un (Un.laid k J (I.hok.fresh J)) (I.hok.laid k J G)
def Bk.write {x e o}{t'}(I:Bk X apn σ H s)(O:Mut (H x))(Y:e=x\/H e=AP (.own x))(k:∀b u,b≠e->s.heap.get? b=AP u->h'.get? b=AP u)(G:∃u,h'.get? e=AP u)
  (J:fG X.prog X.w (Dn H x o) h' x o):Bk X apn σ (Dn H x o) {s with heap:=h',toks:=t'}:=I.un (Un.write O Y k G) (I.hok.write O Y k G J)
def Bk.weak {σ'}(I:Bk X apn σ H s)(hl:σ'.length=σ.length)(w:∀(i:Nat) v,σ'[i]?=AP (AP v)->σ[i]?=AP (AP v)):Bk X apn σ' H s:=
 {I.ok,I.os,I.bare,I.base,let⟨m,J,G⟩:=I.loc;{m,J,λi x v e1 e2 e3=>G i x v e1 (w i v e2) e3},I.cell,I.free,I.freeC,I.pin,I.hok,hl.trans I.len}
def Bk.pins_of {pins'}(I:Bk X apn σ H s)(h:∀p∈pins',s.heap.get? p.1=AP p.2/\H p.1=Af/\p.1≠X.env.locals/\p.1∉X.fs/\∀v,p.2.data≠.cell v):Bk X pins' σ H s:=
 {I.ok,I.os,I.bare,I.base,I.loc,I.cell,I.free,I.freeC,λp G=>(YH.mp G).elim (λz=>I.pin p (qZ _ z)) (h p),I.hok,I.len}
def GQ {N:List Str}(G:N.Nodup){i j:Nat}{x}(a:N[i]?=AP x)(b:N[j]?=AP x):i=j:=by
 obtain⟨h1,e1⟩:=Qc.mp a;obtain⟨h2,e2⟩:=Qc.mp b;show(List.getElem_inj G).mp (e1.trans e2.symm)
def BR {M A}{E i x v}{Q}(I:Bk X apn σ H s)(hN:X.N.Nodup)(hi:X.N[i]?=AP x)(hx:Loc X.env.scope x)(r:RelV v u)
  (h:∀s',Bk X apn (σ.set i (AP v)) H s'->(∃a,Qf a s.heap s'.heap/\(a=X.env.locals\/X.env.cells.lookup x=AP a))->Q () s') (hf:X.fn x=true\/X.env.scope.names.lookup x=AP .local:=by first|exact .inl rfl|exact .inr rfl|assumption):CR M A (storeName X.env x u) Q E s:=by
 obtain⟨m,hn,hl⟩:=I.loc;have hiσ:i < σ.length:=by rw[I.len];show(Qc.mp hi).1
 have cne:=I.cne;have tracked:∀{a:Addr}{h':Heap},(∃o,s.heap.get? a=AP o/\H a=Af)->Qf a _ h'->MJ _ _ H h':=λ{a h'} ha hs b ob e=>by
  obtain⟨_,_,hfree⟩:=ha;show(I.hok b ob e).stay (λc w' hc q=>(hs.2 c ?_).trans q) (λ_ q=>q) λ_ _ q=>q;rintro rfl;rcases hc with rfl|hc
  rw[hfree]at e;cases e;rw[hfree]at hc;cases hc
 rcases hx with hk|hk
 show wpAny_storeName_local hk hn (λh' hn' hs=>?_) (by rw[I.ok.kind];rfl);obtain⟨oL,_,_,hoL,_⟩:=hn;show h _ {I.ok,I.os,I.bare,{λb o e n hb hx=>?_,λb o e n hb hx=>?_,I.base.free,λb o e hx=>?_,I.base.tups,I.base.frzs,I.base.tbls},{_,hn',λj y v' e1 e2 e3=>?_},λy c e=>?_,I.free,I.freeC,λp hp=>?_,tracked ⟨oL,hoL,I.free⟩ hs,by simpa using I.len} {_,hs,.inl rfl};show(hs.2 b<|KC<|Kz (FP e) I.ok.above).trans (I.base.keep b o e n hb hx);obtain⟨sl,e1⟩:=I.base.slot b o e n hb hx;show{sl,(hs.2 b<|KC<|Kz (FP e) I.ok.above).trans e1};obtain⟨o',e1⟩:=I.base.there b o e hx;show{o',(hs.2 b<|KC<|Kz (FP e) I.ok.above).trans e1};by_cases hj:j=i
 subst hj;rw[hi]at e1;cases e1;rw[List.getElem?_set_self hiσ]at e2;cases e2;show{u,r,.inl {hk,by simp}};rw[w6 (Ke hj)]at e2;obtain⟨u',r',q⟩:=hl j y v' e1 e2 e3;show{u',r',?_};rcases q with⟨k,e⟩|⟨k,c,e,z⟩
 show .inl {k,?_};have:y≠x:=λe=>hj (GQ hN e1 (e ▸ hi))
 simp[this,e];show .inr {k,c,e,z.sameBut hs<|cne y c e};obtain⟨w',z⟩:=I.cell y c e;show{w',z.sameBut hs<|cne y c e};obtain⟨e,n,ne,nf,d⟩:=I.pin p hp;show{(hs.2 p.1 ne).trans e,n,ne,nf,d};have hfn:X.fn x=true:=by
  rcases hf with z|z
  show z;rw[z]at hk;cases hk
 obtain⟨c,hc⟩:=I.ok.has x (.inl hk);obtain⟨w',z⟩:=I.cell x c hc;show wpAny_storeName_cell I.ok.kind hk hc z<|λh' hc' hs=>?_
 obtain⟨oc,hoc,hocd⟩:=z;show h {s with heap:=h'} {I.ok,I.os,I.bare,{λb o e n hb hx=>?_,λb o e n hb hx=>?_,I.base.free,λb o e hx=>?_,I.base.tups,I.base.frzs,I.base.tbls},{m,hn.sameBut hs<|Ke<|cne x c hc,λj y v' e1 e2 e3=>?_},λy c' e=>?_,I.free,I.freeC,λp hp=>?_,tracked {oc,hoc,I.freeC x c hc} hs,by simpa using I.len} {c,hs,.inr hc};show(hs.2 b<|KC<|Kz (FP e)<|I.ok.cab x c hfn hc).trans (I.base.keep b o e n hb hx);obtain⟨sl,e1⟩:=I.base.slot b o e n hb hx;show{sl,(hs.2 b<|KC<|Kz (FP e)<|I.ok.cab x c hfn hc).trans e1};obtain⟨o',e1⟩:=I.base.there b o e hx;show{o',(hs.2 b<|KC<|Kz (FP e)<|I.ok.cab x c hfn hc).trans e1};by_cases hj:j=i
 subst hj;rw[hi]at e1;cases e1;rw[List.getElem?_set_self hiσ]at e2;cases e2;show{u,r,.inr {.inl hk,c,hc,hc'}};rw[w6 (Ke hj)]at e2;obtain⟨u',r',q⟩:=hl j y v' e1 e2 e3;show{u',r',?_};rcases q with q|⟨k,c',e,z'⟩
 show .inl q;show .inr {k,c',e,z'.sameBut hs ?_};rintro rfl;show hj<|GQ hN e1<|I.ok.inj _ _ _ e hc ▸ hi
 by_cases hcc:c'=c
 subst hcc;show{_,hc'};obtain⟨w2,z2⟩:=I.cell y c' e;show{w2,z2.sameBut hs hcc};obtain⟨e,n,ne,nf,d⟩:=I.pin p hp;show{(hs.2 p.1 ?_).trans e,n,ne,nf,d};intro q;rw[q,hoc]at e;show d w'<|(Ky e) ▸ hocd
def oW {M A}{E i x v}{Q}(I:Bk X apn σ H s)(hN:X.N.Nodup)(hi:X.N[i]?=AP x)(hx:Loc X.env.scope x)(r:RelV v u)
  (h:∀s',Bk X apn (σ.set i (AP v)) H s'->Q () s') (hf:X.fn x=true\/X.env.scope.names.lookup x=AP .local:=by first|exact .inl rfl|exact .inr rfl|assumption):CR M A (storeName X.env x u) Q E s:=
 BR I hN hi hx r (λs' I' _=>h s' I') hf
def Bk.call' {s'}{ch}(I:Bk X apn σ H s)(O:s'.os=s.os)(u:Un (frs X.stack) ch H H' s.heap s'.heap)(G:MJ X.prog X.w H' s'.heap)(U:VP s'.gens)
  (J:∀b∈ch,(b∈X.ex\/X.s₀.heap.objs.size<=b)/\b≠X.env.locals/\(∀x c,X.env.cells.lookup x=AP c->c≠b)/\∀p∈X.pn++apn,p.1≠b):Bk X apn σ H' s':=by
 obtain⟨h',a,d',Y,o'⟩:=s';subst O;show I.call u G U J
end
variable {X:Cx}{apn:List (Addr×Obj)}{M:Model}{i j:Nat}{A:Ej}{E:Aj->Bc->Prop}{s':Bc}
@[reducible]noncomputable def XK:=Aj->Option Addr->Hp->Prop
@[reducible]noncomputable def St:=List (Option V)
@[reducible]noncomputable def VK:=V->Hp->Prop
@[reducible]noncomputable def TE:=St->Hp->VK->Prop
@[reducible]noncomputable def TT:=St->Hp->(Bool->Hp->Prop)->Prop
@[reducible]noncomputable def TA:=St->Hp->(List V->Hp->Prop)->Prop
structure Ends where
 nx:St->Hp->Prop
 rt:VK
 bk:St->Hp->Prop:=λ_ _=>False
 ct:St->Hp->Prop:=λ_ _=>False
@[reducible]noncomputable def TS:=Ends->St->Hp->Prop
abbrev EP (X:Cx)(apn:List (Addr×Obj))(σ:St)(Q:VK)(u:Aj)(s':Bc):Prop:=∃v H',Bk X apn σ H' s'/\RelV v u/\Q v H'
abbrev TP (X:Cx)(apn:List (Addr×Obj))(σ:St)(Q:Bool->Hp->Prop)(b:Bool)(s':Bc):Prop:=∃H',Bk X apn σ H' s'/\Q b H'
abbrev zaa (X:Cx)(apn:List (Addr×Obj))(σ:St)(Q:List V->Hp->Prop)(us:List Aj)(s':Bc):Prop:=∃vs H',Bk X apn σ H' s'/\Cg vs us/\Q vs H'
abbrev SP (X:Cx)(apn:List (Addr×Obj))(D:Ends)(f:Flow)(s':Bc):Prop:=
 match f with
 | .next=>∃σ' H',Bk X apn σ' H' s'/\D.nx σ' H'
 | .brk=>∃σ' H',Bk X apn σ' H' s'/\D.bk σ' H'
 | .cont=>∃σ' H',Bk X apn σ' H' s'/\D.ct σ' H'
 | .ret u=>∃v σ' H',Bk X apn σ' H' s'/\RelV v u/\D.rt v H'
abbrev PE (X:Cx)(e:Expr)(t:TE):Prop:=
 ∀(apn:List (Addr×Obj)) (s:Bc) (σ:St) (H:Hp) (Q:VK),Bk X apn σ H s->t σ H Q->CR (Cq X.prog X.w) X.A (eval e X.env) (EP X apn σ Q) X.xe s
abbrev PT (X:Cx)(e:Expr)(t:TT):Prop:=
 ∀(apn:List (Addr×Obj)) (s:Bc) (σ:St) (H:Hp) (Q:Bool->Hp->Prop),Bk X apn σ H s->t σ H Q->CR (Cq X.prog X.w) X.A (isTrue e X.env (eval e X.env)) (TP X apn σ Q) X.xe s
abbrev PW (X:Cx)(e:Expr)(t:TT):Prop:=
 ∀(G:Sem Aj) (apn:List (Addr×Obj)) (s:Bc) (σ:St) (H:Hp) (Q:Bool->Hp->Prop),Bk X apn σ H s->t σ H Q->CR (Cq X.prog X.w) X.A (isTrue e X.env G) (TP X apn σ Q) X.xe s
variable {e:Expr}
def PW.pt {t}(h:PW X e t):PT X e t:=h _
abbrev PA (X:Cx)(es:List Expr)(t:TA):Prop:=
 ∀(pos:Pos) (apn:List (Addr×Obj)) (s:Bc) (σ:St) (H:Hp) (Q:List V->Hp->Prop),Bk X apn σ H s->t σ H Q->CR (Cq X.prog X.w) X.A (spliced (Ku pos (Dc es X.env))) (zaa X apn σ Q) X.xe s
abbrev PS (X:Cx)(st:Stmt)(t:TS):Prop:=
 ∀(apn:List (Addr×Obj)) (s:Bc) (σ:St) (H:Hp) (D:Ends),Bk X apn σ H s->t D σ H->CR (Cq X.prog X.w) X.A (exec st X.env) (SP X apn D) X.xe s
abbrev Qn (X:Cx)(st:List Stmt)(t:TS):Prop:=
 ∀(apn:List (Addr×Obj)) (s:Bc) (σ:St) (H:Hp) (D:Ends),Bk X apn σ H s->t D σ H->CR (Cq X.prog X.w) X.A (execs st X.env) (SP X apn D) X.xe s
def Eu {J}{t:Sem J}{Q G s}(h:CR M A t Q E s)(O:∀a s,Q a s->G a s):CR M A t G E s:=Li h O λ_ _ x=>x
section
abbrev aeQ (i:Nat):TE:=fun σ H Q=>∃v,σ[i]?=AP (AP v)/\Q v H
abbrev tC (v:V):TE:=λ_ H Q=>Q v H
def adn {x}{pos}(hN:X.N[i]?=AP x)(hv:Vis X.env.scope x)(hd:(x==("__debug__" : Str))=false:=by decide)(hcd:(x==("__classdict__" : Str))=false:=by decide):PE X (.Name x pos) (aeQ i):=by
 intro apn s σ H Q I h;obtain⟨v,e,h⟩:=h;obtain⟨m,hn,hl⟩:=I.loc;obtain⟨u,r,l⟩:=hl i x v hN e hv;have fin:EP X apn σ Q u s:=⟨v,H,I,r,h⟩
 rcases l with⟨hk,hm⟩|⟨hk,c,hc,hcell⟩
 show wpAny_Name (wpAny_loadName_local I.ok.kind hk hn hm fin) hd;rcases hk with hk|hk
 show wpAny_Name (wpAny_loadName_cell I.ok.kind hk hc hcell fin) hd;show wpAny_Name (wpAny_loadName_free I.ok.kind hk hc hcell fin hcd) hd
def ae7 {i j pos}:PE X (.Constant (.int i) j pos) (tC (.int i)):=λ_ _ _ H _ I h=>wpAny_Constant_int {.int i,H,I.tok _,{_,rfl},h}
def agM {b j pos}:PE X (.Constant (.bool b) j pos) (tC (.bl b)):=λ_ _ _ H _ I h=>Constant_bool {.bl b,H,I,rfl,h}
def aed {j pos}:PE X (.Constant .none j pos) (tC .non):=λ_ _ _ H _ I h=>Constant_none {.non,H,I,rfl,h}
def W5 {x j pos}:PE X (.Constant (.str x) j pos) (tC (.str x)):=λ_ _ _ H _ I h=>Calls.Constant_str {.str x,H,I.tok _,{_,rfl},h}
abbrev Gl (X:Cx)(x:Str):Prop:=X.env.kindOf x=AP .globalImplicit
def nC {s}{σ:St}{x}{pos}{Q}(I:Bk X apn σ H s)(hg:Gl X x)(hm:X.mg x=AP u)(h:Q u s)
  (hd:(x==("__debug__" : Str))=false:=by decide):CR (Cq X.prog X.w) X.A (eval (.Name x pos) X.env) Q E s:=
 wW I.ok.kind hg (Calls.loadGlobal_global (I.ok.glob ▸ I.mod.glob.keeps I.bk) hm h) hd
def pD {s}{σ:St}{x}{pos}{Q}(I:Bk X apn σ H s)(hg:Gl X x)(hm:X.mg x=Af)(hv:Y9 x=AP u)(h:Q u s)
  (hn:x ≠ "__name__":=by decide) (hd:(x==("__debug__" : Str))=false:=by decide):CR (Cq X.prog X.w) X.A (eval (.Name x pos) X.env) Q E s:=by
 obtain⟨mb,h1,h2⟩:=I.mod.blt;show wW I.ok.kind hg (Calls.loadGlobal_builtin (I.ok.glob ▸ I.mod.glob.keeps I.bk) hm (I.ok.blt ▸ h1.keeps I.bk) ((h2 x hn).trans hv) h) hd
def j7 {x v}{pos}(hg:Gl X x)(hm:X.mg x=AP u)(r:RelV v u)(hd:(x==("__debug__" : Str))=false:=by decide):PE X (.Name x pos) (tC v):=
 λ_ _ _ H _ I h=>nC I hg hm ⟨v,H,I,r,h⟩ hd
variable {a b:Expr}{ta tb:TE}{pos:Pos}
variable {tA tB':TT}{rest:List Expr}
abbrev aia (t u:TT):TT:=fun σ H Q=>t σ H λc H1=>if c=true then u σ H1 Q else Q false H1
abbrev tOr (t u:TT):TT:=fun σ H Q=>t σ H λc H1=>if c=true then Q true H1 else u σ H1 Q
abbrev aiN (t:TT):TT:=fun σ H Q=>t σ H λc H1=>Q (!c) H1
def aac (G:PT X a tA):PW X (.BoolOp .And [a] pos) tA:=by
 intro J apn s σ H Q I h;show isTrue_and<|Eu (G apn s σ H Q I h) λc O e=>?_
 cases c with
 | true=>show isTrue_and_nil e
 | false=>show e
def adA (G:PT X a tA):PW X (.BoolOp .Or [a] pos) tA:=by
 intro J apn s σ H Q I h;show isTrue_or<|Eu (G apn s σ H Q I h) λc O e=>?_
 cases c with
 | false=>show isTrue_or_nil e
 | true=>show e
def adx (e:PT X a tA)(Y:PW X (.BoolOp .And (b::rest) pos) tB'):PW X (.BoolOp .And (a::b::rest) pos) (aia tA tB'):=by
 intro O apn s σ H Q I h;show isTrue_and<|Eu (e apn s σ H _ I h) λc U d=>?_;obtain⟨H1,J,G⟩:=d
 cases c with
 | true=>show Y O apn U σ H1 Q J G
 | false=>show⟨H1,J,G⟩
def agR (e:PT X a tA)(Y:PW X (.BoolOp .Or (b::rest) pos) tB'):PW X (.BoolOp .Or (a::b::rest) pos) (tOr tA tB'):=by
 intro O apn s σ H Q I h;show isTrue_or<|Eu (e apn s σ H _ I h) λc U d=>?_;obtain⟨H1,J,G⟩:=d
 cases c with
 | true=>show⟨H1,J,G⟩
 | false=>show Y O apn U σ H1 Q J G
def acC (G:PT X a tA):PT X (.UnaryOp .Not a pos) (aiN tA):=by
 intro apn s σ H Q I h;show isTrue_not<|G apn s σ H _ I h
abbrev afZ (ta tb:TE):TE:=fun σ H Q=>ta σ H λx H1=>∃c,x=.bl c/\if c=true then tb σ H1 Q else Q (.bl false) H1
abbrev aiB (ta tb:TE):TE:=fun σ H Q=>ta σ H λx H1=>∃c,x=.bl c/\if c=true then Q (.bl true) H1 else tb σ H1 Q
abbrev agI (ta:TE):TE:=fun σ H Q=>ta σ H λx H1=>∃c,x=.bl c/\Q (.bl (!c)) H1
def ac8 {G t}(h:PE X a t):PE X (.BoolOp G [a] pos) t:=λapn s σ H Q I J=>BoolOp_one (h apn s σ H Q I J)
def abK (e:PE X a ta)(Y:PE X (.BoolOp .And (b::rest) pos) tb):PE X (.BoolOp .And (a::b::rest) pos) (afZ ta tb):=by
 intro apn s σ H Q I h;show BoolOp_and<|Eu (e apn s σ H _ I h) λv O d=>?_;obtain⟨x,H1,J,U,G⟩:=d
 obtain⟨c,rfl,G⟩:=G;cases U;show Za ?_;cases c with
 | true=>show Y apn O σ H1 Q J G
 | false=>show{.bl false,H1,J,rfl,G}
def agS (e:PE X a ta)(Y:PE X (.BoolOp .Or (b::rest) pos) tb):PE X (.BoolOp .Or (a::b::rest) pos) (aiB ta tb):=by
 intro apn s σ H Q I h;show BoolOp_or<|Eu (e apn s σ H _ I h) λv O d=>?_;obtain⟨x,H1,J,U,G⟩:=d
 obtain⟨c,rfl,G⟩:=G;cases U;show Za ?_;cases c with
 | false=>show Y apn O σ H1 Q J G
 | true=>show{.bl true,H1,J,rfl,G}
def aeI (O:PE X a ta):PE X (.UnaryOp .Not a pos) (agI ta):=by
 intro apn s σ H Q I h;show UnaryOp_<|Eu (O apn s σ H _ I h) λv Y b=>?_;obtain⟨x,H1,U,J,G⟩:=b
 obtain⟨c,rfl,G⟩:=G;cases J;show not_of<|Za {.bl<|!c,H1,U,rfl,G}
abbrev tIf (t:TT)(ta tb:TE):TE:=fun σ H Q=>t σ H λc H1=>if c=true then ta σ H1 Q else tb σ H1 Q
def ako {c}(U:PT X c tA)(f:PE X a ta)(Y:PE X b tb):PE X (.IfExp c a b pos) (tIf tA ta tb):=by
 intro apn s σ H Q I h;show wpAny_IfExp<|Eu (U apn s σ H _ I h) λd G e=>?_;obtain⟨H1,O,J⟩:=e
 cases d with
 | true=>show f apn G σ H1 Q O J
 | false=>show Y apn G σ H1 Q O J
end
variable {pos:Pos}{σ:St}{ta:TE}{Q:Aj->Bc->Prop}
abbrev Kr (K:CQ)(H:Hp)(a:Addr)(xs:List V):Prop:=
 Rd H a (.lst xs) \/
  ∃(o:Obj) (its:Array Aj) (n:Nat),K.lookup a=AP o/\o.cls=.type "list"/\o.dict=Af/\o.data=.seq its n/\its.size<=El/\Cg xs its.toList
abbrev KJ (K:CQ)(H:Hp)(a:Addr)(xs:List V):Prop:=
 Rd H a (.tup xs) \/
  ∃(o:Obj) (its:Array Aj) (n:Nat),K.lookup a=AP o/\o.cls=.type "tuple"/\o.data=.seq its n/\its.size<=El/\Cg xs its.toList/\o.dict=Af
abbrev aiZ:Aj->Option V
 | .none=>AP .non
 | .bool b=>AP (.bl b)
 | .int i _=>AP (.int i)
 | .str x _=>AP (.str x)
 | .bytes b _=>AP (.byt b)
 | .float b _=>AP (.flt b)
 | .ref a=>AP (.ref a)
 | .type n=>AP (.ty n)
 | _=>Af
def RelV.abs {x}(r:RelV x u):aiZ u=AP x:=by
 cases x with
 | non|bl _|ref _|ty _=>cases r;rfl
 | int _|str _|byt _|flt _=>obtain⟨t,rfl⟩:=r;rfl
def RelV.inj {x y}(r:RelV x u)(q:RelV y u):x=y:=Ky (r.abs.symm.trans q.abs)
def Cg.inj:∀{xs ys us},Cg xs us->Cg ys us->xs=ys
 | _,_,_,.nil,.nil=>rfl
 | _,_,_,.cons r t,.cons J G=>by rw[r.inj J,Cg.inj t G]
section
variable {s:Bc}{ys:List V}
def Kr.of {K}(h:H a=AP (.lst xs)):Kr K H a xs:=.inl (.inl h)
def KJ.of {K}(h:H a=AP (.tup xs)):KJ K H a xs:=.inl (.inl h)
def Bk.list (I:Bk X apn σ H s)(h:Kr X.K H a xs):∃its,Cg xs its/\PlainL s.heap a its.toArray/\xs.length<=El:=by
 rcases h with h|⟨o,its,n,G,O,J,hs,U,r⟩
 obtain⟨z,its,n,r,e⟩:=h.ok I.hok;exact⟨its,r,⟨_,n,e,rfl,rfl,rfl⟩,z⟩;refine⟨its.toList,r,⟨o,n,I.kIn a o G,O,J,by simpa using hs⟩,?_⟩;have e:=r.length;simp_all
def Bk.tupO (I:Bk X apn σ H s)(h:KJ X.K H a xs):∃its,Cg xs its/\Sv s.heap a its.toArray/\xs.length<=El:=by
 rcases h with h|⟨o,its,n,G,O,hs,U,r,J⟩
 obtain⟨z,its,r,p⟩:=h.ok I.hok;grind
 refine⟨its.toList,r,⟨o,I.kIn a o G,O,⟨n,by simpa using hs⟩,J⟩,?_⟩;have e:=r.length;simp_all
def Bk.tuple (I:Bk X apn σ H s)(h:KJ X.K H a xs):∃its,Cg xs its/\IsTup s.heap a its.toArray/\xs.length<=El:=let⟨its,r,p,z⟩:=I.tupO h;⟨its,r,p.tup,z⟩
def Bk.list_inj (I:Bk X apn σ H s)(h:Kr X.K H a xs)(h':Kr X.K H a ys):xs=ys:=by
 obtain⟨its,r,⟨o,n,e,_,_,d⟩,_⟩:=I.list h;obtain⟨G,J,⟨o',U,e',_,_,d'⟩,_⟩:=I.list h';rw[e]at e';cases e';rw[d]at d';injection d' with O _
 have:=by simpa using congrArg Array.toList O
 subst this;show r.inj J
def Bk.tuple_inj (I:Bk X apn σ H s)(h:KJ X.K H a xs)(h':KJ X.K H a ys):xs=ys:=by
 obtain⟨its,r,⟨o,e,_,n,d⟩,_⟩:=I.tuple h;obtain⟨G,J,⟨o',e',_,U,d'⟩,_⟩:=I.tuple h';rw[e]at e';cases e';rw[d]at d';injection d' with O _
 have:=by simpa using congrArg Array.toList O
 subst this;show r.inj J
end
variable {K:CQ}
@[reducible]noncomputable def Cx.wish (X:Cx)(E:Aj->Bc->Prop):Cx:={X with xe:=E}
@[reducible]noncomputable def Cx.nox (X:Cx):Cx:=X.wish λ_ _=>False
def Cx.Ok.wish {X:Cx}(G:X.Ok)(E):(X.wish E).Ok:=
 ⟨G.mod,G.kind,G.glob,G.blt,G.above,G.inj,G.has,G.cab,G.hd,G.qt,G.frames,G.stk,G.exf,G.bs,G.bsz,G.noex,G.exfs,G.funs,G.frf⟩
def Cx.Ok.unwish (G:(X.wish E).Ok):X.Ok:=
 ⟨G.mod,G.kind,G.glob,G.blt,G.above,G.inj,G.has,G.cab,G.hd,G.qt,G.frames,G.stk,G.exf,G.bs,G.bsz,G.noex,G.exfs,G.funs,G.frf⟩
section
variable {s:Bc}
def Bk.wish (I:Bk X apn σ H s)(E):Bk (X.wish E) apn σ H s:={I.ok.wish E,I.os,I.bare,I.base,I.loc,I.cell,I.free,I.freeC,I.pin,I.hok,I.len}
def Bk.unwish (I:Bk (X.wish E) apn σ H s):Bk X apn σ H s:=⟨I.ok.unwish,I.os,I.bare,I.base,I.loc,I.cell,I.free,I.freeC,I.pin,I.hok,I.len⟩
def SP.unwish {D f s'}(h:SP (X.wish E) apn D f s'):SP X apn D f s':=by
 cases f with
 | next|brk|cont=>obtain⟨G,H',I,q⟩:=h;show⟨G,H',I.unwish,q⟩
 | ret u=>obtain⟨v,G,H',I,r,q⟩:=h;show⟨v,G,H',I.unwish,r,q⟩
def Qn.nox {st t}(h:Qn X.nox st t):Qn X st t:=λapn s σ H D I G=>
 Li (h apn s σ H D (I.wish _) G) (λ_ _ q=>q.unwish) λ_ _ z=>Uq z
end
section
variable {st:Stmt}{rest:List Stmt}{t u:TS}{te:TE}
abbrev agg:TS:=λD σ H=>D.nx σ H
abbrev ain (t u:TS):TS:=λD σ H=>t {D with nx:=u D} σ H
def amX:Qn X [] agg:=λ_ _ σ H _ I h=>Zn ⟨σ,H,I,h⟩
def Gw (h1:PS X st t)(h2:Qn X rest u):Qn X (st::rest) (ain t u):=by
 intro apn s σ H D I h;show wpAny_execs_cons<|Eu (h1 apn s σ H {D with nx:=u D} I h) λf J q=>?_
 cases f with
 | next=>
  obtain⟨G,H',O,q⟩:=q;show h2 apn J G H' D O q
 | ret v|brk|cont=>show q
def DR (h1:PS X st t):Qn X [st] t:=by
 intro apn s σ H D I h;show wpAny_execs_cons<|Eu (h1 apn s σ H D I h) λf G q=>?_
 cases f with
 | next=>show Zn q
 | ret v|brk|cont=>show q
def Bk.quiet {s}(I:Bk X apn σ H s):interactive X.env=false:=by simp[interactive,I.ok.kind]
abbrev agK (te:TE):TS:=λD σ H=>te σ H λ_ H1=>D.nx σ H1
def anr (he:PE X e te)(hs:Y7 e Af pos.line X.env=pure false:=by rfl):PS X (.Expr e pos) (agK te):=by
 intro apn s σ H D I h;show wpAny_Expr_any (Eu (he apn s σ H _ I h) λv s1 a=>by obtain⟨x,H1,I1,r1,q1⟩:=a;show ⟨σ,H1,I1,q1⟩) I.quiet hs
abbrev aix (te:TE):TS:=λD σ H=>te σ H D.rt
def WL (O:PE X e te):PS X (.Return (AP e) pos) (aix te):=by
 intro apn s σ H D I h;show wpAny_Return_some<|Eu (O apn s σ H _ I h) λv Y a=>by obtain⟨x,H1,U,G,J⟩:=a;show ⟨x,σ,H1,U,G,J⟩
abbrev aiR (c:TT)(t u:TS):TS:=λD σ H=>c σ H λb H1=>if b=true then t D σ H1 else u D σ H1
def ae0 {c}{a b tc}(U:PT X c tc)(f:Qn X a t)(Y:Qn X b u):PS X (.If c a b pos) (aiR tc t u):=by
 intro apn s σ H D I h;show wpAny_If<|Eu (U apn s σ H _ I h) λd G e=>?_;obtain⟨H1,O,J⟩:=e
 cases d with
 | true=>show f apn G σ H1 D O J
 | false=>show Y apn G σ H1 D O J
abbrev ab0:TS:=λ_ _ _=>False
def akN:PS X st ab0:=λ_ _ _ _ _ _ h=>h.elim
end
@[reducible]noncomputable def TG:=V->St->Hp->(St->Hp->Prop)->Prop
@[reducible]noncomputable def Vo:=List V->St->Hp->(St->Hp->Prop)->Prop
abbrev PG (X:Cx)(G:Expr)(t:TG):Prop:=
 ∀(apn:List (Addr×Obj)) (s:Bc) (σ:St) (H:Hp) (v:V) (u:Aj) (Q:St->Hp->Prop),Bk X apn σ H s->RelV v u->t v σ H Q ->
  CR (Cq X.prog X.w) X.A (assign G X.env u) (λ_ s'=>∃σ' H',Bk X apn σ' H' s'/\Q σ' H') X.xe s
abbrev X7 (X:Cx)(ts:List Expr)(t:Vo):Prop:=
 ∀(apn:List (Addr×Obj)) (s:Bc) (σ:St) (H:Hp) (vs:List V) (us:List Aj) (Q:St->Hp->Prop),Bk X apn σ H s->Cg vs us->t vs σ H Q ->
  CR (Cq X.prog X.w) X.A (assignInOrder ((Ox ts X.env).map (·.2)) us) (λ_ s'=>∃σ' H',Bk X apn σ' H' s'/\Q σ' H') X.xe s
@[reducible]noncomputable def aal:=V->V->V->Hp->(Hp->Prop)->Prop
abbrev ael (X:Cx)(t:aal):Prop:=
 ∀(apn:List (Addr×Obj)) (s:Bc) (σ:St) (H:Hp) (o i v:V) (G J u:Aj) (Q:Hp->Prop),Bk X apn σ H s->RelV o G->RelV i J->RelV v u->t o i v H Q ->
  CR (Cq X.prog X.w) X.A (setItem G J u) (λ_ s'=>∃H',Bk X apn σ H' s'/\Q H') X.xe s
section
abbrev M9 (i:Nat):TG:=λv σ H Q=>Q (σ.set i (AP v)) H
def qw {x}(hN:X.N.Nodup)(hi:X.N[i]?=AP x)(hx:Loc X.env.scope x)(hf:X.fn x=true\/X.env.scope.names.lookup x=AP .local:=by first|exact .inl rfl|exact .inr rfl|assumption):PG X (.Name x pos) (M9 i):=by
 intro apn s σ H v u Q I r h;show wpAny_assign_Name<|oW I hN hi hx r (λs' I'=>{_,H,I',h}) hf
abbrev ait:Vo:=λvs σ H Q=>vs=[]/\Q σ H
abbrev agC (t:TG)(u:Vo):Vo:=λvs σ H Q=>∃v r,vs=v::r/\t v σ H fun σ' H'=>u r σ' H' Q
def Rj:X7 X [] ait:=by
 intro apn s σ H G us Q I r h;obtain⟨e,h⟩:=h;show assignInOrder_nil ⟨σ,H,I,h⟩
def zx {es t u}(h1:PG X e t)(h2:X7 X es u)
  (hs:(Ox (e::es) X.env).map (·.2)=assign e X.env::(Ox es X.env).map (·.2):=by rfl):X7 X (e::es) (agC t u):=by
 intro apn s σ H vs us Q I r h;obtain⟨v,vr,e1,h⟩:=h;subst e1;cases r with
 | cons r rr=>
  show hs ▸ assignInOrder_cons (Eu (h1 apn s σ H _ _ _ I r h) λ_ s1 a=>by obtain⟨σ1,H1,I1,q1⟩:=a;show (h2 apn s1 σ1 H1 _ _ Q I1 rr q1))
abbrev aiE (K:CQ)(n:Nat)(t:Vo):TG:=λv σ H Q=>∃a xs,v=.ref a/\KJ K H a xs/\xs.length=n/\t xs σ H Q
def aer {es k t}{n}(hc:X.calm=true)(h:X7 X es t)
  (hn:(Ox es X.env).length=n:=by rfl) (hst:(Ox es X.env).findIdx? (·.1)=Af:=by rfl):PG X (.Tuple es k pos) (aiE X.K n t):=by
 intro apn s σ H v u Q I r hw;obtain⟨a,xs,e1,hq,hl,hw⟩:=hw;subst e1;cases r;obtain⟨its,rv,ht,hz⟩:=I.tuple hq;show assign_Tuple_tuple (I.ok.hd hc) ht (by simp[hn,<-hl,rv.length]) hst λh' hx=>(h apn _ σ H xs _ Q (I.kept λb o e=>hx b o (KC<|FP e) e) (by simpa using rv) hw)
abbrev aiL (to ti:TE)(t:aal):TG:=λv σ H Q=>to σ H λo H1=>ti σ H1 λi H2=>t o i v H2 λH3=>Q σ H3
def abC {o i to ti t}(ho:PE X o to)(hi:PE X i ti)(hs:ael X t)
  (ha:∀v,assign (.Subscript o i pos) X.env v=(do
   let ov <-VR [v] (eval o X.env)
   let iv <-VR [v,ov] (eval i X.env)
   standAt pos
   VR [v,ov,iv] (setItem ov iv v)
   release [v,ov,iv] []):=by intro _;rfl):PG X (.Subscript o i pos) (aiL to ti t):=by
 intro apn s σ H v u Q I r h;rw[ha];show BL<|N7<|Eu (ho apn s σ H _ I h) λov s1 a=>by obtain⟨x,H1,I1,r1,q1⟩:=a;show (BL<|N7<|Eu (hi apn s1 σ H1 _ I1 q1) λiv s2 b=>by obtain⟨y,H2,I2,r2,q2⟩:=b;show (BL<|Yd<|BL<|N7<|Eu (hs apn s2 σ H2 x y v ov iv u _ I2 r1 r2 r q2) λ_ s3 c=>by obtain⟨H3,I3,q3⟩:=c;show (wpAny_release ⟨σ,H3,I3,q3⟩)))
abbrev acu (te:TE)(g:TG):TS:=λD σ H=>te σ H λx H1=>g x σ H1 D.nx
def adz {tg te g}(he:PE X e te)(hg:PG X tg g)(hs:swapsWithSole [tg] e pos.line X.env=pure false:=by rfl)(hw:swappedStores [tg] e X.env=pure Af:=by rfl)
  (h1:(Ox [tg] X.env).map (·.2)=[assign tg X.env]:=by rfl):PS X (.Assign [tg] e pos) (acu te g):=by
 intro apn s σ H D I h;show wpAny_Assign_stores (Eu (he apn s σ H _ I h) λv s1 a=>by obtain⟨x,H1,I1,r1,q1⟩:=a;show (h1 ▸ Eu (hg apn s1 σ H1 x v _ I1 r1 q1) λ_ s2 q=>q)) hs hw
def XM {x te}{pos'}(hN:X.N.Nodup)(hi:X.N[i]?=AP x)(hx:Loc X.env.scope x)(he:PE X e te)(hs:Y7 e (AP (.Name x pos')) pos.line X.env=pure false:=by rfl)(hf:X.fn x=true\/X.env.scope.names.lookup x=AP .local:=by first|exact .inl rfl|exact .inr rfl|assumption):
  PS X (.Assign [.Name x pos'] e pos) (acu te (M9 i)):=by
 intro apn s σ H D I h;show wpAny_Assign_Name (Eu (he apn s σ H _ I h) λv s1 a=>by obtain⟨y,H1,I1,r1,q1⟩:=a;show (oW I1 hN hi hx r1 (λs2 I2=>{_,H1,I2,q1}) hf)) hs
abbrev ahx (i j:Nat)(ta:TA):TS:=λD σ H=>ta σ H λvs H1=>∃v w,vs=[v,w]/\D.nx ((σ.set i (AP v)).set j (AP w)) H1
def adI {x y}{a b ta}{px py pt}{kt k2 pt2}(hc:X.calm=true)(hN:X.N.Nodup)(hi:X.N[i]?=AP x)(hj:X.N[j]?=AP y)(hij:i≠j)
  (hx:X.env.scope.names.lookup x=AP .local) (hy:X.env.scope.names.lookup y=AP .local) (ha:PA X [a,b] ta)
  (hw:swappedStores [.Tuple [.Name x px,.Name y py] kt pt] (.Tuple [a,b] k2 pt2) X.env=pure (AP [x,y]))
  (hs:swapsWithSole [.Tuple [.Name x px,.Name y py] kt pt] (.Tuple [a,b] k2 pt2) pos.line X.env=pure false:=by rfl) :
  PS X (.Assign [.Tuple [.Name x px,.Name y py] kt pt] (.Tuple [a,b] k2 pt2) pos) (ahx i j ta):=by
 intro apn s σ H D I h;show BL<|Yd ?_
 show BL<|DK ?_
 show BL<|Tuple_<|Eu (ha _ apn s σ H _ I h) λus s1 c=>?_;obtain⟨vs,H1,I1,r1,q1⟩:=c
 obtain⟨v,w,e1,q1⟩:=q1;subst e1;obtain⟨u1,u2,rfl,rv,rw'⟩:∃u1 u2,us=[u1,u2]/\RelV v u1/\RelV w u2:=by
  cases r1 with
  | cons p q=>
   cases q with
   | cons p' q'=>
    cases q'
    show{_,_,rfl,p,p'}
 show SX ?_ (by change 2<=El;decide);have I2:Bk X apn σ H1 {s1 with heap:=s1.heap.push {cls:=.type "tuple",data:=.seq [u1,u2].toArray} }:=I1.kept λb o e=>FW _ e
 rw[hw];change CR (Cq X.prog X.w) X.A (do rule "assign.swapped-stores";let items <-unpackItems _ 2 Af;assignInOrder [λv=>bindName X.env y v,λv=>bindName X.env x v] items.reverse;pure Flow.next) _ _ _;show BL<|Va<|BL<|unpackItems_tuple (items:=#[u1,u2]) (I.ok.hd hc) (IsTup.new s1.heap _) λh' hx'=>?_
 have I3:=I2.kept (t':=s1.toks) λb o e=>hx' b o (KC (FP e)) e
 show BL<|assignInOrder_cons<|wpAny_bindName<|oW I3 hN hj (.inl hy) rw' (λs2 I4=>?_)<|.inr hy
 show assignInOrder_cons<|wpAny_bindName<|oW I4 hN hi (.inl hx) rv (λs3 I5=>assignInOrder_nil<|DK ?_)<|.inr hx
 rw[List.set_comm _ _ (Ke hij)]at I5;show{_,H1,I5,q1}
end
variable {o tg:Expr}{es:List Expr}{k n:Nat}{pos':Pos}
section
abbrev acP (c:TT)(tb:TS):TS:=λD σ H=>∃W:Nat->St->Hp->Prop,(∃m,W m σ H)/\∀m σ H,W m σ H ->
 c σ H λb H1=>if b=true then ∃N:St->Hp->Prop,(∀σ' H',N σ' H'->∃G,G<m/\W G σ' H')/\tb {D with nx:=N,ct:=N,bk:=D.nx} σ H1 else D.nx σ H1
def akS {c}{body tc tb}(e:vo (Cq X.prog X.w) X.A X.env X.xe)(t:PT X c tc)(u:Qn X body tb):PS X (.While c body [] pos) (acP tc tb):=by
 intro apn s σ H D I h;obtain⟨W,⟨p,k⟩,U⟩:=h;show wpAny_While<|codeAny_whileLoop (λn s'=>∃O H',Bk X apn O H' s'/\W n O H') ?_ p ⟨σ,H,I,k⟩
 rintro n m ⟨G,H1,y,w1⟩;show ZF e<|Eu (t apn m G H1 _ y<|U n G H1 w1) λb l a=>?_;obtain⟨H2,g,Y⟩:=a
 cases b with
 | true=>
  obtain⟨N,w,Y⟩:=Y;show ZF e<|Eu (u apn l G H2 _ g Y) λf z d=>?_
  cases f with
  | next|cont=>
   obtain⟨J,i,x,o⟩:=d;obtain⟨q,r,j⟩:=w J i o;show⟨q,r,J,i,x,j⟩
  | brk|ret v=>show d
 | false=>
  show Zn ⟨G,H2,g,Y⟩
end
variable {body:List Stmt}
def amb:entryFor table "proto.unchain" = AP V3.«proto.unchain»:=entryFor_of_tree (by kernel_rfl)
inductive Lh (h:Heap):List Addr->Aj->Prop
 | nil:Lh h [] .none
 | cons {c:Addr}{o:Obj}{vs:Array Aj}{z:Aj}{l:List Addr}(ho:h.get? c=AP o) (hd:o.data=.fields vs) (h2:vs[2]?=AP z) (t:Lh h l z):Lh h (c::l) (.ref c)
def Lh.keep {l v}(c:Lh h l v)(k:∀a∈l,∀o,h.get? a=AP o->h'.get? a=AP o):Lh h' l v:=by
 induction c with
 | nil=>show .nil
 | cons J O h2 t G=>show .cons (k _ (by simp) _ J) O h2 (G λa U=>k a (by simp[U]))
def Lh.there {l v}(c:Lh h l v):∀a∈l,∃o,h.get? a=AP o:=by
 induction c with
 | nil=>intro a G;cases G
 | @cons c o J z l U Y h2 t O=>
  simp_all
abbrev Dv (A:Ej)(h:Heap):Prop:=∀v,A.handled=AP v->∃a l,v=.ref a/\Lh h l v
def T9.heap {v}(c:T9 H v)(x:MJ P w H h):∃l,Lh h l v:=by
 induction c with
 | nil=>show{[],.nil}
 | cons h1 h2 J _ G=>obtain⟨l,t⟩:=G;show{_,.cons (x _ _ h1).1 h2 J t}
def ajY (q:Quiet A H)(x:MJ P w H h):Dv A h:=λv e=>by
 obtain⟨⟨a,h1⟩,c⟩:=q v e;obtain⟨l,t⟩:=c.heap x;grind
abbrev Lnk (h:Heap)(x y:Aj):Prop:=∃(c:Addr) (o:Obj) (vs:Array Aj),x=.ref c/\h.get? c=AP o/\o.data=.fields vs/\vs[2]?=AP y
inductive VB (h:Heap):Aj->Aj->Prop
 | refl {x:Aj}:VB h x x
 | step {x y z:Aj}(a:Lnk h x y) (b:VB h y z):VB h x z
variable {z:Aj}
def VB.snoc {x y}(a:VB h x y)(b:Lnk h y z):VB h x z:=by
 induction a with
 | refl=>show .step b .refl
 | step l _ G=>show .step l (G b)
def VB.one {x y}(a:VB h x y)(b:Lnk h y z):∃u,Lnk h x u/\VB h u z:=by
 cases a with
 | refl=>show{z,b,.refl}
 | step l r=>show{_,l,r.snoc b}
variable {prog:Dm}{R:Um->Bc->Prop}
def wk {s}{e}(h:R (.ok (.ret .none)) s):∀{l o},Lh s.heap l o->e∉l->(∃a,o=.ref a)->∀G tg,(tg=false->VB s.heap G o)->(tg=true->∃y,Lnk s.heap G y/\VB s.heap y o) ->
  Qt (Cq prog w) A (.builtin "proto.unchain" ⟨[.ref e,o,G,.bool tg],[]⟩) R s:=by
 intro l o c;induction c with
 | nil=>rintro _ ⟨a,z⟩;cases z
 | @cons c o p z l k m h2 t j=>
  intro g _ G tg u ht;have i:Lnk _ _ z:=⟨c,o,p,rfl,k,m,h2⟩
  show Vk amb<|BL<|Mv k m h2 ?_
  by_cases f:z=.none
  subst f;show BL<|DK<|DK ?_
  show h
  ·obtain⟨d,rfl,b⟩:∃d,z=.ref d/\d∈l:=by
    cases t with
    | nil=>show absurd rfl f
    | cons=>show{_,rfl,by simp}
   have n:¬(Value.ref d==Value.ref e)=true:=λq=>by
    have:=Value.ref.inj (beq_iff_eq.mp q)
    show g (by rw[<-this];simp[b])
   rw[if_neg n];by_cases zs:(Value.ref d==G)=true
   ·rw[if_pos zs];show BL<|Va ?_
    first
     | (show BL (DK (DK ?_));show h)
   ·rw[if_neg zs];have J:e∉l:=λq=>g (by simp[q])
    cases tg with
    | true=>
     obtain⟨y,⟨cs,os,ss,rfl,Y,U,O⟩,r⟩:=ht rfl;show BL<|Mv Y U O<|DK {uU _<|by decide +kernel,(j J ⟨d,rfl⟩ y false (λ_=>r.snoc i) nofun)}
    | false=>
     show BL<|DK<|DK {uU _<|by decide +kernel,(j J ⟨d,rfl⟩ G true nofun λ_=>(u rfl).one i)}
variable {oe:Obj}
def aju {d s}{e}{ws h0}{Q}(g:Dv A h0)(k0:∀b o,h0.get? b=AP o->s.heap.get? b=AP o)(j:h0.get? e=Af)(J:s.heap.get? e=AP oe)(O:oe.data=.fields ws)(hz:2<ws.size)
  (h:∀h',(∀b,b≠e->h'.get? b=s.heap.get? b)->(∃o',h'.get? e=AP o'/\o'.cls=oe.cls/\o'.dict=oe.dict/\((A.handled=Af/\h'=s.heap)\/∃v,A.handled=AP v/\o'.data=.fields (ws.setIfInBounds 2 v)))->E (.ref e) {s with heap:=h'}):CR (Cq prog w) A (raiseNew (.ref e):Sem d) Q E s:=by
 show BL<|wpAny_handled ?_
 cases hh:A.handled with
 | none=>
  show BL<|DK<|Z4<|h _ (λ_ _=>rfl) {oe,J,rfl,rfl,.inl ⟨hh,rfl⟩}
 | some v=>
  obtain⟨a,l,rfl,U⟩:=g v hh;have Y:e∉l:=λq=>by obtain⟨o,z⟩:=U.there e q;rw[j]at z;cases z
  dsimp only;have f:(Value.ref a != Value.ref e)=true:=by
   simp only[bne_iff_ne];intro q;show Y<|Value.ref.inj q ▸ ((by cases U with|cons=>simp))
  rw[if_pos f];show BL<|N7<|pR<|wk (BL<|BL<|wpAny_load J ?_) (U.keep λb _ o z=>k0 b o z) Y ⟨a,rfl⟩ _ false (λ_=>.refl) nofun
  rw[O];dsimp only;rw[if_pos hz];show wpAny_update J<|Z4 ?_
  have G:=U8 O (·.setIfInBounds 2 (Value.ref a));show h _ (λb i=>Ql _ _<|Ke i) {_,R7 _ J<|Vh G,Zj _ _,by obtain⟨c0,k,dt,sl⟩:=oe;cases O;rfl,.inr {_,hh,G}}
def ajM {s}{it}{x left G}{Q}(hh:Dv A s.heap)(hit:IsRangeIter s.heap it x left G)(J:left<=0)
  (U:∀h',Z6 it s.heap h'->Q Af {s with heap:=h'}):CR (Cq prog w) A (pyNext (.ref it)) Q E s:=by
 have hT:s.TypeIs (.ref it) "range_iterator":={_,hit,rfl}
 show BL (YQ (Vj hT F.slot_range_iterator_next
  (Uh F.slot_range_iterator_next hT F.entry_range_iterator_next ?_ (F.args_range_iterator_next_1 _))))
 change CR _ _ (field (.ref it) 0 >>= _) _ _ s;show BL<|Mv hit rfl (x:=O7 x) rfl ?_
 show BL<|Mv hit rfl (x:=O7 left) rfl ?_
 show BL<|Mv hit rfl (x:=O7 G) rfl ?_
 change CR _ _ (if left<=0 then _ else _) _ _ s;rw[if_pos J];show BL<|Va ?_
 show BL ?_;show BL ?_;show BL (m:=Zg _ _)<|Ve (a:=Value.none) (by first|rfl|(simp only[Zg];rfl)) ?_
 show SX ?_<|by size_fits
 show aju (A:=A.in1) (h0:=s.heap) hh (λb o q=>FW _<|FW _ q) (ZR<|by simp[Heap.push]) (Kf _ rfl) rfl (by simp;lia) λh' h1 c=>?_;obtain⟨o',h2,Y,_⟩:=c;show BL<|Zu (T := "StopIteration") (b:=true) {_,h2,Y} isSubtype_stop ?_
 show DK<|U _ λb o d e=>?_
 rw[h1 b ?_];show FW _<|FW _ e
 have:=FP e
 show KC<|Kz this<|by simp[Heap.push]
structure It where
 go:Nat->Hp->Prop
 yld:Nat->Hp->V->Hp->Prop
 stop:Nat->Hp->Prop
 cm:Bool
abbrev Lk (X:Cx)(apn:List (Addr×Obj))(H:Hp)(b:Addr):Prop:=
 H b=Af/\b≠X.env.locals/\b∉X.fs/\(b∈X.ex\/X.s₀.heap.objs.size<=b)/\(∀x c,X.env.cells.lookup x=AP c->c≠b)/\∀p∈X.pn++apn,p.1≠b
def Bk.fpOk {s}(I:Bk X apn σ H s)(G:s.heap.objs.size<=b)(O:H' b=Af):Lk X apn H' b:=by
 show{O,PN<|Kz I.lt G,I.nofs G,.inr<|K7 I.sz G,λx c e z=>?_,λp J z=>(absurd (Kz (FP (I.pin p J).1)<|z ▸ G)<|RX _)};obtain⟨v,q⟩:=I.cell x c e;show absurd (Kz q.lt<|z ▸ G)<|RX _
structure Turn (P:Dm) (w:DX) (K:CQ) (tg:Expr) (J:It) (fp:List Addr) (it:Addr) (tn:Nat->Heap->Prop):Prop where
 mem:it∈fp
 obj:∀i h,tn i h->∀b∈fp,∃o,h.get? b=AP o/\∀v,o.data≠.cell v
 keep:∀i h h',tn i h->(∀b∈fp,∀o,h.get? b=AP o->h'.get? b=AP o)->tn i h'
 item:∀(X:Cx),X.prog=P->X.w=w->X.K=K->(J.cm=true->X.calm=true)->∀(i:Nat) (apn:List (Addr×Obj)) (s:Bc) (σ:St) (H:Hp) (E:Aj->Bc->Prop),Bk X apn σ H s->(∀b∈fp,Lk X apn H b)->tn i s.heap->J.go i H ->
  CR (Cq P w) X.A (pyNext (.ref it)) (λr s1=>∃u,r=AP u /\
   CR (Cq P w) X.A (letOwnedTupleGo tg (.ref it) u) (λ_ s2=>∃x H',Bk X apn σ H' s2/\RelV x u/\J.yld i H x H'/\tn (i+1) s2.heap/\∀b∈fp,H' b=Af) E s1) E s
 done:∀(X:Cx),X.prog=P->X.w=w->X.K=K->(J.cm=true->X.calm=true)->∀(i:Nat) (apn:List (Addr×Obj)) (s:Bc) (σ:St) (H:Hp) (E:Aj->Bc->Prop),Bk X apn σ H s->(∀b∈fp,Lk X apn H b)->tn i s.heap->J.stop i H ->
  CR (Cq P w) X.A (pyNext (.ref it)) (λr s1=>r=Af/\Bk X apn σ H s1) E s
 self:∀(A:Ej) (i:Nat) (s:Bc) (Q:Aj->Bc->Prop) (E:Aj->Bc->Prop),tn i s.heap->Q (.ref it) s->CR (Cq P w) A (pyIter (.ref it)) Q E s
@[reducible]noncomputable def TI:=St->Hp->(It->Hp->Prop)->Prop
abbrev PIE (X:Cx)(apn:List (Addr×Obj))(σ:St)(tg:Expr)(R:It->Hp->Prop)(G:Aj)(U:Bc):Prop:=
 ∃(it:Addr) (fp:List Addr) (O:Nat->Heap->Prop) (J:It) (H':Hp),G=.ref it/\Bk X apn σ H' U/\Turn X.prog X.w X.K tg J fp it O/\O 0 U.heap/\(∀b∈fp,Lk X apn H' b)/\R J H'
abbrev PI (X:Cx)(tg iter:Expr)(wi:TI):Prop:=
 ∀(apn:List (Addr×Obj)) (s:Bc) (σ:St) (H:Hp) (R:It->Hp->Prop),Bk X apn σ H s->wi σ H R ->
  CR (Cq X.prog X.w) X.A (eval iter X.env) (λv G=>CR (Cq X.prog X.w) X.A (pyIter v) (PIE X apn σ tg R) X.xe G) X.xe s
def M6 {s}{it o}{n}{vs}{Q}(J:s.heap.get? it=AP o)(Y:o.cls=.type n)(U:o.data=.fields vs)
    (O:["enumerate", "zip", "dict_itemiterator", "dict_reverseitemiterator", "odict_iterator", "itertools.zip_longest", "itertools.pairwise"].contains n=false) (G:Q () s):CR M A (letOwnedTupleGo tg (.ref it) u) Q E s:=by
  cases tg<;>first
    | show DK G
    | (cases u<;>first
        | show DK G
        | (show BL (wpAny_load J ?_)
           rw[Y,U];change CR M A (if _=true then _ else _) Q E s;rw[if_neg (by intro h;rw[O]at h;cases h)];show DK G))
abbrev Itl (K:CQ)(a:Addr):It:=
 ⟨λi H=>∃xs x,Kr K H a xs/\xs[i]?=AP x,λi H x H'=>H'=H/\∀xs,Kr K H a xs->xs[i]?=AP x,λi H=>∃xs,Kr K H a xs/\xs.length<=i,true⟩
abbrev Itt (K:CQ)(a:Addr):It:=
 ⟨λi H=>∃xs x,KJ K H a xs/\xs[i]?=AP x,λi H x H'=>H'=H/\∀xs,KJ K H a xs->xs[i]?=AP x,λi H=>∃xs,KJ K H a xs/\xs.length<=i,true⟩
abbrev Itr (lo:Int)(n:Nat):It:=⟨λi _=>i<n,λi H x H'=>H'=H/\x=.int (lo+i),λi _=>n<=i,false⟩
def ajD (a it:Addr):Turn P w K tg (Itl K a) [it] it (λi h=>h.IsListIter it a i) where
 mem:=by simp
 obj:=λi h st b G=>by
  obtain⟨o,e,c,d⟩:=st;simp_all
 keep:=λi h h' st k=>st.at λo e=>k it (by simp) o e
 item:=by
  intro X j f l v i apn s σ H E I U st g;subst j f l;obtain⟨xs,x,O,t⟩:=g;obtain⟨its,Y,p,D⟩:=I.list O;obtain⟨u,L,A⟩:=Y.get t;obtain⟨m,f1,f2,f3,f4,f5⟩:=U it (by simp);show wpAny_pyNext_list_item st p.isList (by simpa using L) λh' J z=>?_;obtain⟨o,e,c,d⟩:=id J;show{u,rfl,M6 e c d ∅ {x,H,(I.turned (λb o G e=>(z.2 b G).trans e) m f1 f3 f4 f5),A,{rfl,λys F=>by rwa[I.list_inj F O]},J,λb G=>(U b G).1}}
 done:=by
  intro X j f l v i apn s σ H E I U st g;subst j f l;obtain⟨xs,O,t⟩:=g;obtain⟨its,Y,p,D⟩:=I.list O;obtain⟨m,f1,f2,f3,f4,f5⟩:=U it (by simp);have hl:=Y.length;show wpAny_pyNext_list_end (I.ok.hd<|v rfl) st p.isList (by simp;lia) λh' M=>{rfl,I.turned (λb o G e=>M b o G e) m f1 f3 f4 f5}
 self:=λ_ _ _ _ _ st h=>wpAny_pyIter_listiter st h
def zaG (a it:Addr):Turn P w K tg (Itt K a) [it] it (λi h=>h.IsTupleIter it a i) where
 mem:=by simp
 obj:=λi h st b G=>by
  obtain rfl:=by simpa using G
  obtain⟨o,e,c,d⟩:=st;show{o,e,λv z=>by rw[d]at z;cases z}
 keep:=λi h h' st k=>st.at λo e=>k it (by simp) o e
 item:=by
  intro X l g m v i apn s σ H E I U st j;subst l g m;obtain⟨xs,x,O,f⟩:=j;obtain⟨its,Y,p,F⟩:=I.tuple O;obtain⟨u,M,B⟩:=Y.get f;obtain⟨n,f1,f2,f3,f4,f5⟩:=U it (by simp);show wpAny_pyNext_tuple_item st p (by simpa using M) λh' J A=>?_;obtain⟨o,e,c,d⟩:=id J;show{u,rfl,M6 e c d ∅ {x,H,(I.turned (λb o G e=>(A.2 b G).trans e) n f1 f3 f4 f5),B,{rfl,λys L=>I.tuple_inj L O ▸ f},J,λb G=>(U b G).1}}
 done:=by
  intro X l g m v i apn s σ H E I U st j;subst l g m;obtain⟨xs,O,f⟩:=j;obtain⟨its,Y,p,F⟩:=I.tuple O;obtain⟨n,f1,f2,f3,f4,f5⟩:=U it (by simp);have hl:=Y.length;show wpAny_pyNext_tuple_end (I.ok.hd<|v rfl) st p (by simp;lia) λh' N=>{rfl,I.turned (λb o G e=>N b o G e) n f1 f3 f4 f5}
 self:=λ_ _ _ _ _ st h=>wpAny_pyIter_tupleiter st h
def ajn (it:Addr)(lo:Int)(n:Nat):Turn P w K tg (Itr lo n) [it] it (λi h=>IsRangeIter h it (lo+(i:Nat)*1) ((n:Int)-(i:Nat)) 1) where
 mem:=by simp
 obj:=λi h st b G=>by
  obtain rfl:=by simpa using G
  show{_,st,λv z=>by
   cases z}
 keep:=λi h h' st k=>k it (by simp) _ st
 item:=by
  intro X r p t q i apn s σ H E I J st Y;obtain⟨a,f1,f2,f3,f4,f5⟩:=J it (by simp);show wpAny_pyNext_range_item st (by have:i<n:=Y;lia) λh' U m=>?_;have v:Bk X apn σ H {s with heap:=h',toks:=s.toks+1}:=I.turned (λb o G e=>(m.2 b G).trans e) a f1 f3 f4 f5;have O:IsRangeIter h' it (lo+((i+1:Nat):Int)*1) ((n:Int)-((i+1:Nat):Int)) 1:=by
   have e1:lo+((i+1:Nat):Int)*1=lo+((i:Nat):Int)*1+1:=⋯
   have e2:(n:Int)-((i+1:Nat):Int)=(n:Int)-((i:Nat):Int)-1:=⋯
   rwa[e1,e2]
  show{_,rfl,M6 U rfl rfl ∅ {.int _,H,v,{s.toks,?_},⟨rfl,rfl⟩,O,λb G=>(J b G).1}};rw[Int.mul_one]
 done:=by
  intro X r p t q i apn s σ H E I J st Y;obtain⟨a,f1,f2,f3,f4,f5⟩:=J it (by simp);show ajM (ajY I.qt0 I.hok) st (by have:n<=i:=Y;lia) λh' u=>{rfl,I.turned (λb o G e=>u b o G e) a f1 f3 f4 f5}
 self:=λ_ _ _ _ _ st h=>wpAny_pyIter_rangeiter st h
section
def Gx {s}{R lo hi t u v tk}(I:Bk X apn σ H s)(h1:-(2^62)<=lo)(h2:lo<2^62)(U:-(2^62)<=hi)(O:hi<2^62)
  (q:R (Itr lo (hi-lo).toNat) H):CR (Cq X.prog X.w) X.A (pyIter (.ref s.heap.objs.size)) (PIE X apn σ tg R) E {s with heap:=s.heap.push {cls:=.type "range",data:=.fields #[.int lo t,.int hi u,.int 1 v]},toks:=tk}:=by
 show wpAny_pyIter_range (IsRange.new ..) (small_one h1 h2 U O) ?_;have G:Bk X apn σ H {s with heap:=s.heap.push {cls:=.type "range",data:=.fields #[.int lo t,.int hi u,.int 1 v]},toks:=tk}:=I.kept λb o e=>FW _ e
 show{(s.heap.push {cls:=.type "range",data:=.fields #[.int lo t,.int hi u,.int 1 v]}).objs.size,[(s.heap.push {cls:=.type "range",data:=.fields #[.int lo t,.int hi u,.int 1 v]}).objs.size],_,_,H,rfl,
  G.kept λb o e=>FW _ e,ajn _ lo (hi-lo).toNat,?_,λb J=>?_,q}
 have e1:lo+((0:Nat):Int)*1=lo:=by simp
 have e2:(((hi-lo).toNat:Nat):Int)-((0:Nat):Int)=Builtin.Range.rangeSize lo hi 1:=by rw[rangeSize_one];split<;>lia
 rw[e1,e2];show Kf _ rfl;have e:b=(s.heap.push {cls:=.type "range",data:=.fields #[.int lo t,.int hi u,.int 1 v]}).objs.size:=by simpa using J
 subst e;show G.fpOk (Em _)<|G.hok.fresh<|Em _
abbrev afR (ta:TA):TI:=fun σ H R=>ta σ H λvs H1=>∃j:Int,vs=[.int j]/\-(2^62)<=j/\j<2^62/\R (Itr 0 j.toNat) H1
abbrev agv (ta:TA):TI:=fun σ H R=>ta σ H λvs H1=>∃i j:Int,vs=[.int i,.int j]/\(-(2^62)<=i/\i<2^62/\-(2^62)<=j/\j<2^62)/\R (Itr i (j-i).toNat) H1
def zbw {a ta p}(hg:Gl X "range")(hm:X.mg "range" = Af)(ha:PA X [a] ta)(hs:Dc [a] X.env=[(false,eval a X.env)]:=by rfl):PI X tg (.Call (.Name "range" p) [a] [] pos) (afR ta):=by
 intro apn s σ H R I h;show Call_<|pD I hg hm boot_range<|Yr (Eu (ha pos apn s σ H _ I h) λus s1 b=>?_) hs rfl;obtain⟨vs,H1,I1,r1,q1⟩:=b
 obtain⟨j,e,q1,q2,q⟩:=q1;subst e;cases r1 with
 | cons r rr=>
  cases rr;obtain⟨t,rfl⟩:=r;show call_range_1<|Gx I1 ⋯ ⋯ q1 q2<|by simpa using q
def alB {a b ta p}(hg:Gl X "range")(hm:X.mg "range" = Af)(ha:PA X [a,b] ta)(hs:Dc [a,b] X.env=[(false,eval a X.env),(false,eval b X.env)]:=by rfl)(hs2:Dc [b] X.env=[(false,eval b X.env)]:=by rfl):
  PI X tg (.Call (.Name "range" p) [a,b] [] pos) (agv ta):=by
 intro apn s σ H R I h;show Call_<|pD I hg hm boot_range<|Yr (Eu (ha pos apn s σ H _ I h) λus s1 c=>?_) (by rw[hs,hs2]) (by rw[hs2];rfl);obtain⟨vs,H1,I1,r1,q1⟩:=c
 obtain⟨i,j,e,⟨q1,q2,q3,q4⟩,q⟩:=q1;subst e;cases r1 with
 | cons r rr=>
  cases rr with
  | cons r' rr=>
   cases rr;obtain⟨t,rfl⟩:=r;obtain⟨t',rfl⟩:=r';show call_range_2<|Gx I1 q1 q2 q3 q4 q
abbrev aiI (wi:TI)(g:TG)(tb:TS):TS:=λD σ H=>wi σ H λJ H1=>∃W:Nat->Nat->St->Hp->Prop,(∃m,W 0 m σ H1)/\∀i m σ H,W i m σ H ->
 (J.stop i H/\D.nx σ H)\/(J.go i H/\∃N:St->Hp->Prop,(∀σ' H',N σ' H'->∃O,O<m/\W (i+1) O σ' H')/\∀x H',J.yld i H x H'->g x σ H' fun G H2=>tb {D with nx:=N,ct:=N,bk:=D.nx} G H2)
abbrev Jt (fp:List Addr)(h:Heap):List (Addr×Obj):=fp.filterMap λb=>(h.get? b).map λo=>(b,o)
def lA {fp o}(G:b∈fp)(e:h.get? b=AP o):(b,o)∈Jt fp h:=List.mem_filterMap.mpr {b,G,by rw[e];rfl}
def akE {fp p}(G:p∈Jt fp h):p.1∈fp/\h.get? p.1=AP p.2:=by
 obtain⟨b,J,e⟩:=List.mem_filterMap.mp G;cases q:h.get? b with
 | none=>rw[q]at e;cases e
 | some o=>
  grind
def Bk.pinned {s}{fp}(I:Bk X apn σ H s)(J:∀b∈fp,Lk X apn H b)(U:∀b∈fp,∃o,s.heap.get? b=AP o/\∀v,o.data≠.cell v):Bk X (apn++Jt fp s.heap) σ H s:=
 I.pins_of λp G=>(YH.mp G).elim (λz=>I.pin p (Wi _ z)) λz=>by
  obtain⟨O,e⟩:=akE z;obtain⟨Y,f1,f2,_⟩:=J _ O;grind
def Bk.unpinned {pl s}(I:Bk X (apn++pl) σ H s):Bk X apn σ H s:=I.pins_of λp G=>I.pin p (Wi _ (qZ _ G))
def W6 {iter wi g}{tb}(hp:vo (Cq X.prog X.w) X.A X.env X.xe)(hc:X.calm=true)(hi:PI X tg iter wi)(hg:PG X tg g)(hb:Qn X body tb)
  (hs:∀x,YK iter X.env x=pure x:=by intro _;rfl):PS X (.For tg iter body [] pos) (aiI wi g tb):=by
 intro apn s σ H D I h;show wpAny_For (Eu (hi apn s σ H _ I h) λv s1 h1=>Eu h1 λitv s2 h2=>?_) hs;obtain⟨it,fp,tn,J,H2,e,I2,T,st2,f2,W,⟨m0,w0⟩,turn⟩:=h2;subst e;have stat:∀{H':Hp},(∀b∈fp,H' b=Af)->∀b∈fp,Lk X apn H' b:=λhn b hb=>{hn b hb,(f2 b hb).2}
 show codeAny_forLoop_any (λn s'=>∃i σ' H',Bk X apn σ' H' s'/\tn i s'.heap/\(∀b∈fp,H' b=Af)/\W i n σ' H') ?_ m0 {0,σ,H2,I2,st2,λb hb=>(f2 b hb).1,w0};rintro n s3 ⟨i,σ3,H3,I3,st3,fr3,w3⟩;rcases turn i n σ3 H3 w3 with⟨stop,qn⟩|⟨go,N,hN,step⟩
 ·show ZF hp<|Eu (T.done X rfl rfl rfl (λ_=>hc) i apn s3 σ3 H3 _ I3 (stat fr3) st3 stop) λr s4 a=>?_;obtain⟨hr,I4⟩:=a
  subst hr;show Zn ⟨σ3,H3,I4,qn⟩
 ·show ZF hp<|Eu (T.item X rfl rfl rfl (λ_=>hc) i apn s3 σ3 H3 _ I3 (stat fr3) st3 go) λr s4 c=>?_;obtain⟨u,hr,h4⟩:=c
  subst hr;show ZF hp<|Eu h4 λ_ s5 ⟨x,H5,I5,r5,y5,st5,fr5⟩=>(ZF hp<|Eu (hg _ s5 σ3 H5 x u _ (I5.pinned (stat fr5)<|T.obj _ _ st5) r5<|step x H5 y5) λ_ s6 ⟨σ6,H6,I6,q6⟩=>(ZF hp<|Eu (hb _ s6 σ6 H6 _ I6 q6) λf s7 q7=>?_))
  have again:∀{σ7:St}{H7:Hp},Bk X _ σ7 H7 s7->N σ7 H7->∃m,m<n/\∃i σ' H',Bk X apn σ' H' s7/\tn i _/\(∀b∈fp,H' b=Af)/\W i m σ' H':=λ{σ7 H7} I7 n7=>by
   obtain⟨m',hm,w7⟩:=hN σ7 H7 n7;show{m',hm,i+1,σ7,H7,I7.unpinned,T.keep _ _ _ st5 λb hb o e=>(I7.pin _<|Wi _<|Wi _<|lA hb e).1,λb hb=>?_,w7};obtain⟨o,e,d⟩:=T.obj _ _ st5 b hb;show(I7.pin _<|Wi _<|Wi _<|lA hb e).2.1
  cases f with
  | next|cont=>obtain⟨σ7,H7,I7,n7⟩:=q7;show again I7 n7
  | brk=>obtain⟨σ7,H7,I7,q7⟩:=q7;show⟨σ7,H7,I7.unpinned,q7⟩
  | ret v=>obtain⟨x7,σ7,H7,I7,r7,q7⟩:=q7;show⟨x7,σ7,H7,I7.unpinned,r7,q7⟩
end
@[reducible]noncomputable def R2:=V->V->Hp->VK->Prop
abbrev Mg (X:Cx)(f:Aj->Aj->Sem Aj)(r:R2):Prop:=
 ∀(apn:List (Addr×Obj)) (s:Bc) (σ:St) (H:Hp) (x y:V) (v u:Aj) (Q:VK),Bk X apn σ H s->RelV x v->RelV y u->r x y H Q ->
  CR (Cq X.prog X.w) X.A (f v u) (EP X apn σ Q) X.xe s
abbrev UnR (X:Cx)(f:Aj->Sem Aj)(r:V->Hp->VK->Prop):Prop:=
 ∀(apn:List (Addr×Obj)) (s:Bc) (σ:St) (H:Hp) (x:V) (v:Aj) (Q:VK),Bk X apn σ H s->RelV x v->r x H Q ->
  CR (Cq X.prog X.w) X.A (f v) (EP X apn σ Q) X.xe s
abbrev jC (X:Cx)(f:Aj)(r:List V->Hp->VK->Prop):Prop:=
 ∀(apn:List (Addr×Obj)) (s:Bc) (σ:St) (H:Hp) (xs:List V) (us:List Aj) (Q:VK),Bk X apn σ H s->Cg xs us->r xs H Q ->
  CR (Cq X.prog X.w) X.A (call f us) (EP X apn σ Q) X.xe s
abbrev aiO (X:Cx)(r:V->Hp->(Bool->Hp->Prop)->Prop):Prop:=
 ∀(apn:List (Addr×Obj)) (s:Bc) (σ:St) (H:Hp) (x:V) (v:Aj) (Q:Bool->Hp->Prop),Bk X apn σ H s->RelV x v->r x H Q ->
  CR (Cq X.prog X.w) X.A (truthy v) (TP X apn σ Q) X.xe s
abbrev tOp (r:R2)(ta tb:TE):TE:=fun σ H Q=>ta σ H λx H1=>tb σ H1 λy H2=>r x y H2 Q
abbrev tUn (r:V->Hp->VK->Prop)(ta:TE):TE:=fun σ H Q=>ta σ H λx H1=>r x H1 Q
abbrev rI (C:Int->Int->Prop)(g:Int->Int->V):R2:=λx y H Q=>∃i j,x=.int i/\y=.int j/\C i j/\Q (g i j) H
abbrev Y4 (g:Int->Int->V):R2:=λx y H Q=>∃i j,x=.int i/\y=.int j/\Q (g i j) H
abbrev rU (g:Int->V):V->Hp->VK->Prop:=λx H Q=>∃i,x=.int i/\Q (g i) H
section
variable {a b c:Expr}{tb tc:TE}
def ahb (l:PE X a ta)(k:PE X b tb){s}{R:V->V->Hp->Prop}(I:Bk X apn σ H s)
  (h:ta σ H λx H1=>tb σ H1 λy H2=>R x y H2) {Q}{f:Aj->Aj->Sem Aj}
  (j:∀v u O x y H2,Bk X apn σ H2 O->RelV x v->RelV y u->R x y H2->CR (Cq X.prog X.w) X.A (f v u) Q X.xe O) :
  CR (Cq X.prog X.w) X.A (eval a X.env) (λv J=>CR (Cq X.prog X.w) X.A (eval b X.env) (λu G=>CR (Cq X.prog X.w) X.A (f v u) Q X.xe G) X.xe J) X.xe s:=Eu (l apn s σ H _ I h) λv U c=>by obtain⟨x,H1,n,e,i⟩:=c;show (Eu (k apn U σ H1 _ n i) λu O d=>by obtain⟨y,H2,m,Y,g⟩:=d;show (j v u O x y H2 m e Y g))
def afL {G r}(Y:Mg X (Ow G) r)(d:PE X a ta)(c:PE X b tb):PE X (.BinOp a G b pos) (tOp r ta tb):=by
 intro apn s σ H Q I h;show wpAny_BinOp<|ahb d c I h λv u J x y H2 e U O q=>Y apn J σ H2 x y v u Q e U O q
def ag2 {G}{r}(Y:UnR X (unaryOp G) r)(c:PE X a ta):PE X (.UnaryOp G a pos) (tUn r ta):=by
 intro apn s σ H Q I h;show UnaryOp_<|Eu (c apn s σ H _ I h) λv J b=>by obtain⟨x,H1,d,O,U⟩:=b;show Y apn J σ H1 x v Q d O U
def opI {f C}{g:Int->Int->Int}
  (G:∀i j t u s  (Q) (E),C i j->Q (.int (g i j) s.toks) {s with toks:=s.toks+1}->CR (Cq X.prog X.w) X.A (f (.int i t) (.int j u)) Q E s) :
  Mg X f (rI C λi j=>.int (g i j)):=by
 intro apn s σ H x y v u Q I U O h;obtain⟨i,j,rfl,rfl,Y,q⟩:=h;obtain⟨t,rfl⟩:=U;obtain⟨J,rfl⟩:=O;show G i j t J s _ _ Y {.int _,H,I.tok _,{_,rfl},q}
def ahN {f}{g:Int->Int->Int}
  (G:∀i j t u s  (Q) (E),Q (.int (g i j) s.toks) {s with toks:=s.toks+1}->CR (Cq X.prog X.w) X.A (f (.int i t) (.int j u)) Q E s) :
  Mg X f (Y4 λi j=>.int (g i j)):=by
 intro apn s σ H x y v u Q I U O h;obtain⟨i,j,rfl,rfl,q⟩:=h;obtain⟨t,rfl⟩:=U;obtain⟨J,rfl⟩:=O;show G i j t J s _ _ {.int _,H,I.tok _,{_,rfl},q}
def afK {f}{g:Int->Int->Bool}
  (G:∀i j t u s  (Q) (E),Q (.bool (g i j)) s->CR (Cq X.prog X.w) X.A (f (.int i t) (.int j u)) Q E s) :
  Mg X f (Y4 λi j=>.bl (g i j)):=by
 intro apn s σ H x y v u Q I U O h;obtain⟨i,j,rfl,rfl,q⟩:=h;obtain⟨t,rfl⟩:=U;obtain⟨J,rfl⟩:=O;show G i j t J s _ _ {.bl _,H,I,rfl,q}
abbrev ahE (i j:Int):Prop:=0<=j/\j<=1000000/\i.natAbs<2^64
def adO:Mg X (Ow .Add) (Y4 λi j=>.int (i+j)):=ahN λ_ _ _ _ _ _ _ q=>add_int q
def abV:Mg X (Ow .Sub) (Y4 λi j=>.int (i-j)):=ahN λ_ _ _ _ _ _ _ q=>sub_int q
def anz:Mg X (Ow .Mod) (rI (λ_ j=>j≠0) λi j=>.int (i.fmod j)):=opI λ_ _ _ _ _ _ _ G q=>mod_int' G q
def aez:Mg X (Ow .Pow) (rI ahE λi j=>.int (i^j.toNat)):=opI λ_ _ _ _ _ _ _ G q=>pow_int_small G.1 G.2.1 G.2.2 q
def unI {f}{g:Int->Int}
  (G:∀i t s  (Q) (E),Q (.int (g i) s.toks) {s with toks:=s.toks+1}->CR (Cq X.prog X.w) X.A (f (.int i t)) Q E s) :
  UnR X f (rU λi=>.int (g i)):=by
 intro apn s σ H x v Q I J h;obtain⟨i,rfl,q⟩:=h;obtain⟨t,rfl⟩:=J;show G i t s _ _ {.int<|g i,H,I.tok _,{_,rfl},q}
def ac9:UnR X (unaryOp .USub) (rU λi=>.int (-i)):=unI λ_ _ _ _ _ q=>neg_int q
def Ht {s Q}{k G}(I:Bk X apn σ H s)(q:Q (.bl k) H)(e:k=G):EP X apn σ Q (.bool G) s:=by
 subst e;show{.bl k,H,I,rfl,q}
def ag4:Mg X (Oi .Lt) (Y4 λi j=>.bl (decide (i<j))):=afK λ_ _ _ _ _ _ _ q=>lt_int q
def afM:Mg X (Oi .LtE) (Y4 λi j=>.bl (decide (i<=j))):=afK λ_ _ _ _ _ _ _ q=>le_int q
def agn:Mg X (Oi .Gt) (Y4 λi j=>.bl (decide (j<i))):=afK λ_ _ _ _ _ _ _ q=>gt_int q
def agF:Mg X (Oi .GtE) (Y4 λi j=>.bl (decide (j<=i))):=afK λ_ _ _ _ _ _ _ q=>ge_int q
def abG:Mg X (Oi .Is) (λx y H Q=>y=.non/\Q (.bl (decide (x=.non))) H):=by
 intro apn s σ H x y v u Q I J G h;obtain⟨rfl,q⟩:=h;cases G;show is_none_gen<|Ht I q ?_
 cases x<;>first
  | (obtain⟨t,rfl⟩:=J;rfl)
def Mg.or {f r O}(h:Mg X f r)(h':Mg X f O):Mg X f (λx y H Q=>r x y H Q\/O x y H Q):=by
 intro apn s σ H x y v u Q I J G q;rcases q with q|q
 show h apn s σ H x y v u Q I J G q;show h' apn s σ H x y v u Q I J G q
def R8 (b){op}(h:op≠.In:=by decide)(h2:op≠.NotIn:=by decide):Yc op b=false:=by
 have e1:(op==CmpOp.In)=false:=by cases op<;>first|rfl|show absurd rfl h
 have e2:(op==CmpOp.NotIn)=false:=by cases op<;>first|rfl|show absurd rfl h2
 cases b<;>simp[Yc,e1,e2]
def aaw {G r}(Y:Mg X (Oi G) r)(e:PE X a ta)(d:PE X b tb)(c:Yc G b=false):PE X (.Compare a [G] [b] pos) (tOp r ta tb):=by
 intro apn s σ H Q I h;show wpAny_Compare1 (ahb e d I h λv u J x y H2 f U O q=>Y apn J σ H2 x y v u Q f U O q) c
abbrev agw (t:TE):TT:=fun σ H Q=>t σ H λx H'=>∃k,x=.bl k/\Q k H'
def anh {G r}(j:Mg X (Oi G) r)(n:PE X a ta)(m:PE X b tb)(l:Yc G b=false):PT X (.Compare a [G] [b] pos) (agw (tOp r ta tb)):=by
 intro apn s σ H Q I h;show wpAny_isTrue_Compare1 (Eu (n apn s σ H _ I h) λv O ⟨x,H1,q,c,i⟩=>Eu (m apn O σ H1 _ q i) λu J ⟨y,H2,p,Y,g⟩=>
  Eu (j apn J σ H2 x y v u _ p c Y g) λc w d=>?_) l;obtain⟨z,t,o,U,k,e,f⟩:=d
 subst e;cases U;show Za ⟨t,o,f⟩
abbrev ah2 (K:CQ)(x:V)(H:Hp)(k:Bool):Prop:=
 match x with
 | .non=>k=false
 | .bl b=>k=b
 | .int i=>k=(i != 0)
 | .str y=>y.length<=El/\k=((y.length:Int) != 0)
 | .byt y=>y.size<=El/\k=((y.size:Int) != 0)
 | .ref p=>(∃xs,Kr K H p xs/\k=!xs.isEmpty)\/(∃xs,KJ K H p xs/\k=!xs.isEmpty)\/∃kvs,H p=AP (.dK kvs)/\k=!kvs.isEmpty
 | _=>False
def ajt {kvs}{vs:List (κ×Aj)}(r:KV kvs vs):(!vs.isEmpty)=!kvs.isEmpty:=by
 cases r<;>rfl
def vD {its}(r:Cg xs its):(!its.toArray.isEmpty)=!xs.isEmpty:=by
 cases r<;>simp
def tL:(El)<2^63:=∅
def ade:aiO X (λx H Q=>∃k,ah2 X.K x H k/\Q k H):=by
 intro apn s σ H x v Q I G h;obtain⟨k,e,q⟩:=h;have hs:El=16777216:=Yz;cases x with
 | non=>
  cases G;have e':k=false:=e;subst e';show truthy_none ⟨H,I,q⟩
 | bl b=>
  cases G;have e':k=b:=e;subst e';show Za ⟨H,I,q⟩
 | int i=>
  obtain⟨t,rfl⟩:=G;have e':k=(i != 0):=e;subst e';show PySem.P.truthy_int ⟨H,I,q⟩
 | str y=>
  obtain⟨t,rfl⟩:=G;obtain⟨Y,e'⟩:y.length<=El/\k=((y.length:Int) != 0):=e;subst e';show PySem.P.truthy_str ⋯ {H,I.tok _,q}
 | byt y=>
  obtain⟨t,rfl⟩:=G;obtain⟨Y,e'⟩:y.size<=El/\k=((y.size:Int) != 0):=e;subst e';show PySem.W.truthy_bytes ⋯ {H,I.tok _,q}
 | ref p=>
  cases G;have e':(∃xs,Kr X.K H p xs/\k=!xs.isEmpty)\/(∃xs,KJ X.K H p xs/\k=!xs.isEmpty)\/∃kvs,H p=AP (.dK kvs)/\k=!kvs.isEmpty:=e
  rcases e' with⟨xs,J,e'⟩|⟨xs,J,e'⟩|⟨kvs,J,e'⟩
  subst e';obtain⟨its,r,pl,U⟩:=I.list J;have O:=r.length;show wpAny_truthy_list pl.isList (by simp only[Lf];lia) {H,I.tok _,by rw[vD r];show q};subst e';obtain⟨its,r,pl,U⟩:=I.tuple J;have O:=r.length;show truthy_tuple pl (by simp only[Lf];lia) {H,I.tok _,by rw[vD r];show q};subst e';obtain⟨U,a,vs,r,m⟩:kvs.length<=El/\(p==U0)=false/\∃vs,KV kvs vs/\s.heap.DictOf (dZ X.prog X.w) p vs:=I.hok p _ J
  have O:kvs.length=vs.length:=Zm r;show wpAny_truthy_dict a m ⋯ {H,I.tok _,by rw[ajt r];show q}
 | _=>show(show False from e).elim
def alQ (c:PE X a ta)(Y:∀G,isTrue a X.env G=(do let v <-G;standAt a.pos;VR [v] (truthy v))):
  PT X a (fun σ H Q=>ta σ H λx H'=>∃k,ah2 X.K x H' k/\Q k H'):=by
 intro apn s σ H Q I h;show isTrue_plain (Eu (c apn s σ H _ I h) λv J b=>by obtain⟨x,H1,d,O,U⟩:=b;show ade apn J σ H1 x v Q d O U)<|Y _
def vals1 {x}(r:Cg [x] us):∃u,us=[u]/\RelV x u:=by
 cases r with
 | cons J G=>cases G;show{_,rfl,J}
def vals2 {x y}(r:Cg [x,y] us):∃u w',us=[u,w']/\RelV x u/\RelV y w':=by
 cases r with
 | cons U O=>
  cases O with
  | cons J G=>cases G;show{_,_,rfl,U,J}
def zbE:jC X (.builtin "abs") (λxs H Q=>∃i,xs=[.int i]/\Q (.int (if i<0 then -i else i)) H):=by
 intro apn s σ H xs us Q I r h;obtain⟨i,rfl,q⟩:=h;obtain⟨u,rfl,t,rfl⟩:=vals1 r;show call_abs_int λu tk=>{.int _,H,I.tok _,{_,rfl},q}
def zbm (G:X.calm=true):jC X (.builtin "max") (λxs H Q=>∃i j,xs=[.int i,.int j]/\Q (.int (if j>i then j else i)) H):=by
 intro apn s σ H xs us Q I r h;obtain⟨i,j,rfl,q⟩:=h;obtain⟨u,J,rfl,⟨t,rfl⟩,O,rfl⟩:=vals2 r;show max_two_ints (I.ok.hd G) λh' tk k=>{_,H,I.kept k,?_,q};by_cases hj:j>i
 rw[if_pos hj,if_pos hj];show{_,rfl};rw[if_neg hj,if_neg hj];show{_,rfl}
def ajK (G:X.calm=true):jC X (.builtin "min") (λxs H Q=>∃i j,xs=[.int i,.int j]/\Q (.int (if j<i then j else i)) H):=by
 intro apn s σ H xs us Q I r h;obtain⟨i,j,rfl,q⟩:=h;obtain⟨u,J,rfl,⟨t,rfl⟩,O,rfl⟩:=vals2 r;show min_two_ints (I.ok.hd G) λh' tk k=>{_,H,I.kept k,?_,q};by_cases hj:j<i
 rw[if_pos hj,if_pos hj];show{_,rfl};rw[if_neg hj,if_neg hj];show{_,rfl}
def alg:jC X (.type "int") (λxs H Q=>(∃i,xs=[.int i]/\Q (.int i) H)\/∃k,xs=[.bl k]/\Q (.int (if k then 1 else 0)) H):=by
 intro apn s σ H xs us Q I r h;rcases h with⟨i,rfl,q⟩|⟨k,rfl,q⟩
 obtain⟨u,rfl,t,rfl⟩:=vals1 r;show call_int_int {.int i,H,I,{_,rfl},q};obtain⟨u,rfl,G⟩:=vals1 r;cases G;show call_int_bool {.int _,H,I.tok _,{_,rfl},q}
end
variable {dx:Addr}{mA:Str->Option Aj}
def zbu (n:h.Ns1 dx mA):∃od,h.get? dx=AP od/\∀name,PySem.W.lookIn name od=AP (mA name):=by
 obtain⟨o,es,ep,O,b,Y,_,U⟩:=n;show{o,O,λname=>?_};have e:=U name;unfold nsFind findBy at e;rw[<-Array.find?_toList]at e;unfold PySem.W.lookIn;rw[b];dsimp only;split
 rename_i y q;simp_all
 rename_i q;rw[q]at e;have a:es.toList.any (·.refKey)=false:=by
  rw[List.any_eq_false];intro y J;obtain⟨z,t,G⟩:=Y y (Array.mem_toList_iff.mp J);simp[DictEntry.refKey,G]
 simp_all
section
variable {s:Bc}{x C f:Addr}{name:Str}{v:Aj}
end
variable {C f:Addr}{name:Str}
def Wg.some_of {v}{o}(r:Wg (AP v) o):∃u,o=AP u/\RelV v u:=by
 cases o with
 | none=>cases r
 | some u=>show⟨u,rfl,r⟩
def amM {v}(r:RelV v u):PySem.W.handedIn u=true:=by
 cases v with
 | non|ref a|ty n=>cases r;rfl
 | bl b=>cases r;rfl
 | int i|byt b|flt b=>obtain⟨t,e⟩:=r;cases e;rfl
 | str x=>obtain⟨t,e⟩:=r;cases e;rfl
section
variable {fs fs':List (Str×V)}
end
section
variable {s:Bc}{fs:List (Str×V)}{f:Str}{v:V}
def aaI {env f s}(J:Yb e f env (eval e env)=eval e env)
  (h:CR (Cq prog w) A (eval e env) (λo G=>CR (Cq prog w) A (getAttr o f true) Q E G) E s):CR (Cq prog w) A (eval (.Attribute e f pos) env) Q E s:=
 Attribute_any_ h (by rw[arm_eval_Attribute,J])
end
section
variable {value:Expr}{f:Str}{tpos:Pos}{tv:TE}
end
section
variable {s:Bc}{c:Aj}{b:Bool}
end
structure iJ (k:Nat) (A:Ej):Prop where
 hd:9<=k->A.handled=Af
 dp:A.depth+3*k+5<recursionLimit
 un:A.units+16*k+200<Lb
def iJ.mono (r:iJ k A)(h:j<=k):iJ j A:={λz=>r.hd (K7 z h),by have:=r.dp;lia,by have:=r.un;lia}
def iJ.deeper {k A}(r:iJ (k+1) A)(env):iJ k (A.deeper env):=
 {λz=>r.hd (Nat.le_succ_of_le z),by have:=r.dp;change _+1+3*k+5<_;lia,by have:=r.un;change _+3+16*k+200<_;lia}
variable {kw:List (Str×Aj)}
def ajk:(A.under (.builtin "type.__call__" ⟨.ref C::us,kw⟩)).depth=A.depth+1:=by rfl
def ajp:(A.under (.builtin "type.__call__" ⟨.ref C::us,kw⟩)).units=A.units+1:=rfl
def iJ.make (r:iJ (k+1) A)(C)(us)(kw):iJ k (A.under (.builtin "type.__call__" ⟨.ref C::us,kw⟩)):=
 {λz=>r.hd (Nat.le_succ_of_le z),by have:=r.dp;rw[ajk];lia,by have:=r.un;rw[ajp];lia}
def iJ.calm (r:iJ k A)(h:9<=k):A.handled.isNone=true:=by rw[r.hd h];rfl
def iJ.depth {k A}(r:iJ k A):A.depth<recursionLimit:=by have:=r.dp;lia
def iJ.units {k A}(r:iJ k A):A.units+64<Lb:=by have:=r.un;lia
abbrev ahC:TA:=λ_ H Q=>Q [] H
abbrev agc (ta:TE)(tr:TA):TA:=fun σ H Q=>ta σ H λx H1=>tr σ H1 λxs H2=>Q (x::xs) H2
section
variable {te:TE}{t:TA}
def Qd:PA X [] ahC:=λ_ _ _ _ H Q I h=>Calls.spliced_nil {[],H,I,.nil,h}
def tW (ha:PE X e te)(hr:PA X es t)(hs:Dc (e::es) X.env=(false,eval e X.env)::Dc es X.env:=by rfl):PA X (e::es) (agc te t):=by
 intro pos apn s σ H Q I h;show hs ▸ Calls.spliced_cons (Eu (ha apn s σ H _ I h) λu s1 a=>by obtain⟨x,H1,I1,r1,q1⟩:=a;show (Eu (hr pos apn s1 σ H1 _ I1 q1) λus s2 b=>by obtain⟨xs,H2,I2,r2,q2⟩:=b;show {x::xs,H2,I2,.cons r1 r2,q2}))
abbrev aiy (t:TA):TE:=fun σ H Q=>t σ H λxs H1=>xs.length<=El/\∀p,H1 p=Af->Q (.ref p) (Dn H1 p (.tup xs))
abbrev aij (t:TA):TE:=fun σ H Q=>t σ H λxs H1=>xs.length<=El/\∀p,H1 p=Af->Q (.ref p) (Dn H1 p (.lst xs))
def acw {J}(h:PA X es t):PE X (.Tuple es J pos) (aiy t):=by
 intro apn s σ H Q I O;show wpAny_Tuple_spliced<|Eu (h pos apn s σ H _ I O) λus U ⟨xs,H1,G,r,z,q⟩=>{r.length ▸ z,({.ref _,Dn H1 _ _,G.laid (λb u e=>FW _ e) (Em _) ?_,rfl,q _<|G.hok.fresh<|Em _})}
 show{z,us,r,_,Kf _ rfl,rfl,{_,rfl},rfl}
def XJ (h:PA X es t):PE X (.List es pos) (aij t):=by
 intro apn s σ H Q I J;show wpAny_List_spliced<|Eu (h pos apn s σ H _ I J) λus O ⟨xs,H1,G,r,z,q⟩=>{r.length ▸ z,.ref _,Dn H1 _ _,G.laid (λb u e=>FW _ e) (Em _) ?_,rfl,q _<|G.hok.fresh<|Em _}
 show{z,us,0,r,Kf _ rfl}
end
variable {t:TA}
@[reducible]noncomputable def Sp:=List V->Hp->VK->XK->Prop
@[reducible]noncomputable def Vv:=Option Aj->List Env->Hp->Bc->XK->Aj->Bc->Prop
structure abr (P:Dm) (w:DX) (K:CQ) (mg:Str->Option Aj) (base:Heap) (A:Ej) (outer:List Env) (s:Bc) (H:Hp):Prop where
 frames:A.frames=AP outer
 mod:Mod K mg base
 bs:∀b o,base.get? b=AP o->s.heap.get? b=AP o/\H b=Af
 bsz:base.objs.size<=s.heap.objs.size
 funs:s.heap.FunFrames base outer
 frf:∀b∈frs outer,H b=Af
 hok:MJ P w H s.heap
 bare:VP s.gens
 qt:Quiet A H
abbrev CE (outer:List Env)(P:Dm)(w:DX)(H:Hp)(s:Bc)(Q:VK)(u:Aj)(s':Bc):Prop:=
 ∃v H',s'.os=s.os/\VP s'.gens/\Un (frs outer) [] H H' s.heap s'.heap/\MJ P w H' s'.heap/\RelV v u/\Q v H'
abbrev ajA (CX:Vv)(hd:Option Aj)(outer:List Env)(P:Dm)(w:DX)(H:Hp)(s:Bc)(Q:VK)(E:XK)(r:Um)(s':Bc):Prop:=
 match r with
 | .ok (.ret u)=>CE outer P w H s Q u s'
 | .ok _=>False
 | .error e=>CX hd outer H s E e s'
structure lE (P:Dm) (w:DX) (K:CQ) (mg:Str->Option Aj) (base:Heap) (CX:Vv) (k:Nat) (f:Addr) (fd:Nu) (ps:List Str) (sp:Sp):Prop where
 len:∀vs H Q E,sp vs H Q E->vs.length=ps.length
 run:∀(A:Ej) (outer:List Env) (s:Bc) (H:Hp) (args:Args) (us:List Aj) (vs:List V) (Q:VK) (E:XK),iJ k A->abr P w K mg base A outer s H->BindsTo s fd args (ps.zip us)->Cg vs us->sp vs H Q E ->
  Qt (Cq P w) A (.call (.ref f) args) (ajA CX A.handled outer P w H s Q E) s
variable {CX:Vv}{base:Heap}{sp:Sp}{mg:Str->Option Aj}{fd:Nu}
def lE.mono {P w K}{mg base CX}{j k f fd}{ps sp}(F:lE P w K mg base CX j f fd ps sp)(h:j<=k) :
  lE P w K mg base CX k f fd ps sp:={F.len,λA outer s H G us J Q E O=>F.run A outer s H G us J Q E (O.mono h)}
def lE.imp {ps sp'}(F:lE P w K mg base CX k f fd ps sp)
  (h:∀vs H Q E,sp' vs H Q E->sp vs H Q E):lE P w K mg base CX k f fd ps sp':=
 {λvs H Q E q=>F.len vs H Q E (h _ _ _ _ q),λA outer s H G us vs Q E O U Y J hs=>F.run A outer s H G us vs Q E O U Y J (h _ _ _ _ hs)}
variable {outer:List Env}
def abr.make {s}(e:abr P w K mg base A outer s H)(C)(us)(kw):
  abr P w K mg base (A.under (.builtin "type.__call__" ⟨.ref C::us,kw⟩)) outer s H:={by first|show e.frames|(simpa using _),e.mod,e.bs,e.bsz,e.funs,e.frf,e.hok,e.bare,e.qt}
section
variable {s:Bc}
def Bk.env0 (I:Bk X apn σ H s):abr X.prog X.w X.K X.mg X.base X.A X.stack s H:=
 {I.ok.frames,I.ok.mod,I.bs,K7 I.ok.bsz I.sz,I.stack,I.stkFree,I.hok,I.bare,I.qt0}
def Bk.after {Q}(I:Bk X apn σ H s)(h:CE X.stack X.prog X.w H s Q u s'):EP X apn σ Q u s':=by
 obtain⟨v,H',os,G,U,O,r,q⟩:=h;obtain⟨hh,g,d,t,J⟩:=s';obtain rfl:J=s.os:=os;show{v,H',I.call U O G nofun,r,q}
end
abbrev YL (sp:Sp)(dvs:List V)(E:XK)(t:TA):TE:=fun σ H Q=>t σ H λvs H1=>sp (vs++dvs) H1 Q E
abbrev Binds (K:CQ)(fd:Nu)(ps:List Str)(ds:List Aj):Prop:=
 ∀(s:Bc) (us:List Aj),K.In s.heap->(us++ds).length=ps.length->BindsTo s fd ⟨us,[]⟩ (ps.zip (us++ds))
def Binds.all {ps}(h:∀us,us.length=ps.length->bindArgs fd ⟨us,[]⟩=pure (ps.zip us)):Binds K fd ps []:=λs us _ hl=>by
 rw[Zr]at hl|-
 show .of_eq<|h us hl
abbrev Passes (CX:Vv)(X:Cx)(E:XK):Prop:=∀(apn:List (Addr×Obj)) (σ:St) (H:Hp) (s:Bc) (e:Aj) (s':Bc),Bk X apn σ H s->CX X.A.handled X.stack H s E e s'->X.xe e s'
section
variable {ps:List Str}{dvs:List V}{ds:List Aj}{E:XK}{x m:Str}{p apos:Pos}
def X4 {s Q}{vs}(F:lE X.prog X.w X.K X.mg X.base CX k f fd ps sp)(U:iJ k X.A)(a:Binds X.K fd ps ds)(Y:Cg dvs ds)(O:Passes CX X E)
  (I:Bk X apn σ H s) (r:Cg vs us) (h:sp (vs++dvs) H Q E):CR (Cq X.prog X.w) X.A (call (.ref f) us) (EP X apn σ Q) X.xe s:=by
 have J:=r.append Y;show ZC<|Wc (F.run _ _ s H {us,[]} _ _ Q E U I.env0 (a s us I.kIn<|J.length ▸ F.len _ _ _ _ h) J h) λr s' G=>?_
 cases r with
 | error e=>show O apn σ H s e s' I G
 | ok fl=>
  cases fl with
  | ret u=>show I.after G
  | next|brk|cont=>show Uq G
def akI (F:lE X.prog X.w X.K X.mg X.base CX k f fd ps sp)(hr:iJ k X.A)(hg:Gl X x)(hm:X.mg x=AP (.ref f))(hk:Us X.K (.ref f)=true)(hb:Binds X.K fd ps ds)(hd:Cg dvs ds)(hx:Passes CX X E)
  (ha:PA X (e::es) t) (hdb:(x==("__debug__" : Str))=false:=by decide) (he:Dc (e::es) X.env=(false,eval e X.env)::Dc es X.env:=by rfl) (hpl:(Ku pos (Dc es X.env)).any (·.1)=false:=by rfl) :
  PE X (.Call (.Name x p) (e::es) [] pos) (YL sp dvs E t):=by
 intro apn s σ H Q I h;show Vm<|nC I hg hm (PySem.W.callWith_K I.ok.mod.kin hk (Eu (ha pos apn s σ H _ I h) λus s1 a=>by obtain⟨vs,H1,I1,r,q⟩:=a;show {I1.kIn,(X4 F hr hb hd hx I1 r q)}) he hpl) hdb
def ajP (F:lE X.prog X.w X.K X.mg X.base CX k f fd ps sp)(hr:iJ k X.A)(hg:Gl X x)(hm:X.mg x=AP (.ref f))(hk:Us X.K (.ref f)=true)(hb:Binds X.K fd ps ds)(hd:Cg dvs ds)(hx:Passes CX X E)
  (hdb:(x==("__debug__" : Str))=false:=by decide):PE X (.Call (.Name x p) [] [] pos) (YL sp dvs E ahC):=by
 intro apn s σ H Q I h;show Vm<|nC I hg hm (PySem.W.callWith_K0 I.kIn hk<|X4 F hr hb hd hx I .nil h) hdb
end
variable {apos:Pos}
section
variable {ps ks:List Str}{E:XK}{x m:Str}{p kpos:Pos}{kws:List SM}{te:TE}{tk:TA}{nm:Option Str}
variable {g:List Aj->List Aj->List Aj}{gV:List V->List V->List V}
end
structure iH (N P:List Str) (sc:Scope):Prop where
 kind:sc.kind=.function
 co:sc.isCoroutine=false
 gen:sc.isGenerator=false
 nd:N.Nodup
 pre:N.take P.length=P
 par:∀x∈P,sc.names.lookup x=AP .local\/sc.names.lookup x=AP .cell
 nofree:∀y∈sc.names,y.2≠.free
def Bs {J x}:∀{G m},(∀v,(x,v)∉G)->bindL J G m x=m x
 | [],_,_=>rfl
 | (n,v)::r,m,h=>by
  unfold bindL;rw[Bs λw O=>h w (T6 _ O)];split
  grind
  rfl
def CT {J x}:∀{G m},(∀v,(x,v)∉G)->bindC J G m x=m x
 | [],_,_=>rfl
 | (n,v)::r,m,h=>by
  unfold bindC;rw[CT λw O=>h w (T6 _ O)];split
  rfl;grind
def Ac {G x v}:∀{P:List Str}{vs}{i:Nat}{m},P.Nodup->P[i]?=AP x->vs[i]?=AP v->G x=AP .local ->
  bindL G (P.zip vs) m x=AP v
 | p::P,w::vs,0,m,J,h1,h2,O=>by
  simp at h1 h2;subst h1;subst h2;change bindL G ((p,w)::P.zip vs) m p=_;unfold bindL;rw[Bs λv U=>(V4.mp J).1 (List.of_mem_zip U).1,if_pos O];simp
 | p::P,w::vs,i+1,m,J,h1,h2,O=>by
  unfold bindL;show Ac (V4.mp J).2 (by simpa using h1) (by simpa using h2) O
def CJ {G x v}:∀{P:List Str}{vs}{i:Nat}{m},P.Nodup->P[i]?=AP x->vs[i]?=AP v->G x≠AP .local ->
  bindC G (P.zip vs) m x=AP v
 | p::P,w::vs,0,m,J,h1,h2,O=>by
  simp at h1 h2;subst h1;subst h2;change bindC G ((p,w)::P.zip vs) m p=_;unfold bindC;rw[CT λv U=>(V4.mp J).1 (List.of_mem_zip U).1,if_neg O];simp
 | p::P,w::vs,i+1,m,J,h1,h2,O=>by
  unfold bindC;show CJ (V4.mp J).2 (by simpa using h1) (by simpa using h2) O
abbrev start (N:List Str)(vs:List V):St:=vs.map AP++Kv (N.length-vs.length) Af
abbrev LC (CX:Vv)(P:Dm)(w:DX)(K:CQ)(mg:Str->Option Aj)(base:Heap)(N:List Str)(qual:Str)(scope:Scope)(f:Addr)(J:Aj)(A:Ej)(outer:List Env)(s:Bc)(H:Hp)(E:XK):Cx where
 prog:=P
 w:=w
 K:=K
 mg:=mg
 base:=base
 A:=A.deeper (Ua qual scope s.heap.objs.size f J)
 N:=N
 s₀:=s
 H₀:=H
 env:=Ua qual scope s.heap.objs.size f J
 outer:=outer
 stack:=Ua qual scope s.heap.objs.size f J::outer
 ex:=[]
 calm:=A.handled.isNone
 fn:=λ_=>true
 pn:=[]
 xe:=λe s'=>CR (Cq P w) (A.deeper (Ua qual scope s.heap.objs.size f J)) (leaving (Ua qual scope s.heap.objs.size f J) e) (λ_ G=>CX A.handled outer H s E e G) (λe' G=>CX A.handled outer H s E e' G) s'
def Hg {sc:Scope}{x}(h:sc.names.lookup x=AP .cell):∃c,(Nf n sc.names []).lookup x=AP c:=Option.isSome_iff_exists.mp (PySem.W.cellsFrom_some _ n [] (.inl h))
variable {scope:Scope}{qual:Str}
def aks {N ps d}{s s1 E}{vs}
  (S:iH N ps scope) (G:abr P w K mg base A outer s H) (hl:vs.length=ps.length) (r:Cg vs us)
  (x:InCallC s s.heap.objs.size (bindL (Ua qual scope s.heap.objs.size f d).kindOf (ps.zip us) λ_=>Af) (Nf (s.heap.objs.size+1) scope.names []) (bindC (Ua qual scope s.heap.objs.size f d).kindOf (ps.zip us) λ_=>Af) s1) :
  Bk (LC CX P w K mg base N qual scope f d A outer s H E) [] (start N vs) H s1:=by
 have m:=by have:=congrArg Uo S.pre;rw[U7]at this;lia
 obtain⟨h1,tk,rfl,j⟩:=x.done;have J:∀b:Addr,b∉(LC CX P w K mg base N qual scope f d A outer s H E).ex:=λb z=>absurd (show b∈([]:List Addr)from z) (by simp)
 show{{G.mod,S.kind,rfl,rfl,Em _,λy z c h1 h2=>?_,λy U=>?_,λy c _ h=>?_,Option.isNone_iff_eq_none.mp,G.qt,Around.frames_deeper G.frames,.inr ⟨rfl,rfl⟩,λb z=>absurd z (J b),G.bs,G.bsz,λb _ _=>J b,λb z=>absurd z (J b),G.funs,G.frf},
  rfl,G.bare,Un.kept j,{_,x.toInCall.ns,λi y v h1 h2 o=>?_},λy c h=>{_,x.cell y c h},G.hok.fresh (Em _),λy c h=>?_,λp Y=>absurd (show p∈([]:List _)from Y) (by simp),G.hok.kept j,?_}
 show name_of_addr x.apart (Wh h1)<|Wh h2
 rcases U with U|U
 show Hg U;show absurd rfl<|S.nofree _<|Wh U
 show Vb<|x.above y c<|Wh h
 ·have hi:i<vs.length:=by
   unfold start at h2;by_cases hi:i<vs.length
   show hi;rw[V9 (by simpa using hi),yu]at h2;split at h2<;>cases h2
  have n:vs[i]?=AP v:=by
   unfold start at h2;rw[Ut (by simpa using hi),Kh]at h2;cases e:vs[i]? with
   | none=>rw[e]at h2;cases h2
   | some a=>rw[e]at h2;cases h2;rfl
  obtain⟨u,g,l⟩:=r.get n;have Y:ps[i]?=AP y:=by
   rw[<-S.pre,List.getElem?_take_of_lt ⋯];show h1
  have O:=S.pre ▸ S.nd.sublist (List.take_sublist _ _);show{u,l,?_};rcases S.par y (T7 Y)with k|k
  show .inl {k,Ac O Y g k};obtain⟨c,e⟩:=Hg k;show .inr {.inl k,c,e,?_};have q:=x.cell y c e;rw[CJ O Y g (by change scope.names.lookup y≠_;rw[k];decide)]at q;show q
 show G.hok.fresh<|Vb<|x.above y c<|Wh h
 unfold start;change _=N.length;rw[Lp,Ds,Zv];lia
variable {od:Option Addr}
def abM {G}{C kV j z O ct M F}
  {m N ps sp}(R:K.lookup f=AP ⟨M,od,.func (YM name qual G body scope C kV j z F O ct),m⟩) (p:Zo K O qual=true) (S:iH N ps scope)
  (d:∀vs H Q E,sp vs H Q E->vs.length=ps.length)
  (c:∀A  (outer) (s) (H) (vs) (Q) (E),iJ k (A.deeper (Ua qual scope s.heap.objs.size f O))->sp vs H Q E ->
   ∃t,Qn (LC CX P w K mg base N qual scope f O A outer s H E) body t/\t {nx:=λ_ H'=>Q .non H',rt:=Q} (start N vs) H) :
  lE P w K mg base CX (k+1) f (YM name qual G body scope C kV j z F O ct) ps sp:=by
 show{d,λA outer s H D us vs Q E B i Z r g=>?_};have I:=i.mod.kin.keeps λb o e=>(i.bs b o e).1
 have Y:∀y∈ps.zip us,scope.names.lookup y.1=AP .local\/(scope.names.lookup y.1=AP .cell/\((Nf ((~~~s)+1) _ []).lookup y.1).isSome=true):=λa T=>by
  obtain⟨n,v⟩:=a;rcases S.par n (List.of_mem_zip T).1 with q|q
  show .inl q;show .inr {q,PySem.W.cellsFrom_some _ _ _<|.inl q}
 show codeAny_call_function B.depth (I _ _ R) rfl S.co S.gen rfl (PySem.W.codeRec_of I p)<|Z _ _ _ _<|wpAny_newFunctionEnv_cells S.kind Y λenv X L x=>?_
 subst X;show{(i.mod.nolimit.keeps λb o e=>(i.bs b o e).1).keeps x.toInCall.keep,codeAny_func ?_};obtain⟨t,ht,W⟩:=c A outer s H vs Q E (B.deeper _) g;show Li (ht [] L _ H _ (aks S i (d _ _ _ _ g) r x) W) (λfl s' hs=>?_) λe s' hs=>hs;have h:∀{U:St}{H':Hp}{v:V}{u:Aj},Bk (LC CX P w K mg base N qual scope f O A outer s H E) [] U H' s'->RelV v u->Q v H'->CE outer P w H s Q u s':=
  λ{U H' v u} J l q=>⟨v,H',J.os,J.bare,J.base,J.hok,l,q⟩
 cases fl with
 | ret u=>
  obtain⟨v,U,H',J,l,q⟩:=hs;show h J l q
 | next=>
  obtain⟨U,H',J,q⟩:=hs;show h (v:=V.non) J rfl q
 | brk|cont=>
  obtain⟨_,_,_,q⟩:=hs;show Uq q
section
variable {x:Str}{p:Pos}{id T:String}{r:List V->Hp->VK->Prop}
abbrev tCB (r:List V->Hp->VK->Prop)(t:TA):TE:=fun σ H Q=>t σ H λvs H1=>r vs H1 Q
def JF (hc:jC X (.builtin id) r)(hg:Gl X x)(hm:X.mg x=Af)(hv:Y9 x=AP (.builtin id))(ha:PA X (e::es) t)(hn:x ≠ "__name__":=by decide)(hdb:(x==("__debug__" : Str))=false:=by decide)
  (he:Dc (e::es) X.env=(false,eval e X.env)::Dc es X.env:=by rfl) (hpl:(Ku pos (Dc es X.env)).any (·.1)=false:=by rfl):PE X (.Call (.Name x p) (e::es) [] pos) (tCB r t):=by
 intro apn s σ H Q I h;show Vm<|pD I hg hm hv (PyProof.Rows.callWith_builtin1 (Eu (ha pos apn s σ H _ I h) λus s1 a=>by obtain⟨vs,H1,I1,r1,q1⟩:=a;show hc apn s1 σ H1 vs us Q I1 r1 q1) he hpl) hn hdb
def BW (hc:jC X (.type T) r)(hg:Gl X x)(hm:X.mg x=Af)(hv:Y9 x=AP (.type T))(ha:PA X (e::es) t)(hn:x ≠ "__name__":=by decide)(hdb:(x==("__debug__" : Str))=false:=by decide)
  (he:Dc (e::es) X.env=(false,eval e X.env)::Dc es X.env:=by rfl) (hpl:(Ku pos (Dc es X.env)).any (·.1)=false:=by rfl):PE X (.Call (.Name x p) (e::es) [] pos) (tCB r t):=by
 intro apn s σ H Q I h;show Vm<|pD I hg hm hv (Yr (Eu (ha pos apn s σ H _ I h) λus s1 a=>by obtain⟨vs,H1,I1,r1,q1⟩:=a;show hc apn s1 σ H1 vs us Q I1 r1 q1) he hpl) hn hdb
end
end L2
namespace HT
open PySem PyProof.Rows
section
open PySem.SeqAt
open PySem.AutoSeq1 (wpAny_loadPart')
open PySem.MeetsSeq PySem.MeetsSeq2 PySem.MeetsSeq3
end
section
variable {prog:Dm}{w:DX}{A:Ej}{E:Aj->Bc->Prop}{s:Bc}
def Z9 {t b}{vs ws}{Q}(ht:IsTup s.heap t vs.toArray)(k:IsTup s.heap b ws.toArray)(f:vs≠[])
  (h1:ws=[]->Q (.ref t) s) (h2:ws≠[]->Q (.ref s.heap.objs.size) {s with heap:=s.heap.push {cls:=.type "tuple",data:=.seq (vs++ws).toArray} })
  (hsz:vs.length+ws.length<=El):CR (Cq prog w) A (Ow .Add (.ref t) (.ref b)) Q E s:=by
 obtain⟨⟨cls,dd,data,sl⟩,U,j,n,i⟩:=ht;obtain⟨⟨h,O,d,J⟩,G,c,n2,a⟩:=k;subst j i c a;have e:vs.toArray++ws.toArray=(vs++ws).toArray:=by simp
 by_cases Y:ws=[]
 show concat_meets {_,U,rfl} {_,G,rfl} noFill_tuple_add seq_tuple_add PySem.F.slot_tuple_add PySem.F.entry_tuple_add (PySem.F.args_tuple_add_2 _ _)
  (tuple_addW1 t b _ _ n n2 dd O sl J (by simpa using f) (by simp[Y])) {U,G,h1 Y}
 show concat_meets {_,U,rfl} {_,G,rfl} noFill_tuple_add seq_tuple_add PySem.F.slot_tuple_add PySem.F.entry_tuple_add (PySem.F.args_tuple_add_2 _ _)
  (tuple_addW2 t b _ _ n n2 dd O sl J (by simpa using f) (by simpa using Y) hsz) {U,G,?_}
 simp_all
abbrev sIx (n d:Nat):Option Int->Nat
 | none=>d
 | some v=>if v<0 then(v+(n:Int)).toNat else min v.toNat n
def Hr (n d):sIx n d Af=d:=rfl
def PB (n d k:Nat):sIx n d (AP (k))=min k n:=rfl
def Nq (v)(n d:Nat):(if v<0 then max (v+(n:Int)) 0 else min v (n))=((sIx n d (AP v):Nat):Int):=by
 change _=(((if v<0 then(v+(n:Int)).toNat else min _ n):Nat):Int);grind
def ala (lo hi)(n:Nat):Builtin.Slice.sliceAdjust lo hi 1 (n)=(((sIx n 0 lo):Int),((sIx n n hi):Int)):=by
 show Prod.ext ?_ ?_
 ·cases lo with
  | none=>rfl
  | some v=>show Nq v n 0
 ·cases hi with
  | none=>rfl
  | some v=>show Nq v n n
def zaB (i j:Nat):Builtin.Slice.slicePlaces (i) (j) 1=j-i:=by
 unfold Builtin.Slice.slicePlaces;lia
def wG {v}{o}{Q}(p:IsPart v o)(h:Q o s):CR (Cq prog w) A (Builtin.Slice.slicePartIndex v) Q E s:=by
 cases p with
 | none=>show slicePart_none h
 | int i t=>show slicePart_int h
def jB {sl}{U O}{lo hi}{n:Nat}{Q}(hs:s.heap.IsSliceOf sl U O .none)(pl:IsPart U lo)(Y:IsPart O hi)
  (h:Q (((sIx n 0 lo):Int),1,sIx n n hi-sIx n 0 lo) s):CR (Cq prog w) A (Builtin.Slice.sliceApplied (.ref sl) (pure (n))) Q E s:=by
 obtain⟨os,G,a,J⟩:=hs;show BL<|BL<|Mv G J rfl<|BL<|Mv G J rfl<|BL<|Mv G J rfl<|DK ?_
 show BL<|slicePart_none ?_
 rw[if_neg ∅];show BL<|wG pl<|BL<|wG Y<|BL<|DK ?_
 change CR _ _ (match Builtin.Slice.sliceAdjust lo hi 1 _ with|(lo,hi)=>pure (lo,(1:Int),Builtin.Slice.slicePlaces lo hi 1)) _ _ s;rw[ala lo hi n];change CR _ _ (pure _) _ _ s;rw[zaB];show DK h
def als (xs:Array Aj)(i k:Nat):((Rb k).filterMap λ(m:Nat)=>xs[((i)+(m:Int)*1).toNat]?).toArray=((xs.toList.drop i).take k).toArray:=by
 have e:(λ(m:Nat)=>xs[((i:Int)+(m:Int)*1).toNat]?)=λm=>xs[i+m]?:=by
  funext m;have:((i:Int)+(m:Int)*1).toNat=i+m:=⋯
  rw[this]
 rw[e];have:=pick_run xs i k
 rw[List.filterMap_map]at this;have e2:((λx=>xs[x]?) ∘λx=>i+x)=λm=>xs[i+m]?:=rfl
 simp_all
def pX {t sl}{items a Y}{lo hi Q}(ht:IsTup s.heap t items)(hs:s.heap.IsSliceOf sl a Y .none)(pl:IsPart a lo)(c:IsPart Y hi)
  (d:¬(sIx items.size 0 lo=0/\sIx items.size items.size hi=items.size))
  (h:Q (.ref s.heap.objs.size) {s with heap:=s.heap.push {cls:=.type "tuple",data:=.seq ((items.toList.drop (sIx items.size 0 lo)).take (sIx items.size items.size hi-sIx items.size 0 lo)).toArray} })
  (hsz:items.size<=El):CR (Cq prog w) A (getItem (.ref t) (.ref sl)) Q E s:=by
 have G:=by
  change((items.toList.drop (sIx items.size 0 lo)).take (sIx items.size items.size hi-sIx items.size 0 lo)).toArray.size<=El;rw[Lf,U7,List.length_drop,vp];omega
 obtain⟨os,J,U,e⟩:=id hs;unfold getItem;try with_reducible show N7 (BL (wpAny_sequenceKey ht.typeIs ∅ ?_))
 show BL (Vj ht.typeIs Yt
  (Uh Yt ht.typeIs entry_tuple_getitem ?_ (args_tuple_getitem _ _)))
 change CR _ _ (Builtin.Tuple.tupleItemsOf _ >>= _) _ _ s;show BL<|tupleItemsOf_ ht<|BL<|YB ⟨os,J,U⟩<|BL<|jB hs pl c ?_
 have O:¬((((sIx items.size 0 lo:Nat):Int)==0&&(1:Int)==1&&(sIx items.size items.size hi-sIx items.size 0 lo)==items.size)=true):=by
  intro q;rw[V5,V5]at q;have g:=eq_of_beq q.1.1;have f:=eq_of_beq q.2;show d {by omega,by omega}
 change CR _ _ (if _=true then _ else _) _ _ s;rw[if_neg O,als];first
  | show BL (SX (BL (DK (DK {_,rfl,DK h}))) G)
end
end HT
namespace L2
open PySem PySem.Spec PyProof.Rows
@[reducible]noncomputable def TO:=St->Hp->(Option Int->Hp->Prop)->Prop
abbrev PO (X:Cx)(e:Option Expr)(t:TO):Prop:=
 ∀(apn:List (Addr×Obj)) (s:Bc) (σ:St) (H:Hp) (Q:Option Int->Hp->Prop),Bk X apn σ H s->t σ H Q ->
  CR (Cq X.prog X.w) X.A (evalPart e X.env) (λu s'=>∃o H',Bk X apn σ H' s'/\IsPart u o/\Q o H') X.xe s
abbrev aaF:TO:=λ_ H Q=>Q Af H
abbrev af9 (t:TE):TO:=fun σ H Q=>t σ H λx H1=>∃i,x=.int i/\Q (AP i) H1
section
variable {X:Cx}{e:Expr}{te:TE}{lo hi:Option Expr}{tl th:TO}{pos p2:Pos}
def amP:PO X Af aaF:=by
 intro apn s σ H Q I h;show DK {Af,H,I,.none,h}
def anl (h:PE X e te):PO X (AP e) (af9 te):=by
 intro apn s σ H Q I O;show Eu (h apn s σ H _ I O) λu Y a=>?_;obtain⟨x,H1,U,G,J⟩:=a;obtain⟨i,rfl,q⟩:=J;obtain⟨t,rfl⟩:=G;show{AP i,H1,U,.int i t,q}
abbrev Vp (X:Cx)(r:V->Option Int->Option Int->Hp->VK->Prop):Prop:=
 ∀(apn:List (Addr×Obj)) (s:Bc) (σ:St) (H:Hp) (x:V) (v J G:Aj) (lo hi:Option Int) (sl:Addr) (Q:VK),Bk X apn σ H s->RelV x v->s.heap.IsSliceOf sl J G .none->IsPart J lo->IsPart G hi->r x lo hi H Q ->
  ∃T id,YC (.type T) "__getitem__" = pure (AP (.builtin id))/\s.TypeIs v T/\CR (Cq X.prog X.w) X.A (getItem v (.ref sl)) (EP X apn σ Q) X.xe s
def Vp.or {r U}(h:Vp X r)(h':Vp X U):Vp X (λx lo hi H Q=>r x lo hi H Q\/U x lo hi H Q):=by
 intro apn s σ H x v J G lo hi sl Q I O hs pl Y q;rcases q with q|q
 show h apn s σ H x v J G lo hi sl Q I O hs pl Y q;show h' apn s σ H x v J G lo hi sl Q I O hs pl Y q
abbrev tSl (r:V->Option Int->Option Int->Hp->VK->Prop)(te:TE)(tl th:TO):TE:=fun σ H Q=>te σ H λx H1=>tl σ H1 λl H2=>th σ H2 λu G=>r x l u G Q
def zbU {r}(i:Vp X r)(k:PE X e te)(hl:PO X lo tl)(g:PO X hi th):PE X (.Subscript e (.Slice lo hi Af p2) pos) (tSl r te tl th):=by
 intro apn s σ H Q I h;show Subscript_<|Eu (k apn s σ H _ I h) λv Y ⟨x,H1,p,a,d⟩=>(wpAny_Slice<|Eu (hl apn Y σ H1 _ p d) λvl U ⟨l,H2,o,pl,c⟩=>Eu (g apn U σ H2 _ o c) λvu J ⟨u,O,n,f,b⟩=>(DK ?_))
 have m:Bk X apn σ O {J with heap:=J.heap.push {cls:=.type "slice",data:=.fields #[vl,vu,.none]} }:=n.kept λb t q=>FW _ q
 obtain⟨T,id,hT,ht,j⟩:=i apn {J with heap:=J.heap.push {cls:=.type "slice",data:=.fields #[vl,vu,.none]} } σ O x v vl vu l u _ Q m a (Heap.IsSliceOf.new ..) pl f b;show tail_any ht hT j<|by with_unfolding_all rfl
abbrev YD (xs:List V)(lo hi:Option Int):List V:=(xs.drop (HT.sIx xs.length 0 lo)).take (HT.sIx xs.length xs.length hi-HT.sIx xs.length 0 lo)
def sG (xs)(lo hi):(YD xs lo hi).length<=xs.length:=by
 unfold YD;rw[U7,List.length_drop];lia
abbrev aiC (K:CQ):V->Option Int->Option Int->Hp->VK->Prop:=λx lo hi H Q=>∃a xs,x=.ref a/\KJ K H a xs /\
 ¬(HT.sIx xs.length 0 lo=0/\HT.sIx xs.length xs.length hi=xs.length)/\∀p,H p=Af->Q (.ref p) (Dn H p (.tup (YD xs lo hi)))
def adf:Vp X (aiC X.K):=by
 intro apn s σ H x v d c lo hi sl Q I J hs pl O h;obtain⟨a,xs,rfl,Y,b,q⟩:=h;cases J;obtain⟨its,r,ht,U⟩:=I.tuple Y;have G:its.toArray.size=xs.length:=r.length.symm;show{"tuple",_,Yt.lookup,ht.typeIs,(HT.pX ht hs pl O (G ▸ b) ?_<|by rwa[G])};rw[G];show{.ref _,_,I.laid (λb e q=>FW _ q) (Em _) ?_,rfl,q _<|I.hok.fresh<|Em _};show{K7 (sG xs lo hi) U,_,(r.drop _).take _,Sv.new _ _}
abbrev agb (K:CQ):R2:=λx y H Q=>∃a b xs ys,x=.ref a/\y=.ref b/\KJ K H a xs/\KJ K H b ys/\xs≠[]/\xs.length+ys.length<=El /\
 (ys=[]->Q (.ref a) H)/\(ys≠[]->∀p,H p=Af->Q (.ref p) (Dn H p (.tup (xs++ys))))
def Cg.nil_iff {xs}{us}(r:Cg xs us):us=[]↔xs=[]:=by
 cases r with
 | nil|cons _ _=>simp
def alI:Mg X (Ow .Add) (agb X.K):=by
 intro apn s σ H x y v u Q I c Y h;obtain⟨a,b,xs,ys,rfl,rfl,j,i,g,U,e,d⟩:=h;cases c;cases Y;obtain⟨its,J,f,_⟩:=I.tuple j;obtain⟨O,G,p2,_⟩:=I.tuple i;show HT.Z9 f p2 (λz=>g<|J.nil_iff.mp z) (λz=>{.ref a,H,I,rfl,e<|G.nil_iff.mp z}) (λz=>?_) (by rw[<-J.length,<-G.length];show U);show{.ref _,_,I.laid (λb k q=>FW _ q) (Em _) ?_,rfl,d (λw=>z<|G.nil_iff.mpr w) _<|I.hok.fresh<|Em _};show{Lp ▸ U,_,J.append G,Sv.new _ _}
end
abbrev TX (n:Nat)(i:Int):Option Nat:=if 0<=i then(if i<n then AP i.toNat else Af)else if -(n:Int)<=i then AP (i+n).toNat else Af
abbrev Np {α:Type}(xs:List α)(i:Int):Option α:=(TX xs.length i).bind λj=>xs[j]?
def Ou {n i j}(h:TX n i=AP j):seqIndex? i n=AP j/\j<n/\-(n)<=i/\i<n:=by
 unfold TX at h;by_cases G:0<=i
 rw[if_pos G]at h;by_cases h1:i<n
 rw[if_pos h1]at h;have e:=Ky h;show{by rw[seqIndex_of G h1,e],⋯,⋯,h1};simp_all
 rw[if_neg G]at h;by_cases h1:-(n:Int)<=i
 rw[if_pos h1]at h;have e:=Ky h;show{by rw[seqIndex_neg ⋯ h1,e],⋯,h1,⋯};simp_all
def DP {G}{xs i}{v:G}(h:Np xs i=AP v):∃j,seqIndex? i xs.length=AP j/\xs[j]?=AP v/\j<xs.length/\-(xs.length:Int)<=i/\i<xs.length:=by
 unfold Np at h;cases e:TX _ i with
 | none=>rw[e]at h;cases h
 | some j=>
  rw[e]at h;obtain⟨h1,h2,O,J⟩:=Ou e;simp_all
def bR {G}{xs}{j:Nat}{v:G}(h:xs[j]?=AP v):Np xs (j)=AP v:=by
 have hj:=(Qc.mp h).1;have e:TX xs.length (j:Int)=AP j:=by
  unfold TX;simp_all
 unfold Np;rw[e];show h
def zbG {G}(xs)(v:G):Np (xs++[v]) (-1)=AP v:=by
 have hl:(xs++[v]).length=xs.length+1:=by simp
 have e:TX (xs++[v]).length (-1)=AP xs.length:=by
  unfold TX;rw[if_neg ∅,if_pos ⋯];congr 1
  lia
 unfold Np;rw[e];simp
abbrev Fb (b:Expr):Prop:=∀o i,subscripted b false o i=operate [o,i] (getItem o i)
abbrev Y0 (X:Cx)(r:R2):Prop:=
 ∀(value G:Expr) (apn:List (Addr×Obj)) (s:Bc) (σ:St) (H:Hp) (x y:V) (v u:Aj) (Q:VK),Bk X apn σ H s->RelV x v->RelV y u->r x y H Q ->
  subscripted G false v u=operate [v,u] (getItem v u)->CR (Cq X.prog X.w) X.A (subscriptTail value G v u) (EP X apn σ Q) X.xe s
abbrev MtR (X:Cx)(id:String)(r:V->List V->Hp->VK->Prop):Prop:=
 ∀(apn:List (Addr×Obj)) (s:Bc) (σ:St) (H:Hp) (x:V) (xs:List V) (v:Aj) (us:List Aj) (Q:VK),Bk X apn σ H s->RelV x v->Cg xs us->r x xs H Q ->
  CR (Cq X.prog X.w) X.A (call (.builtin id) (v::us)) (EP X apn σ Q) X.xe s
section
variable {X:Cx}{a b:Expr}{ta tb:TE}{pos:Pos}
def Y0.or {r U}(h:Y0 X r)(h':Y0 X U):Y0 X (λx y H Q=>r x y H Q\/U x y H Q):=by
 intro value G apn s σ H x y v u Q I O J q hs;rcases q with q|q
 show h value G apn s σ H x y v u Q I O J q hs;show h' value G apn s σ H x y v u Q I O J q hs
def ags {r}(U:Y0 X r)(c:PE X a ta)(Y:PE X b tb)(hs:Fb b):PE X (.Subscript a b pos) (tOp r ta tb):=by
 intro apn s σ H Q I h;show Subscript_<|ahb c Y I h λv u G x y H2 d O J q=>U a b apn G σ H2 x y v u Q d O J q<|hs _ _
abbrev ahV (K:CQ):R2:=λx y H Q=>∃p xs i v,x=.ref p/\y=.int i/\Kr K H p xs/\Np xs i=AP v/\Q v H
abbrev ahq (K:CQ):R2:=λx y H Q=>∃p xs i v,x=.ref p/\y=.int i/\KJ K H p xs/\Np xs i=AP v/\Q v H
abbrev ahr:R2:=λx y H Q=>∃z i c,x=.str z/\y=.int i/\z.length<=El/\Np z.cps.toList i=AP c/\Q (.str ⟨#[c]⟩) H
def alw:Y0 X (ahV X.K):=by
 intro value J apn s σ H x y v u Q I b a h hs;obtain⟨p,xs,i,z,rfl,rfl,c,d,q⟩:=h;cases b;obtain⟨t,rfl⟩:=a;obtain⟨its,r,pl,g⟩:=I.list c;obtain⟨j,h1,h2,l,f,e⟩:=DP d;obtain⟨w,Y,O⟩:=r.get h2;have hl:=r.length;have k:=tL;have G:EP X apn σ Q w s:=⟨z,H,I,O,q⟩
 by_cases U:0<=i
 have hj:=by
  rw[seqIndex_of U e]at h1;show Ky h1
 show item_listR pl.isList U ⋯ (by rw[hj];simpa using Y) G hs;have hj:(i+(its.toArray.size:Int)).toNat=j:=by
  rw[seqIndex_neg ⋯ f]at h1;simp_all
 show subscriptTail_builtinR pl.isList.typeIs slot_list_getitem.lookup
  (wpAny_getItem_list_neg pl.isList ⋯ (by rw[Lf]<;>lia) ⋯ (by rw[hj];simpa using Y) ⟨rfl,G⟩) hs
def ad6:Y0 X (ahq X.K):=by
 intro value G apn s σ H x y v u Q I U O h hs;obtain⟨p,xs,i,z,rfl,rfl,Y,a,q⟩:=h;cases U;obtain⟨t,rfl⟩:=O;obtain⟨its,r,pl,c⟩:=I.tuple Y;obtain⟨j,h1,h2,g,f,e⟩:=DP a;obtain⟨w,b,J⟩:=r.get h2;have d:=tL;show subscriptTail_builtinR pl.typeIs slot_tuple_getitem.lookup
  (getItem_tuple pl ⋯ ⋯ (by rw[Lf,<-r.length];show h1) (by simpa using b) ⟨rfl,z,H,I,J,q⟩) hs
def adN:Y0 X ahr:=by
 intro value G apn s σ H x y v u Q I O J h hs;obtain⟨z,i,c,rfl,rfl,d,U,q⟩:=h;obtain⟨t,rfl⟩:=O;obtain⟨b,rfl⟩:=J;obtain⟨j,h1,h2,f,a,Y⟩:=DP U;have hl:z.cps.toList.length=z.length:=by simp[Str.length]
 rw[hl]at h1 a Y;have e:=tL;show tail_any (typeIs_str s z t) slot_str_getitem.lookup (getItem_str (by
  rw[(decide_eq_false ⋯),(decide_eq_false ⋯),Bool.or_false]) (by rw[h1];simpa using h2) {.str {#[c]},H,I.tok _,{_,rfl},q}) hs
abbrev rIx (K:CQ):R2:=λx y H Q=>ahV K x y H Q\/ahq K x y H Q\/ahr x y H Q
def aeJ:Y0 X (rIx X.K):=alw.or (ad6.or adN)
def ajj (its:List Aj)(n j)(u):Yw (·.setIfInBounds j u) {cls:=.type "list",data:=.seq its.toArray n}={cls:=.type "list",data:=.seq (its.set j u).toArray n}:=by
 simp[Yw]
def Bk.lst {apn}{σ:St}{H s}{p}{xs}(I:Bk X apn σ H s)(h:H p=AP (.lst xs)) :
  ∃(its:List Aj) (n:Nat),Cg xs its/\s.heap.get? p=AP {cls:=.type "list",data:=.seq its.toArray n}/\xs.length<=El:=by
 obtain⟨z,its,n,r,e⟩:=I.hok p _ h;simp_all
def Bk.lstUpd {apn}{σ:St}{H s}{p}{xs ys}{its G:List Aj}{n J}{f}(I:Bk X apn σ H s)(h:H p=AP (.lst xs))
  (Y:s.heap.get? p=AP {cls:=.type "list",data:=.seq its.toArray n}) (O:f {cls:=.type "list",data:=.seq its.toArray n}={cls:=.type "list",data:=.seq G.toArray J}) (r:Cg ys G) (hz:ys.length<=El) (t) :
  Bk X apn σ (Dn H p (.lst ys)) {s with heap:=s.heap.update p f,toks:=t}:=by
 have e:(s.heap.update p f).get? p=AP {cls:=.type "list",data:=.seq G.toArray J}:=by
  rw[R7 f Y (by rw[O]<;>rfl),O]
 show I.write (by rw[h];trivial) (.inl rfl) (λb u a q=>(Ql _ _<|Ke a).trans q) {_,e} ?_;show⟨hz,G,J,r,e⟩
abbrev ab4:V->V->V->Hp->(Hp->Prop)->Prop:=λo i v H Q=>∃p xs k j,o=.ref p/\i=.int k/\H p=AP (.lst xs)/\TX xs.length k=AP j/\Q (Dn H p (.lst (xs.set j v)))
def set_list:ael X ab4:=by
 intro apn s σ H o i v e f u Q I ro d c h;obtain⟨p,xs,k,j,rfl,rfl,O,hj,q⟩:=h;cases ro;obtain⟨t,rfl⟩:=d;obtain⟨its,n,r,G,g⟩:=I.lst O;obtain⟨h1,h2,Y,U⟩:=Ou hj;have hl:=r.length;have l:=tL;have b:=
  I.lstUpd O G (ajj its n j u) (r.set c j) (by rwa[Zt]) s.toks
 by_cases a:0<=k
 have J:=by
  rw[seqIndex_of a U]at h1;show Ky h1
 show PySem.W.ki_setAt G a ⋯ (by rw[Lf,<-hl];show U)<|J ▸ {_,b,q}
 have J:(k+(its.toArray.size:Int)).toNat=j:=by
  rw[seqIndex_neg ⋯ Y]at h1;simp_all
 show PySem.W.ki_setBack G ⋯ (by rw[Lf,<-hl];show Y) ⋯<|J ▸ {_,b,q}
def zah (lo hi)(n):(Z0 lo hi Af n).1=((HT.sIx n 0 lo:Nat):Int)/\(Z0 lo hi Af n).2.1=((HT.sIx n n hi:Nat):Int)/\(Z0 lo hi Af n).2.2=1:=by
 show{?_,?_,rfl}
 ·cases lo with
  | none=>simp[Z0,HT.sIx]
  | some i=>
   simp[Z0,HT.sIx];grind
 ·cases hi with
  | none=>simp[Z0,HT.sIx]
  | some i=>
   simp[Z0,HT.sIx];grind
def anc (its:List Aj)(lo hi):slicePick its.toArray lo hi Af=((its.drop (HT.sIx its.length 0 lo)).take (HT.sIx its.length its.length hi-HT.sIx its.length 0 lo)).toArray:=by
 obtain⟨h1,h2,G⟩:=zah lo hi _;unfold slicePick;rw[h1,h2,G];simp only[sliceRange_one,pick_run]<;>rfl
abbrev aiv (K:CQ):V->Option Int->Option Int->Hp->VK->Prop:=λx lo hi H Q=>∃a xs,x=.ref a/\Kr K H a xs/\∀p,H p=Af->Q (.ref p) (Dn H p (.lst (YD xs lo hi)))
def alF:Vp X (aiv X.K):=by
 intro apn s σ H x v c b lo hi sl Q I J hs pl O h;obtain⟨a,xs,rfl,Y,q⟩:=h;cases J;obtain⟨its,r,ht,U⟩:=I.list Y;have G:=r.length;show{"list",_,slot_list_getitem.lookup,ht.isList.typeIs,?_};show wpAny_getItem_list_slice ht.isList hs pl O .none (by simp) ?_ (by rw[Lf]<;>lia);rw[anc,<-G];show{.ref _,_,I.laid (λb d q=>FW _ q) (Em _) ?_,rfl,q _<|I.hok.fresh<|Em _};show{K7 (sG xs lo hi) U,_,0,(r.drop _).take _,Kf _ rfl}
abbrev Q9:V->Bool
 | .non=>true
 | .bl _=>true
 | .int _=>true
 | .str _=>true
 | _=>false
abbrev eqV:V->V->Bool
 | .non,.non=>true
 | .bl a,.bl b=>a==b
 | .bl a,.int b=>(if a then 1 else 0)==b
 | .int a,.bl b=>a==(if b then 1 else 0)
 | .int a,.int b=>a==b
 | .str a,.str b=>a==b
 | _,_=>false
def adu {A s}{y x}{u v}(O:RelV y u)(G:RelV x v)(Y:Q9 y=true)(U:Q9 x=true):Ys A s u v (eqV y x):=by
 cases y with
 | non=>
  cases O;cases x with
  | non=>cases G;show SeqAt.EqAt.same _
  | bl b=>cases G;show SeqAt.EqAt.none_bool b
  | int b=>obtain⟨t,rfl⟩:=G;show SeqAt.EqAt.none_int b t
  | str b=>obtain⟨t,rfl⟩:=G;show SeqAt.EqAt.none_str b t
  | _=>show absurd (show false=true from U) T4
 | bl a=>
  cases O;cases x with
  | non=>cases G;show SeqAt.EqAt.bool_none a
  | bl b=>cases G;show SeqAt.EqAt.bool_bool a b
  | int b=>obtain⟨t,rfl⟩:=G;show SeqAt.EqAt.bool_int a b t
  | str b=>obtain⟨t,rfl⟩:=G;show SeqAt.EqAt.bool_str a b t
  | _=>show absurd (show false=true from U) T4
 | int a=>
  obtain⟨J,rfl⟩:=O;cases x with
  | non=>cases G;show SeqAt.EqAt.int_none a J
  | bl b=>cases G;show SeqAt.EqAt.int_bool a J b
  | int b=>obtain⟨t,rfl⟩:=G;show SeqAt.EqAt.int_int a J b t
  | str b=>obtain⟨t,rfl⟩:=G;show SeqAt.EqAt.int_str a J b t
  | _=>show absurd (show false=true from U) T4
 | str a=>
  obtain⟨J,rfl⟩:=O;cases x with
  | non=>cases G;show SeqAt.EqAt.str_none a J
  | bl b=>cases G;show SeqAt.EqAt.str_bool a J b
  | int b=>obtain⟨t,rfl⟩:=G;show SeqAt.EqAt.str_int a J b t
  | str b=>obtain⟨t,rfl⟩:=G;show SeqAt.EqAt.str_str a J b t
  | _=>show absurd (show false=true from U) T4
 | _=>show absurd (show false=true from Y) T4
def zae:jC X (.builtin "len") (λxs H Q=>∃p ys,xs=[.ref p]/\(Kr X.K H p ys\/KJ X.K H p ys)/\Q (.int ys.length) H):=by
 intro apn s σ H xs us Q I r h;obtain⟨p,ys,rfl,J,q⟩:=h;obtain⟨u,rfl,U⟩:=vals1 r;cases U;have a:=tL;rcases J with J|J
 obtain⟨its,O,pl,Y⟩:=I.list J;have G:=O.length;show Calls.call_len_list pl.isList (by simp<;>lia) {.int _,H,I.tok _,{s.toks+1,by rw[Lf,G]},q};obtain⟨its,O,pl,Y⟩:=I.tuple J;have G:=O.length;show len_tuple pl (by simp<;>lia) {.int _,H,I.tok _,{s.toks+1,by rw[Lf,G]},q}
def ajb:jC X (.type "list") (λxs H Q=>∃p ys,xs=[.ref p]/\(Kr X.K H p ys\/KJ X.K H p ys)/\∀l,H l=Af->Q (.ref l) (Dn H l (.lst ys))):=by
 intro apn s σ H xs us Q I r h;obtain⟨p,ys,rfl,Y,q⟩:=h;obtain⟨u,rfl,t⟩:=vals1 r;cases t;have a:∀(its:List Aj),Cg ys its->ys.length<=El->∀(h':Heap) (J:Nat),(∀b o',s.heap.get? b=AP o'->h'.get? b=AP o') ->
   h'.get? (~~~s)=AP {cls:=.type "list",dict:=Af,data:=.seq _ J,slots:=#[]}->EP X apn σ Q _ {s with heap:=h'}:=λits G U h' J O e=>
  {.ref _,_,I.laid O (Em _) (show fG _ _ _ h' _ (.lst ys)from⟨U,its,J,G,e⟩),rfl,q _ (I.hok.fresh (Em _))}
 rcases Y with Y|Y
 obtain⟨its,G,pl,U⟩:=I.list Y;have i:=G.length;obtain⟨o,d,g,n,f⟩:=pl.isList;show call_list_seq p (.inl rfl) d g f (λh' J O e=>a its G U h' J O e) (by simp<;>lia);obtain⟨its,G,pl,U⟩:=I.tuple Y;have i:=G.length;obtain⟨o,d,g,n,f⟩:=pl;show call_list_seq p (.inr rfl) d g f (λh' J O e=>a its G U h' J O e) (by simp<;>lia)
def amO:jC X (.type "tuple") (λxs H Q=>∃p ys,xs=[.ref p]/\((Kr X.K H p ys/\∀l,H l=Af->Q (.ref l) (Dn H l (.tup ys)))\/(KJ X.K H p ys/\Q (.ref p) H))):=by
 intro apn s σ H xs us Q I r h;obtain⟨p,ys,rfl,h⟩:=h;obtain⟨u,rfl,Y⟩:=vals1 r;cases Y;rcases h with⟨J,q⟩|⟨J,q⟩
 obtain⟨its,G,pl,O⟩:=I.list J;have b:=G.length;show call_tuple_list pl.isList (λh' a=>?_) (by simp<;>lia);have U:=I.kept (t':=s.toks) a;have c:=
  U.laid (t':=s.toks) (λb o e=>FW _ e) (Em _) (show fG _ _ _ _ _ (.tup ys)from{O,its,G,Sv.new _ _})
 show{.ref _,_,c,rfl,q _<|U.hok.fresh<|Em _};obtain⟨its,G,pl,O⟩:=I.tuple J;show call_tuple_same pl {.ref p,H,I,rfl,q}
abbrev tyV (K:CQ)(T:String)(x:V)(H:Hp):Prop:=match x with
 | .str _=>T = "str"
 | .int _=>T = "int"
 | .ref p=>(T = "list"/\∃xs,Kr K H p xs)\/(T = "tuple"/\∃o,K.lookup p=AP o/\o.cls=.type "tuple"/\o.dict=Af) \/
   (T = "dict"/\((∃kvs,H p=AP (.dK kvs))\/∃kvs,H p=AP (.dT kvs)))\/(T = "set"/\∃S n,H p=AP (.set S n))
 | _=>False
def acX {apn}{σ:St}{H s}{T x}{v}(I:Bk X apn σ H s)(r:RelV x v)(ty:tyV X.K T x H):
  s.TypeIs v T/\∀a,v=.ref a->∃J,s.heap.get? a=AP J/\J.dict=Af:=by
 cases x with
 | str z=>
  obtain⟨t,rfl⟩:=r;cases ty;show{typeIs_str s z t,nofun}
 | int i=>
  obtain⟨t,rfl⟩:=r;cases ty;show{typeIs_int s i t,nofun}
 | ref p=>
  cases r;rcases ty with⟨rfl,xs,U⟩|⟨rfl,o,G,Y,O⟩|⟨rfl,G⟩|⟨rfl,S,n,G⟩
  obtain⟨its,_,pl,_⟩:=I.list U;show{pl.isList.typeIs,λa e=>?_};cases e;obtain⟨o,n,e,c,O,_⟩:=pl
  simp_all
  show{{o,I.kIn p o G,Y},λa e=>?_};cases e;show{o,I.kIn _ o G,O};have z:∃o,s.heap.get? p=AP o/\o.ExactDict:=by
   rcases G with⟨kvs,G⟩|⟨kvs,G⟩
   obtain⟨_,_,_,_,o,_,_,e,ex,_⟩:=I.hok p _ G
   simp_all
   obtain⟨_,_,_,_,o,_,_,e,ex,_⟩:=I.hok p _ G;simp_all
  obtain⟨o,e,ex⟩:=z;show{⟨o,e,ex.1⟩,λa e2=>?_};cases e2;show⟨o,e,ex.2.1⟩;obtain⟨o,_,_,_,e,ex,_⟩:=I.hok p _ G;show{⟨o,e,ex.1⟩,λa e2=>?_};cases e2;show⟨o,e,ex.2.1⟩
 | _=>show Uq ty
abbrev tBM (K:CQ)(T:String)(r:V->List V->Hp->VK->Prop)(to:TE)(t:TA):TE:=fun σ H Q=>to σ H λx H1=>tyV K T x H1/\t σ H1 λxs H2=>r x xs H2 Q
variable {o e:Expr}{es:List Expr}{to:TE}{t:TA}{name:Str}{apos apq:Pos}{T id:String}{r:V->List V->Hp->VK->Prop}
def ag5 (pa:PlainAttrs T)(slot:Slot T name id)(hty:typeOf (.builtin id)=pure (.type "method_descriptor"))(hm:MtR X id r)(ho:PE X o to)(ha:PA X (e::es) t)
  (hbase:Yb o name X.env (eval o X.env)=eval o X.env:=by rfl)
  (hfew:((Ku apq (Dc (e::es) X.env)).all (λx=>!x.1)&&(backToKw apq (Ye [] X.env)).all (λx=>x.1.isSome)
   && decide ((e::es).length+([]:List SM).length+(if([]:List SM).isEmpty then 0 else 1)<30))=true:=by rfl)
  (hline:(apos.endLine==apq.line)=true:=by rfl) (hs:Dc (e::es) X.env=(false,eval e X.env)::Dc es X.env:=by rfl) (hplain:(Ku apq (Dc es X.env)).any (·.1)=false:=by rfl) :
  PE X (.Call (.Attribute o name apos) (e::es) [] apq) (tBM X.K T r to t):=by
 intro apn s σ H Q I h;show wpAny_Call_method_late hbase hfew hline rfl<|Eu (ho apn s σ H _ I h) λv s1 a=>?_;obtain⟨x,H1,I1,r1,ty,q1⟩:=a
 obtain⟨h1,h2⟩:=acX I1 r1 ty;show{T,id,pa,slot,hty,h1,h2,?_};have hA:=ha apq apn s1 σ H1 _ I1 q1;rw[hs]at hA|-
 show Calls.callWith_builtin (by change(false||(Ku apq<|Dc es X.env).any (·.1))=false;rw[hplain]<;>rfl)<|rR ?_
 show Eu hA λus s2 b=>by obtain⟨vs,H2,I2,r2,q2⟩:=b;show hm apn s2 σ H2 x vs v us Q I2 r1 r2 q2
end
abbrev MtM (X:Cx)(id:String)(r:V->List V->Hp->VK->Prop):Prop:=
 ∀(apn:List (Addr×Obj)) (s:Bc) (σ:St) (H:Hp) (x:V) (xs:List V) (v:Aj) (us:List Aj) (Q:VK),Bk X apn σ H s->RelV x v->Cg xs us->r x xs H Q ->
  CR (Cq X.prog X.w) X.A (call (.builtin id) (v::us)) (EP X apn σ Q) X.xe s
def Cg.one:∀{x}{us},Cg [x] us->∃u,us=[u]/\RelV x u
 | _,_,.cons r .nil=>{_,rfl,r}
def Cg.rep {xs}{us}(h:Cg xs us):∀k,Cg (Kv k xs).flatten (Kv k us).flatten
 | 0=>.nil
 | k+1=>Cg.append h (Cg.rep h k)
def foldl_rep (its):∀k  (acc:List Aj),
  List.foldl (λx1 G=>x1++G) acc.toArray (Kv k its.toArray)=(acc++(Kv k its).flatten).toArray
 | 0,acc=>by simp
 | k+1,acc=>by
  have e:acc.toArray++its.toArray=(acc++its).toArray:=by simp
  have e2:(acc++its)++(Kv k its).flatten=acc++(Kv (k+1) its).flatten:=by
   grind
  rw[<-e2,<-foldl_rep its k _,<-e,List.replicate_succ,ZJ]
section
variable {X:Cx}{apn:List (Addr×Obj)}{σ:St}{H:Hp}{s:Bc}{l b:Addr}{xs ys zs:List V}
def Bk.lset {its G:List Aj}{n}{f t'}(I:Bk X apn σ H s)(b:H l=AP (.lst xs))
  (e:s.heap.get? l=AP {cls:=.type "list",data:=.seq its.toArray n}) (Y:f its.toArray=G.toArray) (O:Cg ys G) (hz:ys.length<=El) :
  Bk X apn σ (Dn H l (.lst ys)) {s with heap:=s.heap.update l (Yw f),toks:=t'}:=by
 have q:=PySem.IsL.update e f;rw[Y]at q;show I.write (b ▸ trivial) (.inl rfl) (λb' u a U=>(Ql _ _<|Ke a).trans U) {_,q} ?_;show{hz,G,_,O,q}
def Bk.lnew {its t'}(I:Bk X apn σ H s)(J:Cg ys its)(hz:ys.length<=El):
  Bk X apn σ (Dn H s.heap.objs.size (.lst ys)) {s with heap:=s.heap.push {cls:=.type "list",data:=.seq its.toArray},toks:=t'}:=
 I.laid (λ_ _ q=>FW _ q) (Em _) {hz,its,0,J,Kf _ rfl}
def Bk.fresh (I:Bk X apn σ H s):H s.heap.objs.size=Af:=I.hok.fresh (Em _)
def Bk.lstM (I:Bk X apn σ H s)(G:H l=AP (.lst xs)):xs.length<=El/\∃(its:List Aj) (n:Nat),Cg xs its/\xs.length=its.length/\s.heap.get? l=AP {cls:=.type "list",data:=.seq its.toArray n}:=by
 obtain⟨z,its,n,r,e⟩:=I.hok l _ G;show⟨z,its,n,r,r.length,e⟩
def alY {n}(h:n<=El):Builtin.List.listTooLong n=false:=decide_eq_false ⋯
end
section
variable {X:Cx}
abbrev Qq:V->List V->Hp->VK->Prop:=λx vs H Q=>∃l xs y,x=.ref l/\vs=[y]/\H l=AP (.lst xs)/\xs.length<El/\Q .non (Dn H l (.lst (xs++[y])))
def Bo:MtM X "list.append" Qq:=by
 intro apn s σ H x Y v us Q I J O h;obtain⟨l,xs,y,rfl,rfl,G,a,q⟩:=h;cases J;obtain⟨u,rfl,U⟩:=O.one;obtain⟨z,its,n,r,hl,e⟩:=I.lstM G;show call_meets F.slot_list_append {_,e,rfl} F.entry_list_append (F.args_list_append_2 _ _) (PySem.list_append l _ n u (by rw[Lf];lia)) {e,?_};show{.non,_,I.lset G e (by simp) (r.append<|.cons U .nil) ?_,rfl,q};grind
abbrev Tj:V->List V->Hp->VK->Prop:=λx vs H Q=>∃l b xs zs,x=.ref l/\vs=[.ref b]/\H l=AP (.lst xs)/\H b=AP (.lst zs)/\xs.length+zs.length<=El/\Q .non (Dn H l (.lst (xs++zs)))
def zbg:MtM X "list.extend" Tj:=by
 intro apn s σ H x j v us Q I Y a h;obtain⟨l,b,xs,zs,rfl,rfl,U,g,k,q⟩:=h;cases Y;obtain⟨u,rfl,c⟩:=a.one;cases c;obtain⟨z,its,n,r,hl,e⟩:=I.lstM U;obtain⟨i,G,n2,d,f,e2⟩:=I.lstM g;have O:its.toArray.size+G.toArray.size<=El:=by rw[Lf,Lf];lia
 have J:¬(!its.toArray.isEmpty&&Builtin.List.listTooLong (its.toArray.size+G.toArray.size))=true:=by
  rw[alY O,nA];show T4
 show call_meets F.slot_list_extend {_,e,rfl} F.entry_list_extend (F.args_list_extend_2 _ _)
  (AutoSeq1.list_extend_list_list_0 l _ n b _ n2 J ⋯ ⋯) {e,e2,?_}
 show{.non,_,I.lset U e (by simp) (r.append d) ?_,rfl,q};simp_all
abbrev aiD:R2:=λx y H Q=>∃l b xs zs,x=.ref l/\y=.ref b/\H l=AP (.lst xs)/\H b=AP (.lst zs)/\xs.length+zs.length<=El/\∀p,H p=Af->Q (.ref p) (Dn H p (.lst (xs++zs)))
def adK:Mg X (Ow .Add) aiD:=by
 intro apn s σ H x y v u Q I O J h;obtain⟨l,b,xs,zs,rfl,rfl,a,c,g,q⟩:=h;cases O;cases J;obtain⟨z,its,n,r,hl,e⟩:=I.lstM a;obtain⟨f,G,n2,U,Y,e2⟩:=I.lstM c;show PySem.P.add_list e e2 ?_ (by rw[Lf,Lf];lia);have d:its.toArray++G.toArray=(its++G).toArray:=by simp
 rw[d];show{.ref _,_,I.lnew (r.append U) (by rw[Lp];omega),rfl,q _ I.fresh}
def len_rep {G:Type}(xs:List G)(k):(Kv k xs).flatten.length=k*xs.length:=by simp_all
end
section
variable {prog:Dm}{w:DX}{A:Ej}{E:Aj->Bc->Prop}{s:Bc}
end
section
variable {X:Cx}
end
end L2
namespace Att
open PySem PySem.W PySem.Calls PyProof.Rows
def amV {P h}:∀ns vs,WellAll P h vs (ns.map WData.int)->IntsAre vs ns:=by
 intro ns;induction ns with
 | nil=>
  intro vs w;cases w;show .nil
 | cons n ns G=>
  intro vs w;cases w with
  | cons a b=>
   cases a;show .cons _ _<|G _ b
def akf {l:OpenLaw}{n}(f:l.most=AP n){P h}{args G}
  (J:l.row.toRowW.claim.pre args=true) (U:WellAll P h G args) :
  ∃a vs ns,G=[Value.ref a]/\args=[WData.list (ns.map WData.int)]/\h.get? a=AP {cls:=.type "list",data:=.seq vs.toArray}/\IntsAre vs ns/\ns.length<=n:=by
 obtain⟨d,r,rfl,h1,h2⟩:=hasAllW_cons ((pre_splitW J).1);obtain rfl:=hasAllW_nil h2;obtain⟨xs,rfl,i⟩:=hasW_list h1;obtain⟨ns,rfl⟩:=items_int i;have b:=by
  have Y:=by
   have Y:=(holds_andW ((pre_splitW J).2)).1
   rwa[f]at Y
  have g:=condW_of Y (w_not (w_lt w_lit (w_len_list (w_arg rfl))));first
   | (simp at g;lia)
 cases U with
 | cons w1 c=>
  cases c;cases w1 with
  | list e O=>show{_,_,ns,rfl,rfl,e,amV ns _ O,b}
def amq (l:OpenLaw)(args):l.row.toRowW.claim.post args (.bool true) args=true:=
 postW_of
  (show WShape.has [] _ .bool=true by first|rfl|decide|simp)
  (w_eq_bool (w_res rfl) w_lit) rfl
def Eh {l:OpenLaw}{n q}{loose}{XP YP d}
  (C:l.most=AP n) (p:d.params.defaults=[])
  (h:∀w  (O J) (mg mb) (g) (o) (j i b) (a) (vs) (ns),
   Ground q loose [] XP w O mg mb J.heap->YP w J.heap ->
   J.heap.get? g=AP o->o.data=.func (docDef d.name d.params d.body d.scope j i b)->J.heap.CodeRec i d.name->mg d.name=AP (.ref g) ->
   J.heap.get? a=AP {cls:=.type "list",data:=.seq vs.toArray}->IntsAre vs ns->ns.length<=n->J.gens=#[] ->
   Qt (Cq l.prog w) callerA (.call (.ref g) ⟨[.ref a],[]⟩) (λr s'=>r=.ok (.ret (.bool true))/\OldK J.heap s'.heap/\s'.os=J.os/\VP s'.gens) J) :
  WalkO q loose XP YP l.row.toRowW d [] (λf vs=>PySem.call f vs):=by
 intro w O J mg mb G Y g o j i b L kV B H s x m F y u as c v z k E;obtain rfl:L=.none:=Dflts.none x p;obtain rfl:kV=.none:=Dflts.noKw x;obtain⟨a,vs,ns,rfl,rfl,e,U,t⟩:=akf C c k;show enter_call<|Wc (h w O J mg mb g o j i b a vs ns G Y B (fd_plain H) s m e U t F) λr s' A=>?_
 obtain⟨rfl,h2,K,I⟩:=A;show{.inl {.bool true,.bool true,[],rfl,λ_=>rfl,.bool true,amq l _,λ_=>{List.Pairwise.nil,λ_ D=>(nomatch D)}},h2,K,I}
section
variable {prog:Dm}{w:DX}{A:Ej}{E:Aj->Bc->Prop}{s:Bc}{K:Frag}
end
end Att
variable {XP:(Str->Option Aj)->Heap->Prop}{loose:List Str}{YP:DX->Heap->Prop}
namespace L2
open PySem PySem.Spec PyProof.Rows
def zR:∀{vs}{ns},IntsAre vs ns->Cg (ns.map V.int) vs
 | _,_,.nil=>.nil
 | _,_,.cons n t h=>.cons ⟨t,rfl⟩ (zR h)
abbrev Only (H:Hp):Prop:=∀b,H b=Af\/∃o xs,H b=AP (.frz o (.lst xs))
variable {ns:List Int}
def alu {P w K}{mg mb CX k}{D a fd x sp s₁}{vs}
  (N:K.In s₁.heap) (g:s₁.heap.Ns KH mg) (J:s₁.heap.Ns builtinsNs mb) (B:∀x:Str,x ≠ "__name__"->mb x=Y9 x) (i:s₁.heap.NoLimit) (W:s₁.gens=#[])
  (p:s₁.heap.get? a=AP {cls:=.type "list",data:=.seq vs.toArray}) (hi:IntsAre vs ns) (hl:ns.length<=El) (T:iJ k callerA)
  (F:∀base,K.In base->base.Ns KH mg->lE P w K mg base CX k D fd [x] sp) (Y:∀s u,BindsTo s fd ⟨[u],[]⟩ [(x,u)])
  (y:∀H,Only H->Kr K H a (ns.map V.int)->sp [.ref a] H (λv _=>v=.bl true) λ_ _ _=>False)
  (C:∀H e s',CX Af [] H s₁ (λ_ _ _=>False) e s'->False) :
  Qt (Cq P w) callerA (.call (.ref D) ⟨[.ref a],[]⟩) (λr s'=>r=.ok (.ret (.bool true))/\OldK s₁.heap s'.heap/\s'.os=s₁.os/\VP s'.gens) s₁:=by
 have I:=zR hi;have U:∀H:Hp,Only H->Kr K H a (ns.map V.int)->MJ P w H s₁.heap->(∀b,H b≠Af->b=a)->(H a≠Af->K.lookup a=Af) ->
   Qt (Cq P w) callerA (.call (.ref D) {[.ref a],[]}) (λr s'=>r=.ok (.ret (.bool true))/\OldK s₁.heap s'.heap/\s'.os=s₁.os/\VP s'.gens) s₁:=by
  intro H L X f M Z;have G:∀{b:Addr}{o:Obj},s₁.heap.get? b=AP o->H b=Af->(abu _ H).get? b=AP o:=λe n=>akK e n
  have t:∀{b:Addr}{o:Obj}{es:Array Y8}{ep:Nat},s₁.heap.get? b=AP o->o.data=.dict es ep->H b=Af:=λ{b o es ep} e d=>by
   cases q:H b with
   | none=>rfl
   | some u=>
    cases M b (by rw[q];simp)
    rw[p]at e;cases e;cases d
  have O:∀{b:Addr}{m:Str->Option Aj},s₁.heap.Ns b m->(abu _ H).Ns b m:=λ{b m} ⟨o,es,ep,e,d,r⟩=>{o,es,ep,G e (t e d),d,r}
  have j:=λb o e=>G (N b o e) (by
   cases q:H b with
   | none=>rfl
   | some u=>
    cases M b (by rw[q];simp)
    rw[Z (by rw[q];simp)]at e;cases e)
  show Wc ((F _ j<|O g).run callerA [] s₁ H {[.ref a],[]} [.ref a] [.ref a] _ _ T {rfl,{j,O g,{mb,O J,B},let⟨mc,h1,h2⟩:=i;{mc,O h1,h2}},λb o e=>abl e,Nat.le_of_eq<|zaU _ _,trivial,λb J=>absurd (show b∈([]:List Addr)from J)<|by simp,f,.of_eq W,λv e=>(nomatch e)} (Y s₁ _) (.cons rfl .nil) (y H L X)) λr s' h=>?_;cases r with
  | error e=>show(C H e s' h).elim
  | ok fl=>
   cases fl with
   | next|brk|cont=>show Uq h
   | ret u=>
    obtain⟨v,H',os,l,E,c,R,q⟩:=h;cases q;obtain rfl:u=Value.bool true:=R;show{rfl,OldK.of_keep λb o e=>?_,os,l};cases q:H b with
    | none=>show E.keep b o e q (by intro z;show absurd (show b∈([]:List Addr)from z) (by simp)) (by simp)
    | some u=>
     rcases L b with z|⟨S,xs,z⟩
     rw[q]at z;cases z;obtain⟨e1,_⟩:=f b _ z;obtain⟨e2,_⟩:=c b _ (E.frzs b S _ z);rw[e]at e1;cases e1;show e2
 cases A:K.lookup a with
 | some o=>
  have e:=N a o A;rw[p]at e;cases e;show U _ (λ_=>.inl rfl) (.inr {_,vs.toArray,_,A,rfl,rfl,rfl,by rw[Lf,hi.length];show hl,by simpa using I}) (λb u z=>by have Q:=z;cases Q) (λb z=>absurd rfl z) λz=>absurd rfl z
 | none=>
  show U (λb=>if b=a then AP _ else Af) (λb=>?_) (.inl<|.inr {{cls:=.type "list",data:=.seq vs.toArray},if_pos rfl}) (λb u z=>?_) (λb z=>?_) λ_=>A;by_cases J:b=a
  show .inr {_,_,if_pos J};show .inl<|if_neg J
  by_cases J:b=a
  cases(if_pos J).symm.trans z
  subst J;show{p,by rwa[Ds],vs,_,I,p};cases(if_neg J).symm.trans z
  by_cases J:b=a
  show J;show absurd (if_neg J) z
def Sq {l:PySem.W.OpenLaw}{n k q}{d}{K:Params->CQ}{CX:DX->Vv}{sp:DX->Sp}{x}
  (z:l.most=AP n) (i:n<=El) (m:d.params.defaults=[]) (y:iJ k callerA)
  (D:∀w  (h),YP w h->(K w.params).In h)
  (F:∀w  (mg) (c) (h),(K w.params).In h->h.Ns KH mg->mg d.name=AP (.ref c) ->
   ∃fd,(∀s u,BindsTo s fd ⟨[u],[]⟩ [(x,u)]) /\
    ∀base,(K w.params).In base->base.Ns KH mg->lE l.prog w (K w.params) mg base (CX w) k c fd [x] (sp w))
  (g:∀w H  (a) (ns:List Int),ns.length<=n->Only H->Kr (K w.params) H a (ns.map V.int)->sp w [.ref a] H (λv _=>v=.bl true) λ_ _ _=>False)
  (p:∀w H s e  (s'),CX w Af [] H s (λ_ _ _=>False) e s'->False) :
  PySem.W.WalkO q loose XP YP l.row.toRowW d [] (λf vs=>PySem.call f vs):=by
 show Att.Eh z m λw r O mg mb c o N R M a vs ns G Y P Q B j U J b A=>?_;have t:=D w _ Y;obtain⟨fd,C,L⟩:=F w mg c _ t G.T.g j;show alu t G.T.g G.T.b G.T.builtins G.T.nolimit A U J (K7 b i) y L C (λH I E=>g w H a ns b I E) λH e s'=>p w H O e s'
end L2
namespace L2
open PySem PySem.Spec PyProof.Rows
abbrev mO (s:Stmt):Arguments:=match s with
 | .FunctionDef _ a _ _ _ _ _ _ _ _=>a
 | _=>{posonlyargs:=[],args:=[],vararg:=Af,kwonlyargs:=[],kw_defaults:=[],kwarg:=Af,defaults:=[]}
abbrev eV (s:Stmt):List Stmt:=match s with
 | .FunctionDef _ _ b _ _ _ _ _ _ _=>b
 | _=>[]
abbrev aY (s:Stmt):Scope:=match s with
 | .FunctionDef _ _ _ _ _ _ sc _ _ _=>sc
 | _=>{kind:=.function,names:=[],isGenerator:=false,isCoroutine:=false}
@[reducible]noncomputable def PJ:Vv:=λ_ _ _ _ _ _ _=>False
@[reducible]noncomputable def E0:XK:=λ_ _ _=>False
def Z1 {X}:Passes PJ X E0:=λ_ _ _ _ _ _ _ h=>h.elim
structure VG (K:CQ) (x qual:Str) (st:Stmt) (f:Addr) (fd:Nu):Prop where
 ex:∃(oc:Aj) (od:Option Addr) (kV doc pm:Aj) (an:Option Addr) (cdv ct:Aj) (osl:Array (Option Aj)),
  fd=YM x qual (mO st) (eV st) (aY st) .none kV doc pm an cdv ct/\K.lookup f=AP ⟨oc,od,.func fd,osl⟩/\Zo K cdv qual=true
 kp:Us K (.ref f)=true
section
variable {P:Dm}{w:DX}{K:CQ}{mg:Str->Option Aj}{base:Heap}
def VG.ok {x qual st f fd}{N ps k sp}(F:VG K x qual st f fd)(S:iH N ps (aY st))(O:∀vs H Q E,sp vs H Q E->vs.length=ps.length)
  (J:∀G A  (outer) (s) (H) (vs) (Q) (E),iJ k (A.deeper (Ua qual (aY st) s.heap.objs.size f G))->sp vs H Q E ->
   ∃t,Qn (LC PJ P w K mg base N qual (aY st) f G A outer s H E).nox (eV st) t/\t {nx:=λ_ H'=>Q .non H',rt:=Q} (start N vs) H):lE P w K mg base PJ (k+1) f fd ps sp:=by
 obtain⟨g,od,kV,d,e,i,G,ct,a,rfl,b,Y⟩:=F.ex;show abM b Y S O λA outer s H vs Q E c U=>?_;obtain⟨t,h,q⟩:=J G A outer s H vs Q E c U;show⟨t,h.nox,q⟩
def VG.binds {x qual st f fd}{ps}(F:VG K x qual st f fd)
  (h:∀kV G O  (U) (J ct) (us),us.length=ps.length->bindArgs (YM x qual (mO st) (eV st) (aY st) .none kV G O U J ct) ⟨us,[]⟩=pure (ps.zip us)):Binds K fd ps []:=by
 obtain⟨b,od,kV,G,O,U,J,ct,Y,rfl,c,a⟩:=F.ex;show .all<|h kV G O U J ct
def Jl {x qual st f a}{od Y}{O kV J U G ct}(l:K.lookup f=AP ⟨a,od,.func (YM x qual (mO st) (eV st) (aY st) .none kV J U Y G ct),O⟩)
  (c:Zo K G qual=true) (k:Us K (.ref f)=true):VG K x qual st f (YM x qual (mO st) (eV st) (aY st) .none kV J U Y G ct):={⟨a,od,kV,J,U,Y,G,ct,O,rfl,l,c⟩,k}
end
section
variable {X:Cx}
def pv (i){x}{pos}(hN:X.N[i]?=AP x:=by rfl)(hv:Vis X.env.scope x:=by first|exact Or.inl rfl|exact Or.inr (Or.inl rfl)|exact Or.inr (Or.inr rfl))(hd:(x==("__debug__" : Str))=false:=by decide)
  (hcd:(x==("__classdict__" : Str))=false:=by decide):PE X (.Name x pos) (aeQ i):=adn hN hv hd hcd
end
abbrev YZ (env:Env):List (Str×Pa)->List (Str×Addr)->List (Str×Addr)
 | [],cs=>cs
 | (n,k)::r,cs=>YZ env r (if(k==NameKind.free)=true then(n,(env.cells.lookup n).getD 0)::cs else cs)
abbrev W0 (scope:Scope)(env:Env):List (Str×Addr):=YZ env scope.names []
def zq {env}{p}:∀l  (cs),p∈YZ env l cs->p∈cs\/((p.1,NameKind.free)∈l/\p.2=(env.cells.lookup p.1).getD 0)
 | [],cs,h=>.inl h
 | (n,k)::r,cs,h=>by
  rcases zq r _ h with h|⟨h1,h2⟩
  grind
  simp_all
def Ii {env x}:∀l  (cs),((x,NameKind.free)∈l\/∃c,(x,c)∈cs)->∃c,(x,c)∈YZ env l cs
 | [],cs,h=>by
  rcases h with h|h
  simp_all
  show h
 | (n,k)::r,cs,h=>by
  show Ii r _ ?_;grind
variable {c:Addr}
def jf {x}{c}:∀{l:List (Str×Addr)},(x,c)∈l->∃G,l.lookup x=AP G
 | (n,d)::r,h=>by
  by_cases e:x=n
  simp_all
  rcases M5.mp h with q|q
  injection q with J _
  simp_all
  obtain⟨G,h'⟩:=jf q;show{G,?_}
  rwa[YJ,(beq_eq_false_iff_ne.mpr e)]
def RW {scope env}(h:∀y∈scope.names,y.2=NameKind.free->∃c,env.cells.lookup y.1=AP c):closureFor scope env=pure (W0 scope env):=by
 unfold closureFor W0;have O:∀(l:List _) (cs:List _),(∀y∈l,y.2=NameKind.free->∃c,env.cells.lookup y.1=AP c) ->
   (forIn l cs (λ(x:Str×Pa) (cs:List _)=>(if(x.2==NameKind.free)=true then cellOf env x.1 >>= λc=>pure (ForInStep.yield ((x.1,c)::cs))else pure (ForInStep.yield cs):Sem _)))=pure (YZ env l cs):=by
  intro l;induction l with
  | nil=>intro cs _;rfl
  | cons x r U=>
   intro cs hl;obtain⟨n,k⟩:=x;rw[List.forIn_cons];have Y:=λy a=>hl y (T6 _ a)
   by_cases G:(k==NameKind.free)=true
   obtain⟨c,b⟩:=hl _ Ub (by simpa using G);have J:=b;have e1:cellOf env n=pure c:=by unfold cellOf;rw[J]
   simp only[G,if_true,e1,pure_bind];rw[U _ Y];simp[YZ,G,J];simp only[G,if_false,pure_bind,uT];rw[U _ Y];simp[YZ,G]
 simpa using(O _ [] h)
def jU {y}{c}:∀{names n}{acc},(y,c)∈Nf n names acc↔(y,c)∈acc\/(y,c)∈Nf n names []
 | [],n,acc=>by simp[Nf]
 | (name,G)::r,n,acc=>by
  unfold Nf;split
  rw[jU,jU (acc:=[(name,n)])];grind
  show jU
def FQ {y}{c}:∀{names n},(y,c)∈Nf n names []->(y,NameKind.cell)∈names
 | (name,G)::r,n,h=>by
  unfold Nf at h;split at h
  rename_i J;rcases jU.mp h with q|q
  simp_all
  show T6 _<|FQ q
  show T6 _<|FQ h
def Px {y}:∀{names n},(y,NameKind.cell)∈names->∃c,(y,c)∈Nf n names []
 | (name,G)::r,n,h=>by
  unfold Nf;rcases M5.mp h with q|q
  cases q;show{n,jU.mpr<|.inl Ub};split
  obtain⟨c,J⟩:=Px q;show{c,jU.mpr<|.inr J};show Px q
variable {names:List (Str×Pa)}
def aes {h y}(e:(y,c)∈Nf h.objs.size names []):(pushCells h names).IsCell c Af/\h.objs.size<=c:=
 (cellsFrom_ok names h _ [] {λ_ _ z=>by simp at z,List.Pairwise.nil} (Em _)).empty y c e
def ajV {n}{y z}(e:(y,c)∈Nf n names [])(e':(z,c)∈Nf n names []):y=z:=by
 have G:∀(k:Nat),∃h:Heap,h.objs.size=k:=λk=>by
  induction k with
  | zero=>show{{(default:Heap)with objs:=#[]},rfl}
  | succ k U=>
   obtain⟨h,e⟩:=U;show{h.push {cls:=.type "cell",data:=.cell Af},by rw[Ud,e]}
 obtain⟨h,rfl⟩:=G n;show name_of_addr (cellsFrom_ok names h _ [] {λ_ _ z=>by simp at z,List.Pairwise.nil}<|Em _).apart e e'
variable {closure:List (Str×Addr)}
def aky {M A}{E s}{scope}{globals qual}{func code J}{builtins}{Q}
  (Y:Q {scope:=scope,locals:=s.heap.objs.size,globals:=globals,cells:=Nf (s.heap.objs.size+1) scope.names closure,qual:=qual,func:=func,code:=J.code,frame:=J.frame,builtins:=J.builtins} {s with heap:=pushCells (s.heap.push {cls:=.type "dict",data:=.dict #[]}) scope.names}) :
  CR M A (newFunctionEnv scope globals closure [] qual func code (AP J) builtins) Q E s:=by
 simp only[newFunctionEnv];show BL<|wpAny_alloc ?_
 show BL<|wpAny_layCells _ (λname G cells=>by cases U:G==NameKind.cell<;>simp) _ _ _ _ ?_
 show Ud .. ▸ BL (DK<|DK Y)
abbrev blk (X:Cx)(scope:Scope)(O:List Str)(C:Addr)(s:Bc)(H:Hp)(ex:List Addr):Cx where
 prog:=X.prog
 w:=X.w
 K:=X.K
 mg:=X.mg
 base:=X.base
 A:=X.A
 N:=O
 s₀:=s
 H₀:=H
 env:=compEnvC scope (Nf (C+1) scope.names (W0 scope X.env)) C X.env
 outer:=X.stack
 stack:=X.stack
 ex:=ex
 fn:=λy=>decide (scope.names.lookup y=AP .cell)
 calm:=X.calm
 pn:=[]
 xe:=λ_ _=>False
structure jQ (X:Cx) (scope:Scope) (x:List Str) (ix:List Nat):Prop where
 kind:scope.kind=.function
 own:∀y∈x,scope.names.lookup y=AP .local\/scope.names.lookup y=AP .cell
 names:∀y∈scope.names,scope.names.lookup y.1=AP y.2
 free:∀y∈scope.names,y.2=.free->X.env.scope.names.lookup y.1=AP .cell\/X.env.scope.names.lookup y.1=AP .free
 ixs:∀i∈ix,scope.names.lookup (X.N.getD i "")=AP .free
 nd:(x++ix.map λi=>X.N.getD i "").Nodup
abbrev JV:List Str->Bool
 | []=>true
 | x::r=>!(r.contains x)&&JV r
abbrev ah0 (sc:Scope)(N:List Str)(scope:Scope)(x:List Str)(ix:List Nat):Bool:=
 decide (scope.kind=.function)&&x.all (λy=>decide (scope.names.lookup y=AP .local)||decide (scope.names.lookup y=AP .cell)) &&
 scope.names.all (λy=>decide (scope.names.lookup y.1=AP y.2)) &&
 scope.names.all (λy=>!decide (y.2=.free)||decide (sc.names.lookup y.1=AP .cell)||decide (sc.names.lookup y.1=AP .free)) &&
 ix.all (λi=>decide (scope.names.lookup (N.getD i "")=AP .free))&&JV (x++ix.map λi=>N.getD i "")
def Ba:∀{l},JV l=true->l.Nodup
 | [],_=>List.nodup_nil
 | x::r,h=>by
  unfold JV at h;rw[V5]at h;show V4.mpr {λhm=>?_,Ba h.2};simp_all
variable {ix:List Nat}
def cA {X}{scope x}(h:ah0 X.env.scope X.N scope x ix=true):jQ X scope x ix:=by
 unfold ah0 at h;simp only[V5,Vl,decide_eq_true_eq,Bool.or_eq_true]at h;obtain⟨⟨⟨⟨⟨h1,Y⟩,U⟩,b⟩,O⟩,J⟩:=h;show{h1,λy G=>Y y G,λy G=>U y G,λy G a=>(by grind),λi hi=>O i hi,Ba J}
abbrev NQ (ix:List Nat)(σ:St):St:=ix.map λi=>(σ[i]?).getD Af
@[reducible]noncomputable def kI (X:Cx)(x:List Str)(ix:List Nat):List Str:=x++ix.map λi=>X.N.getD i ""
def iC {scope:Scope}{env:Env}{x}:∀{names:List (Str×Pa)}{k},
  (names.map λ(p)=>if(p.2==NameKind.free&&env.scope.kind==.function&&env.kindOf p.1==AP .cell)=true then(p.1,NameKind.cell)else(p.1,p.2)).lookup x=AP k ->
  names.lookup x=AP k\/(k=.cell/\names.lookup x=AP .free)
 | (n,Y)::r,k,h=>by
  rw[KQ]at h;cases G:x==n with
  | true=>
   grind
  | false=>
   have h':(r.map λ(p:Str×Pa)=>if(p.2==NameKind.free&&env.scope.kind==.function&&env.kindOf p.1==AP .cell)=true then(p.1,NameKind.cell)else(p.1,p.2)).lookup x=AP k:=by
    by_cases J:(Y==NameKind.free&&env.scope.kind==.function&&env.kindOf n==AP .cell)=true
    rw[if_pos J]at h;simpa only[YJ,G]using h;rw[if_neg J]at h;simpa only[YJ,G]using h
   rcases iC (scope:=scope) h' with q|⟨U,O⟩
   grind
   show .inr {U,by simpa[YJ,G]using O}
def qR {env:Env}{x}:∀{names:List (Str×Pa)},names.lookup x=AP .free ->
  (names.map λ(p)=>if(p.2==NameKind.free&&env.scope.kind==.function&&env.kindOf p.1==AP .cell)=true then(p.1,NameKind.cell)else(p.1,p.2)).lookup x=AP .cell \/
  (names.map λ(p)=>if(p.2==NameKind.free&&env.scope.kind==.function&&env.kindOf p.1==AP .cell)=true then(p.1,NameKind.cell)else(p.1,p.2)).lookup x=AP .free
 | (n,J)::r,h=>by
  rw[KQ];cases G:x==n with
  | true=>
   grind
  | false=>
   have O:=qR (env:=env) (by simpa[YJ,G]using h);grind
def qH {env:Env}{x}:∀{names:List (Str×Pa)},names.lookup x=AP .cell ->
  (names.map λ(p)=>if(p.2==NameKind.free&&env.scope.kind==.function&&env.kindOf p.1==AP .cell)=true then(p.1,NameKind.cell)else(p.1,p.2)).lookup x=AP .cell
 | (n,J)::r,h=>by
  rw[KQ];cases G:x==n with
  | true=>
   simp_all
  | false=>
   have O:=qH (env:=env) (show r.lookup x=AP .cell by simpa[YJ,G]using h);grind
section
variable {X:Cx}{apn:List (Addr×Obj)}{σ:St}{H:Hp}{s:Bc}{scope:Scope}{x:List Str}{C:Addr}{fp:List Addr}
def Rq (B:jQ X scope x ix){y}(G:y∈x):Loc (relabel scope X.env) y/\(decide (scope.names.lookup y=AP .cell)=true\/(relabel scope X.env).names.lookup y=AP .local):=by
 rcases B.own y G with q|q
 have:=lookup_relabel_local (env:=X.env) q
 show{.inl this,.inr this};show{.inr<|qH q,.inl<|decide_eq_true q}
def yE (I:Bk X apn σ H s)(B:jQ X scope x ix):∀y∈scope.names,y.2=NameKind.free->∃c,X.env.cells.lookup y.1=AP c:=λy G J=>I.ok.has _ (B.free y G J)
def ad5 (I:Bk X apn σ H s)(B:jQ X scope x ix){y}(h:(y,c)∈W0 scope X.env):X.env.cells.lookup y=AP c:=by
 rcases zq _ [] h with q|⟨G,J⟩
 simp_all
 obtain⟨O,e⟩:=yE I B _ G rfl;simp_all
def qO (I:Bk X apn σ H s)(B:jQ X scope x ix){y}(h:(Nf (C+1) scope.names (W0 scope X.env)).lookup y=AP c):X.env.cells.lookup y=AP c\/(y,c)∈Nf (C+1) scope.names []:=
 (jU.mp (Wh h)).imp_left (ad5 I B)
def Ml {n y}(e:(y,c)∈Nf n names []):n<=c:=by
 have G:∀(names:List _) (n:Nat),(y,c)∈Nf n names []->n<=c:=by
  intro names;induction names with
  | nil=>intro n h;simp[Nf]at h
  | cons a r J=>
   intro n h;unfold Nf at h;split at h
   rcases jU.mp h with q|q
   simp_all
   grind
   show J n h
 show G names n e
def aa5 (B:jQ X scope x ix){y}(J:scope.names.lookup y=AP .free)(h:(y,c)∈Nf (C+1) scope.names []):False:=by
 have:=B.names _ (FQ h)
 simp_all
def IV {y}(h:scope.names.lookup y=AP .free\/scope.names.lookup y=AP .cell):∃c,(Nf (C+1) scope.names (W0 scope X.env)).lookup y=AP c:=by
 rcases h with h|h
 obtain⟨c,G⟩:=Ii _ [] (.inl (Wh h));show jf<|jU.mpr<|.inl G
 obtain⟨c,G⟩:=Px (Wh h);show jf<|jU.mpr<|.inr G
def ab5 (I:Bk X apn σ H s)(B:jQ X scope x ix)(Y:s.heap.objs.size<=C)(U:∀b∈fp,Lk X apn H b)(u:∀b∈fp,∃o,s.heap.get? b=AP o):
  (blk X scope (kI X x ix) C s H fp).Ok where
 mod:=I.ok.mod
 kind:=B.kind
 glob:=I.ok.glob
 blt:=I.ok.blt
 above:=Y
 inj:=λy z c h1 h2=>by
  have E:∀{y z:Str},X.env.cells.lookup y=AP c->(z,c)∈Nf _ scope.names []->False:=λ{y z} e q=>by
   obtain⟨v,w⟩:=I.cell y c e;show absurd (Kz w.lt<|K7 (K7 Y<|YG C)<|Ml q)<|RX _
  rcases qO I B h1 with O|O
  rcases qO I B h2 with J|J
  show I.ok.inj y z c O J;grind
  rcases qO I B h2 with J|J
  grind
  show ajV O J
 has:=λy t=>by
  rcases t with q|q
  rcases iC (scope:=scope) q with r|⟨_,r⟩
  show IV<|.inr r
  show IV<|.inl r
  rcases iC (scope:=scope) q with r|⟨r,_⟩
  show IV<|.inl r
  cases r
 cab:=λy c U h=>by
  rcases jU.mp (Wh h)with q|q
  rcases zq _ [] q with q|⟨O,_⟩
  show nomatch q
  have:=B.names _ O
  rw[(of_decide_eq_true U)]at this;cases this;show K7 (K7 Y<|YG C)<|Ml q
 hd:=I.ok.hd
 qt:=I.qt0
 frames:=I.ok.frames
 stk:=.inl rfl
 exf:=λb G=>by
  obtain⟨o,e⟩:=u b G;show{KC<|Kz (FP e) Y,λy c h=>?_};rcases qO I B h with q|q
  show(U b G).2.2.2.2.1 y c q;intro z;rw[z]at q;show absurd (Kz (FP e)<|K7 (K7 Y<|YG C)<|Ml q)<|RX _
 bs:=I.bs
 bsz:=K7 I.ok.bsz I.sz
 noex:=λb o e G=>by
  rcases(U b G).2.2.2.1 with q|q
  show I.ok.noex b o e q;show absurd (Kz (FP e)<|K7 I.ok.bsz q)<|RX _
 exfs:=λb G z=>by
  obtain⟨_,h1,h2,_⟩:=U b G;rcases M5.mp (I.stkSub b z)with e|e
  show h1 e;show h2 e
 funs:=I.stack
 frf:=I.stkFree
def aam {D:Addr}{h1:Heap}{tk:Nat}{m:Str->Option Aj}(I:Bk X apn σ H s)(B:jQ X scope x ix)(K:(blk X scope (kI X x ix) C s H fp).Ok)
  (f:D=s.heap.objs.size) (k:∀b o,s.heap.get? b=AP o->h1.get? b=AP o) (hl:h1.get? D=AP {cls:=.type "list",data:=.seq #[]}) (t:h1.Ns C m) (E:C≠D) (N:s.heap.objs.size<=C) (A:∀y c,(y,c)∈Nf (C+1) scope.names []->h1.IsCell c Af) :
  Bk (blk X scope (kI X x ix) C s H fp) [] (Kv x.length Af++NQ ix σ) (Dn H D (.lst [])) {s with heap:=h1,toks:=tk} where
 ok:=K
 os:=rfl
 bare:=I.bare
 base:=Un.laid k (f ▸ Em _) (I.hok.fresh (f ▸ Em _))
 loc:=by
  show{m,t,λi y v e1 e2 e3=>?_};by_cases O:i<x.length
  rw[Ut (by simpa using O),yu,if_pos O]at e2;cases e2
  ·rw[V9 (by simpa using O),Zv]at e2;have J:=by
    have z:(x++ix.map λi=>X.N.getD i "")[i]?=AP y:=e1
    rwa[V9 (by simpa using O)]at z
   generalize i-x.length=j at J e2;unfold NQ at e2;rw[Kh]at J e2;cases hj:ix[j]? with
   | none=>rw[hj]at e2;cases e2
   | some i'=>
    rw[hj]at J e2;simp only[Option.map_some,Option.some.injEq]at J e2;have hi:σ[i']?=AP (AP v):=by
     cases q:σ[i']? with
     | none=>rw[q]at e2;cases e2
     | some z=>rw[q]at e2;show congrArg AP e2
    have a:=by
     have:=(Qc.mp hi).1
     rwa[I.len]at this
    have hn:X.N[i']?=AP y:=by
     rw[V8,Lq a,Option.getD_some]at J;rw[Lq a,J]
    have G:=by
     have:=B.ixs i' (T7 hj)
     rwa[J]at this
    have L:=B.free _ (Wh G) rfl;have n:Vis X.env.scope y:=by
     rcases L with q|q
     show .inr<|.inl q
     show .inr<|.inr q
    obtain⟨m',_,w⟩:=I.loc;obtain⟨u,r,W⟩:=w i' y v hn hi n;show{u,r,?_};rcases W with⟨q,_⟩|⟨_,c,hc,U⟩
    have S:X.env.scope.names.lookup y=AP .local:=q;rcases L with z|z<;>(rw[S]at z;cases z)
    obtain⟨c',d⟩:=IV (.inl G);have e:=(qO I B d).resolve_right λz=>aa5 B G z
    rw[hc]at e;cases e;show .inr {qR G,c,d,?_};obtain⟨o,Y,l⟩:=U;show{o,k c o Y,l}
 cell:=λy c h=>by
  rcases qO I B h with q|q
  obtain⟨v,o,Y,l⟩:=I.cell y c q;show{v,o,k c o Y,l};show{Af,A y c q}
 free:=by
  change Dn H D _ C=Af;show aL E ▸ I.hok.fresh N
 freeC:=λy c h=>by
  rcases qO I B h with q|q
  obtain⟨v,o,Y,l⟩:=I.cell y c q;show aL (f ▸ KC (FP Y)) ▸ I.freeC y c q;have g:=Kz (Nat.lt_succ_of_le N) (Ml q);show aL (f ▸ PN g) ▸ I.hok.fresh (Vb g)
 pin:=λp hp=>absurd (show p∈([]:List _)from hp) (by simp)
 hok:=I.hok.laid k (f ▸ Em _) {Pz _,[],0,.nil,hl}
 len:=by
  change(Kv _ Af++NQ ix σ).length=(kI X x ix).length;simp[NQ]
def Oh {σ':St}{H' s'}{h'}{p'}(I:Bk X apn σ H s)(U:s.heap.objs.size<=C)(O:∀b∈fp,Lk X apn H b)(J:Bk (blk X scope (kI X x ix) C s H fp) p' σ' H' s')
  (hs:Qf C s'.heap h'):Bk X apn σ H' {s' with heap:=h'}:=by
 show(I.call' J.os J.base J.hok J.bare λb G=>{(O b G).2.2.2.1,(O b G).2.1,(O b G).2.2.2.2.1,(O b G).2.2.2.2.2}).turned (λb o G e=>(hs.2 b G).trans e) J.free (PN<|Kz I.lt U) (.inr<|K7 I.sz U) (λy c e z=>?_) (λp a z=>(absurd (Kz (FP (I.pin p a).1)<|z ▸ U)<|RX _));obtain⟨v,q⟩:=I.cell y c e;show absurd (Kz q.lt<|z ▸ U)<|RX _
end
variable {D:Addr}
abbrev abo (X:Cx)(ifs:List Expr)(t:TT):Prop:=
 ∀(apn:List (Addr×Obj)) (s:Bc) (σ:St) (H:Hp) (Q:Bool->Hp->Prop),Bk X apn σ H s->t σ H Q ->
  CR (Cq X.prog X.w) X.A (forIn ifs true λc r=>if r=true then do let G <-isTrue c X.env (eval c X.env);pure (ForInStep.yield G)else pure (ForInStep.yield r)) (TP X apn σ Q) X.xe s
abbrev aip:TT:=λ_ H Q=>Q true H
def amW {X}:abo X [] aip:=λ_ _ _ H _ I h=>DK ⟨H,I,h⟩
def abe {X}{c t}(h:PT X c t):abo X [c] t:=λapn s σ H Q I G=>BL (BL (Eu (h apn s σ H Q I G) λb J q=>DK (DK q)))
abbrev ahf (n:Nat)(own:V->Hp->List V->Prop)(ix:List Nat)(tt:TT)(te:TE)(σ:St)(Q:VK)(J:It)(H1:Hp)(D:Addr):Prop:=∃W:Nat->Nat->List V->Hp->Prop,(∃m,W 0 m [] (Dn H1 D (.lst [])))/\∀i m ys H,W i m ys H->H D=AP (.lst ys) ->
 (J.stop i H/\Q (.ref D) H)\/(J.go i H/\ys.length<El/\∀x H',J.yld i H x H'->∃vs,own x H' vs/\vs.length=n/\tt (vs.map AP++NQ ix σ) H' λb H2=>
  if b=true then te (vs.map AP++NQ ix σ) H2 (λv O=>O D=AP (.lst ys)/\∃G,G<m/\W (i+1) G (ys++[v]) (Dn O D (.lst (ys++[v]))))
  else H2 D=AP (.lst ys)/\∃G,G<m/\W (i+1) G ys H2)
abbrev wLC (n:Nat)(own:V->Hp->List V->Prop)(ix:List Nat)(tt:TT)(te:TE)(σ:St)(Q:VK)(J:It)(H1:Hp):Prop:=∀D,H1 D=Af->ahf n own ix tt te σ Q J H1 D
abbrev tLC (n:Nat)(own:V->Hp->List V->Prop)(ix:List Nat)(wi:TI)(tt:TT)(te:TE):TE:=fun σ H Q=>wi σ H λJ H1=>wLC n own ix tt te σ Q J H1
abbrev aaZ (n:Nat)(own:V->Hp->List V->Prop):TG:=λv σ H N=>∃vs,own v H vs/\vs.length=n/\N (vs.map AP++σ.drop n) H
variable {elt:Expr}{ifs:List Expr}
def zbh {P w A}{R s}{G iter scope pos}{it acc env}(o:Nat->Bc->Prop)
  (g:∀n s,o n s->CR (Cq P w) A (pyNext it) (λr O=>match r with
   | none=>R (.ok .next) O
   | some v=>CR (Cq P w) A (letOwnedTupleGo G it v) (λ_ U=>CR (Cq P w) A (assign G env v) (λ_ b=>
     CR (Cq P w) A (forIn ifs true λc r=>if r=true then do let ok <-isTrue c env (eval c env);pure (ForInStep.yield ok)else pure (ForInStep.yield r)) (λok J=>
      if ok=true then CR (Cq P w) A (eval elt env) (λx a=>
       CR (Cq P w) A (call (.builtin "list.append") [acc,x]) (λ_ Y=>∃m,m<n/\o m Y) (notedBy (Cq P w) A env λe s'=>R (.error e) s') a) (notedBy (Cq P w) A env λe s'=>R (.error e) s') J
      else ∃m,m<n/\o m J) (notedBy (Cq P w) A env λe s'=>R (.error e) s') b) (notedBy (Cq P w) A env λe s'=>R (.error e) s') U) (notedBy (Cq P w) A env λe s'=>R (.error e) s') O) (notedBy (Cq P w) A env λe s'=>R (.error e) s') s)
  (n) (h:o n s):Qt (Cq P w) A (.compLoop (.ListComp elt [⟨G,iter,ifs,0⟩] scope pos) 0 it acc env) R s:=by
 show codeAny_loop rfl o (λn s p=>?_) n h;change CR _ A _ _ _ s;show wpAny_noted ?_;rw[compTurn_list];show BL<|Yd<|BL<|Li (g n s p) (λr O f=>?_) λ_ _ z=>z
 cases r with
 | none=>show DK f
 | some v=>
  show BL<|Li f (λ_ U l=>BL<|Li l (λ_ b k=>BL<|Li k (λok J d=>?_) λ_ _ z=>z) λ_ _ z=>z) λ_ _ z=>z
  cases ok with
  | false=>show DK ⟨rfl,d⟩
  | true=>show BL (BL (Li d (λx a j=>BL (Li j (λ_ Y i=>DK (DK ⟨rfl,i⟩)) λ_ _ z=>z)) λ_ _ z=>z))
section
variable {X:Cx}{scope:Scope}{x:List Str}{iter tg:Expr}{px pos:Pos}{wi:TI}{tt:TT}{te:TE}{own:V->Hp->List V->Prop}
def Ng {apn}{σ:St}{s₂ H2}{it}{fp}{tn J Q}{E}{RR:Aj->Addr->Um->Bc->Prop}
  (hc:J.cm=true->X.calm=true) (B:jQ X scope x ix) (hg:∀C s H fp,PG (blk X scope (kI X x ix) C s H fp) tg (aaZ x.length own)) (ht:∀C s H fp,abo (blk X scope (kI X x ix) C s H fp) ifs tt) (he:∀C s H fp,PE (blk X scope (kI X x ix) C s H fp) elt te)
  (I2:Bk X apn σ H2 s₂) (T:Turn X.prog X.w X.K tg J fp it tn) (S:tn 0 s₂.heap) (f2:∀b∈fp,Lk X apn H2 b) (hq:wLC x.length own ix tt te σ Q J H2)
  (hRR:∀D C s' σ' H' p',s₂.heap.objs.size<=C->Bk (blk X scope (kI X x ix) C s₂ H2 fp) p' σ' H' s'->Q (.ref D) H'->RR (.ref D) C (.ok .next) s') :
  CR (Cq X.prog X.w) X.A (newList []) (λacc s₃=>CR (Cq X.prog X.w) X.A (newFunctionEnv scope X.env.globals (W0 scope X.env) [] X.env.qual Af .none (AP X.env)) (λcenv m=>
   Qt (Cq X.prog X.w) X.A (.compStart (.ListComp elt [⟨tg,iter,ifs,0⟩] scope pos) 0 (.ref it) acc {cenv with scope:=relabel scope X.env}) (RR acc cenv.locals) m) E s₃) E s₂:=by
 show SX<|aky ?_
 generalize hH2:s₂.heap.push {cls:=.type "list",dict:=Af,data:=.seq ([]:List Aj).toArray}=G;generalize hh1:pushCells (G.push {cls:=.type "dict",data:=.dict #[]}) scope.names=O;have N:O.Ns G.objs.size (λ_=>Af):=by
  obtain⟨o,es,ep,ho,r⟩:=Heap.Ns.new G (.type "dict");show{o,es,ep,by rw[<-hh1];show pushCells_keeps _ _ _ _ ho,r}
 have L:∀b o,G.get? b=AP o->O.get? b=AP o:=λb o e=>by rw[<-hh1];show pushCells_keeps _ _ _ _ (FW _ e)
 have hce:∀y c,(y,c)∈Nf (G.objs.size+1) scope.names []->O.IsCell c Af:=λy c e=>by
  rw[<-hh1];show(aes (h:=G.push {cls:=.type "dict",data:=.dict #[]}) (by rw[Ud];show e)).1
 have hC:G.objs.size=(~~~s₂)+1:=by rw[<-hH2,Ud]
 have hDC:(~~~s₂)≠G.objs.size:=by rw[hC];show KC (p8 _)
 have Y:(~~~s₂)<=G.objs.size:=by rw[hC];show YG _
 have Z:∀b o,s₂.heap.get? b=AP o->O.get? b=AP o:=λb o e=>L b o (hH2 ▸ FW _ e)
 have hacc:O.get? (~~~s₂)=AP {cls:=.type "list",data:=.seq #[]}:=L _ _ (hH2 ▸ Kf _ rfl);have hob:∀b∈fp,∃o,s₂.heap.get? b=AP o:=λb A=>let⟨o,e,_⟩:=T.obj 0 _ S b A;⟨o,e⟩
 have ok:=ab5 (C:=G.objs.size) I2 B Y f2 hob;obtain⟨W,⟨m0,w0⟩,turn⟩:=hq (~~~s₂) (I2.hok.fresh (Em _));have K:∀{H':Hp},(∀b∈fp,H' b=Af)->∀b∈fp,Lk (blk X scope (kI X x ix) G.objs.size s₂ H2 fp) [] H' b:=λ{H'} hn b A=>by
  obtain⟨o,e⟩:=hob b A;obtain⟨_,g1,g2,g3,g4,g5⟩:=f2 b A;show{hn b A,KC<|Kz (FP e) Y,λz=>?_,.inl A,λy c h=>?_,λp hp=>absurd (show p∈([]:List (Addr×Obj))from hp)<|by simp};rcases M5.mp (I2.stkSub b z)with q|q
  show g1 q;show g2 q;rcases qO I2 B h with q|q
  show g4 y c q;intro z;rw[z]at q;show absurd (Kz (FP e)<|K7 (K7 Y<|YG _)<|Ml q)<|RX _
 have P:∀s₃:Bc,s₃={s₂ with heap:=O} ->
   Qt (Cq X.prog X.w) X.A (.compLoop (.ListComp elt [{tg,iter,ifs,0}] scope pos) 0 (.ref it) (.ref (~~~s₂)) (compEnvC scope (Nf (G.objs.size+1) scope.names (W0 scope X.env)) G.objs.size X.env))
    (RR (.ref (~~~s₂)) G.objs.size) s₃:=by
  rintro s₃ rfl;have J0:=aam (fp:=fp) (C:=G.objs.size) (tk:=s₂.toks) I2 B ok rfl Z hacc N (Ke hDC) Y hce;have fr0:∀b∈fp,Dn H2 (~~~s₂) (.lst []) b=Af:=λb A=>by
   obtain⟨o,e⟩:=hob b A;rw[aL (KC (FP e))];show(f2 b A).1
  show zbh (λk s'=>∃i ys H',Bk (blk X scope (kI X x ix) G.objs.size s₂ H2 fp) [] (Kv x.length Af++NQ ix σ) H' s'/\tn i s'.heap/\(∀b∈fp,H' b=Af)/\H' (~~~s₂)=AP (.lst ys)/\W i k ys H') ?_ m0
   {0,[],_,J0,T.keep 0 _ _ S (λb _ o e=>Z b o e),fr0,aV,w0}
  rintro n m ⟨i,ys,H4,I4,st4,fr4,hD4,w4⟩;rcases turn i n ys H4 w4 hD4 with⟨stop,qn⟩|⟨go,hz,step⟩
  ·show Eu (T.done (blk X scope (kI X x ix) G.objs.size s₂ H2 fp) rfl rfl rfl hc i [] m _ H4 _ I4 (K fr4) st4 stop) λr s5 a=>?_;obtain⟨hr,I5⟩:=a;subst hr;show hRR _ _ s5 _ H4 [] Y I5 qn
  ·show Eu (T.item (blk X scope (kI X x ix) G.objs.size s₂ H2 fp) rfl rfl rfl hc i [] m _ H4 _ I4 (K fr4) st4 go) λr s5 f=>?_;obtain⟨u,hr,h5⟩:=f;subst hr;show Li h5 (λ_ s6 g=>?_) λ_ _ z=>z;obtain⟨xv,H6,I6,r6,y6,R,fr6⟩:=g;have I6':=I6.pinned (K fr6) (T.obj _ _ R);obtain⟨vs,hov,hvl,q7⟩:=step xv H6 y6;have fgt:∀{U:St}{I:Hp}{s9:Bc}{p9:List (Addr×Obj)},U.length=x.length->Bk (blk X scope (kI X x ix) G.objs.size s₂ H2 fp) p9 (U++NQ ix σ) I s9->Bk (blk X scope (kI X x ix) G.objs.size s₂ H2 fp) p9 (Kv x.length Af++NQ ix σ) I s9:=λ{U I s9 p9} hl I9=>
    I9.weak (by simp[hl]) λk v e=>by
     by_cases hk:k<x.length
     rw[Ut (by simpa using hk),yu,if_pos hk]at e;cases e;rw[V9 (by simpa using hk),Zv]at e;rw[V9 (by rw[hl];lia),hl];show e
   show Li (hg _ _ _ _ _ s6 _ H6 xv u (fun U I=>U=vs.map AP++(Kv x.length (Af:Option V)++NQ ix σ).drop x.length/\I=H6) I6' r6 ⟨vs,hov,hvl,rfl,rfl⟩) (λ_ s7 j=>?_) λ_ _ z=>z.elim;obtain⟨σ7,H7,I7,e7,e8⟩:=j;subst e7 e8;rw[List.drop_left' (by simp)]at I7;have hml:(vs.map AP).length=x.length:=by rw[Ds];show hvl
   show Li (ht _ _ _ _ _ s7 _ H7 _ I7 q7) (λb s8 l=>?_) λ_ _ z=>z.elim;obtain⟨H8,I8,q8⟩:=l;have w:∀{I:Hp}{s9:Bc}{U:St},Bk (blk X scope (kI X x ix) G.objs.size s₂ H2 fp) ([]++Jt fp s6.heap) U I s9->tn (i+1) s9.heap/\∀b∈fp,I b=Af:=λ{I s9 U} I9=>by
    show{T.keep _ _ _ R λb A o e=>(I9.pin (b,o)<|Wi _<|Wi _<|lA A e).1,λb A=>?_};obtain⟨o,e,d⟩:=T.obj _ _ R b A;show(I9.pin (b,o)<|Wi _<|Wi _<|lA A e).2.1
   cases b with
   | false=>
    rw[if_neg T4]at q8|-
    obtain⟨hD8,m',hm,w8⟩:=q8;obtain⟨t8,f8⟩:=w I8;show{m',hm,i+1,ys,H8,fgt hml I8.unpinned,t8,f8,hD8,w8}
   | true=>
    rw[if_pos rfl]at q8|-
    show Li (he _ _ _ _ _ s8 _ H8 _ I8 q8) (λu9 s9 t=>?_) λ_ _ z=>z.elim;obtain⟨v9,I,I9,r9,hD9,m',hm,w9⟩:=t;show Li (Bo (X:=blk X scope (kI X x ix) G.objs.size s₂ H2 fp) _ s9 _ I (.ref (~~~s₂)) [v9] _ [u9] (λ_ H'=>H'=Dn I (~~~s₂) (.lst<|ys++[v9])) I9 rfl (.cons r9 .nil) {_,ys,v9,rfl,rfl,hD9,hz,rfl}) (λ_ s10 F=>?_) λ_ _ z=>z.elim;obtain⟨_,H10,I10,_,e10⟩:=F;subst e10;obtain⟨t10,f10⟩:=w I10;show{m',hm,i+1,ys++[v9],_,fgt hml I10.unpinned,t10,f10,aV,w9}
 show codeAny_compStart_list (P _ rfl)<|T.self _ 0 _ _ _ (T.keep 0 _ _ S<|λb _ o e=>Z b o e)<|P _ rfl
def agk (ix)(hc:X.calm=true)(B:jQ X scope x ix)(hg:∀C s H fp,PG (blk X scope (kI X x ix) C s H fp) tg (aaZ x.length own))(hi:PI X tg iter wi)(ht:∀C s H fp,abo (blk X scope (kI X x ix) C s H fp) ifs tt)(he:∀C s H fp,PE (blk X scope (kI X x ix) C s H fp) elt te)
  (hs:∀v,YK iter X.env v=pure v:=by intro _;rfl):PE X (.ListComp elt [⟨tg,iter,ifs,0⟩] scope pos) (tLC x.length own ix wi tt te):=by
 intro apn s σ H Q I h;show wpAny_comprehension_free rfl hs (RW<|yE I B) B.kind (λy hy hk=>by rw[B.names y hy,hk])<|Eu (hi apn s σ H _ I h) λv s1 h1=>Eu h1 λitv s2 h2=>?_
 obtain⟨it,fp,tn,J,H2,e,I2,T,st2,f2,hq⟩:=h2;subst e;show Ng (λ_=>hc) B hg ht he I2 T st2 f2 hq λD C s' σ' H' p' hC I' q'=>?_;obtain⟨m,hn,_⟩:=I'.loc;show{m,hn,λh' hs'=>{.ref D,H',Oh I2 hC f2 I' hs',rfl,q'}}
def afN (ix){i y}{py spos}(hN:X.N.Nodup)(hi':X.N[i]?=AP y)(hy:Loc X.env.scope y)(hc:X.calm=true)(B:jQ X scope x ix)(hg:∀C s H fp,PG (blk X scope (kI X x ix) C s H fp) tg (aaZ x.length own))(hi:PI X tg iter wi)
  (ht:∀C s H fp,abo (blk X scope (kI X x ix) C s H fp) ifs tt) (he:∀C s H fp,PE (blk X scope (kI X x ix) C s H fp) elt te)
  (hsw:Y7 (.ListComp elt [⟨tg,iter,ifs,0⟩] scope pos) (AP (.Name y py)) spos.line X.env=pure true:=by rfl)
  (hf:X.fn y=true\/X.env.scope.names.lookup y=AP .local:=by first|exact .inl rfl|exact .inr rfl|assumption)
  (hs:∀v,YK iter X.env v=pure v:=by intro _;rfl):PS X (.Assign [.Name y py] (.ListComp elt [⟨tg,iter,ifs,0⟩] scope pos) spos) (acu (tLC x.length own ix wi tt te) (M9 i)):=by
 intro apn s σ H D I h;rw[exec_Assign_Name_used _ _ _ _ hsw];show BL<|Yd<|BL<|BL<|Li (wpAny_comprehension_free rfl hs (RW<|yE I B) B.kind (λy hy hk=>by rw[B.names y hy,hk])<|Eu (hi apn s σ H _ I h) λv s1 h1=>Eu h1 λitv s2 h2=>?_) (λ_ s' hq=>DK<|DK hq) λ_ _ e=>e
 obtain⟨it,fp,tn,J,H2,e,I2,T,st2,f2,hq⟩:=h2;subst e;show Ng (λ_=>hc) B hg ht he I2 T st2 f2 hq λD' C s' σ' H' p' hC I' q'=>?_;obtain⟨m,hn,_⟩:=I'.loc;have cneC:∀z c,X.env.cells.lookup z=AP c->c≠C:=λz c e q=>by
  obtain⟨v,w⟩:=I2.cell z c e;show absurd (Kz w.lt<|q ▸ hC)<|RX _
 have lneC:=KC (Kz I2.lt hC);show wpAny_assign_Name<|BR (v:=.ref D') (Oh I2 hC f2 I'<|.refl ..) hN hi' hy rfl (λs'' I'' hsb=>?_) hf
 obtain⟨a,hsb,ha⟩:=hsb;have haC:C≠a:=by
  rcases ha with rfl|ha
  show Ke lneC;show Ke<|cneC _ _ ha
 show{m,hn.sameBut hsb haC,λh' hs'=>{_,H',(I''.turned (λb o hb e=>(hs'.2 b hb).trans e) I'.free (Ke lneC) (.inr<|K7 I2.sz hC) cneC<|λp hp z=>(absurd (Kz (FP (I2.pin p hp).1)<|z ▸ hC)<|RX _)),q'}}
end
abbrev Sm (n:Nat)(i:Int):Prop:=i.natAbs<2^n
def Sm.bits {n i}(h:Sm n i):Builtin.Int.intBits i<=n:=by
 unfold Builtin.Int.intBits;by_cases e:i=0
 simp_all
 rw[(beq_eq_false_iff_ne.mpr e)];have:=(Nat.log2_lt ⋯).mpr h
 simp;lia
variable {m:Nat}
def Sm.mono {n i}(h:Sm m i)(G:m<=n):Sm n i:=Kz h (Nat.pow_le_pow_right ∅ G)
def Sm.mul {n}{i j}(h:Sm m i)(h':Sm n j):Sm (m+n) (i*j):=by
 unfold Sm at *;rw[Int.natAbs_mul,Nat.pow_add];by_cases e:j.natAbs=0
 show e ▸ Nat.mul_pos (Nat.pow_pos<|∅) (Nat.pow_pos<|∅);show Kz (Nat.mul_lt_mul_of_pos_right h<|Nat.pos_of_ne_zero e)<|Nat.mul_le_mul_left _<|Vb h'
def Sm.add {n}{i j}(h:Sm m i)(h':Sm n j):Sm (max m n+1) (i+j):=by
 have h1:=h.mono (Nat.le_max_left m n);have h2:=h'.mono (Nat.le_max_right m n);unfold Sm at *;omega
def Sm.neg {n i}(h:Sm n i):Sm n (-i):=by unfold Sm at *;rw[Int.natAbs_neg];show h
def Sm.sub {n}{i j}(h:Sm m i)(h':Sm n j):Sm (max m n+1) (i-j):=h.add h'.neg
def Sm.zero {n}:Sm n 0:=Nat.pow_pos ∅
def Fp {n i}(h1:-(2^n:Int)<i)(h2:i<(2^n:Int)):Sm n i:=by
 unfold Sm;grind
def Sm.le {n}{i j}(h:Sm n i)(hj:j.natAbs<=i.natAbs):Sm n j:=ZP hj h
abbrev gP (i j:Int):Prop:=∃m n,m<=1000000/\n<=1000000/\Sm m i/\Sm n j
def gP.ok {i j}(h:gP i j):IntMulOk i j:=by
 obtain⟨m,n,J,G,h1,h2⟩:=h;show .of_bits (by have:=h1.bits;lia) (by have:=h2.bits;lia)
abbrev Q6 (_ j:Int):Prop:=j≠0/\∃n,n<=8000/\Sm n j
def aao {n j}(G:n<=8000)(h:Sm n j):j.natAbs.log2<9000:=by
 by_cases e:j.natAbs=0
 simp_all
 have:=(Nat.log2_lt e).mpr h
 lia
section
variable {X:Cx}
def RP:Mg X (Ow .Mult) (rI gP λi j=>.int (i*j)):=opI λ_ _ _ _ _ _ _ G q=>mul_int q G.ok
def ajT:Mg X (Ow .FloorDiv) (rI Q6 λi j=>.int (i.fdiv j)):=opI λi j _ _ _ _ _ J q=>by
 obtain⟨h1,n,G,h2⟩:=J;show floordiv_int h1 q<|.inl<|PyProof.noPylong_of_log2<|aao G h2
def tV:∀{bs:List Bool}{its}{i:Nat}{v},Cg (bs.map V.bl) its->its[i]?=AP v->∃b,bs[i]?=AP b/\v=.bool b
 | [],_,_,_,.nil,e=>by simp at e
 | b::bs,_,0,_,.cons r _,e=>by simp at e;subst e;show⟨b,rfl,r⟩
 | _::bs,_,i+1,v,.cons _ t,e=>by
  obtain⟨b,h1,h2⟩:=tV t (by simpa using e);simp_all
def akt:∀(bs:List Bool),((Rb bs.length).all λi=>(bs[i]?).getD true)=bs.all id:=λbs=>by
 rw[Bool.eq_iff_iff,Vl,Vl];constructor;intro h b J;obtain⟨i,hi,rfl⟩:=List.mem_iff_getElem.mp J
 simp_all
 intro h i hi;have G:=Wa.mp hi;have:=h bs[i] (ZS G)
 simpa[G]using this
def ajQ (a:X.calm=true):jC X (.builtin "all") (λxs H Q=>∃(p:Addr) (bs:List Bool),xs=[.ref p]/\Kr X.K H p (bs.map V.bl)/\Q (.bl (bs.all id)) H):=by
 intro apn s σ H xs us Q I r h;obtain⟨p,bs,rfl,c,q⟩:=h;obtain⟨u,rfl,U⟩:=vals1 r;cases U;obtain⟨its,J,pl,f⟩:=I.list c;have G:its.length=bs.length:=by rw[<-J.length,Ds]
 have hl:=pl.isList;show call_all_walk<|ZV hl ?_
 show{(~~~s),[(~~~s),p],[(~~~s)],its.toArray.size,_,_,λi=>(bs[i]?).getD true,rfl,Walks.list (A:=X.A.in1) (I.ok.hd a) _ p (KC (by obtain⟨_,e,_⟩:=hl;show FP e)) _,
  {{_,Kf _ rfl,rfl,rfl},hl.push _},λi v s' g j d O=>?_,λh' tk Y=>?_}
 obtain⟨b,e,rfl⟩:=tV J (by simpa using d);simp[e]at O;show Za O;have e:((Rb its.toArray.size).all λi=>(bs[i]?).getD true)=bs.all id:=by
  rw[Lf,G];show akt bs
 rw[e];show{.bl _,H,I.kept<|λb x e=>?_,rfl,q};show Y b x (λhm=>by rw[R6.mp hm]at e;show RX _ (FP e))<|FW _ e
end
inductive W where
 | non|bl (b:Bool)|int (i:Int)|str (x:Str)|ty (n:String)|tup (ws:List W)|lst (ws:List W)|loc (n:Nat)|kls (ws:List W)|exc (n:Str)
 | exa (n:Str) (ws:List W)
 | fnv (f:Addr) (i:Nat)
inductive Cell where
 | lst (ws:List W)|obj (C:Addr) (fs:List (Str×W))|dct (kvs:List (Key×W))
 | dtt (kvs:List (List Int×W))
structure Gh where
 nx:Nat
 c:Nat->Option Cell
structure Mu where
 f:Nat->Option Addr
 hid:Addr->Prop
abbrev aiS (K:CQ)(p:Addr)(xs:List V):Prop:=
 ∃(o:Obj) (its:Array Aj) (n:Nat),K.lookup p=AP o/\o.cls=.type "list"/\o.dict=Af/\o.data=.seq its n/\its.size<=El/\Cg xs its.toList
abbrev Frz (H:Hp)(μ:Mu)(p:Addr)(xs:List V):Prop:=H p=AP (.lst xs)/\(∀n,μ.f n≠AP p)/\¬μ.hid p
abbrev Frk (K:CQ)(H:Hp)(p:Addr)(xs:List V):Prop:=(∃o,H p=AP (.frz o (.lst xs)))\/aiS K p xs
variable {μ:Mu}
def Frz.sq {K H}{p}{xs}(h:Frz H μ p xs):Kr K H p xs:=.inl (.inl h.1)
def Frk.sq {K H}{p}{xs}(h:Frk K H p xs):Kr K H p xs:=by
 rcases h with h|h
 show .inl<|.inr h
 show .inr h
@[inline]def Nx:List Aj:=[.type "ValueError",.type "Exception",.type "BaseException",.type "object"]
abbrev nG (K:CQ)(C:Addr)(n:Str):Bool:=La K KH n==AP (AP (.ref C))&&oE K (.ref C)==AP (.type "type")&&match Yh K C with
 | some cd=>cd.name==n&&cd.mro.contains (.type "BaseException")
 | none=>false
abbrev nH (K:CQ)(C:Addr)(n:Str):Bool:=nG K C n&&(match Yh K C with
 | some cd=>(match cd.mro with
  | [.ref C',.ref R,a,b,c,d]=>C'==C&&[a,b,c,d]==Nx&&La K KH "EaselError"==AP (AP (.ref R))&&(Yh K R).any (λc=>c.name==("EaselError" : Str))
  | _=>false)
 | none=>false)&&UG K (.ref C) "__getattribute__"==AP (AP (.builtin "BaseException.__getattribute__"))&&UG K (.ref C) "__getattr__"==AP Af&&UG K (.ref C) "__class__"==AP (AP (.builtin "object.__class__"))&&PySem.W.specialIn K (.builtin "object.__class__") "__get__"==AP (AP (.builtin "getset_descriptor.__get__"))
 && PySem.W.takesIn K (.builtin "object.__class__")==AP true
abbrev Gq (n:Str):List Str:=if n = "Apart" then["word", "places"]else["at"]
abbrev aau (K:CQ)(C:Addr)(n:Str):Bool:=nH K C n&&PySem.W.hasDictIn K C&&(Gq n).all λf=>UG K (.ref C) f==AP Af
abbrev Xoa (K:CQ)(o:Obj)(n:Str)(dd:Addr):Prop:=∃C,o.cls=.ref C/\o.dict=AP dd/\PySem.W.notCls o=true/\aau K C n=true
abbrev Xob (K:CQ)(o:Obj)(n:Str):Prop:=∃C,o.cls=.ref C/\o.dict=Af/\PySem.W.notCls o=true/\nH K C n=true
mutual
noncomputable def DW (K:CQ)(H:Hp)(μ:Mu):W->V->Prop
 | .non,v=>v=.non
 | .bl b,v=>v=.bl b
 | .int i,v=>v=.int i
 | .str x,v=>v=.str x
 | .ty n,v=>v=.ty n
 | .tup ws,v=>∃p xs,v=.ref p/\KJ K H p xs/\aP K H μ ws xs
 | .lst ws,v=>∃p xs,v=.ref p/\Frz H μ p xs/\aP K H μ ws xs
 | .kls ws,v=>∃p xs,v=.ref p/\Frk K H p xs/\aP K H μ ws xs
 | .loc n,v=>∃p,v=.ref p/\μ.f n=AP p
 | .exc n,v=>∃p o u,v=.ref p/\H p=AP (.frz o u)/\Xob K o n
 | .exa n ws,v=>∃p o u dd ns xs,v=.ref p/\H p=AP (.frz o u)/\Xoa K o n dd/\H dd=AP (.xd (List.zip ns xs))/\ns=Gq n/\ns.length=xs.length/\aP K H μ ws xs
 | .fnv f _,v=>v=.ref f
noncomputable def aP (K:CQ)(H:Hp)(μ:Mu):List W->List V->Prop
 | [],xs=>xs=[]
 | w::ws,xs=>∃v vs,xs=v::vs/\DW K H μ w v/\aP K H μ ws vs
end
section
variable {K:CQ}{H H' H1 H2:Hp}{μ' μ1 μ2:Mu}{h h':Gh}{w:W}{ws:List W}{v:V}{xs:List V}
def aP.len:∀{ws xs},aP K H μ ws xs->ws.length=xs.length
 | [],xs,h=>by
  have e:=h;rw[e];rfl
 | w::ws,xs,h=>by
  obtain⟨v,G,e,_,h⟩:=h;rw[e,Od,Od,aP.len h]
def aP.get:∀{ws xs}{i:Nat}{w},aP K H μ ws xs->ws[i]?=AP w->∃v,xs[i]?=AP v/\DW K H μ w v
 | a::ws,xs,0,w,h,e=>by
  obtain⟨v,G,e1,r,_⟩:=h;simp_all
 | a::ws,xs,i+1,w,h,e=>by
  obtain⟨v,G,e1,_,h⟩:=h;subst e1;obtain⟨u,h1,h2⟩:=aP.get h (by simpa using e)
  simp_all
def aP.nil:aP K H μ [] []:=rfl
def aP.cons (r:DW K H μ w v)(h:aP K H μ ws xs):aP K H μ (w::ws) (v::xs):=⟨v,xs,rfl,r,h⟩
def aP.append:∀{ws xs us ys},aP K H μ ws xs->aP K H μ us ys->aP K H μ (ws++us) (xs++ys)
 | [],xs,us,ys,h,g=>by
  subst h;show g
 | w::ws,xs,us,ys,h,g=>by
  obtain⟨v,G,e,r,h⟩:=h;subst e;show aP.cons r<|aP.append h g
def aP.one (r:DW K H μ w v):aP K H μ [w] [v]:=aP.cons r aP.nil
def aP.set (r:DW K H μ w v):∀{ws xs}(i),aP K H μ ws xs->aP K H μ (ws.set i w) (xs.set i v)
 | [],xs,i,h=>by subst h;show aP.nil
 | a::ws,xs,0,h=>by
  obtain⟨u,G,e,_,h⟩:=h;subst e;show aP.cons r h
 | a::ws,xs,i+1,h=>by
  obtain⟨u,G,e,q,h⟩:=h;subst e;show aP.cons q<|aP.set r i h
def aP.take:∀{ws xs}(n),aP K H μ ws xs->aP K H μ (ws.take n) (xs.take n)
 | _,_,0,_=>aP.nil
 | [],xs,n+1,h=>by subst h;show aP.nil
 | a::ws,xs,n+1,h=>by
  obtain⟨u,G,e,q,h⟩:=h;subst e;show aP.cons q<|aP.take n h
def aP.drop:∀{ws xs}(n),aP K H μ ws xs->aP K H μ (ws.drop n) (xs.drop n)
 | _,_,0,h=>h
 | [],xs,n+1,h=>by subst h;show aP.nil
 | a::ws,xs,n+1,h=>by
  obtain⟨u,G,e,q,h⟩:=h;subst e;show aP.drop n h
structure Ex0 (K:CQ) (H:Hp) (μ:Mu) (H':Hp) (μ':Mu):Prop where
 t:∀p xs,KJ K H p xs->KJ K H' p xs
 l:∀p xs,Frz H μ p xs->Frz H' μ' p xs
 k:∀p xs,Frk K H p xs->Frk K H' p xs
 m:∀n p,μ.f n=AP p->μ'.f n=AP p
 x:∀p o u,H p=AP (.frz o u)->H' p=AP (.frz o u)
 y:∀p fs,H p=AP (.xd fs)->H' p=AP (.xd fs)
structure Ex (K:CQ) (H:Hp) (μ:Mu) (H':Hp) (μ':Mu):Prop extends Ex0 K H μ H' μ' where
 o:∀p u,μ.hid p->H p=AP u->μ'.hid p/\H' p=AP u
mutual
theorem DW.ex (e:Ex0 K H μ H' μ'):∀{w:W}{v:V},DW K H μ w v->DW K H' μ' w v
 | .non,_,h=>by rw[DW]at h|-;exact h
 | .bl _,_,h=>by rw[DW]at h|-;exact h
 | .int _,_,h=>by rw[DW]at h|-;exact h
 | .str _,_,h=>by rw[DW]at h|-;exact h
 | .ty _,_,h=>by rw[DW]at h|-;exact h
 | .tup ws,_,h=>by
  rw[DW]at h|-
  obtain⟨p,xs,e1,hs,hr⟩:=h;exact⟨p,xs,e1,e.t _ _ hs,aP.ex e hr⟩
 | .lst ws,_,h=>by
  rw[DW]at h|-
  obtain⟨p,xs,e1,hs,hr⟩:=h;exact⟨p,xs,e1,e.l _ _ hs,aP.ex e hr⟩
 | .kls ws,_,h=>by
  rw[DW]at h|-
  obtain⟨p,xs,e1,hs,hr⟩:=h;exact⟨p,xs,e1,e.k _ _ hs,aP.ex e hr⟩
 | .loc n,_,h=>by
  rw[DW]at h|-
  obtain⟨p,e1,hm⟩:=h;exact⟨p,e1,e.m _ _ hm⟩
 | .exc n,_,h=>by
  rw[DW]at h|-
  obtain⟨p,o,u,e1,hm,hx⟩:=h;exact⟨p,o,u,e1,e.x _ _ _ hm,hx⟩
 | .exa n ws,_,h=>by
  rw[DW]at h|-
  obtain⟨p,o,u,dd,ns,xs,e1,hm,hx,hd,e2,e3,hr⟩:=h;exact⟨p,o,u,dd,ns,xs,e1,e.x _ _ _ hm,hx,e.y _ _ hd,e2,e3,aP.ex e hr⟩
 | .fnv _ _,_,h=>by rw[DW]at h|-;exact h
theorem aP.ex (e:Ex0 K H μ H' μ'):∀{ws:List W}{xs:List V},aP K H μ ws xs->aP K H' μ' ws xs
 | [],_,h=>by rw[aP]at h|-;exact h
 | w::ws,_,h=>by
  rw[aP]at h|-
  obtain⟨v,vs,e1,r,h⟩:=h;exact⟨v,vs,e1,DW.ex e r,aP.ex e h⟩
end
structure K5 (K:CQ) (H:Hp) (μ:Mu) (H':Hp) (μ':Mu):Prop where
 r:∀w v,DW K H μ w v->DW K H' μ' w v
 o:∀p u,μ.hid p->H p=AP u->μ'.hid p/\H' p=AP u
def K5.refl:K5 K H μ H μ:={λ_ _ h=>h,λ_ _ h g=>⟨h,g⟩}
def K5.trans (a:K5 K H μ H1 μ1)(b:K5 K H1 μ1 H2 μ2):K5 K H μ H2 μ2:=
 {λw v h=>b.r w v (a.r w v h),λp u h g=>let⟨h1,G⟩:=a.o p u h g;b.o p u h1 G}
def Ex.ext (e:Ex K H μ H' μ'):K5 K H μ H' μ':={λ_ _ h=>DW.ex e.toEx0 h,e.o}
def K5.s (e:K5 K H μ H' μ'):∀{ws xs},aP K H μ ws xs->aP K H' μ' ws xs
 | [],_,h=>h
 | w::ws,_,h=>by
  obtain⟨v,G,e1,r,h⟩:=h;show{v,G,e1,e.r _ _ r,K5.s e h}
abbrev afB:Option HO->Prop
 | some (.lst _)=>True
 | some (.dK _)=>True
 | some (.ins _ _ _)=>True
 | some (.ext _)=>True
 | _=>False
abbrev vg {κ:Type}(K:CQ)(H:Hp)(μ:Mu):List (κ×W)->List (κ×V)->Prop:=Qv λ(p:κ×W) (q:κ×V)=>p.1=q.1/\DW K H μ p.2 q.2
abbrev aiT (x:List Int×Addr×Aj):Y8:=⟨reduceHash (Builtin.Tuple.tupleHashOf (x.1.map hashInt)),.ref x.2.1,x.2.2⟩
abbrev TF (a:Addr)(xs:List (List Int×Addr×Aj))(h:Heap):Prop:=xs.length<=El/\(a==U0)=false/\(xs.map (·.1)).Nodup/\∃o es ep,h.get? a=AP o/\o.ExactDict/\o.data=.dict es ep/\es.toList=xs.map aiT
abbrev wK (K:CQ)(H:Hp)(μ:Mu)(p:Addr):Cell->Prop
 | .lst ws=>∃xs,H p=AP (.lst xs)/\aP K H μ ws xs
 | .obj C fs=>∃dx fvs,H p=AP (.ins C dx fvs)/\vg K H μ fs fvs
 | .dct kvs=>∃kvv,H p=AP (.dK kvv)/\vg K H μ kvs kvv
 | .dtt kvs=>∃xs vs,H p=AP (.ext (TF p xs))/\kvs.map (·.1)=xs.map (·.1)/\Cg vs (xs.map (·.2.2))/\aP K H μ (kvs.map λx=>W.tup (x.1.map W.int)) (xs.map λx=>V.ref x.2.1)/\aP K H μ (kvs.map (·.2)) vs
structure Dz (K:CQ) (μ:Mu) (H:Hp) (h:Gh):Prop where
 inj:∀m n p,μ.f m=AP p->μ.f n=AP p->m=n
 dom:∀n p,μ.f n=AP p->n<h.nx
 trk:∀n p,μ.f n=AP p->afB (H p)
 cel:∀n c,h.c n=AP c->∃p,μ.f n=AP p/\wK K H μ p c
 hd:∀p,μ.hid p->(∃xs,H p=AP (.lst xs))/\∀n,μ.f n≠AP p
def wK.ext {p c}(e:K5 K H μ H' μ')(G:H' p=H p)(x:wK K H μ p c):wK K H' μ' p c:=by
 cases c with
 | lst ws=>obtain⟨xs,a,b⟩:=x;show{xs,G.trans a,e.s b}
 | obj C fs=>obtain⟨dx,fvs,a,b⟩:=x;show{dx,fvs,G.trans a,Paired.mapP b λ_ _ z=>{z.1,e.r _ _ z.2}}
 | dct kvs=>obtain⟨kvv,a,b⟩:=x;show{kvv,G.trans a,Paired.mapP b λ_ _ z=>{z.1,e.r _ _ z.2}}
 | dtt kvs=>obtain⟨xs,J,a,b,c,d,f⟩:=x;show{xs,J,G.trans a,b,c,e.s d,e.s f}
def Rd.laid {p q o u}(G:H p=Af)(r:Rd H q u):Rd (Dn H p o) q u:=by
 have J:q≠p:=by
  rcases r with r|⟨_,r⟩
  exact aQ r G;exact aQ r G
 unfold Rd
 rwa[aL J]
def Ex.laid {p:Addr}{o:HO}(G:H p=Af):Ex K H μ (Dn H p o) μ where
 t:=λq xs h=>by
  rcases h with h|h
  exact .inl<|h.laid G
  exact .inr h
 l:=λq xs h=>⟨aL (aQ h.1 G) ▸ h.1,h.2⟩
 k:=λq xs h=>by
  rcases h with⟨o',h⟩|h
  exact .inl ⟨o',aL (aQ h G) ▸ h⟩;exact .inr h
 m:=λ_ _ h=>h
 x:=λq o' u e=>aL (aQ e G) ▸ e
 y:=λq fs e=>aL (aQ e G) ▸ e
 o:=λq u z e=>⟨z,aL (aQ e G) ▸ e⟩
def Dz.laid {p:Addr}{o:HO}(R:Dz K μ H h)(G:H p=Af):Dz K μ (Dn H p o) h where
 inj:=R.inj
 dom:=R.dom
 trk:=λn q e=>by
  have:=R.trk n q e
  rw[aL (λz=>by subst z;rw[G]at this;show this)];show this
 cel:=λn c e=>by
  obtain⟨q,e1,x⟩:=R.cel n c e;have:=R.trk n q e1
  show{q,e1,x.ext (Ex.laid G).ext (aL (λz=>by subst z;rw[G]at this;show this))}
 hd:=λq z=>by
  obtain⟨⟨xs,e⟩,g⟩:=R.hd q z;show{{xs,aL (aQ e G) ▸ e},g}
def DW.tupNew {p}(G:H p=Af)(r:aP K H μ ws xs):DW K (Dn H p (.tup xs)) μ (.tup ws) (.ref p):={p,xs,rfl,KJ.of aV,(Ex.laid G).ext.s r}
def DW.lstNew {p}(R:Dz K μ H h)(G:H p=Af)(r:aP K H μ ws xs):DW K (Dn H p (.lst xs)) μ (.lst ws) (.ref p):=by
 show{p,xs,rfl,{aV,λn e=>?_,λz=>?_},(Ex.laid G).ext.s r};have:=R.trk n p e
 rwa[G]at this
 obtain⟨⟨xs,e⟩,_⟩:=R.hd p z;simp_all
abbrev Mu.put (μ:Mu)(n:Nat)(p:Addr):Mu:=⟨λm=>if m=n then AP p else μ.f m,μ.hid⟩
def Mu.put_same {n}{p}:(μ.put n p).f n=AP p:=by change(if n=n then AP p else μ.f n)=_;rw[if_pos rfl]
def Mu.put_ne {n}{p}(e:m≠n):(μ.put n p).f m=μ.f m:=by change(if m=n then AP p else μ.f m)=_;rw[if_neg e]
abbrev Gh.new (h:Gh)(c:Cell):Gh:=⟨h.nx+1,λm=>if m=h.nx then AP c else h.c m⟩
abbrev Gh.set (h:Gh)(n:Nat)(c:Cell):Gh:=⟨h.nx,λm=>if m=n then AP c else h.c m⟩
def Dz.dead (R:Dz K μ H h){n}(G:h.nx<=n):μ.f n=Af:=by
 cases e:μ.f n with
 | none=>rfl
 | some p=>show absurd (R.dom n p e) ⋯
def Ex.newCell {p:Addr}{o:HO}(R:Dz K μ H h)(G:H p=Af):Ex K H μ (Dn H p o) (μ.put h.nx p) where
 t:=λq xs z=>(Ex.laid (μ:=μ) G).t q xs z
 l:=λq xs z=>by
  have O:=aQ z.1 G;show{aL O ▸ z.1,λn e=>?_,z.2.2};by_cases J:n=h.nx
  subst J;rw[Mu.put_same]at e;simp_all
  rw[Mu.put_ne J]at e;show z.2.1 n e
 k:=λq xs z=>(Ex.laid (μ:=μ) G).k q xs z
 m:=λn q e=>by
  rw[Mu.put_ne (λz=>by subst z;rw[R.dead (Em _)]at e;cases e)];show e
 x:=λq o' u e=>aL (aQ e G) ▸ e
 y:=λq fs e=>aL (aQ e G) ▸ e
 o:=λq u z e=>{z,aL (aQ e G) ▸ e}
def Dz.newCell {p:Addr}{o:HO}{c:Cell}(R:Dz K μ H h)(O:H p=Af)(mo:afB (AP o))(i:wK K (Dn H p o) (μ.put h.nx p) p c):Dz K (μ.put h.nx p) (Dn H p o) (h.new c) where
 inj:=λm n q Y J=>by
  by_cases a:m=h.nx
  by_cases G:n=h.nx
  rw[a,G];rw[a,Mu.put_same]at Y;rw[Mu.put_ne G]at J;cases Ky Y
  have:=R.trk n _ J
  rw[O]at this;cases this;rw[Mu.put_ne a]at Y;by_cases G:n=h.nx
  rw[G,Mu.put_same]at J;obtain rfl:=Ky J;have:=R.trk m _ Y
  rw[O]at this;cases this;rw[Mu.put_ne G]at J;show R.inj m n q Y J
 dom:=λn q e=>by
  change n<h.nx+1;by_cases G:n=h.nx
  lia;rw[Mu.put_ne G]at e;have:=R.dom n q e
  lia
 trk:=λn q e=>by
  by_cases G:n=h.nx
  rw[G,Mu.put_same]at e;obtain rfl:=Ky e;rw[aV];show mo;rw[Mu.put_ne G]at e;have:=R.trk n q e
  have U:q≠p:=λz=>by subst z;rw[O]at this;show this
  rw[aL U];show this
 cel:=λn d e=>by
  have e:(if n=h.nx then AP c else h.c n)=AP d:=e;by_cases G:n=h.nx
  rw[if_pos G]at e;obtain rfl:=Ky e;show{p,by rw[G,Mu.put_same],i};rw[if_neg G]at e;obtain⟨q,e1,x⟩:=R.cel n d e;have:=R.trk n q e1
  have U:q≠p:=λz=>by subst z;rw[O]at this;show this
  show{q,by rwa[Mu.put_ne G],x.ext (Ex.newCell R O).ext (aL U)}
 hd:=λq z=>by
  obtain⟨⟨xs,e⟩,g⟩:=R.hd q z;have U:=aQ e O;show{{xs,aL U ▸ e},λn J=>?_};by_cases G:n=h.nx
  rw[G,Mu.put_same]at J;grind
  rw[Mu.put_ne G]at J;show g n J
def Rd.kept {p q o u}(mo:afB (H p))(r:Rd H q u)(G:q≠p):Rd (Dn H p o) q u:=by
 unfold Rd
 rwa[aL G]
def Ex.write {n:Nat}{p:Addr}{o:HO}(R:Dz K μ H h)(G:μ.f n=AP p):Ex K H μ (Dn H p o) μ where
 t:=λq xs z=>by
  rcases z with z|z
  refine .inl<|z.kept (R.trk n p G) λe=>?_
  subst e;have:=R.trk n q G
  rcases z with r|⟨_,r⟩<;>rw[r]at this<;>exact this
  exact .inr z
 l:=λq xs z=>⟨by rw[aL (λe=>z.2.1 n (by rwa[e]))];exact z.1,z.2⟩
 k:=λq xs z=>by
  rcases z with⟨o',z⟩|z
  refine .inl ⟨o',?_⟩;rw[aL (λe=>?_)];exact z;subst e;have:=R.trk n q G
  rwa[z]at this
  exact .inr z
 m:=λ_ _ e=>e
 x:=λq o' u e=>by
  rw[aL (λy=>?_)];exact e;subst y;have:=R.trk n q G
  rwa[e]at this
 y:=λq fs e=>by
  rw[aL (λy=>?_)];exact e;subst y;have:=R.trk n q G
  rwa[e]at this
 o:=λq u z e=>⟨z,by rw[aL (λy=>(R.hd q z).2 n (by rwa[y]))];exact e⟩
def Dz.write {n:Nat}{p:Addr}{o:HO}{c:Cell}(R:Dz K μ H h)(G:μ.f n=AP p)(mo:afB (AP o))(b:wK K (Dn H p o) μ p c):Dz K μ (Dn H p o) (h.set n c) where
 inj:=R.inj
 dom:=R.dom
 trk:=λm q e=>by
  by_cases z:q=p
  subst z;rw[aV];show mo;rw[aL z];show R.trk m q e
 cel:=λm d e=>by
  have e:(if m=n then AP c else h.c m)=AP d:=e;by_cases J:m=n
  simp_all
  rw[if_neg J]at e;obtain⟨q,e1,x⟩:=R.cel m d e;show{q,e1,x.ext (Ex.write R G).ext (aL (λz=>by subst z;show J (R.inj m n q e1 G)))}
 hd:=λq z=>by
  obtain⟨⟨xs,e⟩,g⟩:=R.hd q z;show{{xs,by rw[aL<|λy=>g n<|by rwa[y]];show e},g}
mutual
noncomputable def Lo (k:Nat):W->Prop
 | .tup ws=>Ln k ws
 | .lst ws=>Ln k ws
 | .kls ws=>Ln k ws
 | .exa _ ws=>Ln k ws
 | .loc n=>n<k
 | _=>True
noncomputable def Ln (k:Nat):List W->Prop
 | []=>True
 | w::ws=>Lo k w/\Ln k ws
end
mutual
theorem DW.lo {k:Nat}(hd:∀n p,μ.f n=AP p->n<k):∀{w:W}{v:V},DW K H μ w v->Lo k w
 | .non,_,_=>by rw[Lo]<;>first|trivial|(intros;contradiction)
 | .bl _,_,_=>by rw[Lo]<;>first|trivial|(intros;contradiction)
 | .int _,_,_=>by rw[Lo]<;>first|trivial|(intros;contradiction)
 | .str _,_,_=>by rw[Lo]<;>first|trivial|(intros;contradiction)
 | .ty _,_,_=>by rw[Lo]<;>first|trivial|(intros;contradiction)
 | .exc _,_,_=>by rw[Lo]<;>first|trivial|(intros;contradiction)
 | .fnv _ _,_,_=>by rw[Lo]<;>first|trivial|(intros;contradiction)
 | .exa _ ws,_,h=>by
  rw[DW]at h;obtain⟨_,_,_,_,_,_,_,_,_,_,_,_,hr⟩:=h;rw[Lo];exact aP.lo hd hr
 | .tup ws,_,h=>by
  rw[DW]at h;obtain⟨p,xs,_,_,hr⟩:=h;rw[Lo];exact aP.lo hd hr
 | .lst ws,_,h=>by
  rw[DW]at h;obtain⟨p,xs,_,_,hr⟩:=h;rw[Lo];exact aP.lo hd hr
 | .kls ws,_,h=>by
  rw[DW]at h;obtain⟨p,xs,_,_,hr⟩:=h;rw[Lo];exact aP.lo hd hr
 | .loc n,_,h=>by
  rw[DW]at h;obtain⟨p,_,hm⟩:=h;rw[Lo];exact hd n p hm
theorem aP.lo {k:Nat}(hd:∀n p,μ.f n=AP p->n<k):∀{ws:List W}{xs:List V},aP K H μ ws xs->Ln k ws
 | [],_,_=>by rw[Ln];trivial
 | w::ws,_,h=>by
  rw[aP]at h;obtain⟨v,vs,_,r,h⟩:=h;rw[Ln];exact⟨DW.lo hd r,aP.lo hd h⟩
end
abbrev Mu.cut (μ:Mu)(k:Nat):Mu:=⟨λn=>if n<k then μ.f n else Af,μ.hid⟩
def Mu.cut_some {k n p}(e:(μ.cut k).f n=AP p):n<k/\μ.f n=AP p:=by
 have e:(if n<k then μ.f n else Af)=AP p:=e;simp_all
mutual
theorem DW.cut {k:Nat}:∀{w:W}{v:V},DW K H μ w v->Lo k w->DW K H (μ.cut k) w v
 | .non,_,h,_=>by rw[DW]at h|-;exact h
 | .bl _,_,h,_=>by rw[DW]at h|-;exact h
 | .int _,_,h,_=>by rw[DW]at h|-;exact h
 | .str _,_,h,_=>by rw[DW]at h|-;exact h
 | .ty _,_,h,_=>by rw[DW]at h|-;exact h
 | .exc _,_,h,_=>by rw[DW]at h|-;exact h
 | .fnv _ _,_,h,_=>by rw[DW]at h|-;exact h
 | .exa _ ws,_,h,l=>by
  rw[DW]at h|-
  rw[Lo]at l;obtain⟨p,o,u,dd,ns,xs,e1,hm,hx,hd,e2,e3,hr⟩:=h;exact⟨p,o,u,dd,ns,xs,e1,hm,hx,hd,e2,e3,aP.cut hr l⟩
 | .tup ws,_,h,l=>by
  rw[DW]at h|-
  rw[Lo]at l;obtain⟨p,xs,e1,hs,hr⟩:=h;exact⟨p,xs,e1,hs,aP.cut hr l⟩
 | .lst ws,_,h,l=>by
  rw[DW]at h|-
  rw[Lo]at l;obtain⟨p,xs,e1,hs,hr⟩:=h;exact⟨p,xs,e1,⟨hs.1,λn e=>hs.2.1 n (Mu.cut_some e).2,hs.2.2⟩,aP.cut hr l⟩
 | .kls ws,_,h,l=>by
  rw[DW]at h|-
  rw[Lo]at l;obtain⟨p,xs,e1,hs,hr⟩:=h;exact⟨p,xs,e1,hs,aP.cut hr l⟩
 | .loc n,_,h,l=>by
  rw[DW]at h|-
  rw[Lo]at l;obtain⟨p,e1,hm⟩:=h;refine⟨p,e1,?_⟩;change(if n<k then μ.f n else Af)=AP p;rw[if_pos l];exact hm
theorem aP.cut {k:Nat}:∀{ws:List W}{xs:List V},aP K H μ ws xs->Ln k ws->aP K H (μ.cut k) ws xs
 | [],_,h,_=>by rw[aP]at h|-;exact h
 | w::ws,_,h,l=>by
  rw[aP]at h|-
  rw[Ln]at l;obtain⟨v,vs,e1,r,h⟩:=h;exact⟨v,vs,e1,DW.cut r l.1,aP.cut h l.2⟩
end
end
variable {ws:List W}{μ' μ1:Mu}
section
variable {K:CQ}{H H' H1 H2:Hp}{μ2:Mu}{h h':Gh}{w:W}{v:V}{xs ys:List V}{p:Addr}
abbrev Mu.hide (μ:Mu)(p:Addr):Mu:=⟨μ.f,λq=>q=p\/μ.hid q⟩
abbrev Mu.unhide (μ:Mu)(p:Addr):Mu:=⟨μ.f,λq=>q≠p/\μ.hid q⟩
structure abz (p:Addr) (K:CQ) (H:Hp) (μ:Mu) (H':Hp) (μ':Mu):Prop where
 r:∀w v,DW K H μ w v->DW K H' μ' w v
 o:∀q u,q≠p->μ.hid q->H q=AP u->μ'.hid q/\H' q=AP u
def K5.x (a:K5 K H μ H1 μ1)(J:¬μ.hid p)(b:abz p K H1 μ1 H2 μ2):K5 K H μ H2 μ2:=
 {λw v z=>b.r w v (a.r w v z),λq u z e=>let⟨G,e1⟩:=a.o q u z e;b.o q u (λy=>J (y ▸ z)) G e1}
def K5.hide {o}(G:H p=Af):K5 K H μ (Dn H p o) (μ.hide p):=Ex.ext {
 t:=λq xs z=>(Ex.laid (μ:=μ) G).t q xs z
 l:=λq xs z=>by
  have J:=aQ z.1 G;show{aL J ▸ z.1,z.2.1,λy=>?_};rcases y with y|y
  show J y;show z.2.2 y
 k:=λq xs z=>(Ex.laid (μ:=μ) G).k q xs z
 m:=λ_ _ e=>e
 x:=λq o' u e=>aL (aQ e G) ▸ e
 y:=λq fs e=>aL (aQ e G) ▸ e
 o:=λq u z e=>{.inr z,aL (aQ e G) ▸ e}}
def Dz.nohid (R:Dz K μ H h)(G:H p=Af):¬μ.hid p:=λz=>by
 obtain⟨⟨xs,e⟩,_⟩:=R.hd p z;simp_all
def Dz.hide (R:Dz K μ H h)(G:H p=Af):Dz K (μ.hide p) (Dn H p (.lst xs)) h where
 inj:=R.inj
 dom:=R.dom
 trk:=(R.laid G).trk
 cel:=λn c e=>by
  obtain⟨q,e1,x⟩:=R.cel n c e;have:=R.trk n q e1
  show{q,e1,x.ext (K5.hide G)<|aL (λz=>by subst z;rw[G]at this;show this)}
 hd:=λq z=>by
  rcases z with z|z
  subst z;show{⟨xs,aV⟩,λn e=>?_};have:=R.trk n q e
  rwa[G]at this
  show(R.laid G).hd q z
def Ex0.grow (R:Dz K μ H h)(J:μ.hid p):Ex0 K H μ (Dn H p (.lst ys)) μ where
 t:=λq xs z=>by
  rcases z with z|z
  show .inl ?_;unfold Rd;rw[aL (λy=>?_)];show z;subst y;obtain⟨⟨G,e⟩,_⟩:=R.hd q J;rcases z with r|⟨_,r⟩<;>rw[e]at r<;>cases r
  show .inr z
 l:=λq xs z=>{by rw[aL (λy=>z.2.2 (by rwa[y]))];show z.1,z.2}
 k:=λq xs z=>by
  rcases z with⟨o',z⟩|z
  show .inl {o',?_};rw[aL (λy=>?_)];show z;subst y;obtain⟨⟨G,e⟩,_⟩:=R.hd q J;simp_all
  show .inr z
 m:=λ_ _ e=>e
 x:=λq o' u e=>by
  rw[aL (λy=>?_)];show e;subst y;obtain⟨⟨G,e'⟩,_⟩:=R.hd q J;simp_all
 y:=λq fs e=>by
  rw[aL (λy=>?_)];show e;subst y;obtain⟨⟨G,e'⟩,_⟩:=R.hd q J;simp_all
def abz.grow (R:Dz K μ H h)(J:μ.hid p):abz p K H μ (Dn H p (.lst ys)) μ:=
 {λ_ _ z=>DW.ex (Ex0.grow R J) z,λq u G z e=>{z,aL G ▸ e}}
def Dz.grow (R:Dz K μ H h)(G:μ.hid p):Dz K μ (Dn H p (.lst ys)) h where
 inj:=R.inj
 dom:=R.dom
 trk:=λn q e=>by
  have J:q≠p:=λz=>(R.hd p G).2 n (z ▸ e)
  rw[aL J];show R.trk n q e
 cel:=λn c e=>by
  obtain⟨q,e1,x⟩:=R.cel n c e;have J:q≠p:=λz=>(R.hd p G).2 n (z ▸ e1)
  show{q,e1,?_};cases c with
  | lst ws=>obtain⟨xs,a,b⟩:=x;show{xs,(aL J).trans a,aP.ex (Ex0.grow R G) b}
  | obj C fs=>obtain⟨dx,fvs,a,b⟩:=x;show{dx,fvs,(aL J).trans a,Paired.mapP b λ_ _ z=>{z.1,DW.ex (Ex0.grow R G) z.2}}
  | dct kvs=>obtain⟨kvv,a,b⟩:=x;show{kvv,(aL J).trans a,Paired.mapP b λ_ _ z=>{z.1,DW.ex (Ex0.grow R G) z.2}}
  | dtt kvs=>obtain⟨xs,O,a,b,c,d,f⟩:=x;show{xs,O,(aL J).trans a,b,c,aP.ex (Ex0.grow R G) d,aP.ex (Ex0.grow R G) f}
 hd:=λq z=>by
  by_cases e:q=p
  subst e;show{⟨ys,aV⟩,(R.hd q G).2};rw[aL e];show R.hd q z
def Ex0.unhide:Ex0 K H μ H (μ.unhide p) where
 t:=λ_ _ z=>z
 l:=λq xs z=>{z.1,z.2.1,λy=>z.2.2 y.2}
 k:=λ_ _ z=>z
 m:=λ_ _ e=>e
 x:=λ_ _ _ e=>e
 y:=λ_ _ e=>e
def abz.unhide:abz p K H μ H (μ.unhide p):={λ_ _ z=>DW.ex Ex0.unhide z,λq u G z e=>{⟨G,z⟩,e}}
def Dz.unhide (R:Dz K μ H h):Dz K (μ.unhide p) H h where
 inj:=R.inj
 dom:=R.dom
 trk:=R.trk
 cel:=λn c e=>by
  obtain⟨q,e1,x⟩:=R.cel n c e;show{q,e1,?_};cases c with
  | lst ws=>obtain⟨xs,a,b⟩:=x;show{xs,a,aP.ex Ex0.unhide b}
  | obj C fs=>obtain⟨dx,fvs,a,b⟩:=x;show{dx,fvs,a,Paired.mapP b λ_ _ z=>{z.1,DW.ex Ex0.unhide z.2}}
  | dct kvs=>obtain⟨kvv,a,b⟩:=x;show{kvv,a,Paired.mapP b λ_ _ z=>{z.1,DW.ex Ex0.unhide z.2}}
  | dtt kvs=>obtain⟨xs,G,a,b,c,d,f⟩:=x;show{xs,G,a,b,c,aP.ex Ex0.unhide d,aP.ex Ex0.unhide f}
 hd:=λq z=>R.hd q z.2
def DW.built (R:Dz K μ H h)(G:μ.hid p)(e:H p=AP (.lst xs))(r:aP K H μ ws xs):DW K H (μ.unhide p) (.lst ws) (.ref p):={p,xs,rfl,{e,(R.hd p G).2,λz=>z.1 rfl},aP.ex Ex0.unhide r}
end
@[reducible]noncomputable def Sw:=List (Option W)
@[reducible]noncomputable def WK:=W->Gh->Prop
@[reducible]noncomputable def ME:=Sw->Gh->WK->Prop
@[reducible]noncomputable def MT:=Sw->Gh->(Bool->Gh->Prop)->Prop
@[reducible]noncomputable def MA:=Sw->Gh->(List W->Gh->Prop)->Prop
structure cH where
 nx:Sw->Gh->Prop
 rt:WK
 bk:Sw->Gh->Prop:=λ_ _=>False
 ct:Sw->Gh->Prop:=λ_ _=>False
@[reducible]noncomputable def MS:=cH->Sw->Gh->Prop
@[reducible]noncomputable def MG:=W->Sw->Gh->(Sw->Gh->Prop)->Prop
@[reducible]noncomputable def Vr:=List W->Sw->Gh->(Sw->Gh->Prop)->Prop
structure Xw where
 cls:Str
 fs:List (Str×W)
@[reducible]noncomputable def Ci:=Xw->Gh->Prop
@[reducible]noncomputable def Aw:=List W->Gh->WK->Ci->Prop
abbrev EF:Ci:=λ_ _=>False
structure Slots (K:CQ) (H:Hp) (μ:Mu) (σw:Sw) (σ:St):Prop where
 len:σw.length=σ.length
 get:∀(i:Nat) (w:W),σw[i]?=AP (AP w)->∃v,σ[i]?=AP (AP v)/\DW K H μ w v
inductive DQ (K:CQ) (H:Hp) (μ:Mu) (Q:WK) (v:V) (H':Hp):Prop where
 | mk (μ':Mu) (w:W) (h':Gh) (e:K5 K H μ H' μ') (R:Dz K μ' H' h') (r:DW K H' μ' w v) (q:Q w h'):DQ K H μ Q v H'
inductive DB (K:CQ) (H:Hp) (μ:Mu) (Q:Bool->Gh->Prop) (b:Bool) (H':Hp):Prop where
 | mk (μ':Mu) (h':Gh) (e:K5 K H μ H' μ') (R:Dz K μ' H' h') (q:Q b h'):DB K H μ Q b H'
inductive DA (K:CQ) (H:Hp) (μ:Mu) (Q:List W->Gh->Prop) (vs:List V) (H':Hp):Prop where
 | mk (μ':Mu) (ws:List W) (h':Gh) (e:K5 K H μ H' μ') (R:Dz K μ' H' h') (r:aP K H' μ' ws vs) (q:Q ws h'):DA K H μ Q vs H'
inductive DN (K:CQ) (H:Hp) (μ:Mu) (N:Sw->Gh->Prop) (σ':St) (H':Hp):Prop where
 | mk (μ':Mu) (σw':Sw) (h':Gh) (e:K5 K H μ H' μ') (R:Dz K μ' H' h') (S:Slots K H' μ' σw' σ') (q:N σw' h'):DN K H μ N σ' H'
section
variable {K:CQ}{H H' H1 H2:Hp}{μ2:Mu}{h h' h1:Gh}{w:W}{v:V}{σ:St}{σw:Sw}
def Slots.ext (S:Slots K H μ σw σ)(e:K5 K H μ H' μ'):Slots K H' μ' σw σ:={S.len,λi w q=>let⟨v,a,b⟩:=S.get i w q;{v,a,e.r _ _ b}}
def Slots.set (S:Slots K H μ σw σ)(r:DW K H μ w v)(i):Slots K H μ (σw.set i (AP w)) (σ.set i (AP v)):=by
 show{by rw[Zt,Zt,S.len],λj u q=>?_};rw[List.getElem?_set]at q|-
 by_cases G:i=j
 rw[if_pos G]at q|-
 by_cases hl:i < σw.length
 rw[if_pos hl]at q;rw[if_pos (S.len ▸ hl)];simp_all
 simp_all
 rw[if_neg G]at q|-
 show S.get j u q
def DQ.trans {Q}(e:K5 K H μ H1 μ1)(q:DQ K H1 μ1 Q v H'):DQ K H μ Q v H':=let⟨μ',w,h',a,b,c,d⟩:=q;{μ',w,h',e.trans a,b,c,d}
def DB.trans {Q b}(e:K5 K H μ H1 μ1)(q:DB K H1 μ1 Q b H'):DB K H μ Q b H':=let⟨μ',h',a,b,c⟩:=q;{μ',h',e.trans a,b,c}
def DN.trans {N σ'}(e:K5 K H μ H1 μ1)(q:DN K H1 μ1 N σ' H'):DN K H μ N σ' H':=let⟨μ',w,h',a,b,c,d⟩:=q;{μ',w,h',e.trans a,b,c,d}
end
variable {σw:Sw}
inductive tD (K:CQ) (m:ME) (σ:St) (H:Hp) (Q:VK):Prop where
 | mk (μ:Mu) (h:Gh) (σw:Sw) (Qw:WK) (R:Dz K μ H h) (S:Slots K H μ σw σ) (x:m σw h Qw) (k:∀v H',DQ K H μ Qw v H'->Q v H'):tD K m σ H Q
inductive tDT (K:CQ) (m:MT) (σ:St) (H:Hp) (Q:Bool->Hp->Prop):Prop where
 | mk (μ:Mu) (h:Gh) (σw:Sw) (Qw:Bool->Gh->Prop) (R:Dz K μ H h) (S:Slots K H μ σw σ) (x:m σw h Qw) (k:∀b H',DB K H μ Qw b H'->Q b H'):tDT K m σ H Q
inductive tDA (K:CQ) (m:MA) (σ:St) (H:Hp) (Q:List V->Hp->Prop):Prop where
 | mk (μ:Mu) (h:Gh) (σw:Sw) (Qw:List W->Gh->Prop) (R:Dz K μ H h) (S:Slots K H μ σw σ) (x:m σw h Qw) (k:∀vs H',DA K H μ Qw vs H'->Q vs H'):tDA K m σ H Q
inductive tDG (K:CQ) (g:MG) (v:V) (σ:St) (H:Hp) (N:St->Hp->Prop):Prop where
 | mk (μ:Mu) (h:Gh) (σw:Sw) (w:W) (Nw:Sw->Gh->Prop) (R:Dz K μ H h) (S:Slots K H μ σw σ) (r:DW K H μ w v) (x:g w σw h Nw) (k:∀σ' H',DN K H μ Nw σ' H'->N σ' H'):tDG K g v σ H N
inductive ahA (K:CQ) (g:Vr) (vs:List V) (σ:St) (H:Hp) (N:St->Hp->Prop):Prop where
 | mk (μ:Mu) (h:Gh) (σw:Sw) (ws:List W) (Nw:Sw->Gh->Prop) (R:Dz K μ H h) (S:Slots K H μ σw σ) (r:aP K H μ ws vs) (x:g ws σw h Nw) (k:∀σ' H',DN K H μ Nw σ' H'->N σ' H'):ahA K g vs σ H N
structure BP (K:CQ) (H:Hp) (μ:Mu) (Dw:cH) (D:Ends):Prop where
 nx:∀σ' H',DN K H μ Dw.nx σ' H'->D.nx σ' H'
 rt:∀v H',DQ K H μ Dw.rt v H'->D.rt v H'
 bk:∀σ' H',DN K H μ Dw.bk σ' H'->D.bk σ' H'
 ct:∀σ' H',DN K H μ Dw.ct σ' H'->D.ct σ' H'
inductive tDS (K:CQ) (m:MS) (D:Ends) (σ:St) (H:Hp):Prop where
 | mk (μ:Mu) (h:Gh) (σw:Sw) (Dw:cH) (R:Dz K μ H h) (S:Slots K H μ σw σ) (x:m Dw σw h) (k:BP K H μ Dw D):tDS K m D σ H
def BP.trans {K}{H H1 μ μ1 Dw}{D}(k:BP K H μ Dw D)(e:K5 K H μ H1 μ1):BP K H1 μ1 Dw D:=
 {λ_ _ q=>k.nx _ _ (q.trans e),λ_ _ q=>k.rt _ _ (q.trans e),λ_ _ q=>k.bk _ _ (q.trans e),λ_ _ q=>k.ct _ _ (q.trans e)}
section
variable {X:Cx}{e:Expr}{es:List Expr}{st:Stmt}{sts:List Stmt}
def PE.of {t t'}(h:PE X e t)(k:∀σ H Q,t' σ H Q->t σ H Q):PE X e t':=λapn s σ H Q I q=>h apn s σ H Q I (k σ H Q q)
def PT.of {t t'}(h:PT X e t)(k:∀σ H Q,t' σ H Q->t σ H Q):PT X e t':=λapn s σ H Q I q=>h apn s σ H Q I (k σ H Q q)
def PW.of {t t'}(h:PW X e t)(k:∀σ H Q,t' σ H Q->t σ H Q):PW X e t':=λwh apn s σ H Q I q=>h wh apn s σ H Q I (k σ H Q q)
def PA.of {t t'}(h:PA X es t)(k:∀σ H Q,t' σ H Q->t σ H Q):PA X es t':=λpos apn s σ H Q I q=>h pos apn s σ H Q I (k σ H Q q)
def PG.of {t t'}(h:PG X e t)(k:∀v σ H Q,t' v σ H Q->t v σ H Q):PG X e t':=λapn s σ H v u Q I r q=>h apn s σ H v u Q I r (k v σ H Q q)
def X7.of {t t'}(h:X7 X es t)(k:∀v σ H Q,t' v σ H Q->t v σ H Q):X7 X es t':=λapn s σ H v u Q I r q=>h apn s σ H v u Q I r (k v σ H Q q)
def PS.of {t t'}(h:PS X st t)(k:∀D σ H,t' D σ H->t D σ H):PS X st t':=λapn s σ H D I q=>h apn s σ H D I (k D σ H q)
def Qn.of {t t'}(h:Qn X sts t)(k:∀D σ H,t' D σ H->t D σ H):Qn X sts t':=λapn s σ H D I q=>h apn s σ H D I (k D σ H q)
end
@[reducible]noncomputable def DE (X:Cx)(e:Expr)(m:ME):Prop:=PE X e (tD X.K m)
@[reducible]noncomputable def DT (X:Cx)(e:Expr)(m:MT):Prop:=PT X e (tDT X.K m)
@[reducible]noncomputable def DWt (X:Cx)(e:Expr)(m:MT):Prop:=PW X e (tDT X.K m)
@[reducible]noncomputable def Mp (X:Cx)(es:List Expr)(m:MA):Prop:=PA X es (tDA X.K m)
@[reducible]noncomputable def DG (X:Cx)(e:Expr)(m:MG):Prop:=PG X e (tDG X.K m)
@[reducible]noncomputable def afx (X:Cx)(es:List Expr)(m:Vr):Prop:=X7 X es (ahA X.K m)
@[reducible]noncomputable def DS (X:Cx)(st:Stmt)(m:MS):Prop:=PS X st (tDS X.K m)
@[reducible]noncomputable def VH (X:Cx)(st:List Stmt)(m:MS):Prop:=Qn X st (tDS X.K m)
section
variable {X:Cx}{e a b c:Expr}{ma mb mc:ME}{pos:Pos}
abbrev ao (i:Nat):ME:=fun σ h Q=>match σ[i]? with
 | some (AP w)=>Q w h
 | _=>False
abbrev mC (w:W):ME:=λ_ h Q=>Q w h
def dv (i)(G:PE X e (aeQ i)):DE X e (ao i):=G.of fun σ H Q a=>by
 obtain⟨μ,h,σw,J,R,S,m,k⟩:=a;unfold ao at m;cases q:σw[i]? with
 | none=>rw[q]at m;show m.elim
 | some o=>
  rw[q]at m;cases o with
  | none=>cases m
  | some w=>
   obtain⟨v,h1,h2⟩:=S.get i w q;show{v,h1,k _ _ {μ,w,h,.refl,R,h2,m}}
def dc {w v}(G:PE X e (tC v))(r:∀H μ,DW X.K H μ w v):DE X e (mC w):=G.of fun σ H Q a=>by obtain⟨μ,h,σw,J,R,S,m,k⟩:=a;show k _ _ {μ,w,h,.refl,R,r H μ,m}
def aA {i}{j pos}:DE X (.Constant (.int i) j pos) (mC (.int i)):=dc ae7 λ_ _=>by rw[DW]
def ad1 {i}{j pos}:DE X (.Constant (.bool i) j pos) (mC (.bl i)):=dc agM λ_ _=>by rw[DW]
def En {j pos}:DE X (.Constant .none j pos) (mC .non):=dc aed λ_ _=>by rw[DW]
def bI {i}{j pos}:DE X (.Constant (.str i) j pos) (mC (.str i)):=dc W5 λ_ _=>by rw[DW]
@[reducible]noncomputable def M2:=W->W->Gh->WK->Prop
abbrev Av (r:M2)(ma mb:ME):ME:=fun σ h Q=>ma σ h λx h1=>mb σ h1 λy h2=>r x y h2 Q
abbrev ahI (K:CQ)(r:R2)(mr:M2):Prop:=∀{H:Hp}{μ:Mu}{h:Gh}{x y:V}{J G:W}{O:WK}{Q:VK},Dz K μ H h->DW K H μ J x->DW K H μ G y->mr J G h O ->
 (∀v H',DQ K H μ O v H'->Q v H')->r x y H Q
def two {K σ H Q}{mr}{G:V->V->Hp->Prop}(h:tD K (Av mr ma mb) σ H Q)
  (k:∀{H2 μ2 h2 x y}{O J U},Dz K μ2 H2 h2->DW K H2 μ2 O x->DW K H2 μ2 J y->mr O J h2 U->(∀v H',DQ K H2 μ2 U v H'->Q v H')->G x y H2) :
  tD K ma σ H λx H1=>tD K mb σ H1 λy H2=>G x y H2:=by
 obtain⟨μ,g,σw,U,R,S,m,q⟩:=h;show{μ,g,σw,_,R,S,m,λx H1 a=>by obtain⟨μ1,O,h1,e1,d,c,m1⟩:=a;show {μ1,h1,σw,_,d,S.ext e1,m1,λy H2 b=>by obtain⟨μ2,J,h2,e2,R2,Y,m2⟩:=b;show (k R2 (e2.r _ _ c) Y m2 λv H' z=>q _ _<|(z.trans e2).trans e1)}}
abbrev Oz (X:Cx)(f:Aj->Aj->Sem Aj)(mr:M2):Prop:=∃r,Mg X f r/\ahI X.K r mr
def bF {G mr}(U:Oz X (Ow G) mr)(c:DE X a ma)(Y:DE X b mb):DE X (.BinOp a G b pos) (Av mr ma mb):=by
 obtain⟨r,o,s⟩:=U;show(afL o c Y).of fun σ H Q h=>two h λR O J m k=>s R O J m k
def af5 {G mr}(U:Oz X (Oi G) mr)(d:DE X a ma)(c:DE X b mb)(Y:Yc G b=false):DE X (.Compare a [G] [b] pos) (Av mr ma mb):=by
 obtain⟨r,o,s⟩:=U;show(aaw o d c Y).of fun σ H Q h=>two h λR O J m k=>s R O J m k
abbrev bw (m:ME):MT:=fun σ h Q=>m σ h λw h1=>match w with
 | .bl c=>Q c h1
 | _=>False
def aaX {K σ H m}{Q}(h:tDT K (bw m) σ H Q):tD K m σ H λx H'=>∃k,x=.bl k/\Q k H':=by
 obtain⟨μ,g,σw,O,R,S,mm,q⟩:=h;show{μ,g,σw,_,R,S,mm,λv H' a=>?_};obtain⟨μ1,w,h1,e1,J,G,m1⟩:=a;cases w with
 | bl c=>rw[DW]at G;show{c,G,q _ _ ⟨μ1,h1,e1,J,m1⟩}
 | _=>show m1.elim
def WD {G mr}(U:Oz X (Oi G) mr)(d:DE X a ma)(c:DE X b mb)(Y:Yc G b=false):DT X (.Compare a [G] [b] pos) (bw (Av mr ma mb)):=by
 obtain⟨r,o,s⟩:=U;show(anh o d c Y).of fun σ H Q h=>two (aaX h) λR O J m k=>s R O J m k
abbrev Lg (c:Bool)(a b:Prop):Prop:=match c with
 | true=>a
 | false=>b
abbrev br (c:Bool)(a b:Prop):Prop:=(c=true->a)/\(c=false->b)
def rG {c}{a b}(e:c=true)(x:a):br c a b:={λ_=>x,λz=>by rw[e]at z;cases z}
def gM {c}{a b}(e:c=false)(x:b):br c a b:={λz=>(by rw[e]at z;cases z),λ_=>x}
def J8 {c}[Decidable c]{a b}(x:c->a)(y:¬c->b):br (decide c) a b:={λe=>x (of_decide_eq_true e),λe=>y (of_decide_eq_false e)}
abbrev afe (t u:MT):MT:=fun σ h Q=>t σ h λc h1=>br c (u σ h1 Q) (Q false h1)
abbrev mOr (t u:MT):MT:=fun σ h Q=>t σ h λc h1=>br c (Q true h1) (u σ h1 Q)
abbrev aaS (t:MT):MT:=fun σ h Q=>t σ h λc h1=>Q (!c) h1
variable {tA tB':MT}{rest:List Expr}
def Du (G:DT X a tA):DWt X (.BoolOp .And [a] pos) tA:=aac G
def GZ (G:DT X a tA):DWt X (.BoolOp .Or [a] pos) tA:=adA G
def Pj (O:DT X a tA)(J:DWt X (.BoolOp .And (b::rest) pos) tB'):DWt X (.BoolOp .And (a::b::rest) pos) (afe tA tB'):=(adx O J).of fun σ H Q e=>by
 obtain⟨μ,g,σw,U,R,S,m,q⟩:=e;show{μ,g,σw,_,R,S,m,λc H1 d=>?_};obtain⟨μ1,h1,e1,G,m1⟩:=d;cases c with
 | true=>
  show{μ1,h1,σw,_,G,S.ext e1,m1.1 rfl,λb H' z=>q _ _<|z.trans e1}
 | false=>
  show q _ _ {μ1,h1,e1,G,m1.2 rfl}
def Uv (O:DT X a tA)(J:DWt X (.BoolOp .Or (b::rest) pos) tB'):DWt X (.BoolOp .Or (a::b::rest) pos) (mOr tA tB'):=(agR O J).of fun σ H Q e=>by
 obtain⟨μ,g,σw,U,R,S,m,q⟩:=e;show{μ,g,σw,_,R,S,m,λc H1 d=>?_};obtain⟨μ1,h1,e1,G,m1⟩:=d;cases c with
 | true=>
  show q _ _ {μ1,h1,e1,G,m1.1 rfl}
 | false=>
  show{μ1,h1,σw,_,G,S.ext e1,m1.2 rfl,λb H' z=>q _ _<|z.trans e1}
def Ab (G:DT X a tA):DT X (.UnaryOp .Not a pos) (aaS tA):=(acC G).of fun σ H Q ⟨μ,g,σw,O,R,S,m,q⟩=>
 {μ,g,σw,_,R,S,m,λc H1 b=>by obtain⟨μ1,h1,e1,J,m1⟩:=b;show q _ _ ⟨μ1,h1,e1,J,m1⟩}
abbrev Qi (a b:ME):ME:=fun σ h Q=>a σ h λx h1=>match x with
 | .bl true=>b σ h1 Q
 | .bl false=>Q (.bl false) h1
 | _=>False
abbrev afE (a b:ME):ME:=fun σ h Q=>a σ h λx h1=>match x with
 | .bl false=>b σ h1 Q
 | .bl true=>Q (.bl true) h1
 | _=>False
abbrev Yk (a:ME):ME:=fun σ h Q=>a σ h λx h1=>match x with
 | .bl c=>Q (.bl (!c)) h1
 | _=>False
def Zf {G}(h:DE X a ma):DE X (.BoolOp G [a] pos) ma:=ac8 h
def Yn (U:DE X a ma)(O:DE X (.BoolOp .And (b::rest) pos) mb):DE X (.BoolOp .And (a::b::rest) pos) (Qi ma mb):=(abK U O).of fun σ H Q e=>by
 obtain⟨μ,g,σw,Y,R,S,m,q⟩:=e;show{μ,g,σw,_,R,S,m,λv H1 d=>?_};obtain⟨μ1,w,h1,e1,G,J,m1⟩:=d;cases w with
 | bl c=>
  show{c,J,?_};cases c with
  | true=>rw[if_pos rfl];show{μ1,h1,σw,_,G,S.ext e1,m1,λb H' z=>q _ _ (z.trans e1)}
  | false=>rw[if_neg T4];show q _ _ {μ1,.bl false,h1,e1,G,by rw[DW],m1}
 | _=>show m1.elim
def aiq (U:DE X a ma)(O:DE X (.BoolOp .Or (b::rest) pos) mb):DE X (.BoolOp .Or (a::b::rest) pos) (afE ma mb):=(agS U O).of fun σ H Q e=>by
 obtain⟨μ,g,σw,Y,R,S,m,q⟩:=e;show{μ,g,σw,_,R,S,m,λv H1 d=>?_};obtain⟨μ1,w,h1,e1,G,J,m1⟩:=d;cases w with
 | bl c=>
  show{c,J,?_};cases c with
  | true=>rw[if_pos rfl];show q _ _ {μ1,.bl true,h1,e1,G,by rw[DW],m1}
  | false=>rw[if_neg T4];show{μ1,h1,σw,_,G,S.ext e1,m1,λb H' z=>q _ _ (z.trans e1)}
 | _=>show m1.elim
def aha (J:DE X a ma):DE X (.UnaryOp .Not a pos) (Yk ma):=(aeI J).of fun σ H Q d=>by
 obtain⟨μ,g,σw,U,R,S,m,q⟩:=d;show{μ,g,σw,_,R,S,m,λv H1 b=>?_};obtain⟨μ1,w,h1,e1,O,G,m1⟩:=b;cases w with
 | bl c=>rw[DW]at G;show{c,G,q _ _ {μ1,.bl (!c),h1,e1,O,by rw[DW],m1}}
 | _=>show m1.elim
abbrev mIf (t:MT)(a b:ME):ME:=fun σ h Q=>t σ h λc h1=>br c (a σ h1 Q) (b σ h1 Q)
def ahp (J:DT X c tA)(U:DE X a ma)(O:DE X b mb):DE X (.IfExp c a b pos) (mIf tA ma mb):=(ako J U O).of fun σ H Q e=>by
 obtain⟨μ,g,σw,Y,R,S,m,q⟩:=e;show{μ,g,σw,_,R,S,m,λc H1 d=>?_};obtain⟨μ1,h1,e1,G,m1⟩:=d;cases c with
 | true=>
  show{μ1,h1,σw,_,G,S.ext e1,m1.1 rfl,λb H' z=>q _ _<|z.trans e1}
 | false=>
  show{μ1,h1,σw,_,G,S.ext e1,m1.2 rfl,λb H' z=>q _ _<|z.trans e1}
abbrev Y6 (r:W->Gh->WK->Prop)(a:ME):ME:=fun σ h Q=>a σ h λx h1=>r x h1 Q
abbrev Xu:W->Gh->WK->Prop:=λx h Q=>match x with
 | .int i=>Q (.int (-i)) h
 | _=>False
def Ld (J:DE X a ma):DE X (.UnaryOp .USub a pos) (Y6 Xu ma):=(ag2 ac9 J).of fun σ H Q c=>by
 obtain⟨μ,g,σw,U,R,S,m,q⟩:=c;show{μ,g,σw,_,R,S,m,λv H1 b=>?_};obtain⟨μ1,w,h1,e1,O,G,m1⟩:=b;cases w with
 | int i=>rw[DW]at G;show{i,G,q _ _ {μ1,.int (-i),h1,e1,O,by rw[DW],m1}}
 | _=>show m1.elim
abbrev aG:MA:=λ_ h Q=>Q [] h
abbrev aj (a:ME)(r:MA):MA:=fun σ h Q=>a σ h λx h1=>r σ h1 λxs h2=>Q (x::xs) h2
variable {es:List Expr}{mr:MA}
def cQ:Mp X [] aG:=Qd.of fun σ H Q a=>by obtain⟨μ,g,σw,G,R,S,m,q⟩:=a;show q _ _ {μ,[],g,.refl,R,.nil,m}
def fH (ha:DE X e ma)(hr:Mp X es mr)(hs:Dc (e::es) X.env=(false,eval e X.env)::Dc es X.env:=by rfl):Mp X (e::es) (aj ma mr):=(tW ha hr hs).of fun σ H Q a=>by obtain⟨μ,g,σw,Qw,R,S,m,q⟩:=a;show {μ,g,σw,_,R,S,m,λv H1 b=>by obtain⟨μ1,w,h1,e1,R1,r1,m1⟩:=b;show {μ1,h1,σw,_,R1,S.ext e1,m1,λvs H2 c=>by obtain⟨μ2,ws,h2,e2,R2,r2,m2⟩:=c;show (q _ _ {μ2,w::ws,h2,e1.trans e2,R2,.cons (e2.r _ _ r1) r2,m2})}}
abbrev fQ (n:Nat)(P:Prop):Prop:=Lg (Nat.ble n 1000) P (n<=El/\P)
def fQ.ok {n}{P}(h:fQ n P):n<=El/\P:=by
 unfold fQ at h;cases e:Nat.ble n 1000 with
 | true=>rw[e]at h;show{K7 (YW e) ∅,h}
 | false=>rw[e]at h;show h
def fQ.mk {n}{P}(G:n<=El)(h:P):fQ n P:=by
 unfold fQ;cases e:Nat.ble n 1000 with
 | true=>show h
 | false=>show⟨G,h⟩
abbrev nQ (t:MA):ME:=fun σ h Q=>t σ h λws h1=>fQ ws.length (Q (.tup ws) h1)
abbrev yG (t:MA):ME:=fun σ h Q=>t σ h λws h1=>fQ ws.length (Q (.lst ws) h1)
abbrev nF (t:MA):ME:=fun σ h Q=>t σ h λws h1=>fQ ws.length (Q (.loc h1.nx) (h1.new (.lst ws)))
def fP {U}(h:Mp X es mr):DE X (.Tuple es U pos) (nQ mr):=(acw h).of fun σ H Q ⟨μ,g,σw,b,R,S,m,q⟩=>
 {μ,g,σw,_,R,S,m,λvs H1 a=>by obtain⟨μ1,ws,h1,e1,Y,O,J⟩:=a;show {O.len ▸ J.ok.1,λp G=>q _ _ {μ1,.tup ws,h1,e1.trans (Ex.laid G).ext,Y.laid G,.tupNew G O,J.ok.2}}}
def j8 (h:Mp X es mr):DE X (.List es pos) (yG mr):=(XJ h).of fun σ H Q ⟨μ,g,σw,Y,R,S,m,q⟩=>
 {μ,g,σw,_,R,S,m,λvs H1 a=>by obtain⟨μ1,ws,h1,e1,U,O,J⟩:=a;show {O.len ▸ J.ok.1,λp G=>q _ _ {μ1,.lst ws,h1,e1.trans (Ex.laid G).ext,U.laid G,.lstNew U G O,J.ok.2}}}
def acA {K H h}{p}{xs}(R:Dz K μ H h)(G:H p=Af)(r:aP K H μ ws xs):
  Dz K (μ.put h.nx p) (Dn H p (.lst xs)) (h.new (.lst ws)):=R.newCell G trivial {xs,aV,(Ex.newCell R G).ext.s r}
def jY (h:Mp X es mr):DE X (.List es pos) (nF mr):=(XJ h).of fun σ H Q ⟨μ,g,σw,Y,R,S,m,q⟩=>
 {μ,g,σw,_,R,S,m,λvs H1 a=>by obtain⟨μ1,ws,h1,e1,U,J,G⟩:=a;show {J.len ▸ G.ok.1,λp O=>q _ _ {μ1.put _ p,.loc _,h1.new _,e1.trans (Ex.newCell U O).ext,acA U O J,⟨p,rfl,Mu.put_same⟩,G.ok.2}}}
inductive lift (K:CQ) (ms:Aw) (vs:List V) (H:Hp) (Q:VK) (E:XK):Prop where
 | mk (μ:Mu) (h:Gh) (ws:List W) (Qw:WK) (R:Dz K μ H h) (r:aP K H μ ws vs) (x:ms ws h Qw EF) (k:∀v H',DQ K H μ Qw v H'->Q v H'):lift K ms vs H Q E
abbrev aF (ms:Aw)(E:Ci)(ma:MA):ME:=fun σ h Q=>ma σ h λws h1=>ms ws h1 Q E
def call_of {K σ H Q E}{ms ma}(h:tD K (aF ms EF ma) σ H Q):YL (lift K ms) [] E (tDA K ma) σ H Q:=by
 obtain⟨μ,g,σw,O,R,S,m,q⟩:=h;show{μ,g,σw,_,R,S,m,λvs H1 a=>?_};obtain⟨μ1,ws,h1,e1,J,G,m1⟩:=a;rw[Zr];show{μ1,h1,ws,O,J,G,m1,λv H' z=>q _ _<|z.trans e1}
def adU {k}{f fd}{ps ms x p}(F:lE X.prog X.w X.K X.mg X.base PJ k f fd ps (lift X.K ms))(hr:iJ k X.A)(hg:Gl X x)(hm:X.mg x=AP (.ref f))(hk:Us X.K (.ref f)=true)
  (hb:Binds X.K fd ps []) (ha:Mp X (e::es) mr) (hdb:(x==("__debug__" : Str))=false:=by decide) (he:Dc (e::es) X.env=(false,eval e X.env)::Dc es X.env:=by rfl) (hpl:(Ku pos (Dc es X.env)).any (·.1)=false:=by rfl) :
  DE X (.Call (.Name x p) (e::es) [] pos) (aF ms EF mr):=(akI F hr hg hm hk hb .nil Z1 ha hdb he hpl).of λ_ _ _ h=>call_of h
def zcd {k}{f fd}{ps ms x p}(F:lE X.prog X.w X.K X.mg X.base PJ k f fd ps (lift X.K ms))(hr:iJ k X.A)(hg:Gl X x)(hm:X.mg x=AP (.ref f))(hk:Us X.K (.ref f)=true)
  (hb:Binds X.K fd ps []) (hdb:(x==("__debug__" : Str))=false:=by decide):DE X (.Call (.Name x p) [] [] pos) (aF ms EF aG):=(ajP F hr hg hm hk hb .nil Z1 hdb).of fun σ H Q ⟨μ,g,σw,Qw,R,S,m,q⟩=>
 {μ,g,[],Qw,R,.nil,m,q}
abbrev afz (h:Gh)(w:W):Option Bool:=match w with
 | .non=>AP false
 | .bl b=>AP b
 | .int i=>AP (i != 0)
 | .tup ws=>AP (!ws.isEmpty)
 | .lst ws=>AP (!ws.isEmpty)
 | .kls ws=>AP (!ws.isEmpty)
 | .loc n=>(match h.c n with
  | some (.lst ws)=>AP (!ws.isEmpty)
  | _=>Af)
 | _=>Af
abbrev Ko (m:ME):MT:=fun σ h Q=>m σ h λw h1=>match afz h1 w with
 | some b=>Q b h1
 | none=>False
def aP.emp {K H}{xs}(r:aP K H μ ws xs):ws.isEmpty=xs.isEmpty:=by
 have:=r.len
 cases ws<;>cases xs<;>first|rfl|cases this
def j9 (he:DE X e ma)(h:∀whole,isTrue e X.env whole=(do let v <-whole;standAt e.pos;VR [v] (truthy v)):=by intro _;rfl):DT X e (Ko ma):=(alQ he h).of fun σ H Q d=>by
 obtain⟨μ,g,σw,Qw,R,S,m,q⟩:=d;show{μ,g,σw,_,R,S,m,λv H1 a=>?_};obtain⟨μ1,w,h1,e1,R1,r1,m1⟩:=a;split at m1
 ·rename_i b eb;show{b,?_,q _ _ ⟨μ1,h1,e1,R1,m1⟩};cases w with
  | non|bl c|int c=>rw[DW]at r1;subst r1;cases eb;rfl
  | tup ws=>
   obtain⟨p,xs,ev,hs,rs⟩:=r1;subst ev;cases eb;show .inr<|.inl {xs,hs,by rw[rs.emp]}
  | lst ws|kls ws=>
   obtain⟨p,xs,ev,hs,rs⟩:=r1;subst ev;cases eb;show .inl {xs,hs.sq,by rw[rs.emp]}
  | loc n=>
   obtain⟨p,ev,hm⟩:=r1;subst ev;unfold afz at eb;dsimp only at eb;cases ec:h1.c n with
   | none=>rw[ec]at eb;cases eb
   | some cl=>
    rw[ec]at eb;cases cl with
    | lst ws=>
     cases eb;obtain⟨p',hm',xs,hx,rs⟩:=R1.cel n _ ec;cases by rw[hm]at hm';show(Ky hm').symm
     show .inl {xs,.of hx,by rw[rs.emp]}
    | _=>cases eb
  | _=>cases eb
 cases m1
@[reducible]noncomputable def MC:=List W->Gh->WK->Prop
abbrev Ft (r:MC)(ma:MA):ME:=fun σ h Q=>ma σ h λws h1=>r ws h1 Q
abbrev ahy (K:CQ)(r:List V->Hp->VK->Prop)(mr:MC):Prop:=∀{H:Hp}{μ:Mu}{h:Gh}{vs:List V}{ws:List W}{G:WK}{Q:VK},Dz K μ H h->aP K H μ ws vs->mr ws h G->(∀v H',DQ K H μ G v H'->Q v H')->r vs H Q
abbrev jG (X:Cx)(f:Aj)(mr:MC):Prop:=∃r,jC X f r/\ahy X.K r mr
def adF {K σ H Q}{r mc ma}(s:ahy K r mc)(h:tD K (Ft mc ma) σ H Q):tCB r (tDA K ma) σ H Q:=by
 obtain⟨μ,g,σw,O,R,S,m,q⟩:=h;show{μ,g,σw,_,R,S,m,λvs H1 a=>by obtain⟨μ1,ws,h1,e1,J,G,m1⟩:=a;show s J G m1 λv H' z=>q _ _<|z.trans e1}
def aa6 {x p}{id mc}(hc:jG X (.builtin id) mc)(hg:Gl X x)(hm:X.mg x=Af)(hv:Y9 x=AP (.builtin id))(ha:Mp X (e::es) mr)(hn:x ≠ "__name__":=by decide)(hdb:(x==("__debug__" : Str))=false:=by decide)
  (he:Dc (e::es) X.env=(false,eval e X.env)::Dc es X.env:=by rfl) (hpl:(Ku pos (Dc es X.env)).any (·.1)=false:=by rfl):DE X (.Call (.Name x p) (e::es) [] pos) (Ft mc mr):=by
 obtain⟨r,c,s⟩:=hc;show(JF c hg hm hv ha hn hdb he hpl).of λ_ _ _ h=>adF s h
def yX {x p}{T mc}(hc:jG X (.type T) mc)(hg:Gl X x)(hm:X.mg x=Af)(hv:Y9 x=AP (.type T))(ha:Mp X (e::es) mr)(hn:x ≠ "__name__":=by decide)(hdb:(x==("__debug__" : Str))=false:=by decide)
  (he:Dc (e::es) X.env=(false,eval e X.env)::Dc es X.env:=by rfl) (hpl:(Ku pos (Dc es X.env)).any (·.1)=false:=by rfl):DE X (.Call (.Name x p) (e::es) [] pos) (Ft mc mr):=by
 obtain⟨r,c,s⟩:=hc;show(BW c hg hm hv ha hn hdb he hpl).of λ_ _ _ h=>adF s h
end
variable {mr:MA}{ma:ME}{ms:Aw}
section
variable {X:Cx}{e a b c tg:Expr}{mb mc:ME}{pos:Pos}{es:List Expr}
abbrev Aq (i:Nat):MG:=λw σ h N=>N (σ.set i (AP w)) h
def Fj {i}(G:PG X e (M9 i)):DG X e (Aq i):=G.of λv σ H N a=>by obtain⟨μ,h,σw,w,J,R,S,r,m,k⟩:=a;show k _ _ {μ,σw.set i _,h,.refl,R,S.set r i,m}
abbrev VL:Vr:=λws σ h N=>match ws with
 | []=>N σ h
 | _=>False
abbrev lG (g:MG)(r:Vr):Vr:=λws σ h N=>match ws with
 | w::ws'=>g w σ h fun σ1 h1=>r ws' σ1 h1 N
 | []=>False
def p7:afx X [] VL:=Rj.of λvs σ H N a=>by
 obtain⟨μ,h,σw,ws,G,R,S,r,m,k⟩:=a;cases ws with
 | nil=>rw[aP]at r;show{r,k _ _ {μ,σw,h,.refl,R,S,m}}
 | cons w ws=>cases m
def cY {g u}(h1:DG X e g)(h2:afx X es u)(hs:(Ox (e::es) X.env).map (·.2)=assign e X.env::(Ox es X.env).map (·.2):=by rfl):afx X (e::es) (lG g u):=(zx h1 h2 hs).of λvs σ H N a=>by
 obtain⟨μ,h,σw,ws,Nw,R,S,r,m,k⟩:=a;cases ws with
 | nil=>cases m
 | cons w ws=>
  obtain⟨v,vr,ev,r1,r2⟩:=r;show{v,vr,ev,μ,h,σw,w,_,R,S,r1,m,fun σ1 H1 b=>by obtain⟨μ1,σw1,h1,e1,R1,S1,m1⟩:=b;show {μ1,h1,σw1,ws,_,R1,S1,e1.s r2,m1,fun σ2 H2 z=>k _ _<|z.trans e1}}
@[reducible]noncomputable def aa4:=W->W->W->Gh->(Gh->Prop)->Prop
abbrev Jz (K:CQ)(t:aal)(ms:aa4):Prop:=∀{H:Hp}{μ:Mu}{h:Gh}{o i v:V}{G wi w:W}{J:Gh->Prop}{N:Hp->Prop},Dz K μ H h->DW K H μ G o->DW K H μ wi i->DW K H μ w v->ms G wi w h J ->
 (∀H',(∃μ' h',K5 K H μ H' μ'/\Dz K μ' H' h'/\J h')->N H')->t o i v H N
abbrev LK (mo mi:ME)(ms:aa4):MG:=λw σ h N=>mo σ h λo h1=>mi σ h1 λi h2=>ms o i w h2 λh3=>N σ h3
def lU {o i mo mi t}{ms}(ho:DE X o mo)(hi:DE X i mi)(hs:ael X t)(hm:Jz X.K t ms)
  (ha:∀v,assign (.Subscript o i pos) X.env v=(do
   let ov <-VR [v] (eval o X.env)
   let iv <-VR [v,ov] (eval i X.env)
   standAt pos
   VR [v,ov,iv] (setItem ov iv v)
   release [v,ov,iv] []):=by intro _;rfl):DG X (.Subscript o i pos) (LK mo mi ms):=
 (abC ho hi hs ha).of λv σ H N a=>by obtain⟨μ,h,σw,w,Nw,R,S,r,m,k⟩:=a;show {μ,h,σw,_,R,S,m,λo H1 b=>by obtain⟨μ1,wo,h1,e1,R1,r1,m1⟩:=b;show {μ1,h1,σw,_,R1,S.ext e1,m1,λi H2 c=>by obtain⟨μ2,wi,h2,e2,R2,r2,m2⟩:=c;show (hm R2 (e2.r _ _ r1) r2 (e2.r _ _ (e1.r _ _ r)) m2 λH3 d=>by obtain⟨μ3,h3,e3,R3,m3⟩:=d;show (k _ _ {μ3,σw,h3,(e1.trans e2).trans e3,R3,S.ext ((e1.trans e2).trans e3),m3}))}}
abbrev Kc:aa4:=λo i w h N=>match o,i with
 | .loc n,.int k=>(match h.c n with
  | some (.lst ws)=>(match TX ws.length k with
   | some j=>N (h.set n (.lst (ws.set j w)))
   | none=>False)
  | _=>False)
 | _,_=>False
def Dz.lstAt {K H h}{n}(R:Dz K μ H h)(e:h.c n=AP (.lst ws)):∃p xs,μ.f n=AP p/\H p=AP (.lst xs)/\aP K H μ ws xs:=by
 obtain⟨p,e1,xs,e2,r⟩:=R.cel n _ e;simp_all
def zA {K}:Jz K ab4 Kc:=by
 intro H μ h o i v a wi w e N R ro b r m k;cases a with
 | loc n=>
  cases wi with
  | int z=>
   obtain⟨p,d,J⟩:=ro;unfold Kc at m;dsimp only at m;cases U:h.c n with
   | none=>rw[U]at m;cases m
   | some cl=>
    rw[U]at m;cases cl with
    | lst ws=>
     dsimp only at m;obtain⟨p',xs,G,c,Y⟩:=R.lstAt U;obtain rfl:=by rw[J]at G;show(Ky G).symm
     cases O:TX _ z with
     | none=>rw[O]at m;show m.elim
     | some j=>
      rw[O]at m;show{p',xs,z,j,d,b,c,Y.len ▸ O,k _ {μ,_,(Ex.write R J).ext,R.write J trivial ?_,m}};show{_,aV,aP.set ((Ex.write R J).ext.r _ _ r) j<|(Ex.write R J).ext.s Y}
    | _=>cases m
  | _=>show m.elim
 | _=>show m.elim
variable {st:Stmt}{rest body:List Stmt}{m1 m2:MS}{t:MT}
abbrev bN:MS:=λD σ h=>D.nx σ h
abbrev aR (m u:MS):MS:=λD σ h=>m {D with nx:=u D} σ h
def bG:VH X [] bN:=amX.of λD σ H a=>by obtain⟨μ,h,σw,Dw,R,S,m,k⟩:=a;show k.nx _ _ {μ,σw,h,.refl,R,S,m}
def aD (h1:DS X st m1):VH X [st] m1:=DR h1
def au (h1:DS X st m1)(h2:VH X rest m2):VH X (st::rest) (aR m1 m2):=(Gw h1 h2).of λD σ H a=>by
 obtain⟨μ,h,σw,Dw,R,S,m,k⟩:=a;show{μ,h,σw,_,R,S,m,?_,k.rt,k.bk,k.ct};rintro J H' ⟨μ1,G,h1,e1,U,O,m1⟩;show{μ1,h1,G,Dw,U,O,m1,k.trans e1}
abbrev jD (m:ME):MS:=λD σ h=>m σ h λ_ h1=>D.nx σ h1
def fW (he:DE X e ma)(hs:Y7 e Af pos.line X.env=pure false:=by rfl):DS X (.Expr e pos) (jD ma):=(anr he hs).of λD σ H ⟨μ,h,σw,Dw,R,S,m,k⟩=>
 {μ,h,σw,_,R,S,m,λv H1 a=>by obtain⟨μ1,w,h1,e1,R1,_,m1⟩:=a;show k.nx _ _ {μ1,σw,h1,e1,R1,S.ext e1,m1}}
abbrev bK (m:ME):MS:=λD σ h=>m σ h D.rt
def aJ (G:DE X e ma):DS X (.Return (AP e) pos) (bK ma):=(WL G).of λD σ H a=>by obtain⟨μ,h,σw,Dw,R,S,m,k⟩:=a;show {μ,h,σw,_,R,S,m,k.rt}
abbrev fD (t:MT)(a b:MS):MS:=λD σ h=>t σ h λc h1=>br c (a D σ h1) (b D σ h1)
def dG {a b}(J:DT X c t)(U:VH X a m1)(O:VH X b m2):DS X (.If c a b pos) (fD t m1 m2):=(ae0 J U O).of λD σ H e=>by
 obtain⟨μ,h,σw,Dw,R,S,m,k⟩:=e;show{μ,h,σw,_,R,S,m,λb H1 d=>?_};obtain⟨μ1,h1,e1,G,q⟩:=d;cases b with
 | true=>rw[if_pos rfl];show{μ1,h1,σw,Dw,G,S.ext e1,q.1 rfl,k.trans e1}
 | false=>rw[if_neg T4];show{μ1,h1,σw,Dw,G,S.ext e1,q.2 rfl,k.trans e1}
abbrev gC (x:Str)(E:Ci):MS:=λ_ _ h=>E ⟨x,[]⟩ h
def yC {x}:DS X st (gC x EF):=akN.of λ_ _ _ a=>by obtain⟨_,_,_,_,_,_,m,_⟩:=a;show m.elim
abbrev bB (m:ME)(g:MG):MS:=λD σ h=>m σ h λw h1=>g w σ h1 D.nx
def abT {K σ H}{D m g}(q:tDS K (bB m g) D σ H):acu (tD K m) (tDG K g) D σ H:=by
 obtain⟨μ,h,σw,Dw,R,S,m,k⟩:=q;show{μ,h,σw,_,R,S,m,λv H1 a=>by obtain⟨μ1,w,h1,e1,O,J,m1⟩:=a;show {μ1,h1,σw,w,_,O,S.ext e1,J,m1,fun G H' z=>k.nx _ _<|z.trans e1}}
def lQ {g}(he:DE X e ma)(hg:DG X tg g)(hs:swapsWithSole [tg] e pos.line X.env=pure false:=by rfl)(hw:swappedStores [tg] e X.env=pure Af:=by rfl)
  (h1:(Ox [tg] X.env).map (·.2)=[assign tg X.env]:=by rfl):DS X (.Assign [tg] e pos) (bB ma g):=(adz he hg hs hw h1).of λ_ _ _ q=>abT q
def Wo {K σ H}{D m t}{i}(ht:∀σ H Q,tD K m σ H Q->t σ H Q)(q:tDS K (bB m (Aq i)) D σ H):acu t (M9 i) D σ H:=by
 obtain⟨μ,h,σw,Dw,R,S,m,k⟩:=q;show ht _ _ _ {μ,h,σw,_,R,S,m,λv H1 a=>by obtain⟨μ1,w,h1,e1,J,G,m1⟩:=a;show k.nx _ _ {μ1,σw.set i _,h1,e1,J,(S.ext e1).set G i,m1}}
def Hj {i x}{pos'}(hN:X.N.Nodup)(hi:X.N[i]?=AP x)(hx:Loc X.env.scope x)(he:DE X e ma)(hs:Y7 e (AP (.Name x pos')) pos.line X.env=pure false:=by rfl)
  (hf:X.fn x=true\/X.env.scope.names.lookup x=AP .local:=by first|exact .inl rfl|exact .inr rfl|assumption) :
  DS X (.Assign [.Name x pos'] e pos) (bB ma (Aq i)):=(XM hN hi hx he hs hf).of λ_ _ _ q=>Wo (λ_ _ _ z=>z) q
abbrev aht (i j:Nat)(ta:MA):MS:=λD σ h=>ta σ h λws h1=>match ws with
 | [v,w]=>D.nx ((σ.set i (AP v)).set j (AP w)) h1
 | _=>False
def akV {i j ta}(f:PS X st (ahx i j (tDA X.K ta))):DS X st (aht i j ta):=f.of λD σ H b=>by
 obtain⟨μ,h,σw,Dw,R,S,m,k⟩:=b;show{μ,h,σw,_,R,S,m,λvs H1 a=>?_};obtain⟨μ1,ws,h1,e1,l,e,m1⟩:=a;split at m1
 obtain⟨v,n,g,Y,d⟩:=e;obtain⟨O,J,G,U,c⟩:=d;subst c G g;show{v,O,rfl,k.nx _ _ {μ1,_,h1,e1,l,((S.ext e1).set Y i).set U j,m1}};cases m1
abbrev Jq (t:MT)(b:MS):MS:=λD σ h=>∃J:Nat->Sw->Gh->Prop,(∃m,J m σ h)/\∀m σ h,J m σ h ->
 t σ h λc h1=>br c (b {D with nx:=fun σ' h'=>∃G,G<m/\J G σ' h',ct:=fun σ' h'=>∃G,G<m/\J G σ' h',bk:=D.nx} σ h1) (D.nx σ h1)
def yq {body pos}(s:vo (Cq X.prog X.w) X.A X.env X.xe)(v:DT X c t)(w:VH X body m1):DS X (.While c body [] pos) (Jq t m1):=(akS s v w).of λD σ H d=>by
 obtain⟨μ,h,σw,Dw,R,S,m,k⟩:=d;obtain⟨j,⟨r,p⟩,f⟩:=m;show{λn G H'=>DN _ H μ (j n) G H',{r,μ,σw,h,.refl,R,S,p},λn l H1 ⟨μ1,J,h1,e1,B,i,w1⟩=>{μ1,h1,J,_,B,i,f n J h1 w1,λb H2 a=>?_}};obtain⟨μ2,h2,e2,R2,q⟩:=a;have U:=e1.trans e2;cases b with
 | true=>
  show{fun G H'=>∃Y,Y<n/\DN _ H μ _ G H',λ_ _ z=>z,μ2,h2,J,_,R2,i.ext e2,q.1 rfl,?_};have O:∀(G:St) (H':Hp),DN _ H2 μ2 (fun G h'=>∃Y,Y<n/\j Y G h') G H'->∃Y,Y<n/\DN _ H μ _ G H':=fun G H' ⟨g,e,x,e3,A,y,Y,u,o⟩=>
   {Y,u,g,e,x,U.trans e3,A,y,o}
  show{O,λv H' z=>k.rt _ _<|z.trans U,fun G H' z=>k.nx _ _<|z.trans U,O}
 | false=>
  show k.nx _ _ {μ2,J,h2,U,R2,i.ext e2,q.2 rfl}
structure Src where
 ws:List W
 cell:Option (Nat×List W)
abbrev Src.chk (s:Src)(h:Gh):Prop:=match s.cell with
 | none=>True
 | some n=>h.c n.1=AP (.lst n.2)
@[reducible]noncomputable def MI:=Sw->Gh->(Src->Gh->Prop)->Prop
abbrev aby (K:CQ)(J:It)(O:Src)(H:Hp)(μ:Mu):Prop:=∀{H2:Hp}{μ2:Mu}{h2:Gh}{i:Nat},K5 K H μ H2 μ2->Dz K μ2 H2 h2->O.chk h2 ->
 (∀w,O.ws[i]?=AP w->J.go i H2/\∀x U,J.yld i H2 x U->∃G,K5 K H2 μ2 U G/\Dz K G U h2/\DW K U G w x)/\(O.ws.length<=i->J.stop i H2)
inductive DI (K:CQ) (H:Hp) (μ:Mu) (Rw:Src->Gh->Prop) (J:It) (H':Hp):Prop where
 | mk (μ':Mu) (src:Src) (h':Gh) (e:K5 K H μ H' μ') (R:Dz K μ' H' h') (o:aby K J src H' μ') (q:Rw src h'):DI K H μ Rw J H'
inductive tDI (K:CQ) (mi:MI) (σ:St) (H:Hp) (R:It->Hp->Prop):Prop where
 | mk (μ:Mu) (h:Gh) (σw:Sw) (Rw:Src->Gh->Prop) (q:Dz K μ H h) (S:Slots K H μ σw σ) (x:mi σw h Rw) (k:∀J H',DI K H μ Rw J H'->R J H'):tDI K mi σ H R
@[reducible]noncomputable def Uj (X:Cx)(tg iter:Expr)(mi:MI):Prop:=PI X tg iter (tDI X.K mi)
def PI.of {iter t t'}(h:PI X tg iter t)(k:∀σ H R,t' σ H R->t σ H R):PI X tg iter t':=λapn s σ H R I q=>h apn s σ H R I (k σ H R q)
abbrev gq (h:Gh):W->Option (List W)
 | .lst ws=>AP ws
 | .kls ws=>AP ws
 | .loc n=>(match h.c n with
  | some (.lst ws)=>AP ws
  | _=>Af)
 | _=>Af
abbrev view (h:Gh):W->Option (List W)
 | .tup ws=>AP ws
 | .lst ws=>AP ws
 | .kls ws=>AP ws
 | .loc n=>gq h (.loc n)
 | _=>Af
abbrev Dg (h:Gh):W->Option Src
 | .tup ws=>AP ⟨ws,Af⟩
 | .lst ws=>AP ⟨ws,Af⟩
 | .kls ws=>AP ⟨ws,Af⟩
 | .loc n=>(match h.c n with
  | some (.lst ws)=>AP ⟨ws,AP (n,ws)⟩
  | _=>Af)
 | _=>Af
def ale {K H}{p}(r:DW K H μ (.lst ws) (.ref p)):aby K (Itl K p) ⟨ws,Af⟩ H μ:=by
 intro H2 μ2 h2 i e R2 _;obtain⟨q,xs,b,G,J⟩:=(e.r _ _ r)
 cases b;show{λw Y=>?_,λhl=>{xs,G.sq,J.len ▸ hl}};obtain⟨v,O,U⟩:=J.get Y;show{⟨xs,v,G.sq,O⟩,λx c a=>?_};obtain⟨e3,y⟩:=a;subst e3;have:=y xs G.sq
 rw[O]at this;cases this;show{μ2,.refl,R2,U}
def alR {K H}{p}(r:DW K H μ (.kls ws) (.ref p)):aby K (Itl K p) ⟨ws,Af⟩ H μ:=by
 intro H2 μ2 h2 i e R2 _;obtain⟨q,xs,b,G,J⟩:=(e.r _ _ r)
 cases b;show{λw Y=>?_,λhl=>{xs,G.sq,J.len ▸ hl}};obtain⟨v,O,U⟩:=J.get Y;show{⟨xs,v,G.sq,O⟩,λx c a=>?_};obtain⟨e3,y⟩:=a;subst e3;have:=y xs G.sq
 rw[O]at this;cases this;show{μ2,.refl,R2,U}
def akm {K H}{p n}(r:DW K H μ (.loc n) (.ref p)):aby K (Itl K p) ⟨ws,AP (n,ws)⟩ H μ:=by
 intro H2 μ2 h2 i e R2 f;obtain⟨q,d,b⟩:=(e.r _ _ r)
 cases d;obtain⟨p',xs,G,J,O⟩:=R2.lstAt f;obtain rfl:=by rw[b]at G;show(Ky G).symm
 show{λw c=>?_,λhl=>{xs,.of J,O.len ▸ hl}};obtain⟨v,U,Y⟩:=O.get c;show{{xs,v,.of J,U},λx g a=>?_};obtain⟨e3,y⟩:=a;subst e3;have:=y xs (.of J)
 rw[U]at this;cases this;show{μ2,.refl,R2,Y}
def amr {K H}{p}(r:DW K H μ (.tup ws) (.ref p)):aby K (Itt K p) ⟨ws,Af⟩ H μ:=by
 intro H2 μ2 h2 i e R2 _;obtain⟨q,xs,b,G,J⟩:=(e.r _ _ r)
 cases b;show{λw Y=>?_,λhl=>{xs,G,J.len ▸ hl}};obtain⟨v,O,U⟩:=J.get Y;show{⟨xs,v,G,O⟩,λx c a=>?_};obtain⟨e3,y⟩:=a;subst e3;have:=y xs G
 rw[O]at this;cases this;show{μ2,.refl,R2,U}
abbrev aie (K:CQ)(tl:TE):TI:=fun σ H R=>tl σ H λx H1=>(∃a,x=.ref a/\(∃xs,Kr K H1 a xs)/\R (Itl K a) H1)\/(∃a,x=.ref a/\(∃xs,KJ K H1 a xs)/\R (Itt K a) H1)
def aep {l tl}(hl:PE X l tl):PI X tg l (aie X.K tl):=by
 intro apn s σ H R I h;show Eu (hl apn s σ H _ I h) λv J c=>?_;obtain⟨x,H1,G,Y,d⟩:=c;rcases d with⟨a,e,⟨xs,O⟩,q⟩|⟨a,e,⟨xs,O⟩,q⟩
 subst e;cases Y;obtain⟨its,b,p,f⟩:=G.list O;show ZV p.isList {(~~~J),[(~~~J)],_,_,H1,rfl,G.kept λb o e=>FW _ e,ajD a _,{_,Kf _ rfl,rfl,rfl},λb U=>?_,q};obtain rfl:=by simpa using U
 show G.fpOk (Em _)<|G.hok.fresh<|Em _
 subst e;cases Y;obtain⟨its,b,p,f⟩:=G.tuple O;show wpAny_pyIter_tuple p {(~~~J),[(~~~J)],_,_,H1,rfl,G.kept λb o e=>FW _ e,zaG a _,{_,Kf _ rfl,rfl,rfl},λb U=>?_,q};obtain rfl:=by simpa using U
 show G.fpOk (Em _)<|G.hok.fresh<|Em _
abbrev Gj (m:ME):MI:=fun σ h R=>m σ h λw h1=>match Dg h1 w with
 | some s=>R s h1
 | none=>False
def bH {l}(hl:DE X l ma):Uj X tg l (Gj ma):=PI.of (aep hl) fun σ H Q b=>by
 obtain⟨μ,h,σw,g,R,S,m,k⟩:=b;show{μ,h,σw,_,R,S,m,λv H1 a=>?_};obtain⟨μ1,w,h1,e1,Y,J,m1⟩:=a;cases w with
 | tup ws=>
  have G:=J;obtain⟨p,xs,O,hs,_⟩:=J;subst O;show .inr {p,rfl,⟨xs,hs⟩,k _ _ {μ1,⟨ws,Af⟩,h1,e1,Y,amr G,m1}}
 | lst ws=>
  have G:=J;obtain⟨p,xs,O,hs,_⟩:=J;subst O;show .inl {p,rfl,⟨xs,hs.sq⟩,k _ _ {μ1,⟨ws,Af⟩,h1,e1,Y,ale G,m1}}
 | kls ws=>
  have G:=J;obtain⟨p,xs,O,hs,_⟩:=J;subst O;show .inl {p,rfl,⟨xs,hs.sq⟩,k _ _ {μ1,⟨ws,Af⟩,h1,e1,Y,alR G,m1}}
 | loc n=>
  have G:=J;obtain⟨p,O,e⟩:=J;subst O;unfold Dg at m1;dsimp only at m1;cases c:h1.c n with
  | none=>rw[c]at m1;cases m1
  | some cl=>
   rw[c]at m1;cases cl with
   | lst ws=>
    obtain⟨p',xs,U,d,f⟩:=Y.lstAt c;obtain rfl:=by rw[e]at U;show(Ky U).symm
    show .inl {p',rfl,{xs,.of d},k _ _ {μ1,{ws,AP _},h1,e1,Y,akm G,m1}}
   | _=>cases m1
 | _=>show m1.elim
abbrev Dj (lo:Int)(n:Nat):List W:=(Rb n).map λ(k:Nat)=>.int (lo+(k:Int))
def Xa {K H}{lo n}:aby K (Itr lo n) ⟨Dj lo n,Af⟩ H μ:=by
 intro H2 μ2 h2 i e R2 _;show{λw G=>?_,λhl=>?_};have hi:=by
  have:=(Qc.mp G).1
  simpa[Dj]using this
 have J:=by
  unfold Dj at G;rw[Kh,List.getElem?_range hi]at G;show(Ky G).symm
 subst J;show{hi,λx O a=>?_};obtain⟨e3,y⟩:=a;subst e3;show{μ2,.refl,R2,by rwa[DW]};have:=by simpa[Dj]using hl
 show this
abbrev Ax (j:Int)(P:Prop):Prop:=Lg (decide (-1000<=j)&&decide (j<=1000)) P ((-(2^62)<=j/\j<2^62)/\P)
def Ax.ok {j}{P}(h:Ax j P):(-(2^62)<=j/\j<2^62)/\P:=by
 unfold Ax at h;cases e:(decide (-1000<=j)&&decide (j<=1000))with
 | true=>
  rw[e]at h;rw[V5,decide_eq_true_iff,decide_eq_true_iff]at e;show{{⋯,by omega},h}
 | false=>rw[e]at h;show h
def Ax.mk {j}{P}(h1:-(2^62)<=j)(h2:j<2^62)(h:P):Ax j P:=by
 unfold Ax;cases e:(decide (-1000<=j)&&decide (j<=1000))with
 | true=>show h
 | false=>show{⟨h1,h2⟩,h}
abbrev pU (ma:MA):MI:=fun σ h R=>ma σ h λws h1=>match ws with
 | [.int j]=>Ax j (R ⟨Dj 0 j.toNat,Af⟩ h1)
 | _=>False
abbrev Fo (ma:MA):MI:=fun σ h R=>ma σ h λws h1=>match ws with
 | [.int i,.int j]=>Ax i (Ax j (R ⟨Dj i (j-i).toNat,Af⟩ h1))
 | _=>False
def zbc {a}{p pos}(hg:Gl X "range")(hm:X.mg "range" = Af)(ha:Mp X [a] mr)(hs:Dc [a] X.env=[(false,eval a X.env)]:=by rfl):Uj X tg (.Call (.Name "range" p) [a] [] pos) (pU mr):=
 PI.of (zbw hg hm ha hs) fun σ H Q c=>by
  obtain⟨μ,h,σw,Rw,R,S,m,k⟩:=c;show{μ,h,σw,_,R,S,m,λvs H1 b=>?_};obtain⟨μ1,ws,h1,e1,R1,r1,m1⟩:=b;split at m1
  rename_i j;obtain⟨v,vr,ev,ra,r1⟩:=r1;subst ev r1 ra;show{j,rfl,m1.ok.1.1,m1.ok.1.2,k _ _ {μ1,_,h1,e1,R1,Xa,m1.ok.2}};cases m1
def tQ {a b}{p pos}(hg:Gl X "range")(hm:X.mg "range" = Af)(ha:Mp X [a,b] mr)(hs:Dc [a,b] X.env=[(false,eval a X.env),(false,eval b X.env)]:=by rfl)(hs2:Dc [b] X.env=[(false,eval b X.env)]:=by rfl):
  Uj X tg (.Call (.Name "range" p) [a,b] [] pos) (Fo mr):=
 PI.of (alB hg hm ha hs hs2) fun σ H Q d=>by
  obtain⟨μ,h,σw,Rw,R,S,m,k⟩:=d;show{μ,h,σw,_,R,S,m,λvs H1 c=>?_};obtain⟨μ1,ws,h1,e1,R1,r1,m1⟩:=c;split at m1
  rename_i i j;obtain⟨v,vr,ev,ra,r1⟩:=r1;obtain⟨v',vr',ev',rb,r1⟩:=r1;subst ev ev' r1 ra rb;show{i,j,rfl,⟨m1.ok.1.1,m1.ok.1.2,m1.ok.2.ok.1.1,m1.ok.2.ok.1.2⟩,k _ _ {μ1,_,h1,e1,R1,Xa,m1.ok.2.ok.2}};cases m1
abbrev Src.go (s:Src)(h:Gh)(P:Prop):Prop:=match s.cell with
 | none=>P
 | some n=>h.c n.1=AP (.lst n.2)/\P
def Src.go_ok {s:Src}{h}{P}(x:s.go h P):s.chk h/\P:=by
 unfold Src.go at x;unfold Src.chk;lia
abbrev iR (s:Src)(g:MG)(b:MS)(D:cH):List W->Sw->Gh->Prop
 | [],σ,h=>s.go h (D.nx σ h)
 | w::r,σ,h=>s.go h (g w σ h fun σ1 h1=>b {D with nx:=iR s g b D r,ct:=iR s g b D r,bk:=D.nx} σ1 h1)
abbrev mV (mi:MI)(g:MG)(b:MS):MS:=λD σ h=>mi σ h λs h1=>iR s g b D s.ws σ h1
def dU {iter}{body mi g}{mb0}{pos}(hp:vo (Cq X.prog X.w) X.A X.env X.xe)(hc:X.calm=true)(hi:Uj X tg iter mi)(hg:DG X tg g)(hb:VH X body mb0)
  (hs:∀x,YK iter X.env x=pure x:=by intro _;rfl):DS X (.For tg iter body [] pos) (mV mi g mb0):=(W6 hp hc hi hg hb hs).of λD σ H a=>by
 obtain⟨μ,h,σw,Dw,R,S,m,k⟩:=a;show{μ,h,σw,_,R,S,m,λJ H1 ⟨μ1,src,h1,e1,R1,ok,m1⟩=>{λi n σ' H'=>n=src.ws.length-i/\i<=src.ws.length/\DN _ H1 μ1 (iR src g mb0 Dw<|src.ws.drop i) σ' H',{src.ws.length,by simp,Pz _,μ1,σw,h1,.refl,R1,S.ext e1,m1},?_}};rintro i n σ2 H2 ⟨hn,hle,μ2,σw2,h2,e2,R2,S2,m2⟩;by_cases hlt:i<src.ws.length
 rw[vh hlt]at m2;obtain⟨ck,m2⟩:=Src.go_ok m2;obtain⟨hgo,hy⟩:=(ok e2 R2 ck).1 src.ws[i] (Lq hlt);show .inr {hgo,fun σ' H'=>DN _ H2 μ2 _ σ' H',fun σ' H' z=>{src.ws.length-(i+1),⋯,rfl,hlt,z.trans e2},λx H3 y=>?_};obtain⟨μ3,e3,R3,rx⟩:=hy x H3 y;show{μ3,h2,σw2,src.ws[i],_,R3,S2.ext e3,rx,m2,fun σ4 H4 ⟨μ4,σw4,h4,e4,R4,S4,m4⟩=>?_};have e24:=e3.trans e4;have e14:=(e1.trans e2).trans e24;show{μ4,h4,σw4,_,R4,S4,m4,fun σ' H' z=>z.trans e24,λv H' z=>k.rt _ _<|z.trans e14,fun σ' H' z=>k.nx _ _<|z.trans e14,fun σ' H' z=>z.trans e24};have ei:i=src.ws.length:=⋯
 subst ei;rw[List.drop_length]at m2;obtain⟨ck,m2⟩:=Src.go_ok m2;show .inl {(ok e2 R2 ck).2 (Em _),k.nx _ _ {μ2,σw2,h2,e1.trans e2,R2,S2,m2}}
abbrev wC (ix:List Nat)(σ:Sw):Sw:=ix.map λi=>(σ[i]?).getD Af
def Slots.blk {K H σ}(S:Slots K H μ σw σ):∀{ws vs},aP K H μ ws vs->Slots K H μ (ws.map AP++wC ix σw) (vs.map AP++NQ ix σ):=by
 intro ws vs r;have hl:=r.len;show{by simp[wC,NQ,hl],λi u q=>?_};by_cases hi:i<ws.length
 rw[Ut (by simpa using hi),Kh]at q;have G:ws[i]?=AP u:=by
  simp_all
 obtain⟨v,U,O⟩:=r.get G;grind
 ·rw[V9 (by simpa using hi),Ds]at q;rw[V9 (by rw[Ds];lia),Ds,<-hl];generalize i-ws.length=i at q|-
  unfold wC at q;unfold NQ;rw[Kh]at q|-
  cases e:ix[i]? with
  | none=>rw[e]at q;cases q
  | some j=>
   rw[e]at q;cases e2:σw[j]? with
   | none=>simp[e2]at q
   | some o=>
    obtain rfl:=by simpa[e2]using q
    obtain⟨J,h1,h2⟩:=S.get j u e2
    simp_all
abbrev iM:MT:=λ_ h Q=>Q true h
abbrev KR (s:Src)(own:W->Option (List W))(ix:List Nat)(tt:MT)(te:ME)(σ:Sw)(Q:WK):List W->List W->Gh->Prop
 | [],acc,h=>s.go h (Q (.lst acc) h)
 | w::r,acc,h=>s.go h (match own w with
  | some vs=>tt (vs.map AP++wC ix σ) h λc h1=>Lg c (te (vs.map AP++wC ix σ) h1 λv h2=>KR s own ix tt te σ Q r (acc++[v]) h2) (KR s own ix tt te σ Q r acc h1)
  | none=>False)
abbrev J2 (own:W->Option (List W))(ix:List Nat)(mi:MI)(tt:MT)(te:ME):ME:=fun σ h Q=>mi σ h λs h1=>fQ s.ws.length (KR s own ix tt te σ Q s.ws [] h1)
abbrev Rn (K:CQ)(n:Nat)(own:V->Hp->List V->Prop)(G:W->Option (List W)):Prop:=∀{H:Hp}{μ:Mu}{w:W}{v:V}{ws:List W},DW K H μ w v->G w=AP ws->∃vs,own v H vs/\vs.length=n/\aP K H μ ws vs
abbrev K9 (w:W):Option (List W):=AP [w]
abbrev Y5 (n:Nat)(w:W):Option (List W):=match w with
 | .tup ws=>(match UW ws.length n with
  | true=>AP ws
  | false=>Af)
 | _=>Af
abbrev ov1:V->Hp->List V->Prop:=λv _ vs=>vs=[v]
abbrev ovT (K:CQ):V->Hp->List V->Prop:=λv H vs=>∃a,v=.ref a/\KJ K H a vs
def xr {K}:Rn K 1 ov1 K9:=by
 intro H μ w v ws r e;cases e;show{[v],rfl,rfl,.one r}
def S9 {K}{n}:Rn K n (ovT K) (Y5 n):=by
 intro H μ w v ws r e;cases w with
 | tup us=>
  unfold Y5 at e;dsimp only at e;cases G:UW _ n with
  | false=>rw[G]at e;cases e
  | true=>
   rw[G]at e;cases e;obtain⟨p,xs,O,hs,J⟩:=r;show{xs,⟨p,O,hs⟩,J.len ▸ rW G,J}
 | _=>cases e
@[reducible]noncomputable def acd (X:Cx)(ifs:List Expr)(m:MT):Prop:=abo X ifs (tDT X.K m)
def iy:acd X [] iM:=λapn s σ H Q I a=>by obtain⟨μ,h,σw,G,R,S,m,k⟩:=a;show amW apn s σ H Q I (k _ _ {μ,h,.refl,R,m})
def iD (h:DT X c t):acd X [c] t:=abe h
def abL {K σ H Q}{n}{own p mi tt te}(oo:Rn K n own p)(q:tD K (J2 p ix mi tt te) σ H Q):tLC n own ix (tDI K mi) (tDT K tt) (tD K te) σ H Q:=by
 obtain⟨μ,h,σw,Qw,R,S,m,k⟩:=q;show{μ,h,σw,_,R,S,m,λJ H1 a=>?_};obtain⟨μ1,G,h1,e1,W,L,v⟩:=a;obtain⟨hz,m1⟩:=v.ok;intro D C;have M:=W.nohid C;show{λi n ys H'=>n=G.ws.length-i/\i<=G.ws.length/\ys.length<=i/\H' D=AP (.lst ys)/\∃μ' O h',K5 K H1 μ1 H' μ'/\Dz K μ' H' h'/\μ'.hid D/\aP K H' μ' O ys/\KR G p ix tt te σw Qw (G.ws.drop i) O h',
  {G.ws.length,by simp,Pz _,Em _,aV,μ1.hide D,[],h1,(K5.hide C),W.hide C,.inl rfl,.nil,m1},?_}
 rintro i n' ys H2 ⟨hn,hle,hys,f,μ2,O,h2,e2,R2,U,u,m2⟩ _;by_cases Y:i<G.ws.length
 ·rw[vh Y]at m2;obtain⟨F,m2⟩:=Src.go_ok m2;obtain⟨A,hy⟩:=(L e2 R2 F).1 G.ws[i] (Lq Y);show .inr {A,⋯,λx H3 y=>?_};obtain⟨s,e3,R3,rx⟩:=hy x H3 y;cases E:p G.ws[i]with
  | none=>rw[E]at m2;show m2.elim
  | some us=>
   rw[E]at m2;obtain⟨Z,z,w,t⟩:=oo rx E;have T:=(S.ext (e1.trans (e2.trans e3))).blk (ix:=ix) t;show{Z,z,w,s,h2,_,_,R3,T,m2,λb H4 c=>?_};obtain⟨j,P,e4,V,N⟩:=c;have e:=e3.trans e4;obtain⟨l,o⟩:=e.o D _ U f;cases b with
   | false=>
    show{o,G.ws.length-(i+1),⋯,rfl,Y,⋯,o,j,O,P,e2.trans e,V,l,e.s u,N}
   | true=>
    show{j,P,_,_,V,T.ext e4,N,λv H5 d=>?_};obtain⟨r,X,h5,e5,I,r5,m5⟩:=d;have g:=e.trans e5;obtain⟨J,B⟩:=g.o D _ U f;show{B,G.ws.length-(i+1),⋯,rfl,Y,by simp;omega,aV,r,O++[X],h5,(e2.trans g).x M (abz.grow I J),I.grow J,J,(aP.ex (Ex0.grow I J)<|aP.append (g.s u)<|aP.one r5),m5}
 have ei:i=G.ws.length:=⋯
 subst ei;rw[List.drop_length]at m2;obtain⟨F,m2⟩:=Src.go_ok m2;show .inl {(L e2 R2 F).2 (Em _),k _ _ {μ2.unhide D,.lst O,h2,e1.trans<|e2.x M .unhide,R2.unhide,DW.built R2 U f u,m2}}
variable {scope:Scope}{x:Str}{xs:List Str}{iter:Expr}{px:Pos}{mi:MI}{tt:MT}{te:ME}
def xq (B:jQ X scope [x] ix)(C)(s)(H)(fp):PG (blk X scope (kI X [x] ix) C s H fp) (.Name x px) (aaZ 1 ov1):=by
 obtain⟨O,J⟩:=Rq B (y:=x) (by simp);rintro apn s' σ H' v u Q I r ⟨Y,U,hl,q⟩;cases U;show qw (i:=0) B.nd rfl O J apn s' σ H' v u Q I r ?_;have G:σ.length=(kI X [x] ix).length:=I.len;cases σ with
 | nil=>simp at G
 | cons o σ=>show q
def QB {y}{py pt kt}(hc:X.calm=true)(B:jQ X scope [x,y] ix)(C)(s)(H)(fp)
  (h1:∀env,(Ox [.Name x px,.Name y py] env).map (·.2)=assign (.Name x px) env::(Ox [.Name y py] env).map (·.2):=by intro _;rfl)
  (h2:∀env,(Ox [.Name y py] env).map (·.2)=assign (.Name y py) env::(Ox [] env).map (·.2):=by intro _;rfl)
  (h3:∀env,(Ox [.Name x px,.Name y py] env).length=2:=by intro _;rfl) (h4:∀env,(Ox [.Name x px,.Name y py] env).findIdx? (·.1)=Af:=by intro _;rfl) :
  PG (blk X scope (kI X [x,y] ix) C s H fp) (.Tuple [.Name x px,.Name y py] kt pt) (aaZ 2 (ovT X.K)):=by
 obtain⟨o1,u1⟩:=Rq B (y:=x) (by simp);obtain⟨o2,u2⟩:=Rq B (y:=y) (by simp);rintro apn s' σ H' v u Q I r ⟨vs,⟨a,ea,ha⟩,hl,q⟩;show aer (X:=blk X scope _ C s H fp) hc (zx (qw (i:=0) B.nd rfl o1 u1) (zx (qw (i:=1) B.nd rfl o2 u2) Rj<|h2 _)<|h1 _) (h3 _) (h4 _) apn s' σ H' v u Q I r {a,vs,ea,ha,hl,?_};match vs,hl,q with
 | [v1,v2],_,q=>
  match σ,I.len,q with
  | _::_::σ,_,q=>show{v1,[v2],rfl,v2,[],rfl,rfl,q}
def abB {own ow}(ix)(hc:X.calm=true)(B:jQ X scope xs ix)(oo:Rn X.K xs.length own ow)(hg:∀C s H fp,PG (blk X scope (kI X xs ix) C s H fp) tg (aaZ xs.length own))(hi:Uj X tg iter mi)
  (ht:∀C s H fp,acd (blk X scope (kI X xs ix) C s H fp) ifs tt) (he:∀C s H fp,DE (blk X scope (kI X xs ix) C s H fp) elt te)
  (hs:∀v,YK iter X.env v=pure v:=by intro _;rfl):DE X (.ListComp elt [⟨tg,iter,ifs,0⟩] scope pos) (J2 ow ix mi tt te):=(agk ix hc B hg hi ht he hs).of λ_ _ _ q=>abL oo q
def BK {own ow}(ix){i y}{py spos}(hN:X.N.Nodup)(hi':X.N[i]?=AP y)(hy:Loc X.env.scope y)(hc:X.calm=true)(B:jQ X scope xs ix)(oo:Rn X.K xs.length own ow)
  (hg:∀C s H fp,PG (blk X scope (kI X xs ix) C s H fp) tg (aaZ xs.length own)) (hi:Uj X tg iter mi)
  (ht:∀C s H fp,acd (blk X scope (kI X xs ix) C s H fp) ifs tt) (he:∀C s H fp,DE (blk X scope (kI X xs ix) C s H fp) elt te)
  (hsw:Y7 (.ListComp elt [⟨tg,iter,ifs,0⟩] scope pos) (AP (.Name y py)) spos.line X.env=pure true:=by rfl)
  (hf:X.fn y=true\/X.env.scope.names.lookup y=AP .local:=by first|exact .inl rfl|exact .inr rfl|assumption)
  (hs:∀v,YK iter X.env v=pure v:=by intro _;rfl):DS X (.Assign [.Name y py] (.ListComp elt [⟨tg,iter,ifs,0⟩] scope pos) spos) (bB (J2 ow ix mi tt te) (Aq i)):=
 (afN ix hN hi' hy hc B hg hi ht he hsw hf hs).of λ_ _ _ q=>Wo (λ_ _ _ z=>abL oo z) q
def ahg {κ K}{H0 H μ0 μ k}(G:∀n p,μ0.f n=AP p->n<k):∀{fs:List (κ×W)}{O J},vg K H0 μ0 fs O->vg K H μ fs J->vg K H (μ.cut k) fs J
 | [],_,_,_,.nil=>.nil
 | _::_,_,_,.cons a b,.cons c d=>.cons {c.1,DW.cut c.2 (DW.lo G a.2)} (ahg G b d)
abbrev jE (pure:Bool)(h:Gh)(w:W)(h':Gh)(Q:WK):Prop:=match pure with
 | false=>Q w h'
 | true=>(∀n c,n<h.nx->h.c n=AP c->h'.c n=AP c)/\((Lo h.nx w/\Q w h)\/∃n ws,w=.loc n/\h.nx<=n/\h'.c n=AP (.lst ws)/\Ln h.nx ws/\Q (.lst ws) h)
abbrev Ei (n N:Nat)(G:Bool)(body:Ci->MS):Aw:=λws h Q E=>Lg (UW ws.length n)
 (body E {nx:=λ_ h'=>jE G h .non h' Q,rt:=λw h'=>jE G h w h' Q} (ws.map AP++Kv (N-ws.length) Af) h) False
def G9 {n N}{G}{body h Q E}(x:Ei n N G body ws h Q E):ws.length=n /\
  body E {nx:=λ_ h'=>jE G h .non h' Q,rt:=λw h'=>jE G h w h' Q} (ws.map AP++Kv (N-ws.length) Af) h:=by
 unfold Ei at x;cases e:UW _ n with
 | true=>rw[e]at x;show{rW e,x}
 | false=>rw[e]at x;show x.elim
def Dz.cut {K:CQ}{H H':Hp}{μ μ':Mu}{h h':Gh}(R:Dz K μ H h)(O:Dz K μ' H' h')(e:K5 K H μ H' μ')(q:∀n c,h.c n=AP c->h'.c n=AP c):Dz K (μ'.cut h.nx) H' h where
 inj:=λm n p a b=>O.inj m n p (Mu.cut_some a).2 (Mu.cut_some b).2
 dom:=λn p a=>(Mu.cut_some a).1
 trk:=λn p a=>O.trk n p (Mu.cut_some a).2
 cel:=λn c a=>by
  obtain⟨k,l,U⟩:=R.cel n c a;obtain⟨p,m,x⟩:=O.cel n c (q n c a);show{p,by change(if n<h.nx then μ'.f n else Af)=AP p;rw[if_pos<|R.dom n k l];show m,?_};cases c with
  | lst ws=>
   obtain⟨i,_,G⟩:=U;obtain⟨xs,J,r⟩:=x;show{xs,J,aP.cut r<|aP.lo R.dom G}
  | obj C fs=>
   obtain⟨s,g,_,G⟩:=U;obtain⟨dx,Y,J,r⟩:=x;show{dx,Y,J,ahg R.dom G r}
  | dct kvs=>
   obtain⟨g,_,G⟩:=U;obtain⟨Y,J,r⟩:=x;show{Y,J,ahg R.dom G r}
  | dtt kvs=>
   obtain⟨_,_,_,_,_,u,g⟩:=U;obtain⟨xs,j,a,b,c,d,f⟩:=x;show{xs,j,a,b,c,aP.cut d<|aP.lo R.dom u,aP.cut f<|aP.lo R.dom g}
 hd:=λp z=>{(O.hd p z).1,λn a=>(O.hd p z).2 n (Mu.cut_some a).2}
def K5.cut {K}{H H' μ μ' h}(R:Dz K μ H h)(e:K5 K H μ H' μ'):K5 K H μ H' (μ'.cut h.nx):=
 {λw v r=>DW.cut (e.r w v r) (DW.lo R.dom r),λp u z a=>e.o p u z a}
def yp {K}{H H' h h' w v}{Q}{G}(R:Dz K μ H h)(e:K5 K H μ H' μ')(J:Dz K μ' H' h')(r:DW K H' μ' w v)(x:jE G h w h' Q):DQ K H μ Q v H':=by
 cases G with
 | false=>show⟨μ',w,h',e,J,r,x⟩
 | true=>
  obtain⟨Y,⟨lo,q⟩|⟨n,ws,g,k,j,lo,q⟩⟩:=x;all_goals have b:=λn c a=>Y n c (let⟨p,m,_⟩:=R.cel n c a;R.dom n p m) a
  show{μ'.cut _,w,h,e.cut R,R.cut J e b,DW.cut r lo,q};subst g;show{μ'.cut _,.lst ws,h,e.cut R,R.cut J e b,?_,q};obtain⟨p,i,U⟩:=r;obtain⟨p',xs,O,f,d⟩:=J.lstAt j;obtain rfl:=by rw[U]at O;show(Ky O).symm
  show{p',xs,i,{f,λm a=>?_,λz=>(J.hd p' z).2 n U},aP.cut d lo};obtain⟨a1,a2⟩:=Mu.cut_some a;have:=J.inj m n p' a2 U
  lia
def sS {K H}{N}:∀{ws vs},aP K H μ ws vs->Slots K H μ (ws.map AP++Kv (N.length-ws.length) Af) (start N vs):=by
 intro ws vs r;have hl:=r.len;show{by simp[start,hl],λi w q=>?_};by_cases hi:i<ws.length
 rw[Ut (by simpa using hi)]at q;have J:ws[i]?=AP w:=by
  simp_all
 obtain⟨v,O,G⟩:=r.get J;show{v,?_,G};unfold start;rw[Ut (by rw[Ds];lia),Kh,O];rfl;rw[V9 (by simpa using hi),yu]at q;simp_all
def ahT {P w K}{mg base}{x qual st f fd}{N ps k}{O}{body}(F:VG K x qual st f fd)(S:iH N ps (aY st))
  (g:∀cdv A  (outer) (s) (H) (E),iJ k (A.deeper (Ua qual (aY st) s.heap.objs.size f cdv)) ->
   VH (LC PJ P w K mg base N qual (aY st) f cdv A outer s H E).nox (eV st) (body EF)):lE P w K mg base PJ (k+1) f fd ps (lift K (Ei ps.length N.length O body)):=by
 show F.ok S (λvs H Q E b=>by obtain⟨μ,h,ws,i,R,r,m,k⟩:=b;rw[<-r.len];show(G9 m).1)<|λcdv A outer s H j Q E e a=>?_;obtain⟨μ,h,ws,i,R,r,d,k⟩:=a
 obtain⟨hl,m⟩:=G9 d;show{_,g cdv A outer s H E e,μ,h,_,_,R,sS r,m,?_,?_,?_,?_};rintro J H' ⟨μ1,G,h1,e1,U,Y,m1⟩;show k _ _<|yp R e1 U (by rw[DW]) m1
 rintro v H' ⟨μ1,w1,h1,e1,U,c,m1⟩;show k _ _<|yp R e1 U c m1
 rintro J H' ⟨μ1,G,h1,e1,U,Y,m1⟩;show m1.elim;rintro J H' ⟨μ1,G,h1,e1,U,Y,m1⟩;show m1.elim
end
variable {H0:Hp}{mo te:ME}{mi:MI}{tt:MT}{kt:Nat}
section
variable {X:Cx}{K:CQ}
def DQ.int {H μ h}{i Q}(R:Dz K μ H h)(q:Q (.int i) h):DQ K H μ Q (.int i) H:={μ,.int i,h,.refl,R,by rw[DW],q}
def DQ.bl {H μ h}{i Q}(R:Dz K μ H h)(q:Q (.bl i) h):DQ K H μ Q (.bl i) H:={μ,.bl i,h,.refl,R,by rw[DW],q}
abbrev Di:M2:=λx y h Q=>match x,y with
 | .int i,.int j=>Q (.int (i-j)) h
 | _,_=>False
def qb:Oz X (Ow .Sub) Di:={_,abV,by
 intro H μ h x y U O Y Q R J G m k;unfold Di at m;split at m
 show{_,_,J,G,k _ _<|.int R m};cases m}
abbrev dO:M2:=λx y h Q=>match x,y with
 | .int i,.int j=>gP i j/\Q (.int (i*j)) h
 | _,_=>False
def bL:Oz X (Ow .Mult) dO:={_,RP,by
 intro H μ h x y U O Y Q R J G m k;unfold dO at m;split at m
 show{_,_,J,G,m.1,k _ _<|.int R m.2};cases m}
abbrev Km:M2:=λx y h Q=>match x,y with
 | .int i,.int j=>Q6 i j/\Q (.int (i.fdiv j)) h
 | _,_=>False
def wO:Oz X (Ow .FloorDiv) Km:={_,ajT,by
 intro H μ h x y U O Y Q R J G m k;unfold Km at m;split at m
 show{_,_,J,G,m.1,k _ _<|.int R m.2};cases m}
abbrev Er:M2:=λx y h Q=>match x,y with
 | .int i,.int j=>j≠0/\Q (.int (i.fmod j)) h
 | _,_=>False
def qY:Oz X (Ow .Mod) Er:={_,anz,by
 intro H μ h x y U O Y Q R J G m k;unfold Er at m;split at m
 show{_,_,J,G,m.1,k _ _<|.int R m.2};cases m}
abbrev ag7:M2:=λx y h Q=>match x,y with
 | .int i,.int j=>ahE i j/\Q (.int (i^j.toNat)) h
 | _,_=>False
def agL:Oz X (Ow .Pow) ag7:={_,aez,by
 intro H μ h x y U O Y Q R J G m k;unfold ag7 at m;split at m
 show{_,_,J,G,m.1,k _ _<|.int R m.2};cases m}
abbrev kLt:M2:=λx y h Q=>match x,y with
 | .int i,.int j=>Q (.bl (decide (i<j))) h
 | _,_=>False
def aaL:Oz X (Oi .Lt) kLt:={_,ag4,by
 intro H μ h x y U O Y Q R J G m k;unfold kLt at m;split at m
 show{_,_,J,G,k _ _<|.bl R m};cases m}
abbrev kLe:M2:=λx y h Q=>match x,y with
 | .int i,.int j=>Q (.bl (decide (i<=j))) h
 | _,_=>False
def aib:Oz X (Oi .LtE) kLe:={_,afM,by
 intro H μ h x y U O Y Q R J G m k;unfold kLe at m;split at m
 show{_,_,J,G,k _ _<|.bl R m};cases m}
abbrev S7:M2:=λx y h Q=>match x,y with
 | .int i,.int j=>Q (.bl (decide (j<i))) h
 | _,_=>False
def Ma:Oz X (Oi .Gt) S7:={_,agn,by
 intro H μ h x y U O Y Q R J G m k;unfold S7 at m;split at m
 show{_,_,J,G,k _ _<|.bl R m};cases m}
abbrev kGe:M2:=λx y h Q=>match x,y with
 | .int i,.int j=>Q (.bl (decide (j<=i))) h
 | _,_=>False
def aiK:Oz X (Oi .GtE) kGe:={_,agF,by
 intro H μ h x y U O Y Q R J G m k;unfold kGe at m;split at m
 show{_,_,J,G,k _ _<|.bl R m};cases m}
def aP.ne_nil {H}{xs}(r:aP K H μ ws xs):xs=[]↔ws=[]:=by
 have:=r.len
 grind
abbrev Bq:M2:=λx y h Q=>match y with
 | .int i=>(match view h x with
  | some ws=>(match Np ws i with
   | some w=>Q w h
   | none=>False)
  | none=>False)
 | _=>False
def aP.at {H μ}{ws xs i w}(r:aP K H μ ws xs)(e:Np ws i=AP w):∃v,Np xs i=AP v/\DW K H μ w v:=by
 unfold Np at e|-
 rw[<-r.len];cases q:TX _ i with
 | none=>rw[q]at e;cases e
 | some j=>rw[q]at e;show r.get e
def eY {H h w v}(R:Dz K μ H h)(r:DW K H μ w v)(e:gq h w=AP ws):∃p xs,v=.ref p/\Kr K H p xs/\aP K H μ ws xs:=by
 cases w with
 | lst us|kls us=>
  obtain⟨p,xs,O,hs,J⟩:=r;cases e;show⟨p,xs,O,hs.sq,J⟩
 | loc n=>
  obtain⟨p,O,a⟩:=r;unfold gq at e;dsimp only at e;cases U:h.c n with
  | none=>rw[U]at e;cases e
  | some cl=>
   rw[U]at e;cases cl with
   | lst us=>
    cases e;obtain⟨p',xs,G,Y,J⟩:=R.lstAt U;obtain rfl:=by rw[a]at G;show(Ky G).symm
    show{p',xs,O,.of Y,J}
   | _=>cases e
 | _=>cases e
def Es {H h w v}(R:Dz K μ H h)(r:DW K H μ w v)(e:view h w=AP ws):∃p xs,v=.ref p/\(Kr K H p xs\/KJ K H p xs)/\aP K H μ ws xs:=by
 cases w with
 | tup us=>
  obtain⟨p,xs,J,hs,G⟩:=r;cases e;grind
 | lst us|kls us|loc n=>
  obtain⟨p,xs,J,hs,G⟩:=eY R r e;grind
 | _=>cases e
def acQ:ahI K (rIx K) Bq:=by
 intro H μ h x y e d f Q R U J m k;unfold Bq at m;split at m
 rename_i i;split at m
 rename_i ws c;split at m
 rename_i w b;obtain⟨p,xs,ex,hs,a⟩:=Es R U c;obtain⟨v,O,Y⟩:=a.at b;have G:=k _ _ {μ,w,h,.refl,R,Y,m};rcases hs with hs|hs
 show .inl ⟨p,xs,i,v,ex,J,hs,O,G⟩;show .inr<|.inl ⟨p,xs,i,v,ex,J,hs,O,G⟩
 cases m;cases m;cases m
def agd {a b mb}{pos}(U:DE X a ma)(O:DE X b mb)(hs:Fb b):DE X (.Subscript a b pos) (Av Bq ma mb):=(ags aeJ U O hs).of fun σ H Q h=>two h λR J G m k=>acQ R J G m k
@[reducible]noncomputable def MO:=Sw->Gh->(Option Int->Gh->Prop)->Prop
abbrev tDO (K:CQ)(m:MO):TO:=fun σ H Q=>∃μ h σw G,Dz K μ H h/\Slots K H μ σw σ/\m σw h G/\∀o H',(∃μ' h',K5 K H μ H' μ'/\Dz K μ' H' h'/\G o h')->Q o H'
@[reducible]noncomputable def DO (X:Cx)(e:Option Expr)(m:MO):Prop:=PO X e (tDO X.K m)
def PO.of {e t t'}(h:PO X e t)(k:∀σ H Q,t' σ H Q->t σ H Q):PO X e t':=by
 unfold PO at h|-
 intros
 grind
abbrev fV:MO:=λ_ h Q=>Q Af h
abbrev jV (m:ME):MO:=fun σ h Q=>m σ h λw h1=>match w with
 | .int i=>Q (AP i) h1
 | _=>False
def jh:DO X Af fV:=PO.of amP fun σ H Q a=>by obtain⟨μ,h,σw,G,R,S,m,k⟩:=a;show k _ _ {μ,h,.refl,R,m}
def c7 {e}(J:DE X e ma):DO X (AP e) (jV ma):=PO.of (anl J) fun σ H Q b=>by
 obtain⟨μ,h,σw,U,R,S,m,k⟩:=b;show{μ,h,σw,_,R,S,m,λv H1 a=>?_};obtain⟨μ1,w,h1,e1,O,G,m1⟩:=a;split at m1
 show{_,G,k _ _ ⟨μ1,h1,e1,O,m1⟩};cases m1
abbrev Lz (xs:List W)(lo hi:Option Int):List W:=(xs.drop (HT.sIx xs.length 0 lo)).take (HT.sIx xs.length xs.length hi-HT.sIx xs.length 0 lo)
abbrev U6 (r:W->Option Int->Option Int->Gh->WK->Prop)(m:ME)(l u:MO):ME:=fun σ h Q=>m σ h λx h1=>l σ h1 λlo h2=>u σ h2 λhi G=>r x lo hi G Q
def aP.cutv {H}{xs}(r:aP K H μ ws xs)(lo hi):aP K H μ (Lz ws lo hi) (YD xs lo hi):=by
 unfold Lz YD;show r.len ▸ (r.drop _).take _
end
mutual
noncomputable def K6:W->W->Bool
 | .non,.non=>true
 | .bl a,.bl b=>a==b
 | .bl a,.int b=>(if a then 1 else 0)==b
 | .int a,.bl b=>a==(if b then 1 else 0)
 | .int a,.int b=>a==b
 | .str a,.str b=>a==b
 | .tup a,.tup b=>rZ a b
 | .lst a,.lst b=>rZ a b
 | _,_=>false
noncomputable def rZ:List W->List W->Bool
 | [],[]=>true
 | a::as,b::bs=>K6 a b&&rZ as bs
 | _,_=>false
end
abbrev K1:Nat->W->Bool
 | _,.non=>true
 | _,.bl _=>true
 | _,.int _=>true
 | _,.str _=>true
 | n+1,.tup ws=>ws.all (K1 n)
 | n+1,.lst ws=>ws.all (K1 n)
 | _,_=>false
mutual
noncomputable def Dt (K:CQ)(H:Hp):W->V->Prop
 | .non,v=>v=.non
 | .bl b,v=>v=.bl b
 | .int i,v=>v=.int i
 | .str x,v=>v=.str x
 | .tup ws,v=>∃p xs,v=.ref p/\KJ K H p xs/\Mh K H ws xs
 | .lst ws,v=>∃p xs,v=.ref p/\Kr K H p xs/\Mh K H ws xs
 | .ty _,_=>False
 | .kls _,_=>False
 | .loc _,_=>False
 | .exc _,_=>False
 | .exa _ _,_=>False
 | .fnv _ _,_=>False
noncomputable def Mh (K:CQ)(H:Hp):List W->List V->Prop
 | [],xs=>xs=[]
 | w::ws,xs=>∃v vs,xs=v::vs/\Dt K H w v/\Mh K H ws vs
end
section
variable {X:Cx}{K:CQ}{H:Hp}{h:Gh}
def Mh.len:∀{ws xs},Mh K H ws xs->ws.length=xs.length
 | [],xs,h=>by
  have e:=h;rw[e];rfl
 | w::ws,xs,h=>by
  obtain⟨v,G,e,_,h⟩:=h;rw[e,Od,Od,Mh.len h]
def Mh.get:∀{ws xs}{i:Nat}{w},Mh K H ws xs->ws[i]?=AP w->∃v,xs[i]?=AP v/\Dt K H w v
 | a::ws,xs,0,w,h,e=>by
  obtain⟨v,G,e1,r,_⟩:=h;simp_all
 | a::ws,xs,i+1,w,h,e=>by
  obtain⟨v,G,e1,_,h⟩:=h;subst e1;obtain⟨u,h1,h2⟩:=Mh.get h (by simpa using e)
  simp_all
def zZ {n}(G:∀{w v},DW K H μ w v->K1 n w=true->Dt K H w v):∀{ws xs},aP K H μ ws xs->ws.all (K1 n)=true->Mh K H ws xs
 | [],_,h,_=>by rwa[Mh]
 | w::ws,_,h,p=>by
  obtain⟨v,J,e,r,h⟩:=h;rw[List.all_cons,V5]at p;show{v,J,e,G r p.1,zZ G h p.2}
def Ug:∀n  {w v},DW K H μ w v->K1 n w=true->Dt K H w v:=by
 intro n;induction n with
 | zero=>
  intro w v r p;cases w with
  | non|bl _|int _|str _=>rw[DW]at r;show r
  | _=>simp[K1]at p
 | succ n J=>
  intro w v r p;cases w with
  | non|bl _|int _|str _=>rw[DW]at r;show r
  | tup ws=>
   obtain⟨p',xs,e,hs,G⟩:=r;show{p',xs,e,hs,zZ J G<|by simpa[K1]using p}
  | lst ws=>
   obtain⟨p',xs,e,hs,G⟩:=r;show{p',xs,e,hs.sq,zZ J G<|by simpa[K1]using p}
  | _=>simp[K1]at p
def xK:∀{a b},a.length≠b.length->rZ a b=false
 | [],_::_,_|_::_,[],_=>by simp[rZ]
 | a::as,b::bs,h=>by
  rw[rZ,xK (by simpa using h),nA]
abbrev afh (a b:List W)(j:Nat):Bool:=K6 (a.getD j .non) (b.getD j .non)
def yR:∀{a b},a.length=b.length->(Rb a.length).all (afh a b)=rZ a b
 | [],[],_=>by simp[rZ]
 | a::as,b::bs,h=>by
  rw[rZ,<-yR (by simpa using h),Od,List.range_succ_eq_map,List.all_cons,List.all_map];rfl
mutual
theorem JH {apn:List (Addr×Obj)}{s:Bc}{σ:St}(I:Bk X apn σ H s):∀{w u:W}{v:V},Dt X.K H w v->Dt X.K H u v->K6 w u=true
 | .non,u,v,h,g=>by rw[Dt]at h;subst h;cases u<;>rw[Dt]at g<;>first|rfl|exact g.elim|(obtain⟨_,_,g,_⟩:=g;cases g;done)|(cases g;done)
 | .bl b,u,v,h,g=>by rw[Dt]at h;subst h;cases u<;>rw[Dt]at g<;>first|(injection g with g;simp[K6,g];done)|exact g.elim|(obtain⟨_,_,g,_⟩:=g;cases g;done)|(cases g;done)
 | .int b,u,v,h,g=>by rw[Dt]at h;subst h;cases u<;>rw[Dt]at g<;>first|(injection g with g;simp[K6,g];done)|exact g.elim|(obtain⟨_,_,g,_⟩:=g;cases g;done)|(cases g;done)
 | .str b,u,v,h,g=>by rw[Dt]at h;subst h;cases u<;>rw[Dt]at g<;>first|(injection g with g;simp[K6,g];done)|exact g.elim|(obtain⟨_,_,g,_⟩:=g;cases g;done)|(cases g;done)
 | .tup ws,u,v,h,g=>by
  rw[Dt]at h;obtain⟨p,xs,e,hs,ds⟩:=h;subst e;cases u with
  | tup us=>
   rw[Dt]at g;obtain⟨p',xs',e',hs',ds'⟩:=g;cases e'
   have:=I.tuple_inj hs hs'
   subst this;rw[K6];exact tH I ds ds'
  | lst us=>
   rw[Dt]at g;obtain⟨p',xs',e',hs',ds'⟩:=g;cases e'
   obtain⟨_,_,t,_⟩:=I.tuple hs;obtain⟨_,_,l,_⟩:=I.list hs';exact absurd rfl<|yS l.isList<|show s.heap.IsTuple _ _ from t
  | ty _=>rw[Dt]at g;exact g.elim
  | loc _=>rw[Dt]at g;exact g.elim
  | kls _=>rw[Dt]at g;exact g.elim
  | _=>rw[Dt]at g;cases g
 | .lst ws,u,v,h,g=>by
  rw[Dt]at h;obtain⟨p,xs,e,hs,ds⟩:=h;subst e;cases u with
  | lst us=>
   rw[Dt]at g;obtain⟨p',xs',e',hs',ds'⟩:=g;cases e'
   have:=I.list_inj hs hs'
   subst this;rw[K6];exact tH I ds ds'
  | tup us=>
   rw[Dt]at g;obtain⟨p',xs',e',hs',ds'⟩:=g;cases e'
   obtain⟨_,_,t,_⟩:=I.tuple hs';obtain⟨_,_,l,_⟩:=I.list hs;exact absurd rfl<|yS l.isList<|show s.heap.IsTuple _ _ from t
  | ty _=>rw[Dt]at g;exact g.elim
  | loc _=>rw[Dt]at g;exact g.elim
  | kls _=>rw[Dt]at g;exact g.elim
  | _=>rw[Dt]at g;cases g
 | .ty _,_,_,h,_=>by rw[Dt]at h;exact h.elim
 | .loc _,_,_,h,_=>by rw[Dt]at h;exact h.elim
 | .exc _,_,_,h,_=>by rw[Dt]at h;exact h.elim
 | .exa _ _,_,_,h,_=>by rw[Dt]at h;exact h.elim
 | .kls _,_,_,h,_=>by rw[Dt]at h;exact h.elim
theorem tH {apn:List (Addr×Obj)}{s:Bc}{σ:St}(I:Bk X apn σ H s):∀{ws us:List W}{vs:List V},Mh X.K H ws vs->Mh X.K H us vs->rZ ws us=true
 | [],us,vs,h,g=>by
  rw[Mh]at h;subst h;cases us with
  | nil=>rfl
  | cons _ _=>rw[Mh]at g;obtain⟨_,_,g,_⟩:=g;cases g
 | w::ws,us,vs,h,g=>by
  rw[Mh]at h;obtain⟨v,vs',e,h1,h2⟩:=h;subst e;cases us with
  | nil=>rw[Mh]at g;cases g
  | cons u us=>
   rw[Mh]at g;obtain⟨v',vs'',e',g1,g2⟩:=g;cases e'
   rw[rZ,JH I h1 g1,tH I h2 g2];rfl
end
def aaT {n}(h:K1 n (.lst ws)=true):∃m,n=m+1/\ws.all (K1 m)=true:=by
 cases n with
 | zero=>simp[K1]at h
 | succ m=>show{m,rfl,by simpa[K1]using h}
def Jc {s A}{n}{us}{xs ys}{its G}(h:Mh K H ws xs)(g:Mh K H us ys)(l:ws.all (K1 n)=true)(p2:us.all (K1 n)=true)(c:Cg xs its)(Y:Cg ys G)
  (J:∀{w u v x}{a b},Dt K H w v->Dt K H u x->K1 n w=true->K1 n u=true->RelV v a->RelV x b->Ys A s a b (K6 w u)) :
  ∀j h1  (h2:j<G.toArray.size),Ys A s its.toArray[j] G.toArray[j] (afh ws us j):=by
 intro j h1 h2;have f:j<ws.length:=by rw[h.len,c.length];simpa using h1
 have d:j<us.length:=by rw[g.len,Y.length];simpa using h2
 obtain⟨v,m,dv⟩:=h.get (Lq f);obtain⟨x,ex,dx⟩:=g.get (Lq d);obtain⟨a,p,k⟩:=c.get m;obtain⟨b,o,i⟩:=Y.get ex;have U:its.toArray[j]=a:=by simpa using(Qc.mp p).2
 have O:G.toArray[j]=b:=by simpa using(Qc.mp o).2
 have e:afh ws us j=K6 ws[j] us[j]:=by
  unfold afh
  simp_all
 rw[U,O,e];show J dv dx (Vl.mp l _<|ZS f) (Vl.mp p2 _<|ZS d) k i
def size_of {xs}{its}(d:Mh K H ws xs)(r:Cg xs its):its.toArray.size=ws.length:=by
 rw[d.len,r.length];simp
def aas {us}:((Rb (min ws.length us.length)).all (afh ws us)&&ws.length==us.length)=rZ ws us:=by
 by_cases e:ws.length=us.length
 rw[<-e,Nat.min_self,yR e];simp;rw[xK e,(beq_eq_false_iff_ne.mpr e),nA]
inductive Kd (s:Bc):W->Aj->Prop where
 | non:Kd s .non .none
 | bl (b:Bool):Kd s (.bl b) (.bool b)
 | int (i:Int) (t:Tok):Kd s (.int i) (.int i t)
 | str (x:Str) (t:Tok):Kd s (.str x) (.str x t)
 | tup (ws:List W) {p:Addr}{its:Array Aj}(q:s.heap.IsTuple p its):Kd s (.tup ws) (.ref p)
 | lst (ws:List W) {p:Addr}{its:Array Aj}(q:s.heap.IsList p its):Kd s (.lst ws) (.ref p)
def CN {apn s}{σ:St}(I:Bk X apn σ H s){w v}{a}(d:Dt X.K H w v)(r:RelV v a):Kd s w a:=by
 cases w with
 | non=>rw[Dt]at d;subst d;cases r;show .non
 | bl b=>rw[Dt]at d;subst d;cases r;show .bl b
 | int b=>rw[Dt]at d;subst d;obtain⟨t,rfl⟩:=r;show .int b t
 | str b=>rw[Dt]at d;subst d;obtain⟨t,rfl⟩:=r;show .str b t
 | tup ws=>rw[Dt]at d;obtain⟨p,xs,e,hs,_⟩:=d;subst e;cases r;obtain⟨its,_,q,_⟩:=I.tuple hs;show .tup ws q
 | lst ws=>rw[Dt]at d;obtain⟨p,xs,e,hs,_⟩:=d;subst e;cases r;obtain⟨its,_,q,_⟩:=I.list hs;show .lst ws q.isList
 | _=>rw[Dt]at d;show d.elim
abbrev sq1:W->Bool
 | .tup _=>true
 | .lst _=>true
 | _=>false
abbrev uE:W->W->Bool
 | .tup _,.tup _=>true
 | .lst _,.lst _=>true
 | _,_=>false
abbrev afA (w u:W):Bool:=!(sq1 w||sq1 u)
open SeqAt.EqAt in
def Wu {s A}{w u}{a b}(G:A.units<Lb)(k1:Kd s w a)(k2:Kd s u b)(h:uE w u=false)(f:afA w u=false):Ys A s a b (K6 w u):=by
 cases k1<;>cases k2<;>try (first|(cases h;done)|(cases f;done))
 apply none_tuple<;>assumption
 apply none_list<;>assumption
 apply bool_tuple<;>assumption
 apply bool_list<;>assumption
 apply int_tuple<;>assumption
 apply int_list<;>assumption
 apply str_tuple<;>assumption
 apply str_list<;>assumption
 apply tuple_none<;>assumption
 apply tuple_bool<;>assumption
 apply tuple_int<;>assumption
 apply tuple_str<;>assumption
 apply tuple_list<;>assumption
 apply list_none<;>assumption
 apply list_bool<;>assumption
 apply list_int<;>assumption
 apply list_str<;>assumption
 apply list_tuple<;>assumption
open SeqAt.RcAt in
def aeV {s A}{w u}{a b}(G:A.units<Lb)(k1:Kd s w a)(k2:Kd s u b)(h:uE w u=false):SeqAt.RcAt A s a b (K6 w u):=by
 cases k1<;>cases k2<;>try (first|(cases h;done))
 apply none_none<;>assumption
 apply none_bool<;>assumption
 apply none_int<;>assumption
 apply none_str<;>assumption
 apply none_tuple<;>assumption
 apply none_list<;>assumption
 apply bool_none<;>assumption
 apply bool_bool<;>assumption
 apply bool_int<;>assumption
 apply bool_str<;>assumption
 apply bool_tuple<;>assumption
 apply bool_list<;>assumption
 apply int_none<;>assumption
 apply int_bool<;>assumption
 apply int_int<;>assumption
 apply int_str<;>assumption
 apply int_tuple<;>assumption
 apply int_list<;>assumption
 apply str_none<;>assumption
 apply str_bool<;>assumption
 apply str_int<;>assumption
 apply str_str<;>assumption
 apply str_tuple<;>assumption
 apply str_list<;>assumption
 apply tuple_none<;>assumption
 apply tuple_bool<;>assumption
 apply tuple_int<;>assumption
 apply tuple_str<;>assumption
 apply tuple_list<;>assumption
 apply list_none<;>assumption
 apply list_bool<;>assumption
 apply list_int<;>assumption
 apply list_str<;>assumption
 apply list_tuple<;>assumption
open SeqAt.RcNeAt in
def afi {s A}{w u}{a b}(G:A.units<Lb)(k1:Kd s w a)(k2:Kd s u b)(h:uE w u=false):SeqAt.RcNeAt A s a b (!K6 w u):=by
 cases k1<;>cases k2<;>try (first|(cases h;done))
 apply none_none<;>assumption
 apply none_bool<;>assumption
 apply none_int<;>assumption
 apply none_str<;>assumption
 apply none_tuple<;>assumption
 apply none_list<;>assumption
 apply bool_none<;>assumption
 apply bool_bool<;>assumption
 apply bool_int<;>assumption
 apply bool_str<;>assumption
 apply bool_tuple<;>assumption
 apply bool_list<;>assumption
 apply int_none<;>assumption
 apply int_bool<;>assumption
 apply int_int<;>assumption
 apply int_str<;>assumption
 apply int_tuple<;>assumption
 apply int_list<;>assumption
 apply str_none<;>assumption
 apply str_bool<;>assumption
 apply str_int<;>assumption
 apply str_str<;>assumption
 apply str_tuple<;>assumption
 apply str_list<;>assumption
 apply tuple_none<;>assumption
 apply tuple_bool<;>assumption
 apply tuple_int<;>assumption
 apply tuple_str<;>assumption
 apply tuple_list<;>assumption
 apply list_none<;>assumption
 apply list_bool<;>assumption
 apply list_int<;>assumption
 apply list_str<;>assumption
 apply list_tuple<;>assumption
def zU:∀{w u},uE w u=true->(∃ws us,w=.tup ws/\u=.tup us)\/∃ws us,w=.lst ws/\u=.lst us
 | .tup ws,.tup us,_=>.inl ⟨ws,us,rfl,rfl⟩
 | .lst ws,.lst us,_=>.inr ⟨ws,us,rfl,rfl⟩
abbrev wV:V->W
 | .bl b=>.bl b
 | .int b=>.int b
 | .str b=>.str b
 | _=>.non
def agJ {v x}(h:Q9 v=true)(g:Q9 x=true):K6 (wV v) (wV x)=eqV v x:=by
 cases v<;>first|(cases h;done)|(cases x<;>first|(cases g;done)|rfl)
def W9 {w v}(d:Dt K H w v)(h:sq1 w=false):Q9 v=true/\w=wV v:=by
 cases w with
 | tup _|lst _=>cases h
 | non|bl _|int _|str _=>rw[Dt]at d;subst d;show⟨rfl,rfl⟩
 | _=>rw[Dt]at d;cases d
def Xe {s A}{w u v x}{a b}(U:Dt K H w v)(Y:Dt K H u x)(G:afA w u=true)(O:RelV v a)(J:RelV x b):Ys A s a b (K6 w u):=by
 have G:=Bool.or_eq_false_iff.mp (Eq.mp (Bool.not_eq_true' _) G);have⟨f1,e1⟩:=W9 U G.1;have⟨f2,e2⟩:=W9 Y G.2;rw[e1,e2,agJ f1 f2];show adu O J f1 f2
def Wn {apn s}{σ:St}(I:Bk X apn σ H s){n A}{w u v x}{a b}(l:∀{w u v x}{a b},Dt X.K H w v->Dt X.K H u x->K1 n w=true->K1 n u=true->RelV v a->RelV x b->Ys A.in1 s a b (K6 w u))(g:A.units<Lb)(h2:uE w u=true)(y:Dt X.K H w v)(z:Dt X.K H u x)(j:K1 (n+1) w=true)(k:K1 (n+1) u=true)(t:RelV v a)(r:RelV x b):∃p q,v=.ref p/\x=.ref q/\a=.ref p/\b=.ref q/\SeqAt.RcAt A s a b (K6 w u)/\SeqAt.RcNeAt A s a b (!K6 w u):=by
 rcases zU h2 with⟨ws,us,rfl,rfl⟩|⟨ws,us,rfl,rfl⟩<;>obtain⟨p,o,rfl,i,O⟩:=y<;>obtain⟨q,m,rfl,h,c⟩:=z<;>cases t<;>cases r<;>show{p,q,rfl,rfl,rfl,rfl,?_}<;>rw[K6]<;>rw[K1]at j k
 obtain⟨Y,G,f,_⟩:=I.tuple i;obtain⟨U,J,d,_⟩:=I.tuple h;have it:=Jc O c j k G J l;rw[<-aas,<-size_of O G,<-size_of c J];show{.tuples f d g it,.tuples f d g it};obtain⟨Y,G,f,_⟩:=I.list i;obtain⟨U,J,d,_⟩:=I.list h;by_cases hl:ws.length=us.length
 have it:=Jc O c j k G J l;have e:Y.toArray.size=U.toArray.size:=by rw[size_of O G,size_of c J,hl]
 rw[<-yR hl,<-size_of O G];show{.lists f.isList d.isList e g it,.lists f.isList d.isList e g it};rw[xK hl];have e:(Y.toArray.size != U.toArray.size)=true:=by rw[size_of O G,size_of c J];show bne_iff_ne.mpr hl
 show{.lists_lengths f.isList d.isList e g,.lists_lengths f.isList d.isList e g}
def Qo {w u}(h:uE w u=true):∀{n},K1 n w=true->∃m,n=m+1
 | 0,p=>by rcases zU h with⟨_,_,rfl,_⟩|⟨_,_,rfl,_⟩<;>cases p
 | m+1,_=>⟨m,rfl⟩
def afk {apn s}{σ:St}(I:Bk X apn σ H s):∀n  {A}{w u v x}{a b},A.units+n<Lb->Dt X.K H w v->Dt X.K H u x->K1 n w=true->K1 n u=true->RelV v a->RelV x b->Ys A s a b (K6 w u):=by
 intro n;induction n with
 | zero=>
  intro A w u v x a b Y G J d f U O;by_cases c:afA w u=true
  show Xe G J c U O;by_cases h2:uE w u=true
  obtain⟨m,e⟩:=Qo h2 d;cases e;show Wu Y (CN I G U) (CN I J O) (Zh _ ▸ h2)<|Zh _ ▸ c
 | succ n h=>
  intro A w u v x a b Y G J d f U O;by_cases c:afA w u=true
  show Xe G J c U O;by_cases h2:uE w u=true
  obtain⟨p,q,rfl,rfl,rfl,rfl,z,_⟩:=Wn I (h (by rw[Nat.add_assoc,Nat.add_comm 1];show Y)) (ZP (Nat.le_add_right _ _) Y) h2 G J d f U O;by_cases g:p=q
  subst g;rw[JH I G J];show SeqAt.EqAt.same _;show SeqAt.EqAt.of_refs g z;show Wu (ZP (Nat.le_add_right _ _) Y) (CN I G U) (CN I J O) (Zh _ ▸ h2)<|Zh _ ▸ c
def rcN {apn s}{σ:St}(I:Bk X apn σ H s){A}{w u v x}{a b}{p:Prop}(c:A.units+(m+1)<Lb)(G:A.units<Lb)(h2:uE w u=true)(d:Dt X.K H w v)(e:Dt X.K H u x)(U:K1 (m+1) w=true)(Y:K1 (m+1) u=true)(O:RelV v a)(J:RelV x b)(f:SeqAt.RcAt A s a b (K6 w u)/\SeqAt.RcNeAt A s a b (!K6 w u)->p):p:=by
 obtain⟨_,_,_,_,_,_,z⟩:=Wn I (afk I m (by rw[Nat.add_assoc,Nat.add_comm 1];show c)) G h2 d e U Y O J;show f z
def afY {apn s}{σ:St}(I:Bk X apn σ H s)(n){A}{w u v x}{a b}(Y:A.units+n<Lb)(c:Dt X.K H w v)(d:Dt X.K H u x)(U:K1 n w=true)(e:K1 n u=true)(O:RelV v a)(J:RelV x b):SeqAt.RcAt A s a b (K6 w u):=by
 have G:=ZP (Nat.le_add_right _ _) Y;by_cases h2:uE w u=true
 obtain⟨m,rfl⟩:=Qo h2 U;show rcN I Y G h2 c d U e O J (·.1);show aeV G (CN I c O) (CN I d J)<|Zh _ ▸ h2
def zcg {apn s}{σ:St}(I:Bk X apn σ H s)(n){A}{w u v x}{a b}(Y:A.units+n<Lb)(c:Dt X.K H w v)(d:Dt X.K H u x)(U:K1 n w=true)(e:K1 n u=true)(O:RelV v a)(J:RelV x b):SeqAt.RcNeAt A s a b (!K6 w u):=by
 have G:=ZP (Nat.le_add_right _ _) Y;by_cases h2:uE w u=true
 obtain⟨m,rfl⟩:=Qo h2 U;show rcN I Y G h2 c d U e O J (·.2);show afi G (CN I c O) (CN I d J)<|Zh _ ▸ h2
abbrev Lw (h:Gh):W->Option W
 | .loc n=>(match h.c n with
  | some (.lst ws)=>AP (.lst ws)
  | _=>Af)
 | w=>AP w
def xM {w d v}{n}(R:Dz K μ H h)(r:DW K H μ w v)(e:Lw h w=AP d)(p:K1 n d=true):Dt K H d v:=by
 have G:Lw h w=AP w->Dt K H d v:=λz=>by
  rw[z]at e;cases e;show Ug n r p
 cases w with
 | loc m=>
  unfold Lw at e;dsimp only at e;cases O:h.c m with
  | none=>rw[O]at e;cases e
  | some cl=>
   rw[O]at e;cases cl with
   | lst us=>
    cases e;obtain⟨p',xs,J,Y,U⟩:=R.lstAt O;obtain⟨q,b,a⟩:=r;cases by rw[a]at J;show(Ky J).symm
    obtain⟨k,rfl,p⟩:=aaT p;show{p',xs,b,.of Y,zZ (Ug k) U p}
   | _=>cases e
 | _=>show G rfl
abbrev ahP (K:CQ)(G:Bool):R2:=λx y H Q=>∃w u,Dt K H w x/\Dt K H u y/\K1 30 w=true/\K1 30 u=true/\Q (.bl (if G then !K6 w u else K6 w u)) H
def aek (U:X.A.units+30<Lb):Mg X (Oi .Eq) (ahP X.K false):=by
 rintro apn s σ H x y v u Q I J G ⟨w,b,a,Y,O,p2,q⟩;show afY I 30 U a Y O p2 J G _ _ _ _<|Ht I q rfl
def afc (U:X.A.units+30<Lb):Mg X (Oi .NotEq) (ahP X.K true):=by
 rintro apn s σ H x y v u Q I J G ⟨w,b,a,Y,O,p2,q⟩;show zcg I 30 U a Y O p2 J G _ _ _ _<|Ht I q rfl
abbrev KN:M2:=λx y h Q=>match Lw h x,Lw h y with
 | some a,AP b=>Lg (K1 30 a&&K1 30 b) (Q (.bl (K6 a b)) h) False
 | _,_=>False
abbrev Nh:M2:=λx y h Q=>match Lw h x,Lw h y with
 | some a,AP b=>Lg (K1 30 a&&K1 30 b) (Q (.bl (!K6 a b)) h) False
 | _,_=>False
def lD (U:X.A.units+30<Lb):Oz X (Oi .Eq) KN:={_,aek U,by
 intro H μ h x y e d f Q R O J m k;unfold KN at m;split at m
 ·rename_i a b c Y;cases G:(K1 30 a&&K1 30 b)with
  | true=>
   rw[G]at m;rw[V5]at G;show{a,b,xM R O c G.1,xM R J Y G.2,G.1,G.2,k _ _<|.bl R m}
  | false=>rw[G]at m;cases m
 cases m}
def J6 (U:X.A.units+30<Lb):Oz X (Oi .NotEq) Nh:={_,afc U,by
 intro H μ h x y e d f Q R O J m k;unfold Nh at m;split at m
 ·rename_i a b c Y;cases G:(K1 30 a&&K1 30 b)with
  | true=>
   rw[G]at m;rw[V5]at G;show{a,b,xM R O c G.1,xM R J Y G.2,G.1,G.2,k _ _<|.bl R m}
  | false=>rw[G]at m;cases m
 cases m}
def ahw {A}{k}(G:iJ k A):A.units+30<Lb:=by have:=G.units;lia
end
section
variable {X:Cx}{K:CQ}
def iQ {H w}{vs}(r:aP K H μ [w] vs):∃v,vs=[v]/\DW K H μ w v:=by
 obtain⟨v,G,O,J,r⟩:=r;subst r;simp_all
def J1 {H}{w u}{vs}(r:aP K H μ [w,u] vs):∃v x,vs=[v,x]/\DW K H μ w v/\DW K H μ u x:=by
 obtain⟨v,G,U,O,r⟩:=r;obtain⟨x,e,J⟩:=iQ r;grind
def gP.of {i j n}(hi:Sm m i)(hj:Sm n j)(J:m<=1000000)(G:n<=1000000):gP i j:=⟨m,n,J,G,hi,hj⟩
def Sm.lit {i}(h:Nat.ble (i.natAbs+1) (2^64)=true):Sm 64 i:=by
 have:=YW h
 assumption
abbrev Fz:MC:=λws h Q=>match ws with
 | [w]=>(match view h w with
  | some xs=>Q (.int (xs.length:Int)) h
  | none=>False)
 | _=>False
def fY:jG X (.builtin "len") Fz:={_,zae,by
 intro H μ h U ws Y Q R r m k;unfold Fz at m;split at m
 split at m
 rename_i w _ xs O;obtain⟨v,e,G⟩:=iQ r;obtain⟨p,ys,ex,hs,J⟩:=Es R G O;subst e ex;show{p,ys,rfl,hs,J.len ▸ k _ _ (.int R m)};cases m;cases m}
abbrev WR:MC:=λws h Q=>match ws with
 | [.int i]=>Q (.int (if i<0 then -i else i)) h
 | _=>False
def Lj:jG X (.builtin "abs") WR:={_,zbE,by
 intro H μ h J ws O Q R r m k;unfold WR at m;split at m
 obtain⟨v,e,G⟩:=iQ r;subst e G;show{_,rfl,k _ _<|.int R m};cases m}
abbrev ada:MC:=λws h Q=>match ws with
 | [.int i,.int j]=>Q (.int (if j>i then j else i)) h
 | _=>False
def aen (O:X.calm=true):jG X (.builtin "max") ada:={_,zbm O,by
 intro H μ h U ws Y Q R r m k;unfold ada at m;split at m
 obtain⟨v,x,e,J,G⟩:=J1 r;subst e J G;show{_,_,rfl,k _ _<|.int R m};cases m}
abbrev ac1:MC:=λws h Q=>match ws with
 | [.int i,.int j]=>Q (.int (if j<i then j else i)) h
 | _=>False
def ad4 (O:X.calm=true):jG X (.builtin "min") ac1:={_,ajK O,by
 intro H μ h U ws Y Q R r m k;unfold ac1 at m;split at m
 obtain⟨v,x,e,J,G⟩:=J1 r;subst e J G;show{_,_,rfl,k _ _<|.int R m};cases m}
abbrev TV:List W->Option (List Bool)
 | []=>AP []
 | .bl b::ws=>(TV ws).map (b::·)
 | _=>Af
def Ep {H μ}:∀{ws xs}{bs},aP K H μ ws xs->TV ws=AP bs->xs=bs.map V.bl
 | [],xs,bs,r,e=>by
  cases e;show r
 | w::ws,xs,bs,r,e=>by
  obtain⟨v,O,J,G,r⟩:=r;cases w with
  | bl b=>
   rw[TV]at e;cases q:TV ws with
   | none=>rw[q]at e;cases e
   | some cs=>
    rw[q]at e;cases e;rw[J,G,Ep r q];rfl
  | _=>cases e
abbrev agf:MC:=λws h Q=>match ws with
 | [w]=>(match gq h w with
  | some us=>(match TV us with
   | some bs=>Q (.bl (bs.all id)) h
   | none=>False)
  | none=>False)
 | _=>False
def agB (O:X.calm=true):jG X (.builtin "all") agf:={_,ajQ O,by
 intro H μ h a ws b Q R r m k;unfold agf at m;split at m
 split at m
 split at m
 rename_i w _ us U _ bs Y;obtain⟨v,e,G⟩:=iQ r;obtain⟨p,ys,ex,hs,J⟩:=eY R G U;subst e ex;show{p,bs,rfl,Ep J Y ▸ hs,k _ _<|.bl R m};cases m;cases m;cases m}
abbrev fK:MC:=λws h Q=>match ws with
 | [.tup us]=>Q (.tup us) h
 | [w]=>(match gq h w with
  | some us=>Q (.tup us) h
  | none=>False)
 | _=>False
def gH:jG X (.type "tuple") fK:={_,amO,by
 intro H μ h Y ws a Q R r m k;unfold fK at m;split at m
 obtain⟨v,e,G⟩:=iQ r;have J:=G;obtain⟨p,xs,ex,hs,O⟩:=G;subst e ex;show{p,xs,rfl,.inr {hs,k _ _ {μ,_,h,.refl,R,J,m}}};split at m
 rename_i w _ _ us U;obtain⟨v,e,G⟩:=iQ r;obtain⟨p,ys,ex,hs,O⟩:=eY R G U;subst e ex;show{p,ys,rfl,.inl {hs,λl hl=>k _ _ {μ,_,h,(Ex.laid hl).ext,R.laid hl,.tupNew hl O,m}}};cases m;cases m}
abbrev rY:MC:=λws h Q=>match ws with
 | [w]=>(match view h w with
  | some us=>Q (.lst us) h
  | none=>False)
 | _=>False
def sW:jG X (.type "list") rY:={_,ajb,by
 intro H μ h U ws Y Q R r m k;unfold rY at m;split at m
 split at m
 rename_i w _ xs O;obtain⟨v,e,G⟩:=iQ r;obtain⟨p,ys,ex,hs,J⟩:=Es R G O;subst e ex;show{p,ys,rfl,hs,λl hl=>k _ _ {μ,_,h,(Ex.laid hl).ext,R.laid hl,.lstNew R hl J,m}};show m.elim;cases m}
@[reducible]noncomputable def MM:=W->List W->Gh->WK->Prop
abbrev agh (K:CQ)(r:V->List V->Hp->VK->Prop)(mr:MM):Prop:=∀{H:Hp}{μ:Mu}{h:Gh}{x:V}{vs:List V}{G:W}{ws:List W}{J:WK}{Q:VK},Dz K μ H h->DW K H μ G x->aP K H μ ws vs->mr G ws h J->(∀v H',DQ K H μ J v H'->Q v H')->r x vs H Q
abbrev Lr (h:Gh)(w:W)(P:Prop):Prop:=match w with
 | .loc n=>(match h.c n with
  | some (.lst _)=>P
  | _=>False)
 | _=>False
def JD {H h w v}{P}(R:Dz K μ H h)(r:DW K H μ w v)(e:Lr h w P):tyV K "list" v H/\P:=by
 unfold Lr at e;split at e
 split at e
 rename_i n _ ws Y;obtain⟨p,U,O⟩:=r;obtain⟨p',xs,G,J,a⟩:=R.lstAt Y;have ep:=by rw[O]at G;show(Ky G).symm
 subst ep U;show{.inl {rfl,xs,.of J},e};cases e;cases e
abbrev Bw (r:MM)(mo:ME)(ma:MA):ME:=fun σ h Q=>mo σ h λx h1=>Lr h1 x (ma σ h1 λxs h2=>r x xs h2 Q)
variable {o e:Expr}{es:List Expr}{ma:MA}{name:Str}{apos apq:Pos}{id:String}{r:V->List V->Hp->VK->Prop}{mr:MM}
def ahL (slot:Slot "list" name id)(hty:typeOf (.builtin id)=pure (.type "method_descriptor"))(hm:MtR X id r)(hs:agh X.K r mr)(ho:DE X o mo)(ha:Mp X (e::es) ma)
  (hbase:Yb o name X.env (eval o X.env)=eval o X.env:=by rfl)
  (hfew:((Ku apq (Dc (e::es) X.env)).all (λx=>!x.1)&&(backToKw apq (Ye [] X.env)).all (λx=>x.1.isSome)
   && decide ((e::es).length+([]:List SM).length+(if([]:List SM).isEmpty then 0 else 1)<30))=true:=by rfl)
  (hline:(apos.endLine==apq.line)=true:=by rfl) (hst:Dc (e::es) X.env=(false,eval e X.env)::Dc es X.env:=by rfl) (hplain:(Ku apq (Dc es X.env)).any (·.1)=false:=by rfl) :
  DE X (.Call (.Attribute o name apos) (e::es) [] apq) (Bw mr mo ma):=(ag5 PySem.F.plainAttrs_list slot hty hm ho ha hbase hfew hline hst hplain).of fun σ H Q a=>by
 obtain⟨μ,h,σw,Qw,R,S,m,k⟩:=a;show{μ,h,σw,_,R,S,m,λv H1 b=>by obtain⟨μ1,w,h1,e1,R1,r1,il⟩:=b;show {(JD R1 r1 il).1,μ1,h1,σw,_,R1,S.ext e1,((JD R1 r1 il).2),λvs H2 c=>by obtain⟨μ2,ws,h2,e2,R2,r2,m2⟩:=c;show hs R2 (e2.r _ _ r1) r2 m2 λv H' z=>k _ _<|(z.trans e2).trans e1}}
abbrev cW:MM:=λx ws h Q=>match x,ws with
 | .loc n,[w]=>(match h.c n with
  | some (.lst us)=>us.length<El/\Q .non (h.set n (.lst (us++[w])))
  | _=>False)
 | _,_=>False
def aad {H h}{n v}{us}(R:Dz K μ H h)(r:DW K H μ (.loc n) v)(J:h.c n=AP (.lst us)):∃p xs,v=.ref p/\μ.f n=AP p/\H p=AP (.lst xs)/\aP K H μ us xs:=by
 obtain⟨p,a,Y⟩:=r;obtain⟨p',xs,G,U,O⟩:=R.lstAt J;simp_all
def DQ.wrote {H h}{n}{p}{us xs Q w v}(R:Dz K μ H h)(G:μ.f n=AP p)(O:aP K H μ us xs)(J:DW K H μ w v)(q:Q w (h.set n (.lst us))):DQ K H μ Q v (Dn H p (.lst xs)):=
 {μ,w,h.set n (.lst us),(Ex.write R G).ext,R.write G trivial {xs,aV,(Ex.write R G).ext.s O},(Ex.write R G).ext.r _ _ J,q}
def zbJ:agh K Qq cW:=by
 intro H μ h x e d ws f Q R J U m k;unfold cW at m;split at m
 split at m
 rename_i n w _ us c;obtain⟨p,xs,ex,a,Y,G⟩:=aad R J c;obtain⟨v,b,O⟩:=iQ U;show{p,xs,v,ex,b,Y,G.len ▸ m.1,k _ _<|.wrote R a (G.append<|.one O) (by rw[DW]) m.2};cases m;cases m
def fU (ho:DE X o mo)(ha:Mp X [e] ma)
  (hbase:Yb o "append" X.env (eval o X.env)=eval o X.env:=by rfl)
  (hfew:((Ku apq (Dc [e] X.env)).all (λx=>!x.1)&&(backToKw apq (Ye [] X.env)).all (λx=>x.1.isSome)
   && decide (([e]:List Expr).length+([]:List SM).length+(if([]:List SM).isEmpty then 0 else 1)<30))=true:=by rfl)
  (hline:(apos.endLine==apq.line)=true:=by rfl) (hst:Dc [e] X.env=(false,eval e X.env)::Dc [] X.env:=by rfl) (hplain:(Ku apq (Dc [] X.env)).any (·.1)=false:=by rfl) :
  DE X (.Call (.Attribute o "append" apos) [e] [] apq) (Bw cW mo ma):=ahL PySem.F.slot_list_append PySem.F.type_list_append Bo zbJ ho ha hbase hfew hline hst hplain
end
section
variable {X:Cx}{K:CQ}
def aeK:Mg X (Oi .Is) (λx y H Q=>∃c b,x=.bl c/\y=.bl b/\Q (.bl (c==b)) H):=by
 rintro apn s σ H x y v u Q I J G ⟨c,b,ex,O,q⟩;subst ex O;cases J;cases G;show is_bool<|Ht I q rfl
abbrev acH:W->Bool
 | .non=>true
 | _=>false
def amx {H w v}(r:DW K H μ w v):decide (v=.non)=acH w:=by
 cases w with
 | non|bl _|int _|str _|ty _|fnv _ _=>rw[DW]at r;subst r;rfl
 | tup _|lst _|kls _=>rw[DW]at r;obtain⟨_,_,e,_⟩:=r;subst e;rfl
 | loc _=>rw[DW]at r;obtain⟨_,e,_⟩:=r;subst e;rfl
 | exc _=>rw[DW]at r;obtain⟨_,_,_,e,_⟩:=r;subst e;rfl
 | exa _ _=>rw[DW]at r;obtain⟨_,_,_,_,_,_,e,_⟩:=r;subst e;rfl
abbrev Vx:M2:=λx y h Q=>match x,y with
 | .bl c,.bl b=>Q (.bl (c==b)) h
 | w,.non=>Q (.bl (acH w)) h
 | _,_=>False
def afr:Oz X (Oi .Is) Vx:={_,aeK.or abG,by
 intro H μ h x y U O Y Q R J G m k;unfold Vx at m;split at m
 show .inl {_,_,J,G,k _ _<|.bl R m};show amx J ▸ .inr {G,k _ _<|.bl R m};cases m}
def zaQ (bs:List Bool):((Rb bs.length).any λi=>(bs[i]?).getD true)=bs.any id:=by
 rw[Bool.eq_iff_iff,List.any_eq_true,List.any_eq_true];constructor;rintro⟨i,hi,e⟩;have G:=Wa.mp hi;show{bs[i],ZS G,by simpa[G]using e};rintro⟨b,J,e⟩;obtain⟨i,hi,rfl⟩:=List.mem_iff_getElem.mp J;show{i,Wa.mpr hi,by simpa[hi]using e}
def zaS (a:X.calm=true):jC X (.builtin "any") (λxs H Q=>∃(p:Addr) (bs:List Bool),xs=[.ref p]/\Kr X.K H p (bs.map V.bl)/\Q (.bl (bs.any id)) H):=by
 rintro apn s σ H xs us Q I r ⟨p,bs,e,c,q⟩;subst e;obtain⟨u,rfl,U⟩:=vals1 r;cases U;obtain⟨its,J,pl,f⟩:=I.list c;have G:its.length=bs.length:=by rw[<-J.length,Ds]
 have hl:=pl.isList;show call_any_walk<|ZV hl ?_
 show{(~~~s),[(~~~s),p],[(~~~s)],its.toArray.size,_,_,λi=>(bs[i]?).getD true,rfl,Walks.list (A:=X.A.in1) (I.ok.hd a) _ p (KC (by obtain⟨_,e,_⟩:=hl;show FP e)) _,
  {{_,Kf _ rfl,rfl,rfl},hl.push _},λi v s' g h d O=>?_,λh' tk Y=>?_}
 obtain⟨b,e,rfl⟩:=tV J (by simpa using d);simp[e]at O;show Za O;have e:((Rb its.toArray.size).any λi=>(bs[i]?).getD true)=bs.any id:=by
  rw[Lf,G];show zaQ bs
 rw[e];show{.bl _,H,I.kept<|λb x e=>?_,rfl,q};show Y b x (λhm=>by rw[R6.mp hm]at e;show RX _ (FP e))<|FW _ e
abbrev X3:MC:=λws h Q=>match ws with
 | [w]=>(match gq h w with
  | some us=>(match TV us with
   | some bs=>Q (.bl (bs.any id)) h
   | none=>False)
  | none=>False)
 | _=>False
def Z8 (O:X.calm=true):jG X (.builtin "any") X3:={_,zaS O,by
 intro H μ h a ws b Q R r m k;unfold X3 at m;split at m
 split at m
 split at m
 rename_i w _ us U _ bs Y;obtain⟨v,e,G⟩:=iQ r;obtain⟨p,ys,ex,hs,J⟩:=eY R G U;subst e ex;show{p,bs,rfl,Ep J Y ▸ hs,k _ _<|.bl R m};cases m;cases m;cases m}
def zbM:Mg X (Ow .Add) (λx y H Q=>∃a b ys,x=.ref a/\y=.ref b/\KJ X.K H a []/\KJ X.K H b ys/\Q (.ref b) H):=by
 rintro apn s σ H x y v u Q I h g ⟨a,b,ys,ex,r,p,o,q⟩;subst ex r;cases h;cases g;obtain⟨its,i,j,_⟩:=I.tuple p;obtain⟨k,w,p2,_⟩:=I.tuple o;cases i;obtain⟨⟨t,dd,e,sl⟩,d,m,n,l⟩:=j;obtain⟨⟨f,Y,c,J⟩,G,U,n2,O⟩:=p2;subst m l U O;show concat_meets {_,d,rfl} {_,G,rfl} noFill_tuple_add seq_tuple_add PySem.F.slot_tuple_add PySem.F.entry_tuple_add (PySem.F.args_tuple_add_2 _ _)
  (tuple_addW0 a b _ _ n n2 dd Y sl J (by simp)) {d,G,.ref b,H,I,rfl,q}
abbrev Tw (h:Gh):W->Option (List W)
 | .lst ws=>AP ws
 | .loc n=>(match h.c n with
  | some (.lst ws)=>AP ws
  | _=>Af)
 | _=>Af
def Et {H h w v}(R:Dz K μ H h)(r:DW K H μ w v)(e:Tw h w=AP ws):∃p xs,v=.ref p/\H p=AP (.lst xs)/\aP K H μ ws xs:=by
 cases w with
 | lst us=>
  obtain⟨p,xs,O,hs,J⟩:=r;cases e;show⟨p,xs,O,hs.1,J⟩
 | loc n=>
  unfold Tw at e;dsimp only at e;cases G:h.c n with
  | none=>rw[G]at e;cases e
  | some cl=>
   rw[G]at e;cases cl with
   | lst us=>
    cases e;obtain⟨p,xs,O,_,U,J⟩:=aad R r G;simp_all
   | _=>cases e
 | _=>cases e
abbrev cF:M2:=λx y h Q=>match x,y with
 | .int i,.int j=>Q (.int (i+j)) h
 | .tup [],.tup b=>Q (.tup b) h
 | .tup (a0::a),.tup b=>fQ (a.length+1+b.length) (Q (.tup (a0::a++b)) h)
 | x,y=>(match Tw h x,Tw h y with
  | some a,AP b=>fQ (a.length+b.length) (Q (.lst (a++b)) h)
  | _,_=>False)
def bO:Oz X (Ow .Add) cF:={_,(adO.or (zbM.or alI)).or adK,by
 intro H μ h x y n j r Q R c Y m k;unfold cF at m;split at m
 show .inl<|.inl {_,_,c,Y,k _ _<|.int R m}
 have U:=Y;obtain⟨p,xs,ex,e,G⟩:=c;obtain⟨q,ys,O,d,J⟩:=Y;subst G;rw[O]at U;show .inl<|.inr<|.inl {p,q,ys,ex,O,e,d,k _ _ {μ,_,h,.refl,R,U,m}}
 rename_i o a b;have f:=c;obtain⟨p,xs,ex,e,G⟩:=c;obtain⟨q,ys,O,d,J⟩:=Y;show .inl<|.inr<|.inr {p,q,xs,ys,ex,O,e,d,λz=>(by have:=G.ne_nil.mp z;cases this),by rw[<-G.len,<-J.len];show m.ok.1,λz=>?_,λz l hl=>?_}
 cases J.ne_nil.mp z
 show k _ _ {μ,.tup _,h,.refl,R,?_,m.ok.2}
 rwa[Zr,<-ex]
 show k _ _ {μ,_,h,(Ex.laid hl).ext,R.laid hl,.tupNew hl<|G.append J,m.ok.2};split at m
 rename_i a b i g;obtain⟨p,xs,ex,e,G⟩:=Et R c i;obtain⟨q,ys,O,d,J⟩:=Et R Y g;show .inr {p,q,xs,ys,ex,O,e,d,by rw[<-G.len,<-J.len];show m.ok.1,λl hl=>k _ _ {μ,_,h,(Ex.laid hl).ext,R.laid hl,.lstNew R hl<|G.append J,m.ok.2}};cases m}
abbrev jW:MM:=λx ws h Q=>match x,ws with
 | .loc n,[w]=>(match h.c n,Tw h w with
  | some (.lst us),AP zs=>fQ (us.length+zs.length) (Q .non (h.set n (.lst (us++zs))))
  | _,_=>False)
 | _,_=>False
def alE:agh K Tj jW:=by
 intro H μ h x j i ws l Q R O Y m k;unfold jW at m;split at m
 split at m
 rename_i n w _ _ us zs g d;obtain⟨p,xs,ex,c,b,J⟩:=aad R O g;obtain⟨v,f,U⟩:=iQ Y;obtain⟨q,ys,e,a,G⟩:=Et R U d;subst e;show{p,q,xs,ys,ex,f,b,a,by rw[<-J.len,<-G.len];show m.ok.1,k _ _<|.wrote R c (J.append G) (by rw[DW]) m.ok.2};cases m;cases m
variable {o e:Expr}{ma:MA}{apos apq:Pos}
def zbN (ho:DE X o mo)(ha:Mp X [e] ma)
  (hbase:Yb o "extend" X.env (eval o X.env)=eval o X.env:=by rfl)
  (hfew:((Ku apq (Dc [e] X.env)).all (λx=>!x.1)&&(backToKw apq (Ye [] X.env)).all (λx=>x.1.isSome)
   && decide (([e]:List Expr).length+([]:List SM).length+(if([]:List SM).isEmpty then 0 else 1)<30))=true:=by rfl)
  (hline:(apos.endLine==apq.line)=true:=by rfl) (hst:Dc [e] X.env=(false,eval e X.env)::Dc [] X.env:=by rfl) (hplain:(Ku apq (Dc [] X.env)).any (·.1)=false:=by rfl) :
  DE X (.Call (.Attribute o "extend" apos) [e] [] apq) (Bw jW mo ma):=ahL PySem.F.slot_list_extend PySem.F.type_list_extend zbg alE ho ha hbase hfew hline hst hplain
end
abbrev Z2 (K:CQ):Sp:=λvs H Q _=>∃(a:Addr) (ns:List Int),vs=[.ref a]/\Kr K H a (ns.map V.int)/\Only H/\ns.length<=63/\∀H',Q (.bl true) H'
abbrev g0:Gh:=⟨0,λ_=>Af⟩
abbrev μ0:Mu:=⟨λ_=>Af,λ_=>False⟩
def ahQ {K:CQ}{H:Hp}:Dz K μ0 H g0 where
 inj:=nofun
 dom:=nofun
 trk:=nofun
 cel:=nofun
 hd:=λp h=>Uq h
def uL {K H μ}:∀ns:List Int,aP K H μ (ns.map W.int) (ns.map V.int)
 | []=>.nil
 | n::ns=>.cons (by rw[DW]) (uL ns)
def akk {P w K}{mg base k}{f fd}{ps}
  (J:∀ns:List Int,ns.length<=63->ms [.kls (ns.map W.int)] g0 (λw _=>w=.bl true) EF) (F:lE P w K mg base PJ k f fd ps (lift K ms)):lE P w K mg base PJ k f fd ps (Z2 K):=
 F.imp λvs H Q E b=>by
  obtain⟨a,ns,e,G,O,hl,q⟩:=b;subst e;show{μ0,g0,[.kls _],_,ahQ,.one ?_,J ns hl,λv H' ⟨μ',U,h',_,_,r,e⟩=>?_};show{a,ns.map _,rfl,?_,uL ns};rcases G with(G|G)|G
  rcases O a with z|⟨o,xs,z⟩<;>rw[G]at z<;>cases z
  show .inl G;show .inr G;subst e r;show q H'
inductive Sk where
 | l|t
abbrev Sk.sq (k:Sk)(h:Heap)(a:Addr)(its:Array Aj):Prop:=match k with
 | .l=>h.IsList a its
 | .t=>h.IsTuple a its
abbrev Sk.it (k:Sk)(h:Heap)(i a:Addr)(n:Nat):Prop:=match k with
 | .l=>h.IsListIter i a n
 | .t=>h.IsTupleIter i a n
abbrev Sk.nm:Sk->String
 | .l => "list_iterator"
 | .t => "tuple_iterator"
section
variable {P:Dm}{w:DX}{A:Ej}{E:Aj->Bc->Prop}{s:Bc}{k k1 k2:Sk}
def Sk.it_at {h h' i a n}(x:k.it h i a n)(e:∀o,h.get? i=AP o->h'.get? i=AP o):k.it h' i a n:=by
 cases k with
 | l|t=>obtain⟨o,G,r⟩:=x;show{o,e o G,r}
def Sk.sq_at {h h' a}{its}(x:k.sq h a its)(e:∀o,h.get? a=AP o->h'.get? a=AP o):k.sq h' a its:=by
 cases k with
 | l|t=>obtain⟨o,G,r⟩:=x;show{o,e o G,r}
def Sk.it_obj {h}{i a n}(x:k.it h i a n):∃o,h.get? i=AP o/\o.cls=.type k.nm/\o.data=.fields #[.ref a,.int n 0]:=by
 cases k with
 | l|t=>show x
def zbO {it t i}{its x}{Q}(hi:s.heap.IsTupleIter it t i)(ht:s.heap.IsTuple t its)(a:its[i]?=AP x)
  (q:∀h',h'.IsTupleIter it t (i+1)->Qf it s.heap h'->Q x {s with heap:=h'}):CR (Cq P w) A (Yv (.ref it)) Q E s:=by
 obtain⟨o,J,b,G⟩:=id hi;obtain⟨c,O,_,d,U⟩:=ht;show BL (Vj hi.typeIs zM
  (Uh zM hi.typeIs PySem.F.entry_tuple_iterator_next ?_ (PySem.F.args_tuple_iterator_next_1 _)))
 change CR _ _ (field _ 0 >>= _) _ _ s;show BL<|Mv J G rfl<|BL<|Mv J G rfl<|BL<|Vd O U ?_
 simp[a];show BL<|Vy J G (by simp)<|DK {x,rfl,DK<|q _ ?_<|Vg ..}
 show{_,R7 _ J<|Vh<|U8 G _,(Zj ..).trans b,by rw[U8 G];simp[O7]}
def zad {it t i}{its}{Q}(hh:A.handled=Af)(hi:s.heap.IsTupleIter it t i)(ht:s.heap.IsTuple t its)(a:its[i]?=Af)
  (q:∀h' e,Z6 it s.heap h'->(∃o,h'.get? e=AP o/\o.cls=.type "StopIteration")->E (.ref e) {s with heap:=h'}):CR (Cq P w) A (Yv (.ref it)) Q E s:=by
 obtain⟨o,J,d,U⟩:=id hi;obtain⟨b,G,_,c,O⟩:=ht;show BL (Vj hi.typeIs zM
  (Uh zM hi.typeIs PySem.F.entry_tuple_iterator_next ?_ (PySem.F.args_tuple_iterator_next_1 _)))
 change CR _ _ (field (.ref it) 0 >>= _) _ _ s;show BL<|Mv J U rfl ?_
 show BL<|Mv J U rfl ?_
 show BL<|Vd G O ?_
 simp only[Zb,a];show BL<|Va<|BL<|Vy J U (by simp) ?_
 show BL ?_;show BL (m:=Zg _ _)<|Ve (by first|rfl|(rfl)) ?_
 show SX ?_<|by size_fits
 show BL<|wpAny_handled ?_
 first|rw[hh]|rw[hh]
 show BL<|DK<|Z4 ?_
 show q _ _ (((Vg ..).extBut.push _).push _) {_,Kf _ rfl,rfl}
def Sk.next {it a i}{its x}{Q}(hi:k.it s.heap it a i)(hs:k.sq s.heap a its)(G:its[i]?=AP x)
  (q:∀h',k.it h' it a (i+1)->Qf it s.heap h'->Q x {s with heap:=h'}):CR (Cq P w) A (Yv (.ref it)) Q E s:=by
 cases k with
 | l=>show wpAny_nextOf_list_item hi hs G q
 | t=>show zbO hi hs G q
def Sk.stop {it a i}{its}{Q}(hh:A.handled=Af)(hi:k.it s.heap it a i)(hs:k.sq s.heap a its)(G:its[i]?=Af)
  (q:∀h' e,Z6 it s.heap h'->(∃o,h'.get? e=AP o/\o.cls=.type "StopIteration")->E (.ref e) {s with heap:=h'}):CR (Cq P w) A (Yv (.ref it)) Q E s:=by
 cases k with
 | l=>show wpAny_nextOf_list_end hh hi hs G q
 | t=>show zad hh hi hs G q
def Sk.iter {a}{its}{Q}(hs:k.sq s.heap a its)
  (q:Q (.ref s.heap.objs.size) {s with heap:=s.heap.push {cls:=.type k.nm,data:=.fields #[.ref a,.int 0 0]} }):CR (Cq P w) A (pyIter (.ref a)) Q E s:=by
 cases k with
 | l=>show ZV hs q
 | t=>show wpAny_pyIter_tuple hs q
structure Zap (z TI TO i1 i2:Addr):Prop where
 a1:TI≠z
 a2:TO≠z
 a3:i1≠z
 a4:i2≠z
 a5:TI≠TO
 a6:TI≠i1
 a7:TI≠i2
 a8:TO≠i1
 a9:TO≠i2
 b1:i1≠i2
structure Off (a z TO i1 i2:Addr):Prop where
 z:a≠z
 o:a≠TO
 i:a≠i1
 j:a≠i2
def akG {z TI TO r p W V n1 n2}{xs ys x y a b}{Q}(D:Zap z TI TO r p)(o1:Off W z TO r p)(o2:Off V z TO r p)
  (M:IsZip s.heap z TI TO .none) (gI:Tp s.heap TI (.ref r) (.ref p)) (gO:Tp s.heap TO a b) (g1:k1.it s.heap r W n1) (g2:k2.it s.heap p V n2) (gx:k1.sq s.heap W xs) (gy:k2.sq s.heap V ys)
  (hx:xs[n1]?=AP x) (hy:ys[n2]?=AP y)
  (q:∀h',IsZip h' z TI TO (O7 s.heap.objs.size)->Tp h' TO x y->k1.it h' r W (n1+1)->k2.it h' p V (n2+1)->Tp h' s.heap.objs.size x y->h'.objs.size=s.heap.objs.size+1 ->
   (∀c o,c≠z->c≠TO->c≠r->c≠p->s.heap.get? c=AP o->h'.get? c=AP o)->Q (AP (.ref s.heap.objs.size)) {s with heap:=h'}) :
  CR (Cq P w) A (pyNext (.ref z)) Q E s:=by
 have gT:s.TypeIs (.ref z) "zip":={_,M,rfl}
 show BL<|YQ<|Vj (name:=Str.ofString "__next__") gT yQ<|Uh yQ gT PySem.F.entry_zip_next ?_<|PySem.F.args_zip_next_1 _
 change CR _ _ (field (.ref z) 2 >>= _) _ _ _;show BL<|Mv M rfl (x:=.bool false) rfl ?_
 show BL<|Mv M rfl (x:=.ref TI) rfl ?_
 show BL<|Vd gI rfl ?_
 show BL ?_;show BL<|Mv M rfl (x:=.none) rfl<|DK ?_
 show BL<|Va ?_
 show BL<|Mv M rfl (x:=.ref TO) rfl ?_
 show BL<|Zk M (by simp) λh₁ R G=>?_
 show BL ?_
 -- T first one
 show BL<|BL<|wpAny_onRaise ?_
 change CR _ _ (Yv (.ref r) >>= _) _ _ _;show BL<|Sk.next (k:=k1) (s:={s with heap:=h₁}) (Sk.it_at g1 λo e=>G.extBut _ o D.a3 e) (Sk.sq_at gx λo e=>G.extBut _ o o1.z e) hx λh₂ K O=>DK ?_
 have n:Tp h₂ TO a b:=O.extBut _ _ D.a8 (G.extBut _ _ D.a2 gO);show BL<|Vd n rfl ?_
 show BL<|wpAny_updateSeq_pair n λh₃ f J=>?_
 replace f:Tp h₃ TO x b:=f;show BL<|wpAny_letGo<|DK ?_
 -- T Z one
 show BL<|BL<|wpAny_onRaise ?_
 change CR _ _ (Yv (.ref p) >>= _) _ _ _;show BL (Sk.next (k:=k2) (s:={s with heap:=h₃}) (Sk.it_at g2 λo e=>J.extBut _ o D.a9.symm (O.extBut _ o D.b1.symm (G.extBut _ o D.a4 e)))
  (Sk.sq_at gy λo e=>J.extBut _ o o2.o (O.extBut _ o o2.i (G.extBut _ o o2.z e))) hy λh₄ H d=>DK ?_)
 have m:Tp h₄ TO x b:=d.extBut _ _ D.a9 f;show BL<|Vd m rfl ?_
 show BL<|wpAny_updateSeq_pair m λh₅ U Y=>?_
 replace U:Tp h₅ TO x y:=U;show BL<|wpAny_letGo<|DK<|DK ?_
 -- T pair is handed out
 show BL<|Vd U rfl ?_
 show BL<|wpAny_newTuple ?_
 have v:h₅.objs.size=(~~~s):=by rw[Y.1,d.1,J.1,O.1,G.1]
 have u:IsZip h₅ z TI TO .ellipsis:=Y.extBut _ _ D.a2.symm (d.extBut _ _ D.a4.symm (J.extBut _ _ D.a2.symm (O.extBut _ _ D.a3.symm R)));have t:∀c o,c≠z->c≠TO->c≠r->c≠p->s.heap.get? c=AP o->h₅.get? c=AP o:=λc o L c2 c3 c4 e=>Y.extBut _ _ c2 (d.extBut _ _ c4 (J.extBut _ _ c2 (O.extBut _ _ c3 (G.extBut _ _ L e))))
 have I:k1.it h₅ r W (n1+1):=Sk.it_at K λo e=>Y.extBut _ o D.a8.symm (d.extBut _ o D.b1 (J.extBut _ o D.a8.symm e))
 have F:k2.it h₅ p V (n2+1):=Sk.it_at H λo e=>Y.extBut _ o D.a9.symm e
 have S:z<h₅.objs.size:=FP u;change CR _ _ (Builtin.SmallTypes.ownedTupleHandOut (.ref z) (.ref h₅.objs.size) >>= _) _ _ _;show BL ?_;unfold Builtin.SmallTypes.ownedTupleHandOut;have N:IsZip (h₅.push {cls:=.type "tuple",data:=.seq #[x,y]}) z TI TO .ellipsis:=FW _ u;show BL<|Zk N (by simp) λh₇ h j=>?_
 replace h:IsZip h₇ z TI TO (O7 h₅.objs.size):=h;show Zk h (by simp) λh₈ g i=>?_;replace g:IsZip h₈ z TI TO (O7 h₅.objs.size):=g;have X:∀c o,c≠z->h₅.get? c=AP o->h₈.get? c=AP o:=λc o L e=>i.extBut _ _ L (j.extBut _ _ L (FW _ e))
 have C:Tp h₈ h₅.objs.size x y:=i.extBut _ _ (PN S) (j.extBut _ _ (PN S) (Kf _ rfl));have l:h₈.objs.size=h₅.objs.size+1:=by rw[i.1,j.1,Ud]
 rw[v]at g C l;show DK {_,rfl,DK ?_};change Q (AP (.ref h₅.objs.size)) _;rw[v];show q h₈ g (X _ _ D.a2 U) (Sk.it_at I λo e=>X _ o D.a3 e) (Sk.it_at F λo e=>X _ o D.a4 e) C l λc o L c2 c3 c4 e=>X c o L<|t c o L c2 c3 c4 e
def zbY {z TI TO j t v I n1 n2}{xs ys a b}{Q}(hh:A.handled=Af)(D:Zap z TI TO j t)(W:Off v z TO j t)(H:Off I z TO j t)
  (u:IsZip s.heap z TI TO .none) (gI:Tp s.heap TI (.ref j) (.ref t)) (gO:Tp s.heap TO a b) (g1:k1.it s.heap j v n1) (g2:k2.it s.heap t I n2) (gx:k1.sq s.heap v xs) (gy:k2.sq s.heap I ys)
  (B:xs[n1]?=Af\/ys[n2]?=Af)
  (q:∀h',(∀c o,c≠z->c≠TO->c≠j->c≠t->s.heap.get? c=AP o->h'.get? c=AP o)->Q Af {s with heap:=h'}):CR (Cq P w) A (pyNext (.ref z)) Q E s:=by
 have V:s.TypeIs (.ref z) "zip":={_,u,rfl}
 have C:∀(h':Heap) (e:Addr),(∀c o,c≠z->c≠TO->c≠j->c≠t->s.heap.get? c=AP o->h'.get? c=AP o)->(∃o,h'.get? e=AP o/\o.cls=.type "StopIteration") ->
   CR (Cq P w) A (do if <-isInstance (.ref e) (.type "StopIteration")then pure Af else throw (.ref e)) Q E {s with heap:=h'}:=λh' e S ⟨o,Z,hc⟩=>
  BL (Zu (T := "StopIteration") (b:=true) ⟨o,Z,hc⟩ isSubtype_stop (DK (q _ S)))
 show BL<|YQ<|Vj (name:=Str.ofString "__next__") V yQ<|Uh yQ V PySem.F.entry_zip_next ?_<|PySem.F.args_zip_next_1 _
 change CR _ _ (field (.ref z) 2 >>= _) _ _ _;show BL<|Mv u rfl (x:=.bool false) rfl ?_
 show BL<|Mv u rfl (x:=.ref TI) rfl ?_
 show BL<|Vd gI rfl ?_
 show BL ?_;show BL<|Mv u rfl (x:=.none) rfl<|DK ?_
 show BL<|Va ?_
 show BL<|Mv u rfl (x:=.ref TO) rfl ?_
 show BL<|Zk u (by simp) λh₁ n O=>?_
 show BL ?_;simp only[List.zipIdx_cons,List.zipIdx_nil,List.forIn_cons,List.forIn_nil];show BL<|BL<|wpAny_onRaise ?_
 change CR _ _ (Yv (.ref j) >>= _) _ _ _;have i:k1.it h₁ j v n1:=Sk.it_at g1 λo e=>O.extBut _ o D.a3 e
 have f:k1.sq h₁ v xs:=Sk.sq_at gx λo e=>O.extBut _ o W.z e
 cases K:xs[n1]? with
 | none=>
  show BL<|Sk.stop (k:=k1) (s:={s with heap:=h₁}) hh i f K λh₂ e G L=>?_
  obtain⟨oe,U,d⟩:=L;have m:IsZip h₂ z TI TO .ellipsis:=G _ _ D.a3.symm n;have R:e≠z:=λy=>by subst y;rw[m]at U;cases U;simp at d
  show Zk m (by simp) λh₃ _ J=>C h₃ e (λc o F _ c3 _ y=>J.extBut _ _ F<|G _ _ c3<|O.extBut _ _ F y) {oe,J.extBut _ _ R U,d}
 | some x=>
  have X:ys[n2]?=Af:=by
   rcases B with h|h
   rw[K]at h;cases h;show h
  show BL<|Sk.next (k:=k1) (s:={s with heap:=h₁}) i f K λh₂ N G=>DK ?_
  have g:Tp h₂ TO a b:=G.extBut _ _ D.a8 (O.extBut _ _ D.a2 gO);show BL<|Vd g rfl ?_
  show BL<|wpAny_updateSeq_pair g λh₃ M J=>?_
  show BL<|wpAny_letGo<|DK ?_
  show BL<|BL<|wpAny_onRaise ?_
  change CR _ _ (Yv (.ref t) >>= _) _ _ _;show BL (Sk.stop (k:=k2) (s:={s with heap:=h₃}) hh (Sk.it_at g2 λo e=>J.extBut _ o D.a9.symm (G.extBut _ o D.b1.symm (O.extBut _ o D.a4 e)))
   (Sk.sq_at gy λo e=>J.extBut _ o H.o (G.extBut _ o H.i (O.extBut _ o H.z e))) X λh₄ e r L=>?_)
  obtain⟨oe,U,d⟩:=L;have l:IsZip h₄ z TI TO .ellipsis:=r _ _ D.a4.symm (J.extBut _ _ D.a2.symm (G.extBut _ _ D.a3.symm n));have R:e≠z:=λy=>by subst y;rw[l]at U;cases U;simp at d
  show Zk l (by simp) λh₅ _ p=>C h₅ e (λc o F c2 c3 c4 y=>p.extBut _ _ F<|r _ _ c4<|J.extBut _ _ c2<|G.extBut _ _ c3<|O.extBut _ _ F y) {oe,p.extBut _ _ R U,d}
@[reducible]noncomputable def zh1 (k1:Sk)(h:Heap)(G:Addr):Heap:=h.push {cls:=.type k1.nm,data:=.fields #[.ref G,.int 0 0]}
@[reducible]noncomputable def zh2 (k1 k2:Sk)(h:Heap)(J G:Addr):Heap:=(zh1 k1 h J).push {cls:=.type k2.nm,data:=.fields #[.ref G,.int 0 0]}
@[reducible]noncomputable def zh3 (k1 k2:Sk)(h:Heap)(G J:Addr):Heap:=(zh2 k1 k2 h G J).push {cls:=.type "tuple",data:=.seq #[.ref h.objs.size,.ref (zh1 k1 h G).objs.size]}
@[reducible]noncomputable def zh4 (k1 k2:Sk)(h:Heap)(J G:Addr):Heap:=(zh3 k1 k2 h J G).push {cls:=.type "tuple",data:=.seq #[.none,.none]}
@[reducible]noncomputable def zh5 (k1 k2:Sk)(h:Heap)(J G:Addr):Heap:=(zh4 k1 k2 h J G).push {cls:=.type "zip",data:=.fields #[.none,.bool false,.bool false,.ref (zh2 k1 k2 h J G).objs.size,.ref (zh3 k1 k2 h J G).objs.size]}
def amE (G J)(xs ys):Meets (V3.«zip.__new__» ⟨[.type "zip",.ref G,.ref J],[]⟩) (λ_ R s=>k1.sq s.heap G xs/\k2.sq s.heap J ys /\
   R (.ok (.ret (.ref (zh4 k1 k2 s.heap G J).objs.size))) {s with heap:=zh5 k1 k2 s.heap G J}):=
 .of_wp λprog w A R s h=>by
  obtain⟨b,g,d,tk,os⟩:=s;obtain⟨U,O,h⟩:=h;have a:=sub_zip;have f:k1.sq (Shared.heap ⟨b,g,d,tk,os⟩) G xs:=U;have Y:k2.sq (Shared.heap {b.push {cls:=.type k1.nm,data:=.fields #[.ref G,.int 0 0]},g,d,tk,os}) J ys:=Sk.sq_at O λo e=>FW _ e
  wp_walk using Sk.iter f,Sk.iter Y
  show{_,rfl,h}
def akq {G J}{xs ys Q}(U:k1.sq s.heap G xs)(O:k2.sq s.heap J ys)
  (q:∀h',IsZip h' (s.heap.objs.size+4) (s.heap.objs.size+2) (s.heap.objs.size+3) .none->Tp h' (s.heap.objs.size+2) (.ref s.heap.objs.size) (.ref (s.heap.objs.size+1)) ->
   Tp h' (s.heap.objs.size+3) .none .none->k1.it h' s.heap.objs.size G 0->k2.it h' (s.heap.objs.size+1) J 0->h'.objs.size=s.heap.objs.size+5 ->
   (∀c o,s.heap.get? c=AP o->h'.get? c=AP o)->Q (.ref (s.heap.objs.size+4)) {s with heap:=h'}):CR (Cq P w) A (call (.type "zip") [.ref G,.ref J]) Q E s:=by
 show callType_new PySem.F.called_zip ∅ (PySem.F.typeCall_zip_2 _ _) (PySem.F.newCall_zip_2 _ _) (λobj=>PySem.F.args_object_init_3 obj _ _) PySem.F.entry_zip_new (amE G J xs ys) {U,O,?_};have e1:(zh1 k1 s.heap G).objs.size=(~~~s)+1:=Ud ..;have e2:(zh2 k1 k2 s.heap G J).objs.size=(~~~s)+2:=by rw[Ud,e1]
 have e3:(zh3 k1 k2 s.heap G J).objs.size=(~~~s)+3:=by rw[Ud,e2]
 have e4:(zh4 k1 k2 s.heap G J).objs.size=(~~~s)+4:=by rw[Ud,e3]
 have f5:(zh5 k1 k2 s.heap G J).get? (zh4 k1 k2 _ G J).objs.size=AP _:=Kf _ rfl;have f4:(zh5 k1 k2 s.heap G J).get? (zh3 k1 k2 _ G J).objs.size=AP _:=FW _ (Kf _ rfl);have f3:(zh5 k1 k2 s.heap G J).get? (zh2 k1 k2 _ G J).objs.size=AP _:=FW _ (FW _ (Kf _ rfl));have f2:(zh5 k1 k2 s.heap G J).get? (zh1 k1 s.heap G).objs.size=AP _:=FW _ (FW _ (FW _ (Kf _ rfl)));have f1:(zh5 k1 k2 _ G J).get? (~~~s)=AP _:=FW _ (FW _ (FW _ (FW _ (Kf _ rfl))));rw[e2,e3,e4]at f5;rw[e1,e2]at f3;rw[e3]at f4;rw[e1]at f2;rw[e4];show{{_,f5,rfl},q _ f5 f3 f4 ?_ ?_ (by rw[Ud,e4]) λc o x=>FW _<|FW _<|FW _<|FW _<|FW _ x}
 ·cases k1 with
  | l=>show{_,f1,rfl,rfl}
  | t=>show{_,f1,rfl,rfl}
 ·cases k2 with
  | l=>show{_,f2,rfl,rfl}
  | t=>show{_,f2,rfl,rfl}
end
section
variable {X:Cx}{apn:List (Addr×Obj)}{σ:St}{H:Hp}{s:Bc}{h':Heap}
def Bk.turnedL {t'}{ch:List Addr}(I:Bk X apn σ H s)(k:∀b o,b∉ch->s.heap.get? b=AP o->h'.get? b=AP o)(J:∀b∈ch,Lk X apn H b):Bk X apn σ H {s with heap:=h',toks:=t'}:=by
 have U:∀b u,H b=AP u->b∉ch:=λb u e z=>by rw[(J b z).1]at e;cases e
 show I.step (λb d=>?_) (λb o _ _ G e _=>k b o G e) (λb o _ _ G e _=>{o.slots,k b o G e}) (λ_ _ _ _ n=>n)
  (λb o G e=>{o,k b o G e}) (λ_ _ e=>e) (λ_ _ _ e=>e) (λb ps e=>{#[],by rw[e];simp}) (λm a=>?_) (λb u e=>?_) I.bare
 obtain⟨_,f1,_,f3,f4,f5⟩:=J b d;show⟨f3,f1,f4,f5⟩;obtain⟨o,es,ep,Y,r⟩:=a;show{o,es,ep,k _ o (λz=>(J _ z).2.1 rfl) Y,r};show(I.hok b u e).stay (λc v G q=>k c v ?_ q) (λ_ q=>q) λ_ _ q=>q;grind
end
abbrev Sk.v (k:Sk)(K:CQ)(H:Hp)(a:Addr)(xs:List V):Prop:=match k with
 | .l=>Kr K H a xs
 | .t=>KJ K H a xs
def Bk.sk {X}{apn}{σ:St}{H s}{k:Sk}{a}{xs}(I:Bk X apn σ H s)(h:k.v X.K H a xs):∃its,Cg xs its/\k.sq s.heap a its.toArray:=by
 cases k with
 | l=>obtain⟨its,r,p,_⟩:=I.list h;show⟨its,r,p.isList⟩
 | t=>obtain⟨its,r,p,_⟩:=I.tuple h;show⟨its,r,p⟩
def Bk.sk_inj {X}{apn}{σ:St}{H s}{k:Sk}{a}{xs ys}(I:Bk X apn σ H s)(h:k.v X.K H a xs)(g:k.v X.K H a ys):xs=ys:=by
 cases k with
 | l=>show I.list_inj h g
 | t=>show I.tuple_inj h g
abbrev Itz (K:CQ)(k1 k2:Sk)(J G:Addr):It:=
  ⟨λi H=>∃xs ys x y,k1.v K H J xs/\k2.v K H G ys/\xs[i]?=AP x/\ys[i]?=AP y,
   λi H v H'=>∃p x y,H p=Af/\v=.ref p/\H'=Dn H p (.tup [x,y])/\(∀xs,k1.v K H J xs->xs[i]?=AP x)/\∀ys,k2.v K H G ys->ys[i]?=AP y,
   λi H=>∃xs ys,k1.v K H J xs/\k2.v K H G ys/\(xs.length<=i\/ys.length<=i),true⟩
abbrev ag8 (k1 k2:Sk)(z TI TO J G U O:Addr)(n:Nat)(h:Heap):Prop:=IsZip h z TI TO .none/\Tp h TI (.ref J) (.ref G)/\(∃a b,Tp h TO a b)/\k1.it h J U n/\k2.it h G O n
variable {elts:List Expr}
def zbP {P:Dm}{w:DX}{K:CQ}{pos:Pos}{k1 k2:Sk}{z TI TO Y U A t:Addr}(D:Zap z TI TO Y U)(o1:Off A z TO Y U)(o2:Off t z TO Y U):
  Turn P w K (.Tuple elts kt pos) (Itz K k1 k2 A t) [z,TI,TO,Y,U] z (ag8 k1 k2 z TI TO Y U A t) where
 mem:=by simp
 obj:=λi h st b G=>by
  obtain⟨g,f,⟨a,b',j⟩,m,l⟩:=st;simp at G;rcases G with rfl|rfl|rfl|rfl|rfl
  show{_,g,nofun};show{_,f,λv y=>by cases y};show{_,j,nofun};obtain⟨o,e,_,d⟩:=Sk.it_obj m;show{o,e,λv y=>by rw[d]at y;cases y};obtain⟨o,e,_,d⟩:=Sk.it_obj l;show{o,e,λv y=>by rw[d]at y;cases y}
 keep:=λi h h' st k=>by
  obtain⟨g,f,⟨a,b,j⟩,m,l⟩:=st;show{k z (by simp) _ g,k TI (by simp) _ f,{a,b,k TO (by simp) _ j},Sk.it_at m λo e=>k Y (by simp) o e,Sk.it_at l λo e=>k U (by simp) o e}
 item:=by
  intro X V S W O i apn s σ H E I F st T;subst V S W;obtain⟨g,f,⟨a,b,j⟩,m,l⟩:=st;obtain⟨xs,ys,x,y,C,B,ex,ey⟩:=T;obtain⟨its,N,Q⟩:=I.sk C;obtain⟨R,M,p2⟩:=I.sk B;obtain⟨u,hu,ru⟩:=N.get ex;obtain⟨v,hv,rv⟩:=M.get ey;show akG D o1 o2 g f j m l Q p2 (x:=u) (y:=v) (by simpa using hu) (by simpa using hv) λh1 z1 O1 g1' Z T1 L J=>{_,rfl,?_};have lt:∀b∈[z,TI,TO,Y,U],(~~~s)≠b:=λb G=>by
   simp at G;rcases G with rfl|rfl|rfl|rfl|rfl
   show(PN<|FP g);show PN<|FP f
   show PN<|FP j
   obtain⟨o,e,_⟩:=Sk.it_obj m;show PN (FP e);obtain⟨o,e,_⟩:=Sk.it_obj l;show PN (FP e)
  have all:∀c o,c∉[z,TI,TO,Y,U]->s.heap.get? c=AP o->h1.get? c=AP o:=λc o O e=>
   J c o (λq=>O (by simp[q])) (λq=>O (by simp[q])) (λq=>O (by simp[q])) (λq=>O (by simp[q])) e
  show wpAny_letOwnedTupleGo_zip z1 λh2 z2 n=>?_;have I1:Bk X apn σ (Dn H (~~~s) (.tup [x,y])) {s with heap:=s.heap.push {cls:=.type "tuple",data:=.seq #[u,v]} }:=
   I.laid (λb o e=>FW _ e) (Em _) {(by change 2<=El;decide),[u,v],.cons ru (.cons rv .nil),{_,Kf _ rfl,rfl,{_,rfl},rfl}}
  have p:∀b∈[z,TI,TO,Y,U],Lk X apn (Dn H (~~~s) (.tup [x,y])) b:=λb G=>{by rw[aL (Ke (lt b G))];show(F b G).1,(F b G).2}
  have I2:=by
   show Bk.turnedL (h':=h2) (t':=s.toks) I1 (λb o G e=>?_) p;have bz:b≠z:=λq=>G (by simp[q])
   rcases Heap.get?_push_cases e with⟨rfl,rfl⟩|e'
   show n.extBut _ _ bz T1;show n.extBut _ _ bz<|all b o G e'
  show{.ref (~~~s),_,I2,rfl,{(~~~s),x,y,(I.hok.fresh<|Em _),rfl,rfl,λxs' q=>by rw[I.sk_inj q C];show ex,λys' q=>by rw[I.sk_inj q B];show ey},?_,λb G=>(p b G).1};show{z2,n.extBut _ _ D.a1<|J _ _ D.a1 D.a5 D.a6 D.a7 f,{u,v,n.extBut _ _ D.a2 O1},Sk.it_at g1' λo e=>n.extBut _ o D.a3 e,Sk.it_at Z λo e=>n.extBut _ o D.a4 e}
 done:=by
  intro X V S W O i apn s σ H E I F st T;subst V S W;obtain⟨g,f,⟨a,b,j⟩,m,l⟩:=st;obtain⟨xs,ys,C,B,r⟩:=T;obtain⟨its,N,Q⟩:=I.sk C;obtain⟨R,M,p2⟩:=I.sk B;have A:=N.length;have t:=M.length;show zbY (I.ok.hd<|O rfl) D o1 o2 g f j m l Q p2 (r.imp (λq=>by simp;lia) λq=>by simp;lia) λh1 J=>{rfl,I.turnedL (t':=s.toks) (λc o O e=>?_) F};show J c o (λq=>O<|by simp[q]) (λq=>O<|by simp[q]) (λq=>O<|by simp[q]) (λq=>O<|by simp[q]) e
 self:=λ_ _ _ _ _ st h=>wpAny_pyIter_zip st.1 h
section
variable {X:Cx}{K:CQ}
abbrev sqk (K:CQ)(H:Hp)(x:V)(k:Sk)(a:Addr):Prop:=x=.ref a/\∃xs,k.v K H a xs
abbrev aif (K:CQ)(ta:TA):TI:=fun σ H R=>ta σ H λvs H1=>∃x y k1 k2 a b,vs=[x,y]/\sqk K H1 x k1 a/\sqk K H1 y k2 b/\R (Itz K k1 k2 a b) H1
def Sk.sq_lt {k:Sk}{h a}{its}(x:k.sq h a its):a<h.objs.size:=by
 cases k with
 | l|t=>obtain⟨o,e,_⟩:=x;show FP e
def m6 {a b:Nat}(h:a≠b):(show Addr from a)≠(show Addr from b):=h
def acf (n:Nat):Zap (n+4) (n+2) (n+3) n (n+1) where
 a1:=m6 (show n+2≠n+4 by lia)
 a2:=m6 (show n+3≠n+4 by lia)
 a3:=m6 (show n≠n+4 by lia)
 a4:=m6 (show n+1≠n+4 by lia)
 a5:=m6 (show n+2≠n+3 by lia)
 a6:=m6 (show n+2≠n by lia)
 a7:=m6 (show n+2≠n+1 by lia)
 a8:=m6 (show n+3≠n by lia)
 a9:=m6 (show n+3≠n+1 by lia)
 b1:=m6 (show n≠n+1 by lia)
def qy {a n:Nat}(h:a<n):Off a (n+4) (n+3) n (n+1) where
 z:=m6 (show a≠n+4 by lia)
 o:=m6 (show a≠n+3 by lia)
 i:=m6 (show a≠n by lia)
 j:=m6 (show a≠n+1 by lia)
def agU {n c}(h:c∈([n+4,n+2,n+3,n,n+1]:List Nat)):n<=c:=by grind
def aeZ {e1 e2 ta}{p pos tpos}(hg:Gl X "zip")(hm:X.mg "zip" = Af)(ha:PA X [e1,e2] ta)
  (hs:Dc [e1,e2] X.env=(false,eval e1 X.env)::Dc [e2] X.env:=by rfl) (hpl:(Ku pos (Dc [e2] X.env)).any (·.1)=false:=by rfl) :
  PI X (.Tuple elts kt tpos) (.Call (.Name "zip" p) [e1,e2] [] pos) (aif X.K ta):=by
 intro apn s σ H R I h;show Vm<|pD I hg hm boot_zip (Yr (Eu (ha pos apn s σ H _ I h) λus s1 ⟨vs,H1,I1,r1,q1⟩=>?_) hs hpl) ∅<|∅
 obtain⟨x,y,k1,k2,a,b,ev,⟨ex,xs,hx⟩,⟨ey,ys,hy⟩,q⟩:=q1;subst ev ex ey;obtain⟨u1,u2,eu,ru1,ru2⟩:=vals2 r1;subst eu;cases ru1;cases ru2;obtain⟨its,r1,p1⟩:=I1.sk hx;obtain⟨jts,r2,p2⟩:=I1.sk hy;have la:=Sk.sq_lt p1;have lb:=Sk.sq_lt p2;show akq p1 p2 λh' gz gI gO g1 g2 size all=>(wpAny_pyIter_zip gz ?_);generalize hn:(~~~s1)=n at gz gI gO g1 g2 size la lb|-
 show{n+4,[n+4,n+2,n+3,n,n+1],_,_,H1,rfl,(I1.kept all),zbP (acf n) (qy la)<|qy lb,{gz,gI,{_,_,gO},g1,g2},λc hc=>?_,q};have hc':=agU hc;show I1.fpOk (hn ▸ hc')<|I1.hok.fresh<|hn ▸ hc'
abbrev CW:List W->List W->List W
 | a::as,b::bs=>.tup [a,b]::CW as bs
 | _,_=>[]
def yh:∀{as bs}{i:Nat}{w},(CW as bs)[i]?=AP w->∃a b,as[i]?=AP a/\bs[i]?=AP b/\w=.tup [a,b]
 | a::as,b::bs,0,w,e=>{a,b,rfl,rfl,(Ky e).symm}
 | a::as,b::bs,i+1,w,e=>by
  obtain⟨x,y,h1,h2,G⟩:=yh (by simpa[CW]using e);simp_all
def xO:∀{as bs},(CW as bs).length=min as.length bs.length
 | [],bs|_::_,[]=>by simp[CW]
 | a::as,b::bs=>by rw[CW,Od,xO,Od,Od];lia
abbrev Ah:W->Option (List W)
 | .tup ws=>AP ws
 | .lst ws=>AP ws
 | .kls ws=>AP ws
 | _=>Af
def Jh {H w v}(r:DW K H μ w v)(e:Ah w=AP ws):∃k a,v=.ref a/\∀{H2 μ2},K5 K H μ H2 μ2->∃xs,Sk.v k K H2 a xs/\aP K H2 μ2 ws xs:=by
 cases w with
 | tup us=>
  cases e;have O:=r;obtain⟨p,xs,G,hs,J⟩:=r;subst G;show{.t,p,rfl,λ{H2 μ2} x=>?_};obtain⟨q,ys,G,hs,J⟩:=(x.r _ _ O)
  cases G;show⟨ys,hs,J⟩
 | lst us|kls us=>
  cases e;have O:=r;obtain⟨p,xs,G,hs,J⟩:=r;subst G;show{.l,p,rfl,λ{H2 μ2} x=>?_};obtain⟨q,ys,G,hs,J⟩:=(x.r _ _ O)
  cases G;show⟨ys,hs.sq,J⟩
 | _=>cases e
abbrev abq (h:Gh)(x y:W):Option Src:=match Ah x,Ah y with
 | some as,AP bs=>AP ⟨CW as bs,Af⟩
 | none,AP bs=>(match x with
  | .loc n=>(match h.c n with
   | some (.lst as)=>AP ⟨CW as bs,AP (n,as)⟩
   | _=>Af)
  | _=>Af)
 | _,_=>Af
def aaD {H h w v}{o}(R:Dz K μ H h)(r:DW K H μ w v)(e:(Ah w=AP ws/\o=Af)\/∃n,w=.loc n/\h.c n=AP (.lst ws)/\o=AP (n,ws)):
  ∃k a,v=.ref a/\∀{H2 μ2 h2},K5 K H μ H2 μ2->Dz K μ2 H2 h2->Src.chk ⟨ws,o⟩ h2->∃xs,Sk.v k K H2 a xs/\aP K H2 μ2 ws xs:=by
 rcases e with⟨e,rfl⟩|⟨n,rfl,i,rfl⟩
 obtain⟨k,a,O,f⟩:=Jh r e;show{k,a,O,λx _ _=>f x};have Y:=r;obtain⟨p,O,g⟩:=r;subst O;show{.l,p,rfl,λ{H2 μ2 h2} x R2 d=>?_};obtain⟨q,c,J⟩:=(x.r _ _ Y)
 cases c;obtain⟨p',xs,G,b,U⟩:=R2.lstAt d;cases by rw[J]at G;show(Ky G).symm
 show{xs,.of b,U}
def amt {h}{x y s}(e:abq h x y=AP s):∃as bs o,s=⟨CW as bs,o⟩/\((Ah x=AP as/\o=Af)\/∃n,x=.loc n/\h.c n=AP (.lst as)/\o=AP (n,as))/\Ah y=AP bs:=by
 unfold abq at e;grind
abbrev abx (ma:MA):MI:=fun σ h R=>ma σ h λws h1=>match ws with
 | [x,y]=>(match abq h1 x y with
  | some s=>R s h1
  | none=>False)
 | _=>False
def Jw {e1 e2}{p pos tpos}(hg:Gl X "zip")(hm:X.mg "zip" = Af)(ha:Mp X [e1,e2] mr)
  (hs:Dc [e1,e2] X.env=(false,eval e1 X.env)::Dc [e2] X.env:=by rfl) (hpl:(Ku pos (Dc [e2] X.env)).any (·.1)=false:=by rfl) :
  Uj X (.Tuple elts kt tpos) (.Call (.Name "zip" p) [e1,e2] [] pos) (abx mr):=PI.of (aeZ hg hm ha hs hpl) fun σ H Q e=>by
 obtain⟨μ,h,σw,Rw,R,S,m,k⟩:=e;show{μ,h,σw,_,R,S,m,λvs H1 c=>?_};obtain⟨μ1,ws,h1,e1,R1,r1,m1⟩:=c;split at m1
 split at m1
 rename_i x y _ s es;obtain⟨as,bs,o,rfl,ea,eb⟩:=amt es;obtain⟨v,u,ev,rv,ru⟩:=J1 r1;obtain⟨ka,a,e3,fa⟩:=aaD R1 rv ea;obtain⟨kb,b,e4,fb⟩:=Jh ru eb;have ck1:Src.chk ⟨as,o⟩ h1:=by
  rcases ea with⟨_,rfl⟩|⟨n,_,ec,rfl⟩
  show trivial;show ec
 obtain⟨xs,hxs,_⟩:=fa .refl R1 ck1;obtain⟨ys,hys,_⟩:=fb .refl;show{v,u,ka,kb,a,b,ev,⟨e3,xs,hxs⟩,⟨e4,ys,hys⟩,k _ _ {μ1,{CW as bs,o},h1,e1,R1,?_,m1}};intro H2 μ2 h2 i e2 R2 ck;obtain⟨xs2,hxs2,rxs⟩:=fa e2 R2 ck;obtain⟨ys2,hys2,rys⟩:=fb e2;show{λw ew=>?_,λhl=>{xs2,ys2,hxs2,hys2,?_}};obtain⟨p1,p2,ep1,ep2,rfl⟩:=yh ew;obtain⟨q1,eq1,rq1⟩:=rxs.get ep1;obtain⟨q2,eq2,rq2⟩:=rys.get ep2;show{⟨xs2,ys2,q1,q2,hxs2,hys2,eq1,eq2⟩,λx' H3 d=>?_};obtain⟨pa,x1,x2,hp,ex',eH3,f1,f2⟩:=d;have g1:=f1 xs2 hxs2;have g2:=f2 ys2 hys2;rw[eq1]at g1;rw[eq2]at g2;cases g1;cases g2;subst ex' eH3;show{μ2,(Ex.laid hp).ext,R2.laid hp,.tupNew hp<|.cons rq1<|.one rq2};have l1:=rxs.len;have l2:=rys.len;have:=xO ▸ hl
 lia;cases m1;cases m1
end
variable {e1 e2:Expr}
section
variable {X:Cx}{K:CQ}
def Gn:∀{ns:List Int}{its i}{v:Aj},Cg (ns.map V.int) its->its[i]?=AP v->∃t,v=.int (ns.getD i 0) t
 | [],_,_,_,.nil,e=>by simp at e
 | n::ns,_,0,_,.cons r _,e=>by
  simp at e;subst e;show r
 | _::ns,_,i+1,v,.cons _ t,e=>by
  obtain⟨G,h⟩:=Gn t (by simpa using e)
  simp_all
def mK (ns:List Int):∀k,k<=ns.length->preSum (λi=>ns.getD i 0) k=(ns.take k).sum
 | 0,_=>by simp[preSum]
 | k+1,h=>by
  rw[preSum,mK ns k ⋯,M4,List.sum_append,Lq _];change _=_+(ns[k]+0);grind
def akU (f:X.calm=true):jC X (.builtin "sum") (λxs H Q=>∃(p:Addr) (ns:List Int),xs=[.ref p]/\Kr X.K H p (ns.map V.int)/\Q (.int ns.sum) H):=by
 rintro apn s σ H xs us Q I r ⟨p,ns,e,g,q⟩;subst e;obtain⟨u,rfl,Y⟩:=vals1 r;cases Y;obtain⟨its,O,pl,k⟩:=I.list g;have J:its.length=ns.length:=by rw[<-O.length,Ds]
 have hl:=pl.isList;have G:p<(~~~s):=by obtain⟨_,e,_⟩:=hl;show FP e
 show call_sum_walkAnyS<|ZV hl ?_
 show{(~~~s),[(~~~s),p],[(~~~s)],_,its.toArray.size,_,_,λi=>ns.getD i 0,rfl,(Walks.list (A:=X.A.in1) (I.ok.hd f) _ p (KC G) _).toS,
  {{_,Kf _ rfl,rfl,rfl},hl.push _},λb l=>?_,λi v h=>Gn O (by simpa using h),λs' U hm=>?_}
 rw[Ud];grind
 have e:preSum (λi=>ns.getD i 0) its.toArray.size=ns.sum:=by rw[Lf,J,mK ns _ (Em _),Nj]
 rw[e];obtain⟨hh,m,dd,tt,j⟩:=s';have c:=hm.gens;have d:=hm.drawn;have a:=hm.os;subst c d a;show{.int _,H,I.kept<|λb x e=>?_,⟨U,rfl⟩,q};show hm.heap b x (λhm=>by rw[R6.mp hm]at e;show RX _ (FP e))<|FW _ e
abbrev qj:List W->Option (List Int)
 | []=>AP []
 | .int i::ws=>(qj ws).map (i::·)
 | _=>Af
def rK {H μ}:∀{ws xs}{ns},aP K H μ ws xs->qj ws=AP ns->xs=ns.map V.int
 | [],xs,ns,r,e=>by
  cases e;show r
 | w::ws,xs,ns,r,e=>by
  obtain⟨v,O,J,G,r⟩:=r;cases w with
  | int b=>
   rw[qj]at e;cases q:qj ws with
   | none=>rw[q]at e;cases e
   | some cs=>
    rw[q]at e;cases e;rw[J,G,rK r q];rfl
  | _=>cases e
abbrev XH:MC:=λws h Q=>match ws with
 | [w]=>(match gq h w with
  | some us=>(match qj us with
   | some ns=>Q (.int ns.sum) h
   | none=>False)
  | none=>False)
 | _=>False
def aat (O:X.calm=true):jG X (.builtin "sum") XH:={_,akU O,by
 intro H μ h a ws b Q R r m k;unfold XH at m;split at m
 split at m
 split at m
 rename_i w _ us U _ ns Y;obtain⟨v,e,G⟩:=iQ r;obtain⟨p,ys,ex,hs,J⟩:=eY R G U;subst e ex;show{p,ns,rfl,rK J Y ▸ hs,k _ _<|.int R m};cases m;cases m;cases m}
end
def GR:Manifest.owners.lookup (String.ofList ['d','e','s','r','e','v','e','r'].reverse)=AP Manifest.sig_reversed:=by kernel_rfl
def W7:mroOf (.type "reversed")=pure [.type "reversed",.type "object"]:=by
 rw[mroOf_type]
 kernel_rfl
def ace:YC (.type "reversed") "__new__" = pure (AP (.builtin "reversed.__new__")):=by
 rw[Yl,fM]
 kernel_rfl
def fC:Slot "reversed" "__next__" "reversed.__next__":=
  .of (owner := "reversed") (n := "__next__")
    (by rw[Yl,fM]
        kernel_rfl)
    (by decide +kernel) (by decide +kernel)
    (by decide +kernel)
    (by first
        | show .inl (by decide +kernel)
        | show .inr _)
    (by rw[ZM]
        kernel_rfl)
def pA:entryFor table "reversed.__next__" = AP V3.«reversed.__next__»:=entryFor_of_tree (by kernel_rfl)
def qN (a):argsOk "reversed.__next__" ⟨[a],[]⟩:=by
 unfold argsOk;rw[signature?_of (n:=['_','_','t','x','e','n','_','_']) (by kernel_rfl) GR]
 kernel_rfl
def qP:Slot "reversed" "__iter__" "reversed.__iter__":=
  .of (owner := "reversed") (n := "__iter__")
    (by rw[Yl]
        kernel_rfl)
    (by decide +kernel) (by decide +kernel)
    (by decide +kernel)
    (by first
        | show .inl (by decide +kernel)
        | show .inr _)
    (by rw[ZM]
        kernel_rfl)
def alZ (a):argsOk "reversed.__iter__" ⟨[a],[]⟩:=by
 unfold argsOk;rw[signature?_of (n:=['_','_','r','e','t','i','_','_']) (by kernel_rfl) GR]
 kernel_rfl
def amR:entryFor table "reversed.__iter__" = AP V3.«dict_keyiterator.__iter__»:=
  entryFor_alias (id' := "dict_keyiterator.__iter__") (by kernel_rfl)
    (by first
        | rfl
        | decide +kernel
        | (unfold G.splitOn;simp +decide [G.splitOnAux]))
    (by decide +kernel) (by kernel_rfl)
def zat (a):checkTypeCall "reversed" ⟨[a],[]⟩=pure ():=by kernel_rfl
def ajw (a):checkBuiltinCall "reversed.__new__" ⟨[.type "reversed",a],[]⟩=pure ():=by kernel_rfl
def ajc:entryFor table "reversed.__new__" = AP V3.«reversed.__new__»:=entryFor_of_tree (by kernel_rfl)
def aeb:isSubtype (.type "reversed") (.type "reversed")=pure true:=by
 rw[ZM]
 kernel_rfl
def zao:YC (.type "tuple") "__reversed__" = pure Af:=by
 rw[Yl,fM]
 kernel_rfl
def ajE:isSubtype (.type "tuple") (.type "dict")=pure false:=by
 rw[ZM]
 kernel_rfl
abbrev Zx (l:Addr)(i:Int):Obj:={cls:=.type "reversed",data:=.fields #[.ref l,O7 i]}
abbrev NK (h:Heap)(a l:Addr)(i:Int):Prop:=∃o,h.get? a=AP o/\o.cls=.type "reversed"/\o.data=.fields #[.ref l,O7 i]
section
variable {P:Dm}{w:DX}{A:Ej}{E:Aj->Bc->Prop}{s:Bc}
def NK.typeIs {a l i}(x:NK s.heap a l i):s.TypeIs (.ref a) "reversed":=let⟨o,g,c,_⟩:=x;⟨o,g,c⟩
def NK.at {h h' a l i}(x:NK h a l i)(e:∀o,h.get? a=AP o->h'.get? a=AP o):NK h' a l i:=let⟨o,g,r⟩:=x;{o,e _ g,r}
def akz (a):Builtin.SmallTypes.newClass "reversed" ⟨[.type "reversed",a],[]⟩=pure (.type "reversed",[a]):=by
 unfold Builtin.SmallTypes.newClass;simp[aeb];rfl
def akn:Slot "reversed" "__init__" "object.__init__":=
  .of (owner := "object") (n := "__init__")
    (by rw[Yl]
        kernel_rfl)
    (by decide +kernel) (by decide +kernel)
    (by decide +kernel)
    (by first
        | show .inl (by decide +kernel)
        | show .inr _)
    (by rw[ZM]
        kernel_rfl)
def zbt:TypeCalled "reversed" "reversed.__new__" "object.__init__":=
  {by decide +kernel,by decide +kernel,{_,_,W7},madeBy_type W7 ace (by decide +kernel),by decide +kernel,
    by rw[ZM]
       kernel_rfl,akn}
def amv (l)(xs):Meets (V3.«reversed.__new__» ⟨[.type "reversed",.ref l],[]⟩) (λ_ R s=>IsTup s.heap l xs/\(xs.size:Int)<2^63 /\
   R (.ok (.ret (.ref s.heap.objs.size))) {s with heap:=s.heap.push (Zx l ((xs.size:Int)-1)),toks:=s.toks+1+1}):=by
 show .of_wp λprog w A R s a=>?_;obtain⟨ht,G,q⟩:=a;show BL<|Ve (akz _)<|BL<|Ve rfl<|BL<|Ve rfl<|BL<|Yo ht.typeIs zao<|BL<|BL<|Zu ht.typeIs ajE<|BL<|Yo ht.typeIs Yt.lookup<|DK<|BL<|len_tuple ht G<|BL<|Ve rfl<|BL ?_
 change CR _ _ (newObj _ (.fields #[.ref l,O7 _])) _ _ _;show SX (DK {_,rfl,q})<|by size_fits
def zbS {l}{xs}{Q}(ht:IsTup s.heap l xs)(G:(xs.size:Int)<2^63)
  (q:Q (.ref s.heap.objs.size) {s with heap:=s.heap.push (Zx l ((xs.size:Int)-1)),toks:=s.toks+1+1}):CR (Cq P w) A (call (.type "reversed") [.ref l]) Q E s:=callType_new zbt ∅ (zat _) (ajw _) (λobj=>PySem.F.args_object_init_2 obj _) ajc (amv l xs) {ht,G,{_,Kf _ rfl,rfl},q}
def akR {it l}{i:Nat}{xs x}{Q}(hi:NK s.heap it l (i))(ht:IsTup s.heap l xs)(U:(xs.size:Int)<2^63)(O:xs[i]?=AP x)
  (q:∀h',NK h' it l ((i)-1)->Qf it s.heap h'->Q (AP x) {s with heap:=h',toks:=s.toks+1}):CR (Cq P w) A (pyNext (.ref it)) Q E s:=by
 obtain⟨o,J,b,G⟩:=id hi;have a:=(Array.getElem?_eq_some_iff.mp O).1;show BL (YQ (Vj hi.typeIs fC
  (Uh fC hi.typeIs pA ?_ (qN _))))
 show BL<|Ve rfl ?_
 show BL<|Mv J G rfl<|BL<|Mv J G rfl ?_
 show BL<|Yo ht.typeIs Yt.lookup<|BL<|wpAny_mkInt<|BL<|YQ<|getItem_tuple ht ⋯ ⋯ ?_ O ?_
 show(seqIndex_of ⋯<|⋯);show BL<|Mv J G rfl<|BL<|Vy J G (by simp)<|DK {x,rfl,DK<|q _ ?_<|Vg ..}
 show{_,R7 _ J<|Vh<|U8 G _,(Zj ..).trans b,by rw[U8 G];simp}
def zai {it l}{Q}(hh:A.handled=Af)(hi:NK s.heap it l (-1))
  (q:∀h',Z6 it s.heap h'->Q Af {s with heap:=h'}):CR (Cq P w) A (pyNext (.ref it)) Q E s:=by
 obtain⟨o,J,e,G⟩:=id hi;show BL (YQ (Vj (name:=Str.ofString "__next__") hi.typeIs fC
  (Uh fC hi.typeIs pA ?_ (qN _))))
 show BL<|Ve (a:=(Value.ref it,([]:List Aj))) (by rfl) ?_
 show BL<|Mv J G (x:=.ref l) rfl ?_
 show BL<|Mv J G (x:=O7 (-1)) rfl ?_
 show BL<|Va ?_
 show BL ?_;show BL<|Vy J G (by simp) ?_
 have c:=R7 (λo=>o.mapFields λx=>x.setIfInBounds 1 (O7 (-1))) J (Vh (U8 G _));show Vy c (U8 G _) (by simp) ?_;show BL ?_;show BL ?_;show BL (SX (by
  show BL (m:=Zg _ _)<|Ve (a:=Value.none) (by rfl)<|SX ?_<|by size_fits
  show BL (wpAny_handled (by
   first
    | rw[hh]
   show BL<|DK<|Z4 ?_
   show BL<|Zu (T := "StopIteration") (b:=true) {_,Kf _ rfl,rfl} isSubtype_stop<|DK<|q _ ?_
   intro b O Y d;show FW _ (FW _ ((Vg ..).extBut b O Y ((Vg ..).extBut b O Y d))))) ) (by size_fits))
def GX {it l i}{Q}(hi:NK s.heap it l i)(q:Q (.ref it) s):CR (Cq P w) A (pyIter (.ref it)) Q E s:=wpAny_pyIter_slot hi.typeIs qP (Uh qP hi.typeIs amR (DK {_,rfl, "reversed",_,hi.typeIs,fC.lookup,q}) (alZ _))
end
abbrev Itv (K:CQ)(n:Nat)(l:Addr):It:=
  ⟨λi H=>i<n/\∃xs x,KJ K H l xs/\xs.length=n/\xs[n-1-i]?=AP x,
   λi H v H'=>H'=H/\∀xs,KJ K H l xs->xs[n-1-i]?=AP v,
   λi _=>n<=i,true⟩
abbrev aiU (n:Nat)(it l:Addr)(i:Nat)(h:Heap):Prop:=i<=n/\NK h it l ((n:Int)-1-(i:Int))
def anH {P:Dm}{w:DX}{K:CQ}{tg:Expr}{n:Nat}{it l:Addr}(M:l≠it):Turn P w K tg (Itv K n l) [it] it (aiU n it l) where
 mem:=by simp
 obj:=λi h st b G=>by
  obtain⟨_,o,g,_,d⟩:=st;rw[R6]at G;subst G;show{o,g,λv y=>by rw[d]at y;cases y}
 keep:=λi h h' st k=>{st.1,st.2.at λo e=>k it (by simp) o e}
 item:=by
  intro X t m v p i apn s σ H E I J st U;subst t m v;obtain⟨O,xs,x,j,T,ex⟩:=U;obtain⟨its,r,pl,V⟩:=I.tuple j;obtain⟨u,L,B⟩:=r.get ex;have hl:=r.length;have e1:(n:Int)-1-(i:Int)=((n-1-i:Nat):Int):=⋯
  have hi:=st.2;rw[e1]at hi;have W:=tL;show akR hi pl (by simp;lia) (by simpa using L) λh1 Y A=>{u,rfl,?_};have e2:((n-1-i:Nat):Int)-1=(n:Int)-1-((i+1:Nat):Int):=⋯
  rw[e2]at Y;obtain⟨o,N,R,Q⟩:=id Y;show M6 N R Q ∅ {x,H,I.turnedL (λb o G e=>A.extBut b o (λq=>G<|by simp[q]) e) J,B,{rfl,λys F=>?_},⟨O,Y⟩,λb G=>(J b G).1}
  rwa[I.tuple_inj F j]
 done:=by
  intro X t m v p i apn s σ H E I J st U;have hi:=st.2;have e1:(n:Int)-1-(i:Int)=-1:=by
   have:=st.1
   have:n<=i:=U
   lia
  rw[e1]at hi;show zai (I.ok.hd<|p rfl) hi λh1 S=>{rfl,I.turnedL (λb o G e=>S b o (λq=>G<|by simp[q]) e) J}
 self:=λ_ _ _ _ _ st h=>GX st.2 h
section
variable {X:Cx}{K:CQ}
end
section
variable {X:Cx}
end
abbrev Itw (K:CQ)(n:Nat)(l:Addr):It:=
  ⟨λi H=>i<n/\∃xs x,Kr K H l xs/\xs.length=n/\xs[n-1-i]?=AP x,
   λi H v H'=>H'=H/\∀xs,Kr K H l xs->xs[n-1-i]?=AP v,
   λi _=>n<=i,true⟩
abbrev aik (n:Nat)(it l:Addr)(i:Nat)(h:Heap):Prop:=i<=n/\h.IsRevIter it l ((n:Int)-1-(i:Int))
def zaW {P:Dm}{w:DX}{K:CQ}{tg:Expr}{n:Nat}{it l:Addr}(M:l≠it):Turn P w K tg (Itw K n l) [it] it (aik n it l) where
 mem:=by simp
 obj:=λi h st b G=>by
  obtain⟨_,o,g,_,d⟩:=st;rw[R6]at G;subst G;show{o,g,λv y=>by rw[d]at y;cases y}
 keep:=λi h h' st k=>{st.1,st.2.at λo e=>k it (by simp) o e}
 item:=by
  intro X t m v p i apn s σ H E I J st U;subst t m v;obtain⟨O,xs,x,j,T,ex⟩:=U;obtain⟨its,r,pl,V⟩:=I.list j;obtain⟨u,L,B⟩:=r.get ex;have e1:(n:Int)-1-(i:Int)=((n-1-i:Nat):Int):=⋯
  have hi:=st.2;rw[e1]at hi;show wpAny_pyNext_rev_item hi pl.isList (by simpa using L) λh1 Y A=>{u,rfl,?_};have e2:((n-1-i:Nat):Int)-1=(n:Int)-1-((i+1:Nat):Int):=⋯
  rw[e2]at Y;obtain⟨o,N,R,Q⟩:=id Y;show M6 N R Q ∅ {x,H,I.turnedL (λb o G e=>A.extBut b o (λq=>G<|by simp[q]) e) J,B,{rfl,λys F=>?_},⟨O,Y⟩,λb G=>(J b G).1}
  rwa[I.list_inj F j]
 done:=by
  intro X t m v p i apn s σ H E I J st U;have hi:=st.2;have e1:(n:Int)-1-(i:Int)=-1:=by
   have:=st.1
   have:n<=i:=U
   lia
  rw[e1]at hi;show wpAny_pyNext_rev_end (I.ok.hd<|p rfl) hi λh1 S=>{rfl,I.turnedL (λb o G e=>S b o (λq=>G<|by simp[q]) e) J}
 self:=λ_ _ _ _ _ st h=>wpAny_pyIter_revIter st.2 h
section
variable {X:Cx}{K:CQ}
abbrev agt (K:CQ)(ta:TA):TI:=fun σ H R=>ta σ H λvs H1=>∃a xs,vs=[.ref a]/\((KJ K H1 a xs/\R (Itv K xs.length a) H1)\/(Kr K H1 a xs/\R (Itw K xs.length a) H1))
def amT {tg ta}{p pos}(hg:Gl X "reversed")(hm:X.mg "reversed" = Af)(ha:PA X [e1] ta)
  (hs:Dc [e1] X.env=(false,eval e1 X.env)::Dc [] X.env:=by rfl) (hpl:(Ku pos (Dc [] X.env)).any (·.1)=false:=by rfl) :
  PI X tg (.Call (.Name "reversed" p) [e1] [] pos) (agt X.K ta):=by
 intro apn s σ H R I h;show Vm<|pD I hg hm boot_reversed (Yr (Eu (ha pos apn s σ H _ I h) λus s1 ⟨vs,H1,I1,r1,q1⟩=>?_) hs hpl) ∅<|∅
 obtain⟨a,xs,ev,hx⟩:=q1;subst ev;obtain⟨u1,eu,ru1⟩:=vals1 r1;subst eu;cases ru1;rcases hx with⟨hx,q⟩|⟨hx,q⟩
 obtain⟨its,r,pl,hz⟩:=I1.tuple hx;have hl:=r.length;have hn:=tL;show zbS pl (by simp;lia) ?_;have gi:NK (s1.heap.push (Zx a ((its.toArray.size:Int)-1))) (~~~s1) a ((xs.length:Int)-1-((0:Nat):Int)):=by
  show{_,Kf _ rfl,rfl,?_};change Data.fields #[.ref a,O7 _]=_;rw[Lf,<-hl];simp
 show GX gi ?_;show{_,[(~~~s1)],_,_,H1,rfl,I1.kept<|λb o e=>FW _ e,anH<|KC (by obtain⟨_,e,_⟩:=pl;show FP e),{Pz _,gi},λc hc=>?_,q};rw[R6]at hc;subst hc;show I1.fpOk (Em _)<|I1.hok.fresh<|Em _
 obtain⟨its,r,pl,hz⟩:=I1.list hx;show call_reversed_list pl.isList ?_;have gi:(s1.heap.push (revObj a ((its.toArray.size:Int)-1))).IsRevIter (~~~s1) a ((xs.length:Int)-1-((0:Nat):Int)):=by
  show{_,Kf _ rfl,rfl,?_};change Data.fields #[.ref a,O7 _]=_;rw[Lf,<-r.length];simp
 show wpAny_pyIter_revIter gi ?_;show{_,[(~~~s1)],_,_,H1,rfl,I1.kept<|λb o e=>FW _ e,zaW<|KC (by obtain⟨_,e,_⟩:=pl.isList;show FP e),{Pz _,gi},λc hc=>?_,q};rw[R6]at hc;subst hc;show I1.fpOk (Em _)<|I1.hok.fresh<|Em _
abbrev ab6 (ma:MA):MI:=fun σ h R=>ma σ h λws h1=>match ws with
 | [.tup us]=>R ⟨us.reverse,Af⟩ h1
 | [.lst us]=>R ⟨us.reverse,Af⟩ h1
 | _=>False
def aap {tg}{p pos}(hg:Gl X "reversed")(hm:X.mg "reversed" = Af)(ha:Mp X [e1] mr)
  (hs:Dc [e1] X.env=(false,eval e1 X.env)::Dc [] X.env:=by rfl) (hpl:(Ku pos (Dc [] X.env)).any (·.1)=false:=by rfl) :
  Uj X tg (.Call (.Name "reversed" p) [e1] [] pos) (ab6 mr):=PI.of (amT hg hm ha hs hpl) fun σ H Q f=>by
 obtain⟨μ,h,σw,Rw,R,S,m,k⟩:=f;show{μ,h,σw,_,R,S,m,λvs H1 c=>?_};obtain⟨μ1,ws,h1,e1,R1,r1,m1⟩:=c;split at m1
 rename_i us;obtain⟨v,ev,rv⟩:=iQ r1;have rv0:=rv;obtain⟨a,xs,ea,hx,rs⟩:=rv;subst ev ea;have hl:=rs.len;show{a,xs,rfl,.inl {hx,k _ _ {μ1,⟨us.reverse,Af⟩,h1,e1,R1,?_,m1}}};intro H2 μ2 h2 i e2 R2 _;have r2:=e2.r _ _ rv0;obtain⟨b,ys,eb,hy,ry⟩:=r2;cases eb;have hl2:=ry.len;show{λw ew=>?_,λhle=>?_};have hi:=by
  have:=(Qc.mp ew).1
  simpa using this
 rw[List.getElem?_reverse hi]at ew;obtain⟨v,hv,rv⟩:=ry.get ew;show{{⋯,ys,v,hy,⋯,show xs.length-1-i=us.length-1-i by lia ▸ hv},λx H3 d=>?_};obtain⟨e3,y⟩:=d;subst e3;have:=y ys hy
 rw[show _-1-i=us.length-1-i by lia,hv]at this;cases this;show{μ2,.refl,R2,rv};have:=by simpa using hle
 change _<=i;lia;rename_i us;obtain⟨v,ev,rv⟩:=iQ r1;have rv0:=rv;obtain⟨a,xs,ea,hx,rs⟩:=rv;subst ev ea;have hl:=rs.len;show{a,xs,rfl,.inr {hx.sq,k _ _ {μ1,⟨us.reverse,Af⟩,h1,e1,R1,?_,m1}}};intro H2 μ2 h2 i e2 R2 _;have r2:=e2.r _ _ rv0;obtain⟨b,ys,eb,hy,ry⟩:=r2;cases eb;have hl2:=ry.len;show{λw ew=>?_,λhle=>?_};have hi:=by
  have:=(Qc.mp ew).1
  simpa using this
 rw[List.getElem?_reverse hi]at ew;obtain⟨v,hv,rv⟩:=ry.get ew;show{{⋯,ys,v,hy.sq,⋯,show xs.length-1-i=us.length-1-i by lia ▸ hv},λx H3 e=>?_};obtain⟨e3,y⟩:=e;subst e3;have:=y ys hy.sq
 rw[show _-1-i=us.length-1-i by lia,hv]at this;cases this;show{μ2,.refl,R2,rv};have:=by simpa using hle
 change _<=i;lia;cases m1
end
def J4 {K H}:aP K H μ [] []:=rfl
def lF {K H w v}{vs}(h:DW K H μ w v)(t:aP K H μ ws vs):aP K H μ (w::ws) (v::vs):=⟨v,vs,rfl,h,t⟩
def zJ {K H}{i}:DW K H μ (.int i) (.int i):=rfl
variable {sl:Array (Option Aj)}
def oZ {K}{a}{its n}{xs}(h:K.lookup a=AP ⟨.type "tuple",Af,.seq its n,sl⟩)(hz:its.size<=El)(G:Cg xs its.toList)(J:∀H μ,aP K H μ ws xs):∀H μ,DW K H μ (.tup ws) (.ref a):=by
 intro H μ;show{a,xs,rfl,.inr {_,its,n,h,rfl,rfl,hz,G,rfl},J H μ}
def Lx {i}{t}:RelV (.int i) (.int i t):=⟨t,rfl⟩
def afF {a}:RelV (.ref a) (.ref a):=rfl
section
variable {prog:Dm}{w:DX}{A:Ej}{E:Aj->Bc->Prop}{s:Bc}
def CP {it t}{items}(J:t≠it):∀n i s  (Q),s.heap.IsListIter it t i->s.heap.IsList t items->i+n<=items.size ->
  (∀h',h'.IsListIter it t (i+n)->Qf it s.heap h'->Q ((items.toList.drop i).take n) {s with heap:=h'})->CR (Cq prog w) A (draw (.ref it) n) Q E s
 | 0,i,s,Q,hit,_,_,b=>DK (by simpa using b _ hit (Heap.SameBut.refl ..))
 | n+1,i,s,Q,hit,ht,d,b=>by
  have a:i<items.size:=⋯
  show BL<|wpAny_pyNext_list_item hit ht (x:=items[i]) (by simp) λh1 U G=>(BL<|N7<|CP J n _ _ _ U (ht.at λo e=>G.extBut _ o J e) ⋯ λh2 O Y=>DK ?_)
  have f:items.toList.drop i=items[i]::items.toList.drop (i+1):=by simp[vh,a]
  have:=b h2 (show i+(n+1)=i+1+n by lia ▸ O) (G.trans Y)
  rwa[f]at this
def amm {t}{items}{Q}(hh:A.handled=Af)(ht:s.heap.IsList t items)
  (d:∀h',Z6 s.heap.objs.size s.heap h'->Q items.toList {s with heap:=h'}):CR (Cq prog w) A (unpackItems (.ref t) items.size Af) Q E s:=by
 have J:t≠(~~~s):=by obtain⟨o,c,_⟩:=ht;show KC (FP c)
 show BL ?_;show BL<|Yo ht.typeIs slot_list_iter.lookup<|DK<|BL<|N7<|ZV ht<|BL<|N7<|CP J _ 0 _ _ {_,Kf _ rfl,rfl,rfl} (ht.at λo e=>FW _ e) ⋯ λh1 O G=>?_
 rw[(List.take_of_length_le (by simp)),if_neg (by simp)];show BL<|N7<|wpAny_pyNext_list_end hh O (ht.at λo e=>G.extBut _ o J<|FW _ e) (by simp) λh2 U=>?_
 show DK<|d h2 λb o a e=>U b o a<|G.extBut b o a<|FW _ e
def anB {env}{O pos t}{items}{Q}(hh:A.handled=Af)(ht:s.heap.IsList t items)
  (U:(Ox elts env).length=items.size) (G:(Ox elts env).findIdx? (·.1)=Af)
  (h:∀h',Z6 s.heap.objs.size s.heap h'->CR (Cq prog w) A (assignInOrder ((Ox elts env).map (·.2)) items.toList) Q E {s with heap:=h'}) :
  CR (Cq prog w) A (assign (.Tuple elts O pos) env (.ref t)) Q E s:=by
 show BL<|Yd ?_
 unfold unpack;rw[U,G];show BL<|N7<|amm hh ht h
end
section
variable {X:Cx}{pos:Pos}
abbrev ahj (K:CQ)(n:Nat)(t:Vo):TG:=λv σ H Q=>∃a xs,v=.ref a/\(KJ K H a xs\/Kr K H a xs)/\xs.length=n/\t xs σ H Q
def alx {es k t}{n}(hc:X.calm=true)(h:X7 X es t)
  (hn:(Ox es X.env).length=n:=by rfl) (hst:(Ox es X.env).findIdx? (·.1)=Af:=by rfl):PG X (.Tuple es k pos) (ahj X.K n t):=by
 intro apn s σ H v u Q I r hw;obtain⟨a,xs,e1,hq,hl,hw⟩:=hw;subst e1;cases r;rcases hq with hq|hq
 obtain⟨its,rv,ht,hz⟩:=I.tuple hq;show assign_Tuple_tuple (I.ok.hd hc) ht (by simp[hn,<-hl,rv.length]) hst λh' hx=>(h apn _ σ H xs _ Q (I.kept λb o e=>hx b o (KC<|FP e) e) (by simpa using rv) hw);obtain⟨its,rv,ht,hz⟩:=I.list hq;show anB (I.ok.hd hc) ht.isList (by simp[hn,<-hl,rv.length]) hst λh' hx=>(h apn _ σ H xs _ Q (I.kept λb o e=>hx b o (KC<|FP e) e) (by simpa using rv) hw)
abbrev vf (n:Nat)(g:Vr):MG:=λw σ h N=>match w with
 | .tup ws=>Lg (UW ws.length n) (g ws σ h N) False
 | .lst ws=>Lg (UW ws.length n) (g ws σ h N) False
 | .loc j=>(match h.c j with
  | some (.lst ws)=>Lg (UW ws.length n) (g ws σ h N) False
  | _=>False)
 | _=>False
def qu {es k g}{n}(hc:X.calm=true)(h:afx X es g)(hn:(Ox es X.env).length=n:=by rfl)(hst:(Ox es X.env).findIdx? (·.1)=Af:=by rfl):DG X (.Tuple es k pos) (vf n g):=
 (alx (n:=n) hc h hn hst).of λv σ H N a=>by
  obtain⟨μ,h,σw,w,Nw,R,S,r,m,k⟩:=a;cases w with
  | tup ws=>
   obtain⟨p,xs,e1,hs,hr⟩:=r;have m:Lg _ _ False:=m;cases en:UW ws.length n with
   | true=>rw[en]at m;show{p,xs,e1,.inl hs,hr.len ▸ rW en,μ,h,σw,ws,Nw,R,S,hr,m,k}
   | false=>rw[en]at m;show(m).elim
  | lst ws=>
   obtain⟨p,xs,e1,hs,hr⟩:=r;have m:Lg _ _ False:=m;cases en:UW ws.length n with
   | true=>rw[en]at m;show{p,xs,e1,.inr hs.sq,hr.len ▸ rW en,μ,h,σw,ws,Nw,R,S,hr,m,k}
   | false=>rw[en]at m;show(m).elim
  | loc j=>
   have m:(match h.c j with
    | some (.lst ws)=>Lg _ _ False
    | _=>False):=m
   split at m
   ·rename_i ws ec;obtain⟨p,xs,e1,hs,hr⟩:=eY R r (show gq h (.loc j)=AP ws by simp only[gq,ec]);cases en:UW ws.length n with
    | true=>rw[en]at m;show{p,xs,e1,.inr hs,hr.len ▸ rW en,μ,h,σw,ws,Nw,R,S,hr,m,k}
    | false=>rw[en]at m;show(m).elim
   show m.elim
  | _=>show m.elim
end
section
variable {K:CQ}{H:Hp}{h:Gh}{p:Addr}{xs:List V}
end
section
variable {X:Cx}{tg iter:Expr}{pos:Pos}{scope:Scope}{xs:List Str}
end
abbrev FZ:Expr->Bool
 | .Starred _ _=>true
 | _=>false
def aN {e}{es env}(h:FZ e=false):Dc (e::es) env=(false,eval e env)::Dc es env:=by
 cases e<;>first|rfl|cases h
def XF {e}{env}(h:FZ e=false):Dc [e] env=[(false,eval e env)]:=(aN h).trans rfl
abbrev noStar:List Expr->Bool
 | []=>true
 | e::r=>!FZ e&&noStar r
def bM {pos env}:∀{es},noStar es=true->(Ku pos (Dc es env)).any (·.1)=false
 | [],_=>rfl
 | e::r,h=>by
  rw[noStar,V5,Bool.not_eq_true']at h;rw[aN h.1];change(false||(Ku pos _).any _)=false;rw[bM h.2];rfl
def uW {apq e}{env}(h:FZ e=false):((Ku apq (Dc [e] env)).all (λx=>!x.1)&&(backToKw apq (Ye [] env)).all (λx=>x.1.isSome)
   && decide (([e]:List Expr).length+([]:List SM).length+(if([]:List SM).isEmpty then 0 else 1)<30))=true:=by
 rw[XF h];rfl
section
variable {prog:Dm}{w:DX}{A:Ej}{E:Aj->Bc->Prop}{s:Bc}
open HT in
def anq {t sl}{items Y U}{lo hi Q}(ht:IsTup s.heap t items)(hs:s.heap.IsSliceOf sl Y U .none)(pl:IsPart Y lo)(a:IsPart U hi)
  (h0:sIx items.size 0 lo=0) (h1:sIx items.size items.size hi=items.size) (h:Q (.ref t) s):CR (Cq prog w) A (getItem (.ref t) (.ref sl)) Q E s:=by
 obtain⟨os,J,O,b⟩:=id hs;unfold getItem;try with_reducible show N7 ?_
 show BL<|wpAny_sequenceKey ht.typeIs ∅ ?_
 show BL (Vj ht.typeIs Yt
  (Uh Yt ht.typeIs entry_tuple_getitem ?_ (args_tuple_getitem _ _)))
 change CR _ _ (Builtin.Tuple.tupleItemsOf _ >>= _) _ _ s;show BL<|tupleItemsOf_ ht ?_
 show BL<|YB ⟨os,J,O⟩ ?_
 show BL<|jB hs pl a ?_
 have G:((((sIx items.size 0 lo:Nat):Int)==0&&(1:Int)==1&&(sIx items.size items.size hi-sIx items.size 0 lo)==items.size)=true):=by
  rw[h0,h1];simp
 change CR _ _ (if _=true then _ else _) _ _ s;rw[if_pos G];show BL<|BL<|YB ht.typeIs<|DK ?_
 show BL<|Va ?_
 first
  | show BL (DK (DK {_,rfl,DK h}))
end
section
variable {X:Cx}
abbrev aiM (K:CQ):V->Option Int->Option Int->Hp->VK->Prop:=λx lo hi H Q=>∃a xs,x=.ref a/\KJ K H a xs /\
 HT.sIx xs.length 0 lo=0/\HT.sIx xs.length xs.length hi=xs.length/\Q x H
def aki:Vp X (aiM X.K):=by
 intro apn s σ H x v c b lo hi sl Q I J hs pl O h;obtain⟨a,xs,rfl,U,Y,h1,q⟩:=h;cases J;obtain⟨its,r,ht,d⟩:=I.tuple U;have G:its.toArray.size=xs.length:=r.length.symm;show{"tuple",_,Yt.lookup,ht.typeIs,(anq ht hs pl O (G ▸ Y) (G ▸ h1) {.ref a,H,I,rfl,q})}
abbrev Dk (x:W)(lo hi:Option Int)(h:Gh)(Q:WK):Prop:=match x with
 | .tup ws=>Q (.tup (Lz ws lo hi)) h
 | x=>(match gq h x with
  | some ws=>Q (.lst (Lz ws lo hi)) h
  | none=>False)
def q9 {e}{lo hi ml mh}{p2 pos}(y:DE X e ma)(hl:DO X lo ml)(w:DO X hi mh):DE X (.Subscript e (.Slice lo hi Af p2) pos) (U6 Dk ma ml mh):=
 (zbU (Vp.or (Vp.or alF adf) aki) y hl w).of fun σ H Q b=>by
  obtain⟨μ,h,σw,s,R,S,m,k⟩:=b;show{μ,h,σw,_,R,S,m,λx H1 ⟨μ1,t,h1,e1,B,v,m1⟩=>({μ1,h1,σw,_,B,S.ext e1,m1,λlo H2 ⟨μ2,h2,e2,R2,m2⟩=>({μ2,h2,σw,_,R2,(S.ext e1).ext e2,m2,λhi d a=>?_})})};obtain⟨G,U,e3,Y,O⟩:=a;have J:=(e1.trans e2).trans e3;have i:=e3.r _ _ (e2.r _ _ v);have j:∀f,DW X.K d G f x->(match gq U f with
    | some ws=>s (.lst (Lz ws lo hi)) U
    | none=>False)->∃p xs,x=.ref p/\Kr X.K d p xs/\∀l,d l=Af->Q (.ref l) (Dn d l (.lst (YD xs lo hi))):=by
   intro f u n;split at n
   rename_i ws z;obtain⟨p,xs,ex,hs,c⟩:=eY Y u z;show{p,xs,ex,hs,λl hl=>k _ _ {G,_,U,J.trans (Ex.laid hl).ext,Y.laid hl,.lstNew Y hl<|c.cutv lo hi,n}};cases n
  cases t with
  | tup ws=>
   have O:s _ U:=O;have g:=i;obtain⟨p,xs,ex,r,c⟩:=i;have hl:=c.len;by_cases o:HT.sIx xs.length 0 lo=0/\HT.sIx xs.length xs.length hi=xs.length
   have A:Lz ws lo hi=ws:=by
    unfold Lz;grind
   rw[A]at O;show .inr {p,xs,ex,r,o.1,o.2,k _ _ {G,.tup ws,U,J,Y,g,O}};show .inl<|.inr {p,xs,ex,r,o,λq q=>k _ _ {G,.tup _,U,J.trans (Ex.laid q).ext,Y.laid q,.tupNew q<|c.cutv lo hi,O}}
  | _=>show .inl (.inl (j _ i O))
abbrev YT:MC:=λws h Q=>match ws with
 | [.int i]=>Q (.int i) h
 | [.bl b]=>Q (.int (if b then 1 else 0)) h
 | _=>False
def Vi:jG X (.type "int") YT:={_,alg,by
 intro H μ h J ws O Q R r m k;unfold YT at m;split at m
 obtain⟨v,e,G⟩:=iQ r;subst e G;show .inl {_,rfl,k _ _<|.int R m};obtain⟨v,e,G⟩:=iQ r;subst e G;show .inr {_,rfl,k _ _<|.int R m};cases m}
def alA:fillsNumberSlot (.type "tuple") "mul" = pure false:=
 PySem.fillsNumberSlot_seq F.slot_tuple_mul.lookup (by decide +kernel) F.slot_tuple_rmul.lookup (by decide +kernel)
def ajB:seqRepeat? (.type "tuple")=pure (AP (.builtin "tuple.__mul__")):=by
 unfold seqRepeat?;rw[PySem.seqSlot_of (name := "__mul__") F.slot_tuple_mul.lookup (by decide +kernel),PySem.seqSlot_of (name := "__rmul__") F.slot_tuple_rmul.lookup (by decide +kernel)];rfl
def zal (a)(t)(l)(items):
  Meets (V3.«int.__rmul__» ⟨[.int a t,.ref l],[]⟩) (λ_ R s=>IsTup s.heap l items/\R (.ok (.ret Value.notImplemented)) s):=
 .of_wp λprog w A R s h=>by
  obtain⟨⟨o,O,J,n,G⟩,h⟩:=h;obtain⟨cl,dd,U,sl⟩:=o;subst J G
  wp_walk
  simp_all
def aly (l)(items)(k)(t)(h0:0<=k)(h1:k<2^63)(hz:items.size*k.toNat<=El):
  Meets (V3.«tuple.__mul__» ⟨[.ref l,.int k t],[]⟩) (λ_ R s=>IsTup s.heap l items/\(if items.size=0\/k=1 then R (.ok (.ret (.ref l))) s else
   R (.ok (.ret (.ref s.heap.objs.size))) {s with heap:=s.heap.push {cls:=.type "tuple",data:=.seq (Kv k.toNat items.toList).flatten.toArray} })):=
 .of_wp λprog w A R s h=>by
  obtain⟨U,g,d,tk,os⟩:=s;obtain⟨⟨o,Y,j,n,i⟩,h⟩:=h;obtain⟨cl,dd,q,sl⟩:=o;subst j i;have ht:IsTup U l items:={_,Y,rfl,n,rfl}
  wp_walk
  rw[if_neg (by simp;lia)];show BL<|tupleItemsOf_ (s:=⟨U,g,d,tk,os⟩) ht ?_
  have G:items.isEmpty=decide (items.size=0):=rfl;by_cases e:items.size=0\/k=1
  rw[if_pos e]at h;rw[if_pos (by rcases e with e|e<;>simp[G,e])];show BL<|BL<|YB {_,Y,rfl}<|DK ?_
  rw[if_pos ∅];show BL<|Va ?_
  show DK {_,rfl,h};rw[if_neg e]at h;rw[not_or]at e;rw[if_neg (by simp[G,e.1,e.2])];by_cases k0:k=0
  rw[if_pos (by simp[k0])];subst k0;have p:(Kv (0:Int).toNat items.toList).flatten.toArray=#[]:=rfl;rw[p]at h;show BL (m:=xW _)<|SX (DK {_,rfl,h}) (by change 0<=El;show Pz _)
  rw[if_neg (by simp[G,e.1];lia)];have O:((2:Int)^63-1) / 8=1152921504606846975:=∅
  have f:(El:Nat)<=1152921504606846975:=∅
  have a:((items.size*k.toNat:Nat):Int)=(items.size:Int)*k:=by rw[Int.natCast_mul,Int.toNat_of_nonneg h0]
  rw[if_neg (by rw[O,<-a];lia)];rw[if_neg (by unfold Builtin.Tuple.tupleTooMany;rw[<-a,decide_eq_true_iff];lia)];have J:List.foldl (λx1 c=>x1++c) #[] (Kv k.toNat items)=(Kv k.toNat items.toList).flatten.toArray:=by
   have:=foldl_rep items.toList k.toNat []
   rw[List.nil_append]at this
   simpa using this
  rw[J];show BL (m:=xW _)<|SX (DK {_,rfl,h}) ?_
  change(Kv k.toNat items.toList).flatten.toArray.size<=El;rw[Lf,len_rep,Nat.mul_comm]
  simpa using hz
abbrev afX (K:CQ):R2:=λx y H Q=>∃a xs k,x=.ref a/\y=.int k/\KJ K H a xs/\0<=k/\k<2^63/\xs.length*k.toNat<=El /\
 ((xs.length=0\/k=1)->Q (.ref a) H)/\(¬(xs.length=0\/k=1)->∀p,H p=Af->Q (.ref p) (Dn H p (.tup (Kv k.toNat xs).flatten)))
def aae:Mg X (Ow .Mult) (afX X.K):=by
 intro apn s σ H x y v u Q I U O h;obtain⟨a,xs,k,rfl,rfl,c,f,h1,J,b,Y⟩:=h;cases U;obtain⟨t,rfl⟩:=O;obtain⟨its,r,ht,d⟩:=I.tuple c;have G:its.toArray.size=xs.length:=r.length.symm;show wpAny_binaryOp_repeat_ref ∅ ht.typeIs (λs'=>typeIs_int s' k t) alA F.fills_int_mul F.slot_int_rmul ajB F.slot_int_index.lookup
  (call_meets F.slot_int_rmul (typeIs_int s k t) F.entry_int_rmul (F.args_int_rmul_2 _ _) (zal k t a _)
   {ht,rfl,ht.typeIs,call_meets F.slot_tuple_mul ht.typeIs F.entry_tuple_mul (F.args_tuple_mul_2 _ _) (aly a _ k t f h1 (G ▸ J)) {ht,?_}})
 rw[G];by_cases e:xs.length=0\/k=1
 show if_pos e ▸ {.ref a,H,I,rfl,b e};rw[if_neg e];show{.ref _,_,I.laid (λb g q=>FW _ q) (Em _) ?_,rfl,Y e _<|I.hok.fresh<|Em _};show{by rw[len_rep,Nat.mul_comm];show J,_,r.rep _,Sv.new _ _}
abbrev adq:M2:=λx y h Q=>match x,y with
 | .int i,.int j=>gP i j/\Q (.int (i*j)) h
 | .tup ws,.int k=>(0<=k/\k<=1000/\ws.length*k.toNat<=1000)/\Q (.tup (Kv k.toNat ws).flatten) h
 | _,_=>False
def Jp {K H μ}{ws xs}(r:aP K H μ ws xs):∀k,aP K H μ (Kv k ws).flatten (Kv k xs).flatten
 | 0=>J4
 | k+1=>aP.append r (Jp r k)
def aeu:Oz X (Ow .Mult) adq:={_,RP.or aae,by
  intro H μ h x y b G o Q R O Y m k;cases b with
  | int i=>cases G with
    | int j=>
      show .inl {_,_,O,Y,m.1,k _ _<|.int R m.2}
    | _=>show(m).elim
  | tup ws=>cases G with
    | int n=>
      obtain⟨⟨f,h1,h2⟩,m⟩:=m;have J:=O;obtain⟨p,xs,ex,d,a⟩:=O;have hl:=a.len;have l:(1000:Nat)<=El:=∅
      show .inr {p,xs,n,ex,Y,d,f,⋯,by rw[<-hl];lia,λe=>?_,λe q U=>?_}
      . have g:(Kv n.toNat ws).flatten=ws:=by
          rcases e with e|e
          . have:ws=[]:=vA ⋯
            subst this;have:∀k:Nat,(Kv k ([]:List W)).flatten=[]:=λk=>by induction k with
              | zero=>rfl
              | succ k c=>rw[List.replicate_succ,List.flatten_cons,c];rfl
            show this _
          . subst e
            simp
        rw[g]at m;rw[<-ex];show k _ _ {μ,.tup ws,h,.refl,R,J,m}
      . show k _ _ {μ,.tup (Kv _ ws).flatten,h,(Ex.laid U).ext,R.laid U,.tupNew U (Jp a _),m}
    | _=>show m.elim
  | _=>show(show False from by cases G<;>show m).elim}
abbrev Pq (i j:Int):Prop:=gP i j\/Sm 64 i\/Sm 64 j
def Pq.ok {i j}(h:Pq i j):IntMulOk i j:=by
 rcases h with h|h|h
 show h.ok;show .of_left h.bits;show .of_right h.bits
def abj:Mg X (Ow .Mult) (rI Pq λi j=>.int (i*j)):=opI λ_ _ _ _ _ _ _ G q=>mul_int q G.ok
abbrev PK:M2:=λx y h Q=>match x,y with
 | .int i,.int j=>Pq i j/\Q (.int (i*j)) h
 | _,_=>False
def Ws:Oz X (Ow .Mult) PK:={_,abj,by
 intro H μ h x y U O Y Q R J G m k;unfold PK at m;split at m
 show{_,_,J,G,m.1,k _ _<|.int R m.2};cases m}
end
abbrev Cz (Z:Aj->Prop)(vs:Array Aj):Prop:=∃z,vs[2]?=AP z/\Z z
variable {Z:Aj->Prop}
def Cz.size {Z}{vs}(c:Cz Z vs):2<vs.size:=let⟨_,e,_⟩:=c;(Array.getElem?_eq_some_iff.mp e).1
variable {Z':Aj->Prop}
def Cz.mono {vs}(c:Cz Z vs)(k:∀z,Z z->Z' z):Cz Z' vs:=let⟨z,e,h⟩:=c;{z,e,k z h}
abbrev XO (h:Heap)(P:Addr->Prop)(Z:Aj->Prop)(e C:Addr)(od:Option Addr):Prop:=P e/\∃(oe:Obj) (vs:Array Aj),h.get? e=AP oe/\oe.cls=.ref C/\oe.dict=od/\oe.data=.fields vs/\vs.size<=1000/\Cz Z vs /\
 (vs[1]?=AP .none\/∃(T:Addr) (G:Obj) (ts:Array Aj),vs[1]?=AP (.ref T)/\T≠e/\P T/\h.get? T=AP G/\G.data=.fields ts/\3<ts.size)
abbrev XN (h:Heap)(P:Addr->Prop)(Z:Aj->Prop)(e C:Addr)(od:Option Addr):Prop:=P e/\∃(oe:Obj) (vs:Array Aj),h.get? e=AP oe/\oe.cls=.ref C/\oe.dict=od/\oe.data=.fields vs/\vs.size<=1000/\Cz Z vs /\
 ∃(T:Addr) (G:Obj) (ts:Array Aj),vs[1]?=AP (.ref T)/\T≠e/\P T/\h.get? T=AP G/\G.data=.fields ts/\3<ts.size
def XN.xo {h}{P e C}{od}(x:XN h P Z e C od):XO h P Z e C od:=by
 obtain⟨p,oe,G,a,b,c,d,f,g,k⟩:=x;show{p,oe,G,a,b,c,d,f,g,.inr k}
def XO.mono {h}{P G Z Z' e C}{od}(x:XO h P Z e C od)(k:∀b,P b->G b)(l:∀z,Z z->Z' z):XO h G Z' e C od:=by
 obtain⟨p,oe,i,a,b,c,d,f,g,z⟩:=x;show{k _ p,oe,i,a,b,c,d,f,g.mono l,?_};rcases z with z|⟨T,j,ts,Y,U,O,J⟩
 show .inl z;show .inr {T,j,ts,Y,U,k _ O,J}
def XN.mono {h}{P G Z Z' e C}{od}(x:XN h P Z e C od)(k:∀b,P b->G b)(l:∀z,Z z->Z' z):XN h G Z' e C od:=by
 obtain⟨p,oe,i,a,b,c,d,f,g,T,j,ts,Y,U,O,J⟩:=x;show{k _ p,oe,i,a,b,c,d,f,g.mono l,T,j,ts,Y,U,k _ O,J}
structure Uu (P:Addr->Prop) (fs:List Addr) (h h':Heap):Prop where
 keep:∀b o,¬P b->b∉fs->h.get? b=AP o->h'.get? b=AP o
 slot:∀b o,¬P b->h.get? b=AP o->∃sl,h'.get? b=AP {o with slots:=sl}
 there:∀b o,h.get? b=AP o->∃o',h'.get? b=AP o'
def Uu.refl {P fs h}:Uu P fs h h:={λ_ _ _ _ e=>e,λ_ o _ e=>⟨o.slots,e⟩,λ_ o e=>⟨o,e⟩}
def Uu.trans {P fs h h1 h2}(a:Uu P fs h h1)(b:Uu P fs h1 h2):Uu P fs h h2:=
 {λc o n m e=>b.keep c o n m (a.keep c o n m e),λc o n e=>let⟨_,e1⟩:=a.slot c o n e;let⟨sl,e2⟩:=b.slot c _ n e1;⟨sl,e2⟩,λc o e=>let⟨G,e1⟩:=a.there c o e;b.there c G e1}
section
variable {M:Model}{A:Ej}{E:Aj->Bc->Prop}{s:Bc}{P:Addr->Prop}{e C:Addr}{od:Option Addr}
def ajJ {fl fs}{Q}(x:XN s.heap P Z e C od)(h:∀h',XN h' P Z e C od->Uu P fs s.heap h'->Q () {s with heap:=h'}):CR M A (setFlight (.ref e) fl) Q E s:=by
 obtain⟨p,oe,k,d,m,U,g,l,h2,T,r,ts,h1,J,Y,hT,G,j⟩:=x;show BL<|Mv d g h1<|Vy hT G j<|h _ ?_ ?_
 have O:=U8 G (·.setIfInBounds 3 (fl.elim Value.none λf=>O7 f));show{p,oe,k,?_,m,U,g,l,h2,T,_,_,h1,J,Y,R7 _ hT<|Vh O,O,by simpa using j};rw[Ql _ _ J];show d;have a:∀b,¬P b->T≠b:=λb n q=>n (q ▸ Y)
 show{λb o n _ q=>by rwa[Ql _ _<|a b n],λb o n q=>{o.slots,by rwa[Ql _ _<|a b n]},λb o q=>?_};by_cases i:T=b
 subst i;show{_,R7 _ hT<|Vh<|U8 G _};show{o,by rwa[Ql _ _ i]}
def Gv {base env}{outer L oe}{vs d}{Y}{Q}
  (t:A.frames=AP (env::outer)) (hl:s.heap.FunFrames base (env::outer)) (I:env.frame=AP L) (v:P e) (y:s.heap.get? e=AP oe) (K:oe.cls=.ref C) (u:oe.dict=od) (i:oe.data=.fields vs) (hz:vs.size<=1000) (h2:Cz Z vs)
  (H:∀b,s.heap.get? b=Af->P b) (h:∀h',XN h' P Z e C od->Uu P (frs (env::outer)) s.heap h'->Q () {s with heap:=h'}) :
  CR M A (do let a <-frameOf env;let pl <-entryPlaceOf L Y;let b <-EntryCells.newEntry d a .none (O7 L) .none pl;setField (.ref e) 1 b) Q E s:=by
 have f:1<vs.size:=Nat.lt_trans ∅ h2.size;have g:e∉(env::outer).filterMap (·.frame):=λhm=>by
  obtain⟨_,o,k,r⟩:=hl.mem hm;rw[y]at k;injection k with k;subst k;show r vs i
 show BL<|wpAny_frameOf_fun t hl I λh₁ G=>(BL<|wpAny_entryPlaceOf λpl p=>(BL<|SX ?_<|p.sizeOk5 _ _ _ _ _))
 have O:=(G.2.1 e g).trans y;have J:=FW (h:=h₁) {cls:=.type "traceback",dict:=Af,data:=.fields ([d,.ref L,.none,O7 L,.none]++(if pl.isEmpty then Kv 6 Value.none else pl)).toArray} O;show Vy J i f<|h _ ?_ ?_
 have j:=PN (FP O);have U:=U8 i (·.setIfInBounds 1 (Value.ref h₁.objs.size));show{v,_,_,R7 _ J (Vh U),by rwa[Zj],?_,U,by simpa using hz,(let⟨z,e2,l⟩:=h2;{z,by rw[Array.getElem?_setIfInBounds_ne ∅];show e2,l}),h₁.objs.size,_,_,by simp[f],j,
  H _ (ZR (G.1 ▸ Em _)),(Ql _ _ (Ke j)).trans (Kf h₁ rfl),rfl,by simp<;>lia}
 obtain⟨c,dd,dt,sl⟩:=oe;cases i;show u;have w:∀b,¬P b->e≠b:=λb n q=>n (q ▸ v)
 show{λb o n m q=>?_,λb o n q=>?_,λb o q=>?_};rw[Ql _ _ (w b n)];show FW _<|(G.2.1 b m).trans q
 obtain⟨sl,e1⟩:=G.2.2 b o q;show{sl,by rw[Ql _ _<|w b n];show FW _ e1};obtain⟨sl,e1⟩:=G.2.2 b o q;by_cases B:e=b
 subst B;show{_,R7 _ J<|Vh<|U8 i _};show{_,Ql _ _ B ▸ FW _ e1}
def amo {base env}{outer L}{Q}(a:A.frames=AP (env::outer))(hl:s.heap.FunFrames base (env::outer))(j:env.frame=AP L)(x:XO s.heap P Z e C od)
  (l:∀b,s.heap.get? b=Af->P b) (B:∀b∈frs (env::outer),¬P b) (h:∀h',XN h' P Z e C od->Uu P (frs (env::outer)) s.heap h'->Q () {s with heap:=h'}):CR M A (noteFrame (.ref e) env) Q E s:=by
 obtain⟨p,oe,w,c,k,U,d,g,h2,z⟩:=x;unfold noteFrame;simp only[j];rcases z with h1|⟨T,y,ts,h1,Y,f,hT,O,t⟩
 show BL<|Mv c d h1 ?_
 show Gv a hl j p c k U d g h2 l h;show BL<|Mv c d h1 ?_
 show BL<|Mv hT O (x:=ts[3]) (by simp) ?_
 by_cases q:(ts[3]==O7 L)=true
 rw[if_pos q];show DK<|h _ ⟨p,oe,w,c,k,U,d,g,h2,T,y,ts,h1,Y,f,hT,O,t⟩ .refl
 rw[if_neg q];show BL<|Vy hT O t ?_
 have G:∀b,b≠T->(s.heap.update T (Obj.mapFields (·.setIfInBounds 3 Value.none))).get? b=s.heap.get? b:=λb J=>Ql _ _ (Ke J)
 have m:∀b,¬P b->b≠T:=λb n q=>n (q ▸ f)
 have st:Uu P (frs (env::outer)) s.heap (s.heap.update T (Obj.mapFields (·.setIfInBounds 3 Value.none))):=by
  show{λb o n _ q=>(G b<|m b n).trans q,λb o n q=>{o.slots,(G b<|m b n).trans q},λb o q=>?_};by_cases J:T=b
  subst J;show{_,R7 _ hT<|Vh<|U8 O _};show{o,(G b<|Ke J).trans q}
 show Gv a (hl.of_keeps λb o J i=>{o,(G b λq=>?_).trans J,rfl}) j p ((G e<|Ke Y).trans c) k U d g h2 (λb q=>?_) λh' v u=>h h' v<|st.trans u
 rw[q,hT]at J;injection J with J;subst J;show i ts O
 by_cases J:b=T
 rw[J];show f;show l b<|(G b J).symm.trans q
end
variable {L:Addr}{fl:Option Addr}
def fG.obj {P w H}{h a o}(x:fG P w H h a o):∃ob,h.get? a=AP ob:=by
 cases o with
 | lst xs=>obtain⟨_,_,_,_,e⟩:=x;show{_,e}
 | tup xs=>obtain⟨_,_,_,ob,e,_⟩:=x;show{_,e}
 | dK kvs|dT kvs=>obtain⟨_,_,_,_,o,_,_,e,_⟩:=x;show{_,e}
 | set S n=>obtain⟨o,_,_,_,e,_⟩:=x;show{_,e}
 | ins C dx fs=>obtain⟨_,_,_,e,_⟩:=x;show{_,e}
 | own y=>obtain⟨_,e⟩:=x;show{_,e}
 | xd fs=>obtain⟨_,⟨_,_,_,e,_⟩,_⟩:=x;show{_,e}
 | rng lo hi=>obtain⟨_,_,_,e⟩:=x;show{_,e}
 | frz ob u=>obtain⟨e,_⟩:=x;show{_,e}
 | tbl ps|met f y=>show{_,x}
 | ext G=>obtain⟨_,⟨_,e⟩,_⟩:=x;show{_,e}
section
variable {X:Cx}{apn:List (Addr×Obj)}{σ:St}{H H':Hp}{s s':Bc}{b e C:Addr}{od:Option Addr}
structure New (X:Cx) (apn:List (Addr×Obj)) (H:Hp) (b:Addr):Prop where
 h:H b=Af
 s:b∈X.ex\/X.s₀.heap.get? b=Af
 l:b≠X.env.locals
 c:∀x c,X.env.cells.lookup x=AP c->c≠b
 p:∀p∈X.pn++apn,p.1≠b
 f:b∉X.fs
def Bk.newOf (I:Bk X apn σ H s)(J:s.heap.get? b=Af):New X apn H b where
 h:=by
  cases q:H b with
  | none=>rfl
  | some u=>obtain⟨Y,e⟩:=(I.hok b u q).obj;rw[J]at e;cases e
 s:=by
  by_cases O:b∈X.ex
  show .inl O
  ·cases q:X.s₀.heap.get? b with
   | none=>show .inr rfl
   | some o=>obtain⟨o',e⟩:=I.base.there b o q O;rw[J]at e;cases e
 l:=λz=>by obtain⟨m,⟨o,_,_,G,_⟩,_⟩:=I.loc;rw[<-z,J]at G;cases G
 c:=λx c e z=>by obtain⟨v,o,G,_⟩:=I.cell x c e;rw[z,J]at G;cases G
 p:=λp U z=>by have G:=(I.pin p U).1;rw[z,J]at G;cases G
 f:=λhm=>by obtain⟨_,o,G,_⟩:=I.funs.mem hm;rw[J]at G;cases G
open Classical in
def Bk.stp {h'}(I:Bk X apn σ H s)(st:Uu (New X apn H) (frs X.stack) s.heap h'):Bk X apn σ H {s with heap:=h'}:=by
 have G:∀b o,s.heap.get? b=AP o->b∉(Rb _).filter (λb=>decide _)->¬New X apn H b:=λb o e n z=>
  n (Wb.mpr {Wa.mpr (FP e),decide_eq_true z})
 show I.stepG (λb f=>?_) (λb o g d J e n=>?_) (λb o _ _ J e _=>st.slot b o (G b o e J) e) (λ_ _ _ _ n=>n)
  (λb o _ e=>st.there b o e) (λ_ _ q=>q) (λ_ _ _ q=>q) (λ_ ps q=>{#[],by rw[q];simp}) (λm a=>?_) (λb u q=>?_) I.bare
 have z:=of_decide_eq_true (Wb.mp f).2;show⟨z.s,z.l,z.c,z.p⟩;show st.keep b o (G b o e J) (λz=>(M5.mp<|I.stkSub b z).elim g d) e;obtain⟨o,es,ep,Y,r⟩:=a;obtain⟨sl,q⟩:=st.slot _ o (λz=>z.l rfl) Y;show{_,es,ep,q,r};show(I.hok b u q).stay (λc v J r=>?_) (λ_ q=>q) λ_ _ q=>q;have U:H c≠Af:=by
  lia
 show st.keep c v (λz=>U z.h) (λz=>U<|I.stkFree c z) r
inductive QG (N:Addr->Prop) (H:Hp):Aj->Prop
 | nil:QG N H .none
 | cons {c:Addr}{o:Obj}{u:HO}{vs:Array Aj}{z:Aj}(n:N c) (h1:H c=AP (.frz o u)) (h2:o.data=.fields vs) (h3:vs[2]?=AP z) (t:QG N H z):QG N H (.ref c)
def QG.mono {N G H H' z}(c:QG N H z)(k:∀a,N a->G a)(J:∀a o u,H a=AP (.frz o u)->H' a=AP (.frz o u)):QG G H' z:=by
 induction c with
 | nil=>show .nil
 | cons n h1 h2 U _ O=>show .cons (k _ n) (J _ _ _ h1) h2 U O
inductive Rc (H:Hp):Aj->Addr->Prop
 | here {c:Addr}{o:Obj}{u:HO}(h1:H c=AP (.frz o u)):Rc H (.ref c) c
 | next {c b:Addr}{o:Obj}{u:HO}{vs:Array Aj}{z:Aj}(h1:H c=AP (.frz o u)) (h2:o.data=.fields vs) (h3:vs[2]?=AP z) (t:Rc H z b):Rc H (.ref c) b
def Rc.frz {H v}{b}(r:Rc H v b):∃o u,H b=AP (.frz o u):=by
 induction r with
 | here h1=>show{_,_,h1}
 | next _ _ _ _ G=>show G
def T9.rc {H v}(c:T9 H0 v)(k:∀a o u,H0 a=AP (.frz o u)->H a=AP (.frz o u)):∀{b},Rc H v b->Rc H0 v b:=by
 induction c with
 | nil=>intro b r;cases r
 | cons h1 h2 G _ Y=>
  intro b r;cases r with
  | here _=>show .here h1
  | next U O J t=>
   rw[(k _ _ _ h1)]at U;cases U;rw[h2]at O;cases O;rw[G]at J;cases J;show .next h1 h2 G<|Y t
def T9.chx {N H v}(c:T9 H v)(k:∀b,Rc H v b->N b):QG N H v:=by
 induction c with
 | nil=>show .nil
 | cons h1 h2 G _ J=>show .cons (k _ (.here h1)) h1 h2 G (J λb r=>k b (.next h1 h2 G r))
def QG.rc {N H v}(c:QG N H v):∀{b},Rc H v b->N b:=by
 induction c with
 | nil=>intro b r;cases r
 | cons n h1 h2 J _ G=>
  intro b r;cases r with
  | here _=>show n
  | next Y U O t=>
   simp_all
abbrev RcO (H:Hp)(G:Option Aj)(b:Addr):Prop:=∃v,G=AP v/\Rc H v b
abbrev VF (X:Cx)(c:Addr):Prop:=(c∈X.ex\/X.s₀.heap.get? c=Af)\/RcO X.H₀ X.A.handled c
structure FX (X:Cx) (apn:List (Addr×Obj)) (σ:St) (H:Hp) (s:Bc) (e C:Addr) (od:Option Addr):Prop where
 inv:Bk X apn σ H s
 xo:XO s.heap (New X apn H) (QG (VF X) H) e C od
structure FN (X:Cx) (apn:List (Addr×Obj)) (σ:St) (H:Hp) (s:Bc) (e C:Addr) (od:Option Addr):Prop where
 inv:Bk X apn σ H s
 xn:XN s.heap (New X apn H) (QG (VF X) H) e C od
def FN.fx (F:FN X apn σ H s e C od):FX X apn σ H s e C od:=⟨F.inv,F.xn.xo⟩
abbrev Top (X:Cx):Prop:=X.stack=X.env::X.outer/\X.env.frame=AP X.env.locals
def FX.note {M A}{E}{Q}(F:FX X apn σ H s e C od)(ht:Top X)(U:A.frames=AP X.stack)(h:∀h',FN X apn σ H {s with heap:=h'} e C od->Q () {s with heap:=h'}):
  CR M A (noteFrame (.ref e) X.env) Q E s:=by
 have G:=F.inv.stack;rw[ht.1]at G U;show amo U G ht.2 F.xo (λb O=>F.inv.newOf O) (λb O z=>?_) λh' x st=>h h' {F.inv.stp<|ht.1 ▸ st,x};rcases M5.mp (F.inv.stkSub b (ht.1 ▸ O))with q|q
 show z.l q;show z.f q
def FN.flight {M A}{E}{Q}(F:FN X apn σ H s e C od)(h:∀h',FN X apn σ H {s with heap:=h'} e C od->Q () {s with heap:=h'}):
  CR M A (setFlight (.ref e) fl) Q E s:=ajJ F.xn λh' x st=>h h' {F.inv.stp st,x}
abbrev Vu (P:Dm)(w:DX):Vv:=λhd outer H s E e s'=>∃(a C:Addr) (od:Option Addr) (H':Hp),e=.ref a/\s'.os=s.os/\VP s'.gens/\Un (frs outer) [] H H' s.heap s'.heap/\MJ P w H' s'.heap /\
 XN s'.heap (λb=>H' b=Af/\s.heap.get? b=Af) (QG (λb=>s.heap.get? b=Af\/RcO H hd b) H') a C od/\E (.ref C) od H'
def FX.leave {M}{a E}(F:FX X apn σ H s e C od)(ht:Top X)(O:X.ex=[])(U:E (.ref C) od H):
  CR M X.A (leaving X.env (.ref e)) (λ_ J=>Vu X.prog X.w X.A.handled X.outer X.H₀ X.s₀ E (.ref e) J) a s:=by
 show BL<|F.note ht F.inv.ok.frames λh1 Y=>Y.flight λh2 G=>?_
 have I:=G.inv;show{e,C,od,H,rfl,I.os,I.bare,by have:=I.base;rw[O]at this;show this,I.hok,G.xn.mono (λb z=>{z.h,?_})<|λz c=>c.mono (λb q=>?_) λ_ _ _ q=>q,U};rcases z.s with q|q
 simp_all
 show q;rcases q with(q|q)|q
 simp_all
 show .inl q;show .inr q
def Bk.cxx {E}{O}(I:Bk X apn σ H s)(h:Vu X.prog X.w X.A.handled X.stack H s E O s'):∃(a C:Addr) (od:Option Addr) (H':Hp),O=.ref a/\FN X apn σ H' s' a C od/\E (.ref C) od H':=by
 obtain⟨a,C,od,H',e1,os,G,U,J,x,Y⟩:=h;show{a,C,od,H',e1,{I.call' os U J G nofun,x.mono (λb z=>?_) λz c=>c.mono (λb q=>q.elim (λq=>.inl (I.newOf q).s) λd=>by obtain⟨v,e,r⟩:=d;show .inr {v,e,(I.ok.qt v e).2.rc I.base.frzs r}) λ_ _ _ q=>q},Y};have n:=I.newOf z.2;show⟨z.1,n.s,n.l,n.c,n.p,n.f⟩
end
variable {N:Addr->Prop}{bm:List Aj}{newId:String}
abbrev exG (K:CQ)(C:Addr)(bmB:List Aj)(newId:String)(f:Addr->Bool):Bool:=match K.lookup C with
 | some ⟨.type "type",_,.cls cd,sl⟩=>(match cd.mro,sl.toList with
  | .ref C'::bm,[_,_,_,_,AP (.builtin n),_]=>C'==C&&n==newId&&!cd.hasDel&&PySem.W.tailIn K bmB bm&&PySem.W.nsOkIn K cd.ns&&f cd.ns
  | _,_=>false)
 | _=>false
def exo_ {K}{h C}{f}(X:K.In h)(q:exG K C bm newId f=true):
  ∃(tl:List Aj) (N:Addr) (nm U:Str) (bs:List Aj) (a:Bool) (sn:List Str) (sub:List Aj) (ab:Bool) (col:Option Bool) (dd:Option Addr) (k0 k1 k2 k3 k5:Option Aj),
   K.lookup C=AP (Yy nm U C N bs tl a sn sub ab col dd k0 k1 k2 k3 k5 newId)/\PySem.W.nsOkIn K N=true/\f N=true/\OwnTail h bm tl:=by
 unfold exG at q;split at q
 rename_i dd i sl e;split at q
 rename_i j b k0 k1 k2 k3 n k5 c hs;simp at q;obtain⟨⟨⟨⟨⟨rfl,rfl⟩,G⟩,ht⟩,J⟩,O⟩:=q;obtain⟨nm,bs,d,ns,U,a,sn,sub,ab,col,g⟩:=i;dsimp only at c G J O;subst c G;have Y:sl=#[k0,k1,k2,k3,AP (.builtin n),k5]:=by
  grind
 subst Y;show{b,ns,nm,U,bs,a,sn,sub,ab,col,dd,k0,k1,k2,k3,k5,e,J,O,PySem.W.tail_of_in X ht};cases q;cases q
def aaB {K}{h C}(X:K.In h)(q:Ra K C bm newId=true):
  ∃(tl:List Aj) (N:Addr) (nm G:Str) (bs:List Aj) (J:Bool) (sn:List Str) (sub:List Aj) (ab:Bool) (col:Option Bool) (dd:Option Addr) (k0 k1 k2 k3 k5:Option Aj) (mN:Str->Option Aj),
   K.lookup C=AP (Yy nm G C N bs tl J sn sub ab col dd k0 k1 k2 k3 k5 newId)/\h.Ns N mN/\mN "__init__" = Af/\OwnTail h bm tl:=by
 obtain⟨tl,N,nm,G,bs,J,sn,sub,ab,col,dd,k0,k1,k2,k3,k5,O,a1,a2,a3⟩:=exo_ (f:=λz=>La K z "__init__"==AP Af) X q;show{tl,N,nm,G,bs,J,sn,sub,ab,col,dd,k0,k1,k2,k3,k5,_,O,.of_isNs<|PySem.W.isNs_of_in X a1,PySem.W.nsMap_none_of_in X a1<|eq_of_beq a2,a3}
section
variable {X:Cx}{apn:List (Addr×Obj)}{σ:St}{H:Hp}{s:Bc}{C:Addr}{x:Str}{np apq pos:Pos}{e:Expr}{es:List Expr}{t:TA}
def zaD {Q}{R:Hp->Prop}(hc:X.calm=true)(hg:Gl X x)(hm:X.mg x=AP (.ref C))(hq:Ra X.K C Nx "ValueError.__new__" = true)(ha:PA X (e::es) t)
  (I:Bk X apn σ H s) (h:t σ H λvs H1=>vs.length<=El/\R H1) (hx:∀a H1 s',FX X apn σ H1 s' a C Af->R H1->X.xe (.ref a) s')
  (hdb:(x==("__debug__" : Str))=false:=by decide) (he:Dc (e::es) X.env=(false,eval e X.env)::Dc es X.env:=by rfl) (hpl:(Ku apq (Dc es X.env)).any (·.1)=false:=by rfl) :
  CR (Cq X.prog X.w) X.A (exec (.Raise (AP (.Call (.Name x np) (e::es) [] apq)) Af pos) X.env) Q X.xe s:=by
 obtain⟨tl,N,nm,qn,bs,hd,sn,sub,ab,col,dd,k0,k1,k2,k3,k5,mN,hC,hN,hni,T⟩:=aaB I.mod.kin hq;show wpAny_Raise_call_subT (nm:=nm) (q:=qn) (N:=N) (bs:=bs) (hdct:=hd) (sn:=sn) (sub:=sub) (ab:=ab) (col:=col) (dd:=dd) (k0:=k0) (k1:=k1) (k2:=k2) (k3:=k3) (k5:=k5)
  zN (T.hasType zN.hasBase) (I.ok.hd hc) (by rw[he];change(false||(Ku apq _).any _)=false;rw[hpl];rfl) hni (nC I hg hm {rfl,?_} hdb)
 have g:=ha apq apn s σ H _ I h;rw[he]at g|-
 show rR<|Eu g λus s2 ⟨vs,H2,I2,r,z,k⟩=>{rfl,?_,I2.kIn _ _ hC,hN.keeps I2.bk,T.keeps I2.bk,λh' a M=>hx a H2 _ {I2.kept M.keeps,?_} k}
 rw[<-r.length];show z;obtain⟨tt,h1,h2,h3⟩:=M.there;show{I2.newOf M.new,_,_,h1,rfl,rfl,rfl,by simp,{.none,rfl,.nil},.inl rfl}
end
variable {np:Pos}
abbrev abA (K:CQ)(H:Hp)(μ:Mu)(C:Addr)(n:Str)(od:Option Addr)(fs:List (Str×W)):Prop:=
 (od=Af/\fs=[])\/∃dd ws xs,od=AP dd/\aau K C n=true/\fs=(Gq n).zip ws/\ws.length=(Gq n).length/\(Gq n).length=xs.length/\H dd=AP (.xd ((Gq n).zip xs))/\aP K H μ ws xs
abbrev XT (X:Cx)(H:Hp)(μ:Mu)(Γ:St->Prop)(E:Ci):Aj->Bc->Prop:=λev s=>∃(a C:Addr) (n:Str) (od:Option Addr) (fs:List (Str×W)) (apn:List (Addr×Obj)) (σ:St) (H':Hp) (μ':Mu) (h':Gh),ev=.ref a/\FX X apn σ H' s a C od/\nH X.K C n=true/\Γ σ /\
 K5 X.K H μ H' μ'/\Dz X.K μ' H' h'/\abA X.K H' μ' C n od fs/\E ⟨n,fs⟩ h'
variable {Γ:St->Prop}
def XT.trans {X}{H H1 μ μ1}{Γ E}{G s}(x:XT X H1 μ1 Γ E G s)(e:K5 X.K H μ H1 μ1):XT X H μ Γ E G s:=by
 obtain⟨a,C,n,od,fs,apn,σ,H',μ',h',h1,h2,Y,U,O,J⟩:=x;show{a,C,n,od,fs,apn,σ,H',μ',h',h1,h2,Y,U,e.trans O,J}
abbrev tDX (X:Cx)(Γ:St->Prop)(m:Ci->ME):TE:=fun σ H Q=>Γ σ/\∃μ h σw J E,Dz X.K μ H h/\Slots X.K H μ σw σ/\m E σw h J/\(∀v H',DQ X.K H μ J v H'->Q v H')/\∀G s',XT X H μ Γ E G s'->X.xe G s'
abbrev ahX (X:Cx)(Γ:St->Prop)(m:Ci->MS):TS:=λD σ H=>Γ σ/\∃μ h σw Dw E,Dz X.K μ H h/\Slots X.K H μ σw σ/\m E Dw σw h/\BP X.K H μ Dw D/\∀G s',XT X H μ Γ E G s'->X.xe G s'
@[reducible]noncomputable def DEx (X:Cx)(Γ:St->Prop)(e:Expr)(m:Ci->ME):Prop:=PE X e (tDX X Γ m)
@[reducible]noncomputable def Vt (X:Cx)(Γ:St->Prop)(st:Stmt)(m:Ci->MS):Prop:=PS X st (ahX X Γ m)
@[reducible]noncomputable def LQ (X:Cx)(Γ:St->Prop)(st:List Stmt)(m:Ci->MS):Prop:=Qn X st (ahX X Γ m)
abbrev Bd (K:CQ)(ms:Aw):Sp:=λvs H Q E=>∃μ h ws G J,Dz K μ H h/\aP K H μ ws vs/\ms ws h G J/\(∀v H',DQ K H μ G v H'->Q v H') /\
 ∀(C:Addr) (n:Str) (od:Option Addr) (fs:List (Str×W)) (H':Hp),nH K C n=true->(∃μ' h',K5 K H μ H' μ'/\Dz K μ' H' h'/\abA K H' μ' C n od fs/\J ⟨n,fs⟩ h')->E (.ref C) od H'
def lE.tame {P w K}{mg base k}{f fd}{ps}(F:lE P w K mg base (Vu P w) k f fd ps (Bd K ms)):lE P w K mg base PJ k f fd ps (lift K ms):=by
 have J:∀vs H Q E,lift K ms vs H Q E->Bd K ms vs H Q E0:=λvs H Q E a=>by obtain⟨μ,h,ws,d,R,r,m,q⟩:=a;show {μ,h,ws,d,EF,R,r,m,q,λ_ _ _ _ _ _ b=>by obtain⟨_,_,_,_,_,z⟩:=b;show z}
 show{λvs H Q E q=>F.len vs H Q E0<|J _ _ _ _ q,λA outer s H G us vs Q E U c Y O hs=>Wc (F.run A outer s H G us vs Q E0 U c Y O<|J _ _ _ _ hs) λr s' h=>?_};cases r with
 | error e=>obtain⟨_,_,_,_,_,_,_,_,_,_,z⟩:=h;show z
 | ok fl=>cases fl<;>show h
section
variable {X:Cx}{e c:Expr}{es:List Expr}{pos:Pos}{st:Stmt}{rest:List Stmt}
def Ey {k}{f fd}{ps x p}(F:lE X.prog X.w X.K X.mg X.base (Vu X.prog X.w) k f fd ps (Bd X.K ms))(hr:iJ k X.A)(hg:Gl X x)(hm:X.mg x=AP (.ref f))(hk:Us X.K (.ref f)=true)
  (hb:Binds X.K fd ps []) (ha:Mp X (e::es) mr) (hdb:(x==("__debug__" : Str))=false:=by decide) (he:Dc (e::es) X.env=(false,eval e X.env)::Dc es X.env:=by rfl) (hpl:(Ku pos (Dc es X.env)).any (·.1)=false:=by rfl) :
  DEx X Γ (.Call (.Name x p) (e::es) [] pos) (λE=>aF ms E mr):=by
 rintro apn s σ H Q I ⟨hσ,μ,h,σw,Qw,E,R,S,m,q,kx⟩;show Vm<|nC I hg hm ?_ hdb
 show PySem.W.callWith_K I.ok.mod.kin hk (Eu (ha pos apn s σ H _ I {μ,h,σw,_,R,S,m,λ_ _ z=>z}) λus s1 ⟨vs,H1,I1,r,μ1,ws,h1,e1,R1,r1,m1⟩=>{I1.kIn,?_}) he hpl;have sp:Bd X.K ms (vs++[]) H1 Q (λCv od H'=>∃(C:Addr) (n:Str) (fs:List _) (μ':Mu) (h':Gh),Cv=.ref C/\nH X.K C n=true/\K5 X.K H1 μ1 H' μ'/\Dz X.K μ' H' h'/\abA X.K H' μ' C n od fs/\E ⟨n,fs⟩ h'):=by
  rw[Zr];show{μ1,h1,ws,Qw,E,R1,r1,m1,λv H' z=>q _ _<|z.trans e1,λC n od fs H' hx b=>by obtain⟨μ',h',z⟩:=b;show ⟨C,n,fs,μ',h',rfl,hx,z⟩}
 have r2:=r.append .nil;show ZC<|Wc (F.run X.A _ s1 H1 {us,[]} _ _ Q _ hr I1.env0 (hb s1 us I1.kIn<|r2.length ▸ F.len _ _ _ _ sp) r2 sp) λr s' hq=>?_
 cases r with
 | error ev=>
  obtain⟨a,C,od,H',e2,F2,C',n,fs,μ',h',e3,hx,e4,R4,k4⟩:=I1.cxx (E:=λCv od H'=>∃(C:Addr) (n:Str) (fs:List _) (μ':Mu) (h':Gh),Cv=.ref C/\nH X.K C n=true/\K5 X.K H1 μ1 H' μ'/\Dz X.K μ' H' h'/\abA _ H' μ' C n od fs/\E ⟨n,fs⟩ h') hq;cases e3;show kx ev s' {a,C,n,od,fs,apn,σ,H',μ',h',e2,F2.fx,hx,hσ,e1.trans e4,R4,k4}
 | ok fl=>
  cases fl with
  | ret u=>show I1.after hq
  | next=>show Uq hq
  | brk=>show Uq hq
  | cont=>show Uq hq
def dW {m}(h:DS X st m):Vt X Γ st (λ_=>m):=h.of λD σ H a=>by obtain⟨_,μ,h,σw,Dw,_,R,S,m,k,_⟩:=a;show ⟨μ,h,σw,Dw,R,S,m,k⟩
def cV:LQ X Γ [] (λ_=>bN):=bG.of λD σ H a=>by obtain⟨_,μ,h,σw,Dw,_,R,S,m,k,_⟩:=a;show ⟨μ,h,σw,Dw,R,S,m,k⟩
def aZ {m}(h:Vt X Γ st m):LQ X Γ [st] m:=DR h
def aW {m1 m2}(J:∀σ,Γ σ)(h1:Vt X Γ st m1)(h2:LQ X Γ rest m2):LQ X Γ (st::rest) (λE=>aR (m1 E) (m2 E)):=(Gw h1 h2).of λD σ H a=>by
 obtain⟨g,μ,h,σw,Dw,E,R,S,m,k,O⟩:=a;show{g,μ,h,σw,_,E,R,S,m,{?_,k.rt,k.bk,k.ct},O};rintro U H' ⟨μ1,G,h1,e1,b,Y,m1⟩;show{J _,μ1,h1,G,Dw,E,b,Y,m1,k.trans e1,λev s' z=>O ev s'<|z.trans e1}
def gD {ma}(J:DEx X Γ e ma):Vt X Γ (.Return (AP e) pos) (λE=>bK (ma E)):=(WL J).of λD σ H a=>by obtain⟨g,μ,h,σw,Dw,E,R,S,m,k,G⟩:=a;show {g,μ,h,σw,_,E,R,S,m,k.rt,G}
def gR {a b t}{m1 m2}(O:DT X c t)(Y:LQ X Γ a m1)(U:LQ X Γ b m2):Vt X Γ (.If c a b pos) (λE=>fD t (m1 E) (m2 E)):=(ae0 O Y U).of λD σ H e=>by
 obtain⟨g,μ,h,σw,Dw,E,R,S,m,k,G⟩:=e;show{μ,h,σw,_,R,S,m,λb H1 d=>?_};obtain⟨μ1,h1,e1,J,q⟩:=d;cases b with
 | true=>rw[if_pos rfl];show{g,μ1,h1,σw,Dw,E,J,S.ext e1,q.1 rfl,k.trans e1,λev s' z=>G ev s' (z.trans e1)}
 | false=>rw[if_neg T4];show{g,μ1,h1,σw,Dw,E,J,S.ext e1,q.2 rfl,k.trans e1,λev s' z=>G ev s' (z.trans e1)}
def Qh {ma i x}{pos'}(hN:X.N.Nodup)(hi:X.N[i]?=AP x)(hx:Loc X.env.scope x)(he:DEx X Γ e ma)(hs:Y7 e (AP (.Name x pos')) pos.line X.env=pure false:=by rfl)
  (hf:X.fn x=true\/X.env.scope.names.lookup x=AP .local:=by first|exact .inl rfl|exact .inr rfl|assumption):Vt X Γ (.Assign [.Name x pos'] e pos) (λE=>bB (ma E) (Aq i)):=
 (XM hN hi hx he hs hf).of λD σ H ⟨g,μ,h,σw,Dw,E,R,S,m,k,kx⟩=>
  {g,μ,h,σw,_,E,R,S,m,λv H1 a=>by obtain⟨μ1,w,h1,e1,R1,r1,m1⟩:=a;show k.nx _ _ {μ1,σw.set i _,h1,e1,R1,(S.ext e1).set r1 i,m1},kx}
def fu {C}{x v}{j apq p1}(hc:X.calm=true)(hg:Gl X x)(hm:X.mg x=AP (.ref C))(hq:Ra X.K C Nx "ValueError.__new__" = true)(hx:nH X.K C x=true)(hdb:(x==("__debug__" : Str))=false:=by decide):
  Vt X Γ (.Raise (AP (.Call (.Name x np) [.Constant (.str v) j p1] [] apq)) Af pos) (λE=>gC x E):=by
 rintro apn s σ H D I ⟨g,μ,h,σw,Dw,E,R,S,m,k,kx⟩;show zaD (R:=λH1=>∃μ1 h1,K5 _ H μ H1 μ1/\Dz _ μ1 H1 h1/\E {x,[]} h1) hc hg hm hq (fH bI cQ rfl) I {μ,h,σw,λws h1=>ws.length=1/\E {x,[]} h1,R,S,⟨rfl,m⟩,λvs H' c=>by obtain⟨μ1,ws,h1,e1,R1,r1,l1,m1⟩:=c;show {by rw[<-r1.len,l1];decide,μ1,h1,e1,R1,m1}} (λa H1 s' F b=>?_) hdb rfl rfl;obtain⟨μ1,h1,e1,R1,m1⟩:=b;show kx _ s' {a,C,x,Af,[],apn,σ,H1,μ1,h1,rfl,F,hx,g,e1,R1,.inl ⟨rfl,rfl⟩,m1}
end
def afT {P w K}{mg base}{x qual st f fd}{N ps k}{Y}{body}(F:VG K x qual st f fd)(S:iH N ps (aY st))
  (u:∀G A  (outer) (s) (H) (E),iJ k (A.deeper (Ua qual (aY st) s.heap.objs.size f G)) ->
   LQ (LC (Vu P w) P w K mg base N qual (aY st) f G A outer s H E) (λ_=>True) (eV st) body):lE P w K mg base (Vu P w) (k+1) f fd ps (Bd K (Ei ps.length N.length Y body)):=by
 obtain⟨L,od,kV,y,I,T,G,ct,j,rfl,o,d⟩:=F.ex;show abM o d S (λvs H Q E c=>by obtain⟨μ,h,ws,z,g,R,r,m,_,_⟩:=c;rw[<-r.len];show(G9 m).1) λA outer s H D Q E t b=>?_;obtain⟨μ,h,ws,z,g,R,r,l,k,p⟩:=b;obtain⟨hl,m⟩:=G9 l;show{_,u G A outer s H E t,trivial,μ,h,_,_,g,R,sS r,m,{?_,?_,?_,?_},?_};rintro O H' ⟨μ1,J,h1,e1,U,e,m1⟩;show k _ _<|yp R e1 U (by rw[DW]) m1
 rintro v H' ⟨μ1,w1,h1,e1,U,i,m1⟩;show k _ _<|yp R e1 U i m1
 rintro O H' ⟨μ1,J,h1,e1,U,e,m1⟩;show m1.elim;rintro O H' ⟨μ1,J,h1,e1,U,e,m1⟩;show m1.elim;rintro M s' ⟨a,C,n,od,fs,apn,O,H',μ',h',rfl,B,q,_,e1,U,m1⟩;show B.leave ⟨rfl,rfl⟩ rfl<|p C n od fs H' q ⟨μ',h',e1,U,m1⟩
@[reducible]noncomputable def Cx.tr (X:Cx)(apn:List (Addr×Obj))(xe:Aj->Bc->Prop):Cx:={X with pn:=X.pn++apn,xe:=xe}
@[reducible]noncomputable def Cx.hnd (X:Cx)(a:Addr)(H0:Hp):Cx:={X with A:=X.A.mark (AP (.ref a)),H₀:=H0,calm:=false}
abbrev vL (a:Addr)(o:Obj):HO:=.ext λh=>h.get? a=AP o
section
variable {X:Cx}{apn pins':List (Addr×Obj)}{σ:St}{H:Hp}{s:Bc}{xe:Aj->Bc->Prop}{a C:Addr}{o:Obj}{u:HO}
def Cx.Ok.tr (G:X.Ok)(apn)(xe):(X.tr apn xe).Ok:=
 ⟨G.mod,G.kind,G.glob,G.blt,G.above,G.inj,G.has,G.cab,G.hd,G.qt,G.frames,G.stk,G.exf,G.bs,G.bsz,G.noex,G.exfs,G.funs,G.frf⟩
def Cx.Ok.untr (G:(X.tr apn xe).Ok):X.Ok:=
 ⟨G.mod,G.kind,G.glob,G.blt,G.above,G.inj,G.has,G.cab,G.hd,G.qt,G.frames,G.stk,G.exf,G.bs,G.bsz,G.noex,G.exfs,G.funs,G.frf⟩
def Bk.tr (I:Bk X apn σ H s):Bk (X.tr apn xe) [] σ H s:={I.ok.tr apn xe,I.os,I.bare,I.base,I.loc,I.cell,I.free,I.freeC,λp J=>I.pin p (by
 have G:=J;rw[Zr]at G;show G),I.hok,I.len}
def Bk.untr (I:Bk (X.tr apn xe) pins' σ H s):Bk X apn σ H s:={I.ok.untr,I.os,I.bare,I.base,I.loc,I.cell,I.free,I.freeC,λp G=>I.pin p (qZ _ G),I.hok,I.len}
def New.untr {b}(n:New (X.tr apn xe) pins' H b):New X apn H b:={n.h,n.s,n.l,n.c,λp G=>n.p p (qZ _ G),n.f}
def FX.untr {e}{od}(F:FX (X.tr apn xe) pins' σ H s e C od):FX X apn σ H s e C od:={F.inv.untr,F.xo.mono (λ_ n=>n.untr) λ_ z=>z}
def SP.untr {D f s'}(h:SP (X.tr apn xe) [] D f s'):SP X apn D f s':=by
 cases f with
 | next|brk|cont=>obtain⟨G,H',I,q⟩:=h;show⟨G,H',I.untr,q⟩
 | ret v=>obtain⟨v,G,H',I,r,q⟩:=h;show⟨v,G,H',I.untr,r,q⟩
structure Wj (X:Cx) (H0:Hp):Prop where
 s0:∀b ob,X.s₀.heap.get? b=AP ob->H0 b=X.H₀ b
 tups:∀b xs,X.H₀ b=AP (.tup xs)->H0 b=AP (.tup xs)
 frzs:∀b ob v,X.H₀ b=AP (.frz ob v)->H0 b=AP (.frz ob v)
 tbls:∀b ps,X.H₀ b=AP (.tbl ps)->H0 b=AP (.tbl ps)
abbrev acz (X:Cx):Prop:=∀v,X.A.handled=AP v->QG (VF X) X.H₀ v
def acz.ok (G:X.Ok):acz X:=λv e=>(G.qt v e).2.chx λb r=>.inr ⟨v,e,r⟩
def QG.lst {H z}(c:QG N H z):∃l:List Addr,(∀b∈l,N b/\∃o u,H b=AP (.frz o u))/\∀H0,(∀b∈l,H0 b=H b)->QG N H0 z:=by
 induction c with
 | nil=>show{[],λb G=>absurd G (by simp),λ_ _=>.nil}
 | @cons c o u U z n h1 h2 O _ J=>
  obtain⟨l,p,q⟩:=J;show{c::l,λb G=>?_,λH0 k=>.cons n ((k c<|by simp).trans h1) h2 O<|q H0 λb G=>k b<|by simp[G]};rcases M5.mp G with rfl|G
  simp_all
  show p b G
def QG.chn {H z}(c:QG N H z):T9 H z:=by
 induction c with
 | nil=>show .nil
 | cons _ h1 h2 J _ G=>show .cons h1 h2 J G
open Classical in
def Bk.hnd {vs z}(I:Bk X apn σ H s)(n:New X apn H a)(Y:X.ex=[])(g:s.heap.get? a=AP o)(V:o.data=.fields vs)(h2:vs[2]?=AP z)(ch:QG (VF X) H z) :
  ∃H0,Wj X H0/\(∀b,VF (X.hnd a H0) b->VF X b)/\Bk (X.hnd a H0) apn σ (Dn H a (.frz o (vL a o))) s:=by
 obtain⟨D,f,Q⟩:=ch.lst;have A:X.s₀.heap.get? a=Af:=by
  rcases n.s with q|q
  rw[Y]at q;cases q;show q
 let l:List Addr:=D.filter λb=>decide (X.s₀.heap.get? b=Af)
 have E:∀b∈l,X.s₀.heap.get? b=Af:=λb G=>of_decide_eq_true (Wb.mp G).2
 have m:∀b∈l,True/\∃o u,H b=AP (.frz o u):=λb G=>{trivial,(f b (Wb.mp G).1).2}
 have R:∀b∈l,b≠a:=λb G q=>by
  obtain⟨_,_,_,e⟩:=m b G;rw[q,n.h]at e;cases e
 let H0:Hp:=λb=>if b=a then AP (.frz o (vL a o))else if b∈l then H b else X.H₀ b
 have i:H0 a=AP (.frz o (vL a o)):=if_pos rfl;have d:∀b∈l,H0 b=H b:=λb G=>(if_neg (R b G)).trans (if_pos G)
 have U:∀b,b≠a->b∉l->H0 b=X.H₀ b:=λb h1 y=>(if_neg h1).trans (if_neg y)
 have C:∀b J,X.s₀.heap.get? b=AP J->b≠a:=λb J e z=>by rw[z,A]at e;cases e
 have B:∀b J,X.s₀.heap.get? b=AP J->b∉l:=λb J e z=>by rw[E b z]at e;cases e
 have O:∀b J,X.s₀.heap.get? b=AP J->H0 b=X.H₀ b:=λb J e=>U b (C b J e) (B b J e)
 have N:∀b∈X.fs,b≠a:=λb G z=>n.f (by rw[<-z];show G)
 have j:∀b∈X.fs,b∉l:=λb G z=>by
  obtain⟨_,J,g,_⟩:=I.ok.funs.mem G;show B b J g z
 have S:∀b J v,X.H₀ b=AP (.frz J v)->H0 b=AP (.frz J v):=λb J v e=>by
  have e1:=I.base.frzs b J v e;by_cases G:b=a
  rw[G,n.h]at e1;cases e1;by_cases hl:b∈l
  rw[d b hl];show e1;rw[U b G hl];show e
 have kt:∀b xs,X.H₀ b=AP (.tup xs)->H0 b=AP (.tup xs):=λb xs e=>by
  have e1:=I.base.tups b xs e;by_cases G:b=a
  rw[G,n.h]at e1;cases e1;by_cases hl:b∈l
  rw[d b hl];show e1;rw[U b G hl];show e
 have T:∀b ps,X.H₀ b=AP (.tbl ps)->H0 b=AP (.tbl ps):=λb ps e=>by
  obtain⟨_,e1⟩:=I.base.tbls b ps e;by_cases G:b=a
  rw[G,n.h]at e1;cases e1;by_cases hl:b∈l
  obtain⟨_,_,_,e2⟩:=m b hl;rw[e1]at e2;cases e2;rw[U b G hl];show e
 have w:∀b∈D,H0 b=H b:=λb G=>by
  by_cases q:X.s₀.heap.get? b=Af
  show d b<|Wb.mpr {G,decide_eq_true q}
  have P:b≠a:=λz=>q (by rw[z];show A)
  rw[U b P (λz=>q (E b z))];rcases(f b G).1 with(z|z)|⟨v,_,r⟩
  rw[Y]at z;cases z;show absurd z q;obtain⟨o',K,e⟩:=r.frz;rw[e];show(I.base.frzs b o' K e).symm
 have h:QG (VF X) H0 (.ref a):=.cons (.inl n.s) i V h2 (Q H0 w);have M:∀b,VF (X.hnd a H0) b->VF X b:=λb q=>by
  rcases q with q|⟨v,e,r⟩
  show .inl q;cases e;show h.rc r
 have L:(X.hnd a H0).Ok:=by
  have k:=I.ok;show{k.mod,k.kind,k.glob,k.blt,k.above,k.inj,k.has,k.cab,λz=>(nomatch z),λv e=>?_,k.frames,k.stk,k.exf,λb J e=>?_,k.bsz,k.noex,k.exfs,k.funs,λb G=>?_};cases e;show{⟨a,rfl⟩,h.chn};obtain⟨e1,e2⟩:=k.bs b J e;show{e1,(O b J e1).trans e2};show(U b (N b G)<|j b G).trans (k.frf b G)
 show{H0,⟨O,kt,S,T⟩,M,L,I.os,I.bare,{λb J e z t Y=>I.base.keep b J e ((O b J e).symm.trans z) t Y,λb J e z t Y=>I.base.slot b J e ((O b J e).symm.trans z) t Y,λb J e z Y=>?_,I.base.there,λb xs z=>?_,λb J v z=>?_,λb ps z=>?_},I.loc,I.cell,?_,λx c e=>?_,λp F=>?_,λb v z=>?_,I.len};rw[aL (C b J e)];show I.base.free b J e ((O b J e).symm.trans z) Y;have z:H0 b=AP (.tup xs):=z;by_cases G:b=a
 rw[G,i]at z;cases z;rw[aL G];by_cases hl:b∈l
 rw[d b hl]at z;show z;rw[U b G hl]at z;show I.base.tups b xs z;have z:H0 b=AP (.frz J v):=z;by_cases G:b=a
 rw[G,i]at z;rw[G,aV];show z;rw[aL G];by_cases hl:b∈l
 rw[d b hl]at z;show z;rw[U b G hl]at z;show I.base.frzs b J v z;have z:H0 b=AP (.tbl ps):=z;by_cases G:b=a
 rw[G,i]at z;cases z;rw[aL G];by_cases hl:b∈l
 obtain⟨_,_,_,e2⟩:=m b hl;rw[d b hl,e2]at z;cases z;rw[U b G hl]at z;show I.base.tbls b ps z;rw[aL (Ke n.l)];show I.free;rw[aL (n.c x c e)];show I.freeC x c e;obtain⟨h1,y,W⟩:=I.pin p F;show{h1,(aL<|n.p p F).trans y,W};by_cases G:b=a
 subst G;rw[aV]at z;cases z;show{g,g,⟨o,g⟩,λh1 h2 q k=>k o q};rw[aL G]at z;show(I.hok b v z).stay (λ_ _ _ q=>q) (λc q=>by rw[aL (aQ q n.h)];show q) λc xs q=>by rw[aL (aQ q n.h)];show q
def Bk.unhnd (Y:X.Ok)(k:Wj X H0)(I:Bk (X.hnd a H0) pins' σ H s):Bk X pins' σ H s:=by
 have O:∀b G,X.s₀.heap.get? b=AP G->X.H₀ b=Af->(X.hnd a H0).H₀ b=Af:=λb G e z=>(k.s0 b G e).trans z
 show{Y,I.os,I.bare,{λb G e z U J=>I.base.keep b G e (O b G e z) U J,λb G e z U J=>I.base.slot b G e (O b G e z) U J,λb G e z J=>I.base.free b G e (O b G e z) J,I.base.there,λb xs z=>I.base.tups b xs<|k.tups b xs z,λb G v z=>I.base.frzs b G v<|k.frzs b G v z,λb ps z=>I.base.tbls b ps<|k.tbls b ps z},I.loc,I.cell,I.free,I.freeC,I.pin,I.hok,I.len}
abbrev YF (σ:St):St:=σ.map λ_=>Af
def Bk.lost {Y h' t'}(I:Bk X apn σ H s)(h:h'.Ns X.env.locals Y)(d:Qf X.env.locals s.heap h'):Bk X apn (YF σ) H {s with heap:=h',toks:=t'}:=by
 have G:∀b o,X.s₀.heap.get? b=AP o->b≠X.env.locals:=λb o e=>KC (Kz (FP e) I.ok.above)
 have k:∀b o,b≠X.env.locals->s.heap.get? b=AP o->h'.get? b=AP o:=λb o l e=>(d.2 b l).trans e
 show{I.ok,I.os,I.bare,{λb o e z O J=>k b o (G b o e)<|I.base.keep b o e z O J,λb o e z O J=>?_,I.base.free,λb o e J=>?_,I.base.tups,I.base.frzs,I.base.tbls},{Y,h,λi x v _ e2 _=>?_},λx c e=>?_,I.free,I.freeC,λp f=>?_,λb v z=>?_,?_};obtain⟨sl,e1⟩:=I.base.slot b o e z O J;simp_all
 obtain⟨o',e1⟩:=I.base.there b o e J;show{o',k b _ (G b o e) e1}
 ·unfold YF at e2;rw[Kh]at e2;cases q:σ[i]? with
  | none|some w=>rw[q]at e2;cases e2
 obtain⟨v,U,g,j⟩:=I.cell x c e;show{v,U,k c U (I.cne x c e) g,j};obtain⟨h1,h2,t,r⟩:=I.pin p f;simp_all
 have m:∀c w,H c=AP w->c≠X.env.locals:=λc w e q=>by rw[q,I.free]at e;cases e
 show(I.hok b v z).stay (λc w n q=>k c w ?_ q) (λ_ q=>q) λ_ _ q=>q;grind
 unfold YF;rw[Ds];show I.len
end
variable {xe:Aj->Bc->Prop}
section
variable {prog:Dm}{w:DX}{A:Ej}{E:Aj->Bc->Prop}{s:Bc}{K:CQ}{x:Addr}{ox:Obj}
end
abbrev QJ (n d:Str):Bool:=n==d||d == "EaselError"
section
variable {K:CQ}{C:Addr}{n d:Str}
def JX (h:nG K D d=true):La K KH d=AP (AP (.ref D))/\oE K (.ref D)=AP (.type "type")/\∃G,Yh K D=AP G/\G.name=d/\G.mro.contains (.type "BaseException")=true:=by
 unfold nG at h;grind
def aa3 (h:nH K C n=true):nG K C n=true/\(∃J R,Yh K C=AP J/\J.mro=.ref C::.ref R::Nx/\La K KH "EaselError" = AP (AP (.ref R))/\∃cr,Yh K R=AP cr/\cr.name = "EaselError") /\
  UG K (.ref C) "__getattribute__" = AP (AP (.builtin "BaseException.__getattribute__"))/\UG K (.ref C) "__getattr__" = AP Af/\UG K (.ref C) "__class__" = AP (AP (.builtin "object.__class__"))/\PySem.W.specialIn K (.builtin "object.__class__") "__get__" = AP (AP (.builtin "getset_descriptor.__get__"))/\PySem.W.takesIn K (.builtin "object.__class__")=AP true:=by
 unfold nH at h;simp at h;obtain⟨⟨⟨⟨⟨⟨h1,h2⟩,a⟩,G⟩,Y⟩,U⟩,O⟩:=h;show{h1,?_,a,G,Y,U,O};split at h2
 split at h2
 simp at h2;obtain⟨⟨⟨e1,e2⟩,e3⟩,e4⟩:=h2;obtain⟨cr,c,b⟩:=PySem.W.any_some e4;simp_all
 cases h2;cases h2
def Xy (h:nH K C n=true)(b:nG K D d=true):Yj K C (.ref D)=AP (QJ n d):=by
 obtain⟨O,⟨j,R,J,Y,f,cr,c,U⟩,_⟩:=aa3 h;obtain⟨n1,_,e,G,nm,_⟩:=JX O;obtain⟨i,_,dd,a,g,_⟩:=JX b;rw[J]at G;cases G;unfold Yj;rw[J,Option.bind_some,Y];change AP _=AP _;unfold QJ;have e1:(Value.ref C::Value.ref R::Nx).contains (.ref D)=((Value.ref D==Value.ref C)||((Value.ref D==Value.ref R)||false)):=by
  rfl
 rw[e1,Bool.or_false];have a1:(Value.ref D==Value.ref C)=(n==d):=by
  grind
 have a2:(Value.ref D==Value.ref R)=(d == "EaselError"):=by
  grind
 rw[a1,a2]
def uI {M A}{E s}{e oe}{Q}(X:K.In s.heap)(j:s.heap.get? e=AP oe)(O:oe.cls=.ref C)(h:nH K C n=true)(g:nG K D d=true)(U:Q (QJ n d) s):
  CR M A (excMatches (.ref e) (.ref D)) Q E s:=by
 obtain⟨_,ht,dd,G,_,c⟩:=JX g;have t:Zc M s.heap (typeOf (.ref D)) (.type "type"):=PySem.W.looks_typeIn X ht;have r:Zc M s.heap (isSubtype (.ref C) (.ref D)) (QJ n d):=xX X (Xy h g);have p:Zc M s.heap (isSubtype (.ref D) (.type "BaseException")) true:=xX X (by
  unfold Yj;rw[G,Option.bind_some,c,if_neg];intro q;rw[List.isEmpty_iff]at q;rw[q]at c;cases c)
 have b:∃Y d' J,K.lookup D=AP {Y,d',.cls dd,J}:=by
  unfold Yh at G;split at G
  rename_i Y d' l J a;cases G;show⟨Y,d',J,a⟩;cases G
 obtain⟨Y,d',J,a⟩:=b;have o:Zc M s.heap (isType (.ref D)) true:=by
  intro w u v s' k q;show BL<|wpAny_loadPart (k _ _<|X _ _ a)<|DK q
 have m:Zc M s.heap (typeOf (.ref e)) (.ref C):=O ▸ (PySem.W.Looks.ld j).andThen .now;have f:=tc_notTuple;show BL ?_;show BL<|PySem.W.Looks.at t ?_
 rw[f];show DK ?_;show BL<|DK ?_
 dsimp only;rw[List.forIn_cons];show BL<|BL ?_
 show BL<|BL<|PySem.W.Looks.at o ?_
 rw[if_pos rfl];show PySem.W.Looks.at p ?_;rw[if_neg ∅];show DK ?_;dsimp only;rw[List.forIn_nil];show DK ?_;show BL<|PySem.W.Looks.at m ?_
 rw[List.forIn_cons];show BL<|BL<|BL<|PySem.W.Looks.at r ?_
 cases i:QJ n d with
 | true=>
  rw[i]at U;rw[if_pos rfl];show DK<|DK<|DK U
 | false=>
  rw[i]at U;rw[if_neg T4];show DK ?_;dsimp only;rw[List.forIn_nil];show DK<|DK U
end
variable {rest:List ExceptHandler}{suite:List Stmt}{b₀:Stmt}{d:Str}
def zbn {prog w A}{E s}{env K}{e C n y t}{pos}{Q}
  (j:nH K C n=true) (m:nG K D d=true) (hi:QJ n d=true)
  (h:CR (Cq prog w) (A.mark (AP (.ref e))) (eval t env) (λc G=>c=.ref D/\K.In G.heap/\(∃oe,G.heap.get? e=AP oe/\oe.cls=.ref C) /\
   CR (Cq prog w) (A.mark (AP (.ref e))) (setFlight (.ref e) Af) (λ_ O=>
     CR (Cq prog w) (A.mark (AP (.ref e))) (storeName env y (.ref e)) (λ_ J=>
      CR (Cq prog w) (A.mark (AP (.ref e))) (execs (b₀::suite) env)
       (λf Y=>CR (Cq prog w) A (do bindName env y .none;unbindBehindTheSuite env y pos) (λ_ U=>Q f U) E Y) (λ_ _=>False) J) (λ_ _=>False) O) (λ_ _=>False) G) (λ_ _=>False) s) :
  CR (Cq prog w) A (handleBy (.ref e) env (.ExceptHandler (AP t) (AP y) (b₀::suite) pos::rest)) Q E s:=by
 show wpAny_handleBy_cons (codeAny_handlers_test<|Li h (λc G g=>?_) λ_ _ z=>z.elim) (by intro q;cases q);obtain⟨rfl,X,⟨oe,l,i⟩,k⟩:=g;show uI X l i j m ?_;rw[hi];show codeAny_handlers_suite_as<|Li k (λ_ O b=>Li b (λ_ J a=>Li a (λ_ _ z=>z) λ_ _ z=>z.elim) λ_ _ z=>z.elim) λ_ _ z=>z.elim
abbrev cH.lost (D:cH):cH:={D with nx:=fun σ h=>D.nx (σ.map λ_=>Af) h,bk:=fun σ h=>D.bk (σ.map λ_=>Af) h,ct:=fun σ h=>D.ct (σ.map λ_=>Af) h}
abbrev aef (x:Xw):W:=match x.fs with
 | []=>.exc x.cls
 | f::fs=>.exa x.cls ((f::fs).map (·.2))
def Ri {J G:Type}:∀{l:List J}{m:List G},m.length=l.length->(l.zip m).map (·.2)=m
 | [],[],_=>rfl
 | a::l,b::m,h=>by rw[List.zip_cons_cons,KQ,Ri (by simpa using h)]
def abW {n}(h:ws.length=(Gq n).length):aef ⟨n,(Gq n).zip ws⟩=.exa n ws:=by
 have e:=Ri h;unfold aef;cases q:(Gq n).zip ws with
 | nil=>
  rw[q]at e;cases ws with
  | nil=>show absurd (vA h.symm) (by unfold Gq;split<;>simp)
  | cons _ _=>cases e
 | cons f fs=>
  simp_all
section
variable {X:Cx}{body:List Stmt}{y:Str}{hpos pos:Pos}{i:Nat}{mb:Ci->MS}{mh:MS}
end
variable {mh:MS}{hpos:Pos}{mb:Ci->MS}
def G8 {k A}{a}(r:iJ k A)(h:8<=k):iJ 8 (A.mark (AP (.ref a))):={nofun,by have:=r.dp;change A.depth+_<_;lia,by have:=r.un;change A.units+_<_;lia}
section
variable {X:Cx}{a:Expr}{pos p:Pos}
end
section
variable {X:Cx}{tg:Expr}{scope:Scope}{xs:List Str}{pos p ppos:Pos}
end
section
variable {prog:Dm}{w:DX}{A:Ej}{E:Aj->Bc->Prop}{s:Bc}
end
section
variable {X:Cx}
end
section
variable {X:Cx}{K:CQ}{o e:Expr}{ma:MA}{apos apq:Pos}
variable {H:Hp}{apn:List (Addr×Obj)}{s:Bc}{σ:St}
mutual
theorem Rz (I:Bk X apn σ H s):∀{w u:W}{v:V},Dt X.K H w v->Dt X.K H u v->w=u
 | .non,u,v,h,g=>by rw[Dt]at h;subst h;cases u<;>rw[Dt]at g<;>first|rfl|exact g.elim|(obtain⟨_,_,g,_⟩:=g;cases g;done)|(cases g;done)
 | .bl b,u,v,h,g=>by rw[Dt]at h;subst h;cases u<;>rw[Dt]at g<;>first|(injection g with g;rw[g];done)|exact g.elim|(obtain⟨_,_,g,_⟩:=g;cases g;done)|(cases g;done)
 | .int b,u,v,h,g=>by rw[Dt]at h;subst h;cases u<;>rw[Dt]at g<;>first|(injection g with g;rw[g];done)|exact g.elim|(obtain⟨_,_,g,_⟩:=g;cases g;done)|(cases g;done)
 | .str b,u,v,h,g=>by rw[Dt]at h;subst h;cases u<;>rw[Dt]at g<;>first|(injection g with g;rw[g];done)|exact g.elim|(obtain⟨_,_,g,_⟩:=g;cases g;done)|(cases g;done)
 | .tup ws,u,v,h,g=>by
  rw[Dt]at h;obtain⟨p,xs,e,hs,ds⟩:=h;subst e;cases u with
  | tup us=>
   rw[Dt]at g;obtain⟨p',xs',e',hs',ds'⟩:=g;cases e'
   have:=I.tuple_inj hs hs'
   subst this;rw[yP I ds ds']
  | lst us=>
   rw[Dt]at g;obtain⟨p',xs',e',hs',ds'⟩:=g;cases e'
   obtain⟨_,_,t,_⟩:=I.tuple hs;obtain⟨_,_,l,_⟩:=I.list hs';exact absurd rfl<|yS l.isList<|show s.heap.IsTuple _ _ from t
  | ty _=>rw[Dt]at g;exact g.elim
  | loc _=>rw[Dt]at g;exact g.elim
  | kls _=>rw[Dt]at g;exact g.elim
  | exc _=>rw[Dt]at g;exact g.elim
  | exa _ _=>rw[Dt]at g;exact g.elim
  | _=>rw[Dt]at g;cases g
 | .lst ws,u,v,h,g=>by
  rw[Dt]at h;obtain⟨p,xs,e,hs,ds⟩:=h;subst e;cases u with
  | lst us=>
   rw[Dt]at g;obtain⟨p',xs',e',hs',ds'⟩:=g;cases e'
   have:=I.list_inj hs hs'
   subst this;rw[yP I ds ds']
  | tup us=>
   rw[Dt]at g;obtain⟨p',xs',e',hs',ds'⟩:=g;cases e'
   obtain⟨_,_,t,_⟩:=I.tuple hs';obtain⟨_,_,l,_⟩:=I.list hs;exact absurd rfl<|yS l.isList<|show s.heap.IsTuple _ _ from t
  | ty _=>rw[Dt]at g;exact g.elim
  | loc _=>rw[Dt]at g;exact g.elim
  | kls _=>rw[Dt]at g;exact g.elim
  | exc _=>rw[Dt]at g;exact g.elim
  | exa _ _=>rw[Dt]at g;exact g.elim
  | _=>rw[Dt]at g;cases g
 | .ty _,_,_,h,_=>by rw[Dt]at h;exact h.elim
 | .kls _,_,_,h,_=>by rw[Dt]at h;exact h.elim
 | .loc _,_,_,h,_=>by rw[Dt]at h;exact h.elim
 | .exc _,_,_,h,_=>by rw[Dt]at h;exact h.elim
 | .exa _ _,_,_,h,_=>by rw[Dt]at h;exact h.elim
theorem yP (I:Bk X apn σ H s):∀{ws us:List W}{vs:List V},Mh X.K H ws vs->Mh X.K H us vs->ws=us
 | [],us,vs,h,g=>by
  have e:vs=[]:=by rw[Mh]at h;exact h
  subst e;cases us with
  | nil=>rfl
  | cons u us=>rw[Mh]at g;obtain⟨_,_,e,_⟩:=g;cases e
 | w::ws,us,vs,h,g=>by
  rw[Mh]at h;obtain⟨v,vs',e,d,ds⟩:=h;subst e;cases us with
  | nil=>
   have e:v::vs'=[]:=by rw[Mh]at g;exact g
   cases e
  | cons u us=>
   rw[Mh]at g;obtain⟨v2,vs2,e2,d2,ds2⟩:=g;cases e2;rw[Rz I d d2,yP I ds ds2]
end
def HN:∀{us xs}{its},Mh X.K H us xs->Cg xs its->∀a u,(a,u)∈its.zip us->∃v,RelV v a/\Dt X.K H u v/\u∈us
 | [],_,its,_,_,a,u,m=>absurd m (by simp)
 | w::us,xs,its,d,r,a,u,m=>by
  obtain⟨v,J,e,f,ds⟩:=d;subst e;cases r with
  | cons U G=>
   rcases M5.mp m with m|m
   grind
   obtain⟨O,c,b,Y⟩:=HN ds G a u m;grind
def vJ {J G:Type}:∀{xs:List J}{ys:List G},xs.length=ys.length->∀a∈xs,∃b,(a,b)∈xs.zip ys
 | x::xs,y::ys,h,a,m=>by
  rcases M5.mp m with rfl|m
  simp_all
  obtain⟨b,q⟩:=vJ (Nat.succ.inj h) a m;show{b,T6 _ q}
end
section
variable {X:Cx}{iter tg:Expr}{scope:Scope}{pos:Pos}{xs:List Str}
end
section
variable {X:Cx}{e:Expr}{es:List Expr}{pos:Pos}
abbrev ady (X:Cx)(Γ:St->Prop)(m:Ci->MA):TA:=fun σ H Q=>Γ σ/\∃μ h σw J E,Dz X.K μ H h/\Slots X.K H μ σw σ/\m E σw h J/\(∀vs H',DA X.K H μ J vs H'->Q vs H')/\∀G s',XT X H μ Γ E G s'->X.xe G s'
def ajU {me}(ha:DEx X Γ e me)(hr:Mp X es mr)(hs:Dc (e::es) X.env=(false,eval e X.env)::Dc es X.env:=by rfl):PA X (e::es) (ady X Γ λE=>aj (me E) mr):=(tW ha hr hs).of fun σ H Q a=>by obtain⟨g,μ,h,σw,Qw,E,R,S,m,q,kx⟩:=a;show {g,μ,h,σw,_,E,R,S,m,λv H1 b=>by obtain⟨μ1,w,h1,e1,R1,r1,m1⟩:=b;show {μ1,h1,σw,_,R1,S.ext e1,m1,λvs H2 c=>by obtain⟨μ2,ws,h2,e2,R2,r2,m2⟩:=c;show q _ _ {μ2,w::ws,h2,e1.trans e2,R2,{v,vs,rfl,e2.r _ _ r1,r2},m2}},kx}
variable {mr:Ci->MA}
end
section
variable {X:Cx}{K:CQ}{H:Hp}{apn:List (Addr×Obj)}{s:Bc}{σ:St}
def S6 {J G:Type}{p q}:∀{xs:List J}{ys:List G},xs.length=ys.length->(∀a b,(a,b)∈xs.zip ys->p a=q b)->xs.any p=ys.any q
 | [],[],_,_=>rfl
 | a::xs,b::ys,h,e=>by
  rw[Ze,Ze,S6 (Nat.succ.inj h) λa' O m=>e a' O (T6 _ m),e a b Ub]
def alp (I:Bk X apn σ H s){us xs}{its w y}{b}(O:Mh X.K H us xs)(r:Cg xs its)(j:Dt X.K H w y)(g:RelV y b)(pl1:us.all (K1 20)=true)(Y:K1 20 w=true){A}(k:A.units+20<Lb):
  ∃J,(∀a,a∈its->Ys A s a b (J a))/\its.any J=us.any (λu=>K6 u w):=by
 have hl:its.length=us.length:=by rw[<-r.length,O.len]
 let J:Aj->Bool:=λa=>@decide (∃u,(a,u)∈its.zip us/\K6 u w=true) (Classical.propDecidable _)
 have G:∀a u,(a,u)∈its.zip us->J a=K6 u w:=by
  intro a u m;cases c:K6 u w with
  | true=>show(@decide_eq_true_iff _ (Classical.propDecidable _)).mpr ⟨u,m,c⟩
  | false=>
   show(@decide_eq_false_iff_not _ _).mpr λd=>?_;obtain⟨f,m2,o⟩:=d;obtain⟨q,U,e,_⟩:=HN O r a u m;obtain⟨p,h,n,_⟩:=HN O r a f m2;obtain rfl:=U.inj h;rw[Rz I e n,o]at c;cases c
 show{J,λa l=>?_,S6 hl G};obtain⟨u,m⟩:=vJ hl a l;obtain⟨v,U,e,i⟩:=HN O r a u m;show G a u m ▸ afk I 20 k e j (Vl.mp pl1 u i) Y U g
abbrev aiG (K:CQ)(G:Bool):R2:=λx y H Q=>∃p xs us w,y=.ref p/\Kr K H p xs/\Mh K H us xs/\Dt K H w x/\us.all (K1 20)=true/\K1 20 w=true/\Q (.bl (if G then !(us.any λu=>K6 u w)else us.any λu=>K6 u w)) H
def aaj (f:X.A.units+30<Lb):Mg X (Oi .NotIn) (aiG X.K true):=by
 intro apn s σ H x y v u Q I U O h;obtain⟨p,xs,us,w,rfl,a,c,G,Y,p2,q⟩:=h;cases O;obtain⟨its,r,pl,e⟩:=I.list a;obtain⟨J,b,d⟩:=alp I c r G U Y p2 (A:=X.A.in1) (by change _+1+20<Lb;lia);show SeqAt.notIn_listAt J pl.isList (λw G=>b w<|by simpa using G) {.bl _,H,I,rfl,?_}
 rwa[show its.toArray.any J=its.any J by simp,d]
abbrev JZ:M2:=λx y h Q=>match gq h y with
 | some us=>Lg (K1 20 x&&us.all (K1 20)) (Q (.bl (!(us.any λu=>K6 u x))) h) False
 | none=>False
def ad7 (Y:X.A.units+30<Lb):Oz X (Oi .NotIn) JZ:={_,aaj Y,by
 intro H μ h x y G b d Q R O J m k;unfold JZ at m;split at m
 ·rename_i us a;obtain⟨p,xs,ex,hs,U⟩:=eY R J a;cases c:(K1 20 G&&us.all _)with
  | true=>
   rw[c]at m;rw[V5]at c;show{p,xs,us,G,ex,hs,zZ (Ug 20) U c.2,Ug 20 O c.1,c.2,c.1,k _ _<|.bl R m}
  | false=>rw[c]at m;cases m
 cases m}
end
section
variable {X:Cx}{K:CQ}{H:Hp}{h:Gh}
end
section
variable {X:Cx}{K:CQ}{o e e':Expr}{ma:MA}{apos apq:Pos}
def ado {apq}{e e' env}(h:FZ e=false)(h':FZ e'=false):((Ku apq (Dc [e,e'] env)).all (λx=>!x.1)&&(backToKw apq (Ye [] env)).all (λx=>x.1.isSome)
   && decide (([e,e']:List Expr).length+([]:List SM).length+(if([]:List SM).isEmpty then 0 else 1)<30))=true:=by
 rw[aN h,aN h'];rfl
end
abbrev Fx (m:Nat):List Nat:=(Rb 8).filter λj=>m.testBit j
abbrev rk (m j:Nat):Nat:=((Rb j).filter λi=>m.testBit i).length
def rH:∀m:Fin 256,∀j:Fin 8,SetTable.below (Fx m).toArray j=rk m j/\(Fx m)[rk m j]?=(if m.val.testBit j then AP j.val else(Fx m)[rk m j]?)/\(m.val.testBit j=false->(Fx m)[rk m j]?≠AP j.val):=by decide +kernel
def zG:∀m:Fin 256,∀j:Fin 8,m.val.testBit j=false->(Fx m).take (rk m j)++j.val::(Fx m).drop (rk m j)=Fx (m.val ||| 2^j.val)/\m.val ||| 2^j.val<256:=by decide +kernel
def iV {j}:j∈Fx m↔j<8/\m.testBit j=true:=by unfold Fx;simp
def Ge {t:Ui}{j}(G:t.place=(Fx m).toArray)(O:t.dummies=#[])(J:m<256)(hj:j<8):t.slot j=if m.testBit j then .live (rk m j)else .empty:=by
 obtain⟨a,b,c⟩:=rH ⟨m,J⟩ ⟨j,hj⟩;unfold SetTable.slot;rw[G,O,a];cases e:m.testBit j with
 | true=>
  simp_all
 | false=>
  rw[if_neg T4,if_neg (by simpa using c e),if_neg (by simp[SetTable.has])]
def ag1 {j}(G:m<256)(h:j∈Fx m):(Fx m)[rk m j]?=AP j:=by
 obtain⟨hj,e⟩:=iV.mp h;have b:=(rH ⟨m,G⟩ ⟨j,hj⟩).2.1
 rwa[e]at b
abbrev pq (h:Int):Nat->Nat×Nat
 | 0=>(Uc h % 8,Uc h)
 | n+1=>SetTable.leap 7 (pq h n).1 (pq h n).2
abbrev pb (h:Int)(n:Nat):SetTable.Probe:=⟨(pq h n).1,0,(pq h n).1,(pq h n).2,Af⟩
def xU (h):∀n,(pq h n).1<8
 | 0|n+1=>Nat.mod_lt _ ∅
def OD (i):uF 7 i-i=0:=by
 unfold uF;simp_all
def Jx {t:Ui}(G:t.mask=7)(h):t.probeStart h=pb h 0:=by
 unfold SetTable.probeStart pb pq;rw[G];simp[OD]
def QC {t:Ui}(G:t.mask=7)(h)(n):t.advance (pb h n)=pb h (n+1):=by
 unfold SetTable.advance pb;rw[G];simp only[OD];rfl
def Oc (h):∀n,(pq h n).2=Uc h / 32^n
 | 0=>by simp[pq]
 | n+1=>by
  change(pq h n).2 / 32=_;rw[Oc h n,Nat.div_div_eq_div_mul,Nat.pow_succ]
def zci (h)(n)(G:13<=n):(pq h n).2=0:=by
 rw[Oc];apply Nat.div_eq_of_lt;have h1:Uc h<2^64:=by
  unfold Uc;lia
 have h2:32^13<=32^n:=Nat.pow_le_pow_right ∅ G;lia
abbrev lcg:Nat->Nat->Nat
 | i,0=>i
 | i,k+1=>(lcg i k*5+1) % 8
def W8 (h):∀k,(pq h (13+k)).1=lcg (pq h 13).1 k
 | 0=>rfl
 | k+1=>by
  change((pq h (13+k)).1*5+1+(pq h (13+k)).2 / 32) % (7+1)=_;rw[zci h _ ⋯,W8 h k];rfl
def aar:∀i:Fin 8,∀j:Fin 8,∃k:Fin 8,lcg i k=j.val:=by decide +kernel
def abQ (h){j}(hj:j<8):∃n,n<21/\(pq h n).1=j:=by
 obtain⟨k,e⟩:=aar {(pq h 13).1,xU h 13} ⟨j,hj⟩;show{13+k.val,⋯,by rwa[W8]}
def least {P:Nat->Bool}:∀B,(∃n,n<B/\P n=true)->∃N,N<B/\P N=true/\∀n,n<N->P n=false
 | B+1,⟨n,h,e⟩=>by
  by_cases q:∃n,n<B/\P n=true
  obtain⟨N,a,b,c⟩:=least B q;grind
  grind
def road (h)(J:∃j,j<8/\m.testBit j=false):∃N,N<21/\m.testBit (pq h N).1=false/\∀n,n<N->m.testBit (pq h n).1=true:=by
 obtain⟨j,hj,e⟩:=J;obtain⟨n,G,O⟩:=abQ h hj;obtain⟨N,a,b,c⟩:=least (P:=λn=>!m.testBit (pq h n).1) 21 {n,G,by simp[O,e]};grind
def GP:∀m:Fin 256,(Fx m).length<8->∃j:Fin 8,m.val.testBit j=false:=by decide +kernel
def xP:∀m:Fin 256,∀j:Fin 8,m.val.testBit j=false->(Fx (m.val ||| 2^j.val)).length=(Fx m).length+1:=by decide +kernel
def HF:∀m:Fin 256,∀j i:Fin 8,(m.val ||| 2^j.val).testBit i=(m.val.testBit i||decide (i.val=j.val)):=by grind
def Hf {t}{m}(Y:t.mask=7)(U:t.place=(Fx m).toArray)(f:t.dummies=#[])(g:m<256)(G)(h):∀d n J,d<J->m.testBit (pq h (n+d)).1=false->(∀i,i<d->m.testBit (pq h (n+i)).1=true) ->
  ((∀i,i<d->G (rk m (pq h (n+i)).1)≠h)/\Zq.go t G h J (pb h n)=AP (.empty (pq h (n+d)).1 Af)) \/
  ∃i,i<d/\G (rk m (pq h (n+i)).1)=h/\(∀j,j<i->G (rk m (pq h (n+j)).1)≠h)/\Zq.go t G h J (pb h n)=AP (.candidate (pq h (n+i)).1 (rk m (pq h (n+i)).1) (pb h (n+i+1)))
 | 0,n,J+1,_,e,_=>by
  show .inl {λi hi=>absurd hi<|Yq _,?_};unfold Zq.go;have:t.slot (pb h n).j=.empty:=by
   change t.slot (pq h n).1=_;rw[Ge U f g (xU h n),show m.testBit (pq h n).1=false from e];rfl
  rw[this];rfl
 | d+1,n,J+1,o,e,l=>by
  have k:m.testBit (pq h n).1=true:=l 0 ⋯;have hs:t.slot (pb h n).j=.live (rk m (pq h n).1):=by
   change t.slot (pq h n).1=_;rw[Ge U f g (xU h n),k];rfl
  unfold Zq.go;rw[hs];dsimp only;by_cases q:G (rk m (pq h n).1)=h
  show .inr {0,⋯,q,λj hj=>absurd hj<|Yq _,?_};rw[if_pos (by simp[q]),QC Y];rfl
  ·rw[if_neg (by simp[q]),QC Y];have O:∀i,n+1+i=n+(i+1):=λi=>⋯
   rcases Hf Y U f g G h d _ J ⋯ (by rwa[O]) (λi hi=>by rw[O];show l (i+1) ⋯)with⟨a,b⟩|⟨i,hi,a,b,c⟩
   ·show .inl {λi hi=>?_,by rw[b,O]};cases i with
    | zero=>show q
    | succ i=>have:=a i ⋯;rw[O]at this;show this
   ·show .inr {i+1,⋯,by rwa[<-O],λj hj=>?_,by rw[c,O]};cases j with
    | zero=>show q
    | succ j=>have:=b j ⋯;rw[O]at this;show this
section
variable {prog:Dm}{w:DX}{A:Ej}{E:Aj->Bc->Prop}{s:Bc}{ka:Nat->List Int}{ad:Nat->Addr}{t:Ui}{a b:Addr}{k:List Int}
@[reducible]noncomputable def TK (prog:Dm)(w:DX)(h:Heap)(k:List Int)(a:Addr):Prop:=IsTupleKey (O8 prog w) h k a
abbrev hT (prog:Dm)(w:DX)(k:List Int):Int:=U9 (O8 prog w) k
abbrev elL (prog:Dm)(w:DX)(m:Nat)(ka:Nat->List Int)(ad:Nat->Addr):List (Int×Aj):=(Fx m).map λj=>(hT prog w (ka j),Value.ref (ad j))
structure XR (prog:Dm) (w:DX) (h:Heap) (m:Nat) (ka:Nat->List Int) (ad:Nat->Addr) (t:Ui):Prop where
 mask:t.mask=7
 place:t.place=(Fx m).toArray
 dum:t.dummies=#[]
 m8:m<256
 few:(Fx m).length<=4
 key:∀j,j∈Fx m->TK prog w h (ka j) (ad j)
 way:∀j,j∈Fx m->∃n,(pq (hT prog w (ka j)) n).1=j/\∀i,i<n->m.testBit (pq (hT prog w (ka j)) i).1=true
def XR.fits {h}(T:XR prog w h m ka ad t):t.fits (elL prog w m ka ad).toArray.size=true:=by
 unfold SetTable.fits SetTable.fill elL;rw[T.place,T.dum,T.mask];have:=T.few
 simp;lia
def XR.at {h}(T:XR prog w h m ka ad t){j}(hj:j∈Fx m):(elL prog w m ka ad).toArray[rk m j]?=AP (hT prog w (ka j),Value.ref (ad j)):=by
 have:=ag1 T.m8 hj
 simp[elL,this]
def CZ {d}{Q}(Y:TK prog w s.heap k b)(h:Q false s):CR (Cq prog w) A (ofAClassStatement (d+1) (.ref b)) Q E s:=by
 have O:=Y.typeIs;obtain⟨o,items,n,f,_,g,hi⟩:=Y;unfold ofAClassStatement;show BL<|YB O<|BL<|DK<|BL<|Vd f g<|BL ?_
 rw[<-Array.forIn_toList];show wpAny_forIn_list _ (λrest r s'=>r.1=Af/\s'=s/\∀v∈rest,carriedByValue v=true) _ ?_ ?_ _ _ ⟨rfl,rfl,hi.byValue⟩
 ·rintro v rest r s' ⟨U,rfl,G⟩;have c:=G v Ub;have e:ofAClassStatement d v=pure false:=by
   cases v with
   | ref a=>simp[carriedByValue]at c
   | _=>unfold ofAClassStatement;rfl
  rw[e];show DK {rfl,rfl,λu J=>G u<|T6 _ J}
 rintro⟨j,i⟩ s' ⟨U,rfl,_⟩;subst U;show DK h
def Bb {d}{Q}(Y:TK prog w s.heap k b)(h:Q true s):CR (Cq prog w) A (hashByValue (d+1) (.ref b)) Q E s:=by
 have U:=Y.typeIs;obtain⟨o,items,n,a,_,c,hi⟩:=Y;show BL<|Yo U F.slot_tuple_hash.lookup<|BL<|Vd a c<|BL ?_
 rw[<-Array.forIn_toList];show wpAny_forIn_list _ (λrest r s'=>r.1=Af/\s'=s/\∃ks,ItemsAre (O8 prog w) ks rest) _ ?_ ?_ _ _ ⟨rfl,rfl,k,hi⟩
 ·rintro v rest r s' ⟨O,rfl,ks,G⟩;cases G with
  | @cons k0 _ J _ h1 h2=>
   have e:hashByValue d v=pure true:=by
    obtain⟨tk,rfl⟩:=Value.isInt_shape h1;cases d<;>rfl
   rw[e];show DK ⟨rfl,rfl,J,h2⟩
 rintro⟨g,f⟩ s' ⟨O,rfl,_⟩;simp only at O;subst O;show DK h
def ajF {l}{Q}(Y:TK prog w s.heap k b)(hl:∀y∈l,∃c J,y=.ref c/\TK prog w s.heap J c)(h:Q false s):CR (Cq prog w) A (searchCouldBeSeen (.ref b) l) Q E s:=by
 show BL<|wpAny_forIn_list _ (λrest r s'=>r.1=Af/\s'=s/\∀y∈rest,∃c J,y=.ref c/\TK prog w _ J c) _ ?_ ?_ _ _ ⟨rfl,rfl,hl⟩
 rintro v rest r s' ⟨U,rfl,G⟩;obtain⟨c,J,rfl,a⟩:=G v Ub;have tl:=λu O=>G u (T6 _ O)
 dsimp only;split
 show DK ⟨rfl,rfl,tl⟩;show BL<|wpAny_eqIsQuiet_tuple Y<|BL<|wpAny_eqIsQuiet_tuple a<|BL<|CZ Y<|BL<|CZ a<|DK ⟨rfl,rfl,tl⟩
 rintro⟨e,d⟩ s' ⟨U,rfl,_⟩;subst U;show DK h
def kJ {o}{ep h}{Q}(hh:h=hT prog w k)(K:A.units<Lb)(l:s.heap.get? a=AP o)(D:o.data=.set (elL prog w m ka ad).toArray ep t)(T:XR prog w s.heap m ka ad t)(B:TK prog w s.heap k b){N}(S:m.testBit (pq h N).1=false)(hl:∀n,n<N->m.testBit (pq h n).1=true)
  (U:(∃j,j∈Fx m/\ka j=k)->Q (.there Af) s) (H:(∀n,n<N->ka (pq h n).1≠k)->Q (.free (pq h N).1 false) s) :
  ∀G n  (st),st.getD (t.probeStart h)=pb h n->n<=N->N-n<G->N<200->(∀i,i<n->ka (pq h i).1≠k)->CR (Cq prog w) A (setSearchFrom a (.ref b) h true G st) Q E s
 | G+1,n,st,es,hn,hf,h2,M=>by
  show BL<|ZW l D T.fits ?_
  dsimp only;have hg:t.gaveWay=false:=by unfold SetTable.gaveWay;rw[T.mask];rfl
  rw[hg];simp only[uT,if_false];rw[es];have L:∀i,i<N->(pq h i).1∈Fx m:=λi hi=>iV.mpr {xU h i,hl i hi}
  have I:∀i,i<N->((((elL prog w m ka ad).toArray[rk m (pq h i).1]?).map (·.1)).getD 0)=hT prog w (ka (pq h i).1):=λi hi=>by rw[T.at (L i hi)];rfl
  have J:10*SetTable.turns t.mask=220:=by rw[T.mask];rfl
  have go:=Hf T.mask T.place T.dum T.m8 (λi=>(((elL prog w m ka ad).toArray[i]?).map (·.1)).getD 0) h (N-n) n 220 (by lia) (by rw[show n+(N-n)=N by lia];show S) (λi hi=>hl _ (by lia));generalize R:t.probe _ h (pb h n)=P;rcases go with⟨u,e⟩|⟨i,hi,hc,d,e⟩
  have e':t.probe (λi=>(((elL prog w m ka ad).toArray[i]?).map (·.1)).getD 0) h (pb h n)=AP (.empty (pq h N).1 Af):=by
   unfold Zq;rw[J,e,show n+(N-n)=N by lia]
  have F:P=AP (.empty (pq h N).1 Af):=R.symm.trans e';subst F;show DK<|H λi hi z=>?_
  by_cases q:i<n
  show M i q z;show u (i-n) (by lia) ?_;rw[show n+(i-n)=i by lia,I i hi,z,hh]
  ·have e':t.probe (λi=>(((elL prog w m ka ad).toArray[i]?).map (·.1)).getD 0) h (pb h n)=AP (.candidate (pq h (n+i)).1 (rk m (pq h (n+i)).1) (pb h (n+i+1))):=by
    unfold Zq;rw[J,e]
   have F:P=_:=R.symm.trans e';subst F;have hj:=L (n+i) ⋯;have v:=T.key _ hj;dsimp only;rw[T.at hj];dsimp only;have f:t.slot (pq h (n+i)).1=.live (rk m (pq h (n+i)).1):=by rw[Ge T.place T.dum T.m8 (xU h _),(iV.mp hj).2,if_pos rfl]
   have O:t.sameMemory t.moves t.mask=AP true:=by unfold SetTable.sameMemory;rw[if_pos (by simp)]
   have C:∀y∈List.map (λx=>x.snd) (Array.filter (λx=>x.fst==h) (elL prog w m ka ad).toArray).toList,∃c W,y=.ref c/\TK prog w s.heap W c:=by
    intro y X;obtain⟨p,Z,rfl⟩:=Ni.mp X;have g:p∈elL prog w m ka ad:=by
     have:=(Array.mem_filter.mp (Array.mem_toList_iff.mp Z)).1
     simpa using this
    obtain⟨j,Y,rfl⟩:=Ni.mp g;show{_,_,rfl,T.key j Y}
   split
   all_goals try (show BL (ajF B C ?_);simp only[uT,if_false])
   all_goals
    show BL<|N7<|wpAny_eqBool_tuple K v B ?_
    show BL<|ZW l D T.fits ?_
    dsimp only;rw[Bool.true_and];by_cases q:ka (pq h (n+i)).1=k
    rw[if_pos (decide_eq_true q)];show DK<|U {_,hj,q}
    rw[if_neg (by rw[decide_eq_false q];show T4),O];dsimp only;rw[if_pos rfl,f];dsimp only;rw[T.at hj];dsimp only;show BL<|wpAny_isSame_ref_self ?_
    rw[if_pos rfl];show BL<|DK ?_
    dsimp only;rw[if_neg (by rw[decide_eq_false q];show T4)];show kJ hh K l D T B S hl U H G (n+i+1) _ rfl ⋯ ⋯ h2 λj Y z=>?_;by_cases r:j<n
    show M j r z;by_cases V:j=n+i
    rw[V]at z;show q z;show d (j-n) (by lia) ?_;rw[show n+(j-n)=j by lia,I j (by lia),z,hh]
abbrev TJ (es:Array (Int×Aj))(ep:Nat)(t:Ui):Obj:={cls:=.type "set",dict:=Af,data:=.set es ep t}
abbrev sy (prog:Dm)(w:DX)(h:Heap)(a:Addr)(m:Nat)(ka:Nat->List Int)(ad:Nat->Addr):Prop:=∃ep t,h.get? a=AP (TJ (elL prog w m ka ad).toArray ep t)/\XR prog w h m ka ad t
def TK.ne {h}{es ep}(J:TK prog w h k b)(G:h.get? a=AP (TJ es ep t)):b≠a:=by
 rintro rfl;obtain⟨o,_,_,e,O,_⟩:=J;rw[G]at e;cases e;show absurd (show Value.type "set" = Value.type "tuple" from O)<|∅
def TK.same {h h'}{es ep}(G:TK prog w h k b)(O:h.get? a=AP (TJ es ep t))(hs:Qf a h h'):TK prog w h' k b:=by
 have J:=TK.ne G O;obtain⟨o,i,n,e,r⟩:=G;show{o,i,n,(hs.2 b J).trans e,r}
def WX {j}(O:m<256)(hj:j<8)(J:m.testBit j=false):YS (elL prog w m ka ad).toArray (rk m j) (hT prog w k,Value.ref b)=(elL prog w (m ||| 2^j) (λi=>if i=j then k else ka i) (λi=>if i=j then b else ad i)).toArray:=by
 apply Array.ext';rw[SetTable.toList_insertAt];unfold elL;rw[<-((zG ⟨m,O⟩ ⟨j,hj⟩ J).1)];simp;have G:∀i∈Fx m,i≠j:=λi hi z=>by rw[z]at hi;rw[(iV.mp hi).2]at J;cases J
 have U:(Fx m).map (λi=>(hT prog w (if i=j then k else ka i),Value.ref (if i=j then b else ad i)))=(Fx m).map λi=>(hT prog w _,Value.ref (ad i)):=V1 λi hi=>by rw[if_neg (G i hi),if_neg (G i hi)]
 rw[U]
def zaK {Q}(V:A.units<Lb)(S:sy prog w s.heap a m ka ad)(W:TK prog w s.heap k b)(h3:(Fx m).length<=3)
  (H:(∃j,j∈Fx m/\ka j=k)->∀tk,Q false {s with toks:=tk})
  (Z:(∀j,j∈Fx m->ka j≠k)->∀h' j tk,Qf a s.heap h'->j<8->m.testBit j=false->sy prog w h' a (m ||| 2^j) (λi=>if i=j then k else ka i) (λi=>if i=j then b else ad i)->Q true {s with heap:=h',toks:=tk}) :
  CR (Cq prog w) A (setAdd a (.ref b)) Q E s:=by
 obtain⟨ep,t,ho,T⟩:=S;show N7<|BL<|wpAny_pyHash_tuple V W ?_
 show N7 ?_;generalize f:({s with toks:=s.toks+(k.length+1)}:Bc)=s1;have r:s1.heap=s.heap:=by rw[<-f]
 have U:s1.heap.get? a=AP (TJ (elL prog w m ka ad).toArray ep t):=by rw[r];show ho
 have F:XR prog w s1.heap m ka ad t:=by rw[r];show T
 have g:TK prog w s1.heap k b:=by rw[r];show W
 show BL<|ZW U rfl F.fits ?_
 obtain⟨P,L⟩:=GP ⟨m,T.m8⟩ (by change(Fx m).length<8;lia);obtain⟨N,hN,G,C⟩:=road (m:=m) (U9 (O8 prog w) k) ⟨P.val,P.isLt,L⟩;show BL<|kJ (h:=U9 (O8 prog w) k) rfl V U rfl F g G C (λy=>?_) (λn=>?_) 100000 0 Af (by rw[Option.getD_none];show Jx T.mask _) ⋯ ⋯ ⋯ λi hi=>absurd hi<|Yq _
 rw[<-f];show DK<|H y _
 dsimp only;have x:∀j,j∈Fx m->ka j≠k:=λj hj z=>by
  obtain⟨i,e,l⟩:=T.way j hj;have r:hT prog w (ka j)=U9 (O8 prog w) k:=by rw[z];rfl
  rw[r]at e l;rcases Nat.lt_trichotomy i N with q|q|q
  show n i q (by rw[e];show z);rw[q]at e;rw[e,(iV.mp hj).2]at G;cases G;rw[l N q]at G;cases G
 show BL<|ZW U rfl F.fits ?_
 have J:=xU (U9 (O8 prog w) k) N;generalize K:(pq (U9 (O8 prog w) k) N).fst=j at G J|-
 have v:t.put j=({t with place:=(Fx (m ||| 2^j)).toArray},rk m j):=by
  unfold SetTable.put;have e1:=(rH ⟨m,T.m8⟩ ⟨j,J⟩).1;have e2:=(zG ⟨m,T.m8⟩ ⟨j,J⟩ G).1;have e3:YS (Fx m).toArray (rk m j) j=(Fx (m ||| 2^j)).toArray:=by
   apply Array.ext';rw[SetTable.toList_insertAt,e2]
  rw[T.place,T.dum,e1];dsimp only;rw[e3,if_neg (by simp[SetTable.has])]
 have c:({t with place:=(Fx (m ||| 2^j)).toArray}:Ui).tooFull=false:=by
  have e:=xP ⟨m,T.m8⟩ ⟨j,J⟩ G;unfold SetTable.tooFull SetTable.fill;rw[T.mask,T.dum];simp only[Lf,e];simp;lia
 rw[v];have u:∀{R:Unit->Bc->Prop},(∀h',Qf a s.heap h'->sy prog w h' a (m ||| 2^j) (λi=>if i=j then k else ka i) (λi=>if i=j then b else ad i)->R () {s1 with heap:=h'})->CR (Cq prog w) A (storeSet a (YS (elL prog w m ka ad).toArray (rk m j) (U9 (O8 prog w) k,Value.ref b)) {t with place:=(Fx (m ||| 2^j)).toArray}) R E s1:=by
  intro R hR;have e:=xP ⟨m,T.m8⟩ ⟨j,J⟩ G;dsimp only at e;have X:=WX (prog:=prog) (w:=w) (ka:=ka) (ad:=ad) (k:=k) (b:=b) T.m8 J G;unfold hT at X;rw[X];show wpAny_storeSet_of U rfl (hR _ ?_ ?_) ?_;rw[r];show Vg ..;have O:Qf a s1.heap (s1.heap.update a (Obj.putSet (elL prog w (m ||| 2^j) (λi=>if i=j then k else ka i) (λi=>if i=j then b else ad i)).toArray {t with place:=(Fx (m ||| 2^j)).toArray})):=Vg ..;show{ep+1,{t with place:=(Fx (m ||| 2^j)).toArray},?_,{T.mask,rfl,T.dum,(zG ⟨m,T.m8⟩ ⟨j,J⟩ G).2,by rw[e];lia,λi hi=>?_,λi hi=>?_}};have:=R7 (Obj.putSet (elL prog w (m ||| 2^j) (λi=>if i=j then k else ka i) (λi=>if i=j then b else ad i)).toArray {t with place:=(Fx (m ||| 2^j)).toArray}) U (by rw[putSet_of _ _ rfl];rfl)
  show this;obtain⟨Y,p⟩:=iV.mp hi;have o:=HF ⟨m,T.m8⟩ ⟨j,J⟩ ⟨i,Y⟩;by_cases z:i=j
  simp only[if_pos z];show TK.same g U O;simp only[if_neg z];show TK.same (F.key i<|iV.mpr {Y,?_}) U O;rw[p,decide_eq_false z,Bool.or_false]at o;show o.symm;obtain⟨Y,p⟩:=iV.mp hi;have M:∀n,n<8->m.testBit n=true->(m ||| 2^j).testBit n=true:=λn I hb=>by
   have:=HF ⟨m,T.m8⟩ ⟨j,J⟩ ⟨n,I⟩
   rw[this,hb];rfl
  have o:=HF ⟨m,T.m8⟩ ⟨j,J⟩ ⟨i,Y⟩;dsimp only at o;by_cases z:i=j
  simp only[if_pos z];show{N,by rw[z];show K,λn I=>M _ (xU _ _)<|C n I};simp only[if_neg z];rw[p,decide_eq_false z,Bool.or_false]at o;obtain⟨n,e1,e2⟩:=T.way i (iV.mpr ⟨Y,o.symm⟩);show{n,e1,λi hi=>M _ (xU _ _)<|e2 i hi};have e9:(elL prog w (m ||| 2^j) (λi=>if i=j then k else ka i) (λi=>if i=j then b else ad i)).toArray.size=(Fx m).length+1:=by
   unfold elL;rw[Lf,Ds,e]
  rw[e9,Yz];lia
 have D:∀h',Qf a s.heap h'->sy prog w h' a (m ||| 2^j) (λi=>if i=j then k else ka i) (λi=>if i=j then b else ad i)->Q true {s1 with heap:=h'}:=λh' O B=>by
  rw[<-f];show Z x h' j _ O J G B
 split
 show BL<|Bb g ?_
 rw[if_pos rfl,c];show BL<|u λh' O B=>?_
 show DK<|D h' O B
 show BL<|DK ?_
 rw[if_pos rfl,c];show BL<|u λh' O B=>?_
 show DK<|D h' O B
end
variable {ep:Nat}{ad:Nat->Addr}{ka:Nat->List Int}
abbrev QX (acc:List (List Int))(k:List Int):List (List Int):=if k∈acc then acc else acc++[k]
abbrev Ul (l:List (List Int)):List (List Int):=l.foldl QX []
def lC:∀(l acc:List (List Int)),(l.foldl QX acc).length<=acc.length+l.length
 | [],acc=>by simp
 | k::r,acc=>by
  have:=lC r (QX acc k)
  unfold QX at this|-
  grind
section
variable {prog:Dm}{w:DX}{A:Ej}{E:Aj->Bc->Prop}{R:Um->Bc->Prop}
structure Kw (prog:Dm) (w:DX) (z:Nat) (h:Heap) (S:Addr) (seen:List (List Int)) (m:Nat) (ka:Nat->List Int) (ad:Nat->Addr):Prop where
 set:sy prog w h S m ka ad
 low:∀j,j∈Fx m->ad j<z
 mem:∀k,k∈seen↔∃j,j∈Fx m/\ka j=k
 len:(Fx m).length=seen.length
def Kw.keep {z}{h h' S}{seen}(B:Kw prog w z h S seen m ka ad)(Y:∀o,h.get? S=AP o->h'.get? S=AP o)(hl:∀b o,b<z->h.get? b=AP o->h'.get? b=AP o):Kw prog w z h' S seen m ka ad:=by
 obtain⟨⟨ep,t,U,T⟩,G,J,O⟩:=B;show{{ep,t,Y _ U,T.mask,T.place,T.dum,T.m8,T.few,λj hj=>?_,T.way},G,J,O};obtain⟨o,i,n,e,r⟩:=T.key j hj;show{o,i,n,hl _ _ (G j hj) e,r}
end
variable {S:Addr}{seen:List (List Int)}
section
variable {prog:Dm}{w:DX}{A:Ej}{E:Aj->Bc->Prop}{s:Bc}
@[reducible]noncomputable def Xd (G:Bool):Obj:={cls:=.type "set",dict:=Af,data:=.set #[] 0 (.fresh 0 0 G)}
def zbT {h a}{G}(J:h.get? a=AP (Xd G)):sy prog w h a 0 (λ_=>[]) (λ_=>0):=
 {0,.fresh 0 0 G,J,rfl,rfl,rfl,∅,∅,λj hj=>absurd hj (by simp[Fx]),nofun}
end
section
variable {X:Cx}{K:CQ}
abbrev aeW (K:CQ)(H:Hp):List V->List (List Int)->Prop:=Qv λv k=>∃b,v=.ref b/\KJ K H b (k.map V.int)
abbrev ahc (a:Addr)(n:Nat):HO:=.ext λh=>∃es ep t,h.get? a=AP (TJ es ep t)/\t.fits es.size=true/\es.size=n
def yj {prog w}:∀{k us},Cg (k.map V.int) us->ItemsAre (O8 prog w) k us
 | [],_,.nil=>.nil
 | i::k,_,.cons r t=>by
  obtain⟨tk,rfl⟩:=r;show .cons (intKind_is _ _ _ _)<|yj t
def Ag {J G}{F}:∀{l}{k:List G}{j:Nat}{x:J},Qv F l k->l[j]?=AP x->∃y,k[j]?=AP y/\F x y
 | _,_,0,_,.cons r _,e=>by simp at e;subst e;show{_,rfl,r}
 | _,_,j+1,x,.cons _ t,e=>by
  obtain⟨y,a,b⟩:=Ag t (by simpa using e);show{y,by simpa using a,b}
def zbs {xs}{us}(r:Cg xs us){j:Nat}{u}(e:us[j]?=AP u):∃x,xs[j]?=AP x/\RelV x u:=by
 have hl:=r.length;have hj:=(Qc.mp e).1;have G:j<xs.length:=⋯
 obtain⟨y,a,b⟩:=Cg.get r (Lq G);simp_all
def akb:jC X (.builtin "len") (λxs H Q=>∃(a:Addr) (n:Nat),xs=[.ref a]/\H a=AP (ahc a n)/\n<=1000/\Q (.int n) H):=by
 intro apn s σ H xs us Q I r h;obtain⟨a,n,rfl,J,Y,q⟩:=h;obtain⟨u,rfl,G⟩:=vals1 r;cases G;obtain⟨⟨es,ep,t,O,U,e⟩,_⟩:=I.hok a _ J;show call_len_set O ⟨rfl,rfl,rfl⟩ rfl U ⋯ {.int n,H,I.tok _,{_,by rw[e]},q}
abbrev J7:List W->Option (List Int)
 | []=>AP []
 | .int i::r=>(J7 r).map (i::·)
 | _=>Af
abbrev Ae:List W->Option (List (List Int))
 | []=>AP []
 | .tup ws::r=>(match J7 ws,Ae r with
  | some k,AP l=>AP (k::l)
  | _,_=>Af)
 | _=>Af
def Jf {H μ}:∀{ws xs}{k},aP K H μ ws xs->J7 ws=AP k->xs=k.map V.int
 | [],xs,k,r,e=>by
  cases e;show r
 | w::ws,xs,k,r,e=>by
  obtain⟨v,O,J,G,r⟩:=r;cases w with
  | int b=>
   rw[J7]at e;cases q:J7 ws with
   | none=>rw[q]at e;cases e
   | some cs=>
    rw[q]at e;cases e;rw[J,G,Jf r q];rfl
  | _=>cases e
def Ib {H μ}:∀{ws xs}{kss},aP K H μ ws xs->Ae ws=AP kss->aeW K H xs kss
 | [],xs,k,r,e=>by
  cases e;show r ▸ .nil
 | w::ws,xs,kss,r,e=>by
  obtain⟨v,Y,U,O,r⟩:=r;cases w with
  | tup us=>
   obtain⟨p,ys,e1,hs,J⟩:=O;rw[Ae]at e;cases q:J7 us with
   | none=>rw[q]at e;cases e
   | some k=>
    cases G:Ae ws with
    | none=>rw[q,G]at e;cases e
    | some l=>
     rw[q,G]at e;cases e;show U ▸ .cons {p,e1,Jf J q ▸ hs} (Ib r G)
  | _=>cases e
end
section
variable {κ:Type}[DecidableEq κ]
abbrev LR (kvs:List (κ×V))(k:κ):Option V:=(kvs.find? λkv=>decide (kv.1=k)).map (·.2)
abbrev Ov (kvs:List (κ×V))(k:κ)(v:V):List (κ×V):=
 if(kvs.any λkv=>decide (kv.1=k))=true then kvs.map (λkv=>if kv.1=k then(kv.1,v)else kv)else kvs++[(k,v)]
def Jg {p}{r}{k:κ}(e:p.1=k):LR (p::r) k=AP p.2:=by simp[LR,e]
def Ig {p}{r}{k:κ}(e:¬p.1=k):LR (p::r) k=LR r k:=by simp[LR,e]
def uM (kvs)(k:κ)(v):(Ov kvs k v).length<=kvs.length+1:=by
 unfold Ov;grind
def Wg.getD {o}{u d}{d'}(r:Wg o u)(G:RelV d d'):RelV (o.getD d) (u.getD d'):=by
 cases o with
 | none=>cases u with
  | none=>show G
  | some _=>cases r
 | some _=>cases u with
  | none=>cases r
  | some _=>show r
def KV.val {kvs vs}(r:KV kvs vs)(k:κ):Wg (LR kvs k) (valueAt vs k):=by
 induction r with
 | nil=>show True.intro
 | @cons p q ps qs h t G=>
  obtain⟨h1,h2⟩:=h;by_cases e:p.1=k
  have e':=h1.symm.trans e;have b:valueAt (q::qs) k=AP q.2:=by simp[valueAt,e']
  rw[Jg e,b];show h2;have e':¬q.1=k:=λz=>e (h1.trans z)
  have b:valueAt (q::qs) k=valueAt qs k:=by simp[valueAt,e']
  rw[Ig e,b];show G
def KV.any {kvs vs}(r:KV kvs vs)(k:κ):(kvs.any λkv=>decide (kv.1=k))=vs.any λkv=>decide (kv.1=k):=by
 induction r with
 | nil=>rfl
 | cons h t G=>rw[Ze,Ze,G,h.1]
def KV.repl {kvs vs}(r:KV kvs vs)(k:κ){y}{u}(J:RelV y u):
  KV (kvs.map λkv=>if kv.1=k then(kv.1,y)else kv) (vs.map λkv=>if kv.1=k then(kv.1,u)else kv):=by
 induction r with
 | nil=>show .nil
 | @cons p q ps qs h t G=>
  rw[KQ];show .cons ?_ G;lia
def KV.put {kvs vs}(r:KV kvs vs)(k:κ){y}{u}(G:RelV y u):KV (Ov kvs k y) (stored vs k u):=by
 unfold Ov stored;rw[r.any k];by_cases e:(vs.any λkv=>decide (kv.1=k))=true
 rw[if_pos e,if_pos e];show r.repl k G;rw[if_neg e,if_neg e];show Paired.snoc r ⟨rfl,G⟩
def KV.length {kvs}{vs:List (κ×Aj)}(r:KV kvs vs):kvs.length=vs.length:=Zm r
end
def Te {P w}{k u}(r:RelV (kV k) u):(dZ P w).is k u=true:=by
 cases k with
 | inl i=>obtain⟨t,e⟩:=r;subst e;show aje P w i t
 | inr x=>obtain⟨t,e⟩:=r;subst e;show zaq P w x t
section
variable {P:Dm}{w:DX}{H:Hp}{h:Heap}{a:Addr}
def agY {u}(G:MJ P w H h)(e:Rd H a u):fG P w H h a u:=e.ok G
def abf {kvs}(G:MJ P w H h)(e:Rd H a (.dK kvs)):kvs.length<=El/\(a==U0)=false/\∃vs,KV kvs vs/\h.DictOf (dZ P w) a vs:=
 agY G e
def QL {kvs}(G:MJ P w H h)(e:H a=AP (.dK kvs)):kvs.length<=El/\(a==U0)=false/\∃vs,KV kvs vs/\h.DictOf (dZ P w) a vs:=abf G (.inl e)
end
section
variable {X:Cx}{apn:List (Addr×Obj)}{σ:St}{H:Hp}{s:Bc}{a:Addr}{y v:V}{u r:Aj}{o:Option V}{A:Ej}{E:Aj->Bc->Prop}
def Bk.big (I:Bk X apn σ H s):U0<s.heap.objs.size:=Nat.lt_trans ∅ ((I.mod.glob.keeps I.bk).lt)
def Dy {h' t' G}(I:Bk X apn σ H s)(U:Mut (H a))(hs:Qf a s.heap h')(Y:∃q,h'.get? a=AP q)(J:fG X.prog X.w (Dn H a G) h' a G):
  Bk X apn σ (Dn H a G) {s with heap:=h',toks:=t'}:=
 I.write U (.inl rfl) (λb q c z=>(hs.2 b c).trans z) Y J
def Wt {P w}{H'}{h'}{kvs vs}(z:kvs.length<=El)(J:(a==U0)=false)(G:KV kvs vs)(dd:h'.DictOf (dZ P w) a vs):
  fG P w H' h' a (.dK kvs):=⟨z,J,vs,G,dd⟩
end
section
variable {X:Cx}{apn:List (Addr×Obj)}{σ:St}{H:Hp}{s:Bc}{a:Addr}{kvs:List (Key×V)}{k:Key}{u:Aj}{A:Ej}{E:Aj->Bc->Prop}
end
abbrev adW (i:Expr):Prop:=∀G J,subscripted i false G J=operate [G,J] (getItem G J)
def Sg {prog w A}{E s}{env}{value G pos}{T id}{Q}
  (hl:YC (.type T) "__getitem__" = pure (AP (.builtin id))) (hs:adW G)
  (h:CR (Cq prog w) A (eval value env) (λo U=>CR (Cq prog w) A (eval G env) (λi s₂=>s₂.TypeIs o T/\CR (Cq prog w) A (getItem o i) Q E s₂) E U) E s) :
  CR (Cq prog w) A (eval (.Subscript value G pos) env) Q E s:=by
 show Subscript_<|Li h (λo U a=>Li a (λi s₂ J=>?_) λ_ _ x=>x) λ_ _ x=>x
 obtain⟨hT,J⟩:=J;show BL<|BL<|Yo hT hl ?_
 have b:CR (Cq prog w) A (subscripted G false o i) (λr O=>CR (Cq prog w) A (letTemporaryGo value o r >>= λ_=>pure r) Q E O) E s₂:=hs o i ▸ wpAny_operating (Li J (λr O Y=>BL (wpAny_letTemporaryGo (DK Y))) λ_ _ x=>x);first
  | show DK (BL b)
  | show BL b
section
variable {X:Cx}{o i e value:Expr}{pos pos' tpos:Pos}{td ty tv:TE}
end
def Hy {P w H}(h:Heap)(G:U0<h.objs.size):fG P w H (h.push {cls:=.type "dict",data:=.dict #[]}) h.objs.size (.dK []):=
 {Pz _,beq_eq_false_iff_ne.mpr (Ke (KC G)),[],.nil,Heap.DictOf.new h}
def zbZ {P w H}(h:Heap)(G:U0<h.objs.size):fG P w H (h.push {cls:=.type "dict",data:=.dict #[]}) h.objs.size (.dT []):=
 {Pz _,beq_eq_false_iff_ne.mpr (Ke (KC G)),[],.nil,_,#[],0,Kf _ rfl,⟨rfl,rfl,rfl⟩,rfl,rfl,List.nodup_nil}
abbrev aeh:TE:=λ_ H Q=>∀p,H p=Af->Q (.ref p) (Dn H p (.dK []))
section
variable {X:Cx}{pos:Pos}
def zbC:PE X (.Dict [] [] pos) aeh:=λapn s σ H Q I h=>
 wpAny_Dict_empty {.ref _,_,I.laid (λ_ _ q=>FW _ q) (Em _) (Hy _ I.big),rfl,h _ (I.hok.fresh (Em _))}
end
abbrev Ik:List (TE×TE)->St->Hp->(List (V×V)->Hp->Prop)->Prop
 | [],_,H,Q=>Q [] H
 | (tk,tv)::r,σ,H,Q=>tk σ H λx H1=>tv σ H1 λy H2=>Ik r σ H2 λps H3=>Q ((x,y)::ps) H3
@[reducible]noncomputable def VV:List (V×V)->List (Aj×Aj)->Prop:=Qv λp q=>RelV p.1 q.1/\RelV p.2 q.2
abbrev PPs (X:Cx)(pos:Pos)(keys:List (Option Expr))(G:List Expr)(trs:List (TE×TE)):Prop:=
 ∀(apn:List (Addr×Obj)) (s:Bc) (σ:St) (H:Hp) (Q:List (V×V)->Hp->Prop),Bk X apn σ H s->Ik trs σ H Q ->
  CR (Cq X.prog X.w) X.A (evalPairs (pairTrees keys G X.env pos)) (λvs s'=>∃ps H',Bk X apn σ H' s'/\VV ps vs/\Q ps H') X.xe s
def aaP {X}{pos}:PPs X pos [] [] []:=λapn s σ H Q I h=>pairTrees_nil_walk {[],H,I,.nil,h}
variable {ks:List (Option Expr)}{trs:List (TE×TE)}
def zcb {X}{pos}{k v}{vs tk tv}(g:PE X k tk)(e:PE X v tv)(f:PPs X pos ks vs trs):
  PPs X pos (AP k::ks) (v::vs) ((tk,tv)::trs):=λapn s σ H Q I h=>
 pairTrees_cons_walk (Eu (g apn s σ H _ I h) λu O ⟨x,H1,l,Y,d⟩=>Eu (e apn O σ H1 _ l d) λw2 J ⟨y,H2,j,U,c⟩=>
  Eu (f apn J σ H2 _ j c) λws n a=>by obtain⟨ps,m,i,G,b⟩:=a;show {(x,y)::ps,m,i,.cons ⟨Y,U⟩ G,b})
abbrev uO (kvs G:List (Key×V)):List (Key×V):=G.foldl (λacc kv=>Ov acc kv.1 kv.2) kvs
def KV.merge:∀{G J kvs vs},KV G J->KV kvs vs->KV (uO kvs G) (merged vs J):=by
 intro G J kvs vs r;induction r generalizing kvs vs with
 | nil=>intro q;show q
 | @cons p q ps qs h t U=>
  intro O;have e:KV (Ov kvs p.1 p.2) (stored vs q.1 q.2):=by
   have:=O.put p.1 h.2
   simp_all
  show U e
def oY:∀G kvs,(uO kvs G).length<=kvs.length+G.length
 | [],kvs=>by change kvs.length<=kvs.length+0;lia
 | p::r,kvs=>by
  have h1:=oY r (Ov kvs p.1 p.2);have h2:=uM kvs p.1 p.2;change(uO _ r).length<=_;grind
def vO {P w}:∀{kvs ws},VV (kvs.map λkv=>(kV kv.1,kv.2)) ws->∃G,Carries (dZ P w) ws G/\KV kvs G
 | [],_,r=>by cases r;show{[],True.intro,.nil}
 | p::kvs,_,r=>by
  cases r with
  | @cons a b as bs h t=>
   obtain⟨G,c,q⟩:=vO t;obtain⟨O,J⟩:=b;show{(p.1,J)::G,{Te h.1,rfl,c},.cons ⟨rfl,h.2⟩ q}
abbrev ahl (trs:List (TE×TE)):TE:=fun σ H Q=>∀p,H p=Af->Ik trs σ (Dn H p (.dK [])) λps H2=>H2 p=AP (.dK [])/\∃kvs:List (Key×V),ps=kvs.map (λkv=>(kV kv.1,kv.2))/\kvs.length<=15/\Q (.ref p) (Dn H2 p (.dK (uO [] kvs)))
variable {keys:List (Option Expr)}
def akj {X}{pos}{G}(h:PPs X pos keys G trs)(J:keys.all (·.isSome)=true)(hl:keys.length=G.length)(h0:keys≠[])
  (Y:keys.length<=15):PE X (.Dict keys G pos) (ahl trs):=by
 intro apn s σ H Q I q;show wpAny_Dict_walk (knd:=dZ _ _) J hl h0 Y<|Eu (h apn _ σ _ _ (I.laid (λ_ _ q=>FW _ q) (Em _)<|Hy _ I.big)<|q _<|I.hok.fresh<|Em _) λws n a=>?_;obtain⟨ps,H2,b,U,e,kvs,ep,o,i⟩:=a
 subst ep;obtain⟨f,c,rk⟩:=vO U;obtain⟨z,m,d,g,dd⟩:=QL b.hok e;cases g;show{f,c,dd,λh' O hs=>{.ref _,_,?_,rfl,i}};have k:(uO [] kvs).length<=El:=by
  have h1:=oY kvs [];rw[List.length_nil]at h1;rw[Yz];lia
 show Dy b (e ▸ True.intro) hs (let⟨q,_,_,l,_⟩:=O;⟨q,l⟩)<|Wt k m (rk.merge .nil) O
abbrev afv:W->Option Key
 | .int i=>AP (.inl i)
 | .str x=>AP (.inr x)
 | _=>Af
abbrev lg (kvs:List (Key×W))(k:Key):Option W:=(kvs.find? λkv=>decide (kv.1=k)).map (·.2)
abbrev abn (kvs:List (Key×W))(k:Key)(w:W):List (Key×W):=
 if(kvs.any λkv=>decide (kv.1=k))=true then kvs.map (λkv=>if kv.1=k then(kv.1,w)else kv)else kvs++[(k,w)]
section
variable {K:CQ}{H:Hp}{kvs:List (Key×W)}{kvv:List (Key×V)}{k:Key}{w:W}{v:V}
def rJ (r:DW K H μ w v)(e:afv w=AP k):v=kV k:=by
 cases w with
 | int i|str x=>rw[DW]at r;cases e;show r
 | _=>cases e
def vg.val (r:vg K H μ kvs kvv)(e:lg kvs k=AP w):∃v,LR kvv k=AP v/\DW K H μ w v:=by
 induction r with
 | nil=>cases e
 | @cons p q ps qs h t G=>
  by_cases z:p.1=k
  have e1:lg (p::ps) k=AP p.2:=by simp[lg,z]
  rw[e1]at e;cases e;show{q.2,Jg<|h.1.symm.trans z,h.2};have e1:lg (p::ps) k=lg ps k:=by simp[lg,z]
  rw[e1]at e;obtain⟨v,a,b⟩:=G e;show{v,by rwa[Ig<|λy=>z<|h.1.trans y],b}
def vg.any (r:vg K H μ kvs kvv)(k):(kvs.any λkv=>decide (kv.1=k))=(kvv.any λkv=>decide (kv.1=k)):=by
 induction r with
 | nil=>rfl
 | @cons p q ps qs h t G=>rw[Ze,Ze,G,h.1]
def vg.repl (r:vg K H μ kvs kvv)(J:DW K H μ w v)(k):vg K H μ (kvs.map λkv=>if kv.1=k then(kv.1,w)else kv) (kvv.map λkv=>if kv.1=k then(kv.1,v)else kv):=by
 induction r with
 | nil=>show .nil
 | @cons p q ps qs h t G=>
  rw[KQ];show .cons ?_ G;grind
def vg.put (r:vg K H μ kvs kvv)(G:DW K H μ w v)(k):vg K H μ (abn kvs k w) (Ov kvv k v):=by
 unfold abn Ov;rw[<-r.any k];by_cases e:(kvs.any λkv=>decide (kv.1=k))=true
 rw[if_pos e,if_pos e];show r.repl G k;rw[if_neg e,if_neg e];show Paired.snoc r ⟨rfl,G⟩
def Dz.dctAt {h}{n}(R:Dz K μ H h)(e:h.c n=AP (.dct kvs)):∃p kvv,μ.f n=AP p/\H p=AP (.dK kvv)/\vg K H μ kvs kvv:=by
 obtain⟨p,e1,xs,e2,r⟩:=R.cel n _ e;simp_all
end
section
variable {X:Cx}{a b:Expr}{mb:ME}{pos:Pos}
abbrev Xj:M2:=λx y h Q=>match x,afv y with
 | .loc n,AP k=>(match h.c n with
  | some (.dct kvs)=>(match lg kvs k with
   | some w=>Q w h
   | none=>False)
  | _=>False)
 | _,_=>False
def zbQ {o i td ty}(j:PE X o td)(hi:PE X i ty)(hs:adW i):PE X (.Subscript o i pos) (fun σ H Q=>td σ H λx H1=>ty σ H1 λy H2=>∃a kvs k v,x=.ref a/\Rd H2 a (.dK kvs)/\y=kV k/\LR kvs k=AP v/\Q v H2):=by
 intro apn s σ H Q I h;show Sg PySem.F.slot_dict_getitem.lookup hs<|Eu (j apn s σ H _ I h) λu U ⟨x,H1,n,c,f⟩=>Eu (hi apn U σ H1 _ n f) λiv r b=>?_;obtain⟨y,H2,O,Y,a,kvs,k,v,ex,e,m,l,d⟩:=b
 subst ex m;obtain rfl:u=Value.ref a:=c;obtain⟨z,t,q,J,dd⟩:=abf O.hok e;obtain⟨p,g,G⟩:=Wg.some_of (l ▸ J.val k);show{dd.typeIs,wpAny_getItem_of (Te Y) dd.mapOf g {v,H2,O.tok _,G,d}}
def aeT (i:DE X a ma)(g:DE X b mb)(hs:adW b):DE X (.Subscript a b pos) (Av Xj ma mb):=(zbQ i g hs).of fun σ H Q h=>two h λ{H2 μ2 h2 x y q o r} R Y U m k=>by
 unfold Xj at m;split at m
 rename_i n c e;split at m
 rename_i kvs l;split at m
 rename_i w j;obtain⟨p,kvv,f,d,O⟩:=R.dctAt l;obtain⟨p',e1,G⟩:=Y;obtain rfl:=by rw[f]at G;show(Ky G).symm
 obtain⟨v,e2,J⟩:=O.val j;show{p',kvv,c,v,e1,.inl d,rJ U e,e2,k _ _ {μ2,w,h2,.refl,R,J,m}};cases m;cases m;cases m
abbrev ac3:aal:=λo i v H N=>∃a kvs k,o=.ref a/\H a=AP (.dK kvs)/\i=kV k/\kvs.length<El/\N (Dn H a (.dK (Ov kvs k v)))
def set_dict:ael X ac3:=by
 rintro apn s σ H o i v Y j u Q I ro U O ⟨a,kvs,k,f,e,g,l,q⟩;subst f g;obtain rfl:Y=Value.ref a:=ro;obtain⟨z,d,h,G,dd⟩:=QL I.hok e;show wpAny_setItem_pairs (hsz:=(G.length ▸ z)) (Te U) dd λh' J hs=>{_,?_,q};show Dy I (e ▸ True.intro) hs (let⟨q,_,_,c,_⟩:=J;⟨q,c⟩)<|Wt (by have:=uM kvs k v;lia) d (G.put k O) J
abbrev uR:aa4:=λo i w h N=>match o,afv i with
 | .loc n,AP k=>(match h.c n with
  | some (.dct kvs)=>fQ (kvs.length+1) (N (h.set n (.dct (abn kvs k w))))
  | _=>False)
 | _,_=>False
def lB {K}:Jz K ac3 uR:=by
 intro H μ h o i v d wi w f N R ro Y r m k;unfold uR at m;split at m
 rename_i n U e;split at m
 rename_i kvs b;obtain⟨p,kvv,J,a,O⟩:=R.dctAt b;obtain⟨p',e1,G⟩:=ro;obtain rfl:=by rw[J]at G;show(Ky G).symm
 show{p',kvv,U,e1,a,rJ Y e,?_,k _ {μ,_,(Ex.write R J).ext,R.write (c:=.dct _) J trivial {_,aV,(vg.put (Paired.mapP O λ_ _ z=>{z.1,(Ex.write R J).ext.r _ _ z.2}) ((Ex.write R J).ext.r _ _ r) U)},m.ok.2}};have:=m.ok.1
 rw[Zm O]at this;lia;cases m;cases m
abbrev mDs:List (Key×ME)->MA
 | [],_,h,Q=>Q [] h
 | p::r,σ,h,Q=>p.2 σ h λw h1=>mDs r σ h1 λws h2=>Q (w::ws) h2
abbrev mkD:List (Key×ME)->List W->List (Key×W)->List (Key×W)
 | p::r,w::ws,acc=>mkD r ws (abn acc p.1 w)
 | _,_,acc=>acc
abbrev aex (r:List (Key×ME)):ME:=fun σ h Q=>mDs r σ (h.new (.dct [])) λws h2=>match h2.c h.nx with
 | some (.dct [])=>Q (.loc h.nx) (h2.set h.nx (.dct (mkD r ws [])))
 | _=>False
inductive Uk (X:Cx):List (Option Expr)->List Expr->List (Key×ME)->Prop
 | nil:Uk X [] [] []
 | cons {x:Str} {j pos} {v:Expr}{m:ME}{ks:List (Option Expr)}{vs:List Expr}{r:List (Key×ME)}(h:DE X v m) (t:Uk X ks vs r):Uk X (AP (.Constant (.str x) j pos)::ks) (v::vs) ((.inr x,m)::r)
abbrev trD (K:CQ)(r:List (Key×ME)):List (TE×TE):=r.map λp=>(tC (kV p.1),tD K p.2)
def Uk.pps {vs}{r}(h:Uk X ks vs r):PPs X pos ks vs (trD X.K r):=by
 induction h with
 | nil=>show aaP
 | cons h t G=>show zcb W5 h G
def Uk.all {ks vs}{r}(h:Uk X ks vs r):ks.all (·.isSome)=true/\ks.length=vs.length/\ks.length=r.length:=by
 induction h with
 | nil=>show⟨rfl,rfl,rfl⟩
 | cons h t G=>show{by rw[List.all_cons,G.1];rfl,by rw[Od,Od,G.2.1],by rw[Od,Od,G.2.2]}
def Hh {K}:∀{r σ H μ h}{σw}{G}{Q},Dz K μ H h->Slots K H μ σw σ->mDs r σw h G ->
  (∀vs ws H' μ' h',K5 K H μ H' μ'->Dz K μ' H' h'->aP K H' μ' ws vs->vs.length=r.length->G ws h'->Q ((r.zip vs).map λp=>(kV p.1.1,p.2)) H')->Ik (trD K r) σ H Q
 | [],σ,H,μ,h,σw,G,Q,R,S,m,k=>k [] [] H μ h .refl R aP.nil rfl m
 | p::r,σ,H,μ,h,σw,G,Q,R,S,m,k=>{μ,h,σw,_,R,S,m,λv H1 a=>by obtain⟨μ1,w,h1,e1,U,O,m1⟩:=a;show (Hh U (S.ext e1) m1 λvs ws H2 μ2 h2 e2 R2 J hl q=>(k _ _ H2 μ2 h2 (e1.trans e2) R2 (aP.cons (e2.r _ _ O) J) (by rw[Od,Od,hl]) q))}
def Xc {K H μ}:∀{r ws vs}{acc}{G},aP K H μ ws vs->vs.length=r.length->vg K H μ acc G ->
  vg K H μ (mkD r ws acc) (uO G ((r.zip vs).map λp=>(p.1.1,p.2)))
 | [],ws,vs,acc,G,J,hl,U=>by
  assumption
 | p::r,ws,vs,acc,G,J,hl,U=>by
  cases ws with
  | nil=>rw[aP]at J;subst J;cases hl
  | cons w ws=>
   obtain⟨v,Y,e,a,O⟩:=J;subst e;show Xc (r:=r) O (by simpa using hl)<|U.put a _
def acn {vs}{r}(h:Uk X ks vs r)(h0:ks≠[])(O:ks.length<=15):DE X (.Dict ks vs pos) (aex r):=
 (akj h.pps h.all.1 h.all.2.1 h0 O).of fun σ H Q a p U=>by
  obtain⟨μ,g,σw,l,R,S,m,q⟩:=a;have k:Dz _ _ (Dn H p (.dK [])) (g.new (.dct [])):=R.newCell U trivial {[],aV,.nil};have e1:=(Ex.newCell (o:=.dK []) R U).ext;show Hh k (S.ext e1) m λvs' ws H2 μ2 h2 e2 R2 b hl z=>?_;split at z
  rename_i j;obtain⟨p',kvv,J,i,d⟩:=R2.dctAt j;have e:DW X.K (Dn H p (.dK [])) (μ.put g.nx p) (.loc _) (.ref p):=⟨p,rfl,Mu.put_same⟩
  obtain⟨f,ep,G⟩:=(e2.r _ _ e)
  cases ep;obtain rfl:=by rw[G]at J;show(Ky J).symm
  cases d;show{i,(r.zip vs').map (λp=>(p.1.1,p.2)),by rw[Uy];rfl,?_,?_};rw[Ds,List.length_zip,hl,<-h.all.2.2,Nat.min_self];show O;have Y:=(Ex.write (o:=.dK (uO [] ((r.zip vs').map (λp=>(p.1.1,p.2))))) R2 G).ext;show q _ _ {μ2,.loc _,_,(e1.trans e2).trans Y,R2.write (c:=.dct _) G trivial {_,aV,(Xc (Y.s b) hl .nil)},⟨p',rfl,G⟩,z};cases z
end
section
variable {X:Cx}{b:Expr}{mb:ME}{pos p:Pos}{x:Str}{a:Addr}{tbl:List (Key×W)}
end
variable {tbl:List (Key×W)}
section
variable {X:Cx}{pos p p':Pos}{x:Str}{a:Addr}
end
section
variable {X:Cx}
end
section
variable {X:Cx}{K:CQ}{H:Hp}{h:Gh}
end
section
variable {X:Cx}{a b c:Expr}{mb mc:ME}{pos:Pos}
end
section
variable {K:CQ}{H:Hp}{fs:List (Str×W)}{fvs:List (Str×V)}{f:Str}{w:W}{v:V}
end
section
variable {X:Cx}{e o value:Expr}{es:List Expr}{mv:ME}{f:Str}{C:Addr}{pos pos' apos:Pos}
end
section
variable {prog:Dm}{w:DX}{A:Ej}{E:Aj->Bc->Prop}{s:Bc}
def alX:YC (.type "list_reverseiterator") "__len__" = pure Af:=by rw[Yl,fM];kernel_rfl
def akZ:YC (.type "list_reverseiterator") "__length_hint__" = pure (AP (.builtin "list_reverseiterator.__length_hint__")):=by rw[Yl,fM];kernel_rfl
def ald {r}{Q}(hT:s.TypeIs (.ref r) "list_reverseiterator")(h:Q false s):CR (Cq prog w) A (Builtin.List.listLengthHint (.ref r)) Q E s:=by
 show BL<|Yo hT alX ?_
 show BL<|Yo hT akZ ?_
 generalize G:("list_reverseiterator.__length_hint__" : String)=J;subst G;show BL<|Zu (T := "list_reverseiterator") (b:=true) hT (by rw[ZM];kernel_rfl) ?_
 show DK h
def ajv {R r l}{items}(hh:A.handled=Af)(hit:s.heap.IsRevIter r l ((items.size:Int)-1))(hl:s.heap.IsList l items)(u:l≠r)(S)(p:S≠r)(x:S≠l)(U)(Y)(z:s.heap.get? S=AP {cls:=.type "list",data:=.seq #[] Y})
  (F:∀h' tk G g,(∀b o,b≠S->b≠r->s.heap.get? b=AP o->h'.get? b=AP o)->h'.get? S=AP {cls:=.type "list",dict:=Af,data:=.seq G g,slots:=#[]}->ItemsOf (λi v=>items[items.size-1-i]?=AP v) G items.size->R (.ok (.ret U)) {s with heap:=h',toks:=tk}) (D:items.size<=El) :
  CR (Cq prog w) A.in1 (Builtin.List.listExtendWith (.ref S) (.ref r) U)
   (λfin s'=>match fin with|.done f=>R (.ok f) s'|.again g=>g.quiet=true/\Qt (Cq prog w) A g R s') (λe s'=>R (.error e) s') s:=by
 have q:S∉[r,l]:=by simp only[M5,Qz,or_false,not_or];show⟨p,x⟩
 have W:=Walks.listRev (prog:=prog) (w:=w) (A:=A.in1) hh r l u items;have st:(λ(i:Nat) (h:Heap)=>i<=items.size/\h.IsRevIter r l ((items.size:Int)-1-(i:Int))/\h.IsList l items) 0 s.heap:={Pz _,by simpa using hit,hl}
 have j:∀(h:Heap) (O tk:Nat),(λ(i:Nat) (h:Heap)=>i<=items.size/\h.IsRevIter r l ((items.size:Int)-1-(i:Int))/\h.IsList l items) 0 h->(∀b o,b≠S->s.heap.get? b=AP o->h.get? b=AP o) ->
   h.get? S=AP {cls:=.type "list",data:=.seq #[] O}->Qt (Cq prog w) A (.builtin "list.extend.loop" {[.ref S,.ref r,U],[]}) R {s with heap:=h,toks:=tk}:=by
  intro h O tk t E d;show codeAny_extend_loopS W.toS D S q U items.size 0 _ #[] O rfl (Pz _) t d (ItemsOf.nil _) λs' G g B y n=>?_;rw[Moved.eq_with B];show F s'.heap s'.toks G g (λb o a C e=>B.heap b o (λhmem=>?_)<|E b o a e) y n;rcases M5.mp hmem with e'|hmem
  show a e';show C<|R6.mp hmem
 unfold Builtin.List.listExtendWith;show BL<|YB (T := "list_reverseiterator") hit.typeIs ?_
 have h1:Builtin.List.listSameRef (.ref S) (.ref r)=false:=by simp[Builtin.List.listSameRef,p]
 have n1:(Value.type "list_reverseiterator"==Value.type "list")=false:=by decide +kernel
 have n2:(Value.type "list_reverseiterator"==Value.type "tuple")=false:=by decide +kernel
 simp only[h1,n1,n2,Bool.or_false,uT,if_false];show BL<|wpAny_pyIter_revIter hit ?_
 show BL<|N7<|ald hit.typeIs ?_
 show wpAny_ite_split (λ_=>?_)<|λ_=>DK {Vc PySem.F.plain_extend_loop _,j _ Y _ st (λb o _ e=>e) z}
 show BL<|Va ?_
 show BL ?_;change CR _ _ (updateSeq S (·.push .none) >>= λ_=>updateSeq S (·.pop)) _ _ _;show BL<|wpAny_updateSeq z rfl ?_
 have J:=R7 (Yw (·.push Value.none)) z rfl;show wpAny_updateSeq (hz:=by seq_fits) J rfl ?_;have c:=R7 (Yw (·.pop)) J rfl;show DK {Vc PySem.F.plain_extend_loop _,j _ _ _ ?_ (λb o a e=>?_) c};show W.frame 0 _ _ st λb a o e=>?_;have m:b≠S:=λh=>q (h ▸ a)
 show(Ql _ _<|Ke m).trans ((Ql _ _<|Ke m).trans e);show(Ql _ _<|Ke a).trans ((Ql _ _<|Ke a).trans e)
end
def akh:∀{xs}{us},Cg xs us->Cg xs.reverse us.reverse:=by
 intro xs us r;induction r with
 | nil=>show .nil
 | cons h t G=>
  rw[uQ,uQ];show Cg.append G<|.cons h .nil
def JL {K H μ}:∀{ws vs},aP K H μ ws vs->aP K H μ ws.reverse vs.reverse
 | [],vs,r=>by subst r;show aP.nil
 | w::ws,vs,r=>by
  obtain⟨v,G,e,J,r⟩:=r;subst e;rw[uQ,uQ];show aP.append (JL r)<|aP.cons J aP.nil
section
variable {X:Cx}
end
section
variable {X:Cx}{e:Expr}{me:ME}{x:Str}{a:Addr}{p pos:Pos}
end
section
variable {X:Cx}{C:Addr}{o e:Expr}{es:List Expr}{pos apos:Pos}
end
abbrev Dh (kvs:List (List Int×W))(k:List Int):Option W:=(kvs.find? λx=>decide (x.1=k)).map (·.2)
abbrev abP (kvs:List (List Int×W))(k:List Int)(w:W):List (List Int×W):=if(Dh kvs k).isSome then kvs.map (λx=>if x.1=k then(x.1,w)else x)else kvs++[(k,w)]
section
variable {X:Cx}{apn:List (Addr×Obj)}{σ:St}{H:Hp}{s:Bc}{K:CQ}
abbrev U3 (K:CQ)(H:Hp)(xs:List (List Int×Addr×Aj)):Prop:=∀x∈xs,KJ K H x.2.1 (x.1.map V.int)
def Cy {b}{k}(I:Bk X apn σ H s)(a:KJ X.K H b (k.map V.int)):(tupleKind (O8 X.prog X.w)).is s.heap k b:=by
 obtain⟨J,O,⟨o,U,G,n,Y⟩,_⟩:=I.tuple a;show{o,_,_,U,G,Y,yj O}
def Fq {a}{xs}(I:Bk X apn σ H s)(e:H a=AP (.ext (TF a xs)))(O:U3 X.K H xs):xs.length<=El/\(a==U0)=false/\s.heap.DictOfH (tupleKind (O8 X.prog X.w)) a xs:=by
 obtain⟨⟨z,y,G,o,es,ep,h1,h2,Y,U⟩,_⟩:=I.hok a _ e;show{z,y,o,es,ep,h1,h2,Y,U,λx J=>Cy I<|O x J,G}
def MP {P w}{H'}{a}{xs h}(z:xs.length<=El)(y:(a==U0)=false)(d:h.DictOfH (tupleKind (O8 P w)) a xs):fG P w H' h a (.ext (TF a xs)):=by
 obtain⟨o,es,ep,h1,h2,U,O,_,J⟩:=d;show{⟨z,y,J,o,es,ep,h1,h2,U,O⟩,⟨o,h1⟩,λg1 c b k=>by obtain⟨z,y,G,o,es,ep,a1,a2,a3,Y⟩:=b;show {z,y,G,o,es,ep,k o a1,a2,a3,Y}}
def aa7 {x}{xs}{k:List Int}:atKey (x::xs) k=if x.1=k then AP x.2 else atKey xs k:=by
 unfold atKey;grind
def zbX {x}{kvs k}:Dh (x::kvs) k=if x.1=k then AP x.2 else Dh kvs k:=by
 unfold Dh;grind
def yZ:∀{kvs}{xs vs},kvs.map (·.1)=xs.map (·.1)->Cg vs (xs.map (·.2.2))->aP K H μ (kvs.map (·.2)) vs->∀k,
  (∀w,Dh kvs k=AP w->∃p v,atKey xs k=AP p/\RelV v p.2/\DW K H μ w v)/\(Dh kvs k).isSome=(atKey xs k).isSome
 | [],[],_,_,_,_,k=>{λw e=>by simp[Dh]at e,rfl}
 | x::kvs,y::xs,vs,e,O,U,k=>by
  rw[KQ]at e;obtain⟨e1,e2⟩:=Vz e;obtain⟨v,G,rfl,Y,J⟩:=U;cases O with
  | cons a b=>
   obtain⟨d,c⟩:=yZ e2 b J k;rw[zbX,aa7,e1];by_cases z:y.1=k
   grind
   rw[if_neg z,if_neg z];simp_all
def Dz.dttAt {h}{n}{kvs}(R:Dz K μ H h)(e:h.c n=AP (.dtt kvs)):∃p xs vs,μ.f n=AP p/\H p=AP (.ext (TF p xs))/\kvs.map (·.1)=xs.map (·.1)/\Cg vs (xs.map (·.2.2))/\aP K H μ (kvs.map λx=>W.tup (x.1.map W.int)) (xs.map λx=>V.ref x.2.1)/\aP K H μ (kvs.map (·.2)) vs:=by
 obtain⟨p,e1,xs,vs,a,b,c,d,f⟩:=R.cel n _ e;grind
def G4:∀{k:List Int}{vs},aP K H μ (k.map W.int) vs->vs=k.map V.int
 | [],_,h=>h
 | i::k,_,h=>by
  obtain⟨v,vs,rfl,r,t⟩:=h;rw[r,G4 t];rfl
def amU {k:List Int}{b}(r:DW K H μ (.tup (k.map .int)) (.ref b)):KJ K H b (k.map V.int):=by
 obtain⟨p,xs,e,hs,G⟩:=r;cases e
 rwa[G4 G]at hs
def oR:∀{kvs:List (List Int×W)}{xs},kvs.map (·.1)=xs.map (·.1)->aP K H μ (kvs.map λx=>W.tup (x.1.map W.int)) (xs.map λx=>V.ref x.2.1)->U3 K H xs
 | [],[],_,_=>λx a=>nomatch a
 | x::kvs,y::xs,e,O=>by
  rw[KQ]at e;obtain⟨e1,e2⟩:=Vz e;rw[KQ]at O;obtain⟨v,U,b,J,Y⟩:=O;obtain⟨rfl,rfl⟩:=Vz b;intro z G;rcases M5.mp G with rfl|G
  rw[e1]at J;show amU J;show oR e2 Y z G
end
section
variable {X:Cx}{a b o i:Expr}{mb:ME}{td ty:TE}{pos:Pos}
abbrev ZD:W->Option (List Int)
 | .tup ws=>qj ws
 | _=>Af
abbrev aga:M2:=λx y h Q=>match x,ZD y with
 | .loc n,AP k=>(match h.c n with
  | some (.dtt kvs)=>(match Dh kvs k with
   | some w=>Q w h
   | none=>False)
  | _=>False)
 | _,_=>False
def rE {K H y v}{k}(r:DW K H μ y v)(e:ZD y=AP k):∃b,v=.ref b/\KJ K H b (k.map V.int):=by
 unfold ZD at e;split at e
 obtain⟨p,xs,e1,hs,G⟩:=r;show rK G e ▸ ⟨p,e1,hs⟩;cases e
def Ce {k v}:∀{xs:List (List Int×Addr×Aj)},(xs.map (putAt k v)).map (·.1)=xs.map (·.1)
 | []=>rfl
 | x::xs=>by
  rw[KQ,KQ,Ce];unfold putAt;grind
def z7 {k v}:∀{xs:List (List Int×Addr×Aj)},(xs.map (putAt k v)).map (λx=>V.ref x.2.1)=xs.map (λx=>V.ref x.2.1)
 | []=>rfl
 | x::xs=>by
  rw[KQ,KQ,z7];unfold putAt;grind
abbrev adX (K:CQ):aal:=λo i v H N=>∃a xs k b,o=.ref a/\H a=AP (.ext (TF a xs))/\U3 K H xs/\i=.ref b/\KJ K H b (k.map V.int)/\xs.length<El/\∀u,RelV v u->N (Dn H a (.ext (TF a (storedH xs k b u))))
def zaI {xs}{k:List Int}{b u}:(storedH xs k b u).length<=xs.length+1:=by
 unfold storedH;grind
def zbB (n:X.A.units+30<Lb):ael X (adX X.K):=by
 rintro apn s σ H o i v U Y u Q I ro O J ⟨a,xs,k,b,j,e,f,m,h,l,q⟩;subst j m;obtain rfl:U=Value.ref a:=ro;obtain rfl:Y=Value.ref b:=O;obtain⟨z,g,dd⟩:=Fq I e f;show wpAny_setItem_heap (hsz:=z) (tupleKind_room_in1<|⋯) (Cy I h) dd λh' G hs=>{_,?_,q u J};show Dy I (e ▸ True.intro) hs (let⟨q,_,_,d,_⟩:=G;⟨q,d⟩)<|MP (by have:=zaI (xs:=xs) (k:=k) (b:=b) (u:=u);lia) g G
abbrev Q0:aa4:=λo i w h N=>match o,ZD i with
 | .loc n,AP k=>(match h.c n with
  | some (.dtt kvs)=>fQ (kvs.length+1) (N (h.set n (.dtt (abP kvs k w))))
  | _=>False)
 | _,_=>False
def Ry {K H μ}{k w v}{u}(c:RelV v u)(r:DW K H μ w v):∀{kvs:List (List Int×W)}{xs:List (List Int×Addr×Aj)}{vs},kvs.map (·.1)=xs.map (·.1)->Cg vs (xs.map (·.2.2))->aP K H μ (kvs.map (·.2)) vs ->
  ∃J,Cg J ((xs.map (putAt k u)).map (·.2.2))/\aP K H μ ((kvs.map (λx=>if x.1=k then(x.1,w)else x)).map (·.2)) J
 | [],[],_,_,_,_=>{[],.nil,by rw[Uz,Uz,aP]}
 | x::kvs,y::xs,vs,e,f,g=>by
  obtain⟨e1,e2⟩:=Vz e;obtain⟨O,J,rfl,h,d⟩:=g;cases f with
  | cons a b=>
   obtain⟨G,Y,U⟩:=Ry c r e2 b d;by_cases z:y.1=k
   show{v::G,?_,?_};show .cons ?_ Y;unfold putAt
   rwa[if_pos z]
   rw[KQ];show{v,G,rfl,?_,U}
   rwa[if_pos (e1.trans z)]
   show{O::G,?_,?_};show .cons ?_ Y;unfold putAt
   rwa[if_neg z]
   rw[KQ];show{O,G,rfl,?_,U}
   rwa[if_neg (λq=>z (e1.symm.trans q))]
def Q7 {k w}:∀{kvs:List (List Int×W)},(kvs.map (λx=>if x.1=k then(x.1,w)else x)).map (·.1)=kvs.map (·.1)
 | []=>rfl
 | x::kvs=>by
  rw[KQ,KQ,Q7];grind
def Oj {k w}:∀{kvs:List (List Int×W)},(kvs.map (λx=>if x.1=k then(x.1,w)else x)).map (λx=>W.tup (x.1.map W.int))=kvs.map (λx=>W.tup (x.1.map W.int))
 | []=>rfl
 | x::kvs=>by
  rw[KQ,KQ,Oj];grind
def aP.snoc {K H μ w v}(r:DW K H μ w v):∀{ws vs},aP K H μ ws vs->aP K H μ (ws++[w]) (vs++[v])
 | [],_,h=>by
  rw[h];show{v,[],rfl,r,by rw[aP]}
 | a::ws,_,h=>by
  obtain⟨b,bs,rfl,h1,h2⟩:=h;show{b,bs++[v],rfl,h1,aP.snoc r h2}
def rD {K H μ}:∀k:List Int,aP K H μ (k.map W.int) (k.map V.int)
 | []=>by rw[Uz,Uz,aP]
 | i::k=>{_,_,rfl,by rw[DW],rD k}
def zbK {K}:Jz K (adX K) Q0:=by
 intro H μ h o i v A wi w B N R ro l r m k;unfold Q0 at m;split at m
 ·rename_i n J e;split at m
  ·rename_i kvs x;obtain⟨p,xs,j,d,u,e1,e2,c,a⟩:=R.dttAt x;obtain⟨p',ex,O⟩:=ro;obtain rfl:=by rw[d]at O;show(Ky O).symm
   obtain⟨b,y,g⟩:=rE l e;have z:=by have:=congrArg Uo e1;rwa[Ds,Ds]at this
   have G:=λ(o:HO)=>(Ex.write (o:=o) R d).ext
   show{p',xs,J,b,ex,u,oR e1 c,y,g,by have:=m.ok.1;lia,λu f=>k _ {μ,_,G _,R.write d trivial ?_,m.ok.2}};have hs:=(yZ e1 e2 a J).2;cases U:atKey xs J with
   | some q=>
    rw[U]at hs;obtain⟨Y,t,s⟩:=Ry f r e1 e2 a;rw[storedH_old U];unfold abP;rw[if_pos (show(Dh kvs J).isSome=true from hs)];show{_,Y,aV,Q7.trans<|e1.trans Ce.symm,t,by rw[Oj,z7];show(G _).s c,(G _).s s}
   | none=>
    rw[U]at hs;rw[storedH_new U];unfold abP;rw[if_neg (by rw[hs];decide)];show{_,j++[v],aV,?_,?_,?_,?_};rw[NP,NP,e1];rfl;rw[NP];show Cg.append e2 (.cons f .nil);rw[NP,NP];show(G _).s (aP.snoc (by show{b,_,rfl,g,rD J}) c);rw[NP];show(G _).s (aP.snoc r a)
  cases m
 cases m
end
section
variable {prog:Dm}{w:DX}{A:Ej}{E:Aj->Bc->Prop}{s:Bc}
end
section
variable {X:Cx}
end
abbrev reo (es:Array (Int×Aj))(laid:Option (Ui×Array Nat)):Sem (Array (Int×Aj)×Ui):=do
 let AP (t,order):=laid|Z3 "internal:set-table-without-room"
 let es':=order.filterMap (es[·]?)
 if es'.size != es.size then Z3 "internal:set-table-lost-an-element"
 pure (es',t)
def akW (a)(G):setRelay a G=(do
 let(es,_,t) <-setState a
 if SetTable.sizeAbove G>El then Z3 "set:memory"
 let(es,t) <-reo es (t.relaid (es.map (·.1)) G)
 storeSet a es t):=rfl
abbrev ps (h:Int):Nat->Nat×Nat
 | 0=>(Uc h % 32,Uc h)
 | n+1=>SetTable.leap 31 (ps h n).1 (ps h n).2
def adY (h):∀n,(ps h n).1<32
 | 0|n+1=>Nat.mod_lt _ ∅
def Qa (h):∀n,(ps h n).2=Uc h / 32^n
 | 0=>by simp[ps]
 | n+1=>by
  change(ps h n).2 / 32=_;rw[Qa h n,Nat.div_div_eq_div_mul,Nat.pow_succ]
def alc (h)(n)(G:13<=n):(ps h n).2=0:=by
 rw[Qa];apply Nat.div_eq_of_lt;have h1:Uc h<2^64:=by
  unfold Uc;lia
 have h2:32^13<=32^n:=Nat.pow_le_pow_right ∅ G;lia
abbrev lcs:Nat->Nat->Nat
 | i,0=>i
 | i,k+1=>(lcs i k*5+1) % 32
def XC (h):∀k,(ps h (13+k)).1=lcs (ps h 13).1 k
 | 0=>rfl
 | k+1=>by
  change((ps h (13+k)).1*5+1+(ps h (13+k)).2 / 32) % (31+1)=_;rw[alc h _ ⋯,XC h k];rfl
def amy:∀i:Fin 32,∀j:Fin 32,∃k:Fin 32,lcs i k=j.val:=by decide +kernel
def ae8 (h){j}(hj:j<32):∃n,n<45/\(ps h n).1=j:=by
 obtain⟨k,e⟩:=amy {(ps h 13).1,adY h 13} ⟨j,hj⟩;show{13+k.val,⋯,by rwa[XC]}
def abX {i}(h:i<32):i<=uF 31 i/\uF 31 i<32:=by
 unfold uF;grind
def M7 (owner)(h):∀d n G,d<G->owner.getD (ps h (n+d)).1 (AP 0)=Af->∃j,j<32/\owner.getD j (AP 0)=Af/\xH 31 owner G (ps h n).1 (ps h n).2=AP j
 | d,n,G+1,J,e=>by
  unfold xH;have hl:=abX (adY h n);cases q:(Rb _).find? λk=>(owner.getD _ _).isNone with
  | some k=>
   have h2:=Wa.mp (List.mem_of_find?_eq_some q);show{(ps h n).1+k,by omega,by simpa using(List.find?_some q),rfl}
  | none=>
   cases d with
   | zero=>
    rw[List.find?_eq_none]at q;show absurd ?_<|q 0<|Wa.mpr<|by omega
    rw[Nat.add_zero]at e|-
    simp_all
   | succ d=>
    show M7 owner h d _ G ⋯<|show n+1+d=n+(d+1) by lia ▸ e
variable {owner:Array (Option Nat)}
def alW (h){j}(hj:j<32)(e:owner.getD j (AP 0)=Af):∃j,j<32/\owner.getD j (AP 0)=Af/\xH 31 owner (SetTable.turns 31) (Uc h % (31+1)) (Uc h)=AP j:=by
 obtain⟨n,J,G⟩:=ae8 h hj;have:=M7 owner h n 0 46 ⋯ (by rw[Zd,G];show e)
 show this
abbrev liv (o:Array (Option Nat)):List (Nat×Nat):=(Rb 32).filterMap λj=>(o.getD j Af).map (j,·)
def Xo {f g:Nat->Option (Nat×Nat)}{j}(Y:f j=Af)(U:(g j).isSome=true)(J:∀i,i≠j->g i=f i):∀l:List Nat,l.Nodup->(l.filterMap g).length=(l.filterMap f).length+(if j∈l then 1 else 0)
 | [],_=>by simp
 | a::l,G=>by
  rw[V4]at G;have O:=Xo Y U J l G.2;by_cases z:a=j
  subst z;rw[if_neg G.1]at O;rw[if_pos (Ub ..)];obtain⟨y,b⟩:=Option.isSome_iff_exists.mp U
  simp_all
  ·have e1:(if j∈a::l then 1 else 0)=(if j∈l then 1 else 0):=by
    simp[show ¬j=a from λq=>z q.symm]
   rw[e1];cases q:f a with
   | none=>rw[List.filterMap_cons_none (by rw[J a z,q]),List.filterMap_cons_none q];show O
   | some y=>rw[List.filterMap_cons_some (by rw[J a z,q]),List.filterMap_cons_some q,Od,Od];lia
def Xl {f}{g:Nat->Nat×Nat}:∀l:List Nat,(∀j∈l,f j=AP (g j))->l.filterMap f=l.map g
 | [],_=>rfl
 | a::l,h=>by rw[List.filterMap_cons_some (h a (Ub ..)),KQ,Xl l λj hj=>h j (T6 _ hj)]
structure Lay (o:Array (Option Nat)) (k:Nat):Prop where
 sz:o.size=32
 len:(liv o).length=k
 low:∀p,p∈liv o->p.2<k
def Lay.room {o k}(L:Lay o k)(U:k<32):∃j,j<32/\o.getD j (AP 0)=Af:=by
 apply Wd;intro J;have G:∀j,j<32->∃v,o.getD j Af=AP v:=λj hj=>by
  cases q:o.getD j Af with
  | some v=>show⟨v,rfl⟩
  | none=>
   show absurd {j,hj,?_} J;simp[(L.sz ▸ hj)]at q|-
   show q
 have e:liv o=(Rb 32).map λj=>(j,(o.getD j Af).getD 0):=by
  show Xl _ λj hj=>?_;obtain⟨v,O⟩:=G j (Wa.mp hj);rw[O];rfl
 have:=L.len
 simp_all
def Lay.put {o k j}(L:Lay o k)(hj:j<32)(e:o.getD j (AP 0)=Af):Lay (o.setIfInBounds j (AP k)) (k+1):=by
 have J:o.getD j Af=Af:=by
  grind
 have e1:(o.setIfInBounds j (AP k)).getD j Af=AP k:=by
  simp[(L.sz ▸ hj)]
 have e2:∀i,i≠j->(o.setIfInBounds j (AP k)).getD i Af=o.getD i Af:=λi hi=>by
  rw[Array.getD_eq_getD_getElem?,Array.getD_eq_getD_getElem?,Array.getElem?_setIfInBounds_ne (Ke hi)]
 show{by rw[Array.size_setIfInBounds];show L.sz,?_,?_};have:=Xo (f:=λi=>(o.getD i Af).map _) (g:=λi=>((o.setIfInBounds j _).getD i Af).map (i,·)) (by rw[J];rfl) (by rw[e1];rfl) (λi hi=>by rw[e2 i hi]) (Rb 32) List.nodup_range
 rw[if_pos (Wa.mpr hj)]at this;have l:=L.len;unfold liv at l|-
 lia;intro p G;obtain⟨i,hi,ep⟩:=List.mem_filterMap.mp G;by_cases z:i=j
 rw[z,e1]at ep;cases ep;show p8 _;rw[e2 i z]at ep;have:=L.low p (List.mem_filterMap.mpr ⟨i,hi,ep⟩)
 lia
def Gy:∀(hs:List Int) (o) (k),Lay o k->k+hs.length<32->∃o',Lay o' (k+hs.length)/\hs.foldl (λ(acc) h=>do
  let(owner,k) <-acc
  let j <-xH 31 owner (SetTable.turns 31) (Uc h % (31+1)) (Uc h)
  pure (owner.setIfInBounds j (AP k),k+1)) (AP (o,k))=AP (o',k+hs.length)
 | [],o,k,L,_=>⟨o,L,rfl⟩
 | h::hs,o,k,L,hl=>by
  rw[Od]at hl;obtain⟨O,G,J⟩:=L.room ⋯;obtain⟨j,hj,e,U⟩:=alW h G J;obtain⟨o',Y,e'⟩:=Gy hs _ _ (L.put hj e) ⋯;grind
def lay0:Lay (Array.replicate 32 Af) 0:={by simp,by decide +kernel,λp G=>by
 have:liv (Array.replicate 32 Af)=[]:=by decide +kernel
 rw[this]at G;cases G}
def alG (f mv)(J pl)(hs)(h:hs.size<32):∃t G,SetTable.laid 31 f mv J pl hs=AP (t,G)/\t.place.size=hs.size/\t.dummies=#[]/\t.mask=31/\G.size=hs.size/\∀i,i∈G->i<hs.size:=by
 obtain⟨o,L,e⟩:=Gy hs.toList _ 0 lay0 (by simpa using h);have Y:alT 31 hs=AP o:=by
  unfold alT;simp_all
 have O:(0+hs.toList.length)=hs.size:=by simp
 rw[O]at L;show{_,_,by unfold SetTable.laid;rw[Y];rfl,?_,rfl,rfl,?_,?_};rw[Lf,Ds];show L.len;rw[Lf,Ds];show L.len;intro i hi;rw[List.mem_toArray]at hi;obtain⟨p,U,rfl⟩:=Ni.mp hi;show L.low p U
abbrev J3 (h:Heap)(a:Addr)(n:Nat):Prop:=∃es ep t,h.get? a=AP (TJ es ep t)/\t.fits es.size=true/\es.size=n
def anx {J:Type}(es:Array J)(G:Array Nat)(h:∀i,i∈G->i<es.size):(G.filterMap (es[·]?)).size=G.size:=by simp_all
section
variable {prog:Dm}{w:DX}{A:Ej}{E:Aj->Bc->Prop}{s:Bc}{a:Addr}
def zar {es t}{Q}(U:s.heap.get? a=AP (TJ es ep t))(b:t.fits es.size=true)(d:es.size<32)
  (h:∀h',Qf a s.heap h'->J3 h' a es.size->Q () {s with heap:=h'}):CR (Cq prog w) A (setRelay a 20) Q E s:=by
 rw[akW];show BL<|ZW U rfl b ?_
 dsimp only;obtain⟨J,G,g,h1,h2,j,e,c⟩:=alG _ _ _ _ (es.map _) (by simpa using d);have f:t.relaid _ 20=AP (J,G):=g;rw[f];have hs:(G.filterMap (es[·]?)).size=es.size:=by
  rw[anx es G (λi hi=>by have:=c i hi;simpa using this),e];simp
 have O:reo es (AP (J,G))=pure (G.filterMap (es[·]?),J):=by
  unfold reo;dsimp only;rw[hs];simp
 rw[O];show wpAny_storeSet_of U rfl (h _ (Vg ..) ?_) (by rw[hs,Yz];lia);show{G.filterMap _,ep+1,J,?_,?_,hs};have:=R7 (Obj.putSet (G.filterMap (es[·]?)) J) U rfl
 show this;unfold SetTable.fits SetTable.fill;rw[h1,h2];simp;lia
end
section
variable {prog:Dm}{w:DX}{A:Ej}{E:Aj->Bc->Prop}{s:Bc}{t:Ui}{a b:Addr}{k:List Int}
def ajl {Q}(P:A.units<Lb)(S:sy prog w s.heap a m ka ad)(W:TK prog w s.heap k b)(D:(Fx m).length=4)
  (H:(∃j,j∈Fx m/\ka j=k)->∀tk,Q false {s with toks:=tk})
  (no:(∀j,j∈Fx m->ka j≠k)->∀h' tk,Qf a s.heap h'->J3 h' a 5->Q true {s with heap:=h',toks:=tk}) :
  CR (Cq prog w) A (setAdd a (.ref b)) Q E s:=by
 obtain⟨ep,t,ho,T⟩:=S;show N7<|BL<|wpAny_pyHash_tuple P W ?_
 show N7 ?_;generalize d:({s with toks:=s.toks+(k.length+1)}:Bc)=s1;have g:s1.heap=s.heap:=by rw[<-d]
 have O:s1.heap.get? a=AP (TJ (elL prog w m ka ad).toArray ep t):=by rw[g];show ho
 have L:XR prog w s1.heap m ka ad t:=by rw[g];show T
 have v:TK prog w s1.heap k b:=by rw[g];show W
 show BL<|ZW O rfl L.fits ?_
 obtain⟨M,I⟩:=GP ⟨m,T.m8⟩ (by change(Fx m).length<8;lia);obtain⟨N,hN,G,K⟩:=road (m:=m) _ ⟨M.val,M.isLt,I⟩;show BL<|kJ (h:=U9 (O8 prog w) k) rfl P O rfl L v G K (λy=>?_) (λn=>?_) 100000 0 Af (by rw[Option.getD_none];show Jx T.mask _) ⋯ ⋯ ⋯ λi hi=>absurd hi<|Yq _
 rw[<-d];show DK<|H y _
 dsimp only;have u:∀j,j∈Fx m->ka j≠k:=λj hj z=>by
  obtain⟨i,e,l⟩:=T.way j hj;have g:hT prog w (ka j)=U9 (O8 prog w) k:=by rw[z];rfl
  rw[g]at e l;rcases Nat.lt_trichotomy i N with q|q|q
  show n i q (by rw[e];show z);rw[q]at e;rw[e,(iV.mp hj).2]at G;cases G;rw[l N q]at G;cases G
 show BL<|ZW O rfl L.fits ?_
 have U:=xU (U9 (O8 prog w) k) N;generalize hjj:(pq _ N).fst=j at G U|-
 have r:t.put j=({t with place:=(Fx (m ||| 2^j)).toArray},rk m j):=by
  unfold SetTable.put;have e1:=(rH ⟨m,T.m8⟩ ⟨j,U⟩).1;have e2:=(zG ⟨m,T.m8⟩ ⟨j,U⟩ G).1;have e3:YS (Fx m).toArray (rk m j) j=(Fx (m ||| 2^j)).toArray:=by
   apply Array.ext';rw[SetTable.toList_insertAt,e2]
  rw[T.place,T.dum,e1];dsimp only;rw[e3,if_neg (by simp[SetTable.has])]
 have e:=xP ⟨m,T.m8⟩ ⟨j,U⟩ G;dsimp only at e;have Y:({t with place:=(Fx (m ||| 2^j)).toArray}:Ui).tooFull=true:=by
  unfold SetTable.tooFull SetTable.fill;rw[T.mask,T.dum];simp only[Lf,e,D];decide
 rw[r];have C:(elL prog w m ka ad).toArray.size+1=5:=by
  unfold elL;rw[Lf,Ds,D]
 have F:(YS (elL prog w m ka ad).toArray (rk m j) (U9 (O8 prog w) k,Value.ref b)).size=5:=by
  have Z:=WX (prog:=prog) (w:=w) (ka:=ka) (ad:=ad) (k:=k) (b:=b) T.m8 U G;unfold hT at Z;rw[Z];unfold elL;rw[Lf,Ds,e,D]
 have X:SetTable.grown 5=20:=∅
 have o:∀{R:Unit->Bc->Prop},(∀h',Qf a s.heap h'->h'.get? a=AP (TJ (YS (elL prog w m ka ad).toArray (rk m j) (U9 (O8 prog w) k,Value.ref b)) (ep+1) {t with place:=(Fx (m ||| 2^j)).toArray})->R () {s1 with heap:=h'})->CR (Cq prog w) A (storeSet a (YS (elL prog w m ka ad).toArray (rk m j) (U9 (O8 prog w) k,Value.ref b)) {t with place:=(Fx (m ||| 2^j)).toArray}) R E s1:=by
  intro R hR;show wpAny_storeSet_of O rfl (hR _ (by rw[g];show Vg ..) ?_) (by rw[F,Yz];decide);have:=R7 (Obj.putSet (YS (elL prog w m ka ad).toArray (rk m j) (U9 (O8 prog w) k,Value.ref b)) {t with place:=(Fx (m ||| 2^j)).toArray}) O (by rfl)
  rw[putSet_of _ _ rfl]at this;show this
 have f:({t with place:=(Fx (m ||| 2^j)).toArray}:Ui).fits (YS (elL prog w m ka ad).toArray (rk m j) (U9 (O8 prog w) k,Value.ref b)).size=true:=by
  rw[F];unfold SetTable.fits SetTable.fill;rw[T.mask,T.dum];simp only[Lf,e,D];decide
 have B:∀h1,Qf a s.heap h1->h1.get? a=AP (TJ _ (ep+1) {t with place:=(Fx _).toArray})->CR (Cq prog w) A (setRelay a 20) (λ_ s'=>Q true s') E {s1 with heap:=h1}:=λh1 J x=>by
  show zar x f (by rw[F];decide) λh' p V=>?_;rw[F]at V;rw[<-d];show no u h' _ (J.trans p) V
 split
 show BL<|Bb v ?_
 rw[if_pos rfl,Y];show BL<|o λh' J x=>?_
 rw[C,X];show BL<|Li (B h' J x) (λ_ s' z=>DK z) λ_ _ z=>z
 show BL<|DK ?_
 rw[if_pos rfl,Y];show BL<|o λh' J x=>?_
 rw[C,X];show BL<|Li (B h' J x) (λ_ s' z=>DK z) λ_ _ z=>z
end
section
variable {prog:Dm}{w:DX}{A:Ej}{E:Aj->Bc->Prop}{R:Um->Bc->Prop}
def J3.of {z}{h}(B:Kw prog w z h S seen m ka ad):J3 h S seen.length:=by
 obtain⟨⟨ep,t,J,T⟩,_,_,G⟩:=B;show{_,ep,t,J,T.fits,by unfold elL;rw[Lf,Ds,G]}
def wX {l I}{items i n s}(hh:A.in1.handled=Af)(J:l≠I)(U:I≠S)(j:i=items.size)(st:s.heap.IsListIter I l i/\s.heap.IsList l items)(B:J3 s.heap S n)
  (g:∀h' tk,J3 h' S n->(∀b o,b≠S->b≠I->s.heap.get? b=AP o->h'.get? b=AP o)->R (.ok (.ret .none)) {s with heap:=h',toks:=tk}) :
  Qt (Cq prog w) A (.builtin "set.update.loop" ⟨[.ref S,.ref I],[]⟩) R s:=by
 subst j;show Vk F.entry_set_update_loop ?_;rw[lw vC _];show BL<|((Walks.list hh I l J items).toS).done s _ _ st λs' f=>?_
 obtain⟨h',r,d',G,c⟩:=s';obtain⟨k,m,p,h,_⟩:=f;subst m;subst p;subst h;have Y:=λb o O e=>k b o (by simpa using O) e
 obtain⟨es,ep,t,d,q⟩:=B;show DK<|g h' G {es,ep,t,Y S _ (Ke U) d,q} λb o _ O e=>Y b o O e
def ur {l I S:Addr}{z:Nat}{items:Array Aj}{kss:List (List Int)}(hh:A.in1.handled=Af)(Z:A.in1.units<Lb)(c:l≠I)(h:l≠S)(U:I≠S)(C:z<=S)(g:z<=I)(h4:kss.length<=5)(M:items.size=kss.length) :
  ∀(rest:List (List Int)) (i) (s) (seen) (m) (ka) (ad),i+rest.length=kss.length->seen.length<=i ->
   (∀j v,items[i+j]?=AP v->∃b k,v=.ref b/\rest[j]?=AP k/\b<z/\TK prog w s.heap k b)->(s.heap.IsListIter I l i/\s.heap.IsList l items)->Kw prog w z s.heap S seen m ka ad ->
   (∀h' tk,J3 h' S (rest.foldl QX seen).length->(∀b o,b≠S->b≠I->s.heap.get? b=AP o->h'.get? b=AP o)->R (.ok (.ret .none)) {s with heap:=h',toks:=tk}) ->
   Qt (Cq prog w) A (.builtin "set.update.loop" ⟨[.ref S,.ref I],[]⟩) R s
 | [],i,s,seen,m,ka,ad,hi,_,_,st,B,K=>by
  show wX hh c U (by rw[M];simpa using hi) st (J3.of B) λh' tk N f=>K h' tk N f
 | k0::rest,i,s,seen,m,ka,ad,hi,hsl,hit,st,B,K=>by
  have W:=(Walks.list (prog:=prog) (w:=w) hh I l c items).toS;rw[Od]at hi;show Vk F.entry_set_update_loop ?_;change CR _ A.in1 (pyNext (.ref I) >>= _) _ _ s;show BL<|W.item i s _ _ ⋯ st λv s' L d hm=>?_
  obtain⟨b,k,rfl,ek,O,hk⟩:=hit 0 v L;simp only[List.getElem?_cons_zero,Option.some.injEq]at ek;subst ek;obtain⟨h1,g',d',G,os'⟩:=s';obtain⟨eh,eg,ed,eo,_⟩:=hm;simp only at eg ed eo;subst eg;subst ed;subst eo;have Y:∀b o,b≠I->s.heap.get? b=AP o->h1.get? b=AP o:=λb o O e=>eh b o (by simpa using O) e
  have X:∀{k b},b<z->TK prog w s.heap k b->TK prog w h1 k b:=λ{k b} O ⟨o,i,n,e,r⟩=>{o,i,n,Y b o (KC (Kz O g)) e,r}
  have V:=B.keep (h':=h1) (λo e=>Y S o (Ke U) e) λb o O e=>Y b o (KC (Kz O g)) e
  by_cases H:(Fx m).length<=3
  rotate_left
  have Q:(Fx m).length=4:=by rw[B.len]at H|-;lia
  have hr:rest=[]:=vA (by rw[B.len]at H;lia);subst hr;change CR _ A.in1 (VR [Value.ref b] (setAdd S (.ref b)) >>= _) _ _ _;show BL<|N7<|ajl (s:={s with heap:=h1,toks:=G}) Z V.set (X O hk) Q (λy tk=>?_) λn h2 tk hs N=>?_
  show DK {Vc vC _,?_};have e:QX seen k0=seen:=by unfold QX;rw[if_pos ((B.mem k0).mpr y)]
  show wX (i:=i+1) (s:={s with heap:=h1,toks:=tk}) hh c U (by rw[M,<-hi];rfl) d (J3.of V) λh' G N f=>?_;show K h' G (by rw[ZJ,e];show N) λb o x u e=>f b o x u<|Y b o u e
  show DK {Vc vC _,?_};have nm:¬k0∈seen:=λhm=>by
   obtain⟨j,hj,e⟩:=(B.mem k0).mp hm;show n j hj e
  have e:QX seen k0=seen++[k0]:=by unfold QX;rw[if_neg nm]
  have k2:∀b o,b≠S->h1.get? b=AP o->h2.get? b=AP o:=λb o O e=>(hs.2 b O).trans e
  have l5:(seen++[k0]).length=5:=by rw[Lp,<-B.len,Q];rfl
  show wX (i:=i+1) (s:={s with heap:=h2,toks:=tk}) hh c U (by rw[M,<-hi];rfl) ?_ N λh' G hN' f=>?_;show(W.frame _ {s with heap:=h1,toks:=G} h2 G d (Em _) λb O o e=>k2 b o (by
   simp only[M5,Qz,or_false]at O;rcases O with rfl|rfl
   show U;show h) e)
  show K h' G (by rw[ZJ,e];change J3 h' S (seen++[k0]).length;rw[l5];show hN') λb o x u e=>f b o x u<|k2 b o x<|Y b o u e
  change CR _ A.in1 (VR [Value.ref b] (setAdd S (.ref b)) >>= _) _ _ _;show BL<|N7<|zaK (s:={s with heap:=h1,toks:=G}) Z V.set (X O hk) H (λy tk=>?_) λn h2 j tk hs p E hS=>?_
  show DK {Vc vC _,?_};have e:QX seen k0=seen:=by unfold QX;rw[if_pos ((B.mem k0).mpr y)]
  show ur hh Z c h U C g h4 M rest (i+1) {s with heap:=h1,toks:=tk} seen m ka ad ⋯ ⋯ (λj v L=>?_) d V λh' G B' f=>?_;obtain⟨b',k',e1,e2,e3,e4⟩:=hit (j+1) v (by rw[<-L];congr 1;lia);show{b',k',e1,by simpa using e2,e3,X e3 e4};show K h' G (by rw[ZJ,e];show B') λb o h1 h2 e=>f b o h1 h2<|Y b o h2 e
  show DK {Vc vC _,?_};have nm:¬k0∈seen:=λhm=>by
   obtain⟨j,hj,e⟩:=(B.mem k0).mp hm;show n j hj e
  have e:QX seen k0=seen++[k0]:=by unfold QX;rw[if_neg nm]
  obtain⟨ep,t,ho,T⟩:=id V.set;have m8:=T.m8;have D:∀i,i<8->(m ||| 2^j).testBit i=(m.testBit i||decide (i=j)):=λi hi=>HF ⟨m,m8⟩ ⟨j,p⟩ ⟨i,hi⟩
  have a:∀i,i∈Fx (m ||| 2^j)↔i∈Fx m\/i=j:=λi=>by
   rw[iV,iV];constructor;rintro⟨P,O⟩;rw[D i P,Bool.or_eq_true,decide_eq_true_eq]at O;show O.elim (λq=>.inl ⟨P,q⟩) .inr;rintro(⟨P,O⟩|rfl);show{P,by rw[D i P,O];rfl};show{p,by rw[D i p,decide_eq_true rfl,Bool.or_true]}
  have nj:∀i,i∈Fx m->i≠j:=λi hi z=>by rw[z]at hi;rw[(iV.mp hi).2]at E;cases E
  have B2:Kw prog w z h2 S (seen++[k0]) (m ||| 2^j) (λi=>if i=j then k0 else ka i) (λi=>if i=j then b else ad i):=by
   show{hS,λi hi=>?_,λk=>?_,?_};rcases(a i).mp hi with q|q
   simp only[if_neg (nj i q)];show B.low i q;simp only[if_pos q];show O;rw[YH,R6,B.mem k];constructor;rintro(⟨i,hi,e⟩|rfl);show{i,(a i).mpr (.inl hi),by simp only[if_neg<|nj i hi];show e};show{j,(a j).mpr (.inr rfl),by simp};rintro⟨i,hi,e⟩;rcases(a i).mp hi with q|q
   simp only[if_neg (nj i q)]at e;show .inl ⟨i,q,e⟩;simp only[if_pos q]at e;show .inr e.symm;have:=xP ⟨m,m8⟩ ⟨j,p⟩ E
   dsimp only at this;rw[this,B.len,Lp];rfl
  have k2:∀b o,b≠S->h1.get? b=AP o->h2.get? b=AP o:=λb o O e=>(hs.2 b O).trans e
  show ur hh Z c h U C g h4 M rest (i+1) {s with heap:=h2,toks:=tk} (seen++[k0]) _ _ _ ⋯ (by rw[Lp,V2];lia) (λj v L=>?_) ?_ B2 λh' G B' f=>?_;obtain⟨b',k',e1,e2,e3,e4⟩:=hit (j+1) v (by rw[<-L];congr 1;lia);obtain⟨o,i,n,e,r⟩:=X e3 e4;show{b',k',e1,by simpa using e2,e3,o,i,n,k2 b' o (KC<|Kz e3 C) e,r};show(W.frame _ {s with heap:=h1,toks:=G} h2 G d (Em _) λb O o e=>k2 b o (by
   simp only[M5,Qz,or_false]at O;rcases O with rfl|rfl
   show U;show h) e)
  show K h' G (by rw[ZJ,e];show B') λb o x u e=>f b o x u<|k2 b o x<|Y b o u e
end
variable {I:Addr}{kss:List (List Int)}
section
variable {prog:Dm}{w:DX}{A:Ej}{E:Aj->Bc->Prop}{s:Bc}
def ajH {l}{z:Nat}{items d}{Q}(hh:A.handled=Af)(W:A.units+5<Lb)(N:kss.length<=5)(L:items.size=kss.length)(hz:z<=S)(Y:s.heap.get? S=AP (Xd d))(hl:s.heap.IsList l items)(J:l<z)
  (hit:∀(j:Nat) (v),items[j]?=AP v->∃b k,v=.ref b/\kss[j]?=AP k/\b<z/\TK prog w s.heap k b)
  (h:∀h' tk,J3 h' S (Ul kss).length->(∀b o,b≠S->s.heap.get? b=AP o->h'.get? b=AP o)->Q Value.none {s with heap:=h',toks:=tk}) :
  Qt (Cq prog w) A (.call (.builtin "set.__init__") ⟨[.ref S,.ref l],[]⟩) (wants Q E) s:=by
 have ht:s.TypeIs (.ref S) "set":={_,Y,rfl}
 show codeAny_call_builtin Z7.init.plain F.entry_set_init<|check_set_init_1 ht ?_
 obtain⟨D,f,p,V,m⟩:=id hl;obtain⟨y,a,c,U⟩:=D;subst p;subst m;have T:=F.sub_list_set;have R:=F.sub_list_frozenset;have P:(Value.type "list"==Value.type "dict")=false:=∅
 unfold V3.«set.__init__» noKeywords Builtin.Frozenset.updateFrom;generalize x:pyIter=PI
 wp_walk
 subst x;show ZV hl ?_;show BL<|pR ?_
 have g:l≠(~~~s):=KC (FP f);have t:(~~~s)≠S:=Ke (KC (FP Y));have u:=FW {cls:=.type "list_iterator",data:=.fields #[.ref l,.int 0 0]} Y;have G:∀b o,s.heap.get? b=AP o->(s.heap.push {cls:=.type "list_iterator",data:=.fields #[.ref l,.int 0 0]}).get? b=AP o:=λb o e=>FW _ e
 have q:=FP Y;show ur (l:=l) (I:=(~~~s)) (z:=z) (kss:=kss) (by simp[hh]) (by simp;lia) g (λe=>?_) t hz (K7 hz<|Vb q) N L kss 0 _ [] 0 _ _ (by simp) (by simp) (λj v K=>?_) {{_,Kf _ rfl,rfl,rfl},hl.push _} {zbT u,λj hj=>absurd hj<|by simp[Fx],λk=>by simp[Fx],by simp[Fx]} λh' tk B H=>?_;rw[e]at J;show absurd (Kz J hz) (RX _);obtain⟨b,k,e1,e2,e3,o,i,n,e4,r⟩:=hit j v (by rw[<-K];congr 1;lia);show{b,k,e1,e2,e3,o,i,n,G b o e4,r};show DK<|DK ?_
 show h h' tk B λb o M e=>H b o M (KC<|FP e)<|G b o e
def ajq {l}{items Q}(hh:A.handled=Af)(C:A.units+10<Lb)(y:kss.length<=5)(x:items.size=kss.length)(hl:s.heap.IsList l items)
  (hit:∀(j:Nat) (v),items[j]?=AP v->∃b k,v=.ref b/\kss[j]?=AP k/\TK prog w s.heap k b)
  (h:∀h' tk,J3 h' s.heap.objs.size (Ul kss).length->(∀b o,s.heap.get? b=AP o->h'.get? b=AP o)->Q (.ref s.heap.objs.size) {s with heap:=h',toks:=tk}) :
  CR (Cq prog w) A (call (.type "set") [.ref l]) Q E s:=by
 have Y:=Z7.made;have g:=Z7.sub;have I:=Z7.notType;have H:=Z7.canCreate;have D:=F.typeCall_set_1 (.ref l);show ZC<|codeAny_of_tree ?_
 change CR _ _ (callAny (.type "set") _) _ _ _;show DK {uU _<|by decide +kernel,Vk F.entry_type_call ?_};rw[Around.under_plain (weight_type_call_type "set" [.ref l] []) rfl];repeat(any_goals(first|assumption|wp_step))
 show Wc (code_set_new_1 (.ref l) (E:=E) (Q₁:=λu d=>∃led:Bool,u=.ref (~~~s)/\d={s with heap:=s.heap.push (Xd led)}) λled=>⟨led,rfl,rfl⟩) λr d U=>?_;cases r with
 | error e=>show U
 | ok fl=>
  cases fl with
  | ret u=>
   obtain⟨led,rfl,rfl⟩:=U;have m:(s.heap.push (Xd led)).get? (~~~s)=AP (Xd led):=Kf _ rfl;have ht:Shared.TypeIs {s with heap:=s.heap.push (Xd led)} (.ref (~~~s)) "set":={_,m,rfl}
   have L:=Z7.init.lookup;have K:=Z7.init.bind (.ref (~~~s));repeat(any_goals(first|assumption|wp_step))
   have a:∀b o,s.heap.get? b=AP o->(s.heap.push (Xd led)).get? b=AP o:=λb o e=>FW _ e
   obtain⟨f,J,q⟩:=id hl;show Wc (ajH (E:=E) (s:={s with heap:=s.heap.push (Xd led)}) (z:=(~~~s)) (kss:=kss) (Q:=λr c=>r=.none/\∃h' tk,c={s with heap:=h',toks:=tk}/\J3 h' (~~~s) (Ul kss).length/\∀b o,s.heap.get? b=AP o->h'.get? b=AP o) (by simp[hh]) (by simp;lia) y x (Em _) m {f,a l f J,q} (FP J) (λj v t=>?_) λh' tk B O=>{rfl,h',tk,rfl,B,λb o e=>O b o (KC<|FP e)<|a b o e}) λr2 c G=>?_;obtain⟨b,k,e1,e2,o,i,n,e3,r⟩:=hit j v t;show{b,k,e1,e2,FP e3,o,i,n,a b o e3,r}
   ·cases r2 with
    | error e=>show G
    | ok f2=>
     cases f2 with
     | ret r=>
      obtain⟨rfl,h',tk,rfl,B,O⟩:=G;repeat(any_goals(first|assumption|wp_step))
      show h h' tk B O
     | _=>show G.elim
  | _=>show U.elim
end
section
variable {X:Cx}{K:CQ}
def zaJ (y:X.calm=true)(E:X.A.units+30<Lb):jC X (.type "set") (λxs H Q=>∃p ys kss,xs=[.ref p]/\Kr X.K H p ys/\aeW X.K H ys kss/\kss.length<=5/\∀l,H l=Af->Q (.ref l) (Dn H l (ahc l (Ul kss).length))):=by
 intro apn s σ H xs us Q I r h;obtain⟨p,ys,kss,rfl,i,ht,A,q⟩:=h;obtain⟨u,rfl,J⟩:=vals1 r;cases J;obtain⟨its,U,pl,D⟩:=I.list i;have e1:=U.length;have e2:=Zm ht;show ajq (I.ok.hd y) ⋯ A (by rw[Lf];lia) pl.isList (λj v e=>?_) λh' tk B g=>?_;rw[List.getElem?_toArray]at e;obtain⟨x,ex,J⟩:=zbs U e;obtain⟨k,C,b,rfl,z⟩:=Ag ht ex;cases J;obtain⟨Y,f,⟨o,G,O,n,w⟩,_⟩:=I.tuple z;show{b,k,rfl,C,o,_,_,G,O,w,yj f};obtain⟨es,ep,t,G,m,j⟩:=B;show{.ref _,_,I.laid g (Em _)<|show fG _ _ _ h' _ (ahc _ (Ul kss).length)from{⟨es,ep,t,G,m,j⟩,{_,G},λh1 h2 d k=>by obtain⟨es,ep,t,a,b,c⟩:=d;show {es,ep,t,k _ a,b,c}},rfl,q _<|I.hok.fresh<|Em _}
abbrev pG:MC:=λws h Q=>match ws with
 | [w]=>(match gq h w with
  | some us=>(match Ae us with
   | some kss=>kss.length<=5/\Q (.int (Ul kss).length) h
   | none=>False)
  | none=>False)
 | _=>False
def zbo {e}{n p2 k G}(r:X.calm=true)(o:X.A.units+30<Lb)(c:Gl X "len")(O:X.mg "len" = Af)(Y:Gl X "set")(J:X.mg "set" = Af)(s:DE X e ma)
  (f:Dc [e] X.env=(false,eval e X.env)::Dc [] X.env) (d:Dc [Expr.Call (.Name "set" p2) [e] [] G] X.env=(false,eval (Expr.Call (.Name "set" p2) [e] [] G) X.env)::Dc [] X.env) :
  DE X (.Call (.Name "len" n) [.Call (.Name "set" p2) [e] [] G] [] k) (Ft pG (aj ma aG)):=
 (JF akb c O Oa (tW (BW (zaJ r o) Y J (by rfl) (tW s Qd f) ∅ ∅ f) Qd d) ∅ ∅ d).of fun σ H Q b=>by
  obtain⟨μ,g,σw,Qw,R,S,m,q⟩:=b;show{μ,g,σw,_,R,S,m,λv H1 a=>?_};obtain⟨μ1,w,h1,e1,h,j,m1⟩:=a;have m1:pG [w] h1 Qw:=m1;unfold pG at m1;dsimp only at m1;split at m1
  rename_i us t;split at m1
  rename_i kss u;obtain⟨p,ys,ex,hs,i⟩:=eY h j t;subst ex;show{p,ys,kss,rfl,hs,Ib i u,m1.1,λl hl=>?_};have U:=lC kss [];show{l,(Ul kss).length,rfl,aV,?_,q _ _ {μ1,.int (Ul kss).length,h1,e1.trans (Ex.laid hl).ext,h.laid hl,by rw[DW],m1.2}};unfold Ul;simp at U;lia;show m1.elim;show m1.elim
end
section
variable {X:Cx}{K:CQ}{o e:Expr}{apos apq:Pos}
end
abbrev Jr:List Aj->Bool
 | .ref _::r=>Jr r
 | l=>l==[.type "ValueError",.type "Exception",.type "BaseException",.type "object"]
def zbl (y)(l):Jr l=true->refuseLoop y "__setattr__" l=pure ():=by
 induction l with
 | nil=>intro e;cases e
 | cons v r G=>
  intro e;cases v with
  | ref c=>
   rw[refuseLoop_ref];show G e
  | _=>
   show eq_of_beq e ▸ PySem.F.store_ValueError.passes y
def abU (l):Jr l=true->l.contains (.type "object")=true:=by
 induction l with
 | nil=>intro e;cases e
 | cons v r G=>
  intro e;cases v with
  | ref c=>
   rw[List.contains_cons,G e];show Bool.or_true _
  | _=>
   rw[eq_of_beq e];decide +kernel
abbrev Yu (K:CQ)(C:Addr):Bool:=(Yh K C).any λcd=>Jr cd.mro
section
variable {prog:Dm}{w:DX}{A:Ej}{s:Bc}{K:CQ}{x C:Addr}{R:Um->Bc->Prop}
def agZ {f}{dd nm}{G u}(X:K.In s.heap)(I:PySem.W.InstAt s.heap x f C dd)(g:Yu K C=true)(ht:UG K (.ref C) nm=AP Af)
  (h:CR (Cq prog w) A.in1 (PySem.Builtin.ObjectAttr.storeInOwnDict (.ref x) (.ref C) (.str nm G) nm u false)
   (λf1 J=>match f1 with
    | .done y=>R (.ok y) J
    | .again e=>e.quiet=true/\Qt (Cq prog w) A e R J) (λe1 J=>R (.error e1) J) s) :
  Qt (Cq prog w) A (.call (.builtin "object.__setattr__") ⟨[.ref x,.str nm G,u],[]⟩) R s:=by
 obtain⟨c0,d,O⟩:=PySem.W.any_some g;have b:c0.mro.isEmpty=false:=by
  cases q:c0.mro with
  | nil=>rw[q]at O;cases O
  | cons _ _=>rfl
 have U:Yj K C (.type "object")=AP true:=by
  unfold Yj;rw[d,Option.bind_some,if_neg (by rw[b];decide),abU _ O]
 have a:Zc (Cq prog w) s.heap (isInstance (.ref x) (.type "object")) true:=I.type.andThen (xX X U);show codeAny_call_builtin sV.slot.plain sV.entry ?_;show PySem.W.check_slot (i := "object.__setattr__") (owner := "object") (n := "__setattr__") (self:=.ref x) (rest:=[.str nm G,u]) (kw:=[]) sV.kind sV.split a (sV.args (.ref x) (.str nm G) u) ?_;have Y:Zc (Cq prog w) s.heap (mroOf (.ref C)) c0.mro:=(PySem.W.looks_clsIn X d).andThen .now;rw[PySem.W.osa_eq,refuse_eq];show BL<|BL<|I.type.here<|BL<|Y.here ?_
 rw[zbl _ _ O];show DK<|BL<|I.type.here<|BL<|(PySem.W.looks_findIn X ht).here (BL ?_)
 show DK h
end
variable {nm:Str}
section
variable {prog:Dm}{w:DX}{A:Ej}{E:Aj->Bc->Prop}{s:Bc}{K:CQ}{x dx C f:Addr}{mA:Str->Option Aj}{name:Str}{v:Aj}
def anv {fs}{Q}(X:K.In s.heap)(i:s.heap.get? x=AP ⟨.ref C,Af,.fields fs,sl⟩)
  (hs:UG K (.ref C) "__setattr__" = AP (AP (.builtin "object.__setattr__"))) (F:Yu K C=true) (ht:UG K (.ref C) name=AP Af) (hh:PySem.W.hasDictIn K C=true)
  (h:∀h',h'.get? x=AP ⟨.ref C,AP s.heap.objs.size,.fields fs,sl⟩->h'.Ns1 s.heap.objs.size (λy=>if y=name then AP v else Af)->(∀b o,b≠x->s.heap.get? b=AP o->h'.get? b=AP o)->Q () {s with heap:=h',toks:=s.toks+2}) :
  CR (Cq prog w) A (setAttr (.ref x) name v) Q E s:=by
 have J:PySem.W.InstAt s.heap x {.ref C,Af,.fields fs,sl} C Af:=⟨i,rfl,rfl,trivial⟩
 show PySem.W.set_plain X J hs<|agZ (s:={s with toks:=s.toks+1}) X J F ht ?_
 obtain⟨T,I,n⟩:=PySem.W.any_some hh;show BL<|DK<|BL<|BL<|wpAny_loadPart i<|BL<|PySem.W.Looks.here (s:={s with toks:=s.toks+1}) (PySem.W.looks_clsIn X I) ?_
 rw[n];obtain⟨G,g,d,t,os⟩:=s;show BL<|wpAny_alloc' ?_
 have k:x<G.objs.size:=FP i;have U:(G.push {cls:=.type "dict",data:=.dict #[]}).get? x=AP {.ref C,Af,.fields fs,sl}:=FW _ i;have N:(G.push {cls:=.type "dict",data:=.dict #[]}).get? G.objs.size=AP {cls:=.type "dict",data:=.dict #[]}:=Kf _ rfl;show BL<|wpAny_update' U ?_
 show DK ?_;change CR _ _ (Builtin.ObjectAttr.storeInDict G.objs.size (Value.str name t) name v) _ _ _;have a:G.objs.size≠x:=PN k;generalize r:(G.push {cls:=.type "dict",data:=.dict #[]}).update x (λo=>{o with dict:=AP G.objs.size})=j;have L:j.get? x=AP {.ref C,AP G.objs.size,.fields fs,sl}:=by rw[<-r];show R7 _ U rfl
 have M:j.Ns1 G.objs.size (λ_=>Af):=by
  show{{cls:=.type "dict",data:=.dict #[]},#[],_,?_,rfl,(λe H=>absurd H<|by simp),?_,λ_=>rfl};rw[<-r,Ql _ _ (Ke a)];show N;unfold UniqKeys;simp
 have D:∀b o,b≠x->G.get? b=AP o->j.get? b=AP o:=λb o q e=>by rw[<-r,Ql _ _ (Ke q)];show FW _ e
 show BL<|DK<|BL ?_
 show wpAny_nsSet1 (s:={j,g,d,t+1,os}) M λh' c Y=>?_;obtain⟨S,P,R,l,m,p⟩:=c.count (PySem.Within.cons name v (show PySem.Within (λ_=>Af) []from λ_ z=>absurd rfl z));show BL<|wpAny_lookBehind l (by rw[m];show pastItsLine_dict (K7 p<|by simp[Yz])) ?_
 show DK (h h' ((Y.2 x (Ke a)).trans L) c λb o q e=>by
  by_cases f:b=G.objs.size
  rw[f]at e;show absurd (FP e) (RX _);show(Y.2 b f).trans (D b o q e))
end
section
variable {prog:Dm}{w:DX}{A:Ej}{E:Aj->Bc->Prop}{s:Bc}{K:CQ}{x:Addr}{ox:Obj}
def zbz {Q od name v}{J}(X:K.In s.heap)(I:PySem.W.InstAt s.heap x ox D od)(a:UG K (.ref D) "__getattribute__" = AP (AP (.builtin "BaseException.__getattribute__")))(Y:UG K (.ref D) "__getattr__" = AP Af)
  (c:PySem.W.findObj K D od name=AP (.value v)) (hh:PySem.W.handedIn v=true) (e:Yj K D (.type "BaseException")=AP true)
  (h:Q v {s with toks:=s.toks+1}):CR (Cq prog w) A (getAttr (.ref x) name J) Q E s:=by
 obtain⟨l,g,d,t,os⟩:=s;have b:=I.type (M:=Cq prog w);have k:=PySem.W.looks_findIn (M:=Cq prog w) X a;have j:=PySem.W.looks_findIn (M:=Cq prog w) X Y;have i:=PySem.W.looks_find (M:=Cq prog w) X I c;have f:=xX (M:=Cq prog w) X e;unfold getAttr getAttrBy;show BL<|wpAny_mkText<|N7<|BL<|PySem.W.Looks.at b<|BL<|PySem.W.Looks.at k ?_
 change CR _ _ (if(onTheHeap (Value.ref D)&&(Value.builtin "BaseException.__getattribute__"==Value.builtin "object.__getattribute__"))=true then _ else getAttrByItsOwn _ _ _ _ _ _) _ _ _;have U:(Value.builtin "BaseException.__getattribute__"==Value.builtin "object.__getattribute__")=false:=by decide +kernel
 rw[U,nA,if_neg T4];unfold getAttrByItsOwn;show BL<|show CR _ _ (YC (Value.ref D) "__getattr__") _ _ _ from PySem.W.Looks.at j ?_
 show BL<|YQ<|N7 ?_
 unfold callGetattribute;rw[show onTheHeap (Value.builtin "BaseException.__getattribute__")=false from rfl,nA,if_neg T4];unfold boundAndCalled;rw[PySem.F.attrBase_ValueError.ga.bind (.ref x)];show BL<|DK ?_
 dsimp only;show ZC<|codeAny_call_builtin PySem.F.attrBase_ValueError.ga.plain F.entry_bexc_ga ?_
 have Y:builtinKind "BaseException.__getattribute__" = AP .slot:=by decide +kernel
 have G:splitId "BaseException.__getattribute__" = AP ("BaseException", "__getattribute__"):=by decide +kernel
 have m:=F.args_bexc_ga (.ref x) (.str name t);simp only[checkBuiltinCall,Y,G];change CR (Cq prog w) A.in1 (isInstance (Value.ref x) (Value.type "BaseException") >>= _) _ _ _;show BL ?_;unfold isInstance;show BL<|PySem.W.Looks.at b<|PySem.W.Looks.at f ?_
 rw[if_neg ∅];change CR (Cq prog w) A.in1 (match Manifest.signature? "BaseException.__getattribute__" with
  | some O=>Bind.checkArgs "BaseException.__getattribute__" O {[Value.ref x,Value.str name t],[]}
  | x=>pure ()) _ _ _
 repeat(any_goals(first|assumption|(with_reducible show Zi I.at_ ?_;rw[I.cls])|with_reducible show PySem.W.Looks.at i ?_|wp_step))
 change CR _ _ (handedOut v) _ _ _;rw[PySem.W.handedOut_of hh];show DK h
end
section
variable {prog:Dm}{w:DX}{A:Ej}{E:Aj->Bc->Prop}{h:Heap}{g:Array GenState}{d:Drawn}{t:Nat}{os:OsState}
variable {q:Str}{C N:Addr}{bs bmB:List Aj}{hdct:Bool}{sn:List Str}{sub:List Aj}{ab:Bool}{col:Option Bool}{dd:Option Addr}{k0 k1 k2 k3 k5:Option Aj}{B initId:String}{K:CQ}{f:Addr}
@[reducible]noncomputable def TY (C:Addr)(a:Addr):Obj:={cls:=.ref C,data:=.fields #[.ref a,.none,.none,.none,.bool false,.none]}
def amG (F:ExcBaseFacts B newId initId bmB)(T:OwnTail h bmB bm){mN rest}{Q}(X:K.In h)(U:oE K (.ref f)=AP (.type "function"))
  (c0:h.get? C=AP (Yy nm q C N bs bm hdct sn sub ab col dd k0 k1 k2 k3 k5 newId)) (e:h.Ns N mN) (hi:mN "__init__" = AP (.ref f))
  (i:CR (Cq prog w) A (call (.ref f) (.ref (h.objs.size+1)::rest)) (λr s'=>r=.none/\Q (.done (.ret (.ref (h.objs.size+1)))) s') E ⟨(h.push {cls:=.type "tuple",data:=.seq rest.toArray}).push (TY C h.objs.size),g,d,t,os⟩) (Y:rest.length<=El) :
  CR (Cq prog w) A (V3.«type.__call__» ⟨.ref C::rest,[]⟩) Q E ⟨h,g,d,t,os⟩:=by
 have O:∀b o,h.get? b=AP o->((h.push {cls:=.type "tuple",data:=.seq rest.toArray}).push (TY C h.objs.size)).get? b=AP o:=λb o z=>FW _ (FW _ z)
 have c:=O _ _ c0;have n1:=e.keeps O;have k:=T.keeps O;have j:K.In ((h.push {cls:=.type "tuple",data:=.seq rest.toArray}).push (TY C h.objs.size)):=λa o z=>O a o (X a o z)
 have J:((h.push {cls:=.type "tuple",data:=.seq rest.toArray}).push (TY C h.objs.size)).get? (h.objs.size+1)=AP (TY C h.objs.size):=by heap_get
 have own:(Value.ref C::bm).contains (.ref C)=true:=by rw[List.contains_cons];simp
 repeat(first|wp_step|(with_reducible show G c0 ?_)|(with_reducible show Zi c0 ?_))
 show codeAny_call_builtin_code (uU _ F.quiet)<|wpAny_check_new_subT F T c0<|codeAny_exc_new_subT F T c0 ?_ Y
 change CR _ _ _ _ _ _;unfold isInstance;repeat(first|wp_step|(with_reducible show Zi J ?_)|(with_reducible show wpAny_isSubtype_exc c ?_;rw[own]))
 show(show CR _ _ (YC (.ref C) _) _ _ _ from wpAny_typeLookup_tail c n1 k F.mroIs F.init.lookup ?_);rw[hi];show N7<|BL<|PySem.W.Looks.here (s:={_,g,d,t,os}) (PySem.W.bind_fn j (.ref<|h.objs.size+1) U) ?_
 show BL<|Li i (λr s' z=>?_) λ_ _ z=>z
 rw[z.1];show DK<|show CR _ _ (ret<|Value.ref<|h.objs.size+1) _ _ _ from DK z.2
def amN (F:ExcBaseFacts B newId initId bmB)(T:OwnTail h bmB bm){mN rest}{Q}(X:K.In h)(G:oE K (.ref f)=AP (.type "function"))
  (c0:h.get? C=AP (Yy nm q C N bs bm hdct sn sub ab col dd k0 k1 k2 k3 k5 newId)) (O:h.Ns N mN) (hi:mN "__init__" = AP (.ref f))
  (U:CR (Cq prog w) (A.under (.builtin "type.__call__" ⟨.ref C::rest,[]⟩)) (call (.ref f) (.ref (h.objs.size+1)::rest)) (λr s'=>r=.none/\Q (.ref (h.objs.size+1)) s') E ⟨(h.push {cls:=.type "tuple",data:=.seq rest.toArray}).push (TY C h.objs.size),g,d,t,os⟩) (J:rest.length<=El) :
  CR (Cq prog w) A (call (.ref C) rest) Q E ⟨h,g,d,t,os⟩:=by
 have b:Shared.TypeIs ⟨h,g,d,t,os⟩ (.ref C) "type":={_,c0,rfl}
 have a:=tc_bind (.ref C);have Y:=tc_lookup;show ZC<|codeAny_of_tree<|show CR _ _ (callAny (.ref C) _) _ _ _ from ?_
 repeat(any_goals(first|(with_reducible show Zi c0 ?_)|assumption|wp_step))
 show{rfl,codeAny_call_builtin_at (uU _<|by decide +kernel) entry_typeCall<|wpAny_check_type_call_sub c0<|amG F T X G c0 O hi U J}
end
variable {hdct:Bool}{sn:List Str}{sub:List Aj}{dd:Option Addr}{col:Option Bool}{mN:Str->Option Aj}{initId:String}
section
variable {prog:Dm}{w:DX}{M:Model}{A:Ej}{E:Aj->Bc->Prop}{s:Bc}{env:Env}{K:CQ}{f:Addr}
variable {q:Str}{C N:Addr}{bs bmB:List Aj}{ab:Bool}{k0 k1 k2 k3 k5:Option Aj}{B:String}
abbrev QtE (A:Ej)(h:Heap)(e:Addr):Prop:=∀v,A.handled=AP v->∃a l,v=.ref a/\Lh h l v/\e∉l
def T9.heapL {P w H}{h v}(c:T9 H v)(x:MJ P w H h):∃l,Lh h l v/\∀a∈l,H a≠Af:=by
 induction c with
 | nil=>show{[],.nil,λa G=>absurd G (by simp)}
 | @cons c o u U z h1 h2 O _ J=>
  obtain⟨l,t,k⟩:=J;show{_,.cons (x _ _ h1).1 h2 O t,λa G=>?_};rcases M5.mp G with rfl|G
  rw[h1];show λq=>nomatch q
  show k a G
def Quiet.qte {A P w H}{h e}(q:Quiet A H)(x:MJ P w H h)(G:H e=Af):QtE A h e:=λv z=>by
 obtain⟨⟨a,h1⟩,c⟩:=q v z;obtain⟨l,t,k⟩:=c.heapL x;show{a,l,h1,t,λy=>k e y G}
def zaF {d oe}{ws e}{Q}(g:QtE A s.heap e)(J:s.heap.get? e=AP oe)(O:oe.data=.fields ws)(hz:2<ws.size)
  (h:∀h',(∀b,b≠e->h'.get? b=s.heap.get? b)->(∃o',h'.get? e=AP o'/\o'.cls=oe.cls/\o'.dict=oe.dict/\((A.handled=Af/\h'=s.heap)\/∃v,A.handled=AP v/\o'.data=.fields (ws.setIfInBounds 2 v)))->E (.ref e) {s with heap:=h'}):CR (Cq prog w) A (raiseNew (.ref e):Sem d) Q E s:=by
 show BL<|wpAny_handled ?_
 cases hh:A.handled with
 | none=>
  show BL<|DK<|Z4<|h _ (λ_ _=>rfl) {oe,J,rfl,rfl,.inl ⟨hh,rfl⟩}
 | some v=>
  obtain⟨a,l,rfl,c,U⟩:=g v hh;dsimp only;have f:(Value.ref a != Value.ref e)=true:=by
   simp only[bne_iff_ne];intro q;show U<|Value.ref.inj q ▸ ((by cases c with|cons=>simp))
  rw[if_pos f];show BL<|N7<|pR<|wk (BL<|BL<|wpAny_load J ?_) c U ⟨a,rfl⟩ _ false (λ_=>.refl) nofun
  rw[O];dsimp only;rw[if_pos hz];show wpAny_update J<|Z4 ?_
  have G:=U8 O (·.setIfInBounds 2 (Value.ref a));show h _ (λb i=>Ql _ _<|Ke i) {_,R7 _ J<|Vh G,Zj _ _,by obtain⟨c0,j,dt,sl⟩:=oe;cases O;rfl,.inr {_,hh,G}}
abbrev Rsd (A:Ej)(C:Addr)(e:Addr)(t:Addr)(od:Option Addr)(h h':Heap):Prop:=(∀b,b≠e->h'.get? b=h.get? b)/\∃o',h'.get? e=AP o'/\o'.cls=.ref C/\o'.dict=od/\((A.handled=Af/\h'=h)\/∃v,A.handled=AP v/\o'.data=.fields (#[.ref t,.none,.none,.none,.bool false,.none].setIfInBounds 2 v))
def alO {x}{Q}(f:bm.contains (.type "BaseException")=true)
  (h:CR (Cq prog w) A x (λv G=>∃e t od,v=.ref e/\G.heap.get? C=AP (Yy nm q C N bs bm hdct sn sub ab col dd k0 k1 k2 k3 k5 newId)/\G.heap.get? e=AP {TY C t with dict:=od}/\QtE A G.heap e /\
   ∀h',Rsd A C e t od G.heap h'->E (.ref e) {G with heap:=h'}) E s):CR (Cq prog w) A (raiseStmt env (AP x) Af) Q E s:=by
 have J:(Value.ref C::bm).contains (.type "BaseException")=true:=by rw[List.contains_cons,f];simp
 show BL<|Li h (λv G b=>?_) λ_ _ z=>z;obtain⟨e,t,od,g,Y,U,d,z⟩:=b
 subst g;obtain⟨h1,o,p,m,n⟩:=G;repeat(first|wp_step|(with_reducible show Zi U ?_)|(with_reducible show Zi Y ?_)|(with_reducible show wpAny_isSubtype_exc Y ?_;rw[J]))
 show zaF d U rfl (by simp) λh' a c=>by obtain⟨o',l,k,j,i⟩:=c;show z h' ⟨a,o',l,k,j,i⟩
def zaN (F:ExcBaseFacts B newId initId bmB){x}{apq pos}{args}{Q}
  (p:bm.contains (.type "BaseException")=true) (e:(Ku apq (Dc args env)).any (·.1)=false) (g:oE K (.ref f)=AP (.type "function")) (hi:mN "__init__" = AP (.ref f))
  (h:CR (Cq prog w) A (eval (.Name x np) env) (λfv O=>fv=.ref C/\CR (Cq prog w) A (evalArgs (.ref C) true (Ku apq (Dc args env)) [])
   (λa G=>(a.kw=[]/\a.pos.length<=El/\K.In G.heap)/\(G.heap.get? C=AP (Yy nm q C N bs bm hdct sn sub ab col dd k0 k1 k2 k3 k5 newId)/\G.heap.Ns N mN/\OwnTail G.heap bmB bm) /\
    CR (Cq prog w) (A.under (.builtin "type.__call__" ⟨.ref C::a.pos,[]⟩)) (call (.ref f) (.ref (G.heap.objs.size+1)::a.pos)) (λr J=>r=.none/\∃od,J.heap.get? C=AP (Yy nm q C N bs bm hdct sn sub ab col dd k0 k1 k2 k3 k5 newId)/\J.heap.get? (G.heap.objs.size+1)=AP {TY C G.heap.objs.size with dict:=od}/\QtE A J.heap (G.heap.objs.size+1)/\∀h',Rsd A C (G.heap.objs.size+1) G.heap.objs.size od J.heap h'->E (.ref (G.heap.objs.size+1)) {J with heap:=h'}) E
     {G with heap:=(G.heap.push {cls:=.type "tuple",data:=.seq a.pos.toArray}).push (TY C G.heap.objs.size)}) E O) E s) :
  CR (Cq prog w) A (exec (.Raise (AP (.Call (.Name x np) args [] apq)) Af pos) env) Q E s:=by
 show BL<|Yd<|alO (nm:=nm) (q:=q) (C:=C) (N:=N) (bs:=bs) (hdct:=hdct) (sn:=sn) (sub:=sub) (ab:=ab) (col:=col) (dd:=dd) (k0:=k0) (k1:=k1) (k2:=k2) (k3:=k3) (k5:=k5) (newId:=newId) p<|BL<|Li (wpAny_Call_ofName<|Li h (λfv O b=>?_) λ_ _ z=>z) (λv J U=>BL<|Yd<|DK U) λ_ _ z=>z;obtain⟨u,c⟩:=b
 subst u;show BL<|N7<|Li c (λa G ⟨⟨t,i,X⟩,⟨k,o,T⟩,Y⟩=>BL<|Yd ?_) λ_ _ z=>z
 obtain⟨v,y⟩:=a;cases t;simp only[e];show BL<|wpAny_keeperOf_exc k<|BL<|amN F T X g k o hi (Li Y (λr J j=>{j.1,?_}) λ_ _ z=>z) i
 obtain⟨_,od,n,m,l⟩:=j;show BL<|N7<|wpAny_point<|DK {_,_,od,rfl,n,m,l}
end
def aa8 {K}{h N}{m n v}(X:K.In h)(G:h.Ns N m)(e:La K N n=AP (AP v)):m n=AP v:=by
 obtain⟨o,es,ep,J,U,_,O⟩:=G;unfold La at e;split at e
 rename_i z;have y:=X _ _ z;rw[J]at y;cases y;cases U;split at e
 rename_i Y;cases e;have:=O n
 unfold nsFind findBy at this;simp_all
 simp_all
 cases e
abbrev J5 (K:CQ)(C fi:Addr)(bmB:List Aj)(newId:String):Bool:=exG K C bmB newId λz=>La K z "__init__"==AP (AP (.ref fi))
variable {fi:Addr}
def aaU {K}{h C}(X:K.In h)(q:J5 K C fi bm newId=true):
  ∃(tl:List Aj) (N:Addr) (nm G:Str) (bs:List Aj) (J:Bool) (sn:List Str) (sub:List Aj) (ab:Bool) (col:Option Bool) (dd:Option Addr) (k0 k1 k2 k3 k5:Option Aj) (mN:Str->Option Aj),
   K.lookup C=AP (Yy nm G C N bs tl J sn sub ab col dd k0 k1 k2 k3 k5 newId)/\h.Ns N mN/\mN "__init__" = AP (.ref fi)/\OwnTail h bm tl:=by
 obtain⟨tl,N,nm,G,bs,J,sn,sub,ab,col,dd,k0,k1,k2,k3,k5,O,a1,a2,a3⟩:=exo_ X q;show{tl,N,nm,G,bs,J,sn,sub,ab,col,dd,k0,k1,k2,k3,k5,_,O,.of_isNs<|PySem.W.isNs_of_in X a1,aa8 X (.of_isNs<|PySem.W.isNs_of_in X a1)<|eq_of_beq a2,a3}
abbrev exN (e C a:Addr):HO:=.ext λh=>h.get? e=AP (TY C a)
abbrev exD (e C a dx:Addr):HO:=.ext λh=>h.get? e=AP {TY C a with dict:=AP dx}
abbrev afq (K:CQ)(C:Addr)(f:Str):Bool:=UG K (.ref C) "__setattr__"==AP (AP (.builtin "object.__setattr__"))&&Yu K C&&UG K (.ref C) f==AP Af&&PySem.W.hasDictIn K C
abbrev adZ (C:Addr)(f:Str)(ta tv:TE):TS:=λD σ H=>tv σ H λy H1=>ta σ H1 λx H2=>∃e a,x=.ref e/\H2 e=AP (exN e C a)/\∀dx,H2 dx=Af->dx≠e->D.nx σ (Dn (Dn H2 dx (.xd [(f,y)])) e (exD e C a dx))
section
variable {X:Cx}{o value:Expr}{f:Str}{C:Addr}{pos pos':Pos}{ta tv:TE}
def aa0 (hx:afq X.K C f=true)(ha:PE X o ta)(hv:PE X value tv)(hs:Y7 value (AP (.Attribute o f pos')) pos.line X.env=pure false:=by rfl):PS X (.Assign [.Attribute o f pos'] value pos) (adZ C f ta tv):=by
 unfold afq at hx;simp at hx;obtain⟨⟨⟨x1,x2⟩,x3⟩,x4⟩:=hx;intro apn s σ H D I h;show plainObj_wpAny_Assign_Attribute (Eu (hv apn s σ H _ I h) λu s1 ⟨y,H1,I1,ry,q⟩=>Eu (ha apn s1 σ H1 _ I1 q) λov s2 c=>?_) hs;obtain⟨x,H2,I2,rx,e,a,ex,ee,q2⟩:=c;subst ex;obtain rfl:ov=Value.ref e:=rx;have ho:=(I2.hok e _ ee).1;have ne:=PN (FP ho);show anv I2.kIn ho x1 x2 x3 x4 λh' hX hN kp=>{σ,_,?_,q2 _ (I2.hok.fresh<|Em _) ne};have m2:∀b,b≠e->(h'.update e λ_=>TY C a).get? b=h'.get? b:=λb hb=>Ql _ _ (Ke hb)
 have Ia:Bk X apn σ (Dn H2 (~~~s2) (.xd [(f,y)])) {s2 with heap:=h'.update e λ_=>TY C a,toks:=s2.toks+2}:=by
  show I2.laid (λb z hz=>?_) (Em _) {_,hN.at<|λod z=>m2 _ ne ▸ z,λg=>?_};by_cases hb:b=e
  subst hb;rw[ho]at hz;rw[(R7 _ hX rfl)];show hz;rw[m2 b hb];show kp b z hb hz;rw[YJ];by_cases hg:g=f
  subst hg;rw[if_pos rfl,beq_self_eq_true];show ry;rw[if_neg hg,show(g==f)=false from by simpa using hg];trivial
 show Ia.write (by rw[aL<|Ke ne,ee];show True.intro) (.inl rfl) (λb z hb hz=>m2 b hb ▸ hz) {_,hX} {hX,{_,hX},λh1 h2 z k=>k _ z}
end
abbrev spI (C:Addr)(f:Str):Sp:=λvs H Q _=>∃e a v,vs=[.ref e,v]/\H e=AP (exN e C a)/\∀dx,H dx=Af->dx≠e->Q .non (Dn (Dn H dx (.xd [(f,v)])) e (exD e C a dx))
def alN {P w K}{mg base}{x qual st fd}{n1 n2 f C k}(F:VG K x qual st fi fd)(S:iH [n1,n2] [n1,n2] (aY st))
  (U:∀cdv A  (outer) (s) (H) (E),iJ k (A.deeper (Ua qual (aY st) s.heap.objs.size fi cdv)) ->
   Qn (LC PJ P w K mg base [n1,n2] qual (aY st) fi cdv A outer s H E).nox (eV st) (adZ C f (aeQ 0) (aeQ 1))):lE P w K mg base PJ (k+1) fi fd [n1,n2] (spI C f):=by
 show F.ok S (λvs H Q E c=>by obtain⟨e,a,v,G,_⟩:=c;rw[G];rfl) λcdv A outer s H Y Q E J b=>?_;obtain⟨e,a,v,G,O,q⟩:=b;subst G;show{_,U cdv A outer s H E J,v,rfl,.ref e,rfl,e,a,rfl,O,q}
abbrev forget (H:Hp)(e:Addr):Hp:=λb=>if b=e then Af else H b
def jd {H}{e}:forget H e e=Af:=by unfold forget;rw[if_pos rfl]
def cU {H}{e b}(h:b≠e):forget H e b=H b:=by unfold forget;rw[if_neg h]
section
variable {X:Cx}{apn:List (Addr×Obj)}{σ:St}{H:Hp}{s:Bc}{e:Addr}
def Bk.forget {d}{O:St}{H0 f}(I:Bk X apn σ H s)(a:H e=AP (.ext d))(Y:Bk X apn O H0 f)(h0:H0 e=Af)(g:X.s₀.heap.get? e=Af):Bk X apn σ (L2.forget H e) s:=by
 have U:∀b u,H0 b=AP u->b≠e:=λb u z y=>by rw[y,h0]at z;cases z
 show{I.ok,I.os,I.bare,{I.base.keep,I.base.slot,λb J z y h=>?_,I.base.there,λb xs z=>?_,λb J v z=>?_,λb ps z=>?_},I.loc,I.cell,?_,λx c z=>?_,λp i=>?_,λb v z=>?_,I.len};rw[cU ((λb J z y=>by rw[y,g]at z;cases z) b J z)];show I.base.free b J z y h;rw[cU (U b _ (Y.base.tups b xs z))];show I.base.tups b xs z;rw[cU (U b _ (Y.base.frzs b J v z))];show I.base.frzs b J v z;obtain⟨_,q⟩:=Y.base.tbls b ps z;rw[cU (U b _ q)];show I.base.tbls b ps z;by_cases G:X.env.locals=e
 rw[G];show jd;rw[cU G];show I.free;by_cases G:c=e
 rw[G];show jd;rw[cU G];show I.freeC x c z;obtain⟨h1,k,j⟩:=I.pin p i;show{h1,?_,j};by_cases G:p.1=e
 simp_all
 rw[cU G];show k;by_cases G:b=e
 rw[G,jd]at z;cases z;rw[cU G]at z;show(I.hok b v z).stay (λ_ _ _ q=>q) (λc q=>by rw[cU (λy=>by rw[y,a]at q;cases q)];show q) λc xs q=>by rw[cU (λy=>by rw[y,a]at q;cases q)];show q
end
section
variable {X:Cx}{apn:List (Addr×Obj)}{σ:St}{H:Hp}{s:Bc}{C:Addr}{x f:Str}{apq pos:Pos}{e:Expr}{t:TA}{k:Nat}{fd:Nu}{ps:List Str}
def ajr {Q}{R:V->Hp->Prop}(hn:acz X)(hex:X.ex=[])(hg:Gl X x)(hm:X.mg x=AP (.ref C))(hq:J5 X.K C fi Nx "ValueError.__new__" = true)(hfn:PySem.W.isFn X.K (.ref fi)=true)
  (Fi:lE X.prog X.w X.K X.mg X.base PJ k fi fd ps (spI C f)) (hr:iJ (k+1) X.A) (hb:Binds X.K fd ps []) (ha:PA X [e] t) (I:Bk X apn σ H s) (h:t σ H λvs H1=>∃v,vs=[v]/\R v H1)
  (hx:∀a dx H1 s' v,FX X apn σ (Dn H1 dx (.xd [(f,v)])) s' a C (AP dx)->H1 dx=Af->R v H1->X.xe (.ref a) s')
  (hdb:(x==("__debug__" : Str))=false:=by decide) (he:Dc [e] X.env=(false,eval e X.env)::Dc [] X.env:=by rfl) :
  CR (Cq X.prog X.w) X.A (exec (.Raise (AP (.Call (.Name x np) [e] [] apq)) Af pos) X.env) Q X.xe s:=by
 obtain⟨tl,N,nm,qn,bs,hd,sn,sub,ab,col,dd,k0,k1,k2,k3,k5,mN,hC,hN,hni,T⟩:=aaU I.mod.kin hq;show zaN (K:=X.K) (f:=fi) (C:=C) (nm:=nm) (q:=qn) (N:=N) (bs:=bs) (bm:=tl) (hdct:=hd) (sn:=sn) (sub:=sub) (ab:=ab) (col:=col) (dd:=dd) (k0:=k0) (k1:=k1) (k2:=k2) (k3:=k3) (k5:=k5)
  zN (mN:=mN) (T.hasType zN.hasBase) (by rw[he];rfl) (beq_iff_eq.mp hfn) hni (nC I hg hm {rfl,?_} hdb)
 have g:=ha apq apn s σ H _ I h;rw[he]at g|-
 show rR<|Eu g λus s2 d=>?_;obtain⟨vs,H2,I2,r,v,ev,kk⟩:=d
 subst ev;obtain⟨u,rfl,ru⟩:=vals1 r;show{{rfl,by simp[Yz],I2.kIn},{I2.kIn _ _ hC,hN.keeps I2.bk,T.keeps I2.bk},?_};have self:=by
  have:=Kf (s2.heap.push {cls:=.type "tuple",data:=.seq [u].toArray}) (o:=TY C (~~~s2)) rfl
  rwa[Ud]at this
 have nw:=I2.newOf (b:=(~~~s2)+1) (ZR (YG _));have I3:Bk X apn σ (Dn H2 ((~~~s2)+1) (exN ((~~~s2)+1) C (~~~s2))) {s2 with heap:=(s2.heap.push {cls:=.type "tuple",data:=.seq [u].toArray}).push (TY C (~~~s2)),toks:=s2.toks}:=
  I2.laid (λb z hz=>FW _ (FW _ hz)) (YG _) {self,{_,self},λh1 h2 z q=>q _ z}
 have sp:spI C f [.ref ((~~~s2)+1),v] _ (λr H4=>r=.non/\∃dx,H2 dx=Af/\dx≠(~~~s2)+1/\H4=Dn (Dn _ dx (.xd [(f,v)])) ((~~~s2)+1) (exD ((~~~s2)+1) C (~~~s2) dx)) E0:=
  {_,_,v,rfl,aV,λdx h1 h2=>{rfl,dx,by rw[aL h2]at h1;show h1,h2,rfl}}
 have r2:Cg [V.ref ((~~~s2)+1),v] [Value.ref ((~~~s2)+1),u]:=.cons rfl (.cons ru .nil);show ZC<|Wc (Fi.run _ X.stack _ _ {[Value.ref<|(~~~s2)+1,u],[]} [Value.ref<|(~~~s2)+1,u] _ _ E0 (hr.make C [u] []) (I3.env0.make C [u] []) (hb _ [Value.ref<|(~~~s2)+1,u] I3.kIn (by rw[<-Fi.len _ _ _ _ sp];rfl)) r2 sp) λr s' hq'=>?_
 cases r with
 | error ev=>show Z1 apn σ _ _ ev s' I3 hq'
 | ok fl=>
  cases fl with
  | ret uv=>
   obtain⟨v',H',I4,rv,ev,dx,h1,h2,eH⟩:=I3.after hq';subst ev eH;have he4:=(I4.hok ((~~~s2)+1) _ aV).1;have s0:X.s₀.heap.get? ((~~~s2)+1)=Af:=by
    rcases nw.s with q|q
    rw[hex]at q;cases q;show q
   have I5:=I4.forget aV I2 nw.h s0;have eF:forget (Dn (Dn (Dn H2 ((~~~s2)+1) (exN ((~~~s2)+1) C (~~~s2))) dx (.xd [(f,v)])) ((~~~s2)+1) (exD ((~~~s2)+1) C (~~~s2) dx)) ((~~~s2)+1)=Dn H2 dx (.xd [(f,v)]):=by
    funext b;by_cases hbe:b=(~~~s2)+1
    rw[hbe,jd,aL (Ke h2)];show nw.h.symm;rw[cU hbe,aL hbe];by_cases hbd:b=dx
    rw[hbd,aV,aV];rw[aL hbd,aL hbd,aL hbe]
   rw[eF]at I5;have ne5:Dn H2 dx (.xd [(f,v)]) ((~~~s2)+1)=Af:=by rw[aL (Ke h2)];show nw.h
   have n5:New X apn (Dn H2 dx (.xd [(f,v)])) ((~~~s2)+1):=⟨ne5,nw.s,nw.l,nw.c,nw.p,nw.f⟩
   show{rv,AP dx,I4.kIn _ _ hC,he4,Quiet.qte (A:=X.A) I5.qt0 I5.hok ne5,λh' i=>?_};obtain⟨rs,o',b1,b2,b3,b4⟩:=i;have st:Uu (New X apn (Dn H2 dx (.xd [(f,v)]))) (frs X.stack) s'.heap h':=by
    have nn:∀b,¬New X apn (Dn H2 dx (.xd [(f,v)])) b->b≠(~~~s2)+1:=λb q z=>q (by rw[z];show n5)
    show{λb o q _ z=>(rs b<|nn b q).trans z,λb o q z=>{o.slots,(rs b<|nn b q).trans z},λb o z=>?_};by_cases hb:b=(~~~s2)+1
    rw[hb];show⟨o',b1⟩;show{o,(rs b hb).trans z}
   show hx _ dx H2 _ v {I5.stp st,n5,o',?_} h1 kk;rcases b4 with⟨_,rfl⟩|⟨y,hy,hd'⟩
   rw[he4]at b1;cases b1;show{_,he4,rfl,rfl,rfl,by simp,{.none,rfl,.nil},.inl rfl};show{_,b1,b2,b3,hd',by simp,{y,by simp,(hn y hy).mono (λ_ q=>q) I5.base.frzs},.inl<|by simp}
  | next=>show Uq hq'
  | brk=>show Uq hq'
  | cont=>show Uq hq'
end
abbrev Ek (x f:Str)(ma:ME)(E:Ci):MS:=λ_ σ h=>ma σ h λw h1=>E ⟨x,[(f,w)]⟩ h1
section
variable {X:Cx}{e:Expr}{pos:Pos}
def amc {C}{x f apq k fd}{ps}(hn:acz X)(hex:X.ex=[])(hg:Gl X x)(hm:X.mg x=AP (.ref C))(hq:J5 X.K C fi Nx "ValueError.__new__" = true)(hfn:PySem.W.isFn X.K (.ref fi)=true)
  (Fi:lE X.prog X.w X.K X.mg X.base PJ k fi fd ps (spI C f)) (hr:iJ (k+1) X.A) (hb:Binds X.K fd ps []) (hx:aau X.K C x=true) (hf:Gq x=[f]) (ha:DE X e ma) (hdb:(x==("__debug__" : Str))=false:=by decide) (he:Dc [e] X.env=(false,eval e X.env)::Dc [] X.env:=by rfl) :
  Vt X Γ (.Raise (AP (.Call (.Name x np) [e] [] apq)) Af pos) (λE=>Ek x f ma E):=by
 rintro apn s σ H D I ⟨g,μ,h,σw,Dw,E,R,S,m,k,kx⟩;have hxc:=by
  have:=hx
  unfold aau at this;simp at this;show this.1.1
 show ajr (R:=λv H1=>∃μ1 w h1,K5 X.K H μ H1 μ1/\Dz X.K μ1 H1 h1/\DW X.K H1 μ1 w v/\E {x,[(f,w)]} h1) hn hex hg hm hq hfn Fi hr hb (fH ha cQ he) I {μ,h,σw,λws h1=>∃w,ws=[w]/\E {x,[(f,w)]} h1,R,S,?_,λvs H' ⟨μ1,ws,h1,e1,R1,r1,w,ew,m1⟩=>?_} (λa dx H1 s' v F hdx ⟨μ1,w,h1,e1,R1,r1,m1⟩=>?_) hdb he;show(show ma σw h λw h1=>aG σw h1 λws h2=>∃w',(w::ws)=[w']/\E {x,[(f,w')]} h2 from by
  have:(λw h1=>E {x,[(f,w)]} h1)=(λ(w:W) (h1:Gh)=>aG σw h1 λws h2=>∃w',(w::ws)=[w']/\E {x,[(f,w')]} h2):=by
   funext w h1;apply propext;constructor;show λz=>⟨w,rfl,z⟩;rintro⟨w',ew,z⟩;simp_all
  show this ▸ m)
 subst ew;obtain⟨v,vr,ev,rv,r0⟩:=r1;subst r0;grind
 have ex:K5 X.K H1 μ1 (Dn H1 dx (.xd [(f,v)])) μ1:=(Ex.laid hdx).ext;show kx _ s' {a,C,x,AP dx,[(f,w)],apn,σ,_,μ1,h1,rfl,F,hxc,g,e1.trans ex,R1.laid hdx,.inr {dx,[w],[v],rfl,hx,by rw[hf];rfl,by rw[hf];rfl,by rw[hf];rfl,?_,aP.one<|ex.r _ _ r1},m1};show hf ▸ aV
end
abbrev Zw (f:Str)(ma:ME):ME:=fun σ h Q=>ma σ h λw h1=>match w with
 | .exa n ws=>(match((Gq n).zip ws).lookup f with
  | some v=>Q v h1
  | none=>False)
 | _=>False
def vH {K H μ}{f v}:∀{ns:List Str}{ws xs},aP K H μ ws xs->(ns.zip ws).lookup f=AP v->∃x,(ns.zip xs).lookup f=AP x/\DW K H μ v x
 | n::ns,w::ws,xs,r,e=>by
  obtain⟨u,us,rfl,G,r⟩:=r;rw[List.zip_cons_cons,YJ]at e|-
  cases q:f==n with
  | true=>rw[q]at e;cases e;show⟨u,rfl,G⟩
  | false=>rw[q]at e;show vH r e
def Rv {f}{v:W}:∀{ns:List Str}{ws},(ns.zip ws).lookup f=AP v->f∈ns
 | n::ns,w::ws,e=>by
  rw[List.zip_cons_cons,YJ]at e;cases q:f==n with
  | true=>rw[beq_iff_eq.mp q];show Ub ..
  | false=>rw[q]at e;show T6 _ (Rv e)
section
variable {X:Cx}{e:Expr}{f:Str}{pos:Pos}
def adG (ha:DE X e ma)(hb:Yb e f X.env (eval e X.env)=eval e X.env:=by rfl):DE X (.Attribute e f pos) (Zw f ma):=by
 rintro apn s σ H Q I ⟨μ,h,σw,Qw,R,S,m,q⟩;show aaI hb<|Eu (ha apn s σ H _ I {μ,h,σw,_,R,S,m,λ_ _ z=>z}) λu s1 a=>?_;obtain⟨x,H1,I1,rx,μ1,w,h1,e1,R1,r1,m1⟩:=a
 cases w with
 | exa n ws=>
  dsimp only at m1;split at m1
  ·rename_i v el;obtain⟨p,o,uu,dd,ns,xs,ev,hp,⟨C,hcl,hdi,hnc,hxa⟩,hdd,en,hln,rs⟩:=r1;subst ev en;obtain rfl:u=Value.ref p:=rx;obtain⟨y,ey,ry⟩:=vH rs el;obtain⟨mA,hns,hrel⟩:=(I1.hok dd _ hdd)
   have ry2:=hrel f;rw[ey]at ry2;cases qm:mA f with
   | none=>rw[qm]at ry2;cases ry2
   | some uv=>
    rw[qm]at ry2;obtain⟨od,hod,hl⟩:=zbu hns;unfold aau at hxa;simp at hxa;obtain⟨⟨hxc,hhd⟩,hall⟩:=hxa;obtain⟨_,⟨cd,Rr,hc,hmm,_⟩,hg,hg',_⟩:=aa3 hxc;have hB:Yj X.K C (.type "BaseException")=AP true:=by
     unfold Yj;rw[hc,Option.bind_some,hmm];rfl
    show zbz I1.kIn {(I1.hok p _ hp).1,hcl,hnc,by rwa[hdi]} hg hg' (PySem.W.findObj_own hhd (hall f<|Rv el) rfl<|by rw[hl,qm]) (amM ry2) hB {y,H1,I1.tok _,ry2,q _ _ ⟨μ1,v,h1,e1,R1,ry,m1⟩}
  cases m1
 | _=>cases m1
end
section
variable {X:Cx}
end
section
variable {X:Cx}{tg:Expr}
def aah {iter}{body g}{mb0 pos}(hp:vo (Cq X.prog X.w) X.A X.env X.xe)(hc:X.calm=true)(hΓ:∀σ,Γ σ)(hi:Uj X tg iter mi)(hg:DG X tg g)(hb:LQ X Γ body mb0)
  (hs:∀x,YK iter X.env x=pure x:=by intro _;rfl):Vt X Γ (.For tg iter body [] pos) (λE=>mV mi g (mb0 E)):=(W6 hp hc hi hg hb hs).of λD σ H a=>by
 obtain⟨_,μ,h,σw,Dw,E,R,S,m,k,kx⟩:=a;show{μ,h,σw,_,R,S,m,λJ H1 ⟨μ1,src,h1,e1,R1,ok,m1⟩=>{λi n σ' H'=>n=src.ws.length-i/\i<=src.ws.length/\DN _ H1 μ1 (iR src g _ Dw<|src.ws.drop i) σ' H',{src.ws.length,by simp,Pz _,μ1,σw,h1,.refl,R1,S.ext e1,m1},?_}};rintro i n σ2 H2 ⟨hn,hle,μ2,σw2,h2,e2,R2,S2,m2⟩;by_cases hlt:i<src.ws.length
 rw[vh hlt]at m2;obtain⟨ck,m2⟩:=Src.go_ok m2;obtain⟨hgo,hy⟩:=(ok e2 R2 ck).1 src.ws[i] (Lq hlt);show .inr {hgo,fun σ' H'=>DN _ H2 μ2 _ σ' H',fun σ' H' z=>{src.ws.length-(i+1),⋯,rfl,hlt,z.trans e2},λx H3 y=>?_};obtain⟨μ3,e3,R3,rx⟩:=hy x H3 y;show{μ3,h2,σw2,src.ws[i],_,R3,S2.ext e3,rx,m2,fun σ4 H4 ⟨μ4,σw4,h4,e4,R4,S4,m4⟩=>?_};have e24:=e3.trans e4;have e14:=(e1.trans e2).trans e24;show{hΓ _,μ4,h4,σw4,_,E,R4,S4,m4,{fun σ' H' z=>z.trans e24,λv H' z=>k.rt _ _<|z.trans e14,fun σ' H' z=>k.nx _ _<|z.trans e14,fun σ' H' z=>z.trans e24},λev s' z=>kx ev s'<|z.trans e14};have ei:i=src.ws.length:=⋯
 subst ei;rw[List.drop_length]at m2;obtain⟨ck,m2⟩:=Src.go_ok m2;show .inl {(ok e2 R2 ck).2 (Em _),k.nx _ _ {μ2,σw2,h2,e1.trans e2,R2,S2,m2}}
end
abbrev Ite (K:CQ)(l:Addr):It:=
  ⟨λi H=>∃xs x,Kr K H l xs/\xs[i]?=AP x,
   λi H v H'=>∃p x,H p=Af/\v=.ref p/\H'=Dn H p (.tup [.int (i:Int),x])/\∀xs,Kr K H l xs->xs[i]?=AP x,
   λi H=>∃xs,Kr K H l xs/\xs.length<=i,true⟩
abbrev air (e it l:Addr)(n:Nat)(h:Heap):Prop:=(∃G,IsEnum h e it (n:Int) G)/\h.IsListIter it l n
def zbj {P:Dm}{w:DX}{K:CQ}{pos:Pos}{e it l:Addr}(D:e≠it):Turn P w K (.Tuple elts kt pos) (Ite K l) [e,it] e (air e it l) where
 mem:=by simp
 obj:=λi h st b G=>by
  obtain⟨⟨U,O⟩,o,J,_,d⟩:=st;simp at G;rcases G with rfl|rfl
  show{_,O,nofun};show{o,J,λv y=>by rw[d]at y;cases y}
 keep:=λi h h' st k=>{{_,k e (by simp) _ st.1.choose_spec},st.2.at λo q=>k it (by simp) o q}
 item:=by
  intro X p m t M i apn s σ H E I f st n;subst p m t;obtain⟨⟨U,O⟩,J⟩:=st;obtain⟨xs,x,c,ex⟩:=n;obtain⟨its,r,pl,Z⟩:=I.list c;obtain⟨u,hu,R⟩:=r.get ex;show wpAny_pyNext_enum_item O J pl.isList (by simpa using hu) D λh1 go v T1 g a=>{_,rfl,?_};show wpAny_letOwnedTupleGo_enum go λh2 ge2 j=>?_;have I1:Bk X apn σ (Dn H _ (.tup [.int _,x])) {s with heap:=s.heap.push {cls:=.type "tuple",data:=.seq #[.int _ _,u]},toks:=s.toks+1}:=
   I.laid (λb o q=>FW _ q) (Em _) {(by change 2<=El;decide),[.int (i:Int) s.toks,u],.cons {_,rfl} (.cons R .nil),{_,Kf _ rfl,rfl,{_,rfl},rfl}}
  have W:∀b∈[e,it],(~~~s)≠b:=λb G=>by
   simp at G;rcases G with rfl|rfl
   show(PN<|FP O);show(by obtain⟨o,q,_⟩:=J;show PN (FP q))
  have Y:∀b∈[e,it],Lk X apn (Dn H _ (.tup [.int (i:Int),x])) b:=λb G=>{by rw[aL (Ke (W b G))];show(f b G).1,(f b G).2}
  have I2:=by
   show Bk.turnedL (h':=h2) (t':=s.toks+1) I1 (λb o G q=>?_) Y;have A:b≠e:=λq=>G (by simp[q])
   rcases Heap.get?_push_cases q with⟨rfl,rfl⟩|S
   show j.extBut _ _ A T1;show j.extBut _ _ A<|a b o A (λq=>G<|by simp[q]) S
  show{.ref (~~~s),_,I2,rfl,{(~~~s),x,(I.hok.fresh<|Em _),rfl,rfl,λxs' q=>I.list_inj q c ▸ ex},?_,λb G=>(Y b G).1};show{{_,by rwa[Int.natCast_add]},v.at λo q=>j.extBut _ o (Ke D) q}
 done:=by
  intro X p m t M i apn s σ H E I f st n;subst p m t;obtain⟨⟨U,O⟩,J⟩:=st;obtain⟨xs,c,hl⟩:=n;obtain⟨its,r,pl,Z⟩:=I.list c;have hn:=r.length;show wpAny_pyNext_enum_end (I.ok.hd<|M rfl) O J pl.isList (by simp;lia) λh1 eb=>{rfl,I.turnedL (λb o G q=>eb b o (λz=>G<|by simp[z]) q) f}
 self:=λ_ _ _ _ _ st h=>wpAny_pyIter_enum st.1.choose_spec h
section
variable {X:Cx}{K:CQ}
abbrev agj (K:CQ)(ta:TA):TI:=fun σ H R=>ta σ H λvs H1=>∃a xs,vs=[.ref a]/\Kr K H1 a xs/\R (Ite K a) H1
def amj {ta}{p pos tpos}(hg:Gl X "enumerate")(hm:X.mg "enumerate" = Af)(ha:PA X [e1] ta)
  (hs:Dc [e1] X.env=(false,eval e1 X.env)::Dc [] X.env:=by rfl) (hpl:(Ku pos (Dc [] X.env)).any (·.1)=false:=by rfl) :
  PI X (.Tuple elts kt tpos) (.Call (.Name "enumerate" p) [e1] [] pos) (agj X.K ta):=by
 intro apn s σ H R I h;show Vm<|pD I hg hm boot_enumerate (Yr (Eu (ha pos apn s σ H _ I h) λus s1 ⟨vs,H1,I1,r1,q1⟩=>?_) hs hpl) ∅<|∅
 obtain⟨a,xs,ev,hx,q⟩:=q1;subst ev;obtain⟨u1,eu,ru1⟩:=vals1 r1;subst eu;cases ru1;obtain⟨its,r,pl,hz⟩:=I1.list hx;show call_enumerate_list pl.isList λh' ge gi size all=>(wpAny_pyIter_enum ge ?_);generalize hn:(~~~s1)=n at ge gi size|-
 show{n+1,[n+1,n],_,_,H1,rfl,(I1.kept all),zbj<|m6<|show n+1≠n by lia,{{_,ge},gi},λc hc=>?_,q};have hc':n<=c:=by
  grind
 show I1.fpOk (hn ▸ hc')<|I1.hok.fresh<|hn ▸ hc'
abbrev Ux:Nat->List W->List W
 | _,[]=>[]
 | i,a::as=>.tup [.int (i:Int),a]::Ux (i+1) as
def Ea:∀{as j i}{w:W},(Ux j as)[i]?=AP w->∃a,as[i]?=AP a/\w=.tup [.int ((j+i:Nat):Int),a]
 | a::as,j,0,w,e=>{a,rfl,(Ky e).symm}
 | a::as,j,i+1,w,e=>by
  obtain⟨x,h1,h2⟩:=Ea (by simpa[Ux]using e);grind
def Fw:∀{as j},(Ux j as).length=as.length
 | [],_=>rfl
 | a::as,j=>by rw[Ux,Od,Fw,Od]
abbrev enS (h:Gh)(x:W):Option Src:=match x with
 | .lst as=>AP ⟨Ux 0 as,Af⟩
 | .kls as=>AP ⟨Ux 0 as,Af⟩
 | .loc n=>(match h.c n with
  | some (.lst as)=>AP ⟨Ux 0 as,AP (n,as)⟩
  | _=>Af)
 | _=>Af
def acT {H h w v}{s}(R:Dz K μ H h)(r:DW K H μ w v)(e:enS h w=AP s):
  ∃a ws o,v=.ref a/\s=⟨Ux 0 ws,o⟩/\Src.chk ⟨ws,o⟩ h/\∀{H2 μ2 h2},K5 K H μ H2 μ2->Dz K μ2 H2 h2->Src.chk ⟨ws,o⟩ h2->∃xs,Kr K H2 a xs/\aP K H2 μ2 ws xs:=by
 cases w with
 | lst us=>
  cases(e)
  have O:=r;obtain⟨p,xs,G,hs,J⟩:=r;subst G;show{p,us,Af,rfl,rfl,trivial,λ{H2 μ2 h2} x _ _=>?_};obtain⟨q,ys,G,hs,J⟩:=(x.r _ _ O)
  cases G;show⟨ys,hs.sq,J⟩
 | kls us=>
  cases e;have O:=r;obtain⟨p,xs,G,hs,J⟩:=r;subst G;show{p,us,Af,rfl,rfl,trivial,λ{H2 μ2 h2} x _ _=>?_};obtain⟨q,ys,G,hs,J⟩:=(x.r _ _ O)
  cases G;show⟨ys,hs.sq,J⟩
 | loc n=>
  have e:(match h.c n with
   | some (.lst as)=>AP _
   | _=>Af)=AP s:=e
  split at e
  rename_i as d;cases e;have O:=r;obtain⟨p,G,g⟩:=r;subst G;show{p,as,AP _,rfl,rfl,d,λ{H2 μ2 h2} x R2 f=>?_};obtain⟨q,c,Y⟩:=(x.r _ _ O)
  cases c;obtain⟨p',xs,U,b,J⟩:=R2.lstAt f;cases by rw[Y]at U;show(Ky U).symm
  show{xs,.of b,J};cases e
 | _=>cases e
abbrev aaJ (ma:MA):MI:=fun σ h R=>ma σ h λws h1=>match ws with
 | [x]=>(match enS h1 x with
  | some s=>R s h1
  | none=>False)
 | _=>False
def aak {p pos tpos}(hg:Gl X "enumerate")(hm:X.mg "enumerate" = Af)(ha:Mp X [e1] mr)
  (hs:Dc [e1] X.env=(false,eval e1 X.env)::Dc [] X.env:=by rfl) (hpl:(Ku pos (Dc [] X.env)).any (·.1)=false:=by rfl) :
  Uj X (.Tuple elts kt tpos) (.Call (.Name "enumerate" p) [e1] [] pos) (aaJ mr):=PI.of (amj hg hm ha hs hpl) fun σ H Q d=>by
 obtain⟨μ,h,σw,Rw,R,S,m,k⟩:=d;show{μ,h,σw,_,R,S,m,λvs H1 b=>?_};obtain⟨μ1,ws,h1,e1,R1,r1,m1⟩:=b;split at m1
 split at m1
 rename_i x _ s es;obtain⟨v,ev,rv⟩:=iQ r1;obtain⟨a,as,o,ea,es',ck1,fa⟩:=acT R1 rv es;subst es' ea;obtain⟨xs,hxs,_⟩:=fa .refl R1 ck1;show{a,xs,ev,hxs,k _ _ {μ1,{Ux 0 as,o},h1,e1,R1,?_,m1}};intro H2 μ2 h2 i e2 R2 ck;obtain⟨xs2,hxs2,rxs⟩:=fa e2 R2 ck;show{λw ew=>?_,λhl=>{xs2,hxs2,?_}};obtain⟨p1,ep1,rfl⟩:=Ea ew;obtain⟨q1,eq1,rq1⟩:=rxs.get ep1;show{⟨xs2,q1,hxs2,eq1⟩,λx' H3 c=>?_};obtain⟨pa,x1,hp,ex',eH3,f1⟩:=c;have g1:=f1 xs2 hxs2;rw[eq1]at g1;cases g1;subst ex' eH3;rw[Zd];show{μ2,(Ex.laid hp).ext,R2.laid hp,.tupNew hp<|.cons (by rw[DW])<|.one rq1};have l1:=rxs.len;have:=Fw ▸ hl
 lia;cases m1;cases m1
end
section
variable {X:Cx}{pos p:Pos}{e:Expr}{es:List Expr}{k:Nat}{fs:List (Addr×Aw)}
end
section
variable {P:Dm}{w:DX}{A:Ej}{E:Aj->Bc->Prop}{s:Bc}{kd:SortKind}{rk:Aj->Nat}{good:Aj->Prop}
structure Within (a b:Array Keyed) (lo hi:Nat):Prop where
 perm:b.Perm a
 out:∀k,k<lo\/hi<=k->b[k]?=a[k]?
end
variable {kd:SortKind}{good:Aj->Prop}
section
variable {P:Dm}{w:DX}{A:Ej}{E:Aj->Bc->Prop}{s:Bc}{rk:Aj->Nat}
end
abbrev Ls (h:Heap)(d:Addr)(es:Array Y8)(ep:Nat):Prop:=∃o,h.get? d=AP o/\o.ExactDict/\o.data=.dict es ep
def Ls.of {h h' d}{es}(x:Ls h d es ep)(e:∀o,h.get? d=AP o->h'.get? d=AP o):Ls h' d es ep:=by
 obtain⟨o,g,r⟩:=x;show{o,e o g,r}
def Ls.ty {s:Bc}{d}{es}(x:Ls s.heap d es ep):s.TypeIs (.ref d) "dict":=by
 obtain⟨o,g,r,_⟩:=x;show⟨o,g,r.1⟩
section
variable {P:Dm}{w:DX}{A:Ej}{E:Aj->Bc->Prop}{s:Bc}{d it:Addr}{es:Array Y8}{i:Nat}
def anE {Q}(U:(d==U0)=false)(x:Ls s.heap d es ep)
  (q:Q (.ref s.heap.objs.size) {s with heap:=s.heap.push {cls:=.type "dict_keyiterator",data:=.fields #[.ref d,.int 0 0,.int es.size 0,.int ep 0]} }):CR (Cq P w) A (pyIter (.ref d)) Q E s:=by
 have G:=x.ty;obtain⟨o,g,Y,O⟩:=x;show wpAny_pyIter_slot G F.slot_dict_iter<|Uh F.slot_dict_iter G F.entry_dict_iter (BL<|BL<|wpAny_notOrdered_dict G<|DK ?_)<|F.args_dict_iter_1 _
 change CR _ _ (Builtin.Dict.showsAll d >>= _) _ _ s;unfold Builtin.Dict.showsAll;rw[U];show BL<|DK<|BL<|wpAny_dictEntries g O<|BL<|wpAny_dictEpoch g O<|BL<|SX<|DK {_,rfl, "dict_keyiterator",_,{_,Kf _ rfl,rfl},ug.lookup,?_}
 simpa[O7]using q
def ajO {Q}(J:s.heap.IsKeyIter it d i es.size ep)(x:Ls s.heap d es ep)(hi)
  (q:∀h',h'.IsKeyIter it d (i+1) es.size ep->Qf it s.heap h'->Q (AP es[i].key) {s with heap:=h'}):CR (Cq P w) A (pyNext (.ref it)) Q E s:=by
 obtain⟨u,Y,c,U⟩:=id J;obtain⟨o,g,_,a⟩:=x;show BL<|YQ<|Vj (name:=Str.ofString "__next__") J.typeIs ug<|Uh ug J.typeIs F.entry_dict_keyiterator_next ?_<|F.args_dict_keyiterator_next_1 _
 show BL<|DK<|BL<|BL ?_
 first
  | show BL (zQ J.typeIs (DK ?_))
 show BL<|wpAny_fieldsOf Y U ?_
 show BL<|DK<|BL<|wpAny_dictEntries g a ?_
 rw[if_neg (by simp)];show BL<|DK<|BL<|wpAny_dictEpoch g a ?_
 rw[if_neg (by simp)];show DK ?_;simp only[show ¬((i:Int)<0)from ⋯,if_false,Zb,wQ hi];show BL ?_;first
  | show BL (zQ J.typeIs (DK ?_))
  | show BL (G J.typeIs (DK ?_))
 show BL<|wpAny_isOneOf_keyiter J.typeIs ?_
 change CR _ _ (setField (.ref it) 1 (O7 ((i:Int)+1)) >>= _) _ _ s;show BL<|Vy Y U (by simp) ?_
 have b:(s.heap.update it (Obj.mapFields (·.setIfInBounds 1 (O7 ((i:Int)+1))))).IsKeyIter it d (i+1) es.size ep:=by
  show{_,R7 _ Y<|Vh<|U8 U _,(Zj ..).trans c,?_};rw[U8 U];simp[O7]
 show BL<|N7<|BL<|wpAny_isOneOf_keyiter (s:={s with heap:=s.heap.update it (Obj.mapFields (·.setIfInBounds 1 (O7<|(i:Int)+1)))}) b.typeIs ?_
 change CR _ _ (pure es[i].key) _ _ _;show DK<|DK {_,rfl,DK<|q _ b<|Vg ..}
def alr {Q}(hh:A.handled=Af)(J:s.heap.IsKeyIter it d es.size es.size ep)(x:Ls s.heap d es ep)(q:∀h',Z6 it s.heap h'->Q Af {s with heap:=h'}):CR (Cq P w) A (pyNext (.ref it)) Q E s:=by
 obtain⟨u,U,e,c⟩:=id J;obtain⟨o,g,_,Y⟩:=x;show BL<|YQ<|Vj (name:=Str.ofString "__next__") J.typeIs ug<|Uh ug J.typeIs F.entry_dict_keyiterator_next ?_<|F.args_dict_keyiterator_next_1 _
 show BL<|DK<|BL<|BL ?_
 first
  | show BL (zQ J.typeIs (DK ?_))
 show BL<|wpAny_fieldsOf U c ?_
 show BL<|DK<|BL<|wpAny_dictEntries g Y ?_
 rw[if_neg (by simp)];show BL<|DK<|BL<|wpAny_dictEpoch g Y ?_
 rw[if_neg (by simp)];show DK ?_;simp only[show ¬((es.size:Int)<0)from ⋯,if_false,Zb,Array.getElem?_eq_none (Em es.size)];show BL ?_;first
  | show BL (zQ J.typeIs (DK ?_))
  | show BL (G J.typeIs (DK ?_))
 change CR _ _ (setField (.ref it) 0 .none >>= _) _ _ s;show BL<|Vy U c (by simp) ?_
 change CR _ _ (newExc (.type "StopIteration") [] >>= _) _ _ _;show BL ?_;simp only[newExc,newTuple];show BL<|SX ?_<|by size_fits
 show BL (m:=Zg _ _)<|Ve (a:=Value.none) (by first|rfl|(simp only[Zg];rfl)) ?_
 show SX ?_<|by size_fits
 simp only[raiseNew];show BL<|wpAny_handled ?_
 rw[show A.in1.handled=Af from hh];show BL<|DK<|Z4 ?_
 show BL<|Zu (b:=true) (T := "StopIteration") {_,Kf _ rfl,rfl} isSubtype_stop ?_
 show DK<|q _<|((Vg ..).extBut.push _).push _
def zbb (hh:A.handled=Af)(I d:Addr)(c:d≠I)(es:Array Y8)(ep:Nat):
  Walks P w A I [I,d] [I] es.size (λi v=>∃h:i<es.size,v=es[i].key) (λi h=>h.IsKeyIter I d i es.size ep/\Ls h d es ep) where
 sub:=λb G=>by simp at G;simp[G]
 frame:=λi h h' st k=>{by obtain⟨⟨o,g,r⟩,_⟩:=st;show{o,k I (by simp) o g,r},st.2.of λo e=>k d (by simp) o e}
 item:=λi s Q E hi st q=>ajO st.1 st.2 hi λh' g U=>q _ h' _ ⟨hi,rfl⟩ {g,st.2.of λo e=>U.extBut d o c e} λb o G e=>U.extBut b o (λz=>G (by simp[z])) e
 done:=λs Q E st q=>alr hh st.1 st.2 λh' f=>q h' _ λb o G e=>f b o (λz=>G (by simp[z])) e
 self:=λ_ _ _ _ st q=>wpAny_pyIter_keyiter st.1 q
def akY (b:(d==U0)=false):PySem.W.KdlSrc P w "dict" d d es.size (λi v=>∃h:i<es.size,v=es[i].key) (λh=>Ls h d es ep) where
 type:=λ_ x=>x.ty
 there:=λ_ x=>by obtain⟨o,g,_⟩:=x;show{FP g,FP g}
 keep:=λ_ _ x k=>x.of λo e=>k d (.inl rfl) o e
 notList:=∅
 notTuple:=∅
 hint:=λ_ _ _ _ x q=>PySem.W.kdl_hint_dict x.ty q
 iter:=λ_ s hh x=>{_,_,λ_ _ q=>anE b x q,zbb hh _ d (KC (by obtain⟨o,g,_⟩:=x;show FP g)) es ep,{_,Kf _ rfl,rfl,rfl},x.of λo e=>FW _ e}
def zaw {Q}(hh:A.handled=Af)(y:(d==U0)=false)(x:Ls s.heap d es ep)(hz:es.size<=El)
  (q:∀h' tk,(∀b o,s.heap.get? b=AP o->h'.get? b=AP o)->s.heap.objs.size<h'.objs.size->Q (es.toList.map (·.key)) {s with heap:=h',toks:=tk}):CR (Cq P w) A (collect (.ref d)) Q E s:=by
 have t:d<(~~~s):=by obtain⟨o,g,_⟩:=x;show FP g
 show BL<|pR<|Vk F.entry_proto_collect ?_
 show BL<|SX<|DK {Vc F.plain_list_iadd _,Vk F.entry_list_iadd ?_}
 rw[lw F.plain_list_iadd _];have g0:(s.heap.push {cls:=.type "list",data:=.seq ([]:List Aj).toArray}).get? (~~~s)=AP {cls:=.type "list",data:=.seq ([]:List Aj).toArray}:=Kf _ rfl;have m:∀(f:Flow) (s':Bc),(f=.ret (.ref (~~~s))/\∃h' tk G c,s'={s with heap:=h',toks:=tk}/\(∀b o,b≠(~~~s)->(s.heap.push {cls:=.type "list",data:=.seq ([]:List Aj).toArray}).get? b=AP o->h'.get? b=AP o)/\h'.get? (~~~s)=AP {cls:=.type "list",dict:=Af,data:=.seq G c,slots:=#[]}/\ItemsOf (λi v=>∃h:i<es.size,v=es[i].key) G es.size) ->
   ∃v,f=.ret v/\CR (Cq P w) A (match v with
    | Value.ref a=>do
     let u <-load a
     match u.data with
     | Data.seq xs _=>pure xs.toList
     | _=>Z3 "internal:collect"
    | _=>Z3 "internal:collect") Q E s':=by
  rintro f s' ⟨rfl,h',tk,G,c,rfl,k,e,it⟩;show{_,rfl,?_};show BL<|wpAny_load e ?_
  have B:G.toList=es.toList.map (·.key):=by
   show List.ext_getElem? λj=>?_;rw[Kh,Array.getElem?_toList,Array.getElem?_toList];by_cases hj:j<es.size
   have l:j<G.size:=by rw[it.1];show hj
   obtain⟨_,z⟩:=it.2 j G[j] (wQ l);rw[wQ l,wQ hj,z];rfl;rw[Array.getElem?_eq_none (by rw[it.1];lia),Array.getElem?_eq_none ⋯];rfl
  show DK ?_;rw[B];show q h' tk (λb o g=>k b o (KC<|FP g)<|FW _ g)<|FP e
 show Li (PySem.W.kdl_extend (s:={s with heap:=s.heap.push {cls:=.type "list",data:=.seq ([]:List Aj).toArray} }) (R:=λr s'=>match r with
  | .ok f=>f=.ret (.ref (~~~s))/\∃h' tk G c,s'={s with heap:=h',toks:=tk}/\(∀b o,b≠(~~~s)->(s.heap.push {cls:=.type "list",data:=.seq ([]:List Aj).toArray}).get? b=AP o->h'.get? b=AP o)/\h'.get? (~~~s)=AP {cls:=.type "list",dict:=Af,data:=.seq G c,slots:=#[]}/\ItemsOf (λi v=>∃h:i<es.size,v=es[i].key) G es.size
  | .error _=>False) (akY (es:=es) (ep:=ep) y) hh (x.of λo e=>FW _ e) (~~~s) (PN t) (PN t) _ 0 g0 (λh' tk G c k e it=>⟨rfl,h',tk,G,c,rfl,k,e,it⟩) hz) (λr s' U=>?_) λe s' U=>U.elim
 cases r with
 | done f=>
  obtain⟨v,rfl,p⟩:=m f s' U;show p
 | again c=>
  show{U.1,Wc U.2 λr s' U=>?_};cases r with
  | error e=>show U.elim
  | ok f=>
   obtain⟨v,rfl,p⟩:=m f s' U;show p
end
section
variable {P:Dm}{w:DX}{A:Ej}{E:Aj->Bc->Prop}{s:Bc}{rk:Aj->Nat}
end
section
variable {rk:Aj->Nat}
end
section
variable {P:Dm}{w:DX}{A:Ej}{E:Aj->Bc->Prop}{s:Bc}{rk:Aj->Nat}
end
section
variable {rk:Aj->Nat}
end
section
variable {P:Dm}{w:DX}{A:Ej}{E:Aj->Bc->Prop}{s:Bc}{rk:Aj->Nat}
end
section
variable {P:Dm}{w:DX}{A:Ej}{E:Aj->Bc->Prop}{s:Bc}
structure KyT (T:Heap->Aj->List Int->Prop):Prop where
 fn:∀{h:Heap}{v:Aj}{k l:List Int},T h v k->T h v l->k=l
 of:∀{h h':Heap}{v:Aj}{k:List Int},T h v k->(∀b o,o.cls=.type "tuple"->h.get? b=AP o->h'.get? b=AP o)->T h' v k
section
variable {T:Heap->Aj->List Int->Prop}(F:KyT T)
include F
end
@[reducible]noncomputable def hp6 (h:Heap)(a:Addr)(vs:List Aj):Heap:=((h.update a (Yw λ_=>#[])).push (seqObj "tuple" vs.toArray 0)).push (seqObj "list" #[] 0)
end
section
variable {X:Cx}{K:CQ}
end
section
variable {X:Cx}{o:Expr}{ma:MA}{apos apq:Pos}
abbrev Qx:MM:=λx ws h Q=>match x,ws with
 | .loc n,[y,z]=>(match h.c n,ZD y with
  | some (.dtt kvs),AP k=>Q ((Dh kvs k).getD z) h
  | _,_=>False)
 | _,_=>False
abbrev O4 (h:Gh)(x:W)(P:Prop):Prop:=match x with
 | .loc n=>(match h.c n with
  | some (.dtt _)=>P
  | _=>False)
 | _=>False
abbrev af3 (r:MM)(mo:ME)(ma:MA):ME:=fun σ h Q=>mo σ h λx h1=>O4 h1 x (ma σ h1 λxs h2=>r x xs h2 Q)
def aeG (hu:X.A.units+30<Lb)(ho:DE X o mo)(ha:Mp X [e1,e2] ma)
  (hbase:Yb o "get" X.env (eval o X.env)=eval o X.env:=by rfl)
  (hfew:((Ku apq (Dc [e1,e2] X.env)).all (λx=>!x.1)&&(backToKw apq (Ye [] X.env)).all (λx=>x.1.isSome)
   && decide (([e1,e2]:List Expr).length+([]:List SM).length+(if([]:List SM).isEmpty then 0 else 1)<30))=true:=by rfl)
  (hline:(apos.endLine==apq.line)=true:=by rfl) (hst:Dc [e1,e2] X.env=(false,eval e1 X.env)::Dc [e2] X.env:=by rfl) (hplain:(Ku apq (Dc [e2] X.env)).any (·.1)=false:=by rfl) :
  DE X (.Call (.Attribute o "get" apos) [e1,e2] [] apq) (af3 Qx mo ma):=by
 rintro apn s σ H Q I ⟨μ,h,σw,Qw,R,S,m,k⟩;show wpAny_Call_method_late hbase hfew hline rfl<|Eu (ho apn s σ H _ I {μ,h,σw,_,R,S,m,λ_ _ z=>z}) λu s1 c=>?_;obtain⟨x,H1,I1,rx,μ1,wx,h1,e1',R1,r1,il⟩:=c
 unfold O4 at il;split at il
 ·split at il
  ·rename_i kv0 ec0;have r0:=r1;obtain⟨a,rfl,ha'⟩:=r1;obtain rfl:u=Value.ref a:=rx;obtain⟨p,xs,vs,hp,hx,_⟩:=R1.dttAt ec0;have ep:p=a:=by rw[ha']at hp;show(Ky hp).symm
   subst ep;obtain⟨⟨z,y,nd,ob,es,epo,g1,g2,g3,g4⟩,_⟩:=I1.hok p _ hx;show{"dict", "dict.get",PySem.F.plainAttrs_dict,yF,PySem.F.type_dict_get,⟨ob,g1,g2.1⟩,λb e=>by cases e;show⟨ob,g1,g2.2.1⟩,?_};have hA:=ha apq apn s1 σ H1 _ I1 {μ1,h1,σw,_,R1,S.ext e1',il,λ_ _ z=>z};rw[hst]at hA|-
   show Calls.callWith_builtin (by change(false||(Ku apq<|Dc [e2] X.env).any (·.1))=false;rw[hplain]<;>rfl)<|rR ?_
   show Eu hA λus s2 d=>?_;obtain⟨ys,H2,I2,r2,μ2,ws,h2,e2',R2,rs,m2⟩:=d;unfold Qx at m2;split at m2
   ·rename_i n' y' z' e3;cases e3;split at m2
    ·rename_i kvs kk ec ek;obtain⟨v1,v2,rfl,ry,rz⟩:=J1 rs;obtain⟨b,rfl,hb⟩:=rE ry ek;obtain⟨u1,u2,rfl,ru1,ru2⟩:=vals2 r2;cases ru1;obtain⟨p2,xs2,vs2,hp2,hx2,q1,q2,q3,q4⟩:=R2.dttAt ec;have r0':=e2'.r _ _ r0;rw[DW]at r0';obtain⟨a2,ea,ha2⟩:=r0';cases ea;have ep2:p2=p:=by rw[ha2]at hp2;show(Ky hp2).symm
     subst ep2;obtain⟨_,hd2,dd⟩:=Fq I2 hx2 (oR q1 q3);obtain⟨t1,t2⟩:=yZ q1 q2 q4 kk;show call_meetsIn yF dd.typeIs PySem.F.entry_dict_get (PySem.F.args_dict_get_3 _ _ _) (meetsH_dict_get_default (tupleKind<|O8 X.prog X.w) p2 b hd2 u2) {tupleKind_room_in1<|⋯,kk,xs2,Cy I2 hb,dd,?_};cases ev:Dh kvs kk with
     | some wv=>
      rw[ev]at m2;obtain⟨pp,v,a1,a2,a3⟩:=t1 wv ev;rw[a1];show{v,H2,I2.tok _,a2,k _ _ {μ2,wv,h2,e1'.trans e2',R2,a3,m2}}
     | none=>
      rw[ev]at m2 t2;have a1:atKey xs2 kk=Af:=by
       cases e:atKey xs2 kk with
       | none=>rfl
       | some _=>rw[e]at t2;cases t2
      rw[a1];show{v2,H2,I2.tok _,ru2,k _ _ {μ2,z',h2,e1'.trans e2',R2,rz,m2}}
    show m2.elim
   show m2.elim
  show il.elim
 show il.elim
end
section
variable {X:Cx}{K:CQ}
variable {o e:Expr}{ma:MA}{apos apq:Pos}
end
section
variable {prog:Dm}{w:DX}{A:Ej}{R:Um->Bc->Prop}{E:Aj->Bc->Prop}{ns:List Int}{its:List Aj}
abbrev Gr (ns:List Int)(j:Nat)(b:Int):Prop:=b∈ns/\∀k,k<j->ns.getD k 0<=b
end
section
variable {X:Cx}
end
section
open AutoSeq1 (wpAny_loadPart')
end
section
variable {prog:Dm}{w:DX}{A:Ej}{E:Aj->Bc->Prop}{s:Bc}
end
section
variable {X:Cx}{K:CQ}
end
section
variable {prog:Dm}{w:DX}{A:Ej}{R:Um->Bc->Prop}{its:List Aj}
end
section
variable {X:Cx}{K:CQ}
end
section
variable {X:Cx}
end
section
variable {prog:Dm}{w:DX}{A:Ej}{E:Aj->Bc->Prop}{s:Bc}
def amk:YC (.type "tuple") "keys" = pure Af:=by rw[Yl,fM];kernel_rfl
def zaE {a o}{xs k}{Q}(Y:s.heap.get? a=AP o)(j:o.cls=.type "tuple")(G:o.data=.seq xs k)(i:o.dict=Af)(m:A.handled=Af)
  (h:∀h' tk,(∀b U,s.heap.get? b=AP U->h'.get? b=AP U)->Q Af {s with heap:=h',toks:=tk}):CR (Cq prog w) A (getAttr? (.ref a) "keys") Q E s:=by
 obtain⟨c,dct,n,sl⟩:=o;simp only at j G i;subst j G i;obtain⟨l,g,d,tk,os⟩:=s;have hT:∀J,(⟨l,g,d,J,os⟩:Bc).TypeIs (.ref a) "tuple":=λ_=>{_,Y,rfl}
 have f1:=sub_AttributeError;have f3:=F.slot_tuple_getattribute.lookup;have f4:=F.slot_tuple_getattribute.bind (.ref a);have f5:=am_tuple_getattr_none;unfold getAttr? getAttrBy? getAttrBy;repeat(any_goals(first|assumption|show hT _|((with_reducible change CR _ _ (call (Value.builtin "tuple.__getattribute__") _ _) _ _ _);show call_meets F.slot_tuple_getattribute (hT _) am_entry_tuple_getattribute (F.args_tuple_getattribute_2 _ _) (meets_getattribute_miss_tuple a xs k sl "keys" _ amk ∅ (by size_fits)) {Y,m,λh' J e O=>?_})|wp_step))
 obtain⟨q,p,r⟩:=O.there;change CR _ _ (getattributeRaised _ _ _ _ _ _ _) _ _ _;unfold getattributeRaised;repeat(any_goals(first|assumption|wp_step))
 show h _ _ O.keeps
def Bv:entryFor table "dict.update.loop" = AP V3.«dict.update.loop»:=entryFor_of_tree (by kernel_rfl)
def nU:plainId "dict.update.loop" = true:=by decide +kernel
@[reducible]noncomputable def U5 (prog:Dm)(w:DX):=tupleKind (O8 prog w)
def Oe {h h'}{k a}(x:(U5 prog w).is h k a)(m:∀b o,h.get? b=AP o->h'.get? b=AP o):(U5 prog w).is h' k a:=by
 obtain⟨o,its,n,G,r⟩:=x;show{o,its,n,m _ _ G,r}
def vX {h0 h h':Heap}{d}{xs}(x:ZL (U5 prog w) h d xs)(J:∀o,h.get? d=AP o->h'.get? d=AP o)(G:∀y∈xs,(U5 prog w).is h' y.1 y.2.1):ZL (U5 prog w) h' d xs:=by
 obtain⟨o,es,ep,e1,e2,e3,e4,_,O⟩:=x;show{o,es,ep,J o e1,e2,e3,e4,G,O}
def amA {R d}{items:Array Aj}{fp}{St}(W:Walks prog w A.in1 I fp [I] items.size (λi v=>items[i]?=AP v) St)(h:d∉fp)(hu:A.in1.units<Lb)(h0)(F:h0.get? d=Af)(l:h0.get? I=Af)
  {ps}(N:items.size=ps.length) (P:∀(j:Nat) (p),ps[j]?=AP p->∃q,items[j]?=AP (.ref q)/\IsTup h0 q #[.ref p.2.1,p.2.2]/\(U5 prog w).is h0 p.1 p.2.1) (M:(ps.map (·.1)).Nodup) (hz:ps.length<=El) :
  ∀k j s  (t),ps.length-j=k->j<=ps.length->St j s.heap->ZL (U5 prog w) s.heap d (ps.take j)->(∀b o,h0.get? b=AP o->s.heap.get? b=AP o) ->
  (∀h' tk,ZL (U5 prog w) h' d ps->(∀b o,h0.get? b=AP o->h'.get? b=AP o)->R (.ok (.ret .none)) {s with heap:=h',toks:=tk}) ->
  Qt (Cq prog w) A (.builtin "dict.update.loop" ⟨[.ref d,.ref I,.int (j) t,.none],[]⟩) R s:=by
 have V:d≠I:=λe=>h (W.sub d (by rw[e];simp))
 have keys:∀(j:Nat) (h':Heap),(∀b o,h0.get? b=AP o->h'.get? b=AP o)->∀y∈ps.take j,(U5 prog w).is h' y.1 y.2.1:=λj h' m y f=>by
  obtain⟨i,hi,e⟩:=List.mem_iff_getElem.mp (List.mem_of_mem_take f);obtain⟨q,_,_,C⟩:=P i y (by rw[<-e];show Lq hi);show Oe C m
 intro k;induction k with
 | zero=>
  intro j s t E hj st n c K;have r:j=ps.length:=⋯
  show Vk Bv ?_;rw[lw nU _];show BL<|W.done s _ _ (by rw[N,<-r];show st) λh' tk O=>?_
  have m:∀b o,h0.get? b=AP o->h'.get? b=AP o:=λb o e=>O b o (by intro z;rw[R6.mp z,l]at e;cases e) (c b o e)
  have Y:ZL (U5 prog w) h' d ps:=by
   rw[r,Nj]at n;show vX (h0:=h0) n (λo e=>O d o (by simpa using V) e) λy f=>keys ps.length h' m y (by rw[Nj];show f)
  show BL<|DK<|DK<|K h' tk Y m
 | succ k ih=>
  intro j s t E hj st n c K;have J:j<ps.length:=⋯
  have ep:ps[j]?=AP ps[j]:=Lq J;generalize ps[j]=p at ep;obtain⟨q,eq,C,g⟩:=P j p ep;show Vk Bv ?_;rw[lw nU _];change CR _ A.in1 (pyNext (.ref I) >>= _) _ _ s;show BL<|W.item j s _ _ (by rw[N];show J) st λv h' tk S x O=>?_
  have ev:v=.ref q:=by rw[eq]at S;show(Ky S).symm
  subst ev;have m:∀b o,h0.get? b=AP o->h'.get? b=AP o:=λb o e=>O b o (by intro z;rw[R6.mp z,l]at e;cases e) (c b o e)
  have Y:ZL (U5 prog w) h' d (ps.take j):=vX (h0:=h0) n (λo e=>O d o (by simpa using V) e) (keys j h' m);obtain⟨X,L,cq,nq,dq⟩:=C;have U:=m _ _ L;show BL<|N7<|BL<|wpAny_tryCatch ?_
  unfold Builtin.Dict.pairItems;show BL<|YB (T := "tuple") ⟨X,U,cq⟩ ?_
  rw[if_pos ∅];show BL<|Vd U dq<|DK ?_
  change CR _ _ (VR [_,_] (dictSet d _ _)) _ _ _;have D:atKey (ps.take j) p.1=Af:=by
   unfold atKey;rw[Option.map_eq_none_iff,List.find?_eq_none];intro y f;have hn:p.1∉(ps.take j).map (·.1):=by
    have e1:ps=ps.take j++p::ps.drop (j+1):=by
     conv=>lhs;rw[<-List.take_append_drop j ps]
     congr 1
     rw[vh J];congr 1
     rw[Lq J]at ep;show Ky ep
    rw[e1,NP,List.nodup_append]at M;intro z;show M.2.2 _ z p.1 (by simp) rfl
   intro z;show hn<|Ni.mpr {y,f,by simpa using z}
  show N7<|wpAny_dictSet_heap (hsz:=by rw[U7];lia) hu (Oe g m) Y λh2 a B=>?_
  rw[storedH_new D]at a;have et:ps.take j++[(p.1,p.2.1,p.2.2)]=ps.take (j+1):=by rw[M4,ep];rfl
  rw[et]at a;have G:∀b o,b≠d->h'.get? b=AP o->h2.get? b=AP o:=λb o H e=>B.extBut b o H e
  show DK {Vc nU _,?_};have r:((j:Int)+1)=((j+1:Nat):Int):=⋯
  change Qt _ _ (.builtin "dict.update.loop" {[.ref d,.ref I,.int ((j:Int)+1) 0,.none],[]}) _ _;rw[r];show ih (j+1) _ 0 ⋯ J (W.frame _ _ _ x λb H o e=>G b o (λz=>h<|z ▸ H) e) a (λb o e=>G b o (λz=>by rw[z,F]at e;cases e)<|m b o e) λh3 u d3 Z=>K h3 u d3 Z
def amQ {T}{items Q}(hh:A.handled=Af)(P:A.units+30<Lb)
  (f:∃o n,s.heap.get? T=AP o/\o.cls=.type "tuple"/\o.data=.seq items n/\o.dict=Af)
  {ps}(I:items.size=ps.length) (L:∀(j:Nat) (p),ps[j]?=AP p->∃q,items[j]?=AP (.ref q)/\IsTup s.heap q #[.ref p.2.1,p.2.2]/\(U5 prog w).is s.heap p.1 p.2.1) (D:(ps.map (·.1)).Nodup) (hz:ps.length<=El)
  (h:∀h' tk,ZL (U5 prog w) h' s.heap.objs.size ps->(∀b o,s.heap.get? b=AP o->h'.get? b=AP o)->Q (.ref s.heap.objs.size) {s with heap:=h',toks:=tk}) :
  CR (Cq prog w) A (call (.type "dict") [.ref T]) Q E s:=by
 have k:A.in1.in1.handled=Af:=hh;have t:A.in1.in1.units<Lb:=by
  have:A.in1.in1.units=A.units+1+1:=rfl
  lia
 have y:T<(~~~s):=by
  obtain⟨o,_,e,_⟩:=f;show FP e
 show callType_codes (Q₁:=λobj Y=>obj=.ref (~~~s)/\Y={s with heap:=s.heap.push {cls:=.type "dict",data:=.dict #[]} }) F.kt_called_dict (F.kt_typeCall_dict_1 _) F.entry_dict_init (kt_code_dict_new _ ⟨rfl,rfl⟩) ?_;rintro obj Y ⟨rfl,rfl⟩;have l:({s with heap:=s.heap.push {cls:=.type "dict",data:=.dict #[]} }:Bc).TypeIs (.ref (~~~s)) "dict":={_,Kf _ rfl,rfl}
 show{l,F.args_dict_init_2 _ _,?_};show BL ?_;show BL<|wpAny_notOrdered_dict l ?_
 show DK ?_;change CR _ _ (Builtin.Dict.updateFrom "dict.__init__" (~~~s) (.ref T) [] .none) _ _ _;unfold Builtin.Dict.updateFrom;have g:∀(h1:Heap) (O:Nat),(∀b a,(s.heap.push {cls:=.type "dict",data:=.dict #[]}).get? b=AP a->h1.get? b=AP a)->∀(h2:Heap) (fp:List Addr) (St:Nat->Heap->Prop),h1.objs.size∉([(~~~s)]:List Addr)->(∀b a,h1.get? b=AP a->h2.get? b=AP a)->(~~~s)∉fp->Walks prog w A.in1.in1 h1.objs.size fp [h1.objs.size] items.size (λi v=>items[i]?=AP v) St->St 0 h2 ->
   Qt (Cq prog w) A.in1 (.builtin "dict.update.loop" {[.ref (~~~s),.ref h1.objs.size,O7 0,.none],[]}) (wants (λr c=>r=.none/\Q (.ref (~~~s)) c) E) {s with heap:=h2,toks:=O}:=by
  intro h1 O m1 h2 fp St K m2 x W st;have J:=m1 _ _ (Kf s.heap (o:={cls:=.type "dict",data:=.dict #[]}) rfl);show amA (A:=A.in1) W x t s.heap (ZR<|Em _) (ZR<|Vb<|FP J) I L D hz ps.length 0 _ _ rfl (Pz _) st ?_ (λb o e=>m2 b o<|m1 b o<|FW _ e) λh' tk d m=>{rfl,h h' tk d m};show{_,#[],0,m2 _ _ J,⟨rfl,rfl,rfl⟩,rfl,rfl,(λx H=>absurd H Qz),List.nodup_nil}
 obtain⟨o,n,N,z,B,M⟩:=f;have U:(s.heap.push {cls:=.type "dict",data:=.dict #[]}).get? T=AP o:=FW _ N;show BL<|YB (T := "tuple") ⟨o,U,z⟩ ?_
 rw[if_pos ∅];show BL<|zaE U z B M k λh1 O m1=>?_
 rw[if_pos (show(Af:Option Aj).isNone=true from rfl)];show BL<|Va ?_
 have hT:h1.IsTuple T items:={o,m1 _ _ U,z,n,B}
 show BL<|wpAny_pyIter_tuple hT ?_
 have u:T<h1.objs.size:=FP (m1 _ _ U);have J:=FP (m1 _ _ (Kf s.heap (o:={cls:=.type "dict",data:=.dict #[]}) rfl));show DK {Vc nU _,?_};show g h1 O m1 _ _ _ (by simpa using PN J) (λb a e=>FW _ e) (by simp only[M5,Qz,or_false,not_or];show{KC J,PN y}) (Walks.tuple k _ T (KC u) items) {{_,Kf _ rfl,rfl,rfl},hT.push _}
end
section
variable {X:Cx}{K:CQ}
@[reducible]noncomputable def abk (K:CQ)(H:Hp)(y:V)(p:List Int×Addr×V):Prop:=∃q,y=V.ref q/\KJ K H q [.ref p.2.1,p.2.2]/\KJ K H p.2.1 (p.1.map V.int)
def CK {apn}{σ:St}{H s}(I:Bk X apn σ H s):∀{ys}{ps its},Cg ys its->Qv (abk X.K H) ys ps ->
  ∃xs:List (List Int×Addr×Aj),xs.map (·.1)=ps.map (·.1)/\xs.map (·.2.1)=ps.map (·.2.1)/\Cg (ps.map (·.2.2)) (xs.map (·.2.2))/\∀(j:Nat) (p),xs[j]?=AP p->∃q,its[j]?=AP (.ref q)/\IsTup s.heap q #[.ref p.2.1,p.2.2]/\(U5 X.prog X.w).is s.heap p.1 p.2.1
 | _,_,_,.nil,.nil=>{[],rfl,rfl,.nil,λj p e=>by simp at e}
 | _,_,_,.cons r G,.cons (b:=p) d c=>by
  obtain⟨xs,a1,a2,a3,h⟩:=CK I G c;obtain⟨q,rfl,h1,h2⟩:=d;cases r;obtain⟨js,Y,ht,_⟩:=I.tuple h1;cases Y with
  | cons U O=>
   cases O with
   | cons J r6=>
    cases r6;cases U;rename_i v;show{(p.1,p.2.1,v)::xs,by simp[a1],by simp[a2],.cons J a3,λj z e=>?_};cases j with
    | zero=>
     simp at e;subst e;show{q,rfl,ht,Cy I h2}
    | succ j=>
     obtain⟨a,g,f⟩:=h j z (by simpa using e);show{a,by simpa using g,f}
def zaO (a:X.calm=true)(Y:X.A.units+30<Lb):jC X (.type "dict") (λvs H Q=>∃(T:Addr) (ys:List V) (ps:List (List Int×Addr×V)),vs=[.ref T]/\KJ X.K H T ys/\Qv (abk X.K H) ys ps/\(ps.map (·.1)).Nodup /\
  ∀d,H d=Af->∀xs:List (List Int×Addr×Aj),xs.map (·.1)=ps.map (·.1)->xs.map (·.2.1)=ps.map (·.2.1)->Cg (ps.map (·.2.2)) (xs.map (·.2.2))->Q (.ref d) (Dn H d (.ext (TF d xs)))):=by
 rintro apn s σ H vs us Q I r ⟨T,ys,ps,i,b,J,U,q⟩;subst i;obtain⟨u,rfl,O⟩:=vals1 r;cases O;obtain⟨its,G,⟨o,h,g,⟨n,f⟩,c⟩,v⟩:=I.tupO b;obtain⟨xs,a1,a2,a3,t⟩:=CK I G J;have e1:=G.length;have e2:=Zm J;have e3:=by have:=congrArg Uo a1;simpa using this
 show amQ (I.ok.hd a) Y ⟨o,n,h,g,f,c⟩ (by rw[Lf];lia) (λj p e=>by
  obtain⟨q,l,k⟩:=t j p e;show{q,List.getElem?_toArray ▸ l,k}) (a1 ▸ U) ⋯ λh' tk d m=>?_
 show{.ref (~~~s),_,I.laid m (Em _)<|MP ⋯ ((zbZ (P:=X.prog) (w:=X.w) (H:=H) s.heap I.big).2.1) d,rfl,q _ (I.hok.fresh<|Em _) xs a1 a2 a3}
abbrev qQ:List W->Option (List (List Int×W))
 | []=>AP []
 | .tup [k,v]::r=>(match ZD k with
  | some ks=>(qQ r).map ((ks,v)::·)
  | none=>Af)
 | _=>Af
def Ca {H μ}:∀{us ys}{ps},aP K H μ us ys->qQ us=AP ps->∃qs:List (List Int×Addr×V),Qv (abk K H) ys qs/\qs.map (·.1)=ps.map (·.1)/\aP K H μ (ps.map λx=>W.tup (x.1.map W.int)) (qs.map λx=>V.ref x.2.1)/\aP K H μ (ps.map (·.2)) (qs.map (·.2.2))
 | [],ys,ps,r,e=>by
  cases e;subst r;show{[],.nil,rfl,by rw[Uz,Uz,aP],by rw[Uz,Uz,aP]}
 | w::us,ys,ps,r,e=>by
  obtain⟨y,m,rfl,c,r⟩:=r;unfold qQ at e;split at e
  rename_i h;cases h
  ·rename_i k v Y h;cases h;split at e
   ·rename_i ks j;cases q:qQ us with
    | none=>rw[q]at e;cases e
    | some cs=>
     rw[q]at e;cases e;obtain⟨qs,g,p2,f,d⟩:=Ca r q;obtain⟨b,zs,rfl,i,a⟩:=c;obtain⟨l,U,rfl,rk,J⟩:=J1 a;obtain⟨O,rfl,G⟩:=rE rk j;show{(ks,O,U)::qs,.cons ⟨b,rfl,i,G⟩ g,by simp[p2],{_,_,rfl,{O,_,rfl,G,rD ks},f},({_,_,rfl,J,d})}
   cases e
  cases e
abbrev Bp:MC:=λws h Q=>match ws with
 | [.tup us]=>(match qQ us with
  | some ps=>(ps.map (·.1)).Nodup/\Q (.loc h.nx) (h.new (.dtt ps))
  | none=>False)
 | _=>False
def amY (f:X.calm=true)(c:X.A.units+30<Lb):jG X (.type "dict") Bp:={_,zaO f c,by
 intro H μ h j ws l Q R r m k;unfold Bp at m;split at m
 split at m
 rename_i us _ ps g;obtain⟨v,e,O⟩:=iQ r;obtain⟨p,ys,ex,hs,U⟩:=O;obtain⟨qs,b,p2,a,Y⟩:=Ca U g;subst e ex;show{p,ys,qs,rfl,hs,b,p2 ▸ m.1,λd J xs a1 a2 a3=>?_};have G:=(Ex.newCell (o:=.ext (TF d xs)) R J).ext;have e3:=by
  have:(xs.map (·.2.1)).map V.ref=(qs.map (·.2.1)).map V.ref:=by rw[a2]
  rwa[Uy,Uy]at this
 have i:Dz _ _ (Dn H d (.ext _)) (h.new (.dtt ps)):=R.newCell J trivial {xs,qs.map _,aV,(by rw[a1,p2]),a3,e3 ▸ G.s a,G.s Y};show k _ _ {_,.loc _,_,G,i,⟨d,rfl,Mu.put_same⟩,m.2};cases m;cases m}
end
section
variable {prog:Dm}{w:DX}{A:Ej}{E:Aj->Bc->Prop}{s:Bc}{r l:Addr}{items:Array Aj}
def zav {Q}(hh:A.handled=Af)(hit:s.heap.IsRevIter r l ((items.size:Int)-1))(hl:s.heap.IsList l items)(c:l≠r)(g:items.size<=El)
  (k:∀h' tk  (G),s.heap.objs.size<h'.objs.size->(∀b o,b≠r->s.heap.get? b=AP o->h'.get? b=AP o)->ItemsOf (λi v=>items[items.size-1-i]?=AP v) G items.size->Q G.toList {s with heap:=h',toks:=tk}):CR (Cq prog w) A (collect (.ref r)) Q E s:=by
 have f:l<(~~~s):=by obtain⟨_,e,_⟩:=hl;show FP e
 show BL<|pR<|Vk F.entry_proto_collect ?_
 show BL<|SX ?_
 show DK {Vc F.plain_list_iadd _,Vk F.entry_list_iadd ?_};rw[lw F.plain_list_iadd _];have J:(s.heap.push {cls:=.type "list",data:=.seq ([]:List Aj).toArray}).get? (~~~s)=AP {cls:=.type "list",data:=.seq #[] 0}:=Kf _ rfl;show ajv (A:=A) (R:=λ(r:Um) s'=>match r with
  | .ok (.ret v)=>CR (Cq prog w) A (match v with
   | .ref a=>do
    match(<-load a).data with
    | .seq xs _=>pure xs.toList
    | _=>Z3 "internal:collect"
   | _=>Z3 "internal:collect") Q E s'
  | .ok _=>False
  | .error e=>E e s') hh (hit.at λo e=>FW _ e) (hl.at λo e=>FW _ e) c _ (PN (by obtain⟨_,e,_⟩:=hit;show FP e)) (PN f) _ _ J (λh' tk G m h U O=>?_) g
 show BL<|wpAny_load U ?_
 show DK<|k h' tk G (FP U) (λb o j e=>h b o (KC<|FP e) j<|FW _ e) O
def zas {Q₁}(hh:A.handled=Af)(hit:s.heap.IsRevIter r l ((items.size:Int)-1))(hl:s.heap.IsList l items)(U:l≠r)(f:items.size<=El)
  (h:∀(h':Heap) (tk) (O),s.heap.objs.size<h'.objs.size->(∀b o,b≠r->s.heap.get? b=AP o->h'.get? b=AP o)->ItemsOf (λi v=>items[items.size-1-i]?=AP v) O items.size->Q₁ (.ref h'.objs.size) {s with heap:=h'.push {cls:=.type "tuple",data:=.seq O},toks:=tk}) :
  Qt (Cq prog w) A (.call (.builtin "tuple.__new__") ⟨[.type "tuple",.ref r],[]⟩) (wants Q₁ E) s:=by
 show codeAny_of_tree ?_;show BL<|Ve (F.newCall_tuple_1 _)<|DK {Vc F.plain_tuple_new _,Vk F.entry_tuple_new ?_}
 rw[lw F.plain_tuple_new _];have d:=sub_tuple_self;have Y:=init_tuple_lookup;have j:=madeHere_tuple;have c:=hit.typeIs;have a:A.in1.handled=Af:=hh
 wp_walk using YB c,zav a hit hl U f
 intro h' tk G hs k J;change CR _ _ (xW G.toList.toArray >>= λv=>ret v) _ _ _;unfold xW;show BL<|SX ?_ (by change G.toList.toArray.size<=El;simp only[Array.toArray_toList];rw[J.1];show f)
 show DK ?_;have e:G.toList.toArray=G:=by simp
 rw[e];show h h' tk G hs k J
def zap {Q}(hh:A.handled=Af)(hit:s.heap.IsRevIter r l ((items.size:Int)-1))(hl:s.heap.IsList l items)(Y:l≠r)(e:items.size<=El)
  (h:∀(h':Heap) (tk) (O),s.heap.objs.size<h'.objs.size->(∀b o,b≠r->s.heap.get? b=AP o->h'.get? b=AP o)->ItemsOf (λi v=>items[items.size-1-i]?=AP v) O items.size->Q (.ref h'.objs.size) {s with heap:=h'.push {cls:=.type "tuple",data:=.seq O},toks:=tk}) :
  CR (Cq prog w) A (call (.type "tuple") [.ref r]) Q E s:=by
 show callType_codes (Q₁:=λobj G=>G.TypeIs obj "tuple"/\Q obj G) F.called_tuple (F.typeCall_tuple_1 _) F.entry_object_init
  (zas hh hit hl Y e λh' tk a hs f U=>{{_,Kf _ rfl,rfl},h h' tk a hs f U}) λobj G J=>?_
 show{J.1,F.args_object_init_2 obj _,object_init_meets F.called_tuple.init.lookup F.called_tuple.made ∅ prog w _ _ G ⟨J.1,rfl,J.2⟩}
end
section
variable {X:Cx}
abbrev EY (me:ME):ME:=fun σ h Q=>me σ h λx h1=>match gq h1 x with
 | some us=>Q (.tup us.reverse) h1
 | none=>False
def anG {me}{p p' pos pos'}(hc:X.calm=true)(hl:Gl X "tuple")(hlm:X.mg "tuple" = Af)(hr:Gl X "reversed")(hrm:X.mg "reversed" = Af)(he:DE X e1 me)
  (h1:Dc [.Call (.Name "reversed" p') [e1] [] pos'] X.env=(false,eval (.Call (.Name "reversed" p') [e1] [] pos') X.env)::Dc [] X.env:=by rfl) (hp1:(Ku pos (Dc [] X.env)).any (·.1)=false:=by rfl)
  (h2:Dc [e1] X.env=(false,eval e1 X.env)::Dc [] X.env:=by rfl) (hp2:(Ku pos' (Dc [] X.env)).any (·.1)=false:=by rfl) :
  DE X (.Call (.Name "tuple" p) [.Call (.Name "reversed" p') [e1] [] pos'] [] pos) (EY me):=by
 rintro apn s σ H Q I ⟨μ,g,σw,Qw,R,S,m,q⟩;show Vm<|pD I hl hlm V0 ?_ ∅<|∅
 show Yr ?_ h1 hp1;change CR _ _ (spliced ((false,eval _ X.env)::Ku pos (Dc [] X.env))) _ _ s;show Calls.spliced_cons ?_;show Vm<|pD I hr hrm boot_reversed ?_ ∅<|∅
 show Yr ?_ h2 hp2;rw[h2];show Calls.spliced_cons<|Eu (he apn s σ H _ I {μ,g,σw,_,R,S,m,λv H1 z=>z}) λu s1 c=>?_;obtain⟨x,H1,I1,rx,μ1,wx,g1,x1,R1,r1,m1⟩:=c
 show Calls.spliced_nil ?_;split at m1
 rename_i us ev;obtain⟨a,xs,ex,hs,rs⟩:=eY R1 r1 ev;subst ex;obtain rfl:u=Value.ref a:=rx;obtain⟨its,r,pl,hz⟩:=I1.list hs;have apo:=r.length;show call_reversed_list pl.isList ?_;show Calls.spliced_nil ?_;have la:a<(~~~s1):=by obtain⟨_,e,_⟩:=pl.isList;show FP e
 have gi:(s1.heap.push (revObj a ((its.toArray.size:Int)-1))).IsRevIter (~~~s1) a ((its.toArray.size:Int)-1):={_,Kf _ rfl,rfl,rfl}
 show zap (I1.ok.hd hc) gi (pl.isList.at λo e=>FW _ e) (KC la) (by rw[Lf,<-apo];show hz) λh' tk acc' hsz kp it=>?_;have ea:acc'.toList=its.reverse:=by
  show List.ext_getElem? λj=>?_;by_cases hj:j<its.length
  have hj':j<acc'.toList.length:=by rw[vp,it.1,Lf];show hj
  have h3:=it.2 j (acc'.toList[j]) (by rw[<-Array.getElem?_toList];show Lq hj');rw[Lq hj',List.getElem?_reverse hj,<-h3,Lf];simp;rw[List.getElem?_eq_none (by rw[vp,it.1,Lf];lia),List.getElem?_eq_none (by rw[List.length_reverse];lia)]
 have kp':∀b o,s1.heap.get? b=AP o->h'.get? b=AP o:=λb o eb=>kp b o (KC (FP eb)) (FW _ eb)
 have hge:(~~~s1)<=h'.objs.size:=by
  have:(s1.heap.push (revObj a ((its.toArray.size:Int)-1))).objs.size=(~~~s1)+1:=Ud _ _
  rw[this]at hsz;lia
 have hf:H1 h'.objs.size=Af:=I1.hok.fresh hge;show{.ref h'.objs.size,_,I1.laid (a:=h'.objs.size) (o:=.tup xs.reverse) (t':=tk) (λb o eb=>FW _<|kp' b o eb) hge<|show fG X.prog X.w _ _ _ (.tup xs.reverse)from{by rw[List.length_reverse];show hz,acc'.toList,by rw[ea];show akh r,by simpa using Sv.new h' acc'},rfl,?_};show q _ _ {μ1,.tup us.reverse,g1,x1.trans (Ex.laid hf).ext,R1.laid hf,.tupNew hf<|JL rs,m1};show m1.elim
end
section
variable {P:Dm}{w:DX}{A:Ej}{E:Aj->Bc->Prop}{s:Bc}
end
section
variable {X:Cx}{K:CQ}
abbrev Tz {G:Type}(kvs:List (Key×G))(ks:List Int):Prop:=kvs.map (·.1)=ks.map Sum.inl
def Ja {ks:List Int}:∀{kvs vs ks},KV kvs vs->Tz kvs ks->vs.map (·.1)=ks.map Sum.inl
 | [],_,ks,.nil,e=>by
  assumption
 | x::kvs,_,ks,.cons r t,e=>by
  cases ks with
  | nil=>simp[Tz]at e
  | cons k ks=>
   unfold Tz at e;rw[KQ]at e;obtain⟨e1,e2⟩:=Vz e;rw[KQ,KQ,Ja (ks:=ks) t e2,<-r.1,e1]
def CG:∀{es}{vs}{ks:List Int},PySem.Pairs (dZ X.prog X.w) es vs->vs.map (·.1)=ks.map Sum.inl->Cg (ks.map V.int) (es.map (·.key))/\es.length=vs.length
 | _,_,ks,.nil,e=>by
  have:ks=[]:=by cases ks with
   | nil=>rfl
   | cons a l=>simp at e
  subst this;show{.nil,rfl}
 | _,_,ks,.cons h1 h2 t,e=>by
  cases ks with
  | nil=>simp at e
  | cons k ks=>
   rw[KQ]at e;obtain⟨e1,e2⟩:=Vz e;obtain⟨U,O⟩:=CG t e2;show{.cons ?_ U,by rw[Od,Od,O]};rcases cj h1 with⟨i,u,G,J⟩|⟨x,u,G,J⟩
   rw[e1]at G;injection G with G
   show{u,G ▸ J};simp_all
def Il {H μ}:∀{kvs kvv ks},vg K H μ kvs kvv->Tz kvs ks->Tz kvv ks
 | [],_,ks,.nil,e=>e
 | x::kvs,_,ks,.cons r t,e=>by
  cases ks with
  | nil=>simp[Tz]at e
  | cons k ks=>
   unfold Tz at e|-
   rw[KQ]at e;obtain⟨e1,e2⟩:=Vz e;have:=Il t e2
   rw[KQ,KQ,this,<-r.1,e1]
abbrev Vf:ME:=λ_ h Q=>Q (.loc h.nx) (h.new (.dct []))
def WT {pos}:DE X (.Dict [] [] pos) Vf:=zbC.of fun σ H Q a p G=>by
 obtain⟨μ,g,σw,O,R,S,m,q⟩:=a;have J:Dz _ _ (Dn H p (.dK [])) (g.new (.dct [])):=R.newCell G trivial {[],aV,.nil};show q _ _ {_,.loc _,_,(Ex.newCell R G).ext,J,⟨p,rfl,Mu.put_same⟩,m}
end
section
variable {X:Cx}{o:Expr}{ma:MA}{apos apq:Pos}
abbrev Ur:MM:=λx ws h Q=>match x,ws with
 | .loc n,[y,z]=>(match h.c n,afv y with
  | some (.dct kvs),AP k=>Q ((lg kvs k).getD z) h
  | _,_=>False)
 | _,_=>False
abbrev Ss (h:Gh)(x:W)(P:Prop):Prop:=match x with
 | .loc n=>(match h.c n with
  | some (.dct _)=>P
  | _=>False)
 | _=>False
abbrev agx (r:MM)(mo:ME)(ma:MA):ME:=fun σ h Q=>mo σ h λx h1=>Ss h1 x (ma σ h1 λxs h2=>r x xs h2 Q)
def JB {K H μ}{k}:∀{kvs kvv},vg K H μ kvs kvv->(∀w,lg kvs k=AP w->∃v,LR kvv k=AP v/\DW K H μ w v)/\(lg kvs k=Af->LR kvv k=Af)
 | [],_,.nil=>{λw e=>by simp[lg]at e,λ_=>rfl}
 | x::kvs,y::_,.cons r t=>by
  obtain⟨J,G⟩:=JB t;unfold lg LR at *;rw[List.find?_cons,List.find?_cons];by_cases c:x.1=k
  simp_all
  have O:¬y.1=k:=λe=>c (r.1.trans e)
  rw[decide_eq_false c];simp only[O];show⟨J,G⟩
def abN (hu:X.A.units+30<Lb)(ho:DE X o mo)(ha:Mp X [e1,e2] ma)
  (hbase:Yb o "get" X.env (eval o X.env)=eval o X.env:=by rfl)
  (hfew:((Ku apq (Dc [e1,e2] X.env)).all (λx=>!x.1)&&(backToKw apq (Ye [] X.env)).all (λx=>x.1.isSome)
   && decide (([e1,e2]:List Expr).length+([]:List SM).length+(if([]:List SM).isEmpty then 0 else 1)<30))=true:=by rfl)
  (hline:(apos.endLine==apq.line)=true:=by rfl) (hst:Dc [e1,e2] X.env=(false,eval e1 X.env)::Dc [e2] X.env:=by rfl) (hplain:(Ku apq (Dc [e2] X.env)).any (·.1)=false:=by rfl) :
  DE X (.Call (.Attribute o "get" apos) [e1,e2] [] apq) (agx Ur mo ma):=by
 rintro apn s σ H Q I ⟨μ,h,σw,Qw,R,S,m,k⟩;show wpAny_Call_method_late hbase hfew hline rfl<|Eu (ho apn s σ H _ I {μ,h,σw,_,R,S,m,λ_ _ z=>z}) λu s1 c=>?_;obtain⟨x,H1,I1,rx,μ1,wx,h1,e1',R1,r1,il⟩:=c
 unfold Ss at il;split at il
 ·split at il
  ·rename_i kv0 ec0;have r0:=r1;obtain⟨a,rfl,ha'⟩:=r1;obtain rfl:u=Value.ref a:=rx;obtain⟨p,kvv,hp,hx,_⟩:=R1.dctAt ec0;have ep:p=a:=by rw[ha']at hp;show(Ky hp).symm
   subst ep;obtain⟨z,y,vs0,ahQ,dd0⟩:=QL I1.hok hx;obtain⟨ob,es,epo,g1,g2,_⟩:=id dd0;show{"dict", "dict.get",PySem.F.plainAttrs_dict,yF,PySem.F.type_dict_get,⟨ob,g1,g2.1⟩,λb e=>by cases e;show⟨ob,g1,g2.2.1⟩,?_};have hA:=ha apq apn s1 σ H1 _ I1 {μ1,h1,σw,_,R1,S.ext e1',il,λ_ _ z=>z};rw[hst]at hA|-
   show Calls.callWith_builtin (by change(false||(Ku apq<|Dc [e2] X.env).any (·.1))=false;rw[hplain]<;>rfl)<|rR ?_
   show Eu hA λus s2 d=>?_;obtain⟨ys,H2,I2,r2,μ2,ws,h2,e2',R2,rs,m2⟩:=d;unfold Ur at m2;split at m2
   ·rename_i n' y' z' e3;cases e3;split at m2
    ·rename_i kvs kk ec ek;obtain⟨v1,v2,rfl,ry,rz⟩:=J1 rs;have ev1:=rJ ry ek;subst ev1;obtain⟨u1,u2,rfl,ru1,ru2⟩:=vals2 r2;obtain⟨p2,kvv2,hp2,hx2,rf2⟩:=R2.dctAt ec;have r0':=e2'.r _ _ r0;rw[DW]at r0';obtain⟨a2,ea,ha2⟩:=r0';cases ea;have ep2:p2=p:=by rw[ha2]at hp2;show(Ky hp2).symm
     subst ep2;obtain⟨z2,hd2,vs2,rel2,dd⟩:=QL I2.hok hx2;obtain⟨t1,t2⟩:=JB (k:=kk) rf2;show call_meetsIn yF dd.typeIs PySem.F.entry_dict_get (PySem.F.args_dict_get_3 _ _ _) (meets_dict_get_default (dZ X.prog X.w) p2 (Te ru1) hd2 u2) {_,dd.mapOf,?_};have hv:=(rel2.val kk).getD ru2;cases ev:lg kvs kk with
     | some wv=>
      rw[ev]at m2;obtain⟨v,a1,a3⟩:=t1 wv ev;rw[a1]at hv;show{v,H2,I2.tok _,hv,k _ _ {μ2,wv,h2,e1'.trans e2',R2,a3,m2}}
     | none=>
      rw[ev]at m2;rw[t2 ev]at hv;show{v2,H2,I2.tok _,hv,k _ _ {μ2,z',h2,e1'.trans e2',R2,rz,m2}}
    show m2.elim
   show m2.elim
  show il.elim
 show il.elim
end
section
variable {prog:Dm}{w:DX}{A:Ej}{R:Um->Bc->Prop}{E:Aj->Bc->Prop}{ns:List Int}{its:List Aj}
end
section
variable {X:Cx}
def zbf (h:X.calm=true):jC X (.builtin "sum") (λxs H Q=>∃(p:Addr) (ns:List Int),xs=[.ref p]/\KJ X.K H p (ns.map V.int)/\Q (.int ns.sum) H):=by
 rintro apn s σ H xs us Q I r ⟨p,ns,e,j,q⟩;subst e;obtain⟨u,rfl,a⟩:=vals1 r;cases a;obtain⟨its,O,pl,l⟩:=I.tuple j;have J:its.length=ns.length:=by rw[<-O.length,Ds]
 have hl:=pl;have G:p<(~~~s):=by obtain⟨_,e,_⟩:=hl;show FP e
 show call_sum_walkAnyS<|wpAny_pyIter_tuple hl ?_
 show{(~~~s),[(~~~s),p],[(~~~s)],_,its.toArray.size,_,_,λi=>ns.getD i 0,rfl,(Walks.tuple (A:=X.A.in1) (I.ok.hd h) _ p (KC G) _).toS,
  {{_,Kf _ rfl,rfl,rfl},hl.push _},λb U=>?_,λi v k=>Gn O (by simpa using k),λs' Y hm=>?_}
 rw[Ud];simp at U;rcases U with rfl|rfl
 show p8 _;show Nat.lt_succ_of_lt G;have e:preSum (λi=>ns.getD i 0) its.toArray.size=ns.sum:=by rw[Lf,J,mK ns _ (Em _),Nj]
 rw[e];obtain⟨hh,m,dd,tt,c⟩:=s';have f:=hm.gens;have g:=hm.drawn;have d:c=s.os:=hm.os;subst f g d;show{.int _,H,I.kept<|λb x e=>?_,⟨Y,rfl⟩,q};show hm.heap b x (λhm=>by rw[R6.mp hm]at e;show RX _ (FP e))<|FW _ e
abbrev abg:MC:=λws h Q=>match ws with
 | [.tup us]=>(match qj us with
  | some ns=>Q (.int ns.sum) h
  | none=>False)
 | _=>False
def adL (O:X.calm=true):jG X (.builtin "sum") abg:={_,zbf O,by
 intro H μ h Y ws a Q R r m k;unfold abg at m;split at m
 split at m
 rename_i ns U;obtain⟨v,e,G⟩:=iQ r;obtain⟨p,ys,ex,hs,J⟩:=G;subst e ex;rw[rK J U]at hs;show{p,ns,rfl,hs,k _ _<|.int R m};cases m;cases m}
end
section
variable {X:Cx}{a b o i:Expr}{mb:ME}{td ty:TE}{pos:Pos}
abbrev afG:M2:=λx y h Q=>aga x y h Q\/Xj x y h Q
def akD (E:X.A.units+30<Lb)(q:PE X o td)(hi:PE X i ty)(hs:adW i):PE X (.Subscript o i pos) (fun σ H Q=>td σ H λx H1=>ty σ H1 λy H2=>(∃a xs k b p v,x=.ref a/\H2 a=AP (.ext (TF a xs))/\U3 X.K H2 xs/\y=.ref b/\KJ X.K H2 b (k.map V.int)/\atKey xs k=AP p/\RelV v p.2/\Q v H2)\/∃a kvs k v,x=.ref a/\Rd H2 a (.dK kvs)/\y=kV k/\LR kvs k=AP v/\Q v H2):=by
 intro apn s σ H Q I h;show Sg PySem.F.slot_dict_getitem.lookup hs<|Eu (q apn s σ H _ I h) λu g ⟨x,H1,A,f,m⟩=>Eu (hi apn g σ H1 _ A m) λiv D c=>?_;obtain⟨y,H2,J,d,G⟩:=c
 rcases G with⟨a,xs,k,b,p,v,ex,e,r,Y,w,l,j,G⟩|⟨a,kvs,k,v,ex,e,Y,l,G⟩
 subst ex Y;obtain rfl:u=Value.ref a:=f;obtain rfl:iv=Value.ref b:=d;obtain⟨z,t,dd⟩:=Fq J e r;show{dd.typeIs,wpAny_getItem_heap (tupleKind_room_in1<|by omega) (Cy J w) dd l {v,H2,J.tok _,j,G}};subst ex Y;obtain rfl:u=Value.ref a:=f;obtain⟨z,t,C,U,dd⟩:=abf J.hok e;obtain⟨B,n,O⟩:=Wg.some_of (l ▸ U.val k);show{dd.typeIs,wpAny_getItem_of (Te d) dd.mapOf n {v,H2,J.tok _,O,G}}
def ae9 (r:X.A.units+30<Lb)(t:DE X a ma)(s:DE X b mb)(hs:adW b):DE X (.Subscript a b pos) (Av afG ma mb):=(akD r t s hs).of fun σ H Q h=>two h λ{H2 μ2 h2 x y E D I} R g f m k=>by
 rcases m with m|m
 unfold aga at m;split at m
 rename_i n J e;split at m
 rename_i kvs d;split at m
 rename_i w c;obtain⟨p,xs,F,U,O,e1,e2,o,l⟩:=R.dttAt d;obtain⟨p',ex,G⟩:=g;obtain rfl:=by rw[U]at G;show(Ky G).symm
 obtain⟨C,B,Y⟩:=rE f e;obtain⟨q,v,A,z,u⟩:=(yZ e1 e2 l J).1 w c;show .inl {p',xs,J,C,q,v,ex,O,oR e1 o,B,Y,A,z,k _ _ {μ2,w,h2,.refl,R,u,m}};cases m;cases m;cases m;unfold Xj at m;split at m
 rename_i n J e;split at m
 rename_i kvs d;split at m
 rename_i w c;obtain⟨p,kvv,U,O,j⟩:=R.dctAt d;obtain⟨p',e1,G⟩:=g;obtain rfl:=by rw[U]at G;show(Ky G).symm
 obtain⟨v,e2,i⟩:=j.val c;show .inr {p',kvv,J,v,e1,.inl O,rJ f e,e2,k _ _ {μ2,w,h2,.refl,R,i,m}};cases m;cases m;cases m
end
section
variable {P:Dm}{w:DX}{A:Ej}{E:Aj->Bc->Prop}{s:Bc}
end
section
variable {X:Cx}
end
abbrev Fk (P:Dm)(w:DX)(K:CQ)(mg:Str->Option Aj)(base:Heap)(k:Nat)(x:Str)(ms:Aw):Prop:=∃f fd ps,lE P w K mg base PJ k f fd ps (lift K ms)/\mg x=AP (.ref f)/\Us K (.ref f)=true/\Binds K fd ps []
abbrev At (K:CQ)(mg:Str->Option Aj)(x:Str)(st:Stmt)(ps:List Str):Prop:=∃f fd,VG K x x st f fd/\mg x=AP (.ref f)/\Binds K fd ps []
section
variable {X:Cx}{e e3 e4:Expr}{es:List Expr}{mb mc md:ME}{pos:Pos}{k:Nat}{zl:List Str}{x:Str}{p:Pos}
def vV (i)(hN:X.N[i]?=AP x:=by with_unfolding_all rfl)(hv:Vis X.env.scope x:=by with_unfolding_all first|exact Or.inl rfl|exact Or.inr (Or.inl rfl)|exact Or.inr (Or.inr rfl))(hd:(x==("__debug__" : Str))=false:=by decide)(hcd:(x==("__classdict__" : Str))=false:=by decide):DE X (.Name x pos) (ao i):=dv i (pv i hN hv hd hcd)
def aC (h1:DE X e ma)(h2:Mp X es mr)(s:FZ e=false:=by with_unfolding_all rfl):Mp X (e::es) (aj ma mr):=fH h1 h2 (aN s)
def a1 (h1:DE X e ma)(s:FZ e=false:=by with_unfolding_all rfl):Mp X [e] (aj ma aG):=aC h1 cQ s
def a2 (h1:DE X e ma)(h2:DE X e2 mb)(s1:FZ e=false:=by with_unfolding_all rfl)(s2:FZ e2=false:=by with_unfolding_all rfl):Mp X [e,e2] (aj ma (aj mb aG)):=aC h1 (a1 h2 s2) s1
def a3 (h1:DE X e ma)(h2:DE X e2 mb)(h3:DE X e3 mc)(s1:FZ e=false:=by with_unfolding_all rfl)(s2:FZ e2=false:=by with_unfolding_all rfl)(s3:FZ e3=false:=by with_unfolding_all rfl):Mp X [e,e2,e3] (aj ma (aj mb (aj mc aG))):=aC h1 (a2 h2 h3 s2 s3) s1
def Cj {j}(F:Fk X.prog X.w X.K X.mg X.base j x ms)(ha:Mp X (e::es) mr)(hr:iJ k X.A:=by with_unfolding_all assumption)(hk:j<=k:=by decide)(hg:Gl X x:=by with_unfolding_all rfl)(hdb:(x==("__debug__" : Str))=false:=by decide)(h1:FZ e=false:=by with_unfolding_all rfl)(h2:noStar es=true:=by with_unfolding_all rfl):
  DE X (.Call (.Name x p) (e::es) [] pos) (aF ms EF mr):=by
 obtain⟨f,fd,ps,a,b,c,d⟩:=F;show adU (a.mono hk) hr hg b c d ha hdb (aN h1)<|bM h2
def Kl {id mc}(hc:jG X (.builtin id) mc)(hv:Y9 x=AP (.builtin id))(ha:Mp X (e::es) mr)(z:∀n∈zl,X.mg n=Af:=by with_unfolding_all assumption)(hz:x∈zl:=by decide)(hg:Gl X x:=by with_unfolding_all rfl)(hn:x ≠ "__name__":=by decide)(hdb:(x==("__debug__" : Str))=false:=by decide)
  (h1:FZ e=false:=by with_unfolding_all rfl) (h2:noStar es=true:=by with_unfolding_all rfl):DE X (.Call (.Name x p) (e::es) [] pos) (Ft mc mr):=aa6 hc hg (z _ hz) hv ha hn hdb (aN h1) (bM h2)
def dct {T mc}(hc:jG X (.type T) mc)(hv:Y9 x=AP (.type T))(ha:Mp X (e::es) mr)(z:∀n∈zl,X.mg n=Af:=by with_unfolding_all assumption)(hz:x∈zl:=by decide)(hg:Gl X x:=by with_unfolding_all rfl)(hn:x ≠ "__name__":=by decide)(hdb:(x==("__debug__" : Str))=false:=by decide)
  (h1:FZ e=false:=by with_unfolding_all rfl) (h2:noStar es=true:=by with_unfolding_all rfl):DE X (.Call (.Name x p) (e::es) [] pos) (Ft mc mr):=yX hc hg (z _ hz) hv ha hn hdb (aN h1) (bM h2)
def Ec (i){pos'}(he:DE X e ma)(hN:X.N.Nodup:=by with_unfolding_all assumption)(hi:X.N[i]?=AP x:=by with_unfolding_all rfl)(hx:Loc X.env.scope x:=by with_unfolding_all first|exact Or.inl rfl|exact Or.inr rfl)(hs:Y7 e (AP (.Name x pos')) pos.line X.env=pure false:=by with_unfolding_all rfl)
  (hf:X.fn x=true\/X.env.scope.names.lookup x=AP .local:=by with_unfolding_all first|exact .inl rfl|exact .inr rfl):DS X (.Assign [.Name x pos'] e pos) (bB ma (Aq i)):=Hj hN hi hx he hs hf
def Ny (i)(hN:X.N.Nodup:=by with_unfolding_all assumption)(hi:X.N[i]?=AP x:=by with_unfolding_all rfl)(hx:Loc X.env.scope x:=by with_unfolding_all first|exact Or.inl rfl|exact Or.inr rfl)(hf:X.fn x=true\/X.env.scope.names.lookup x=AP .local:=by with_unfolding_all first|exact .inl rfl|exact .inr rfl):DG X (.Name x pos) (Aq i):=Fj (qw hN hi hx hf)
def Bu {a b}(ha:DE X a ma)(hb:DE X b mb)(hs:Fb b:=by with_unfolding_all (intro _ _;rfl)):DE X (.Subscript a b pos) (Av Bq ma mb):=agd ha hb hs
def K4 {a b op m2}(ho:Oz X (Oi op) m2)(ha:DE X a ma)(hb:DE X b mb)(hm:Yc op b=false:=by with_unfolding_all first|exact R8 _|rfl):DT X (.Compare a [op] [b] pos) (bw (Av m2 ma mb)):=WD ho ha hb hm
def RK {a b op m2}(ho:Oz X (Oi op) m2)(ha:DE X a ma)(hb:DE X b mb)(hm:Yc op b=false:=by with_unfolding_all first|exact R8 _|rfl):DE X (.Compare a [op] [b] pos) (Av m2 ma mb):=af5 ho ha hb hm
def dl1 {scope iter}(ix)(hi:Uj X (.Name x p) iter mi)(ht:∀C s H fp,acd (blk X scope (kI X [x] ix) C s H fp) ifs tt)(he:∀C s H fp,DE (blk X scope (kI X [x] ix) C s H fp) elt te)(B:jQ X scope [x] ix:=by with_unfolding_all exact cA rfl)(hc:X.calm=true:=by with_unfolding_all assumption)
  (hs:∀v,YK iter X.env v=pure v:=by with_unfolding_all (intro _;rfl)):DE X (.ListComp elt [⟨.Name x p,iter,ifs,0⟩] scope pos) (J2 K9 ix mi tt te):=abB ix hc B xr (xq B) hi ht he hs
def RD {scope iter}(ix)(hi:Uj X (.Name x p) iter mi)(he:∀C s H fp,DE (blk X scope (kI X [x] ix) C s H fp) elt te)(B:jQ X scope [x] ix:=by with_unfolding_all exact cA rfl)(hc:X.calm=true:=by with_unfolding_all assumption)
  (hs:∀v,YK iter X.env v=pure v:=by with_unfolding_all (intro _;rfl)):DE X (.ListComp elt [⟨.Name x p,iter,[],0⟩] scope pos) (J2 K9 ix mi iM te):=dl1 ix hi (λ_ _ _ _=>iy) he B hc hs
def qq (hr:iJ k X.A:=by with_unfolding_all assumption):X.A.units+30<Lb:=ahw hr
def hh (hc:X.calm=true:=by with_unfolding_all assumption):X.calm=true:=hc
def drg {a}{tg}(ha:Mp X [a] mr)(z:∀n∈zl,X.mg n=Af:=by with_unfolding_all assumption)(hz:("range" : Str)∈zl:=by decide)(hg:Gl X "range":=by with_unfolding_all rfl)(hs:FZ a=false:=by with_unfolding_all rfl):Uj X tg (.Call (.Name "range" p) [a] [] pos) (pU mr):=zbc hg (z _ hz) ha (XF hs)
end
def fk {P w K}{mg base x}{st}{ps zl:List Str}(N){k}{pure}{body}(T:At K mg x st ps)(z:∀n∈zl,mg n=Af)
  (hb:∀f cdv A  (outer) (s) (H) (E),iJ k (A.deeper (Ua x (aY st) s.heap.objs.size f cdv))->N.Nodup->(LC PJ P w K mg base N x (aY st) f cdv A outer s H E).nox.calm=true->(∀n∈zl,mg n=Af)->VH (LC PJ P w K mg base N x (aY st) f cdv A outer s H E).nox (eV st) (body EF))
  (S:iH N ps (aY st):=by exact⟨rfl,rfl,rfl,by decide +kernel,rfl,by decide +kernel,by decide +kernel⟩) (hk:9<=k:=by decide):Fk P w K mg base (k+1) x (Ei ps.length N.length pure body):=by
 obtain⟨f,fd,F,m,b⟩:=T;show{f,fd,ps,ahT F S λcdv A outer s H E hr=>hb f cdv A outer s H E hr S.nd (hr.calm hk) z,m,F.kp,b}
section
variable {X:Cx}{e:Expr}
end
section
variable {X:Cx}{o:Expr}{ma:MA}{apos apq:Pos}
end
section
variable {X:Cx}
end
section
variable {prog:Dm}{w:DX}{A:Ej}{E:Aj->Bc->Prop}{s:Bc}
end
section
variable {X:Cx}{K:CQ}
end
section
variable {X:Cx}{c:Expr}{t:MT}
end
section
variable {X:Cx}
variable {o e:Expr}{es:List Expr}{ma:MA}{name:Str}{apos apq:Pos}{id:String}{r:V->List V->Hp->VK->Prop}{mr:MM}
end
section
variable {X:Cx}{e:Expr}{es:List Expr}{pos p:Pos}{k j:Nat}{x y:Str}{f:Addr}{fs:List (Addr×Aw)}
end
def dc0 {X}{pos p k j x}(F:Fk X.prog X.w X.K X.mg X.base j x ms)(hr:iJ k X.A:=by with_unfolding_all assumption)(hk:j<=k:=by decide)(hg:Gl X x:=by with_unfolding_all rfl)(hdb:(x==("__debug__" : Str))=false:=by decide):DE X (.Call (.Name x p) [] [] pos) (aF ms EF aG):=by
 obtain⟨f,fd,ps,a,b,c,d⟩:=F;show zcd (a.mono hk) hr hg b c d hdb
section
variable {X:Cx}
end
section
variable {X:Cx}{tg:Expr}
end
section
variable {prog:Dm}{w:DX}{A:Ej}{E:Aj->Bc->Prop}{s:Bc}
end
section
variable {X:Cx}
end
section
variable {X:Cx}{K:CQ}
end
def zbp {prog w A}{E s}{env K}{e C n}{t}{pos}{Q}
  (a:nH K C n=true) (g:nG K D d=true) (hi:QJ n d=true)
  (h:CR (Cq prog w) (A.mark (AP (.ref e))) (eval t env) (λc G=>c=.ref D/\K.In G.heap/\(∃oe,G.heap.get? e=AP oe/\oe.cls=.ref C) /\
   CR (Cq prog w) (A.mark (AP (.ref e))) (setFlight (.ref e) Af) (λ_ J=>
      CR (Cq prog w) (A.mark (AP (.ref e))) (execs (b₀::suite) env) Q (notedBy (Cq prog w) (A.mark (AP (.ref e))) env (cameBackBy (Cq prog w) A env E)) J) (λ_ _=>False) G) (λ_ _=>False) s) :
  CR (Cq prog w) A (handleBy (.ref e) env (.ExceptHandler (AP t) Af (b₀::suite) pos::rest)) Q E s:=by
 show wpAny_handleBy_cons (codeAny_handlers_test<|Li h (λc G U=>?_) λ_ _ z=>z.elim) (by intro q;cases q);obtain⟨rfl,X,⟨oe,f,Y⟩,b⟩:=U;show uI X f Y a g ?_;rw[hi];show codeAny_handlers_suite<|Li b (λ_ J O=>Li O (λ_ _ z=>z) λ_ _ z=>z) λ_ _ z=>z.elim
abbrev X8 (d:Str)(mb mh:Ci->MS)(E:Ci):MS:=λD σ h=>mb (λx h'=>Lg (QJ x.cls d) (mh E D σ h') False) D σ h
@[reducible]noncomputable def Cx.hndE (X:Cx)(a:Addr)(H0:Hp)(xe:Aj->Bc->Prop):Cx:={X with A:=X.A.mark (AP (.ref a)),H₀:=H0,calm:=false,xe:=xe}
section
variable {X:Cx}{body:List Stmt}{pos:Pos}{mh:Ci->MS}
def Bk.hndE {apn}{σ:St}{H s}{a H0}{xe}(I:Bk (X.hnd a H0) apn σ H s):Bk (X.hndE a H0 xe) apn σ H s:=
 {⟨I.ok.mod,I.ok.kind,I.ok.glob,I.ok.blt,I.ok.above,I.ok.inj,I.ok.has,I.ok.cab,I.ok.hd,I.ok.qt,I.ok.frames,I.ok.stk,I.ok.exf,I.ok.bs,I.ok.bsz,I.ok.noex,I.ok.exfs,I.ok.funs,I.ok.frf⟩,I.os,I.bare,I.base,I.loc,I.cell,I.free,I.freeC,I.pin,I.hok,I.len}
def Bk.unhndE {apn}{σ:St}{H s}{a}(I:Bk (X.hndE a H0 xe) apn σ H s):Bk (X.hnd a H0) apn σ H s:=
 {⟨I.ok.mod,I.ok.kind,I.ok.glob,I.ok.blt,I.ok.above,I.ok.inj,I.ok.has,I.ok.cab,I.ok.hd,I.ok.qt,I.ok.frames,I.ok.stk,I.ok.exf,I.ok.bs,I.ok.bsz,I.ok.noex,I.ok.exfs,I.ok.funs,I.ok.frf⟩,I.os,I.bare,I.base,I.loc,I.cell,I.free,I.freeC,I.pin,I.hok,I.len}
def New.unE {apn H}{a b}(n:New (X.hndE a H0 xe) apn H b):New X apn H b:=⟨n.h,n.s,n.l,n.c,n.p,n.f⟩
def FN.unE {apn σ H s}{a e C}{od H0}{xe}(G:X.Ok)(k:Wj X H0)(J:∀b,VF (X.hnd a H0) b->VF X b)(F:FN (X.hndE a H0 xe) apn σ H s e C od):FN X apn σ H s e C od:=
 {Bk.unhnd G k F.inv.unhndE,F.xn.mono (λ_ n=>n.unE) λ_ z=>z.mono (λb q=>J b q) λ_ _ _ q=>q}
def SP.unE {apn a}{De f s'}(J:X.Ok)(k:Wj X H0)(h:SP (X.hndE a H0 xe) apn De f s'):SP X apn De f s':=by
 cases f with
 | next|brk|cont=>obtain⟨G,H',I,q⟩:=h;show{G,H',Bk.unhnd J k I.unhndE,q}
 | ret v=>obtain⟨v,G,H',I,r,q⟩:=h;show{v,G,H',Bk.unhnd J k I.unhndE,r,q}
def zbV (hg:Gl X d)(hm:X.mg d=AP (.ref D))(hxd:nG X.K D d=true)(ht:Top X)(hx:X.ex=[])(hΓ:∀σ,Γ σ)
  (hb:∀apn xe σ0,LQ (X.tr apn xe) (fun σ=>σ=σ0) body mb) (hh:∀a H0 xe,acz (X.hndE a H0 xe)->LQ (X.hndE a H0 xe) (λ_=>True) (b₀::suite) mh) (hdb:(d==("__debug__" : Str))=false:=by decide) :
  Vt X Γ (.Try body [.ExceptHandler (AP (.Name d np)) Af (b₀::suite) hpos] [] [] pos) (λE=>X8 d mb mh E):=by
 rintro apn s σ H De I ⟨hσ,μ,h,σw,Dw,E,R,S,m,k,kx⟩;show wpAny_Try_except<|Eu (hb apn _ σ [] s σ H De I.tr {rfl,μ,h,σw,Dw,_,R,S,m,k,λev s' xt=>?_}) λf s' q=>?_
 ·obtain⟨a,C,n,od,fs,pins',σ',H',μ',h',rfl,F,hxc,rfl,e1,R1,xd,q⟩:=xt;have F:=F.untr;cases hix:QJ n d with
  | false=>
   rw[hix]at q;cases q
  | true=>
  rw[hix]at q;show F.note ht F.inv.ok.frames λh1 F1=>F1.flight λh2 F2=>?_;obtain⟨_,oe0,vs0,he0,hc0,_⟩:=F2.xn;show zbp hxc hxd hix<|wW F2.inv.ok.kind hg (Calls.loadGlobal_global (F2.inv.ok.glob ▸ F2.inv.mod.glob.keeps F2.inv.bk) hm {rfl,F2.inv.kIn,⟨oe0,he0,hc0⟩,(F2.flight λh3 F3=>?_)}) hdb
  obtain⟨nw,oe,vs,he,hc,hdd,hdt,_,⟨zz,hv2,hzz⟩,_⟩:=F3.xn;obtain⟨H0,hok,hnw,Ih⟩:=F3.inv.hnd nw hx he hdt hv2 hzz;have Hn:=nw.h;have e2:K5 _ H μ (Dn H' a (.frz oe (vL a oe))) μ':=e1.trans (Ex.laid Hn).ext;show Li (hh a H0 (notedBy _ _ _ _) (.ok Ih.hndE.ok) apn _ _ _ De Ih.hndE
   {trivial,μ',h',σw,Dw,E,R1.laid Hn,S.ext e2,q,k.trans e2,λev s5 xt=>?_}) (λf s5 q5=>SP.unE F3.inv.ok hok q5) λ_ _ z=>z
  obtain⟨b,C2,n2,od2,fs2,pins2,σ2,H2,μ2,hh2,rfl,G,hx2,_,e3,R2,xd2,q2⟩:=xt;show G.note ⟨ht.1,ht.2⟩ G.inv.ok.frames λh4 G1=>?_;have G2:=G1.unE F3.inv.ok hok hnw;obtain⟨_,o2,v2,g1,g2,g3,g4,g5,g6,T,oT,tt,g7,g8⟩:=G2.xn;show BL<|Mv g1 g4 g7<|G2.flight λh5 G3=>(kx _ _ {b,C2,n2,od2,fs2,pins2,σ2,H2,μ2,hh2,rfl,G3.fx,hx2,hΓ _,e2.trans e3,R2,xd2,q2})
 ·have q:=SP.untr q;cases f with
  | next=>show Zn q
  | brk|cont|ret v=>show q
end
section
variable {X:Cx}{apn:List (Addr×Obj)}{σ:St}{H:Hp}{s:Bc}
def Bk.drop {m i y}{v h' t'}(I:Bk X apn σ H s)(n:X.N.Nodup)(hi:X.N[i]?=AP y)(h:s.heap.Ns X.env.locals m)(d:h'.Ns X.env.locals (λx=>if x=y then v else m x))(Y:Qf X.env.locals s.heap h'):
  Bk X apn (σ.set i Af) H {s with heap:=h',toks:=t'}:=by
 have J:=I.lost (t':=t') d Y;obtain⟨a,U,hl⟩:=I.loc;have A:a=m:=by
  obtain⟨o,es,ep,O,C,_,B⟩:=h;obtain⟨o',t,z,G,l,_,k⟩:=U;rw[O]at G;grind
 subst A;show{J.ok,J.os,J.bare,J.base,{_,d,λj x w h1 h2 p=>?_},J.cell,J.free,J.freeC,J.pin,J.hok,by rw[Zt];show I.len};have b:j≠i:=λq=>by
  rw[q,List.getElem?_set]at h2;split at h2
  split at h2<;>cases h2
  show absurd rfl ‹¬i=i›
 rw[w6 (Ke b)]at h2;obtain⟨u,f,g⟩:=hl j x w h1 h2 p;show{u,f,?_};rcases g with⟨k1,k2⟩|⟨k1,c,k2,k3⟩
 show .inl {k1,by change(if x=y then v else a x)=AP u;rw[if_neg<|λq=>b<|(List.getElem?_inj (Qc.mp h1).1 n).mp (by rw[h1,hi,q])];show k2};show .inr {k1,c,k2,?_};obtain⟨o,O,r⟩:=k3;show{o,(Y.2 c<|I.cne x c k2).trans O,r}
end
abbrev cH.drop (D:cH)(i:Nat):cH:={D with nx:=fun σ h=>D.nx (σ.set i Af) h,bk:=fun σ h=>D.bk (σ.set i Af) h,ct:=fun σ h=>D.ct (σ.set i Af) h}
abbrev aaG (i:Nat)(d:Str)(mb:Ci->MS)(mh:MS):MS:=λD σ h=>mb (λx h'=>Lg (QJ x.cls d) (mh (D.drop i) (σ.set i (AP (aef x))) h') False) D σ h
def Slots.drop {K H σ}(S:Slots K H μ σw σ)(i):Slots K H μ (σw.set i Af) (σ.set i Af):=by
 show{by rw[Zt,Zt,S.len],λj w q=>?_};by_cases e:i=j
 grind
 rw[w6 e]at q|-
 show S.get j w q
section
variable {X:Cx}{body:List Stmt}{y:Str}{pos:Pos}{i:Nat}
def ang (hN:X.N.Nodup)(hi:X.N[i]?=AP y)(hy:X.env.scope.names.lookup y=AP .local)(hg:Gl X d)(hm:X.mg d=AP (.ref D))(hxd:nG X.K D d=true)(ht:Top X)(hx:X.ex=[])
  (hb:∀apn xe σ0,LQ (X.tr apn xe) (fun σ=>σ=σ0) body mb) (hh:∀a H0,VH (X.hnd a H0).nox (b₀::suite) mh) (hdb:(d==("__debug__" : Str))=false:=by decide) :
  DS X (.Try body [.ExceptHandler (AP (.Name d np)) (AP y) (b₀::suite) hpos] [] [] pos) (aaG i d mb mh):=by
 rintro apn s σ H De I ⟨μ,h,σw,Dw,R,S,m,k⟩;show wpAny_Try_except<|Eu (hb apn _ σ [] s σ H De I.tr {rfl,μ,h,σw,Dw,_,R,S,m,k,λev s' xt=>?_}) λf s' q=>?_
 ·obtain⟨a,C,n,od,fs,pins',σ',H',μ',h',rfl,F,hxc,rfl,e1,R1,xd,q⟩:=xt;have F:=F.untr;cases hix:QJ n d with
  | false=>
   rw[hix]at q;show q.elim
  | true=>
  rw[hix]at q;show F.note ht F.inv.ok.frames λh1 F1=>F1.flight λh2 F2=>?_;obtain⟨_,oe0,vs0,he0,hc0,_⟩:=F2.xn;show zbn hxc hxd hix ?_;show wW F2.inv.ok.kind hg (Calls.loadGlobal_global (F2.inv.ok.glob ▸ F2.inv.mod.glob.keeps F2.inv.bk) hm {rfl,F2.inv.kIn,⟨oe0,he0,hc0⟩,?_}) hdb;show F2.flight λh3 F3=>?_;obtain⟨nw,oe,vs,he,hc,hdd,hdt,_,⟨zz,hv2,hzz⟩,_⟩:=F3.xn;obtain⟨H0,hok,_,Ih⟩:=F3.inv.hnd nw hx he hdt hv2 hzz;have Hn:=nw.h;show oW (X:=X.hnd a H0) (v:=.ref a) Ih hN hi (.inl hy) rfl (λs4 I4=>?_)<|.inr hy
  have e2:K5 X.K H μ (Dn H' a (.frz oe (vL a oe))) μ':=e1.trans (Ex.laid Hn).ext;have rx:DW X.K (Dn H' a (.frz oe (vL a oe))) μ' (aef ⟨n,fs⟩) (.ref a):=by
   have nc:PySem.W.notCls oe=true:=by
    unfold PySem.W.notCls;rw[hdt]
   rcases xd with⟨rfl,rfl⟩|⟨dd,ws,xs,rfl,hxa,rfl,hl1,hl2,hdx,rs⟩
   show{a,oe,_,rfl,aV,C,hc,hdd,nc,hxc};rw[abW hl1,DW];show{a,oe,_,dd,_,xs,rfl,aV,⟨C,hc,hdd,nc,hxa⟩,aL (aQ hdx Hn) ▸ hdx,rfl,hl2,(Ex.laid Hn).ext.s rs}
  show Li (hh a H0 apn s4 _ _ {fun σ5 H5=>De.nx (σ5.set i Af) H5,De.rt,fun σ5 H5=>De.bk (σ5.set i Af) H5,fun σ5 H5=>De.ct (σ5.set i Af) H5} (I4.wish _)
   {μ',h',σw.set i (AP _),Dw.drop i,R1.laid Hn,(S.ext e2).set rx i,q,{?_,?_,?_,?_}}) (λf s5 q5=>?_) λ_ _ z=>z.elim
  rintro σ5 H5 ⟨μ5,σw5,h5,e5,R5,S5,m5⟩;show k.nx _ _ {μ5,_,h5,e2.trans e5,R5,S5.drop i,m5};rintro v H5 ⟨μ5,w5,h5,e5,R5,r5,m5⟩;show k.rt _ _ {μ5,w5,h5,e2.trans e5,R5,r5,m5};rintro σ5 H5 ⟨μ5,σw5,h5,e5,R5,S5,m5⟩;show k.bk _ _ {μ5,_,h5,e2.trans e5,R5,S5.drop i,m5};rintro σ5 H5 ⟨μ5,σw5,h5,e5,R5,S5,m5⟩;show k.ct _ _ {μ5,_,h5,e2.trans e5,R5,S5.drop i,m5}
  ·have gone:∀{σ5:St}{H5:Hp}{Q5:Unit->Bc->Prop},Bk (X.hnd a H0).nox apn σ5 H5 s5->(∀s6,Bk X apn _ H5 s6->Q5 () s6)->CR (Cq X.prog X.w) X.A (do bindName X.env y .none;unbindBehindTheSuite X.env y hpos) Q5 X.xe s5:=λ{σ5 H5 Q5} I5 h5=>by
    have I5':=I5.unwish;obtain⟨mm,hns,_⟩:=I5'.loc;show wpAny_nameGoes_keeps hy hns (by rw[F.inv.ok.kind];rfl) λh6 v6 hn6 sb6=>h5 _<|Bk.unhnd F3.inv.ok hok<|I5'.drop hN hi hns hn6 sb6
   cases f with
   | next=>obtain⟨σ5,H5,I5,z⟩:=q5;show gone I5 λs6 I6=>{_,H5,I6,z}
   | brk=>obtain⟨σ5,H5,I5,z⟩:=q5;show gone I5 λs6 I6=>{_,H5,I6,z}
   | cont=>obtain⟨σ5,H5,I5,z⟩:=q5;show gone I5 λs6 I6=>{_,H5,I6,z}
   | ret v=>obtain⟨x5,σ5,H5,I5,r5,z⟩:=q5;show gone I5 λs6 I6=>{x5,_,H5,I6,r5,z}
 ·have q:=SP.untr q;cases f with
  | next=>show Zn q
  | brk=>show q
  | cont=>show q
  | ret v=>show q
end
abbrev U4 (P:Dm)(w:DX)(K:CQ)(mg:Str->Option Aj)(base:Heap)(k:Nat)(x:Str)(ms:Aw):Prop:=∃f fd ps,lE P w K mg base (Vu P w) k f fd ps (Bd K ms)/\mg x=AP (.ref f)/\Us K (.ref f)=true/\Binds K fd ps []
def U4.tame {P w K}{mg base k x ms}(F:U4 P w K mg base k x ms):Fk P w K mg base k x ms:=
 let⟨f,fd,ps,a,b⟩:=F
 ⟨f,fd,ps,a.tame,b⟩
def QV {X}{e}{es pos k x p j}(F:U4 X.prog X.w X.K X.mg X.base j x ms)(ha:Mp X (e::es) mr)(hr:iJ k X.A:=by with_unfolding_all assumption)(hk:j<=k:=by decide)(hg:Gl X x:=by with_unfolding_all rfl)(hdb:(x==("__debug__" : Str))=false:=by decide)(h1:FZ e=false:=by with_unfolding_all rfl)(h2:noStar es=true:=by with_unfolding_all rfl):
  DEx X Γ (.Call (.Name x p) (e::es) [] pos) (λE=>aF ms E mr):=by
 obtain⟨f,fd,ps,a,b,c,d⟩:=F;show Ey (a.mono hk) hr hg b c d ha hdb (aN h1)<|bM h2
def VN {P w K}{mg base x}{st}{ps zl:List Str}(N){k}{pure}{body}(T:At K mg x st ps)(z:∀n∈zl,mg n=Af)
  (hb:∀f cdv A  (outer) (s) (H) (E),iJ k (A.deeper (Ua x (aY st) s.heap.objs.size f cdv))->N.Nodup->(LC (Vu P w) P w K mg base N x (aY st) f cdv A outer s H E).calm=true->(∀n∈zl,mg n=Af)->LQ (LC (Vu P w) P w K mg base N x (aY st) f cdv A outer s H E) (λ_=>True) (eV st) body)
  (S:iH N ps (aY st):=by exact⟨rfl,rfl,rfl,by decide +kernel,rfl,by decide +kernel,by decide +kernel⟩) (hk:9<=k:=by decide):U4 P w K mg base (k+1) x (Ei ps.length N.length pure body):=by
 obtain⟨f,fd,F,m,b⟩:=T;show{f,fd,ps,afT F S λcdv A outer s H E hr=>hb f cdv A outer s H E hr S.nd (hr.calm hk) z,m,F.kp,b}
section
variable {prog:Dm}{w:DX}{A:Ej}{E:Aj->Bc->Prop}{s:Bc}{env:Env}
variable {q:Str}{C N:Addr}{bs bmB:List Aj}{ab:Bool}{k0 k1 k2 k3 k5:Option Aj}{B:String}
end
section
variable {X:Cx}{apn:List (Addr×Obj)}{σ:St}{H:Hp}{s:Bc}{C:Addr}{x:Str}{apq pos:Pos}{e:Expr}{es:List Expr}{t:TA}
end
section
variable {X:Cx}{pos:Pos}
end
section
variable {X:Cx}{y:Str}{pos:Pos}{i:Nat}{apn:List (Addr×Obj)}{σ:St}{H H':Hp}{s:Bc}{a C:Addr}{n:Str}{od:Option Addr}{fs:List (Str×W)}{h':Gh}{Dw:cH}{De:Ends}
end
section
variable {X:Cx}{body:List Stmt}{b₁:Stmt}{suite':List Stmt}{y y' d':Str}{np' hpos' pos:Pos}{i i':Nat}{D':Addr}{mh':MS}
end
section
variable {prog:Dm}{w:DX}{A:Ej}{E:Aj->Bc->Prop}{s:Bc}{K:CQ}{x dx C:Addr}{mA:Str->Option Aj}{name:Str}{v:Aj}
end
section
variable {X:Cx}{o value:Expr}{f:Str}{C:Addr}{pos pos':Pos}{ta tv:TE}
end
section
variable {X:Cx}{apn:List (Addr×Obj)}{σ:St}{H:Hp}{s:Bc}{C:Addr}{x f g:Str}{apq pos:Pos}{e e':Expr}{t:TA}{k:Nat}{fd:Nu}{ps:List Str}
end
section
variable {X:Cx}{e e':Expr}{pos:Pos}{ma:MA}
end
section
variable {X:Cx}{K:CQ}{o e:Expr}{ma:MA}{apos apq:Pos}
end
section
variable {prog:Dm}{w:DX}{A:Ej}{E:Aj->Bc->Prop}{s:Bc}
end
section
variable {X:Cx}{K:CQ}
end
section
variable {X:Cx}{e:Expr}{es:List Expr}{pos:Pos}
def Jb {mr}(hΓ:∀σ,Γ σ)(ha:DE X e ma)(hr:PA X es (ady X Γ mr))(hs:Dc (e::es) X.env=(false,eval e X.env)::Dc es X.env:=by rfl):PA X (e::es) (ady X Γ λE=>aj ma (mr E)):=(tW ha hr hs).of fun σ H Q a=>by obtain⟨g,μ,h,σw,Qw,E,R,S,m,q,kx⟩:=a;show {μ,h,σw,_,R,S,m,λv H1 b=>by obtain⟨μ1,w,h1,e1,R1,r1,m1⟩:=b;show {hΓ _,μ1,h1,σw,_,E,R1,S.ext e1,m1,λvs H2 c=>by obtain⟨μ2,ws,h2,e2,R2,r2,m2⟩:=c;show q _ _ {μ2,w::ws,h2,e1.trans e2,R2,{v,vs,rfl,e2.r _ _ r1,r2},m2},λev s' xt=>kx ev s' (xt.trans e1)}}
def zcc {mr k}{f fd}{ps x p}(F:lE X.prog X.w X.K X.mg X.base (Vu X.prog X.w) k f fd ps (Bd X.K ms))(hr:iJ k X.A)(hg:Gl X x)(hm:X.mg x=AP (.ref f))(hk:Us X.K (.ref f)=true)
  (hb:Binds X.K fd ps []) (ha:PA X (e::es) (ady X Γ mr)) (hdb:(x==("__debug__" : Str))=false:=by decide) (he:Dc (e::es) X.env=(false,eval e X.env)::Dc es X.env:=by rfl) (hpl:(Ku pos (Dc es X.env)).any (·.1)=false:=by rfl) :
  DEx X Γ (.Call (.Name x p) (e::es) [] pos) (λE=>aF ms E (mr E)):=by
 rintro apn s σ H Q I ⟨hσ,μ,h,σw,Qw,E,R,S,m,q,kx⟩;show Vm<|nC I hg hm (PySem.W.callWith_K I.ok.mod.kin hk (Eu (ha pos apn s σ H _ I {hσ,μ,h,σw,_,E,R,S,m,λ_ _ z=>z,kx}) λus s1 ⟨vs,H1,I1,r,μ1,ws,h1,e1,R1,r1,m1⟩=>{I1.kIn,?_}) he hpl) hdb
 have sp:Bd X.K ms (vs++[]) H1 Q (λCv od H'=>∃(C:Addr) (n:Str) (fs:List _) (μ':Mu) (h':Gh),Cv=.ref C/\nH X.K C n=true/\K5 X.K H1 μ1 H' μ'/\Dz X.K μ' H' h'/\abA X.K H' μ' C n od fs/\E ⟨n,fs⟩ h'):=by
  rw[Zr];show{μ1,h1,ws,Qw,E,R1,r1,m1,λv H' z=>q _ _<|z.trans e1,λC n od fs H' hx b=>by obtain⟨μ',h',z⟩:=b;show ⟨C,n,fs,μ',h',rfl,hx,z⟩}
 have r2:=r.append .nil;show ZC<|Wc (F.run X.A _ s1 H1 {us,[]} _ _ Q _ hr I1.env0 (hb s1 us I1.kIn<|r2.length ▸ F.len _ _ _ _ sp) r2 sp) λr s' hq=>?_
 cases r with
 | error ev=>
  obtain⟨a,C,od,H',e2,F2,C',n,fs,μ',h',e3,hx,e4,R4,k4⟩:=I1.cxx (E:=λCv od H'=>∃(C:Addr) (n:Str) (fs:List _) (μ':Mu) (h':Gh),Cv=.ref C/\nH _ C n=true/\K5 _ H1 μ1 H' μ'/\Dz X.K μ' H' h'/\abA X.K H' μ' C n od fs/\E ⟨n,fs⟩ h') hq;cases e3;show kx ev s' {a,C,n,od,fs,apn,σ,H',μ',h',e2,F2.fx,hx,hσ,e1.trans e4,R4,k4}
 | ok fl=>
  cases fl with
  | ret u=>show I1.after hq
  | next|brk|cont=>show Uq hq
def aiJ {mr k x p j}(F:U4 X.prog X.w X.K X.mg X.base j x ms)(ha:PA X (e::es) (ady X Γ mr))(hr:iJ k X.A:=by with_unfolding_all assumption)(hk:j<=k:=by decide)(hg:Gl X x:=by with_unfolding_all rfl)(hdb:(x==("__debug__" : Str))=false:=by decide)(h1:FZ e=false:=by with_unfolding_all rfl)(h2:noStar es=true:=by with_unfolding_all rfl):
  DEx X Γ (.Call (.Name x p) (e::es) [] pos) (λE=>aF ms E (mr E)):=by
 obtain⟨f,fd,ps,a,b,c,d⟩:=F;show zcc (a.mono hk) hr hg b c d ha hdb (aN h1)<|bM h2
end
section
variable {X:Cx}{zl:List Str}{x:Str}{p q pos:Pos}{a:Expr}{es:List Expr}
end
section
variable {X:Cx}{body:List Stmt}{y:Str}{pos:Pos}{i:Nat}
end
section
variable {K:CQ}{C D':Addr}{n d':Str}
end
section
variable {X:Cx}
variable {e a:Expr}{es:List Expr}{mb:ME}
end
section
variable {X:Cx}{o e:Expr}{ma:Ci->MA}{apos apq:Pos}
end
section
variable {X:Cx}
variable {c a b e:Expr}{es:List Expr}{mb:ME}{pos pos' p:Pos}
end
section
variable {X:Cx}
end
section
variable {P:Dm}{w:DX}{A:Ej}{E:Aj->Bc->Prop}{s:Bc}
def O2:∀{vs:List Aj},vs.length<2->(vs.toArray.zip vs.toArray).map (·.2)=vs.toArray
 | [],_|[_],_=>by simp
 | _::_::_,h=>nomatch h
def akC {a}{vs n}{R}(J:s.heap.get? a=AP (seqObj "list" vs.toArray n))(h2:vs.length<2)(q:R (.done (.ret .none)) {s with heap:=sortedHeap s.heap a vs vs.toArray}):
  CR (Cq P w) A (V3.«list.sort» ⟨[.ref a],[]⟩) R E s:=by
 have b:vs.length<=El:=K7 (m:=2) ⋯ ∅;rw[list_sort_plain];show BL<|listItems_at J rfl<|BL<|listUpdate_at J rfl ?_ (by simpa using b)<|Pz _
 obtain⟨e1,h1⟩:∃e1,(s.heap.update a (Yw λ_=>#[])).get? a=AP (seqObj "list" #[] e1):={_,get?_update_seq J (λ_=>#[])}
 show BL<|seqEpoch_at h1 rfl<|BL<|wpAny_newTuple<|BL<|wpAny_newList<|N7 ?_
 have Y:(hp6 s.heap a vs).get? a=AP (seqObj "list" #[] e1):=FW _ (FW _ h1);dsimp only;have G:vs.toArray.size<2:=by simpa using h2
 rw[if_pos G,if_pos G];show BL<|DK ?_
 show BL<|DK ?_
 dsimp only;show BL<|seqEpoch_at Y rfl<|BL<|listUpdate_at Y rfl ?_ (hsz2:=?_)
 simp only[bne_self_eq_false,uT,if_false];show DK ?_;have e:=O2 h2;rw[e];show q;rw[O2 h2];have:vs.toArray.size=vs.length:=by simp
 lia
def zaM {v:Aj}{vs:List Aj}{Q:Aj->Bc->Prop}
  (col:∀{E:Aj->Bc->Prop}{Q:List Aj->Bc->Prop},(∀h' tk,(∀b o,s.heap.get? b=AP o->h'.get? b=AP o)->s.heap.objs.size<h'.objs.size->Q vs {s with heap:=h',toks:=tk})->CR (Cq P w) A.in1 (collect v) Q E s)
  (h2:vs.length<2)
  (q:∀(h':Heap) (tk:Nat) (l:Addr) (c:Nat),(∀b o,s.heap.get? b=AP o->h'.get? b=AP o)->s.heap.objs.size<=l->h'.get? l=AP (seqObj "list" vs.toArray c)->Q (.ref l) {s with heap:=h',toks:=tk}) :
  CR (Cq P w) A (call (.builtin "sorted") [v]) Q E s:=by
 show Calls.call_function_entry kind_sorted plain_sorted entry_sorted (args_sorted1 _)<|BL<|DK<|BL<|col λh1 tk k1 J=>BL<|wpAny_newList ?_
 have O:(h1.push (seqObj "list" vs.toArray 0)).get? h1.objs.size=AP _:=Kf _ rfl;show BL<|N7<|Uh slot_list_sort {_,O,rfl} entry_list_sort (akC O h2 {_,rfl,DK {_,rfl,?_}})<|args_list_sort _
 obtain⟨c,e⟩:=sortedHeap_at O;show q _ tk _ c (λb o Y=>?_) (Vb J) e;have U:=FP (k1 b o Y);rw[sortedHeap_old (KC U) (Kz U (by rw[size_push'];show YG _))];show FW _<|k1 b o Y
end
section
variable {X:Cx}{K:CQ}
def zaH (p:X.calm=true):jC X (.builtin "sorted") (λvs H Q=>∃a,vs=[.ref a]/\((∃xs,H a=AP (.ext (TF a xs))/\xs.length<2/\∀l,H l=Af->Q (.ref l) (Dn H l (.lst (xs.map λy=>V.ref y.2.1)))) \/
  ∃kvs ks,H a=AP (.dK kvs)/\Tz kvs ks/\ks.length<2/\∀l,H l=Af->Q (.ref l) (Dn H l (.lst (ks.map V.int))))):=by
 rintro apn s σ H vs us Q I r ⟨a,t,m⟩;subst t;obtain⟨u,rfl,j⟩:=vals1 r;cases j;have G:∀{es:Array Y8}{ep:Nat}{ys:List V},(a==U0)=false->Ls s.heap a es ep->ys.length<2->Cg ys (es.toList.map (·.key))->(∀l,H l=Af->Q (.ref l) _) ->
   CR (Cq X.prog X.w) X.A _ (λv s'=>∃x H',Bk X apn σ H' s'/\RelV x v/\Q x H') X.xe s:=λ{es ep ys} b x h2 h q=>by
  have w:=by have:=h.length;simp at this;lia
  show zaM (zaw (I.ok.hd p) b x<|K7 (m:=2) ⋯<|∅) (by rw[Ds,vp];lia) λh' tk l c J hl e=>?_;show{.ref l,_,I.laid J hl<|show fG X.prog X.w _ h' _ (.lst ys)from{K7 (m:=2) ⋯<|∅,es.toList.map (·.key),c,h,by simpa using e},rfl,q l<|I.hok.fresh hl}
 rcases m with⟨xs,O,h2,q⟩|⟨kvs,ks,O,hi,h2,q⟩
 ·obtain⟨⟨z,y,b,o,es,ep,g,f,d,U⟩,i⟩:=I.hok a _ O;clear i;show G y ⟨o,g,f,d⟩ (by rw[Ds];show h2) ?_ q;rw[U,Uy];clear U h2 q O z b;induction xs with
  | nil=>show .nil
  | cons x xs n=>show .cons rfl n
 obtain⟨z,y,vs,Y,dd⟩:=QL I.hok O;obtain⟨o,es,ep,g,f,d,_,U,A⟩:=dd;obtain⟨k,p2⟩:=CG (X:=X) U (Ja (ks:=ks) Y hi);show G y ⟨o,g,f,d⟩ (by rwa[Ds]) k q
abbrev HS:MC:=λws h Q=>match ws with
 | [.loc n]=>(match h.c n with
  | some (.dtt kvs)=>kvs.length<2/\Q (.lst (kvs.map λp=>.tup (p.1.map .int))) h
  | some (.dct kvs)=>∃ks:List Int,Tz kvs ks/\ks.length<2/\Q (.lst (ks.map .int)) h
  | _=>False)
 | _=>False
def aag (i:X.calm=true):jG X (.builtin "sorted") HS:={_,zaH i,by
 intro H μ h l ws o Q R r m k;unfold HS at m;split at m
 ·split at m
  ·rename_i kvs Y;obtain⟨p,xs,b,U,O,e1,e2,d,n⟩:=R.dttAt Y;obtain⟨v,rfl,J⟩:=iQ r;obtain⟨p',rfl,G⟩:=J;obtain rfl:=by rw[U]at G;show(Ky G).symm
   obtain⟨m1,m2⟩:=m;have j:∀zs:List _,(∀z∈zs,z∈xs)->aP X.K H μ ((zs.map (·.1)).map λk=>W.tup (k.map .int)) (zs.map λy=>V.ref y.2.1):=λzs a=>by
    induction zs with
    | nil=>show .nil
    | cons z zs f=>
     show aP.cons ?_<|f λy g=>a y<|T6 _ g
     show{z.2.1,z.1.map V.int,rfl,(oR e1 d) z (a z Ub),uL _}
   have el:(kvs.map λp=>W.tup (p.1.map W.int))=(xs.map (·.1)).map λk=>W.tup (k.map W.int):=by rw[<-e1,Uy];rfl
   show{p',rfl,.inl {xs,O,by have:=congrArg Uo e1;simp at this;lia,λl hl=>?_}};show k _ _ {μ,_,h,(Ex.laid hl).ext,R.laid hl,?_,m2};rw[el];show .lstNew R hl<|j xs λ_ z=>z
  rename_i kvs Y;obtain⟨p,kvv,U,O,c⟩:=R.dctAt Y;obtain⟨v,rfl,J⟩:=iQ r;obtain⟨p',rfl,G⟩:=J;obtain rfl:=by rw[U]at G;show(Ky G).symm
  obtain⟨ks,m1,m2,e⟩:=m;show{p',rfl,.inr {kvv,ks,O,Il c m1,m2,λl hl=>?_}};show k _ _ {μ,_,h,(Ex.laid hl).ext,R.laid hl,.lstNew R hl<|rD ks,e};show m.elim
 cases m}
end
end L2
namespace My
open PySem L2 PyProof.Rows
abbrev sY:W:=(.tup [(.tup [(.int 1),(.int 0),(.int 0)]),(.tup [(.int 0),(.int 1),(.int 0)]),(.tup [(.int 0),(.int 0),(.int 1)]),(.tup [(.int 1),(.int 1),(.int 1)])])
abbrev top (i:Nat):Stmt:=PySem.Challenge.pw_easelroom_k73_raws_of_placed_things.main.body.getD i (.Pass ⟨0,0,0,0⟩)
abbrev ais (i j:Nat):Stmt:=match top i with
 | .ClassDef _ _ _ b _ _ _ _ _ _ _=>b.getD j (.Pass ⟨0,0,0,0⟩)
 | s=>s
@[reducible]noncomputable def X5:Stmt:=top 107
@[reducible]noncomputable def iu:Stmt:=ais 4 0
def ams:iH ["self", "at"] ["self", "at"] (aY iu):={rfl,rfl,rfl,by decide +kernel,rfl,by decide +kernel,by decide +kernel}
abbrev anm (E:Ci):MS:=
  (bK (ao 0))
abbrev ju:Aw:=Ei 2 3 false λE=>
  (aR (bB (Ft WR (aj (ao 0) aG)) (Aq 0))
  (aR (bB (Ft WR (aj (ao 1) aG)) (Aq 1))
  (aR (Jq (bw (Av Nh (ao 1) (mC (.int 0)))) (aR (bB (Av Er (ao 0) (ao 1)) (Aq 2))
  (aR (bB (ao 1) (Aq 0))
  (bB (ao 2) (Aq 1)))))
  (anm E))))
abbrev jy:Aw:=ju
abbrev uz (G:Aw)(E:Ci):MS:=
  (bK (ao 1))
abbrev zV (G:Aw):Aw:=Ei 1 3 false λE=>
  (aR (bB (mC (.int 0)) (Aq 1))
  (aR (mV (Gj (ao 0)) (Aq 2) (bB (aF G E (aj (ao 2) (aj (ao 1) aG))) (Aq 1)))
  (uz G E)))
abbrev zY:Aw:=zV jy
abbrev lM (E:Ci):MS:=
  (bK (mC (.bl false)))
abbrev qT:Aw:=Ei 1 2 false λE=>
  (aR (mV (ab6 (aj (ao 0) aG)) (Aq 1) (fD (bw (Av Nh (ao 1) (mC (.int 0)))) (bK (Av kLt (ao 1) (mC (.int 0)))) bN))
  (lM E))
abbrev qX:Aw:=qT
abbrev Cp (J G:Aw)(E:Ci):MS:=
  (bK (Ft fK (aj (J2 K9 [1] (Gj (ao 0)) iM (Av Km (ao 0) (ao 1))) aG)))
abbrev ajz (J G:Aw)(E:Ci):MS:=
  (aR (fD (Ko (aF G EF (aj (ao 0) aG))) (bB (Y6 Xu (ao 1)) (Aq 1)) bN)
  (Cp J G E))
abbrev Qg (G J:Aw):Aw:=Ei 1 2 false λE=>
  (aR (bB (aF G EF (aj (ao 0) aG)) (Aq 1))
  (aR (fD (bw (Av KN (ao 1) (mC (.int 0)))) (gC "Nothing" E) bN)
  (ajz G J E)))
abbrev mY:Aw:=Qg zY qX
abbrev Qu:Aw:=Ei 2 2 false λE=>
  (bK (Av cF (Av cF (Av dO (Av Bq (ao 0) (mC (.int 0))) (Av Bq (ao 1) (mC (.int 0)))) (Av dO (Av Bq (ao 0) (mC (.int 1))) (Av Bq (ao 1) (mC (.int 1))))) (Av dO (Av Bq (ao 0) (mC (.int 2))) (Av Bq (ao 1) (mC (.int 2))))))
abbrev Gg:Aw:=Qu
abbrev Ed:Aw:=Ei 2 2 false λE=>
  (bK (nQ (aj (Av Di (Av dO (Av Bq (ao 0) (mC (.int 1))) (Av Bq (ao 1) (mC (.int 2)))) (Av dO (Av Bq (ao 0) (mC (.int 2))) (Av Bq (ao 1) (mC (.int 1))))) (aj (Av Di (Av dO (Av Bq (ao 0) (mC (.int 2))) (Av Bq (ao 1) (mC (.int 0)))) (Av dO (Av Bq (ao 0) (mC (.int 0))) (Av Bq (ao 1) (mC (.int 2))))) (aj (Av Di (Av dO (Av Bq (ao 0) (mC (.int 0))) (Av Bq (ao 1) (mC (.int 1)))) (Av dO (Av Bq (ao 0) (mC (.int 1))) (Av Bq (ao 1) (mC (.int 0))))) aG)))))
abbrev pP:Aw:=Ed
abbrev Wr (G J:Aw):Aw:=Ei 3 3 false λE=>
  (bK (aF G E (aj (aF J E (aj (ao 0) (aj (ao 1) aG))) (aj (ao 2) aG))))
abbrev Wx:Aw:=Wr Gg pP
abbrev BJ (G:Aw):Aw:=Ei 2 2 false λE=>
  (bK (Av KN (aF G E (aj (ao 0) (aj (ao 1) aG))) (mC (.int 0))))
abbrev Bh:Aw:=BJ Gg
abbrev zj (G J:Aw)(E:Ci):MS:=
  (aR (bB (aF J E (aj (Av Bq (ao 0) (mC (.int 0))) (aj (Av Bq (ao 1) (mC (.int 0))) aG))) (Aq 2))
  (bK (Ft agf (aj (J2 K9 [2] (Gj (ao 1)) iM (Av KN (aF G E (aj (ao 1) (aj (ao 0) aG))) (mC (.int 0)))) aG))))
abbrev uy (G J:Aw):Aw:=Ei 1 3 false λE=>
  (aR (bB (J2 K9 [0] (Gj (ao 0)) (bw (Av Nh (ao 0) (Av Bq (ao 1) (mC (.int 0))))) (ao 0)) (Aq 1))
  (aR (fD (aaS (Ko (ao 1))) (bK (mC (.bl true))) bN)
  (zj G J E)))
abbrev mZ:Aw:=uy Gg pP
abbrev z8 (G:Aw):Aw:=Ei 1 1 false λE=>
  (bK (aF G E (aj (ao 0) aG)))
abbrev tM:Aw:=z8 mZ
abbrev alo (J G:Aw)(E:Ci):MS:=
  (bK (aF J E (aj (aF G EF (aj (ao 0) (aj (ao 1) aG))) aG)))
abbrev jk (J G:Aw):Aw:=Ei 2 2 false λE=>
  (aR (fD (bw (Av KN (ao 0) (ao 1))) (gC "Alike" E) bN)
  (alo J G E))
abbrev jj:Aw:=jk mY pP
abbrev XS (G:Aw):Aw:=Ei 2 2 false λE=>
  (bK (aF G E (aj (ao 0) (aj (ao 1) aG))))
abbrev Qk:Aw:=XS jj
abbrev OJ (G:Aw):Aw:=Ei 2 2 false λE=>
  (bK (aF G E (aj (ao 0) (aj (ao 1) aG))))
abbrev Ak:Aw:=OJ jj
abbrev vG (E:Ci):MS:=
  (bK (ao 2))
abbrev GF:Aw:=Ei 2 7 true λE=>
  (aR (bB (yG (aj (nQ aG) aG)) (Aq 2))
  (aR (mV (pU (aj (ao 1) aG)) (Aq 3) (aR (bB (nF aG) (Aq 4))
  (aR (mV (Gj (ao 2)) (Aq 5) (aR (bB (mIf (bw (Av S7 (ao 3) (mC (.int 0)))) (Av cF (Av Bq (ao 5) (Av Di (ao 3) (mC (.int 1)))) (mC (.int 1))) (mC (.int 0))) (Aq 6))
  (jD (Bw jW (ao 4) (aj (J2 K9 [5] (Fo (aj (ao 6) (aj (ao 0) aG))) iM (Av cF (ao 1) (nQ (aj (ao 0) aG)))) aG)))))
  (bB (ao 4) (Aq 2)))))
  (vG E)))
abbrev GC:Aw:=GF
abbrev JK:Aw:=Ei 2 2 false λE=>
  (bK (J2 K9 [0] (Gj (ao 1)) iM (Av Bq (ao 1) (ao 0))))
abbrev Hz:Aw:=JK
abbrev tO:Aw:=Ei 1 1 false λE=>
  (bK (Av kLt (Ft pG (aj (ao 0) aG)) (Ft Fz (aj (ao 0) aG))))
abbrev uP:Aw:=tO
abbrev oN (J O G:Aw):Aw:=Ei 2 2 false λE=>
  (bK (Ft X3 (aj (J2 K9 [0] (Gj (aF O E (aj (Ft Fz (aj (ao 0) aG)) (aj (ao 1) aG)))) iM (aF J E (aj (aF G E (aj (ao 1) (aj (ao 0) aG))) aG))) aG)))
abbrev oM:Aw:=oN tM GC Hz
abbrev dY (E:Ci):MS:=
  (bK (ao 1))
abbrev gk:Aw:=Ei 1 2 false λE=>
  (aR (bB (Ft fK (aj (J2 K9 [0] (Gj (Ft HS (aj (ao 0) aG))) (bw (Av Nh (Av afG (ao 1) (ao 0)) (mC (.int 0)))) (nQ (aj (ao 0) (aj (Av afG (ao 1) (ao 0)) aG)))) aG)) (Aq 1))
  (aR (fD (bw (Av S7 (Ft Fz (aj (ao 1) aG)) (mC (.int 600)))) (gC "TooMuch" E) bN)
  (dY E)))
abbrev dB:Aw:=gk
abbrev lZ (G:Aw)(E:Ci):MS:=
  (bK (aF G E (aj (ao 3) aG)))
abbrev qD (G:Aw):Aw:=Ei 3 6 true λE=>
  (aR (bB (Ft Bp (aj (ao 0) aG)) (Aq 3))
  (aR (mV (Gj (ao 1)) (vf 2 (lG (Aq 4) (lG (Aq 5) VL))) (bB (Av cF (af3 Qx (ao 3) (aj (ao 4) (aj (mC (.int 0)) aG))) (Av dO (ao 2) (ao 5))) (LK (ao 3) (ao 4) Q0)))
  (lZ G E)))
abbrev jM:Aw:=qD dB
abbrev Xx (G:Aw):Aw:=Ei 2 2 false λE=>
  (bK (aF G E (aj (ao 0) (aj (ao 1) (aj (mC (.int 1)) aG)))))
abbrev Cu:Aw:=Xx jM
abbrev R9 (G:Aw):Aw:=Ei 2 2 false λE=>
  (bK (aF G E (aj (ao 0) (aj (ao 1) (aj (Y6 Xu (mC (.int 1))) aG)))))
abbrev xR:Aw:=R9 jM
abbrev zaA (E:Ci):MS:=
  (bK (ao 1))
abbrev JR:Aw:=Ei 1 3 false λE=>
  (aR (bB (mC (.int 0)) (Aq 1))
  (aR (mV (Gj (ao 0)) (Aq 2) (bB (Av cF (Av dO (ao 1) (mC (.int 65536))) (ao 2)) (Aq 1)))
  (zaA E)))
abbrev Gz:Aw:=JR
abbrev alv (E:Ci):MS:=
  (bK (EY (ao 2)))
abbrev wJ:Aw:=Ei 2 4 true λE=>
  (aR (bB (nF aG) (Aq 2))
  (aR (mV (pU (aj (ao 1) aG)) (Aq 3) (aR (jD (Bw cW (ao 2) (aj (Av Er (ao 0) (mC (.int 65536))) aG)))
  (bB (Av Km (ao 0) (mC (.int 65536))) (Aq 0))))
  (alv E)))
abbrev v8:Aw:=wJ
abbrev lV (G:Aw):Aw:=Ei 1 1 false λE=>
  (bK (J2 (Y5 2) [] (Gj (ao 0)) iM (nQ (aj (aF G E (aj (ao 0) aG)) (aj (ao 1) aG)))))
abbrev mj:Aw:=lV Gz
abbrev lJ:Aw:=Ei 1 3 false λE=>
  (mV (Gj (ao 0)) (vf 2 (lG (Aq 1) (lG (Aq 2) VL))) (fD (Ko (Ft X3 (aj (J2 K9 [] (Gj (ao 1)) iM (Av S7 (ao 0) (mC (.int 60)))) aG))) (gC "TooMuch" E) bN))
abbrev lN:Aw:=lJ
abbrev Al (J O U G:Aw)(E:Ci):MS:=
  (aR (bB (mIf (Ko (ao 0)) (Ft Fz (aj (Av Bq (Av Bq (ao 0) (mC (.int 0))) (mC (.int 0))) aG)) (mC (.int 0))) (Aq 9))
  (aR (bB (aF J E (aj (ao 2) aG)) (Aq 10))
  (aR (bB (Ft fK (aj (J2 (Y5 2) [9] (Gj (ao 10)) iM (nQ (aj (aF O E (aj (ao 0) (aj (ao 2) aG))) (aj (ao 1) aG)))) aG)) (Aq 11))
  (aR (jD (aF G E (aj (ao 11) aG)))
  (bK (ao 11))))))
abbrev akg (O U G J:Aw)(E:Ci):MS:=
  (aR (bB Vf (Aq 2))
  (aR (bB (aF G E (aj (ao 1) aG)) (Aq 3))
  (aR (mV (Gj (aF G E (aj (ao 0) aG))) (vf 2 (lG (Aq 4) (lG (Aq 5) VL))) (mV (Gj (ao 3)) (vf 2 (lG (Aq 6) (lG (Aq 7) VL))) (aR (bB (Av cF (ao 4) (ao 6)) (Aq 8))
  (bB (Av cF (agx Ur (ao 2) (aj (ao 8) (aj (mC (.int 0)) aG))) (Av dO (ao 5) (ao 7))) (LK (ao 2) (ao 8) uR)))))
  (Al O U G J E))))
abbrev PX (O U J G:Aw):Aw:=Ei 2 12 true λE=>
  (aR (fD (bw (Av S7 (Av dO (Ft Fz (aj (ao 0) aG)) (Ft Fz (aj (ao 1) aG))) (mC (.int 20000)))) (gC "TooMuch" E) bN)
  (akg O U J G E))
abbrev mX:Aw:=PX dB v8 mj lN
abbrev lX (J G:Aw):Aw:=Ei 4 4 false λE=>
  (bK (aF J E (aj (aF G E (aj (Av Bq (ao 0) (ao 2)) (aj (Av Bq (ao 1) (ao 3)) aG))) (aj (aF G E (aj (Av Bq (ao 0) (ao 3)) (aj (Av Bq (ao 1) (ao 2)) aG))) aG))))
abbrev lY:Aw:=lX xR mX
abbrev sO (G:Aw):Aw:=Ei 2 2 false λE=>
  (bK (nQ (aj (aF G E (aj (ao 0) (aj (ao 1) (aj (mC (.int 1)) (aj (mC (.int 2)) aG))))) (aj (aF G E (aj (ao 0) (aj (ao 1) (aj (mC (.int 2)) (aj (mC (.int 0)) aG))))) (aj (aF G E (aj (ao 0) (aj (ao 1) (aj (mC (.int 0)) (aj (mC (.int 1)) aG))))) aG)))))
abbrev dX:Aw:=sO lY
abbrev ajs (G J:Aw)(E:Ci):MS:=
  (bK (ao 2))
abbrev zT (G J:Aw):Aw:=Ei 2 5 false λE=>
  (aR (bB (nQ aG) (Aq 2))
  (aR (mV (abx (aj (ao 0) (aj (ao 1) aG))) (vf 2 (lG (Aq 3) (lG (Aq 4) VL))) (bB (aF G E (aj (ao 2) (aj (aF J E (aj (ao 3) (aj (ao 4) aG))) aG))) (Aq 2)))
  (ajs G J E)))
abbrev iU:Aw:=zT Cu mX
abbrev vM (J G:Aw):Aw:=Ei 3 3 false λE=>
  (bK (aF G E (aj (aF J E (aj (ao 0) (aj (ao 1) aG))) (aj (ao 2) aG))))
abbrev vQ:Aw:=vM dX iU
abbrev qC (G:Aw):Aw:=Ei 2 2 false λE=>
  (bK (Ft fK (aj (J2 K9 [1] (Gj (ao 0)) iM (aF G E (aj (ao 0) (aj (ao 1) aG)))) aG)))
abbrev fj:Aw:=qC mX
abbrev qJ (G:Aw):Aw:=Ei 2 2 false λE=>
  (bK (Ft fK (aj (J2 (Y5 2) [] (abx (aj (ao 0) (aj (ao 1) aG))) iM (aF G E (aj (ao 0) (aj (ao 1) aG)))) aG)))
abbrev gQ:Aw:=qJ xR
abbrev mD (J G:Aw):Aw:=Ei 2 2 false λE=>
  (bK (nQ (aj (aF G E (aj (Av Bq (ao 0) (mC (.int 0))) (aj (Av Bq (ao 1) (mC (.int 0))) aG))) (aj (aF J E (aj (aF G E (aj (Av Bq (ao 0) (mC (.int 0))) (aj (Av Bq (ao 1) (mC (.int 1))) aG))) (aj (aF G E (aj (Av Bq (ao 0) (mC (.int 1))) (aj (Av Bq (ao 1) (mC (.int 0))) aG))) aG))) (aj (aF G E (aj (Av Bq (ao 0) (mC (.int 1))) (aj (Av Bq (ao 1) (mC (.int 1))) aG))) (aj (aF J E (aj (aF G E (aj (Av Bq (ao 0) (mC (.int 0))) (aj (Av Bq (ao 1) (mC (.int 2))) aG))) (aj (aF G E (aj (Av Bq (ao 0) (mC (.int 2))) (aj (Av Bq (ao 1) (mC (.int 0))) aG))) aG))) (aj (aF J E (aj (aF G E (aj (Av Bq (ao 0) (mC (.int 1))) (aj (Av Bq (ao 1) (mC (.int 2))) aG))) (aj (aF G E (aj (Av Bq (ao 0) (mC (.int 2))) (aj (Av Bq (ao 1) (mC (.int 1))) aG))) aG))) (aj (aF G E (aj (Av Bq (ao 0) (mC (.int 2))) (aj (Av Bq (ao 1) (mC (.int 2))) aG))) aG))))))))
abbrev lW:Aw:=mD Cu mX
abbrev zP (G:Aw):Aw:=Ei 1 1 false λE=>
  (bK (aF G E (aj (ao 0) (aj (ao 0) aG))))
abbrev nO:Aw:=zP Cu
abbrev uH (G:Aw):Aw:=Ei 1 1 false λE=>
  (bK (nQ (aj (nQ (aj (aF G E (aj (Av Bq (ao 0) (mC (.int 0))) aG)) (aj (Av Bq (ao 0) (mC (.int 1))) (aj (Av Bq (ao 0) (mC (.int 3))) aG)))) (aj (nQ (aj (Av Bq (ao 0) (mC (.int 1))) (aj (aF G E (aj (Av Bq (ao 0) (mC (.int 2))) aG)) (aj (Av Bq (ao 0) (mC (.int 4))) aG)))) (aj (nQ (aj (Av Bq (ao 0) (mC (.int 3))) (aj (Av Bq (ao 0) (mC (.int 4))) (aj (aF G E (aj (Av Bq (ao 0) (mC (.int 5))) aG)) aG)))) aG)))))
abbrev d9:Aw:=uH nO
abbrev oV (G:Aw):Aw:=Ei 1 1 false λE=>
  (bK (nQ (aj (aF G E (aj (Av Bq (ao 0) (mC (.int 1))) (aj (Av Bq (ao 0) (mC (.int 2))) aG))) (aj (aF G E (aj (Av Bq (ao 0) (mC (.int 2))) (aj (Av Bq (ao 0) (mC (.int 0))) aG))) (aj (aF G E (aj (Av Bq (ao 0) (mC (.int 0))) (aj (Av Bq (ao 0) (mC (.int 1))) aG))) aG)))))
abbrev nR:Aw:=oV dX
abbrev qL (G:Aw):Aw:=Ei 2 2 false λE=>
  (bK (Ft fK (aj (J2 K9 [1] (Gj (ao 0)) iM (aF G E (aj (ao 0) (aj (ao 1) aG)))) aG)))
abbrev fB:Aw:=qL iU
abbrev fL (G J:Aw):Aw:=Ei 3 3 false λE=>
  (bK (aF G E (aj (ao 1) (aj (aF J E (aj (ao 0) (aj (ao 2) aG))) aG))))
abbrev cB:Aw:=fL iU fB
abbrev uo (G:Aw):Aw:=Ei 1 1 false λE=>
  (bK (aF G E (aj (Av Bq (ao 0) (mC (.int 0))) (aj (Av Bq (ao 0) (mC (.int 1))) (aj (Av Bq (ao 0) (mC (.int 2))) aG)))))
abbrev tG:Aw:=uo vQ
abbrev uf (Y J G U a O:Aw):Aw:=Ei 1 7 false λE=>
  (aR (bB (aF J E (aj (Av Bq (ao 0) (mC (.int 0))) (aj (Av Bq (ao 0) (mC (.int 1))) aG))) (Aq 1))
  (aR (bB (aF J E (aj (Av Bq (ao 0) (mC (.int 2))) (aj (Av Bq (ao 0) (mC (.int 3))) aG))) (Aq 2))
  (aR (bB (aF J E (aj (Av Bq (ao 0) (mC (.int 0))) (aj (Av Bq (ao 0) (mC (.int 2))) aG))) (Aq 3))
  (aR (bB (aF J E (aj (Av Bq (ao 0) (mC (.int 1))) (aj (Av Bq (ao 0) (mC (.int 3))) aG))) (Aq 4))
  (aR (bB (aF Y E (aj (aF G E (aj (ao 1) (aj (Av Bq (ao 0) (mC (.int 4))) aG))) (aj (aF G E (aj (ao 2) (aj (Av Bq (ao 0) (mC (.int 4))) aG))) aG))) (Aq 5))
  (aR (bB (aF Y E (aj (aF G E (aj (ao 3) (aj (Av Bq (ao 0) (mC (.int 4))) aG))) (aj (aF G E (aj (ao 4) (aj (Av Bq (ao 0) (mC (.int 4))) aG))) aG))) (Aq 6))
  (bK (aF a E (aj (aF U E (aj (aF O E (aj (ao 3) (aj (ao 4) aG))) (aj (ao 5) aG))) (aj (aF U E (aj (aF O E (aj (ao 1) (aj (ao 2) aG))) (aj (ao 6) aG))) aG))))))))))
abbrev mL:Aw:=uf mX dX iU fj gQ lW
abbrev wj (O Y J U G:Aw):Aw:=Ei 2 3 false λE=>
  (aR (bB (aF Y E (aj (ao 0) aG)) (Aq 2))
  (bK (aF O E (aj (aF U E (aj (aF J E (aj (ao 2) aG)) (aj (ao 1) aG))) (aj (aF G E (aj (ao 2) aG)) aG)))))
abbrev qp:Aw:=wj fj d9 nR fB tG
abbrev sU (G O U Y J:Aw):Aw:=Ei 3 6 false λE=>
  (aR (bB (aF Y E (aj (ao 0) aG)) (Aq 3))
  (aR (bB (aF J E (aj (ao 3) (aj (ao 2) (aj (ao 2) aG)))) (Aq 4))
  (aR (bB (aF U E (aj (aF J E (aj (ao 3) (aj (ao 1) (aj (ao 2) aG)))) aG)) (Aq 5))
  (bK (aF O E (aj (aF G E (aj (ao 1) (aj (ao 4) aG))) (aj (aF G E (aj (ao 2) (aj (ao 5) aG))) aG)))))))
abbrev mR:Aw:=sU fj gQ nO d9 cB
abbrev RJ (G a Y J U O:Aw)(E:Ci):MS:=
  (bK (aF G E (aj (Av Bq (ao 4) (mC (.int 0))) (aj (Av Bq (ao 4) (mC (.int 1))) aG))))
abbrev Fl (a Y U J O G:Aw)(E:Ci):MS:=
  (aR (fD (bw (Av KN (ao 3) (mC (.str "other")))) (bK (aF G E (aj (Av Bq (ao 4) (mC (.int 0))) (aj (Av Bq (ao 4) (mC (.int 1))) (aj (Av Bq (ao 4) (mC (.int 2))) aG))))) bN)
  (RJ a Y U J O G E))
abbrev yD (a Y U J G O:Aw)(E:Ci):MS:=
  (aR (fD (bw (Av KN (ao 3) (mC (.str "pole")))) (bK (aF G E (aj (Av Bq (ao 4) (mC (.int 0))) (aj (Av Bq (ao 4) (mC (.int 1))) aG)))) bN)
  (Fl a Y U J G O E))
abbrev yt (a J G O Y U:Aw)(E:Ci):MS:=
  (aR (fD (bw (Av KN (ao 3) (mC (.str "about")))) (bK (aF G E (aj (aF J E (aj (Av Bq (ao 4) (mC (.int 0))) aG)) (aj (Av Bq (ao 4) (mC (.int 1))) aG)))) bN)
  (yD a J G O Y U E))
abbrev adP (a Y U G O J:Aw):Aw:=Ei 3 5 false λE=>
  (aR (bB (Av Bq (Av Bq (ao 0) (ao 2)) (mC (.int 0))) (Aq 3))
  (aR (bB (J2 K9 [1] (Gj (U6 Dk (Av Bq (ao 0) (ao 2)) (jV (mC (.int 1))) fV)) iM (Av Bq (ao 1) (ao 0))) (Aq 4))
  (aR (fD (bw (Av KN (ao 3) (mC (.str "curve")))) (bK (aF G E (aj (ao 4) aG))) bN)
  (yt a Y U G O J E))))
abbrev abR:Aw:=adP dX d9 fB mL qp mR
abbrev aeX (J G:Aw):Aw:=Ei 3 4 false λE=>
  (aR (bB (Av Bq (ao 1) (Av Bq (Av Bq (ao 0) (ao 2)) (mC (.int 2)))) (Aq 3))
  (bK (aF G E (aj (aF J E (aj (Av Bq (ao 1) (Av Bq (Av Bq (ao 0) (ao 2)) (mC (.int 1)))) aG)) (aj (ao 3) (aj (ao 3) aG))))))
abbrev ab3:Aw:=aeX d9 cB
abbrev zK:Aw:=Ei 1 1 false λE=>
  (bK (yG (aj (U6 Dk (ao 0) (jV (mC (.int 0))) (jV (mC (.int 3)))) (aj (U6 Dk (ao 0) (jV (mC (.int 3))) (jV (mC (.int 6)))) (aj (U6 Dk (ao 0) (jV (mC (.int 6))) (jV (mC (.int 9)))) aG)))))
abbrev oh:Aw:=zK
abbrev Cw (G J:Aw):Aw:=Ei 1 2 false λE=>
  (aR (bB (aF J E (aj (ao 0) aG)) (Aq 1))
  (bK (aF G E (aj (Av Bq (ao 1) (mC (.int 0))) (aj (Av Bq (ao 1) (mC (.int 1))) (aj (Av Bq (ao 1) (mC (.int 2))) aG))))))
abbrev Ao:Aw:=Cw Wx oh
abbrev iY (J G:Aw):Aw:=Ei 2 2 false λE=>
  (bK (J2 K9 [1] (Gj (aF G E (aj (ao 0) aG))) iM (aF J E (aj (ao 0) (aj (ao 1) aG)))))
abbrev cG:Aw:=iY Gg oh
abbrev Jk (G J:Aw):Aw:=Ei 1 2 false λE=>
  (aR (bB (aF J E (aj (ao 0) aG)) (Aq 1))
  (bK (Av cF (Av cF (aF G E (aj (Av Bq (ao 1) (mC (.int 1))) (aj (Av Bq (ao 1) (mC (.int 2))) aG))) (aF G E (aj (Av Bq (ao 1) (mC (.int 2))) (aj (Av Bq (ao 1) (mC (.int 0))) aG)))) (aF G E (aj (Av Bq (ao 1) (mC (.int 0))) (aj (Av Bq (ao 1) (mC (.int 1))) aG))))))
abbrev xJ:Aw:=Jk pP oh
abbrev Nr:Aw:=Ei 0 0 false λE=>
  (bK (Ft rY (aj (mC sY) aG)))
abbrev Mz:Aw:=Nr
abbrev Ga:Aw:=Ei 2 6 false λE=>
  (aR (bB (Av Bq (ao 1) (mC (.int 0))) (Aq 2))
  (aR (bB (Av Bq (ao 1) (mC (.int 1))) (Aq 3))
  (aR (bB (Av Bq (ao 1) (mC (.int 2))) (Aq 4))
  (aR (bB (Av cF (Av cF (Av dO (Av dO (Av Bq (ao 0) (mC (.int 0))) (ao 2)) (ao 2)) (Av dO (Av dO (Av Bq (ao 0) (mC (.int 2))) (ao 3)) (ao 3))) (Av dO (Av dO (Av Bq (ao 0) (mC (.int 5))) (ao 4)) (ao 4))) (Aq 5))
  (bK (Av cF (Av cF (Av cF (ao 5) (Av dO (Av dO (Av Bq (ao 0) (mC (.int 1))) (ao 2)) (ao 3))) (Av dO (Av dO (Av Bq (ao 0) (mC (.int 3))) (ao 2)) (ao 4))) (Av dO (Av dO (Av Bq (ao 0) (mC (.int 4))) (ao 3)) (ao 4))))))))
abbrev Sh:Aw:=Ga
abbrev o8 (G:Aw):Aw:=Ei 2 2 false λE=>
  (bK (Av KN (aF G E (aj (ao 0) (aj (ao 1) aG))) (mC (.int 0))))
abbrev nZ:Aw:=o8 Sh
abbrev pO:Aw:=Ei 2 2 false λE=>
  (bK (nQ (aj (Av dO (Av Bq (ao 0) (mC (.int 0))) (Av Bq (ao 1) (mC (.int 0)))) (aj (Av cF (Av dO (Av Bq (ao 0) (mC (.int 0))) (Av Bq (ao 1) (mC (.int 1)))) (Av dO (Av Bq (ao 0) (mC (.int 1))) (Av Bq (ao 1) (mC (.int 0))))) (aj (Av dO (Av Bq (ao 0) (mC (.int 1))) (Av Bq (ao 1) (mC (.int 1)))) (aj (Av cF (Av dO (Av Bq (ao 0) (mC (.int 0))) (Av Bq (ao 1) (mC (.int 2)))) (Av dO (Av Bq (ao 0) (mC (.int 2))) (Av Bq (ao 1) (mC (.int 0))))) (aj (Av cF (Av dO (Av Bq (ao 0) (mC (.int 1))) (Av Bq (ao 1) (mC (.int 2)))) (Av dO (Av Bq (ao 0) (mC (.int 2))) (Av Bq (ao 1) (mC (.int 1))))) (aj (Av dO (Av Bq (ao 0) (mC (.int 2))) (Av Bq (ao 1) (mC (.int 2)))) aG))))))))
abbrev wH:Aw:=pO
abbrev vP:Aw:=Ei 1 1 false λE=>
  (bK (nQ (aj (Av dO (mC (.int 2)) (Av Bq (ao 0) (mC (.int 0)))) (aj (Av Bq (ao 0) (mC (.int 1))) (aj (Av Bq (ao 0) (mC (.int 3))) (aj (Av Bq (ao 0) (mC (.int 1))) (aj (Av dO (mC (.int 2)) (Av Bq (ao 0) (mC (.int 2)))) (aj (Av Bq (ao 0) (mC (.int 4))) (aj (Av Bq (ao 0) (mC (.int 3))) (aj (Av Bq (ao 0) (mC (.int 4))) (aj (Av dO (mC (.int 2)) (Av Bq (ao 0) (mC (.int 5)))) aG)))))))))))
abbrev iW:Aw:=vP
abbrev qM (J G:Aw):Aw:=Ei 3 3 false λE=>
  (bK (aF J E (aj (ao 1) (aj (aF G E (aj (ao 0) (aj (ao 2) aG))) aG))))
abbrev jZ:Aw:=qM Gg cG
abbrev vI (G J:Aw):Aw:=Ei 1 1 false λE=>
  (bK (Av Nh (aF G E (aj (aF J E (aj (ao 0) aG)) aG)) (mC (.int 0))))
abbrev pY:Aw:=vI Ao iW
abbrev Gi (G J O:Aw):Aw:=Ei 1 7 false λE=>
  (aR (bB (aF J E (aj (Av Bq (ao 0) (mC (.int 0))) (aj (Av Bq (ao 0) (mC (.int 1))) aG))) (Aq 1))
  (aR (bB (aF J E (aj (Av Bq (ao 0) (mC (.int 2))) (aj (Av Bq (ao 0) (mC (.int 3))) aG))) (Aq 2))
  (aR (bB (aF J E (aj (Av Bq (ao 0) (mC (.int 0))) (aj (Av Bq (ao 0) (mC (.int 2))) aG))) (Aq 3))
  (aR (bB (aF J E (aj (Av Bq (ao 0) (mC (.int 1))) (aj (Av Bq (ao 0) (mC (.int 3))) aG))) (Aq 4))
  (aR (bB (Av dO (aF G E (aj (ao 1) (aj (Av Bq (ao 0) (mC (.int 4))) aG))) (aF G E (aj (ao 2) (aj (Av Bq (ao 0) (mC (.int 4))) aG)))) (Aq 5))
  (aR (bB (Av dO (aF G E (aj (ao 3) (aj (Av Bq (ao 0) (mC (.int 4))) aG))) (aF G E (aj (ao 4) (aj (Av Bq (ao 0) (mC (.int 4))) aG)))) (Aq 6))
  (bK (J2 (Y5 2) [5,6] (abx (aj (aF O E (aj (ao 3) (aj (ao 4) aG))) (aj (aF O E (aj (ao 1) (aj (ao 2) aG))) aG))) iM (Av Di (Av dO (ao 2) (ao 0)) (Av dO (ao 3) (ao 1)))))))))))
abbrev PL:Aw:=Gi Gg pP wH
abbrev zan (J O U G:Aw)(E:Ci):MS:=
  (bK (aF J E (aj (aF G EF (aj (ao 0) aG)) aG)))
abbrev tY (U O G J:Aw)(E:Ci):MS:=
  (aR (fD (Ko (aF G EF (aj (ao 0) (aj (mC (.int 4)) aG)))) (gC "FourOnLine" E) bN)
  (zan U O G J E))
abbrev Ck (U G O J:Aw):Aw:=Ei 1 1 false λE=>
  (aR (fD (Ko (aF G EF (aj (ao 0) aG))) (gC "Alike" E) bN)
  (tY U G O J E))
abbrev uD:Aw:=Ck mY uP oM PL
abbrev jP (G:Aw):Aw:=Ei 1 1 false λE=>
  (bK (mIf (Ko (Ft X3 (aj (J2 K9 [] (Gj (ao 0)) iM (Av Nh (ao 0) (mC (.int 0)))) aG))) (aF G E (aj (ao 0) aG)) (mC .non)))
abbrev gB:Aw:=jP mY
abbrev ane (G O J:Aw)(E:Ci):MS:=
  (bK (ao 2))
abbrev qG (G O J:Aw):Aw:=Ei 2 3 false λE=>
  (aR (bB (aF J EF (aj (aF G EF (aj (aF O EF (aj (ao 0) aG)) (aj (ao 1) aG))) aG)) (Aq 2))
  (aR (fD (bw (Av Vx (ao 2) (mC .non))) (gC "Knot" E) bN)
  (ane G O J E)))
abbrev jX:Aw:=qG cG iW gB
abbrev alf (U G J O Y:Aw)(E:Ci):MS:=
  (bK (aF U E (aj (aF G EF (aj (aF J EF (aj (aF O EF (aj (ao 0) aG)) aG)) (aj (ao 1) aG))) aG)))
abbrev qx (Y J O U G:Aw):Aw:=Ei 2 2 false λE=>
  (aR (fD (aaS (Ko (aF G EF (aj (ao 0) aG)))) (gC "NotRound" E) bN)
  (alf Y J O U G E))
abbrev kW:Aw:=qx mY cG xJ iW pY
abbrev iB (J G:Aw):Aw:=Ei 2 3 false λE=>
  (aR (bB (J2 K9 [0] (Gj (U6 Dk (aF G E aG) fV (jV (mC (.int 3))))) (bw (Av Nh (ao 0) (ao 1))) (aF J E (aj (ao 1) (aj (ao 0) aG)))) (Aq 2))
  (bK (Av Bq (J2 K9 [1] (Gj (ao 2)) (bw (Av Nh (ao 0) (ao 1))) (ao 0)) (mC (.int 0)))))
abbrev lR:Aw:=iB Ak Mz
abbrev nJ (Y U a G J O:Aw)(E:Ci):MS:=
  (bK (ao 7))
abbrev ou (a Y U G J O:Aw)(E:Ci):MS:=
  (aR (bB (aF U EF (aj (ao 0) aG)) (Aq 3))
  (aR (bB (aF O EF (aj (ao 2) (aj (ao 1) aG))) (Aq 4))
  (aR (bB (aF G EF (aj (ao 3) (aj (ao 4) (aj (ao 4) aG)))) (Aq 5))
  (aR (bB (Av dO (mC (.int 2)) (aF G EF (aj (ao 3) (aj (ao 1) (aj (ao 4) aG))))) (Aq 6))
  (aR (bB (aF J EF (aj (J2 (Y5 2) [5,6] (abx (aj (ao 1) (aj (ao 4) aG))) iM (Av Di (Av dO (ao 2) (ao 0)) (Av dO (ao 3) (ao 1)))) aG)) (Aq 7))
  (aR (fD (bw (Av Vx (ao 7) (mC .non))) (gC "InCurve" E) bN)
  (nJ a Y U G J O E)))))))
abbrev mU (J G a O U Y:Aw):Aw:=Ei 3 8 false λE=>
  (aR (fD (mOr (aaS (Ko (aF G EF (aj (ao 0) (aj (ao 1) aG))))) (aaS (Ko (aF J EF (aj (ao 1) (aj (ao 2) aG)))))) (gC "NotOn" E) bN)
  (ou J G a O U Y E))
abbrev mJ:Aw:=mU Bh nZ iW jZ gB lR
abbrev jH (J a Y U O G:Aw)(E:Ci):MS:=
  (bK (aF G E (aj (Av Bq (ao 2) (mC (.int 0))) (aj (Av Bq (ao 2) (mC (.int 1))) (aj (aF J E (aj (Av Bq (ao 2) (mC (.int 1))) (aj (Av Bq (ao 2) (mC (.int 2))) aG))) aG)))))
abbrev gj (Y a U J G O:Aw)(E:Ci):MS:=
  (aR (fD (bw (Av KN (Av Bq (ao 0) (mC (.int 0))) (mC (.str "pole")))) (bK (aF G E (aj (Av Bq (ao 2) (mC (.int 0))) (aj (Av Bq (ao 2) (mC (.int 1))) aG)))) bN)
  (jH Y a U J G O E))
abbrev dJ (Y a U G J O:Aw)(E:Ci):MS:=
  (aR (fD (bw (Av KN (Av Bq (ao 0) (mC (.int 0))) (mC (.str "about")))) (bK (aF G E (aj (Av Bq (ao 2) (mC (.int 0))) (aj (Av Bq (ao 2) (mC (.int 1))) aG)))) bN)
  (gj Y a U G J O E))
abbrev cT (Y a G O J U:Aw)(E:Ci):MS:=
  (aR (fD (bw (Av KN (Av Bq (ao 0) (mC (.int 0))) (mC (.str "curve")))) (bK (aF G E (aj (ao 2) aG))) bN)
  (dJ Y a G O J U E))
abbrev bT (a G Y O J U:Aw)(E:Ci):MS:=
  (aR (fD (bw (Av KN (Av Bq (ao 0) (mC (.int 0))) (mC (.str "meet")))) (bK (aF G E (aj (Av Bq (ao 2) (mC (.int 0))) (aj (Av Bq (ao 2) (mC (.int 1))) aG)))) bN)
  (cT a G Y O J U E))
abbrev bD (G a Y O J U:Aw):Aw:=Ei 2 3 false λE=>
  (aR (bB (J2 K9 [1] (Gj (U6 Dk (ao 0) (jV (mC (.int 1))) fV)) iM (Av Bq (ao 1) (ao 0))) (Aq 2))
  (aR (fD (bw (Av KN (Av Bq (ao 0) (mC (.int 0))) (mC (.str "join")))) (bK (aF G E (aj (Av Bq (ao 2) (mC (.int 0))) (aj (Av Bq (ao 2) (mC (.int 1))) aG)))) bN)
  (bT G a Y O J U E)))
abbrev oJ:Aw:=bD Qk Ak uD jX kW mJ
abbrev wF (G:Aw)(E:Ci):MS:=
  (bK (ao 2))
abbrev yW (G:Aw):Aw:=Ei 2 7 true λE=>
  (aR (bB (nF aG) (Aq 2))
  (aR (bB (mC (.int 0)) (Aq 3))
  (aR (mV (aaJ (aj (ao 0) aG)) (vf 2 (lG (Aq 4) (lG (Aq 5) VL))) (fD (bw (Av KN (Av Bq (ao 5) (mC (.int 0))) (mC (.str "free")))) (aR (jD (Bw cW (ao 2) (aj (Av Bq (ao 1) (ao 3)) aG)))
  (bB (Av cF (ao 3) (mC (.int 1))) (Aq 3))) (aR (X8 "EaselError" (λE=>(bB (aF G E (aj (ao 5) (aj (ao 2) aG))) (Aq 6))) (λE=>(Ek "Stuck" "at" (ao 4) E)) E)
  (jD (Bw cW (ao 2) (aj (ao 6) aG))))))
  (wF G E))))
abbrev xu:Aw:=yW oJ
abbrev zaC (E:Ci):MS:=
  (bK (mC (.int 0)))
abbrev Jv:Aw:=Ei 2 2 false λE=>
  (aR (fD (bw (Av kLt (ao 1) (Ft Fz (aj (ao 0) aG)))) (bK (Av Bq (ao 0) (ao 1))) bN)
  (zaC E))
abbrev xZ:Aw:=Jv
abbrev Rh:Aw:=Ei 1 1 false λE=>
  (bK (nF (aj (Av PK (Ft WR (aj (ao 0) aG)) (Ft YT (aj (Av kGe (Ft WR (aj (ao 0) aG)) (Av ag7 (mC (.int 10)) (mC (.int 18)))) aG))) (aj (Av Er (Ft WR (aj (ao 0) aG)) (mC (.int 2147483647))) aG))))
abbrev Fg:Aw:=Rh
abbrev ajm (E:Ci):MS:=
  (aR (bB (Av Er (Av cF (Av dO (Av Bq (ao 0) (mC (.int 1))) (mC (.int 48271))) (mC (.int 11))) (mC (.int 2147483647))) (LK (ao 0) (mC (.int 1)) Kc))
  (bK (Av Er (Av Km (Av Er (Av dO (Av Bq (ao 0) (mC (.int 1))) (Av cF (Av Km (Av Bq (ao 0) (mC (.int 1))) (mC (.int 65536))) (mC (.int 7)))) (mC (.int 2147483629))) (mC (.int 32))) (ao 1))))
abbrev Hv:Aw:=Ei 2 3 false λE=>
  (aR (fD (bw (Av S7 (Av Bq (ao 0) (mC (.int 0))) (mC (.int 0)))) (aR (bB (Av Er (Av Bq (ao 0) (mC (.int 0))) (ao 1)) (Aq 2))
  (aR (bB (Av Km (Av Bq (ao 0) (mC (.int 0))) (ao 1)) (LK (ao 0) (mC (.int 0)) Kc))
  (bK (ao 2)))) bN)
  (ajm E))
abbrev pF:Aw:=Hv
abbrev Io:Aw:=Ei 1 2 false λE=>
  (aR (bB (aex [(.inr "free",(yG aG)),(.inr "join",(yG (aj (mC (.str "spot")) (aj (mC (.str "spot")) aG)))),(.inr "meet",(yG (aj (mC (.str "line")) (aj (mC (.str "line")) aG)))),(.inr "about",(yG (aj (mC (.str "curve")) (aj (mC (.str "spot")) aG))))]) (Aq 1))
  (aR (bB (yG (aj (mC (.str "spot")) (aj (mC (.str "spot")) (aj (mC (.str "spot")) (aj (mC (.str "spot")) (aj (mC (.str "spot")) aG)))))) (LK (ao 1) (mC (.str "curve")) uR))
  (aR (bB (yG (aj (mC (.str "curve")) (aj (mC (.str "line")) aG))) (LK (ao 1) (mC (.str "pole")) uR))
  (aR (bB (yG (aj (mC (.str "curve")) (aj (mC (.str "spot")) (aj (mC (.str "spot")) aG)))) (LK (ao 1) (mC (.str "other")) uR))
  (bK (Av Xj (ao 1) (ao 0)))))))
abbrev Jj:Aw:=Io
abbrev vN (E:Ci):MS:=
  (bK (Av Bq (yG (aj (mC (.str "spot")) (aj (mC (.str "curve")) aG))) (Ft YT (aj (Av KN (Av Bq (ao 0) (mC (.int 0))) (mC (.str "curve"))) aG))))
abbrev zH:Aw:=Ei 1 1 false λE=>
  (aR (fD (mOr (bw (Av KN (Av Bq (ao 0) (mC (.int 0))) (mC (.str "join")))) (bw (Av KN (Av Bq (ao 0) (mC (.int 0))) (mC (.str "about"))))) (bK (mC (.str "line"))) bN)
  (vN E))
abbrev zp:Aw:=zH
abbrev zB (J G:Aw):Aw:=Ei 3 4 false λE=>
  (aR (bB (J2 K9 [1,2] (pU (aj (Ft Fz (aj (ao 1) aG)) aG)) (bw (Av KN (aF G E (aj (Av Bq (ao 1) (ao 0)) aG)) (ao 2))) (ao 0)) (Aq 3))
  (bK (Av Bq (ao 3) (aF J E (aj (ao 0) (aj (Ft Fz (aj (ao 3) aG)) aG))))))
abbrev IW:Aw:=zB pF zp
abbrev BX (U J O G:Aw)(E:Ci):MS:=
  (bK (Ft fK (aj (Av cF (yG (aj (ao 5) aG)) (J2 K9 [0,1] (Gj (aF J E (aj (ao 5) aG))) iM (aF G E (aj (ao 1) (aj (ao 2) (aj (ao 0) aG)))))) aG)))
abbrev Gf (O G J U:Aw):Aw:=Ei 3 7 false λE=>
  (aR (bB (J2 K9 [] (Gj (ao 1)) iM (aF J E (aj (ao 0) aG))) (Aq 3))
  (aR (bB (yG (aj (mC (.str "join")) (aj (mC (.str "meet")) (aj (mC (.str "curve")) (aj (mC (.str "about")) (aj (mC (.str "pole")) (aj (mC (.str "other")) (aj (mC (.str "join")) (aj (mC (.str "meet")) (aj (mC (.str "join")) (aj (mC (.str "meet")) aG))))))))))) (Aq 4))
  (aR (bB (Av Bq (ao 4) (aF O E (aj (ao 0) (aj (mC (.int 10)) aG)))) (Aq 5))
  (aR (bB (J2 K9 [3] (Gj (aF G E (aj (ao 5) aG))) (bw (Av JZ (ao 0) (ao 1))) (ao 0)) (Aq 6))
  (aR (fD (mOr (bw (Av kLt (Ft Fz (aj (ao 1) aG)) (ao 2))) (bw (Av S7 (Ft Fz (aj (ao 6) aG)) (mC (.int 0))))) (bB (Av Bq (yG (aj (mC (.str "join")) (aj (mC (.str "free")) aG))) (Ft YT (aj (Av kLt (Ft Fz (aj (ao 1) aG)) (ao 2)) aG))) (Aq 5)) bN)
  (BX O G J U E))))))
abbrev Rt:Aw:=Gf pF Jj zp IW
abbrev nM (E:Ci):MS:=
  (bK (ao 1))
abbrev sJ:Aw:=Ei 1 4 false λE=>
  (aR (bB (mC (.int 0)) (Aq 1))
  (aR (mV (Gj (ao 0)) (Aq 2) (aR (bB (Ft WR (aj (ao 2) aG)) (Aq 3))
  (Jq (bw (Av S7 (ao 3) (mC (.int 0)))) (aht 1 3 (aj (ao 3) (aj (Av Er (ao 1) (ao 3)) aG))))))
  (nM E)))
abbrev rM:Aw:=sJ
abbrev ud (G:Aw)(E:Ci):MS:=
  (bK (Ft fK (aj (J2 K9 [1] (Gj (ao 0)) iM (Av Km (ao 0) (ao 1))) aG)))
abbrev Bf (G:Aw):Aw:=Ei 1 3 false λE=>
  (aR (bB (aF G E (aj (ao 0) aG)) (Aq 1))
  (aR (bB (Av Bq (J2 K9 [] (Gj (ao 0)) (bw (Av Nh (ao 0) (mC (.int 0)))) (ao 0)) (Y6 Xu (mC (.int 1)))) (Aq 2))
  (aR (fD (bw (Av kLt (ao 2) (mC (.int 0)))) (bB (Av Di (mC (.int 0)) (ao 1)) (Aq 1)) bN)
  (ud G E))))
abbrev nP:Aw:=Bf rM
abbrev pZ (J G:Aw)(E:Ci):MS:=
  (bK (aF G E (aj (ao 2) aG)))
abbrev pQ (G J:Aw)(E:Ci):MS:=
  (aR (fD (bw (Av KN (ao 2) (yG (aj (mC (.int 0)) (aj (mC (.int 0)) (aj (mC (.int 0)) aG)))))) (bB (mC (.int 1)) (LK (ao 2) (aF G E (aj (ao 0) (aj (mC (.int 3)) aG))) Kc)) bN)
  (pZ G J E))
abbrev xT (G J:Aw):Aw:=Ei 2 3 false λE=>
  (aR (bB (nF (aj (Av Di (aF G E (aj (ao 0) (aj (mC (.int 5)) aG))) (mC (.int 2))) (aj (Av Di (aF G E (aj (ao 0) (aj (mC (.int 5)) aG))) (mC (.int 2))) (aj (Av Bq (yG (aj (mC (.int 0)) (aj (mC (.int 1)) (aj (mC (.int 1)) (aj (mC (.int 1)) (aj (mC (.int 2)) (aj (mC (.int 1)) (aj (mC (.int 3)) (aj (mC (.int 1)) aG))))))))) (aF G E (aj (ao 0) (aj (mC (.int 8)) aG)))) aG)))) (Aq 2))
  (aR (fD (bw (Av S7 (ao 1) (mC (.int 0)))) (bB (nF (aj (Av Di (aF G E (aj (ao 0) (aj (Av dO (mC (.int 2)) (ao 1)) aG))) (ao 1)) (aj (Av Di (aF G E (aj (ao 0) (aj (Av dO (mC (.int 2)) (ao 1)) aG))) (ao 1)) (aj (aF G E (aj (ao 0) (aj (ao 1) aG))) aG)))) (Aq 2)) bN)
  (pQ G J E)))
abbrev Hs:Aw:=xT pF nP
abbrev ajf (E:Ci):MS:=
  (bK (Ft XH (aj (ao 3) aG)))
abbrev zam (E:Ci):MS:=
  (aR (fD (bw (Av KN (Av Bq (ao 2) (mC (.int 0))) (mC (.str "other")))) (bK (Av cF (Av cF (Av Bq (ao 3) (mC (.int 0))) (Av Bq (ao 3) (mC (.int 1)))) (Av dO (mC (.int 2)) (Av Bq (ao 3) (mC (.int 2)))))) bN)
  (ajf E))
abbrev aja (E:Ci):MS:=
  (aR (fD (bw (Av KN (Av Bq (ao 2) (mC (.int 0))) (mC (.str "pole")))) (bK (Av cF (Av dO (mC (.int 2)) (Av Bq (ao 3) (mC (.int 0)))) (Av Bq (ao 3) (mC (.int 1))))) bN)
  (zam E))
abbrev zag (E:Ci):MS:=
  (aR (fD (bw (Av KN (Av Bq (ao 2) (mC (.int 0))) (mC (.str "curve")))) (bK (Av dO (mC (.int 2)) (Ft XH (aj (ao 3) aG)))) bN)
  (aja E))
abbrev vZ:Aw:=Ei 3 4 false λE=>
  (aR (bB (J2 K9 [1] (Gj (U6 Dk (ao 2) (jV (mC (.int 1))) fV)) iM (Av Bq (ao 1) (ao 0))) (Aq 3))
  (aR (fD (bw (Av KN (Av Bq (ao 2) (mC (.int 0))) (mC (.str "free")))) (bK (mC (.int 1))) bN)
  (zag E)))
abbrev vR:Aw:=vZ
abbrev wI (O J U G:Aw)(E:Ci):MS:=
  (bK (ao 4))
abbrev Jm (O J U G:Aw):Aw:=Ei 4 8 true λE=>
  (aR (bB (nF aG) (Aq 4))
  (aR (bB (nF aG) (Aq 5))
  (aR (mV (pU (aj (ao 1) aG)) (Aq 6) (aR (bB (aF U E (aj (aF J E (aj (aF O E (aj (ao 0) (aj (Av cF (mC (.int 3)) (ao 6)) aG))) aG)) (aj (ao 4) (aj (ao 2) aG)))) (Aq 7))
  (aR (fD (bw (Av S7 (aF G E (aj (ao 4) (aj (ao 5) (aj (ao 7) aG)))) (ao 3))) (bB (nQ (aj (mC (.str "join")) (aj (mC (.int 0)) (aj (Ft ac1 (aj (mC (.int 1)) (aj (Av Di (ao 2) (mC (.int 1))) aG))) aG)))) (Aq 7)) bN)
  (aR (jD (Bw cW (ao 5) (aj (aF G E (aj (ao 4) (aj (ao 5) (aj (ao 7) aG)))) aG)))
  (jD (Bw cW (ao 4) (aj (ao 7) aG)))))))
  (wI O J U G E))))
abbrev Ir:Aw:=Jm xZ Fg Rt vR
abbrev wA (E:Ci):MS:=
  (bK (Av cF (ao 3) (J2 K9 [] (Fo (aj (ao 4) (aj (ao 1) aG))) iM (nQ (aj (mC (.str "free")) aG)))))
abbrev wM:Aw:=Ei 2 7 true λE=>
  (aR (bB Vf (Aq 2))
  (aR (bB (nF aG) (Aq 3))
  (aR (bB (mC (.int 0)) (Aq 4))
  (aR (mV (Fo (aj (ao 1) (aj (Ft Fz (aj (ao 0) aG)) aG))) (Aq 5) (aR (mV (Gj (U6 Dk (Av Bq (ao 0) (ao 5)) (jV (mC (.int 1))) fV)) (Aq 6) (Jq (afe (bw (Av kLt (ao 6) (ao 1))) (bw (Av kLe (ao 4) (ao 6)))) (aR (bB (Ft Fz (aj (ao 3) aG)) (LK (ao 2) (ao 4) uR))
  (aR (jD (Bw cW (ao 3) (aj (nQ (aj (mC (.str "free")) aG)) aG)))
  (bB (Av cF (ao 4) (mC (.int 1))) (Aq 4))))))
  (aR (bB (Ft Fz (aj (ao 3) aG)) (LK (ao 2) (ao 5) uR))
  (jD (Bw cW (ao 3) (aj (Ft fK (aj (Av cF (yG (aj (Av Bq (Av Bq (ao 0) (ao 5)) (mC (.int 0))) aG)) (J2 K9 [2] (Gj (U6 Dk (Av Bq (ao 0) (ao 5)) (jV (mC (.int 1))) fV)) iM (Av Xj (ao 1) (ao 0)))) aG)) aG))))))
  (wA E)))))
abbrev JG:Aw:=wM
abbrev qU (E:Ci):MS:=
  (bK (nQ (aj (nQ (aj (Av adq (nQ (aj (mC (.int 0)) aG)) (ao 1)) (aj (ao 0) aG))) aG)))
abbrev vU:Aw:=Ei 2 2 false λE=>
  (aR (fD (bw (Av KN (ao 0) (mC (.int 0)))) (bK (nQ aG)) bN)
  (qU E))
abbrev vY:Aw:=vU
abbrev ami (E:Ci):MS:=
  (bK (Ft fK (aj (ao 1) aG)))
abbrev sH:Aw:=Ei 1 3 true λE=>
  (aR (bB (nF aG) (Aq 1))
  (aR (mV (Gj (ao 0)) (Aq 2) (aR (fD (mOr (bw (Av S7 (Ft Fz (aj (ao 2) aG)) (mC (.int 1)))) (afe (bw (Av KN (Ft Fz (aj (ao 2) aG)) (mC (.int 1)))) (bw (Av S7 (Ft abg (aj (Av Bq (Av Bq (ao 2) (mC (.int 0))) (mC (.int 0))) aG)) (mC (.int 0)))))) (bK (mC .non)) bN)
  (jD (Bw cW (ao 1) (aj (Ft XH (aj (J2 K9 [] (Gj (ao 2)) iM (Av Bq (ao 0) (mC (.int 1)))) aG)) aG)))))
  (ami E)))
abbrev tU:Aw:=sH
abbrev qW (G:Aw)(E:Ci):MS:=
  (bK (ao 3))
abbrev qz (G:Aw)(E:Ci):MS:=
  (aR (fD (bw (Av Vx (ao 3) (mC .non))) (bB (aF G E (aj (U6 Dk (ao 0) fV (jV (ao 2))) (aj (U6 Dk (ao 1) fV (jV (Ft Fz (aj (J2 K9 [] (Gj (U6 Dk (ao 0) fV (jV (ao 2)))) (bw (Av KN (Av Bq (ao 0) (mC (.int 0))) (mC (.str "free")))) (ao 0)) aG)))) aG))) (Aq 3)) bN)
  (qW G E))
abbrev wD (G:Aw):Aw:=Ei 2 5 false λE=>
  (aR (bB (Ft Fz (aj (ao 0) aG)) (Aq 2))
  (aR (aaG 4 "Stuck" (λE=>(bB (aF G E (aj (Ft rY (aj (ao 0) aG)) (aj (Ft rY (aj (ao 1) aG)) aG))) (Aq 3))) (aR (bB (Zw "at" (ao 4)) (Aq 2))
  (bB (mC .non) (Aq 3))))
  (qz G E)))
abbrev vW:Aw:=wD xu
abbrev lK (O J G U:Aw)(E:Ci):MS:=
  (bK (Qi (Yk (ao 5)) (Qi (Av S7 (Ft Fz (aj (J2 K9 [] (Gj (ao 4)) (bw (Av Nh (ao 0) (mC (.int 0)))) (ao 0)) aG)) (mC (.int 0))) (Av KN (aF G E (aj (ao 4) aG)) (Av Bq (ao 2) (ao 3))))))
abbrev alH (J G U O:Aw)(E:Ci):MS:=
  (aR (bB (Qi (Av KN (Av Bq (Av Bq (ao 0) (ao 3)) (mC (.int 0))) (mC (.str "other"))) (Av Nh (aF G E (aj (Ft rY (aj (ao 0) aG)) (aj (Ft rY (aj (ao 1) aG)) (aj (ao 3) aG)))) (nQ aG))) (Aq 5))
  (aR (fD (bw (Av KN (ao 3) (Ft Fz (aj (ao 2) aG)))) (bK (afE (ao 5) (Av KN (Ft Fz (aj (J2 K9 [] (Gj (ao 4)) (bw (Av Nh (ao 0) (mC (.int 0)))) (ao 0)) aG)) (mC (.int 0))))) bN)
  (lK J G U O E)))
abbrev qI (G O U J:Aw):Aw:=Ei 4 6 false λE=>
  (aR (bB (aF J E (aj (aF G E (aj (Ft rY (aj (ao 0) aG)) (aj (Ft rY (aj (ao 1) aG)) (aj (ao 3) aG)))) aG)) (Aq 4))
  (aR (fD (bw (Av Vx (ao 4) (mC .non))) (bK (mC (.bl false))) bN)
  (alH G O U J E)))
abbrev kj:Aw:=qI abR ab3 nP tU
abbrev JM (c a d Y J G b O U:Aw)(E:Ci):MS:=
  (bK (mC (.bl true)))
abbrev Js (c a d Y O J b U G:Aw)(E:Ci):MS:=
  (aR (mV (pU (aj (Ft ac1 (aj (ao 3) (aj (Av cF (Ft Fz (aj (ao 8) aG)) (mC (.int 1))) aG))) aG)) (Aq 12) (fD (afe (bw (Av Nh (Av Bq (Av Bq (ao 5) (ao 12)) (mC (.int 0))) (mC (.str "free")))) (aaS (Ko (aF G E (aj (ao 5) (aj (ao 9) (aj (ao 8) (aj (ao 12) aG)))))))) (bK (mC (.bl false))) bN))
  (JM c a d Y O J b U G E))
abbrev Nm (J G a U c b Y O d:Aw)(E:Ci):MS:=
  (aR (bB (aF G E (aj (aF J E (aj (ao 0) (aj (mC (.int 1)) aG))) aG)) (Aq 6))
  (aR (bB (J2 K9 [6] (pU (aj (ao 1) aG)) iM (aF U E (aj (ao 1) (aj (mC (.int 0)) aG)))) (Aq 7))
  (aR (bB (aF O E (aj (ao 5) (aj (ao 7) aG))) (Aq 8))
  (aR (bB (aF G E (aj (aF J E (aj (ao 0) (aj (mC (.int 2)) aG))) aG)) (Aq 6))
  (aR (bB (nF aG) (Aq 9))
  (aR (mV (Gj (ao 8)) (Aq 10) (aR (bB (Av Bq (yG (aj (mC (.int 1)) (aj (Y6 Xu (mC (.int 1))) (aj (mC (.int 2)) (aj (Y6 Xu (mC (.int 2))) (aj (mC (.int 3)) (aj (Y6 Xu (mC (.int 3))) aG))))))) (aF a E (aj (ao 6) (aj (mC (.int 6)) aG)))) (Aq 11))
  (jD (Bw cW (ao 9) (aj (Ft fK (aj (J2 K9 [4,11] (Gj (ao 10)) iM (aF Y E (aj (Av dO (ao 2) (ao 0)) (aj (ao 1) aG)))) aG)) aG)))))
  (Js J G a U c b Y O d E)))))))
abbrev aax (G b d a O J c U Y:Aw):Aw:=Ei 1 13 false λE=>
  (aR (bB (Av cF (mC (.int 2)) (Av Er (aF G E (aj (ao 0) (aj (mC (.int 0)) aG))) (mC (.int 6)))) (Aq 1))
  (aR (bB (Av cF (mC (.int 16)) (Av PK (mC (.int 8)) (Ft YT (aj (Av KN (Av Er (Av Km (aF G E (aj (ao 0) (aj (mC (.int 0)) aG))) (mC (.int 96))) (mC (.int 8))) (mC (.int 5))) aG)))) (Aq 2))
  (aR (bB (Ft ada (aj (ao 1) (aj (Av cF (mC (.int 1)) (Av Er (Av Km (aF G E (aj (ao 0) (aj (mC (.int 0)) aG))) (mC (.int 6))) (ao 2))) aG))) (Aq 3))
  (aR (bB (Av dO (mC (.int 2)) (Ft ada (aj (mC (.int 0)) (aj (Av Di (ao 1) (mC (.int 4))) aG)))) (Aq 4))
  (aR (bB (aF O E (aj (ao 0) (aj (ao 3) (aj (ao 1) (aj (mC (.int 32)) aG))))) (Aq 5))
  (aR (fD (bw (Av KN (Av Er (Av Km (aF G E (aj (ao 0) (aj (mC (.int 0)) aG))) (mC (.int 1000))) (mC (.int 2))) (mC (.int 0)))) (bB (aF J E (aj (ao 5) (aj (ao 1) aG))) (Aq 5)) bN)
  (Nm G b d a O J c U Y E)))))))
abbrev aaQ:Aw:=aax xZ Fg pF Hs Ir JG vY vW kj
abbrev zl:List Str:=["abs", "all", "any", "dict", "enumerate", "int", "len", "list", "max", "min", "range", "reversed", "set", "sorted", "sum", "tuple", "zip"]
structure Ad where
 x_EaselError:Addr
 x_Nothing:Addr
 x_Alike:Addr
 x_Stuck:Addr
 x_FourOnLine:Addr
 x_Knot:Addr
 x_NotRound:Addr
 x_NotOn:Addr
 x_InCurve:Addr
 f_Stuck_init:Addr
 d_Stuck_init:Nu
abbrev zz0 (K:CQ)(mg:Str->Option Aj):List Prop:=[At K mg "divisor_of_two" (top 12) ["one", "other"],
 At K mg "divisor" (top 13) ["numbers"],
 At K mg "ends_below" (top 14) ["numbers"],
 At K mg "plain" (top 15) ["numbers"],
 At K mg "dot" (top 17) ["one", "other"],
 At K mg "cross" (top 18) ["one", "other"],
 At K mg "turn" (top 19) ["one", "other", "third"],
 At K mg "lies_on" (top 20) ["spot", "line"],
 At K mg "share_one" (top 21) ["rows"],
 At K mg "on_line" (top 22) ["spots"],
 At K mg "plain_cross" (top 23) ["one", "other"],
 At K mg "join" (top 24) ["one", "other"],
 At K mg "meet" (top 25) ["one", "other"],
 At K mg "rising" (top 27) ["many", "size"],
 At K mg "picked" (top 28) ["things", "places"],
 At K mg "has_alike" (top 29) ["things"],
 At K mg "has_on_line" (top 30) ["spots", "size"],
 At K mg "sum_of_totals" (top 36) ["totals"],
 At K mg "with_times" (top 37) ["one", "other", "factor"],
 At K mg "plus" (top 38) ["one", "other"],
 At K mg "minus" (top 39) ["one", "other"],
 At K mg "packed" (top 40) ["powers"],
 At K mg "unpacked" (top 41) ["key", "letters"],
 At K mg "packed_terms" (top 42) ["one"],
 At K mg "check_powers" (top 43) ["one"],
 At K mg "times" (top 44) ["one", "other"],
 At K mg "less_swapped" (top 46) ["one", "other", "i", "j"],
 At K mg "sum_cross" (top 47) ["one", "other"],
 At K mg "sum_dot" (top 48) ["one", "other"],
 At K mg "sum_turn" (top 49) ["one", "other", "third"],
 At K mg "sums_times" (top 50) ["some", "factor"],
 At K mg "sums_minus" (top 51) ["some", "others"],
 At K mg "sum_together" (top 52) ["line", "other"],
 At K mg "doubled" (top 53) ["one"],
 At K mg "sum_table" (top 54) ["curve"],
 At K mg "turned_rows" (top 55) ["rows"],
 At K mg "rows_times" (top 56) ["rows", "thing"],
 At K mg "rows_on_both_sides" (top 57) ["rows", "one", "other"],
 At K mg "rows_size" (top 58) ["rows"],
 At K mg "curve_raw" (top 59) ["five"],
 At K mg "pole_raw" (top 60) ["curve", "line"],
 At K mg "other_raw" (top 61) ["curve", "one", "other"],
 At K mg "raw" (top 62) ["rows", "things", "k"],
 At K mg "tie" (top 63) ["rows", "things", "k"],
 At K mg "rows_of" (top 66) ["table"],
 At K mg "size_of" (top 67) ["numbers"],
 At K mg "table_times_row" (top 68) ["table", "row"],
 At K mg "turned" (top 69) ["table"],
 At K mg "tiles" (top 70) [],
 At K mg "worth" (top 72) ["curve", "spot"],
 At K mg "is_on_curve" (top 73) ["curve", "spot"],
 At K mg "together" (top 74) ["line", "other"],
 At K mg "table_of" (top 75) ["curve"],
 At K mg "both_sides" (top 76) ["table", "one", "other"],
 At K mg "is_round" (top 77) ["curve"],
 At K mg "mixed" (top 78) ["spots"],
 At K mg "through" (top 79) ["spots"],
 At K mg "plain_or_none" (top 81) ["numbers"],
 At K mg "line_about" (top 82) ["curve", "spot"],
 At K mg "spot_about" (top 83) ["curve", "line"],
 At K mg "another_spot" (top 84) ["line", "spot"],
 At K mg "other_end" (top 85) ["curve", "spot", "line"],
 At K mg "made_by_row" (top 87) ["row", "things"],
 At K mg "placed" (top 88) ["rows", "spots"],
 At K mg "_law_cell" (top 90) ["_law_script", "_law_k"],
 At K mg "_law_bag" (top 91) ["_law_cell_here"],
 At K mg "_law_draw" (top 92) ["_law_bag_here", "_law_many"],
 At K mg "_law_asks" (top 93) ["_law_word"],
 At K mg "_law_sort" (top 94) ["_law_row_here"],
 At K mg "_law_pick" (top 95) ["_law_bag_here", "_law_rows_here", "_law_sort_here"],
 At K mg "_law_row" (top 96) ["_law_bag_here", "_law_rows_here", "_law_frees"],
 At K mg "_law_divisor" (top 97) ["_law_numbers_here"],
 At K mg "_law_plain" (top 98) ["_law_numbers_here"],
 At K mg "_law_spot" (top 99) ["_law_bag_here", "_law_top"],
 At K mg "_law_weight" (top 100) ["_law_rows_here", "_law_weights", "_law_row_here"],
 At K mg "_law_rows" (top 101) ["_law_script", "_law_size", "_law_frees", "_law_most"],
 At K mg "_law_amid" (top 102) ["_law_rows_here", "_law_frees"],
 At K mg "_law_number" (top 103) ["_law_number_here", "_law_letters"],
 At K mg "_law_numbers" (top 104) ["_law_thing"],
 At K mg "_law_placed" (top 105) ["_law_rows_here", "_law_spots"],
 At K mg "_law_row_good" (top 106) ["_law_rows_here", "_law_some", "_law_things", "_law_k"]]
def zz2:∀i,([]:List Prop).getD i True:=λ_=>True.intro
def zz3 {a:Prop}{l:List Prop}(x:a)(y:∀i,l.getD i True):∀i,(a::l).getD i True
 |0=>x
 |i+1=>y i
structure Txt (P:Dm) (w:DX) (K:CQ) (mg:Str->Option Aj) (base:Heap) (t:Ad):Prop where
 F:∀i,(zz0 K mg).getD i True
 z:∀n∈zl,mg n=Af
 g_MOST_TERMS:∃n,mg "MOST_TERMS" = AP (.int 600 n)
 g_MOST_POWER:∃n,mg "MOST_POWER" = AP (.int 60 n)
 g_MOST_PAIRS:∃n,mg "MOST_PAIRS" = AP (.int 20000 n)
 g_FIELD:∃n,mg "FIELD" = AP (.int 65536 n)
 c_TILES:∃a,mg "TILES" = AP (.ref a)/\∀H μ,DW K H μ sY (.ref a)
 xm_EaselError:mg "EaselError" = AP (.ref t.x_EaselError)
 xd_EaselError:nG K t.x_EaselError "EaselError" = true
 xm_Nothing:mg "Nothing" = AP (.ref t.x_Nothing)
 xd_Nothing:nG K t.x_Nothing "Nothing" = true
 xc_Nothing:nH K t.x_Nothing "Nothing" = true
 xq_Nothing:Ra K t.x_Nothing Nx "ValueError.__new__" = true
 xm_Alike:mg "Alike" = AP (.ref t.x_Alike)
 xd_Alike:nG K t.x_Alike "Alike" = true
 xc_Alike:nH K t.x_Alike "Alike" = true
 xq_Alike:Ra K t.x_Alike Nx "ValueError.__new__" = true
 xm_Stuck:mg "Stuck" = AP (.ref t.x_Stuck)
 xd_Stuck:nG K t.x_Stuck "Stuck" = true
 xm_FourOnLine:mg "FourOnLine" = AP (.ref t.x_FourOnLine)
 xd_FourOnLine:nG K t.x_FourOnLine "FourOnLine" = true
 xc_FourOnLine:nH K t.x_FourOnLine "FourOnLine" = true
 xq_FourOnLine:Ra K t.x_FourOnLine Nx "ValueError.__new__" = true
 xm_Knot:mg "Knot" = AP (.ref t.x_Knot)
 xd_Knot:nG K t.x_Knot "Knot" = true
 xc_Knot:nH K t.x_Knot "Knot" = true
 xq_Knot:Ra K t.x_Knot Nx "ValueError.__new__" = true
 xm_NotRound:mg "NotRound" = AP (.ref t.x_NotRound)
 xd_NotRound:nG K t.x_NotRound "NotRound" = true
 xc_NotRound:nH K t.x_NotRound "NotRound" = true
 xq_NotRound:Ra K t.x_NotRound Nx "ValueError.__new__" = true
 xm_NotOn:mg "NotOn" = AP (.ref t.x_NotOn)
 xd_NotOn:nG K t.x_NotOn "NotOn" = true
 xc_NotOn:nH K t.x_NotOn "NotOn" = true
 xq_NotOn:Ra K t.x_NotOn Nx "ValueError.__new__" = true
 xm_InCurve:mg "InCurve" = AP (.ref t.x_InCurve)
 xd_InCurve:nG K t.x_InCurve "InCurve" = true
 xc_InCurve:nH K t.x_InCurve "InCurve" = true
 xq_InCurve:Ra K t.x_InCurve Nx "ValueError.__new__" = true
 F_Stuck_init:VG K "__init__" "Stuck.__init__" iu t.f_Stuck_init t.d_Stuck_init
 b_Stuck_init:Binds K t.d_Stuck_init ["self", "at"] []
 xi_Stuck:J5 K t.x_Stuck t.f_Stuck_init Nx "ValueError.__new__" = true
 xf_Stuck:PySem.W.isFn K (.ref t.f_Stuck_init)=true
 xa_Stuck:aau K t.x_Stuck "Stuck" = true
 xs_Stuck:afq K t.x_Stuck "at" = true
section
variable {P:Dm}{w:DX}{K:CQ}{mg:Str->Option Aj}{base:Heap}{t:Ad}(T:Txt P w K mg base t)
include T
def zbk:lE P w K mg base PJ 1 t.f_Stuck_init t.d_Stuck_init ["self", "at"] (spI t.x_Stuck "at"):=
 alN T.F_Stuck_init ams λcdv A outer s H E G=>DR (aa0 T.xs_Stuck (pv 0) (pv 1) rfl)
def ana:Fk P w K mg base 10 "divisor_of_two" jy:=by
 show fk ["one", "other", "rest"] (T.F 0) T.z ?_;intro _ _ _ _ _ _ _ J G O z;show au (Ec 0<|Kl Lj boot_abs<|a1<|vV 0) ?_;show au (Ec 1<|Kl Lj boot_abs<|a1<|vV 1) ?_;show au (yq QD (K4 (J6 qq) (vV 1) aA)<|au (Ec 2<|bF qY (vV 0)<|vV 1)<|au (Ec 0<|vV 1)<|aD<|Ec 1<|vV 2) ?_;show aD<|aJ<|vV 0
def zaR:Fk P w K mg base 11 "divisor" zY:=by
 show fk ["numbers", "found", "number"] (T.F 1) T.z ?_;intro _ _ _ _ _ _ _ J G O z;show au (Ec 1 aA)<|au (dU QD hh (bH<|vV 0) (Ny 2)<|aD<|Ec 1<|Cj (ana T)<|a2 (vV 2)<|vV 1)<|aD<|aJ<|vV 1
def amZ:Fk P w K mg base 10 "ends_below" qX:=by
 show fk ["numbers", "number"] (T.F 2) T.z ?_;intro _ _ _ _ _ _ _ J G O z;show au (dU QD hh (aap (rfl) (T.z _<|∅) (a1<|vV 0) (aN<|by rfl)<|bM<|by rfl) (Ny 1)<|aD<|dG (K4 (J6 qq) (vV 1) aA) (aD<|aJ<|RK aaL (vV 1) aA) bG) ?_;show aD<|aJ ad1
def nY:U4 P w K mg base 12 "plain" mY:=by
 show VN (k:=11) ["numbers", "factor"] (T.F 3) T.z ?_;intro _ _ _ _ _ _ _ J G O z;show aW (λ_=>trivial) ?_ ?_;show dW<|Ec 1<|Cj (zaR T)<|a1<|vV 0
 show aW (λ_=>trivial) ?_ ?_;show gR (K4 (lD qq) (vV 1) aA) (aZ<|fu hh (by rfl) T.xm_Nothing T.xq_Nothing T.xc_Nothing) cV;show aW (λ_=>trivial) ?_ ?_;show dW<|dG (j9<|Cj (amZ T)<|a1<|vV 0) (aD<|Ec 1<|Ld<|vV 1) bG
 show aZ ?_;show dW<|aJ<|dct gH V0<|a1<|RD [1] (bH<|vV 0)<|λ_ _ _ _=>(bF wO (vV 0)<|vV 1)
def akl:Fk P w K mg base 12 "plain" mY:=(nY T).tame
def oG:Fk P w K mg base 10 "dot" Gg:=by
 show fk ["one", "other"] (T.F 4) T.z ?_;intro _ _ _ _ _ _ _ J G O z;show aD<|aJ<|bF bO (bF bO (bF bL (Bu (vV 0) aA)<|Bu (vV 1) aA)<|bF bL (Bu (vV 0) aA)<|Bu (vV 1) aA)<|bF bL (Bu (vV 0) aA)<|Bu (vV 1) aA
def eX:Fk P w K mg base 10 "cross" pP:=by
 show fk (k:=9) ["one", "other"] (T.F 5) T.z ?_;intro _ _ _ _ _ _ _ J G O z;show aD<|aJ<|fP<|a3 (bF qb (bF bL (Bu (vV 0) aA)<|Bu (vV 1) aA)<|bF bL (Bu (vV 0) aA)<|Bu (vV 1) aA) (bF qb (bF bL (Bu (vV 0) aA)<|Bu (vV 1) aA)<|bF bL (Bu (vV 0) aA)<|Bu (vV 1) aA)<|bF qb (bF bL (Bu (vV 0) aA)<|Bu (vV 1) aA)<|bF bL (Bu (vV 0) aA)<|Bu (vV 1) aA
def akM:Fk P w K mg base 11 "turn" Wx:=by
 show fk ["one", "other", "third"] (T.F 6) T.z ?_;intro _ _ _ _ _ _ _ J G O z;show aD<|aJ<|Cj (oG T)<|a2 (Cj (eX T)<|a2 (vV 0)<|vV 1)<|vV 2
def zaP:Fk P w K mg base 11 "lies_on" Bh:=by
 show fk ["spot", "line"] (T.F 7) T.z ?_;intro _ _ _ _ _ _ _ J G O z;show aD<|aJ<|RK (lD qq) (Cj (oG T)<|a2 (vV 0)<|vV 1) aA
def zab:Fk P w K mg base 11 "share_one" mZ:=by
 show fk ["rows", "unlike", "shared"] (T.F 8) T.z ?_;intro _ _ _ _ _ _ _ J G O z;show au (BK [0] (i:=1) (by assumption) (by rfl) (by show Or.inl rfl) hh (cA<|by rfl) xr (xq<|cA<|by rfl) (bH<|vV 0) (λ_ _ _ _=>(iD<|K4 (J6 qq) (vV 0)<|Bu (vV 1) aA))<|λ_ _ _ _=>(vV 0)) ?_;show au (dG (Ab<|j9<|vV 1) (aD<|aJ ad1) bG) ?_;show au (Ec 2<|Cj (eX T)<|a2 (Bu (vV 0) aA)<|Bu (vV 1) aA) ?_;show aD<|aJ<|Kl (agB hh) boot_all<|a1<|RD [2] (bH<|vV 1)<|λ_ _ _ _=>(RK (lD qq) (Cj (oG T)<|a2 (vV 1)<|vV 0) aA)
def zaz:Fk P w K mg base 12 "on_line" tM:=by
 show fk ["spots"] (T.F 9) T.z ?_;intro _ _ _ _ _ _ _ J G O z;show aD<|aJ<|Cj (zab T)<|a1<|vV 0
def jF:U4 P w K mg base 13 "plain_cross" jj:=by
 show VN ["one", "other"] (T.F 10) T.z ?_;intro _ _ _ _ _ _ _ J G O z;show aW (λ_=>trivial) ?_ ?_;show gR (K4 (lD qq) (vV 0)<|vV 1) (aZ<|fu hh rfl T.xm_Alike T.xq_Alike T.xc_Alike) cV;show aZ<|gD<|QV (nY T)<|a1<|Cj (eX T)<|a2 (vV 0)<|vV 1
def HY:U4 P w K mg base 14 "join" Qk:=by
 show VN ["one", "other"] (T.F 11) T.z ?_;intro _ _ _ _ _ _ _ J G O z;show aZ<|gD<|QV (jF T)<|a2 (vV 0)<|vV 1
def Hi:U4 P w K mg base 14 "meet" Ak:=by
 show VN ["one", "other"] (T.F 12) T.z ?_;intro _ _ _ _ _ _ _ J G O z;show aZ<|gD<|QV (jF T)<|a2 (vV 0)<|vV 1
def amg:Fk P w K mg base 14 "meet" Ak:=(Hi T).tame
def ajL:Fk P w K mg base 10 "rising" GC:=by
 show fk (k:=9) ["many", "size", "found", "taken", "longer", "places", "first"] (T.F 13) T.z ?_;intro _ _ _ _ _ _ _ J G O z;show au ?_ ?_;with_reducible show Ec 2 (j8 (a1 (fP cQ)))
 show au (dU QD hh (drg<|a1<|vV 1) (Ny 3)<|au (Ec 4<|jY cQ)<|au (dU QD hh (bH<|vV 2) (Ny 5)<|au (Ec 6<|ahp (K4 Ma (vV 3) aA) (bF bO (Bu (vV 5)<|bF qb (vV 3) aA) aA) aA)<|aD<|fW<|zbN (vV 4) (a1<|RD [5] (tQ (by rfl) (by show T.z _ ∅)<|a2 (vV 6)<|vV 0)<|λ_ _ _ _=>(bF bO (vV 1)<|fP<|a1<|vV 0)) (by rfl) (uW<|by rfl) (by rfl) (aN<|by rfl)<|by rfl)<|aD<|Ec 2<|vV 4) ?_;show aD<|aJ<|vV 2
def zaT:Fk P w K mg base 10 "picked" Hz:=by
 show fk ["things", "places"] (T.F 14) T.z ?_;intro _ _ _ _ _ _ _ J G O z;show aD<|aJ<|RD [0] (bH<|vV 1)<|λ_ _ _ _=>(Bu (vV 1)<|vV 0)
def alV:Fk P w K mg base 10 "has_alike" uP:=by
 show fk ["things"] (T.F 15) T.z ?_;intro _ _ _ _ _ _ _ J G O z;show aD<|aJ<|RK aaL (zbo hh qq rfl (T.z _<|∅) rfl (T.z _<|∅) (vV 0) (aN<|by rfl)<|aN rfl)<|Kl fY Oa<|a1<|vV 0
def amK:Fk P w K mg base 13 "has_on_line" oM:=by
 show fk ["spots", "size"] (T.F 16) T.z ?_;intro _ _ _ _ _ _ _ J G O z;show aD<|aJ<|Kl (Z8 hh) boot_any<|a1<|RD [0] (bH<|Cj (ajL T)<|a2 (Kl fY Oa<|a1<|vV 0)<|vV 1)<|λ_ _ _ _=>(Cj (zaz T)<|a1<|Cj (zaT T)<|a2 (vV 1)<|vV 0)
def jA:Fk P w K mg base 10 "sum_of_totals" dB:=by
 show fk (k:=9) ["totals", "terms"] (T.F 17) T.z ?_;intro _ _ _ _ _ _ _ O J U z;obtain⟨_,G⟩:=T.g_MOST_TERMS;show au (Ec 1<|dct gH V0<|a1<|dl1 [0] (bH<|Kl (aag hh) PyProof.Rows.boot_sorted<|a1<|vV 0) (λ_ _ _ _=>(iD<|K4 (J6 qq) (ae9 qq (vV 1) (vV 0) (by intro _ _;rfl)) aA))<|λ_ _ _ _=>(fP<|a2 (vV 0)<|ae9 qq (vV 1) (vV 0) (by intro _ _;rfl))) ?_;show au (dG (K4 Ma (Kl fY Oa<|a1<|vV 1)<|dc (v:=.int 600) (j7 (by rfl) G {_,rfl})<|λ_ _=>zJ) (aD yC) bG) ?_;show aD<|aJ<|vV 1
def oU:Fk P w K mg base 11 "with_times" jM:=by
 show fk ["one", "other", "factor", "totals", "powers", "number"] (T.F 18) T.z ?_;intro _ _ _ _ _ _ _ J G O z;show au (Ec 3<|dct (amY hh qq) boot_dict<|a1<|vV 0) ?_;show au (dU QD hh (bH<|vV 1) (qu hh<|cY (Ny 4)<|cY (Ny 5) p7)<|aD<|lQ (bF bO (aeG qq (vV 3) (a2 (vV 4) aA) (by rfl) (ado (by rfl)<|by rfl) (by rfl) (aN<|by rfl)<|bM<|by rfl)<|bF bL (vV 2)<|vV 5)<|lU (vV 3) (vV 4) (zbB qq) zbK) ?_;show aD<|aJ<|Cj (jA T)<|a1<|vV 3
def rN:Fk P w K mg base 12 "plus" Cu:=by
 show fk ["one", "other"] (T.F 19) T.z ?_;intro _ _ _ _ _ _ _ J G O z;show aD<|aJ<|Cj (oU T)<|a3 (vV 0) (vV 1) aA
def Hl:Fk P w K mg base 12 "minus" xR:=by
 show fk ["one", "other"] (T.F 20) T.z ?_;intro _ _ _ _ _ _ _ J G O z;show aD<|aJ<|Cj (oU T)<|a3 (vV 0) (vV 1)<|Ld aA
def akx:Fk P w K mg base 10 "packed" Gz:=by
 show fk ["powers", "key", "power"] (T.F 21) T.z ?_;intro _ _ _ _ _ _ _ O J U z;obtain⟨_,G⟩:=T.g_FIELD;show au (Ec 1 aA)<|au (dU QD hh (bH<|vV 0) (Ny 2)<|aD<|Ec 1<|bF bO (bF bL (vV 1)<|dc (v:=.int 65536) (j7 rfl G {_,rfl})<|λ_ _=>zJ)<|vV 2)<|aD<|aJ<|vV 1
def zau:Fk P w K mg base 10 "unpacked" v8:=by
 show fk (k:=9) ["key", "letters", "powers", "taken"] (T.F 22) T.z ?_;intro _ _ _ _ _ _ _ O J U z;obtain⟨_,G⟩:=T.g_FIELD;show au (Ec 2<|jY cQ) ?_;show au (dU QD hh (drg<|a1<|vV 1) (Ny 3)<|au (fW<|fU (vV 2) (a1<|bF qY (vV 0)<|dc (v:=.int 65536) (j7 (by rfl) G {_,rfl})<|λ_ _=>zJ) (by rfl) (uW<|by rfl) (by rfl) (aN<|by rfl)<|by rfl)<|aD<|Ec 0<|bF wO (vV 0)<|dc (v:=.int 65536) (j7 (by rfl) G {_,rfl})<|λ_ _=>zJ) ?_;show aD<|aJ<|anG hh (by rfl) (by show T.z _ ∅) (by rfl) (by show T.z _ ∅) (vV 2) (aN<|by rfl) (bM<|by rfl) (aN<|by rfl)<|bM<|by rfl
def jL:Fk P w K mg base 11 "packed_terms" mj:=by
 show fk ["one"] (T.F 23) T.z ?_;intro _ _ _ _ _ _ _ J G O z;show aD<|aJ<|abB [] hh (cA rfl) S9 (QB hh<|cA rfl) (bH<|vV 0) (λ_ _ _ _=>iy)<|λ_ _ _ _=>(fP<|a2 (Cj (akx T)<|a1<|vV 0)<|vV 1)
def amd:Fk P w K mg base 10 "check_powers" lN:=by
 show fk ["one", "powers", "number"] (T.F 24) T.z ?_;intro _ _ _ _ _ _ _ O J U z;obtain⟨_,G⟩:=T.g_MOST_POWER;show aD<|dU QD hh (bH<|vV 0) (qu hh<|cY (Ny 1)<|cY (Ny 2) p7)<|aD<|dG (j9<|Kl (Z8 hh) boot_any<|a1<|RD [] (bH<|vV 1)<|λ_ _ _ _=>(RK Ma (vV 0)<|dc (v:=.int 60) (j7 rfl G {_,rfl})<|λ_ _=>zJ)) (aD yC) bG
def cI:Fk P w K mg base 12 "times" mX:=by
 show fk (k:=11) ["one", "other", "totals", "others", "key", "number", "other_key", "other_number", "place", "letters", "product", "unpacked_terms"] (T.F 25) T.z ?_;intro _ _ _ _ _ _ _ O J U z;obtain⟨_,G⟩:=T.g_MOST_PAIRS;show au (dG (K4 Ma (bF bL (Kl fY Oa<|a1<|vV 0)<|Kl fY Oa<|a1<|vV 1)<|dc (v:=.int 20000) (j7 (by rfl) G {_,rfl})<|λ_ _=>zJ) (aD yC) bG) ?_;show au ?_ ?_;with_reducible show Ec 2 WT
 show au (Ec 3<|Cj (jL T)<|a1<|vV 1) ?_;show au (dU QD hh (bH<|Cj (jL T)<|a1<|vV 0) (qu hh<|cY (Ny 4)<|cY (Ny 5) p7)<|aD<|dU QD hh (bH<|vV 3) (qu hh<|cY (Ny 6)<|cY (Ny 7) p7)<|au (Ec 8<|bF bO (vV 4)<|vV 6)<|aD<|lQ (bF bO (abN qq (vV 2) (a2 (vV 8) aA) (by rfl) (ado (by rfl)<|by rfl) (by rfl) (aN<|by rfl)<|bM<|by rfl)<|bF bL (vV 5)<|vV 7)<|lU (vV 2) (vV 8) set_dict lB) ?_;show au (Ec 9<|ahp (j9<|vV 0) (Kl fY Oa<|a1<|Bu (Bu (vV 0) aA) aA) aA) ?_;show au (Ec 10<|Cj (jA T)<|a1<|vV 2) ?_;show au (Ec 11<|dct gH V0<|a1<|abB [9] hh (cA<|by rfl) S9 (QB hh<|cA<|by rfl) (bH<|vV 10) (λ_ _ _ _=>iy)<|λ_ _ _ _=>(fP<|a2 (Cj (zau T)<|a2 (vV 0)<|vV 2)<|vV 1)) ?_;show au (fW<|Cj (amd T)<|a1<|vV 11) ?_;show aD<|aJ<|vV 11
def gb:Fk P w K mg base 13 "less_swapped" lY:=by
 show fk ["one", "other", "i", "j"] (T.F 26) T.z ?_;intro _ _ _ _ _ _ _ J G O z;show aD<|aJ<|Cj (Hl T)<|a2 (Cj (cI T)<|a2 (Bu (vV 0)<|vV 2)<|Bu (vV 1)<|vV 3)<|Cj (cI T)<|a2 (Bu (vV 0)<|vV 3)<|Bu (vV 1)<|vV 2
def bW:Fk P w K mg base 14 "sum_cross" dX:=by
 show fk ["one", "other"] (T.F 27) T.z ?_;intro _ _ _ _ _ _ _ J G O z;show aD<|aJ<|fP<|a3 (Cj (gb T)<|aC (vV 0)<|a3 (vV 1) aA aA) (Cj (gb T)<|aC (vV 0)<|a3 (vV 1) aA aA)<|Cj (gb T)<|aC (vV 0)<|a3 (vV 1) aA aA
def d8:Fk P w K mg base 13 "sum_dot" iU:=by
 show fk ["one", "other", "total", "mine", "its"] (T.F 28) T.z ?_;intro _ _ _ _ _ _ _ J G O z;show au (Ec 2<|fP cQ) ?_;show au (dU QD hh (Jw (by rfl) (by show T.z _ ∅) (a2 (vV 0)<|vV 1) (aN<|by rfl)<|bM<|by rfl) (qu hh<|cY (Ny 3)<|cY (Ny 4) p7)<|aD<|Ec 2<|Cj (rN T)<|a2 (vV 2)<|Cj (cI T)<|a2 (vV 3)<|vV 4) ?_;show aD<|aJ<|vV 2
def aji:Fk P w K mg base 15 "sum_turn" vQ:=by
 show fk ["one", "other", "third"] (T.F 29) T.z ?_;intro _ _ _ _ _ _ _ J G O z;show aD<|aJ<|Cj (d8 T)<|a2 (Cj (bW T)<|a2 (vV 0)<|vV 1)<|vV 2
def dM:Fk P w K mg base 13 "sums_times" fj:=by
 show fk ["some", "factor"] (T.F 30) T.z ?_;intro _ _ _ _ _ _ _ J G O z;show aD<|aJ<|dct gH V0<|a1<|RD [1] (bH<|vV 0)<|λ_ _ _ _=>(Cj (cI T)<|a2 (vV 0)<|vV 1)
def pI:Fk P w K mg base 13 "sums_minus" gQ:=by
 show fk ["some", "others"] (T.F 31) T.z ?_;intro _ _ _ _ _ _ _ J G O z;show aD<|aJ<|dct gH V0<|a1<|abB [] hh (cA<|by rfl) S9 (QB hh<|cA<|by rfl) (Jw (by rfl) (T.z _<|∅) (a2 (vV 0)<|vV 1) (aN<|by rfl)<|bM<|by rfl) (λ_ _ _ _=>iy)<|λ_ _ _ _=>(Cj (Hl T)<|a2 (vV 0)<|vV 1)
def jT:Fk P w K mg base 13 "sum_together" lW:=by
 show fk (k:=12) ["line", "other"] (T.F 32) T.z ?_;intro _ _ _ _ _ _ _ J G O z;show aD<|aJ<|fP<|aC (Cj (cI T)<|a2 (Bu (vV 0) aA)<|Bu (vV 1) aA)<|aC (Cj (rN T)<|a2 (Cj (cI T)<|a2 (Bu (vV 0) aA)<|Bu (vV 1) aA)<|Cj (cI T)<|a2 (Bu (vV 0) aA)<|Bu (vV 1) aA)<|aC (Cj (cI T)<|a2 (Bu (vV 0) aA)<|Bu (vV 1) aA)<|a3 (Cj (rN T)<|a2 (Cj (cI T)<|a2 (Bu (vV 0) aA)<|Bu (vV 1) aA)<|Cj (cI T)<|a2 (Bu (vV 0) aA)<|Bu (vV 1) aA) (Cj (rN T)<|a2 (Cj (cI T)<|a2 (Bu (vV 0) aA)<|Bu (vV 1) aA)<|Cj (cI T)<|a2 (Bu (vV 0) aA)<|Bu (vV 1) aA)<|Cj (cI T)<|a2 (Bu (vV 0) aA)<|Bu (vV 1) aA
def kZ:Fk P w K mg base 13 "doubled" nO:=by
 show fk ["one"] (T.F 33) T.z ?_;intro _ _ _ _ _ _ _ J G O z;show aD<|aJ<|Cj (rN T)<|a2 (vV 0)<|vV 0
def gW:Fk P w K mg base 14 "sum_table" d9:=by
 show fk ["curve"] (T.F 34) T.z ?_;intro _ _ _ _ _ _ _ J G O z;show aD ?_;with_reducible show aJ (fP (a3 (fP (a3 (Cj (by with_unfolding_all show kZ T) (a1 (Bu (vV 0) aA))) (Bu (vV 0) aA) (Bu (vV 0) aA))) (fP (a3 (Bu (vV 0) aA) (Cj (by with_unfolding_all show kZ T) (a1 (Bu (vV 0) aA))) (Bu (vV 0) aA))) (fP (a3 (Bu (vV 0) aA) (Bu (vV 0) aA) (Cj (by with_unfolding_all show kZ T) (a1 (Bu (vV 0) aA)))))))
def amS:Fk P w K mg base 15 "turned_rows" nR:=by
 show fk ["rows"] (T.F 35) T.z ?_;intro _ _ _ _ _ _ _ J G O z;show aD<|aJ<|fP<|a3 (Cj (bW T)<|a2 (Bu (vV 0) aA)<|Bu (vV 0) aA) (Cj (bW T)<|a2 (Bu (vV 0) aA)<|Bu (vV 0) aA)<|Cj (bW T)<|a2 (Bu (vV 0) aA)<|Bu (vV 0) aA
def iZ:Fk P w K mg base 14 "rows_times" fB:=by
 show fk ["rows", "thing"] (T.F 36) T.z ?_;intro _ _ _ _ _ _ _ J G O z;show aD<|aJ<|dct gH V0<|a1<|RD [1] (bH<|vV 0)<|λ_ _ _ _=>(Cj (d8 T)<|a2 (vV 0)<|vV 1)
def cR:Fk P w K mg base 15 "rows_on_both_sides" cB:=by
 show fk ["rows", "one", "other"] (T.F 37) T.z ?_;intro _ _ _ _ _ _ _ J G O z;show aD<|aJ<|Cj (d8 T)<|a2 (vV 1)<|Cj (iZ T)<|a2 (vV 0)<|vV 2
def ajo:Fk P w K mg base 16 "rows_size" tG:=by
 show fk ["rows"] (T.F 38) T.z ?_;intro _ _ _ _ _ _ _ J G O z;show aD<|aJ<|Cj (aji T)<|a3 (Bu (vV 0) aA) (Bu (vV 0) aA)<|Bu (vV 0) aA
def ajG:Fk P w K mg base 15 "curve_raw" mL:=by
 show fk (k:=14) ["five", "first", "second", "third", "last", "more", "less"] (T.F 39) T.z ?_;intro _ _ _ _ _ _ _ J G O z;show au (Ec 1<|Cj (bW T)<|a2 (Bu (vV 0) aA)<|Bu (vV 0) aA) ?_;show au (Ec 2<|Cj (bW T)<|a2 (Bu (vV 0) aA)<|Bu (vV 0) aA) ?_;show au (Ec 3<|Cj (bW T)<|a2 (Bu (vV 0) aA)<|Bu (vV 0) aA) ?_;show au (Ec 4<|Cj (bW T)<|a2 (Bu (vV 0) aA)<|Bu (vV 0) aA) ?_;show au (Ec 5<|Cj (cI T)<|a2 (Cj (d8 T)<|a2 (vV 1)<|Bu (vV 0) aA)<|Cj (d8 T)<|a2 (vV 2)<|Bu (vV 0) aA) ?_;show au (Ec 6<|Cj (cI T)<|a2 (Cj (d8 T)<|a2 (vV 3)<|Bu (vV 0) aA)<|Cj (d8 T)<|a2 (vV 4)<|Bu (vV 0) aA) ?_;show aD<|aJ<|Cj (pI T)<|a2 (Cj (dM T)<|a2 (Cj (jT T)<|a2 (vV 3)<|vV 4)<|vV 5)<|Cj (dM T)<|a2 (Cj (jT T)<|a2 (vV 1)<|vV 2)<|vV 6
def ajS:Fk P w K mg base 17 "pole_raw" qp:=by
 show fk ["curve", "line", "rows"] (T.F 40) T.z ?_;intro _ _ _ _ _ _ _ J G O z;show au (Ec 2<|Cj (gW T)<|a1<|vV 0)<|aD<|aJ<|Cj (dM T)<|a2 (Cj (iZ T)<|a2 (Cj (amS T)<|a1<|vV 2)<|vV 1)<|Cj (ajo T)<|a1<|vV 2
def zaf:Fk P w K mg base 16 "other_raw" mR:=by
 show fk ["curve", "one", "other", "rows", "own", "shared"] (T.F 41) T.z ?_;intro _ _ _ _ _ _ _ J G O z;show au (Ec 3<|Cj (gW T)<|a1<|vV 0) ?_;show au (Ec 4<|Cj (cR T)<|a3 (vV 3) (vV 2)<|vV 2) ?_;show au (Ec 5<|Cj (kZ T)<|a1<|Cj (cR T)<|a3 (vV 3) (vV 1)<|vV 2) ?_;show aD<|aJ<|Cj (pI T)<|a2 (Cj (dM T)<|a2 (vV 1)<|vV 4)<|Cj (dM T)<|a2 (vV 2)<|vV 5
def acW:Fk P w K mg base 18 "raw" abR:=by
 show fk (k:=17) ["rows", "things", "k", "word", "told"] (T.F 42) T.z ?_;intro _ _ _ _ _ _ _ J G O z;show au (Ec 3<|Bu (Bu (vV 0)<|vV 2) aA) ?_;show au (BK [1] (i:=4) (by assumption) (by rfl) (by show Or.inl rfl) hh (cA<|by rfl) xr (xq<|cA<|by rfl) (bH<|q9 (Bu (vV 0)<|vV 2) (c7 aA) jh) (λ_ _ _ _=>iy)<|λ_ _ _ _=>(Bu (vV 1)<|vV 0)) ?_;show au (dG (K4 (lD qq) (vV 3) bI) (aD<|aJ<|Cj (ajG T)<|a1<|vV 4) bG) ?_;show au (dG (K4 (lD qq) (vV 3) bI) (aD<|aJ<|Cj (iZ T)<|a2 (Cj (gW T)<|a1<|Bu (vV 4) aA)<|Bu (vV 4) aA) bG) ?_;show au (dG (K4 (lD qq) (vV 3) bI) (aD<|aJ<|Cj (ajS T)<|a2 (Bu (vV 4) aA)<|Bu (vV 4) aA) bG) ?_;show au (dG (K4 (lD qq) (vV 3) bI) (aD<|aJ<|Cj (zaf T)<|a3 (Bu (vV 4) aA) (Bu (vV 4) aA)<|Bu (vV 4) aA) bG) ?_;show aD<|aJ<|Cj (bW T)<|a2 (Bu (vV 4) aA)<|Bu (vV 4) aA
def acg:Fk P w K mg base 16 "tie" ab3:=by
 show fk ["rows", "things", "k", "spot"] (T.F 43) T.z ?_;intro _ _ _ _ _ _ _ J G O z;show au (Ec 3<|Bu (vV 1)<|Bu (Bu (vV 0)<|vV 2) aA)<|aD<|aJ<|Cj (cR T)<|a3 (Cj (gW T)<|a1<|Bu (vV 1)<|Bu (Bu (vV 0)<|vV 2) aA) (vV 3)<|vV 3
def qg:Fk P w K mg base 10 "rows_of" oh:=by
 show fk ["table"] (T.F 44) T.z ?_;intro _ _ _ _ _ _ _ J G O z;show aD<|aJ<|j8<|a3 (q9 (vV 0) (c7 aA)<|c7 aA) (q9 (vV 0) (c7 aA)<|c7 aA)<|q9 (vV 0) (c7 aA)<|c7 aA
def zaL:Fk P w K mg base 12 "size_of" Ao:=by
 show fk (k:=11) ["numbers", "rows"] (T.F 45) T.z ?_;intro _ _ _ _ _ _ _ J G O z;show au (Ec 1<|Cj (qg T)<|a1<|vV 0) ?_;show aD<|aJ<|Cj (akM T)<|a3 (Bu (vV 1) aA) (Bu (vV 1) aA)<|Bu (vV 1) aA
def dD:Fk P w K mg base 11 "table_times_row" cG:=by
 show fk (k:=10) ["table", "row"] (T.F 46) T.z ?_;intro _ _ _ _ _ _ _ J G O z;show aD<|aJ<|RD [1] (bH<|Cj (qg T)<|a1<|vV 0)<|λ_ _ _ _=>(Cj (oG T)<|a2 (vV 0)<|vV 1)
def zaY:Fk P w K mg base 11 "turned" xJ:=by
 show fk (k:=10) ["table", "rows"] (T.F 47) T.z ?_;intro _ _ _ _ _ _ _ J G O z;show au (Ec 1<|Cj (qg T)<|a1<|vV 0) ?_;show aD<|aJ<|bF bO (bF bO (Cj (eX T)<|a2 (Bu (vV 1) aA)<|Bu (vV 1) aA)<|Cj (eX T)<|a2 (Bu (vV 1) aA)<|Bu (vV 1) aA)<|Cj (eX T)<|a2 (Bu (vV 1) aA)<|Bu (vV 1) aA
def akv:Fk P w K mg base 10 "tiles" Mz:=by
 show fk (k:=9) [] (T.F 48) T.z ?_;intro _ _ _ _ _ _ _ Y U a z;obtain⟨O,J,G⟩:=T.c_TILES;show aD<|aJ<|dct sW boot_list<|a1<|dc (v:=.ref O) (j7 (by rfl) J<|by rfl) G
def akp:Fk P w K mg base 10 "worth" Sh:=by
 show fk (k:=9) ["curve", "spot", "x", "y", "z", "squares"] (T.F 49) T.z ?_;intro _ _ _ _ _ _ _ J G O z;show au (Ec 2<|Bu (vV 1) aA) ?_;show au (Ec 3<|Bu (vV 1) aA) ?_;show au (Ec 4<|Bu (vV 1) aA) ?_;show au (Ec 5<|bF bO (bF bO (bF bL (bF bL (Bu (vV 0) aA)<|vV 2)<|vV 2)<|bF bL (bF bL (Bu (vV 0) aA)<|vV 3)<|vV 3)<|bF bL (bF bL (Bu (vV 0) aA)<|vV 4)<|vV 4) ?_;show aD<|aJ<|bF bO (bF bO (bF bO (vV 5)<|bF bL (bF bL (Bu (vV 0) aA)<|vV 2)<|vV 3)<|bF bL (bF bL (Bu (vV 0) aA)<|vV 2)<|vV 4)<|bF bL (bF bL (Bu (vV 0) aA)<|vV 3)<|vV 4
def akJ:Fk P w K mg base 11 "is_on_curve" nZ:=by
 show fk (k:=10) ["curve", "spot"] (T.F 50) T.z ?_;intro _ _ _ _ _ _ _ J G O z;show aD<|aJ<|RK (lD qq) (Cj (akp T)<|a2 (vV 0)<|vV 1) aA
def uw:Fk P w K mg base 10 "together" wH:=by
 show fk (k:=9) ["line", "other"] (T.F 51) T.z ?_;intro _ _ _ _ _ _ _ J G O z;show aD<|aJ<|fP<|aC (bF bL (Bu (vV 0) aA)<|Bu (vV 1) aA)<|aC (bF bO (bF bL (Bu (vV 0) aA)<|Bu (vV 1) aA)<|bF bL (Bu (vV 0) aA)<|Bu (vV 1) aA)<|aC (bF bL (Bu (vV 0) aA)<|Bu (vV 1) aA)<|a3 (bF bO (bF bL (Bu (vV 0) aA)<|Bu (vV 1) aA)<|bF bL (Bu (vV 0) aA)<|Bu (vV 1) aA) (bF bO (bF bL (Bu (vV 0) aA)<|Bu (vV 1) aA)<|bF bL (Bu (vV 0) aA)<|Bu (vV 1) aA)<|bF bL (Bu (vV 0) aA)<|Bu (vV 1) aA
def jq:Fk P w K mg base 10 "table_of" iW:=by
 show fk (k:=9) ["curve"] (T.F 52) T.z ?_;intro _ _ _ _ _ _ _ J G O z;show aD<|aJ<|fP<|aC (bF bL aA<|Bu (vV 0) aA)<|aC (Bu (vV 0) aA)<|aC (Bu (vV 0) aA)<|aC (Bu (vV 0) aA)<|aC (bF bL aA<|Bu (vV 0) aA)<|aC (Bu (vV 0) aA)<|a3 (Bu (vV 0) aA) (Bu (vV 0) aA)<|bF bL aA<|Bu (vV 0) aA
def pJ:Fk P w K mg base 12 "both_sides" jZ:=by
 show fk (k:=11) ["table", "one", "other"] (T.F 53) T.z ?_;intro _ _ _ _ _ _ _ J G O z;show aD<|aJ<|Cj (oG T)<|a2 (vV 1)<|Cj (dD T)<|a2 (vV 0)<|vV 2
def ajd:Fk P w K mg base 13 "is_round" pY:=by
 show fk (k:=12) ["curve"] (T.F 54) T.z ?_;intro _ _ _ _ _ _ _ J G O z;show aD<|aJ<|RK (J6 qq) (Cj (zaL T)<|a1<|Cj (jq T)<|a1<|vV 0) aA
def akL:Fk P w K mg base 11 "mixed" PL:=by
 show fk (k:=10) ["spots", "first", "second", "third", "last", "more", "less"] (T.F 55) T.z ?_;intro _ _ _ _ _ _ _ J G O z;show au (Ec 1<|Cj (eX T)<|a2 (Bu (vV 0) aA)<|Bu (vV 0) aA) ?_;show au (Ec 2<|Cj (eX T)<|a2 (Bu (vV 0) aA)<|Bu (vV 0) aA) ?_;show au (Ec 3<|Cj (eX T)<|a2 (Bu (vV 0) aA)<|Bu (vV 0) aA) ?_;show au (Ec 4<|Cj (eX T)<|a2 (Bu (vV 0) aA)<|Bu (vV 0) aA) ?_;show au (Ec 5<|bF bL (Cj (oG T)<|a2 (vV 1)<|Bu (vV 0) aA)<|Cj (oG T)<|a2 (vV 2)<|Bu (vV 0) aA) ?_;show au (Ec 6<|bF bL (Cj (oG T)<|a2 (vV 3)<|Bu (vV 0) aA)<|Cj (oG T)<|a2 (vV 4)<|Bu (vV 0) aA) ?_;show aD<|aJ<|abB [5,6] hh (cA<|by rfl) S9 (QB hh<|cA<|by rfl) (Jw (by rfl) (by show T.z _ ∅) (a2 (Cj (uw T)<|a2 (vV 3)<|vV 4)<|Cj (uw T)<|a2 (vV 1)<|vV 2) (aN<|by rfl)<|bM<|by rfl) (λ_ _ _ _=>iy)<|λ_ _ _ _=>(bF qb (bF bL (vV 2)<|vV 0)<|bF bL (vV 3)<|vV 1)
def zay:U4 P w K mg base 14 "through" uD:=by
 show VN (k:=13) ["spots"] (T.F 56) T.z ?_;intro _ _ _ _ _ _ _ J G O z;show aW (λ_=>trivial) ?_ ?_;show gR (j9<|Cj (alV T)<|a1<|vV 0) (aZ<|fu hh (by rfl) T.xm_Alike T.xq_Alike T.xc_Alike) cV;show aW (λ_=>trivial) ?_ ?_;show gR (j9<|Cj (amK T)<|a2 (vV 0) aA) (aZ<|fu hh (by rfl) T.xm_FourOnLine T.xq_FourOnLine T.xc_FourOnLine) cV;show aZ ?_;show gD<|QV (nY T)<|a1<|Cj (akL T)<|a1<|vV 0
def jz:Fk P w K mg base 13 "plain_or_none" gB:=by
 show fk (k:=12) ["numbers"] (T.F 57) T.z ?_;intro _ _ _ _ _ _ _ J G O z;show aD<|aJ<|ahp (j9<|Kl (Z8 hh) boot_any<|a1<|RD [] (bH<|vV 0)<|λ_ _ _ _=>(RK (J6 qq) (vV 0) aA)) (Cj (akl T)<|a1<|vV 0) En
def ank:U4 P w K mg base 14 "line_about" jX:=by
 show VN (k:=13) ["curve", "spot", "line"] (T.F 58) T.z ?_;intro _ _ _ _ _ _ _ J G O z;show aW (λ_=>trivial) ?_ ?_;show dW<|Ec 2<|Cj (jz T)<|a1<|Cj (dD T)<|a2 (Cj (jq T)<|a1<|vV 0)<|vV 1
 show aW (λ_=>trivial) ?_ ?_;show gR (K4 afr (vV 2) En) (aZ<|fu hh (by rfl) T.xm_Knot T.xq_Knot T.xc_Knot) cV;show aZ ?_;show dW<|aJ<|vV 2
def amJ:U4 P w K mg base 14 "spot_about" kW:=by
 show VN (k:=13) ["curve", "line"] (T.F 59) T.z ?_;intro _ _ _ _ _ _ _ J G O z;show aW (λ_=>trivial) ?_ ?_;show gR (Ab<|j9<|Cj (ajd T)<|a1<|vV 0) (aZ<|fu hh (by rfl) T.xm_NotRound T.xq_NotRound T.xc_NotRound) cV;show aZ ?_;show gD<|QV (nY T)<|a1<|Cj (dD T)<|a2 (Cj (zaY T)<|a1<|Cj (jq T)<|a1<|vV 0)<|vV 1
def ame:Fk P w K mg base 15 "another_spot" lR:=by
 show fk (k:=14) ["line", "spot", "met"] (T.F 60) T.z ?_;intro _ _ _ _ _ _ _ J G O z;show au (BK [0] (i:=2) (by assumption) (by rfl) (by show Or.inl rfl) hh (cA<|by rfl) xr (xq<|cA<|by rfl) (bH<|q9 (dc0<|akv T) jh<|c7 aA) (λ_ _ _ _=>(iD<|K4 (J6 qq) (vV 0)<|vV 1))<|λ_ _ _ _=>(Cj (amg T)<|a2 (vV 1)<|vV 0)) ?_;show aD<|aJ<|Bu (dl1 [1] (bH<|vV 2) (λ_ _ _ _=>(iD<|K4 (J6 qq) (vV 0)<|vV 1))<|λ_ _ _ _=>(vV 0)) aA
def amh:U4 P w K mg base 16 "other_end" mJ:=by
 show VN (k:=15) ["curve", "spot", "line", "table", "another", "own", "shared", "end"] (T.F 61) T.z ?_;intro _ _ _ _ _ _ _ J G O z;show aW (λ_=>trivial) ?_ ?_;show gR (Uv (Ab<|j9<|Cj (akJ T)<|a2 (vV 0)<|vV 1)<|GZ<|Ab<|j9<|Cj (zaP T)<|a2 (vV 1)<|vV 2).pt (aZ<|fu hh (by rfl) T.xm_NotOn T.xq_NotOn T.xc_NotOn) cV;show aW (λ_=>trivial) ?_ ?_;show dW<|Ec 3<|Cj (jq T)<|a1<|vV 0
 show aW (λ_=>trivial) ?_ ?_;show dW<|Ec 4<|Cj (ame T)<|a2 (vV 2)<|vV 1
 show aW (λ_=>trivial) ?_ ?_;show dW<|Ec 5<|Cj (pJ T)<|a3 (vV 3) (vV 4)<|vV 4
 show aW (λ_=>trivial) ?_ ?_;show dW<|Ec 6<|bF bL aA<|Cj (pJ T)<|a3 (vV 3) (vV 1)<|vV 4
 show aW (λ_=>trivial) ?_ ?_;show dW<|Ec 7<|Cj (jz T)<|a1<|abB [5,6] hh (cA<|by rfl) S9 (QB hh<|cA<|by rfl) (Jw (by rfl) (by show T.z _ ∅) (a2 (vV 1)<|vV 4) (aN<|by rfl)<|bM<|by rfl) (λ_ _ _ _=>iy)<|λ_ _ _ _=>(bF qb (bF bL (vV 2)<|vV 0)<|bF bL (vV 3)<|vV 1)
 show aW (λ_=>trivial) ?_ ?_;show gR (K4 afr (vV 7) En) (aZ<|fu hh (by rfl) T.xm_InCurve T.xq_InCurve T.xc_InCurve) cV;show aZ ?_;show dW<|aJ<|vV 7
def aml:U4 P w K mg base 17 "made_by_row" oJ:=by
 show VN (k:=16) ["row", "things", "told"] (T.F 62) T.z ?_;intro _ _ _ _ _ _ _ J G O z;show aW (λ_=>trivial) ?_ ?_;show dW<|BK [1] (i:=2) (by assumption) (by rfl) (by show Or.inl rfl) hh (cA<|by rfl) xr (xq<|cA<|by rfl) (bH<|q9 (vV 0) (c7 aA) jh) (λ_ _ _ _=>iy)<|λ_ _ _ _=>(Bu (vV 1)<|vV 0)
 show aW (λ_=>trivial) ?_ ?_;show gR (K4 (lD qq) (Bu (vV 0) aA) bI) (aZ<|gD<|QV (HY T)<|a2 (Bu (vV 2) aA)<|Bu (vV 2) aA) cV;show aW (λ_=>trivial) ?_ ?_;show gR (K4 (lD qq) (Bu (vV 0) aA) bI) (aZ<|gD<|QV (Hi T)<|a2 (Bu (vV 2) aA)<|Bu (vV 2) aA) cV;show aW (λ_=>trivial) ?_ ?_;show gR (K4 (lD qq) (Bu (vV 0) aA) bI) (aZ<|gD<|QV (zay T)<|a1<|vV 2) cV;show aW (λ_=>trivial) ?_ ?_;show gR (K4 (lD qq) (Bu (vV 0) aA) bI) (aZ<|gD<|QV (ank T)<|a2 (Bu (vV 2) aA)<|Bu (vV 2) aA) cV;show aW (λ_=>trivial) ?_ ?_;show gR (K4 (lD qq) (Bu (vV 0) aA) bI) (aZ<|gD<|QV (amJ T)<|a2 (Bu (vV 2) aA)<|Bu (vV 2) aA) cV;show aZ ?_;show gD<|aiJ (amh T)<|Jb (λ_=>trivial) (Bu (vV 2) aA) (Jb (λ_=>trivial) (Bu (vV 2) aA) (ajU (QV (HY T)<|a2 (Bu (vV 2) aA)<|Bu (vV 2) aA) cQ<|aN<|by rfl)<|aN<|by rfl)<|aN<|by rfl
def vK:U4 P w K mg base 18 "placed" xu:=by
 show VN (k:=17) ["rows", "spots", "things", "free", "k", "row", "made"] (T.F 63) T.z ?_;intro _ _ _ _ _ _ _ Y b c z;obtain⟨_,_,_,G,J,O,U⟩:=aml T;show aW (λ_=>trivial) ?_ ?_;show dW<|Ec 2<|jY cQ
 show aW (λ_=>trivial) ?_ ?_;show dW<|Ec 3 aA
 show aW (λ_=>trivial) ?_ ?_;show(aah PassesOwn.leaving c (λ_=>trivial) (aak (by rfl) (by show T.z _ ∅) (fH (dv 0 (pv 0)) cQ (aN (by rfl))) (aN (by rfl)) (bM (by rfl))) (qu c (cY (Fj (qw (i:=4) b (by rfl) (by show Or.inl rfl))) (cY (Fj (qw (i:=5) b (by rfl) (by show Or.inl rfl))) p7))) (aZ (gR (WD (lD (ahw Y)) (agd (dv 5 (pv 5)) aA (by intro _ _;rfl)) bI (R8 _)) (aW (λ_=>trivial) (dW (fW (fU (dv 2 (pv 2)) (fH (agd (dv 1 (pv 1)) (dv 3 (pv 3)) (by intro _ _;rfl)) cQ (aN (by rfl))) (by rfl) (uW (by rfl)) (by rfl) (aN (by rfl)) (by rfl)))) (aZ (dW (Hj (i:=3) b (by rfl) (by show Or.inl rfl) (bF bO (dv 3 (pv 3)) aA))))) (aW (λ_=>trivial) (zbV (by rfl) T.xm_EaselError T.xd_EaselError ⟨rfl,rfl⟩ rfl (λ_=>trivial) (λapn xe d=>(aZ (Qh (i:=6) b (by rfl) (by show Or.inl rfl) (Ey (G.mono ∅) Y (by rfl) (by show J) (by show O) (by show U) (fH (dv 5 (pv 5)) (fH (dv 2 (pv 2)) cQ (aN (by rfl))) (aN (by rfl))) ∅ (aN (by rfl)) (bM (by rfl)))))) (λa H0 xe e=>by
 have Y:=G8 (a:=a) Y ∅;show(aZ (amc e (by rfl) (by rfl) T.xm_Stuck T.xi_Stuck T.xf_Stuck ((zbk T).mono ∅) Y (by show T.b_Stuck_init) T.xa_Stuck (by rfl) (dv 4 (pv 4)))))) (aZ (dW (fW (fU (dv 2 (pv 2)) (fH (dv 6 (pv 6)) cQ (aN (by rfl))) (by rfl) (uW (by rfl)) (by rfl) (aN (by rfl)) (by rfl)))))))))
 show aZ ?_;show dW<|aJ<|vV 2
def zbd:Fk P w K mg base 18 "placed" xu:=(vK T).tame
def fX:Fk P w K mg base 10 "_law_cell" xZ:=by
 show fk (k:=9) ["_law_script", "_law_k"] (T.F 64) T.z ?_;intro _ _ _ _ _ _ _ J G O z;show au (dG (K4 aaL (vV 1)<|Kl fY Oa<|a1<|vV 0) (aD<|aJ<|Bu (vV 0)<|vV 1) bG) ?_;show aD<|aJ aA
def xY:Fk P w K mg base 10 "_law_bag" Fg:=by
 show fk (k:=9) ["_law_cell_here"] (T.F 65) T.z ?_;intro _ _ _ _ _ _ _ J G O z;show aD<|aJ<|jY<|a2 (bF Ws (Kl Lj boot_abs<|a1<|vV 0)<|dct Vi boot_int<|a1<|RK aiK (Kl Lj boot_abs<|a1<|vV 0)<|bF agL aA aA)<|bF qY (Kl Lj boot_abs<|a1<|vV 0) aA
def cX:Fk P w K mg base 10 "_law_draw" pF:=by
 show fk (k:=9) ["_law_bag_here", "_law_many", "_law_found"] (T.F 66) T.z ?_;intro _ _ _ _ _ _ _ J G O z;show au (dG (K4 Ma (Bu (vV 0) aA) aA) (au (Ec 2<|bF qY (Bu (vV 0) aA)<|vV 1)<|au (lQ (bF wO (Bu (vV 0) aA)<|vV 1)<|lU (vV 0) aA set_list zA)<|aD<|aJ<|vV 2) bG) ?_;show au (lQ (bF qY (bF bO (bF bL (Bu (vV 0) aA) aA) aA) aA)<|lU (vV 0) aA set_list zA) ?_;show aD<|aJ<|bF qY (bF wO (bF qY (bF bL (Bu (vV 0) aA)<|bF bO (bF wO (Bu (vV 0) aA) aA) aA) aA) aA)<|vV 1
def Ar:Fk P w K mg base 10 "_law_asks" Jj:=by
 show fk (k:=9) ["_law_word", "_law_asks_here"] (T.F 67) T.z ?_;intro _ _ _ _ _ _ _ J G O z;show au ?_ ?_;with_reducible show Ec 1 (acn (Uk.cons (j8 cQ) (Uk.cons (j8 (a2 bI bI)) (Uk.cons (j8 (a2 bI bI)) (Uk.cons (j8 (a2 bI bI)) Uk.nil)))) (by with_unfolding_all show List.cons_ne_nil _ _) (by with_unfolding_all show YW rfl))
 show au (lQ (j8<|aC bI<|aC bI<|a3 bI bI bI)<|lU (vV 1) bI set_dict lB) ?_;show au (lQ (j8<|a2 bI bI)<|lU (vV 1) bI set_dict lB) ?_;show au (lQ (j8<|a3 bI bI bI)<|lU (vV 1) bI set_dict lB) ?_;show aD<|aJ<|aeT (vV 1) (vV 0) (by intro _ _;rfl)
def zO:Fk P w K mg base 10 "_law_sort" zp:=by
 show fk (k:=9) ["_law_row_here"] (T.F 68) T.z ?_;intro _ _ _ _ _ _ _ J G O z;show au (dG (Uv (K4 (lD qq) (Bu (vV 0) aA) bI)<|GZ<|K4 (lD qq) (Bu (vV 0) aA) bI).pt (aD<|aJ bI) bG) ?_;show aD<|aJ<|Bu (j8<|a2 bI bI)<|dct Vi boot_int<|a1<|RK (lD qq) (Bu (vV 0) aA) bI
def zbq:Fk P w K mg base 11 "_law_pick" IW:=by
 show fk (k:=10) ["_law_bag_here", "_law_rows_here", "_law_sort_here", "_law_numbers_here"] (T.F 69) T.z ?_;intro _ _ _ _ _ _ _ J G O z;show au (BK [1,2] (i:=3) (by assumption) (by rfl) (by show Or.inl rfl) hh (cA<|by rfl) xr (xq<|cA<|by rfl) (drg<|a1<|Kl fY Oa<|a1<|vV 1) (λ_ _ _ _=>(iD<|K4 (lD qq) (Cj (zO T)<|a1<|Bu (vV 1)<|vV 0)<|vV 2))<|λ_ _ _ _=>(vV 0)) ?_;show aD<|aJ<|Bu (vV 3)<|Cj (cX T)<|a2 (vV 0)<|Kl fY Oa<|a1<|vV 3
def akB:Fk P w K mg base 12 "_law_row" Rt:=by
 show fk (k:=11) ["_law_bag_here", "_law_rows_here", "_law_frees", "_law_sorts", "_law_words", "_law_word", "_law_lacking"] (T.F 70) T.z ?_;intro _ _ _ _ _ _ _ J G O z;show au (Ec 3<|RD [] (bH<|vV 1)<|λ_ _ _ _=>(Cj (zO T)<|a1<|vV 0)) ?_;show au ?_ ?_;(show Ec 4 ?_;show j8 ?_;show aC bI ?_;show aC bI ?_;show aC bI ?_;show aC bI ?_;show aC bI ?_;show aC bI ?_;show aC bI ?_;show a3 bI bI bI);show au (Ec 5<|Bu (vV 4)<|Cj (cX T)<|a2 (vV 0) aA) ?_;show au (BK [3] (i:=6) (by assumption) (by rfl) (by show Or.inl rfl) hh (cA<|by rfl) xr (xq<|cA<|by rfl) (bH<|Cj (Ar T)<|a1<|vV 5) (λ_ _ _ _=>(iD<|K4 (ad7 qq) (vV 0)<|vV 1))<|λ_ _ _ _=>(vV 0)) ?_;show au (dG (Uv (K4 aaL (Kl fY Oa<|a1<|vV 1)<|vV 2)<|GZ<|K4 Ma (Kl fY Oa<|a1<|vV 6) aA).pt (aD<|Ec 5<|Bu (j8<|a2 bI bI)<|dct Vi boot_int<|a1<|RK aaL (Kl fY Oa<|a1<|vV 1)<|vV 2) bG) ?_;show aD<|aJ<|dct gH V0<|a1<|bF bO (j8<|a1<|vV 5)<|RD [0,1] (bH<|Cj (Ar T)<|a1<|vV 5)<|λ_ _ _ _=>(Cj (zbq T)<|a3 (vV 1) (vV 2)<|vV 0)
def zaj:Fk P w K mg base 10 "_law_divisor" rM:=by
 show fk (k:=9) ["_law_numbers_here", "_law_found", "_law_number_here", "_law_one"] (T.F 71) T.z ?_;intro _ _ _ _ _ _ _ J G O z;show au (Ec 1 aA) ?_;show au (dU QD hh (bH<|vV 0) (Ny 2)<|au (Ec 3<|Kl Lj boot_abs<|a1<|vV 2)<|aD<|yq QD (K4 Ma (vV 3) aA)<|aD<|akV<|adI (i:=1) (j:=3) hh (by assumption) (by rfl) (by rfl) ∅ (by rfl) (by rfl) (a2 (vV 3)<|bF qY (vV 1)<|vV 3)<|by rfl) ?_;show aD<|aJ<|vV 1
def wg:Fk P w K mg base 11 "_law_plain" nP:=by
 show fk (k:=10) ["_law_numbers_here", "_law_by", "_law_last"] (T.F 72) T.z ?_;intro _ _ _ _ _ _ _ J G O z;show au (Ec 1<|Cj (zaj T)<|a1<|vV 0) ?_;show au (Ec 2<|Bu (dl1 [] (bH<|vV 0) (λ_ _ _ _=>(iD<|K4 (J6 qq) (vV 0) aA))<|λ_ _ _ _=>(vV 0))<|Ld aA) ?_;show au (dG (K4 aaL (vV 2) aA) (aD<|Ec 1<|bF qb aA<|vV 1) bG) ?_;show aD<|aJ<|dct gH V0<|a1<|RD [1] (bH<|vV 0)<|λ_ _ _ _=>(bF wO (vV 0)<|vV 1)
def ajW:Fk P w K mg base 12 "_law_spot" Hs:=by
 show fk (k:=11) ["_law_bag_here", "_law_top", "_law_row_here"] (T.F 73) T.z ?_;intro _ _ _ _ _ _ _ J G O z;show au ?_ ?_;with_reducible show Ec 2 (jY (a3 (bF qb (Cj (by with_unfolding_all show cX T) (a2 (vV 0) aA)) aA) (bF qb (Cj (by with_unfolding_all show cX T) (a2 (vV 0) aA)) aA) (Bu (j8 (aC aA (aC aA (aC aA (aC aA (aC aA (a3 aA aA aA))))))) (Cj (by with_unfolding_all show cX T) (a2 (vV 0) aA)))))
 show au (dG (K4 Ma (vV 1) aA) (aD<|Ec 2<|jY<|a3 (bF qb (Cj (cX T)<|a2 (vV 0)<|bF bL aA<|vV 1)<|vV 1) (bF qb (Cj (cX T)<|a2 (vV 0)<|bF bL aA<|vV 1)<|vV 1)<|Cj (cX T)<|a2 (vV 0)<|vV 1) bG) ?_;show au (dG (K4 (lD qq) (vV 2)<|j8<|a3 aA aA aA) (aD<|lQ aA<|lU (vV 2) (Cj (cX T)<|a2 (vV 0) aA) set_list zA) bG) ?_;show aD<|aJ<|Cj (wg T)<|a1<|vV 2
def tZ:Fk P w K mg base 10 "_law_weight" vR:=by
 show fk (k:=9) ["_law_rows_here", "_law_weights", "_law_row_here", "_law_some"] (T.F 74) T.z ?_;intro _ _ _ _ _ _ _ J G O z;show au (BK [1] (i:=3) (by assumption) (by rfl) (by show Or.inl rfl) hh (cA<|by rfl) xr (xq<|cA<|by rfl) (bH<|q9 (vV 2) (c7 aA) jh) (λ_ _ _ _=>iy)<|λ_ _ _ _=>(Bu (vV 1)<|vV 0)) ?_;show au (dG (K4 (lD qq) (Bu (vV 2) aA) bI) (aD<|aJ aA) bG) ?_;show au (dG (K4 (lD qq) (Bu (vV 2) aA) bI) (aD<|aJ<|bF bL aA<|Kl (aat hh) boot_sum<|a1<|vV 3) bG) ?_;show au (dG (K4 (lD qq) (Bu (vV 2) aA) bI) (aD<|aJ<|bF bO (bF bL aA<|Bu (vV 3) aA)<|Bu (vV 3) aA) bG) ?_;show au (dG (K4 (lD qq) (Bu (vV 2) aA) bI) (aD<|aJ<|bF bO (bF bO (Bu (vV 3) aA)<|Bu (vV 3) aA)<|bF bL aA<|Bu (vV 3) aA) bG) ?_;show aD<|aJ<|Kl (aat hh) boot_sum<|a1<|vV 3
def zbe:Fk P w K mg base 13 "_law_rows" Ir:=by
 show fk (k:=12) ["_law_script", "_law_size", "_law_frees", "_law_most", "_law_rows_here", "_law_weights", "_law_k", "_law_row_here"] (T.F 75) T.z ?_;intro _ _ _ _ _ _ _ J G O z;show au (Ec 4<|jY cQ) ?_;show au (Ec 5<|jY cQ) ?_;show au (dU QD hh (drg<|a1<|vV 1) (Ny 6)<|au (Ec 7<|Cj (akB T)<|a3 (Cj (xY T)<|a1<|Cj (fX T)<|a2 (vV 0)<|bF bO aA<|vV 6) (vV 4)<|vV 2)<|au (dG (K4 Ma (Cj (tZ T)<|a3 (vV 4) (vV 5)<|vV 7)<|vV 3) (aD<|Ec 7<|fP<|a3 bI aA<|Kl (ad4 hh) boot_min<|a2 aA<|bF qb (vV 2) aA) bG)<|au (fW<|fU (vV 5) (a1<|Cj (tZ T)<|a3 (vV 4) (vV 5)<|vV 7) (by rfl) (uW<|by rfl) (by rfl) (aN<|by rfl)<|by rfl)<|aD<|fW<|fU (vV 4) (a1<|vV 7) (by rfl) (uW<|by rfl) (by rfl) (aN<|by rfl)<|by rfl) ?_;show aD<|aJ<|vV 4
def akP:Fk P w K mg base 10 "_law_amid" JG:=by
 show fk (k:=9) ["_law_rows_here", "_law_frees", "_law_places", "_law_laid", "_law_ahead", "_law_k", "_law_number_here"] (T.F 76) T.z ?_;intro _ _ _ _ _ _ _ J G O z;show au ?_ ?_;with_reducible show Ec 2 WT
 show au (Ec 3<|jY cQ) ?_;show au (Ec 4 aA) ?_;show au (dU QD hh (tQ (by rfl) (by show T.z _ ∅)<|a2 (vV 1)<|Kl fY Oa<|a1<|vV 0) (Ny 5)<|au (dU QD hh (bH<|q9 (Bu (vV 0)<|vV 5) (c7 aA) jh) (Ny 6)<|aD<|yq QD (Pj (K4 aaL (vV 6)<|vV 1)<|Du<|K4 aib (vV 4)<|vV 6).pt (au (lQ (Kl fY Oa<|a1<|vV 3)<|lU (vV 2) (vV 4) set_dict lB)<|au (fW<|fU (vV 3) (a1<|fP<|a1 bI) (by rfl) (uW<|by rfl) (by rfl) (aN<|by rfl)<|by rfl)<|aD<|Ec 4<|bF bO (vV 4) aA))<|au (lQ (Kl fY Oa<|a1<|vV 3)<|lU (vV 2) (vV 5) set_dict lB)<|aD<|fW<|fU (vV 3) (a1<|dct gH V0<|a1<|bF bO (j8<|a1<|Bu (Bu (vV 0)<|vV 5) aA)<|RD [2] (bH<|q9 (Bu (vV 0)<|vV 5) (c7 aA) jh)<|λ_ _ _ _=>(aeT (vV 1) (vV 0) (by intro _ _;rfl))) (by rfl) (uW<|by rfl) (by rfl) (aN<|by rfl)<|by rfl) ?_;show aD<|aJ<|bF bO (vV 3)<|RD [] (tQ (by rfl) (by show T.z _ ∅)<|a2 (vV 4)<|vV 1)<|λ_ _ _ _=>(fP<|a1 bI)
def zax:Fk P w K mg base 10 "_law_number" vY:=by
 show fk (k:=9) ["_law_number_here", "_law_letters"] (T.F 77) T.z ?_;intro _ _ _ _ _ _ _ J G O z;show au (dG (K4 (lD qq) (vV 0) aA) (aD<|aJ<|fP cQ) bG) ?_;show aD ?_;try unfold qU
 with_reducible show aJ (fP (a1 (fP (a2 (bF aeu (fP (a1 aA)) (vV 1)) (vV 0)))))
def zak:Fk P w K mg base 10 "_law_numbers" tU:=by
 show fk (k:=9) ["_law_thing", "_law_numbers_here", "_law_part"] (T.F 78) T.z ?_;intro _ _ _ _ _ _ _ J G O z;show au (Ec 1<|jY cQ) ?_;show au (dU QD hh (bH<|vV 0) (Ny 2)<|au (dG (Uv (K4 Ma (Kl fY Oa<|a1<|vV 2) aA)<|GZ (Pj (K4 (lD qq) (Kl fY Oa<|a1<|vV 2) aA)<|Du<|K4 Ma (Kl (adL hh) boot_sum<|a1<|Bu (Bu (vV 2) aA) aA) aA).pt).pt (aD<|aJ En) bG)<|aD<|fW<|fU (vV 1) (a1<|Kl (aat hh) boot_sum<|a1<|RD [] (bH<|vV 2)<|λ_ _ _ _=>(Bu (vV 0) aA)) (by rfl) (uW<|by rfl) (by rfl) (aN<|by rfl)<|by rfl) ?_;show aD<|aJ<|dct gH V0<|a1<|vV 1
def ajg:Fk P w K mg base 19 "_law_placed" vW:=by
 show fk (k:=18) ["_law_rows_here", "_law_spots", "_law_at", "_law_things", "e"] (T.F 79) T.z ?_;intro _ _ _ _ _ _ _ b Y d z;obtain⟨_,_,_,G,J,O,U⟩:=vK T;show au (Ec 2<|Kl fY Oa<|a1<|vV 0) ?_;show au ((ang (i:=4) Y (by rfl) (by rfl) (by rfl) T.xm_Stuck T.xd_Stuck ⟨rfl,rfl⟩ rfl (λapn xe c=>(aZ (Qh (i:=3) Y (by rfl) (by show Or.inl rfl) (Ey (G.mono ∅) b (by rfl) (by show J) (by show O) (by show U) (fH (yX sW (by rfl) (by show T.z _ ∅) boot_list (fH (dv 0 (pv 0)) cQ (aN (by rfl))) ∅ ∅ (aN (by rfl)) (bM (by rfl))) (fH (yX sW (by rfl) (by show T.z _ ∅) boot_list (fH (dv 1 (pv 1)) cQ (aN (by rfl))) ∅ ∅ (aN (by rfl)) (bM (by rfl))) cQ (aN (by rfl))) (aN (by rfl))) ∅ (aN (by rfl)) (bM (by rfl)))))) (λa H0=>by
  have b:=G8 (a:=a) b ∅;show(au (Hj (i:=2) Y (by rfl) (by show Or.inl rfl) (adG (dv 4 (pv 4)) (by rfl))) (aD (Hj (i:=3) Y (by rfl) (by show Or.inl rfl) En)))))) ?_
 show au (dG (K4 afr (vV 3) En) (aD<|Ec 3<|Cj (zbd T)<|a2 (q9 (vV 0) jh<|c7<|vV 2)<|q9 (vV 1) jh<|c7<|Kl fY Oa<|a1<|dl1 [] (bH<|q9 (vV 0) jh<|c7<|vV 2) (λ_ _ _ _=>(iD<|K4 (lD qq) (Bu (vV 0) aA) bI))<|λ_ _ _ _=>(vV 0)) bG) ?_;show aD<|aJ<|vV 3
def amH:Fk P w K mg base 19 "_law_row_good" kj:=by
 show fk (k:=18) ["_law_rows_here", "_law_some", "_law_things", "_law_k", "_law_numbers_here", "_law_tied"] (T.F 80) T.z ?_;intro _ _ _ _ _ _ _ J G O z;show au (Ec 4<|Cj (zak T)<|a1<|Cj (acW T)<|a3 (dct sW boot_list<|a1<|vV 0) (dct sW boot_list<|a1<|vV 1)<|vV 3) ?_;show au (dG (K4 afr (vV 4) En) (aD<|aJ ad1) bG) ?_;show au (Ec 5<|Yn (RK (lD qq) (Bu (Bu (vV 0)<|vV 3) aA) bI)<|Zf<|RK (J6 qq) (Cj (acg T)<|a3 (dct sW boot_list<|a1<|vV 0) (dct sW boot_list<|a1<|vV 1)<|vV 3)<|fP cQ) ?_;show au (dG (K4 (lD qq) (vV 3)<|Kl fY Oa<|a1<|vV 2) (aD<|aJ<|aiq (vV 5)<|Zf<|RK (lD qq) (Kl fY Oa<|a1<|dl1 [] (bH<|vV 4) (λ_ _ _ _=>(iD<|K4 (J6 qq) (vV 0) aA))<|λ_ _ _ _=>(vV 0)) aA) bG) ?_;show aD<|aJ<|Yn (aha<|vV 5)<|Yn (RK Ma (Kl fY Oa<|a1<|dl1 [] (bH<|vV 4) (λ_ _ _ _=>(iD<|K4 (J6 qq) (vV 0) aA))<|λ_ _ _ _=>(vV 0)) aA)<|Zf<|RK (lD qq) (Cj (wg T)<|a1<|vV 4)<|Bu (vV 2)<|vV 3
def acL {f fd}(F:VG K "law" "law" X5 f fd):lE P w K mg base PJ 20 f fd ["_law_script"] (lift K aaQ):=by
 have S:iH ["_law_script", "_law_frees", "_law_most", "_law_size", "_law_letters", "_law_rows_here", "_law_bag_here", "_law_spots", "_law_things", "_law_some", "_law_thing", "_law_by", "_law_k"] ["_law_script"] (aY X5):={rfl,rfl,rfl,by decide +kernel,rfl,by decide +kernel,by decide +kernel}
 show ahT (k:=19) F S λ_ _ _ _ _ _ G=>?_;have O:=G.calm ∅;have J:=S.nd;have z:=T.z;show au (Ec 1<|bF bO aA<|bF qY (Cj (fX T)<|a2 (vV 0) aA) aA) ?_;show au (Ec 2<|bF bO aA<|bF Ws aA<|dct Vi boot_int<|a1<|RK (lD qq) (bF qY (bF wO (Cj (fX T)<|a2 (vV 0) aA) aA) aA) aA) ?_;show au (Ec 3<|Kl (aen hh) boot_max<|a2 (vV 1)<|bF bO aA<|bF qY (bF wO (Cj (fX T)<|a2 (vV 0) aA) aA)<|vV 2) ?_;show au (Ec 4<|bF bL aA<|Kl (aen hh) boot_max<|a2 aA<|bF qb (vV 1) aA) ?_;show au (Ec 5<|Cj (zbe T)<|aC (vV 0)<|a3 (vV 3) (vV 1) aA) ?_;show au (dG (K4 (lD qq) (bF qY (bF wO (Cj (fX T)<|a2 (vV 0) aA) aA) aA) aA) (aD<|Ec 5<|Cj (akP T)<|a2 (vV 5)<|vV 1) bG) ?_;show au (Ec 6<|Cj (xY T)<|a1<|Cj (fX T)<|a2 (vV 0) aA) ?_;show au (BK [6] (i:=7) (by assumption) (by rfl) (by show Or.inl rfl) hh (cA<|by rfl) xr (xq<|cA<|by rfl) (drg<|a1<|vV 1) (λ_ _ _ _=>iy)<|λ_ _ _ _=>(Cj (ajW T)<|a2 (vV 1) aA)) ?_;show au (Ec 8<|Cj (ajg T)<|a2 (vV 5)<|vV 7) ?_;show au (Ec 6<|Cj (xY T)<|a1<|Cj (fX T)<|a2 (vV 0) aA) ?_;show au (Ec 9<|jY cQ) ?_;show au (dU QD hh (bH<|vV 8) (Ny 10)<|au (Ec 11<|Bu (j8<|aC aA<|aC (Ld aA)<|aC aA<|a3 (Ld aA) aA<|Ld aA)<|Cj (cX T)<|a2 (vV 6) aA)<|aD<|fW<|fU (vV 9) (a1<|dct gH V0<|a1<|RD [4,11] (bH<|vV 10)<|λ_ _ _ _=>(Cj (zax T)<|a2 (bF bL (vV 2)<|vV 0)<|vV 1)) (by rfl) (uW<|by rfl) (by rfl) (aN<|by rfl)<|by rfl) ?_;show au (dU QD hh (drg<|a1<|Kl (ad4 hh) boot_min<|a2 (vV 3)<|bF bO (Kl fY Oa<|a1<|vV 8) aA) (Ny 12)<|aD<|dG (Pj (K4 (J6 qq) (Bu (Bu (vV 5)<|vV 12) aA) bI)<|Du<|Ab<|j9<|Cj (amH T)<|aC (vV 5)<|a3 (vV 9) (vV 8)<|vV 12).pt (aD<|aJ ad1) bG) ?_;show aD<|aJ ad1
end
variable {mg:Str->Option Aj}{K:CQ}
abbrev fO (x:Str)(s:Stmt)(J:Aj)(od:Option Addr)(kV dc G:Aj)(U:Option Addr)(O ct:Aj)(sl:Array (Option Aj)):Option Obj:=AP ⟨J,od,.func (YM x x (mO s) (eV s) (aY s) .none kV dc G U O ct),sl⟩
abbrev sR (f:Addr):Option (Option Aj):=AP (AP (.ref f))
abbrev alD (x q:Str)(s:Stmt)(J:Aj)(od:Option Addr)(kV dc G:Aj)(U:Option Addr)(O ct:Aj)(sl:Array (Option Aj)):Option Obj:=AP ⟨J,od,.func (YM x q (mO s) (eV s) (aY s) .none kV dc G U O ct),sl⟩
abbrev cC (K:CQ)(x:Str)(s:Stmt):Prop:=∃f O od kV dc J U G ct sl,La K KH x=sR f/\K.lookup f=fO x s O od kV dc J U G ct sl/\Zo K G x=true/\Us K (.ref f)=true
variable {x:Str}
def JW {s f O}{od kV dc J}{U G ct}{sl}(a:La K KH x=sR f)(l:K.lookup f=fO x s O od kV dc J U G ct sl)(c:Zo K G x=true)(k:Us K (.ref f)=true):cC K x s:=⟨f,O,od,kV,dc,J,U,G,ct,sl,a,l,c,k⟩
def nl0 {us:List Aj}(h:us.length=0):us=[]:=vA h
def nl1 {us:List Aj}(h:us.length=1):∃a,us=[a]:=match us,h with
 | [a],_=>⟨a,rfl⟩
def nl2 {us:List Aj}(h:us.length=2):∃a b,us=[a,b]:=match us,h with
 | [a,b],_=>⟨a,b,rfl⟩
def nl3 {us:List Aj}(h:us.length=3):∃a b c,us=[a,b,c]:=match us,h with
 | [a,b,c],_=>⟨a,b,c,rfl⟩
def nl4 {us:List Aj}(h:us.length=4):∃a b c d,us=[a,b,c,d]:=match us,h with
 | [a,b,c,d],_=>⟨a,b,c,d,rfl⟩
def aX {h}{st}{ps}(X:K.In h)(G:h.Ns KH mg)(H:cC K x st)(hb:∀kV doc pm  (an) (cdv ct) (us),us.length=ps.length->bindArgs (YM x x (mO st) (eV st) (aY st) .none kV doc pm an cdv ct) ⟨us,[]⟩=pure (ps.zip us):=by intro _ _ _ _ _ _ us hl;first|(obtain rfl:=nl0 hl;rfl)|(obtain⟨_,rfl⟩:=nl1 hl;rfl)|(obtain⟨_,_,rfl⟩:=nl2 hl;rfl)|(obtain⟨_,_,_,rfl⟩:=nl3 hl;rfl)|(obtain⟨_,_,_,_,rfl⟩:=nl4 hl;rfl)):At K mg x st ps:=by
 obtain⟨f,oc,od,kV,dc,pm,an,cd,ct,sl,a,l,c,k⟩:=H;show{f,_,Jl (st:=st) l c k,T3 X G a,(Jl (st:=st) l c k).binds hb}
def zc {n}{l}(a:mg n=Af)(b:∀m∈l,mg m=Af):∀m∈n::l,mg m=Af:=by simp_all
abbrev zz1 (K:CQ):List Prop:=[cC K "divisor_of_two" (top 12),
 cC K "divisor" (top 13),
 cC K "ends_below" (top 14),
 cC K "plain" (top 15),
 cC K "dot" (top 17),
 cC K "cross" (top 18),
 cC K "turn" (top 19),
 cC K "lies_on" (top 20),
 cC K "share_one" (top 21),
 cC K "on_line" (top 22),
 cC K "plain_cross" (top 23),
 cC K "join" (top 24),
 cC K "meet" (top 25),
 cC K "rising" (top 27),
 cC K "picked" (top 28),
 cC K "has_alike" (top 29),
 cC K "has_on_line" (top 30),
 cC K "sum_of_totals" (top 36),
 cC K "with_times" (top 37),
 cC K "plus" (top 38),
 cC K "minus" (top 39),
 cC K "packed" (top 40),
 cC K "unpacked" (top 41),
 cC K "packed_terms" (top 42),
 cC K "check_powers" (top 43),
 cC K "times" (top 44),
 cC K "less_swapped" (top 46),
 cC K "sum_cross" (top 47),
 cC K "sum_dot" (top 48),
 cC K "sum_turn" (top 49),
 cC K "sums_times" (top 50),
 cC K "sums_minus" (top 51),
 cC K "sum_together" (top 52),
 cC K "doubled" (top 53),
 cC K "sum_table" (top 54),
 cC K "turned_rows" (top 55),
 cC K "rows_times" (top 56),
 cC K "rows_on_both_sides" (top 57),
 cC K "rows_size" (top 58),
 cC K "curve_raw" (top 59),
 cC K "pole_raw" (top 60),
 cC K "other_raw" (top 61),
 cC K "raw" (top 62),
 cC K "tie" (top 63),
 cC K "rows_of" (top 66),
 cC K "size_of" (top 67),
 cC K "table_times_row" (top 68),
 cC K "turned" (top 69),
 cC K "tiles" (top 70),
 cC K "worth" (top 72),
 cC K "is_on_curve" (top 73),
 cC K "together" (top 74),
 cC K "table_of" (top 75),
 cC K "both_sides" (top 76),
 cC K "is_round" (top 77),
 cC K "mixed" (top 78),
 cC K "through" (top 79),
 cC K "plain_or_none" (top 81),
 cC K "line_about" (top 82),
 cC K "spot_about" (top 83),
 cC K "another_spot" (top 84),
 cC K "other_end" (top 85),
 cC K "made_by_row" (top 87),
 cC K "placed" (top 88),
 cC K "_law_cell" (top 90),
 cC K "_law_bag" (top 91),
 cC K "_law_draw" (top 92),
 cC K "_law_asks" (top 93),
 cC K "_law_sort" (top 94),
 cC K "_law_pick" (top 95),
 cC K "_law_row" (top 96),
 cC K "_law_divisor" (top 97),
 cC K "_law_plain" (top 98),
 cC K "_law_spot" (top 99),
 cC K "_law_weight" (top 100),
 cC K "_law_rows" (top 101),
 cC K "_law_amid" (top 102),
 cC K "_law_number" (top 103),
 cC K "_law_numbers" (top 104),
 cC K "_law_placed" (top 105),
 cC K "_law_row_good" (top 106)]
def all_mk {l:PySem.W.OpenLaw}{w:DX}{h:Heap}{fa:Addr}(hlaw:∀ns:List Int,ns.length<=63->aaQ [.kls (ns.map W.int)] g0 (λw _=>w=.bl true) EF)(X:K.In h)(G:h.Ns KH mg)(hfa:mg "law" = AP (.ref fa))
  (hF:∀i,(zz1 K).getD i True)
  (h81:cC K "law" (top 107))
  (z_abs:La K KH "abs" = AP Af)
  (z_all:La K KH "all" = AP Af)
  (z_any:La K KH "any" = AP Af)
  (z_dict:La K KH "dict" = AP Af)
  (H:La K KH "enumerate" = AP Af)
  (z_int:La K KH "int" = AP Af)
  (z_len:La K KH "len" = AP Af)
  (z_list:La K KH "list" = AP Af)
  (z_max:La K KH "max" = AP Af)
  (z_min:La K KH "min" = AP Af)
  (z_range:La K KH "range" = AP Af)
  (z_reversed:La K KH "reversed" = AP Af)
  (z_set:La K KH "set" = AP Af)
  (z_sorted:La K KH "sorted" = AP Af)
  (z_sum:La K KH "sum" = AP Af)
  (z_tuple:La K KH "tuple" = AP Af)
  (z_zip:La K KH "zip" = AP Af)
  {sY:Addr}{slk_TILES:Array (Option Aj)}{nk_TILES:Nat}{y:Addr}{slk_TILES_0:Array (Option Aj)}{nk_TILES_0:Nat}{t_TILES_0_0:_}{t_TILES_0_1:_}{t_TILES_0_2:_}{x:Addr}{slk_TILES_1:Array (Option Aj)}{nk_TILES_1:Nat}{t_TILES_1_0:_}{t_TILES_1_1:_}{Z:_}{u:Addr}{slk_TILES_2:Array (Option Aj)}{nk_TILES_2:Nat}{V:_}{S:_}{R:_}{t:Addr}{slk_TILES_3:Array (Option Aj)}{nk_TILES_3:Nat}{Q:_}{P:_}{N:_}
  (gk_TILES:La K KH "TILES" = AP (AP (.ref sY)))
  (lk_TILES:K.lookup sY=AP ⟨.type "tuple",Af,.seq #[(.ref y),(.ref x),(.ref u),(.ref t)] nk_TILES,slk_TILES⟩)
  (lk_TILES_0:K.lookup y=AP ⟨.type "tuple",Af,.seq #[(.int 1 t_TILES_0_0),(.int 0 t_TILES_0_1),(.int 0 t_TILES_0_2)] nk_TILES_0,slk_TILES_0⟩)
  (lk_TILES_1:K.lookup x=AP ⟨.type "tuple",Af,.seq #[(.int 0 t_TILES_1_0),(.int 1 t_TILES_1_1),(.int 0 Z)] nk_TILES_1,slk_TILES_1⟩)
  (lk_TILES_2:K.lookup u=AP ⟨.type "tuple",Af,.seq #[(.int 0 V),(.int 0 S),(.int 1 R)] nk_TILES_2,slk_TILES_2⟩)
  (lk_TILES_3:K.lookup t=AP ⟨.type "tuple",Af,.seq #[(.int 1 Q),(.int 1 P),(.int 1 N)] nk_TILES_3,slk_TILES_3⟩)
  (C:∃n,La K KH "MOST_TERMS" = AP (AP (.int 600 n)))
  (D:∃n,La K KH "MOST_POWER" = AP (AP (.int 60 n)))
  (E:∃n,La K KH "MOST_PAIRS" = AP (AP (.int 20000 n)))
  (g_FIELD:∃n,La K KH "FIELD" = AP (AP (.int 65536 n)))
  {g:Addr}
  {b:Addr}
  {j:Addr}
  {Y:Addr}
  {J:Addr}
  {m:Addr}
  {O:Addr}
  {i:Addr}
  {d:Addr}
  {U:Addr}{odi_Stuck ani_Stuck:Option Addr}{sli_Stuck:Array (Option Aj)}{oci_Stuck kVi_Stuck dci_Stuck pmi_Stuck B cti_Stuck:Aj}
  (A:La K KH "EaselError" = sR g) (q:nG K g "EaselError" = true)
  (gx_Nothing:La K KH "Nothing" = sR b) (xd_Nothing:nG K b "Nothing" = true)
  (xc_Nothing:nH K b "Nothing" = true) (xq_Nothing:Ra K b Nx "ValueError.__new__" = true)
  (gx_Alike:La K KH "Alike" = sR j) (xd_Alike:nG K j "Alike" = true)
  (xc_Alike:nH K j "Alike" = true) (xq_Alike:Ra K j Nx "ValueError.__new__" = true)
  (gx_Stuck:La K KH "Stuck" = sR Y) (xd_Stuck:nG K Y "Stuck" = true)
  (z:La K KH "FourOnLine" = sR J) (p:nG K J "FourOnLine" = true)
  (r:nH K J "FourOnLine" = true) (o:Ra K J Nx "ValueError.__new__" = true)
  (gx_Knot:La K KH "Knot" = sR m) (xd_Knot:nG K m "Knot" = true)
  (xc_Knot:nH K m "Knot" = true) (xq_Knot:Ra K m Nx "ValueError.__new__" = true)
  (gx_NotRound:La K KH "NotRound" = sR O) (L:nG K O "NotRound" = true)
  (M:nH K O "NotRound" = true) (I:Ra K O Nx "ValueError.__new__" = true)
  (gx_NotOn:La K KH "NotOn" = sR i) (xd_NotOn:nG K i "NotOn" = true)
  (xc_NotOn:nH K i "NotOn" = true) (xq_NotOn:Ra K i Nx "ValueError.__new__" = true)
  (gx_InCurve:La K KH "InCurve" = sR d) (xd_InCurve:nG K d "InCurve" = true)
  (xc_InCurve:nH K d "InCurve" = true) (xq_InCurve:Ra K d Nx "ValueError.__new__" = true)
  (ai_Stuck:UG K (.ref Y) "__init__" = sR U) (li_Stuck:K.lookup U=alD "__init__" "Stuck.__init__" iu oci_Stuck odi_Stuck kVi_Stuck dci_Stuck pmi_Stuck ani_Stuck B cti_Stuck sli_Stuck) (ci_Stuck:Zo K B "Stuck.__init__" = true) (ki_Stuck:Us K (.ref U)=true)
  (xi_Stuck:J5 K Y U Nx "ValueError.__new__" = true) (xf_Stuck:PySem.W.isFn K (.ref U)=true) (xa_Stuck:aau K Y "Stuck" = true) (xs_Stuck:afq K Y "at" = true)
  : ∃fd:Nu,(∀(s:Bc) (v:Aj),BindsTo s fd ⟨[v],[]⟩ [("_law_script",v)])/\∀base:Heap,K.In base->base.Ns KH mg->lE l.prog w K mg base PJ 20 fa fd ["_law_script"] (Z2 K):=by
 have F:=Jl (st:=iu) li_Stuck ci_Stuck ki_Stuck;have bi_Stuck:=F.binds (ps:=["self", "at"]) λ_ _ _ _ _ _ us hl=>match us,hl with|[_,_],_=>rfl
 have T:∀base,Txt l.prog w K mg base {g,b,j,Y,J,m,O,i,d,U,_}:=λ_=>{zz3 (aX X G (hF 0))<|zz3 (aX X G (hF 1))<|zz3 (aX X G (hF 2))<|zz3 (aX X G (hF 3))<|zz3 (aX X G (hF 4))<|zz3 (aX X G (hF 5))<|zz3 (aX X G (hF 6))<|zz3 (aX X G (hF 7))<|zz3 (aX X G (hF 8))<|zz3 (aX X G (hF 9))<|zz3 (aX X G (hF 10))<|zz3 (aX X G (hF 11))<|zz3 (aX X G (hF 12))<|zz3 (aX X G (hF 13))<|zz3 (aX X G (hF 14))<|zz3 (aX X G (hF 15))<|zz3 (aX X G (hF 16))<|zz3 (aX X G (hF 17))<|zz3 (aX X G (hF 18))<|zz3 (aX X G (hF 19))<|zz3 (aX X G (hF 20))<|zz3 (aX X G (hF 21))<|zz3 (aX X G (hF 22))<|zz3 (aX X G (hF 23))<|zz3 (aX X G (hF 24))<|zz3 (aX X G (hF 25))<|zz3 (aX X G (hF 26))<|zz3 (aX X G (hF 27))<|zz3 (aX X G (hF 28))<|zz3 (aX X G (hF 29))<|zz3 (aX X G (hF 30))<|zz3 (aX X G (hF 31))<|zz3 (aX X G (hF 32))<|zz3 (aX X G (hF 33))<|zz3 (aX X G (hF 34))<|zz3 (aX X G (hF 35))<|zz3 (aX X G (hF 36))<|zz3 (aX X G (hF 37))<|zz3 (aX X G (hF 38))<|zz3 (aX X G (hF 39))<|zz3 (aX X G (hF 40))<|zz3 (aX X G (hF 41))<|zz3 (aX X G (hF 42))<|zz3 (aX X G (hF 43))<|zz3 (aX X G (hF 44))<|zz3 (aX X G (hF 45))<|zz3 (aX X G (hF 46))<|zz3 (aX X G (hF 47))<|zz3 (aX X G (hF 48))<|zz3 (aX X G (hF 49))<|zz3 (aX X G (hF 50))<|zz3 (aX X G (hF 51))<|zz3 (aX X G (hF 52))<|zz3 (aX X G (hF 53))<|zz3 (aX X G (hF 54))<|zz3 (aX X G (hF 55))<|zz3 (aX X G (hF 56))<|zz3 (aX X G (hF 57))<|zz3 (aX X G (hF 58))<|zz3 (aX X G (hF 59))<|zz3 (aX X G (hF 60))<|zz3 (aX X G (hF 61))<|zz3 (aX X G (hF 62))<|zz3 (aX X G (hF 63))<|zz3 (aX X G (hF 64))<|zz3 (aX X G (hF 65))<|zz3 (aX X G (hF 66))<|zz3 (aX X G (hF 67))<|zz3 (aX X G (hF 68))<|zz3 (aX X G (hF 69))<|zz3 (aX X G (hF 70))<|zz3 (aX X G (hF 71))<|zz3 (aX X G (hF 72))<|zz3 (aX X G (hF 73))<|zz3 (aX X G (hF 74))<|zz3 (aX X G (hF 75))<|zz3 (aX X G (hF 76))<|zz3 (aX X G (hF 77))<|zz3 (aX X G (hF 78))<|zz3 (aX X G (hF 79))<|zz3 (aX X G (hF 80))<|zz2,zc (T5 X G z_abs) (zc (T5 X G z_all) (zc (T5 X G z_any) (zc (T5 X G z_dict) (zc (T5 X G H) (zc (T5 X G z_int) (zc (T5 X G z_len) (zc (T5 X G z_list) (zc (T5 X G z_max) (zc (T5 X G z_min) (zc (T5 X G z_range) (zc (T5 X G z_reversed) (zc (T5 X G z_set) (zc (T5 X G z_sorted) (zc (T5 X G z_sum) (zc (T5 X G z_tuple) (zc (T5 X G z_zip) (λ_ h=>nomatch h))))))))))))))))),C.imp λ_ e=>T3 X G e,D.imp λ_ e=>T3 X G e,E.imp λ_ e=>T3 X G e,g_FIELD.imp λ_ e=>T3 X G e,{_,T3 X G gk_TILES,λ_ _=>((oZ lk_TILES (by simp<;>decide) (.cons afF (.cons afF (.cons afF (.cons afF .nil)))) λ_ _=>(lF ((oZ lk_TILES_0 (by simp<;>decide) (.cons Lx (.cons Lx (.cons Lx .nil))) λ_ _=>(lF zJ (lF zJ (lF zJ J4)))) _ _) (lF ((oZ lk_TILES_1 (by simp<;>decide) (.cons Lx (.cons Lx (.cons Lx .nil))) λ_ _=>(lF zJ (lF zJ (lF zJ J4)))) _ _) (lF ((oZ lk_TILES_2 (by simp<;>decide) (.cons Lx (.cons Lx (.cons Lx .nil))) λ_ _=>(lF zJ (lF zJ (lF zJ J4)))) _ _) (lF ((oZ lk_TILES_3 (by simp<;>decide) (.cons Lx (.cons Lx (.cons Lx .nil))) λ_ _=>(lF zJ (lF zJ (lF zJ J4)))) _ _) J4))))) _ _)},T3 X G A,q,T3 X G gx_Nothing,xd_Nothing,xc_Nothing,xq_Nothing,T3 X G gx_Alike,xd_Alike,xc_Alike,xq_Alike,T3 X G gx_Stuck,xd_Stuck,T3 X G z,p,r,o,T3 X G gx_Knot,xd_Knot,xc_Knot,xq_Knot,T3 X G gx_NotRound,L,M,I,T3 X G gx_NotOn,xd_NotOn,xc_NotOn,xq_NotOn,T3 X G gx_InCurve,xd_InCurve,xc_InCurve,xq_InCurve,F,bi_Stuck,xi_Stuck,xf_Stuck,xa_Stuck,xs_Stuck}
 obtain⟨f,oc,od,kV,dc,pm,an,cd,ct,sl,a,l,c,k⟩:=h81;have e:=hfa.symm.trans (T3 X G a);cases e;show{_,λs v=>.of_eq rfl,λbase _ _=>akk hlaw<|acL (T base)<|Jl (st:=X5) l c k}
variable {XP:(Str->Option Aj)->Heap->Prop}
def walk {l:PySem.W.OpenLaw}{q}{loose}{YP d}{K:Params->CQ}(O:l.most=AP 63)(G:d.params.defaults=[])
  (U:∀w  (h),YP w h->(K w.params).In h)
  (F:∀w  (mg) (J) (h),(K w.params).In h->h.Ns KH mg->mg d.name=AP (.ref J) ->
   ∃fd,(∀s u,BindsTo s fd ⟨[u],[]⟩ [("_law_script",u)])/\∀base,(K w.params).In base->base.Ns KH mg->lE l.prog w (K w.params) mg base PJ 20 J fd ["_law_script"] (Z2 (K w.params))) :
  PySem.W.WalkO q loose XP YP l.row.toRowW d [] (λf vs=>PySem.call f vs):=
 L2.Sq O ∅ G {λ_=>rfl,∅,∅} U F (λ_ _ a ns hl b Y=>{a,ns,rfl,Y,b,hl,λ_=>rfl}) λ_ _ _ _ _ z=>z
set_option hygiene false in
local macro_rules | `(tactic| trivial) => `(tactic| with_reducible exact Sm.lit (by decide))
set_option hygiene false in
local macro_rules | `(tactic| trivial) => `(tactic| with_reducible exact Sm.zero)
set_option hygiene false in
local macro_rules | `(tactic| trivial) => `(tactic| with_reducible exact Sm.neg (by trivial))
set_option hygiene false in
local macro_rules | `(tactic| trivial) => `(tactic| with_reducible exact Sm.sub (by trivial) (by trivial))
set_option hygiene false in
local macro_rules | `(tactic| trivial) => `(tactic| with_reducible exact Sm.add (by trivial) (by trivial))
set_option hygiene false in
local macro_rules | `(tactic| trivial) => `(tactic| with_reducible exact Sm.mul (by trivial) (by trivial))
set_option hygiene false in
local macro_rules | `(tactic| trivial) => `(tactic| with_reducible assumption)
def rA (h:Gh)(n)(c):(h.set n c).c n=AP c:=by change(if n=n then AP c else h.c n)=AP c;rw[if_pos rfl]
variable {h:Gh}{m n:Nat}
def jO {c:Cell}(e:m≠n):(h.set n c).c m=h.c m:=by change(if m=n then AP c else h.c m)=_;rw[if_neg e]
def zL (h:Gh)(c):(h.new c).c h.nx=AP c:=by change(if _=h.nx then AP c else h.c _)=AP c;rw[if_pos rfl]
def oO {c}(e:m≠h.nx):(h.new c).c m=h.c m:=by change(if m=h.nx then AP c else h.c m)=_;rw[if_neg e]
variable {ws:List W}
def jg (e:h.c n=AP (.lst ws)):view h (.loc n)=AP ws:=by simp[view,gq,e]
abbrev Vq (n:Nat)(h h':Gh):Prop:=h'.nx=h.nx/\∀m,m≠n->h'.c m=h.c m
def Vq.set {n:Nat}{h:Gh}{c:Cell}:Vq n h (h.set n c):={rfl,λ_ e=>jO e}
variable {a:Int}
def je {b}(h:0<b):a.fmod b=a % b:=⋯
def IK {b}(h:0<b):a.fdiv b=a / b:=⋯
def adb {A B c}(e:c=true)(h:A):Lg c A B:=by subst e;show h
def adg {A B c}(e:c=false)(h:B):Lg c A B:=by subst e;show h
def UL {c:Prop}[Decidable c]{A B:Prop}(h1:c->A)(h2:¬c->B):Lg (decide c) A B:=by
 by_cases h:c
 rw[decide_eq_true h];show h1 h;rw[decide_eq_false h];show h2 h
variable {g:MG}{D:cH}
def iG {U b}(I:Nat->Sw->Gh->Prop)
  (G:∀i w  (σ) (h) (N),(∀σ' h',I (i+1) σ' h'->N σ' h')->ws[i]?=AP w->I i σ h->g w σ h fun O h1=>b {D with nx:=N,ct:=N,bk:=D.nx} O h1)
  (J:∀σ h,I ws.length σ h->D.nx σ h):∀{σ h},I 0 σ h->iR ⟨U,Af⟩ g b D ws σ h:=by
 induction ws generalizing I with
 | nil=>intro σ h Y;show J σ h Y
 | cons w ws a=>
  intro σ h Y;show G 0 w σ h _ (fun σ' h' q=>(a _ (λi w σ h N c e hi=>G (i+1) w σ h N c (by simpa using e) hi) (fun σ h q=>J σ h q) q)) rfl Y
variable {ix:List Nat}{te:ME}{σ:Sw}{own:W->Option (List W)}{Q:WK}
def dj {U tt}(I:Nat->List W->Gh->Prop)
  (G:∀i w  (acc) (h) (N:List W->Gh->Prop),(∀J h',I (i+1) J h'->N J h')->ws[i]?=AP w->I i acc h ->
   ∃vs,own w=AP vs/\tt (vs.map AP++wC ix σ) h λc h1=>Lg c (te (vs.map AP++wC ix σ) h1 λv h2=>N (acc++[v]) h2) (N acc h1))
  (O:∀acc h,I ws.length acc h->Q (.lst acc) h):∀{acc h},I 0 acc h->KR ⟨U,Af⟩ own ix tt te σ Q ws acc h:=by
 induction ws generalizing I with
 | nil=>intro acc h Y;show O acc h Y
 | cons w ws a=>
  intro acc h Y;obtain⟨vs,d,q⟩:=G 0 w acc h _ (λacc' h' q=>a _ (λi w acc h N b e hi=>G (i+1) w acc h N b (by simpa using e) hi) (λacc h q=>O acc h q) q) rfl Y;change(match own w with
   | some vs=>_
   | none=>False)
  rwa[d]
variable {i:Nat}{w:W}
def Ip {lo:Int}(e:(Dj lo n)[i]?=AP w):i<n/\w=.int (lo+(i:Int)):=by
 have hi:=by
  have:=(Qc.mp e).1
  simpa[Dj]using this
 unfold Dj at e
 simp_all
def zE {lo}:(Dj lo n).length=n:=by simp[Dj]
variable {j:Int}{ma:MA}
def Pr {b}(Y:∀R,ma σ h R=R [.int j] h)(h1:-(2^62)<=j)(h2:j<2^62)(I:Nat->Sw->Gh->Prop)
  (G:∀i σ h  (N),(∀σ' h',I (i+1) σ' h'->N σ' h')->i<j.toNat->I i σ h->g (.int (i)) σ h fun J h1=>b {D with nx:=N,ct:=N,bk:=D.nx} J h1)
  (U:∀σ h,I j.toNat σ h->D.nx σ h) (h0:I 0 σ h):mV (pU ma) g b D σ h:=by
 unfold mV pU;rw[Y];show Ax.mk h1 h2 ?_;show iG I (λi w σ h N a e hi=>?_) (fun σ h q=>U σ h (by rw[zE]at q;show q)) h0;obtain⟨O,rfl⟩:=Ip e;rw[Int.zero_add];show G i σ h N a O hi
variable {k:Int}{ns:List Int}
def zbH (h0:0<=k)(h1:k<((ns.map W.int).length:Int)):Np (ns.map W.int) k=AP (.int (ns.getD k.toNat 0)):=by
 have e:(ns.map W.int)[k.toNat]?=AP (.int (ns.getD k.toNat 0)):=by
  simp_all
 have:=bR e
 rwa[show((k.toNat:Nat):Int)=k by lia]at this
abbrev gF (f n:Int):Int:=((UJ n f:Nat):Int)
abbrev gL (ns:List Int):Int:=ns.foldl gF 0
def QT (ns)(n):gL (ns++[n])=gF (gL ns) n:=by unfold gL;rw[List.foldl_append];rfl
def acj (f n):0<=gF f n:=Int.natCast_nonneg _
def aeO (ns):0<=gL ns:=by
 rcases List.eq_nil_or_concat ns with rfl|⟨l,a,rfl⟩
 show Int.le_refl _;rw[List.concat_eq_append,QT];show acj _ _
def HW {x y}(J:0<=x)(G:0<y):UJ y (x.fmod y)=UJ x y/\0<=x.fmod y/\x.fmod y<y:=by
 rw[Int.fmod_eq_emod_of_nonneg x (Int.le_of_lt G)];show{?_,ZG _<|⋯,Zz _ G};obtain⟨m,rfl⟩:=yc J;obtain⟨n,rfl⟩:=yc (Int.le_of_lt G);rw[<-Int.natCast_emod,Int.gcd_natCast_natCast,Int.gcd_natCast_natCast,Nat.gcd_comm m n,Nat.gcd_rec n m,Nat.gcd_comm]
def Mi (a:Int):0<=(if a<0 then -a else a):=⋯
def abs_eq (a):(if a<0 then -a else a)=(a.natAbs:Int):=⋯
def aku (a b):UJ (if a<0 then -a else a) (if b<0 then -b else b)=UJ a b:=by
 rw[abs_eq,abs_eq];simp[UJ]
def rQ {x}(h:0<=x):((UJ x 0):Int)=x:=by
 rw[Int.gcd_zero_right];lia
abbrev adw (c:Aw):Prop:=∀{h:Gh}{a b:Int}{Q:WK}{E:Ci},Q (.int (gF b a)) h->c [.int a,.int b] h Q E
def ahd:adw ju:=by
 intro h a b Q E q;show{λm σ h'=>h'=h/\∃x y r,σ=[AP<|.int x,AP<|.int y,r]/\0<=x/\0<=y/\UJ x y=UJ a b/\m=y.toNat,{_,rfl,_,_,Af,rfl,Mi a,Mi b,aku a b,rfl},?_};rintro m σ h' ⟨rfl,x,y,r,rfl,G,O,J,rfl⟩;show{λe=>?_,λe=>?_};have U:=by simpa[K6]using e
 obtain⟨c,Y,d⟩:=HW G (by lia:0<y);show{U,(x.fmod y).toNat,⋯,rfl,y,x.fmod y,_,rfl,O,Y,c.trans J,rfl};cases by simpa[K6]using e
 have:gF b a=x:=by unfold gF;rw[<-J];show rQ G
 rwa[this]at q
abbrev Ints (w:W)(ns:List Int):Prop:=w=.lst (ns.map .int)\/w=.tup (ns.map .int)
abbrev Bm (c:Aw):Prop:=∀{h:Gh}{w:W}{ns:List Int}{Q:WK}{E:Ci},Ints w ns->Q (.int (gL ns)) h->c [w] h Q E
def ints_get (e:(ns.map W.int)[i]?=AP w):∃n,ns[i]?=AP n/\w=.int n:=by
 rw[Kh]at e;grind
def P0 {n}(e:ns[i]?=AP n):gL (ns.take (i+1))=gF (gL (ns.take i)) n:=by
 rw[M4,e,<-QT];rfl
def ajC {tw}(ht:adw tw):Bm (zV tw):=by
 intro h w ns Q E U q;have G:iR {ns.map .int,Af} (Aq 2) (bB (aF tw E (aj (ao 2) (aj (ao 1) aG))) (Aq 1)) {nx:=uz tw E {nx:=λ_ h'=>Q .non h',rt:=λw h'=>Q w h'},rt:=λw h'=>Q w h'} (ns.map .int) [AP w,AP (.int 0),Af] h:=by
  show iG (λi σ h'=>h'=h/\∃o,σ=[AP w,AP<|.int<|gL<|ns.take i,o]) ?_ ?_ ⟨rfl,Af,rfl⟩;rintro i x σ h' N Y e ⟨rfl,o,rfl⟩;obtain⟨n,a,rfl⟩:=ints_get e;show ht<|Y _ _ {rfl,AP<|.int n,?_}
  rw[P0 a];rfl;rintro σ h' ⟨rfl,o,rfl⟩
  rwa[Ds,Nj]
 rcases U with rfl|rfl<;>show G
def acD (f n k)(G:0<=f):gF (f*(k.natAbs:Int)) (n*k)=gF f n*(k.natAbs:Int):=by
 unfold gF;congr 1
 unfold UJ;rw[Int.natAbs_mul,Int.natAbs_mul,Int.natAbs_natCast,Nat.gcd_mul_right]
def MF (k:Int)(ns:List Int):gL (ns.map (· * k))=gL ns*(k.natAbs:Int):=by
 have:∀(ns:List Int) (f:Int),0<=f->(ns.map (· * k)).foldl gF (f*(k.natAbs:Int))=ns.foldl gF f*(k.natAbs:Int):=by
  intro ns;induction ns with
  | nil=>intro f _;rfl
  | cons n ns G=>intro f J;rw[KQ,ZJ,acD f n k J];show G _ (acj _ _)
 have h:=this ns 0 (Int.le_refl _)
 rwa[Int.zero_mul]at h
def ahh {f n}(J:Sm m f)(G:Sm m n):Sm m (gF f n):=by
 unfold gF Sm at *;unfold UJ;by_cases e:n.natAbs=0
 simp_all
 show ZP (Nat.gcd_le_left _<|Nat.pos_of_ne_zero e) G
def acU (h:∀n∈ns,Sm m n):Sm m (gL ns):=by
 have:∀(ns:List Int) (f:Int),Sm m f->(∀n∈ns,Sm m n)->Sm m (ns.foldl gF f):=by
  intro ns;induction ns with
  | nil=>intro f G _;show G
  | cons n ns J=>intro f G h;show J _ (ahh G (h n (by simp))) λx O=>h x (by simp[O])
 show this ns 0 Sm.zero h
abbrev mG:List Int->Int
 | []=>0
 | n::ns=>if n=0 then mG ns else n
abbrev jc (ns:List Int):Int:=mG ns.reverse
abbrev Nk (ns:List Int):Prop:=gL ns=1/\0<jc ns
abbrev NZ (ns:List Int):Prop:=∃n∈ns,n≠0
def dz (G:k≠0)(x):x*k=0↔x=0:=by
 rw[Ue];show{λh=>h.elim id λh=>absurd h G,.inl}
def Cd {k}(G:k≠0):∀ns,mG (ns.map (· * k))=mG ns*k
 | []=>(Int.zero_mul k).symm
 | n::ns=>by
  rw[KQ,mG,mG];by_cases h:n=0
  rw[if_pos h,if_pos ((dz G n).mpr h),Cd G ns];rw[if_neg h,if_neg (λe=>h ((dz G n).mp e))]
def uc (G:k≠0)(ns):jc (ns.map (· * k))=jc ns*k:=by
 unfold jc;rw[<-List.map_reverse,Cd G]
def anF (h:NZ ns):mG ns≠0:=by
 induction ns with
 | nil=>obtain⟨n,G,_⟩:=h;cases G
 | cons a ns O=>
  rw[mG];by_cases e:a=0
  rw[if_pos e];show O ?_;obtain⟨n,G,J⟩:=h;rcases M5.mp G with rfl|G
  lia;show⟨n,G,J⟩;lia
def Ij (h:NZ ns):jc ns≠0:=by
 obtain⟨n,J,G⟩:=h;show anF {n,List.mem_reverse.mpr J,G}
def Xg (f n:Int):gF f n ∣ f/\gF f n ∣ n:={Int.gcd_dvd_right ..,Int.gcd_dvd_left ..}
def Xk:∀n∈ns,gL ns ∣ n:=by
 have:∀(ns:List Int) (f:Int),ns.foldl gF f ∣ f/\∀n∈ns,ns.foldl gF f ∣ n:=by
  intro ns;induction ns with
  | nil=>intro f;show{Int.dvd_refl _,nofun}
  | cons a ns J=>
   intro f;obtain⟨h1,h2⟩:=J _;show{Int.dvd_trans h1 (Xg f a).1,λn G=>?_};rcases M5.mp G with rfl|G
   show Int.dvd_trans h1 (Xg f n).2;show h2 n G
 show(this ns 0).2
def ac4 (h:NZ ns):0<gL ns:=by
 have U:=aeO ns;obtain⟨n,G,J⟩:=h;have O:=Xk n G;by_cases e:gL ns=0
 simp_all
 lia
def Nk.nz (h:Nk ns):NZ ns:=by
 have:∀l:List Int,0<mG l->NZ l:=by
  intro l;induction l with
  | nil=>intro h;show nomatch h
  | cons a l O=>
   intro h;rw[mG]at h;by_cases e:a=0
   rw[if_pos e]at h;obtain⟨n,J,G⟩:=O h;show{n,T6 _ J,G};show{a,by simp,e}
 obtain⟨n,J,G⟩:=this _ h.2;show{n,List.mem_reverse.mp J,G}
def G7 {by'}(h:NZ ns)(O:by'=if jc ns<0 then 0-gL ns else gL ns):
  by'≠0/\Nk (ns.map (·.fdiv by'))/\ns=(ns.map (·.fdiv by')).map (· * by'):=by
 have g0:=ac4 h;have J:by'≠0:=by rw[O];split<;>lia
 have b:∀t,gL ns ∣ t->by' ∣ t:=λt ht=>by
  rw[O];split
  rw[Int.zero_sub];show Int.neg_dvd.mpr ht;show ht
 have e:ns=(ns.map (·.fdiv by')).map (· * by'):=by
  rw[Uy];conv=>lhs;rw[<-List.map_id ns]
  show V1 λn G=>?_;obtain⟨m,Y⟩:=b n (Xk n G);show n=n.fdiv by'*by'
  conv=>lhs;rw[Y]
  conv=>rhs;rw[Y]
  rw[Int.mul_fdiv_cancel_left _ J,Yg]
 show{J,?_,e};generalize a:ns.map (·.fdiv by')=ms at e;have e1:gL ns=gL ms*(by'.natAbs:Int):=by rw[e];show MF by' ms
 have e2:(by'.natAbs:Int)=gL ns:=by rw[O];split<;>lia
 have e3:jc ns=jc ms*by':=by rw[e];show uc J ms
 have c:=Ij h;show{?_,?_};rw[e2]at e1;have U:gL ms*gL ns=1*gL ns:=by rw[<-e1,Int.one_mul]
 show Int.eq_of_mul_eq_mul_right ⋯ U;by_cases hs:jc ns<0
 have:by'<0:=⋯
 by_cases q:0<jc ms
 show q;have:=Int.mul_nonneg_of_nonpos_of_nonpos (show jc ms<=0 by lia) (Int.le_of_lt this)
 lia;have:0<by':=⋯
 by_cases q:0<jc ms
 show q;have:=Int.mul_nonpos_of_nonpos_of_nonneg (show jc ms<=0 by lia) (Int.le_of_lt this)
 lia
def tE {k}(G:k≠0):∀{ns ms:List Int},ns.map (· * k)=ms.map (· * k)->ns=ms
 | [],[],_=>rfl
 | a::ns,b::ms,h=>by
  obtain⟨h1,h2⟩:=Vz h;rw[Int.eq_of_mul_eq_mul_right G h1,tE G h2]
variable {ms:List Int}
def Mj (O:Nk ns)(U:Nk ms){s t}(hs:s≠0)(ht:t≠0)(h:ns.map (· * s)=ms.map (· * t)):ns=ms:=by
 have e1:gL ns*(s.natAbs:Int)=gL ms*(t.natAbs:Int):=by rw[<-MF,<-MF,h]
 rw[O.1,U.1]at e1;have e2:jc ns*s=jc ms*t:=by rw[<-uc hs,<-uc ht,h]
 have a:=O.2;have b:=U.2;have st:s=t:=by
  rcases Int.lt_or_gt_of_ne hs with J|J<;>rcases Int.lt_or_gt_of_ne ht with G|G
  lia;have x:=Int.mul_neg_of_pos_of_neg a J;have y:=Int.mul_pos b G;lia;have x:=Int.mul_pos a J;have y:=Int.mul_neg_of_pos_of_neg b G;lia;lia
 subst st;show tE hs h
abbrev Pg (c0:Aw):Prop:=∀{h:Gh}{w:W}{ns:List Int}{m:Nat}{Q:WK}{E:Ci},Ints w ns->NZ ns->(∀n∈ns,Sm m n)->m<=8000->ns.length<=1000 ->
 (∀(ms:List Int) (k:Int),k≠0->ns=ms.map (· * k)->Nk ms->(∀n∈ms,Sm m n)->Q (.tup (ms.map .int)) h)->c0 [w] h Q E
def cZ (a b):K6 (.int a) (.int b)=(a==b):=rfl
def iI {a'}(h:Sm m a)(e:a=a'*k)(G:k≠0):Sm m a':=by
 show h.le ?_;rw[e,Int.natAbs_mul];show Nat.le_mul_of_pos_right _<|⋯
def HD (h:∀n∈ns,Sm m n)(J:k≠0)(e:ns=ms.map (· * k)):∀n∈ms,Sm m n:=λn G=>
 iI (h _ (e ▸ Ni.mpr ⟨n,G,rfl⟩)) rfl J
def zbF (h:NZ ns):Np ((ns.filter (·≠0)).map W.int) (-1)=AP (.int (jc ns)):=by
 have G:∀l:List Int,mG l≠0->∃r,l.filter (·≠0)=mG l::r:=by
  intro l;induction l with
  | nil=>intro h;show absurd rfl h
  | cons a l U=>
   intro h;rw[mG]at h|-
   by_cases e:a=0
   simp_all
   simp_all
 obtain⟨r,J⟩:=G _ (Ij h);have O:=by
  rw[List.filter_reverse]at J;have:=congrArg List.reverse J
  rwa[List.reverse_reverse,uQ]at this
 rw[O,NP];show zbG _ _
def aev {G}(hs:Dg h w=AP ⟨ns.map .int,Af⟩)(b:G≠0)(a:m<=8000)(O:Sm m G)(hz:ns.length<=El)(Y:σ[0]?=AP (AP w))(U:wC ix σ=[AP (.int G)])(k:Q (.lst ((ns.map (·.fdiv G)).map .int)) h):
  J2 K9 ix (Gj (ao 0)) iM (Av Km (ao 0) (ao 1)) σ h Q:=by
 unfold J2 Gj ao;rw[Y];dsimp only;rw[hs];show fQ.mk (by rwa[Ds])<|dj (λi J h'=>h'=h/\J=((ns.take i).map (·.fdiv G)).map W.int) ?_ (by simp_all) ⟨rfl,rfl⟩
 rintro i w J h' N c e ⟨rfl,rfl⟩;obtain⟨n,d,rfl⟩:=ints_get e;show{[.int n],rfl,?_};rw[U];show{⟨b,m,a,O⟩,(c _ _ {rfl,?_})};rw[M4,d];simp
abbrev adS (c0:Aw):Prop:=∀{h:Gh}{w:W}{ns:List Int}{Q:WK}{E:Ci},Ints w ns->Q (.bl (decide (jc ns<0))) h->c0 [w] h Q E
def aan:adS qT:=by
 intro h w ns Q E Y q;have G:∀(l:List Int) (s:Src) (o:Option W),s.cell=Af->Q (.bl (decide (mG l<0))) h->iR s (Aq 1) (fD (bw (Av Nh (ao 1) (mC (.int 0)))) (bK (Av kLt (ao 1) (mC (.int 0)))) bN)
   {nx:=lM E {nx:=λ_ h'=>Q .non h',rt:=λw h'=>Q w h'},rt:=λw h'=>Q w h'} (l.map .int) [AP w,o] h:=by
  intro l;induction l with
  | nil=>
   intro s o hs q;obtain⟨ws,ix⟩:=s;cases hs;show q
  | cons n l U=>
   intro s o hs q;obtain⟨ws,ix⟩:=s;cases hs;rw[mG]at q;show{λe=>?_,λe=>?_};rw[cZ]at e
   rwa[if_neg (by simpa using e)]at q
   rw[cZ]at e;rw[if_pos (by simpa using e)]at q;show U _ _ rfl q
 have k2:=G _ {(ns.map .int).reverse,Af} Af rfl q;rw[List.map_reverse]at k2;rcases Y with rfl|rfl<;>show k2
def zbi {dv b}(a:Bm dv)(Y:adS b):Pg (Qg dv b):=by
 intro h w ns m Q E O c hs f hl q;have g:=ac4 c;have J:∀G,(G=if jc ns<0 then 0-gL ns else gL ns)->Cp dv b E {nx:=λ_ h'=>Q .non h',rt:=λw h'=>Q w h'} [AP w,AP (.int G)] h:=by
  intro G e
  obtain⟨U,pl,d⟩:=G7 c e;change J2 K9 [1] _ iM _ [AP w,AP _] h _;show aev (by rcases O with rfl|rfl<;>rfl) U f (by show(acU hs).le ?_;rw[e];split<;>lia) (K7 hl<|∅) rfl rfl ?_;show q _ G U d pl<|HD hs U d
 show a O ?_;show gM (by rw[cZ];simp;lia) ?_;show Y O<|J8 (λhl=>(J _<|by rw[if_pos hl,Int.zero_sub]))<|λhl=>(J _<|by rw[if_neg hl])
@[reducible]noncomputable def Tr:=Int×Int×Int
abbrev tl (t:Tr):List Int:=[t.1,t.2.1,t.2.2]
abbrev tw (t:Tr):W:=.tup [.int t.1,.int t.2.1,.int t.2.2]
abbrev Pl (t:Tr):Prop:=Nk (tl t)
abbrev CV (m:Nat)(t:Tr):Prop:=Sm m t.1/\Sm m t.2.1/\Sm m t.2.2
abbrev sc (k:Int)(t:Tr):Tr:=(t.1*k,t.2.1*k,t.2.2*k)
abbrev Le (u t:Tr):Prop:=∃k,k≠0/\u=sc k t
abbrev crs (p q:Tr):Tr:=(p.2.1*q.2.2-p.2.2*q.2.1,p.2.2*q.1-p.1*q.2.2,p.1*q.2.1-p.2.1*q.1)
abbrev dt3 (p q:Tr):Int:=p.1*q.1+p.2.1*q.2.1+p.2.2*q.2.2
def CV.mono {m n t}(h:CV m t)(e:m<=n):CV n t:={h.1.mono e,h.2.1.mono e,h.2.2.mono e}
def CV.all {t}(h:CV m t):∀n∈tl t,Sm m n:=by
 intro n G;simp[tl]at G;rcases G with rfl|rfl|rfl
 show h.1;show h.2.1;show h.2.2
def Mw {t:Tr}:t=(0,0,0)↔t.1=0/\t.2.1=0/\t.2.2=0:=by grind
def aa9 {t:Tr}(h:t≠(0,0,0)):NZ (tl t):=by
 by_cases a:t.1=0
 by_cases b:t.2.1=0
 by_cases c:t.2.2=0
 grind
 show{_,by simp[tl],c};show{_,by simp[tl],b};show{_,by simp[tl],a}
def Oo {t:Tr}(e:tl t=ms.map (· * k)):∃u:Tr,ms=tl u/\t=sc k u:=by
 match ms,congrArg Uo e,e with
 | [a,b,c],_,e=>
  simp[tl]at e;show{(a,b,c),rfl,by obtain⟨x,y,z⟩:=t;simp only[sc];simp only at e;rw[e.1,e.2.1,e.2.2]}
variable {c0:Aw}{u:Tr}{E:Ci}
def Pg.tr (Y:Pg c0)(J:w=tw u\/w=.lst [.int u.1,.int u.2.1,.int u.2.2])(h0:u≠(0,0,0))(hs:CV m u)(O:m<=8000)
  (q:∀t,Pl t->Le u t->CV m t->Q (tw t) h):c0 [w] h Q E:=by
 show Y ?_ (aa9 h0) hs.all O (show 3<=1000 by decide) λms k U e pl G=>?_;rcases J with rfl|rfl
 show .inr rfl;show .inl rfl;obtain⟨t,rfl,e'⟩:=Oo e;show q t pl ⟨k,U,e'⟩ {G _<|by simp[tl],G _<|by simp[tl],G _<|by simp[tl]}
def mH {t}(G:k≠0):sc k t=(0,0,0)↔t=(0,0,0):=by
 rw[Mw,Mw];change(t.1*k=0/\t.2.1*k=0/\t.2.2*k=0)↔_;rw[dz G,dz G,dz G]
def Pl.ne {t}(h:Pl t):t≠(0,0,0):=by
 rintro rfl;obtain⟨n,G,J⟩:=h.nz;simp[tl]at G;show J G
variable {p q:Tr}
def Rk (J:Pl p)(G:Pl q)(h1:Le u p)(h2:Le u q):p=q:=by
 obtain⟨s,hs,e⟩:=h1;obtain⟨t,ht,e'⟩:=h2;have h:sc s p=sc t q:=by rw[<-e,<-e']
 have:=Mj J G hs ht (by
  have:=congrArg tl h
  simpa[tl,sc]using this)
 obtain⟨a,b,c⟩:=p;simp[tl]at this;simp_all
def aeg (a b)(t):sc a (sc b t)=sc (b*a) t:=by simp[sc,Int.mul_assoc]
def ray (U:p≠(0,0,0))(h:crs p q=(0,0,0)):∃s t,s≠0/\sc s q=sc t p:=by
 obtain⟨a,b,c⟩:=p;obtain⟨x,y,z⟩:=q;have h1:b*z-c*y=0:=congrArg (·.1) h;have h2:c*x-a*z=0:=congrArg (·.2.1) h;have Y:a*y-b*x=0:=congrArg (·.2.2) h;by_cases O:a=0
 by_cases J:b=0
 by_cases G:c=0
 simp_all
 show{c,z,G,?_};simp[sc];grind
 show{b,y,J,?_};simp[sc];grind
 show{a,x,O,?_};simp only[sc];show Prod.ext ?_ (Prod.ext ?_ ?_)<;>grind
def yw (J:Pl p)(G:Pl q)(h:crs p q=(0,0,0)):p=q:=by
 obtain⟨s,t,hs,e⟩:=ray J.ne h;have ht:t≠0:=by
  rintro rfl;have:sc s q=(0,0,0):=by rw[e];simp[sc]
  show G.ne<|(mH hs).mp this
 show Rk J G ⟨t,ht,rfl⟩ ⟨s,hs,e.symm⟩
def iT (J:Pl p)(G:Pl q)(h:p≠q):crs p q≠(0,0,0):=λe=>h (yw J G e)
def flat {n r:Tr}(l:n≠(0,0,0))(k:dt3 n p=0)(j:dt3 n q=0)(i:dt3 n r=0):dt3 (crs p q) r=0:=by
 obtain⟨n1,n2,g⟩:=n;obtain⟨Y,p2,U⟩:=p;obtain⟨O,J,G⟩:=q;obtain⟨c,b,a⟩:=r;simp[dt3,crs]at *;generalize m:(p2*G-U*J)*c+(U*O-Y*G)*b+(Y*J-p2*O)*a=d;have e1:n1*d=0:=by grind
 have e2:n2*d=0:=by grind
 have e3:g*d=0:=by grind
 by_cases h:d=0
 show h;have f:∀x:Int,x*d=0->x=0:=λx e=>by
  rcases Ue.mp e with e|e
  show e;lia
 simp_all
def yM (p q:Tr):dt3 p q=dt3 q p:=by simp[dt3,Yg]
def jR (k)(p q):dt3 (sc k p) q=dt3 p q*k:=by simp[dt3,sc];grind
def iw (k)(p q):dt3 p (sc k q)=dt3 p q*k:=by simp[dt3,sc];grind
def Nz {t n}(h:Le u t):dt3 n u=0↔dt3 n t=0:=by
 obtain⟨k,G,rfl⟩:=h;rw[iw,dz G]
def jw (k l)(p q):crs (sc k p) (sc l q)=sc (k*l) (crs p q):=by
 simp[crs,sc];grind
def GJ (a):crs a a=(0,0,0):=by
 simp[crs];grind
def rC (p q:Tr):dt3 (crs p q) p=0:=by simp[dt3,crs];grind
def Jo (p q):dt3 (crs p q) q=0:=by simp[dt3,crs];grind
def gY (J:CV m p)(G:CV m q):CV (m+m+1) (crs p q):=
 {(J.2.1.mul G.2.2).sub (J.2.2.mul G.2.1) |>.mono ⋯,(J.2.2.mul G.1).sub (J.1.mul G.2.2) |>.mono ⋯,(J.1.mul G.2.1).sub (J.2.1.mul G.1) |>.mono ⋯}
def V7 (p q):K6 (tw p) (tw q)=decide (p=q):=by
 obtain⟨a,b,c⟩:=p;obtain⟨x,y,z⟩:=q;unfold tw;rw[K6,rZ,rZ,rZ,rZ,cZ,cZ,cZ];grind
def agy (a b c):K6 (.lst [.int a,.int b,.int c]) (.lst [.int 0,.int 0,.int 0])=decide (a=0/\b=0/\c=0):=by
 rw[K6,rZ,rZ,rZ,rZ,cZ,cZ,cZ];grind
abbrev N5 (c0:Aw):Prop:=∀{h:Gh}{p q:Tr}{m:Nat}{Q:WK}{E:Ci},m<=10000->CV m p->CV m q->Q (tw (crs p q)) h->c0 [tw p,tw q] h Q E
abbrev SN (c0:Aw):Prop:=∀{h:Gh}{p q:Tr}{m:Nat}{Q:WK}{E:Ci},m<=10000->CV m p->CV m q->Q (.int (dt3 p q)) h->c0 [tw p,tw q] h Q E
def Cm (e:h.c n=AP (.lst ws)):gq h (.loc n)=AP ws:=by simp[gq,e]
def uN:N5 Ed:=by
 intro h p q m Q E a J G k;obtain⟨d,c,b⟩:=J;obtain⟨Y,U,O⟩:=G
 (repeat(show And.intro (gP.of (by trivial) (by trivial) ⋯ ⋯) ?_))
 show k
def Wf:SN Qu:=by
 intro h p q m Q E a J G k;obtain⟨d,c,b⟩:=J;obtain⟨Y,U,O⟩:=G
 (repeat(show And.intro (gP.of (by trivial) (by trivial) ⋯ ⋯) ?_))
 show k
abbrev JoinOk (c0:Aw):Prop:=∀{h:Gh}{p q:Tr}{m:Nat}{Q:WK}{E:Ci},m<=3900->CV m p->CV m q->Pl p->Pl q->p≠q->(∀t:Tr,Pl t->Le (crs p q) t->CV (m+m+1) t->Q (tw t) h)->c0 [tw p,tw q] h Q E
variable {cr pl:Aw}
def Gs (J:Pg pl)(O:N5 cr):JoinOk (jk pl cr):=by
 intro h p q m Q E a sp U Y pq G k;change br _ _ _;rw[V7];show gM (decide_eq_false G)<|O ⋯ sp U<|J.tr (.inl rfl) (iT Y pq G) (gY sp U) ⋯ k
def aeU {G}(J:JoinOk G):JoinOk (OJ G):=by
 assumption
abbrev Xr (c0:Aw):Prop:=∀{h:Gh}{p q:Tr}{m:Nat}{Q:WK}{E:Ci},m<=10000->CV m p->CV m q->Q (.bl (decide (dt3 p q=0))) h->c0 [tw p,tw q] h Q E
variable {dt:Aw}
def ac5 (G:SN dt):Xr (BJ dt):=by
 intro h p q m Q E U O J k;show G U O J ?_;assumption
abbrev AllP (ts:List Tr):Prop:=∀p∈ts,∀q∈ts,∀r∈ts,dt3 (crs q r) p=0
abbrev ant (ts:List Tr)(a b c:Nat):Prop:=∀p q r,ts[a]?=AP p->ts[b]?=AP q->ts[c]?=AP r->dt3 (crs q r) p=0
open Classical in
abbrev mW (ts:List Tr):Bool:=decide (AllP ts)
variable {ts:List Tr}
open Classical in
def yd (h:AllP ts):mW ts=true:=decide_eq_true h
open Classical in
def N8 (h:¬AllP ts):mW ts=false:=decide_eq_false h
def FJ (p q r):dt3 (crs q r) p=dt3 (crs r p) q:=by simp[dt3,crs];grind
def alm (p q r:Tr):dt3 (crs q r) p=- dt3 (crs r q) p:=by simp[dt3,crs];grind
def oA (p q):dt3 (crs q q) p=0:=by simp[dt3,crs];grind
def zac (H:∀k j i,k<j->j<i->ant ts k j i):AllP ts:=by
 intro p n q m r l;obtain⟨a,U⟩:=vq n;obtain⟨b,O⟩:=vq m;obtain⟨c,J⟩:=vq l;have G:∀{p q r:Tr},dt3 (crs q r) p=0->dt3 _ q=0:=λ{p q r} h=>by rwa[<-FJ]
 have Y:∀{p q r:Tr},dt3 (crs q r) p=0->dt3 _ p=0:=λ{p q r} h=>by rw[alm,h];rfl
 have ab:a=b->p=q:=λe=>by subst e;rw[U]at O;show Ky O
 have s:b=c->q=r:=λe=>by subst e;rw[O]at J;show Ky J
 have t:a=c->p=r:=λe=>by subst e;rw[U]at J;show Ky J
 by_cases h1:a=b
 rw[ab h1];show G (oA r q);by_cases h2:b=c
 rw[s h2];show oA p r;by_cases o:a=c
 rw[t o];show G (G (oA q r));by_cases g:a<b
 by_cases f:b<c
 show H a b c g f _ _ _ U O J;by_cases d:a<c
 show Y<|H a c b d ⋯ _ _ _ U J O
 show G<|H c a b ⋯ g _ _ _ J U O
 by_cases f:b<c
 by_cases d:a<c
 show Y<|G<|H b a c ⋯ d _ _ _ O U J
 show G<|G<|H b c a f ⋯ _ _ _ O J U
 show Y<|G<|G<|H c b a ⋯ ⋯ _ _ _ J O U
def akA (ts)(h:ts.length<=2):AllP ts:=by
 show zac λk j i h1 h2 p q r _ _ e=>?_;have:=(Qc.mp e).1
 lia
def zbr {G}(h0:G∈ts)(U:u∈ts)(O:u≠G)(J:∀t∈ts,Pl t):(∀t∈ts,t≠G->dt3 (crs G u) t=0)↔AllP ts:=by
 show{λH=>?_,λH t ht _=>H t ht G h0 u U};have b:=iT (J _ h0) (J _ U) (Ke O);have H':∀t∈ts,dt3 (crs G u) t=0:=λt ht=>by
  by_cases e:t=G
  subst e;rw[FJ,FJ];show oA _ _;simp_all
 intro p J q a r Y;show flat b (H' q a) (H' r Y)<|H' p J
def akO {G}(H:∀t∈ts,t=G):AllP ts:=by
 intro p U q O r J;rw[H q O,H r J];show oA _ _
def Je (e:(ts.map tw)[i]?=AP w):∃t,ts[i]?=AP t/\w=tw t:=by grind
def yI:∀bs,TV (bs.map W.bl)=AP bs
 | []=>rfl
 | b::bs=>by rw[KQ,TV,yI bs];rfl
def Gp {s tt}(I:Nat->List W->Gh->Prop)
  (Y:∀i acc h,I i acc h->∀P,P->s.go h P)
  (G:∀i w  (acc) (h) (N:List W->Gh->Prop),(∀J h',I (i+1) J h'->N J h')->ws[i]?=AP w->I i acc h ->
   ∃vs,own w=AP vs/\tt (vs.map AP++wC ix σ) h λc h1=>Lg c (te (vs.map AP++wC ix σ) h1 λv h2=>N (acc++[v]) h2) (N acc h1))
  (U:∀acc h,I ws.length acc h->Q (.lst acc) h):∀{acc h},I 0 acc h->KR s own ix tt te σ Q ws acc h:=by
 induction ws generalizing I with
 | nil=>intro acc h O;show Y 0 acc h O _ (U acc h O)
 | cons w ws a=>
  intro acc h O;obtain⟨vs,d,q⟩:=G 0 w acc h _ (λacc' h' q=>a _ (λi=>Y _) (λi w acc h N b e hi=>G (i+1) w acc h N b (by simpa using e) hi) (λacc h q=>U acc h q) q) rfl O;show Y 0 acc h O _ ?_
  rwa[d]
def agG (G:σ[i]?=AP (AP w))(hs:Dg h w=AP ⟨ws,Af⟩)(hz:ws.length<=El)(k:KR ⟨ws,Af⟩ own ix iM te σ Q ws [] h):J2 own ix (Gj (ao i)) iM te σ h Q:=by
 unfold J2 Gj ao;rw[G];dsimp only;show hs ▸ fQ.mk hz k
abbrev Fd (h:Gh)(w:W)(ts:List Tr):Prop:=w=.lst (ts.map tw)\/∃n,w=.loc n/\h.c n=AP (.lst (ts.map tw))
def Fd.src (e:Fd h w ts):view h w=AP (ts.map tw)/\∃s,Dg h w=AP s/\s.ws=ts.map tw/\∀P,P->s.go h P:=by
 rcases e with rfl|⟨n,rfl,e⟩
 show{rfl,_,rfl,rfl,λ_ p=>p};show{jg e,{ts.map tw,AP (n,ts.map tw)},by simp[Dg,e],rfl,λP p=>⟨e,p⟩}
def Dq (G:Tr)(r:List Tr):Np ((G::r).map tw) 0=AP (tw G):=bR rfl
def akc {G}{r}{c b}(e:Fd h w (G::r))(hl:(G::r).length<=1000)(q:Q (.lst (((G::r).filter (·≠G)).map tw)) h):
  J2 K9 [0] (Gj (ao 0)) (bw (Av Nh (ao 0) (Av Bq (ao 1) (mC (.int 0))))) (ao 0) [AP w,c,b] h Q:=by
 obtain⟨f,s,es,d,k⟩:=e.src;generalize U:G::r=ts at *;have g:=U ▸ Dq _ _;change(match Dg h w with
  | some s=>_
  | none=>False)
 rw[es];change fQ _ _;rw[d];show fQ.mk (by rw[Ds];show K7 hl ∅) ?_;show Gp (λi J h'=>h'=h/\J=((ts.take i).filter (·≠G)).map tw) ?_ ?_ ?_ ⟨rfl,rfl⟩;grind
 ·rintro i j J h' N Y e2 ⟨rfl,rfl⟩;obtain⟨t,a,rfl⟩:=Je e2;show{[tw t],rfl,?_};change(match view h' w with
   | some ws=>(match Np ws 0 with
    | some w=>_
    | none=>False)
   | none=>False)
  rw[f];dsimp only;rw[g];change Lg (K1 30 (tw t)&&K1 30 (tw G)) _ False;rw[V7];change Lg (!decide _) _ _;by_cases O:t=G
  show adg (by simp[O])<|Y _ _ {rfl,?_}
  rw[M4,a];simp[O];show adb (by simp[O])<|Y _ _ {rfl,?_}
  rw[M4,a];simp[O]
 simp_all
abbrev qd (c0:Aw):Prop:=∀{h:Gh}{w:W}{ts:List Tr}{M:Nat}{Q:WK}{E:Ci},Fd h w ts->ts.length<=1000->M<=4000->(∀t∈ts,Pl t/\CV M t)->Q (.bl (mW ts)) h->c0 [w] h Q E
def amF {c}(a:SN c)(j:N5 cr):qd (uy c cr):=by
 intro h w ts M Q E e hl A hs q;match ts,e,hl,hs,q with
 | [],e,hl,hs,q=>
  obtain⟨o,s,es,m,l⟩:=e.src;rw[yd (akA [] ∅)]at q;change(match Dg h w with
   | some s=>_
   | none=>False)
  rw[es];change fQ _ _;show m ▸ l _ (rG rfl q)
 | O::r,e,hl,hs,q=>
  show akc e hl ?_;generalize Y:O::r=ts at *;have f:O∈ts:=by rw[<-Y];simp
  have G:∀t,t∈ts.filter (·≠O)↔t∈ts/\t≠O:=λt=>by simp
  have J:(ts.filter (·≠O)).length<=ts.length:=List.length_filter_le ..;generalize ts.filter _=us at G J;match us,G,J with
  | [],G,_=>
   rw[yd (akO λt ht=>by
    by_cases e:t=O
    show e;show absurd ((G t).mpr ⟨ht,e⟩) (by simp))]at q
   show rG rfl q
  | u::us,G,J=>
   have d:=(G u).mp (by simp);show gM rfl ?_;obtain⟨o,s,es,m,l⟩:=e.src;change(match view h w with
    | some ws=>(match Np ws 0 with
     | some w=>_
     | none=>False)
    | none=>False)
   rw[o];dsimp only;rw[show Np _ 0=AP _ by rw[<-Y];show Dq _ _];change(match Np ((u::us).map tw) 0 with
    | some w=>_
    | none=>False)
   rw[Dq];show j ⋯ (hs _ f).2 (hs _ d.1).2 ?_;have sc:=gY (hs _ f).2 (hs _ d.1).2;have it:=zbr f d.1 d.2 λt ht=>(hs t ht).1
   generalize crs O u=n at sc it;generalize v:u::us=k at *;change J2 K9 [2] _ iM _ [AP w,AP _,AP _] h _;show agG rfl rfl (by rw[Ds];show K7 (K7 J hl) ∅) ?_;show dj (λi U h'=>h'=h/\U=((k.take i).map λt=>dt3 n t==0).map W.bl) ?_ ?_ ⟨rfl,rfl⟩;rintro i z U h' N x e2 ⟨rfl,rfl⟩;obtain⟨t,p,rfl⟩:=Je e2;show{[tw t],rfl,(a ⋯ sc ((hs t ((G t).mp (T7 p)).1).2.mono ⋯) ?_)};change N _ h';rw[cZ];show x _ _ {rfl,?_};rw[M4,p];simp
   ·rintro U h' ⟨rfl,rfl⟩;rw[Ds,Nj];change(match TV _ with
     | some bs=>Q _ h'
     | none=>False)
    rw[yI];have y:(k.map λt=>dt3 n t==0).all id=mW ts:=by
     by_cases H:AllP ts
     rw[yd H,Vl];intro b hb;obtain⟨t,ht,rfl⟩:=Ni.mp hb;have:=it.mpr H t ((G t).mp ht).1 ((G t).mp ht).2
     simp[this];rw[N8 H];show Bool.eq_false_iff.mpr λhb=>H<|it.mp λt ht g=>?_
     rw[Vl]at hb;have:=hb _ (Ni.mpr {t,(G t).mpr ⟨ht,g⟩,rfl})
     simpa using this
    dsimp only
    rwa[y]
def ake {G}(J:qd G):qd (z8 G):=by
 assumption
def JT {s b}(I:Nat->Sw->Gh->Prop)(Y:∀i σ h,I i σ h->∀P,P->s.go h P)
  (G:∀i w  (σ) (h) (N),(∀σ' h',I (i+1) σ' h'->N σ' h')->ws[i]?=AP w->I i σ h->g w σ h fun U h1=>b {D with nx:=N,ct:=N,bk:=D.nx} U h1)
  (O:∀σ h,I ws.length σ h->D.nx σ h):∀{σ h},I 0 σ h->iR s g b D ws σ h:=by
 induction ws generalizing I with
 | nil=>intro σ h J;show Y 0 σ h J _ (O σ h J)
 | cons w ws a=>
  intro σ h J;show Y 0 σ h J _<|G 0 w σ h _ (fun σ' h' q=>(a _ (λi=>Y<|i+1) (λi w σ h N c e hi=>G _ w σ h N c (by simpa using e) hi) (fun σ h q=>O σ h q) q)) rfl J
variable {us:List W}
def aeA (e:h.c n=AP (.lst us))(hz:us.length<El)(k:Q .non (h.set n (.lst (us++[w])))):cW (.loc n) [w] h Q:=by
 change(match h.c n with
  | some (Cell.lst us)=>_
  | _=>False)
 simp_all
def ab8 {zs}(e:h.c n=AP (.lst us))(hz:us.length+zs.length<=El)(k:Q .non (h.set n (.lst (us++zs)))):jW (.loc n) [.lst zs] h Q:=by
 dsimp [jW]
 show e ▸ fQ.mk hz k
def ad2 {tt}(Y:∀R,ma σ h R=R [.int j] h)(h1:-(2^62)<=j)(h2:j<2^62)(hz:j.toNat<=El)(I:Nat->List W->Gh->Prop)
  (J:∀i  (acc) (h) (N:List W->Gh->Prop),(∀G h',I (i+1) G h'->N G h')->i<j.toNat->I i acc h ->
   ∃vs,own (.int (i))=AP vs/\tt (vs.map AP++wC ix σ) h λc h1=>Lg c (te (vs.map AP++wC ix σ) h1 λv h2=>N (acc++[v]) h2) (N acc h1))
  (U:∀acc h,I j.toNat acc h->Q (.lst acc) h) (h0:I 0 [] h):J2 own ix (pU ma) tt te σ h Q:=by
 unfold J2 pU;rw[Y];show Ax.mk h1 h2<|fQ.mk (zE ▸ hz) ?_
 show dj I (λi w acc h N a e hi=>?_) (λacc h q=>U acc h (by rw[zE]at q;show q)) h0;obtain⟨O,rfl⟩:=Ip e;rw[Int.zero_add];show J i acc h N a O hi
@[reducible]noncomputable def Mt:=Tr×Tr×Tr
abbrev vm (M:Mt)(v:Tr):Tr:=(dt3 M.1 v,dt3 M.2.1 v,dt3 M.2.2 v)
abbrev tr (M:Mt):Mt:=((M.1.1,M.2.1.1,M.2.2.1),(M.1.2.1,M.2.1.2.1,M.2.2.2.1),(M.1.2.2,M.2.1.2.2,M.2.2.2.2))
abbrev mm (M N:Mt):Mt:=(vm (tr N) M.1,vm (tr N) M.2.1,vm (tr N) M.2.2)
abbrev RG (M:Mt):Mt:=(crs M.2.1 M.2.2,crs M.2.2 M.1,crs M.1 M.2.1)
abbrev adj (M:Mt):Mt:=tr (RG M)
abbrev det (M:Mt):Int:=dt3 (crs M.1 M.2.1) M.2.2
abbrev sM (k:Int)(M:Mt):Mt:=(sc k M.1,sc k M.2.1,sc k M.2.2)
abbrev idM:Mt:=((1,0,0),(0,1,0),(0,0,1))
def tr3 (h1:p.1=q.1)(h2:p.2.1=q.2.1)(G:p.2.2=q.2.2):p=q:=by grind
def Iz (x)(N)(v):dt3 (vm (tr N) x) v=dt3 x (vm N v):=by
 simp[dt3,vm,tr];grind
def afn (M N)(v):vm (mm M N) v=vm M (vm N v):=tr3 (Iz _ _ _) (Iz _ _ _) (Iz _ _ _)
def acs (M)(k)(v):vm (sM k M) v=sc k (vm M v):=tr3 (jR _ _ _) (jR _ _ _) (jR _ _ _)
def acZ (v):vm idM v=v:=by
 simp[vm,idM,dt3]
def aeD (M:Mt):mm M (adj M)=sM (det M) idM:=by
 simp[mm,vm,adj,tr,RG,det,sM,idM,sc,dt3,crs];grind
def W3 (M):mm (adj M) M=sM (det M) idM:=by
 simp[mm,vm,adj,tr,RG,det,sM,idM,sc,dt3,crs];grind
def ac7 (M)(p q):crs (vm M p) (vm M q)=vm (RG M) (crs p q):=by
 simp only[vm,RG,dt3,crs];show tr3 ?_ ?_ ?_<;>grind
def zce (M)(x v):dt3 (vm (RG M) x) (vm M v)=det M*dt3 x v:=by
 change dt3 (vm (tr (adj M)) x) _=_;rw[Iz,<-afn,W3,acs,acZ,iw,Yg]
def ac0 (M)(p q r):dt3 (crs (vm M p) (vm M q)) (vm M r)=det M*dt3 (crs p q) r:=by rw[ac7,zce]
def aew (M):det (tr M)=det M:=by
 simp[det,tr,dt3,crs];grind
def adJ (M N:Mt):det (mm M N)=det M*det N:=by
 change dt3 (crs (vm _ _) (vm _ _)) (vm _ _)=_;rw[ac0,aew,Yg];rfl
def RL (k)(M):det (sM k M)=det M*(k*k*k):=by
 simp[det,sM];rw[jw,jR,iw];grind
def acF:det idM=1:=rfl
def Fe {M}(h:det M≠0):det (adj M)≠0:=by
 have e:=adJ M (adj M);rw[aeD,RL,acF]at e;intro z;rw[z,Int.mul_zero,Int.one_mul]at e;show(Ue.mp e).elim (λe=>(Ue.mp e).elim h h) h
def aaf {M}{v:Tr}(h:det M≠0)(G:v≠(0,0,0)):vm M v≠(0,0,0):=by
 intro e;have e2:vm (adj M) (vm M v)=(0,0,0):=by rw[e];simp[vm,dt3]
 rw[<-afn,W3,acs,acZ]at e2;show G<|(mH h).mp e2
abbrev mw (M:Mt):W:=.tup [.int M.1.1,.int M.1.2.1,.int M.1.2.2,.int M.2.1.1,.int M.2.1.2.1,.int M.2.1.2.2,.int M.2.2.1,.int M.2.2.2.1,.int M.2.2.2.2]
abbrev mwl (M:Mt):W:=.lst [.int M.1.1,.int M.1.2.1,.int M.1.2.2,.int M.2.1.1,.int M.2.1.2.1,.int M.2.1.2.2,.int M.2.2.1,.int M.2.2.2.1,.int M.2.2.2.2]
abbrev Rm (m:Nat)(M:Mt):Prop:=CV m M.1/\CV m M.2.1/\CV m M.2.2
def Rm.mono {m n M}(h:Rm m M)(e:m<=n):Rm n M:={h.1.mono e,h.2.1.mono e,h.2.2.mono e}
def jN (J:CV m p)(G:CV n q):Sm (m+n+2) (dt3 p q):=
 ((J.1.mul G.1).add (J.2.1.mul G.2.1)).add (J.2.2.mul G.2.2) |>.mono ⋯
def Ef {M v}(h:Rm m M)(G:CV n v):CV (m+n+2) (vm M v):={jN h.1 G,jN h.2.1 G,jN h.2.2 G}
def ux {M:Mt}(h:Rm m M):Rm (m+m+1) (RG M):={gY h.2.1 h.2.2,gY h.2.2 h.1,gY h.1 h.2.1}
abbrev xQ (h:Gh)(w:W)(ns:List Int):Prop:=w=.lst (ns.map .int)\/w=.tup (ns.map .int)\/∃n,w=.loc n/\h.c n=AP (.lst (ns.map .int))
def xQ.src (e:xQ h w ns):∃s,Dg h w=AP s/\s.ws=ns.map .int/\∀h',xQ h' w ns->∀P,P->s.go h' P:=by
 rcases e with rfl|rfl|⟨n,rfl,e⟩
 show{_,rfl,rfl,λ_ _ _ p=>p};show{_,rfl,rfl,λ_ _ _ p=>p};show{{ns.map .int,AP (n,ns.map .int)},by simp[Dg,e],rfl,λh' e' P p=>{?_,p}};rcases e' with e'|e'|⟨m,e',q⟩
 cases e'
 cases e'
 simp_all
def zbI {b}(U:σ[i]?=AP (AP w))(e:xQ h w ns)(I:Nat->Sw->Gh->Prop)
  (a:∀i σ h',I i σ h'->xQ h' w ns)
  (O:∀i t σ h  (N),(∀σ' h',I (i+1) σ' h'->N σ' h')->ns[i]?=AP t->I i σ h->g (.int t) σ h fun G h1=>b {D with nx:=N,ct:=N,bk:=D.nx} G h1)
  (J:∀σ h,I ns.length σ h->D.nx σ h) (h0:I 0 σ h):mV (Gj (ao i)) g b D σ h:=by
 unfold mV Gj ao;rw[U];dsimp only;obtain⟨s,es,c,Y⟩:=e.src;rw[es];change iR s g b D _ σ h;rw[c];show JT I (λi σ h' hi=>Y h'<|a i σ h' hi) (λi w σ h N d e hi=>?_) (fun σ h q=>J σ h<|by rwa[Ds]at q) h0;obtain⟨t,f,rfl⟩:=ints_get e;grind
def Mr {tt}(U:σ[i]?=AP (AP w))(e:xQ h w ns)(hz:ns.length<=El)(I:Nat->List W->Gh->Prop)
  (b:∀i acc h',I i acc h'->xQ h' w ns)
  (J:∀i t  (acc) (h) (N:List W->Gh->Prop),(∀G h',I (i+1) G h'->N G h')->ns[i]?=AP t->I i acc h ->
   tt (AP (.int t)::wC ix σ) h λc h1=>Lg c (te (AP (.int t)::wC ix σ) h1 λv h2=>N (acc++[v]) h2) (N acc h1))
  (O:∀acc h,I ns.length acc h->Q (.lst acc) h) (h0:I 0 [] h):J2 K9 ix (Gj (ao i)) tt te σ h Q:=by
 unfold J2 Gj ao;rw[U];dsimp only;obtain⟨s,es,d,Y⟩:=e.src;rw[es];change fQ _ _;rw[d];show fQ.mk (by rwa[Ds])<|Gp I (λi acc h' hi=>Y h'<|b i acc h' hi) (λi w acc h N a e hi=>?_) (λacc h q=>O acc h<|by rwa[Ds]at q) h0
 obtain⟨t,f,rfl⟩:=ints_get e;show{[.int t],rfl,J i t acc h N a f hi}
abbrev HX (c:Aw):Prop:=∀{h:Gh}{w:W}{ns:List Int}{Q:WK}{E:Ci},xQ h w ns->Q (.int (gL ns)) h->c [w] h Q E
abbrev abw (c0:Aw):Prop:=∀{h:Gh}{w:W}{ns:List Int}{m:Nat}{Q:WK}{E:Ci},xQ h w ns->NZ ns->(∀n∈ns,Sm m n)->m<=8000->ns.length<=1000 ->
 (∀(ms:List Int) (k:Int),k≠0->ns=ms.map (· * k)->Nk ms->(∀n∈ms,Sm m n)->Q (.tup (ms.map .int)) h)->c0 [w] h Q E
abbrev alC (t:Tr):W:=.lst [.int t.1,.int t.2.1,.int t.2.2]
abbrev VJ (b:Bool)(t:Tr):W:=if b then tw t else alC t
abbrev MwB (b:Bool)(M:Mt):W:=if b then mw M else mwl M
abbrev afP (c0:Aw):Prop:=∀{h:Gh}{p q:Tr}{m:Nat}{Q:WK}{E:Ci}(b G:Bool),m<=10000->CV m p->CV m q->Q (tw (crs p q)) h->c0 [VJ b p,VJ G q] h Q E
abbrev ahG (c0:Aw):Prop:=∀{h:Gh}{p q:Tr}{m:Nat}{Q:WK}{E:Ci}(b G:Bool),m<=10000->CV m p->CV m q->Q (.int (dt3 p q)) h->c0 [VJ b p,VJ G q] h Q E
def Ju:afP Ed:=by
 intro h p q m Q E b O c J G k;obtain⟨f,e,d⟩:=J;obtain⟨a,Y,U⟩:=G;cases b<;>cases O
 ·(repeat(show And.intro (by show gP.of (by trivial) (by trivial) ⋯ ⋯) ?_;conv=>whnf))
  show k
 ·(repeat(show And.intro (by show gP.of (by trivial) (by trivial) ⋯ ⋯) ?_))
  show k
 ·(repeat(show And.intro (by show gP.of (by trivial) (by trivial) ⋯ ⋯) ?_))
  show k
 ·(repeat(show And.intro (by show gP.of (by trivial) (by trivial) ⋯ ⋯) ?_))
  show k
def afj:ahG Qu:=by
 intro h p q m Q E b O c J G k;obtain⟨f,e,d⟩:=J;obtain⟨a,Y,U⟩:=G;cases b<;>cases O
 ·(repeat(show And.intro (gP.of (by trivial) (by trivial) ⋯ ⋯) ?_))
  show k
 ·(repeat(show And.intro (gP.of (by trivial) (by trivial) ⋯ ⋯) ?_))
  show k
 ·(repeat(show And.intro (by show gP.of (by trivial) (by trivial) ⋯ ⋯) ?_))
  show k
 ·(repeat(show And.intro (gP.of (by trivial) (by trivial) ⋯ ⋯) ?_))
  show k
abbrev JN (c0:Aw):Prop:=∀{h:Gh}{M:Mt}{Q:WK}{E:Ci}(b:Bool),Q (.lst [VJ b M.1,VJ b M.2.1,VJ b M.2.2]) h->c0 [MwB b M] h Q E
def Sx:JN zK:=by
 intro h M Q E b k;cases b;show k
 ·first
  | show k
abbrev yx (c0:Aw):Prop:=∀{h:Gh}{M:Mt}{m:Nat}{Q:WK}{E:Ci}(b:Bool),m<=10000->Rm m M->Q (mw (RG M)) h->c0 [MwB b M] h Q E
variable {ro:Aw}
def ajR (G:afP cr)(J:JN ro):yx (Jk cr ro):=by
 intro h M m Q E b O hs k;show J b<|G b b O hs.2.1 hs.2.2<|G b b O hs.2.2 hs.1<|G b b O hs.1 hs.2.1 k
abbrev WY (c0:Aw):Prop:=∀{h:Gh}{M:Mt}{m:Nat}{Q:WK}{E:Ci}(b:Bool),m<=4000->Rm m M->Q (.int (det M)) h->c0 [MwB b M] h Q E
abbrev aeo (c0:Aw):Prop:=∀{h:Gh}{p q r:Tr}{m:Nat}{Q:WK}{E:Ci}(b:Bool),m<=4000->CV m p->CV m q->CV m r->Q (.int (dt3 (crs p q) r)) h->c0 [VJ b p,VJ b q,VJ b r] h Q E
def aai (G:ahG dt)(J:afP cr):aeo (Wr dt cr):=by
 intro h p q r m Q E b a U O Y k;show J b b ⋯ U O<|G true b ⋯ (gY U O) (Y.mono<|⋯) k
def w_size {O}(G:aeo O)(J:JN ro):WY (Cw O ro):=by
 intro h M m Q E b U hs k;show J b<|G b U hs.1 hs.2.1 hs.2.2 k
abbrev tK (Q:Bool->Gh->Prop):WK:=λw h=>match w with
 | .bl c=>Q c h
 | _=>False
abbrev uK (Q:Bool->Gh->Prop):WK:=λw h=>match afz h w with
 | some b=>Q b h
 | none=>False
abbrev aK (b:ME)(σ:Sw)(Q:WK):WK:=λx h=>match x with
 | .bl true=>b σ h Q
 | .bl false=>Q (.bl false) h
 | _=>False
abbrev oK (b:ME)(σ:Sw)(Q:WK):WK:=λx h=>match x with
 | .bl false=>b σ h Q
 | .bl true=>Q (.bl true) h
 | _=>False
abbrev nK (Q:WK):WK:=λx h=>match x with
 | .bl c=>Q (.bl (!c)) h
 | _=>False
abbrev iK (R:Src->Gh->Prop):WK:=λw h=>match Dg h w with
 | some s=>R s h
 | none=>False
abbrev pK (Q:Option Int->Gh->Prop):WK:=λw h=>match w with
 | .int i=>Q (AP i) h
 | _=>False
abbrev ah7 (g:MG)(b:MS)(D:cH)(σ:Sw):Src->Gh->Prop:=λs h=>iR s g b D s.ws σ h
abbrev lcK (own:W->Option (List W))(ix:List Nat)(tt:MT)(te:ME)(σ:Sw)(Q:WK):Src->Gh->Prop:=λs h=>fQ s.ws.length (KR s own ix tt te σ Q s.ws [] h)
abbrev rgK (R:Src->Gh->Prop):List W->Gh->Prop:=λws h=>match ws with
 | [.int j]=>Ax j (R ⟨Dj 0 j.toNat,Af⟩ h)
 | _=>False
abbrev zpK (R:Src->Gh->Prop):List W->Gh->Prop:=λws h=>match ws with
 | [x,y]=>(match abq h x y with
  | some s=>R s h
  | none=>False)
 | _=>False
def aO {m u}(x:m {D with nx:=u D} σ h):aR m u D σ h:=x
variable {N:Sw->Gh->Prop}
def bV {b c:Sw->Gh->Prop}{r:WK}(x:N σ h):cH.nx ⟨N,r,b,c⟩ σ h:=x
def uJ {b c r}(x:r w h):cH.rt ⟨N,r,b,c⟩ w h:=x
def cO (x:D.nx σ h):bN D σ h:=x
def bA {m}(x:m σ h λw h1=>g w σ h1 D.nx):bB m g D σ h:=x
def eE {m}(x:m σ h λ_ h1=>D.nx σ h1):jD m D σ h:=x
def bU {m}(x:m σ h D.rt):bK m D σ h:=x
def anf {c:Str}(x:E ⟨c,[]⟩ h):gC c E D σ h:=x
def dR {t}{a b}(x:t σ h λc h1=>br c (a D σ h1) (b D σ h1)):fD t a b D σ h:=x
def aaM {t}{a b}(x:t σ h λc h1=>br c (a σ h1 Q) (b σ h1 Q)):mIf t a b σ h Q:=x
def m9 {g}(e:w=.tup ws)(b:UW ws.length n=true)(x:g ws σ h N):vf n g w σ h N:=by
 subst e;unfold vf;dsimp only
 rwa[b]
def eN {r}(x:g w σ h fun G h1=>r ws G h1 N):lG g r (w::ws) σ h N:=x
def Xb (x:N σ h):VL [] σ h N:=x
def aq (e:σ[i]?=AP (AP w))(x:Q w h):ao i σ h Q:=by
 unfold ao
 rwa[e]
def bZ (x:Q w h):mC w σ h Q:=x
def aM {r}{ma mb}(x:ma σ h λa h1=>mb σ h1 λb h2=>r a b h2 Q):Av r ma mb σ h Q:=x
def Sy {r ma}(x:ma σ h λa h1=>r a h1 Q):Y6 r ma σ h Q:=x
def Bl {i}(x:Q (.int (-i)) h):Xu (.int i) h Q:=x
def aB {a r}{Q}(x:a σ h λw h1=>r σ h1 λws h2=>Q (w::ws) h2):aj a r σ h Q:=x
def aH {Q:List W->Gh->Prop}(x:Q [] h):aG σ h Q:=x
variable {P:Prop}
def gU (e:Nat.ble n 1000=true)(x:P):fQ n P:=by
 unfold fQ
 rwa[e]
def qK {t}(x:t σ h λws h1=>fQ ws.length (Q (.tup ws) h1)):nQ t σ h Q:=x
def M8 {t}(x:t σ h λws h1=>fQ ws.length (Q (.lst ws) h1)):yG t σ h Q:=x
def aU {c}(x:ma σ h λws h1=>c ws h1 Q E):aF c E ma σ h Q:=x
def cN {r:MC}(x:ma σ h λws h1=>r ws h1 Q):Ft r ma σ h Q:=x
def bJ {m}{Q}(x:m σ h (tK Q)):bw m σ h Q:=x
def pB {c}{Q}(x:Q c h):tK Q (.bl c) h:=x
def Bg {m}{Q}(x:m σ h (uK Q)):Ko m σ h Q:=x
def abm {b}{Q}(e:afz h w=AP b)(x:Q b h):uK Q w h:=by
 unfold uK
 rwa[e]
def XQ {t}{Q}(x:t σ h λc h1=>Q (!c) h1):aaS t σ h Q:=x
def BZ {t u:MT}{Q:Bool->Gh->Prop}(x:t σ h λc h1=>br c (u σ h1 Q) (Q false h1)):afe t u σ h Q:=x
def Yp {t u}{Q}(x:t σ h λc h1=>br c (Q true h1) (u σ h1 Q)):mOr t u σ h Q:=x
def eZ {Q}(x:Q true h):iM σ h Q:=x
def uq {a b}(x:a σ h (aK b σ Q)):Qi a b σ h Q:=x
def XD {a b}(x:a σ h (oK b σ Q)):afE a b σ h Q:=x
def QF {a}(x:a σ h (nK Q)):Yk a σ h Q:=x
def aem {b:ME}{c:Bool}(x:br c (b σ h Q) (Q (.bl false) h)):aK b σ Q (.bl c) h:=by
 cases c with
 | true=>show x.1 rfl
 | false=>show x.2 rfl
def ahH {b}{c}(x:br c (Q (.bl true) h) (b σ h Q)):oK b σ Q (.bl c) h:=by
 cases c with
 | true=>show x.1 rfl
 | false=>show x.2 rfl
def ahY {c}(x:Q (.bl (!c)) h):nK Q (.bl c) h:=x
def yg {a b}(x:a):br true a b:=rG rfl x
def tR {a b}(x:b):br false a b:=gM rfl x
def RB {a b}(x:b):br (!true) a b:=tR x
def adi {a b:Prop}(x:a):br (!false) a b:=yg x
def dH {a b}(x:a):Lg true a b:=x
def G6 {a b}(x:b):Lg false a b:=x
def Xn {i}(x:Q (.int (i-j)) h):Di (.int i) (.int j) h Q:=x
def eU {i}(x:Q (.int (i+j)) h):cF (.int i) (.int j) h Q:=x
def qF {i}(c:gP i j)(x:Q (.int (i*j)) h):dO (.int i) (.int j) h Q:=⟨c,x⟩
def Iw {i:Int}(c:Q6 i j)(x:Q (.int (i.fdiv j)) h):Km (.int i) (.int j) h Q:=⟨c,x⟩
def Bx {i}(c:j≠0)(x:Q (.int (i.fmod j)) h):Er (.int i) (.int j) h Q:=⟨c,x⟩
def ad8 {i}(x:Q (.bl (decide (i<j))) h):kLt (.int i) (.int j) h Q:=x
def wY {i}(x:Q (.bl (decide (i>j))) h):S7 (.int i) (.int j) h Q:=x
def O5 {i}(x:Q (.bl (decide (i=j))) h):KN (.int i) (.int j) h Q:=x
def ZK {i}(x:Q (.bl (decide (i≠j))) h):Nh (.int i) (.int j) h Q:=by
 have e:(!K6 (.int i) (.int j))=decide (i≠j):=by rw[cZ];by_cases z:i=j<;>simp[z]
 change Q _ h
 rwa[e]
def ahm (x:Q (.bl (decide (p≠q))) h):Nh (tw p) (tw q) h Q:=by
 have e:(!K6 (tw p) (tw q))=decide (p≠q):=by rw[V7];by_cases z:p=q<;>simp
 change Q _ h
 rwa[e]
def dg {x}{i}(e:view h x=AP ws)(a:Np ws i=AP w)(k:Q w h):Bq x (.int i) h Q:=by
 unfold Bq;simp_all
def dh {xs}(e:view h w=AP xs)(x:Q (.int (xs.length:Int)) h):Fz [w] h Q:=by
 unfold Fz;simp_all
def gZ (x:Q (.tup us) h):fK [.lst us] h Q:=x
def Nv {bs}(e:gq h w=AP us)(b:TV us=AP bs)(x:Q (.bl (bs.any id)) h):X3 [w] h Q:=by
 unfold X3;simp_all
def Ho (e:gq h w=AP us)(b:qj us=AP ns)(x:Q (.int ns.sum) h):XH [w] h Q:=by
 unfold XH;simp_all
def adB {b:Bool}(x:Q (.int (if b then 1 else 0)) h):YT [.bl b] h Q:=x
def nW {mi b}(x:mi σ h (ah7 g b D σ)):mV mi g b D σ h:=x
variable {o:Option (Nat×List W)}
def oH {b}(x:iR ⟨ws,o⟩ g b D ws σ h):ah7 g b D σ ⟨ws,o⟩ h:=x
def jr {b}(x:D.nx σ h):iR ⟨ws,Af⟩ g b D [] σ h:=x
def kO {r b}(x:g w σ h fun G h1=>b {D with nx:=iR ⟨ws,Af⟩ g b D r,ct:=iR ⟨ws,Af⟩ g b D r,bk:=D.nx} G h1):iR ⟨ws,Af⟩ g b D (w::r) σ h:=x
variable {R:Src->Gh->Prop}
def gK {m}(x:m σ h (iK R)):Gj m σ h R:=x
def rm (e:Dg h w=AP ⟨ws,o⟩)(x:R ⟨ws,o⟩ h):iK R w h:=by
 unfold iK
 rwa[e]
def DY (x:ma σ h (rgK R)):pU ma σ h R:=x
def ad0 (x:ma σ h (zpK R)):abx ma σ h R:=x
variable {bs:List W}
def agi {a b:W}{as:List W}{zs:List W}(e:Ah a=AP as)(e':Ah b=AP bs)(z:CW as bs=zs)(x:R ⟨zs,Af⟩ h):zpK R [a,b] h:=by
 subst z;have es:abq h a b=AP {CW as bs,Af}:=by unfold abq;rw[e,e']
 unfold zpK;simp_all
def ahF:CW [] bs=[]:=rfl
def ahz {a b}{as l}(e:CW as bs=l):CW (a::as) (b::bs)=.tup [a,b]::l:=by rw[CW,e]
def jt {mi tt}(x:mi σ h (lcK own ix tt te σ Q)):J2 own ix mi tt te σ h Q:=x
def mQ {tt}(e:Nat.ble ws.length 1000=true)(x:KR ⟨ws,o⟩ own ix tt te σ Q ws [] h):lcK own ix tt te σ Q ⟨ws,o⟩ h:=gU e x
def oX {acc tt}(x:Q (.lst acc) h):KR ⟨ws,Af⟩ own ix tt te σ Q [] acc h:=x
def Ay {r acc vs:List W}{tt:MT}(e:own w=AP vs)(x:tt (vs.map AP++wC ix σ) h λc h1=>Lg c (te (vs.map AP++wC ix σ) h1 λv h2=>KR ⟨ws,Af⟩ own ix tt te σ Q r (acc++[v]) h2) (KR ⟨ws,Af⟩ own ix tt te σ Q r acc h1)):KR ⟨ws,Af⟩ own ix tt te σ Q (w::r) acc h:=by
 change match own w with
  | some vs=>tt _ h λc h1=>Lg c _ _
  | none=>False
 rwa[e]
variable {body:Ci->MS}
def aho {N}(hl:UW ws.length n=true)(x:body E {nx:=λ_ h'=>Q .non h',rt:=Q} (ws.map AP++Kv (N-ws.length) Af) h):Ei n N false body ws h Q E:=by
 unfold Ei
 rwa[hl]
variable {r:W->Option Int->Option Int->Gh->WK->Prop}
def zf {m}{l u}(x:m σ h λa h1=>l σ h1 λlo h2=>u σ h2 λhi G=>r a lo hi G Q):U6 r m l u σ h Q:=x
def jm {m}{Q}(x:m σ h (pK Q)):jV m σ h Q:=x
def T8 {i:Int}{Q:Option Int->Gh->Prop}(x:Q (AP i) h):pK Q (.int i) h:=x
def QS {c}[Decidable c]{a b}(x:¬c->a)(y:c->b):br (!decide c) a b:={λe=>x (by simpa using e),λe=>y (by simpa using e)}
def abp {G:Type}{a x:G}{l}:(a::l).set 0 x=x::l:=rfl
def abt {G:Type}{a x:G}{l l'}(e:l.set n x=l'):(a::l).set (n+1) x=a::l':=by simp_all
def kE {σ':Sw}(e:σ.set i (AP w)=σ')(x:N σ' h):Aq i w σ h N:=by
 subst e;show x
def nV {σ'}(x:N σ' h)(e:σ.set i (AP w)=σ':=by repeat(first|with_reducible exact abp|with_reducible apply abt)):Aq i w σ h N:=kE e x
abbrev ini (ws:List W)(n:Nat):Sw:=ws.map AP++Kv (n-ws.length) Af
def ahv:ini [] 0=[]:=rfl
def ahB {l}(e:ini [] n=l):ini [] (n+1)=Af::l:=by
 subst e;rfl
def ahM {l}(e:ini ws n=l):ini (w::ws) (n+1)=AP w::l:=by
 subst e;unfold ini;simp_all
def iz {N}(hl:UW ws.length n=true)(e:ini ws N=σ)(x:body E {nx:=λ_ h'=>Q .non h',rt:=Q} σ h):Ei n N false body ws h Q E:=by
 subst e;show aho hl x
variable {mo:ME}
def z9 {mi:ME}{ms:aa4}(x:mo σ h λo h1=>mi σ h1 λi h2=>ms o i w h2 λh3=>N σ h3):LK mo mi ms w σ h N:=x
def Gm {j}{G N}(e:h.c n=AP (.lst ws))(i:TX ws.length k=AP j)(s:ws.set j w=G)(x:∀g,g.c n=AP (.lst G)->(∀m,m≠n->g.c m=h.c m)->g.nx=h.nx->N g):Kc (.loc n) (.int k) w h N:=by
 subst s;change(match h.c n with
  | some (Cell.lst ws)=>(match TX _ k with
   | some j=>N _
   | none=>False)
  | _=>False)
 rw[e];dsimp only;show i ▸ x _ (rA _ _ _) (λ_ e=>jO e) rfl
def aiQ (e:h.c n=AP (.lst ws))(x:R ⟨ws,AP (n,ws)⟩ h):iK R (.loc n) h:=rm (by simp[Dg,e]) x
def oF {N}(hl:UW ws.length n=true)(e:ini ws N=σ)(x:body E {nx:=λ_ h'=>jE true h .non h' Q,rt:=λw h'=>jE true h w h' Q} σ h):Ei n N true body ws h Q E:=by
 subst e;unfold Ei
 rwa[hl]
def pH {a b}(x:Q (.bl (decide (a=b))) h):KN (.str a) (.str b) h Q:=x
def afm {a b}(x:Q (.bl (decide (a≠b))) h):Nh (.str a) (.str b) h Q:=by
 have e:(!K6 (.str a) (.str b))=decide (a≠b):=by rw[K6];by_cases z:a=b<;>simp[z]
 change Q _ h
 rwa[e]
set_option hygiene false in
local macro_rules | `(tactic| rfl') => `(tactic| repeat (first
 | with_reducible (first|refine aO ?_|refine bA ?_|refine aU ?_|refine aB ?_|refine aH ?_)
 | ((with_reducible apply aq);exact rfl)|with_reducible refine bZ ?_|with_reducible refine aM ?_|with_reducible refine kE (by repeat(first|with_reducible exact abp|with_reducible apply abt)) ?_|with_reducible refine bV ?_|with_reducible refine uJ ?_
 | with_reducible (first|refine dR ?_|refine aaM ?_|refine bU ?_|refine eE ?_|refine cO ?_|refine anf ?_)
 | with_reducible (first|refine bJ ?_|refine pB ?_|refine Bg ?_)|((with_reducible apply abm);exact rfl)|with_reducible (first|refine XQ ?_|refine BZ ?_|refine Yp ?_|refine eZ ?_)
 | with_reducible (first|refine uq ?_|refine XD ?_|refine QF ?_|refine aem ?_|refine ahH ?_|refine ahY ?_)
 | with_reducible (first|refine yg ?_|refine tR ?_|refine RB ?_|refine adi ?_|refine dH ?_|refine G6 ?_)
 | with_reducible refine qK ?_|with_reducible refine M8 ?_|((with_reducible apply gU);exact rfl)|with_reducible (first|refine cN ?_|refine Sy ?_|refine Bl ?_)
 | ((with_reducible apply m9);exact rfl;exact rfl)|with_reducible refine eN ?_|with_reducible refine Xb ?_
 | with_reducible refine Xn ?_|with_reducible refine eU ?_|((with_reducible apply qF);exact gP.of (by trivial) (by trivial) (by lia) (by lia))|with_reducible refine ad8 ?_|with_reducible refine wY ?_
 | with_reducible (first|refine O5 ?_|refine ZK ?_|refine ahm ?_)
 | ((with_reducible apply dg);exact rfl;exact rfl)|((with_reducible apply dh);exact rfl)|with_reducible refine gZ ?_|((with_reducible apply Nv);exact rfl;exact rfl)|((with_reducible apply Ho);exact rfl;exact rfl)|with_reducible refine adB ?_
 | with_reducible (first|refine nW ?_|refine oH ?_|refine jr ?_|refine kO ?_|refine gK ?_)|((with_reducible apply rm);exact rfl)|with_reducible refine DY ?_|with_reducible refine ad0 ?_|((with_reducible apply agi);exact rfl;exact rfl;(repeat(first|with_reducible exact ahF|with_reducible exact zip1|with_reducible apply ahz)))
 | with_reducible refine jt ?_|((with_reducible apply mQ);exact rfl)|with_reducible refine oX ?_|((with_reducible apply Ay);exact rfl)|((with_reducible apply iz);exact rfl;repeat(first|with_reducible exact ahv|with_reducible apply ahM|with_reducible apply ahB))|with_reducible (first|refine zf ?_|refine jm ?_|refine T8 ?_)|with_reducible refine p3K_v (by repeat(first|with_reducible exact abp|with_reducible apply abt)) (by repeat(first|with_reducible exact abp|with_reducible apply abt)) (by repeat(first|with_reducible exact abp|with_reducible apply abt)) ?_|((with_reducible apply by2_h);decide +kernel;(repeat(first|with_reducible exact abp|with_reducible apply abt)))|((with_reducible apply by2_x);decide +kernel)|((with_reducible apply br_xt);decide +kernel)|((with_reducible apply br_xf);decide +kernel)|with_reducible refine z9 ?_|((with_reducible apply aiQ);(with_reducible assumption))|((with_reducible apply mForL_cc);(with_reducible assumption))|((with_reducible apply mForL_cn);(with_reducible assumption))|((with_reducible apply mLCL_cn);(with_reducible assumption))|((with_reducible apply mLCL_cc);(with_reducible assumption);exact rfl)|((with_reducible apply kIx_c);(with_reducible assumption);exact rfl)|((with_reducible apply zpK_c);(with_reducible assumption);exact rfl;(repeat(first|with_reducible exact ahF|with_reducible exact zip1|with_reducible apply ahz)))|((with_reducible apply oF);exact rfl;(repeat(first|with_reducible exact ahv|with_reducible apply ahM|with_reducible apply ahB)))|with_reducible refine pH ?_|with_reducible refine afm ?_|((with_reducible apply br_any);decide +kernel)))
abbrev Oq (h:Gh)(n:Nat):Prop:=∃a b,h.c n=AP (.lst [.int a,.int b])/\0<=b/\b<2147483647
abbrev zX (c:Aw):Prop:=∀{h:Gh}{n:Nat}{many:Int}{Q:WK}{E:Ci},Oq h n->0<many->Sm 60 many->(∀d h',0<=d->d<many->Oq h' n->Vq n h h'->Q (.int d) h')->c [.loc n,.int many] h Q E
def Ie:zX Hv:=by
 intro h n J Q E g Y hs k;obtain⟨a,b,e,o,l⟩:=g;have G:J≠0:=⋯
 have d:=jg e;have U:∀{h':Gh}{a b:Int},h'.c n=AP (.lst [.int a,.int b])->0<=b->b<2147483647->Oq h' n:=λe i h1=>{_,_,e,i,h1}
 change(match view h (.loc n)with
  | some ws=>_
  | none=>False)
 rw[d];show J8 (λ_=>?_)<|λ_=>?_
 ·change(match view h (.loc n)with
   | some ws=>_
   | none=>False)
  rw[d];show And.intro G ?_;change(match view h (.loc n)with
   | some ws=>_
   | none=>False)
  rw[d];show And.intro {G,60,∅,hs} ?_;change(match h.c n with
   | some (Cell.lst ws)=>_
   | _=>False)
  rw[e];rw[je Y];show k _ _ (ZG _ G) (Zz _ Y) (U (rA _ _ _) o l) Vq.set
 ·change(match view h (.loc n)with
   | some ws=>_
   | none=>False)
  rw[d];show And.intro (.of (m:=31) (n:=64) (Fp (by lia)<|by lia) (.lit rfl) (by decide)<|by decide) ?_;show And.intro (show(2147483647:Int)≠0 by decide) ?_;change(match h.c n with
   | some (Cell.lst ws)=>_
   | _=>False)
  rw[e];have c0:0<=(b*48271+11).fmod 2147483647:=by rw[je ∅];show ZG _ ∅
  have j:(b*48271+11).fmod 2147483647<2147483647:=by rw[je ∅];show Zz _ ∅
  have e2:(h.set n (.lst [.int a,.int ((b*48271+11).fmod 2147483647)])).c n=AP (.lst [.int a,.int ((b*48271+11).fmod 2147483647)]):=rA _ _ _;have O:=jg e2;have f:Vq n h (h.set n (.lst [.int a,.int ((b*48271+11).fmod 2147483647)])):=Vq.set;change(match view (h.set n (.lst [.int a,.int ((b*48271+11).fmod 2147483647)])) (.loc n)with
   | some ws=>_
   | none=>False)
  rw[O];change(match view (h.set n (.lst [.int a,.int ((b*48271+11).fmod 2147483647)])) (.loc n)with
   | some ws=>_
   | none=>False)
  rw[O];generalize(b*48271+11).fmod 2147483647=c at *;show And.intro {∅,64,∅,.lit rfl} ?_;have q:0<=c.fdiv 65536:=by rw[IK ∅];lia
  have p:c.fdiv 65536<2147483647:=by rw[IK ∅];lia
  show And.intro (.of (m:=31) (n:=40) (Fp (by lia)<|by lia) (Fp (by lia)<|by omega) (by decide)<|by decide) ?_;show And.intro (show(2147483629:Int)≠0 by decide) ?_;show And.intro {by decide,64,by decide,.lit rfl} ?_;show And.intro G ?_;rw[je Y];show k _ _ (ZG _ G) (Zz _ Y) (U e2 c0 j) f
abbrev Eo (c:Aw):Prop:=∀{h:Gh}{ns:List Int}{k:Int}{Q:WK}{E:Ci},0<=k->Q (.int (ns.getD k.toNat 0)) h->c [.kls (ns.map .int),.int k] h Q E
def WQ:Eo Jv:=by
 intro h ns k Q E G q;show J8 (λhk=>?_)<|λhk=>?_
 conv=>whnf
 rwa[zbH G hk]
 have e:ns.getD k.toNat 0=0:=by
  simp_all
 rwa[e]at q
@[reducible]noncomputable def C6:=Int×Int×Int×Int×Int×Int
abbrev Ks (c:C6):W:=.tup [.int c.1,.int c.2.1,.int c.2.2.1,.int c.2.2.2.1,.int c.2.2.2.2.1,.int c.2.2.2.2.2]
abbrev Ka (c:C6):List Int:=[c.1,c.2.1,c.2.2.1,c.2.2.2.1,c.2.2.2.2.1,c.2.2.2.2.2]
abbrev J9 (m:Nat)(c:C6):Prop:=Sm m c.1/\Sm m c.2.1/\Sm m c.2.2.1/\Sm m c.2.2.2.1/\Sm m c.2.2.2.2.1/\Sm m c.2.2.2.2.2
abbrev fJ (c:C6):Mt:=((2*c.1,c.2.1,c.2.2.2.1),(c.2.1,2*c.2.2.1,c.2.2.2.2.1),(c.2.2.2.1,c.2.2.2.2.1,2*c.2.2.2.2.2))
def Bj {x}(h:Sm m x):Sm (m+1) (2*x):=by
 unfold Sm at h|-
 lia
def cJ {c:C6}(h:J9 m c):Rm (m+1) (fJ c):=by
 obtain⟨h1,h2,U,J,G,O⟩:=h;show{{Bj h1,h2.mono<|⋯,J.mono<|⋯},{h2.mono<|⋯,Bj U,G.mono<|⋯},J.mono<|⋯,G.mono<|⋯,Bj O}
abbrev TabOk (c0:Aw):Prop:=∀{h:Gh}{c:C6}{m:Nat}{Q:WK}{E:Ci},m<=5000->J9 m c->Q (mw (fJ c)) h->c0 [Ks c] h Q E
def w_tab:TabOk vP:=by
 intro h c m Q E G hs k;obtain⟨h1,h2,Y,U,O,J⟩:=hs
 (repeat(show And.intro (gP.of (by trivial) (by trivial) ⋯ ⋯) ?_))
 show k
abbrev QM (c0:Aw):Prop:=∀{h:Gh}{M:Mt}{p:Tr}{m:Nat}{Q:WK}{E:Ci},m<=5000->Rm m M->CV m p->Q (.lst [.int (vm M p).1,.int (vm M p).2.1,.int (vm M p).2.2]) h->c0 [mw M,tw p] h Q E
def af4 (G:SN dt)(J:JN ro):QM (iY dt ro):=by
 intro h M p m Q E U hs O k;show J true<|G ⋯ hs.1 O<|G ⋯ hs.2.1 O<|G ⋯ hs.2.2 O k
abbrev aaO (c0:Aw):Prop:=∀{h:Gh}{t:Tr}{m:Nat}{Q:WK}{E:Ci},m<=8000->CV m t->(t≠(0,0,0)->∀u,Pl u->Le t u->CV m u->Q (tw u) h)->(t=(0,0,0)->Q .non h)->c0 [.lst [.int t.1,.int t.2.1,.int t.2.2]] h Q E
def afb (G:Pg pl):aaO (jP pl):=by
 intro h t m Q E J hs k k0;obtain⟨a,b,c⟩:=t;change br _ _ _;by_cases e:(a,b,c)=((0,0,0):Tr)
 show gM (by rw[(congrArg (·.1) e),(congrArg (·.2.1) e),(congrArg (·.2.2) e)];rfl) ?_;show k0 e;show rG ?_<|G.tr (.inr rfl) e hs J<|k e
 rw[cZ,cZ,cZ];grind
abbrev Pb (c0:Aw):Prop:=∀{h:Gh}{c:C6}{p:Tr}{m:Nat}{Q:WK}{E:Ci},m<=3000->J9 m c->CV m p->(vm (fJ c) p≠(0,0,0)->∀u,Pl u->Le (vm (fJ c) p) u->CV (m+m+4) u->Q (tw u) h)->(vm (fJ c) p=(0,0,0)->E ⟨"Knot",[]⟩ h)->c0 [Ks c,tw p] h Q E
variable {ta:Aw}
def aeN {tt a}(J:QM tt)(O:TabOk ta)(U:aaO a):Pb (qG tt ta a):=by
 intro h c p m Q E i Y b k g;show O (by lia) Y<|J (by lia) (cJ Y) (b.mono<|by lia)<|U (by lia) ((Ef (cJ Y)<|b.mono<|show m<=m+1 by lia).mono (by lia)) (λe u f G d=>(gM rfl<|k e u f G d)) λe=>(rG rfl<|g e)
abbrev dN (p q:Tr):C6:=(p.1*q.1,p.1*q.2.1+p.2.1*q.1,p.2.1*q.2.1,p.1*q.2.2+p.2.2*q.1,p.2.1*q.2.2+p.2.2*q.2.1,p.2.2*q.2.2)
def J9.mono {m n c}(h:J9 m c)(e:m<=n):J9 n c:={h.1.mono e,h.2.1.mono e,h.2.2.1.mono e,h.2.2.2.1.mono e,h.2.2.2.2.1.mono e,h.2.2.2.2.2.mono e}
def wR (J:CV m p)(G:CV m q):J9 (m+m+1) (dN p q):=
 {(J.1.mul G.1).mono ⋯,((J.1.mul G.2.1).add (J.2.1.mul G.1)).mono ⋯,(J.2.1.mul G.2.1).mono ⋯,((J.1.mul G.2.2).add (J.2.2.mul G.1)).mono ⋯,((J.2.1.mul G.2.2).add (J.2.2.mul G.2.1)).mono ⋯,(J.2.2.mul G.2.2).mono ⋯}
def J9.all {c}(h:J9 m c):∀n∈Ka c,Sm m n:=by
 intro n G;simp[Ka]at G;rcases G with rfl|rfl|rfl|rfl|rfl|rfl
 show h.1;show h.2.1;show h.2.2.1;show h.2.2.2.1;show h.2.2.2.2.1;show h.2.2.2.2.2
abbrev Gb (c:C6)(p:Tr):Int:=c.1*p.1*p.1+c.2.2.1*p.2.1*p.2.1+c.2.2.2.2.2*p.2.2*p.2.2+c.2.1*p.1*p.2.1+c.2.2.2.1*p.1*p.2.2+c.2.2.2.2.1*p.2.1*p.2.2
abbrev acE (c0:Aw):Prop:=∀{h:Gh}{c:C6}{p:Tr}{m:Nat}{Q:WK}{E:Ci},m<=4000->J9 m c->CV m p->Q (.int (Gb c p)) h->c0 [Ks c,tw p] h Q E
def alL:acE Ga:=by
 intro h c p m Q E a J G k;obtain⟨h1,h2,f,e,d,b⟩:=J;obtain⟨Y,U,O⟩:=G;unfold Ga;rfl'
 show k
abbrev ahS (c0:Aw):Prop:=∀{h:Gh}{c:C6}{p:Tr}{m:Nat}{Q:WK}{E:Ci},m<=4000->J9 m c->CV m p->Q (.bl (decide (Gb c p=0))) h->c0 [Ks c,tw p] h Q E
def w_on {J:Aw}(G:acE J):ahS (o8 J):=by
 intro h c p m Q E U Y O k;show G U Y O k
abbrev kC (k:Int)(c:C6):C6:=(c.1*k,c.2.1*k,c.2.2.1*k,c.2.2.2.1*k,c.2.2.2.2.1*k,c.2.2.2.2.2*k)
def Pg.c6p (U:Pg c0){c}(g:w=.lst [.int c.1,.int c.2.1,.int c.2.2.1,.int c.2.2.2.1,.int c.2.2.2.2.1,.int c.2.2.2.2.2]\/w=Ks c)(hz:NZ (Ka c))(hs:J9 m c)(i:m<=8000)(k:∀x  (j),j≠0->c=kC j x->Nk (Ka x)->J9 m x->Q (Ks x) h):c0 [w] h Q E:=by
 show U (ns:=Ka c) g hz hs.all i (by change 6<=1000;decide) λms j hj J O G=>?_;have hl:ms.length=6:=by have:=congrArg Uo J;rw[Ds]at this;show this.symm
 match ms,hl,G,J,O with
 | [f,e,d,b,a,Y],_,G,J,O=>
  show k (f,e,d,b,a,Y) j hj ?_ O {G _<|by simp,G _<|by simp,G _<|by simp,G _<|by simp,G _<|by simp,G _<|by simp};obtain⟨r,q,p,o,n,l⟩:=c
  simpa[Ka,kC]using J
def aaV {x y}{s t}(J:Nk (Ka x))(G:Nk (Ka y))(hs:s≠0)(ht:t≠0)(e:kC s x=kC t y):x=y:=by
 obtain⟨j,i,h,g,f,d⟩:=x;obtain⟨c,b,a,Y,U,O⟩:=y
 simpa[Ka]using(Mj J G hs ht (congrArg Ka e))
def abJ (k)(c):fJ (kC k c)=sM k (fJ c):=by
 simp[fJ,kC,sM,sc,Int.mul_assoc]
def cD (l o s):Gb (dN l o) s=dt3 l s*dt3 o s:=by
 simp[Gb,dN,dt3];grind
abbrev Zy (c0:Aw):Prop:=∀{h:Gh}{c:C6}{m:Nat}{Q:WK}{E:Ci},m<=2000->J9 m c->Q (.bl (decide (det (fJ c)≠0))) h->c0 [Ks c] h Q E
def amn {J}(hsz:WY J)(G:TabOk ta):Zy (vI J ta):=by
 intro h c m Q E U O k;show G ⋯ O<|hsz true ⋯ (cJ O) ?_
 rfl'
 show k
abbrev o9 (c0:Aw):Prop:=∀{h:Gh}{p q:Tr}{m:Nat}{Q:WK}{E:Ci},m<=3900->CV m p->CV m q->Pl p->Pl q->(p≠q->∀t:Tr,Pl t->Le (crs p q) t->CV (m+m+1) t->Q (tw t) h)->(p=q->E ⟨"Alike",[]⟩ h)->c0 [tw p,tw q] h Q E
def Ai (G:Pg pl)(J:N5 cr):o9 (jk pl cr):=by
 intro h p q m Q E a sp O U pq k Y;by_cases e:p=q
 change br _ _ _;rw[V7];show rG (decide_eq_true e)<|Y e
 show Gs G J a sp O U pq e<|k e
def aaK {G}(J:o9 G):o9 (XS G):=by
 assumption
def abb {G}(J:o9 G):o9 (OJ G):=by
 assumption
def aey (a b c:Int):crs (a,b,c) (1,0,0)=(0,c,-b):=by simp[crs]
def adD (a b c):crs (a,b,c) (0,1,0)=(-c,0,a):=by simp[crs]
def acy (a b c):crs (a,b,c) (0,0,1)=(b,-a,0):=by simp[crs]
def adk {l:Tr}(d:l≠(0,0,0))(h1:crs l (1,0,0)=(0,0,0)\/Le (crs l (1,0,0)) p)(h2:crs l (0,1,0)=(0,0,0)\/Le (crs l (0,1,0)) p)(G:crs l (0,0,1)=(0,0,0)\/Le (crs l (0,0,1)) p):False:=by
 obtain⟨a,b,c⟩:=l;obtain⟨x,y,z⟩:=p;rw[aey]at h1;rw[adD]at h2;rw[acy]at G;simp only[Le,sc,Prod.mk.injEq]at h1 h2 G;by_cases O:a=0
 by_cases Y:b=0
 have c0:c≠0:=λc0=>d (by rw[O,Y,c0])
 rcases h1 with h1|⟨k,J,e1,e2,e3⟩
 lia;rcases h2 with h2|⟨j,hj,f1,f2,f3⟩
 lia;rw[((Ue.mp e1.symm).resolve_right J)]at f1;lia;rcases h1 with h1|⟨k,J,e1,e2,e3⟩
 lia;rcases G with G|⟨j,hj,f1,f2,f3⟩
 show Y G.1;rw[((Ue.mp e1.symm).resolve_right J)]at f1;lia;rcases h2 with h2|⟨k,J,e1,e2,e3⟩
 show O h2.2.2;rcases G with G|⟨j,hj,f1,f2,f3⟩
 show O<|⋯
 rw[((Ue.mp e2.symm).resolve_right J)]at f2;lia
def jK {r}(x:mo σ h λx h1=>Lr h1 x (ma σ h1 λxs h2=>r x xs h2 Q)):Bw r mo ma σ h Q:=x
def fZ (e:h.c n=AP (.lst us))(p:P):Lr h (.loc n) P:=by
 simp[Lr,e];show p
def jJ (G:∀R,ma σ h R=R ws h)(hz:Nat.ble ws.length 1000=true)(x:∀g:Gh,g.c h.nx=AP (.lst ws)->(∀n,n≠h.nx->g.c n=h.c n)->g.nx=h.nx+1->Q (.loc h.nx) g):nF ma σ h Q:=by
 unfold nF;rw[G];show gU hz<|x _ (zL _ _) (λ_ e=>oO e) rfl
def ag3 {zs}(e:h.c n=AP (.lst us))(hz:us.length+zs.length<=1000)(k:∀g,g.c n=AP (.lst (us++zs))->(∀m,m≠n->g.c m=h.c m)->g.nx=h.nx->Q .non g):jW (.loc n) [.lst zs] h Q:=
 ab8 e (K7 hz ∅) (k _ (rA _ _ _) (λ_ e=>jO e) rfl)
def uV (e:h.c n=AP (.lst us))(hz:us.length<=1000)(k:∀g,g.c n=AP (.lst (us++[w]))->(∀m,m≠n->g.c m=h.c m)->g.nx=h.nx->Q .non g):cW (.loc n) [w] h Q:=
 aeA e (ZP hz ∅) (k _ (rA _ _ _) (λ_ e=>jO e) rfl)
abbrev rng (a m:Nat):List Nat:=List.range' a (m-a)
def S8 {a x}:x∈rng a m↔a<=x/\x<m:=by
 unfold rng;grind
def Gu (a m:Nat):Dj (a) ((m)-(a:Int)).toNat=(rng a m).map λx:Nat=>W.int (x):=by
 unfold Dj rng;rw[List.range'_eq_map_range];simp
def zbx (m:Nat):Dj 0 ((m:Nat):Int).toNat=(rng 0 m).map λx:Nat=>W.int (x:Int):=by
 have:=Gu 0 m
 exact this
abbrev ah4 (R:Src->Gh->Prop):List W->Gh->Prop:=λws h=>match ws with
 | [.int i,.int j]=>Ax i (Ax j (R ⟨Dj i (j-i).toNat,Af⟩ h))
 | _=>False
def Dl (x:ma σ h (ah4 R)):Fo ma σ h R:=x
def Qp (G:a=(n))(h1:n<=1000)(h2:m<=1000)(x:R ⟨(rng n m).map λx:Nat=>W.int (x),Af⟩ h):ah4 R [.int a,.int (m)] h:=by
 subst G;rw[<-Gu]at x;show Ax.mk ⋯ ⋯<|Ax.mk ⋯ ⋯ x
def Z5 (h2:m<=1000)(x:R ⟨(rng 0 m).map λx:Nat=>W.int (x),Af⟩ h):rgK R [.int (m)] h:=by
 rw[<-zbx]at x;show Ax.mk ⋯ ⋯ x
abbrev nxt (l:List Nat):Nat:=match l.getLast? with
 | none=>0
 | some x=>x+1
abbrev grow (m:Nat)(l:List Nat):List (List Nat):=(rng (nxt l) m).map λp=>l++[p]
abbrev K3 (m:Nat):Nat->List (List Nat)
 | 0=>[[]]
 | k+1=>(K3 m k).flatMap (grow m)
abbrev zu (l:List Nat):W:=.tup (l.map λx:Nat=>.int (x:Int))
def yK {m}:∀{k}{l},l∈K3 m k->l.length=k
 | 0,l,h=>by
  rw[K3,R6]at h;rw[h];rfl
 | k+1,l,h=>by
  rw[K3,List.mem_flatMap]at h;obtain⟨u,G,hl⟩:=h;obtain⟨p,_,rfl⟩:=Ni.mp hl;rw[Lp,yK G];rfl
def abD:∀{k}{l},l∈K3 m k->nxt l<=m
 | 0,l,h=>by
  rw[K3,R6]at h;show h ▸ Pz _
 | k+1,l,h=>by
  rw[K3,List.mem_flatMap]at h;obtain⟨u,J,hl⟩:=h;obtain⟨p,G,rfl⟩:=Ni.mp hl;have:=(S8.mp G).2
  unfold nxt;simp;lia
def v7:∀m,m<=12->∀k,k<=4->(K3 m k).length<=1000:=by
 have:(Rb 13).all (λm=>(Rb 5).all λk=>decide ((K3 m k).length<=1000))=true:=by decide +kernel
 intro m G k J;rw[Vl]at this;have h1:=this m (Wa.mpr ⋯);grind
abbrev afI (h:Gh)(w:W)(ws:List W):Prop:=w=.lst ws\/∃n,w=.loc n/\h.c n=AP (.lst ws)
def zbL {b}{Y:Type}{v}{xs:List Y}(a:σ[i]?=AP (AP w))(e:afI h w (xs.map v))(I:Nat->Sw->Gh->Prop)
  (f:∀i σ h',I i σ h'->afI h' w (xs.map v))
  (G:∀i x  (σ) (h) (N),(∀σ' h',I (i+1) σ' h'->N σ' h')->xs[i]?=AP x->I i σ h->g (v x) σ h fun O h1=>b {D with nx:=N,ct:=N,bk:=D.nx} O h1)
  (U:∀σ h,I xs.length σ h->D.nx σ h) (h0:I 0 σ h):mV (Gj (ao i)) g b D σ h:=by
 unfold mV Gj ao;rw[a];dsimp only;have J:∀s:Src,Dg h w=AP s->s.ws=xs.map v->(∀h',afI h' w (xs.map v)->∀P:Prop,P->s.go h' P)->(match Dg h w with
   | some s=>iR s g b D s.ws σ h
   | none=>False):=by
  intro s es j c;rw[es];change iR s g b D _ σ h;rw[j];refine JT I (λi σ h' hi=>c h'<|f i σ h' hi) (λi w σ h N d e hi=>?_) (fun σ h q=>U σ h<|by rwa[Ds]at q) h0;rw[Kh]at e;cases q:xs[i]? with
  | none=>rw[q]at e;cases e
  | some x=>
   rw[q]at e;cases e;exact G i x σ h N d q hi
 rcases e with rfl|⟨n,rfl,e⟩
 exact J ⟨xs.map v,Af⟩ rfl rfl λ_ _ _ p=>p;refine J ⟨xs.map v,AP (n,xs.map v)⟩ (by simp[Dg,e]) rfl λh' e' P p=>⟨?_,p⟩;rcases e' with e'|⟨k,e',q⟩
 cases e'
 simp_all
def alq {a b}(hz:a.length+b.length<=1000)(x:Q (.tup (a++b)) h):cF (.tup a) (.tup b) h Q:=by
 cases a with
 | nil=>show x
 | cons G a=>show fQ.mk (K7 (by simpa using hz) (by decide:1000<=El)) x
variable {l:List Nat}
def aa2 (d:m<=12)(hl:l.length<=4)(c:nxt l<=m)(b:σ[5]?=AP (AP (zu l)))(Y:σ[6]?=AP (AP (.int (nxt l))))(h0:σ[0]?=AP (AP (.int (m))))(x:Q (.lst ((grow m l).map zu)) h):
  J2 K9 [5] (Fo (aj (ao 6) (aj (ao 0) aG))) iM (Av cF (ao 1) (nQ (aj (ao 0) aG))) σ h Q:=by
 show jt<|Dl<|aB<|aq Y<|aB<|aq h0<|aH ?_
 show Qp rfl ⋯ ⋯ ?_;have O:wC [5] σ=[AP (zu l)]:=by
  change[(σ[5]?).getD Af]=_;rw[b];rfl
 have J:((rng (nxt l) m).map λx:Nat=>W.int (x:Int)).length<=El:=by
  rw[Ds];unfold rng;rw[ZQ];show K7 ⋯ (by decide:12<=El)
 show fQ.mk J ?_;show dj (λi G h'=>h'=h/\G=(((rng (nxt l) m).take i).map λp=>l++[p]).map zu) ?_ ?_ ⟨rfl,rfl⟩
 ·rintro i w G h' N U e ⟨rfl,rfl⟩;rw[Kh]at e;cases q:(rng (nxt l) m)[i]? with
  | none=>rw[q]at e;cases e
  | some p=>
   rw[q]at e;cases e;show{[W.int (p:Int)],rfl,?_};rw[O];show eZ<|dH<|aM<|aq rfl<|qK<|aB<|aq rfl<|aH<|gU rfl ?_
   show alq (a:=l.map λx:Nat=>.int (x:Int)) (by rw[Ds];simp;lia) ?_;show U _ _ {rfl,?_};rw[M4,q];simp[zu]
 rintro G h' ⟨rfl,rfl⟩;rw[Ds,Nj];show x
abbrev Mf (c0:Aw):Prop:=∀{h:Gh}{m k:Nat}{Q:WK}{E:Ci},m<=12->k<=4->Q (.lst ((K3 m k).map zu)) h->c0 [.int (m:Int),.int (k:Int)] h Q E
def zcf (h:l.length=i+1):∃x,l.getLast?=AP x/\Np (l.map λx:Nat=>W.int (x:Int)) (i:Int)=AP (.int (x:Int)):=by
 have hi:i<l.length:=⋯
 show{l[i],(by rw[List.getLast?_eq_getElem?,h,Nat.add_sub_cancel,Lq hi]),?_};show bR (by rw[Kh,Lq hi];rfl)
def ahu (n):∀l:List Nat,Ln n (l.map λx:Nat=>W.int (x))
 | []=>by simp[Ln]
 | x::l=>by
  have:=ahu n l
  show{by simp[Lo],this}
def amw (n)(l):Lo n (zu l):=ahu n l
def yV (n):∀G:List (List Nat),Ln n (G.map zu)
 | []=>by simp[Ln]
 | l::G=>by
  have:=yV n G
  show{amw n l,this}
def tB {a x}(e:(rng a m)[i]?=AP x):x=a+i/\x<m:=by
 unfold rng at e;grind
def zby:Mf GF:=by
 intro h m k Q E A hk q;show oF rfl (σ:=[AP<|.int (m:Int),AP<|.int (k:Int),Af,Af,Af,Af,Af]) rfl ?_;show nV<|bV ?_
 show aO<|nW<|DY<|aB<|aq rfl<|aH<|Z5 ⋯<|oH ?_
 show iG (λi σ h'=>∃w f d O J,σ=[AP<|.int (m:Int),AP<|.int (k:Int),AP w,f,d,O,J]/\(w=.lst ((K3 m i).map zu)\/∃n,w=.loc n/\h.nx<=n/\n<h'.nx/\h'.c n=AP (.lst<|(K3 m i).map zu))/\h.nx<=h'.nx/\∀n,n<h.nx->h'.c n=h.c n) ?_ ?_ {_,_,_,_,_,rfl,.inl rfl,Em _,λ_ _=>rfl}
 ·rintro i X σ h' N S e ⟨w,f,d,O,J,rfl,a,z,p⟩;rw[Kh]at e;cases o:(rng 0 k)[i]? with
  | none=>rw[o]at e;cases e
  | some i'=>
   rw[o]at e;cases e;obtain⟨B,P⟩:=tB o;rw[Zd]at B;subst B;show aO<|bA<|jJ (ws:=[]) (λR=>rfl) rfl λg T y D=>?_
   have u:∀g':Gh,(∀n,n≠h'.nx->g'.c n=h'.c n)->afI g' w ((K3 m i').map zu):=by
    intro g' R;rcases a with rfl|⟨n,rfl,h1,h2,G⟩
    show .inl rfl;show .inr {n,rfl,by rw[R n<|⋯];show G}
   show zbL (i:=2) (w:=w) (v:=zu) (xs:=K3 m i') rfl (u g y) (λj σ g'=>∃O J,σ=[AP<|.int (m:Int),AP<|.int (k:Int),AP w,AP<|.int (i':Int),AP<|.loc h'.nx,O,J]/\g'.c h'.nx=AP (.lst<|(((K3 m i').take j).flatMap (grow m)).map zu)/\g'.nx=h'.nx+1/\∀n,n≠h'.nx->g'.c n=h'.c n) ?_ ?_ ?_ {_,_,rfl,T,D,y};rintro j σ g' ⟨O,J,rfl,h1,h2,G⟩;show u g' G;rintro j l σ g' C r t ⟨O,J,rfl,h1,h2,G⟩;have ml:=T7 t;have ll:=yK ml;have I:=abD ml;have Y:∀σ,σ=[AP (.int (m:Int)),AP (.int (k:Int)),AP w,AP (.int (i':Int)),AP (.loc h'.nx),AP (zu l),AP (.int (nxt l:Int))]->jD (Bw jW (ao 4) (aj (J2 K9 [5] (Fo (aj (ao 6) (aj (ao 0) aG))) iM (Av cF (ao 1) (nQ (aj (ao 0) aG)))) aG)) {nx:=C,rt:=λw h'=>jE true h w h' Q,bk:=λ_ _=>False,ct:=C} σ g':=by
    rintro σ rfl;show eE<|jK<|aq rfl<|fZ h1<|aB<|aa2 A ⋯ I rfl rfl rfl<|aH<|ag3 h1 ?_ λg2 e2 H F=>?_
    rw[Ds,Ds,<-Lp,show grow m l=[l].flatMap (grow m) by simp,<-List.flatMap_append];have M:(K3 m i').take (j+1)=(K3 m i').take j++[l]:=by rw[M4,t];rfl
    rw[<-M];have L:=v7 m A (i'+1) ⋯;rw[K3,<-List.take_append_drop (j+1) (K3 m i'),List.flatMap_append,Lp]at L;lia;show r _ _ {_,_,rfl,?_,by rw[F];show h2,λn U=>by rw[H n U];show G n U};rw[e2,M4,t,List.flatMap_append,NP];simp
   show J8 (λhp=>?_) λhp=>?_;obtain⟨x,ex,V⟩:=zcf (l:=l) (i:=i'-1) ⋯;have s:nxt l=x+1:=by unfold nxt;rw[ex]
   show aM<|aM<|aq rfl<|aM<|aq rfl<|bZ<|Xn<|dg (x:=zu l) (i:=(i':Int)-1) (w:=.int (x:Int)) rfl ?_<|bZ<|eU ?_
   rw[show(i':Int)-1=((i'-1:Nat):Int) by lia];show V;show kE (σ':=[AP<|.int (m:Int),AP<|.int (k:Int),AP w,AP<|.int (i':Int),AP<|.loc h'.nx,AP<|zu l,AP<|.int (nxt l:Int)]) (by rw[s];rfl)<|bV<|Y _ rfl
   have K:l=[]:=vA ⋯;have s:nxt l=0:=by rw[K];rfl
   show bZ ?_;show kE (σ':=[AP<|.int (m:Int),AP<|.int (k:Int),AP w,AP<|.int (i':Int),AP<|.loc h'.nx,AP<|zu l,AP<|.int (nxt l:Int)]) (by rw[s];rfl)<|bV<|Y _ rfl
   rintro σ g' ⟨O,J,rfl,h1,h2,G⟩;rw[Nj]at h1;show bV ?_;show bA ?_;show aq rfl ?_;show nV<|bV ?_
   show S _ _ {_,_,_,_,_,rfl,.inr {_,rfl,z,⋯,h1},⋯,λn U=>by rw[G n<|⋯];show p n U}
 rintro σ h' ⟨w,f,d,O,J,rfl,a,z,p⟩;have hl:((rng 0 k).map λx:Nat=>W.int (x:Int)).length=k:=by
  rw[Ds];unfold rng;rw[ZQ];lia
 rw[hl]at a;unfold vG;show bV ?_;show bU ?_;show aq rfl ?_;show uJ ?_;show{λn c U e=>by rw[p n U];show e,?_};rcases a with rfl|⟨n,rfl,h1,h2,G⟩
 show .inl {by rw[Lo];show yV _ _,q};show .inr {n,_,rfl,h1,G,yV _ _,q}
abbrev gt (ts:List Tr)(i:Nat):Tr:=ts.getD i (0,0,0)
abbrev OkT (m:Nat)(ts:List Tr):Prop:=∀t∈ts,Pl t/\CV m t
def Jd (hi:i<ts.length):gt ts i∈ts:=by
 unfold gt;simp_all
def ae1 (hi:i<ts.length):ts[i]?=AP (gt ts i):=by
 unfold gt;simp_all
def Fd.at (e:Fd h w ts)(hi:i<ts.length)(k:Q (tw (gt ts i)) h):Bq w (.int (i)) h Q:=
 dg e.src.1 (bR (by rw[Kh,ae1 hi];rfl)) k
def adR (e:Fd h w ts)(k:Q (.int (ts.length:Int)) h):Fz [w] h Q:=by
 show dh e.src.1 ?_
 rwa[Ds]
abbrev afg (c0:Aw):Prop:=∀{h:Gh}{w:W}{ts:List Tr}{l:List Nat}{Q:WK}{E:Ci},Fd h w ts->(∀i∈l,i<ts.length)->l.length<=1000->Q (.lst ((l.map (gt ts)).map tw)) h->c0 [w,zu l] h Q E
def amu:afg JK:=by
 intro h w ts l Q E e hl O q;show fQ.mk (by rw[Ds];show K7 O ∅) ?_;show dj (λi G h'=>h'=h/\G=((l.take i).map (gt ts)).map tw) ?_ ?_ ⟨rfl,rfl⟩
 ·rintro i Y G h' N U e2 ⟨rfl,rfl⟩;rw[Kh]at e2;cases J:l[i]? with
  | none=>rw[J]at e2;cases e2
  | some p=>
   rw[J]at e2;cases e2;show{[W.int _],rfl,(eZ<|aM<|aq rfl<|aq rfl<|e.at (hl p<|T7 J)<|U _ _ {rfl,?_})};rw[M4,J];simp
 rintro G h' ⟨rfl,rfl⟩
 rwa[Ds,Nj]
def Q8 {m}:∀{k}{l},l∈K3 m k->∀i∈l,i<m
 | 0,l,h=>by
  rw[K3]at h;simp_all
 | k+1,l,h=>by
  rw[K3,List.mem_flatMap]at h;obtain⟨u,G,hl⟩:=h;obtain⟨p,J,rfl⟩:=Ni.mp hl;intro i hi;rcases YH.mp hi with hi|hi
  exact Q8 G i hi;exact R6.mp hi ▸ (S8.mp J).2
def alS {us:List Bool}(k:Q (.bl (us.any id)) h):X3 [.lst (us.map .bl)] h Q:=Nv rfl (yI us) k
def bQ (J:CV m p)(G:CV n q):CV (m+n+1) (crs p q):=
 {((J.2.1.mul G.2.2).sub (J.2.2.mul G.2.1)).mono ⋯,((J.2.2.mul G.1).sub (J.1.mul G.2.2)).mono ⋯,((J.1.mul G.2.1).sub (J.2.1.mul G.1)).mono ⋯}
def dF {Q}(x:Q Af h):fV σ h Q:=x
def acV {lo hi:Option Int}(e:Lz ws lo hi=us)(x:Q (.lst us) h):Dk (.lst ws) lo hi h Q:=by
 subst e;show x
structure Rd (a b c d e f:Tr):Prop where
 pa:Pl a
 pb:Pl b
 pc:Pl c
 pd:Pl d
 pe:Pl e
 pf:Pl f
 sa:CV 60 a
 sb:CV 60 b
 sc:CV 60 c
 sd:CV 60 d
 se:CV 60 e
 sf:CV 1800 f
abbrev Cr (a b c:Tr):Int:=dt3 (crs a b) c
def aiP (u v w):Cr u v w=Cr v w u:=by
 simp[Cr,crs,dt3];grind
abbrev Hx (a b c d:Tr):C6:=dN (crs a b) (crs c d)
abbrev GK (a b c d:Tr):C6:=dN (crs a c) (crs b d)
def Hu {c}(Y:J9 m c)(U:CV n p):Sm (m+n+n+5) (Gb c p):=by
 obtain⟨h1,h2,e,d,b,a⟩:=Y;obtain⟨O,J,G⟩:=U;show((((((h1.mul O).mul O).add ((e.mul J).mul J)).add ((a.mul G).mul G)).add ((h2.mul O).mul J)).add ((d.mul O).mul G)).add ((b.mul J).mul G) |>.mono ⋯
abbrev Df (h t:Int)(o n:C6):C6:=(h*o.1-t*n.1,h*o.2.1-t*n.2.1,h*o.2.2.1-t*n.2.2.1,h*o.2.2.2.1-t*n.2.2.2.1,h*o.2.2.2.2.1-t*n.2.2.2.2.1,h*o.2.2.2.2.2-t*n.2.2.2.2.2)
def anp (h t)(o n)(x):Gb (Df h t o n) x=h*Gb o x-t*Gb n x:=by
 simp only[Gb,Df];grind
def wu {c x}(h:Gb c x≠0):NZ (Ka c):=by
 obtain⟨Y,U,c3,O,J,G⟩:=c;by_cases z:Y=0/\U=0/\c3=0/\O=0/\J=0/\G=0
 obtain⟨rfl,rfl,rfl,rfl,rfl,rfl⟩:=z;show absurd ?_ h;simp[Gb];have:∃n∈[Y,U,c3,O,J,G],n≠0:=by
  by_cases f:Y=0
  by_cases e:U=0
  by_cases d:c3=0
  by_cases b:O=0
  by_cases a:J=0
  by_cases z6:G=0
  lia;show{G,by simp,z6};show{J,by simp,a};show{O,by simp,b};show{c3,by simp,d};show{U,by simp,e};show{Y,by simp,f}
 show this
abbrev TQ (s t:Int)(p q:Tr):Tr:=(s*p.1-t*q.1,s*p.2.1-t*q.2.1,s*p.2.2-t*q.2.2)
def lH (x y):Cr x y y=0/\Cr x x y=0/\Cr x y x=0:=by
 show{?_,?_,?_}<;>simp[Cr,crs,dt3]<;>grind
def brr (s t)(u v p q):Cr p q (TQ s t u v)=s*Cr p q u-t*Cr p q v:=by
 simp[Cr,dt3,TQ];grind
def gA (a b c):Cr b c a=Cr a b c:=(aiP a b c).symm
def gJ (a b c):Cr a c b=- Cr a b c:=by
 simp[Cr,crs,dt3];grind
abbrev jx (a b c d e:Tr):C6:=Df (Gb (Hx a b c d) e) (Gb (GK a b c d) e) (GK a b c d) (Hx a b c d)
def VD (a b c d e x):Gb (jx a b c d e) x=Cr a b e*Cr c d e*(Cr a c x*Cr b d x)-Cr a c e*Cr b d e*(Cr a b x*Cr c d x):=by
 have J:∀x,Gb (Hx a b c d) x=Cr a b x*Cr c d x:=λx=>cD _ _ _
 have G:∀x,Gb (GK a b c d) x=Cr a c x*Cr b d x:=λx=>cD _ _ _
 unfold jx;rw[anp,J,G,J,G]
section
variable {a b c d e l:Tr}
end
variable {b d e:Tr}
structure G5 (ts:List Tr):Prop where
 pl:∀t∈ts,Pl t
 nd:ts.Nodup
 four:∀n:Tr,n≠(0,0,0)->∀x∈ts,∃y∈ts,y≠x/\dt3 n y≠0
def G5.no (G:G5 ts){r s t}(h:∀y∈ts,y=p\/y=q\/y=r\/y=s\/y=t)(Y:p∈ts)(U:q∈ts)(ht:t∈ts)(pq:p≠q):¬(Cr p q r=0/\Cr p q s=0):=λz=>by
 obtain⟨y,O,J,d⟩:=G.four _ (iT (G.pl p Y) (G.pl q U) pq) t ht;rcases h y O with rfl|rfl|rfl|rfl|rfl
 exact d<|rC _ _
 exact d<|Jo _ _
 exact d z.1;exact d z.2;exact J rfl
structure Br (a b c d e:Tr):Prop where
 n1:¬(Cr a b c=0/\Cr a b d=0)
 n2:¬(Cr a b c=0/\Cr a b e=0)
 n3:¬(Cr a b d=0/\Cr a b e=0)
 n4:¬(Cr a b c=0/\Cr a c d=0)
 n5:¬(Cr a b c=0/\Cr a c e=0)
 n6:¬(Cr a c d=0/\Cr a c e=0)
 n7:¬(Cr a b d=0/\Cr a c d=0)
 n8:¬(Cr a b d=0/\Cr a d e=0)
 n9:¬(Cr a c d=0/\Cr a d e=0)
 n10:¬(Cr a b e=0/\Cr a c e=0)
 n11:¬(Cr a b e=0/\Cr a d e=0)
 n12:¬(Cr a c e=0/\Cr a d e=0)
 n13:¬(Cr a b c=0/\Cr b c d=0)
 n14:¬(Cr a b c=0/\Cr b c e=0)
 n15:¬(Cr b c d=0/\Cr b c e=0)
 n16:¬(Cr a b d=0/\Cr b c d=0)
 n17:¬(Cr a b d=0/\Cr b d e=0)
 n18:¬(Cr b c d=0/\Cr b d e=0)
 n19:¬(Cr a b e=0/\Cr b c e=0)
 n20:¬(Cr a b e=0/\Cr b d e=0)
 n21:¬(Cr b c e=0/\Cr b d e=0)
 n22:¬(Cr a c d=0/\Cr b c d=0)
 n23:¬(Cr a c d=0/\Cr c d e=0)
 n24:¬(Cr b c d=0/\Cr c d e=0)
 n25:¬(Cr a c e=0/\Cr b c e=0)
 n26:¬(Cr a c e=0/\Cr c d e=0)
 n27:¬(Cr b c e=0/\Cr c d e=0)
 n28:¬(Cr a d e=0/\Cr b d e=0)
 n29:¬(Cr a d e=0/\Cr c d e=0)
 n30:¬(Cr b d e=0/\Cr c d e=0)
def G5.n5 {a c:Tr}(G:G5 [a,b,c,d,e])(p q r s t:Tr)(z1:Cr p q r=0)(z2:Cr p q s=0)(pq:p≠q)(h:∀y∈[a,b,c,d,e],y=p\/y=q\/y=r\/y=s\/y=t:=by simp)(hp:p∈[a,b,c,d,e]:=by simp)(hq:q∈[a,b,c,d,e]:=by simp)(ht:t∈[a,b,c,d,e]:=by simp):False:=G.no h hp hq ht pq ⟨z1,z2⟩
def Br.of {a c}(G:G5 [a,b,c,d,e]):Br a b c d e:=by
 have k:=G.nd;simp only[V4,M5,Qz,or_false,not_or,not_false_eq_true,List.nodup_nil,and_true]at k;obtain⟨⟨ab,j,ad,i⟩,⟨g,f,Y⟩,⟨U,O⟩,J⟩:=k;show{
  n1:=λz=>G.n5 a b c d e z.1 z.2 ab
  n2:=λz=>G.n5 a b c e d z.1 z.2 ab
  n3:=λz=>G.n5 a b d e c z.1 z.2 ab
  n4:=λz=>G.n5 a c b d e (by rw[gJ a b c,z.1];rfl) z.2 j
  n5:=λz=>G.n5 a c b e d (by rw[gJ a b c,z.1];rfl) z.2 j
  n6:=λz=>G.n5 a c d e b z.1 z.2 j
  n7:=λz=>G.n5 a d b c e (by rw[gJ a b d,z.1];rfl) (by rw[gJ a c d,z.2];rfl) ad
  n8:=λz=>G.n5 a d b e c (by rw[gJ a b d,z.1];rfl) z.2 ad
  n9:=λz=>G.n5 a d c e b (by rw[gJ a c d,z.1];rfl) z.2 ad
  n10:=λz=>G.n5 a e b c d (by rw[gJ a b e,z.1];rfl) (by rw[gJ a c e,z.2];rfl) i
  n11:=λz=>G.n5 a e b d c (by rw[gJ a b e,z.1];rfl) (by rw[gJ a d e,z.2];rfl) i
  n12:=λz=>G.n5 a e c d b (by rw[gJ a c e,z.1];rfl) (by rw[gJ a d e,z.2];rfl) i
  n13:=λz=>G.n5 b c a d e (by rw[gA a b c];show z.1) z.2 g
  n14:=λz=>G.n5 b c a e d (by rw[gA a b c];show z.1) z.2 g
  n15:=λz=>G.n5 b c d e a z.1 z.2 g
  n16:=λz=>G.n5 b d a c e (by rw[gA a b d];show z.1) (by rw[gJ b c d,z.2];rfl) f
  n17:=λz=>G.n5 b d a e c (by rw[gA a b d];show z.1) z.2 f
  n18:=λz=>G.n5 b d c e a (by rw[gJ b c d,z.1];rfl) z.2 f
  n19:=λz=>G.n5 b e a c d (by rw[gA a b e];show z.1) (by rw[gJ b c e,z.2];rfl) Y
  n20:=λz=>G.n5 b e a d c (by rw[gA a b e];show z.1) (by rw[gJ b d e,z.2];rfl) Y
  n21:=λz=>G.n5 b e c d a (by rw[gJ b c e,z.1];rfl) (by rw[gJ b d e,z.2];rfl) Y
  n22:=λz=>G.n5 c d a b e (by rw[gA a c d];show z.1) (by rw[gA b c d];show z.2) U
  n23:=λz=>G.n5 c d a e b (by rw[gA a c d];show z.1) z.2 U
  n24:=λz=>G.n5 c d b e a (by rw[gA b c d];show z.1) z.2 U
  n25:=λz=>G.n5 c e a b d (by rw[gA a c e];show z.1) (by rw[gA b c e];show z.2) O
  n26:=λz=>G.n5 c e a d b (by rw[gA a c e];show z.1) (by rw[gJ c d e,z.2];rfl) O
  n27:=λz=>G.n5 c e b d a (by rw[gA b c e];show z.1) (by rw[gJ c d e,z.2];rfl) O
  n28:=λz=>G.n5 d e a b c (by rw[gA a d e];show z.1) (by rw[gA b d e];show z.2) J
  n29:=λz=>G.n5 d e a c b (by rw[gA a d e];show z.1) (by rw[gA c d e];show z.2) J
  n30:=λz=>G.no (p:=d) (q:=e) (r:=b) (s:=c) (t:=a) (λy l=>by simp only[M5,Qz,or_false]at l;rcases l with h|h|h|h|h<;>simp[h]) (by simp) (by simp) (by simp) J {(by rw[gA b d e];show z.1),(by rw[gA c d e];show z.2)}}
section
variable {a c:Tr}
def SJ (p q u v):Cr p q (TQ 1 (-1) u v)=Cr p q u+Cr p q v:=by
 rw[brr];lia
def Ly {x y:Int}(J:x≠0)(G:y≠0):x*y≠0:=Ph J G
def W2 (B:Br a b c d e):NZ (Ka (jx a b c d e)):=by
 have f:Gb (jx a b c d e) (TQ 1 (-1) a b)=- (Cr a b e*Cr c d e*(Cr a b c*Cr a b d)):=by
  rw[VD,SJ,SJ,SJ,SJ,(lH a c).2.2,(lH b d).2.2,(lH a b).2.2,(lH a b).1,gJ a b c,gA a b d];grind
 have U:Gb (jx a b c d e) (TQ 1 (-1) c d)=- (Cr a b e*Cr c d e*(Cr a c d*Cr b c d)):=by
  rw[VD,SJ,SJ,SJ,SJ,(lH a c).1,(lH b d).1,(lH c d).2.2,(lH c d).1,gJ b c d];grind
 have Y:Gb (jx a b c d e) (TQ 1 (-1) b d)=- (Cr a c e*Cr b d e*(Cr a b d*Cr b c d)):=by
  rw[VD,SJ,SJ,SJ,SJ,(lH b d).2.2,(lH b d).1,(lH a b).1,(lH c d).1,gA b c d];simp_all
 have O:Gb (jx a b c d e) (TQ 1 (-1) a c)=- (Cr a c e*Cr b d e*(Cr a b c*Cr a c d)):=by
  rw[VD,SJ,SJ,SJ,SJ,(lH a c).2.2,(lH a c).1,(lH a b).2.2,(lH c d).2.2,gA a c d];simp_all
 have G:∀{i:Int},i≠0->-i≠0:=λh z=>h ⋯
 by_cases H:Cr a b e*Cr c d e=0
 have K:Cr a c e*Cr b d e≠0:=λK=>by
  rcases Ue.mp H with h|h<;>rcases Ue.mp K with k|k
  show B.n10 ⟨h,k⟩;show B.n20 ⟨h,k⟩;show B.n26 ⟨k,h⟩;show B.n30 ⟨k,h⟩
 by_cases z:Cr a b d=0
 show wu (x:=TQ 1 (-1) a c) (by rw[O];show G (Ly K<|Ly (λy=>B.n1 ⟨y,z⟩) λy=>B.n7 ⟨z,y⟩));by_cases J:Cr b c d=0
 show wu (x:=TQ 1 (-1) a c) (by rw[O];show G (Ly K<|Ly (λy=>B.n13 ⟨y,J⟩) λy=>B.n22 ⟨y,J⟩));show wu (by rw[Y];show G (Ly K<|Ly z J));by_cases z:Cr a b c=0
 show wu (by rw[U];show G (Ly H<|Ly (λy=>B.n4 ⟨z,y⟩) λy=>B.n13 ⟨z,y⟩));by_cases J:Cr a b d=0
 show wu (by rw[U];show G (Ly H<|Ly (λy=>B.n7 ⟨J,y⟩) λy=>B.n16 ⟨J,y⟩));show wu (x:=TQ 1 (-1) a b) (by rw[f];show G (Ly H<|Ly z J))
end
def Bt:∀(l acc:List (List Int)),((l.foldl QX acc).length=acc.length+l.length↔(∀k∈l,k∉acc)/\l.Nodup)
 | [],acc=>by simp
 | k::r,acc=>by
  rw[ZJ];have O:=lC r (QX acc k);by_cases J:k∈acc
  have e:QX acc k=acc:=by unfold QX;rw[if_pos J]
  rw[e]at O|-
  constructor;grind
  simp_all
  have e:QX acc k=acc++[k]:=by unfold QX;rw[if_neg J]
  have G:=Bt r (acc++[k]);rw[e];rw[Lp,V2]at G;rw[Od,show _+(r.length+1)=acc.length+1+r.length by lia,G,V4];grind
def ac2:tl p=tl q↔p=q:=by
 obtain⟨a,b,c⟩:=p;obtain⟨d,e,f⟩:=q;simp[tl]
def Qj:∀ts:List Tr,Ae (ts.map tw)=AP (ts.map tl)
 | []=>rfl
 | t::ts=>by
  rw[KQ,tw,Ae,Qj ts];rfl
def adV:∀{ts:List Tr},(ts.map tl).Nodup↔ts.Nodup
 | []=>by simp
 | t::ts=>by
  rw[KQ,V4,V4,adV];have:tl t∈ts.map tl↔t∈ts:=by
   rw[Ni];constructor;rintro⟨u,G,e⟩;rw[ac2]at e
   rwa[<-e]
   grind
  rw[this]
def amD (ts:List Tr):decide (((Ul (ts.map tl)).length:Int)<(ts.length:Int))=!decide ts.Nodup:=by
 have J:=lC (ts.map tl) [];have G:=Bt (ts.map tl) [];rw[adV]at G;simp at J G;unfold Ul;lia
def Fd.vl (e:Fd h w ts):gq h w=AP (ts.map tw):=by
 rcases e with rfl|⟨n,rfl,G⟩
 rfl;show Cm G
def aiz (e:Fd h w ts)(hl:ts.length<=5)(k:Q (.int ((Ul (ts.map tl)).length:Nat)) h):pG [w] h Q:=by
 change(match gq h w with
  | some us=>(match Ae us with
   | some kss=>kss.length<=5/\Q _ h
   | none=>False)
  | none=>False)
 rw[e.vl];dsimp only;rw[Qj];simp_all
abbrev Xz (c0:Aw):Prop:=∀{h:Gh}{w:W}{ts:List Tr}{Q:WK}{E:Ci},Fd h w ts->ts.length<=5->Q (.bl (!decide ts.Nodup)) h->c0 [w] h Q E
def akH:Xz tO:=by
 intro h w ts Q E e hl k;show iz rfl rfl ?_;rfl'
 show aiz e hl ?_;rfl'
 show adR e ?_;rfl'
 rwa[amD]
abbrev Mq (ts:List Tr):List Nat->Bool
 | [a,b,c,d]=>mW [gt ts a,gt ts b,gt ts c,gt ts d]
 | _=>false
abbrev Kq (ts:List Tr):Bool:=((K3 ts.length 4).map (Mq ts)).any id
abbrev ahZ (c0:Aw):Prop:=∀{h:Gh}{w:W}{us:List Tr}{m:Nat}{Q:WK}{E:Ci},m<=4000->Fd h w us->us.length<=12->OkT m us->Q (.bl (Kq us)) h->c0 [w,.int 4] h Q E
def aci {n g j}(Y:qd n)(O:Mf g)(U:afg j):ahZ (oN n g j):=by
 intro h w us m Q E p e hl hs k;refine iz rfl (σ:=[AP w,AP<|.int 4]) rfl<|bU<|cN<|aB<|jt<|gK<|aU<|aB<|cN<|aB<|aq rfl<|aH<|adR e ?_
 refine aB<|aq rfl<|aH<|O (m:=us.length) (k:=4) hl (by decide)<|rm rfl ?_
 refine fQ.mk (by rw[Ds];exact K7 (v7 _ hl 4<|by decide) (by decide)) ?_;refine dj (λi G h'=>h'=h/\G=(((K3 us.length 4).take i).map (Mq us)).map W.bl) ?_ ?_ ⟨rfl,rfl⟩
 ·rintro i s G h' N r e2 ⟨rfl,rfl⟩;rw[Kh]at e2;cases J:(K3 us.length 4)[i]? with
  | none=>rw[J]at e2;cases e2
  | some l=>
   rw[J]at e2;cases e2;have ml:=T7 J;have o:=yK ml;have li:=Q8 ml;refine⟨[zu l],rfl,?_⟩;have f:∀b:Bool,b=Mq us l->N ((((K3 us.length 4).take i).map (Mq us)).map W.bl++[W.bl b]) h':=λb q=>r _ _ ⟨rfl,by rw[M4,J,q];simp⟩
   match l,o with
   | [a,b,c,d],_=>
    refine eZ<|dH<|aU<|aB<|aU<|aB<|aq rfl<|aB<|aq rfl<|aH<|U e li (by simp) ?_
    refine aH<|Y (ts:=[gt us a,gt us b,gt us c,gt us d]) (M:=m) (.inl rfl) (by simp) p ?_<|f _ rfl
    intro t ht;simp only[M5,Qz,or_false]at ht;rcases ht with rfl|rfl|rfl|rfl
    exact hs _<|Jd<|li a<|by simp
    exact hs _<|Jd<|li b<|by simp
    exact hs _<|Jd<|li c<|by simp
    exact hs _<|Jd<|li d<|by simp
 rintro G h' ⟨rfl,rfl⟩;rw[Ds,Nj];refine aH<|alS ?_
 exact uJ k
def abY:K3 5 4=[[0,1,2,3],[0,1,2,4],[0,1,3,4],[0,2,3,4],[1,2,3,4]]:=rfl
def af7 (a b c d e):Kq [a,b,c,d,e]=(mW [a,b,c,d]||(mW [a,b,c,e]||(mW [a,b,d,e]||(mW [a,c,d,e]||mW [b,c,d,e])))):=by
 unfold Kq;rw[show([a,b,c,d,e]:List Tr).length=5 from rfl,abY];simp[Mq,gt]
def zaV {n:Tr}(U:n≠(0,0,0))(h:∀t∈ts,dt3 n t=0):AllP ts:=λp O q J r G=>flat U (h q J) (h r G) (h p O)
def qy {n:Tr}(G:n≠(0,0,0))(h:mW ts=false):∃y∈ts,dt3 n y≠0:=by
 apply Wd;intro q;rw[yd (zaV G λt ht=>Wd λz=>q ⟨t,ht,z⟩)]at h;cases h
def adp {a c}(pl:∀t∈[a,b,c,d,e],Pl t)(U:[a,b,c,d,e].Nodup)(h:Kq [a,b,c,d,e]=false):G5 [a,b,c,d,e]:=by
 show{pl,U,λn O x Y=>?_};rw[af7]at h;simp at h;obtain⟨h1,h2,l,k,j⟩:=h;simp at U;obtain⟨⟨ab,q,ad,p⟩,⟨o,n,m⟩,⟨i,g⟩,f⟩:=U;simp at Y;rcases Y with rfl|rfl|rfl|rfl|rfl
 obtain⟨y,J,G⟩:=qy O j;grind
 obtain⟨y,J,G⟩:=qy O k;grind
 obtain⟨y,J,G⟩:=qy O l;simp at J;rcases J with rfl|rfl|rfl|rfl
 simp_all
 show{y,by simp,o,G};show{y,by simp,Ke i,G};show{y,by simp,Ke g,G};obtain⟨y,J,G⟩:=qy O h2;simp at J;rcases J with rfl|rfl|rfl|rfl
 show{y,by simp,ad,G};show{y,by simp,n,G};show{y,by simp,i,G};show{y,by simp,Ke f,G};obtain⟨y,J,G⟩:=qy O h1;simp at J;rcases J with rfl|rfl|rfl|rfl
 show{y,by simp,p,G};show{y,by simp,m,G};show{y,by simp,g,G};show{y,by simp,f,G}
abbrev adH (c0:Aw):Prop:=∀{h:Gh}{p q:Tr}{m:Nat}{Q:WK}{E:Ci},m<=4000->CV m p->CV m q->Q (Ks (dN p q)) h->c0 [tw p,tw q] h Q E
def agr:adH pO:=by
 intro h p q m Q E J sp G k;obtain⟨a1,a2,a3⟩:=sp;obtain⟨Y,U,O⟩:=G;unfold pO;rfl'
 show k
abbrev abv (m:Nat):Nat:=10*m+15
def aaq {a c:Tr}(f:CV m a)(Y:CV m b)(sc:CV m c)(U:CV m d)(O:CV m e):J9 (abv m) (jx a b c d e):=by
 have J:J9 (4*m+3) _:=J9.mono (wR (gY f Y) (gY sc U)) (by lia);have G:J9 (4*m+3) _:=J9.mono (wR (gY f sc) (gY Y U)) (by lia);have hh:Sm (6*m+8) _:=(Hu J O).mono (by lia);have ht:Sm (6*m+8) _:=(Hu G O).mono (by lia);unfold jx abv;exact⟨((hh.mul G.1).sub (ht.mul J.1)).mono (by lia),((hh.mul G.2.1).sub (ht.mul J.2.1)).mono (by lia),((hh.mul G.2.2.1).sub (ht.mul J.2.2.1)).mono (by lia),((hh.mul G.2.2.2.1).sub (ht.mul J.2.2.2.1)).mono (by lia),((hh.mul G.2.2.2.2.1).sub (ht.mul J.2.2.2.2.1)).mono (by lia),((hh.mul G.2.2.2.2.2).sub (ht.mul J.2.2.2.2.2)).mono (by lia)⟩
abbrev c6L (c:C6):W:=.lst [.int c.1,.int c.2.1,.int c.2.2.1,.int c.2.2.2.1,.int c.2.2.2.2.1,.int c.2.2.2.2.2]
abbrev ah1 (c0:Aw):Prop:=∀{h:Gh}{w:W}{a b c d e:Tr}{m:Nat}{Q:WK}{E:Ci},Fd h w [a,b,c,d,e]->m<=790->CV m a->CV m b->CV m c->CV m d->CV m e->Q (c6L (jx a b c d e)) h->c0 [w] h Q E
def alU {to}(hdt:SN dt)(hcr:N5 cr)(hto:adH to):ah1 (Gi dt cr to):=by
 intro h w a b c d e m Q E src hm sa sb sc sd se k;have at0:∀{Q:WK},Q (tw a) h->Bq w (.int 0) h Q:=λ{Q} k=>src.at (i:=0) (by simp) k
 have at1:∀{Q:WK},Q (tw b) h->Bq w (.int 1) h Q:=λ{Q} k=>src.at (i:=1) (by simp) k
 have at2:∀{Q:WK},Q (tw c) h->Bq w (.int 2) h Q:=λ{Q} k=>src.at (i:=2) (by simp) k
 have at3:∀{Q:WK},Q (tw d) h->Bq w (.int 3) h Q:=λ{Q} k=>src.at (i:=3) (by simp) k
 have at4:∀{Q:WK},Q (tw e) h->Bq w (.int 4) h Q:=λ{Q} k=>src.at (i:=4) (by simp) k
 have s1:=gY sa sb;have s2:=gY sc sd;have s3:=gY sa sc;have s4:=gY sb sd;have d1:=jN s1 se;have d2:=jN s2 se;have d3:=jN s3 se;have d4:=jN s4 se;have so6:J9 (4*m+3) (Hx a b c d):=J9.mono (wR s1 s2) ⋯;have st6:J9 (4*m+3) (GK a b c d):=J9.mono (wR s3 s4) ⋯;have v1:Gb (Hx a b c d) e=dt3 (crs a b) e*dt3 (crs c d) e:=cD _ _ _;have v2:Gb (GK a b c d) e=dt3 (crs a c) e*dt3 (crs b d) e:=cD _ _ _;unfold jx at k;rw[v1,v2]at k;unfold Gi;show iz rfl (σ:=[AP w,Af,Af,Af,Af,Af,Af]) rfl ?_;rfl'
 show at0 ?_;rfl'
 show at1 ?_;rfl'
 show hcr (m:=m) ⋯ sa sb ?_;rfl'
 show at2 ?_;rfl'
 show at3 ?_;rfl'
 show hcr (m:=m) ⋯ sc sd ?_;rfl'
 show at0 ?_;rfl'
 show at2 ?_;rfl'
 show hcr (m:=m) ⋯ sa sc ?_;rfl'
 show at1 ?_;rfl'
 show at3 ?_;rfl'
 show hcr (m:=m) ⋯ sb sd ?_;rfl'
 show at4 ?_;rfl'
 show hdt (m:=m+m+1) ⋯ s1 (se.mono<|⋯) ?_;rfl'
 show at4 ?_;rfl'
 show hdt (m:=m+m+1) ⋯ s2 (se.mono<|⋯) ?_;rfl'
 show at4 ?_;rfl'
 show hdt (m:=m+m+1) ⋯ s3 (se.mono<|⋯) ?_;rfl'
 show at4 ?_;rfl'
 show hdt (m:=m+m+1) ⋯ s4 (se.mono<|⋯) ?_;have hh:Sm (8*m+10) (dt3 (crs a b) e*dt3 (crs c d) e):=(d1.mul d2).mono ⋯;have ht:Sm (8*m+10) (dt3 (crs a c) e*dt3 (crs b d) e):=(d3.mul d4).mono ⋯;rfl'
 show hto (m:=m+m+1) ⋯ s3 s4 ?_;rfl'
 show hto (m:=m+m+1) ⋯ s1 s2 ?_;generalize dt3 (crs a b) e*dt3 (crs c d) e=hr at hh k;generalize dt3 (crs a c) e*dt3 (crs b d) e=th at ht k;unfold Hx at k so6;unfold GK at k st6;generalize dN (crs a b) (crs c d)=o at so6 k;generalize dN (crs a c) (crs b d)=t at st6 k;obtain⟨o1,o2,o3,o4,o5,o6⟩:=o;obtain⟨t1,t2,t3,t4,t5,t6⟩:=t;obtain⟨so1,so2,so3,so4,so5,so6⟩:=so6;obtain⟨st1,st2,st3,st4,st5,st6⟩:=st6;simp only at so1 so2 so3 so4 so5 so6 st1 st2 st3 st4 st5 st6;rfl'
 show k
abbrev Rg (c0:Aw):Prop:=∀{h:Gh}{w:W}{a b c d e:Tr}{m:Nat}{Q:WK}{E:Ci},Fd h w [a,b,c,d,e]->m<=790->OkT m [a,b,c,d,e]->(G5 [a,b,c,d,e]->∀(C:C6) (k:Int),k≠0->jx a b c d e=kC k C->Nk (Ka C)->J9 (abv m) C->Q (Ks C) h)->(¬[a,b,c,d,e].Nodup->E ⟨"Alike",[]⟩ h)->([a,b,c,d,e].Nodup->Kq [a,b,c,d,e]=true->E ⟨"FourOnLine",[]⟩ h)->c0 [w] h Q E
def ajN {n l mi}(U:Pg pl)(i:Xz n)(g:ahZ l)(Y:ah1 mi):Rg (Ck pl n l mi):=by
 intro h w a b c d e m Q E J r hs k k1 k2;show iz rfl (σ:=[AP w]) rfl ?_;rfl'
 show i J (by simp) ?_;by_cases O:[a,b,c,d,e].Nodup
 ·rw[decide_eq_true O];unfold tY;rfl'
  show g (m:=m) ⋯ J (by simp) hs ?_;by_cases f:Kq [a,b,c,d,e]=true
  ·rw[f];rfl'
   show k2 O f
  ·have f:=by simpa using f
   have G:=adp (λt ht=>(hs t ht).1) O f;rw[f];rfl'
   show Y J r (hs a<|by simp).2 (hs b<|by simp).2 (hs c<|by simp).2 (hs d<|by simp).2 (hs e<|by simp).2 ?_;show U.c6p (m:=abv m) (.inl rfl) (W2<|Br.of G) (aaq (hs a<|by simp).2 (hs b<|by simp).2 (hs c<|by simp).2 (hs d<|by simp).2 (hs e<|by simp).2) (by unfold abv;lia) λC j q s p o=>?_;show k G C j q s p o
 ·rw[decide_eq_false O];rfl'
  show k1 O
abbrev pom (c:C6)(p q:Tr):Int:=dt3 p (vm (fJ c) q)
abbrev Kg (x:Int)(p:Tr)(y:Int)(q:Tr):Tr:=(x*p.1+y*q.1,x*p.2.1+y*q.2.1,x*p.2.2+y*q.2.2)
def zy (c)(p q)(x y):Gb c (Kg x p y q)=x*x*Gb c p+y*y*Gb c q+x*y*pom c p q:=by
 simp[Gb,pom,dt3,vm,fJ,Kg];grind
def anC (c)(p q)(x y):pom c p (Kg x p y q)=x*(2*Gb c p)+y*pom c p q:=by
 simp[Gb,pom,dt3,vm,fJ,Kg];grind
def NT (c)(k)(p):Gb c (sc k p)=k*k*Gb c p:=by
 simp[Gb,sc];grind
def aeR (c)(k)(p q):pom c p (sc k q)=k*pom c p q:=by
 simp[pom,dt3,vm,sc];grind
def yH (c:C6)(p:Tr):pom c p p=2*Gb c p:=by
 simp[pom,dt3,vm,fJ,Gb];grind
def Py (l p q)(x y):dt3 l (Kg x p y q)=x*dt3 l p+y*dt3 l q:=by
 simp[dt3,Kg];grind
def Rp (p q)(x y z w):crs (Kg x p y q) (Kg z p w q)=sc (x*w-y*z) (crs p q):=by
 simp[crs,Kg,sc];grind
def ag0 {t:Tr}(h:t≠(0,0,0)):dt3 t t≠0:=by
 obtain⟨a,b,c⟩:=t;intro e;simp[dt3]at e;have n:∀x:Int,0<=x*x:=λx=>by
  rcases Int.le_total 0 x with q|q
  show Int.mul_nonneg q q;have:=Int.mul_nonneg (show 0<=-x by lia) (show 0<=-x by lia)
  rwa[Int.neg_mul_neg]at this
 have O:=n a;have J:=n b;have G:=n c;have z:∀x:Int,x*x=0->x=0:=λx h=>(Ue.mp h).elim id id
 show h<|by rw[z a<|⋯,z b<|⋯,z c<|⋯]
def span {l x:Tr}(Y:l≠(0,0,0))(a:Pl p)(c:Pl b)(G:b≠p)(O:dt3 l p=0)(U:dt3 l b=0)(J:dt3 l x=0):∃k s t,k≠0/\sc k x=Kg s p t b:=by
 have d:=flat Y O U J;show{dt3 _ _,dt3 (crs x b)<|crs p b,dt3 (crs p x)<|crs p b,ag0<|iT a c λe=>G e.symm,?_};obtain⟨h,g,f⟩:=b;simp[dt3,crs]at d;simp[sc,Kg,dt3,crs];grind
def Xh {x}{s t}(U:Pl p)(G:Pl x)(k0:k≠0)(e:sc k x=Kg s p t b)(O:x≠p):t≠0:=by
 rintro rfl;have e':sc k x=sc s p:=by
  rw[e];simp[Kg,sc];grind
 have J:s≠0:=by
  rintro rfl;show G.ne<|(mH k0).mp ?_
  rw[e'];simp[sc]
 show O<|Rk G U ⟨k,k0,rfl⟩ ⟨s,J,e'⟩
abbrev InC (c:C6)(l:Tr):Prop:=∀x,dt3 l x=0->Gb c x=0
abbrev Xv (c:C6)(p l u:Tr):Prop:=Pl u/\dt3 l u=0/\Gb c u=0/\(∀x,Pl x->dt3 l x=0->Gb c x=0->x=p\/x=u)/\∀x,Pl x->dt3 l x=0->x≠p->(u=p↔pom c p x=0)
def mz {b}(h:a*b=0)(h0:a≠0):b=0:=(Ue.mp h).resolve_left h0
def W4 {c}{l:Tr}(d:l≠(0,0,0))(f:Pl p)(h:Pl b)(O:b≠p)(Y:dt3 l p=0)(a:dt3 l b=0)(G:Gb c p=0)(J:Gb c b=0)(g:pom c p b=0):InC c l:=by
 intro x U;obtain⟨k,s,t,k0,e⟩:=span d f h O Y a U;have w:=NT c k x;rw[e,zy,G,J,g]at w;refine mz ?_<|Ph k0 k0
 lia
def aco {c l}(G:dt3 l p=0)(J:dt3 l b=0)(i:InC c l):pom c p b=0:=by
 have e:=zy c p b 1 1;rw[i _ G,i _ J,i _ (by rw[Py,G,J];rfl)]at e;lia
def abE {c l}(J:dt3 l p=0)(G:dt3 l b=0)(i:InC c l):Kg (pom c b b) p (-(2*pom c p b)) b=(0,0,0):=by
 rw[aco J G i,aco G G i];simp[Kg]
def O9 {c:C6}{l:Tr}(A:l≠(0,0,0))(J:Pl p)(v:Pl b)(f:b≠p)(i:dt3 l p=0)(m:dt3 l b=0)(Y:Gb c p=0)(r:Pl u)(O:Le (Kg (pom c b b) p (-(2*pom c p b)) b) u):Xv c p l u:=by
 have c0:crs p b≠(0,0,0):=iT J v λe=>f e.symm
 have F:dt3 l u=0:=by
  rw[<-Nz O,Py,i,m];simp
 obtain⟨j,o,e⟩:=O;rw[yH]at e;have y:∀s t:Int,crs (Kg s p t b) u=(0,0,0)↔s*pom c p b+t*Gb c b=0:=by
  intro s t;have q:crs (Kg s p t b) (sc j u)=sc (-2*(s*pom c p b+t*Gb c b)) (crs p b):=by
   rw[<-e,Rp];grind
  have E:crs (Kg s p t b) (sc j u)=sc j (crs (Kg s p t b) u):=by
   have:=jw 1 j (Kg s p t b) u
   simp only[Int.one_mul]at this;rw[<-this];simp[sc]
  rw[E]at q;constructor;intro z;rw[z]at q;have:-2*(s*pom c p b+t*Gb c b)=0:=Wd λn=>c0 ((mH n).mp (by rw[<-q];simp[sc]))
  lia;intro z;show(mH o).mp ?_;rw[q,z];simp[sc]
 have G:∀x,Pl x->dt3 l x=0->Gb c x=0->x=p\/x=u:=by
  intro x px h B;obtain⟨k,s,t,k0,ex⟩:=span A J v f i m h;by_cases U:x=p
  show .inl U;have d:=Xh J px k0 ex U;have w:=NT c k x;rw[ex,zy,Y,B]at w;have z:s*pom c p b+t*Gb c b=0:=mz (a:=t) (by grind) d;have:=(y s t).mpr z
  rw[<-ex]at this;show .inr<|yw px r<|(mH k0).mp ?_
  have q:=jw k 1 x u;have D:sc 1 u=u:=by simp[sc]
  rw[D,this,Int.mul_one]at q;show q.symm
 have C:u=p↔pom c p b=0:=by
  constructor;rintro rfl;have:crs (Kg 1 u 0 b) u=(0,0,0):=by
   have:Kg 1 u 0 b=u:=by simp[Kg]
   rw[this,GJ]
  have:=(y 1 0).mp this
  lia;intro g;show(yw J r ?_).symm;have:Kg 1 p 0 b=p:=by simp[Kg]
  rw[<-this];show(y 1 0).mpr ⋯
 show{r,F,?_,G,?_};have w:=NT c j u;rw[<-e,zy,Y]at w;show mz (a:=j*j) ?_<|Ph o o
 grind
 intro x px h U;obtain⟨k,s,t,k0,ex⟩:=span A J v f i m h;have d:=Xh J px k0 ex U;have w:=aeR c k p x;rw[ex,anC,Y]at w;rw[C];constructor;intro g;rw[g]at w;show mz (a:=k) ⋯ k0;intro g;rw[g]at w;show mz (a:=t) ⋯ d
def akF {c}{l v}(O:Pl b)(J:dt3 l b=0)(G:b≠p)(h1:Xv c p l u)(h2:Xv c p l v):u=v:=by
 obtain⟨a1,a2,a3,g,f⟩:=h1;obtain⟨e,d,a,Y,U⟩:=h2;grind
abbrev adt (c0:Aw):Prop:=∀{h:Gh}{Q:WK}{E:Ci},Q (.lst (([(1,0,0),(0,1,0),(0,0,1),(1,1,1)]:List Tr).map tw)) h->c0 [] h Q E
def abh:adt Nr:=by
 intro h Q E k;show k
abbrev aeM (c0:Aw):Prop:=∀{h:Gh}{l p:Tr}{m:Nat}{Q:WK}{E:Ci},1<=m->m<=2000->CV m l->Pl l->Pl p->(∀b,Pl b->dt3 l b=0->b≠p->CV (m+m+1) b->Q (tw b) h)->c0 [tw l,tw p] h Q E
variable {ti:Aw}
def ago {me:Aw}(hme:JoinOk me)(v:adt ti):aeM (iB me ti):=by
 intro h l p m Q E h1 hm hl pl pp k;have g:Sm m 1:=.mono (m:=1) (by unfold Sm;decide) h1;have Y:Sm m 0:=.mono (m:=1) (by unfold Sm;decide) h1;have I:∀e∈([(1,0,0),(0,1,0),(0,0,1)]:List Tr),CV m e/\Pl e:=by
  intro e d;simp only[M5,Qz,or_false]at d;rcases d with rfl|rfl|rfl
  show{⟨g,Y,Y⟩,by unfold Pl Nk;decide +kernel};show{⟨Y,g,Y⟩,by unfold Pl Nk;decide +kernel};show{⟨Y,Y,g⟩,by unfold Pl Nk;decide +kernel}
 unfold iB;rfl'
 show v ?_;show dF ?_;rfl'
 show acV (us:=([(1,0,0),(0,1,0),(0,0,1)]:List Tr).map tw) rfl ?_;show rm rfl<|mQ rfl ?_
 show dj (λi G h'=>h'=h/\∃ts:List Tr,G=ts.map tw/\ts.length<=i/\(∀t∈ts,Pl t/\dt3 l t=0/\CV (m+m+1) t)/\∀j,j<i->∀e,([(1,0,0),(0,1,0),(0,0,1)]:List Tr)[j]?=AP e->(crs l e=(0,0,0)\/∃t∈ts,Le (crs l e) t)) ?_ ?_ {rfl,[],rfl,Em _,λt ht=>absurd ht<|by simp,λj hj=>absurd hj<|⋯}
 ·rintro i w G h' N f C ⟨rfl,ts,rfl,U,good,J⟩;obtain⟨e,F,rfl⟩:=Je C;obtain⟨y,s⟩:=I e (T7 F);show{[tw e],rfl,?_};have nxt:∀ts':List Tr,ts'.length<=ts.length+1->(∀t∈ts,t∈ts')->(∀t∈ts',Pl t/\dt3 l t=0/\CV (m+m+1) t)->(crs l e=(0,0,0)\/∃t∈ts',Le (crs l e) t)->N (ts'.map tw) h':=λts' Z M L K=>f _ _ {rfl,ts',rfl,⋯,L,λj hj e' O=>by
   by_cases q:j<i
   show(J j q e' O).imp id λ⟨t,ht,a⟩=>{t,M t ht,a};have W:j=i:=⋯
   rw[W,F]at O;cases O
   show K}
  rfl'
  show UL (λz=>?_) λz=>?_
  ·rfl'
   show hme (m:=m) ⋯ hl y pl s (λq=>z q.symm) λt a c st=>?_;have:=nxt (ts++[t]) (by simp) (λx u=>qZ _ u) (λx u=>by
    rcases YH.mp u with q|q
    show good x q;rw[R6.mp q];show{a,(Nz c).mp (by rw[yM];show rC _ _),st}) (.inr {t,by simp,c})
   rw[NP]at this;show this
  have V:e=l:=Wd λq=>z q
  subst V;show nxt ts ⋯ (λ_ h=>h) good<|.inl<|GJ _
 ·rintro G h' ⟨rfl,ts,rfl,U,good,J⟩;have ex:∃t∈ts,t≠p:=Wd λn=>by
   have X:∀t∈ts,t=p:=λt ht=>Wd λq=>n ⟨t,ht,q⟩
   have o:∀j,j<3->∀e,([(1,0,0),(0,1,0),(0,0,1)]:List Tr)[j]?=AP e->(crs l e=(0,0,0)\/Le (crs l e) p):=λj hj e d=>(J j hj e d).imp id λ⟨t,ht,a⟩=>by rw[<-X t ht];show a
   show adk pl.ne (o 0 ∅ _ rfl) (o 1 ∅ _ rfl)<|o 2 ∅ _ rfl
  have U:ts.length<=3:=U;rfl'
  show mQ (Nat.ble_eq_true_of_le (by rw[Ds];lia)) ?_;show dj (λi G h2=>h2=h'/\G=((ts.take i).filter (·≠p)).map tw) ?_ ?_ ⟨rfl,rfl⟩
  ·rintro i w G h2 N f C ⟨rfl,rfl⟩;obtain⟨t,D,rfl⟩:=Je C;show{[tw t],rfl,?_};rfl'
   show UL (λz=>?_) λz=>?_
   ·rfl'
    show f _ _ {rfl,?_};rw[M4,D];simp[z]
   show f _ _ {rfl,?_};rw[M4,D];simp[Classical.not_not.mp z]
  ·rintro G h2 ⟨rfl,rfl⟩;rw[Ds,Nj];cases q:ts.filter (·≠p)with
   | nil=>
    obtain⟨t,ht,H⟩:=ex;have:t∈ts.filter (·≠p):=Wb.mpr {ht,by simp[H]}
    rw[q]at this;show absurd this<|by simp
   | cons b r=>
    have P:b∈ts.filter (·≠p):=by rw[q];show Ub
    obtain⟨B,A⟩:=Wb.mp P;obtain⟨T,S,R⟩:=good b B;rw[KQ];show dg (x:=.lst (tw b::r.map tw)) (i:=0) (w:=tw b) (ws:=tw b::r.map tw) rfl (by unfold Np TX;simp) ?_;rfl'
    show k b T S (by simpa using A) R
def aei:HX sJ:=by
 intro h w ns Q E a q;suffices O:mV (Gj (ao 0)) _ _
   {nx:=nM E {nx:=λ_ h'=>Q .non h',rt:=λw h'=>Q w h'},rt:=λw h'=>Q w h'} [AP w,AP _,Af,Af] h from O
 refine zbI rfl a (λi σ h'=>h'=h/\∃J G,σ=[AP w,AP<|.int<|gL<|ns.take i,J,G]) (λi σ h' e=>e.1 ▸ a) ?_ ?_ ⟨rfl,Af,Af,rfl⟩;rintro i n σ h' N l r ⟨rfl,J,G,rfl⟩;have c:=aeO (ns.take i);generalize k:gL _=f at c;refine⟨λm σ h2=>h2=h'/\∃x y,σ=[AP w,AP<|.int x,AP _,AP<|.int y]/\0<=x/\0<=y/\UJ x y=UJ n f/\m=y.toNat,⟨_,rfl,f,_,rfl,c,Mi n,?_,rfl⟩,?_⟩;rw[abs_eq,Int.gcd_comm];simp[UJ];rintro m σ h2 ⟨rfl,x,y,rfl,Y,d,b,rfl⟩;refine⟨λe=>?_,λe=>?_⟩;have U:=by simpa using e
 obtain⟨p,o,s⟩:=HW Y U;refine⟨by lia,(⟨(x.fmod y).toNat,by lia,rfl,y,x.fmod y,rfl,d,o,p.trans b,rfl⟩)⟩;have U:y=0:=by
  have:=by simpa using e
  lia
 subst U;refine l _ _ ⟨rfl,AP<|.int n,AP<|.int 0,?_⟩;have:gL (ns.take (i+1))=x:=by rw[P0 r,k];unfold gF;rw[<-b];exact rQ Y
 rw[this];rintro σ h' ⟨rfl,J,G,rfl⟩
 rwa[Nj]
def alP {c}(f:HX c):abw (Bf c):=by
 intro h w ns m Q E U O hs o hl q;have g:ns.length<=El:=K7 hl ∅;have Y:∀J,(J=if jc ns<0 then 0-gL ns else gL ns)->∀b,ud c E {nx:=λ_ h'=>Q .non h',rt:=λw h'=>Q w h'} [AP w,AP (.int J),b] h:=by
  intro J e b
  obtain⟨d,pl,j⟩:=G7 O e;change J2 K9 [1] (Gj (ao 0)) iM _ [AP w,AP (.int J),b] h _;show Mr (w:=w) rfl U g (λi G h'=>h'=h/\G=((ns.take i).map (·.fdiv J)).map W.int) (λi G h' e=>e.1 ▸ U) ?_ ?_ ⟨rfl,rfl⟩;rintro i t G h' N a p ⟨rfl,rfl⟩;show And.intro {d,m,o,(by show(acU hs).le ?_;rw[e];split<;>lia)} ?_;show a _ _ {rfl,?_};rw[M4,p];simp;rintro G h' ⟨rfl,rfl⟩;rw[Nj];show q _ J d j pl<|HD hs d j
 show f U ?_;change J2 K9 [] (Gj (ao 0)) _ (ao 0) [AP w,AP _,Af] h _;show Mr (w:=w) rfl U g (λi G h'=>h'=h/\G=((ns.take i).filter (·≠0)).map W.int) (λi G h' e=>by rw[e.1];show U) ?_ ?_ ⟨rfl,rfl⟩;rintro i n G h' N a k ⟨rfl,rfl⟩;change Lg _ _ _;rw[cZ];by_cases O:n=0
 show adg (by simp[O])<|a _ _ {rfl,?_}
 rw[M4,k];simp[O];show adb (by simp[O])<|a _ _ {rfl,?_}
 rw[M4,k];simp[O]
 ·rintro G h' ⟨rfl,rfl⟩;rw[Nj];have l:=zbF O;generalize(ns.filter (·≠0)).map W.int=F at l;change(match Np F (-1)with
    | some w=>_
    | none=>False)
  rw[l];show J8 (λhl=>?_)<|λhl=>?_
  show Y _ (by rw[if_pos hl]) _;show Y _ (by rw[if_neg hl]) _
def abw.tr (Y:abw c0)(O:h.c n=AP (.lst [.int u.1,.int u.2.1,.int u.2.2]))(h0:u≠(0,0,0))(hs:CV m u)(U:m<=8000)(k:∀t,Pl t->CV m t->Q (tw t) h):c0 [.loc n] h Q E:=by
 show Y (ns:=tl u) (.inr<|.inr ⟨n,rfl,O⟩) (aa9 h0) hs.all U (by simp[tl]) λms f a e J G=>?_;obtain⟨v,rfl,_⟩:=Oo e;show k v J {G _<|by simp[tl],G _<|by simp[tl],G _<|by simp[tl]}
abbrev Yi (c0:Aw):Prop:=∀{h:Gh}{a:Int}{Q:WK}{E:Ci},(∀h',Oq h' h.nx->h'.nx=h.nx+1->(∀m,m≠h.nx->h'.c m=h.c m)->Q (.loc h.nx) h')->c0 [.int a] h Q E
def adM:Yi Rh:=by
 intro h a Q E k;show And.intro {∅,∅,∅}<|And.intro (.inr<|.inr ?_) ?_
 have g:∀b:Bool,Sm 64 (if b=true then(1:Int)else 0):=λb=>by
  cases b;show Sm.zero;show .lit rfl
 show g _;show And.intro (show _≠0 by decide)<|k _ {_,_,zL _ _,?_,(by lia)} rfl λm G=>oO G
 rw[je ∅];show ZG _ ∅
def QK {t:MA}(x:t σ h λws h1=>fQ ws.length (Q (.loc h1.nx) (h1.new (.lst ws)))):nF t σ h Q:=x
def ix8 {d}(h0:0<=d)(h1:d<8)(k:∀j,0<=j->j<=3->Q (.int j) h):Bq (.lst [.int 0,.int 1,.int 1,.int 1,.int 2,.int 1,.int 3,.int 1]) (.int d) h Q:=by
 rcases(show d=0\/d=1\/d=2\/d=3\/d=4\/d=5\/d=6\/d=7 by lia)with rfl|rfl|rfl|rfl|rfl|rfl|rfl|rfl
 show k 0 ∅<|∅
 show k 1 ∅<|∅
 show k 1 ∅<|∅
 show k 1 ∅<|∅
 show k 2 ∅<|∅
 show k 1 ∅<|∅
 show k 3 ∅<|∅
 show k 1 ∅<|∅
def aeE {b c}(e:h.c n=AP (.lst [.int a,.int b,.int c]))(k:Q (.bl (decide ((a,b,c)=((0,0,0):Tr)))) h):KN (.loc n) (.lst [.int 0,.int 0,.int 0]) h Q:=by
 have d:Lw h (.loc n)=AP (.lst [.int a,.int b,.int c]):=by
  change(match h.c n with
   | some (.lst ws)=>AP _
   | _=>Af)=_
  rw[e]
 unfold KN;rw[d];change Q _ h
 rwa[agy,show decide _=decide ((a,b,c)=((0,0,0):Tr))from decide_eq_decide.mpr (by simp)]
abbrev aeF (c0:Aw):Prop:=∀{h:Gh}{n:Nat}{top:Int}{Q:WK}{E:Ci},Oq h n->n<h.nx->top=0\/top=1000000000->(∀t h',Pl t->CV 30 t->Oq h' n->h.nx<=h'.nx->(∀m,m<h.nx->m≠n->h'.c m=h.c m)->Q (tw t) h')->c0 [.loc n,.int top] h Q E
def alh {D}(U:zX D)(M:abw pl):aeF (xT D pl):=by
 intro h n top Q E hb hn Y k;have O:∀{x:Int},-1000000000<=x->x<1000000000->Sm 30 x:=λh1 h2=>Fp (by lia) (by lia)
 have R:∀{g:Gh}{r:Nat}{u:Tr}{p:Option W},g.c r=AP (.lst [.int u.1,.int u.2.1,.int u.2.2])->u≠(0,0,0)->CV 30 u->Oq g n->h.nx<=g.nx->(∀m,m<h.nx->m≠n->g.c m=h.c m)->pZ D pl E {nx:=λ_ h'=>Q .non h',rt:=λw h'=>Q w h'} [AP (.loc n),p,AP (.loc r)] g:=by
  intro g r u p e L B K hx F;refine M.tr e L B (by decide) λt pt st=>?_;exact k t g pt st K hx F
 have S:∀{g:Gh}{r:Nat}{a b c:Int}{p:Option W},g.c r=AP (.lst [.int a,.int b,.int c])->CV 30 (a,b,c)->Oq g n->h.nx<=r->r<g.nx->(∀m,m<h.nx->m≠n->g.c m=h.c m)->pQ D pl E {nx:=λ_ h'=>Q .non h',rt:=λw h'=>Q w h'} [AP (.loc n),p,AP (.loc r)] g:=by
  intro g r a b c p e B K hx hr F;unfold pQ;rfl'
  refine aeE e ?_;rfl'
  refine J8 (λz=>?_) λz=>?_
  ·simp only[Prod.mk.injEq]at z;obtain⟨rfl,rfl,rfl⟩:=z;have o:Sm 30 1:=O (by decide) (by decide);have s:Sm 30 0:=O (by decide) (by decide);rfl'
   refine U (n:=n) (many:=3) K (by decide) (by unfold Sm;decide +kernel) λj H j0 j1 N q=>?_;have e2:H.c r=AP (.lst [.int 0,.int 0,.int 0]):=by rw[q.2 r (by lia)];exact e
   have l:∀{g3:Gh}{u:Tr},g3.c r=AP (.lst [.int u.1,.int u.2.1,.int u.2.2])->u≠(0,0,0)->CV 30 u->(∀m,m≠r->g3.c m=H.c m)->g3.nx=H.nx->pZ D pl E {nx:=λ_ h'=>Q .non h',rt:=λw h'=>Q w h'} [AP (.loc n),p,AP (.loc r)] g3:=by
    intro g3 u e3 L B d i;refine R e3 L B ?_ (by rw[i,q.1];lia) λm f G=>?_;obtain⟨x,y,ex,A,v⟩:=N;exact⟨x,y,by rw[d n<|by lia];exact ex,A,v⟩;rw[d m (by lia),q.2 m G];exact F m f G
   rcases(show j=0\/j=1\/j=2 by lia)with rfl|rfl|rfl
   refine Gm e2 (j:=0) rfl rfl λg3 e3 d i=>?_;exact l (u:=(1,0,0)) e3 (by decide) ⟨o,s,s⟩ d i;refine Gm e2 (j:=1) rfl rfl λg3 e3 d i=>?_;exact l (u:=(0,1,0)) e3 (by decide) ⟨s,o,s⟩ d i;refine Gm e2 (j:=2) rfl rfl λg3 e3 d i=>?_;exact l (u:=(0,0,1)) e3 (by decide) ⟨s,s,o⟩ d i
  ·rfl'
   exact R (u:=(a,b,c)) e z B K (by lia) F
 unfold xT;rfl'
 refine QK ?_;rfl'
 refine U (n:=n) (many:=5) hb (by decide) (by unfold Sm;decide +kernel) λd1 g1 a0 a1 b1 o1=>?_;rfl'
 refine U (n:=n) (many:=5) b1 (by decide) (by unfold Sm;decide +kernel) λd2 H c0 c1 N q=>?_;rfl'
 refine U (n:=n) (many:=8) N (by decide) (by unfold Sm;decide +kernel) λd3 g3 f0 f1 b3 d=>?_;refine ix8 f0 f1 λj j0 j1=>?_;have i:g3.nx=h.nx:=by rw[d.1,q.1,o1.1]
 have P:∀m,m≠n->g3.c m=h.c m:=λm f=>by rw[d.2 m f,q.2 m f,o1.2 m f]
 rfl'
 have en:=zL g3 (.lst [.int (d1-2),.int (d2-2),.int j]);have ex:(g3.new (.lst [.int (d1-2),.int (d2-2),.int j])).nx=g3.nx+1:=rfl;have I:∀m,m≠g3.nx->(g3.new (.lst [.int (d1-2),.int (d2-2),.int j])).c m=g3.c m:=λm f=>oO f
 generalize(g3.new (.lst [.int (d1-2),.int (d2-2),.int j]))=g4 at en ex I;have b4:Oq g4 n:=by
  obtain⟨x,y,e,A,v⟩:=b3;exact⟨x,y,by rw[I n<|by lia];exact e,A,v⟩
 have sT:Sm 30 top:=by
  rcases Y with e|e<;>rw[e]
  exact O (by decide)<|by decide
  exact Fp (by decide)<|by decide
 have T:Sm 60 (2*top):=by
  rcases Y with e|e<;>rw[e]
  exact Fp (by decide)<|by decide
  exact Fp (by decide)<|by decide
 rfl'
 refine J8 (λhp=>?_) λhp=>?_
 ·have Y:top=1000000000:=Y.resolve_left (by lia);rfl'
  refine QK ?_;rfl'
  refine U (n:=n) (many:=2*top) b4 (by lia) T λd5 g5 p0 p1 b5 o5=>?_;rfl'
  refine U (n:=n) (many:=2*top) b5 (by lia) T λd6 g6 q0 q1 b6 Z=>?_;rfl'
  refine U (n:=n) (many:=top) b6 (by lia) (sT.mono<|by decide) λd7 C r0 r1 b7 X=>?_;have x7:C.nx=h.nx+1:=by rw[X.1,Z.1,o5.1];lia
  have u7:∀m,m<h.nx->m≠n->C.c m=h.c m:=λm f G=>by rw[X.2 m G,Z.2 m G,o5.2 m G,I m (by lia)];exact P m G
  rfl'
  refine S (zL C _) ⟨O (by change _<=d5-top;lia) (by change d5-top<_;lia),O (by change _<=d6-top;lia) (by change d6-top<_;lia),O (by change _<=d7;lia) (by change d7<_;lia)⟩ ?_ (by lia) (by change C.nx<C.nx+1;lia) λm f G=>by rw[oO (by lia)];exact u7 m f G
  obtain⟨x,y,e,A,v⟩:=b7;exact⟨x,y,by rw[oO<|by lia];exact e,A,v⟩
 ·rfl'
  exact S en ⟨O (by change _<=d1-2;lia) (by change d1-2<_;lia),O (by change _<=d2-2;lia) (by change d2-2<_;lia),O (by change _<=j;lia) (by change j<_;lia)⟩ b4 (by lia) (by lia) λm f G=>by rw[I m (by lia)];exact P m G
abbrev Ot:List Str:=["free", "join", "meet", "curve", "about", "pole", "other"]
abbrev mF (x:Str):List Str:=if x = "join" then["spot", "spot"]else if x = "meet" then["line", "line"]else if x = "about" then["curve", "spot"]else
 if x = "curve" then["spot", "spot", "spot", "spot", "spot"]else if x = "pole" then["curve", "line"]else if x = "other" then["curve", "spot", "spot"]else[]
abbrev Nw1 (h h':Gh):Prop:=(∀m,m≠h.nx->h'.c m=h.c m)/\h'.nx=h.nx+1
abbrev ZX (c0:Aw):Prop:=∀{h:Gh}{x:Str}{Q:WK}{E:Ci},x∈Ot->(∀h',Nw1 h h'->Q (.lst ((mF x).map .str)) h')->c0 [.str x] h Q E
abbrev ahR:List (Key×W):=[(.inr "free",.lst []),(.inr "join",.lst [.str "spot",.str "spot"]),(.inr "meet",.lst [.str "line",.str "line"]),(.inr "about",.lst [.str "curve",.str "spot"]),
 (.inr "curve",.lst [.str "spot",.str "spot",.str "spot",.str "spot",.str "spot"]),(.inr "pole",.lst [.str "curve",.str "line"]),(.inr "other",.lst [.str "curve",.str "spot",.str "spot"])]
def anu (G:x∈Ot):lg ahR (.inr x)=AP (.lst ((mF x).map .str)):=by
 unfold Ot at G;simp at G;rcases G with e|e|e|e|e|e|e<;>subst e<;>rfl
def aeB:ZX Io:=by
 intro h x Q E J k;change(match(h.new _).c h.nx with
  | some (.dct [])=>_
  | _=>False)
 rw[zL];change(match(((h.new (.dct [])).set h.nx _).c h.nx)with
  | some (.dct kvs)=>_
  | _=>False)
 rw[rA];change(match((((h.new (.dct [])).set h.nx _).set h.nx _).c h.nx)with
  | some (.dct kvs)=>_
  | _=>False)
 rw[rA];change(match(((((h.new _).set h.nx (.dct _)).set h.nx _).set h.nx _).c h.nx)with
  | some (.dct kvs)=>_
  | _=>False)
 rw[rA];change(match((((((h.new (.dct [])).set h.nx _).set h.nx _).set h.nx _).set h.nx _).c h.nx)with
  | some (.dct kvs)=>_
  | _=>False)
 rw[rA];change(match lg ahR (.inr x)with
  | some w=>_
  | none=>False)
 rw[anu J];show k _ {λm G=>?_,rfl};rw[jO G,jO G,jO G,jO G,oO G]
abbrev m7 (x:Str):Str:=if x = "join" then "line" else if x = "about" then "line" else if x = "curve" then "curve" else "spot"
abbrev RV (c0:Aw):Prop:=∀{h:Gh}{x:Str}{ws:List W}{Q:WK}{E:Ci},x∈Ot->Q (.str (m7 x)) h->c0 [.tup (.str x::ws)] h Q E
def WM:RV zH:=by
 intro h x ws Q E G k;unfold m7 at k;have ix:∀{Q':WK}{h':Gh},Q' (.str x) h'->Bq (.tup (.str x::ws)) (.int 0) h' Q':=λz=>dg rfl (bR rfl) z
 unfold zH;rfl'
 show ix<|bZ<|pH<|pB<|J8 (λe=>?_)<|λe=>?_
 ·rw[if_pos e]at k;rfl'
  show k
 ·rw[if_neg e]at k;rfl'
  show ix<|bZ<|pH<|pB<|J8 (λe=>?_)<|λe=>?_
  rw[if_pos e]at k;show k
  ·rw[if_neg e]at k;unfold vN;rfl'
   show ix<|bZ<|pH ?_
   by_cases e:x=("curve" : Str)
   rw[if_pos e]at k;rw[decide_eq_true e];show k;rw[if_neg e]at k;rw[decide_eq_false e];show k
abbrev Row (w:W):Prop:=∃x ns,x∈Ot/\w=.tup (.str x::(ns:List Int).map .int)
abbrev Ro:W->Str
 | .tup (.str x::_)=>m7 x
 | _ => ""
def Row.sort (r:Row w)(J:RV c0)(k:Q (.str (Ro w)) h):c0 [w] h Q E:=by
 obtain⟨x,ns,G,e⟩:=r;subst e;show J G k
abbrev nth (ss:List Str):W->Option Str
 | .int i=>if 0<=i then ss[i.toNat]? else Af
 | _=>Af
variable {ss:List Str}
def aee {v}(e:0<=v):nth ss (.int v)=ss[v.toNat]?:=by
 change(if 0<=v then ss[v.toNat]? else Af)=_;rw[if_pos e]
abbrev aaH (c0:Aw):Prop:=∀{h:Gh}{b n:Nat}{rws:List W}{s:Str}{Q:WK}{E:Ci},Oq h b->h.c n=AP (.lst rws)->b≠n->(∀r∈rws,Row r)->rws.length<=24->(∃r∈rws,Ro r=s) ->
 (∀(j:Nat) h',(rws.map Ro)[j]?=AP s->Oq h' b->Vq b h h'->Q (.int j) h')->c0 [.loc b,.loc n,.str s] h Q E
def aaA {u}(F:zX c0)(hs:RV u):aaH (zB c0 u):=by
 intro h b n rws s Q E H B K v hl d k;have o:=jg B;unfold zB;rfl'
 show dh o<|aH<|Z5 (m:=rws.length) ⋯<|mQ (by rw[Ds];unfold rng;rw[ZQ];show Nat.ble_eq.mpr ⋯) ?_
 show dj (λi J h'=>h'=h/\∃js:List Nat,J=js.map (λj:Nat=>W.int (j:Int))/\js.length<=i/\((∃k,k<i/\∃r,rws[k]?=AP r/\Ro r=s)->js≠[])/\∀j∈js,(rws.map Ro)[j]?=AP s) ?_ ?_ {rfl,[],rfl,Em _,λa=>by obtain⟨_,z,_⟩:=a;show absurd z<|Yq _,λj hj=>absurd hj<|by simp};rintro i w J h' N l e ⟨rfl,js,rfl,O,Y,jo⟩;rw[Kh]at e;obtain⟨x,ex,rfl⟩:=YX.mp e;have p:=(tB ex).1;have g:=(tB ex).2;rw[Zd]at p;subst p;have G:rws[x]?=AP rws[x]:=Lq g;show{[.int (x:Int)],rfl,?_};show bJ<|aM<|aU<|aB<|aM<|aq rfl<|aq rfl<|dg o (bR G)<|aH<|(v _<|ZS g).sort hs (aq rfl<|pH<|pB ?_)
 by_cases z:Ro rws[x]=s
 rw[decide_eq_true z];show dH<|aq rfl<|l _ _ {rfl,js++[x],by rw[NP];rfl,by rw[Lp];show Nat.succ_le_succ O,λ_ y=>?_,λj hj=>?_}
 show absurd (congrArg Uo y) (by rw[Lp];show Nat.succ_ne_zero _);rcases YH.mp hj with hj|hj
 show jo j hj;rw[R6.mp hj,Kh,G,Option.map_some,z];rw[decide_eq_false z];show G6<|l _ _ {rfl,js,rfl,Nat.le_succ_of_le O,λ⟨q,c,r,e1,e2⟩=>Y {q,?_,r,e1,e2},jo}
 rcases Nat.lt_or_ge q x with y|y
 show y;have:q=x:=⋯
 subst this;rw[G]at e1;cases e1;show absurd e2 z
 ·rintro J h' ⟨rfl,js,rfl,O,Y,jo⟩;have hj:js≠[]:=by
   obtain⟨r,h1,h2⟩:=d;obtain⟨q,c,e⟩:=List.getElem_of_mem h1;show Y {q,?_,r,by rw[Lq c,e],h2};rw[Ds];unfold rng;rw[ZQ];show c
  have C:js.length<=24:=by
   rw[Ds]at O;unfold rng at O;rw[ZQ]at O;lia
  have D:0<js.length:=List.length_pos_iff.mpr hj;rfl'
  rw[Ds];show F H ⋯ (by unfold Sm;lia) λd h2 I L f A=>?_;obtain⟨t,rfl⟩:=yc I;have U:t<js.length:=⋯
  show dg (ws:=js.map λj:Nat=>W.int (j:Int)) (w:=.int (js[t]:Int)) rfl (bR (by rw[Kh,Lq U];rfl)) ?_;show k _ _ (jo _<|ZS U) f A
abbrev Gr (b:Nat)(h h':Gh):Prop:=h.nx<=h'.nx/\∀m,m<h.nx->m≠b->h'.c m=h.c m
def Gr.trans {b:Nat}{h h1 h2:Gh}(x:Gr b h h1)(y:Gr b h1 h2):Gr b h h2:=⟨K7 x.1 y.1,λm J G=>(y.2 m (Kz J x.1) G).trans (x.2 m J G)⟩
def Vq.gr {b h1}(x:Vq b h h1):Gr b h h1:=⟨Nat.le_of_eq x.1.symm,λm _ G=>x.2 m G⟩
def Nw1.gr {b h1}(x:Nw1 h h1):Gr b h h1:={x.2 ▸ YG _,λm G _=>x.1 m (KC G)}
def Nw1.bag {b h1}(x:Nw1 h h1)(G:Oq h b)(hl:b<h.nx):Oq h1 b:=by
 obtain⟨p,q,e,r⟩:=G;show{p,q,(x.1 b<|KC hl).trans e,r}
variable {rws:List W}
def adE {O}(hs:RV O)(Y:h.c n=AP (.lst rws))(U:∀r∈rws,Row r)(hl:rws.length<=24)(q:Q (.lst (rws.map λr=>.str (Ro r))) h):
  lcK K9 [] iM (aF O E (aj (ao 0) aG)) σ Q ⟨rws,AP (n,rws)⟩ h:=by
 show fQ.mk (K7 hl<|∅)<|Gp (λi G h'=>h'=h/\G=(rws.take i).map λr=>.str<|Ro r) ?_ ?_ (by simp_all) ⟨rfl,rfl⟩
 rintro i G h' ⟨rfl,_⟩ P p;show⟨Y,p⟩;rintro i w G h' N a J ⟨rfl,rfl⟩;show{[w],rfl,eZ<|dH<|aU<|aB<|aq rfl<|aH<|(U w<|T7 J).sort hs (a _ _ {rfl,?_})};rw[M4,J,NP];rfl
def ail {y:W}{us:List Str}{a:Str}(e:gq h y=AP (us.map .str))(k:Q (.bl (!decide (a∈us))) h):JZ (.str a) y h Q:=by
 have e1:(K1 20 (.str a)&&(us.map W.str).all (K1 20))=true:=by
  rw[V5];show{rfl,Vl.mpr λw hw=>?_};obtain⟨x,_,rfl⟩:=Ni.mp hw;rfl
 have e2:((us.map W.str).any λu=>K6 u (.str a))=decide (a∈us):=by
  rw[Bool.eq_iff_iff,List.any_eq_true,decide_eq_true_iff];constructor;rintro⟨w,hw,he⟩;obtain⟨x,hx,rfl⟩:=Ni.mp hw
  rwa[<-eq_of_beq he]
  intro ha;show{.str a,Ni.mpr ⟨a,ha,rfl⟩,beq_self_eq_true a}
 unfold JZ;rw[e];change Lg _ _ _
 rwa[e1,e2]
def af0 {us:List Str}(a:wC ix σ=[AP (.lst (ss.map .str))])(hl:us.length<=24)(q:∀G,(G=[]->∀u∈us,u∈ss)->G.length<=24->Q (.lst (G.map .str)) h):
  lcK K9 ix (bw (Av JZ (ao 0) (ao 1))) (ao 0) σ Q ⟨us.map .str,Af⟩ h:=by
 show fQ.mk (by rw[Ds];show K7 hl ∅) ?_;show dj (λi J h'=>h'=h/\∃G:List Str,J=G.map .str/\G.length<=i/\(G=[]->∀u∈us.take i,u∈ss)) ?_ ?_ {rfl,[],rfl,Em _,λ_ u c=>by simp at c};rintro i w J h' N b e ⟨rfl,G,rfl,O,U⟩;rw[Kh]at e;obtain⟨u,d,rfl⟩:=YX.mp e;show{[.str u],rfl,?_};rw[a];show bJ<|aM<|aq rfl<|aq rfl<|ail rfl<|pB ?_
 by_cases z:u∈ss
 rw[decide_eq_true z];show G6<|b _ _ {rfl,G,rfl,Nat.le_succ_of_le O,λe v Y=>?_}
 rw[M4]at Y;rcases YH.mp Y with Y|Y
 simp_all
 simp_all
 rw[decide_eq_false z];show dH<|aq rfl<|b _ _ {rfl,G++[u],by rw[NP];rfl,Lp ▸ Nat.succ_le_succ O,λy=>?_}
 show absurd (congrArg Uo y)<|Lp ▸ Nat.succ_ne_zero _
 rintro J h' ⟨rfl,G,rfl,O,U⟩;rw[Ds]at O U;rw[Nj]at U;show q G U<|K7 O hl
def sZ (G:x∈Ot):(mF x).length<=24:=by
 unfold Ot at G;simp at G;rcases G with e|e|e|e|e|e|e<;>subst e<;>decide
def ab2 {a b}(hz:a.length+b.length<=1000)(x:Q (.lst (a++b)) h):cF (.lst a) (.lst b) h Q:=fQ.mk (K7 hz (by decide:1000<=El)) x
def Sd {l c2 c3}(y:ZX l)(q:aaH c3){b}{a2 a3 F C}(v:Oq h b)(t:h.c n=AP (.lst rws))(d:b≠n)(A:b<h.nx)(o:n<h.nx)
  (p:∀r∈rws,Row r) (hl:rws.length<=24) (O:x∈Ot) (hs:∀s∈mF x,∃r∈rws,Ro r=s) (k:∀(ns:List Int) h',(ns.map W.int).map (nth (rws.map Ro))=(mF x).map AP->Oq h' b->Gr b h h'->D.rt (.tup (.str x::ns.map .int)) h') :
  BX c0 l c2 c3 E D [AP (.loc b),AP (.loc n),a2,a3,F,AP (.str x),C] h:=by
 refine y O λh2 n2=>?_;refine fQ.mk (by rw[Ds];exact K7 (sZ O) (by decide)) ?_;refine dj (λi J h'=>Oq h' b/\Vq b h2 h'/\∃ns:List Int,J=ns.map .int/\ns.length=i/\(ns.map W.int).map (nth<|rws.map Ro)=((mF x).take i).map AP) ?_ ?_ ⟨(n2.bag v A),⟨rfl,λ_ _=>rfl⟩,[],rfl,rfl,rfl⟩;rintro i w J h' N z e ⟨G,o',ns,rfl,a,Y⟩;rw[Kh]at e;obtain⟨u,g,rfl⟩:=YX.mp e;refine⟨[.str u],rfl,eZ<|dH<|aU<|aB<|aq rfl<|aB<|aq rfl<|aB<|aq rfl<|aH<|q G ((o'.2 n<|Ke d).trans ((n2.1 n<|KC o).trans t)) d p hl (hs u<|T7 g) λj H jo U c=>?_ ⟩;exact z _ _ ⟨U,⟨c.1.trans o'.1,λm f=>(c.2 m f).trans (o'.2 m f)⟩,ns++[(j:Int)],by rw[NP];rfl,by rw[Lp,a];rfl,by rw[NP,NP,Y,M4,g,NP];change _++[nth _ _]=_;rw[aee<|Int.natCast_nonneg _,Zb,jo];rfl⟩;rintro J h' ⟨G,o',ns,rfl,a,Y⟩;have B:ns.length<=24:=by rw[a,Ds];exact sZ O
 refine ab2 (by rw[Ds];change 1+ns.length<=1000;lia) ?_;exact k ns h' (by rw[Y,Ds,Nj]) G<|n2.gr.trans o'.gr
abbrev ok1 (ss:List Str):W->Bool
 | .tup (.str x::ns)=>decide (x∈Ot)&&decide (ns.map (nth ss)=(mF x).map AP)
 | _=>false
abbrev K8:W->Bool
 | .tup (.str x::_)=>decide (x = "free")
 | _=>false
def Ym {ns}(G:x∈Ot)(e:ns.map (nth ss)=(mF x).map AP):ok1 ss (.tup (.str x::ns))=true:=by
 change(decide _&&decide _)=true;simp_all
abbrev Yx:List Str:=["join", "meet", "curve", "about", "pole", "other", "join", "meet", "join", "meet"]
def aay:∀i:Fin Yx.length,Yx[i]∈Ot:=by decide +kernel
abbrev ah5 (c0:Aw):Prop:=∀{h:Gh}{b n:Nat}{rws:List W}{fr:Int}{Q:WK}{E:Ci},Oq h b->h.c n=AP (.lst rws)->b≠n->b<h.nx->n<h.nx->(∀r∈rws,Row r)->rws.length<=23 ->
 ((rws.length:Int)<fr\/∃r∈rws,Ro r = "spot")->(∀r h',Row r->((rws.length:Int)<fr->Ro r = "spot")->ok1 (rws.map Ro) r=true->K8 r=decide ((rws.length:Int)<fr)->Oq h' b->Gr b h h'->Q r h')->c0 [.loc b,.loc n,.int fr] h Q E
def agp {F c2 c3}(L:zX c0)(l:ZX F)(hs:RV c2)(p:aaH c3):ah5 (Gf c0 F c2 c3):=by
 intro h b n rws fr Q E M B i H A j hl o k;unfold Gf;rfl'
 refine adE hs B j (by lia) ?_;rfl'
 refine L M (by decide) (by unfold Sm;decide) λd h1 R T t y=>?_;obtain⟨g,rfl⟩:=yc R;have O:g<Yx.length:=by change g<10;lia
 have a:Yx[g]∈Ot:=aay ⟨g,O⟩;have I:("free" : Str)∉Yx:=by decide
 generalize D:Yx[g]=x at a;have u:Gr b h h1:=y.gr;have q:h1.c n=AP (.lst rws):=(y.2 n (Ke i)).trans B;rfl'
 refine dg (ws:=Yx.map W.str) (w:=.str x) rfl (bR (by rw[Kh,Lq O,D];rfl)) ?_;rfl'
 refine l a λh2 n2=>?_;have nl1:n<h1.nx:=Kz A u.1;have v:b<h1.nx:=Kz H u.1;have J:h2.c n=AP (.lst rws):=(n2.1 n (KC nl1)).trans q;have U:Oq h2 b:=n2.bag t v;have d:Gr b h h2:=u.trans n2.gr;have m:=jg J;rfl'
 refine af0 (ss:=rws.map Ro) (by rw[Uy];rfl) (sZ a) λls K S=>?_;have nl2:n<h2.nx:=Kz A d.1;have Y:b<h2.nx:=Kz H d.1;rfl'
 refine dh m ?_;rfl'
 refine J8 (λe=>?_)<|λe=>?_
 ·rfl'
  refine dh m ?_;rfl'
  rw[decide_eq_true e];refine Sd (c0:=c0) (c2:=c2) (x := "free") l p U J i Y nl2 j (by lia) (by decide) (λs hs=>absurd (show s∈([]:List Str)from hs)<|by simp) λns C f G c=>?_;exact k _ _ ⟨"free",ns,by decide,rfl⟩ (λ_=>rfl) (Ym (by decide) f) (by rw[decide_eq_true e];rfl) G<|d.trans c
 ·rfl'
  refine J8 (λe'=>?_)<|λe'=>?_
  ·rfl'
   refine dh m ?_;rfl'
   rw[decide_eq_false e];refine Sd (c0:=c0) (c2:=c2) (x := "join") l p U J i Y nl2 j (by lia) (by decide) (λs hs=>?_) λns C f G c=>?_;have es:s = "spot":=by
    have N:s∈(["spot", "spot"]:List Str):=hs
    simpa using N
   rw[es];exact o.resolve_left e;exact k _ _ ⟨"join",ns,by decide,rfl⟩ (λz=>absurd z e) (Ym (by decide) f) (by rw[decide_eq_false e];rfl) G<|d.trans c
  have P:ls=[]:=by
   rw[Ds]at e';exact List.length_eq_zero_iff.mp<|by lia
  refine Sd (c0:=c0) (c2:=c2) (x:=x) l p U J i Y nl2 j (by lia) a (λs hs=>?_) λns C f G c=>?_;obtain⟨r,h1,h2⟩:=Ni.mp (K P s hs);exact⟨r,h1,h2⟩;exact k _ _ ⟨x,ns,a,rfl⟩ (λz=>absurd z e) (Ym a f) (by rw[decide_eq_false e];exact decide_eq_false (λz=>I<|z ▸ D ▸ ZS O)) G<|d.trans c
def abd {i:Int}(c:Pq i j)(x:Q (.int (i*j)) h):PK (.int i) (.int j) h Q:=⟨c,x⟩
def Wv {i}(x:Q (.int (if j>i then j else i)) h):ada [.int i,.int j] h Q:=x
abbrev ah6 (c0:Aw):Prop:=∀{h:Gh}{p q:Tr}{m:Nat}{Q:WK}{E:Ci},m<=10000->CV m p->CV m q->Q (.int (dt3 p q)) h->c0 [tw p,.lst [.int q.1,.int q.2.1,.int q.2.2]] h Q E
def aeL:ah6 Qu:=by
 intro h p q m Q E hm hp hq k;obtain⟨h1,h2,h3⟩:=hp;obtain⟨h4,h5,h6⟩:=hq;unfold Qu;rfl'
 exact k
abbrev Om (c0:Aw):Prop:=∀{h:Gh}{M:Mt}{p q:Tr}{m:Nat}{Q:WK}{E:Ci},m<=4000->Rm m M->CV m p->CV m q->Q (.int (dt3 p (vm M q))) h->c0 [mw M,tw p,tw q] h Q E
def acG {tt}(J:ah6 dt)(G:QM tt):Om (qM dt tt):=by
 intro h M p q m Q E a U Y O k;show G ⋯ U O<|J ⋯ (Y.mono<|⋯) (Ef U O) k
abbrev Told (thg:List W)(js:List Nat)(ws:List W):Prop:=js.map (λj=>thg[j]?)=ws.map AP
variable {js:List Nat}{thg:List W}
def Told.len (t:Told thg js ws):js.length=ws.length:=by
 have:=congrArg Uo t
 rwa[Ds,Ds]at this
def Told.at {thg ws js}(t:Told thg js ws){i j:Nat}(e:js[i]?=AP j):∃w,ws[i]?=AP w/\thg[j]?=AP w:=by
 have:=congrArg (λl=>l[i]?) t
 simp[e]at this;cases h:ws[i]? with
 | none=>rw[h]at this;cases this
 | some w=>
  simp_all
def aav {w1}(J:wC ix σ=[AP w1])(O:view h w1=AP thg)(t:Told thg js ws)(hl:js.length<=100)(q:Q (.lst ws) h):
  lcK K9 ix iM (Av Bq (ao 1) (ao 0)) σ Q ⟨js.map λj:Nat=>W.int (j),Af⟩ h:=by
 show mQ (by rw[Ds];show Nat.ble_eq.mpr ⋯) ?_;show dj (λi G h'=>h'=h/\G=ws.take i) ?_ ?_ ⟨rfl,rfl⟩;rintro i u G h' N U e ⟨rfl,rfl⟩;rw[Kh]at e;obtain⟨j,b,rfl⟩:=YX.mp e;obtain⟨w,Y,a⟩:=t.at b;show{[.int _],rfl,?_};rw[J];show eZ<|dH<|aM<|aq rfl<|aq rfl<|dg O (bR a)<|U _ _ {rfl,?_}
 rw[M4,Y];rfl;rintro G h' ⟨rfl,rfl⟩
 rwa[Ds,t.len,Nj]
def aiX {u}{ns}:Lz (u::ns) (AP 1) Af=ns:=by
 unfold Lz;rw[show(1:Int)=((1:Nat):Int)from rfl,HT.PB,HT.Hr,Od,Nat.min_eq_left ⋯,List.drop_succ_cons,List.drop_zero,List.take_of_length_le ⋯]
def uh {u:W}{ns:List W}(x:Q (.tup ns) h):Dk (.tup (u::ns)) (AP 1) Af h Q:=by
 change Q _ h
 rwa[aiX]
variable {h':Gh}
def Ms {ns R}(q:R (.str x) h'):Bq (.tup (.str x::ns)) (.int 0) h' R:=dg rfl (bR rfl) q
def ahO {a}{ns R}(q:R a h'):Bq (.lst (a::ns)) (.int 0) h' R:=dg rfl (bR rfl) q
def ahD {a b}{ns R}(q:R b h'):Bq (.lst (a::b::ns)) (.int 1) h' R:=dg rfl (bR rfl) q
def aaz {d}{mb mh}(x:mb (λx h'=>Lg (QJ x.cls d) (mh E D σ h') False) D σ h):X8 d mb mh E D σ h:=x
def zaZ {f:Str}{ma:ME}(k:ma σ h λw h1=>E ⟨x,[(f,w)]⟩ h1):Ek x f ma E D σ h:=k
abbrev Kp (h h':Gh):Prop:=h.nx<=h'.nx/\∀m,m<h.nx->h'.c m=h.c m
abbrev Mk1 (c0:Aw)(gold:List W)(r w:W):Prop:=∀{h:Gh}{n:Nat}{Q:WK}{E:Ci},h.c n=AP (.lst gold)->Q w h->c0 [r,.loc n] h Q E
abbrev Rf (c0:Aw)(gold:List W)(r:W):Prop:=∀{h:Gh}{n:Nat}{Q:WK}{E:Ci},h.c n=AP (.lst gold)->(∀x,E ⟨x,[]⟩ h)->c0 [r,.loc n] h Q E
structure V6 (c0:Aw) (rws sps gold:List W):Prop where
 lo:∀k,Ln k gold
 len:rws.length<=30
 le:gold.length<=rws.length
 shp:∀r∈rws,∃x ns,r=.tup (.str x::ns)
 fr:∀i r,i<gold.length->rws[i]?=AP r->K8 r=true->sps[(rws.take i).countP K8]?=gold[i]?
 frx:∀r,rws[gold.length]?=AP r->K8 r=false
 mak:∀i r w,i<gold.length->rws[i]?=AP r->K8 r=false->gold[i]?=AP w->Mk1 c0 (gold.take i) r w
def aaY {ns}:K8 (.tup (.str x::ns))=K6 (.str x) (.str "free"):=rfl
def zbR {r:W}(e:rws[i]?=AP r):(rws.take (i+1)).countP K8=(rws.take i).countP K8+(if K8 r then 1 else 0):=by
 rw[M4,e];simp
variable {gold:List W}
def ajZ {mr}{sps}(P:V6 mr rws sps gold)(A:gold.length=rws.length->Q (.lst gold) h)
  (v:∀r,rws[gold.length]?=AP r->Rf mr gold r/\∀h',Kp h h'->E ⟨"Stuck",[("at",.int (gold.length:Nat))]⟩ h'):yW mr [.lst rws,.lst sps] h Q E:=by
 have C:=P.len;have B:=P.le;refine oF rfl (σ:=[AP<|.lst rws,AP<|.lst sps,Af,Af,Af,Af,Af]) rfl ?_;refine aO<|bA<|jJ (ws:=[]) (λR=>rfl) rfl λg U u t=>?_
 refine iG (λi σ h'=>∃f g d b,σ=[AP<|.lst rws,AP<|.lst sps,AP<|.loc h.nx,AP<|.int f,g,d,b]/\f=(((rws.take i).countP K8:Nat):Int)/\i<=gold.length/\h'.c h.nx=AP (.lst<|gold.take i)/\h'.nx=h.nx+1/\∀m,m<h.nx->h'.c m=h.c m) ?_ ?_ ⟨_,_,_,_,rfl,rfl,Pz _,U,t,λm J=>u m<|KC J⟩
 ·rintro i D σ h' N q e ⟨f,g,d,b,rfl,l,hi,G,k,Y⟩;obtain⟨r,O,rfl⟩:=Ea e;rw[Zd];refine m9 rfl rfl<|eN<|nV ?_
  refine eN<|nV<|Xb ?_
  have cs:=zbR O;obtain⟨x,ns,rfl⟩:=P.shp r (T7 O);refine bJ<|aM<|aM<|aq rfl<|bZ<|Ms<|bZ ?_
  cases fr:K8 (.tup (.str x::ns))with
  | true=>
   rw[fr,if_pos rfl]at cs;have p:i<gold.length:=by
    rcases Nat.lt_or_ge i gold.length with z|z
    exact z;have o:i=gold.length:=by lia
    rw[o]at O;rw[P.frx _ O]at fr;cases fr
   have U:gold[i]?=AP gold[i]:=Lq p;have es:=P.fr i _ p O fr;refine rG fr ?_;refine aO<|eE<|jK<|aq rfl<|fZ G<|aB<|aM<|aq rfl<|aq rfl ?_
   subst l;refine dg (ws:=sps) (w:=gold[i]) rfl (bR<|by rw[es,U])<|aH ?_
   refine uV G (by rw[U7];lia) λg2 e2 j a=>?_;refine bV<|bA<|aM<|aq rfl<|bZ<|eU ?_
   refine nV<|bV ?_
   refine q _ _ ⟨_,_,_,_,rfl,by rw[cs];lia,by lia,by rw[e2,M4,U];rfl,by rw[a];exact k,λm J=>by rw[j m<|KC J];exact Y m J⟩
  | false=>
   rw[fr,if_neg (by decide)]at cs;have n:=fr;rw[aaY]at fr;refine gM fr ?_;refine aO<|aaz<|bA<|aU<|aB<|aq rfl<|aB<|aq rfl<|aH ?_
   by_cases hl:i<gold.length
   have U:gold[i]?=AP gold[i]:=Lq hl;refine P.mak i _ _ hl O n U G ?_;refine nV<|bV<|eE<|jK<|aq rfl<|fZ G<|aB<|aq rfl<|aH ?_
   refine uV G (by rw[U7];lia) λg2 e2 j a=>?_;refine bV<|q _ _ ⟨_,_,_,_,rfl,by rw[cs];exact l,by lia,by rw[e2,M4,U];rfl,by rw[a];exact k,λm J=>by rw[j m<|KC J];exact Y m J⟩
   have o:i=gold.length:=by lia
   subst o;rw[Nj]at G;obtain⟨k1,k2⟩:=v _ O;refine k1 G λy=>?_;have:QJ y "EaselError" = true:=by unfold QJ;simp
   change Lg (QJ y "EaselError") _ False;rw[this];refine dH<|zaZ<|aq rfl ?_
   exact k2 _ ⟨by lia,Y⟩
 rintro σ h' ⟨f,g,d,b,rfl,l,hi,G,k,Y⟩;rw[Fw]at hi G;have s:gold.length=rws.length:=Nat.le_antisymm P.le hi;rw[<-s,Nj]at G;refine bV ?_;unfold wF;exact bU<|aq rfl<|uJ ⟨λm c J e=>by rw[Y m J];exact e,.inr ⟨h.nx,gold,rfl,Em _,G,P.lo _,A s⟩⟩
def wU (c):RG (fJ c)=adj (fJ c):=by
 unfold adj;simp[RG,tr,fJ,crs];grind
abbrev Pn (c0:Aw):Prop:=∀{h:Gh}{c:C6}{l:Tr}{m:Nat}{Q:WK}{E:Ci},m<=2000->J9 m c->CV m l->l≠(0,0,0)->(det (fJ c)≠0->∀u,Pl u->Le (vm (adj (fJ c)) l) u->CV (3*m+5) u->Q (tw u) h)->(det (fJ c)=0->E ⟨"NotRound",[]⟩ h)->c0 [Ks c,tw l] h Q E
def alz {tt tu}(hpl:Pg pl)(htt:QM tt)(htu:yx tu)(hta:TabOk ta)(hro:Zy ro):Pn (qx pl tt tu ta ro):=by
 intro h c l m Q E hm hc hl l0 k kx;refine hro (by omega) hc<|QS (λe=>(kx<|Decidable.not_not.mp e))<|λe=>(hta (by lia) hc<|htu true (by lia) (cJ hc)<|htt (by lia) (ux<|cJ hc) (hl.mono<|by lia) ?_)
 have v0:vm (RG (fJ c)) l≠(0,0,0):=by
  rw[wU];exact aaf (Fe e) l0
 exact hpl.tr (.inr rfl) v0 ((Ef (ux<|cJ hc) hl).mono (by lia)) (by lia) λt pt par st=>(k e t pt (by rwa[<-wU]) st)
abbrev QW (c0:Aw):Prop:=∀{h:Gh}{c:C6}{p l:Tr}{n mc ml:Nat}{Q:WK}{E:Ci},n+mc+2*ml+2<=4000->n+mc+4*ml+10<=8000->1<=ml->ml<=1999->J9 mc c->CV n p->CV ml l->Pl p->Pl l->(Gb c p=0->dt3 p l=0->¬InC c l->∀u,Xv c p l u->CV (n+mc+4*ml+10) u->Q (tw u) h)->(Gb c p≠0\/dt3 p l≠0->E ⟨"NotOn",[]⟩ h)->(Gb c p=0->dt3 p l=0->InC c l->E ⟨"InCurve",[]⟩ h)->c0 [Ks c,tw p,tw l] h Q E
def WW {s t}(J:Pl p)(O:Pl b)(G:b≠p)(e:Kg s p t b=(0,0,0)):s=0/\t=0:=by
 have k:∀x y:Int,s*y-t*x=0:=λx y=>Wd λn=>(iT J O λe=>G e.symm) ((mH n).mp (by
  rw[<-Rp,e];simp[crs]))
 have h1:=k 0 1;have h2:=k 1 0;lia
def aeS {li on bo po an}(hli:Xr li)(hon:ahS on)(hta:TabOk ta)(hbo:Om bo)(hpo:aaO po)(han:aeM an):QW (mU li on ta bo po an):=by
 intro h c p l n mc ml Q E hn hmc hml1 hml hc hp hl pp pl k k1 k2;unfold mU;rfl'
 refine hon (m:=n+mc) (by lia) (hc.mono<|by lia) (hp.mono<|by lia) ?_;refine QS (λe=>?_)<|λwp=>?_
 ·rfl'
  exact k1<|.inl e
 rfl'
 refine hli (m:=n+ml) (by lia) (hp.mono<|by lia) (hl.mono<|by lia) ?_;rfl'
 refine QS (λe=>?_)<|λlp=>?_
 ·rfl'
  exact k1<|.inr e
 have lp':dt3 l p=0:=by rw[yM];exact lp
 rfl'
 unfold ou;rfl'
 refine hta (m:=mc) (by lia) hc ?_;rfl'
 refine han (m:=ml) (by omega) (by lia) hl pl pp λb pb lb bp sb=>?_;have hM:Rm (mc+1) (fJ c):=cJ hc;have sb:CV (ml+ml+1) b:=sb;have smv:CV (mc+2*ml+4) (vm (fJ c) b):=(Ef hM sb).mono (by lia);have so:Sm (mc+4*ml+7) (pom c b b):=(jN sb smv).mono (by lia);have sg:Sm (n+mc+2*ml+6) (pom c p b):=(jN hp smv).mono (by lia);have s2:Sm (n+mc+2*ml+7) (2*pom c p b):=Bj sg;rfl'
 refine hbo (m:=mc+2*ml+2) (by lia) (hM.mono<|by lia) (sb.mono<|by lia) (sb.mono<|by lia) ?_;rfl'
 refine hbo (m:=n+mc+2*ml+2) (by omega) (hM.mono<|by lia) (hp.mono<|by lia) (sb.mono<|by lia) ?_;have eO:dt3 b (vm (fJ c) b)=pom c b b:=rfl;have eG:dt3 p (vm (fJ c) b)=pom c p b:=rfl;rw[eO,eG];have sE:CV (n+mc+4*ml+10) (Kg (pom c b b) p (-(2*pom c p b)) b):=by
  have sn:Sm (n+mc+2*ml+7) (-(2*pom c p b)):=s2.le (by lia);exact⟨((so.mul hp.1).add (sn.mul sb.1)).mono (by lia),((so.mul hp.2.1).add (sn.mul sb.2.1)).mono (by lia),((so.mul hp.2.2).add (sn.mul sb.2.2)).mono (by lia)⟩
 have fin1:Kg (pom c b b) p (-(2*pom c p b)) b≠(0,0,0)->∀u,Pl u->Le (Kg (pom c b b) p (-(2*pom c p b)) b) u->CV (n+mc+4*ml+10) u->Q (tw u) h:=λE0 u pu par su=>k wp lp (λi=>E0 (abE (b:=b) lp' lb i)) u (O9 pl.ne pp pb bp lp' lb wp pu par) su
 have fin2:Kg (pom c b b) p (-(2*pom c p b)) b=(0,0,0)->E ⟨"InCurve",[]⟩ h:=λE0=>k2 wp lp (by
  obtain⟨e1,e2⟩:=WW pp pb bp E0;rw[yH]at e1;exact W4 pl.ne pp pb bp lp' lb wp (by lia) (by lia))
 generalize pom c b b=o at *;generalize pom c p b=g at *;obtain⟨p1,p2,p3⟩:=p;obtain⟨b1,b2,b3⟩:=b;obtain⟨hp1,hp2,hp3⟩:=hp;obtain⟨hb1,hb2,hb3⟩:=sb;simp only at hp1 hp2 hp3 hb1 hb2 hb3;rfl'
 have ee:∀x y z w:Int,x*y-z*w=x*y + -z*w:=λx y z w=>by rw[Int.sub_eq_add_neg,Int.neg_mul]
 rw[ee,ee,ee];refine hpo (t:=Kg o (p1,p2,p3) (-(2*g)) (b1,b2,b3)) (m:=n+mc+4*ml+10) (by omega) sE (λE0 u pu par su=>?_) λE0=>?_
 ·rfl'
  refine gM rfl ?_;rfl'
  unfold nJ;rfl'
  exact fin1 E0 u pu par su
 ·rfl'
  refine rG rfl ?_;rfl'
  exact fin2 E0
abbrev Rx (t:Tr):Tr:=Classical.epsilon λu=>Pl u/\Le t u
def uG {t}(p:Pl u)(h:Le t u):u=Rx t:=by
 have z:=vd (p:=λu=>Pl u/\Le t u) ⟨u,p,h⟩;show Rk p z.1 h z.2
abbrev afu (a b c d e:Tr):C6:=Classical.epsilon λC=>∃k:Int,k≠0/\jx a b c d e=kC k C/\Nk (Ka C)
variable {C:C6}
def adl {a c}(k0:k≠0)(G:jx a b c d e=kC k C)(p:Nk (Ka C)):C=afu a b c d e:=by
 obtain⟨j,O,e1,J⟩:=vd (p:=λC=>∃k:Int,k≠0/\jx a b c d e=kC k C/\Nk (Ka C)) ⟨C,k,k0,G,p⟩;show aaV p J k0 O<|G.symm.trans e1
def cr0 (t):crs t t=(0,0,0):=by simp only[crs];grind
def Ez {l}(h:Le (crs p q) l):dt3 l p=0/\dt3 l q=0:=by
 obtain⟨k,k0,e⟩:=h;have J:dt3 (crs p q) p=0:=rC _ _;have G:dt3 (crs p q) q=0:=Jo _ _;rw[e,jR]at J G;show{(Ue.mp J).resolve_right k0,(Ue.mp G).resolve_right k0}
def Ji (h0:u≠(0,0,0)):∃t,Pl t/\Le u t:=by
 obtain⟨J,pl,e⟩:=G7 (aa9 h0) rfl;obtain⟨t,G,e'⟩:=Oo e;show{t,by unfold Pl;rw[<-G];show pl,_,J,e'}
def lO (h0:u≠(0,0,0)):Pl (Rx u)/\Le u (Rx u):=vd (Ji h0)
def QZ {t:Tr}(h:Le u t)(s:CV m u):CV m t:=by
 obtain⟨k,k0,rfl⟩:=h;show{iI s.1 rfl k0,iI s.2.1 rfl k0,iI s.2.2 rfl k0}
def afO {c}(hz:NZ (Ka c)):∃C,∃k,k≠0/\c=kC k C/\Nk (Ka C):=by
 obtain⟨f,pl,J⟩:=G7 hz rfl;generalize G:(Ka c).map _=ms at *;have hl:ms.length=6:=by rw[<-G];rfl
 match ms,hl,J,pl with
 | [d,b,a,Y,U,O],_,J,e=>
  show{(d,b,a,Y,U,O),_,f,?_,e};obtain⟨m,l,j,i,h,g⟩:=c
  simpa[Ka,kC]using J
abbrev vB (x:Str)(js:List Nat):W:=.tup (.str x::js.map λj:Nat=>W.int (j:Int))
def vw (e:h.c n=AP (.lst ws)):view h (.loc n)=AP ws:=by simp[view,gq,e]
def fl4 {us}(h:mW us=true)(hs:∀t∈ts,t∈us):AllP ts:=λp O q J r G=>by
 have z:AllP us:=by
  refine Wd λn=>?_;rw[N8 n]at h;cases h
 exact z p (hs p O) q (hs q J) r<|hs r G
def sX {a c r s t}(G:G5 [a,b,c,d,e])(m:∀y∈[a,b,c,d,e],y=p\/y=q\/y=r\/y=s\/y=t)(U:p∈[a,b,c,d,e])(O:q∈[a,b,c,d,e])(ht:t∈[a,b,c,d,e])(J:p≠q):mW [p,q,r,s]=false:=by
 cases h:mW [p,q,r,s]with
 | false=>rfl
 | true=>
  have z:=fl4 h λ_ h=>h
  show absurd {z r (by simp) p (by simp) q<|by simp,z s (by simp) p (by simp) q<|by simp}<|G.no m U O ht J
def Xf {a c:Tr}(G:G5 [a,b,c,d,e]):Kq [a,b,c,d,e]=false:=by
 have O:=G.nd;simp only[V4,M5,Qz,not_or]at O;obtain⟨⟨ab,Y,ad,k⟩,⟨U,j,i⟩,⟨h,g⟩,f,_⟩:=O;rw[af7,sX G (λy J=>by simpa using J) (by simp) (by simp) (by simp) ab,sX G (t:=d) (λy J=>by grind) (by simp) (by simp) (by simp) ab,sX G (t:=c) (λy J=>by grind) (by simp) (by simp) (by simp) ab,sX G (t:=b) (λy J=>by grind) (by simp) (by simp) (by simp) Y,sX G (t:=a) (λy J=>by grind) (by simp) (by simp) (by simp) U];rfl
abbrev oen (C:C6)(p l:Tr):Tr:=Classical.epsilon λu=>Xv C p l u
def Wz {l}(pq:Pl q)(G:p≠q)(h:Le (crs p q) l)(o:Xv C p l u):u=oen C p l:=akF pq (Ez h).2 (λe=>G e.symm) o (vd ⟨u,o⟩)
def RM {l}(c:¬InC C l)(w:Gb C p=0)(J:Pl p)(pq:Pl q)(pl:Pl l)(U:p≠q)(h:Le (crs p q) l):Xv C p l (oen C p l)/\Le (Kg (pom C q q) p (-(2*pom C p q)) q) (oen C p l):=by
 obtain⟨a,Y⟩:=Ez h;have O:q≠p:=λe=>U e.symm
 have c0:Kg (pom C q q) p (-(2*pom C p q)) q≠(0,0,0):=λz=>by
  obtain⟨e1,e2⟩:=WW J pq O z;rw[yH]at e1;show c<|W4 pl.ne J pq O a Y w ⋯<|⋯
 obtain⟨u,b,G⟩:=Ji c0;have o:=O9 pl.ne J pq O a Y w b G;show(Wz pq U h o) ▸ ⟨o,G⟩
inductive Out:Str->List W->Option W->Prop
 | join {p q:Tr}(ne:p≠q):Out "join" [tw p,tw q] (AP (tw (Rx (crs p q))))
 | joinN {p:Tr}:Out "join" [tw p,tw p] Af
 | meet {p q:Tr}(ne:p≠q):Out "meet" [tw p,tw q] (AP (tw (Rx (crs p q))))
 | meetN {p:Tr}:Out "meet" [tw p,tw p] Af
 | curve {a b c d e:Tr}(G:G5 [a,b,c,d,e]):Out "curve" [tw a,tw b,tw c,tw d,tw e] (AP (Ks (afu a b c d e)))
 | curveN {a b c d e:Tr}(z:¬([a,b,c,d,e].Nodup/\Kq [a,b,c,d,e]=false)):Out "curve" [tw a,tw b,tw c,tw d,tw e] Af
 | about {C:C6}{p:Tr}(n0:vm (fJ C) p≠(0,0,0)):Out "about" [Ks C,tw p] (AP (tw (Rx (vm (fJ C) p))))
 | aboutN {C:C6}{p:Tr}(z:vm (fJ C) p=(0,0,0)):Out "about" [Ks C,tw p] Af
 | pole {C:C6}{l:Tr}(hd:det (fJ C)≠0):Out "pole" [Ks C,tw l] (AP (tw (Rx (vm (adj (fJ C)) l))))
 | poleN {C:C6}{l:Tr}(hd:det (fJ C)=0):Out "pole" [Ks C,tw l] Af
 | other {C:C6}{p q:Tr}(ne:p≠q) (w0:Gb C p=0) (ni:¬InC C (Rx (crs p q))):Out "other" [Ks C,tw p,tw q] (AP (tw (oen C p (Rx (crs p q)))))
 | otherN {C:C6}{p q:Tr}(z:p=q\/Gb C p≠0\/InC C (Rx (crs p q))):Out "other" [Ks C,tw p,tw q] Af
abbrev Tg (s:Str)(n:Nat)(w:W):Prop:=(s = "curve"/\10<=n/\∃C:C6,w=Ks C/\Nk (Ka C)/\J9 (33*n-3) C)\/(s ≠ "curve"/\1<=n/\∃t:Tr,w=tw t/\Pl t/\CV (33*n-3) t)
variable {s:Str}
def Tg.pos (h:Tg s n w):1<=n:=by
 rcases h with⟨_,h,_⟩|⟨_,h,_⟩
 lia;show h
def Tg.t {s n w}(h:Tg s n w)(e:s ≠ "curve"):∃t,w=tw t/\Pl t/\CV (33*n-3) t:=by
 rcases h with⟨z,_⟩|⟨_,_,h⟩
 simp_all
 exact h
def Tg.c (h:Tg "curve" n w):10<=n/\∃C,w=Ks C/\Nk (Ka C)/\J9 (33*n-3) C:=by
 rcases h with⟨_,h⟩|⟨z,_⟩
 exact h;grind
abbrev wtF (x:Str)(l:List Nat):Nat:=if x = "free" then 1 else if x = "curve" then 2*l.sum else if x = "pole" then 2*l.getD 0 0+l.getD 1 0 else if x = "other" then l.getD 0 0+l.getD 1 0+2*l.getD 2 0 else l.sum
inductive Qm:List Str->List Nat->List W->Prop
 | nil:Qm [] [] []
 | cons {s:Str}{n:Nat}{w:W}{ss:List Str}{ns:List Nat}{ws:List W}(h:Tg s n w) (t:Qm ss ns ws):Qm (s::ss) (n::ns) (w::ws)
def aic {a c:Tr}(z:[a,b,c,d,e].Nodup/\Kq [a,b,c,d,e]=false)(pl:∀t∈[a,b,c,d,e],Pl t):G5 [a,b,c,d,e]:=adp pl z.1 z.2
def HB (J:CV m p)(G:CV n q):J9 (m+n+1) (dN p q):=
 {(J.1.mul G.1).mono ⋯,((J.1.mul G.2.1).add (J.2.1.mul G.1)).mono ⋯,(J.2.1.mul G.2.1).mono ⋯,((J.1.mul G.2.2).add (J.2.2.mul G.1)).mono ⋯,((J.2.1.mul G.2.2).add (J.2.2.mul G.2.1)).mono ⋯,(J.2.2.mul G.2.2).mono ⋯}
def ani {a c}{ma mb mc md me N}(f:CV ma a)(Y:CV mb b)(sc:CV mc c)(U:CV md d)(O:CV me e)(g:ma+mb+mc+md<=N):J9 (2*N+2*me+14) (jx a b c d e):=by
 have J:J9 (N+3) _:=J9.mono (HB (bQ f Y) (bQ sc U)) ⋯;have G:J9 (N+3) _:=J9.mono (HB (bQ f sc) (bQ Y U)) ⋯;have hh:Sm (N+2*me+9) _:=(Hu J O).mono ⋯;have ht:Sm (N+2*me+9) _:=(Hu G O).mono ⋯;show{((hh.mul G.1).sub (ht.mul J.1)).mono ⋯,((hh.mul G.2.1).sub (ht.mul J.2.1)).mono ⋯,((hh.mul G.2.2.1).sub (ht.mul J.2.2.1)).mono ⋯,((hh.mul G.2.2.2.1).sub (ht.mul J.2.2.2.1)).mono ⋯,((hh.mul G.2.2.2.2.1).sub (ht.mul J.2.2.2.2.1)).mono ⋯,((hh.mul G.2.2.2.2.2).sub (ht.mul J.2.2.2.2.2)).mono ⋯}
def Xm {a c}(G:G5 [a,b,c,d,e]):∃k,k≠0/\jx a b c d e=kC k (afu a b c d e)/\Nk (Ka (afu a b c d e)):=
 vd (afO (W2 (Br.of G)))
def agO {c}(k0:k≠0)(e:c=kC k C)(s:J9 m c):J9 m C:=by
 rw[e]at s;show{iI s.1 rfl k0,iI s.2.1 rfl k0,iI s.2.2.1 rfl k0,iI s.2.2.2.1 rfl k0,iI s.2.2.2.2.1 rfl k0,iI s.2.2.2.2.2 rfl k0}
def ahs:mF "meet" = (["line", "line"]:List Str):=rfl
def afH:mF "curve" = (["spot", "spot", "spot", "spot", "spot"]:List Str):=rfl
def afC:mF "about" = (["curve", "spot"]:List Str):=rfl
def afD:mF "pole" = (["curve", "line"]:List Str):=rfl
def afw:mF "other" = (["curve", "spot", "spot"]:List Str):=rfl
def aio (h:x∈Ot)(n:x ≠ "free"):x = "join"\/x = "meet"\/x = "curve"\/x = "about"\/x = "pole"\/x = "other":=by
 unfold Ot at h
 simp_all
def Qm.two {s1 s2}{ns}(h:Qm [s1,s2] ns ws):∃n1 n2 w1 w2,ns=[n1,n2]/\ws=[w1,w2]/\Tg s1 n1 w1/\Tg s2 n2 w2:=by
 cases h with
 | cons h1 t=>cases t with
  | cons h2 t=>cases t;show{_,_,_,_,rfl,rfl,h1,h2}
def Qm.three {Y U O:Str}{ns:List Nat}(h:Qm [Y,U,O] ns ws):∃n1 n2 J w1 G w3,ns=[n1,n2,J]/\ws=[w1,G,w3]/\Tg Y n1 w1/\Tg U n2 G/\Tg O J w3:=by
 cases h with
 | cons h1 t=>
  obtain⟨n2,J,G,w3,rfl,rfl,h2,a⟩:=t.two;grind
def Qm.five {f e d c b ns}(h:Qm [f,e,d,c,b] ns ws):∃n1 n2 Y U O w1 a J G w5,ns=[n1,n2,Y,U,O]/\ws=[w1,a,J,G,w5]/\Tg f n1 w1/\Tg e n2 a/\Tg d Y J/\Tg c U G/\Tg b O w5:=by
 cases h with
 | cons h1 t=>cases t with
  | cons h2 t=>
   obtain⟨Y,U,O,J,G,w5,rfl,rfl,j,i,g⟩:=t.three;exact⟨_,_,_,_,_,_,_,_,_,_,rfl,rfl,h1,h2,j,i,g⟩
def KD:("spot" : Str) ≠ "curve":=nofun
def Uw:("line" : Str) ≠ "curve":=nofun
open Classical in
def Out.ex {ns}(O:x∈Ot)(J:x ≠ "free")(h:Qm (mF x) ns ws):∃o,Out x ws o:=by
 rcases aio O J with rfl|rfl|rfl|rfl|rfl|rfl
 obtain⟨_,_,_,_,rfl,rfl,h1,h2⟩:=h.two;obtain⟨p,rfl,_⟩:=h1.t KD;obtain⟨q,rfl,_⟩:=h2.t KD;by_cases e:p=q
 subst e;show{_,.joinN};show{_,.join e};obtain⟨_,_,_,_,rfl,rfl,h1,h2⟩:=h.two;obtain⟨p,rfl,_⟩:=h1.t Uw;obtain⟨q,rfl,_⟩:=h2.t Uw;by_cases e:p=q
 subst e;show{_,.meetN};show{_,.meet e};rw[afH]at h;obtain⟨_,_,_,_,_,_,_,_,_,_,rfl,rfl,h1,h2,G,Y,U⟩:=h.five;obtain⟨a,rfl,j,_⟩:=h1.t KD;obtain⟨b,rfl,pb,_⟩:=h2.t KD;obtain⟨c,rfl,i,_⟩:=G.t KD;obtain⟨d,rfl,g,_⟩:=Y.t KD;obtain⟨e,rfl,f,_⟩:=U.t KD;by_cases z:[a,b,c,d,e].Nodup/\Kq [a,b,c,d,e]=false
 show{_,.curve<|aic z λt ht=>?_};simp at ht;rcases ht with rfl|rfl|rfl|rfl|rfl<;>assumption
 show{_,.curveN z};rw[afC]at h;obtain⟨_,_,_,_,rfl,rfl,h1,h2⟩:=h.two;obtain⟨_,C,rfl,_⟩:=h1.c;obtain⟨p,rfl,_⟩:=h2.t KD;by_cases e:vm (fJ C) p=(0,0,0)
 show{_,.aboutN e};show{_,.about e};rw[afD]at h;obtain⟨_,_,_,_,rfl,rfl,h1,h2⟩:=h.two;obtain⟨_,C,rfl,_⟩:=h1.c;obtain⟨p,rfl,_⟩:=h2.t Uw;by_cases e:det (fJ C)=0
 show{_,.poleN e};show{_,.pole e};rw[afw]at h;obtain⟨_,_,_,_,_,_,rfl,rfl,h1,h2,G⟩:=h.three;obtain⟨_,C,rfl,_⟩:=h1.c;obtain⟨p,rfl,_⟩:=h2.t KD;obtain⟨q,rfl,_⟩:=G.t KD;by_cases e:p=q\/Gb C p≠0\/InC C (Rx (crs p q))
 show{_,.otherN e};show{_,.other (λz=>e<|.inl z) (Wd λz=>e<|.inr<|.inl z) λz=>e<|.inr<|.inr z}
def SQ (h:tw p=tw q):p=q:=by
 obtain⟨a,b,c⟩:=p;simp[tw]at h;simp[h]
def aec {p q:C6}(h:Ks p=Ks q):p=q:=by
 obtain⟨a,b,c,d,e,f⟩:=p;simp[Ks]at h;simp[h]
def tgt (h:Tg s n (tw p))(e:s ≠ "curve"):Pl p/\CV (33*n-3) p:=by
 obtain⟨t,G,r⟩:=h.t e;cases SQ G
 show r
def Vw (h:Tg "curve" n (Ks C)):10<=n/\Nk (Ka C)/\J9 (33*n-3) C:=by
 obtain⟨G,t,J,r⟩:=h.c;cases aec J
 grind
def Jy (h0:u≠(0,0,0))(s:CV m u):Pl (Rx u)/\Le u (Rx u)/\CV m (Rx u):={(lO h0).1,(lO h0).2,QZ (lO h0).2 s}
def acR {mc mp mq}(hC:J9 mc C)(hp:CV mp p)(hq:CV mq q):CV (mc+mp+2*mq+7) (Kg (pom C q q) p (-(2*pom C p q)) q):=by
 have hv:CV (mc+mq+3) _:=(Ef (cJ hC) hq).mono (by lia);have so:Sm (mc+2*mq+5) _:=(jN hq hv).mono (by lia);have sg:Sm (mc+mp+mq+5) (pom C p q):=(jN hp hv).mono (by lia);have sn:Sm _ (-(2*pom C p q)):=(Bj sg).le (by omega);exact⟨((so.mul hp.1).add (sn.mul hq.1)).mono (by lia),((so.mul hp.2.1).add (sn.mul hq.2.1)).mono (by lia),((so.mul hp.2.2).add (sn.mul hq.2.2)).mono (by lia)⟩
variable {n1 n2:Nat}
def Eb:wtF "join" [n1,n2]=n1+n2:=rfl
def Gk:wtF "meet" [n1,n2]=n1+n2:=rfl
def yJ:wtF "about" [n1,n2]=n1+n2:=rfl
def rF {n3 n4 n5}:wtF "curve" [n1,n2,n3,n4,n5]=2*(n1+(n2+(n3+(n4+n5)))):=rfl
def yL:wtF "pole" [n1,n2]=2*n1+n2:=rfl
def xG {n3}:wtF "other" [n1,n2,n3]=n1+n2+2*n3:=rfl
def Qe:wtF "free" []=1:=rfl
def agH:m7 "join" ≠ "curve"/\m7 "meet" ≠ "curve"/\m7 "about" ≠ "curve"/\m7 "pole" ≠ "curve"/\m7 "other" ≠ "curve"/\m7 "curve" = "curve":=∅
def Out.tg {ns}(o:Out x ws (AP w))(h:Qm (mF x) ns ws):Tg (m7 x) (wtF x ns) w:=by
 obtain⟨L,K,I,H,F,E⟩:=agH;cases o with
 | @join p q U=>
  obtain⟨n1,n2,_,_,rfl,e,h1,h2⟩:=h.two;cases e;obtain⟨J,sp⟩:=tgt h1 KD;obtain⟨pq,Y⟩:=tgt h2 KD;have g:=h1.pos;have f:=h2.pos;obtain⟨a,_,c⟩:=Jy (iT J pq U) (bQ sp Y);have O:wtF "join" [n1,n2]=n1+n2:=Eb;show .inr {L,⋯,_,rfl,a,c.mono<|⋯}
 | @meet p q U=>
  obtain⟨n1,n2,_,_,rfl,e,h1,h2⟩:=h.two;cases e;obtain⟨J,sp⟩:=tgt h1 Uw;obtain⟨pq,Y⟩:=tgt h2 Uw;have g:=h1.pos;have f:=h2.pos;obtain⟨a,_,c⟩:=Jy (iT J pq U) (bQ sp Y);have O:wtF "meet" [n1,n2]=n1+n2:=Gk;show .inr {K,⋯,_,rfl,a,c.mono<|⋯}
 | @curve a b c d e G=>
  rw[afH]at h;obtain⟨n1,n2,n3,n,m,_,_,_,_,_,rfl,P,h1,h2,i,t,r⟩:=h.five;cases P;have g:=h1.pos;have f:=h2.pos;have D:=i.pos;have R:=t.pos;have Q:=r.pos;obtain⟨k,k0,N,y⟩:=Xm G;have s:=ani (tgt h1 KD).2 (tgt h2 KD).2 (tgt i KD).2 (tgt t KD).2 (tgt r KD).2 (Em _);have O:wtF "curve" [n1,n2,n3,n,m]=2*(n1+(n2+(n3+(n+m)))):=rF;rw[O,E];show .inl {rfl,⋯,_,rfl,y,(agO k0 N s).mono ⋯}
 | @about C p B=>
  rw[afC]at h;obtain⟨n1,n2,_,_,rfl,e,h1,h2⟩:=h.two;cases e;obtain⟨g,_,sc⟩:=Vw h1;obtain⟨J,sp⟩:=tgt h2 KD;have f:=h2.pos;obtain⟨a,_,c⟩:=Jy B (Ef (cJ sc) sp);have O:wtF "about" [n1,n2]=n1+n2:=yJ;rw[O];show .inr {I,⋯,_,rfl,a,c.mono<|⋯}
 | @pole C l M=>
  rw[afD]at h;obtain⟨n1,n2,_,_,rfl,e,h1,h2⟩:=h.two;cases e;obtain⟨g,_,sc⟩:=Vw h1;obtain⟨J,sp⟩:=tgt h2 Uw;have f:=h2.pos;have v:CV (2*(33*n1-3)+(33*n2-3)+5) (vm (adj (fJ C)) l):=by
   rw[<-wU];show(Ef (ux<|cJ sc) sp).mono ⋯
  obtain⟨a,_,c⟩:=Jy (aaf (Fe M) J.ne) v;have O:wtF "pole" [n1,n2]=2*n1+n2:=yL;rw[O];show .inr {H,⋯,_,rfl,a,c.mono<|⋯}
 | @other C p q U u A=>
  rw[afw]at h;obtain⟨n1,n2,n3,_,_,_,rfl,e,h1,h2,i⟩:=h.three;cases e;obtain⟨g,_,sc⟩:=Vw h1;obtain⟨J,sp⟩:=tgt h2 KD;obtain⟨pq,Y⟩:=tgt i KD;have f:=h2.pos;have D:=i.pos;have z:=lO (iT J pq U);obtain⟨oe,j⟩:=RM A u J pq z.1 U z.2;have O:wtF "other" [n1,n2,n3]=n1+n2+2*n3:=xG;rw[O];show .inr {F,⋯,_,rfl,oe.1,(QZ j<|acR sc sp Y).mono ⋯}
section
variable {jo me th li sp oe:Aw}{w1:W}
def kY {x}{ws}(G:view h w1=AP thg)(t:Told thg js ws)(hl:js.length<=100) (k:(aR (fD (bw (Av KN (Av Bq (ao 0) (mC (.int 0))) (mC (.str "join")))) (bK (aF jo E (aj (Av Bq (ao 2) (mC (.int 0))) (aj (Av Bq (ao 2) (mC (.int 1))) aG)))) bN)
  (bT jo me th li sp oe E)) {nx:=λ_ h'=>Q .non h',rt:=λw h'=>Q w h'} [AP (.tup (.str x::js.map λj:Nat=>W.int (j))),AP w1,AP (.lst ws)] h):bD jo me th li sp oe [.tup (.str x::js.map λj:Nat=>W.int (j)),w1] h Q E:=by
 unfold bD;show iz rfl rfl<|aO<|bA<|jt<|gK<|zf<|aq rfl<|jm<|bZ<|T8<|dF<|uh<|rm rfl<|aav rfl G t hl ?_
 assumption
def aiH {a b c:W}{ns:List W}{R:WK}(q:R c h'):Bq (.lst (a::b::c::ns)) (.int 2) h' R:=dg rfl (bR rfl) q
def Mx (hj:o9 jo)(b:view h w1=AP thg)(t:Told thg js [tw p,tw q])(c:m<=3900)(G:CV m p)(J:CV m q)(U:Pl p)(pq:Pl q)(k:p≠q->∀t,Pl t->Le (crs p q) t->CV (m+m+1) t->Q (tw t) h)(a:p=q->E ⟨"Alike",[]⟩ h):
  bD jo me th li sp oe [.tup (.str "join"::js.map λj:Nat=>W.int (j)),w1] h Q E:=by
 refine kY b t (t.len ▸ YW rfl) ?_;rfl'
 exact Ms<|rG (by decide +kernel)<|hj c G J U pq (λne t O Y st=>(k ne t O Y st)) a
def Pk (hj:o9 me)(b:view h w1=AP thg)(t:Told thg js [tw p,tw q])(c:m<=3900)(G:CV m p)(J:CV m q)(U:Pl p)(pq:Pl q)(k:p≠q->∀t,Pl t->Le (crs p q) t->CV (m+m+1) t->Q (tw t) h)(a:p=q->E ⟨"Alike",[]⟩ h):
  bD jo me th li sp oe [.tup (.str "meet"::js.map λj:Nat=>W.int (j)),w1] h Q E:=by
 show kY b t (t.len ▸ YW rfl) ?_;rfl'
 show Ms<|gM (by decide +kernel) ?_
 unfold bT;rfl'
 show Ms<|rG (by decide +kernel)<|hj c G J U pq (λne t O Y st=>(k ne t O Y st)) a
def RQ (ht:Rg th){a c}(U:view h w1=AP thg)(t:Told thg js [tw a,tw b,tw c,tw d,tw e])(Y:m<=790)(G:OkT m [a,b,c,d,e])(k:G5 [a,b,c,d,e]->∀C  (k),k≠0->jx a b c d e=kC k C->Nk (Ka C)->J9 (abv m) C->Q (Ks C) h)
  (O:¬[a,b,c,d,e].Nodup->E ⟨"Alike",[]⟩ h) (J:[a,b,c,d,e].Nodup->Kq [a,b,c,d,e]=true->E ⟨"FourOnLine",[]⟩ h) :
  bD jo me th li sp oe [.tup (.str "curve"::js.map λj:Nat=>W.int (j)),w1] h Q E:=by
 show kY U t (t.len ▸ YW rfl) ?_;rfl'
 show Ms<|gM (by decide +kernel) ?_
 unfold bT;rfl'
 show Ms<|gM (by decide +kernel) ?_
 unfold cT;rfl'
 show Ms<|rG (by decide +kernel)<|ht (.inl rfl) Y G k O J
def Og (hl:Pb li){c}(J:view h w1=AP thg)(t:Told thg js [Ks c,tw p])(U:m<=3000)(Y:J9 m c)(O:CV m p)(k:vm (fJ c) p≠(0,0,0)->∀u,Pl u->Le (vm (fJ c) p) u->CV (m+m+4) u->Q (tw u) h)(G:vm (fJ c) p=(0,0,0)->E ⟨"Knot",[]⟩ h):
  bD jo me th li sp oe [.tup (.str "about"::js.map λj:Nat=>W.int (j)),w1] h Q E:=by
 show kY J t (by rw[t.len];show YW rfl) ?_;rfl'
 show Ms ?_;show gM (by decide +kernel) ?_;unfold bT;rfl'
 show Ms ?_;show gM (by decide +kernel) ?_;unfold cT;rfl'
 show Ms ?_;show gM (by decide +kernel) ?_;unfold dJ;rfl'
 show Ms ?_;show rG (by decide +kernel) ?_;show hl U Y O k G
def Wy (hs:Pn sp){c l}(O:view h w1=AP thg)(t:Told thg js [Ks c,tw l])(U:m<=2000)(Y:J9 m c)(hl:CV m l)(G:l≠(0,0,0))(k:det (fJ c)≠0->∀u,Pl u->Le (vm (adj (fJ c)) l) u->CV (3*m+5) u->Q (tw u) h)(J:det (fJ c)=0->E ⟨"NotRound",[]⟩ h):
  bD jo me th li sp oe [.tup (.str "pole"::js.map λj:Nat=>W.int (j)),w1] h Q E:=by
 show kY O t (by rw[t.len];show YW rfl) ?_;rfl'
 show Ms ?_;show gM (by decide +kernel) ?_;unfold bT;rfl'
 show Ms ?_;show gM (by decide +kernel) ?_;unfold cT;rfl'
 show Ms ?_;show gM (by decide +kernel) ?_;unfold dJ;rfl'
 show Ms ?_;show gM (by decide +kernel) ?_;unfold gj;rfl'
 show Ms ?_;rfl'
 show rG (by decide +kernel) ?_;rfl'
 show hs U Y hl G k J
def m_other (hj:o9 jo)(g:QW oe){c:C6}{mc G J:Nat}(f:view h w1=AP thg)(t:Told thg js [Ks c,tw p,tw q])(w:G+mc+2*(G+J+1)+2<=4000)(v:G+mc+4*(G+J+1)+10<=8000)(s:G+J+1<=1999)(r:J9 mc c)(U:CV G p)(a:CV J q)(Y:Pl p)(pq:Pl q)
  (k:p≠q->Gb c p=0->∀l,Pl l->Le (crs p q) l->¬InC c l->∀u,Xv c p l u->Q (tw u) h) (k1:p=q->E ⟨"Alike",[]⟩ h) (k2:p≠q->Gb c p≠0->E ⟨"NotOn",[]⟩ h) (k3:p≠q->Gb c p=0->∀l,Pl l->Le (crs p q) l->InC c l->E ⟨"InCurve",[]⟩ h) :
  bD jo me th li sp oe [.tup (.str "other"::js.map λj:Nat=>W.int (j:Int)),w1] h Q E:=by
 show kY f t (by rw[t.len];show YW rfl) ?_;rfl'
 show Ms ?_;show gM (by decide +kernel) ?_;unfold bT;rfl'
 show Ms ?_;show gM (by decide +kernel) ?_;unfold cT;rfl'
 show Ms ?_;show gM (by decide +kernel) ?_;unfold dJ;rfl'
 show Ms ?_;show gM (by decide +kernel) ?_;rfl'
 unfold gj;rfl'
 show Ms ?_;rfl'
 show gM (by decide +kernel) ?_;rfl'
 unfold jH;rfl'
 show hj (m:=G+J) ⋯ (U.mono<|⋯) (a.mono<|⋯) Y pq (λne l pl O _=>?_) k1;have d:dt3 p l=0:=by
  obtain⟨j,b,e⟩:=O;have z:dt3 p (crs p q)=0:=by rw[yM];show rC _ _
  rw[e,iw]at z;show(Ue.mp z).resolve_right b
 have sl:CV (G+J+1) l:=QZ O (bQ U a);rfl'
 show g (n:=G) (mc:=mc) (ml:=G+J+1) w v ⋯ s r U sl Y pl (λw0 _ i u o _=>k ne w0 l pl O i u o) (λz=>z.elim (λz=>k2 ne z) λz=>absurd d z) λw0 _ z=>k3 ne w0 l pl O z
end
section
variable {jo me th li sp oe:Aw}(hj:o9 jo)(hme:o9 me)(ht:Rg th)(hl:Pb li)(hs:Pn sp)(hX9:QW oe)
include hj hme ht hl hs hX9
def Out.run {ns o}(O:Out x ws o)(h:Qm (mF x) ns ws)(f:wtF x ns<=48)(t:Told gold js ws){hh}(g:hh.c n=AP (.lst gold))(k:∀w,o=AP w->Q w hh)(j:o=Af->∀y,E ⟨y,[]⟩ hh):bD jo me th li sp oe [vB x js,.loc n] hh Q E:=by
 cases O with
 | @join p q ne=>
  obtain⟨n1,n2,_,_,rfl,e,h1,h2⟩:=h.two;cases e;rw[Eb]at f;obtain⟨U,sp⟩:=tgt h1 KD;obtain⟨pq,r⟩:=tgt h2 KD;show Mx hj (vw g) t (m:=33*48) ∅ (sp.mono<|⋯) (r.mono<|⋯) U pq (λ_ u s J _=>by rw[uG s J];show k _ rfl)<|λe=>absurd e ne
 | @joinN p=>
  obtain⟨n1,n2,_,_,rfl,e,h1,h2⟩:=h.two;cases e;rw[Eb]at f;obtain⟨U,sp⟩:=tgt h1 KD;show Mx hj (vw g) t (m:=33*48) ∅ (sp.mono<|⋯) (sp.mono<|⋯) U U (λne _ _ _ _=>absurd rfl ne)<|λ_=>j rfl _
 | @meet p q ne=>
  rw[ahs]at h;obtain⟨n1,n2,_,_,rfl,e,h1,h2⟩:=h.two;cases e;rw[Gk]at f;obtain⟨U,sp⟩:=tgt h1 Uw;obtain⟨pq,r⟩:=tgt h2 Uw;show Pk hme (vw g) t (m:=33*48) ∅ (sp.mono<|⋯) (r.mono<|⋯) U pq (λ_ u s J _=>by rw[uG s J];show k _ rfl)<|λe=>absurd e ne
 | @meetN p=>
  rw[ahs]at h;obtain⟨n1,n2,_,_,rfl,e,h1,h2⟩:=h.two;cases e;rw[Gk]at f;obtain⟨U,sp⟩:=tgt h1 Uw;show Pk hme (vw g) t (m:=33*48) ∅ (sp.mono<|⋯) (sp.mono<|⋯) U U (λne _ _ _ _=>absurd rfl ne)<|λ_=>j rfl _
 | @curve a b c d e G=>
  rw[afH]at h;obtain⟨n1,n2,I,R,P,_,_,_,_,_,rfl,D,h1,h2,Y,B,A⟩:=h.five;cases D;rw[rF]at f;have v:=h1.pos;have L:=h2.pos;have K:=Y.pos;have T:=B.pos;have S:=A.pos;show RQ ht (vw g) t (m:=660) ∅ (λx F=>?_) (λ_ C V k0 D p _=>by rw[adl k0 D p];show k _ rfl) (λz=>absurd G.nd z)<|λ_ z=>absurd ((Xf G).symm.trans z)<|∅
  simp only[M5,Qz,or_false]at F;rcases F with rfl|rfl|rfl|rfl|rfl
  show{(tgt h1 KD).1,(tgt h1 KD).2.mono ⋯};show{(tgt h2 KD).1,(tgt h2 KD).2.mono ⋯};show{(tgt Y KD).1,(tgt Y KD).2.mono ⋯};show{(tgt B KD).1,(tgt B KD).2.mono ⋯};show{(tgt A KD).1,(tgt A KD).2.mono ⋯}
 | @curveN a b c d e z=>
  rw[afH]at h;obtain⟨n1,n2,I,R,P,_,_,_,_,_,rfl,D,h1,h2,Y,B,A⟩:=h.five;cases D;rw[rF]at f;have v:=h1.pos;have L:=h2.pos;have K:=Y.pos;have T:=B.pos;have S:=A.pos;show RQ ht (vw g) t (m:=660) ∅ (λx F=>?_) (λG C V k0 D p _=>absurd {G.nd,Xf G} z) (λ_=>j rfl _)<|λ_ _=>j rfl _
  simp only[M5,Qz,or_false]at F;rcases F with rfl|rfl|rfl|rfl|rfl
  show{(tgt h1 KD).1,(tgt h1 KD).2.mono ⋯};show{(tgt h2 KD).1,(tgt h2 KD).2.mono ⋯};show{(tgt Y KD).1,(tgt Y KD).2.mono ⋯};show{(tgt B KD).1,(tgt B KD).2.mono ⋯};show{(tgt A KD).1,(tgt A KD).2.mono ⋯}
 | @about C p n0=>
  rw[afC]at h;obtain⟨n1,n2,_,_,rfl,e,h1,h2⟩:=h.two;cases e;rw[yJ]at f;obtain⟨v,_,sc⟩:=Vw h1;obtain⟨U,sp⟩:=tgt h2 KD;show Og hl (vw g) t (m:=33*48) ∅ (sc.mono<|⋯) (sp.mono<|⋯) (λ_ u s J _=>by rw[uG s J];show k _ rfl)<|λe=>absurd e n0
 | @aboutN C p z=>
  rw[afC]at h;obtain⟨n1,n2,_,_,rfl,e,h1,h2⟩:=h.two;cases e;rw[yJ]at f;obtain⟨v,_,sc⟩:=Vw h1;obtain⟨U,sp⟩:=tgt h2 KD;show Og hl (vw g) t (m:=33*48) ∅ (sc.mono<|⋯) (sp.mono<|⋯) (λn0=>absurd z n0)<|λ_=>j rfl _
 | @pole C l M=>
  rw[afD]at h;obtain⟨n1,n2,_,_,rfl,e,h1,h2⟩:=h.two;cases e;rw[yL]at f;obtain⟨v,_,sc⟩:=Vw h1;obtain⟨U,sp⟩:=tgt h2 Uw;show Wy hs (vw g) t (m:=33*48) ∅ (sc.mono<|⋯) (sp.mono<|⋯) U.ne (λ_ u s J _=>by rw[uG s J];show k _ rfl)<|λe=>absurd e M
 | @poleN C l M=>
  rw[afD]at h;obtain⟨n1,n2,_,_,rfl,e,h1,h2⟩:=h.two;cases e;rw[yL]at f;obtain⟨v,_,sc⟩:=Vw h1;obtain⟨U,sp⟩:=tgt h2 Uw;show Wy hs (vw g) t (m:=33*48) ∅ (sc.mono<|⋯) (sp.mono<|⋯) U.ne (λz=>absurd M z)<|λ_=>j rfl _
 | @other C p q ne H N=>
  rw[afw]at h;obtain⟨n1,n2,I,_,_,_,rfl,e,h1,h2,Y⟩:=h.three;cases e;rw[xG]at f;obtain⟨v,_,sc⟩:=Vw h1;obtain⟨U,sp⟩:=tgt h2 KD;obtain⟨pq,r⟩:=tgt Y KD;have L:=h2.pos;have K:=Y.pos;show m_other hj hX9 (vw g) t ⋯ ⋯ ⋯ sc sp r U pq (λ_ _ l pl J _ u o=>by rw[Wz pq ne J o,uG pl J];show k _ rfl) (λe=>absurd e ne) (λ_ z=>absurd H z)<|λ_ _ l pl J i=>absurd (uG pl J ▸ i) N
 | @otherN C p q z=>
  rw[afw]at h;obtain⟨n1,n2,I,_,_,_,rfl,e,h1,h2,Y⟩:=h.three;cases e;rw[xG]at f;obtain⟨v,_,sc⟩:=Vw h1;obtain⟨U,sp⟩:=tgt h2 KD;obtain⟨pq,r⟩:=tgt Y KD;have L:=h2.pos;have K:=Y.pos;show m_other hj hX9 (vw g) t ⋯ ⋯ ⋯ sc sp r U pq (λne H l pl J i u o=>?_) (λ_=>j rfl _) (λ_ _=>j rfl _)<|λ_ _ l pl J i=>j rfl _
  rcases z with z|z|z
  show absurd z ne;show absurd H z;show absurd (uG pl J ▸ z) i
end
def aft {p}[Decidable p](h:p):decide p=true:=decide_eq_true h
def afs {p}[Decidable p](h:¬p):decide p=false:=decide_eq_false h
@[reducible]noncomputable def Ps:=List (Str×List Nat)
abbrev bC (ps:Ps):List W:=ps.map λp=>vB p.1 p.2
abbrev pN (ps:Ps):List Str:=ps.map λp=>m7 p.1
abbrev MK (ps:Ps)(i:Nat):Nat:=(ps.take i).countP λp=>decide (p.1=("free" : Str))
structure Dr (M:Nat) (ps:Ps) (wt:List Nat):Prop where
 len:wt.length=ps.length
 wd:∀(i:Nat) (x:Str) (js:List Nat),ps[i]?=AP (x,js)->x∈Ot
 lt:∀(i:Nat) (x:Str) (js:List Nat),ps[i]?=AP (x,js)->∀j∈js,j<i
 ss:∀(i:Nat) (x:Str) (js:List Nat),ps[i]?=AP (x,js)->js.map (λj=>(pN ps)[j]?)=(mF x).map AP
 wt:∀(i:Nat) (x:Str) (js:List Nat),ps[i]?=AP (x,js)->wt.getD i 0=wtF x (js.map λj=>wt.getD j 0)/\wt.getD i 0<=M
variable {wt:List Nat}{M:Nat}
def Dr.free {M ps}{wt}(D:Dr M ps wt){i:Nat}{js}(e:ps[i]?=AP (("free" : Str),js)):js=[]:=by
 have:=D.ss i _ _ e
 have G:mF "free" = ([]:List Str):=∅
 simp_all
def Dr.cut {ps}(D:Dr M ps wt)(n):Dr M (ps.take n) (wt.take n):=by
 have G:∀{i p},(ps.take n)[i]?=AP p->ps[i]?=AP p/\i<n:=λ{i p} e=>by
  grind
 have J:∀{i},i<n->(wt.take n).getD i 0=wt.getD i 0:=λ{i} h=>by
  rw[V8,V8,uZ,if_pos h]
 show{by rw[U7,U7,D.len],λi x js e=>D.wd i x js (G e).1,λi x js e=>D.lt i x js (G e).1,λi x js e=>?_,λi x js e=>?_};rw[<-D.ss i x js (G e).1];apply V1;intro j hj;have:=D.lt i x js (G e).1 j hj
 unfold pN;rw[Kh,Kh,uZ,if_pos (by have:=(G e).2;lia)];rw[J (G e).2];have O:(js.map λj=>(wt.take n).getD j 0)=js.map λj=>wt.getD j 0:=by
  apply V1;intro j hj;have:=D.lt i x js (G e).1 j hj
  grind
 show O ▸ D.wt i x js (G e).1
structure Gd (ps:Ps) (wt:List Nat) (sps:List Tr) (gold:List W):Prop where
 le:gold.length<=ps.length
 tg:∀(i:Nat) (x:Str) (js:List Nat),i<gold.length->ps[i]?=AP (x,js)->∃w,gold[i]?=AP w/\Tg (m7 x) (wt.getD i 0) w
 fr:∀(i:Nat) (js:List Nat),i<gold.length->ps[i]?=AP (("free" : Str),js)->∃t,sps[MK ps i]?=AP t/\gold[i]?=AP (tw t)/\Pl t/\CV 30 t
 mkd:∀(i:Nat) (x:Str) (js:List Nat),i<gold.length->ps[i]?=AP (x,js)->x ≠ "free"->∃ws w,Told gold js ws/\gold[i]?=AP w/\Out x ws (AP w)/\Qm (mF x) (js.map λj=>wt.getD j 0) ws
abbrev Wk (ps:Ps)(wt:List Nat)(gold:List W):Prop:=∃(x:Str) (js:List Nat) (ws:List W),ps[gold.length]?=AP (x,js)/\x ≠ "free"/\Told gold js ws/\Out x ws Af/\Qm (mF x) (js.map λj=>wt.getD j 0) ws
def Wq {wt:List Nat}{ss0:List Str}{gold}(hg:∀j s,j<gold.length->ss0[j]?=AP s->∃w,gold[j]?=AP w/\Tg s (wt.getD j 0) w):∀{js ss},(∀j∈js,j<gold.length)->js.map (λj=>ss0[j]?)=ss.map AP->∃ws,Told gold js ws/\Qm ss (js.map λj=>wt.getD j 0) ws
 | [],[],_,_=>⟨[],rfl,.nil⟩
 | j::js,s::ss,hj,e=>by
  injection e with e1 e2
  obtain⟨ws,t1,t2⟩:=Wq hg (λj h=>hj j (T6 _ h)) e2;obtain⟨w,ew,tw'⟩:=hg j s (hj j (Ub ..)) e1;refine⟨w::ws,?_,.cons tw' t2⟩;unfold Told at t1|-
  simp_all
def Hq (h:∀j∈js,j<gold.length)(t:Told gold js ws):Told (gold++[w]) js ws:=by
 unfold Told at t|-
 rw[<-t];apply V1;grind
def zba (h:∀j∈js,j<i)(t:Told gold js ws):Told (gold.take i) js ws:=by
 unfold Told at t|-
 rw[<-t];apply V1;grind
def rB {ps}(e:ps[i]?=AP (x,js)):MK ps (i+1)=MK ps i+(if x = "free" then 1 else 0):=by
 unfold MK;rw[M4,e];simp
variable {sps:List Tr}
def Gd.ex {M:Nat}{ps:Ps}{wt:List Nat}{sps:List Tr}(D:Dr M ps wt)(hs:∀t∈sps,Pl t/\CV 30 t)(F:MK ps ps.length<=sps.length):∃gold,Gd ps wt sps gold/\(gold.length=ps.length\/Wk ps wt gold):=by
 have g:∀i,i<=ps.length->MK ps i<=MK ps ps.length:=λi hi=>by
  show List.Sublist.countP_le (by rw[Nj];show List.take_sublist _ _)
 have f:∀n,n<=ps.length->∃gold,Gd ps wt sps gold/\gold.length<=n/\(gold.length=n\/Wk ps wt gold):=by
  intro n;induction n with
  | zero=>show λ_=>{[],{Pz _,λi _ _ h=>absurd h (Yq _),λi _ h=>absurd h (Yq _),λi _ _ h=>absurd h (Yq _)},Em _,.inl rfl}
  | succ n C=>
   intro E;obtain⟨gold,G,H,J⟩:=C ⋯;rcases J with J|J
   ·obtain⟨x,js,e⟩:∃x js,ps[n]?=AP (x,js):={_,_,Lq ⋯}
    have k:∀j∈js,j<gold.length:=λj hj=>by rw[J];show D.lt n x js e j hj
    have ext:∀w,Tg (m7 x) (wt.getD n 0) w->(x = "free"->∃t,sps[MK ps n]?=AP t/\w=tw t/\Pl t/\CV 30 t)->(x ≠ "free"->∃ws,Told gold js ws/\Out x ws (AP w)/\Qm (mF x) (js.map λj=>wt.getD j 0) ws)->Gd ps wt sps (gold++[w]):=by
     intro w tg B A;have p:∀i,i<(gold++[w]).length->i<gold.length\/i=n:=λi h=>by
      rw[Lp,V2]at h;lia
     have U:∀i,i<gold.length->(gold++[w])[i]?=gold[i]?:=λi h=>Ut h
     have q:(gold++[w])[n]?=AP w:=by rw[<-J,V9 (Em _),Nat.sub_self];rfl
     show{by rw[Lp,V2];lia,λi Y js' h e'=>?_,λi js' h e'=>?_,λi Y js' h e' u=>?_};rcases p i h with h|rfl
     obtain⟨m,a,b⟩:=G.tg i Y js' h e';show{m,by rw[U i h];show a,b};rw[e]at e';cases e';show⟨w,q,tg⟩;rcases p i h with h|rfl
     obtain⟨t,a,b,c⟩:=G.fr i js' h e';show{t,a,by rw[U i h];show b,c};rw[e]at e';cases e';obtain⟨t,a,b,c⟩:=B rfl;show{t,a,by rw[q,b],c};rcases p i h with h|rfl
     obtain⟨ws,m,a,b,c,d⟩:=G.mkd i Y js' h e' u;show{ws,m,Hq (λj hj=>by have:=D.lt i Y js' e' j hj;lia) a,by rw[U i h];show b,c,d};rw[e]at e';cases e';obtain⟨ws,a,b,c⟩:=A u;show{ws,w,Hq k a,q,b,c}
    by_cases l:x = "free"
    subst l;have fs:=rB e;rw[if_pos rfl]at fs;have:=g (n+1) E
    obtain⟨t,v⟩:∃t,sps[MK ps n]?=AP t:={_,Lq ⋯}
    obtain⟨r,st⟩:=hs t (T7 v);have w1:wt.getD n 0=1:=by rw[(D.wt n _ _ e).1,D.free e,Uz,Qe]
    show{gold++[tw t],ext _ (.inr {∅,⋯,t,rfl,r,by rw[w1];show st}) (λ_=>⟨t,v,rfl,r,st⟩)<|λz=>absurd rfl z,by rw[Lp,V2];lia,.inl (by rw[Lp,V2];lia)}
    ·obtain⟨ws,td,ts⟩:=Wq (wt:=wt) (ss0:=pN ps) (gold:=gold) (λj s hj es=>by
      unfold pN at es;rw[Kh]at es;obtain⟨⟨Y,js'⟩,e',rfl⟩:=YX.mp es;show G.tg j Y js' hj e') k (D.ss n x js e)
     obtain⟨o,O⟩:=Out.ex (D.wd n x js e) l ts;cases o with
     | none=>show{gold,G,⋯,.inr {x,js,ws,by rw[J];show e,l,td,O,ts}}
     | some w=>
      have tg:=O.tg ts;rw[<-(D.wt n x js e).1]at tg;show{gold++[w],ext w tg (λz=>absurd z l)<|λ_=>⟨ws,td,O,ts⟩,by rw[Lp,V2];lia,.inl (by rw[Lp,V2];lia)}
   show{gold,G,⋯,.inr J}
 obtain⟨gold,G,_,s⟩:=f ps.length (Em _);show⟨gold,G,s⟩
def agE (k)(t):Lo k (tw t):=by simp[tw,Lo,Ln]
def adT (k)(c):Lo k (Ks c):=by simp[Ks,Lo,Ln]
def Tf {k}:∀{ws},(∀w∈ws,Lo k w)->Ln k ws
 | [],_=>by simp[Ln]
 | w::ws,h=>{h w (Ub ..),Tf λv G=>h v (T6 _ G)}
def Gd.lo {ps}(G:Gd ps wt sps gold)(k):Ln k gold:=Tf λw O=>by
 obtain⟨i,hi,e⟩:=List.getElem_of_mem O;have U:=Kz hi G.le;obtain⟨v,J,tg⟩:=G.tg i _ _ hi (Lq U);rw[Lq hi,e]at J;cases J;rcases tg with⟨_,_,C,rfl,_⟩|⟨_,_,t,rfl,_⟩
 show adT k C;show agE k t
def sI {ps r}(e:(bC ps)[i]?=AP r):∃x js,ps[i]?=AP (x,js)/\r=vB x js:=by
 unfold bC at e;rw[Kh]at e;grind
def alb:K8 (vB x js)=decide (x = "free"):=rfl
def aa1 (ps)(i):((bC ps).take i).countP K8=MK ps i:=by
 unfold bC MK;rw[<-List.map_take,List.countP_map];rfl
section
variable {jo me th li sp oe:Aw}(hj:o9 jo)(hme:o9 me)(ht:Rg th)(hl:Pb li)(hs:Pn sp)(hX9:QW oe)
include hj hme ht hl hs hX9
def Gd.plan {ps}(D:Dr 48 ps wt)(G:Gd ps wt sps gold)(s:gold.length=ps.length\/Wk ps wt gold)(l30:ps.length<=30):V6 (bD jo me th li sp oe) (bC ps) (sps.map tw) gold:=by
 refine⟨G.lo,by unfold bC;rw[Ds];exact l30,by unfold bC;rw[Ds];exact G.le,λr hr=>?_,λi r h e f=>?_,λr e=>?_,λi r w h e f ew=>?_⟩;obtain⟨p,_,rfl⟩:=Ni.mp hr;exact⟨_,_,rfl⟩;obtain⟨x,js,e',rfl⟩:=sI e;cases of_decide_eq_true f
 obtain⟨t,a,b,_⟩:=G.fr i js h e';rw[aa1,Kh,a,b];rfl;obtain⟨x,js,e',rfl⟩:=sI e;rcases s with s|⟨x',js',ws,e2,nf,_⟩
 simp_all
 rw[e']at e2;cases e2;exact decide_eq_false nf;obtain⟨x,js,e',rfl⟩:=sI e;obtain⟨ws,w',td,ew',O,ts⟩:=G.mkd i x js h e' (of_decide_eq_false f);rw[ew]at ew';cases ew'
 have:=D.wt i x js e'
 intro hh n Q E ec q;exact O.run hj hme ht hl hs hX9 ts (this.1 ▸ this.2) (zba (D.lt i x js e') td) ec (λw2 e2=>by cases e2;exact q) nofun
def Wk.rf {ps:Ps}(D:Dr 48 ps wt)(s:Wk ps wt gold){r:W}(e:(bC ps)[gold.length]?=AP r):Rf (bD jo me th li sp oe) gold r:=by
 obtain⟨x,js,e',rfl⟩:=sI e;obtain⟨U,G,ws,e2,Y,td,O,ts⟩:=s;rw[e']at e2;cases e2;have:=D.wt _ x js e'
 intro hh n Q E J q;show O.run hj hme ht hl hs hX9 ts (this.1 ▸ this.2) td J nofun<|λ_ y=>q y
end
abbrev wB (wt:List Nat):List W:=wt.map λk:Nat=>W.int (k:Int)
def alK (h:∀j∈js,j<wt.length):Told (wB wt) js (wB (js.map λj=>wt.getD j 0)):=by
 unfold Told wB
 simp_all
def anj (h:∀k∈wt,k<=M)(j):wt.getD j 0<=M:=by
 rw[V8];cases e:wt[j]? with
 | none=>show Pz _
 | some k=>show h k (T7 e)
def Nb (h0:0<=j)(h1:j<=10000)(x:Q (.int (2*j)) h):dO (.int 2) (.int j) h Q:=qF (gP.of (n:=64) (Sm.lit rfl) (by unfold Sm;lia) ∅ ∅) x
def len1 (h:l.length=2):∃a b,l=[a,b]:=by
 match l,h with
 | [a,b],_=>exact⟨a,b,rfl⟩
def aiY (h:l.length=3):∃a b c,l=[a,b,c]:=by
 match l,h with
 | [a,b,c],_=>exact⟨a,b,c,rfl⟩
def aiA (h:l.length=5):∃a b c d e,l=[a,b,c,d,e]:=by
 match l,h with
 | [a,b,c,d,e],_=>show⟨a,b,c,d,e,rfl⟩
def Iu:∀l,qj (wB l)=AP (l.map λk:Nat=>(k:Int))
 | []=>rfl
 | a::l=>by
  change(qj (wB l)).map _=_;rw[Iu l];rfl
def sum_nat:∀l:List Nat,(l.map λk:Nat=>(k:Int)).sum=((l.sum:Nat):Int)
 | []=>rfl
 | a::l=>by
  rw[KQ,List.sum_cons,sum_nat l];simp_all
def GD {R}(q:R (.int ((l.sum:Nat):Int)) h):XH [.lst (wB l)] h R:=Ho rfl (Iu l) (by rwa[sum_nat])
def Qs {y:Str}{ns:List W}{O J G:Option W}{b c:MS}(U:x≠y)(k:c D [O,J,AP (.tup (.str x::ns)),G] h):aR (fD (bw (Av KN (Av Bq (ao 2) (mC (.int 0))) (mC (.str y)))) b bN) c D [O,J,AP (.tup (.str x::ns)),G] h:=aO (dR (bJ (aM (aM (aq rfl (bZ (Ms (bZ (pH (pB (gM (afs U) (cO (bV k)))))))))))))
def hit {ns}{O J G b c}(k:b {D with nx:=c D} [O,J,AP (.tup (.str x::ns)),G] h):aR (fD (bw (Av KN (Av Bq (ao 2) (mC (.int 0))) (mC (.str x)))) b bN) c D [O,J,AP (.tup (.str x::ns)),G] h:=aO (dR (bJ (aM (aM (aq rfl (bZ (Ms (bZ (pH (pB (rG (aft rfl) k)))))))))))
abbrev WtX (c0:Aw):Prop:=∀{h:Gh}{G:W}{n:Nat}{wt js:List Nat}{x:Str}{Q:WK}{E:Ci},h.c n=AP (.lst (wB wt))->(∀k∈wt,k<=48)->(∀j∈js,j<wt.length)->js.length=(mF x).length->x∈Ot->Q (.int ((wtF x (js.map λj=>wt.getD j 0):Nat):Int)) h->c0 [G,.loc n,vB x js] h Q E
def akr:WtX vZ:=by
 intro h g n wt js x Q E p i hj hl G k;have t:=alK hj;have Y:∀v∈(js.map λj=>wt.getD j 0),v<=48:=λv m=>by
  obtain⟨j,_,rfl⟩:=Ni.mp m;exact anj i j
 have U:(js.map λj=>wt.getD j 0).length=(mF x).length:=by rw[Ds];exact hl
 have O:js.length<=100:=by have:=sZ G;lia
 refine iz rfl (σ:=[AP g,AP<|.loc n,AP<|vB x js,Af]) rfl ?_;refine aO<|bA<|jt<|gK<|zf<|aq rfl<|jm<|bZ<|T8<|dF<|uh<|rm (ws:=js.map λj:Nat=>W.int (j:Int)) (o:=Af) rfl ?_
 refine aav rfl (vw p) t O ?_;generalize(js.map λj=>wt.getD j 0)=l at U Y k t|-
 have J:∀v:Int,v=((wtF x l:Nat):Int)->Q (.int v) h:=λv e=>by rw[e];exact k
 unfold Ot at G;simp only[M5,Qz,or_false]at G;have f:∀{x:Str},x∉(["free", "curve", "pole", "other"]:List Str)->l.sum=wtF x l:=λ{x} G=>by
  unfold wtF;simp only[M5,Qz,or_false,not_or]at G;rw[if_neg G.1,if_neg G.2.1,if_neg G.2.2.1,if_neg G.2.2.2]
 rcases G with rfl|rfl|rfl|rfl|rfl|rfl|rfl
 exact hit<|bU<|bZ<|J _ rfl
 exact Qs (by decide)<|Qs (by decide)<|Qs (by decide)<|Qs (by decide)<|bU<|cN<|aB<|aq rfl<|aH<|GD<|J _<|by rw[f (x := "join")<|by decide]
 exact Qs (by decide)<|Qs (by decide)<|Qs (by decide)<|Qs (by decide)<|bU<|cN<|aB<|aq rfl<|aH<|GD<|J _<|by rw[f (x := "meet")<|by decide]
 obtain⟨a,b,c,d,e,rfl⟩:=aiA U;simp only[M5,Qz,or_false,forall_eq_or_imp,forall_eq]at Y;refine Qs (by decide)<|hit<|bU<|aM<|bZ<|cN<|aB<|aq rfl<|aH<|GD<|Nb (by lia) (by simp only[List.sum_cons,List.sum_nil];lia)<|J _ ?_
 change _=((2*_:Nat):Int);lia;exact Qs (by decide)<|Qs (by decide)<|Qs (by decide)<|Qs (by decide)<|bU<|cN<|aB<|aq rfl<|aH<|GD<|J _<|by rw[f (x := "about")<|by decide]
 obtain⟨a,b,rfl⟩:=len1 U;simp only[M5,Qz,or_false,forall_eq_or_imp,forall_eq]at Y;refine Qs (by decide)<|Qs (by decide)<|hit<|bU<|aM<|aM<|bZ<|aM<|aq rfl<|bZ<|ahO<|Nb (by lia) (by lia)<|aM<|aq rfl<|bZ<|ahD<|eU<|J _ ?_
 change _=((2*a+b:Nat):Int);lia;obtain⟨a,b,c,rfl⟩:=aiY U;simp only[M5,Qz,or_false,forall_eq_or_imp,forall_eq]at Y;refine Qs (by decide)<|Qs (by decide)<|Qs (by decide)<|hit<|bU<|aM<|aM<|aM<|aq rfl<|bZ<|ahO<|aM<|aq rfl<|bZ<|ahD<|eU<|aM<|bZ<|aM<|aq rfl<|bZ<|aiH<|Nb (by lia) (by lia)<|eU<|J _ ?_
 change _=((a+b+2*c:Nat):Int);lia
def ae3 {r}(O:Row r)(G:ok1 ss r=true):∃x js,r=vB x js/\x∈Ot/\js.map (λj=>ss[j]?)=(mF x).map AP:=by
 obtain⟨x,ns,J,rfl⟩:=O;have G:(decide _&&decide _)=true:=G;rw[V5]at G;have e:=of_decide_eq_true G.2;rw[Uy]at e;have pos:∀i∈ns,0<=i:=λi hi=>by
  obtain⟨s,_,es⟩:=Ni.mp (e ▸ Ni.mpr ⟨i,hi,rfl⟩);have es:AP s=(if 0<=i then ss[i.toNat]? else Af):=es;grind
 show{x,ns.map Int.toNat,?_,J,?_};unfold vB;rw[Uy];congr 2
 apply V1;grind
 rw[<-e,Uy];apply V1;intro i hi;change ss[i.toNat]?=(if 0<=i then ss[i.toNat]? else Af);grind
def Tq {us:List Str}(e:js.map (λj=>ss[j]?)=us.map AP):∀j∈js,j<ss.length:=λj hj=>by
 obtain⟨s,_,es⟩:=Ni.mp (e ▸ Ni.mpr ⟨j,hj,rfl⟩);grind
def Dr.snoc {ps:Ps}(D:Dr M ps wt)(Y:x∈Ot)(e:js.map (λj=>(pN ps)[j]?)=(mF x).map AP)(a:wtF x (js.map λj=>wt.getD j 0)<=M):Dr M (ps++[(x,js)]) (wt++[wtF x (js.map λj=>wt.getD j 0)]):=by
 have sl:(pN ps).length=ps.length:=by unfold pN;rw[Ds]
 have hj:=sl ▸ Tq e;have J:∀{i p},(ps++[(x,js)])[i]?=AP p->(i<ps.length/\ps[i]?=AP p)\/(i=ps.length/\p=(x,js)):=λ{i p} e=>by
  rcases Nat.lt_or_ge i _ with h|h
  rw[Ut h]at e;show .inl ⟨h,e⟩;have h1:=(Qc.mp e).1;rw[Lp,V2]at h1;have h2:i=ps.length:=⋯
  subst h2;rw[V9 h,Nat.sub_self]at e;show .inr {rfl,(Ky e).symm}
 have U:∀{i},i<ps.length->(wt++[wtF x (js.map λj=>wt.getD j 0)]).getD i 0=wt.getD i 0:=λ{i} h=>by
  rw[V8,V8,Ut (D.len ▸ h)]
 have c:(wt++[wtF x (js.map λj=>wt.getD j 0)]).getD ps.length 0=wtF x (js.map λj=>wt.getD j 0):=by
  rw[V8,V9 (D.len ▸ Em _),D.len,Nat.sub_self];rfl
 have b:∀{i},i<ps.length->(pN (ps++[(x,js)]))[i]?=(pN ps)[i]?:=λ{i} h=>by
  unfold pN;rw[NP,Ut (by rwa[Ds])]
 have O:∀{js':List Nat}{i:Nat},i<=ps.length->(∀j∈js',j<i)->js'.map _=js'.map (λj=>(pN ps)[j]?)/\(js'.map λj=>(wt++[wtF x _]).getD j 0)=js'.map λj=>wt.getD j 0:=λ{js' i} hi h=>
  {V1 λj hj=>b (by have:=h j hj;lia),V1 λj hj=>U (by have:=h j hj;lia)}
 show{by rw[Lp,Lp,D.len];rfl,λi G js' h=>?_,λi G js' h=>?_,λi G js' h=>?_,λi G js' h=>?_};rcases J h with⟨_,h⟩|⟨_,hh⟩
 show D.wd i G js' h;cases hh;show Y
 rcases J h with⟨_,h⟩|⟨rfl,hh⟩
 show D.lt i G js' h;cases hh;show hj
 rcases J h with⟨hi,h⟩|⟨rfl,hh⟩
 rw[(O (Vb hi) (D.lt i G js' h)).1];show D.ss i G js' h;cases hh;rw[(O (Em _) hj).1];show e;rcases J h with⟨hi,h⟩|⟨rfl,hh⟩
 rw[(O (Vb hi) (D.lt i G js' h)).2,U hi];show D.wt i G js' h;cases hh;rw[(O (Em _) hj).2,c];show⟨rfl,a⟩
def Dr.le {ps}(D:Dr M ps wt):∀k∈wt,k<=M:=λk G=>by
 obtain⟨i,hi,e⟩:=List.getElem_of_mem G;have:=(D.wt i _ _ (Lq (D.len ▸ hi))).2
 rwa[V8,Lq hi,e]at this
def Dr.nil:Dr M [] []:={rfl,λi _ _ e=>(by cases e),λi _ _ e=>(by cases e),λi _ _ e=>(by cases e),λi _ _ e=>(by cases e)}
abbrev Vs (f:Nat)(ps:Ps):Prop:=∀(i:Nat) (x:Str) (js:List Nat),ps[i]?=AP (x,js)->(x = "free"↔i<f)
def Vs.snoc {f ps}(F:Vs f ps)(h:x = "free"↔ps.length<f):Vs f (ps++[(x,js)]):=by
 intro i G js' e;rcases Nat.lt_or_ge i _ with h1|h1
 rw[Ut h1]at e;exact F i G js' e;have h2:=(Qc.mp e).1;rw[Lp,V2]at h2;have J:i=ps.length:=by lia
 simp_all
def zF {ps}:bC ps++[vB x js]=bC (ps++[(x,js)]):=by
 unfold bC;grind
def ama (ps:Ps):(bC ps).map Ro=pN ps:=by
 unfold bC pN;rw[Uy];rfl
def RZ {k:Nat}:wB wt++[W.int (k)]=wB (wt++[k]):=by
 unfold wB;simp_all
def Hw (N):∀js,Ln N (wB js)
 | []=>by simp[wB,Ln]
 | a::js=>by
  change Ln N (W.int a::wB js);simp[Ln,Lo];show Hw N js
def FT (N):∀ps,Ln N (bC ps)
 | []=>by simp[bC,Ln]
 | p::ps=>by
  change Ln N (W.tup _::bC ps);simp[Ln,Lo];show{Hw N _,FT N ps}
def aii (n):((rng 0 n).map λx:Nat=>W.int (x)).length=n:=by unfold rng;rw[Ds,ZQ];lia
abbrev acq (c0:Aw):Prop:=∀{h:Gh}{ns:List Int}{G fr M:Nat}{Q:WK}{E:Ci},1<=M->M<=48->2<=fr->fr<=7->G<=24->(∀ps wt,Dr 48 ps wt->ps.length=G->Vs fr ps->Q (.lst (bC ps)) h)->c0 [.kls (ns.map .int),.int (G:Int),.int (fr:Int),.int (M:Int)] h Q E
def aea {i:Int}(x:Q (.int (if j<i then j else i)) h):ac1 [.int i,.int j] h Q:=x
def anb {ce ba C}(hc:Eo ce)(hb:Yi ba)(K:ah5 ro)(hw:WtX C):acq (Jm ce ba ro C):=by
 intro h ns v fr M Q E m1 H f2 f7 s24 k;refine oF rfl (σ:=[AP<|.kls<|ns.map .int,AP<|.int (v:Int),AP<|.int (fr:Int),AP<|.int (M:Int),Af,Af,Af,Af]) rfl<|aO<|bA<|jJ (ws:=[]) (λR=>rfl) rfl λg1 s n S=>(nV<|bV ?_)
 refine aO<|bA<|jJ (ws:=[]) (λR=>rfl) rfl λg2 o O R=>(nV<|bV ?_)
 obtain⟨a,ea⟩:∃a,a=h.nx:=⟨_,rfl⟩
 obtain⟨b,eb⟩:∃b,b=g1.nx:=⟨_,rfl⟩
 rw[<-ea]at s n S|-
 rw[<-eb]at o O R|-
 refine aO<|nW<|DY<|aB<|aq rfl<|aH<|Z5 (m:=v) (by lia)<|oH ?_
 refine iG (λi σ h'=>∃ps wt a6 a7,Dr 48 ps wt/\ps.length=i/\Vs fr ps/\σ=[AP<|.kls<|ns.map .int,AP<|.int (v:Int),AP<|.int (fr:Int),AP<|.int (M:Int),AP<|.loc a,AP<|.loc b,a6,a7]/\h'.c a=AP (.lst<|bC ps)/\h'.c b=AP (.lst<|wB wt)/\b<h'.nx/\∀m,m<h.nx->h'.c m=h.c m) ?_ ?_ ⟨[],[],Af,Af,.nil,rfl,λi _ _ e=>(by cases e),rfl,by rw[O a<|by lia];exact s,o,by lia,λm Y=>by rw[O m<|by lia,n m<|by lia]⟩
 ·rintro i w σ h' N hN ew ⟨ps,wt,a6,a7,D,pl,F,rfl,ca,cb,bx,P⟩;rw[Kh]at ew;obtain⟨j,ej,rfl⟩:=YX.mp ew;obtain⟨ei,hik⟩:=tB ej;rw[Zd]at ei;subst ei;have rl:(bC ps).length=ps.length:=by unfold bC;rw[Ds]
  have f:∀r∈bC ps,Row r:=λr K=>by
   obtain⟨p,hp,rfl⟩:=Ni.mp K;obtain⟨q,eq⟩:=vq hp;refine⟨p.1,p.2.map λk:Nat=>(k:Int),D.wd q p.1 p.2 eq,?_⟩;unfold vB;rw[Uy];rfl
  refine nV<|aO<|bA<|aU<|aB<|aU<|aB<|aU<|aB<|aq rfl<|aB<|aM<|bZ<|aq rfl<|eU<|aH<|hc (k:=3+(j:Int)) (by lia)<|aH<|hb λh1 bf n1 y=>?_
  obtain⟨bg,W⟩:∃bg,bg=h'.nx:=⟨_,rfl⟩
  rw[<-W]at bf n1 y|-
  have u:h1.c a=AP (.lst (bC ps)):=(y a (by lia)).trans ca;have X:h1.c b=AP (.lst (wB wt)):=(y b (by lia)).trans cb;refine aB<|aq rfl<|aB<|aq rfl<|aH ?_
  have first:∀q,q<fr->q<ps.length->ps[q]?=AP (("free" : Str),([]:List Nat)):=λq h1 h2=>by
   obtain⟨x,js,e⟩:∃x js,ps[q]?=AP (x,js):=⟨_,_,Lq h2⟩
   have:=(F q x js e).mpr h1
   subst this;rw[e,D.free e]
  refine K bf u (by lia) (by lia) (by lia) f (by lia) ?_ λr h2 rr _ ro U bg2 G=>nV<|bV ?_
  by_cases c:((bC ps).length:Int)<fr
  exact .inl c;refine .inr ⟨vB "free" [],T7 (i:=0) ?_,rfl⟩;unfold bC;rw[Kh,first 0 (by lia) (by lia)];rfl;rw[ama]at ro;rw[rl,pl]at U;obtain⟨x,js,rfl,d,es⟩:=ae3 rr ro;have sl:(pN ps).length=ps.length:=by unfold pN;rw[Ds]
  have hj:∀q∈js,q<wt.length:=by rw[D.len,<-sl];exact Tq es
  have I:js.length=(mF x).length:=by have:=congrArg Uo es;rw[Ds,Ds]at this;exact this
  have A:x = "free"↔ps.length<fr:=by
   rw[alb]at U;rw[pl];constructor;intro e;rw[decide_eq_true e]at U;have:=of_decide_eq_true U.symm
   lia;intro e;rw[decide_eq_true (show(j:Int)<fr by lia)]at U;exact of_decide_eq_true U
  have Z:h2.c a=AP (.lst (bC ps)):=(G.2 a (by lia) (by lia)).trans u;have J:h2.c b=AP (.lst (wB wt)):=(G.2 b (by lia) (by lia)).trans X;have bx2:b<h2.nx:=by have:=G.1;lia
  have L:∀m,m<h.nx->h2.c m=h.c m:=λm Y=>by rw[G.2 m (by lia) (by lia),y m (by lia),P m Y]
  have rest:∀{x:Str}{js:List Nat},x∈Ot->js.map (λj=>(pN ps)[j]?)=(mF x).map AP->(x = "free"↔ps.length<fr)->wtF x (js.map λj=>wt.getD j 0)<=48->(aR (jD (Bw cW (ao 5) (aj (aF C E (aj (ao 4) (aj (ao 5) (aj (ao 7) aG)))) aG)))
   (jD (Bw cW (ao 4) (aj (ao 7) aG)))) {nx:=N,rt:=λw h'=>jE true h w h' Q} [AP (.kls (ns.map .int)),AP (.int (v:Int)),AP (.int (fr:Int)),AP (.int (M:Int)),AP (.loc a),AP (.loc b),AP (.int (j:Int)),AP (vB x js)] h2:=by
   intro x js d es A wl;have hj:∀q∈js,q<wt.length:=by rw[D.len,<-sl];exact Tq es
   have I:js.length=(mF x).length:=by have:=congrArg Uo es;rw[Ds,Ds]at this;exact this
   refine aO<|eE<|jK<|aq rfl<|fZ J<|aB<|aU<|aB<|aq rfl<|aB<|aq rfl<|aB<|aq rfl<|aH<|hw J D.le hj I d<|aH ?_
   refine uV J (by unfold wB;rw[Ds,D.len];lia) λg3 V l gn3=>bV ?_;have t:g3.c a=AP (.lst (bC ps)):=(l a (by lia)).trans Z;refine eE<|jK<|aq rfl<|fZ t<|aB<|aq rfl<|aH ?_
   refine uV t (by rw[rl];lia) λg4 T g gn4=>bV<|hN _ _ ⟨ps++[(x,js)],wt++[wtF x<|js.map λj=>wt.getD j 0],_,_,D.snoc d es wl,by rw[Lp,pl];rfl,F.snoc A,rfl,by rw[T,zF],by rw[g b<|by lia,V,RZ],by lia,λm Y=>by rw[g m<|by lia,l m<|by lia,L m Y]⟩
  refine aO<|dR<|bJ<|aM<|aU<|aB<|aq rfl<|aB<|aq rfl<|aB<|aq rfl<|aH<|hw J D.le hj I d<|aq rfl<|wY<|pB ?_
  by_cases c:wtF x (js.map λj=>wt.getD j 0)<=M
  refine gM (afs<|by lia)<|cO<|bV ?_
  exact rest d es A<|K7 c H
  ·refine rG (aft<|by lia) ?_;have nf:¬ps.length<fr:=λz=>by
    have B:=A.mpr z;subst B;exact c<|show 1<=M from m1
   rfl'
   refine aea ?_;rw[if_neg (by lia)];rfl'
   have f0:=first 0 (by lia) (by lia)
   have f1:=first 1 (by lia) (by lia)
   refine rest (x := "join") (js:=[0,1]) (by decide) ?_ ⟨λz=>absurd z<|by decide,λz=>absurd z nf⟩ ?_;unfold pN;simp only[KQ,Uz,Kh,f0,f1];rfl;have B:=(D.wt 0 _ _ f0).1;have e1:=(D.wt 1 _ _ f1).1;rw[Uz,Qe]at B e1;simp only[KQ,Uz,B,e1];decide
 rintro σ h' ⟨ps,wt,a6,a7,D,pl,F,rfl,ca,cb,bx,P⟩;rw[aii]at pl;refine bV ?_;unfold wI;exact bU<|aq rfl<|uJ ⟨λm c Y e=>by rw[P m Y];exact e,.inr ⟨a,bC ps,rfl,by lia,ca,FT _ _,k ps wt D pl F⟩⟩
variable {kvs:List (Key×W)}
def Dd {k}(h:lg kvs k=Af):kvs.find? (λkv=>decide (kv.1=k))=Af:=by
 unfold lg at h;cases e:kvs.find? (λkv=>decide (kv.1=k))with
 | none=>rfl
 | some v=>rw[e]at h;cases h
def ajX {k}(h:lg kvs k=Af):abn kvs k w=kvs++[(k,w)]:=by
 unfold abn;rw[if_neg];intro z;obtain⟨kv,h1,h2⟩:=List.any_eq_true.mp z;show List.find?_eq_none.mp (Dd h) kv h1 h2
def xV {k k'}(h:lg kvs k=Af):lg (kvs++[(k,w)]) k'=if k=k' then AP w else lg kvs k':=by
 by_cases c:k=k'
 subst c;unfold lg;rw[List.find?_append,Dd h];simp;rw[if_neg c];unfold lg;simp_all
def Qy {i:Int}{N:Gh->Prop}(e:h.c n=AP (.dct kvs))(hz:kvs.length+1<=1000)(p:lg kvs (.inl i)=Af)(k:∀g:Gh,g.c n=AP (.dct (kvs++[(.inl i,w)]))->(∀m,m≠n->g.c m=h.c m)->g.nx=h.nx->N g):uR (.loc n) (.int i) w h N:=by
 change(match h.c n with
  | some (.dct kvs)=>fQ _ _
  | _=>False)
 rw[e];dsimp only;show ajX p ▸ fQ.mk (K7 hz (by decide:1000<=El)) (k _ (rA _ _ _) (λ_ e=>jO e) rfl)
def ae5 {i}(e:h.c n=AP (.dct kvs))(v:lg kvs (.inl i)=AP w)(k:Q w h):Xj (.loc n) (.int i) h Q:=by
 change(match h.c n with
  | some (.dct kvs)=>(match lg kvs _ with
   | some w=>Q w h
   | none=>False)
  | _=>False)
 grind
abbrev uY (kvs:List (Key×W))(js js':List Nat):Prop:=js.map (λj:Nat=>lg kvs (.inl (j:Int)))=js'.map λj:Nat=>AP (W.int (j:Int))
structure Am (fr:Nat) (ps:Ps) (wt:List Nat) (k a:Nat) (kvs:List (Key×W)) (qs:Ps) (vt:List Nat):Prop where
 d:Dr 48 qs vt
 len:qs.length+fr=a+k
 kl:kvs.length=qs.length
 v:∀n:Nat,n<a\/(fr<=n/\n<k)->∃j:Nat,lg kvs (.inl (n:Int))=AP (.int (j:Int))/\j<qs.length/\(pN qs)[j]?=(pN ps)[n]?/\vt.getD j 0=wt.getD n 0
 nv:∀n:Nat,¬(n<a\/(fr<=n/\n<k))->lg kvs (.inl (n:Int))=Af
 af:a<=fr
 fk:fr<=k
 fn:MK qs qs.length=a
variable {qs:Ps}
def Aa:(∀j,j<qs.length->(pN (qs++[(x,js)]))[j]?=(pN qs)[j]?)/\(pN (qs++[(x,js)]))[qs.length]?=AP (m7 x):=by
 unfold pN;rw[NP];refine⟨λj hj=>Ut<|by rwa[Ds],?_⟩;rw[V9 (by rw[Ds];exact Em _),Ds,Nat.sub_self];rfl
variable {vt:List Nat}
def Pu {k}:(∀j,j<vt.length->(vt++[k]).getD j 0=vt.getD j 0)/\(vt++[k]).getD vt.length 0=k:=by
 refine⟨λj hj=>by rw[V8,V8,Ut hj],?_⟩;simp_all
def JQ:MK (qs++[(x,js)]) (qs++[(x,js)]).length=MK qs qs.length+(if x = "free" then 1 else 0):=by
 unfold MK;rw[Nj];simp
variable {fr:Nat}
def Am.snoc {ps}{k a O J}(A:Am fr ps wt k a kvs qs vt)(Y:¬(n<a\/(fr<=n/\n<k)))
  (G:∀m,(m<J\/(fr<=m/\m<O))↔(m<a\/(fr<=m/\m<k))\/m=n) (l:J+O=a+k+1) (i:J<=fr) (fk:fr<=O) (g:J=a+if x = "free" then 1 else 0)
  (D:Dr 48 (qs++[(x,js)]) (vt++[wtF x (js.map λj=>vt.getD j 0)])) (es:(pN ps)[n]?=AP (m7 x)) (h:wt.getD n 0=wtF x (js.map λj=>vt.getD j 0)) :
  Am fr ps wt O J (kvs++[(.inl (n),.int (qs.length:Int))]) (qs++[(x,js)]) (vt++[wtF x (js.map λj=>vt.getD j 0)]):=by
 have d:=A.d.len;show{D,?_,?_,λm U=>?_,λm U=>?_,i,fk,(by rw[JQ,A.fn,g])};rw[Lp,V2];have:=A.len
 lia;rw[Lp,Lp,A.kl];rfl;rw[xV (A.nv n Y)];by_cases c:m=n
 subst c;rw[if_pos rfl];show{qs.length,rfl,by rw[Lp,V2];lia,by rw[Aa.2,es],?_};rw[<-d,Pu.2,h];rw[if_neg (λz=>c (by injection z with z;lia))];obtain⟨j,h1,h2,f,e⟩:=A.v m (((G m).mp U).resolve_right c);show{j,h1,by rw[Lp];lia,by rw[Aa.1 j h2,f],by rw[Pu.1 j<|⋯,e]};rw[xV (A.nv n Y)];have b:=λz=>U ((G m).mpr z)
 rw[if_neg (λz=>b (.inr (by injection z with z;lia)))];show A.nv m λz=>b<|.inl z
def Am.free {fr ps}{wt k a}{kvs qs}{vt}(A:Am fr ps wt k a kvs qs vt)(D:Dr 48 ps wt)(F:Vs fr ps)(G:a<fr)(hl:fr<=ps.length) :
  ∃vt',Am fr ps wt k (a+1) (kvs++[(.inl (a),.int (qs.length:Int))]) (qs++[(("free" : Str),([]:List Nat))]) vt':=by
 obtain⟨x,js,e⟩:∃x js,ps[a]?=AP (x,js):={_,_,Lq ⋯}
 cases(F a x js e).mpr G
 show{_,A.snoc (by lia) (λm=>by lia) (by lia) G A.fk (by simp) (A.d.snoc (by decide) rfl<|show 1<=48 by decide) ?_ (D.wt a _ _ e).1};unfold pN;rw[Kh,e];rfl
def Ru {kvs:List (Key×W)}{S S':List Str}{vt wt:List Nat}:∀{js:List Nat},(∀j∈js,∃G:Nat,lg kvs (.inl (j:Int))=AP (.int (G:Int))/\S'[G]?=S[j]?/\vt.getD G 0=wt.getD j 0) ->
  ∃js',uY kvs js js'/\js'.map (λj=>S'[j]?)=js.map (λj=>S[j]?)/\(js'.map λj=>vt.getD j 0)=js.map λj=>wt.getD j 0
 | [],_=>{[],rfl,rfl,rfl}
 | j::js,h=>by
  obtain⟨js',h1,h2,J⟩:=Ru λj hj=>h j (T6 _ hj)
  obtain⟨G,a1,a2,a3⟩:=h j (Ub ..);show{G::js',?_,(by rw[KQ,KQ,h2,a2]),(by rw[KQ,KQ,J,a3])};unfold uY;rw[KQ,KQ,h1,a1]
def Am.row {ps}{k a}(A:Am fr ps wt k a kvs qs vt)(D:Dr 48 ps wt)(F:Vs fr ps)(e:ps[k]?=AP (x,js))(hj:∀j∈js,j<a\/fr<=j):
  ∃js' vt',uY (kvs++[(.inl (k),.int (qs.length:Int))]) js js'/\Am fr ps wt (k+1) a (kvs++[(.inl (k),.int (qs.length:Int))]) (qs++[(x,js')]) vt':=by
 obtain⟨js',h1,h2,O⟩:=Ru (kvs:=kvs) (S:=pN ps) (S':=pN qs) (vt:=vt) (wt:=wt) (js:=js) λj G=>by
  obtain⟨Y,a1,_,a2,a3⟩:=A.v j (by have:=hj j G;have:=D.lt k x js e j G;lia);show⟨Y,a1,a2,a3⟩
 have w:=D.wt k x js e;have fk:=A.fk;have b:=A.af;have U:x ≠ "free":=λz=>by
  have:=(F k x js e).mp z
  lia
 have J:uY (kvs++[(.inl (k:Int),.int (qs.length:Int))]) js js':=by
  unfold uY at h1|-
  rw[<-h1];apply V1;intro j G;have:=D.lt k x js e j G
  rw[xV (A.nv k ⋯),if_neg (λz=>by injection z with z;lia)]
 show{js',_,J,A.snoc (n:=k) ⋯ (λm=>⋯) ⋯ b ⋯ (by rw[if_neg U];rfl) (A.d.snoc (D.wd k x js e) (by rw[h2];show D.ss k x js e) (by rw[O,<-w.1];show w.2)) ?_ (by rw[O];show w.1)};unfold pN;rw[Kh,e];rfl
def Am.nil {fr ps}{wt}:Am fr ps wt fr 0 [] [] []:=⟨.nil,by simp,rfl,λn h=>by lia,λn _=>rfl,Pz _,Em _,rfl⟩
def Dr.frees {qs}{vt}(D:Dr 48 qs vt):∀n,∃G,Dr 48 (qs++Kv n (("free" : Str),([]:List Nat))) G/\MK (qs++Kv n (("free" : Str),([]:List Nat))) (qs++Kv n (("free" : Str),([]:List Nat))).length=MK qs qs.length+n
 | 0=>⟨vt,by simpa using D,by simp⟩
 | n+1=>by
  obtain⟨G,D',f⟩:=D.frees n;refine⟨_,by rw[rO,<-List.append_assoc];exact D'.snoc (by decide) rfl (show 1<=48 by decide),?_⟩;rw[rO,<-List.append_assoc,JQ,f];rfl
def abF (x:∀g,g.c h.nx=AP (.dct [])->(∀m,m≠h.nx->g.c m=h.c m)->g.nx=h.nx+1->Q (.loc h.nx) g):Vf σ h Q:=x _ (zL _ _) (λ_ e=>oO e) rfl
def afd {i}(x:Q (.bl (decide (i<=j))) h):kLe (.int i) (.int j) h Q:=x
variable {js':List Nat}
def uY.at {kvs js js'}(t:uY kvs js js'){i j:Nat}(e:js[i]?=AP j):∃G,js'[i]?=AP G/\lg kvs (.inl (j))=AP (.int (G)):=by
 have:=congrArg (λl=>l[i]?) t
 simp at this;grind
def uY.len (t:uY kvs js js'):js.length=js'.length:=by
 have:=congrArg Uo t
 rwa[Ds,Ds]at this
def agV (J:wC ix σ=[AP (.loc n)])(O:h.c n=AP (.dct kvs))(t:uY kvs js js')(hl:js.length<=100)(q:Q (.lst (wB js')) h):
  lcK K9 ix iM (Av Xj (ao 1) (ao 0)) σ Q ⟨js.map λj:Nat=>W.int (j),Af⟩ h:=by
 show mQ (by rw[Ds];show Nat.ble_eq.mpr ⋯) ?_;show dj (λi G h'=>h'=h/\G=wB (js'.take i)) ?_ ?_ ⟨rfl,rfl⟩;rintro i u G h' N U e ⟨rfl,rfl⟩;rw[Kh]at e;obtain⟨j,b,rfl⟩:=YX.mp e;obtain⟨w,Y,a⟩:=t.at b;show{[.int _],rfl,?_};rw[J];show eZ<|dH<|aM<|aq rfl<|aq rfl<|ae5 O a<|U _ _ {rfl,?_}
 rw[M4,Y];show RZ;rintro G h' ⟨rfl,rfl⟩
 rwa[Ds,t.len,Nj]
def agu {a b}(e:h.c n=AP (.lst a))(hz:a.length+b.length<=1000)(x:Q (.lst (a++b)) h):cF (.loc n) (.lst b) h Q:=by
 change(match Tw h _,Tw h _ with
  | some a,AP b=>fQ _ _
  | _,_=>False)
 have e1:Tw h (.loc n)=AP a:=by simp[Tw,e]
 have e2:Tw h (.lst b)=AP b:=rfl;exact e1 ▸ fQ.mk (K7 hz (by decide:1000<=El)) x
def yO (a n):((rng a n).map λx:Nat=>W.int (x)).length=n-a:=by unfold rng;rw[Ds,ZQ]
def gG (ps:Ps):(bC ps).length=ps.length:=by unfold bC;rw[Ds]
abbrev afo (c0:Aw):Prop:=∀{h:Gh}{ps:Ps}{wt:List Nat}{fr:Nat}{Q:WK}{E:Ci},Dr 48 ps wt->Vs fr ps->fr<=ps.length->ps.length<=24->(∀qs vt,Dr 48 qs vt->qs.length=ps.length->MK qs qs.length=fr->Q (.lst (bC qs)) h)->c0 [.lst (bC ps),.int (fr:Int)] h Q E
inductive AmI (fr:Nat) (ps:Ps) (wt:List Nat) (h:Gh) (P L n:Nat) (R:Nat->Prop) (S:Option W->Option W->Prop) (σ:Sw) (h':Gh):Prop
 | mk (a:Nat) (kvs:List (Key×W)) (qs:Ps) (vt:List Nat) (s5 s6:Option W) (A:Am fr ps wt n a kvs qs vt) (hq:R a) (hs:S s5 s6) (e:σ=[AP (.lst (bC ps)),AP (.int (fr:Int)),AP (.loc P),AP (.loc L),AP (.int ((a:Nat):Int)),s5,s6]) (cP:h'.c P=AP (.dct kvs)) (cL:h'.c L=AP (.lst (bC qs))) (ho:∀m,m<h.nx->h'.c m=h.c m)
def adQ:afo wM:=by
 intro h ps wt fr Q E D F fl l24 k;have rl:=gG ps;unfold wM;show oF rfl (σ:=[AP<|.lst<|bC ps,AP<|.int (fr:Int),Af,Af,Af,Af,Af]) rfl<|aO<|bA<|abF λg1 K H gn1=>(nV<|bV ?_)
 show aO<|bA<|jJ (ws:=[]) (λR=>rfl) rfl λg2 I r Z=>(nV<|bV ?_)
 obtain⟨P,eP⟩:∃P,P=h.nx:={_,rfl}
 obtain⟨L,eL⟩:∃L,L=g1.nx:={_,rfl}
 rw[<-eP]at K H gn1|-
 rw[<-eL]at I r Z|-
 show aO<|bA<|bZ<|nV<|bV ?_
 show aO<|nW<|Dl<|aB<|aq rfl<|aB<|cN<|aB<|aq rfl<|aH<|dh (xs:=bC ps) rfl<|aH ?_
 rw[rl];show Qp (n:=fr) rfl ⋯ ⋯<|oH ?_
 show iG (λi=>AmI fr ps wt h P L (fr+i) (λ_=>True) λ_ _=>True) ?_ ?_ {0,[],[],[],Af,Af,.nil,True.intro,True.intro,rfl,by rw[r P<|⋯];show K,I,λm v=>by rw[r m<|⋯,H m<|⋯]}
 ·rintro i w σ h' N C M ⟨a,kvs,qs,vt,s5,S,A,_,_,rfl,d,cL,Y⟩;rw[Kh]at M;obtain⟨j,ej,rfl⟩:=YX.mp M;obtain⟨ei,T⟩:=tB ej;subst ei;obtain⟨x,js,e⟩:∃x js,ps[fr+i]?=AP (x,js):={_,_,Lq T}
  have er:(bC ps)[fr+i]?=AP (vB x js):=by unfold bC;rw[Kh,e];rfl
  have g:∀{h':Gh}{R:WK},R (vB x js) h'->Bq (.lst (bC ps)) (.int ((fr+i:Nat):Int)) h' R:=λq=>dg (ws:=bC ps) rfl (bR er) q
  have jl:js.length<=24:=by
   have:=congrArg Uo (D.ss _ x js e)
   rw[Ds,Ds]at this;rw[this];show sZ<|D.wd _ x js e
  show nV<|aO<|nW<|gK<|zf<|aM<|aq rfl<|aq rfl<|g<|jm<|bZ<|T8<|dF<|uh<|rm (ws:=js.map λj:Nat=>W.int (j:Int)) (o:=Af) rfl<|oH ?_
  show iG (λq=>AmI fr ps wt h P L (fr+i) (λa=>∀j∈js.take q,j<a\/fr<=j) λx _=>x=AP (.int ((fr+i:Nat):Int))) ?_ ?_ {a,kvs,qs,vt,_,_,A,by simp,rfl,rfl,d,cL,Y}
  ·rintro q w σ h' N C M ⟨a,kvs,qs,vt,_,S,A,l,rfl,rfl,d,cL,Y⟩;rw[Kh]at M;obtain⟨j,ej,rfl⟩:=YX.mp M;show nV ?_;show{λm=>AmI fr ps wt h P L (fr+i) (λa=>m+a=fr/\∀j∈js.take q,j<a\/fr<=j) λx y=>x=AP (.int ((fr+i:Nat):Int))/\y=AP (.int (j:Int)),{fr-a,a,kvs,qs,vt,_,_,A,{by have:=A.af;lia,l},⟨rfl,rfl⟩,rfl,d,cL,Y},?_};rintro m σ h' ⟨a,kvs,qs,vt,_,_,A,⟨ma,l⟩,⟨rfl,rfl⟩,rfl,d,cL,Y⟩;have ql:=A.len;have f:j<a\/fr<=j->N [AP (.lst (bC ps)),AP (.int (fr:Int)),AP (.loc P),AP (.loc L),AP (.int ((a:Nat):Int)),AP (.int ((fr+i:Nat):Int)),AP (.int (j:Int))] h':=λz=>C _ _ {a,kvs,qs,vt,_,_,A,λj' B=>by
    rw[M4,ej]at B;rcases YH.mp B with h1|h1
    show l j' h1;rw[Option.toList_some,R6]at h1;rw[h1];show z,rfl,rfl,d,cL,Y}
   show BZ<|bJ<|aM<|aq rfl<|aq rfl<|ad8<|pB ?_
   by_cases c1:j<fr
   ·show rG (aft<|⋯) ?_;show bJ<|aM<|aq rfl<|aq rfl<|afd<|pB ?_
    by_cases c2:a<=j
    show rG (aft<|⋯) ?_;obtain⟨G,A'⟩:=A.free D F ⋯ fl;show aO<|bA<|cN<|aB<|aq rfl<|aH<|dh (vw cL) ?_
    rw[gG];show z9<|aq rfl<|aq rfl<|Qy d (by rw[A.kl];lia) (A.nv a<|⋯) λg3 b O X=>bV ?_
    have U:g3.c L=AP (.lst (bC qs)):=(O L ⋯).trans cL;show aO<|eE<|jK<|aq rfl<|fZ U<|aB<|qK<|aB<|bZ<|aH<|gU rfl<|aH ?_
    show uV U (by rw[gG];lia) λg4 s J V=>bV ?_;show bA<|aM<|aq rfl<|bZ<|eU<|nV ?_
    show{m-1,⋯,a+1,_,_,G,_,_,A',{⋯,λj hj=>by have:=l j hj;lia},⟨rfl,rfl⟩,rfl,by rw[J P<|⋯];show b,by rw[s];show congrArg AP (congrArg Cell.lst<|zF (x := "free") (js:=[])),λm v=>by rw[J m<|⋯,O m<|⋯,Y m v]}
    ·show gM (afs<|⋯)<|f<|⋯
   ·show gM (afs<|⋯)<|gM rfl<|f<|⋯
  rintro σ h' ⟨a,kvs,qs,vt,_,S,A,l,rfl,rfl,d,cL,Y⟩;rw[Ds,Nj]at l;obtain⟨js',G,td,A'⟩:=A.row D F e l;have ql:=A.len;have af:=A.af;show bV ?_;show aO<|bA<|cN<|aB<|aq rfl<|aH<|dh (vw cL) ?_
  rw[gG];show z9<|aq rfl<|aq rfl<|Qy d (by rw[A.kl];lia) (A.nv _<|⋯) λg3 b O X=>bV ?_
  have U:g3.c L=AP (.lst (bC qs)):=(O L ⋯).trans cL;show eE<|jK<|aq rfl<|fZ U<|aB<|cN<|aB<|aM<|M8<|aB<|aM<|aM<|aq rfl<|aq rfl<|g<|bZ<|Ms<|aH<|gU rfl<|jt<|gK<|zf<|aM<|aq rfl<|aq rfl<|g<|jm<|bZ<|T8<|dF<|uh<|rm (ws:=js.map λj:Nat=>W.int (j:Int)) (o:=Af) rfl ?_
  show agV rfl b td ⋯ ?_;show ab2 (by unfold wB;rw[Ds,<-td.len];change 1+_<=1000;lia)<|aH<|gZ<|aH ?_
  show uV U (by rw[gG];lia) λg4 s J V=>bV<|C _ _ {a,_,_,G,_,_,A',True.intro,True.intro,rfl,by rw[J P<|⋯];show b,by rw[s];show congrArg AP (congrArg Cell.lst zF),λm v=>by rw[J m<|⋯,O m<|⋯,Y m v]}
 rintro σ h' ⟨a,kvs,qs,vt,s5,S,A,_,_,rfl,d,cL,Y⟩;rw[yO]at A;have ql:=A.len;have af:=A.af;show bV ?_;unfold wA;show bU<|aM<|aq rfl<|jt<|Dl<|aB<|aq rfl<|aB<|aq rfl<|aH<|Qp (n:=a) rfl ⋯ ⋯ ?_
 show mQ (by rw[yO];show Nat.ble_eq.mpr ⋯) ?_;show dj (λi t p=>p=h'/\t=bC (Kv i (("free" : Str),([]:List Nat)))) ?_ ?_ ⟨rfl,rfl⟩;rintro i u t p N C e ⟨rfl,rfl⟩;show{[u],rfl,?_};show eZ<|dH<|qK<|aB<|bZ<|aH<|gU rfl<|C _ _ {rfl,?_}
 rw[rO];show zF (x := "free") (js:=[]);rintro t p ⟨rfl,rfl⟩;rw[yO];obtain⟨G,D',fn⟩:=A.d.frees (fr-a);show agu cL (by rw[gG,gG,Zv];lia) ?_;have ea:bC qs++bC (Kv (fr-a) (("free" : Str),([]:List Nat)))=bC (qs++Kv (fr-a) (("free" : Str),([]:List Nat))):=by unfold bC;rw[NP]
 rw[ea];show uJ {λm c v e=>by rw[Y m v];show e,.inl {FT _ _,k _ G D' (by rw[Lp,Zv];lia) (by rw[fn,A.fn];lia)}}
def adC {ps}(h:i<=n):MK ps i<=MK ps n:=List.Sublist.countP_le (List.take_sublist_take_left h)
def amC {ps}(h:i<=n):MK (ps.take n) i=MK ps i:=by
 unfold MK;grind
def Vs.count {f:Nat}{ps:Ps}(F:Vs f ps):∀{n:Nat},n<=ps.length->MK ps n=min f n
 | 0,_=>by unfold MK;simp
 | n+1,h=>by
  obtain⟨x,js,e⟩:∃x js,ps[n]?=AP (x,js):={_,_,Lq ⋯}
  rw[rB e,F.count ⋯];have:=F n x js e
  grind
def Gd.cut {ps}(D:Dr M ps wt)(G:Gd ps wt sps gold):Gd (ps.take gold.length) (wt.take gold.length) (sps.take (MK ps gold.length)) gold:=by
 have J:∀{i p},(ps.take gold.length)[i]?=AP p->ps[i]?=AP p:=λ{i p} e=>by
  rw[uZ]at e;split at e
  exact e;cases e
 have O:∀{i},i<gold.length->(wt.take _).getD i 0=wt.getD i 0:=λ{i} h=>by
  rw[V8,V8,uZ,if_pos h]
 refine⟨by rw[U7];have:=G.le;lia,λi x js h e=>?_,λi js h e=>?_,λi x js h e U=>?_⟩;exact O h ▸ G.tg i x js h (J e);obtain⟨t,a,b⟩:=G.fr i js h (J e);have fs:=rB (J e);rw[if_pos rfl]at fs;have:MK ps _<=MK ps _:=adC h
 rw[amC (Vb h)];grind
 obtain⟨ws,w,a,b,c,d⟩:=G.mkd i x js h (J e) U;refine⟨ws,w,a,b,c,?_⟩;have:(js.map λj=>(wt.take _).getD j 0)=js.map λj=>wt.getD j 0:=V1 λj hj=>O (by have:=D.lt i x js (J e) j hj;lia)
 rwa[this]
def ali {ps}:(bC ps).take n=bC (ps.take n):=by unfold bC;rw[List.map_take]
abbrev ah3 (mr c0:Aw):Prop:=∀{rws sps gold:List W}{h:Gh}{Q:WK}{E:Ci},V6 mr rws sps gold->(gold.length=rws.length->Q (.lst gold) h)->(∀r,rws[gold.length]?=AP r->Rf mr gold r/\∀h',Kp h h'->E ⟨"Stuck",[("at",.int (gold.length:Nat))]⟩ h')->c0 [.lst rws,.lst sps] h Q E
def adh {mr}:ah3 mr (yW mr):=λP J G=>ajZ P J G
abbrev zs (L:Nat):List Int:=Kv L 0
abbrev ct (k:W)(a:Int):W:=.tup (if a=0 then[]else[.tup [k,.int a]])
abbrev cs (L:Nat)(a:Int):W:=ct (.tup ((zs L).map .int)) a
def Tc {k}(h:a≠0):ct k a=.tup [.tup [k,.int a]]:=by unfold ct;rw[if_neg h]
def Dp:∀k,qj (k.map .int)=AP k
 | []=>rfl
 | i::k=>by rw[KQ,qj,Dp k];rfl
def JC (k):ZD (.tup (k.map .int))=AP k:=Dp k
abbrev Tn (k:W)(a:Int)(c:Cell):Prop:=(∃l:List Int,k=.tup (l.map .int)/\c=.dtt [(l,.int a)])\/∃i:Int,k=.int i/\c=.dct [(.inl i,.int a)]
abbrev Tt (k:W)(a:Int)(c:Cell):Prop:=(c=.dtt []\/c=.dct [])/\a=0\/Tn k a c
abbrev ae2 (c0:Aw):Prop:=∀{h:Gh}{n:Nat}{k:W}{a:Int}{c:Cell}{Q:WK}{E:Ci},h.c n=AP c->Tt k a c->Q (ct k a) h->c0 [.loc n] h Q E
def amL {k}{c}(U:h.c n=AP c)(t:Tt k a c)(O:a=0->Q (.lst []) h)(J:Tn k a c->Q (.lst [k]) h):HS [.loc n] h Q:=by
 change(match h.c n with
  | some (.dtt kvs)=>kvs.length<2/\Q (.lst (kvs.map λp=>.tup (p.1.map .int))) h
  | some (.dct kvs)=>∃ks:List Int,Tz kvs ks/\ks.length<2/\Q (.lst (ks.map .int)) h
  | _=>False)
 rw[U];rcases t with⟨rfl|rfl,z⟩|t
 show{∅,O z};show{[],rfl,∅,O z};have G:=J t;clear J;rcases t with⟨l,rfl,rfl⟩|⟨i,rfl,rfl⟩
 show{p8 1,G};show{[i],rfl,p8 1,G}
def abI {k}{c}(G:h.c n=AP c)(t:Tn k a c)(q:Q (.int a) h):afG (.loc n) k h Q:=by
 rcases t with⟨l,rfl,rfl⟩|⟨i,rfl,rfl⟩
 refine .inl ?_;unfold aga;rw[JC];dsimp only;rw[G];dsimp only;have:Dh [(l,W.int a)] l=AP (.int a):=by unfold Dh;simp
 rw[this];exact q
 ·refine .inr ?_;change(match h.c n with
   | some (.dct kvs)=>(match lg kvs (.inl i)with
    | some w=>Q w h
    | none=>False)
   | _=>False)
  rw[G];dsimp only;have:lg [(Sum.inl i,W.int a)] (.inl i)=AP (.int a):=by unfold lg;simp
  rw[this];exact q
def wN (hl:ws.length<=1)(q:D.rt (.tup ws) h):aR (fD (bw (Av S7 (Ft Fz (aj (ao 1) aG)) (mC (.int 600)))) (gC "TooMuch" E) bN) (dY E) D [AP (.loc n),AP (.tup ws)] h:=by
 obtain⟨U,O,J,G⟩:=D;refine aO<|dR<|bJ<|aM<|cN<|aB<|aq rfl<|aH<|dh (xs:=ws) rfl<|bZ<|wY<|pB<|gM (by simp;lia)<|cO<|bV ?_
 unfold dY;exact bU<|aq rfl<|uJ q
def agP:ae2 gk:=by
 intro h n k a c Q E G t q;unfold gk;show iz rfl (σ:=[AP<|.loc n,Af]) rfl<|aO<|bA<|cN<|aB<|jt<|gK<|cN<|aB<|aq rfl<|aH<|amL G t (λz=>?_) λtn=>?_
 subst z;show rm rfl<|mQ rfl<|oX<|aH<|gZ<|nV<|bV<|wN (ws:=[]) (by simp) q
 show rm rfl<|mQ rfl<|Ay (vs:=[k]) rfl<|bJ<|aM<|aM<|aq rfl<|aq rfl<|abI G tn<|bZ<|ZK<|pB ?_
 show UL (λne=>?_) λne=>?_;show qK<|aB<|aq rfl<|aB<|aM<|aq rfl<|aq rfl<|abI G tn<|aH<|gU rfl<|oX<|aH<|gZ ?_
 rw[Tc ne]at q;rw[List.nil_append];show nV<|bV<|wN (ws:=[.tup [k,.int a]]) (by simp) q
 have z:a=0:=Decidable.byContradiction λz=>ne z
 subst z;show oX<|aH<|gZ<|nV<|bV<|wN (ws:=[]) (by simp) q
@[reducible]noncomputable def zW (L:Nat):W:=.tup ((zs L).map .int)
variable {L:Nat}
def Xi (e:((zs L).map W.int)[i]?=AP w):w=.int 0:=by
 obtain⟨p,G,rfl⟩:=Ni.mp (T7 e);rw[(List.mem_replicate.mp G).2]
def yU (n):∀l:List Int,Ln n (l.map .int)
 | []=>by simp[Ln]
 | x::l=>by rw[KQ,Ln];show{by simp[Lo],yU n l}
def agT (n L)(a):Lo n (cs L a):=by
 unfold cs ct;rw[Lo];split
 rw[Ln];show True.intro;simp only[Lo,Ln];show{{yU _ _,True.intro,True.intro},True.intro}
def Xp (G:∀n,n<h.nx->h'.c n=h.c n)(q:Q (cs L a) h):jE true h (cs L a) h' Q:=
 {λn c J O=>by rw[G n J];show O,.inl {agT _ _ _,q}}
def zm {b:MS}(G:σ[i]?=AP (AP (.tup ws)))(x:iR ⟨ws,Af⟩ g b D ws σ h):mV (Gj (ao i)) g b D σ h:=nW (gK (aq G (rm rfl (oH x))))
abbrev Td (L:Nat)(a:Int)(kv:List (List Int×W)):Prop:=kv=[]/\a=0\/kv=[(zs L,.int a)]
variable {kv:List (List Int×W)}
def Td.tt (t:Td L a kv):Tt (zW L) a (.dtt kv):=by
 rcases t with⟨rfl,z⟩|rfl
 exact .inl ⟨.inl rfl,z⟩;exact .inr<|.inl ⟨_,rfl,rfl⟩
def ab1 (q:∀g  (kv),Td L a kv->g.c h.nx=AP (.dtt kv)->(∀n,n≠h.nx->g.c n=h.c n)->Q (.loc h.nx) g):Bp [cs L a] h Q:=by
 have G:∀{us:List W}{kv:List (List Int×W)},cs L a=.tup us->qQ us=AP kv->(kv.map (·.1)).Nodup->Td L a kv->Bp [cs L a] h Q:=λ{us kv} e1 e2 J t=>by
  rw[e1];change(match qQ us with
   | some ps=>(ps.map (·.1)).Nodup/\Q (.loc h.nx) (h.new (.dtt ps))
   | none=>False)
  rw[e2];exact⟨J,q _ kv t (zL _ _) λ_ e=>oO e⟩
 by_cases z:a=0
 subst z;exact G (us:=[]) rfl rfl .nil<|.inl ⟨rfl,rfl⟩
 refine G (Tc z) (kv:=[(zs L,.int a)]) ?_ (V4.mpr ⟨Qz,.nil⟩)<|.inr rfl
 simp only[qQ,JC];rfl
def agW (e:h.c n=AP (.dtt kv))(t:Td L a kv)(q:Q (.int a) h):Qx (.loc n) [zW L,.int 0] h Q:=by
 unfold Qx;dsimp only;rw[e,JC];dsimp only;rcases t with⟨rfl,rfl⟩|rfl
 show q;have:Dh [(zs L,W.int a)] (zs L)=AP (.int a):=by unfold Dh;simp
 rw[this];show q
def ad3 {b:Int}{N:Gh->Prop}(e:h.c n=AP (.dtt kv))(t:Td L a kv)(q:∀g:Gh,g.c n=AP (.dtt [(zs L,.int b)])->(∀m,m≠n->g.c m=h.c m)->N g):Q0 (.loc n) (zW L) (.int b) h N:=by
 unfold Q0;rw[JC];dsimp only;rw[e];dsimp only;have ep:abP kv (zs L) (.int b)=[(zs L,.int b)]/\kv.length<=1:=by
  rcases t with⟨rfl,rfl⟩|rfl
  show{rfl,by simp};show{?_,by simp};unfold abP Dh;simp
 rw[ep.1];show fQ.mk (K7 (m:=1000) ⋯<|∅)<|q _ (rA _ _ _) λ_ e=>jO e
def anw {kvs}(e:h.c n=AP (.dtt kvs))(p:P):O4 h (.loc n) P:=by
 unfold O4;dsimp only;rw[e];show p
def acB {r}(x:mo σ h λx h1=>O4 h1 x (ma σ h1 λxs h2=>r x xs h2 Q)):af3 r mo ma σ h Q:=x
abbrev WtC (c0:Aw):Prop:=∀{h:Gh}{L n:Nat}{a b f:Int}{Q:WK}{E:Ci},n<=1000000->Sm n b->Sm 64 f->Q (cs L (a+f*b)) h->c0 [cs L a,cs L b,.int f] h Q E
def ahU {U}(Y:ae2 U):WtC (qD U):=by
 intro h L n a b f Q E d sb sf q;refine oF rfl (σ:=[AP<|cs L a,AP<|cs L b,AP<|.int f,Af,Af,Af]) rfl<|aO<|bA<|cN<|aB<|aq rfl<|aH<|ab1 λg kv t O c=>?_
 refine nV<|bV ?_
 have G:∀{g':Gh}{i g:Option W}{J:List _},Td L _ J->g'.c h.nx=AP (.dtt J)->(∀m,m≠h.nx->g'.c m=h.c m) ->
   lZ U E {nx:=λ_ h'=>jE true h .non h' Q,rt:=λw h'=>jE true h w h' Q} [AP (cs L a),AP (cs L b),AP (.int f),AP _,i,g] g':=λt' e' o'=>by
  exact bU<|aU<|aB<|aq rfl<|aH<|Y e' t'.tt<|uJ<|Xp (λn d=>o' n<|by lia) q
 by_cases z:b=0
 subst z;rw[Int.mul_zero,Int.add_zero]at G;exact aO<|zm rfl<|jr<|bV<|G t O c
 refine aO<|zm (by rw[show cs L b=_ from Tc z];rfl)<|kO ?_
 refine m9 rfl rfl<|eN<|nV ?_
 refine eN<|nV ?_
 refine bA<|aM<|acB<|aq rfl<|anw O<|aB<|aq rfl<|aB<|bZ<|aH<|agW O t ?_
 refine aM<|aq rfl<|aq rfl<|qF (.of sf sb (by decide) d)<|eU<|z9<|aq rfl<|aq rfl ?_
 exact ad3 O t λg2 a1 a2=>bV<|jr<|bV<|G (.inr rfl) a1 λm e=>(a2 m e).trans (c m e)
abbrev X6 (f:Int)(c0:Aw):Prop:=∀{h:Gh}{L n:Nat}{a b:Int}{Q:WK}{E:Ci},n<=1000000->Sm n b->Q (cs L (a+f*b)) h->c0 [cs L a,cs L b] h Q E
def ac6 {wt:Aw}(G:WtC wt):X6 1 (Xx wt):=by
 intro h L n a b Q E O J q;exact iz rfl rfl<|bU<|aU<|aB<|aq rfl<|aB<|aq rfl<|aB<|bZ<|aH<|G O J (.lit rfl)<|uJ q
def amI {wt}(G:WtC wt):X6 (-1) (R9 wt):=by
 intro h L n a b Q E O J q;exact iz rfl rfl<|bU<|aU<|aB<|aq rfl<|aB<|aq rfl<|aB<|Sy<|bZ<|Bl<|aH<|G O J (.lit rfl)<|uJ q
abbrev PkC (c0:Aw):Prop:=∀{h:Gh}{L:Nat}{Q:WK}{E:Ci},Q (.int 0) h->c0 [zW L] h Q E
def abH:PkC JR:=by
 intro h L Q E q;show iG (λ_ σ h'=>h'=h/\∃G:Option W,σ=[AP _,AP _,G]) ?_ ?_ ⟨rfl,Af,rfl⟩;rintro i w σ h' N J e ⟨rfl,G,rfl⟩;cases Xi e
 show bA<|aM<|aM<|aq rfl<|bZ<|qF (.of (.lit rfl) (.lit rfl) ∅<|∅)<|aq rfl<|eU<|kE rfl<|bV<|J _ _ {rfl,_,rfl}
 rintro σ h' ⟨rfl,G,rfl⟩;assumption
def af8 (G:σ[i]?=AP (AP (.loc n)))(e:h.c n=AP (.lst us))(x:Q (.tup us.reverse) h):EY (ao i) σ h Q:=by
 show aq G ?_
 rwa[Cm e]
abbrev UnC (c0:Aw):Prop:=∀{h:Gh}{L:Nat}{Q:WK}{E:Ci},L<=8->Q (zW L) h->c0 [.int 0,.int (L:Int)] h Q E
def afV:UnC wJ:=by
 intro h L Q E hL q;show oF rfl (σ:=[AP<|.int 0,AP<|.int L,Af,Af]) rfl ?_;show aO<|bA<|jJ (λR=>rfl) rfl λg eg og xg=>?_
 show nV<|bV ?_
 show Pr (λ_=>rfl) ⋯ ⋯ (λi σ h'=>i<=L/\∃s3:Option W,σ=[AP<|.int 0,AP<|.int L,AP _,s3]/\h'.c h.nx=AP (.lst<|(zs i).map .int)/\∀n,n≠h.nx->h'.c n=h.c n) ?_ ?_ {Pz _,Af,rfl,eg,og};rintro i σ h' N hN hi ⟨_,s3,rfl,e2,o2⟩;show aO<|eE<|jK<|aq rfl<|fZ e2<|aB<|aM<|aq rfl<|bZ<|Bx ∅<|aH ?_
 show uV e2 (by unfold zs;simp;lia) λg2 a1 a2 a3=>bV ?_;show bA<|aM<|aq rfl<|bZ<|Iw {∅,64,∅,.lit rfl} ?_
 show hN _ _ {⋯,_,rfl,?_,λn hn=>a2 n hn ▸ o2 n hn};rw[a1];unfold zs;rw[rO,NP];rfl;rintro σ h' ⟨_,s3,rfl,e2,o2⟩;have eL:(L:Int).toNat=L:=⋯
 rw[eL]at e2;show bV<|bU<|af8 rfl e2 ?_
 rw[<-List.map_reverse,show(zs L).reverse=zs L from List.reverse_replicate];show{λn c hn ec=>o2 n ⋯ ▸ ec,.inl {by rw[Lo];show yU _ _,q}}
@[reducible]noncomputable def pW (a:Int):List W:=if a=0 then[]else[.tup [.int 0,.int a]]
abbrev PtC (c0:Aw):Prop:=∀{h:Gh}{L:Nat}{a:Int}{Q:WK}{E:Ci},Q (.lst (pW a)) h->c0 [cs L a] h Q E
def aiu {J}(G:PkC J):PtC (lV J):=by
 intro h L a Q E q;by_cases z:a=0
 subst z;assumption;rw[show cs L a=_ from Tc z];rw[show pW a=_ from if_neg z]at q;show iz rfl rfl<|bU<|jt<|gK<|aq rfl<|rm rfl<|mQ rfl<|Ay rfl<|eZ<|dH<|qK<|aB<|aU<|aB<|aq rfl<|aH<|G<|aB<|aq rfl<|aH<|gU rfl<|oX<|uJ q
abbrev CpC (c0:Aw):Prop:=∀{h:Gh}{L:Nat}{a:Int}{Q:WK}{E:Ci},L<=8->Q .non h->c0 [cs L a] h Q E
def aiF:CpC lJ:=by
 intro h L a Q E U q;by_cases z:a=0
 subst z;assumption;rw[show cs L a=_ from Tc z];refine iz rfl (σ:=[AP _,Af,Af]) rfl<|zm rfl<|kO<|m9 rfl rfl<|eN<|nV ?_
 refine eN<|nV ?_
 refine dR<|Bg<|cN<|aB<|jt<|gK<|aq rfl<|rm rfl<|fQ.mk (K7 (by unfold zs;simp;lia)<|by decide) ?_
 refine dj (λj G g=>g=h/\G=(Kv j false).map .bl) ?_ ?_ ⟨rfl,rfl⟩;rintro j w G g Y J e' ⟨rfl,rfl⟩;cases Xi e'
 refine⟨[.int 0],rfl,eZ<|dH<|aM<|aq rfl<|bZ<|wY<|J _ _ ⟨rfl,?_⟩⟩;rw[rO,NP];rfl;rintro G g ⟨rfl,rfl⟩;generalize((zs L).map _).length=k;refine aH<|Nv rfl (yI _)<|abm rfl ?_
 have O:(Kv k false).any id=false:=by simp
 rw[O];exact tR<|cO<|bV<|jr<|bV q
@[reducible]noncomputable def cL (L:Nat)(a:Int):List W:=if a=0 then[]else[.tup [zW L,.int a]]
def Xq (L)(a):(cL L a).length<=1:=by grind
def aaE (e:h.c n=AP (.dct kvs))(p:P):Ss h (.loc n) P:=by
 unfold Ss;simp_all
def abS {r}(x:mo σ h λx h1=>Ss h1 x (ma σ h1 λxs h2=>r x xs h2 Q)):agx r mo ma σ h Q:=x
def wL {b}(G:σ[i]?=AP (AP (.lst ws)))(x:iR ⟨ws,Af⟩ g b D ws σ h):mV (Gj (ao i)) g b D σ h:=nW (gK (aq G (rm rfl (oH x))))
def acY (e:h.c n=AP (.dct []))(q:Q (.int 0) h):Ur (.loc n) [.int 0,.int 0] h Q:=by
 change(match h.c n,(AP _:Option Key)with
  | some (.dct kvs),AP k=>Q _ h
  | _,_=>False)
 rwa[e]
def ae4 {x:Int}{N:Gh->Prop}(e:h.c n=AP (.dct []))(q:∀g:Gh,g.c n=AP (.dct [(.inl 0,.int x)])->(∀m,m≠n->g.c m=h.c m)->N g):uR (.loc n) (.int 0) (.int x) h N:=by
 change(match h.c n with
  | some (.dct kvs)=>fQ _ _
  | _=>False)
 show e ▸ gU rfl (q _ (rA _ _ _) λ_ e=>jO e)
abbrev TiC (c0:Aw):Prop:=∀{h:Gh}{L m n:Nat}{a b:Int}{Q:WK}{E:Ci},L<=8->m<=1000000->n<=1000000->Sm m a->Sm n b->Q (cs L (a*b)) h->c0 [cs L a,cs L b] h Q E
def wZ {Y U x O}(s:ae2 Y)(r:UnC U)(u:CpC O){g}{b}{c}{p m j i f e d}(v:L<=8)(A:g.c h.nx=AP c)(t:Tt (.int 0) (a*b) c)(o:∀n,n≠h.nx->g.c n=h.c n)(q:Q (cs L (a*b)) h):
  Al Y U x O E {nx:=λ_ h'=>jE true h .non h' Q,rt:=λw h'=>jE true h w h' Q} [AP (cs L a),p,AP (.loc h.nx),m,j,i,f,e,d,Af,Af,Af] g:=by
 have J:∀{l:Int},(a*b≠0->l=L)->(aR (bB (aF Y E (aj (ao 2) aG)) (Aq 10))
   (aR (bB (Ft fK (aj (J2 (Y5 2) [9] (Gj (ao 10)) iM (nQ (aj (aF U E (aj (ao 0) (aj (ao 2) aG))) (aj (ao 1) aG)))) aG)) (Aq 11))
   (aR (jD (aF O E (aj (ao 11) aG)))
   (bK (ao 11))))) {nx:=λ_ h'=>jE true h .non h' Q,rt:=λw h'=>jE true h w h' Q} [AP (cs L a),p,AP (.loc h.nx),m,j,i,f,e,d,AP (.int l),Af,Af] g:=λ{l} hl=>by
  show aO<|bA<|aU<|aB<|aq rfl<|aH<|s A t ?_
  show nV<|bV ?_
  have G:(aR (jD (aF O E (aj (ao 11) aG)))
    (bK (ao 11))) {nx:=λ_ h'=>jE true h .non h' Q,rt:=λw h'=>jE true h w h' Q} [AP (cs L a),p,AP (.loc h.nx),m,j,i,f,e,d,AP (.int l),AP (ct (.int 0) (a*b)),AP (cs L (a*b))] g:=
   aO (eE (aU (aB (aq rfl (aH (u v (bV (bU (aq rfl (uJ (Xp (λn C=>o n ⋯) q)))))))))))
  by_cases z:a*b=0
  rw[z]at G|-
  show aO<|bA<|cN<|aB<|jt<|gK<|aq rfl<|rm (ws:=[]) rfl<|mQ rfl<|oX<|aH<|gZ<|kE rfl<|bV G
  have e1:=Tc (k:=.int 0) z;have e2:cs L (a*b)=.tup [.tup [zW L,.int (a*b)]]:=Tc z;rw[e1,e2]at G;rw[e1];cases hl z
  show aO<|bA<|cN<|aB<|jt<|gK<|aq rfl<|rm rfl<|mQ rfl<|Ay (vs:=[.int 0,.int<|a*b]) rfl ?_
  show eZ<|dH<|qK<|aB<|aU<|aB<|aq rfl<|aB<|aq rfl<|aH<|r v<|aB<|aq rfl<|aH<|gU rfl<|oX<|aH<|gZ<|kE rfl<|bV G
 by_cases z:a=0
 subst z;show aO<|bA<|aaM<|Bg<|aq rfl<|abm (b:=false) rfl<|tR<|bZ<|nV<|bV<|J λn=>absurd (Int.zero_mul b) n
 have e2:cs L a=.tup [.tup [zW L,.int a]]:=Tc z;rw[e2]at J|-
 show aO<|bA<|aaM<|Bg<|aq rfl<|abm (b:=true) rfl<|yg<|cN<|aB<|aM<|aM<|aq rfl<|bZ<|dg (ws:=[.tup [zW L,.int a]]) rfl (w:=.tup [zW L,.int a]) rfl<|bZ<|dg (ws:=[zW L,.int a]) rfl (w:=zW L) rfl<|aH<|dh (xs:=(zs L).map .int) rfl ?_
 have y:((zs L).map W.int).length=L:=by rw[Ds];unfold zs;rw[Zv]
 rw[y];show nV<|bV<|J λ_=>rfl
def aaC {so un pt cp}(hso:ae2 so)(hun:UnC un)(hpt:PtC pt)(hcp:CpC cp):TiC (PX so un pt cp):=by
 intro h L m n a b Q E hL hm hn sa sb q;have l1:=Xq L a;have l2:=Xq L b;refine oF rfl (σ:=[AP<|cs L a,AP<|cs L b,Af,Af,Af,Af,Af,Af,Af,Af,Af,Af]) rfl ?_;refine aO<|dR<|bJ<|aM<|aM<|cN<|aB<|aq rfl<|aH<|dh (xs:=cL L a) rfl<|cN<|aB<|aq rfl<|aH<|dh (xs:=cL L b) rfl ?_
 refine qF (.of (n:=8) (m:=8) (by unfold Sm;change((cL L a).length:Int).natAbs<256;lia) (by unfold Sm;change((cL L b).length:Int).natAbs<256;lia) (by decide)<|by decide)<|bZ<|wY<|pB<|gM ?_<|cO<|bV ?_
 have:((cL L a).length:Int)*((cL L b).length:Int)<=1*1:=Int.mul_le_mul (by lia) (by lia) (by lia) (by lia)
 simp only[decide_eq_false_iff_not];omega;have eg:(h.new (.dct [])).c h.nx=AP (.dct []):=zL _ _;have og:∀n,n≠h.nx->(h.new (.dct [])).c n=h.c n:=λ_ e=>oO e
 refine nV<|bV ?_
 refine aO<|bA<|aU<|aB<|aq rfl<|aH<|hpt ?_
 refine nV<|bV ?_
 by_cases za:a=0
 subst za;refine aO<|nW<|gK<|aU<|aB<|aq rfl<|aH<|hpt<|rm (ws:=[]) (o:=Af) rfl<|oH<|jr<|bV ?_
 exact wZ hso hun hcp hL eg (.inl ⟨.inr rfl,Int.zero_mul b⟩) og q;refine aO<|nW<|gK<|aU<|aB<|aq rfl<|aH<|hpt ?_
 rw[show pW a=_ from if_neg za];refine rm (ws:=[.tup [.int 0,.int a]]) (o:=Af) rfl<|oH<|kO ?_
 refine m9 rfl rfl<|eN<|nV ?_
 refine eN<|nV ?_
 by_cases zb:b=0
 subst zb;refine wL (ws:=[]) rfl<|jr<|bV<|jr<|bV ?_
 exact wZ hso hun hcp hL eg (.inl ⟨.inr rfl,Int.mul_zero a⟩) og q;refine wL (ws:=[.tup [.int 0,.int b]]) (by rw[show pW b=_ from if_neg zb];rfl)<|kO ?_
 refine m9 rfl rfl<|eN<|nV ?_
 refine eN<|nV ?_
 refine kE (σ':=[AP<|cs L a,AP<|cs L b,AP<|.loc h.nx,AP<|.lst<|pW b,AP<|.int 0,AP<|.int a,AP<|.int 0,AP<|.int b,AP<|.int 0,Af,Af,Af]) rfl<|bV ?_
 refine bA<|aM<|abS<|aq rfl<|aaE eg<|aB<|aq rfl<|aB<|bZ<|aH<|acY eg ?_
 refine aM<|aq rfl<|aq rfl<|qF (.of sa sb hm hn)<|eU<|z9<|aq rfl<|aq rfl<|ae4 eg λg2 a1 a2=>?_
 rw[Int.zero_add]at a1;exact bV<|jr<|bV<|jr<|bV<|wZ hso hun hcp hL a1 (.inr<|.inr ⟨0,rfl,rfl⟩) (λn hn=>(a2 n hn).trans (og n hn)) q
@[reducible]noncomputable def cl (L:Nat)(as:List Int):W:=.tup (as.map (cs L))
@[reducible]noncomputable def c3 (L:Nat)(p:Tr):W:=.tup [cs L p.1,cs L p.2.1,cs L p.2.2]
@[reducible]noncomputable def RN (L:Nat)(c:C6):W:=.tup [cs L c.1,cs L c.2.1,cs L c.2.2.1,cs L c.2.2.2.1,cs L c.2.2.2.2.1,cs L c.2.2.2.2.2]
@[reducible]noncomputable def cM (L:Nat)(M:Mt):W:=.tup [c3 L M.1,c3 L M.2.1,c3 L M.2.2]
variable {as:List Int}
def afy (e:as[i]?=AP a)(x:Q (cs L a) h):Bq (cl L as) (.int (i)) h Q:=
 dg rfl (bR (by rw[Kh,e];rfl)) x
abbrev LsC (c0:Aw):Prop:=∀{h:Gh}{L m n i j:Nat}{as bs:List Int}{a1 a2 J G:Int}{Q:WK}{E:Ci},L<=8->m<=300000->n<=300000->as[i]?=AP a1->as[j]?=AP a2->bs[j]?=AP J->bs[i]?=AP G->Sm m a1->Sm m a2->Sm n J->Sm n G ->
 Q (cs L (a1*J-a2*G)) h->c0 [cl L as,cl L bs,.int (i:Int),.int (j:Int)] h Q E
def acv {mi}(J:X6 (-1) mi)(G:TiC ti):LsC (lX mi ti):=by
 intro h L m n i j as bs a1 a2 f e Q E Y d c e1 e2 e3 e4 b U a O q;show iz rfl rfl<|bU<|aU<|aB<|aU<|aB<|aM<|aq rfl<|aq rfl<|afy e1<|aB<|aM<|aq rfl<|aq rfl<|afy e3<|aH<|G Y ⋯ ⋯ b a<|aB<|aU<|aB<|aM<|aq rfl<|aq rfl<|afy e2<|aB<|aM<|aq rfl<|aq rfl<|afy e4<|aH<|G Y ⋯ ⋯ U O<|aH<|J ⋯ (U.mul O)<|uJ ?_
 rwa[Int.neg_one_mul]
abbrev CrC (c0:Aw):Prop:=∀{h:Gh}{L m n:Nat}{p q:Tr}{Q:WK}{E:Ci},L<=8->m<=300000->n<=300000->CV m p->CV n q->Q (c3 L (crs p q)) h->c0 [c3 L p,c3 L q] h Q E
def akQ {e}(G:LsC e):CrC (sO e):=by
 rintro h L m n p q Q E U O J ⟨d,p2,c⟩ ⟨b,a,Y⟩ k;show G (as:=[p.1,p.2.1,p.2.2]) (bs:=[q.1,q.2.1,q.2.2]) U O J rfl rfl rfl rfl p2 c Y a<|G (as:=[p.1,p.2.1,p.2.2]) (bs:=[q.1,q.2.1,q.2.2]) U O J rfl rfl rfl rfl c d b Y<|G (as:=[p.1,p.2.1,p.2.2]) (bs:=[q.1,q.2.1,q.2.2]) U O J rfl rfl rfl rfl d p2 a b<|aH<|gU rfl<|uJ k
abbrev DoC (c0:Aw):Prop:=∀{h:Gh}{L m n:Nat}{p q:Tr}{Q:WK}{E:Ci},L<=8->m<=300000->n<=300000->CV m p->CV n q->Q (cs L (dt3 p q)) h->c0 [c3 L p,c3 L q] h Q E
def aeC (U:X6 1 pl)(O:TiC ti):DoC (zT pl ti):=by
 rintro h L m n p q Q E u z y ⟨s,p2,r⟩ ⟨o,l,j⟩ k;have G:∀{t a b:Int}{f e:Option W}{h':Gh}{Y i c0:Sw->Gh->Prop}{g:WK},Sm m a->Sm n b->Y [AP (c3 L p),AP (c3 L q),AP _,AP _,AP _] h' ->
   (vf 2 (lG (Aq 3) (lG (Aq 4) VL))) (.tup [cs L a,cs L b]) [AP _,AP _,AP (cs L t),f,e] h' fun J h1=>(bB (aF pl E (aj (ao 2) (aj (aF ti E (aj (ao 3) (aj (ao 4) aG))) aG))) (Aq 2)) {nx:=Y,rt:=g,bk:=i,ct:=c0} J h1:=λ{t a b f e h' Y i c0 g} d c x=>by
  show m9 rfl rfl<|eN<|nV ?_
  show eN<|nV ?_
  show bA<|aU<|aB<|aq rfl<|aB<|aU<|aB<|aq rfl<|aB<|aq rfl<|aH<|O u ⋯ ⋯ d c<|aH ?_
  show U ⋯ (d.mul c) ?_;rw[Int.one_mul];show nV<|bV x
 show kO<|G (t:=0) s o ?_
 show kO<|G p2 l ?_
 show kO<|G r j ?_
 rw[Int.zero_add];show k
abbrev TuC (c0:Aw):Prop:=∀{h:Gh}{L m:Nat}{p q r:Tr}{Q:WK}{E:Ci},L<=8->m<=100000->CV m p->CV m q->CV m r->Q (cs L (dt3 (crs p q) r)) h->c0 [c3 L p,c3 L q,c3 L r] h Q E
def alJ (J:CrC cr)(G:DoC dt):TuC (vM cr dt):=by
 intro h L m p q r Q E U a sp O Y k;show J U ⋯ ⋯ sp O<|aB<|aq rfl<|aH<|G U ⋯ ⋯ (bQ sp O) Y<|uJ k
abbrev StC (c0:Aw):Prop:=∀{h:Gh}{L m n:Nat}{as:List Int}{b:Int}{Q:WK}{E:Ci},L<=8->m<=300000->n<=300000->as.length<=6->(∀a∈as,Sm m a)->Sm n b->Q (cl L (as.map (· * b))) h->c0 [cl L as,cs L b] h Q E
def zbW (hti:TiC ti):StC (qC ti):=by
 intro h L m n as b Q E hL hm hn hl sa sb k;show iz rfl rfl<|bU<|cN<|aB<|jt<|gK<|aq rfl<|rm rfl<|fQ.mk (K7 (by rw[Ds];lia)<|∅) ?_
 show dj (λi acc h'=>h'=h/\acc=((as.take i).map (· * b)).map (cs L)) ?_ ?_ ⟨rfl,rfl⟩
 ·rintro i w acc h' N' hN e ⟨rfl,rfl⟩;rw[Kh]at e;cases qe:as[i]? with
  | none=>rw[qe]at e;cases e
  | some a=>
   rw[qe]at e;cases e;show{[cs L a],rfl,eZ<|dH<|aU<|aB<|aq rfl<|aB<|aq rfl<|aH<|hti hL ⋯ ⋯ (sa a<|T7 qe) sb<|hN _ _ {rfl,?_}};rw[M4,qe,NP,NP];rfl
 rintro acc h' ⟨rfl,rfl⟩
 rwa[Ds,Nj]
abbrev SmC (c0:Aw):Prop:=∀{h:Gh}{L n:Nat}{as bs:List Int}{Q:WK}{E:Ci},n<=1000000->as.length<=6->as.length=bs.length->(∀b∈bs,Sm n b)->Q (cl L (List.zipWith (· - ·) as bs)) h->c0 [cl L as,cl L bs] h Q E
def zbD {mi}(b:X6 (-1) mi):SmC (qJ mi):=by
 intro h L n as bs Q E g hl l f k;have d:(CW (as.map (cs L)) (bs.map (cs L))).length=as.length:=by rw[xO,Ds,Ds];lia
 refine fQ.mk (K7 (by rw[d];lia)<|by decide) ?_;refine dj (λi G h'=>h'=h/\G=((List.zipWith (· - ·) as bs).take i).map (cs L)) ?_ ?_ ⟨rfl,rfl⟩
 ·rintro i w G h' m j e ⟨rfl,rfl⟩;obtain⟨a,c,O,J,rfl⟩:=yh e;rw[Kh]at O J;cases Y:as[i]? with
  | none=>rw[Y]at O;cases O
  | some u=>
   cases U:bs[i]? with
   | none=>rw[U]at J;cases J
   | some v=>
    rw[Y]at O;rw[U]at J;cases O;cases J;refine⟨[cs L u,cs L v],rfl,eZ<|dH<|aU<|aB<|aq rfl<|aB<|aq rfl<|aH<|b g (f v<|T7 U)<|j _ _ ⟨rfl,?_⟩⟩;rw[M4,List.getElem?_zipWith,Y,U,NP,Int.neg_one_mul];rfl
 rintro G h' ⟨rfl,rfl⟩;rw[d,List.take_of_length_le (by rw[List.length_zipWith];lia)];assumption
abbrev DbC (c0:Aw):Prop:=∀{h:Gh}{L n:Nat}{a:Int}{Q:WK}{E:Ci},n<=1000000->Sm n a->Q (cs L (2*a)) h->c0 [cs L a] h Q E
def ajI (G:X6 1 pl):DbC (zP pl):=by
 intro h L n a Q E O J k;refine iz rfl rfl<|bU<|aU<|aB<|aq rfl<|aB<|aq rfl<|aH<|G O J<|uJ ?_
 rwa[show a+1*a=2*a by lia]
abbrev ToC (c0:Aw):Prop:=∀{h:Gh}{L m n:Nat}{p q:Tr}{Q:WK}{E:Ci},L<=8->m<=300000->n<=300000->CV m p->CV n q->Q (RN L (dN p q)) h->c0 [c3 L p,c3 L q] h Q E
def aeP (i:X6 1 pl)(g:TiC ti):ToC (mD pl ti):=by
 rintro h L m n p q Q E o s r ⟨f,p2,U⟩ ⟨O,Y,e⟩ k;have J:∀{a b c d:Int}{h:Gh}{R:WK},Sm m c->Sm n d->R _ h->pl [cs L (a*b),cs L _] h R E:=λsc j x=>i ⋯ (sc.mul j) (by rwa[Int.one_mul])
 have G:∀{a b:Int}{h:Gh}{R:WK},Sm m a->Sm n b->R _ h->ti [cs L a,cs L b] h R E:=λsa l x=>g o ⋯ ⋯ sa l x
 show G f O<|G f Y<|G p2 O<|J p2 O<|G p2 Y<|G f e<|G U O<|J U O<|G p2 e<|G U Y ?_
 rfl'
 show J U Y ?_;rfl'
 show G U e ?_;rfl'
 show k
abbrev TaC (c0:Aw):Prop:=∀{h:Gh}{L n:Nat}{c:C6}{Q:WK}{E:Ci},n<=1000000->J9 n c->Q (cM L (fJ c)) h->c0 [RN L c] h Q E
def akT {O}(G:DbC O):TaC (uH O):=by
 rintro h L n c Q E J ⟨a,e,Y,d,b,U⟩ k;show G J a<|G J Y<|G J U k
abbrev TrC (c0:Aw):Prop:=∀{h:Gh}{L m:Nat}{M:Mt}{Q:WK}{E:Ci},L<=8->m<=100000->Rm m M->Q (cM L (RG M)) h->c0 [cM L M] h Q E
def zaX (G:CrC cr):TrC (oV cr):=by
 rintro h L m M Q E J a ⟨Y,U,O⟩ k;show G J ⋯ ⋯ U O<|G J ⋯ ⋯ O Y<|G J ⋯ ⋯ Y U k
abbrev RtC (c0:Aw):Prop:=∀{h:Gh}{L m n:Nat}{M:Mt}{p:Tr}{Q:WK}{E:Ci},L<=8->m<=300000->n<=300000->Rm m M->CV n p->Q (c3 L (vm M p)) h->c0 [cM L M,c3 L p] h Q E
def aaW (G:DoC dt):RtC (qL dt):=by
 rintro h L m n M p Q E U O J ⟨b,a,Y⟩ sp k;show G U O J b sp<|G U O J a sp<|G U O J Y sp k
def bY (J:CV m p)(G:CV n q):Sm (m+n+2) (dt3 p q):=((((J.1.mul G.1).add (J.2.1.mul G.2.1)).add (J.2.2.mul G.2.2))).mono ⋯
def rT {M}(hM:Rm m M)(hp:CV n p):CV (m+n+2) (vm M p):=⟨bY hM.1 hp,bY hM.2.1 hp,bY hM.2.2 hp⟩
abbrev BoC (c0:Aw):Prop:=∀{h:Gh}{L m n k:Nat}{M:Mt}{p q:Tr}{Q:WK}{E:Ci},L<=8->m<=100000->n<=100000->k<=100000->Rm m M->CV n p->CV k q->Q (cs L (dt3 p (vm M q))) h->c0 [cM L M,c3 L p,c3 L q] h Q E
def zch {rt}(J:DoC dt)(G:RtC rt):BoC (fL dt rt):=by
 intro h L m n k M p q Q E U a Y b sM sp O x;exact G U (by lia) (by lia) sM O<|J U (by lia) (by lia) sp (rT sM O) x
abbrev SzC (c0:Aw):Prop:=∀{h:Gh}{L m:Nat}{M:Mt}{Q:WK}{E:Ci},L<=8->m<=100000->Rm m M->Q (cs L (det M)) h->c0 [cM L M] h Q E
def amB {J}(G:TuC J):SzC (uo J):=by
 rintro h L m M Q E b a ⟨Y,U,O⟩ k;show G b a Y U O k
abbrev CuC (c0:Aw):Prop:=∀{h:Gh}{L:Nat}{a b c d e:Tr}{Q:WK}{E:Ci},L<=8->(∀t∈[a,b,c,d,e],CV 2000 t)->Q (RN L (jx a b c d e)) h->c0 [.lst [c3 L a,c3 L b,c3 L c,c3 L d,c3 L e]] h Q E
def pL (k:CV m p)(j:CV n q):∀x∈Ka (dN p q),Sm (m+n+1) x:=λx h=>by
 have J:∀{a b c d:Int},Sm m a->Sm n b->Sm m c->Sm n d->Sm (m+n+1) _:=λsa O sc i=>((sa.mul O).add (sc.mul i)).mono ⋯
 have G:∀{a b:Int},Sm m a->Sm n b->Sm (m+n+1) (a*b):=λsa O=>(sa.mul O).mono ⋯
 obtain⟨g,p2,f⟩:=k;obtain⟨e,Y,U⟩:=j;simp[Ka]at h;rcases h with rfl|rfl|rfl|rfl|rfl|rfl
 show G g e;show J g Y p2 e;show G p2 Y;show J g U f e;show J p2 U f Y;show G f U
def zca {st z to}(l:TiC ti)(w:CrC cr)(v:DoC dt)(o:StC st)(u:SmC z)(j:ToC to):CuC (uf ti cr dt st z to):=by
 intro h L a b c d e Q E U hs k;have t:=hs a (by simp);have s:=hs b (by simp);have sc:=hs c (by simp);have r:=hs d (by simp);have G:=hs e (by simp);have i:=bQ t s;have g:=bQ sc r;have f:=bQ t sc;have Y:=bQ s r;have O:∀{p q:Tr}{h:Gh}{R:WK},CV 2000 p->CV 2000 q->R (c3 L (crs p q)) h->cr [c3 L p,c3 L q] h R E:=λsp A x=>w U (by decide) (by decide) sp A x
 have J:∀{p:Tr}{h:Gh}{R:WK},CV 4001 p->R (cs L (dt3 p e)) h->dt [c3 L p,c3 L e] h R E:=λsp x=>v U (by decide) (by decide) sp G x
 refine iz rfl (σ:=[AP<|.lst [c3 L a,c3 L b,c3 L c,c3 L d,c3 L e],Af,Af,Af,Af,Af,Af]) rfl ?_;rfl'
 refine O t s ?_;rfl'
 refine O sc r ?_;rfl'
 refine O t sc ?_;rfl'
 refine O s r ?_;rfl'
 refine J i ?_;rfl'
 refine J g ?_;rfl'
 refine l U (m:=6003) (n:=6003) (by decide) (by decide) (bY i G) (bY g G) ?_;rfl'
 refine J f ?_;rfl'
 refine J Y ?_;rfl'
 refine l U (m:=6003) (n:=6003) (by decide) (by decide) (bY f G) (bY Y G) ?_;rfl'
 refine j U (m:=4001) (n:=4001) (by decide) (by decide) f Y ?_;rfl'
 refine o (as:=Ka (dN (crs a c)<|crs b d)) U (m:=8003) (n:=12006) (by decide) (by decide) (Em 6) (pL f Y) ((bY i G).mul (bY g G)) ?_;rfl'
 refine j U (m:=4001) (n:=4001) (by decide) (by decide) i g ?_;rfl'
 refine o (as:=Ka (dN (crs a b)<|crs c d)) U (m:=8003) (n:=12006) (by decide) (by decide) (Em 6) (pL i g) ((bY f G).mul (bY Y G)) ?_;rfl'
 refine u (as:=(Ka<|dN (crs a c)<|crs b d).map (· * (dt3 (crs a b) e*dt3 (crs c d) e))) (bs:=(Ka<|dN (crs a b)<|crs c d).map (· * (dt3 (crs a c) e*dt3 (crs b d) e))) (n:=20009) (by decide) (Em 6) rfl (λx C=>?_) ?_;obtain⟨y,B,rfl⟩:=Ni.mp C;exact(pL i g y B).mul ((bY f G).mul (bY Y G));rfl'
 have D:cl L (List.zipWith (· - ·) ((Ka (dN (crs a c) (crs b d))).map (· * (dt3 (crs a b) e*dt3 (crs c d) e))) ((Ka (dN (crs a b) (crs c d))).map (· * (dt3 (crs a c) e*dt3 (crs b d) e))))=RN L (jx a b c d e):=by
  unfold jx Hx GK Df;rw[cD,cD];simp only[Yg (dt3 (crs a b) e*dt3 (crs c d) e),Yg (dt3 (crs a c) e*dt3 (crs b d) e)];rfl
 rw[D];exact k
abbrev PoC (c0:Aw):Prop:=∀{h:Gh}{L:Nat}{c:C6}{l:Tr}{Q:WK}{E:Ci},L<=8->J9 2000 c->CV 2000 l->Q (c3 L (sc (det (fJ c)) (vm (RG (fJ c)) l))) h->c0 [RN L c,c3 L l] h Q E
def aaN {st tr rt d:Aw}(a:StC st)(Y:TaC ta)(U:TrC tr)(b:RtC rt)(hsz:SzC d):PoC (wj st ta tr rt d):=by
 intro h L c l Q E J e hl k;have G:=cJ e;show Y ∅ e<|U J ∅ G<|b J ∅ ∅ (ux G) hl<|hsz J ∅ G ?_
 have O:=rT (ux G) hl;show a (as:=[(vm _ l).1,(vm _ l).2.1,(vm _ l).2.2]) J (m:=6005) ∅ ∅ (by simp) (λa f=>?_) (bY (bQ G.1 G.2.1) G.2.2) ?_;simp at f;rcases f with rfl|rfl|rfl
 show O.1;show O.2.1;show O.2.2;show k
def rP {k c}(hc:J9 m c)(hp:CV n p)(hq:CV k q):Sm (n+(m+1+k+2)+2) (pom c p q):=bY hp (rT (cJ hc) hq)
abbrev OtC (c0:Aw):Prop:=∀{h:Gh}{L:Nat}{c:C6}{p q:Tr}{Q:WK}{E:Ci},L<=8->J9 2000 c->CV 2000 p->CV 2000 q->Q (c3 L (Kg (pom c q q) p (-(2*pom c p q)) q)) h->c0 [RN L c,c3 L p,c3 L q] h Q E
def alk {st l u v}(O:StC st)(i:SmC l)(j:DbC u)(g:TaC ta)(Y:BoC v):OtC (sU st l u ta v):=by
 intro h L c p q Q E f U d G k;have o:=cJ U;have J:∀{m:Nat}{t:Tr},CV m t->∀a∈[t.1,t.2.1,t.2.2],Sm m a:=λ{m t} ht a s=>by
  simp only[M5,Qz,or_false]at s;rcases s with rfl|rfl|rfl
  exact ht.1;exact ht.2.1;exact ht.2.2
 rfl'
 refine g (by decide) U ?_;rfl'
 refine Y f (m:=2001) (n:=2000) (k:=2000) (by decide) (by decide) (by decide) o G G ?_;rfl'
 refine Y f (m:=2001) (n:=2000) (k:=2000) (by decide) (by decide) (by decide) o d G ?_;rfl'
 refine j (n:=6005) (by decide) (rP U d G) ?_;rfl'
 refine O (as:=[p.1,p.2.1,p.2.2]) f (m:=2000) (n:=6005) (by decide) (by decide) (by simp) (J d) (rP U G G) ?_;rfl'
 have r:Sm 6069 (2*pom c p q):=(Sm.mul (m:=64) (.lit rfl) (rP U d G))
 refine O (as:=[q.1,q.2.1,q.2.2]) f (m:=2000) (n:=6069) (by decide) (by decide) (by simp) (J G) r ?_;rfl'
 refine i (as:=[p.1,p.2.1,p.2.2].map (· * pom c q q)) (bs:=[q.1,q.2.1,q.2.2].map (· * (2*pom c p q))) (n:=8069) (by decide) (by simp) rfl (λx z=>?_) ?_;obtain⟨y,w,rfl⟩:=Ni.mp z;exact(J G y w).mul r;rfl'
 have e:∀x y a b:Int,x*a-y*(2*b)=a*x + -(2*b)*y:=λx y a b=>by grind
 have A:cl L (List.zipWith (· - ·) ([p.1,p.2.1,p.2.2].map (· * pom c q q)) ([q.1,q.2.1,q.2.2].map (· * (2*pom c p q))))=c3 L (Kg (pom c q q) p (-(2*pom c p q)) q):=by
  change W.tup [cs L (p.1*pom c q q-q.1*(2*pom c p q)),cs L (p.2.1*pom c q q-q.2.1*(2*pom c p q)),cs L (p.2.2*pom c q q-q.2.2*(2*pom c p q))]=_;rw[e,e,e];rfl
 rw[A];exact k
abbrev ahK (L:Nat)(x:Str)(us:List W)(r:W):Prop:=
 (∃p q,(x = "join"\/x = "meet")/\us=[c3 L p,c3 L q]/\CV 2000 p/\CV 2000 q/\r=c3 L (crs p q)) \/
 (∃a b c d e,x = "curve"/\us=[c3 L a,c3 L b,c3 L c,c3 L d,c3 L e]/\(∀t∈[a,b,c,d,e],CV 2000 t)/\r=RN L (jx a b c d e)) \/
 (∃C p,x = "about"/\us=[RN L C,c3 L p]/\J9 2000 C/\CV 2000 p/\r=c3 L (vm (fJ C) p)) \/
 (∃C l,x = "pole"/\us=[RN L C,c3 L l]/\J9 2000 C/\CV 2000 l/\r=c3 L (sc (det (fJ C)) (vm (RG (fJ C)) l))) \/
 ∃C p q,x = "other"/\us=[RN L C,c3 L p,c3 L q]/\J9 2000 C/\CV 2000 p/\CV 2000 q/\r=c3 L (Kg (pom C q q) p (-(2*pom C p q)) q)
abbrev RaC (c0:Aw):Prop:=∀{h:Gh}{L k:Nat}{rws G us:List W}{x:Str}{js:List Nat}{r:W}{Q:WK}{E:Ci},L<=8->rws[k]?=AP (vB x js)->Told G js us->ahK L x us r->Q r h->c0 [.lst rws,.lst G,.int (k:Int)] h Q E
def agN {rt cu po ot:Aw}(hcr:CrC cr)(hta:TaC ta)(hrt:RtC rt)(hcu:CuC cu)(hpo:PoC po)(hot:OtC ot):RaC (adP cr ta rt cu po ot):=by
 intro h L k rws sm us x js r Q E hL er td S q;have ixr:∀{h:Gh}{R:WK},R (vB x js) h->Bq (.lst rws) (.int (k:Int)) h R:=λy=>dg (ws:=rws) rfl (bR er) y
 have l5:js.length<=100:=by
  rw[td.len];rcases S with⟨_,_,_,rfl,_⟩|⟨_,_,_,_,_,_,rfl,_⟩|⟨_,_,_,rfl,_⟩|⟨_,_,_,rfl,_⟩|⟨_,_,_,_,rfl,_⟩<;>simp
 refine iz rfl (σ:=[AP<|.lst rws,AP<|.lst sm,AP<|.int (k:Int),Af,Af]) rfl<|aO<|bA<|aM<|aM<|aq rfl<|aq rfl<|ixr<|bZ<|Ms ?_
 refine nV<|bV ?_
 refine aO<|bA<|jt<|gK<|zf<|aM<|aq rfl<|aq rfl<|ixr<|jm<|bZ<|T8<|dF<|uh<|rm (ws:=js.map λj:Nat=>W.int (j:Int)) (o:=Af) rfl<|aav rfl rfl td l5 ?_
 refine nV<|bV ?_
 rcases S with⟨p,q',hx,rfl,sp,sq,rfl⟩|⟨a,b,c,d,e,rfl,rfl,hs,rfl⟩|⟨C,p,rfl,rfl,hC,sp,rfl⟩|⟨C,l,rfl,rfl,hC,sl,rfl⟩|⟨C,p,q',rfl,rfl,hC,sp,sq,rfl⟩
 ·have nb:∀y:Str,(y = "curve"\/y = "about"\/y = "pole"\/y = "other")->decide (x=y)=false:=λy hy=>by
   rcases hx with rfl|rfl<;>rcases hy with rfl|rfl|rfl|rfl<;>decide +kernel
  refine aO<|dR<|bJ<|aM<|aq rfl<|bZ<|pH<|pB<|gM (nb _<|.inl rfl)<|cO<|bV ?_
  refine aO<|dR<|bJ<|aM<|aq rfl<|bZ<|pH<|pB<|gM (nb _<|.inr<|.inl rfl)<|cO<|bV ?_
  unfold yD;refine aO<|dR<|bJ<|aM<|aq rfl<|bZ<|pH<|pB<|gM (nb _<|.inr<|.inr<|.inl rfl)<|cO<|bV ?_
  unfold Fl;refine aO<|dR<|bJ<|aM<|aq rfl<|bZ<|pH<|pB<|gM (nb _<|.inr<|.inr<|.inr rfl)<|cO<|bV ?_
  unfold RJ;rfl'
  refine hcr hL (by decide) (by decide) sp sq ?_;rfl'
  exact q
 ·rfl'
  refine rG (by decide +kernel) ?_;rfl'
  refine hcu hL hs ?_;rfl'
  exact q
 ·rfl'
  refine gM (by decide +kernel) ?_;rfl'
  unfold yt;rfl'
  refine rG (by decide +kernel) ?_;rfl'
  refine hta (by decide) hC ?_;rfl'
  refine hrt hL (m:=2001) (n:=2000) (by decide) (by decide) (cJ hC) sp ?_;rfl'
  exact q
 ·rfl'
  refine gM (by decide +kernel) ?_;rfl'
  unfold yt;rfl'
  refine gM (by decide +kernel) ?_;rfl'
  unfold yD;rfl'
  refine rG (by decide +kernel) ?_;rfl'
  refine hpo hL hC sl ?_;rfl'
  exact q
 ·rfl'
  refine gM (by decide +kernel) ?_;rfl'
  unfold yt;rfl'
  refine gM (by decide +kernel) ?_;rfl'
  unfold yD;rfl'
  refine gM (by decide +kernel) ?_;rfl'
  unfold Fl;rfl'
  refine rG (by decide +kernel) ?_;rfl'
  refine hot hL hC sp sq ?_;rfl'
  exact q
abbrev TeC (c0:Aw):Prop:=∀{h:Gh}{L k:Nat}{rws sm:List W}{js:List Nat}{C:C6}{p q:Tr}{Q:WK}{E:Ci},L<=8->rws[k]?=AP (vB "other" js)->Told sm js [RN L C,c3 L p,c3 L q]->J9 2000 C->CV 2000 p->Q (cs L (pom C p p)) h->c0 [.lst rws,.lst sm,.int (k:Int)] h Q E
def agA {g}(O:TaC ta)(U:BoC g):TeC (aeX ta g):=by
 intro h L k rws J js C p q Q E j n td f sp x;obtain⟨e,d,Y,rfl⟩:∃e d Y,js=[e,d,Y]:=by
  match js,td.len with
  | [a,b,c],_=>show⟨a,b,c,rfl⟩
 obtain⟨_,o,g0⟩:=td.at (i:=0) rfl;obtain⟨_,e1,l⟩:=td.at (i:=1) rfl;cases o;cases e1;have G:∀{h:Gh}{R:WK},R _ h->Bq (.lst rws) _ h R:=λy=>dg (ws:=rws) rfl (bR n) y
 show iz rfl (σ:=[AP<|.lst rws,AP<|.lst J,AP _,Af]) rfl<|aO<|bA<|aM<|aq rfl<|aM<|aM<|aq rfl<|aq rfl<|G<|bZ<|dg rfl rfl<|dg (ws:=J) rfl (bR l) ?_
 show nV<|bV ?_
 show bU<|aU<|aB<|aU<|aB<|aM<|aq rfl<|aM<|aM<|aq rfl<|aq rfl<|G<|bZ<|dg rfl rfl<|dg (ws:=J) rfl (bR g0) ?_
 show O ∅ f ?_;show U j (m:=2001) (k:=2000) ∅ ∅ ∅ (cJ f) sp sp ?_;show x
@[reducible]noncomputable def z6:C6:=(0,0,0,0,0,0)
def Im (h)(o):Df h h o o=z6:=by simp[Df]
def afa (o n):Df 0 0 o n=z6:=by simp[Df]
def Az (a b c d e:Tr)(h1:dt3 (crs a b) e=0\/dt3 (crs c d) e=0)(h2:dt3 (crs a c) e=0\/dt3 (crs b d) e=0):jx a b c d e=z6:=by
 unfold jx Hx GK;rw[cD,cD];have e1:dt3 (crs a b) e*dt3 (crs c d) e=0:=by rcases h1 with h|h<;>rw[h]<;>simp
 have e2:dt3 (crs a c) e*dt3 (crs b d) e=0:=by rcases h2 with h|h<;>rw[h]<;>simp
 rw[e1,e2];show afa _ _
def abZ {w}(h:crs u w=(0,0,0))(e):w.1*dt3 u e=u.1*dt3 w e/\w.2.1*dt3 u e=u.2.1*dt3 w e/\w.2.2*dt3 u e=u.2.2*dt3 w e:=by
 simp[crs]at h;simp[dt3];grind
def agQ {a c}(e)(h1:crs (crs a b) (crs a c)=(0,0,0))(h2:crs (crs c d) (crs b d)=(0,0,0)):jx a b c d e=z6:=by
 unfold jx Hx GK;rw[cD,cD];obtain⟨l,k,j⟩:=abZ h1 e;obtain⟨i,h,g⟩:=abZ h2 e;generalize crs a b=u at *;generalize crs a c=w at *;generalize crs c d=v at *;generalize crs b d=z at *;generalize dt3 u e=U at *;generalize dt3 w e=W at *;generalize dt3 v e=V at *;generalize dt3 z e=Z at *;have G:∀{x y p q:Int},x*U=y*W->p*V=q*Z->U*V*(x*p)=W*Z*(y*q):=λ{x y p q} g1 J=>by
  grind
 have two:∀{x y p q O y' p' Y:Int},x*U=y*W->p*V=q*Z->O*U=y'*W->p'*V=Y*Z->U*V*(x*p+O*p')-W*Z*(y*q+y'*Y)=0:=λg1 J n m=>by
  grind
 have f:∀{x y p q:Int},x*U=y*W->p*V=q*Z->U*V*(x*p)-W*Z*(y*q)=0:=λg1 J=>by rw[G g1 J];lia
 simp[Df,dN]
 simp_all
def abO {a c}(h:dt3 (crs a b) c=0):crs (crs a b) (crs a c)=(0,0,0):=by
 simp[crs,dt3]at *;grind
def alM {c}(h:dt3 (crs b c) d=0):crs (crs c d) (crs b d)=(0,0,0):=by
 simp[crs,dt3]at *;grind
def afp (a b):dt3 (crs a b) a=0:=by simp[crs,dt3];grind
def afJ (a b:Tr):dt3 (crs a b) b=0:=by simp[crs,dt3];grind
def ach (t)(o):Df 0 t o z6=z6:=by simp[Df]
def ab9 (h)(n):Df h 0 z6 n=z6:=by simp[Df]
def p6l (q):dN (0,0,0) q=z6:=by simp[dN]
def p6r (q):dN q (0,0,0)=z6:=by simp[dN]
def wz (e):Gb z6 e=0:=by simp[Gb]
def anA {a c:Tr}(h:¬[a,b,c,d,e].Nodup):jx a b c d e=z6:=by
 have j:dN (crs a c) (crs b a)=dN (crs a b) (crs c a):=by
  simp[dN,crs,Prod.mk.injEq];show{?_,?_,?_,?_,?_,?_}<;>grind
 by_cases ab:a=b
 subst ab;unfold jx Hx;rw[cr0,p6l,wz];show ach _ _;by_cases O:c=d
 subst O;unfold jx Hx;rw[cr0,p6r,wz];show ach _ _;by_cases i:a=c
 subst i;unfold jx GK;rw[cr0,p6l,wz];show ab9 _ _;by_cases Y:b=d
 subst Y;unfold jx GK;rw[cr0,p6r,wz];show ab9 _ _;by_cases f:b=c
 subst f;show Im _ _;by_cases ad:a=d
 subst ad;unfold jx Hx GK;rw[j];show Im _ _;by_cases g:a=e
 subst g;show Az _ _ _ _ _ (.inl (afp _ _)) (.inl (afp _ _));by_cases U:b=e
 subst U;show Az _ _ _ _ _ (.inl (afJ _ _)) (.inr (afp _ _));by_cases J:c=e
 subst J;show Az _ _ _ _ _ (.inr (afp _ _)) (.inl (afJ _ _));by_cases G:d=e
 subst G;show Az _ _ _ _ _ (.inr (afJ _ _)) (.inr (afJ _ _));show absurd ?_ h;simp;show{⟨ab,i,ad,g⟩,⟨f,Y,U⟩,⟨O,J⟩,G}
def uX {r}(h:mW ts=true)(O:p∈ts)(J:q∈ts)(G:r∈ts):dt3 (crs p q) r=0:=fl4 h (λ_ z=>z) r G p O q J
def aln {a c}(z:¬([a,b,c,d,e].Nodup/\Kq [a,b,c,d,e]=false)):jx a b c d e=z6:=by
 by_cases nd:[a,b,c,d,e].Nodup
 have f:Kq [a,b,c,d,e]=true:=by
  simp_all
 rw[af7]at f;simp at f;rcases f with f|f|f|f|f
 exact agQ e (abO<|uX f (by simp) (by simp)<|by simp)<|alM<|uX f (by simp) (by simp)<|by simp
 exact Az _ _ _ _ _ (.inl<|uX f (by simp) (by simp)<|by simp)<|.inl<|uX f (by simp) (by simp)<|by simp
 exact Az _ _ _ _ _ (.inl<|uX f (by simp) (by simp)<|by simp)<|.inr<|uX f (by simp) (by simp)<|by simp
 exact Az _ _ _ _ _ (.inr<|uX f (by simp) (by simp)<|by simp)<|.inl<|uX f (by simp) (by simp)<|by simp
 exact Az _ _ _ _ _ (.inr<|uX f (by simp) (by simp)<|by simp)<|.inr<|uX f (by simp) (by simp)<|by simp
 exact anA nd
def HJ (a b)(p q):dN (sc a p) (sc b q)=kC (a*b) (dN p q):=by
 simp[dN,sc,kC];grind
def acr (s k)(h t)(o n):Df (h*s) (t*s) (kC k o) (kC k n)=kC (s*k) (Df h t o n):=by
 simp[Df,kC];grind
def Ol (k1 k2 k3 G k5)(a b c d e):jx (sc k1 a) (sc k2 b) (sc k3 c) (sc G d) (sc k5 e)=kC (k1*k2*k3*G*k5*k5*(k1*k2*(k3*G))) (jx a b c d e):=by
 unfold jx Hx GK;rw[cD,cD,cD,cD,jw,jw,jw,jw,HJ,HJ,jR,jR,jR,jR,iw,iw,iw,iw,<-acr];congr 1<;>grind
def Nt (k l:Int)(C:C6)(p:Tr):vm (fJ (kC k C)) (sc l p)=sc (k*l) (vm (fJ C) p):=by
 simp[vm,fJ,kC,sc,dt3];grind
def KY (k l m)(C)(p q):pom (kC k C) (sc l p) (sc m q)=pom C p q*(k*m*l):=by
 unfold pom;rw[Nt,jR,iw];grind
def af2 (k l)(M)(p):vm (RG (sM k M)) (sc l p)=sc (k*k*l) (vm (RG M) p):=by
 simp[RG,sM,jw];simp[vm,jR,iw];simp[sc];grind
def aeH (k l m x y)(p q):Kg (x*(k*m*m)) (sc l p) (-(2*(y*(k*m*l)))) (sc m q)=sc (k*l*m*m) (Kg x p (-(2*y)) q):=by
 simp[Kg,sc];grind
abbrev Vn (L:Nat)(w u:W):Prop:=∃b:Int,b≠0/\Sm 2 b/\((∃t:Tr,w=tw t/\u=c3 L (sc b t)/\Pl t/\CV 1581 t)\/∃C:C6,w=Ks C/\u=RN L (kC b C)/\J9 1581 C)
def ahe {b t}(G:Sm 2 b)(h:CV m t):CV (m+2) (sc b t):={h.1.mul G,h.2.1.mul G,h.2.2.mul G}
def MN {b:Int}{c:C6}(hb:Sm 2 b)(h:J9 m c):J9 (m+2) (kC b c):=⟨h.1.mul hb,h.2.1.mul hb,h.2.2.1.mul hb,h.2.2.2.1.mul hb,h.2.2.2.2.1.mul hb,h.2.2.2.2.2.mul hb⟩
def Ti {c d}(h:Ks c=Ks d):c=d:=by
 obtain⟨a,b,c,d,e,f⟩:=c;simp[Ks]at h;grind
def Ob {c}(h:tw p=Ks c):False:=by simp[tw,Ks]at h
inductive ThT (L:Nat) (p:Tr) (u:W):Prop
 | mk (b:Int) (z:b≠0) (e:u=c3 L (sc b p)) (pp:Pl p) (s:CV 1583 (sc b p)) (t:Sm 2 b)
inductive ThC (L:Nat) (C:C6) (u:W):Prop
 | mk (b:Int) (z:b≠0) (e:u=RN L (kC b C)) (s:J9 1583 (kC b C)) (t:Sm 2 b)
def Vn.t {L p u}(h:Vn L (tw p) u):ThT L p u:=by
 obtain⟨b,O,G,⟨t,e,rfl,J,st⟩|⟨C,e,_⟩⟩:=h;cases SQ e
 show{b,O,rfl,J,ahe G st,G};show(Ob e).elim
def Vn.c {u:W}(h:Vn L (Ks C) u):ThC L C u:=by
 obtain⟨b,O,G,⟨t,e,_⟩|⟨D,e,rfl,J⟩⟩:=h;exact(Ob e.symm).elim;cases Ti e
 exact⟨b,O,rfl,MN G J,G⟩
abbrev Tms (L:Nat)(w r:W):Prop:=∃k:Int,k≠0/\((∃t:Tr,w=tw t/\Pl t/\r=c3 L (sc k t))\/∃C:C6,w=Ks C/\Nk (Ka C)/\r=RN L (kC k C))
abbrev Nou (L:Nat)(r:W):Prop:=r=c3 L (0,0,0)\/r=RN L z6
abbrev Due (L:Nat)(x:Str)(us:List W)(o:Option W):Prop:=∃r,ahK L x us r/\(∃as:List Int,as.length<=6/\r=cl L as/\∀a∈as,Sm 8000 a) /\
 (x ≠ "other"->match o with|some w=>Tms L w r|none=>Nou L r) /\
 (x = "other"->∃C p q,us=[RN L C,c3 L p,c3 L q]/\J9 2000 C/\CV 2000 p/\match o with|some w=>pom C p p=0/\Tms L w r|none=>pom C p p≠0\/Nou L r)
def ab7 {v}(k0:k≠0)(h:Le u v):∃l,l≠0/\sc k u=sc l v:=by
 obtain⟨j,G,rfl⟩:=h;show{j*k,Ph G k0,aeg _ _ _}
def ag9 (k):sc k (0,0,0)=(0,0,0):=by simp[sc]
def ah9 (k:Int):kC k z6=z6:=by simp[kC]
def ag6 (a b)(c):kC a (kC b c)=kC (b*a) c:=by simp[kC,Int.mul_assoc]
def yN (C)(p):pom C p p=2*Gb C p:=by
 simp[pom,Gb,dt3,vm,fJ];grind
def aaR (h:InC C (Rx (crs p q)))(J:Le (crs p q) (Rx (crs p q))):pom C p q=0/\pom C q q=0:=by
 obtain⟨U,O⟩:=Ez J;have w1:=h p U;have G:=h q O;have Y:=h (p.1+q.1,p.2.1+q.2.1,p.2.2+q.2.2) (by simp[dt3]at *;grind);show{?_,by rw[yN,G];rfl};have e:Gb C (p.1+q.1,p.2.1+q.2.1,p.2.2+q.2.2)=Gb C p+Gb C q+pom C p q:=by
  simp[pom,Gb,dt3,vm,fJ];grind
 lia
def tX {k b t}(G:Sm k b)(h:CV m t):CV (m+k) (sc b t):=⟨h.1.mul G,h.2.1.mul G,h.2.2.mul G⟩
def RT {k l x y}(hx:Sm k x)(hy:Sm l y)(hp:CV m p)(hq:CV n q):CV (max (k+m) (l+n)+1) (Kg x p y q):=
 {(hx.mul hp.1).add (hy.mul hq.1),(hx.mul hp.2.1).add (hy.mul hq.2.1),(hx.mul hp.2.2).add (hy.mul hq.2.2)}
def R0 {a c:Tr}(hs:∀t∈[a,b,c,d,e],CV 660 t):∀x∈Ka (jx a b c d e),Sm 8000 x:=by
 have sa:=hs a (by simp);have sb:=hs b (by simp);have sc:=hs c (by simp);have sd:=hs d (by simp);have se:=hs e (by simp);have x1:=bQ sa sb;have x2:=bQ sc sd;have x3:=bQ sa sc;have x4:=bQ sb sd;have key:∀{o n:Int},o∈Ka _->n∈Ka _->Sm 8000 _:=λho hn=>
  (((((bY x1 se).mul (bY x2 se)).mul (pL x3 x4 _ ho)).sub (((bY x3 se).mul (bY x4 se)).mul (pL x1 x2 _ hn)))).mono ∅
 intro x hx;unfold jx Hx GK at hx;rw[cD,cD]at hx;simp[Ka]at hx;rcases hx with rfl|rfl|rfl|rfl|rfl|rfl<;>show key (by simp[Ka]) (by simp[Ka])
def CV.at {m t}(h:CV m t):∀a∈[t.1,t.2.1,t.2.2],Sm m a:=λa G=>by
 simp at G;rcases G with rfl|rfl|rfl
 exact h.1;exact h.2.1;exact h.2.2
def aej {a c}{Y U O J G}(hz:∀t,tw t∈[tw a,tw b,tw c,tw d,tw e]->CV 657 t)(j:Sm 2 Y)(i:Sm 2 U)(h:Sm 2 O)(g:Sm 2 J)(f:Sm 2 G):∀t∈[sc Y a,sc U b,sc O c,sc J d,sc G e],CV 660 t:=by
 intro t ht;simp at ht;rcases ht with rfl|rfl|rfl|rfl|rfl
 exact(tX j<|hz a<|by simp).mono (by decide);exact(tX i<|hz b<|by simp).mono (by decide);exact(tX h<|hz c<|by simp).mono (by decide);exact(tX g<|hz d<|by simp).mono (by decide);exact(tX f<|hz e<|by simp).mono (by decide)
def acN {o}(O:Out x ws o)(h:Qv (Vn L) ws us)(hz:x = "curve"->∀t,tw t∈ws->CV 657 t)(hp:x = "pole"->∀C,Ks C∈ws->J9 756 C):Due L x us o:=by
 have B:∀{m:Nat}{t:Tr},CV m t->m<=8000->∃as:List Int,as.length<=6/\c3 L t=cl L as/\∀a∈as,Sm 8000 a:=λ{m t} ht hm=>{[t.1,t.2.1,t.2.2],by simp,rfl,λa ha=>(ht.at a ha).mono hm}
 have n6:∀{c:C6},(∀x∈Ka c,Sm 8000 x)->∃as:List Int,as.length<=6/\RN L c=cl L as/\∀a∈as,Sm 8000 a:=λ{c} hc=>{Ka c,Em 6,rfl,hc}
 have i:∀{t:Tr},CV 1583 t->CV 2000 t:=λh=>h.mono ∅
 have j:∀{c:C6},J9 1583 c->J9 2000 c:=λh=>h.mono ∅
 have r:∀{k:Int}{u v:Tr},k≠0->Le u v->Pl v->Tms L (tw v) (c3 L (sc k u)):=λk0 pa pv=>by
  obtain⟨l,l0,e⟩:=ab7 k0 pa;show{l,l0,.inl {_,rfl,pv,by rw[e]}}
 cases O with
 | @join p q P=>
  cases h with|cons h1 h=>cases h with|cons h2 h=>
  cases h;obtain⟨A,Y,rfl,K,U,I⟩:=h1.t;obtain⟨s,g,rfl,p2,J,n⟩:=h2.t;obtain⟨E,D⟩:=lO (iT K p2 P);show{_,.inl {_,_,.inl rfl,rfl,i U,i J,rfl},B (bQ U J)<|∅,λ_=>?_,λe=>absurd e<|by decide +kernel};rw[jw];show r (Ph Y g) D E
 | @joinN p=>
  cases h with|cons h1 h=>cases h with|cons h2 h=>
  cases h;obtain⟨A,Y,rfl,K,U,I⟩:=h1.t;obtain⟨s,g,rfl,p2,J,n⟩:=h2.t;show{_,.inl {_,_,.inl rfl,rfl,i U,i J,rfl},B (bQ U J)<|∅,λ_=>.inl ?_,λe=>absurd e<|by decide +kernel};rw[jw,cr0,ag9]
 | @meet p q P=>
  cases h with|cons h1 h=>cases h with|cons h2 h=>
  cases h;obtain⟨A,Y,rfl,K,U,I⟩:=h1.t;obtain⟨s,g,rfl,p2,J,n⟩:=h2.t;obtain⟨E,D⟩:=lO (iT K p2 P);show{_,.inl {_,_,.inr rfl,rfl,i U,i J,rfl},B (bQ U J)<|∅,λ_=>?_,λe=>absurd e<|by decide +kernel};rw[jw];show r (Ph Y g) D E
 | @meetN p=>
  cases h with|cons h1 h=>cases h with|cons h2 h=>
  cases h;obtain⟨A,Y,rfl,K,U,I⟩:=h1.t;obtain⟨s,g,rfl,p2,J,n⟩:=h2.t;show{_,.inl {_,_,.inr rfl,rfl,i U,i J,rfl},B (bQ U J)<|∅,λ_=>.inl ?_,λe=>absurd e<|by decide +kernel};rw[jw,cr0,ag9]
 | @curve a b c d e G=>
  cases h with|cons h1 h=>cases h with|cons h2 h=>cases h with|cons M h=>cases h with|cons h4 h=>cases h with|cons h5 h=>
  cases h;obtain⟨A,Y,rfl,K,U,I⟩:=h1.t;obtain⟨s,g,rfl,p2,J,n⟩:=h2.t;obtain⟨b3,F,rfl,N,f,Q⟩:=M.t;obtain⟨b4,W,rfl,p4,s4,Z⟩:=h4.t;obtain⟨b5,V,rfl,p5,s5,X⟩:=h5.t;have S:=aej (hz rfl) I n Q Z X;obtain⟨k,k0,ek,pk⟩:=Xm G;show{_,.inr<|.inl {_,_,_,_,_,rfl,rfl,λt ht=>(S t ht).mono ∅,rfl},n6<|R0 S,λ_=>?_,λe=>absurd e<|by decide +kernel};rw[Ol,ek,ag6];show{_,?_,.inr {_,rfl,pk,rfl}};have m:∀{x y:Int},x≠0->y≠0->x*y≠0:=λu v=>Ph u v
  show m k0<|m (m (m (m (m (m Y g) F) W) V) V)<|m (m Y g)<|m F W
 | @curveN a b c d e z=>
  cases h with|cons h1 h=>cases h with|cons h2 h=>cases h with|cons M h=>cases h with|cons h4 h=>cases h with|cons h5 h=>
  cases h;obtain⟨A,Y,rfl,K,U,I⟩:=h1.t;obtain⟨s,g,rfl,p2,J,n⟩:=h2.t;obtain⟨b3,F,rfl,N,f,Q⟩:=M.t;obtain⟨b4,W,rfl,p4,s4,Z⟩:=h4.t;obtain⟨b5,V,rfl,p5,s5,X⟩:=h5.t;have S:=aej (hz rfl) I n Q Z X;show{_,.inr<|.inl {_,_,_,_,_,rfl,rfl,λt ht=>(S t ht).mono ∅,rfl},n6<|R0 S,λ_=>.inr ?_,λe=>absurd e<|by decide +kernel};rw[Ol,aln z,ah9]
 | @about C p n0=>
  cases h with|cons h1 h=>cases h with|cons h2 h=>
  cases h;obtain⟨A,Y,rfl,U,H⟩:=h1.c;obtain⟨s,g,rfl,p2,J,n⟩:=h2.t;obtain⟨E,D⟩:=lO n0;show{_,.inr<|.inr<|.inl {_,_,rfl,rfl,j U,i J,rfl},B (rT (cJ U) J)<|∅,λ_=>?_,λe=>absurd e<|by decide +kernel};rw[Nt];show r (Ph Y g) D E
 | @aboutN C p z=>
  cases h with|cons h1 h=>cases h with|cons h2 h=>
  cases h;obtain⟨A,Y,rfl,U,H⟩:=h1.c;obtain⟨s,g,rfl,p2,J,n⟩:=h2.t;show{_,.inr<|.inr<|.inl {_,_,rfl,rfl,j U,i J,rfl},B (rT (cJ U) J)<|∅,λ_=>.inl ?_,λe=>absurd e<|by decide +kernel};rw[Nt,z,ag9]
 | @pole C l T=>
  cases h with|cons h1 h=>cases h with|cons h2 h=>
  cases h;obtain⟨A,Y,rfl,U,H⟩:=h1.c;obtain⟨s,g,rfl,p2,J,n⟩:=h2.t;have f:=MN H (hp rfl C (by simp));obtain⟨E,D⟩:=lO (aaf (Fe T) p2.ne);show{_,.inr<|.inr<|.inr<|.inl {_,_,rfl,rfl,j U,i J,rfl},B (tX (bY (bQ (cJ f).1 (cJ f).2.1) (cJ f).2.2)<|rT (ux<|cJ f) J)<|∅,λ_=>?_,λe=>absurd e<|by decide +kernel};rw[abJ,af2,RL,aeg,wU];show r (Ph (Ph (Ph Y Y) g)<|Ph T<|Ph (Ph Y Y) Y) D E
 | @poleN C l T=>
  cases h with|cons h1 h=>cases h with|cons h2 h=>
  cases h;obtain⟨A,Y,rfl,U,H⟩:=h1.c;obtain⟨s,g,rfl,p2,J,n⟩:=h2.t;have f:=MN H (hp rfl C (by simp));show{_,.inr<|.inr<|.inr<|.inl {_,_,rfl,rfl,j U,i J,rfl},B (tX (bY (bQ (cJ f).1 (cJ f).2.1) (cJ f).2.2)<|rT (ux<|cJ f) J)<|∅,λ_=>.inl ?_,λe=>absurd e<|by decide +kernel};rw[abJ,RL,T,Int.zero_mul];simp[sc]
 | @other C p q P w0 ni=>
  cases h with|cons h1 h=>cases h with|cons h2 h=>cases h with|cons M h=>
  cases h;obtain⟨A,Y,rfl,U,H⟩:=h1.c;obtain⟨s,g,rfl,p2,J,n⟩:=h2.t;obtain⟨b3,F,rfl,N,f,Q⟩:=M.t;obtain⟨E,D⟩:=lO (iT p2 N P);obtain⟨o1,o2⟩:=RM ni w0 p2 N E P D;show{_,.inr<|.inr<|.inr<|.inr {_,_,_,rfl,rfl,j U,i J,i f,rfl},B (RT (rP U f f) (Sm.neg<|Sm.mul (m:=64) (.lit rfl)<|rP U J f) J f)<|∅,λe=>absurd rfl e,λ_=>{_,_,_,rfl,j U,i J,?_,?_}};rw[KY,yN,w0];simp;rw[KY,KY,aeH];show r (Ph (Ph (Ph Y g) F) F) o2 o1.1
 | @otherN C p q z=>
  cases h with|cons h1 h=>cases h with|cons h2 h=>cases h with|cons M h=>
  cases h;obtain⟨A,Y,rfl,U,H⟩:=h1.c;obtain⟨s,g,rfl,p2,J,n⟩:=h2.t;obtain⟨b3,F,rfl,N,f,Q⟩:=M.t;show{_,.inr<|.inr<|.inr<|.inr {_,_,_,rfl,rfl,j U,i J,i f,rfl},B (RT (rP U f f) (Sm.neg<|Sm.mul (m:=64) (.lit rfl)<|rP U J f) J f)<|∅,λe=>absurd rfl e,λ_=>{_,_,_,rfl,j U,i J,?_}};change _\/_;rw[KY,KY,KY,aeH];by_cases w:Gb C p=0
  show .inr<|.inl ?_
  have R:pom C p q=0/\pom C q q=0:=by
   by_cases e:p=q
   subst e;rw[yN,w];show⟨rfl,rfl⟩;rcases z with z|z|z
   show absurd z e;show absurd w z;show aaR z (lO<|iT p2 N e).2
  rw[R.1,R.2];simp[Kg,sc];show .inl<|Ph ?_<|Ph (Ph Y g) g
  rw[yN];lia
def acJ {ns}(h:Qm (mF "curve") ns ws)(hw:wtF "curve" ns<=48):∀t,tw t∈ws->CV 657 t:=by
 obtain⟨n1,n2,n3,n4,n5,_,_,_,_,_,rfl,rfl,h1,h2,h3,h4,h5⟩:=h.five;rw[rF]at hw;have l1:=h1.pos;have l2:=h2.pos;have l3:=h3.pos;have l4:=h4.pos;have l5:=h5.pos;have key:∀{n:Nat}{w:W}{t:Tr},Tg "spot" n w->n<=20->tw t=w->CV 657 t:=λg hn e=>by
  obtain⟨u,rfl,_,su⟩:=g.t (by decide +kernel);cases SQ e
  show su.mono<|⋯
 grind
def adv {ns}(h:Qm (mF "pole") ns ws)(O:wtF "pole" ns<=48):∀C,Ks C∈ws->J9 756 C:=by
 obtain⟨n1,n2,_,_,rfl,rfl,h1,h2⟩:=h.two;rw[yL]at O;have U:=h2.pos;obtain⟨_,D,rfl,_,J⟩:=h1.c;obtain⟨u,rfl,_⟩:=h2.t (by decide +kernel);intro C G;simp at G;rcases G with e|e
 cases Ti e
 exact J.mono<|by lia
 exact(Ob e.symm).elim
def amf {G:List W}(t:Told gold js ws)(h:Qv (Vn L) gold G):∃us,Told G js us/\Qv (Vn L) ws us:=by
 have O:∀{gold G:List W},Qv _ gold G->∀{j:Nat}{w:W},gold[j]?=AP w->∃u,G[j]?=AP u/\Vn L w u:=λ{gold G} p=>by
  induction p with
  | nil=>intro j w e;simp at e
  | cons a _ J=>
   intro j w e;cases j with
   | zero=>cases e;show{_,rfl,a}
   | succ j=>show J e
 unfold Told at *;induction js generalizing ws with
 | nil=>
  cases ws with
  | nil=>show{[],rfl,.nil}
  | cons w ws=>simp at t
 | cons j js J=>
  cases ws with
  | nil=>simp at t
  | cons w ws=>
   obtain⟨Y,U⟩:=Vz t;obtain⟨us,e,p⟩:=J U;obtain⟨u,c,b⟩:=O h Y;show{u::us,by rw[KQ,KQ,c,e],.cons b p}
def ajx (e:h.c n=AP (.lst us))(x:Q (.tup us) h):fK [.loc n] h Q:=by
 change(match view h (.loc n)with
  | some us=>Q _ h
  | none=>False)
 rwa[jg e]
abbrev ahW (c0:Aw):Prop:=∀{h:Gh}{L:Nat}{as:List Int}{Q:WK}{E:Ci},L<=8->as.length<=6->Q (.tup (as.map .int)) h->c0 [cl L as] h Q E
def acO (L):(zs L).sum=0:=by
 unfold zs
 simp_all
def alj:ahW sH:=by
 intro h L as Q E l hl q;refine oF rfl (σ:=[AP<|cl L as,Af,Af]) rfl<|aO<|bA<|jJ (ws:=[]) (λR=>rfl) rfl λg g d j=>?_
 refine iG (λi σ h'=>∃J:Option W,σ=[AP<|cl L as,AP<|.loc h.nx,J]/\h'.c h.nx=AP (.lst<|(as.take i).map .int)/\∀n,n≠h.nx->h'.c n=h.c n) ?_ ?_ ⟨Af,rfl,g,d⟩
 ·rintro i w σ h' N f e ⟨J,rfl,e2,U⟩;rw[Kh]at e;cases O:as[i]? with
  | none=>rw[O]at e;cases e
  | some a=>
   rw[O]at e;cases e;have G:∀{g2:Gh},g2.c h.nx=AP (.lst ((as.take i).map .int++[.int a]))->(∀m,m≠h.nx->g2.c m=h'.c m)->N [AP (cl L as),AP (.loc h.nx),AP (cs L a)] g2:=λ{g2} a1 a2=>f _ _ ⟨_,rfl,by rw[a1,M4,O,NP];rfl,λn Y=>(a2 n Y).trans (U n Y)⟩
   by_cases z:a=0
   subst z;refine aO<|dR<|Yp<|bJ<|aM<|cN<|aB<|aq rfl<|aH<|dh (xs:=[]) rfl<|bZ<|wY<|pB<|gM (by decide)<|BZ<|bJ<|aM<|cN<|aB<|aq rfl<|aH<|dh (xs:=[]) rfl<|bZ<|O5<|pB<|gM (by decide)<|tR<|cO<|bV ?_
   refine eE<|jK<|aq rfl<|fZ e2<|aB<|cN<|aB<|jt<|gK<|aq rfl<|rm (ws:=[]) rfl<|mQ rfl<|oX<|aH<|Ho (ns:=[]) rfl rfl<|aH ?_
   exact uV e2 (by rw[Ds,U7];lia) λg2 a1 a2 a3=>bV<|G a1 a2
   ·have b:cs L a=.tup [.tup [zW L,.int a]]:=Tc z;rw[b]at G|-
    refine aO<|dR<|Yp<|bJ<|aM<|cN<|aB<|aq rfl<|aH<|dh (xs:=[.tup [zW L,.int a]]) rfl<|bZ<|wY<|pB<|gM (by simp)<|BZ<|bJ<|aM<|cN<|aB<|aq rfl<|aH<|dh (xs:=[.tup [zW L,.int a]]) rfl<|bZ<|O5<|pB<|rG (by simp) ?_
    refine bJ<|aM<|cN<|aB<|aM<|aM<|aq rfl<|bZ<|dg (ws:=[.tup [zW L,.int a]]) rfl (w:=.tup [zW L,.int a]) rfl<|bZ<|dg (ws:=[zW L,.int a]) rfl (w:=zW L) rfl<|aH ?_
    change(match qj ((zs L).map W.int)with
     | some ns=>_
     | none=>False)
    rw[Dp];dsimp only;rw[acO];refine bZ<|wY<|pB<|gM (by decide)<|cO<|bV ?_
    refine eE<|jK<|aq rfl<|fZ e2<|aB<|cN<|aB<|jt<|gK<|aq rfl<|rm (ws:=[.tup [zW L,.int a]]) rfl<|mQ rfl<|Ay (vs:=[.tup [zW L,.int a]]) rfl<|eZ<|dH<|aM<|aq rfl<|bZ<|dg (ws:=[zW L,.int a]) rfl (w:=.int a) rfl<|oX<|aH<|Ho (ns:=[a]) rfl rfl<|aH ?_
    rw[show[a].sum=a by simp];exact uV e2 (by rw[Ds,U7];lia) λg2 a1 a2 a3=>bV<|G a1 a2
 rintro σ h' ⟨J,rfl,e2,U⟩;rw[Ds,Nj]at e2;refine bV<|bU<|cN<|aB<|aq rfl<|aH ?_
 refine ajx e2 ?_;exact⟨λn c Y b=>by rw[U n<|by lia];exact b,.inl ⟨by rw[Lo];exact yU _ _,q⟩⟩
def O6 (e:h.c n=AP (.lst us))(x:Q (.lst us) h):rY [.loc n] h Q:=by
 change(match view h _ with
  | some us=>Q _ h
  | none=>False)
 rwa[jg e]
def agm (hv:σ[i]?=AP (AP (.tup (as.map .int))))(hl:as.length<=6)(q:Q (.lst ((as.filter (·≠0)).map .int)) h):J2 K9 [] (Gj (ao i)) (bw (Av Nh (ao 0) (mC (.int 0)))) (ao 0) σ h Q:=by
 refine jt<|gK<|aq hv<|rm rfl<|fQ.mk (K7 (by rw[Ds];lia)<|by decide) ?_
 refine dj (λi acc h'=>h'=h/\acc=((as.take i).filter (·≠0)).map .int) ?_ (by simp_all) ⟨rfl,rfl⟩;rintro i w acc h' N' hN e ⟨rfl,rfl⟩;rw[Kh]at e;cases qe:as[i]? with
 | none=>rw[qe]at e;cases e
 | some a=>
  rw[qe]at e;cases e;refine⟨[.int a],rfl,bJ<|aM<|aq rfl<|bZ<|ZK<|pB<|UL (λne=>?_) λne=>?_⟩;refine aq rfl<|hN _ _ ⟨rfl,?_⟩
  rw[M4,qe];simp[ne];refine hN _ _ ⟨rfl,?_⟩;rw[M4];simp_all
def afQ {a b}(O:Lw h a=AP a)(J:Lw h b=AP b)(G:K1 30 a=true)(pb:K1 30 b=true)(k:Q (.bl (K6 a b)) h):KN a b h Q:=by
 unfold KN;rw[O,J];change Lg _ _ False
 rwa[G,pb]
def agX {a b}(da:Lw h a=AP a)(db:Lw h b=AP b)(pa:K1 30 a=true)(pb:K1 30 b=true)(k:Q (.bl (!K6 a b)) h):Nh a b h Q:=by
 unfold Nh;rw[da,db];change Lg _ _ False
 rwa[pa,pb]
def N6 (k:Q (.lst ws) h):rY [.lst ws] h Q:=k
def ahn (x:Q (.bl false) h):Vx (.tup us) .non h Q:=x
def Fy (n)(l:List Int):(l.map W.int).all (K1 n)=true:=by
 rw[Vl];intro w G;obtain⟨a,_,rfl⟩:=Ni.mp G;cases n<;>rfl
def afU (q:Q (.bl (decide (a≠0))) h):Nh (cs L a) (.tup []) h Q:=by
 by_cases z:a=0
 subst z;show q;rw[show cs L a=_ from Tc z];rw[decide_eq_true z]at q;show agX rfl rfl ?_ rfl ?_;change(([W.tup [zW L,.int a]]).all _)=true;rw[List.all_cons,List.all_nil,Bool.and_true];change(((zs L).map _).all _&&true)=true;rw[Fy];rfl;show q
def Tv {bs}(h:cl L as=cl L bs):as=bs:=by
 have inj:∀{a b:Int},cs L a=cs L b->a=b:=λ{a b} e=>by
  by_cases za:a=0<;>by_cases zb:b=0
  rw[za,zb];subst za;rw[show cs L b=_ from Tc zb]at e;simp[cs,ct]at e;subst zb;rw[show cs L a=_ from Tc za]at e;simp[cs,ct]at e;rw[show cs L a=_ from Tc za,show cs L b=_ from Tc zb]at e
  simpa using e
 have key:∀{as bs:List Int},as.map _=bs.map _->as=bs:=λ{as}=>by
  induction as with
  | nil=>intro bs e;cases bs with
   | nil=>rfl
   | cons b bs=>simp at e
  | cons a as ih=>
   intro bs e;cases bs with
   | nil=>simp at e
   | cons b bs=>
    obtain⟨e1,e2⟩:=Vz e;rw[inj e1,ih e2]
 grind
def afS (h:Nou L (cl L as)):as.filter (·≠0)=[]:=by
 rcases h with h|h
 have e:as=[0,0,0]:=Tv h;rw[e];rfl;have e:as=[0,0,0,0,0,0]:=Tv h;rw[e];rfl
def agl (h:Tms L w (cl L as)):∃(ms:List Int) (k:Int),k≠0/\Nk ms/\as=ms.map (· * k)/\w=.tup (ms.map .int):=by
 have G:∀{as bs:List Int},cl L as=cl L bs->as=bs:=Tv
 obtain⟨k,k0,⟨t,rfl,J,e⟩|⟨C,rfl,O,e⟩⟩:=h;show{[t.1,t.2.1,t.2.2],k,k0,J,G e,rfl};show{Ka C,k,k0,O,G e,rfl}
def ad9 (h:NZ as):0<(as.filter (·≠0)).length:=by
 obtain⟨n,hn,n0⟩:=h;show List.length_pos_of_mem<|Wb.mpr {hn,by simpa using n0}
def Ww:∀l:List Int,rZ (l.map .int) (l.map .int)=true
 | []=>by simp[rZ]
 | a::l=>by rw[KQ,rZ,Ww l,K6];simp
abbrev GoodC (c0:Aw):Prop:=∀{h:Gh}{L k n1:Nat}{rws sm gold us:List W}{x:Str}{js:List Nat}{o:Option W}{Q:WK}{E:Ci},L<=8->rws[k]?=AP (vB x js)->h.c n1=AP (.lst sm)->Told sm js us->Due L x us o ->
 (∀w,o=AP w->gold[k]?=AP w)->(o=Af->k=gold.length)->Q (.bl true) h->c0 [.lst rws,.loc n1,.lst gold,.int (k:Int)] h Q E
def acM {ra nu}(hra:RaC ra)(hti:TeC ti)(hpl:abw pl)(hnu:ahW nu):GoodC (qI ra ti pl nu):=by
 intro h L k n1 rws sm gold us x js o Q E hL er c1 td D g1 g2 q;obtain⟨r,S,⟨as,la,rfl,sa⟩,d1,d2⟩:=D;have ixr:∀{h:Gh}{R:WK},R (vB x js) h->Bq (.lst rws) (.int (k:Int)) h R:=λy=>dg (ws:=rws) rfl (bR er) y
 refine iz rfl (σ:=[AP<|.lst rws,AP<|.loc n1,AP<|.lst gold,AP<|.int (k:Int),Af,Af]) rfl<|aO<|bA<|aU<|aB<|aU<|aB<|cN<|aB<|aq rfl<|aH<|N6<|aB<|cN<|aB<|aq rfl<|aH<|O6 c1<|aB<|aq rfl<|aH ?_
 refine hra hL er td S<|aH<|hnu hL la ?_
 refine nV<|bV ?_
 refine aO<|dR<|bJ<|aM<|aq rfl<|bZ<|ahn<|pB<|tR<|cO<|bV ?_
 have fil:∀{s5:Option W}{R:WK},R (.int ((as.filter (·≠0)).length:Int)) h->Ft Fz (aj (J2 K9 [] (Gj (ao 4)) (bw (Av Nh (ao 0) (mC (.int 0)))) (ao 0)) aG) [AP (.lst rws),AP (.loc n1),AP (.lst gold),AP (.int (k:Int)),AP (.tup (as.map .int)),s5] h R:=λ{s5 R} x=>
  cN (aB (agm rfl la (aH (dh (xs:=(as.filter (·≠0)).map .int) rfl (by rw[Ds];exact x)))))
 have fin:∀{b:Bool},(∀w,o=AP w->b=false/\Tms L w (cl L as))->(o=Af->b=true\/Nou L (cl L as)) ->
   (aR (fD (bw (Av KN (ao 3) (Ft Fz (aj (ao 2) aG)))) (bK (afE (ao 5) (Av KN (Ft Fz (aj (J2 K9 [] (Gj (ao 4)) (bw (Av Nh (ao 0) (mC (.int 0)))) (ao 0)) aG)) (mC (.int 0))))) bN)
    (lK ra ti pl nu E)) {nx:=λ_ h'=>Q .non h',rt:=Q} [AP (.lst rws),AP (.loc n1),AP (.lst gold),AP (.int (k:Int)),AP (.tup (as.map .int)),AP (.bl b)] h:=λ{b} f1 f2=>by
  cases ho:o with
  | none=>
   refine rG (decide_eq_true<|by rw[g2 ho])<|bU<|XD<|aq rfl<|ahH ?_
   rcases f2 ho with rfl|z
   exact yg<|uJ q
   ·cases b with
    | true=>exact yg (uJ q)
    | false=>
     refine tR<|aM<|fil<|bZ<|O5<|uJ ?_
     rw[afS z];exact q
  | some w=>
   obtain⟨rfl,tm⟩:=f1 w ho;have gw:=g1 w ho;have lt:=(Qc.mp gw).1;refine gM (decide_eq_false<|by lia)<|cO<|bV ?_
   obtain⟨ms,c,c0,pm,ea,rfl⟩:=agl tm;have nz:NZ as:=by
    obtain⟨n,hn,n0⟩:=pm.nz;exact⟨n*c,by rw[ea];exact Ni.mpr ⟨n,hn,rfl⟩,Ph n0 c0⟩
   have lp:=ad9 nz;refine bU<|uq<|QF<|aq rfl<|ahY<|aem<|yg<|uq<|aM<|fil<|bZ<|wY<|aem ?_
   rw[decide_eq_true (by omega)];refine yg<|aM<|aU<|aB<|aq rfl<|aH<|hpl (.inr<|.inl rfl) nz sa (Em _) (by lia) λms' c' c0' e' pm' _=>?_
   have em:ms'=ms:=Mj pm' pm c0' c0 (e'.symm.trans ea);subst em;refine aM<|aq rfl<|aq rfl<|dg (ws:=gold) rfl (bR gw) ?_
   refine afQ rfl rfl (Fy _ _) (Fy _ _)<|uJ ?_
   rw[K6,Ww];exact q
 by_cases hx:x = "other"
 obtain⟨C,p,q',rfl,sC,sp,m⟩:=d2 hx;subst hx;refine aO<|bA<|uq<|aM<|aM<|aM<|aq rfl<|aq rfl<|ixr<|bZ<|Ms<|bZ<|pH<|aem ?_
 refine rG (by decide +kernel)<|aM<|aU<|aB<|cN<|aB<|aq rfl<|aH<|N6<|aB<|cN<|aB<|aq rfl<|aH<|O6 c1<|aB<|aq rfl<|aH ?_
 refine hti hL er td sC sp<|qK<|aH<|gU rfl<|afU<|nV<|bV ?_
 refine fin (λw hw=>?_) λhw=>?_;subst hw;exact⟨by simp[m.1],m.2⟩;subst hw;rcases m with m|m
 exact .inl<|decide_eq_true m
 exact .inr m;have m:=d1 hx;refine aO<|bA<|uq<|aM<|aM<|aM<|aq rfl<|aq rfl<|ixr<|bZ<|Ms<|bZ<|pH<|aem ?_
 rw[decide_eq_false hx];refine tR<|nV<|bV ?_
 refine fin (λw hw=>?_) λhw=>?_;subst hw;exact⟨rfl,m⟩;subst hw;exact .inr m
def zbA (us)(k:Nat):Lz us Af (AP (k))=us.take k:=by
 unfold Lz;rw[HT.PB,HT.Hr];grind
def Fv {k}(x:Q (.lst (us.take k)) h):Dk (.lst us) Af (AP (k)) h Q:=by
 change Q _ h
 rwa[zbA]
def agz (x:Q (.bl false) h):Vx (.lst us) .non h Q:=x
def ahk (x:Q (.bl true) h):Vx .non .non h Q:=x
abbrev PcX (c0:Aw):Prop:=∀{h:Gh}{ps:Ps}{wt:List Nat}{sps:List Tr}{gold:List W}{Q:WK}{E:Ci},Dr 48 ps wt->ps.length<=30->Gd ps wt sps gold->gold.length=ps.length\/Wk ps wt gold->(∀h',Kp h h'->Q (.lst gold) h')->c0 [.lst (bC ps),.lst (sps.map tw)] h Q E
def zbv {mr}(O:ah3 mr pl)(f:∀{ps}{wt sps gold},Dr 48 ps wt->Gd ps wt sps gold->gold.length=ps.length\/Wk ps wt gold->ps.length<=30->V6 mr (bC ps) (sps.map tw) gold)
  (k:∀{ps}{wt gold},Dr 48 ps wt->Wk ps wt gold->∀{r},(bC ps)[gold.length]?=AP r->Rf mr gold r):PcX (wD pl):=by
 intro h ps wt sps gold Q E D a G s q;have P:=f D G s a;show iz rfl (σ:=[AP<|.lst<|bC ps,AP<|.lst<|sps.map tw,Af,Af,Af]) rfl<|aO<|bA<|cN<|aB<|aq rfl<|aH<|dh (xs:=bC ps) rfl ?_
 show nV<|bV ?_
 show O P (λel=>?_) λr Y=>?_;show nV<|bV ?_
 show aO<|dR<|bJ<|aM<|aq rfl<|bZ<|agz<|pB<|tR<|cO<|bV ?_
 show bU<|aq rfl<|uJ<|q _ {Em _,λ_ _=>rfl}
 have b:=(Qc.mp Y).1;rw[gG]at b;have s':=s.resolve_left ⋯;show{k D s' Y,λh4 j=>?_};change qz pl E {nx:=λ_ h'=>Q .non h',rt:=Q} [AP (.lst (bC ps)),AP (.lst (sps.map tw)),AP (.int (gold.length:Nat)),AP .non,Af] h4;have D':=D.cut gold.length;have m:=G.cut D;have l:gold.length=(ps.take gold.length).length:=by rw[U7];lia
 have g:(ps.take gold.length).length<=30:=⋯
 show aO<|dR<|bJ<|aM<|aq rfl<|bZ<|ahk<|pB<|yg<|bA<|aU<|aB<|zf<|aq rfl<|dF<|jm<|aq rfl<|T8<|Fv ?_
 show aB<|zf<|aq rfl<|dF<|jm<|cN<|aB<|jt<|gK<|zf<|aq rfl<|dF<|jm<|aq rfl<|T8<|Fv ?_
 rw[ali];show rm (ws:=bC (ps.take gold.length)) (o:=Af) rfl ?_;show mQ (by rw[gG,U7];show Nat.ble_eq.mpr ⋯) ?_;show dj (λi J h'=>h'=h4/\J.length=MK ps i) ?_ ?_ {rfl,by unfold MK;rfl};rintro i u J h' N d e ⟨rfl,U⟩;obtain⟨x,js,e',rfl⟩:=sI e;have ep:ps[i]?=AP (x,js):=by
  rw[uZ]at e';split at e'
  show e';cases e'
 have fs:=rB ep;show{[vB x js],rfl,?_};show bJ<|aM<|aM<|aq rfl<|bZ<|Ms<|bZ<|pH<|pB ?_
 by_cases c:x = "free"
 rw[if_pos c]at fs;rw[decide_eq_true c];show dH<|aq rfl<|d _ _ {rfl,by rw[Lp,U,fs];rfl}
 rw[if_neg c]at fs;rw[decide_eq_false c];show G6<|d _ _ {rfl,by rw[U,fs];rfl}
 rintro J h' ⟨rfl,U⟩;rw[gG,U7,Nat.min_eq_left ⋯]at U;show aH<|dh (xs:=J) rfl<|T8 ?_
 rw[U];show Fv ?_;rw[<-List.map_take];show aH<|O (f D' m (.inl l) g) (λ_=>nV<|bV ?_) λr Y=>?_
 unfold qW;show bU<|aq rfl<|uJ<|q _ j
 have:=(Qc.mp Y).1
 rw[gG]at this;lia
abbrev LnC (c0:Aw):Prop:=∀{h:Gh}{L:Nat}{a:Int}{Q:WK}{E:Ci},L<=8->Q (cs L a) h->c0 [.int a,.int (L:Int)] h Q E
def acp:LnC vU:=by
 intro h L a Q E G q;refine iz rfl rfl<|aO<|dR<|bJ<|aM<|aq rfl<|bZ<|O5<|pB<|J8 (λz=>?_) λz=>?_
 subst z;assumption;rw[show cs L a=_ from Tc z]at q;refine⟨⟨by lia,by lia,by simp;lia⟩,?_⟩;have e:(Kv (L:Int).toNat [W.int 0]).flatten=(zs L).map W.int:=by
  rw[Zb];unfold zs
  simp_all
 rwa[e]
def acK {b}(g:Tg s n w)(hn:n<=48)(b0:b≠0)(sb:Sm 2 b):∃ns:List Int,w=.tup (ns.map .int)/\ns.length<=6/\(∀n∈ns,Sm 1581 n)/\Vn L w (cl L (ns.map (b * ·))):=by
 rcases g with⟨rfl,_,C,rfl,pC,sC⟩|⟨_,_,t,rfl,pt,st⟩
 have sC:J9 1581 C:=sC.mono (by lia);refine⟨Ka C,rfl,Em 6,λx hx=>?_,b,b0,sb,.inr ⟨C,rfl,?_,sC⟩⟩;simp[Ka]at hx;obtain⟨s1,s2,s3,s4,s5,s6⟩:=sC;grind
 simp[Yg b];rfl;have st:CV 1581 t:=st.mono (by lia);refine⟨[t.1,t.2.1,t.2.2],rfl,by simp,st.at,b,b0,sb,.inl ⟨t,rfl,?_,pt,st⟩⟩;simp only[Yg b];rfl
def six {d}(h0:0<=d)(h6:d<6):∃b,Np [W.int 1,.int (-1),.int 2,.int (-2),.int 3,.int (-3)] d=AP (.int b)/\b≠0/\Sm 2 b:=by
 have:d=0\/d=1\/d=2\/d=3\/d=4\/d=5:=⋯
 rcases this with rfl|rfl|rfl|rfl|rfl|rfl
 show{1,rfl,∅,by unfold Sm;decide};show{-1,rfl,∅,by unfold Sm;decide};show{2,rfl,∅,by unfold Sm;decide};show{-2,rfl,∅,by unfold Sm;decide};show{3,rfl,∅,by unfold Sm;decide};show{-3,rfl,∅,by unfold Sm;decide}
def ajy {R:W->W->Prop}{as:List W}{a b:W}(h:Qv R as bs)(r:R a b):Qv R (as++[a]) (bs++[b]):=by
 induction h with
 | nil=>show .cons r .nil
 | cons x _ G=>show .cons x G
inductive aiV (L:Nat) (gold:List W) (p q:Nat) (s:Option W->Option W->Sw) (i:Nat) (σ:Sw) (h':Gh):Prop
 | mk (s10 s11:Option W) (sm:List W) (e:σ=s s10 s11) (c:h'.c q=AP (.lst sm)) (b:Oq h' p) (t:Qv (Vn L) (gold.take i) sm) (l:i<=gold.length)
def ahi {cl' bg dr so rw' am nm gd}(hcl:Eo cl')(hbg:Yi bg)(hdr:zX dr)(hso:aeF so)(hrw:acq rw')(ham:afo am)(hnm:LnC nm)(hpl:PcX pl)(hgd:GoodC gd)(ns:List Int):
  aax cl' bg dr so rw' am nm pl gd [.kls (ns.map .int)] h' (λw _=>w=.bl true) EF:=by
 have t6:∀{h:Gh}{ps:Ps}{wt:List Nat}{F L:Nat}{s2:Option W},Dr 48 ps wt->ps.length<=24->MK ps ps.length=F->F<=7->L<=8 ->
   Nm cl' bg dr so rw' am nm pl gd EF {nx:=λ_ h'=>(λ(w:W) (_:Gh)=>w=W.bl true) W.non h',rt:=λw _=>w=W.bl true} [AP (.kls (ns.map .int)),AP (.int (F:Int)),s2,AP (.int (ps.length:Int)),AP (.int (L:Int)),AP (.lst (bC ps)),Af,Af,Af,Af,Af,Af,Af] h:=by
  intro h ps wt F L s2 D l24 fn f7 hL;refine hcl (by decide) ?_;rfl'
  refine hbg λg bg' xg og=>?_;refine nV<|bV<|aO<|bA ?_
  refine ad2 (j:=(F:Int)) (λ_=>rfl) (by lia) (by lia) (by rw[Zb];exact K7 (by lia:_<=100) (by decide)) (λi acc h'=>∃ts:List Tr,acc=ts.map tw/\ts.length=i/\OkT 30 ts/\Oq h' h.nx/\h.nx<h'.nx) ?_ ?_ ⟨[],rfl,rfl,λt ht=>absurd ht<|by simp,bg',by lia⟩;rintro i acc g2 M2 hM2 hi ⟨ts,rfl,hl,hs,b2,l2⟩;refine⟨[.int (i:Int)],rfl,(eZ<|aU<|aB<|aq rfl<|aB<|bZ<|aH<|hso b2 l2 (.inl rfl) λt g3 pt st b3 l3 o3=>?_)⟩;refine hM2 _ _ ⟨ts++[t],by rw[NP];rfl,by rw[Lp,hl];rfl,λu hu=>?_,b3,by lia⟩;rcases YH.mp hu with hu|hu
  exact hs u hu;rw[R6.mp hu];exact⟨pt,st⟩
  ·rintro acc g2 ⟨sps,rfl,hl,hs,b2,l2⟩;rw[Zb]at hl;refine nV<|bV ?_
   obtain⟨gold,G,s⟩:=Gd.ex D hs (by rw[fn,hl];exact Em _);refine aO<|bA<|aU<|aB<|aq rfl<|aB<|aq rfl<|aH<|hpl D (by lia) G s λg3 kp=>?_
   refine nV<|bV ?_
   rfl'
   refine hcl (by decide) ?_;rfl'
   refine hbg λg4 bg4 x4 o4=>?_;refine nV<|bV ?_
   refine aO<|bA<|jJ (ws:=[]) (λR=>rfl) rfl λg5 e5 o5 x5=>?_
   refine nV<|bV ?_
   refine aO<|wL (ws:=gold) rfl ?_
   have nb:g3.nx≠g4.nx:=by lia
   have bg5:Oq g5 g3.nx:=by obtain⟨a,b,e,r⟩:=bg4;exact⟨a,b,(o5 _ nb).trans e,r⟩
   refine iG (aiV L gold g3.nx g4.nx λs10 s11=>[AP<|.kls<|ns.map .int,AP<|.int (F:Int),s2,AP<|.int (ps.length:Int),AP<|.int (L:Int),AP<|.lst<|bC ps,AP<|.loc g3.nx,AP<|.lst<|sps.map tw,AP<|.lst gold,AP<|.loc g4.nx,s10,s11,Af]) ?_ ?_ ⟨Af,Af,[],rfl,e5,bg5,.nil,Pz _⟩
   ·rintro i w σ h6 N hN e ⟨s10,s11,sm,rfl,e6,b6,p6,li⟩;have lt:=(Qc.mp e).1;have lp:=G.le;obtain⟨x,js,ep⟩:∃x js,ps[i]?=AP (x,js):=⟨_,_,Lq (by lia)⟩
    obtain⟨w',ew,tg⟩:=G.tg i x js lt ep;rw[e]at ew;cases ew;refine nV ?_;refine aO<|bA<|aM<|M8<|aB<|bZ<|aB<|Sy<|bZ<|Bl<|aB<|bZ<|aB<|Sy<|bZ<|Bl<|aB<|bZ<|aB<|Sy<|bZ<|Bl<|aH<|gU rfl ?_
    refine aU<|aB<|aq rfl<|aB<|bZ<|aH<|hdr b6 (by decide) (by unfold Sm;decide) λd g7 d0 d6 b7 o7=>?_
    obtain⟨b,eb,b0,sb⟩:=six d0 d6;refine dg rfl eb<|nV<|bV ?_
    have e7:g7.c g4.nx=AP (.lst sm):=(o7.2 _ (Ke nb)).trans e6;have hw:=D.wt i x js ep;obtain⟨nw,rfl,l6,sw,th⟩:=acK (L:=L) tg hw.2 b0 sb;have ls:=p6.length;rw[U7]at ls;refine eE<|jK<|aq rfl<|fZ e7<|aB<|cN<|aB<|jt<|gK<|aq rfl<|rm (ws:=nw.map .int) (o:=Af) rfl<|fQ.mk (K7 (m:=1000) (by rw[Ds];lia)<|by decide) ?_
    refine dj (λj acc h8=>h8=g7/\acc=((nw.take j).map (b * ·)).map (cs L)) ?_ ?_ ⟨rfl,rfl⟩
    ·rintro j w acc h8 N' hN' e' ⟨rfl,rfl⟩;rw[Kh]at e';cases qe:nw[j]? with
     | none=>rw[qe]at e';cases e'
     | some a=>
      rw[qe]at e';cases e'
      refine⟨[.int a],rfl,eZ<|dH<|aU<|aB<|aM<|aq rfl<|aq rfl<|qF (.of sb (sw a<|T7 qe) (by decide)<|by decide)<|aB<|aq rfl<|aH ?_⟩;refine hnm hL<|hN' _ _ ⟨rfl,?_⟩
      rw[M4,qe,NP,NP];rfl
    rintro acc h8 ⟨rfl,rfl⟩;rw[Ds,Nj];refine aH<|gZ<|aH<|uV e7 (by lia) λg9 a1 a2 a3=>bV<|hN _ _ ⟨_,_,_,rfl,a1,?_,?_,by lia⟩
    obtain⟨a,b',e,r⟩:=b7;exact⟨a,b',(a2 _ nb).trans e,r⟩;rw[M4,e];exact ajy p6 th
   rintro σ h6 ⟨s10,s11,sm,rfl,e6,b6,p6,li⟩;rw[Nj]at p6;refine bV ?_;unfold Js;have lp:=G.le;refine aO ?_;refine Pr (j:=if((gold.length:Int)+1)<(ps.length:Int)then(gold.length:Int)+1 else(ps.length:Int)) (λ_=>rfl) (by split<;>lia) (by split<;>lia) (λi σ h'=>h'=h6/\∃s12:Option W,σ=[AP<|.kls<|ns.map .int,AP<|.int (F:Int),s2,AP<|.int (ps.length:Int),AP<|.int (L:Int),AP<|.lst<|bC ps,AP<|.loc g3.nx,AP<|.lst<|sps.map tw,AP<|.lst gold,AP<|.loc g4.nx,s10,s11,s12]) ?_ ?_ ⟨rfl,Af,rfl⟩;rintro i σ h7 N hN hi ⟨rfl,s12,rfl⟩;have hi1:i<ps.length/\i<=gold.length:=by
    split at hi<;>lia
   obtain⟨x,js,ep⟩:∃x js,ps[i]?=AP (x,js):=⟨_,_,Lq hi1.1⟩
   have er:(bC ps)[i]?=AP (vB x js):=by unfold bC;rw[Kh,ep];rfl
   have hw:=D.wt i x js ep;refine nV ?_;refine dR<|BZ<|bJ<|aM<|aM<|aM<|aq rfl<|aq rfl<|dg (ws:=bC ps) rfl (bR er)<|bZ<|Ms<|bZ<|afm<|pB ?_
   by_cases hx:x = "free"
   rw[decide_eq_false (λn=>n hx)];exact tR<|tR<|cO<|hN _ _ ⟨rfl,_,rfl⟩
   rw[decide_eq_true hx];refine yg<|XQ<|Bg<|aU<|aB<|aq rfl<|aB<|aq rfl<|aB<|aq rfl<|aB<|aq rfl<|aH ?_
   have fin:∀{ws:List W}{o:Option W}{R:WK},Told gold js ws->Out x ws o->Qm (mF x) (js.map λj=>wt.getD j 0) ws->(∀w,o=AP w->gold[i]?=AP w)->(o=Af->i=gold.length)->R (.bl true) h7->gd [.lst (bC ps),.loc g4.nx,.lst gold,.int (i:Int)] h7 R EF:=λ{ws o R} td O ts k1 k2 q=>by
    obtain⟨us,tu,pu⟩:=amf td p6;have dw:Due L x us o:=acN O pu (λe=>by subst e;exact acJ ts (by rw[<-hw.1];exact hw.2)) λe=>by subst e;exact adv ts (by rw[<-hw.1];exact hw.2)
    exact hgd hL er e6 tu dw k1 k2 q
   by_cases lt:i<gold.length
   obtain⟨ws,w,td,gw,O,ts⟩:=G.mkd i x js lt ep hx;refine fin td O ts (λ_ e=>by cases e;exact gw) (λe=>by cases e)<|abm rfl ?_
   exact RB<|cO<|hN _ _ ⟨rfl,_,rfl⟩
   have ei:i=gold.length:=by lia
   obtain⟨x',js',ws,e',nf,td,O,ts⟩:=s.resolve_left (by lia);rw[<-ei,ep]at e';cases e'
   refine fin td O ts (λ_ e=>by cases e) (λ_=>ei)<|abm rfl ?_
   exact RB<|cO<|hN _ _ ⟨rfl,_,rfl⟩
   rintro σ h7 ⟨rfl,s12,rfl⟩;unfold JM;exact bV<|bU<|bZ<|uJ rfl
 unfold aax;rfl'
 refine hcl (by decide) ?_;rfl'
 refine Bx (by decide) ?_;obtain⟨F,f1,f7,eF⟩:∃F:Nat,2<=F/\F<=7/\2+(ns.getD (0:Int).toNat 0).fmod 6=(F:Int):=by
  have a:=ZG (ns.getD (0:Int).toNat 0) (show(6:Int)≠0 by decide);have b:=Zz (ns.getD (0:Int).toNat 0) (show(0:Int)<6 by decide);rw[je (by decide)];exact⟨(2+(ns.getD (0:Int).toNat 0) % 6).toNat,by lia,by lia,by lia⟩
 refine eU ?_;rw[eF];rfl'
 refine hcl (by decide) ?_;rfl'
 refine Iw ⟨by decide,64,by decide,Sm.lit rfl⟩ ?_;rfl'
 refine Bx (by decide) ?_;rfl'
 generalize decide (((ns.getD (0:Int).toNat 0).fdiv 96).fmod 8=5)=q;refine abd (.inr<|.inl<|Sm.lit rfl)<|eU ?_
 obtain⟨M,m1,m2,eM⟩:∃M:Nat,16<=M/\M<=24/\(16:Int)+8*(if q=true then 1 else 0)=(M:Int):=by
  cases q;exact⟨16,by decide,by decide,rfl⟩;exact⟨24,by decide,by decide,rfl⟩
 rw[eM];rfl'
 refine hcl (by decide) ?_;rfl'
 refine Iw ⟨by decide,64,by decide,Sm.lit rfl⟩ ?_;rfl'
 refine Bx (by lia) ?_;rfl'
 refine Wv ?_;obtain⟨S,s1,s2,s3',eS⟩:∃S:Nat,1<=S/\S<=24/\F<=S/\(if 1+((ns.getD (0:Int).toNat 0).fdiv 6).fmod (M:Int)>(F:Int)then 1+((ns.getD (0:Int).toNat 0).fdiv 6).fmod (M:Int)else(F:Int))=(S:Int):=by
  rw[je (by lia)];have a:=ZG ((ns.getD (0:Int).toNat 0).fdiv 6) (show(M:Int)≠0 by lia);have b:=Zz ((ns.getD (0:Int).toNat 0).fdiv 6) (show(0:Int)<M by lia);generalize(ns.getD (0:Int).toNat 0).fdiv 6 % (M:Int)=z at a b;split
  exact⟨(1+z).toNat,by lia,by lia,by lia,by lia⟩;exact⟨F,by lia,by lia,by lia,rfl⟩
 rw[eS];rfl'
 refine Wv<|qF (.of (m:=64) (n:=64) (.lit rfl) (by unfold Sm;split<;>lia) (by decide)<|by decide) ?_
 obtain⟨L,hL,eL⟩:∃L:Nat,L<=8/\2*(if(F:Int)-4>0 then(F:Int)-4 else 0)=(L:Int):=by
  split
  exact⟨2*(F-4),by lia,by lia⟩;exact⟨0,by lia,rfl⟩
 rw[eL];rfl'
 refine hrw (M:=32) (by decide) (by decide) f1 f7 s2 λps wt D pl F'=>?_;subst pl;rfl'
 refine hcl (by decide) ?_;rfl'
 refine Iw ⟨by decide,64,by decide,Sm.lit rfl⟩ ?_;rfl'
 refine Bx (by decide) ?_;rfl'
 refine J8 (λ_=>?_) λ_=>?_
 ·rfl'
  refine ham D F' s3' s2 λqs vt D2 ql fn=>?_;rw[<-ql];rfl'
  exact t6 D2 (by lia) fn f7 hL
 ·rfl'
  exact t6 D s2 (by rw[F'.count<|Em _];lia) f7 hL
def afl (ns:List Int)(_:ns.length<=63):aaQ [.kls (ns.map W.int)] g0 (λw _=>w=.bl true) EF:=by
 have J:Pg mY:=zbi (ajC ahd) aan;have c:qd mZ:=amF Wf uN;have h:qd tM:=ake c;have tt:QM cG:=af4 Wf Sx;have td:yx xJ:=ajR Ju Sx;have k:Om jZ:=acG aeL tt;have d:Zy pY:=amn (w_size (aai afj Ju) Sx) w_tab;have th:Rg uD:=ajN J akH (aci h zby amu) (alU Wf uN agr);have jo:o9 Qk:=aaK (Ai J uN);have li:Pb jX:=aeN tt w_tab (afb J);have sp:Pn kW:=alz J tt td w_tab d;have oe:QW mJ:=aeS (ac5 Wf) (w_on alL) w_tab k (afb J) (ago (aeU (Gs J uN)) abh);have me:o9 Ak:=abb (Ai J uN);have pl:abw nP:=alP aei;have O:ae2 dB:=agP;have Y:X6 1 Cu:=ac6 (ahU O);have mi:X6 (-1) xR:=amI (ahU O);have ti:TiC mX:=aaC O afV (aiu abH) aiF;have cr:CrC dX:=akQ (acv mi ti);have dt:DoC iU:=aeC Y ti;have st:StC fj:=zbW ti;have a:SmC gQ:=zbD mi;have b:DbC nO:=ajI Y;have ta:TaC d9:=akT b;have U:RtC fB:=aaW dt;have bs:BoC cB:=zch dt U;have j:CuC mL:=zca ti cr dt st a (aeP Y ti);have f:PoC qp:=aaN st ta (zaX cr) U (amB (alJ cr dt));have g:OtC mR:=alk st a b ta bs;have i:GoodC kj:=acM (agN cr ta U j f g) (agA ta bs) pl alj;show ahi WQ adM Ie (alh Ie pl) (anb WQ adM (agp Ie aeB WM<|aaA Ie WM) akr) adQ acp
  (zbv adh (λD G s l=>Gd.plan jo me th li sp oe D G s l) (λD s _ e=>Wk.rf jo me th li sp oe D s e)) i ns
end My
namespace PySem.W.Fast
universe tw8112937487058519735 tw12921605683840821007 tw15315042477995032309 tw12522215756986055523 tw15084063476489487854 tw3675617076510628750 tw3227937762064818206 tw1802320327725726531 tw4726844286055658737 tw8691092293289144607 tw14733469289453991687 tw2888746702075749417 tw3043836228064850904 tw769014525660126760 tw15257837043008518131 tw2661461288888124946 tw5486477819701514511 tw8850698065329601895 tw10445045019579477973 tw11061003125357478439 tw269442479275279085 tw11530426585826236970 tw5592525584419521077 tw6322001016067034113 tw11065934596446648053 tw10658514236458228201 tw17457443708833047737 tw10017764914723300622 tw8428660771952110371 tw15446955934861635393 tw3864035873303957285 tw8994969470592755795 tw1768037622186639790 tw517492863019693202 tw5932224473399450966 tw6623056638442792106 tw2168881248607011783 tw12339911116341908274 tw7994797701782899265 tw14957875169430345028 tw10298254085701644400 tw9064278828452459836 tw7965913408332746062 tw12010667900693118411 tw14266060004719207339 tw15935114529836636192 tw1100700006774785393 tw13691779999927314929 tw7373961280672055640 tw6948906042480922128 tw8888008047035691678 tw14290270928274579401 tw16684957932078152984 tw11342438972570091544 tw8440687775328013134 tw3811874732863290917 tw11331921424140612763 tw429650104507667120 tw13768530927805141974 tw5473831203763300494 tw656933121810381164 tw9480454596031719893 tw1317608832507145951 tw7903085557274952457 tw11868754413284629489 tw12751116843770908219 tw3582911541316427557 tw2221109946355530563 tw9974099148931707578 tw17154442027649728618 tw3243066158019509292 tw16590269265244398789 tw4024474357367093335 tw16019118736433160734 tw59136432560560064 tw10233764380092278702 tw8267205025158454395 tw17967182402522109109 tw1922904950416226978 tw529096372891096324 tw4799015413331017257 tw11025751246024205364 tw7627856682085193847 tw11373805923879184607 tw4620596832312887273 tw17066583508514800600 tw16654942495515025657 tw11656885152198289089 tw10513715009890424491 tw6206962899526534861 tw14948001136399930935 tw8850186876343703439 tw16023497948948009086 tw731753735706416965 tw707828517177856595 tw3610254885341903266 tw1997161186758242542 tw2201279528419802192 tw15137314189014104403 tw8549980066067064936 tw224565449925465353 tw4085722742237460609 tw17571740115775172956 tw8243216831417921990 tw5887231508501417269 tw8100853381482768485 tw17786829872281778031 tw3949807286853626869 tw15423913264264277896 tw17351384395867300946 tw9117064294364372623 tw9420816848741772747 tw8094418632492121374 tw8284439303291386174 tw9679073112244850678 tw18179671748779523112 tw13908386890766919490 tw17090735062833182193 tw12788075970562377458 tw5851642319675400541 tw7397674233308006570 tw560699755396997696 tw11130786485755893862 tw11261512095548037297 tw5567503989026133023 tw4004296493665308937 tw1781545715718348459 tw2599796196671246784 tw12904193007537955439 tw13096843590936608067 tw11868749139816034365 tw13323575587065087834 tw9822387142090875268 tw3367208416694993207 tw9817383250273160538 tw13122974599503402303 tw280365634983135316 tw12295809231453070561 tw5300970894960871200 tw15596265902843178596 tw10093931110237857495 tw7611324975717811538 tw1660565454806712491 tw7971080786003038630 tw14067220686110857737 tw12909193553511893839 tw7230420536736754913 tw5649224663160743250 tw3461234532636513873 tw18160980200361027546 tw5935639783721674669 tw17830831572985436353 tw8453293261535530301 tw18136394576716698153 tw4880750492878105410 tw15273467273232929366 tw877046595048250211 tw8175085250997722143 tw11592553835436095933 tw12828548278325118529 tw10443964967949599615 tw9505394094239028083 tw14676476025341193168 tw15588293536606402752 tw11436127179722251851 tw6617356404492580052 tw10032096218445053960 tw13626181713632780011 tw5323159822589676911 tw6954475859880889586 tw14201039398960320545 tw330854842070913784 tw7087904494310241744 tw16337710001132050324 tw5196206601008634108 tw6061513533972595950 tw4676848654979471086 tw17436441942663810602 tw6664077401323318500 tw8587785848299056414 tw16459571193773460594 tw721673265773587898 tw8165685176198784679 tw17930030876384907841 tw14089325275850475253 tw10816313006273090048 tw7278187607576624046 tw665671273772697512 tw5743600438183111617 tw5577149468815357807 tw13852868364233575034 tw3856967650696423118 tw12037538497534352414 tw2068009717429592978 tw8998439111640855207 tw7034032323883243932 tw9838101477856300329 tw14968600748133969139 tw6541405336758765646 tw18405706548883455081 tw12349794360524840792 tw2443252270370969386 tw1561807423948883543 tw9861048161989035560 tw7300093372028241263 tw11148905799724797071 tw6528083038916295742 tw13302867843062943607 tw9521179791652860949 tw18307081950371040644 tw1484070293589249972 tw7578411883627226895 tw860946556541025504 tw850456724463083493 tw17677433875159477178 tw1896827493552771932 tw17988418189426996302 tw15306704395897166878 tw14266365608109507906 tw13979370343077074566 tw8888660747893109470 tw740516683584136215 tw17987690882016124046 tw16306381835581409661 tw8008978190640044654 tw1634706497074426214 tw529787396060552632 tw5916454228239966894 tw13350658046953350478 tw6641949332574052511 tw5336864964058027725 tw15063846553702190320 tw9737095039243086539 tw11409196092047269916 tw2294873942273977142 tw5328790995151933782 tw9714938854829300406 tw7965369454599165033 tw9312921199121734541 tw5122042488716661392 tw10418291571885344018 tw6450758118622644350 tw2029479374273887038 tw4341353934137928474 tw7295073197727970112 tw5680197282241896098 tw4128476213222701768 tw5383473009020586150 tw4865905789384416034 tw11225122183813185127 tw10690024113198175288 tw8869309139204735317 tw4764859611872655089 tw17081264035436362170 tw9297552683367303435 tw5773143568951481741 tw7856545566819956279 tw4662476369711555264 tw9950207936030523302 tw17810758681776553905 tw2355173381124654755 tw18162932045889618051 tw10583922927221394291 tw4642704400845858338 tw15718172392536261116 tw1216142790195988599 tw7137465766079366018 tw14927123329752537832 tw7492137464570046954 tw3752355326998166295 tw18439450752779243261 tw16612595361986283837 tw4924061963498316995 tw2884880921565592771 tw3946119433189904972 tw5604668425503530564 tw15631398206301311610 tw10127647600433538192 tw3397941137582106107 tw4252117063637914247 tw4081461090117233957 tw14635734246915335932 tw2034131892695739164 tw6713564647547662664 tw10737120978746257180 tw14650092916880280634 tw7638476817772011223 tw14867492964376855546 tw13366018341532978961 tw5840811347254331480 tw2075300922607696419 tw2435304322066699076 tw7310074092250170880 tw5797324750951666707 tw11119196889794359573 tw18243670898952051421 tw9022250085982375577 tw9741941656813894891 tw4567230031857076561 tw1229999889603545616 tw7574686784226371873 tw7876557468502823863 tw15199476722419764177 tw2643699553090376759 tw5384189488191866796 tw1074946447755500435 tw8040231602402985599 tw16868895346196628980 tw15341306190978584752 tw15095302385332756543 tw15397143447177088270 tw7592875641183722999 tw4565441600756299477 tw17797863850695657704 tw4941200363638823053 tw361210981012649779 tw18181896441000587450 tw6148920364838536828 tw10806771636665922638 tw180467853142259552 tw3949041518075966380 tw11334873265631615331 tw5036769572520889253 tw8558817097498836451 tw1426232107332242246 tw4765022220323225875 tw13238056887718029641 tw2404241351882879677 tw12490109983243973086 tw12981985594642028503 tw7279552889767972414 tw306615347516641401 tw10027781746046708365 tw6659183631820820995 tw4089268664549731571 tw7803001531215978551 tw6261526081876133534 tw2678798126785678207 tw7180497985897598841 tw9282208343970560211 tw14509195432280235809 tw18114466873792255389 tw18141938562929087040 tw10284439804111847365 tw16032272439348612653 tw10894330729614085313 tw5086533024953662162 tw717462660454212172 tw9790237828625088018 tw6693701957487279335 tw98853659959591886 tw12266113168869618022 tw14335101096613797275 tw17348344661352676097 tw11775004533982747564 tw14635995196435373018 tw13944582077731510410 tw7445009979585410255 tw8956299590352556457 tw12353519268724606965 tw17700623055682524418 tw8521903301502023022 tw7507477959872438719 tw9999001170428259654 tw11961984308480955360 tw733658751021575210 tw2670618861748398311 tw17998738280401662295 tw11141216760252355110 tw12212655751654220121 tw13969772208780833574 tw565915005074457214 tw16652330456312248131 tw9641425979180998592 tw4689481401974405074 tw4092224715205267226 tw5073025333720790407 tw14584695266275716883 tw833198224322347389 tw5141297577410633082 tw14214571216150045229 tw1248910059195534227 tw18186088662237225726 tw11214179422146424832 tw6791769235773537113 tw9621823344661994349 tw10761819186055053782 tw2224041053420806348 tw7090890330707755701 tw16399196748242138581 tw16189286157724327294 tw13732111613729088044 tw9267946253075933685 tw13265941065307234099 tw4708959593908555308 tw9524852876118365899 tw6917433434708338966 tw6670066864110664846 tw8310740419785870447 tw15919624926427505848 tw4594884963529176622 tw15267263863314292000
end PySem.W.Fast
open PySem PySem.W PyProof.Rows
theorem PySem.Challenge.cw_easelroom_k73_raws_of_placed_things_holds : PySem.Challenge.rw_easelroom_k73_raws_of_placed_things.Holds := by
 w_on;o_law;k_head;(case hw=>w_witness2)
 k_fill
 refine My.walk (l:=PySem.Challenge.rw_easelroom_k73_raws_of_placed_things) rfl rfl (λw h Y=>PySem.W.kIn_of Y) ?F
 case F=>
  intro w mg fa h KX G hmg;refine' My.all_mk My.afl KX G hmg (My.zz3 ?h0<|My.zz3 ?h1<|My.zz3 ?h2<|My.zz3 ?h3<|My.zz3 ?h4<|My.zz3 ?h5<|My.zz3 ?h6<|My.zz3 ?h7<|My.zz3 ?h8<|My.zz3 ?h9<|My.zz3 ?h10<|My.zz3 ?h11<|My.zz3 ?h12<|My.zz3 ?h13<|My.zz3 ?h14<|My.zz3 ?h15<|My.zz3 ?h16<|My.zz3 ?h17<|My.zz3 ?h18<|My.zz3 ?h19<|My.zz3 ?h20<|My.zz3 ?h21<|My.zz3 ?h22<|My.zz3 ?h23<|My.zz3 ?h24<|My.zz3 ?h25<|My.zz3 ?h26<|My.zz3 ?h27<|My.zz3 ?h28<|My.zz3 ?h29<|My.zz3 ?h30<|My.zz3 ?h31<|My.zz3 ?h32<|My.zz3 ?h33<|My.zz3 ?h34<|My.zz3 ?h35<|My.zz3 ?h36<|My.zz3 ?h37<|My.zz3 ?h38<|My.zz3 ?h39<|My.zz3 ?h40<|My.zz3 ?h41<|My.zz3 ?h42<|My.zz3 ?h43<|My.zz3 ?h44<|My.zz3 ?h45<|My.zz3 ?h46<|My.zz3 ?h47<|My.zz3 ?h48<|My.zz3 ?h49<|My.zz3 ?h50<|My.zz3 ?h51<|My.zz3 ?h52<|My.zz3 ?h53<|My.zz3 ?h54<|My.zz3 ?h55<|My.zz3 ?h56<|My.zz3 ?h57<|My.zz3 ?h58<|My.zz3 ?h59<|My.zz3 ?h60<|My.zz3 ?h61<|My.zz3 ?h62<|My.zz3 ?h63<|My.zz3 ?h64<|My.zz3 ?h65<|My.zz3 ?h66<|My.zz3 ?h67<|My.zz3 ?h68<|My.zz3 ?h69<|My.zz3 ?h70<|My.zz3 ?h71<|My.zz3 ?h72<|My.zz3 ?h73<|My.zz3 ?h74<|My.zz3 ?h75<|My.zz3 ?h76<|My.zz3 ?h77<|My.zz3 ?h78<|My.zz3 ?h79<|My.zz3 ?h80<|My.zz2) ?h81 ?z_abs ?z_all ?z_any ?z_dict ?z_enumerate ?z_int ?z_len ?z_list ?z_max ?z_min ?z_range ?z_reversed ?z_set ?z_sorted ?z_sum ?z_tuple ?z_zip ?gk_TILES ?lk_TILES ?lk_TILES_0 ?lk_TILES_1 ?lk_TILES_2 ?lk_TILES_3 ?g_MOST_TERMS ?g_MOST_POWER ?g_MOST_PAIRS ?g_FIELD ?gx_EaselError ?xd_EaselError ?gx_Nothing ?xd_Nothing ?xc_Nothing ?xq_Nothing ?gx_Alike ?xd_Alike ?xc_Alike ?xq_Alike ?gx_Stuck ?xd_Stuck ?gx_FourOnLine ?xd_FourOnLine ?xc_FourOnLine ?xq_FourOnLine ?gx_Knot ?xd_Knot ?xc_Knot ?xq_Knot ?gx_NotRound ?xd_NotRound ?xc_NotRound ?xq_NotRound ?gx_NotOn ?xd_NotOn ?xc_NotOn ?xq_NotOn ?gx_InCurve ?xd_InCurve ?xc_InCurve ?xq_InCurve ?ai_Stuck ?li_Stuck ?ci_Stuck ?ki_Stuck ?xi_Stuck ?xf_Stuck ?xa_Stuck ?xs_Stuck
  (case h0|h1|h2|h3|h4|h5|h6|h7|h8|h9|h10|h11|h12|h13|h14=>(apply My.JW<;>k_is))
  (case h15|h16|h17|h18|h19|h20|h21|h22|h23|h24|h25|h26|h27|h28|h29=>(apply My.JW<;>k_is))
  (case h30|h31|h32|h33|h34|h35|h36|h37|h38|h39|h40|h41|h42|h43|h44=>(apply My.JW<;>k_is))
  (case h45|h46|h47|h48|h49|h50|h51|h52|h53|h54|h55|h56|h57|h58|h59=>(apply My.JW<;>k_is))
  (case h60|h61|h62|h63|h64|h65|h66|h67|h68|h69|h70|h71|h72|h73|h74=>(apply My.JW<;>k_is))
  (case h75|h76|h77|h78|h79|h80|h81=>(apply My.JW<;>k_is))
  (case z_abs|z_all|z_any|z_dict|z_enumerate|z_int|z_len|z_list|z_max|z_min|z_range|z_reversed|z_set|z_sorted|z_sum|z_tuple|z_zip|gk_TILES|lk_TILES|lk_TILES_0|lk_TILES_1|lk_TILES_2|lk_TILES_3=>k_is)
  (case g_MOST_TERMS|g_MOST_POWER|g_MOST_PAIRS|g_FIELD=>(apply Exists.intro<;>k_is))
  (case gx_EaselError|gx_Nothing|gx_Alike|gx_Stuck|gx_FourOnLine|gx_Knot|gx_NotRound|gx_NotOn|gx_InCurve|ai_Stuck|li_Stuck|ci_Stuck|ki_Stuck=>k_is)
  (case xd_EaselError|xd_Nothing|xc_Nothing|xd_Alike|xc_Alike|xd_Stuck|xd_FourOnLine|xc_FourOnLine|xd_Knot|xc_Knot|xd_NotRound|xc_NotRound|xd_NotOn|xc_NotOn|xd_InCurve|xc_InCurve|xi_Stuck|xf_Stuck|xa_Stuck|xs_Stuck=>kernel_rfl)
  (case xq_Nothing|xq_Alike|xq_FourOnLine|xq_Knot|xq_NotRound|xq_NotOn|xq_InCurve=>k_exc)
