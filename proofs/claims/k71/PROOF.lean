import PyProof.Rows.All
import Wide.All
import OpenK.AllK
import Wide.FinOn
import Lean
import PyProof.EqAt
import PyProof.EqKinds
import PyProof.TupleCall
import PySem.Challenge.RW_easelroom_k71_raws_at_numbers
set_option Elab.async false
set_option linter.all false
set_option maxRecDepth 100000
open PySem renaming wpAny_bind→abY,Value→acd,wpAny_pure→ach,Shared→aci,Spec→aco,Program→acK,wpAny→acL,sizeLine→acM,starEach→acN,model→acP,Builtin→acV,Around→acY,mainGlobals→ade,NameKind→adh,wpAny_newObj_type→adq,World→adt,wpAny_holding→adB,Paired→adF,cellsFrom→adI,wpAny_callSpecial?_slot→adO,wpAny_call_entry→adS,compareOp→adW,mem_of_lookup→adX,boot_len→adZ,wpAny_mono→aed,assignEach→aef,wpAny_field→aeg,sysModules→aeu,wpAny_rule→aeA,wpAny_typeOf→aeI,binaryOp→aeN,PassesOwn→aeP,FuncData→aeV,foldedSetIterable→aeW,cLine→afi,backTo→afj,wpAny_seqItems→afl,codeAny_builtin→afq,bootBuiltins→afs,wpAny_typeNameOfWhole_keyiter→afx,wpAny_setField_rec→afE,wpAny_Call_Name_kw→afF,DictEntry→afM,plainId_quiet→afQ,behindInMarks→afR,SetTable→afX,wpAny_typeNameOf_keyiter→agg,wpAny_ite_split→agn,wpAny_pyIter_list→agx,Keyword→agy,firstArgMember→agB,builtinLookup_eq_fast→agF,wpAny_newList→agJ,wpAny_attempt→agK,wpAny_passesOwn→agM,sliceBounds→agN,keywordEach→agO,codeAny→agP,pyNext→agS,IsPair→agU,sizeLine_eq→agX,rawInt→aha,intKind→ahc
open PySem.W renaming Frag→abZ,mg_none_of→adv,nsIn→ady,keepIn→aeK,findIn→aeL,fnOf→afN,mg_of→afV,codeIn→agI
open PySem.Heap renaming get?_push_of_some→ace,lt_size→acs,get?_push_size→acw,get?_update_other→adG,size_push→aex,SameBut→aez,get?_update_self→afd,DictOfH→ags,get?_none_of_le→agA,ExtBut→agV
open List renaming length_map→acf,map_cons→acg,getElem?_eq_getElem→acn,mem_cons_of_mem→acr,getElem?_map→acu,mem_cons→acA,map_append→acB,size_toArray→acC,getElem?_eq_some_iff→acD,length_cons→acE,mem_cons_self→acF,replicate→acG,length_append→acH,mem_map→acJ,mem_of_getElem?→acO,getD_eq_getElem?_getD→acQ,mem_singleton→acT,getElem?_append_right→acU,getElem?_append_left→acX,map_map→adb,take_length→adf,lookup_cons→adi,eq_nil_of_length_eq_zero→adk,take_succ→adl,mem_append→adn,mem_append_right→adz,map_nil→adA,append_assoc→adH,cons_lt_cons_iff→adJ,not_mem_nil→adL,find?_cons→adM,mem_append_left→adQ,replicate_succ→aea,length_take→aeb,all_eq_true→aec,zip_cons_cons→aeh,pairwise_iff_getElem→aei,drop_eq_getElem_cons→aej,pairwise_map→aem,pairwise_cons→aeo,nodup_cons→aep,pairwise_append→aer,take_of_length_le→aev,filter_cons→aeE,any_eq_true→aeF,flatten_cons→aeO,map_congr_left→aeR,length→aeS,append_nil→aeT,range→aeZ,getElem_mem→afa,mem_of_mem_take→afk,all_cons→afn,length_range'→afv,Pairwise→afH,mem_iff_getElem→afJ,lt_irrefl→afO,extract_eq_drop_take→afP,map_fst_zip→afS,cons_append→afT,nil_append→afY,getElem?_replicate→afZ,reverse_cons→agk,take_append_drop→agq,length_singleton→agr,any_cons→agD,length_nil→agG,forIn_cons→agH,forIn_nil→agL
open Nat renaming le_refl→acj,lt_of_lt_of_le→acp,le_trans→acq,ne_of_lt→acI,zero_le→adu,ne_of_gt→adR,lt_irrefl→adT,le_of_lt→aen,lt_of_le_of_lt→aeD,pow_add→aeJ,le_succ→aeU,beq→afu,le_of_ble_eq_true→afA,eq_of_beq_eq_true→afB,pow_le_pow_right→afL,pow_pos→afW,lt_trans→agu,mul_le_mul_right→agC,mul_le_mul→agQ,ble→agR
open Option.some renaming inj→acv
open PyProof.Rows renaming wpS_pure→acy,wpS_bind→acz,Keyed→ada,arrOf→adg,SortSt→ado,pendingOf→adD,pairsOf→adK,wpS_forRange→adU,slot_tuple_getitem→adV,boot_tuple→aee,callWith_type1→aek,seqObj→aeM,wpS_mono→afh,listUpdate_at→aft,kindOf→afG,setArr→afK,seqEpoch_at→agb,wpS_modify→agf,boot_isinstance→ago,SortKind→agp,IntsAre→agz,listItems_at→agE,pairsOf_size→agT,wpS_get→agW,failedOf→agZ,tuples'→ahb,AllBare→ahd
open PySem.SeqAt renaming RcNeAt→acR,EqAt→acS,RcAt→acW,ne_of_list_tuple→agh
open Bool renaming false_ne_true→acZ,false_eq_true→adx,and_eq_true→adC,eq_iff_iff→aga
open Lean renaming maxHeartbeats→adp,maxRecDepth→agY
open PySem.Builtin.SmallTypes renaming nextOf→adw,ownedTupleIsFree→aey
open PySem.PassesOwn renaming never→adE
open PySem.Builtin.Tuple renaming tupleExact→adN
open Array renaming getElem?_eq_getElem→adP,toList_append→adY,getElem?_toList→ael,length_toList→aew,toList_zip→aeC,perm_iff_toList_perm→aeY,getElem_toList→afg,size_map→agm,toList_extract→agw
open Ne renaming symm→aes
open List.cons renaming inj→aeB
open Int renaming emod_lt_of_pos→aeG,natAbs_mul→afe,emod_nonneg→afm,mul_le_mul_of_nonneg_right→afo,mul_comm→afC,toNat_natCast→afI,eq_ofNat_of_zero_le→agd
open PySem.Around renaming under_plainId→aeH
open PySem.F renaming slot_dict_keyiterator_next→aeQ,slot_tuple_iterator_next→afb,slot_zip_next→agi,slot_dict_get→agj
open Decidable renaming byContradiction→aeX
open PySem.Obj renaming mapSeq→afc,data_mapFields→agc
open PySem.Builtin.List renaming listExtendWith→afp
open Option renaming map_eq_some_iff→afr
open PySem.Builtin.Slice renaming slicePlaces→afw
open List.Pairwise renaming imp_of_mem→afy
open PySem.Str renaming ofString→afz
open False renaming elim→afD
open PySem.SetTable renaming bits→afU
open PySem.Heap.SameBut renaming update→agl
open Function renaming comp→agt
open PySem.Paired renaming length→agv
namespace L2
open PySem PySem.Spec PyProof.Rows
abbrev Key:=Sum Int Str
def Aq:Key->acd->Bool
 | .inl k,v=>Value.isInt k v
 | .inr x,v=>Value.isStrOf x v
def abP (w:adt):Key->Int
 | .inl k=>hashInt k
 | .inr x=>hashStr w x
theorem bU:∀ {k:Key} {v:acd},Aq k v=true->(∃ i t,k=Sum.inl i/\v=Value.int i t)\/(∃ x t,k=Sum.inr x/\v=Value.str x t)
 | .inl i,v,h=>by
  obtain ⟨t,e⟩:=Value.isInt_shape (k:=i) (v:=v) h;exact .inl ⟨i,t,rfl,e⟩
 | .inr x,v,h=>by
  obtain ⟨t,e⟩:=Value.isStrOf_shape (x:=x) (v:=v) h;exact .inr ⟨x,t,rfl,e⟩
def Gi (i:Int)(t:Tok):Aq (.inl i) (.int i t)=true:=by simp [Aq,Value.isInt]
def G7 (x:Str)(t:Tok):Aq (.inr x) (.str x t)=true:=by simp [Aq,Value.isStrOf]
def Um (a b:Int):decide ((Sum.inl a:Key)=Sum.inl b)=(a==b):=by
 by_cases e:a=b
 ·subst e;simp
 ·have h:¬ (Sum.inl a:Key)=Sum.inl b:=fun q=>e (Sum.inl.inj q)
  rw [decide_eq_false h];exact (beq_eq_false_iff_ne.mpr e).symm
def U0 (a b:Str):decide ((Sum.inr a:Key)=Sum.inr b)=decide (a=b):=by
 by_cases e:a=b
 ·subst e;simp
 ·have h:¬ (Sum.inr a:Key)=Sum.inr b:=fun q=>e (Sum.inr.inj q)
  rw [decide_eq_false h,decide_eq_false e]
def Vi (a:Int)(b:Str):decide ((Sum.inl a:Key)=Sum.inr b)=false:=decide_eq_false (fun q=>nomatch q)
def UG (a:Str)(b:Int):decide ((Sum.inr a:Key)=Sum.inl b)=false:=decide_eq_false (fun q=>nomatch q)
def dO (prog:acK)(w:adt):PySem.KeyKind prog w Key where
 is:=Aq
 hash:=abP w
 inj:=fun v a b ha hb=>by
  rcases bU ha with ⟨i,t,rfl,rfl⟩ | ⟨x,t,rfl,rfl⟩
  ·rcases bU hb with ⟨j,u,rfl,e⟩ | ⟨y,u,rfl,e⟩
   ·injection e with e1 _;rw [e1]
   ·exact nomatch e
  ·rcases bU hb with ⟨j,u,rfl,e⟩ | ⟨y,u,rfl,e⟩
   ·exact nomatch e
   ·injection e with e1 _;rw [e1]
 byValue:=fun k v h=>by
  rcases bU h with ⟨i,t,rfl,rfl⟩ | ⟨x,t,rfl,rfl⟩ <;> rfl
 pyHash:=fun hv h=>by
  rcases bU hv with ⟨i,t,rfl,rfl⟩ | ⟨x,t,rfl,rfl⟩
  ·exact wpAny_pyHash_int h
  ·exact wpAny_pyHash_str h
 eqBool:=fun hu hv h=>by
  rcases bU hu with ⟨i,t,rfl,rfl⟩ | ⟨x,t,rfl,rfl⟩
  ·rcases bU hv with ⟨j,u,rfl,rfl⟩ | ⟨y,u,rfl,rfl⟩
   ·rw [Um] at h;exact wpAny_eqBool_int h
   ·rw [Vi] at h;exact SeqAt.EqAt.int_str i t y u _ _ _ _ h
  ·rcases bU hv with ⟨j,u,rfl,rfl⟩ | ⟨y,u,rfl,rfl⟩
   ·rw [UG] at h;exact SeqAt.EqAt.str_int x t j u _ _ _ _ h
   ·rw [U0] at h;exact wpAny_eqBool_str h
 «strs»:=fun k x t v h=>by
  rcases bU h with ⟨i,u,rfl,e⟩ | ⟨y,u,rfl,e⟩
  ·exact nomatch e
  ·injection e with e1 _
   subst e1;cases v <;> rfl
def wH (prog:acK)(w:adt)(i:Int)(t:Tok):(dO prog w).is (.inl i) (.int i t)=true:=Gi i t
def yh (prog:acK)(w:adt)(x:Str)(t:Tok):(dO prog w).is (.inr x) (.str x t)=true:=G7 x t
inductive V where
 | non | bl (b:Bool) | int (i:Int) | str (x:Str) | byt (b:Array UInt8) | flt (b:UInt64) | ref (a:Addr) | ty (n:String)
 deriving DecidableEq
def RelV:V->acd->Prop
 | .non,u=>u=Value.none
 | .bl b,u=>u=Value.bool b
 | .int i,u=>∃ t,u=Value.int i t
 | .str x,u=>∃ t,u=Value.str x t
 | .byt b,u=>∃ t,u=Value.bytes b t
 | .flt b,u=>∃ t,u=Value.float b t
 | .ref a,u=>u=Value.ref a
 | .ty n,u=>u=Value.type n
abbrev Vals:List V->List acd->Prop:=adF RelV
variable {xs : List V}{us : List acd}
def Vals.length {xs:List V}{us:List acd}(r:Vals xs us):xs.length=us.length:=agv r
theorem Vals.get:∀ {xs:List V} {us:List acd} {i:Nat} {x:V},Vals xs us->xs[i]?=some x->∃ u,us[i]?=some u/\RelV x u
 | _,_,_,_,.nil,e=>by simp at e
 | _,_,0,_,.cons r _,e=>by simp at e;subst e;exact ⟨_,rfl,r⟩
 | _,_,i+1,x,.cons _ t,e=>by
  obtain ⟨u,h1,h2⟩:=Vals.get (i:=i) (x:=x) t (by simpa using e);exact ⟨u,by simpa using h1,h2⟩
variable {u : acd}
theorem Vals.set {x:V}{u:acd}(r:RelV x u):∀ {xs:List V} {us:List acd} (i:Nat),Vals xs us->Vals (xs.set i x) (us.set i u)
 | _,_,_,.nil=>.nil
 | _,_,0,.cons _ t=>.cons r t
 | _,_,i+1,.cons q t=>.cons q (Vals.set r i t)
theorem Vals.append:∀ {xs ys:List V} {us ws:List acd},Vals xs us->Vals ys ws->Vals (xs++ys) (us++ws)
 | _,_,_,_,.nil,s=>s
 | _,_,_,_,.cons r t,s=>.cons r (Vals.append t s)
theorem Vals.take:∀ {xs:List V} {us:List acd} (n:Nat),Vals xs us->Vals (xs.take n) (us.take n)
 | _,_,0,_=>.nil
 | _,_,_+1,.nil=>.nil
 | _,_,n+1,.cons r t=>.cons r (Vals.take n t)
theorem Vals.drop:∀ {xs:List V} {us:List acd} (n:Nat),Vals xs us->Vals (xs.drop n) (us.drop n)
 | _,_,0,r=>r
 | _,_,_+1,.nil=>.nil
 | _,_,n+1,.cons _ t=>Vals.drop n t
def Jh:Option V->Option acd->Prop
 | some v,some u=>RelV v u
 | none,none=>True
 | _,_=>False
variable {κ : Type}
def KV:List (κ×V)->List (κ×acd)->Prop:=adF fun (p:κ×V) (q:κ×acd)=>p.1=q.1/\RelV p.2 q.2
def kV:Key->V
 | .inl i=>.int i
 | .inr x=>.str x
inductive HO where
 /-- a list -/
 | lst (xs:List V)
 /-- a tuple (never changes) -/
 | tup (xs:List V)
 /-- a dict whose keys are ints and texts; one whose keys are tuples of ints and texts (the empty one is both) -/
 | dK (kvs:List (Key×V)) | dT (kvs:List (List Key×V))
 /-- a set of ints: its members, its size -/
 | set (S:Int->Bool) (n:Nat)
 /-- an instance of the class at C, its dict at dx, its attributes -/
 | ins (C dx:Addr) (fs:List (Str×V))
 /-- the dict of the instance at x -/
 | own (x:Addr)
 /-- the dict of an exception -/
 | xd (fs:List (Str×V))
 /-- a bound method, f of x -/
 | met (f x:Addr)
 /-- a range object lo, lo + 1, .. below hi -/
 | rng (lo hi:Int)
 /-- a thing that is known to the object (the script; a dict while a loop walks it): read, never written while it is so -/
 | frz (o:Obj) (u:HO)
 /-- a code object's table -/
 | tbl (ps:Array acd)
 /-- any other thing, by what is true of its one object (a def of one's own: SetO a S n := HO.ext fun h => ..) -/
 | ext (φ : Heap->Prop)
abbrev Hp:=Addr->Option HO
def upd (H:Hp)(a:Addr)(o:HO):Hp:=fun b=>if b=a then some o else H b
variable {H : Hp}
def bB {a:Addr}{o:HO}:upd H a o a=some o:=by unfold upd;rw [if_pos rfl]
def aR {a b:Addr}{o:HO}(h:b≠a):upd H a o b=H b:=by unfold upd;rw [if_neg h]
def aV {a b:Addr}{o:HO}(h:H a=some o)(h':H b=none):a≠b:=by
 intro e;subst e;rw [h] at h';cases h'
section
variable (P:acK)(w:adt)
def G4 (h:Heap)(a:Addr)(items:Array acd):Prop:=∃ o,h.get? a=some o/\o.cls=.type "tuple"/\(∃ n,o.data=.seq items n)/\o.dict=none
def G4.tup {h:Heap}{a:Addr}{items:Array acd}(x:G4 h a items):IsTup h a items:=let ⟨o,ho,hc,hd,_⟩:=x;⟨o,ho,hc,hd⟩
def G4.new (h:Heap)(items:Array acd):G4 (h.push { cls:=.type "tuple",data:=.seq items }) h.objs.size items:=⟨_,acw _ rfl,rfl,⟨_,rfl⟩,rfl⟩
def eG (H:Hp)(h:Heap)(a:Addr):HO->Prop
 | .lst xs=>xs.length<=acM/\∃ (its:List acd) (n:Nat),Vals xs its/\h.get? a=some { cls:=.type "list",data:=.seq its.toArray n }
 | .tup xs=>xs.length<=acM/\∃ its:List acd,Vals xs its/\G4 h a its.toArray
 | .dK kvs=>kvs.length<=acM/\(a==aeu)=false/\∃ vs,KV kvs vs/\h.DictOf (dO P w) a vs
 | .dT kvs=>kvs.length<=acM/\(a==aeu)=false/\∃ xs:List (List Key×Addr×acd),
   adF (fun (p:List Key×V) (q:List Key×Addr×acd)=>p.1=q.1/\H q.2.1=some (.tup (p.1.map kV))/\RelV p.2 q.2.2) kvs xs /\
   ∃ o es ep,h.get? a=some o/\o.ExactDict/\o.data=.dict es ep/\es.toList=xs.map (entryOfKey (tupleKind (dO P w)))/\(xs.map (·.1)).Nodup
 | .set S n=>h.SetOf (ahc P w) a S n
 | .ins C dx fs=>H dx=some (.own a)/\fs.length<=1000/\dx≠a/\h.get? a=some (PySem.W.instObj C dx) /\
   ∃ mA,h.Ns1 dx mA/\(∀ f,Jh (fs.lookup f) (mA f))/\PySem.Within mA (fs.map (·.1))
 | .own _=>∃ o,h.get? a=some o
 | .xd fs=>∃ mA,h.Ns1 a mA/\∀ f,Jh (fs.lookup f) (mA f)
 | .rng lo hi=>∃ t u v,h.get? a=some { cls:=.type "range",data:=.fields #[.int lo t,.int hi u,.int 1 v] }
 | .frz o u=>h.get? a=some o/\eG H h a u
 | .tbl ps=>h.get? a=some { cls:=.none,data:=.fields ps }
 | .met f x=>h.get? a=some (PySem.W.methodObj (.ref f) (.ref x))
 | .ext φ=>φ h/\(∃ o,h.get? a=some o)/\∀ h1 h2:Heap,φ h1->(∀ o,h1.get? a=some o->h2.get? a=some o)->φ h2
def HOk (H:Hp)(h:Heap):Prop:=∀ a o,H a=some o->eG P w H h a o
end
variable {h : Heap}
section
variable {P:acK}{w:adt}{H':Hp}{h':Heap}{a:Addr}{o:HO}
def eG.lt (x:eG P w H h a o):a<h.objs.size:=by
 cases o with
 | lst xs=>obtain ⟨_,_,_,_,e⟩:=x;exact acs e
 | tup xs=>obtain ⟨_,_,_,p⟩:=x;exact p.tup.lt
 | dK kvs=>obtain ⟨_,_,_,_,o,_,_,e,_⟩:=x;exact acs e
 | dT kvs=>obtain ⟨_,_,_,_,o,_,_,e,_⟩:=x;exact acs e
 | set S n=>obtain ⟨o,_,_,_,e,_⟩:=x;exact acs e
 | ins C dx fs=>obtain ⟨_,_,_,e,_⟩:=x;exact acs e
 | own y=>obtain ⟨_,e⟩:=x;exact acs e
 | xd fs=>obtain ⟨_,⟨_,_,_,e,_⟩,_⟩:=x;exact acs e
 | rng lo hi=>obtain ⟨_,_,_,e⟩:=x;exact acs e
 | frz ob u=>obtain ⟨e,_⟩:=x;exact acs e
 | tbl ps=>exact acs (show h.get? a=some _ from x)
 | met f y=>exact acs (show h.get? a=some _ from x)
 | ext φ=>obtain ⟨_,⟨_,e⟩,_⟩:=x;exact acs e
theorem Paired.mapP {α β : Type}{F G:α->β->Prop}:∀ {l₁ : List α} {l₂ : List β},adF F l₁ l₂->(∀ a b,F a b->G a b)->adF G l₁ l₂
 | _,_,.nil,_=>.nil
 | _,_,.cons r t,f=>.cons (f _ _ r) (Paired.mapP t f)
def eG.stay (x:eG P w H h a o)(k:∀ b u,(b=a\/H b=some (.own a))->h.get? b=some u->h'.get? b=some u)
  (ho:∀ b,H b=some (.own a)->H' b=some (.own a)) (ht:∀ b xs,H b=some (.tup xs)->H' b=some (.tup xs)):eG P w H' h' a o:=by
 induction o with
 | lst xs=>obtain ⟨z,its,n,r,e⟩:=x;exact ⟨z,its,n,r,k _ _ (.inl rfl) e⟩
 | tup xs=>obtain ⟨z,its,r,ob,e,c⟩:=x;exact ⟨z,its,r,ob,k _ _ (.inl rfl) e,c⟩
 | dK kvs=>obtain ⟨z,y,vs,r,ob,es,ep,e,c⟩:=x;exact ⟨z,y,vs,r,ob,es,ep,k _ _ (.inl rfl) e,c⟩
 | dT kvs=>
  obtain ⟨z,y,xs,r,ob,es,ep,e,c⟩:=x;exact ⟨z,y,xs,Paired.mapP r fun p q z=>⟨z.1,ht _ _ z.2.1,z.2.2⟩,ob,es,ep,k _ _ (.inl rfl) e,c⟩
 | set S n=>obtain ⟨ob,es,ep,t,e,c⟩:=x;exact ⟨ob,es,ep,t,k _ _ (.inl rfl) e,c⟩
 | ins C dx fs=>
  obtain ⟨d,z,ne,e,mA,⟨od,es,ep,e2,c⟩,r⟩:=x;exact ⟨ho _ d,z,ne,k _ _ (.inl rfl) e,mA,⟨od,es,ep,k _ _ (.inr d) e2,c⟩,r⟩
 | own y=>obtain ⟨ob,e⟩:=x;exact ⟨ob,k _ _ (.inl rfl) e⟩
 | xd fs=>obtain ⟨mA,⟨od,es,ep,e,c⟩,r⟩:=x;exact ⟨mA,⟨od,es,ep,k _ _ (.inl rfl) e,c⟩,r⟩
 | rng lo hi=>obtain ⟨t,u,v,e⟩:=x;exact ⟨t,u,v,k _ _ (.inl rfl) e⟩
 | frz ob u ih=>obtain ⟨e,q⟩:=x;exact ⟨k _ _ (.inl rfl) e,ih q⟩
 | tbl ps=>
  have e:h.get? a=some { cls:=.none,data:=.fields ps }:=x;show h'.get? a=some { cls:=.none,data:=.fields ps };exact k a _ (.inl rfl) e
 | met f y=>
  have e:h.get? a=some (PySem.W.methodObj (.ref f) (.ref y)):=x;show h'.get? a=some (PySem.W.methodObj (.ref f) (.ref y));exact k a _ (.inl rfl) e
 | ext φ=>obtain ⟨p,⟨o,e⟩,st⟩:=x;exact ⟨st _ _ p fun o q=>k _ _ (.inl rfl) q,⟨o,k _ _ (.inl rfl) e⟩,st⟩
def HOk.lt (x:HOk P w H h)(e:H a=some o):a<h.objs.size:=(x a o e).lt
def HOk.fresh (x:HOk P w H h)(e:h.objs.size<=a):H a=none:=by
 cases q:H a with
 | none=>rfl
 | some u=>exact absurd (acp (x.lt q) e) (adT _)
def HOk.kept (x:HOk P w H h)(k:∀ b u,h.get? b=some u->h'.get? b=some u):HOk P w H h':=fun a o e=>
 (x a o e).stay (fun b u _ q=>k b u q) (fun _ q=>q) fun _ _ q=>q
def HOk.laid (x:HOk P w H h)(k:∀ b u,h.get? b=some u->h'.get? b=some u)(hp:h.objs.size<=a)(new:eG P w (upd H a o) h' a o):HOk P w (upd H a o) h':=fun b u e=>by
 have hn:=x.fresh hp;by_cases hb:b=a
 ·subst hb;rw [bB] at e;cases e;exact new
 ·rw [aR hb] at e;exact (x b u e).stay (fun c v _ q=>k c v q) (fun c q=>by rw [aR (aV q hn)];exact q) fun c xs q=>by rw [aR (aV q hn)];exact q
end
variable {h' : Heap}{H' : Hp}{P : acK}{w : adt}
def Rd (H:Hp)(a:Addr)(u:HO):Prop:=H a=some u\/∃ o,H a=some (.frz o u)
def Rd.ok {a:Addr}{u:HO}(r:Rd H a u)(x:HOk P w H h):eG P w H h a u:=by
 rcases r with r | ⟨o,r⟩
 ·exact x a u r
 ·obtain ⟨_,q⟩:=x a _ r;exact q
def Mut:Option HO->Prop
 | some (.lst _)=>True
 | some (.dK _)=>True
 | some (.dT _)=>True
 | some (.set _ _)=>True
 | some (.ins _ _ _)=>True
 | some (.ext _)=>True
 | _=>False
section
variable {x e:Addr}{o':HO}
def HOk.write (ok:HOk P w H h)(mu:Mut (H x))(he:e=x\/H e=some (.own x))(k:∀ b u,b≠e->h.get? b=some u->h'.get? b=some u)(heo:∃ u,h'.get? e=some u)
  (new:eG P w (upd H x o') h' x o'):HOk P w (upd H x o') h':=fun b u q=>by
 have nown:∀ c y,H c=some (.own y)->c≠x:=fun c y r z=>by subst z;rw [r] at mu;exact mu
 have ntup:∀ c xs,H c=some (.tup xs)->c≠x:=fun c xs r z=>by subst z;rw [r] at mu;exact mu
 by_cases hb:b=x
 ·subst hb;rw [bB] at q;cases q;exact new
 ·rw [aR hb] at q;by_cases hbe:b=e
  ·have q':H b=some (.own x):=by
    rcases he with z | z
    ·exact absurd (hbe.trans z) hb
    ·rw [hbe];exact z
   rw [q] at q';cases q';obtain ⟨v,hv⟩:=heo;exact ⟨v,by rw [hbe];exact hv⟩
  ·refine (ok b u q).stay (fun c v hc r=>k c v ?_ r) (fun c r=>by rw [aR (nown c b r)];exact r) fun c xs r=>by rw [aR (ntup c xs r)];exact r
   rcases hc with rfl | hc
   ·exact hbe
   ·rintro rfl;rcases he with z | z
    ·exact nown c b hc z
    ·rw [hc] at z;cases z;exact hb rfl
end
structure Un (fs ex:List Addr) (H H':Hp) (h h':Heap):Prop where
 keep:∀ b o,h.get? b=some o->H b=none->b∉fs->b∉ex->h'.get? b=some o
 slot:∀ b o,h.get? b=some o->H b=none->b∈fs->b∉ex->∃ sl,h'.get? b=some { o with slots:=sl }
 free:∀ b o,h.get? b=some o->H b=none->b∉ex->H' b=none
 there:∀ b o,h.get? b=some o->b∉ex->∃ o',h'.get? b=some o'
 tups:∀ b xs,H b=some (.tup xs)->H' b=some (.tup xs)
 frzs:∀ b o u,H b=some (.frz o u)->H' b=some (.frz o u)
 tbls:∀ b ps,H b=some (.tbl ps)->∃ more,H' b=some (.tbl (ps++more))
section
variable {fs fs' ex ex':List Addr}{H1 H2:Hp}{h1 h2:Heap}{a x e:Addr}{o:HO}
def Un.any (u:Un fs ex H H1 h h1){b:Addr}{ob:Obj}(q:h.get? b=some ob)(n:H b=none)(hx:b∉ex):∃ sl,h1.get? b=some { ob with slots:=sl }:=by
 by_cases hb:b∈fs
 ·exact u.slot b ob q n hb hx
 ·exact ⟨ob.slots,u.keep b ob q n hb hx⟩
def Un.kept (k:∀ b u,h.get? b=some u->h'.get? b=some u):Un fs ex H H h h':=
 ⟨fun b ob q _ _ _=>k b ob q,fun b ob q _ _ _=>⟨ob.slots,k b ob q⟩,fun _ _ _ n _=>n,fun b ob q _=>⟨ob,k b ob q⟩,fun _ _ q=>q,fun _ _ _ q=>q,fun _ ps q=>⟨#[],by rw [q];simp⟩⟩
def Un.refl:Un fs ex H H h h:=Un.kept fun _ _ q=>q
def Un.laid (k:∀ b u,h.get? b=some u->h'.get? b=some u)(hp:h.objs.size<=a)(hn:H a=none):Un fs ex H (upd H a o) h h' where
 keep:=fun b u q _ _ _=>k b u q
 slot:=fun b u q _ _ _=>⟨u.slots,k b u q⟩
 free:=fun b u q n _=>by rw [aR (acI (acp (acs q) hp))];exact n
 there:=fun b u q _=>⟨u,k b u q⟩
 tups:=fun b xs q=>by rw [aR (aV q hn)];exact q
 frzs:=fun b u xs q=>by rw [aR (aV q hn)];exact q
 tbls:=fun b ps q=>⟨#[],by rw [aR (aV q hn),q];simp⟩
def Un.write (mu:Mut (H x))(he:e=x\/H e=some (.own x))(k:∀ b u,b≠e->h.get? b=some u->h'.get? b=some u)(heo:∃ u,h'.get? e=some u):Un fs ex H (upd H x o) h h':=by
 have hx:∀ b,H b=none->b≠x:=fun b n z=>by subst z;rw [n] at mu;exact mu
 have hb:∀ b,H b=none->b≠e:=fun b n z=>by
  subst z;rcases he with r | r
  ·exact hx b n r
  ·rw [n] at r;cases r
 have hm:∀ b u,H b=some u->¬ Mut (some u)->b≠x:=fun b u q nm z=>by subst z;rw [q] at mu;exact nm mu
 refine ⟨fun b u q n _ _=>k b u (hb b n) q,fun b u q n _ _=>⟨u.slots,k b u (hb b n) q⟩,fun b u q n _=>by rw [aR (hx b n)];exact n,fun b u q _=>?_,
  fun b xs q=>by rw [aR (hm b _ q fun z=>z)];exact q,fun b u xs q=>by rw [aR (hm b _ q fun z=>z)];exact q,fun b ps q=>⟨#[],by rw [aR (hm b _ q fun z=>z),q];simp⟩⟩
 by_cases hbe:b=e
 ·subst hbe;exact heo
 ·exact ⟨u,k b u hbe q⟩
end
def trk (h:Heap)(H:Hp):List Addr:=(aeZ h.objs.size).filter fun a=>(H a).isSome
def KN (h:Heap)(H:Hp):Heap:=PySem.W.hideAll h (trk h H)
def DY (h:Heap)(H:Hp):(KN h H).objs.size=h.objs.size:=PySem.W.hideAll_size _ _
def Ke {b:Addr}{o:Obj}(e:h.get? b=some o)(n:H b=none):(KN h H).get? b=some o:=
 PySem.W.hideAll_get _ e fun hm=>by
  have q:(H b).isSome=true:=(List.mem_filter.mp hm).2;rw [n] at q;simp at q
def Oh {b:Addr}{o:Obj}(e:(KN h H).get? b=some o):h.get? b=some o/\H b=none:=by
 have e':h.get? b=some o:=PySem.W.of_hideAll (trk h H) e;refine ⟨e',?_⟩;cases q:H b with
 | none=>rfl
 | some x=>
  have hm:b∈trk h H:=List.mem_filter.mpr ⟨List.mem_range.mpr (acs e'),by simp [q]⟩;have z:(KN h H).get? b=none:=PySem.W.hideAll_none (trk h H) hm;rw [z] at e;cases e
def Q6 (g h:Heap)(L:Addr):List (Addr×Obj):=(aeZ h.objs.size).filterMap fun a=>if a=L\/(g.get? a).isSome=true then none else (h.get? a).map fun o=>(a,o)
def rest (g h:Heap)(L d:Addr):List (Addr×Obj):=(Q6 g h L).filter fun p=>decide (p.1≠d)
structure Mod (K:abZ) (mg:Str->Option acd) (base:Heap):Prop where
 kin:K.In base
 glob:base.Ns ade mg
 blt:∃ mb,base.Ns builtinsNs mb/\∀ x:Str,x ≠ "__name__"->mb x=afs x
 nolimit:base.NoLimit
structure Cx where
 prog:acK
 w:adt
 K:abZ
 mg:Str->Option acd
 base:Heap
 A:acY
 N:List Str
 s₀ : aci
 H₀ : Hp
 env:Env
 outer:List Env
 stack:List Env
 ex:List Addr
 fn:Str->Bool
 calm:Bool
 pn:List (Addr×Obj)
 xe:acd->aci->Prop
def frs (l:List Env):List Addr:=l.filterMap (·.frame)
abbrev Cx.fs (X:Cx):List Addr:=frs X.outer
def Vis (sc:Scope)(x:Str):Prop:=sc.names.lookup x=some .local\/sc.names.lookup x=some .cell\/sc.names.lookup x=some .free
def Loc (sc:Scope)(x:Str):Prop:=sc.names.lookup x=some .local\/sc.names.lookup x=some .cell
def Look (env:Env)(h:Heap)(m:Str->Option acd)(x:Str)(u:acd):Prop:=
 (env.kindOf x=some .local/\m x=some u)\/((env.kindOf x=some .cell\/env.kindOf x=some .free)/\∃ c,env.cells.lookup x=some c/\h.IsCell c (some u))
def Still (H:Hp)(v:acd):Prop:=∃ (a:Addr) (o:Obj) (u:HO) (vs:Array acd),v=.ref a/\H a=some (.frz o u)/\o.data=.fields vs/\vs[2]?=some .none
def Quiet (A:acY)(H:Hp):Prop:=∀ v,A.handled=some v->Still H v
structure Cx.Ok (X:Cx):Prop where
 mod:Mod X.K X.mg X.base
 kind:X.env.scope.kind=.function
 glob:X.env.globals=ade
 blt:X.env.builtins=builtinsNs
 above:X.s₀.heap.objs.size<=X.env.locals
 inj:∀ x y c,X.env.cells.lookup x=some c->X.env.cells.lookup y=some c->x=y
 has:∀ x,(X.env.kindOf x=some .cell\/X.env.kindOf x=some .free)->∃ c,X.env.cells.lookup x=some c
 cab:∀ x c,X.fn x=true->X.env.cells.lookup x=some c->X.s₀.heap.objs.size<=c
 hd:X.calm=true->X.A.handled=none
 qt:Quiet X.A X.H₀
 frames:X.A.frames=some X.stack
 stk:X.stack=X.outer\/(X.stack=X.env::X.outer/\X.env.frame=some X.env.locals)
 exf:∀ b∈X.ex,b≠X.env.locals/\∀ x c,X.env.cells.lookup x=some c->c≠b
 bs:∀ b o,X.base.get? b=some o->X.s₀.heap.get? b=some o/\X.H₀ b=none
 bsz:X.base.objs.size<=X.s₀.heap.objs.size
 noex:∀ b o,X.base.get? b=some o->b∉X.ex
 exfs:∀ b∈X.ex,b∉X.fs
 funs:X.s₀.heap.FunFrames X.base X.outer
 frf:∀ b∈X.fs,X.H₀ b=none
structure Inv (X:Cx) (ahW:List (Addr×Obj)) (Z : List (Option V)) (H:Hp) (s:aci):Prop where
 ok:X.Ok
 os:s.os=X.s₀.os
 bare:ahd s.gens
 base:Un X.fs X.ex X.H₀ H X.s₀.heap s.heap
 loc:∃ m,s.heap.Ns X.env.locals m/\∀ (i:Nat) (x:Str) (v:V),X.N[i]?=some x->Z[i]?=some (some v)->Vis X.env.scope x->∃ u,RelV v u/\Look X.env s.heap m x u
 cell:∀ x c,X.env.cells.lookup x=some c->∃ v,s.heap.IsCell c v
 free:H X.env.locals=none
 freeC:∀ x c,X.env.cells.lookup x=some c->H c=none
 pin:∀ p∈X.pn++ahW,s.heap.get? p.1=some p.2/\H p.1=none/\p.1≠X.env.locals/\p.1∉X.fs/\∀ v,p.2.data≠.cell v
 hok:HOk X.prog X.w H s.heap
 len:Z.length=X.N.length
section
variable {X:Cx}{ahW:List (Addr×Obj)}{Z : List (Option V)}{s:aci}
def Cx.Ok.nofr (ok:X.Ok){b:Addr}{o:Obj}(e:X.base.get? b=some o):b∉X.fs:=fun hb=>by
 have:=(ok.funs.mem hb).1
 rw [e] at this;cases this
def Inv.bs (I:Inv X ahW Z H s):∀ b o,X.base.get? b=some o->s.heap.get? b=some o/\H b=none:=fun b o e=>
 ⟨I.base.keep b o (I.ok.bs b o e).1 (I.ok.bs b o e).2 (I.ok.nofr e) (I.ok.noex b o e),I.base.free b o (I.ok.bs b o e).1 (I.ok.bs b o e).2 (I.ok.noex b o e)⟩
def Inv.qt0 (I:Inv X ahW Z H s):Quiet X.A H:=fun v e=>let ⟨a,o,u,vs,h1,h2,h3⟩:=I.ok.qt v e;⟨a,o,u,vs,h1,I.base.frzs a o u h2,h3⟩
def Inv.bk (I:Inv X ahW Z H s):∀ b o,X.base.get? b=some o->s.heap.get? b=some o:=fun b o e=>(I.bs b o e).1
def Inv.mod (I:Inv X ahW Z H s):Mod X.K X.mg X.base:=I.ok.mod
def Inv.kIn (I:Inv X ahW Z H s):X.K.In s.heap:=I.ok.mod.kin.keeps I.bk
def Inv.lt (I:Inv X ahW Z H s):X.env.locals<s.heap.objs.size:=let ⟨_,hn,_⟩:=I.loc;hn.lt
def Inv.sz (I:Inv X ahW Z H s):X.s₀.heap.objs.size<=s.heap.objs.size:=acq I.ok.above (aen I.lt)
def Inv.nofs (I:Inv X ahW Z H s){a:Addr}(h:s.heap.objs.size<=a):a∉X.fs:=fun hb=>by
 obtain ⟨_,o,ho,_⟩:=I.ok.funs.mem hb;exact absurd (acp (acs ho)<|acq I.sz h)<|adT _
def Inv.cne (I:Inv X ahW Z H s):∀ x c,X.env.cells.lookup x=some c->c≠X.env.locals:=fun x c e z=>by
 obtain ⟨v,o,ho,hd⟩:=I.cell x c e;obtain ⟨m,⟨o',es,ep,ho',hd',_⟩,_⟩:=I.loc;rw [z,ho'] at ho;cases ho;rw [hd'] at hd;cases hd
def Inv.funs (I:Inv X ahW Z H s):s.heap.FunFrames X.base X.outer:=by
 have all:∀ (l:List Env),(∀ b∈frs l,b∈X.fs)->X.s₀.heap.FunFrames X.base l->s.heap.FunFrames X.base l:=by
  intro l;induction l with
  | nil=>intro _ _;trivial
  | cons env r ih=>
   intro hs hl;obtain ⟨hk,⟨L,o,hf,hn,ho,hd⟩,hr⟩:=hl;have hL:L∈X.fs:=hs L (by unfold frs;rw [List.filterMap_cons,hf];exact acF);obtain ⟨sl,e⟩:=I.base.slot L o ho (I.ok.frf L hL) hL fun z=>I.ok.exfs L z hL
   exact ⟨hk,⟨L,_,hf,hn,e,hd⟩,ih (fun b hb=>hs b (by unfold frs;rw [List.filterMap_cons,hf];exact acr _ hb)) hr⟩
 exact all X.outer (fun _ hb=>hb) I.ok.funs
def Inv.stack (I:Inv X ahW Z H s):s.heap.FunFrames X.base X.stack:=by
 rcases I.ok.stk with e | ⟨e,hf⟩
 ·rw [e];exact I.funs
 ·rw [e];obtain ⟨m,hn,_⟩:=I.loc;refine .cons (by rw [I.ok.kind];decide) hf hn ?_ I.funs;exact agA<|acq I.ok.bsz I.ok.above
def Inv.stkSub (I:Inv X ahW Z H s):∀ b∈frs X.stack,b∈X.env.locals::X.fs:=fun b hb=>by
 rcases I.ok.stk with e | ⟨e,hf⟩
 ·rw [e] at hb;exact acr _ hb
 ·rw [e] at hb;unfold frs at hb;rw [List.filterMap_cons,hf] at hb;exact hb
def Inv.stkFree (I:Inv X ahW Z H s):∀ b∈frs X.stack,H b=none:=fun b hb=>by
 rcases acA.mp (I.stkSub b hb) with e | hb
 ·rw [e];exact I.free
 ·obtain ⟨_,o,ho,_⟩:=I.ok.funs.mem hb;exact I.base.free b o ho (I.ok.frf b hb) fun z=>I.ok.exfs b z hb
def Inv.stepG {g':Array GenState}{t':Nat}{d':Drawn}{ch:List Addr}(I:Inv X ahW Z H s)
  (hch:∀ b∈ch,(b∈X.ex\/X.s₀.heap.get? b=none)/\b≠X.env.locals/\(∀ x c,X.env.cells.lookup x=some c->c≠b)/\∀ p∈X.pn++ahW,p.1≠b)
  (keep:∀ b o,b≠X.env.locals->b∉X.fs->b∉ch->s.heap.get? b=some o->H b=none->h'.get? b=some o)
  (slot:∀ b o,b≠X.env.locals->b∈X.fs->b∉ch->s.heap.get? b=some o->H b=none->∃ sl,h'.get? b=some { o with slots:=sl }) (free:∀ b o,b∉ch->s.heap.get? b=some o->H b=none->H' b=none)
  (there:∀ b o,b∉ch->s.heap.get? b=some o->∃ o',h'.get? b=some o')
  (tups:∀ b xs,H b=some (.tup xs)->H' b=some (.tup xs)) (frzs:∀ b o u,H b=some (.frz o u)->H' b=some (.frz o u)) (tbls:∀ b ps,H b=some (.tbl ps)->∃ more,H' b=some (.tbl (ps++more)))
  (ns:∀ m,s.heap.Ns X.env.locals m->h'.Ns X.env.locals m) (hok:HOk X.prog X.w H' h') (hg:ahd g') :
  Inv X ahW Z H' { s with heap:=h',gens:=g',drawn:=d',toks:=t' }:=by
 have neL:∀ b o,X.s₀.heap.get? b=some o->b≠X.env.locals:=fun b o e=>acI (acp (acs e) I.ok.above)
 have neC:∀ b o,X.s₀.heap.get? b=some o->b∉X.ex->b∉ch:=fun b o e hx hb=>by
  rcases (hch b hb).1 with z | z
  ·exact hx z
  ·rw [z] at e;cases e
 have cellK:∀ x c,X.env.cells.lookup x=some c->∀ v,s.heap.IsCell c v->h'.IsCell c v:=fun x c e v ⟨o,ho,hd⟩=>by
  have nch:c∉ch:=fun z=>(hch c z).2.2.1 x c e rfl
  by_cases hc:c∈X.fs
  ·obtain ⟨sl,q⟩:=slot c o (I.cne x c e) hc nch ho (I.freeC x c e);exact ⟨_,q,hd⟩
  ·exact ⟨o,keep c o (I.cne x c e) hc nch ho<|I.freeC x c e,hd⟩
 refine ⟨I.ok,I.os,hg,⟨fun b o e n hb hx=>?_,fun b o e n hb hx=>?_,fun b o e n hx=>?_,fun b o e hx=>?_,fun b xs e=>tups b xs<|I.base.tups b xs e,fun b o xs e=>frzs b o xs<|I.base.frzs b o xs e,fun b ps e=>?_⟩,?_,fun x c e=>?_,?_,fun x c e=>?_,fun p hp=>?_,hok,I.len⟩
 ·exact keep b o (neL b o e) hb (neC b o e hx) (I.base.keep b o e n hb hx)<|I.base.free b o e n hx
 ·obtain ⟨sl,e1⟩:=I.base.slot b o e n hb hx;obtain ⟨sl',e2⟩:=slot b _ (neL b o e) hb (neC b o e hx) e1 (I.base.free b o e n hx);exact ⟨sl',e2⟩
 ·obtain ⟨o',e1⟩:=I.base.there b o e hx;exact free b o' (neC b o e hx) e1<|I.base.free b o e n hx
 ·obtain ⟨o',e1⟩:=I.base.there b o e hx;exact there b o' (neC b o e hx) e1
 ·obtain ⟨m1,e1⟩:=I.base.tbls b ps e;obtain ⟨m2,e2⟩:=tbls b _ e1;exact ⟨m1++m2,by rw [e2,Array.append_assoc]⟩
 ·obtain ⟨m,hn,hl⟩:=I.loc;refine ⟨m,ns m hn,fun i x v e1 e2 e3=>?_⟩;obtain ⟨u,r,l⟩:=hl i x v e1 e2 e3;refine ⟨u,r,?_⟩;rcases l with l | ⟨k,c,e,z⟩
  ·exact .inl l
  ·exact .inr ⟨k,c,e,cellK x c e _ z⟩
 ·obtain ⟨v,z⟩:=I.cell x c e;exact ⟨v,cellK x c e v z⟩
 ·obtain ⟨m,⟨o,_,_,ho,_⟩,_⟩:=I.loc;exact free _ o (fun z=>(hch _ z).2.1 rfl) ho I.free
 ·obtain ⟨v,o,ho,hd⟩:=I.cell x c e;exact free c o (fun z=>(hch c z).2.2.1 x c e rfl) ho<|I.freeC x c e
 ·obtain ⟨e,n,ne,nf,d⟩:=I.pin p hp;have nch:p.1∉ch:=fun z=>(hch p.1 z).2.2.2 p hp rfl
  exact ⟨keep p.1 p.2 ne nf nch e n,free p.1 p.2 nch e n,ne,nf,d⟩
def Inv.step {g':Array GenState}{t':Nat}{d':Drawn}{ch:List Addr}(I:Inv X ahW Z H s)
  (hch:∀ b∈ch,(b∈X.ex\/X.s₀.heap.objs.size<=b)/\b≠X.env.locals/\(∀ x c,X.env.cells.lookup x=some c->c≠b)/\∀ p∈X.pn++ahW,p.1≠b)
  (keep:∀ b o,b≠X.env.locals->b∉X.fs->b∉ch->s.heap.get? b=some o->H b=none->h'.get? b=some o)
  (slot:∀ b o,b≠X.env.locals->b∈X.fs->b∉ch->s.heap.get? b=some o->H b=none->∃ sl,h'.get? b=some { o with slots:=sl }) (free:∀ b o,b∉ch->s.heap.get? b=some o->H b=none->H' b=none)
  (there:∀ b o,b∉ch->s.heap.get? b=some o->∃ o',h'.get? b=some o')
  (tups:∀ b xs,H b=some (.tup xs)->H' b=some (.tup xs)) (frzs:∀ b o u,H b=some (.frz o u)->H' b=some (.frz o u)) (tbls:∀ b ps,H b=some (.tbl ps)->∃ more,H' b=some (.tbl (ps++more)))
  (ns:∀ m,s.heap.Ns X.env.locals m->h'.Ns X.env.locals m) (hok:HOk X.prog X.w H' h') (hg:ahd g') :
  Inv X ahW Z H' { s with heap:=h',gens:=g',drawn:=d',toks:=t' }:=
 I.stepG (ch:=ch) (fun b z=>⟨(hch b z).1.imp id fun q=>agA q,(hch b z).2⟩) keep slot free there tups frzs tbls ns hok hg
def Inv.un {t':Nat}(I:Inv X ahW Z H s)(u:Un X.fs [] H H' s.heap h')(hok:HOk X.prog X.w H' h'):Inv X ahW Z H' { s with heap:=h',toks:=t' }:=by
 obtain ⟨m,⟨o,es,ep,ho,r⟩,_⟩:=id I.loc;obtain ⟨sl,hL⟩:=u.any ho I.free (by simp);exact I.step (g':=s.gens) (d':=s.drawn) (ch:=[]) (fun _ z=>nomatch z) (fun b o _ hb _ e n=>u.keep b o e n hb (by simp)) (fun b o _ hb _ e n=>u.slot b o e n hb (by simp)) (fun b o _ e n=>u.free b o e n (by simp)) (fun b o _ e=>u.there b o e (by simp)) u.tups u.frzs u.tbls (fun m' hm=>by
  obtain ⟨o',es',ep',ho',r'⟩:=hm;rw [ho] at ho';cases ho';exact ⟨_,es',ep',hL,r'⟩) hok I.bare
def Inv.call {g':Array GenState}{t':Nat}{d':Drawn}{ch:List Addr}(I:Inv X ahW Z H s)(u:Un (frs X.stack) ch H H' s.heap h')(hok:HOk X.prog X.w H' h')(hg:ahd g')
  (hch:∀ b∈ch,(b∈X.ex\/X.s₀.heap.objs.size<=b)/\b≠X.env.locals/\(∀ x c,X.env.cells.lookup x=some c->c≠b)/\∀ p∈X.pn++ahW,p.1≠b) :
  Inv X ahW Z H' { s with heap:=h',gens:=g',drawn:=d',toks:=t' }:=by
 obtain ⟨m,⟨o,es,ep,ho,r⟩,_⟩:=id I.loc;obtain ⟨sl,hL⟩:=u.any ho I.free fun z=>(hch _ z).2.1 rfl
 exact I.step (ch:=ch) hch (fun b o hL hb hc e n=>u.keep b o e n (fun z=>(acA.mp (I.stkSub b z)).elim hL hb) hc) (fun b o _ _ hc e n=>u.any e n hc) (fun b o hc e n=>u.free b o e n hc) (fun b o hc e=>u.there b o e hc) u.tups u.frzs u.tbls (fun m' hm=>by
  obtain ⟨o',es',ep',ho',r'⟩:=hm;rw [ho] at ho';cases ho';exact ⟨_,es',ep',hL,r'⟩) hok hg
def Inv.turned {t':Nat}{it:Addr}(I:Inv X ahW Z H s)(k:∀ b o,b≠it->s.heap.get? b=some o->h'.get? b=some o)(hn:H it=none)(hL:it≠X.env.locals)
  (h1:it∈X.ex\/X.s₀.heap.objs.size<=it) (h2:∀ x c,X.env.cells.lookup x=some c->c≠it) (h3:∀ p∈X.pn++ahW,p.1≠it):Inv X ahW Z H { s with heap:=h',toks:=t' }:=by
 have nit:∀ b u,H b=some u->b≠it:=fun b u e z=>by rw [z,hn] at e;cases e
 refine I.step (g':=s.gens) (d':=s.drawn) (ch:=[it]) (fun b hb=>?_) (fun b o _ _ hc e _=>k b o (fun z=>hc<|by simp [z]) e) (fun b o _ _ hc e _=>⟨o.slots,k b o (fun z=>hc<|by simp [z]) e⟩) (fun _ _ _ _ n=>n)
  (fun b o hc e=>⟨o,k b o (fun z=>hc (by simp [z])) e⟩) (fun _ _ e=>e) (fun _ _ _ e=>e) (fun b ps e=>⟨#[],by rw [e];simp⟩) (fun m hm=>?_) (fun b u e=>?_) I.bare
 ·have e:b=it:=by simpa using hb
  subst e;exact ⟨h1,hL,h2,h3⟩
 ·obtain ⟨o,es,ep,ho,r⟩:=hm;exact ⟨o,es,ep,k _ o (aes hL) ho,r⟩
 ·refine (I.hok b u e).stay (fun c v hc q=>k c v ?_ q) (fun _ q=>q) fun _ _ q=>q;rcases hc with z | z
  ·rw [z];exact nit b u e
  ·exact nit c _ z
def Inv.tok (I:Inv X ahW Z H s)(t:Nat):Inv X ahW Z H { s with toks:=t }:=I.un (h':=s.heap) (t':=t) Un.refl I.hok
def Inv.kept {t':Nat}(I:Inv X ahW Z H s)(k:∀ b u,s.heap.get? b=some u->h'.get? b=some u):Inv X ahW Z H { s with heap:=h',toks:=t' }:=I.un (Un.kept k) (I.hok.kept k)
def Inv.laid {a:Addr}{o:HO}{t':Nat}(I:Inv X ahW Z H s)(k:∀ b u,s.heap.get? b=some u->h'.get? b=some u)(hp:s.heap.objs.size<=a)(new:eG X.prog X.w (upd H a o) h' a o) :
  Inv X ahW Z (upd H a o) { s with heap:=h',toks:=t' }:=I.un (Un.laid k hp (I.hok.fresh hp)) (I.hok.laid k hp new)
def Inv.write {x e:Addr}{o:HO}{t':Nat}(I:Inv X ahW Z H s)(mu:Mut (H x))(he:e=x\/H e=some (.own x))(k:∀ b u,b≠e->s.heap.get? b=some u->h'.get? b=some u)(heo:∃ u,h'.get? e=some u)
  (new:eG X.prog X.w (upd H x o) h' x o):Inv X ahW Z (upd H x o) { s with heap:=h',toks:=t' }:=I.un (Un.write mu he k heo) (I.hok.write mu he k heo new)
def Inv.weak {Z':List (Option V)}(I:Inv X ahW Z H s)(hl:Z'.length = Z.length)(w:∀ (i:Nat) v,Z'[i]?=some (some v)->Z[i]?=some (some v)):Inv X ahW Z' H s:=
 ⟨I.ok,I.os,I.bare,I.base,let ⟨m,hn,hl'⟩:=I.loc;⟨m,hn,fun i x v e1 e2 e3=>hl' i x v e1 (w i v e2) e3⟩,I.cell,I.free,I.freeC,I.pin,I.hok,hl.trans I.len⟩
def Inv.pins_of {pins':List (Addr×Obj)}(I:Inv X ahW Z H s)(h:∀ p∈pins',s.heap.get? p.1=some p.2/\H p.1=none/\p.1≠X.env.locals/\p.1∉X.fs/\∀ v,p.2.data≠.cell v):Inv X pins' Z H s:=
 ⟨I.ok,I.os,I.bare,I.base,I.loc,I.cell,I.free,I.freeC,fun p hp=>(adn.mp hp).elim (fun z=>I.pin p (adQ _ z)) (h p),I.hok,I.len⟩
def zX {N:List Str}(hN:N.Nodup){i j:Nat}{x:Str}(a:N[i]?=some x)(b:N[j]?=some x):i=j:=by
 obtain ⟨h1,e1⟩:=acD.mp a;obtain ⟨h2,e2⟩:=acD.mp b;exact (List.getElem_inj hN).mp (e1.trans e2.symm)
def wz {M:Model}{A:acY}{E:acd->aci->Prop}{i:Nat}{x:Str}{v:V}{Q:Unit->aci->Prop}(I:Inv X ahW Z H s)(hN:X.N.Nodup)(hi:X.N[i]?=some x)(hx:Loc X.env.scope x)(r:RelV v u)
  (h:∀ s',Inv X ahW (Z.set i (some v)) H s'->(∃ a,aez a s.heap s'.heap/\(a=X.env.locals\/X.env.cells.lookup x=some a))->Q () s') (hf:X.fn x=true\/X.env.scope.names.lookup x=some .local:=by first | exact .inl rfl | exact .inr rfl | assumption):acL M A (storeName X.env x u) Q E s:=by
 obtain ⟨m,hn,hl⟩:=id I.loc;have hcls:(X.env.scope.kind==.class||(X.env.scope.kind==.module&&X.env.locals != X.env.globals))=false:=by rw [I.ok.kind];rfl
 have hiZ : i < Z.length:=by rw [I.len];exact (acD.mp hi).1
 have cne:=I.cne;have tracked:∀ {a:Addr} {h':Heap},(∃ o,s.heap.get? a=some o/\H a=none)->aez a s.heap h'->HOk X.prog X.w H h':=fun {a h'} ha hs b ob e=>by
  obtain ⟨_,_,hfree⟩:=ha;refine (I.hok b ob e).stay (fun c w' hc q=>(hs.2 c ?_).trans q) (fun _ q=>q) fun _ _ q=>q;rintro rfl;rcases hc with rfl | hc
  ·rw [hfree] at e;cases e
  ·rw [hfree] at hc;cases hc
 rcases hx with hk | hk
 ·refine wpAny_storeName_local hk hn (fun h' hn' hs=>?_) hcls;obtain ⟨oL,_,_,hoL,_⟩:=id hn;refine h _ ⟨I.ok,I.os,I.bare,⟨fun b o e n hb hx=>?_,fun b o e n hb hx=>?_,I.base.free,fun b o e hx=>?_,I.base.tups,I.base.frzs,I.base.tbls⟩,⟨_,hn',fun j y v' e1 e2 e3=>?_⟩,fun y c e=>?_,I.free,I.freeC,fun p hp=>?_,tracked ⟨oL,hoL,I.free⟩ hs,by simpa using I.len⟩ ⟨_,hs,.inl rfl⟩
  ·exact (hs.2 b<|acI<|acp (acs e) I.ok.above).trans (I.base.keep b o e n hb hx)
  ·obtain ⟨sl,e1⟩:=I.base.slot b o e n hb hx;exact ⟨sl,(hs.2 b<|acI<|acp (acs e) I.ok.above).trans e1⟩
  ·obtain ⟨o',e1⟩:=I.base.there b o e hx;exact ⟨o',(hs.2 b<|acI<|acp (acs e) I.ok.above).trans e1⟩
  ·by_cases hj:j=i
   ·subst hj;rw [hi] at e1;cases e1;rw [List.getElem?_set_self hiZ] at e2;cases e2;exact ⟨u,r,.inl ⟨hk,by simp⟩⟩
   ·rw [List.getElem?_set_ne (aes hj)] at e2;obtain ⟨u',r',q⟩:=hl j y v' e1 e2 e3;refine ⟨u',r',?_⟩;rcases q with ⟨k,e⟩ | ⟨k,c,e,z⟩
    ·refine .inl ⟨k,?_⟩;have:y≠x:=fun e=>hj (zX hN e1 (e ▸ hi))
     simp [this,e]
    ·exact .inr ⟨k,c,e,z.sameBut hs<|cne y c e⟩
  ·obtain ⟨w',z⟩:=I.cell y c e;exact ⟨w',z.sameBut hs<|cne y c e⟩
  ·obtain ⟨e,n,ne,nf,d⟩:=I.pin p hp;exact ⟨(hs.2 p.1 ne).trans e,n,ne,nf,d⟩
 ·have hfn:X.fn x=true:=by
   rcases hf with z | z
   ·exact z
   ·rw [z] at hk;cases hk
  obtain ⟨c,hc⟩:=I.ok.has x (.inl hk);obtain ⟨w',z⟩:=I.cell x c hc;refine wpAny_storeName_cell I.ok.kind hk hc z<|fun h' hc' hs=>?_
  obtain ⟨oc,hoc,hocd⟩:=id z;refine h { s with heap:=h' } ⟨I.ok,I.os,I.bare,⟨fun b o e n hb hx=>?_,fun b o e n hb hx=>?_,I.base.free,fun b o e hx=>?_,I.base.tups,I.base.frzs,I.base.tbls⟩,⟨m,hn.sameBut hs<|aes<|cne x c hc,fun j y v' e1 e2 e3=>?_⟩,fun y c' e=>?_,I.free,I.freeC,fun p hp=>?_,tracked ⟨oc,hoc,I.freeC x c hc⟩ hs,by simpa using I.len⟩ ⟨c,hs,.inr hc⟩
  ·exact (hs.2 b<|acI<|acp (acs e)<|I.ok.cab x c hfn hc).trans (I.base.keep b o e n hb hx)
  ·obtain ⟨sl,e1⟩:=I.base.slot b o e n hb hx;exact ⟨sl,(hs.2 b<|acI<|acp (acs e)<|I.ok.cab x c hfn hc).trans e1⟩
  ·obtain ⟨o',e1⟩:=I.base.there b o e hx;exact ⟨o',(hs.2 b<|acI<|acp (acs e)<|I.ok.cab x c hfn hc).trans e1⟩
  ·by_cases hj:j=i
   ·subst hj;rw [hi] at e1;cases e1;rw [List.getElem?_set_self hiZ] at e2;cases e2;exact ⟨u,r,.inr ⟨.inl hk,c,hc,hc'⟩⟩
   ·rw [List.getElem?_set_ne (aes hj)] at e2;obtain ⟨u',r',q⟩:=hl j y v' e1 e2 e3;refine ⟨u',r',?_⟩;rcases q with q | ⟨k,c',e,z'⟩
    ·exact .inl q
    ·refine .inr ⟨k,c',e,z'.sameBut hs ?_⟩;rintro rfl;exact hj<|zX hN e1<|I.ok.inj _ _ _ e hc ▸ hi
  ·by_cases hcc:c'=c
   ·subst hcc;exact ⟨_,hc'⟩
   ·obtain ⟨w2,z2⟩:=I.cell y c' e;exact ⟨w2,z2.sameBut hs hcc⟩
  ·obtain ⟨e,n,ne,nf,d⟩:=I.pin p hp;refine ⟨(hs.2 p.1 ?_).trans e,n,ne,nf,d⟩;intro q;rw [q,hoc] at e;have q':oc=p.2:=acv e;exact d w' (by rw [<-q'];exact hocd)
def yL {M:Model}{A:acY}{E:acd->aci->Prop}{i:Nat}{x:Str}{v:V}{Q:Unit->aci->Prop}(I:Inv X ahW Z H s)(hN:X.N.Nodup)(hi:X.N[i]?=some x)(hx:Loc X.env.scope x)(r:RelV v u)
  (h:∀ s',Inv X ahW (Z.set i (some v)) H s'->Q () s') (hf:X.fn x=true\/X.env.scope.names.lookup x=some .local:=by first | exact .inl rfl | exact .inr rfl | assumption):acL M A (storeName X.env x u) Q E s:=
 wz I hN hi hx r (fun s' I' _=>h s' I') hf
def Inv.call' {s':aci}{ch:List Addr}(I:Inv X ahW Z H s)(ho:s'.os=s.os)(u:Un (frs X.stack) ch H H' s.heap s'.heap)(hok:HOk X.prog X.w H' s'.heap)(hg:ahd s'.gens)
  (hch:∀ b∈ch,(b∈X.ex\/X.s₀.heap.objs.size<=b)/\b≠X.env.locals/\(∀ x c,X.env.cells.lookup x=some c->c≠b)/\∀ p∈X.pn++ahW,p.1≠b):Inv X ahW Z H' s':=by
 obtain ⟨h',g',d',t',o'⟩:=s';have e:o'=s.os:=ho;subst e;exact I.call (g':=g') (t':=t') (d':=d') u hok hg hch
end
variable {X : Cx}{ahW : List (Addr×Obj)}{N : List Str}{M : Model}{i j : Nat}{A : acY}{E : acd->aci->Prop}{s' : aci}
abbrev XK:=acd->Option Addr->Hp->Prop
abbrev St:=List (Option V)
abbrev VK:=V->Hp->Prop
abbrev TE:=St->Hp->VK->Prop
abbrev TT:=St->Hp->(Bool->Hp->Prop)->Prop
abbrev TA:=St->Hp->(List V->Hp->Prop)->Prop
structure Ends where
 nx:St->Hp->Prop
 rt:VK
 bk:St->Hp->Prop:=fun _ _=>False
 ct:St->Hp->Prop:=fun _ _=>False
abbrev TS:=Ends->St->Hp->Prop
def EP (X:Cx)(ahW:List (Addr×Obj))(Z : St)(Q:VK)(u:acd)(s':aci):Prop:=∃ v H',Inv X ahW Z H' s'/\RelV v u/\Q v H'
def TP (X:Cx)(ahW:List (Addr×Obj))(Z : St)(Q:Bool->Hp->Prop)(b:Bool)(s':aci):Prop:=∃ H',Inv X ahW Z H' s'/\Q b H'
def AP (X:Cx)(ahW:List (Addr×Obj))(Z : St)(Q:List V->Hp->Prop)(us:List acd)(s':aci):Prop:=∃ vs H',Inv X ahW Z H' s'/\Vals vs us/\Q vs H'
def SP (X:Cx)(ahW:List (Addr×Obj))(D:Ends)(f:Flow)(s':aci):Prop:=
 match f with
 | .next=>∃ Z' H',Inv X ahW Z' H' s'/\D.nx Z' H'
 | .brk=>∃ Z' H',Inv X ahW Z' H' s'/\D.bk Z' H'
 | .cont=>∃ Z' H',Inv X ahW Z' H' s'/\D.ct Z' H'
 | .ret u=>∃ v Z' H',Inv X ahW Z' H' s'/\RelV v u/\D.rt v H'
def PE (X:Cx)(e:Expr)(t:TE):Prop:=
 ∀ (ahW:List (Addr×Obj)) (s:aci) (Z : St) (H:Hp) (Q:VK),Inv X ahW Z H s->t Z H Q->acL (acP X.prog X.w) X.A (eval e X.env) (EP X ahW Z Q) X.xe s
def PT (X:Cx)(e:Expr)(t:TT):Prop:=
 ∀ (ahW:List (Addr×Obj)) (s:aci) (Z : St) (H:Hp) (Q:Bool->Hp->Prop),Inv X ahW Z H s->t Z H Q->acL (acP X.prog X.w) X.A (isTrue e X.env (eval e X.env)) (TP X ahW Z Q) X.xe s
def PW (X:Cx)(e:Expr)(t:TT):Prop:=
 ∀ (whole:Sem acd) (ahW:List (Addr×Obj)) (s:aci) (Z : St) (H:Hp) (Q:Bool->Hp->Prop),Inv X ahW Z H s->t Z H Q->acL (acP X.prog X.w) X.A (isTrue e X.env whole) (TP X ahW Z Q) X.xe s
variable {e : Expr}
def PW.pt {t:TT}(h:PW X e t):PT X e t:=h _
def PA (X:Cx)(es:List Expr)(t:TA):Prop:=
 ∀ (pos:Pos) (ahW:List (Addr×Obj)) (s:aci) (Z : St) (H:Hp) (Q:List V->Hp->Prop),Inv X ahW Z H s->t Z H Q->acL (acP X.prog X.w) X.A (spliced (afj pos (acN es X.env))) (AP X ahW Z Q) X.xe s
def PS (X:Cx)(st:Stmt)(t:TS):Prop:=
 ∀ (ahW:List (Addr×Obj)) (s:aci) (Z : St) (H:Hp) (D:Ends),Inv X ahW Z H s->t D Z H->acL (acP X.prog X.w) X.A (exec st X.env) (SP X ahW D) X.xe s
def PSs (X:Cx)(st:List Stmt)(t:TS):Prop:=
 ∀ (ahW:List (Addr×Obj)) (s:aci) (Z : St) (H:Hp) (D:Ends),Inv X ahW Z H s->t D Z H->acL (acP X.prog X.w) X.A (execs st X.env) (SP X ahW D) X.xe s
def thn {α : Type}{t:Sem α}{Q Q':α->aci->Prop}{s:aci}(h:acL M A t Q E s)(hQ:∀ a s,Q a s->Q' a s):acL M A t Q' E s:=aed h hQ fun _ _ x=>x
section
def YJ (i:Nat):TE:=fun Z H Q=>∃ v,Z[i]?=some (some v)/\Q v H
def tC (v:V):TE:=fun _ H Q=>Q v H
def V9 {x:Str}{pos:Pos}(hN:X.N[i]?=some x)(hv:Vis X.env.scope x)(hd:(x==("__debug__" : Str))=false:=by decide)(hcd:(x==("__classdict__" : Str))=false:=by decide):PE X (.Name x pos) (YJ i):=by
 intro ahW s Z H Q I h;obtain ⟨v,e,h⟩:=h;obtain ⟨m,hn,hl⟩:=I.loc;obtain ⟨u,r,l⟩:=hl i x v hN e hv;have fin:EP X ahW Z Q u s:=⟨v,H,I,r,h⟩
 rcases l with ⟨hk,hm⟩ | ⟨hk,c,hc,hcell⟩
 ·exact wpAny_Name (wpAny_loadName_local I.ok.kind hk hn hm fin) hd
 ·rcases hk with hk | hk
  ·exact wpAny_Name (wpAny_loadName_cell I.ok.kind hk hc hcell fin) hd
  ·exact wpAny_Name (wpAny_loadName_free I.ok.kind hk hc hcell fin hcd) hd
def TX {i j pos}:PE X (.Constant (.int i) j pos) (tC (.int i)):=fun _ _ _ H _ I h=>wpAny_Constant_int ⟨.int i,H,I.tok _,⟨_,rfl⟩,h⟩
def ZP {b j pos}:PE X (.Constant (.bool b) j pos) (tC (.bl b)):=fun _ _ _ H _ I h=>Constant_bool ⟨.bl b,H,I,rfl,h⟩
def U8 {j pos}:PE X (.Constant .none j pos) (tC .non):=fun _ _ _ H _ I h=>Constant_none ⟨.non,H,I,rfl,h⟩
def Mj {x j pos}:PE X (.Constant (.str x) j pos) (tC (.str x)):=fun _ _ _ H _ I h=>Calls.Constant_str ⟨.str x,H,I.tok _,⟨_,rfl⟩,h⟩
def Gl (X:Cx)(x:Str):Prop:=X.env.kindOf x=some .globalImplicit
def Fo {s:aci}{Z : St}{x:Str}{pos:Pos}{Q:acd->aci->Prop}(I:Inv X ahW Z H s)(hg:Gl X x)(hm:X.mg x=some u)(h:Q u s)
  (hd:(x==("__debug__" : Str))=false:=by decide):acL (acP X.prog X.w) X.A (eval (.Name x pos) X.env) Q E s:=
 Calls.Name_function_global I.ok.kind hg (Calls.loadGlobal_global (by rw [I.ok.glob];exact I.mod.glob.keeps I.bk) hm h) hd
def m6 {s:aci}{Z : St}{x:Str}{pos:Pos}{Q:acd->aci->Prop}(I:Inv X ahW Z H s)(hg:Gl X x)(hm:X.mg x=none)(hv:afs x=some u)(h:Q u s)
  (hn:x ≠ "__name__":=by decide) (hd:(x==("__debug__" : Str))=false:=by decide):acL (acP X.prog X.w) X.A (eval (.Name x pos) X.env) Q E s:=by
 obtain ⟨mb,h1,h2⟩:=I.mod.blt;exact Calls.Name_function_global I.ok.kind hg (Calls.loadGlobal_builtin (by rw [I.ok.glob];exact I.mod.glob.keeps I.bk) hm (by rw [I.ok.blt];exact h1.keeps I.bk) ((h2 x hn).trans hv) h) hd
def lG {x:Str}{v:V}{pos:Pos}(hg:Gl X x)(hm:X.mg x=some u)(r:RelV v u)(hd:(x==("__debug__" : Str))=false:=by decide):PE X (.Name x pos) (tC v):=
 fun _ _ _ H _ I h=>Fo I hg hm ⟨v,H,I,r,h⟩ hd
def mz {x:Str}{v:V}{pos:Pos}(hg:Gl X x)(hm:X.mg x=none)(hv:afs x=some u)(r:RelV v u)(hn:x ≠ "__name__":=by decide)(hd:(x==("__debug__" : Str))=false:=by decide):PE X (.Name x pos) (tC v):=
 fun _ _ _ H _ I h=>m6 I hg hm hv ⟨v,H,I,r,h⟩ hn hd
variable {a b:Expr}{ta tb:TE}{pos:Pos}
variable {tA tB':TT}{rest:List Expr}
def abe (t u:TT):TT:=fun Z H Q=>t Z H fun c H1=>if c=true then u Z H1 Q else Q false H1
def tOr (t u:TT):TT:=fun Z H Q=>t Z H fun c H1=>if c=true then Q true H1 else u Z H1 Q
def abF (t:TT):TT:=fun Z H Q=>t Z H fun c H1=>Q (!c) H1
def Rv (ha:PT X a tA):PW X (.BoolOp .And [a] pos) tA:=by
 intro wh ahW s Z H Q I h;refine isTrue_and<|thn (ha ahW s Z H Q I h) fun c s1 e=>?_
 cases c with
 | true=>exact isTrue_and_nil e
 | false=>exact e
def Tp (ha:PT X a tA):PW X (.BoolOp .Or [a] pos) tA:=by
 intro wh ahW s Z H Q I h;refine isTrue_or<|thn (ha ahW s Z H Q I h) fun c s1 e=>?_
 cases c with
 | false=>exact isTrue_or_nil e
 | true=>exact e
def T6 (ha:PT X a tA)(hb:PW X (.BoolOp .And (b::rest) pos) tB'):PW X (.BoolOp .And (a::b::rest) pos) (abe tA tB'):=by
 intro wh ahW s Z H Q I h;refine isTrue_and<|thn (ha ahW s Z H _ I h) fun c s1 ⟨H1,I1,q1⟩=>?_
 cases c with
 | true=>exact hb wh ahW s1 Z H1 Q I1 q1
 | false=>exact ⟨H1,I1,q1⟩
def Yi (ha:PT X a tA)(hb:PW X (.BoolOp .Or (b::rest) pos) tB'):PW X (.BoolOp .Or (a::b::rest) pos) (tOr tA tB'):=by
 intro wh ahW s Z H Q I h;refine isTrue_or<|thn (ha ahW s Z H _ I h) fun c s1 ⟨H1,I1,q1⟩=>?_
 cases c with
 | true=>exact ⟨H1,I1,q1⟩
 | false=>exact hb wh ahW s1 Z H1 Q I1 q1
def Xk (ha:PT X a tA):PT X (.UnaryOp .Not a pos) (abF tA):=by
 intro ahW s Z H Q I h;exact isTrue_not<|ha ahW s Z H (fun c H1=>Q (!c) H1) I h
def tIf (t:TT)(ta tb:TE):TE:=fun Z H Q=>t Z H fun c H1=>if c=true then ta Z H1 Q else tb Z H1 Q
def Jd {c:Expr}(hc:PT X c tA)(ha:PE X a ta)(hb:PE X b tb):PE X (.IfExp c a b pos) (tIf tA ta tb):=by
 intro ahW s Z H Q I h;refine wpAny_IfExp<|thn (hc ahW s Z H _ I h) fun d s1 ⟨H1,I1,q1⟩=>?_
 cases d with
 | true=>exact ha ahW s1 Z H1 Q I1 q1
 | false=>exact hb ahW s1 Z H1 Q I1 q1
end
variable {pos : Pos}{Z : St}{ta : TE}{Q : acd->aci->Prop}
def SqL (K:abZ)(H:Hp)(a:Addr)(xs:List V):Prop:=
 Rd H a (.lst xs) \/
  ∃ (o:Obj) (its:Array acd) (n:Nat),K.lookup a=some o/\o.cls=.type "list"/\o.dict=none/\o.data=.seq its n/\its.size<=acM/\Vals xs its.toList
def SqT (K:abZ)(H:Hp)(a:Addr)(xs:List V):Prop:=
 Rd H a (.tup xs) \/
  ∃ (o:Obj) (its:Array acd) (n:Nat),K.lookup a=some o/\o.cls=.type "tuple"/\o.data=.seq its n/\its.size<=acM/\Vals xs its.toList/\o.dict=none
def abD:acd->Option V
 | .none=>some .non
 | .bool b=>some (.bl b)
 | .int i _=>some (.int i)
 | .str x _=>some (.str x)
 | .bytes b _=>some (.byt b)
 | .float b _=>some (.flt b)
 | .ref a=>some (.ref a)
 | .type n=>some (.ty n)
 | _=>none
def RelV.abs {x:V}(r:RelV x u):abD u=some x:=by
 cases x with
 | non=>cases r;rfl
 | bl _=>cases r;rfl
 | int _=>obtain ⟨t,rfl⟩:=r;rfl
 | str _=>obtain ⟨t,rfl⟩:=r;rfl
 | byt _=>obtain ⟨t,rfl⟩:=r;rfl
 | flt _=>obtain ⟨t,rfl⟩:=r;rfl
 | ref _=>cases r;rfl
 | ty _=>cases r;rfl
def RelV.inj {x y:V}(r:RelV x u)(q:RelV y u):x=y:=acv (r.abs.symm.trans q.abs)
theorem Vals.inj:∀ {xs ys:List V} {us:List acd},Vals xs us->Vals ys us->xs=ys
 | _,_,_,.nil,.nil=>rfl
 | _,_,_,.cons r t,.cons r' t'=>by rw [r.inj r',Vals.inj t t']
section
variable {s:aci}{a:Addr}{ys:List V}
def SqL.of {K:abZ}(h:H a=some (.lst xs)):SqL K H a xs:=.inl (.inl h)
def SqT.of {K:abZ}(h:H a=some (.tup xs)):SqT K H a xs:=.inl (.inl h)
def Inv.list (I:Inv X ahW Z H s)(h:SqL X.K H a xs):∃ its:List acd,Vals xs its/\PlainL s.heap a its.toArray/\xs.length<=acM:=by
 rcases h with h | ⟨o,its,n,hk,hc,hd,hs,hz,r⟩
 ·obtain ⟨z,its,n,r,e⟩:=h.ok I.hok;exact ⟨its,r,⟨_,n,e,rfl,rfl,rfl⟩,z⟩
 ·refine ⟨its.toList,r,⟨o,n,I.kIn a o hk,hc,hd,by simpa using hs⟩,?_⟩;have e:=r.length;simp only [aew] at e;omega
def Inv.tupO (I:Inv X ahW Z H s)(h:SqT X.K H a xs):∃ its:List acd,Vals xs its/\G4 s.heap a its.toArray/\xs.length<=acM:=by
 rcases h with h | ⟨o,its,n,hk,hc,hs,hz,r,hd⟩
 ·obtain ⟨z,its,r,p⟩:=h.ok I.hok;exact ⟨its,r,p,z⟩
 ·refine ⟨its.toList,r,⟨o,I.kIn a o hk,hc,⟨n,by simpa using hs⟩,hd⟩,?_⟩;have e:=r.length;simp only [aew] at e;omega
def Inv.tuple (I:Inv X ahW Z H s)(h:SqT X.K H a xs):∃ its:List acd,Vals xs its/\IsTup s.heap a its.toArray/\xs.length<=acM:=let ⟨its,r,p,z⟩:=I.tupO h;⟨its,r,p.tup,z⟩
def Inv.list_inj (I:Inv X ahW Z H s)(h:SqL X.K H a xs)(h':SqL X.K H a ys):xs=ys:=by
 obtain ⟨its,r,⟨o,n,e,_,_,d⟩,_⟩:=I.list h;obtain ⟨its',r',⟨o',n',e',_,_,d'⟩,_⟩:=I.list h';rw [e] at e';cases e';rw [d] at d';injection d' with d1 _
 have:its=its':=by simpa using congrArg Array.toList d1
 subst this;exact r.inj r'
def Inv.tuple_inj (I:Inv X ahW Z H s)(h:SqT X.K H a xs)(h':SqT X.K H a ys):xs=ys:=by
 obtain ⟨its,r,⟨o,e,_,n,d⟩,_⟩:=I.tuple h;obtain ⟨its',r',⟨o',e',_,n',d'⟩,_⟩:=I.tuple h';rw [e] at e';cases e';rw [d] at d';injection d' with d1 _
 have:its=its':=by simpa using congrArg Array.toList d1
 subst this;exact r.inj r'
end
variable {K : abZ}
abbrev Cx.wish (X:Cx)(E:acd->aci->Prop):Cx:={ X with xe:=E }
abbrev Cx.nox (X:Cx):Cx:=X.wish fun _ _=>False
def Cx.Ok.wish {X:Cx}(ok:X.Ok)(E:acd->aci->Prop):(X.wish E).Ok:=
 ⟨ok.mod,ok.kind,ok.glob,ok.blt,ok.above,ok.inj,ok.has,ok.cab,ok.hd,ok.qt,ok.frames,ok.stk,ok.exf,ok.bs,ok.bsz,ok.noex,ok.exfs,ok.funs,ok.frf⟩
def Cx.Ok.unwish (ok:(X.wish E).Ok):X.Ok:=
 ⟨ok.mod,ok.kind,ok.glob,ok.blt,ok.above,ok.inj,ok.has,ok.cab,ok.hd,ok.qt,ok.frames,ok.stk,ok.exf,ok.bs,ok.bsz,ok.noex,ok.exfs,ok.funs,ok.frf⟩
section
variable {s:aci}
def Inv.wish (I:Inv X ahW Z H s)(E:acd->aci->Prop):Inv (X.wish E) ahW Z H s:=⟨I.ok.wish E,I.os,I.bare,I.base,I.loc,I.cell,I.free,I.freeC,I.pin,I.hok,I.len⟩
def Inv.unwish (I:Inv (X.wish E) ahW Z H s):Inv X ahW Z H s:=⟨I.ok.unwish,I.os,I.bare,I.base,I.loc,I.cell,I.free,I.freeC,I.pin,I.hok,I.len⟩
def SP.unwish {D:Ends}{f:Flow}{s':aci}(h:SP (X.wish E) ahW D f s'):SP X ahW D f s':=by
 cases f with
 | next=>obtain ⟨Z',H',I,q⟩:=h;exact ⟨Z',H',I.unwish,q⟩
 | brk=>obtain ⟨Z',H',I,q⟩:=h;exact ⟨Z',H',I.unwish,q⟩
 | cont=>obtain ⟨Z',H',I,q⟩:=h;exact ⟨Z',H',I.unwish,q⟩
 | ret u=>obtain ⟨v,Z',H',I,r,q⟩:=h;exact ⟨v,Z',H',I.unwish,r,q⟩
def PSs.nox {st:List Stmt}{t:TS}(h:PSs X.nox st t):PSs X st t:=fun ahW s Z H D I hw=>
 aed (h ahW s Z H D (I.wish _) hw) (fun _ _ q=>q.unwish) fun _ _ z=>afD z
end
variable {D : Ends}
section
variable {st:Stmt}{rest:List Stmt}{t u:TS}{te:TE}
def Yj:TS:=fun D Z H=>D.nx Z H
def abx (t u:TS):TS:=fun D Z H=>t { D with nx:=u D } Z H
def QV:PSs X [] Yj:=fun _ _ Z H _ I h=>wpAny_execs_nil ⟨Z,H,I,h⟩
def Jj (h1:PS X st t)(h2:PSs X rest u):PSs X (st::rest) (abx t u):=by
 intro ahW s Z H D I h;refine wpAny_execs_cons<|thn (h1 ahW s Z H { D with nx:=u D } I h) fun f s1 q=>?_
 cases f with
 | next=>
  obtain ⟨Z',H',I',q⟩:=q;exact h2 ahW s1 Z' H' D I' q
 | ret v=>exact q
 | brk=>exact q
 | cont=>exact q
def N8 (h1:PS X st t):PSs X [st] t:=by
 intro ahW s Z H D I h;refine wpAny_execs_cons<|thn (h1 ahW s Z H D I h) fun f s1 q=>?_
 cases f with
 | next=>exact wpAny_execs_nil q
 | ret v=>exact q
 | brk=>exact q
 | cont=>exact q
def Inv.quiet {s:aci}(I:Inv X ahW Z H s):interactive X.env=false:=by simp [interactive,I.ok.kind]
def Zj (te:TE):TS:=fun D Z H=>te Z H fun _ H1=>D.nx Z H1
def Qu (he:PE X e te)(hs:swapsWith e none pos.line X.env=pure false:=by rfl):PS X (.Expr e pos) (Zj te):=by
 intro ahW s Z H D I h;exact wpAny_Expr_any (thn (he ahW s Z H _ I h) fun v s1 ⟨x,H1,I1,r1,q1⟩=>⟨Z,H1,I1,q1⟩) I.quiet hs
def abb (te:TE):TS:=fun D Z H=>te Z H D.rt
def Wi (he:PE X e te):PS X (.Return (some e) pos) (abb te):=by
 intro ahW s Z H D I h;exact wpAny_Return_some<|thn (he ahW s Z H _ I h) fun v s1 ⟨x,H1,I1,r1,q1⟩=>⟨x,Z,H1,I1,r1,q1⟩
def abj (c:TT)(t u:TS):TS:=fun D Z H=>c Z H fun b H1=>if b=true then t D Z H1 else u D Z H1
def Zu {c:Expr}{a b:List Stmt}{tc:TT}(hc:PT X c tc)(ha:PSs X a t)(hb:PSs X b u):PS X (.If c a b pos) (abj tc t u):=by
 intro ahW s Z H D I h;refine wpAny_If<|thn (hc ahW s Z H _ I h) fun d s1 ⟨H1,I1,q1⟩=>?_
 cases d with
 | true=>exact ha ahW s1 Z H1 D I1 q1
 | false=>exact hb ahW s1 Z H1 D I1 q1
def Uz:TS:=fun _ _ _=>False
def JT:PS X st Uz:=fun _ _ _ _ _ _ h=>h.elim
end
abbrev TG:=V->St->Hp->(St->Hp->Prop)->Prop
abbrev TGs:=List V->St->Hp->(St->Hp->Prop)->Prop
def PG (X:Cx)(target:Expr)(t:TG):Prop:=
 ∀ (ahW:List (Addr×Obj)) (s:aci) (Z : St) (H:Hp) (v:V) (u:acd) (Q:St->Hp->Prop),Inv X ahW Z H s->RelV v u->t v Z H Q ->
  acL (acP X.prog X.w) X.A (assign target X.env u) (fun _ s'=>∃ Z' H',Inv X ahW Z' H' s'/\Q Z' H') X.xe s
def PGs (X:Cx)(ts:List Expr)(t:TGs):Prop:=
 ∀ (ahW:List (Addr×Obj)) (s:aci) (Z : St) (H:Hp) (vs:List V) (us:List acd) (Q:St->Hp->Prop),Inv X ahW Z H s->Vals vs us->t vs Z H Q ->
  acL (acP X.prog X.w) X.A (assignInOrder ((aef ts X.env).map (·.2)) us) (fun _ s'=>∃ Z' H',Inv X ahW Z' H' s'/\Q Z' H') X.xe s
abbrev Q9:=V->V->V->Hp->(Hp->Prop)->Prop
def W5 (X:Cx)(t:Q9):Prop:=
 ∀ (ahW:List (Addr×Obj)) (s:aci) (Z : St) (H:Hp) (o i v:V) (ov iv u:acd) (Q:Hp->Prop),Inv X ahW Z H s->RelV o ov->RelV i iv->RelV v u->t o i v H Q ->
  acL (acP X.prog X.w) X.A (setItem ov iv u) (fun _ s'=>∃ H',Inv X ahW Z H' s'/\Q H') X.xe s
section
def Hy (i:Nat):TG:=fun v Z H Q=>Q (Z.set i (some v)) H
def rJ {x:Str}(hN:X.N.Nodup)(hi:X.N[i]?=some x)(hx:Loc X.env.scope x)(hf:X.fn x=true\/X.env.scope.names.lookup x=some .local:=by first | exact .inl rfl | exact .inr rfl | assumption):PG X (.Name x pos) (Hy i):=by
 intro ahW s Z H v u Q I r h;exact wpAny_assign_Name<|yL I hN hi hx r (fun s' I'=>⟨_,H,I',h⟩) hf
def abS:TGs:=fun vs Z H Q=>vs=[]/\Q Z H
def Yu (t:TG)(u:TGs):TGs:=fun vs Z H Q=>∃ v r,vs=v::r/\t v Z H fun Z' H'=>u r Z' H' Q
def GR:PGs X [] abS:=by
 intro ahW s Z H vs us Q I r h;obtain ⟨e,h⟩:=h;subst e;cases r;exact assignInOrder_nil ⟨Z,H,I,h⟩
def rM {es:List Expr}{t:TG}{u:TGs}(h1:PG X e t)(h2:PGs X es u)
  (hs:(aef (e::es) X.env).map (·.2)=assign e X.env::(aef es X.env).map (·.2):=by rfl):PGs X (e::es) (Yu t u):=by
 intro ahW s Z H vs us Q I r h;obtain ⟨v,vr,e1,h⟩:=h;subst e1;cases r with
 | cons r rr=>
  rw [hs];refine assignInOrder_cons<|thn (h1 ahW s Z H _ _ _ I r h) fun _ s1 ⟨Z1,H1,I1,q1⟩=>?_
  exact h2 ahW s1 Z1 H1 _ _ Q I1 rr q1
def aa6 (K:abZ)(n:Nat)(t:TGs):TG:=fun v Z H Q=>∃ a xs,v=.ref a/\SqT K H a xs/\xs.length=n/\t xs Z H Q
def VN {es:List Expr}{k:Nat}{t:TGs}{n:Nat}(hc:X.calm=true)(h:PGs X es t)
  (hn:(aef es X.env).length=n:=by rfl) (hst:(aef es X.env).findIdx? (·.1)=none:=by rfl):PG X (.Tuple es k pos) (aa6 X.K n t):=by
 intro ahW s Z H v u Q I r hw;obtain ⟨a,xs,e1,hq,hl,hw⟩:=hw;subst e1;cases r;obtain ⟨its,rv,ht,hz⟩:=I.tuple hq;refine assign_Tuple_tuple (I.ok.hd hc) ht (by simp [hn,<-hl,rv.length]) hst fun h' hx=>?_;have I1:Inv X ahW Z H { s with heap:=h' }:=I.kept (t':=s.toks) fun b o e=>hx b o (acI (acs e)) e
 exact h ahW _ Z H xs _ Q I1 (by simpa using rv) hw
def abI (to ti:TE)(t:Q9):TG:=fun v Z H Q=>to Z H fun o H1=>ti Z H1 fun i H2=>t o i v H2 fun H3=>Q Z H3
def Tq {o i:Expr}{to ti:TE}{t:Q9}(ho:PE X o to)(hi:PE X i ti)(hs:W5 X t)
  (ha:∀ v,assign (.Subscript o i pos) X.env v=(do
   let ov <-holding [v] (eval o X.env)
   let iv <-holding [v,ov] (eval i X.env)
   standAt pos
   holding [v,ov,iv] (setItem ov iv v)
   release [v,ov,iv] []):=by intro _;rfl):PG X (.Subscript o i pos) (abI to ti t):=by
 intro ahW s Z H v u Q I r h;rw [ha];refine abY<|adB<|thn (ho ahW s Z H _ I h) fun ov s1 ⟨x,H1,I1,r1,q1⟩=>?_
 refine abY<|adB<|thn (hi ahW s1 Z H1 _ I1 q1) fun iv s2 ⟨y,H2,I2,r2,q2⟩=>?_
 refine abY<|wpAny_standAt<|abY<|adB<|thn (hs ahW s2 Z H2 x y v ov iv u _ I2 r1 r2 r q2) fun _ s3 ⟨H3,I3,q3⟩=>?_
 exact wpAny_release ⟨Z,H3,I3,q3⟩
def TF (te:TE)(g:TG):TS:=fun D Z H=>te Z H fun x H1=>g x Z H1 D.nx
def U4 {tg:Expr}{te:TE}{g:TG}(he:PE X e te)(hg:PG X tg g)(hs:swapsWithSole [tg] e pos.line X.env=pure false:=by rfl)(hw:swappedStores [tg] e X.env=pure none:=by rfl)
  (h1:(aef [tg] X.env).map (·.2)=[assign tg X.env]:=by rfl):PS X (.Assign [tg] e pos) (TF te g):=by
 intro ahW s Z H D I h;refine wpAny_Assign_stores (thn (he ahW s Z H _ I h) fun v s1 ⟨x,H1,I1,r1,q1⟩=>?_) hs hw;rw [h1];exact thn (hg ahW s1 Z H1 x v _ I1 r1 q1) fun _ s2 q=>q
def T7 {x:Str}{te:TE}{pos':Pos}(hN:X.N.Nodup)(hi:X.N[i]?=some x)(hx:Loc X.env.scope x)(he:PE X e te)(hs:swapsWith e (some (.Name x pos')) pos.line X.env=pure false:=by rfl)(hf:X.fn x=true\/X.env.scope.names.lookup x=some .local:=by first | exact .inl rfl | exact .inr rfl | assumption):
  PS X (.Assign [.Name x pos'] e pos) (TF te (Hy i)):=by
 intro ahW s Z H D I h;refine wpAny_Assign_Name (thn (he ahW s Z H _ I h) fun v s1 ⟨y,H1,I1,r1,q1⟩=>?_) hs;exact yL I1 hN hi hx r1 (fun s2 I2=>⟨_,H1,I2,q1⟩) hf
end
variable {o tg : Expr}{es : List Expr}{n : Nat}{pos' : Pos}
section
end
def tV:entryFor table "proto.unchain" = some acV.«proto.unchain»:=entryFor_of_tree (by kernel_rfl)
def xr (A:acY)(h:Heap):Prop:=∀ v,A.handled=some v->∃ (a:Addr) (o:Obj) (vs:Array acd),v=.ref a/\h.get? a=some o/\o.data=.fields vs/\vs[2]?=some .none
def Am (q:Quiet A H)(x:HOk P w H h):xr A h:=fun v e=>by
 obtain ⟨a,o,u,vs,h1,h2,h3,h4⟩:=q v e;exact ⟨a,o,vs,h1,(x a _ h2).1,h3,h4⟩
variable {prog : acK}
def Ar {α : Type}{s:aci}{e:Addr}{oe:Obj}{ws:Array acd}{Q:α->aci->Prop}(hq:xr A s.heap)(he:s.heap.get? e=some oe)(hd:oe.data=.fields ws)(hz:2<ws.size)(hne:∀ v,A.handled=some v->v≠.ref e)
  (h:∀ h',(∀ b,b≠e->h'.get? b=s.heap.get? b)->(∃ o',h'.get? e=some o'/\o'.cls=oe.cls)->E (.ref e) { s with heap:=h' }):acL (acP prog w) A (raiseNew (.ref e):Sem α) Q E s:=by
 unfold raiseNew;refine abY<|wpAny_handled ?_
 cases hh:A.handled with
 | none=>
  dsimp only;refine abY<|ach<|wpAny_throw ?_
  exact h s.heap (fun _ _=>rfl) ⟨oe,he,rfl⟩
 | some v=>
  obtain ⟨a,o,vs,rfl,ho,hdo,h2⟩:=hq v hh;dsimp only;have ne:(Value.ref a != Value.ref e)=true:=by
   have:=hne _ hh
   simp only [bne_iff_ne,ne_eq];exact this
  rw [if_pos ne];refine abY<|adB<|wpAny_runValue<|afq tV ?_
  unfold acV.«proto.unchain»;dsimp only;refine abY<|aeg ho hdo h2 ?_
  rw [if_pos (show (Value.none==Value.none)=true from rfl)];refine abY<|ach<|ach ?_
  dsimp only;refine abY ?_;unfold updateField;refine abY<|wpAny_load he ?_
  rw [hd];dsimp only;rw [if_pos hz];refine wpAny_update he<|wpAny_throw ?_
  have hd3:=agc hd (·.setIfInBounds 2 (Value.ref a));exact h _ (fun b hb=>adG _ _<|aes hb) ⟨_,afd _ he<|Obj.isFreed_of_fields hd3,Obj.cls_mapFields _ _⟩
def Gq {s:aci}{it:Addr}{x left step:Int}{Q:Option acd->aci->Prop}(hh:xr A s.heap)(hit:IsRangeIter s.heap it x left step)(hleft:left<=0)
  (hQ:∀ h',agV it s.heap h'->Q none { s with heap:=h' }):acL (acP prog w) A (agS (.ref it)) Q E s:=by
 have hT:s.TypeIs (.ref it) "range_iterator":=⟨_,hit,rfl⟩
 unfold agS;refine abY (agK (adO (name:=afz "__next__") hT F.slot_range_iterator_next
  (adS F.slot_range_iterator_next hT F.entry_range_iterator_next ?_ (F.args_range_iterator_next_1 _))))
 show acL _ _ (field (.ref it) 0 >>= _) _ _ s;refine abY<|aeg hit rfl (x:=aha x) rfl ?_
 show acL _ _ (field (.ref it) 1 >>= _) _ _ s;refine abY<|aeg hit rfl (x:=aha left) rfl ?_
 show acL _ _ (field (.ref it) 2 >>= _) _ _ s;refine abY<|aeg hit rfl (x:=aha step) rfl ?_
 show acL _ _ (if left<=0 then _ else _) _ _ s;rw [if_pos hleft];refine abY<|aeA ?_
 refine abY ?_;show acL _ _ (newExc (.type "StopIteration") [] >>= _) _ _ _;refine abY ?_;simp only [newExc,newTuple];refine abY<|adq ?_<|by size_fits
 refine abY (m:=agB _ _)<|wpAny_of_eq (a:=Value.none) (by first | rfl | (simp only [agB];rfl)) ?_
 refine adq ?_<|by size_fits
 refine Ar (A:=A.in1) (fun v e=>?_) (acw _ rfl) rfl (by simp;omega) (fun v e=>?_) fun h' h1 ⟨o',h2,h3⟩=>?_
 ·obtain ⟨a,o,vs,r1,r2,r3⟩:=hh v e;exact ⟨a,o,vs,r1,ace _<|ace _ r2,r3⟩
 ·obtain ⟨a,o,vs,r1,r2,r3⟩:=hh v e;rw [r1];intro q;have q:a=_:=Value.ref.inj q;have:=acs r2
  rw [q] at this;exact absurd this<|Nat.not_lt.mpr<|by simp [Heap.push]
 refine abY<|wpAny_isInstance (T := "StopIteration") (b:=true) ⟨_,h2,h3⟩ isSubtype_stop ?_
 refine ach<|hQ _ fun b o hb e=>?_
 rw [h1 b ?_]
 ·exact ace _<|ace _ e
 ·have:=acs e
  exact acI<|acp this<|by simp [Heap.push]
structure It where
 go:Nat->Hp->Prop
 yld:Nat->Hp->V->Hp->Prop
 stop:Nat->Hp->Prop
 cm:Bool
def CK (X:Cx)(ahW:List (Addr×Obj))(H:Hp)(b:Addr):Prop:=
 H b=none/\b≠X.env.locals/\b∉X.fs/\(b∈X.ex\/X.s₀.heap.objs.size<=b)/\(∀ x c,X.env.cells.lookup x=some c->c≠b)/\∀ p∈X.pn++ahW,p.1≠b
def Inv.fpOk {s:aci}{b:Addr}(I:Inv X ahW Z H s)(hb:s.heap.objs.size<=b)(hn:H' b=none):CK X ahW H' b:=by
 refine ⟨hn,adR<|acp I.lt hb,I.nofs hb,.inr<|acq I.sz hb,fun x c e z=>?_,fun p hp z=>?_⟩
 ·obtain ⟨v,q⟩:=I.cell x c e;exact absurd (acp q.lt (by rw [z];exact hb))<|adT _
 ·exact absurd (acp (acs (I.pin p hp).1) (by rw [z];exact hb))<|adT _
structure Turn (P:acK) (w:adt) (K:abZ) (tg:Expr) (J:It) (fp:List Addr) (it:Addr) (tn:Nat->Heap->Prop):Prop where
 mem:it∈fp
 obj:∀ i h,tn i h->∀ b∈fp,∃ o,h.get? b=some o/\∀ v,o.data≠.cell v
 keep:∀ i h h',tn i h->(∀ b∈fp,∀ o,h.get? b=some o->h'.get? b=some o)->tn i h'
 item:∀ (X:Cx),X.prog=P->X.w=w->X.K=K->(J.cm=true->X.calm=true)->∀ (i:Nat) (ahW:List (Addr×Obj)) (s:aci) (Z : St) (H:Hp) (E:acd->aci->Prop),Inv X ahW Z H s->(∀ b∈fp,CK X ahW H b)->tn i s.heap->J.go i H ->
  acL (acP P w) X.A (agS (.ref it)) (fun r s1=>∃ u,r=some u /\
   acL (acP P w) X.A (letOwnedTupleGo tg (.ref it) u) (fun _ s2=>∃ x H',Inv X ahW Z H' s2/\RelV x u/\J.yld i H x H'/\tn (i+1) s2.heap/\∀ b∈fp,H' b=none) E s1) E s
 done:∀ (X:Cx),X.prog=P->X.w=w->X.K=K->(J.cm=true->X.calm=true)->∀ (i:Nat) (ahW:List (Addr×Obj)) (s:aci) (Z : St) (H:Hp) (E:acd->aci->Prop),Inv X ahW Z H s->(∀ b∈fp,CK X ahW H b)->tn i s.heap->J.stop i H ->
  acL (acP P w) X.A (agS (.ref it)) (fun r s1=>r=none/\Inv X ahW Z H s1) E s
 self:∀ (A:acY) (i:Nat) (s:aci) (Q:acd->aci->Prop) (E:acd->aci->Prop),tn i s.heap->Q (.ref it) s->acL (acP P w) A (pyIter (.ref it)) Q E s
abbrev TI:=St->Hp->(It->Hp->Prop)->Prop
def PIE (X:Cx)(ahW:List (Addr×Obj))(Z : St)(tg:Expr)(R:It->Hp->Prop)(itv:acd)(s2:aci):Prop:=
 ∃ (it:Addr) (fp:List Addr) (tn:Nat->Heap->Prop) (J:It) (H':Hp),itv=.ref it/\Inv X ahW Z H' s2/\Turn X.prog X.w X.K tg J fp it tn/\tn 0 s2.heap/\(∀ b∈fp,CK X ahW H' b)/\R J H'
def PI (X:Cx)(tg iter:Expr)(wi:TI):Prop:=
 ∀ (ahW:List (Addr×Obj)) (s:aci) (Z : St) (H:Hp) (R:It->Hp->Prop),Inv X ahW Z H s->wi Z H R ->
  acL (acP X.prog X.w) X.A (eval iter X.env) (fun v s1=>acL (acP X.prog X.w) X.A (pyIter v) (PIE X ahW Z tg R) X.xe s1) X.xe s
def RJ {s:aci}{it:Addr}{o:Obj}{n:String}{vs:Array acd}{Q:Unit->aci->Prop}(ho:s.heap.get? it=some o)(hc:o.cls=.type n)(hd:o.data=.fields vs)
    (hn:["enumerate", "zip", "dict_itemiterator", "dict_reverseitemiterator", "odict_iterator", "itertools.zip_longest", "itertools.pairwise"].contains n=false) (hQ:Q () s):acL M A (letOwnedTupleGo tg (.ref it) u) Q E s:=by
  unfold letOwnedTupleGo;cases tg <;> first
    | exact ach hQ
    | (cases u <;> first
        | exact ach hQ
        | (refine abY (wpAny_load ho ?_)
           rw [hc,hd];show acL M A (if (["enumerate", "zip", "dict_itemiterator", "dict_reverseitemiterator", "odict_iterator", "itertools.zip_longest", "itertools.pairwise"].contains n&&vs[0]?==some (aha _))=true then _ else _) Q E s;rw [if_neg (by intro h;rw [hn,Bool.false_and] at h;cases h)];exact ach hQ))
def Itl (K:abZ)(a:Addr):It:=
 ⟨fun i H=>∃ xs x,SqL K H a xs/\xs[i]?=some x,fun i H x H'=>H'=H/\∀ xs,SqL K H a xs->xs[i]?=some x,fun i H=>∃ xs,SqL K H a xs/\xs.length<=i,true⟩
def Itt (K:abZ)(a:Addr):It:=
 ⟨fun i H=>∃ xs x,SqT K H a xs/\xs[i]?=some x,fun i H x H'=>H'=H/\∀ xs,SqT K H a xs->xs[i]?=some x,fun i H=>∃ xs,SqT K H a xs/\xs.length<=i,true⟩
def Itr (lo:Int)(n:Nat):It:=⟨fun i _=>i<n,fun i H x H'=>H'=H/\x=.int (lo+i),fun i _=>n<=i,false⟩
def Fi (a it:Addr):Turn P w K tg (Itl K a) [it] it (fun i h=>h.IsListIter it a i) where
 mem:=by simp
 obj:=fun i h st b hb=>by
  have e:b=it:=by simpa using hb
  subst e;obtain ⟨o,e,c,d⟩:=st;exact ⟨o,e,fun v z=>by rw [d] at z;cases z⟩
 keep:=fun i h h' st k=>st.at fun o e=>k it (by simp) o e
 item:=by
  intro X hP hw hK hc i ahW s Z H E I hf st hg;subst hP hw hK;obtain ⟨xs,x,hq,hx⟩:=hg;obtain ⟨its,rv,p,hz⟩:=I.list hq;obtain ⟨u,hu,ru⟩:=rv.get hx;obtain ⟨f0,f1,f2,f3,f4,f5⟩:=hf it (by simp);refine wpAny_pyNext_list_item st p.isList (x:=u) (by simpa using hu) fun h' st' sb=>?_;have I1:Inv X ahW Z H { s with heap:=h' }:=I.turned (t':=s.toks) (fun b o hb e=>(sb.2 b hb).trans e) f0 f1 f3 f4 f5;obtain ⟨o,e,c,d⟩:=id st';exact ⟨u,rfl,RJ (s:={ s with heap:=h' }) e c d (by decide) ⟨x,H,I1,ru,⟨rfl,fun ys hy=>by rw [I.list_inj hy hq];exact hx⟩,st',fun b hb=>(hf b hb).1⟩⟩
 done:=by
  intro X hP hw hK hc i ahW s Z H E I hf st hg;subst hP hw hK;obtain ⟨xs,hq,hx⟩:=hg;obtain ⟨its,rv,p,hz⟩:=I.list hq;obtain ⟨f0,f1,f2,f3,f4,f5⟩:=hf it (by simp);have hl:=rv.length;exact wpAny_pyNext_list_end (I.ok.hd<|hc rfl) st p.isList (by simp;omega) fun h' eb=>⟨rfl,I.turned (t':=s.toks) (fun b o hb e=>eb b o hb e) f0 f1 f3 f4 f5⟩
 self:=fun _ _ _ _ _ st h=>wpAny_pyIter_listiter st h
def Cr (a it:Addr):Turn P w K tg (Itt K a) [it] it (fun i h=>h.IsTupleIter it a i) where
 mem:=by simp
 obj:=fun i h st b hb=>by
  have e:b=it:=by simpa using hb
  subst e;obtain ⟨o,e,c,d⟩:=st;exact ⟨o,e,fun v z=>by rw [d] at z;cases z⟩
 keep:=fun i h h' st k=>st.at fun o e=>k it (by simp) o e
 item:=by
  intro X hP hw hK hc i ahW s Z H E I hf st hg;subst hP hw hK;obtain ⟨xs,x,hq,hx⟩:=hg;obtain ⟨its,rv,p,hz⟩:=I.tuple hq;obtain ⟨u,hu,ru⟩:=rv.get hx;obtain ⟨f0,f1,f2,f3,f4,f5⟩:=hf it (by simp);refine wpAny_pyNext_tuple_item st (show s.heap.IsTuple a its.toArray from p) (x:=u) (by simpa using hu) fun h' st' sb=>?_;have I1:Inv X ahW Z H { s with heap:=h' }:=I.turned (t':=s.toks) (fun b o hb e=>(sb.2 b hb).trans e) f0 f1 f3 f4 f5;obtain ⟨o,e,c,d⟩:=id st';exact ⟨u,rfl,RJ (s:={ s with heap:=h' }) e c d (by decide) ⟨x,H,I1,ru,⟨rfl,fun ys hy=>by rw [I.tuple_inj hy hq];exact hx⟩,st',fun b hb=>(hf b hb).1⟩⟩
 done:=by
  intro X hP hw hK hc i ahW s Z H E I hf st hg;subst hP hw hK;obtain ⟨xs,hq,hx⟩:=hg;obtain ⟨its,rv,p,hz⟩:=I.tuple hq;obtain ⟨f0,f1,f2,f3,f4,f5⟩:=hf it (by simp);have hl:=rv.length;exact wpAny_pyNext_tuple_end (I.ok.hd<|hc rfl) st (show s.heap.IsTuple a its.toArray from p) (by simp;omega) fun h' eb=>⟨rfl,I.turned (t':=s.toks) (fun b o hb e=>eb b o hb e) f0 f1 f3 f4 f5⟩
 self:=fun _ _ _ _ _ st h=>wpAny_pyIter_tupleiter st h
def Cm (it:Addr)(lo:Int)(n:Nat):Turn P w K tg (Itr lo n) [it] it (fun i h=>IsRangeIter h it (lo+(i:Nat)*1) ((n:Int) - (i:Nat)) 1) where
 mem:=by simp
 obj:=fun i h st b hb=>by
  have e:b=it:=by simpa using hb
  subst e;exact ⟨_,st,fun v z=>by
   have z':Data.fields _=Data.cell v:=z;cases z'⟩
 keep:=fun i h h' st k=>k it (by simp) _ st
 item:=by
  intro X hP hw hK hc i ahW s Z H E I hf st hg;subst hP hw hK;obtain ⟨f0,f1,f2,f3,f4,f5⟩:=hf it (by simp);refine wpAny_pyNext_range_item st (by have:i<n:=hg;omega) fun h' st' kk=>?_;have I1:Inv X ahW Z H { s with heap:=h',toks:=s.toks+1 }:=I.turned (fun b o hb e=>(kk.2 b hb).trans e) f0 f1 f3 f4 f5;have st2:IsRangeIter h' it (lo+((i+1:Nat):Int)*1) ((n:Int) - ((i+1:Nat):Int)) 1:=by
   have e1:lo+((i+1:Nat):Int)*1=lo+((i:Nat):Int)*1+1:=by omega
   have e2:(n:Int) - ((i+1:Nat):Int)=(n:Int) - ((i:Nat):Int) - 1:=by omega
   rw [e1,e2];exact st'
  refine ⟨_,rfl,RJ (s:={ s with heap:=h',toks:=s.toks+1 }) (n := "range_iterator") st' rfl rfl (by decide) ⟨.int<|lo+i,H,I1,⟨s.toks,?_⟩,⟨rfl,rfl⟩,st2,fun b hb=>(hf b hb).1⟩⟩;rw [Int.mul_one]
 done:=by
  intro X hP hw hK hc i ahW s Z H E I hf st hg;subst hP hw hK;obtain ⟨f0,f1,f2,f3,f4,f5⟩:=hf it (by simp);exact Gq (Am I.qt0 I.hok) st (by have:n<=i:=hg;omega) fun h' eb=>⟨rfl,I.turned (t':=s.toks) (fun b o hb e=>eb b o hb e) f0 f1 f3 f4 f5⟩
 self:=fun _ _ _ _ _ st h=>wpAny_pyIter_rangeiter st h
section
def yO {s:aci}{R:It->Hp->Prop}{lo hi:Int}{t u v:Tok}{tk:Nat}(I:Inv X ahW Z H s)(h1:-(2^62)<=lo)(h2:lo<2^62)(h3:-(2^62)<=hi)(h4:hi<2^62)
  (q:R (Itr lo (hi - lo).toNat) H):acL (acP X.prog X.w) X.A (pyIter (.ref s.heap.objs.size)) (PIE X ahW Z tg R) E { s with heap:=s.heap.push { cls:=.type "range",data:=.fields #[.int lo t,.int hi u,.int 1 v] },toks:=tk }:=by
 refine wpAny_pyIter_range (IsRange.new ..) (small_one h1 h2 h3 h4) ?_;have I1:Inv X ahW Z H { s with heap:=s.heap.push { cls:=.type "range",data:=.fields #[.int lo t,.int hi u,.int 1 v] },toks:=tk }:=I.kept fun b o e=>ace _ e
 refine ⟨(s.heap.push { cls:=.type "range",data:=.fields #[.int lo t,.int hi u,.int 1 v] }).objs.size,[(s.heap.push { cls:=.type "range",data:=.fields #[.int lo t,.int hi u,.int 1 v] }).objs.size],_,_,H,rfl,
  I1.kept (t':=tk) fun b o e=>ace _ e,Cm _ lo (hi - lo).toNat,?_,fun b hb=>?_,q⟩
 ·have e1:lo+((0:Nat):Int)*1=lo:=by simp
  have e2:(((hi - lo).toNat:Nat):Int) - ((0:Nat):Int)=Builtin.Range.rangeSize lo hi 1:=by rw [rangeSize_one];split <;> omega
  show IsRangeIter _ _ (lo+((0:Nat):Int)*1) ((((hi - lo).toNat:Nat):Int) - ((0:Nat):Int)) 1;rw [e1,e2];exact acw _ rfl
 ·have e:b=(s.heap.push { cls:=.type "range",data:=.fields #[.int lo t,.int hi u,.int 1 v] }).objs.size:=by simpa using hb
  subst e;exact I1.fpOk (acj _)<|I1.hok.fresh<|acj _
def Yq (ta:TA):TI:=fun Z H R=>ta Z H fun vs H1=>∃ j:Int,vs=[.int j]/\-(2^62)<=j/\j<2^62/\R (Itr 0 j.toNat) H1
def Zo (ta:TA):TI:=fun Z H R=>ta Z H fun vs H1=>∃ i j:Int,vs=[.int i,.int j]/\(-(2^62)<=i/\i<2^62/\-(2^62)<=j/\j<2^62)/\R (Itr i (j - i).toNat) H1
def Iz {a:Expr}{ta:TA}{p:Pos}(hg:Gl X "range")(hm:X.mg "range" = none)(ha:PA X [a] ta)(hs:acN [a] X.env=[(false,eval a X.env)]:=by rfl):PI X tg (.Call (.Name "range" p) [a] [] pos) (Yq ta):=by
 intro ahW s Z H R I h;refine Call_<|m6 I hg hm boot_range<|aek (thn (ha pos ahW s Z H _ I h) fun us s1 ⟨vs,H1,I1,r1,q1⟩=>?_) hs rfl
 obtain ⟨j,e,q1,q2,q⟩:=q1;subst e;cases r1 with
 | cons r rr=>
  cases rr;obtain ⟨t,rfl⟩:=r;exact call_range_1<|yO I1 (by omega) (by omega) q1 q2<|by simpa using q
def Dh {a b:Expr}{ta:TA}{p:Pos}(hg:Gl X "range")(hm:X.mg "range" = none)(ha:PA X [a,b] ta)(hs:acN [a,b] X.env=[(false,eval a X.env),(false,eval b X.env)]:=by rfl)(hs2:acN [b] X.env=[(false,eval b X.env)]:=by rfl):
  PI X tg (.Call (.Name "range" p) [a,b] [] pos) (Zo ta):=by
 intro ahW s Z H R I h;refine Call_<|m6 I hg hm boot_range<|aek (thn (ha pos ahW s Z H _ I h) fun us s1 ⟨vs,H1,I1,r1,q1⟩=>?_) (by rw [hs,hs2]) (by rw [hs2];rfl)
 obtain ⟨i,j,e,⟨q1,q2,q3,q4⟩,q⟩:=q1;subst e;cases r1 with
 | cons r rr=>
  cases rr with
  | cons r' rr=>
   cases rr;obtain ⟨t,rfl⟩:=r;obtain ⟨t',rfl⟩:=r';exact call_range_2<|yO I1 q1 q2 q3 q4 q
def aa1 (wi:TI)(g:TG)(tb:TS):TS:=fun D Z H=>wi Z H fun J H1=>∃ W:Nat->Nat->St->Hp->Prop,(∃ m,W 0 m Z H1)/\∀ i m Z H,W i m Z H ->
 (J.stop i H/\D.nx Z H)\/(J.go i H/\∃ N:St->Hp->Prop,(∀ Z' H',N Z' H'->∃ m',m'<m/\W (i+1) m' Z' H')/\∀ x H',J.yld i H x H'->g x Z H' fun Z2 H2=>tb { D with nx:=N,ct:=N,bk:=D.nx } Z2 H2)
def v7 (fp:List Addr)(h:Heap):List (Addr×Obj):=fp.filterMap fun b=>(h.get? b).map fun o=>(b,o)
def jm {fp:List Addr}{b:Addr}{o:Obj}(hb:b∈fp)(e:h.get? b=some o):(b,o)∈v7 fp h:=List.mem_filterMap.mpr ⟨b,hb,by rw [e];rfl⟩
def Fl {fp:List Addr}{p:Addr×Obj}(hp:p∈v7 fp h):p.1∈fp/\h.get? p.1=some p.2:=by
 obtain ⟨b,hb,e⟩:=List.mem_filterMap.mp hp;cases q:h.get? b with
 | none=>rw [q] at e;cases e
 | some o=>
  rw [q] at e;have e':(b,o)=p:=acv e;subst e';exact ⟨hb,q⟩
def Inv.pinned {s:aci}{fp:List Addr}(I:Inv X ahW Z H s)(hf:∀ b∈fp,CK X ahW H b)(ho:∀ b∈fp,∃ o,s.heap.get? b=some o/\∀ v,o.data≠.cell v):Inv X (ahW++v7 fp s.heap) Z H s:=
 I.pins_of fun p hp=>(adn.mp hp).elim (fun z=>I.pin p (adz _ z)) fun z=>by
  obtain ⟨hb,e⟩:=Fl z;obtain ⟨f0,f1,f2,_⟩:=hf p.1 hb;obtain ⟨o,e',d⟩:=ho p.1 hb;rw [e] at e';cases e';exact ⟨e,f0,f1,f2,d⟩
def Inv.unpinned {pl:List (Addr×Obj)}{s:aci}(I:Inv X (ahW++pl) Z H s):Inv X ahW Z H s:=I.pins_of fun p hp=>I.pin p (adz _ (adQ _ hp))
def Uj {iter:Expr}{body:List Stmt}{wi:TI}{g:TG}{tb:TS}(hp:aeP (acP X.prog X.w) X.A X.env X.xe)(hc:X.calm=true)(hi:PI X tg iter wi)(hg:PG X tg g)(hb:PSs X body tb)
  (hs:∀ x,aeW iter X.env x=pure x:=by intro _;rfl):PS X (.For tg iter body [] pos) (aa1 wi g tb):=by
 intro ahW s Z H D I h;refine wpAny_For (thn (hi ahW s Z H _ I h) fun v s1 h1=>thn h1 fun itv s2 h2=>?_) hs;obtain ⟨it,fp,tn,J,H2,e,I2,T,st2,f2,W,⟨m0,w0⟩,turn⟩:=h2;subst e
 -- what stays true of the iterator's objects through the loop
 have stat:∀ {H':Hp},(∀ b∈fp,H' b=none)->∀ b∈fp,CK X ahW H' b:=fun hn b hb=>⟨hn b hb,(f2 b hb).2⟩
 refine codeAny_forLoop_any (fun n s'=>∃ i Z' H',Inv X ahW Z' H' s'/\tn i s'.heap/\(∀ b∈fp,H' b=none)/\W i n Z' H') ?_ m0 ⟨0,Z,H2,I2,st2,fun b hb=>(f2 b hb).1,w0⟩;rintro n s3 ⟨i,Z3,H3,I3,st3,fr3,w3⟩;rcases turn i n Z3 H3 w3 with ⟨stop,qn⟩ | ⟨go,N,hN,step⟩
 ·refine agM hp<|thn (T.done X rfl rfl rfl (fun _=>hc) i ahW s3 Z3 H3 X.xe I3 (stat fr3) st3 stop) fun r s4 ⟨hr,I4⟩=>?_
  subst hr;exact wpAny_execs_nil ⟨Z3,H3,I4,qn⟩
 ·refine agM hp<|thn (T.item X rfl rfl rfl (fun _=>hc) i ahW s3 Z3 H3 X.xe I3 (stat fr3) st3 go) fun r s4 ⟨u,hr,h4⟩=>?_
  subst hr;refine agM hp<|thn h4 fun _ s5 ⟨x,H5,I5,r5,y5,st5,fr5⟩=>?_
  have I5':=I5.pinned (stat fr5) (T.obj _ _ st5);refine agM hp<|thn (hg _ s5 Z3 H5 x u _ I5' r5<|step x H5 y5) fun _ s6 ⟨Z6,H6,I6,q6⟩=>?_
  refine agM hp<|thn (hb _ s6 Z6 H6 _ I6 q6) fun f s7 q7=>?_
  have again:∀ {Z7:St} {H7:Hp},Inv X (ahW++v7 fp s5.heap) Z7 H7 s7->N Z7 H7->∃ m,m<n/\∃ i Z' H',Inv X ahW Z' H' s7/\tn i s7.heap/\(∀ b∈fp,H' b=none)/\W i m Z' H':=fun {Z7 H7} I7 n7=>by
   obtain ⟨m',hm,w7⟩:=hN Z7 H7 n7;refine ⟨m',hm,i+1,Z7,H7,I7.unpinned,T.keep _ _ _ st5 fun b hb o e=>(I7.pin (b,o)<|adz _<|adz _<|jm hb e).1,fun b hb=>?_,w7⟩;obtain ⟨o,e,d⟩:=T.obj _ _ st5 b hb;exact (I7.pin (b,o)<|adz _<|adz _<|jm hb e).2.1
  cases f with
  | next=>obtain ⟨Z7,H7,I7,n7⟩:=q7;exact again I7 n7
  | cont=>obtain ⟨Z7,H7,I7,n7⟩:=q7;exact again I7 n7
  | brk=>obtain ⟨Z7,H7,I7,q7⟩:=q7;exact ⟨Z7,H7,I7.unpinned,q7⟩
  | ret v=>obtain ⟨x7,Z7,H7,I7,r7,q7⟩:=q7;exact ⟨x7,Z7,H7,I7.unpinned,r7,q7⟩
end
variable {body : List Stmt}
def mL {a:Addr}{g:TG}{tb:TS}(Pv:Nat->St->Hp->Prop)(h0:Pv 0 Z H)(hl:∀ i Z H,i<=xs.length->Pv i Z H->SqT K H a xs)
  (hs:∀ i x Z H,xs[i]?=some x->Pv i Z H->g x Z H fun Z2 H2=>tb { D with nx:=Pv (i+1),ct:=Pv (i+1),bk:=D.nx } Z2 H2) (hd:∀ Z H,Pv xs.length Z H->D.nx Z H) :
  ∃ W:Nat->Nat->St->Hp->Prop,(∃ m,W 0 m Z H)/\∀ i m Z H,W i m Z H ->
   ((Itt K a).stop i H/\D.nx Z H)\/((Itt K a).go i H/\∃ N:St->Hp->Prop,(∀ Z' H',N Z' H'->∃ m',m'<m/\W (i+1) m' Z' H')/\∀ x H',(Itt K a).yld i H x H'->g x Z H' fun Z2 H2=>tb { D with nx:=N,ct:=N,bk:=D.nx } Z2 H2):=by
 refine ⟨fun i m Z H=>m=xs.length - i/\i<=xs.length/\Pv i Z H,⟨xs.length,by simp,adu _,h0⟩,?_⟩;rintro i m Z H ⟨rfl,hi,p⟩;have q:=hl i Z H hi p;by_cases hlt:i<xs.length
 ·refine .inr ⟨⟨xs,xs[i],q,by simp [hlt]⟩,Pv<|i+1,fun Z' H' p'=>⟨xs.length - (i+1),by omega,rfl,hlt,p'⟩,fun x H' y=>?_⟩;obtain ⟨e,y⟩:=y;subst e;exact hs i x Z _ (y xs q) p
 ·have e:i=xs.length:=by omega
  subst e;exact .inl ⟨⟨xs,q,acj _⟩,hd Z H p⟩
abbrev R2:=V->V->Hp->VK->Prop
def OpR (X:Cx)(f:acd->acd->Sem acd)(r:R2):Prop:=
 ∀ (ahW:List (Addr×Obj)) (s:aci) (Z : St) (H:Hp) (x y:V) (v u:acd) (Q:VK),Inv X ahW Z H s->RelV x v->RelV y u->r x y H Q ->
  acL (acP X.prog X.w) X.A (f v u) (EP X ahW Z Q) X.xe s
def UnR (X:Cx)(f:acd->Sem acd)(r:V->Hp->VK->Prop):Prop:=
 ∀ (ahW:List (Addr×Obj)) (s:aci) (Z : St) (H:Hp) (x:V) (v:acd) (Q:VK),Inv X ahW Z H s->RelV x v->r x H Q ->
  acL (acP X.prog X.w) X.A (f v) (EP X ahW Z Q) X.xe s
def gk (X:Cx)(f:acd)(r:List V->Hp->VK->Prop):Prop:=
 ∀ (ahW:List (Addr×Obj)) (s:aci) (Z : St) (H:Hp) (xs:List V) (us:List acd) (Q:VK),Inv X ahW Z H s->Vals xs us->r xs H Q ->
  acL (acP X.prog X.w) X.A (call f us) (EP X ahW Z Q) X.xe s
def aa7 (X:Cx)(r:V->Hp->(Bool->Hp->Prop)->Prop):Prop:=
 ∀ (ahW:List (Addr×Obj)) (s:aci) (Z : St) (H:Hp) (x:V) (v:acd) (Q:Bool->Hp->Prop),Inv X ahW Z H s->RelV x v->r x H Q ->
  acL (acP X.prog X.w) X.A (truthy v) (TP X ahW Z Q) X.xe s
def tOp (r:R2)(ta tb:TE):TE:=fun Z H Q=>ta Z H fun x H1=>tb Z H1 fun y H2=>r x y H2 Q
def tUn (r:V->Hp->VK->Prop)(ta:TE):TE:=fun Z H Q=>ta Z H fun x H1=>r x H1 Q
def rI (C:Int->Int->Prop)(g:Int->Int->V):R2:=fun x y H Q=>∃ i j,x=.int i/\y=.int j/\C i j/\Q (g i j) H
def rI0 (g:Int->Int->V):R2:=fun x y H Q=>∃ i j,x=.int i/\y=.int j/\Q (g i j) H
def rU (g:Int->V):V->Hp->VK->Prop:=fun x H Q=>∃ i,x=.int i/\Q (g i) H
section
variable {a b c:Expr}{tb tc:TE}
def Zm (ha:PE X a ta)(hb:PE X b tb){s:aci}{R:V->V->Hp->Prop}(I:Inv X ahW Z H s)
  (h:ta Z H fun x H1=>tb Z H1 fun y H2=>R x y H2) {Q:acd->aci->Prop} {f:acd->acd->Sem acd}
  (hf:∀ v u s2 x y H2,Inv X ahW Z H2 s2->RelV x v->RelV y u->R x y H2->acL (acP X.prog X.w) X.A (f v u) Q X.xe s2) :
  acL (acP X.prog X.w) X.A (eval a X.env) (fun v s₁=>acL (acP X.prog X.w) X.A (eval b X.env) (fun u s₂=>acL (acP X.prog X.w) X.A (f v u) Q X.xe s₂) X.xe s₁) X.xe s:=by
 refine thn (ha ahW s Z H _ I h) fun v s1 ⟨x,H1,I1,r1,q1⟩=>?_;refine thn (hb ahW s1 Z H1 _ I1 q1) fun u s2 ⟨y,H2,I2,r2,q2⟩=>?_;exact hf v u s2 x y H2 I2 r1 r2 q2
def X6 {op:Operator}{r:R2}(ho:OpR X (aeN op) r)(ha:PE X a ta)(hb:PE X b tb):PE X (.BinOp a op b pos) (tOp r ta tb):=by
 intro ahW s Z H Q I h;exact wpAny_BinOp<|Zm ha hb I h fun v u s2 x y H2 I2 rx ry q=>ho ahW s2 Z H2 x y v u Q I2 rx ry q
def Ze {op:UnaryOp}{r:V->Hp->VK->Prop}(ho:UnR X (unaryOp op) r)(ha:PE X a ta):PE X (.UnaryOp op a pos) (tUn r ta):=by
 intro ahW s Z H Q I h;exact UnaryOp_<|thn (ha ahW s Z H _ I h) fun v s1 ⟨x,H1,I1,r1,q1⟩=>ho ahW s1 Z H1 x v Q I1 r1 q1
def opI {f:acd->acd->Sem acd}{C:Int->Int->Prop}{g:Int->Int->Int}
  (rule:∀ (i j:Int) (t u:Tok) (s:aci) (Q:acd->aci->Prop) (E:acd->aci->Prop),C i j->Q (.int (g i j) s.toks) { s with toks:=s.toks+1 }->acL (acP X.prog X.w) X.A (f (.int i t) (.int j u)) Q E s) :
  OpR X f (rI C fun i j=>.int (g i j)):=by
 intro ahW s Z H x y v u Q I rx ry h;obtain ⟨i,j,rfl,rfl,hc,q⟩:=h;obtain ⟨t,rfl⟩:=rx;obtain ⟨t',rfl⟩:=ry;exact rule i j t t' s _ _ hc ⟨.int<|g i j,H,I.tok _,⟨_,rfl⟩,q⟩
def aax {f:acd->acd->Sem acd}{g:Int->Int->Int}
  (rule:∀ (i j:Int) (t u:Tok) (s:aci) (Q:acd->aci->Prop) (E:acd->aci->Prop),Q (.int (g i j) s.toks) { s with toks:=s.toks+1 }->acL (acP X.prog X.w) X.A (f (.int i t) (.int j u)) Q E s) :
  OpR X f (rI0 fun i j=>.int (g i j)):=by
 intro ahW s Z H x y v u Q I rx ry h;obtain ⟨i,j,rfl,rfl,q⟩:=h;obtain ⟨t,rfl⟩:=rx;obtain ⟨t',rfl⟩:=ry;exact rule i j t t' s _ _ ⟨.int<|g i j,H,I.tok _,⟨_,rfl⟩,q⟩
def Z0 {f:acd->acd->Sem acd}{g:Int->Int->Bool}
  (rule:∀ (i j:Int) (t u:Tok) (s:aci) (Q:acd->aci->Prop) (E:acd->aci->Prop),Q (.bool (g i j)) s->acL (acP X.prog X.w) X.A (f (.int i t) (.int j u)) Q E s) :
  OpR X f (rI0 fun i j=>.bl (g i j)):=by
 intro ahW s Z H x y v u Q I rx ry h;obtain ⟨i,j,rfl,rfl,q⟩:=h;obtain ⟨t,rfl⟩:=rx;obtain ⟨t',rfl⟩:=ry;exact rule i j t t' s _ _ ⟨.bl<|g i j,H,I,rfl,q⟩
def YT (i j:Int):Prop:=0<=j/\j<=1000000/\i.natAbs<2^64
def VP:OpR X (aeN .Add) (rI0 fun i j=>.int (i+j)):=aax fun _ _ _ _ _ _ _ q=>add_int q
def Us:OpR X (aeN .Sub) (rI0 fun i j=>.int (i - j)):=aax fun _ _ _ _ _ _ _ q=>sub_int q
def Pa:OpR X (aeN .Mod) (rI (fun _ j=>j≠0) fun i j=>.int (i.fmod j)):=opI fun _ _ _ _ _ _ _ hc q=>mod_int' hc q
def S7:OpR X (aeN .Pow) (rI YT fun i j=>.int (i^j.toNat)):=opI fun _ _ _ _ _ _ _ hc q=>pow_int_small hc.1 hc.2.1 hc.2.2 q
def unI {f:acd->Sem acd}{g:Int->Int}
  (rule:∀ (i:Int) (t:Tok) (s:aci) (Q:acd->aci->Prop) (E:acd->aci->Prop),Q (.int (g i) s.toks) { s with toks:=s.toks+1 }->acL (acP X.prog X.w) X.A (f (.int i t)) Q E s) :
  UnR X f (rU fun i=>.int (g i)):=by
 intro ahW s Z H x v Q I rx h;obtain ⟨i,rfl,q⟩:=h;obtain ⟨t,rfl⟩:=rx;exact rule i t s _ _ ⟨.int<|g i,H,I.tok _,⟨_,rfl⟩,q⟩
def W7:UnR X (unaryOp .USub) (rU fun i=>.int (-i)):=unI fun _ _ _ _ _ q=>neg_int q
end
section
variable {a b c:Expr}{tb tc:TE}
def Ah {s:aci}{Q:VK}{k k':Bool}(I:Inv X ahW Z H s)(q:Q (.bl k) H)(e:k=k'):EP X ahW Z Q (.bool k') s:=by
 subst e;exact ⟨.bl k,H,I,rfl,q⟩
def Yx:OpR X (adW .Lt) (rI0 fun i j=>.bl (decide (i<j))):=Z0 fun _ _ _ _ _ _ _ q=>lt_int q
def Zn:OpR X (adW .Gt) (rI0 fun i j=>.bl (decide (j<i))):=Z0 fun _ _ _ _ _ _ _ q=>gt_int q
def Zq:OpR X (adW .GtE) (rI0 fun i j=>.bl (decide (j<=i))):=Z0 fun _ _ _ _ _ _ _ q=>ge_int q
def Oz:OpR X (adW .IsNot) (fun x y H Q=>y=.non/\Q (.bl (!decide (x=.non))) H):=by
 intro ahW s Z H x y v u Q I rx ry h;obtain ⟨rfl,q⟩:=h;cases ry;refine isnot_none_gen<|Ah I q ?_
 cases x <;> first
  | (cases rx;rfl)
  | (obtain ⟨t,rfl⟩:=rx;rfl)
def OpR.or {f:acd->acd->Sem acd}{r r':R2}(h:OpR X f r)(h':OpR X f r'):OpR X f (fun x y H Q=>r x y H Q\/r' x y H Q):=by
 intro ahW s Z H x y v u Q I rx ry q;rcases q with q | q
 ·exact h ahW s Z H x y v u Q I rx ry q
 ·exact h' ahW s Z H x y v u Q I rx ry q
def Ml (b:Expr){op:CmpOp}(h:op≠.In:=by decide)(h2:op≠.NotIn:=by decide):afR op b=false:=by
 have e1:(op==CmpOp.In)=false:=by cases op <;> first | rfl | exact absurd rfl h
 have e2:(op==CmpOp.NotIn)=false:=by cases op <;> first | rfl | exact absurd rfl h2
 cases b <;> simp [afR,e1,e2]
def O5 {op:CmpOp}{r:R2}(ho:OpR X (adW op) r)(ha:PE X a ta)(hb:PE X b tb)(hm:afR op b=false):PE X (.Compare a [op] [b] pos) (tOp r ta tb):=by
 intro ahW s Z H Q I h;exact wpAny_Compare1 (Zm ha hb I h fun v u s2 x y H2 I2 rx ry q=>ho ahW s2 Z H2 x y v u Q I2 rx ry q) hm
def Yz (t:TE):TT:=fun Z H Q=>t Z H fun x H'=>∃ k,x=.bl k/\Q k H'
def QL {op:CmpOp}{r:R2}(ho:OpR X (adW op) r)(ha:PE X a ta)(hb:PE X b tb)(hm:afR op b=false):PT X (.Compare a [op] [b] pos) (Yz (tOp r ta tb)):=by
 intro ahW s Z H Q I h;refine wpAny_isTrue_Compare1 (thn (ha ahW s Z H _ I h) fun v s1 ⟨x,H1,I1,r1,q1⟩=>thn (hb ahW s1 Z H1 _ I1 q1) fun u s2 ⟨y,H2,I2,r2,q2⟩=>
  thn (ho ahW s2 Z H2 x y v u _ I2 r1 r2 q2) fun c s3 ⟨z,H3,I3,r3,k,e,q3⟩=>?_) hm
 subst e;cases r3;exact wpAny_truthy_bool ⟨H3,I3,q3⟩
def aap (K:abZ)(x:V)(H:Hp)(k:Bool):Prop:=
 match x with
 | .non=>k=false
 | .bl b=>k=b
 | .int i=>k=(i != 0)
 | .str y=>y.length<=acM/\k=((y.length:Int) != 0)
 | .byt y=>y.size<=acM/\k=((y.size:Int) != 0)
 | .ref p=>(∃ xs,SqL K H p xs/\k = !xs.isEmpty)\/(∃ xs,SqT K H p xs/\k = !xs.isEmpty)\/∃ kvs,H p=some (.dK kvs)/\k = !kvs.isEmpty
 | _=>False
def BP {kvs:List (κ×V)}{vs:List (κ×acd)}(r:KV kvs vs):(!vs.isEmpty) = !kvs.isEmpty:=by
 cases r <;> rfl
def qR {its:List acd}(r:Vals xs its):(!its.toArray.isEmpty) = !xs.isEmpty:=by
 cases r <;> simp
def qP:(acM:Nat)<2^63:=by rw [agX];decide
def Xj:aa7 X (fun x H Q=>∃ k,aap X.K x H k/\Q k H):=by
 intro ahW s Z H x v Q I rx h;obtain ⟨k,e,q⟩:=h;have hl:=qP;have hs:acM=16777216:=agX;cases x with
 | non=>
  cases rx;have e':k=false:=e;subst e';exact truthy_none ⟨H,I,q⟩
 | bl b=>
  cases rx;have e':k=b:=e;subst e';exact wpAny_truthy_bool ⟨H,I,q⟩
 | int i=>
  obtain ⟨t,rfl⟩:=rx;have e':k=(i != 0):=e;subst e';exact PySem.P.truthy_int ⟨H,I,q⟩
 | str y=>
  obtain ⟨t,rfl⟩:=rx;obtain ⟨hy,e'⟩:y.length<=acM/\k=((y.length:Int) != 0):=e;subst e';exact PySem.P.truthy_str (by omega) ⟨H,I.tok _,q⟩
 | byt y=>
  obtain ⟨t,rfl⟩:=rx;obtain ⟨hy,e'⟩:y.size<=acM/\k=((y.size:Int) != 0):=e;subst e';exact PySem.W.truthy_bytes (by omega) ⟨H,I.tok _,q⟩
 | ref p=>
  cases rx;have e':(∃ xs,SqL X.K H p xs/\k = !xs.isEmpty)\/(∃ xs,SqT X.K H p xs/\k = !xs.isEmpty)\/∃ kvs,H p=some (.dK kvs)/\k = !kvs.isEmpty:=e
  rcases e' with ⟨xs,hx,e'⟩ | ⟨xs,hx,e'⟩ | ⟨kvs,hx,e'⟩
  ·subst e';obtain ⟨its,r,pl,hz⟩:=I.list hx;have ahX:=r.length;exact wpAny_truthy_list pl.isList (by simp only [acC];omega) ⟨H,I.tok _,by rw [qR r];exact q⟩
  ·subst e';obtain ⟨its,r,pl,hz⟩:=I.tuple hx;have ahX:=r.length;exact truthy_tuple pl (by simp only [acC];omega) ⟨H,I.tok _,by rw [qR r];exact q⟩
  ·subst e';obtain ⟨hz,hS,vs,r,m⟩:kvs.length<=acM/\(p==aeu)=false/\∃ vs,KV kvs vs/\s.heap.DictOf (dO X.prog X.w) p vs:=I.hok p _ hx
   have ahX:kvs.length=vs.length:=agv r;exact wpAny_truthy_dict hS m (by omega) ⟨H,I.tok _,by rw [BP r];exact q⟩
 | _=>exact (show False from e).elim
def JN (ha:PE X a ta)(he:∀ whole,isTrue a X.env whole=(do let v <-whole;standAt a.pos;holding [v] (truthy v))):
  PT X a (fun Z H Q=>ta Z H fun x H'=>∃ k,aap X.K x H' k/\Q k H'):=by
 intro ahW s Z H Q I h;exact isTrue_plain (thn (ha ahW s Z H _ I h) fun v s1 ⟨x,H1,I1,r1,q1⟩=>Xj ahW s1 Z H1 x v Q I1 r1 q1)<|he _
def vals1 {x:V}(r:Vals [x] us):∃ u,us=[u]/\RelV x u:=by
 cases r with
 | cons r1 r2=>cases r2;exact ⟨_,rfl,r1⟩
def vals2 {x y:V}(r:Vals [x,y] us):∃ u w',us=[u,w']/\RelV x u/\RelV y w':=by
 cases r with
 | cons r1 r2=>
  cases r2 with
  | cons r3 r4=>cases r4;exact ⟨_,_,rfl,r1,r3⟩
def JV:gk X (.builtin "abs") (fun xs H Q=>∃ i,xs=[.int i]/\Q (.int (if i<0 then -i else i)) H):=by
 intro ahW s Z H xs us Q I r h;obtain ⟨i,rfl,q⟩:=h;obtain ⟨u,rfl,t,rfl⟩:=vals1 r;exact call_abs_int fun u tk=>⟨.int<|if i<0 then -i else i,H,I.tok _,⟨_,rfl⟩,q⟩
def Dn (hc:X.calm=true):gk X (.builtin "max") (fun xs H Q=>∃ i j,xs=[.int i,.int j]/\Q (.int (if j>i then j else i)) H):=by
 intro ahW s Z H xs us Q I r h;obtain ⟨i,j,rfl,q⟩:=h;obtain ⟨u,w',rfl,⟨t,rfl⟩,⟨t',rfl⟩⟩:=vals2 r;refine max_two_ints (I.ok.hd hc) fun h' tk k=>⟨_,H,I.kept k,?_,q⟩;by_cases hj:j>i
 ·rw [if_pos hj,if_pos hj];exact ⟨_,rfl⟩
 ·rw [if_neg hj,if_neg hj];exact ⟨_,rfl⟩
def GJ:gk X (.type "int") (fun xs H Q=>(∃ i,xs=[.int i]/\Q (.int i) H)\/∃ k,xs=[.bl k]/\Q (.int (if k then 1 else 0)) H):=by
 intro ahW s Z H xs us Q I r h;rcases h with ⟨i,rfl,q⟩ | ⟨k,rfl,q⟩
 ·obtain ⟨u,rfl,t,rfl⟩:=vals1 r;exact call_int_int ⟨.int i,H,I,⟨_,rfl⟩,q⟩
 ·obtain ⟨u,rfl,r1⟩:=vals1 r;cases r1;exact call_int_bool ⟨.int<|if k then 1 else 0,H,I.tok _,⟨_,rfl⟩,q⟩
end
structure YC (h:Heap) (x dx C:Addr) (mA:Str->Option acd):Prop where
 obj:h.get? x=some (PySem.W.instObj C dx)
 ns:h.Ns1 dx mA
 ne:dx≠x
variable {dx : Addr}{mA : Str->Option acd}
def Fd (n:h.Ns1 dx mA):∃ od,h.get? dx=some od/\∀ name,PySem.W.lookIn name od=some (mA name):=by
 obtain ⟨o,es,ep,ho,hd,hk,_,hm⟩:=n;refine ⟨o,ho,fun name=>?_⟩;have e:=hm name;unfold nsFind findBy at e;rw [<-Array.find?_toList] at e;unfold PySem.W.lookIn;rw [hd];dsimp only;split
 ·rename_i y q;rw [q] at e;exact congrArg some e
 ·rename_i q;rw [q] at e;have a:es.toList.any (·.refKey)=false:=by
   rw [List.any_eq_false];intro y hy;obtain ⟨z,t,hkey⟩:=hk y (Array.mem_toList_iff.mp hy);simp [DictEntry.refKey,hkey]
  have a':¬ es.toList.any (·.refKey)=true:=by rw [a];exact acZ
  rw [if_neg a'];exact congrArg some e
variable {C : Addr}
def YC.look {x:Addr}(I:YC h x dx C mA):∃ od,PySem.W.InstAt h x (PySem.W.instObj C dx) C (some od)/\∀ name,PySem.W.lookIn name od=some (mA name):=
 let ⟨od,ho,hl⟩:=Fd I.ns
 ⟨od,⟨I.obj,rfl,rfl,ho⟩,hl⟩
section
variable {s:aci}{x f:Addr}{name:Str}{v:acd}
def get_map {expr:Bool}(X:K.In s.heap)(I:YC s.heap x dx C mA)(hg:PySem.W.plainGet K C name=true)(hh:PySem.W.hasDictIn K C=true)
  (ha:aeL K (.ref C) name=some none) (hv:mA name=some v) (hv':PySem.W.handedIn v=true) (h:Q v { s with toks:=s.toks+1 }) :
  acL (acP prog w) A (getAttr (.ref x) name expr) Q E s:=by
 obtain ⟨od,J,hl⟩:=I.look;exact PySem.W.get_value X J (PySem.W.plainGet_of hg).1 (PySem.W.findObj_own hh ha rfl<|by rw [hl,hv]) hv' h
end
variable {f : Addr}{name : Str}
def Jh.some_of {v:V}{o:Option acd}(r:Jh (some v) o):∃ u,o=some u/\RelV v u:=by
 cases o with
 | none=>exact (show False from r).elim
 | some u=>exact ⟨u,rfl,r⟩
section
variable {a:Addr}{fs fs':List (Str×V)}
end
variable {fs : List (Str×V)}
structure Cls (K:abZ) (C:Addr):Prop where
 pg:PySem.W.plainGet K C Str.empty=true
 hd:PySem.W.hasDictIn K C=true
 po:PySem.W.plainOver K C=true
 sa:aeL K (.ref C) "__setattr__" = some (some (.builtin "object.__setattr__"))
structure Con (K:abZ) (C:Addr) (f:Str) (v:V) (u:acd):Prop where
 at_:aeL K (.ref C) f=some (some u)
 rel:RelV v u
 get:PySem.W.specialIn K u "__get__" = some none
 cp:PySem.W.copiedNames.contains f=false
structure Meth (K:abZ) (C:Addr) (m:Str) (f:Addr):Prop where
 at_:aeL K (.ref C) m=some (some (.ref f))
 fn:PySem.W.isFn K (.ref f)=true
 kp:aeK K (.ref f)=true
section
variable {s:aci}{a:Addr}{f:Str}{v:V}
end
section
variable {value:Expr}{f:Str}{tpos:Pos}{tv:TE}
end
section
variable {s:aci}{c:acd}{b:Bool}
inductive Ew (K:abZ) (H:Hp):V->acd->Prop where
 | non:Ew K H .non (.type "NoneType")
 | bl (x:Bool):Ew K H (.bl x) (.type "bool")
 | int (i:Int):Ew K H (.int i) (.type "int")
 | str (x:Str):Ew K H (.str x) (.type "str")
 | flt (x:UInt64):Ew K H (.flt x) (.type "float")
 | lst {a:Addr} {xs:List V} (e:H a=some (.lst xs)):Ew K H (.ref a) (.type "list")
 | frz {a:Addr} {o:Obj} {xs:List V} (e:H a=some (.frz o (.lst xs))):Ew K H (.ref a) (.type "list")
 | tup {a:Addr} {xs:List V} (e:H a=some (.tup xs)):Ew K H (.ref a) (.type "tuple")
 | dK {a:Addr} {kvs:List (Key×V)} (e:H a=some (.dK kvs)):Ew K H (.ref a) (.type "dict")
 | dT {a:Addr} {kvs:List (List Key×V)} (e:H a=some (.dT kvs)):Ew K H (.ref a) (.type "dict")
 | ins {a C dx:Addr} {fs:List (Str×V)} (e:H a=some (.ins C dx fs)) (cl:Cls K C) (ha:aeL K (.ref C) "__class__" = some (some (.builtin "object.__class__")))
   (hn:PySem.W.specialIn K (.builtin "object.__class__") "__get__" = some (some (.builtin "getset_descriptor.__get__"))) (htk:PySem.W.takesIn K (.builtin "object.__class__")=some true)
   (hm:PySem.W.mroIn K C (.type "object")=some true):Ew K H (.ref a) (.ref C)
end
structure nF (k:Nat) (A:acY):Prop where
 hd:9<=k->A.handled=none
 dp:A.depth+3*k+5<recursionLimit
 un:A.units+16*k+200<afi
def nF.mono {k:Nat}(r:nF k A)(h:j<=k):nF j A:=⟨fun z=>r.hd (acq z h),by have:=r.dp;omega,by have:=r.un;omega⟩
def nF.deeper {k:Nat}{A:acY}(r:nF (k+1) A)(env:Env):nF k (A.deeper env):=
 ⟨fun z=>r.hd (Nat.le_succ_of_le z),by have:=r.dp;show A.depth+1+3*k+5<_;omega,by have:=r.un;show A.units+3+16*k+200<_;omega⟩
def nF.calm {k:Nat}(r:nF k A)(h:9<=k):A.handled.isNone=true:=by rw [r.hd h];rfl
def nF.depth {k:Nat}{A:acY}(r:nF k A):A.depth<recursionLimit:=by have:=r.dp;omega
def nF.units {k:Nat}{A:acY}(r:nF k A):A.units+64<afi:=by have:=r.un;omega
def abw:TA:=fun _ H Q=>Q [] H
def Zz (ta:TE)(tr:TA):TA:=fun Z H Q=>ta Z H fun x H1=>tr Z H1 fun xs H2=>Q (x::xs) H2
section
variable {te:TE}{t:TA}
def V4:PA X [] abw:=fun _ _ _ _ H Q I h=>Calls.spliced_nil ⟨[],H,I,.nil,h⟩
def Q8 (ha:PE X e te)(hr:PA X es t)(hs:acN (e::es) X.env=(false,eval e X.env)::acN es X.env:=by rfl):PA X (e::es) (Zz te t):=by
 intro pos ahW s Z H Q I h;rw [hs];show acL _ _ (spliced ((false,eval e X.env)::afj pos (acN es X.env))) _ _ s;refine Calls.spliced_cons<|thn (ha ahW s Z H _ I h) fun u s1 ⟨x,H1,I1,r1,q1⟩=>?_
 exact thn (hr pos ahW s1 Z H1 _ I1 q1) fun us s2 ⟨xs,H2,I2,r2,q2⟩=>⟨x::xs,H2,I2,.cons r1 r2,q2⟩
def abn (t:TA):TE:=fun Z H Q=>t Z H fun xs H1=>xs.length<=acM/\∀ p,H1 p=none->Q (.ref p) (upd H1 p (.tup xs))
def abu (t:TA):TE:=fun Z H Q=>t Z H fun xs H1=>xs.length<=acM/\∀ p,H1 p=none->Q (.ref p) (upd H1 p (.lst xs))
def Ug {x1}(h:PA X es t):PE X (.Tuple es x1 pos) (abn t):=by
 intro ahW s Z H Q I hq;refine wpAny_Tuple_spliced<|thn (h pos ahW s Z H _ I hq) fun us s1 ⟨xs,H1,I1,r,z,q⟩=>⟨by rw [<-r.length];exact z,?_⟩
 have hf:H1 s1.heap.objs.size=none:=I1.hok.fresh (acj _);refine ⟨.ref s1.heap.objs.size,upd H1 s1.heap.objs.size<|.tup xs,I1.laid (t':=s1.toks) (fun b u e=>ace _ e) (acj _) ?_,rfl,q _ hf⟩;exact ⟨z,us,r,⟨_,acw _ rfl,rfl,⟨_,rfl⟩,rfl⟩⟩
def Mv (h:PA X es t):PE X (.List es pos) (abu t):=by
 intro ahW s Z H Q I hq;refine wpAny_List_spliced<|thn (h pos ahW s Z H _ I hq) fun us s1 ⟨xs,H1,I1,r,z,q⟩=>⟨by rw [<-r.length];exact z,?_⟩
 have hf:H1 s1.heap.objs.size=none:=I1.hok.fresh (acj _);refine ⟨.ref s1.heap.objs.size,upd H1 s1.heap.objs.size<|.lst xs,I1.laid (t':=s1.toks) (fun b u e=>ace _ e) (acj _) ?_,rfl,q _ hf⟩;exact ⟨z,us,0,r,acw _ rfl⟩
end
abbrev Sp:=List V->Hp->VK->XK->Prop
abbrev CXT:=List Env->Hp->aci->XK->acd->aci->Prop
structure Xr (P:acK) (w:adt) (K:abZ) (mg:Str->Option acd) (base:Heap) (A:acY) (outer:List Env) (s:aci) (H:Hp):Prop where
 frames:A.frames=some outer
 mod:Mod K mg base
 bs:∀ b o,base.get? b=some o->s.heap.get? b=some o/\H b=none
 bsz:base.objs.size<=s.heap.objs.size
 funs:s.heap.FunFrames base outer
 frf:∀ b∈frs outer,H b=none
 hok:HOk P w H s.heap
 bare:ahd s.gens
 qt:Quiet A H
def CE (outer:List Env)(P:acK)(w:adt)(H:Hp)(s:aci)(Q:VK)(u:acd)(s':aci):Prop:=
 ∃ v H',s'.os=s.os/\ahd s'.gens/\Un (frs outer) [] H H' s.heap s'.heap/\HOk P w H' s'.heap/\RelV v u/\Q v H'
def CR (CX:CXT)(outer:List Env)(P:acK)(w:adt)(H:Hp)(s:aci)(Q:VK)(E:XK)(r:Result)(s':aci):Prop:=
 match r with
 | .ok (.ret u)=>CE outer P w H s Q u s'
 | .ok _=>False
 | .error e=>CX outer H s E e s'
structure qC (P:acK) (w:adt) (K:abZ) (mg:Str->Option acd) (base:Heap) (CX:CXT) (k:Nat) (f:Addr) (fd:aeV) (ps:List Str) (sp:Sp):Prop where
 len:∀ vs H Q E,sp vs H Q E->vs.length=ps.length
 run:∀ (A:acY) (outer:List Env) (s:aci) (H:Hp) (args:Args) (us:List acd) (vs:List V) (Q:VK) (E:XK),nF k A->Xr P w K mg base A outer s H->BindsTo s fd args (ps.zip us)->Vals vs us->sp vs H Q E ->
  agP (acP P w) A (.call (.ref f) args) (CR CX outer P w H s Q E) s
variable {CX : CXT}{base : Heap}{sp : Sp}{mg : Str->Option acd}{fd : aeV}
def qC.mono {P:acK}{w:adt}{K:abZ}{mg:Str->Option acd}{base:Heap}{CX:CXT}{j k:Nat}{f:Addr}{fd:aeV}{ps:List Str}{sp:Sp}(F:qC P w K mg base CX j f fd ps sp)(h:j<=k) :
  qC P w K mg base CX k f fd ps sp:=⟨F.len,fun A outer s H args us vs Q E hr=>F.run A outer s H args us vs Q E (hr.mono h)⟩
def qC.imp {k:Nat}{ps:List Str}{sp':Sp}(F:qC P w K mg base CX k f fd ps sp)
  (h:∀ vs H Q E,sp' vs H Q E->sp vs H Q E):qC P w K mg base CX k f fd ps sp':=
 ⟨fun vs H Q E q=>F.len vs H Q E (h _ _ _ _ q),fun A outer s H args us vs Q E hr he hb hv hs=>F.run A outer s H args us vs Q E hr he hb hv (h _ _ _ _ hs)⟩
section
variable {s:aci}
def Inv.env0 (I:Inv X ahW Z H s):Xr X.prog X.w X.K X.mg X.base X.A X.stack s H:=
 ⟨I.ok.frames,I.ok.mod,I.bs,acq I.ok.bsz I.sz,I.stack,I.stkFree,I.hok,I.bare,I.qt0⟩
def Inv.after {Q:VK}(I:Inv X ahW Z H s)(h:CE X.stack X.prog X.w H s Q u s'):EP X ahW Z Q u s':=by
 obtain ⟨v,H',os,bare,un,hok,r,q⟩:=h;obtain ⟨hh,g,d,t,os'⟩:=s';obtain rfl:os'=s.os:=os;exact ⟨v,H',I.call (h':=hh) (g':=g) (d':=d) (t':=t) (ch:=[]) un hok bare<|fun b z=>absurd z<|by simp,r,q⟩
end
def Tz (sp:Sp)(dvs:List V)(E:XK)(t:TA):TE:=fun Z H Q=>t Z H fun vs H1=>sp (vs++dvs) H1 Q E
def Binds (K:abZ)(fd:aeV)(ps:List Str)(ds:List acd):Prop:=
 ∀ (s:aci) (us:List acd),K.In s.heap->(us++ds).length=ps.length->BindsTo s fd ⟨us,[]⟩ (ps.zip (us++ds))
def Binds.all {ps:List Str}(h:∀ us:List acd,us.length=ps.length->bindArgs fd ⟨us,[]⟩=pure (ps.zip us)):Binds K fd ps []:=fun s us _ hl=>by
 rw [aeT] at hl |-
 exact .of_eq<|h us hl
def Passes (CX:CXT)(X:Cx)(E:XK):Prop:=∀ (ahW:List (Addr×Obj)) (Z : St) (H:Hp) (s:aci) (e:acd) (s':aci),Inv X ahW Z H s->CX X.stack H s E e s'->X.xe e s'
section
variable {k:Nat}{ps:List Str}{dvs:List V}{ds:List acd}{E:XK}{x m:Str}{p apos:Pos}{t:TA}
def Xd {s:aci}{Q:VK}{vs:List V}(F:qC X.prog X.w X.K X.mg X.base CX k f fd ps sp)(hr:nF k X.A)(hb:Binds X.K fd ps ds)(hd:Vals dvs ds)(hx:Passes CX X E)
  (I:Inv X ahW Z H s) (r:Vals vs us) (h:sp (vs++dvs) H Q E):acL (acP X.prog X.w) X.A (call (.ref f) us) (EP X ahW Z Q) X.xe s:=by
 have r2:Vals (vs++dvs) (us++ds):=r.append hd;have hl:(us++ds).length=ps.length:=by rw [<-r2.length];exact F.len _ _ _ _ h
 refine wpAny_call<|codeAny_mono (F.run X.A X.stack s H ⟨us,[]⟩ (us++ds) (vs++dvs) Q E hr I.env0 (hb s us I.kIn hl) r2 h) fun r s' hq=>?_
 cases r with
 | error e=>exact hx ahW Z H s e s' I hq
 | ok fl=>
  cases fl with
  | ret u=>exact I.after hq
  | next=>exact afD hq
  | brk=>exact afD hq
  | cont=>exact afD hq
def O2 (F:qC X.prog X.w X.K X.mg X.base CX k f fd ps sp)(hr:nF k X.A)(hg:Gl X x)(hm:X.mg x=some (.ref f))(hk:aeK X.K (.ref f)=true)(hb:Binds X.K fd ps ds)(hd:Vals dvs ds)(hx:Passes CX X E)
  (ha:PA X (e::es) t) (hdb:(x==("__debug__" : Str))=false:=by decide) (he:acN (e::es) X.env=(false,eval e X.env)::acN es X.env:=by rfl) (hpl:(afj pos (acN es X.env)).any (·.1)=false:=by rfl) :
  PE X (.Call (.Name x p) (e::es) [] pos) (Tz sp dvs E t):=by
 intro ahW s Z H Q I h;refine afF<|Fo I hg hm ?_ hdb
 refine PySem.W.callWith_K (h₀:=X.base) I.ok.mod.kin hk (thn (ha pos ahW s Z H _ I h) fun us s1 ⟨vs,H1,I1,r,q⟩=>⟨I1.kIn,?_⟩) he hpl;exact Xd F hr hb hd hx I1 r q
structure Mk (K:abZ) (C f:Addr):Prop where
 makes:PySem.W.makesIn K C=true
 init:aeL K (.ref C) "__init__" = some (some (.ref f))
 fn:PySem.W.isFn K (.ref f)=true
 kp:aeK K (.ref C)=true
end
variable {apos : Pos}
section
variable {k:Nat}{ps ks:List Str}{E:XK}{x m:Str}{p kpos:Pos}{kws:List agy}{te:TE}{t tk:TA}{nm:Option Str}
structure aaG (K:abZ) (fd:aeV) (ps ks:List Str) (g:List acd->List acd->List acd) (gV:List V->List V->List V):Prop where
 to:∀ (s:aci) (us ws:List acd),K.In s.heap->(g us ws).length=ps.length->BindsTo s fd ⟨us,ks.zip ws⟩ (ps.zip (g us ws))
 rel:∀ {vs:List V} {us:List acd} {zs:List V} {ws:List acd},Vals vs us->Vals zs ws->Vals (gV vs zs) (g us ws)
variable {g:List acd->List acd->List acd}{gV:List V->List V->List V}
end
structure lM (N P:List Str) (sc:Scope):Prop where
 kind:sc.kind=.function
 co:sc.isCoroutine=false
 gen:sc.isGenerator=false
 nd:N.Nodup
 pre:N.take P.length=P
 par:∀ x∈P,sc.names.lookup x=some .local\/sc.names.lookup x=some .cell
 nofree:∀ y∈sc.names,y.2≠.free
theorem wg {afG:Str->Option adh}{x:Str}:∀ {binds:List (Str×acd)} {m:Str->Option acd},(∀ v,(x,v)∉binds)->bindL afG binds m x=m x
 | [],_,_=>rfl
 | (n,v)::r,m,h=>by
  unfold bindL;rw [wg fun w hw=>h w (acr _ hw)];split
  ·have:x≠n:=by rintro rfl;exact h v acF
   simp [this]
  ·rfl
theorem uW {afG:Str->Option adh}{x:Str}:∀ {binds:List (Str×acd)} {m:Str->Option acd},(∀ v,(x,v)∉binds)->bindC afG binds m x=m x
 | [],_,_=>rfl
 | (n,v)::r,m,h=>by
  unfold bindC;rw [uW fun w hw=>h w (acr _ hw)];split
  ·rfl
  ·have:x≠n:=by rintro rfl;exact h v acF
   simp [this]
def uQ {afG:Str->Option adh}{x:Str}{v:acd}:∀ {P:List Str} {vs:List acd} {i:Nat} {m:Str->Option acd},P.Nodup->P[i]?=some x->vs[i]?=some v->afG x=some .local ->
  bindL afG (P.zip vs) m x=some v
 | [],_,_,_,_,h,_,_=>by simp at h
 | _::_,[],_,_,_,_,h,_=>by simp at h
 | p::P,w::vs,0,m,nd,h1,h2,hk=>by
  simp at h1 h2;subst h1;subst h2;show bindL afG ((p,w)::P.zip vs) m p=_;unfold bindL;rw [wg fun v hv=>(aep.mp nd).1 (List.of_mem_zip hv).1,if_pos hk];simp
 | p::P,w::vs,i+1,m,nd,h1,h2,hk=>by
  show bindL afG ((p,w)::P.zip vs) m x=_;unfold bindL;exact uQ (i:=i) (aep.mp nd).2 (by simpa using h1) (by simpa using h2) hk
def uL {afG:Str->Option adh}{x:Str}{v:acd}:∀ {P:List Str} {vs:List acd} {i:Nat} {m:Str->Option acd},P.Nodup->P[i]?=some x->vs[i]?=some v->afG x≠some .local ->
  bindC afG (P.zip vs) m x=some v
 | [],_,_,_,_,h,_,_=>by simp at h
 | _::_,[],_,_,_,_,h,_=>by simp at h
 | p::P,w::vs,0,m,nd,h1,h2,hk=>by
  simp at h1 h2;subst h1;subst h2;show bindC afG ((p,w)::P.zip vs) m p=_;unfold bindC;rw [uW fun v hv=>(aep.mp nd).1 (List.of_mem_zip hv).1,if_neg hk];simp
 | p::P,w::vs,i+1,m,nd,h1,h2,hk=>by
  show bindC afG ((p,w)::P.zip vs) m x=_;unfold bindC;exact uL (i:=i) (aep.mp nd).2 (by simpa using h1) (by simpa using h2) hk
def start (N:List Str)(vs:List V):St:=vs.map some++acG (N.length - vs.length) none
def Le (CX:CXT)(P:acK)(w:adt)(K:abZ)(mg:Str->Option acd)(base:Heap)(N:List Str)(qual:Str)(scope:Scope)(f:Addr)(cd:acd)(A:acY)(outer:List Env)(s:aci)(H:Hp)(E:XK):Cx where
 prog:=P
 w:=w
 K:=K
 mg:=mg
 base:=base
 A:=A.deeper (envOfC qual scope s.heap.objs.size f cd)
 N:=N
 s₀:=s
 H₀:=H
 env:=envOfC qual scope s.heap.objs.size f cd
 outer:=outer
 stack:=envOfC qual scope s.heap.objs.size f cd::outer
 ex:=[]
 calm:=A.handled.isNone
 fn:=fun _=>true
 pn:=[]
 xe:=fun e s'=>acL (acP P w) (A.deeper (envOfC qual scope s.heap.objs.size f cd)) (leaving (envOfC qual scope s.heap.objs.size f cd) e) (fun _ s''=>CX outer H s E e s'') (fun e' s''=>CX outer H s E e' s'') s'
def yF {sc:Scope}{x:Str}(h:sc.names.lookup x=some .cell):∃ c,(adI n sc.names []).lookup x=some c:=by
 have q:=PySem.W.cellsFrom_some sc.names n [] (.inl h);exact Option.isSome_iff_exists.mp q
variable {scope : Scope}{qual : Str}
def GP {ps:List Str}{cd:acd}{outer:List Env}{s s1:aci}{E:XK}{vs:List V}
  (S:lM N ps scope) (e0:Xr P w K mg base A outer s H) (hl:vs.length=ps.length) (r:Vals vs us)
  (x:InCallC s s.heap.objs.size (bindL (envOfC qual scope s.heap.objs.size f cd).kindOf (ps.zip us) fun _=>none) (adI (s.heap.objs.size+1) scope.names []) (bindC (envOfC qual scope s.heap.objs.size f cd).kindOf (ps.zip us) fun _=>none) s1) :
  Inv (Le CX P w K mg base N qual scope f cd A outer s H E) [] (start N vs) H s1:=by
 have hpl:ps.length<=N.length:=by have:=congrArg aeS S.pre;rw [aeb] at this;omega
 obtain ⟨h1,tk,rfl,hk⟩:=x.done;have noA:∀ b:Addr,b∉(Le CX P w K mg base N qual scope f cd A outer s H E).ex:=fun b z=>absurd (show b∈([]:List Addr) from z) (by simp)
 refine ⟨⟨e0.mod,S.kind,rfl,rfl,acj _,fun y z c h1 h2=>?_,fun y hy=>?_,fun y c _ h=>?_,fun z=>Option.isNone_iff_eq_none.mp (show A.handled.isNone=true from z),e0.qt,Around.frames_deeper e0.frames,.inr ⟨rfl,rfl⟩,fun b z=>absurd z (noA b),e0.bs,e0.bsz,fun b _ _=>noA b,fun b z=>absurd z (noA b),e0.funs,e0.frf⟩,
  rfl,e0.bare,Un.kept hk,⟨_,x.toInCall.ns,fun i y v h1 h2 h3=>?_⟩,fun y c h=>⟨_,x.cell y c h⟩,e0.hok.fresh (acj _),fun y c h=>?_,fun p hp=>absurd (show p∈([]:List (Addr×Obj)) from hp) (by simp),e0.hok.kept hk,?_⟩
 ·exact name_of_addr x.apart (adX h1)<|adX h2
 ·have hy:scope.names.lookup y=some .cell\/scope.names.lookup y=some .free:=hy;rcases hy with hy | hy
  ·exact yF hy
  ·exact absurd rfl<|S.nofree _<|adX hy
 ·exact aen<|x.above y c<|adX h
 ·have hi:i<vs.length:=by
   unfold start at h2;by_cases hi:i<vs.length
   ·exact hi
   ·rw [acU (by simpa using hi)] at h2;rw [afZ] at h2;split at h2 <;> cases h2
  have ha:vs[i]?=some v:=by
   unfold start at h2;rw [acX (by simpa using hi),acu] at h2;cases e:vs[i]? with
   | none=>rw [e] at h2;cases h2
   | some a=>rw [e] at h2;cases h2;rfl
  obtain ⟨u,hu,rv⟩:=r.get ha;have hp:ps[i]?=some y:=by
   rw [<-S.pre,List.getElem?_take_of_lt (by omega)];exact h1
  have ndP:ps.Nodup:=by rw [<-S.pre];exact S.nd.sublist (List.take_sublist _ _)
  refine ⟨u,rv,?_⟩;rcases S.par y (acO hp) with k | k
  ·exact .inl ⟨k,uQ ndP hp hu k⟩
  ·obtain ⟨c,e⟩:=yF (n:=s.heap.objs.size+1) k;refine .inr ⟨.inl k,c,e,?_⟩;have q:=x.cell y c e;rw [uL ndP hp hu (by show scope.names.lookup y≠_;rw [k];decide)] at q;exact q
 ·exact e0.hok.fresh<|aen<|x.above y c<|adX h
 ·unfold start;show _=N.length;rw [acH,acf,List.length_replicate];omega
variable {od : Option Addr}
def Y7 {k:Nat}{params:Arguments}{dV kV doc pm cdv ct oc:acd}{an:Option Addr}
  {osl:Array (Option acd)} {N ps:List Str} {sp:Sp} (lk:K.lookup f=some ⟨oc,od,.func (afN name qual params body scope dV kV doc pm an cdv ct),osl⟩) (hcd:agI K cdv qual=true) (S:lM N ps scope)
  (len:∀ vs H Q E,sp vs H Q E->vs.length=ps.length)
  (hbody:∀ (A:acY) (outer:List Env) (s:aci) (H:Hp) (vs:List V) (Q:VK) (E:XK),nF k (A.deeper (envOfC qual scope s.heap.objs.size f cdv))->sp vs H Q E ->
   ∃ t,PSs (Le CX P w K mg base N qual scope f cdv A outer s H E) body t/\t { nx:=fun _ H'=>Q .non H',rt:=Q } (start N vs) H) :
  qC P w K mg base CX (k+1) f (afN name qual params body scope dV kV doc pm an cdv ct) ps sp:=by
 refine ⟨len,fun A outer s H args us vs Q E hr e0 hb r hsp=>?_⟩;have hl:=len _ _ _ _ hsp;have KX:K.In s.heap:=e0.mod.kin.keeps fun b o e=>(e0.bs b o e).1
 have lim:s.heap.NoLimit:=e0.mod.nolimit.keeps fun b o e=>(e0.bs b o e).1
 have hkind:∀ y∈ps.zip us,scope.names.lookup y.1=some .local\/(scope.names.lookup y.1=some .cell/\((adI (s.heap.objs.size+1) scope.names []).lookup y.1).isSome=true):=fun ⟨n,v⟩ hy=>by
  rcases S.par n (List.of_mem_zip hy).1 with q | q
  ·exact .inl q
  ·exact .inr ⟨q,PySem.W.cellsFrom_some _ _ _<|.inl q⟩
 refine codeAny_call_function hr.depth (KX _ _ lk) rfl S.co S.gen rfl (PySem.W.codeRec_of KX hcd)<|hb _ _ _ _ ?_
 refine wpAny_newFunctionEnv_cells S.kind hkind fun env he s1 x=>?_;subst he;refine ⟨lim.keeps x.toInCall.keep,codeAny_func ?_⟩;obtain ⟨t,ht,hq⟩:=hbody A outer s H vs Q E (hr.deeper _) hsp;have I:Inv (Le CX P w K mg base N qual scope f cdv A outer s H E) [] (start N vs) H s1:=GP S e0 hl r x;refine aed (ht [] s1 (start N vs) H _ I hq) (fun fl s' hs=>?_) fun e s' hs=>hs;have fin:∀ {Z':St} {H':Hp} {v:V} {u:acd},Inv (Le CX P w K mg base N qual scope f cdv A outer s H E) [] Z' H' s'->RelV v u->Q v H'->CE outer P w H s Q u s':=
  fun {Z' H' v u} J rv q=>⟨v,H',J.os,J.bare,J.base,J.hok,rv,q⟩
 cases fl with
 | ret u=>
  obtain ⟨v,Z',H',J,rv,q⟩:=hs;exact fin J rv q
 | next=>
  obtain ⟨Z',H',J,q⟩:=hs;exact fin (v:=V.non) (u:=Value.none) J rfl q
 | brk=>
  obtain ⟨_,_,_,q⟩:=hs;exact afD q
 | cont=>
  obtain ⟨_,_,_,q⟩:=hs;exact afD q
section
variable {x:Str}{p:Pos}{t:TA}{id T:String}{r:List V->Hp->VK->Prop}
def tCB (r:List V->Hp->VK->Prop)(t:TA):TE:=fun Z H Q=>t Z H fun vs H1=>r vs H1 Q
def JM (hc:gk X (.builtin id) r)(hg:Gl X x)(hm:X.mg x=none)(hv:afs x=some (.builtin id))(ha:PA X (e::es) t)(hn:x ≠ "__name__":=by decide)(hdb:(x==("__debug__" : Str))=false:=by decide)
  (he:acN (e::es) X.env=(false,eval e X.env)::acN es X.env:=by rfl) (hpl:(afj pos (acN es X.env)).any (·.1)=false:=by rfl):PE X (.Call (.Name x p) (e::es) [] pos) (tCB r t):=by
 intro ahW s Z H Q I h;refine afF<|m6 I hg hm hv ?_ hn hdb
 exact PyProof.Rows.callWith_builtin1 (thn (ha pos ahW s Z H _ I h) fun us s1 ⟨vs,H1,I1,r1,q1⟩=>hc ahW s1 Z H1 vs us Q I1 r1 q1) he hpl
def Fw (hc:gk X (.type T) r)(hg:Gl X x)(hm:X.mg x=none)(hv:afs x=some (.type T))(ha:PA X (e::es) t)(hn:x ≠ "__name__":=by decide)(hdb:(x==("__debug__" : Str))=false:=by decide)
  (he:acN (e::es) X.env=(false,eval e X.env)::acN es X.env:=by rfl) (hpl:(afj pos (acN es X.env)).any (·.1)=false:=by rfl):PE X (.Call (.Name x p) (e::es) [] pos) (tCB r t):=by
 intro ahW s Z H Q I h;refine afF<|m6 I hg hm hv ?_ hn hdb
 exact aek (thn (ha pos ahW s Z H _ I h) fun us s1 ⟨vs,H1,I1,r1,q1⟩=>hc ahW s1 Z H1 vs us Q I1 r1 q1) he hpl
end
end L2
namespace HT
open PySem PyProof.Rows
def lexLt:List Int->List Int->Bool
 | [],[]=>false
 | [],_::_=>true
 | _::_,[]=>false
 | x::xs,y::ys=>if x=y then lexLt xs ys else decide (x<y)
def Ao (x y:Int)(xs ys:List Int):lexLt (x::xs) (y::ys)=if x=y then lexLt xs ys else decide (x<y):=rfl
def tQ:lexLt [] []=false:=rfl
def qI (y:Int)(ys:List Int):lexLt [] (y::ys)=true:=rfl
def qH (x:Int)(xs:List Int):lexLt (x::xs) []=false:=rfl
def J1 (A:acY)(s:aci)(a:Int)(t:Tok)(c:Int)(u:Tok):∃ e,acS A s (.int a t) (.int c u) e/\(e=true↔a=c):=
 ⟨(a==c),SeqAt.EqAt.int_int a t c u,by simp⟩
def Jt (A:acY)(s:aci)(a:Int)(t:Tok)(c:Int)(u:Tok)(prog:acK)(w:adt)(E:acd->aci->Prop)(Q:acd->aci->Prop)(h:Q (.bool (decide (a<c))) s):
  acL (acP prog w) A (richCompare .Lt (.int a t) (.int c u)) Q E s:=
 (PyProof.Rows.lt_int h:acL (acP prog w) A (adW .Lt (.int a t) (.int c u)) Q E s)
section
open PySem.SeqAt
open PySem.AutoSeq1 (wpAny_loadPart')
open PySem.MeetsSeq PySem.MeetsSeq2 PySem.MeetsSeq3
def sU (l b:Addr)(items items2:Array acd)(n n2:Nat)(dd dd2:Option Addr)(sl sl2:Array (Option acd))(ns ms:List Int)(hi:agz items.toList ns)(hj:agz items2.toList ms):
  Meets (acV.«tuple.__lt__» ⟨[.ref l,.ref b],[]⟩)
   (fun _ R s=>s.heap.get? l=some { cls:=.type "tuple",dict:=dd,data:=.seq items n,slots:=sl }/\s.heap.get? b=some { cls:=.type "tuple",dict:=dd2,data:=.seq items2 n2,slots:=sl2 } /\
    R (.ok (.ret (.bool (lexLt ns ms)))) s):=
 .of_wp fun prog w A R s h=>by
  obtain ⟨hp,g,d,tk,os⟩:=s;obtain ⟨hl,hb,h⟩:=h;have f2:=AutoSeq1.sub_tuple_tuple;have z1:items.size=ns.length:=by rw [<-hi.length];simp
  have z2:items2.size=ms.length:=by rw [<-hj.length];simp
  wp_walk using wpAny_loadPart' hl,wpAny_loadPart' hb,wpAny_forIn_list _ (fun rest b s'=>b.1=none/\s'=⟨hp,g,d,tk,os⟩/\∃ (vs ws:List acd) (ns' ms':List Int),rest=vs.zip ws /\
   agz vs ns'/\agz ws ms'/\ns'.length+items2.size=ms'.length+items.size/\R (.ok (.ret (.bool (lexLt ns' ms')))) ⟨hp,g,d,tk,os⟩) _
  case turn=>
   rintro ⟨y,x⟩ rest b s' ⟨hb',rfl,vs,ws,ns',ms',hz,hvi,hwi,ahX,hR⟩;cases hvi with
   | nil=>rw [List.zip_nil_left] at hz;cases hz
   | cons a t hvi'=>
    cases hwi with
    | nil=>rw [List.zip_nil_right] at hz;cases hz
    | cons c u hwi'=>
     rw [aeh] at hz;injection hz with hyx hrest
     injection hyx with hy hx
     subst hy hx;rw [Ao] at hR;simp only [acE] at ahX;obtain ⟨e,he,hiff⟩:=J1 A.in1 ⟨hp,g,d,tk,os⟩ a t c u;refine abY<|he prog w _ _ ?_
     cases e with
     | true=>
      rw [if_pos (hiff.mp rfl)] at hR
      wp_walk
      exact ⟨rfl,rfl,_,_,_,_,hrest,hvi',hwi',by omega,hR⟩
     | false=>
      rw [if_neg (fun q=>absurd (hiff.mpr q) acZ)] at hR;have hri:=Jt A.in1 ⟨hp,g,d,tk,os⟩ a t c u prog w
      wp_walk using hri
      exact ⟨_,rfl,by simpa using hR⟩
  case fin=>
   rintro ⟨b1,b2⟩ s' ⟨hb',rfl,vs,ws,ns',ms',hz,hvi,hwi,ahX,hR⟩;simp only at hb';subst hb';have hv:lexLt ns' ms'=decide (items.size<items2.size):=by
    cases hvi with
    | nil=>
     cases hwi with
     | nil=>
      simp only [agG] at ahX;rw [tQ];exact (decide_eq_false<|by omega).symm
     | cons c u hw=>
      simp only [agG,acE] at ahX;rw [qI];exact (decide_eq_true<|by omega).symm
    | cons a t hv=>
     cases hwi with
     | nil=>
      simp only [agG,acE] at ahX;rw [qH];exact (decide_eq_false<|by omega).symm
     | cons c u hw=>
      rw [aeh] at hz;cases hz
   rw [hv] at hR
   wp_walk
   exact ⟨_,rfl,by simpa [Builtin.Tuple.tupleCompareSizes] using hR⟩
  case h=>
   exact ⟨rfl,rfl,items.toList,items2.toList,ns,ms,rfl,hi,hj,by omega,h⟩
end
section
variable {prog:acK}{w:adt}{A:acY}{E:acd->aci->Prop}{s:aci}
def qX {l b:Addr}{items items2:Array acd}{ns ms:List Int}{Q:acd->aci->Prop}(hl:IsTup s.heap l items)(hb:IsTup s.heap b items2)(hi:agz items.toList ns)(hj:agz items2.toList ms)
  (hu:A.units<afi) (h:Q (.bool (lexLt ns ms)) s):acL (acP prog w) A (adW .Lt (.ref l) (.ref b)) Q E s:=by
 obtain ⟨⟨cls,dd,data,sl⟩,ho,hc,n,hd⟩:=id hl;obtain ⟨⟨cls2,dd2,data2,sl2⟩,ho2,hc2,n2,hd2⟩:=id hb;simp only at hc hd hc2 hd2;subst hc hd hc2 hd2;exact richCompare_meets_room (op:=.Lt) ⟨_,ho,rfl⟩ ⟨_,ho2,rfl⟩ PySem.F.slot_tuple_lt PySem.F.entry_tuple_lt (PySem.F.args_tuple_lt_2 _ _) (sU l b items items2 n n2 dd dd2 sl sl2 ns ms hi hj)
  ⟨ho,ho2,show Value.bool (lexLt ns ms)≠Value.notImplemented/\Q (.bool (lexLt ns ms)) s from ⟨(fun x=>nomatch x),h⟩⟩ hu
def RM {t b:Addr}{vs ws:List acd}{Q:acd->aci->Prop}(ht:IsTup s.heap t vs.toArray)(hb:IsTup s.heap b ws.toArray)(hv:vs≠[])
  (h1:ws=[]->Q (.ref t) s) (h2:ws≠[]->Q (.ref s.heap.objs.size) { s with heap:=s.heap.push { cls:=.type "tuple",data:=.seq (vs++ws).toArray } })
  (hsz:vs.length+ws.length<=acM):acL (acP prog w) A (aeN .Add (.ref t) (.ref b)) Q E s:=by
 obtain ⟨⟨cls,dd,data,sl⟩,ho,hc,n,hd⟩:=id ht;obtain ⟨⟨cls2,dd2,data2,sl2⟩,ho2,hc2,n2,hd2⟩:=id hb;simp only at hc hd hc2 hd2;subst hc hd hc2 hd2;have e:vs.toArray++ws.toArray=(vs++ws).toArray:=by simp
 by_cases hw:ws=[]
 ·exact concat_meets ⟨_,ho,rfl⟩ ⟨_,ho2,rfl⟩ noFill_tuple_add seq_tuple_add PySem.F.slot_tuple_add PySem.F.entry_tuple_add (PySem.F.args_tuple_add_2 _ _)
   (tuple_addW1 t b vs.toArray ws.toArray n n2 dd dd2 sl sl2 (by simpa using hv) (by simp [hw])) ⟨ho,ho2,h1 hw⟩
 ·refine concat_meets ⟨_,ho,rfl⟩ ⟨_,ho2,rfl⟩ noFill_tuple_add seq_tuple_add PySem.F.slot_tuple_add PySem.F.entry_tuple_add (PySem.F.args_tuple_add_2 _ _)
   (tuple_addW2 t b vs.toArray ws.toArray n n2 dd dd2 sl sl2 (by simpa using hv) (by simpa using hw) (by rw [acC,acC];exact hsz)) ⟨ho,ho2,?_⟩
  rw [e];exact h2 hw
def sIx (n d:Nat):Option Int->Nat
 | none=>d
 | some v=>if v<0 then (v+(n:Int)).toNat else min v.toNat n
def K4 (n d:Nat):sIx n d none=d:=rfl
def Qx (n d k:Nat):sIx n d (some (k:Int))=min k n:=by
 show (if (k:Int)<0 then ((k:Int)+(n:Int)).toNat else min (k:Int).toNat n)=min k n;rw [if_neg (by omega),afI]
def Xl (n d:Nat)(hd:d<=n)(o:Option Int):sIx n d o<=n:=by
 cases o with
 | none=>exact hd
 | some v=>
  show (if v<0 then (v+(n:Int)).toNat else min v.toNat n)<=n;by_cases hv:v<0
  ·rw [if_pos hv];omega
  ·rw [if_neg hv];exact Nat.min_le_right _ _
def Il (v:Int)(n d:Nat):(if v<0 then max (v+(n:Int)) 0 else min v (n:Int))=((sIx n d (some v):Nat):Int):=by
 show (if v<0 then max (v+(n:Int)) 0 else min v (n:Int))=(((if v<0 then (v+(n:Int)).toNat else min v.toNat n):Nat):Int);by_cases hv:v<0
 ·simp only [if_pos hv];omega
 ·simp only [if_neg hv];omega
def Ci (lo hi:Option Int)(n:Nat):Builtin.Slice.sliceAdjust lo hi 1 (n:Int)=(((sIx n 0 lo:Nat):Int),((sIx n n hi:Nat):Int)):=by
 have h1:¬ ((1:Int)<0):=by omega
 unfold Builtin.Slice.sliceAdjust;simp only [h1,if_false];refine Prod.ext ?_ ?_
 ·cases lo with
  | none=>rfl
  | some v=>exact Il v n 0
 ·cases hi with
  | none=>rfl
  | some v=>exact Il v n n
def Av (i j:Nat):afw (i:Int) (j:Int) 1=j - i:=by
 unfold afw;have h1:(1:Int)>0:=by omega
 simp only [h1,if_true,Int.ediv_one];split <;> omega
def rB {v:acd}{o:Option Int}{Q:Option Int->aci->Prop}(p:IsPart v o)(h:Q o s):acL (acP prog w) A (Builtin.Slice.slicePartIndex v) Q E s:=by
 cases p with
 | none=>exact slicePart_none h
 | int i t=>exact slicePart_int h
def iy {sl:Addr}{vl vu:acd}{lo hi:Option Int}{n:Nat}{Q:Int×Int×Nat->aci->Prop}(hs:s.heap.IsSliceOf sl vl vu .none)(pl:IsPart vl lo)(pu:IsPart vu hi)
  (h:Q (((sIx n 0 lo:Nat):Int),1,sIx n n hi - sIx n 0 lo) s):acL (acP prog w) A (Builtin.Slice.sliceApplied (.ref sl) (pure (n:Int))) Q E s:=by
 obtain ⟨os,hos,hcs,hds⟩:=id hs;unfold Builtin.Slice.sliceApplied Builtin.Slice.sliceFields;refine abY<|abY<|aeg hos hds (x:=vl) rfl<|abY<|aeg hos hds (x:=vu) rfl<|abY<|aeg hos hds (x:=.none) rfl<|ach ?_
 refine abY<|slicePart_none ?_
 show acL _ _ (if ((1:Int)==0)=true then _ else _) _ _ s;rw [if_neg (by decide)];refine abY<|rB pl<|abY<|rB pu<|abY<|ach ?_
 show acL _ _ (match Builtin.Slice.sliceAdjust lo hi 1 (n:Int) with | (lo,hi)=>pure (lo,(1:Int),afw lo hi 1)) _ _ s;rw [Ci lo hi n];show acL _ _ (pure (((sIx n 0 lo:Nat):Int),(1:Int),afw ((sIx n 0 lo:Nat):Int) ((sIx n n hi:Nat):Int) 1)) _ _ s;rw [Av];exact ach h
def Lr (xs:Array acd)(i k:Nat):((aeZ k).filterMap fun (m:Nat)=>xs[((i:Int)+(m:Int)*1).toNat]?).toArray=((xs.toList.drop i).take k).toArray:=by
 have e:(fun (m:Nat)=>xs[((i:Int)+(m:Int)*1).toNat]?)=fun m=>xs[i+m]?:=by
  funext m;have:((i:Int)+(m:Int)*1).toNat=i+m:=by omega
  rw [this]
 rw [e];have:=pick_run xs i k
 rw [List.filterMap_map] at this;have e2:((fun x=>xs[x]?) ∘ fun x=>i+x)=fun m=>xs[i+m]?:=rfl
 rw [e2] at this;rw [this]
def lX {t sl:Addr}{items:Array acd}{vl vu:acd}{lo hi:Option Int}{Q:acd->aci->Prop}(ht:IsTup s.heap t items)(hs:s.heap.IsSliceOf sl vl vu .none)(pl:IsPart vl lo)(pu:IsPart vu hi)
  (hw:¬ (sIx items.size 0 lo=0/\sIx items.size items.size hi=items.size))
  (h:Q (.ref s.heap.objs.size) { s with heap:=s.heap.push { cls:=.type "tuple",data:=.seq ((items.toList.drop (sIx items.size 0 lo)).take (sIx items.size items.size hi - sIx items.size 0 lo)).toArray } })
  (hsz:items.size<=acM):acL (acP prog w) A (getItem (.ref t) (.ref sl)) Q E s:=by
 have htake:sizeOk (.seq ((items.toList.drop (sIx items.size 0 lo)).take (sIx items.size items.size hi - sIx items.size 0 lo)).toArray):=by
  show ((items.toList.drop (sIx items.size 0 lo)).take (sIx items.size items.size hi - sIx items.size 0 lo)).toArray.size<=acM;rw [acC,aeb,List.length_drop,aew];omega
 have hj:sIx items.size items.size hi<=items.size:=Xl _ _ (acj _) hi;obtain ⟨os,hos,hcs,hds⟩:=id hs;have hTs:s.TypeIs (.ref sl) "slice":=⟨os,hos,hcs⟩
 unfold getItem;try with_reducible refine adB ?_
 first | refine abY (ach ?_) | skip
 refine abY<|wpAny_sequenceKey ht.typeIs (by decide) ?_
 refine abY (adO (name:=afz "__getitem__") ht.typeIs adV
  (adS adV ht.typeIs entry_tuple_getitem ?_ (args_tuple_getitem _ _)))
 show acL _ _ (Builtin.Tuple.tupleItemsOf (.ref t) >>= _) _ _ s;refine abY<|tupleItemsOf_ ht ?_
 refine abY<|aeI hTs ?_
 rw [if_pos (by decide)];refine abY<|iy hs pl pu ?_
 have hno:¬ ((((sIx items.size 0 lo:Nat):Int)==0&&(1:Int)==1&&(sIx items.size items.size hi - sIx items.size 0 lo)==items.size)=true):=by
  intro q;rw [adC,adC] at q;have q1:((sIx items.size 0 lo:Nat):Int)=0:=eq_of_beq q.1.1;have q2:sIx items.size items.size hi - sIx items.size 0 lo=items.size:=eq_of_beq q.2;exact hw ⟨by omega,by omega⟩
 show acL _ _ (if (((sIx items.size 0 lo:Nat):Int)==0&&(1:Int)==1&&(sIx items.size items.size hi - sIx items.size 0 lo)==items.size)=true then _ else _) _ _ s;rw [if_neg hno,Lr];first
  | exact abY (m:=adN _) (adq (ach ⟨_,rfl,ach h⟩) htake)
  | exact abY (m:=adN _) (adq (abY (ach (ach ⟨_,rfl,ach h⟩))) htake)
  | exact abY (abY (m:=adN _) (adq (ach (ach ⟨_,rfl,ach h⟩)) htake))
  | exact abY (abY (m:=adN _) (adq (ach ⟨_,rfl,ach h⟩) htake))
end
end HT
variable {ns : List Int}
namespace L2
open PySem PySem.Spec PyProof.Rows
abbrev TO:=St->Hp->(Option Int->Hp->Prop)->Prop
def PO (X:Cx)(e:Option Expr)(t:TO):Prop:=
 ∀ (ahW:List (Addr×Obj)) (s:aci) (Z : St) (H:Hp) (Q:Option Int->Hp->Prop),Inv X ahW Z H s->t Z H Q ->
  acL (acP X.prog X.w) X.A (evalPart e X.env) (fun u s'=>∃ o H',Inv X ahW Z H' s'/\IsPart u o/\Q o H') X.xe s
def Px:TO:=fun _ H Q=>Q none H
def aal (t:TE):TO:=fun Z H Q=>t Z H fun x H1=>∃ i,x=.int i/\Q (some i) H1
def intsAre_of:∀ {us:List acd},Vals (ns.map V.int) us->agz us ns:=by
 induction ns with
 | nil=>intro us r;rw [adA] at r;cases r;exact .nil
 | cons n ns ih=>
  intro us r;rw [acg] at r;cases r with
  | cons r1 r2=>
   obtain ⟨t,e⟩:=r1;subst e;exact .cons n t<|ih r2
section
variable {X:Cx}{e:Expr}{te:TE}{lo hi:Option Expr}{tl th:TO}{pos p2:Pos}
def Qi:PO X none Px:=by
 intro ahW s Z H Q I h;rw [evalPart_none];exact ach ⟨none,H,I,.none,h⟩
def O9 (h:PE X e te):PO X (some e) (aal te):=by
 intro ahW s Z H Q I hw;rw [evalPart_some];refine thn (h ahW s Z H _ I hw) fun u s1 ⟨x,H1,I1,r1,q1⟩=>?_;obtain ⟨i,rfl,q⟩:=q1;obtain ⟨t,rfl⟩:=r1;exact ⟨some i,H1,I1,.int i t,q⟩
def SlR (X:Cx)(r:V->Option Int->Option Int->Hp->VK->Prop):Prop:=
 ∀ (ahW:List (Addr×Obj)) (s:aci) (Z : St) (H:Hp) (x:V) (v vl vu:acd) (lo hi:Option Int) (sl:Addr) (Q:VK),Inv X ahW Z H s->RelV x v->s.heap.IsSliceOf sl vl vu .none->IsPart vl lo->IsPart vu hi->r x lo hi H Q ->
  ∃ T id,typeLookup (.type T) "__getitem__" = pure (some (.builtin id))/\s.TypeIs v T/\acL (acP X.prog X.w) X.A (getItem v (.ref sl)) (EP X ahW Z Q) X.xe s
def SlR.or {r r':V->Option Int->Option Int->Hp->VK->Prop}(h:SlR X r)(h':SlR X r'):SlR X (fun x lo hi H Q=>r x lo hi H Q\/r' x lo hi H Q):=by
 intro ahW s Z H x v vl vu lo hi sl Q I rx hs pl pu q;rcases q with q | q
 ·exact h ahW s Z H x v vl vu lo hi sl Q I rx hs pl pu q
 ·exact h' ahW s Z H x v vl vu lo hi sl Q I rx hs pl pu q
def tSl (r:V->Option Int->Option Int->Hp->VK->Prop)(te:TE)(tl th:TO):TE:=fun Z H Q=>te Z H fun x H1=>tl Z H1 fun l H2=>th Z H2 fun u H3=>r x l u H3 Q
def Kf {r:V->Option Int->Option Int->Hp->VK->Prop}(hr:SlR X r)(he:PE X e te)(hl:PO X lo tl)(hu:PO X hi th):PE X (.Subscript e (.Slice lo hi none p2) pos) (tSl r te tl th):=by
 intro ahW s Z H Q I h;refine Subscript_<|thn (he ahW s Z H _ I h) fun v s1 ⟨x,H1,I1,r1,q1⟩=>?_
 refine wpAny_Slice<|thn (hl ahW s1 Z H1 _ I1 q1) fun vl s2 ⟨l,H2,I2,pl,q2⟩=>thn (hu ahW s2 Z H2 _ I2 q2) fun vu s3 ⟨u,H3,I3,pu,q3⟩=>?_
 rw [evalPart_none];refine ach ?_;have I4:Inv X ahW Z H3 { s3 with heap:=s3.heap.push { cls:=.type "slice",data:=.fields #[vl,vu,.none] } }:=I3.kept (t':=s3.toks) fun b ob q=>ace _ q
 obtain ⟨T,id,hT,ht,hg⟩:=hr ahW { s3 with heap:=s3.heap.push { cls:=.type "slice",data:=.fields #[vl,vu,.none] } } Z H3 x v vl vu l u s3.heap.objs.size Q I4 r1 (Heap.IsSliceOf.new ..) pl pu q3;show acL (acP X.prog X.w) X.A (subscriptTail e (.Slice lo hi none p2) v (.ref s3.heap.objs.size)) (EP X ahW Z Q) X.xe { s3 with heap:=s3.heap.push { cls:=.type "slice",data:=.fields #[vl,vu,.none] } };exact tail_any (ops:=[.ref s3.heap.objs.size,v]) ht hT hg<|by with_unfolding_all rfl
def Lx (xs:List V)(lo hi:Option Int):List V:=(xs.drop (HT.sIx xs.length 0 lo)).take (HT.sIx xs.length xs.length hi - HT.sIx xs.length 0 lo)
def oW (xs:List V)(lo hi:Option Int):(Lx xs lo hi).length<=xs.length:=by
 unfold Lx;rw [aeb,List.length_drop];omega
def abg (K:abZ):V->Option Int->Option Int->Hp->VK->Prop:=fun x lo hi H Q=>∃ a xs,x=.ref a/\SqT K H a xs /\
 ¬ (HT.sIx xs.length 0 lo=0/\HT.sIx xs.length xs.length hi=xs.length)/\∀ p,H p=none->Q (.ref p) (upd H p (.tup (Lx xs lo hi)))
def T3:SlR X (abg X.K):=by
 intro ahW s Z H x v vl vu lo hi sl Q I rx hs pl pu h;obtain ⟨a,xs,rfl,hx,hw,q⟩:=h;cases rx;obtain ⟨its,r,ht,hz⟩:=I.tuple hx;have ahX:its.toArray.size=xs.length:=by rw [acC];exact r.length.symm
 refine ⟨"tuple",_,adV.lookup,ht.typeIs,?_⟩;refine HT.lX ht hs pl pu (by rw [ahX];exact hw) ?_ (by rw [ahX];exact hz);rw [ahX];refine ⟨.ref s.heap.objs.size,_,I.laid (t':=s.toks) (o:=.tup (Lx xs lo hi)) (fun b ob q=>ace _ q) (acj _) ?_,rfl,q _<|I.hok.fresh<|acj _⟩;exact ⟨acq (oW xs lo hi) hz,_,(r.drop<|HT.sIx xs.length 0 lo).take (HT.sIx xs.length xs.length hi - HT.sIx xs.length 0 lo),G4.new _ _⟩
def abv (K:abZ):R2:=fun x y H Q=>∃ a b ns ms,x=.ref a/\y=.ref b/\SqT K H a (ns.map V.int)/\SqT K H b (ms.map V.int)/\Q (.bl (HT.lexLt ns ms)) H
def Wx (hu:X.A.units<afi):OpR X (adW .Lt) (abv X.K):=by
 intro ahW s Z H x y v u Q I rx ry h;obtain ⟨a,b,ns,ms,rfl,rfl,ha,hb,q⟩:=h;cases rx;cases ry;obtain ⟨its,r1,p1,_⟩:=I.tuple ha;obtain ⟨its2,r2,p2,_⟩:=I.tuple hb;have i1:agz its.toArray.toList ns:=intsAre_of r1;have i2:agz its2.toArray.toList ms:=intsAre_of r2;exact HT.qX p1 p2 i1 i2 hu ⟨.bl<|HT.lexLt ns ms,H,I,rfl,q⟩
def ZJ (K:abZ):R2:=fun x y H Q=>∃ a b xs ys,x=.ref a/\y=.ref b/\SqT K H a xs/\SqT K H b ys/\xs≠[]/\xs.length+ys.length<=acM /\
 (ys=[]->Q (.ref a) H)/\(ys≠[]->∀ p,H p=none->Q (.ref p) (upd H p (.tup (xs++ys))))
def Vals.nil_iff {xs:List V}{us:List acd}(r:Vals xs us):us=[]↔xs=[]:=by
 cases r with
 | nil=>simp
 | cons _ _=>simp
def Ra:OpR X (aeN .Add) (ZJ X.K):=by
 intro ahW s Z H x y v u Q I rx ry h;obtain ⟨a,b,xs,ys,rfl,rfl,ha,hb,hx,hz,q1,q2⟩:=h;cases rx;cases ry;obtain ⟨its,r1,p1,_⟩:=I.tuple ha;obtain ⟨its2,r2,p2,_⟩:=I.tuple hb;refine HT.RM p1 p2 (fun z=>hx<|r1.nil_iff.mp z) (fun z=>⟨.ref a,H,I,rfl,q1<|r2.nil_iff.mp z⟩) (fun z=>?_) (by rw [<-r1.length,<-r2.length];exact hz);refine ⟨.ref s.heap.objs.size,_,I.laid (t':=s.toks) (o:=.tup (xs++ys)) (fun b ob q=>ace _ q) (acj _) ?_,rfl,q2 (fun w=>z<|r2.nil_iff.mpr w) _<|I.hok.fresh<|acj _⟩;exact ⟨by rw [acH];exact hz,_,r1.append r2,G4.new _ _⟩
end
def ixN (n:Nat)(i:Int):Option Nat:=if 0<=i then (if i<n then some i.toNat else none) else if -(n:Int)<=i then some (i+n).toNat else none
def atI {α : Type}(xs:List α)(i:Int):Option α:=(ixN xs.length i).bind fun j=>xs[j]?
def Hi {n:Nat}{i:Int}{j:Nat}(h:ixN n i=some j):seqIndex? i n=some j/\j<n/\-(n:Int)<=i/\i<n:=by
 unfold ixN at h;by_cases h0:0<=i
 ·rw [if_pos h0] at h;by_cases h1:i<n
  ·rw [if_pos h1] at h;have e:i.toNat=j:=acv h;exact ⟨by rw [seqIndex_of h0 h1,e],by omega,by omega,h1⟩
  ·rw [if_neg h1] at h;cases h
 ·rw [if_neg h0] at h;by_cases h1:-(n:Int)<=i
  ·rw [if_pos h1] at h;have e:(i+n).toNat=j:=acv h;exact ⟨by rw [seqIndex_neg (by omega) h1,e],by omega,h1,by omega⟩
  ·rw [if_neg h1] at h;cases h
def xZ {α : Type}{xs:List α}{i:Int}{v:α}(h:atI xs i=some v):∃ j,seqIndex? i xs.length=some j/\xs[j]?=some v/\j<xs.length/\-(xs.length:Int)<=i/\i<xs.length:=by
 unfold atI at h;cases e:ixN xs.length i with
 | none=>rw [e] at h;cases h
 | some j=>
  rw [e] at h;obtain ⟨h1,h2,h3,h4⟩:=Hi e;exact ⟨j,h1,h,h2,h3,h4⟩
def cG {α : Type}{xs:List α}{j:Nat}{v:α}(h:xs[j]?=some v):atI xs (j:Int)=some v:=by
 have hj:j<xs.length:=(acD.mp h).1;have e:ixN xs.length (j:Int)=some j:=by
  unfold ixN;rw [if_pos (by omega),if_pos (by omega)];simp
 unfold atI;rw [e];exact h
def xT (b:Expr):Prop:=∀ o i,subscripted b false o i=operate [o,i] (getItem o i)
def IxR (X:Cx)(r:R2):Prop:=
 ∀ (value slice:Expr) (ahW:List (Addr×Obj)) (s:aci) (Z : St) (H:Hp) (x y:V) (v u:acd) (Q:VK),Inv X ahW Z H s->RelV x v->RelV y u->r x y H Q ->
  subscripted slice false v u=operate [v,u] (getItem v u)->acL (acP X.prog X.w) X.A (subscriptTail value slice v u) (EP X ahW Z Q) X.xe s
def MtR (X:Cx)(id:String)(r:V->List V->Hp->VK->Prop):Prop:=
 ∀ (ahW:List (Addr×Obj)) (s:aci) (Z : St) (H:Hp) (x:V) (xs:List V) (v:acd) (us:List acd) (Q:VK),Inv X ahW Z H s->RelV x v->Vals xs us->r x xs H Q ->
  acL (acP X.prog X.w) X.A (call (.builtin id) (v::us)) (EP X ahW Z Q) X.xe s
section
variable {X:Cx}{a b:Expr}{ta tb:TE}{pos:Pos}
def IxR.or {r r':R2}(h:IxR X r)(h':IxR X r'):IxR X (fun x y H Q=>r x y H Q\/r' x y H Q):=by
 intro value slice ahW s Z H x y v u Q I rx ry q hs;rcases q with q | q
 ·exact h value slice ahW s Z H x y v u Q I rx ry q hs
 ·exact h' value slice ahW s Z H x y v u Q I rx ry q hs
def Zf {r:R2}(hr:IxR X r)(ha:PE X a ta)(hb:PE X b tb)(hs:xT b):PE X (.Subscript a b pos) (tOp r ta tb):=by
 intro ahW s Z H Q I h;exact Subscript_<|Zm ha hb I h fun v u s2 x y H2 I2 rx ry q=>hr a b ahW s2 Z H2 x y v u Q I2 rx ry q<|hs _ _
def aaM (K:abZ):R2:=fun x y H Q=>∃ p xs i v,x=.ref p/\y=.int i/\SqL K H p xs/\atI xs i=some v/\Q v H
def aaT (K:abZ):R2:=fun x y H Q=>∃ p xs i v,x=.ref p/\y=.int i/\SqT K H p xs/\atI xs i=some v/\Q v H
def aav:R2:=fun x y H Q=>∃ z i c,x=.str z/\y=.int i/\z.length<=acM/\atI z.cps.toList i=some c/\Q (.str ⟨#[c]⟩) H
def PL:IxR X (aaM X.K):=by
 intro value slice ahW s Z H x y v u Q I rx ry h hs;obtain ⟨p,xs,i,z,rfl,rfl,hq,he,q⟩:=h;cases rx;obtain ⟨t,rfl⟩:=ry;obtain ⟨its,r,pl,hz⟩:=I.list hq;obtain ⟨j,h1,h2,h3,h4,h5⟩:=xZ he;obtain ⟨w,ew,rw'⟩:=r.get h2;have hl:=r.length;have hn:=qP;have fin:EP X ahW Z Q w s:=⟨z,H,I,rw',q⟩
 by_cases h0:0<=i
 ·have hj:i.toNat=j:=by
   rw [seqIndex_of h0 h5] at h1;exact acv h1
  exact item_listR pl.isList h0 (by omega) (by rw [hj];simpa using ew) fin hs
 ·have hj:(i+(its.toArray.size:Int)).toNat=j:=by
   rw [seqIndex_neg (by omega) h4] at h1;rw [acC,<-hl];exact acv h1
  exact subscriptTail_builtinR (x:=w) pl.isList.typeIs slot_list_getitem.lookup
   (wpAny_getItem_list_neg (Q:=fun r s'=>r=w/\EP X ahW Z Q r s') pl.isList (by omega) (by rw [acC] <;> omega) (by omega) (by rw [hj];simpa using ew) ⟨rfl,fin⟩) hs
def Ur:IxR X (aaT X.K):=by
 intro value slice ahW s Z H x y v u Q I rx ry h hs;obtain ⟨p,xs,i,z,rfl,rfl,hq,he,q⟩:=h;cases rx;obtain ⟨t,rfl⟩:=ry;obtain ⟨its,r,pl,hz⟩:=I.tuple hq;obtain ⟨j,h1,h2,h3,h4,h5⟩:=xZ he;obtain ⟨w,ew,rw'⟩:=r.get h2;have hl:=r.length;have hn:=qP;have fin:EP X ahW Z Q w s:=⟨z,H,I,rw',q⟩
 exact subscriptTail_builtinR (x:=w) pl.typeIs slot_tuple_getitem.lookup
  (getItem_tuple (j:=j) (Q:=fun r s'=>r=w/\EP X ahW Z Q r s') pl (by omega) (by omega) (by rw [acC,<-hl];exact h1) (by simpa using ew) ⟨rfl,fin⟩) hs
def Vr:IxR X aav:=by
 intro value slice ahW s Z H x y v u Q I rx ry h hs;obtain ⟨z,i,c,rfl,rfl,hz,he,q⟩:=h;obtain ⟨t,rfl⟩:=rx;obtain ⟨t',rfl⟩:=ry;obtain ⟨j,h1,h2,h3,h4,h5⟩:=xZ he;have hl:z.cps.toList.length=z.length:=by simp [Str.length]
 rw [hl] at h1 h4 h5;have hn:=qP;exact tail_any (typeIs_str s z t) slot_str_getitem.lookup (getItem_str (c:=c) (by
  have e1:decide (i < -(2^63:Int))=false:=decide_eq_false (by omega);have e2:decide (i>=2^63)=false:=decide_eq_false (by omega);rw [e1,e2,Bool.or_false]) (by rw [h1];simpa using h2) ⟨.str ⟨#[c]⟩,H,I.tok _,⟨_,rfl⟩,q⟩) hs
def rIx (K:abZ):R2:=fun x y H Q=>aaM K x y H Q\/aaT K x y H Q\/aav x y H Q
def T5:IxR X (rIx X.K):=PL.or (Ur.or Vr)
def CJ (its:List acd)(n j:Nat)(u:acd):afc (·.setIfInBounds j u) { cls:=.type "list",data:=.seq its.toArray n } = { cls:=.type "list",data:=.seq (its.set j u).toArray n }:=by
 simp [afc]
def Inv.lst {ahW:List (Addr×Obj)}{Z : St}{H:Hp}{s:aci}{p:Addr}{xs:List V}(I:Inv X ahW Z H s)(h:H p=some (.lst xs)) :
  ∃ (its:List acd) (n:Nat),Vals xs its/\s.heap.get? p=some { cls:=.type "list",data:=.seq its.toArray n }/\xs.length<=acM:=by
 obtain ⟨z,its,n,r,e⟩:=I.hok p _ h;exact ⟨its,n,r,e,z⟩
def Inv.lstUpd {ahW:List (Addr×Obj)}{Z : St}{H:Hp}{s:aci}{p:Addr}{xs ys:List V}{its its':List acd}{n n':Nat}{f:Obj->Obj}(I:Inv X ahW Z H s)(h:H p=some (.lst xs))
  (ho:s.heap.get? p=some { cls:=.type "list",data:=.seq its.toArray n }) (hf:f { cls:=.type "list",data:=.seq its.toArray n } = { cls:=.type "list",data:=.seq its'.toArray n' }) (r:Vals ys its') (hz:ys.length<=acM) (t:Nat) :
  Inv X ahW Z (upd H p (.lst ys)) { s with heap:=s.heap.update p f,toks:=t }:=by
 have e:(s.heap.update p f).get? p=some { cls:=.type "list",data:=.seq its'.toArray n' }:=by
  rw [afd f ho (by rw [hf] <;> rfl),hf]
 refine I.write (x:=p) (e:=p) (by rw [h];trivial) (.inl rfl) (fun b u hb q=>(adG _ _<|aes hb).trans q) ⟨_,e⟩ ?_;exact ⟨hz,its',n',r,e⟩
def Xi:V->V->V->Hp->(Hp->Prop)->Prop:=fun o i v H Q=>∃ p xs k j,o=.ref p/\i=.int k/\H p=some (.lst xs)/\ixN xs.length k=some j/\Q (upd H p (.lst (xs.set j v)))
def set_list:W5 X Xi:=by
 intro ahW s Z H o i v ov iv u Q I ro ri rv h;obtain ⟨p,xs,k,j,rfl,rfl,hp,hj,q⟩:=h;cases ro;obtain ⟨t,rfl⟩:=ri;obtain ⟨its,n,r,ho,hz⟩:=I.lst hp;obtain ⟨h1,h2,h3,h4⟩:=Hi hj;have hl:=r.length;have hn:=qP;have I':Inv X ahW Z (upd H p (.lst (xs.set j v))) { s with heap:=s.heap.update p (afc (·.setIfInBounds j u)) }:=
  I.lstUpd hp ho (CJ its n j u) (r.set rv j) (by rw [List.length_set];exact hz) s.toks
 by_cases h0:0<=k
 ·have hk:k.toNat=j:=by
   rw [seqIndex_of h0 h4] at h1;exact acv h1
  exact PySem.W.ki_setAt ho h0 (by omega) (by rw [acC,<-hl];exact h4) (by rw [hk];exact ⟨_,I',q⟩)
 ·have hk:(k+(its.toArray.size:Int)).toNat=j:=by
   rw [seqIndex_neg (by omega) h3] at h1;rw [acC,<-hl];exact acv h1
  exact PySem.W.ki_setBack ho (by omega) (by rw [acC,<-hl];exact h3) (by omega) (by rw [hk];exact ⟨_,I',q⟩)
def vh (lo hi:Option Int)(n:Nat):(agN lo hi none n).1=((HT.sIx n 0 lo:Nat):Int)/\(agN lo hi none n).2.1=((HT.sIx n n hi:Nat):Int)/\(agN lo hi none n).2.2=1:=by
 refine ⟨?_,?_,rfl⟩
 ·cases lo with
  | none=>simp [agN,HT.sIx]
  | some i=>
   simp only [agN,HT.sIx,Option.getD_none,show (1:Int)>0 by decide,if_true];by_cases h:i<0
   ·simp only [h,if_true] <;> omega
   ·simp only [h,if_false] <;> omega
 ·cases hi with
  | none=>simp [agN,HT.sIx]
  | some i=>
   simp only [agN,HT.sIx,Option.getD_none,show (1:Int)>0 by decide,if_true];by_cases h:i<0
   ·simp only [h,if_true] <;> omega
   ·simp only [h,if_false] <;> omega
def sV (its:List acd)(lo hi:Option Int):slicePick its.toArray lo hi none=((its.drop (HT.sIx its.length 0 lo)).take (HT.sIx its.length its.length hi - HT.sIx its.length 0 lo)).toArray:=by
 obtain ⟨h1,h2,h3⟩:=vh lo hi its.toArray.size;unfold slicePick;rw [h1,h2,h3];simp only [sliceRange_one,pick_run,acC] <;> rfl
def abA (K:abZ):V->Option Int->Option Int->Hp->VK->Prop:=fun x lo hi H Q=>∃ a xs,x=.ref a/\SqL K H a xs/\∀ p,H p=none->Q (.ref p) (upd H p (.lst (Lx xs lo hi)))
def Ph:SlR X (abA X.K):=by
 intro ahW s Z H x v vl vu lo hi sl Q I rx hs pl pu h;obtain ⟨a,xs,rfl,hx,q⟩:=h;cases rx;obtain ⟨its,r,ht,hz⟩:=I.list hx;have ahX:=r.length;refine ⟨"list",_,slot_list_getitem.lookup,ht.isList.typeIs,?_⟩;refine wpAny_getItem_list_slice ht.isList hs pl pu .none (by simp) ?_ (by rw [acC] <;> omega);rw [sV,<-ahX];refine ⟨.ref s.heap.objs.size,_,I.laid (t':=s.toks) (o:=.lst (Lx xs lo hi)) (fun b ob q=>ace _ q) (acj _) ?_,rfl,q _<|I.hok.fresh<|acj _⟩;exact ⟨acq (oW xs lo hi) hz,_,0,(r.drop<|HT.sIx xs.length 0 lo).take (HT.sIx xs.length xs.length hi - HT.sIx xs.length 0 lo),acw _ rfl⟩
def TV:V->Bool
 | .non=>true
 | .bl _=>true
 | .int _=>true
 | .str _=>true
 | _=>false
def eqV:V->V->Bool
 | .non,.non=>true
 | .bl a,.bl b=>a==b
 | .bl a,.int b=>(if a then 1 else 0)==b
 | .int a,.bl b=>a==(if b then 1 else 0)
 | .int a,.int b=>a==b
 | .str a,.str b=>a==b
 | _,_=>false
def Mr {A:acY}{s:aci}{y x:V}{u v:acd}(ry:RelV y u)(rx:RelV x v)(fy:TV y=true)(fx:TV x=true):acS A s u v (eqV y x):=by
 cases y with
 | non=>
  cases ry;cases x with
  | non=>cases rx;exact SeqAt.EqAt.same _
  | bl b=>cases rx;exact SeqAt.EqAt.none_bool b
  | int b=>obtain ⟨t,rfl⟩:=rx;exact SeqAt.EqAt.none_int b t
  | str b=>obtain ⟨t,rfl⟩:=rx;exact SeqAt.EqAt.none_str b t
  | _=>exact absurd (show false=true from fx) acZ
 | bl a=>
  cases ry;cases x with
  | non=>cases rx;exact SeqAt.EqAt.bool_none a
  | bl b=>cases rx;exact SeqAt.EqAt.bool_bool a b
  | int b=>obtain ⟨t,rfl⟩:=rx;exact SeqAt.EqAt.bool_int a b t
  | str b=>obtain ⟨t,rfl⟩:=rx;exact SeqAt.EqAt.bool_str a b t
  | _=>exact absurd (show false=true from fx) acZ
 | int a=>
  obtain ⟨t',rfl⟩:=ry;cases x with
  | non=>cases rx;exact SeqAt.EqAt.int_none a t'
  | bl b=>cases rx;exact SeqAt.EqAt.int_bool a t' b
  | int b=>obtain ⟨t,rfl⟩:=rx;exact SeqAt.EqAt.int_int a t' b t
  | str b=>obtain ⟨t,rfl⟩:=rx;exact SeqAt.EqAt.int_str a t' b t
  | _=>exact absurd (show false=true from fx) acZ
 | str a=>
  obtain ⟨t',rfl⟩:=ry;cases x with
  | non=>cases rx;exact SeqAt.EqAt.str_none a t'
  | bl b=>cases rx;exact SeqAt.EqAt.str_bool a t' b
  | int b=>obtain ⟨t,rfl⟩:=rx;exact SeqAt.EqAt.str_int a t' b t
  | str b=>obtain ⟨t,rfl⟩:=rx;exact SeqAt.EqAt.str_str a t' b t
  | _=>exact absurd (show false=true from fx) acZ
 | _=>exact absurd (show false=true from fy) acZ
def vO:gk X (.builtin "len") (fun xs H Q=>∃ p ys,xs=[.ref p]/\(SqL X.K H p ys\/SqT X.K H p ys)/\Q (.int ys.length) H):=by
 intro ahW s Z H xs us Q I r h;obtain ⟨p,ys,rfl,hq,q⟩:=h;obtain ⟨u,rfl,rx⟩:=vals1 r;cases rx;have hn:=qP;rcases hq with hq | hq
 ·obtain ⟨its,r',pl,hz⟩:=I.list hq;have ahX:=r'.length;exact Calls.call_len_list pl.isList (by simp only [acC] <;> omega) ⟨.int ys.length,H,I.tok _,⟨s.toks+1,by rw [acC,ahX]⟩,q⟩
 ·obtain ⟨its,r',pl,hz⟩:=I.tuple hq;have ahX:=r'.length;exact len_tuple pl (by simp only [acC] <;> omega) ⟨.int ys.length,H,I.tok _,⟨s.toks+1,by rw [acC,ahX]⟩,q⟩
def gk.or {f:acd}{r r':List V->Hp->VK->Prop}(h:gk X f r)(h':gk X f r'):gk X f (fun xs H Q=>r xs H Q\/r' xs H Q):=by
 intro ahW s Z H xs us Q I rs q;rcases q with q | q
 ·exact h ahW s Z H xs us Q I rs q
 ·exact h' ahW s Z H xs us Q I rs q
def uU:gk X (.type "list") (fun xs H Q=>∃ p ys,xs=[.ref p]/\(SqL X.K H p ys\/SqT X.K H p ys)/\∀ l,H l=none->Q (.ref l) (upd H l (.lst ys))):=by
 intro ahW s Z H xs us Q I r h;obtain ⟨p,ys,rfl,hq,q⟩:=h;obtain ⟨u,rfl,rx⟩:=vals1 r;cases rx;have fin:∀ (its:List acd),Vals ys its->ys.length<=acM->∀ (h':Heap) (c':Nat),(∀ b o',s.heap.get? b=some o'->h'.get? b=some o') ->
   h'.get? s.heap.objs.size=some { cls:=.type "list",dict:=none,data:=.seq its.toArray c',slots:=#[] }->EP X ahW Z Q (.ref s.heap.objs.size) { s with heap:=h' }:=fun its r' hz h' c' kp e=>
  ⟨.ref s.heap.objs.size,_,I.laid (t':=s.toks) kp (acj _) (show eG X.prog X.w _ h' _ (.lst ys) from ⟨hz,its,c',r',e⟩),rfl,q _ (I.hok.fresh (acj _))⟩
 rcases hq with hq | hq
 ·obtain ⟨its,r',pl,hz⟩:=I.list hq;have ahX:=r'.length;obtain ⟨o,ho,hc,n,hd⟩:=pl.isList;exact call_list_seq p (.inl rfl) ho hc hd (fun h' c' kp e=>fin its r' hz h' c' kp e) (by simp only [acC] <;> omega)
 ·obtain ⟨its,r',pl,hz⟩:=I.tuple hq;have ahX:=r'.length;obtain ⟨o,ho,hc,n,hd⟩:=pl;exact call_list_seq p (.inr rfl) ho hc hd (fun h' c' kp e=>fin its r' hz h' c' kp e) (by simp only [acC] <;> omega)
def uc:gk X (.type "tuple") (fun xs H Q=>∃ p ys,xs=[.ref p]/\((SqL X.K H p ys/\∀ l,H l=none->Q (.ref l) (upd H l (.tup ys)))\/(SqT X.K H p ys/\Q (.ref p) H))):=by
 intro ahW s Z H xs us Q I r h;obtain ⟨p,ys,rfl,h⟩:=h;obtain ⟨u,rfl,rx⟩:=vals1 r;cases rx;rcases h with ⟨hq,q⟩ | ⟨hq,q⟩
 ·obtain ⟨its,r',pl,hz⟩:=I.list hq;have ahX:=r'.length;refine call_tuple_list pl.isList (fun h' kp=>?_) (by simp only [acC] <;> omega);have I1:Inv X ahW Z H { s with heap:=h' }:=I.kept (t':=s.toks) kp;have I2:Inv X ahW Z (upd H h'.objs.size (.tup ys)) { s with heap:=h'.push { cls:=.type "tuple",data:=.seq its.toArray } }:=
   I1.laid (t':=s.toks) (fun b o e=>ace _ e) (acj _) (show eG X.prog X.w _ _ _ (.tup ys) from ⟨hz,its,r',G4.new _ _⟩)
  exact ⟨.ref h'.objs.size,_,I2,rfl,q _<|I1.hok.fresh<|acj _⟩
 ·obtain ⟨its,r',pl,hz⟩:=I.tuple hq;exact call_tuple_same pl ⟨.ref p,H,I,rfl,q⟩
def tyV (K:abZ)(T:String)(x:V)(H:Hp):Prop:=match x with
 | .str _=>T = "str"
 | .int _=>T = "int"
 | .ref p=>(T = "list"/\∃ xs,SqL K H p xs)\/(T = "tuple"/\∃ o,K.lookup p=some o/\o.cls=.type "tuple"/\o.dict=none) \/
   (T = "dict"/\((∃ kvs,H p=some (.dK kvs))\/∃ kvs,H p=some (.dT kvs)))\/(T = "set"/\∃ S n,H p=some (.set S n))
 | _=>False
def Uw {ahW:List (Addr×Obj)}{Z : St}{H:Hp}{s:aci}{T:String}{x:V}{v:acd}(I:Inv X ahW Z H s)(r:RelV x v)(ty:tyV X.K T x H):
  s.TypeIs v T/\∀ a,v=.ref a->∃ ob,s.heap.get? a=some ob/\ob.dict=none:=by
 cases x with
 | str z=>
  obtain ⟨t,rfl⟩:=r;cases (show T = "str" from ty)
  exact ⟨typeIs_str s z t,fun _ e=>nomatch e⟩
 | int i=>
  obtain ⟨t,rfl⟩:=r;cases (show T = "int" from ty)
  exact ⟨typeIs_int s i t,fun _ e=>nomatch e⟩
 | ref p=>
  cases r;rcases ty with ⟨rfl,xs,hq⟩ | ⟨rfl,o,hk,hc,hd⟩ | ⟨rfl,hk⟩ | ⟨rfl,S,n,hk⟩
  ·obtain ⟨its,_,pl,_⟩:=I.list hq;refine ⟨pl.isList.typeIs,fun a e=>?_⟩;cases e;obtain ⟨o,n,e,c,hd,_⟩:=pl;exact ⟨o,e,hd⟩
  ·refine ⟨⟨o,I.kIn p o hk,hc⟩,fun a e=>?_⟩;cases e;exact ⟨o,I.kIn _ o hk,hd⟩
  ·have z:∃ o,s.heap.get? p=some o/\o.ExactDict:=by
    rcases hk with ⟨kvs,hk⟩ | ⟨kvs,hk⟩
    ·obtain ⟨_,_,_,_,o,_,_,e,ex,_⟩:=I.hok p _ hk;exact ⟨o,e,ex⟩
    ·obtain ⟨_,_,_,_,o,_,_,e,ex,_⟩:=I.hok p _ hk;exact ⟨o,e,ex⟩
   obtain ⟨o,e,ex⟩:=z;refine ⟨⟨o,e,ex.1⟩,fun a e2=>?_⟩;cases e2;exact ⟨o,e,ex.2.1⟩
  ·obtain ⟨o,_,_,_,e,ex,_⟩:=I.hok p _ hk;refine ⟨⟨o,e,ex.1⟩,fun a e2=>?_⟩;cases e2;exact ⟨o,e,ex.2.1⟩
 | _=>exact afD ty
def tBM (K:abZ)(T:String)(r:V->List V->Hp->VK->Prop)(to:TE)(t:TA):TE:=fun Z H Q=>to Z H fun x H1=>tyV K T x H1/\t Z H1 fun xs H2=>r x xs H2 Q
variable {o e:Expr}{es:List Expr}{to:TE}{t:TA}{name:Str}{apos ahY:Pos}{T id:String}{r:V->List V->Hp->VK->Prop}
def Zy (pa:PlainAttrs T)(slot:Slot T name id)(hty:typeOf (.builtin id)=pure (.type "method_descriptor"))(hm:MtR X id r)(ho:PE X o to)(ha:PA X (e::es) t)
  (hbase:attributeBase o name X.env (eval o X.env)=eval o X.env:=by rfl)
  (hfew:((afj ahY (acN (e::es) X.env)).all (fun x=>!x.1)&&(backToKw ahY (agO [] X.env)).all (fun x=>x.1.isSome)
   && decide ((e::es).length+([]:List agy).length+(if ([]:List agy).isEmpty then 0 else 1)<30))=true:=by rfl)
  (hline:(apos.endLine==ahY.line)=true:=by rfl) (hs:acN (e::es) X.env=(false,eval e X.env)::acN es X.env:=by rfl) (hplain:(afj ahY (acN es X.env)).any (·.1)=false:=by rfl) :
  PE X (.Call (.Attribute o name apos) (e::es) [] ahY) (tBM X.K T r to t):=by
 intro ahW s Z H Q I h;refine wpAny_Call_method_late hbase hfew hline rfl<|thn (ho ahW s Z H _ I h) fun v s1 ⟨x,H1,I1,r1,ty,q1⟩=>?_
 obtain ⟨h1,h2⟩:=Uw I1 r1 ty;refine ⟨T,id,pa,slot,hty,h1,h2,?_⟩;have hA:=ha ahY ahW s1 Z H1 _ I1 q1;rw [hs] at hA |-
 refine Calls.callWith_builtin (by show (false||(afj ahY<|acN es X.env).any (·.1))=false;rw [hplain] <;> rfl)<|Calls.evalArgs_plain ?_
 exact thn hA fun us s2 ⟨vs,H2,I2,r2,q2⟩=>hm ahW s2 Z H2 x vs v us Q I2 r1 r2 q2
/- xs.append(e), list.index on a module's tuple .. are MtR facts of 06m -/
end
def MtM (X:Cx)(id:String)(r:V->List V->Hp->VK->Prop):Prop:=
 ∀ (ahW:List (Addr×Obj)) (s:aci) (Z : St) (H:Hp) (x:V) (xs:List V) (v:acd) (us:List acd) (Q:VK),Inv X ahW Z H s->RelV x v->Vals xs us->r x xs H Q ->
  acL (acP X.prog X.w) X.A (call (.builtin id) (v::us)) (EP X ahW Z Q) X.xe s
theorem Vals.one:∀ {x:V} {us:List acd},Vals [x] us->∃ u,us=[u]/\RelV x u
 | _,_,.cons r .nil=>⟨_,rfl,r⟩
theorem Vals.rep {xs:List V}{us:List acd}(h:Vals xs us):∀ k:Nat,Vals (acG k xs).flatten (acG k us).flatten
 | 0=>.nil
 | k+1=>by
  rw [aea,aea,aeO,aeO];exact Vals.append h<|Vals.rep h k
def foldl_rep (its:List acd):∀ (k:Nat) (acc:List acd),
  List.foldl (fun x1 x2=>x1++x2) acc.toArray (acG k its.toArray)=(acc++(acG k its).flatten).toArray
 | 0,acc=>by simp
 | k+1,acc=>by
  have e:acc.toArray++its.toArray=(acc++its).toArray:=by simp
  have e2:(acc++its)++(acG k its).flatten=acc++(acG (k+1) its).flatten:=by
   rw [aea,aeO,adH]
  rw [<-e2,<-foldl_rep its k (acc++its),<-e,aea,List.foldl_cons]
section
variable {X:Cx}{ahW:List (Addr×Obj)}{Z : St}{H:Hp}{s:aci}{l b:Addr}{xs ys zs:List V}
def Inv.lset {its its':List acd}{n:Nat}{f:Array acd->Array acd}{t':Nat}(I:Inv X ahW Z H s)(hH:H l=some (.lst xs))
  (e:s.heap.get? l=some { cls:=.type "list",data:=.seq its.toArray n }) (hf:f its.toArray=its'.toArray) (hv:Vals ys its') (hz:ys.length<=acM) :
  Inv X ahW Z (upd H l (.lst ys)) { s with heap:=s.heap.update l (afc f),toks:=t' }:=by
 have q:=PySem.IsL.update e f;rw [hf] at q;refine I.write (x:=l) (e:=l) (by rw [hH];exact trivial) (.inl rfl) (fun b' u hb hu=>(adG s.heap (afc f)<|aes hb).trans hu) ⟨_,q⟩ ?_;exact ⟨hz,its',_,hv,q⟩
def Inv.lnew {its:List acd}{t':Nat}(I:Inv X ahW Z H s)(hv:Vals ys its)(hz:ys.length<=acM):
  Inv X ahW Z (upd H s.heap.objs.size (.lst ys)) { s with heap:=s.heap.push { cls:=.type "list",data:=.seq its.toArray },toks:=t' }:=
 I.laid (fun _ _ q=>ace _ q) (acj _) ⟨hz,its,0,hv,acw _ rfl⟩
def Inv.fresh (I:Inv X ahW Z H s):H s.heap.objs.size=none:=I.hok.fresh (acj _)
def Inv.lstM (I:Inv X ahW Z H s)(hH:H l=some (.lst xs)):xs.length<=acM/\∃ (its:List acd) (n:Nat),Vals xs its/\xs.length=its.length/\s.heap.get? l=some { cls:=.type "list",data:=.seq its.toArray n }:=by
 obtain ⟨z,its,n,r,e⟩:=I.hok l _ hH;exact ⟨z,its,n,r,r.length,e⟩
end
section
variable {X:Cx}
def Fp:V->List V->Hp->VK->Prop:=fun x vs H Q=>∃ l xs y,x=.ref l/\vs=[y]/\H l=some (.lst xs)/\xs.length<acM/\Q .non (upd H l (.lst (xs++[y])))
def vG:MtM X "list.append" Fp:=by
 intro ahW s Z H x vs v us Q I rx rv h;obtain ⟨l,xs,y,rfl,rfl,hH,hz,q⟩:=h;cases rx;obtain ⟨u,rfl,ru⟩:=rv.one;obtain ⟨z,its,n,r,hl,e⟩:=I.lstM hH;refine call_meets F.slot_list_append ⟨_,e,rfl⟩ F.entry_list_append (F.args_list_append_2 _ _) (PySem.list_append l its.toArray n u (by rw [acC];omega)) ⟨e,?_⟩;refine ⟨.non,_,I.lset (its':=its++[u]) hH e (by simp) (r.append<|.cons ru .nil) ?_,rfl,q⟩;rw [acH,agr];omega
def abB:R2:=fun x y H Q=>∃ l b xs zs,x=.ref l/\y=.ref b/\H l=some (.lst xs)/\H b=some (.lst zs)/\xs.length+zs.length<=acM/\∀ p,H p=none->Q (.ref p) (upd H p (.lst (xs++zs)))
def VF:OpR X (aeN .Add) abB:=by
 intro ahW s Z H x y v u Q I rx ry h;obtain ⟨l,b,xs,zs,rfl,rfl,hH,hB,hz,q⟩:=h;cases rx;cases ry;obtain ⟨z,its,n,r,hl,e⟩:=I.lstM hH;obtain ⟨z2,its2,n2,r2,hl2,e2⟩:=I.lstM hB;refine PySem.P.add_list e e2 ?_ (by rw [acC,acC];omega);have ea:its.toArray++its2.toArray=(its++its2).toArray:=by simp
 rw [ea];exact ⟨.ref _,_,I.lnew (t':=s.toks) (r.append r2) (by rw [acH];omega),rfl,q _ I.fresh⟩
def len_rep {α : Type}(xs:List α)(k:Nat):(acG k xs).flatten.length=k*xs.length:=by
 induction k with
 | zero=>simp
 | succ k ih=>rw [aea,aeO,acH,ih,Nat.succ_mul,Nat.add_comm]
end
section
variable {prog:acK}{w:adt}{A:acY}{E:acd->aci->Prop}{s:aci}
end
section
variable {X:Cx}
end
end L2
namespace Att
open PySem PySem.W PySem.Calls PyProof.Rows
def pQ {P:Params}{h:Heap}:∀ (ns:List Int) (vs:List acd),WellAll P h vs (ns.map WData.int)->agz vs ns:=by
 intro ns;induction ns with
 | nil=>
  intro vs w;rw [adA] at w;cases w;exact .nil
 | cons n ns ih=>
  intro vs w;rw [acg] at w;cases w with
  | cons a b=>
   cases a;exact .cons _ _<|ih _ b
def Es {l:OpenLaw}{n:Nat}(hn:l.most=some n){P:Params}{h:Heap}{args:List WData}{vals:List acd}
  (hpre:l.row.toRowW.claim.pre args=true) (hwl:WellAll P h vals args) :
  ∃ a vs ns,vals=[Value.ref a]/\args=[WData.list (ns.map WData.int)]/\h.get? a=some { cls:=.type "list",data:=.seq vs.toArray }/\agz vs ns/\ns.length<=n:=by
 have hsh:WShape.hasAll [] args [.list .int]=true:=(pre_splitW hpre).1;have hc:l.pre.holds [] { args:=args }=true:=(pre_splitW hpre).2;obtain ⟨d,r,rfl,h1,h2⟩:=hasAllW_cons hsh;obtain rfl:=hasAllW_nil h2;obtain ⟨xs,rfl,h3⟩:=hasW_list h1;obtain ⟨ns,rfl⟩:=items_int h3;have ahX:ns.length<=n:=by
  unfold OpenLaw.pre at hc;have h4:(WTm.not (.lt (.lit (.int (n:Int))) (.len (.arg 0)))).holds [] { args:=[.list (ns.map .int)] }=true:=by
   have h4:=(holds_andW hc).1;rw [hn] at h4;exact h4
  have h5:=condW_of h4 (w_not (w_lt w_lit (w_len_list (w_arg rfl))));rw [acf] at h5;refine Nat.le_of_not_lt fun q=>?_;have q':(n:Int)<((ns.length:Nat):Int):=by omega
  first
   | (rw [decide_eq_true q'] at h5;exact absurd h5 (by decide))
   | (simp at h5;omega)
 cases hwl with
 | cons w1 w2=>
  cases w2;cases w1 with
  | list ho hall=>exact ⟨_,_,ns,rfl,rfl,ho,pQ ns _ hall,ahX⟩
def Ea (l:OpenLaw)(args:List WData):l.row.toRowW.claim.post args (.bool true) args=true:=
 postW_of (r:=l.row.toRowW) (X:=(true==true))
  (show WShape.has [] (.bool true) .bool=true by first | rfl | decide | simp [WShape.has,WShape.arms,WShape.armsAll])
  (show (WTm.eq .res (.lit (.bool true))).value [] { args:=args,res:=some (.bool true),after:=args }=some (.bool (true==true)) from w_eq_bool (w_res rfl) w_lit) rfl
def wW {l:OpenLaw}{n:Nat}{q:acK}{loose:List Str}{XP:(Str->Option acd)->Heap->Prop}{YP:adt->Heap->Prop}{d:DefRec}
  (hn:l.most=some n) (hdf:d.params.defaults=[])
  (call:∀ (w:adt) (s₀ s₁ : aci) (mg mb:Str->Option acd) (fa:Addr) (o:Obj) (pm cd doc:acd) (a:Addr) (vs:List acd) (ns:List Int),
   Ground q loose [] XP w s₀ mg mb s₁.heap->YP w s₁.heap ->
   s₁.heap.get? fa=some o->o.data=.func (docDef d.name d.params d.body d.scope pm cd doc)->s₁.heap.CodeRec cd d.name->mg d.name=some (.ref fa) ->
   s₁.heap.get? a=some { cls:=.type "list",data:=.seq vs.toArray }->agz vs ns->ns.length<=n->s₁.gens = #[] ->
   agP (acP l.prog w) callerA (.call (.ref fa) ⟨[.ref a],[]⟩) (fun r s'=>r=.ok (.ret (.bool true))/\OldK s₁.heap s'.heap/\s'.os=s₁.os/\ahd s'.gens) s₁) :
  WalkO q loose XP YP l.row.toRowW d [] (fun f vs=>PySem.call f vs):=by
 intro w s₀ s₁ mg mb G Y fa o pm cd doc dV kV ho hd hcd hD hmg hg args vals as hpre hlay hrd hwl hlo;obtain rfl:dV=.none:=Dflts.none hD hdf;obtain rfl:kV=.none:=Dflts.noKw hD;obtain ⟨a,vs,ns,rfl,rfl,hobj,hints,ahX⟩:=Es hn hpre hwl;refine enter_call<|codeAny_mono (call w s₀ s₁ mg mb fa o pm cd doc a vs ns G Y ho (fd_plain hd) hcd hmg hobj hints ahX hg) fun r s' hq=>?_
 obtain ⟨rfl,h2,h3,h4⟩:=hq;exact ⟨.inl ⟨.bool true,.bool true,[],rfl,fun _=>rfl,.bool true,Ea l _,fun _=>⟨List.Pairwise.nil,fun _ hm=>(nomatch hm)⟩⟩,h2,h3,h4⟩
section
variable {prog:acK}{w:adt}{A:acY}{E:acd->aci->Prop}{s:aci}{K:Frag}
def ledger (h:Heap)(L d:Addr):List (Addr×Obj):=(aeZ h.objs.size).filterMap fun a=>if a=L\/a=d then none else (h.get? a).map fun o=>(a,o)
end
end Att
variable {XP : (Str->Option acd)->Heap->Prop}{loose : List Str}{YP : adt->Heap->Prop}
namespace L2
open PySem PySem.Spec PyProof.Rows
theorem uO:∀ {vs:List acd} {ns:List Int},agz vs ns->Vals (ns.map V.int) vs
 | _,_,.nil=>.nil
 | _,_,.cons n t h=>.cons ⟨t,rfl⟩ (uO h)
def Only (H:Hp):Prop:=∀ b,H b=none\/∃ o xs,H b=some (.frz o (.lst xs))
def Jo {P:acK}{w:adt}{K:abZ}{mg mb:Str->Option acd}{CX:CXT}{k:Nat}{fa a:Addr}{fd:aeV}{x:Str}{sp:Sp}{s₁ : aci}{vs:List acd}{ns:List Int}
  (KX:K.In s₁.heap) (hns:s₁.heap.Ns ade mg) (hb:s₁.heap.Ns builtinsNs mb) (hbb:∀ x:Str,x ≠ "__name__"->mb x=afs x) (hlim:s₁.heap.NoLimit) (hg:s₁.gens = #[])
  (ha:s₁.heap.get? a=some { cls:=.type "list",data:=.seq vs.toArray }) (hi:agz vs ns) (hl:ns.length<=acM) (hr:nF k callerA)
  (F:∀ base:Heap,K.In base->base.Ns ade mg->qC P w K mg base CX k fa fd [x] sp) (hbind:∀ (s:aci) (u:acd),BindsTo s fd ⟨[u],[]⟩ [(x,u)])
  (hsp:∀ H:Hp,Only H->SqL K H a (ns.map V.int)->sp [.ref a] H (fun v _=>v=.bl true) fun _ _ _=>False)
  (hCX:∀ H e s',CX [] H s₁ (fun _ _ _=>False) e s'->False) :
  agP (acP P w) callerA (.call (.ref fa) ⟨[.ref a],[]⟩) (fun r s'=>r=.ok (.ret (.bool true))/\OldK s₁.heap s'.heap/\s'.os=s₁.os/\ahd s'.gens) s₁:=by
 have rv:=uO hi;have lenV:=hi.length
 -- from an abstract heap in which nothing but the script may be tracked
 have core:∀ H:Hp,Only H->SqL K H a (ns.map V.int)->HOk P w H s₁.heap->(∀ b,H b≠none->b=a)->(H a≠none->K.lookup a=none) ->
   agP (acP P w) callerA (.call (.ref fa) ⟨[.ref a],[]⟩) (fun r s'=>r=.ok (.ret (.bool true))/\OldK s₁.heap s'.heap/\s'.os=s₁.os/\ahd s'.gens) s₁:=by
  intro H hO hS hok hA hK;have base_of:∀ {b:Addr} {o:Obj},s₁.heap.get? b=some o->H b=none->(KN s₁.heap H).get? b=some o:=fun e n=>Ke e n
  have noA:∀ {b:Addr} {o:Obj} {es:Array afM} {ep:Nat},s₁.heap.get? b=some o->o.data=.dict es ep->H b=none:=fun {b o es ep} e d=>by
   cases q:H b with
   | none=>rfl
   | some u=>
    have e':b=a:=hA b (by rw [q];simp);subst e';rw [ha] at e;cases e;have d':Data.seq vs.toArray _=Data.dict es ep:=d;cases d'
  have nsK:∀ {b:Addr} {m:Str->Option acd},s₁.heap.Ns b m->(KN s₁.heap H).Ns b m:=fun {b m} ⟨o,es,ep,e,d,r⟩=>⟨o,es,ep,base_of e (noA e d),d,r⟩
  have hKb:K.In (KN s₁.heap H):=fun b o e=>base_of (KX b o e) (by
   cases q:H b with
   | none=>rfl
   | some u=>
    have e':b=a:=hA b (by rw [q];simp);subst e';rw [hK (by rw [q];simp)] at e;cases e)
  have hM:Mod K mg (KN s₁.heap H):=⟨hKb,nsK hns,⟨mb,nsK hb,hbb⟩,let ⟨mc,h1,h2⟩:=hlim;⟨mc,nsK h1,h2⟩⟩
  have e0:Xr P w K mg (KN s₁.heap H) callerA [] s₁ H:=⟨rfl,hM,fun b o e=>Oh e,Nat.le_of_eq (DY _ _),trivial,fun b hb=>absurd (show b∈([]:List Addr) from hb) (by simp),hok,.of_eq hg,fun v e=>(nomatch e)⟩
  refine codeAny_mono ((F _ hKb<|nsK hns).run callerA [] s₁ H ⟨[.ref a],[]⟩ [.ref a] [.ref a] _ _ hr e0 (hbind s₁<|.ref a) (.cons rfl .nil) (hsp H hO hS)) fun r s' h=>?_;cases r with
  | error e=>exact (hCX H e s' h).elim
  | ok fl=>
   cases fl with
   | next=>exact afD h
   | brk=>exact afD h
   | cont=>exact afD h
   | ret u=>
    obtain ⟨v,H',os,bare,un,hok',r',q⟩:=h;have q':v=.bl true:=q;subst q';obtain rfl:u=Value.bool true:=r';refine ⟨rfl,OldK.of_keep fun b o e=>?_,os,bare⟩;cases q:H b with
    | none=>exact un.keep b o e q (by intro z;exact absurd (show b∈([]:List Addr) from z) (by simp)) (by simp)
    | some u=>
     rcases hO b with z | ⟨ob,xs,z⟩
     ·rw [q] at z;cases z
     ·have z2:=un.frzs b ob _ z;obtain ⟨e1,_⟩:=hok b _ z;obtain ⟨e2,_⟩:=hok' b _ z2;rw [e] at e1;cases e1;exact e2
 cases hk:K.lookup a with
 | some o=>
  -- the script is one of the module's own objects
  have e:=KX a o hk;rw [ha] at e;cases e;refine core (fun _=>none) (fun _=>.inl rfl) (.inr ⟨_,vs.toArray,_,hk,rfl,rfl,rfl,by rw [acC,lenV];exact hl,by simpa using rv⟩) (fun b u z=>by have z':(none:Option HO)=some u:=z;cases z') (fun b z=>absurd rfl z) fun z=>absurd rfl z
 | none=>
  refine core (fun b=>if b=a then some (.frz { cls:=.type "list",data:=.seq vs.toArray } (.lst<|ns.map V.int)) else none) (fun b=>?_) (.inl<|.inr ⟨{ cls:=.type "list",data:=.seq vs.toArray },if_pos rfl⟩) (fun b u z=>?_) (fun b z=>?_) fun _=>hk
  ·by_cases hb:b=a
   ·exact .inr ⟨_,_,if_pos hb⟩
   ·exact .inl<|if_neg hb
  ·by_cases hb:b=a
   ·have z':=(if_pos hb).symm.trans z;cases z'
    subst hb;exact ⟨ha,by rw [acf];exact hl,vs,_,rv,ha⟩
   ·have z':=(if_neg hb).symm.trans z;cases z'
  ·by_cases hb:b=a
   ·exact hb
   ·exact absurd (if_neg hb) z
def DR {l:PySem.W.OpenLaw}{n k:Nat}{q:acK}{d:DefRec}{K:Params->abZ}{CX:adt->CXT}{sp:adt->Sp}{x:Str}
  (hn:l.most=some n) (hn2:n<=acM) (hdf:d.params.defaults=[]) (hr:nF k callerA)
  (hY:∀ (w:adt) (h:Heap),YP w h->(K w.params).In h)
  (F:∀ (w:adt) (mg:Str->Option acd) (fa:Addr) (h:Heap),(K w.params).In h->h.Ns ade mg->mg d.name=some (.ref fa) ->
   ∃ fd:aeV,(∀ (s:aci) (u:acd),BindsTo s fd ⟨[u],[]⟩ [(x,u)]) /\
    ∀ base:Heap,(K w.params).In base->base.Ns ade mg->qC l.prog w (K w.params) mg base (CX w) k fa fd [x] (sp w))
  (hsp:∀ (w:adt) (H:Hp) (a:Addr) (ns:List Int),ns.length<=n->Only H->SqL (K w.params) H a (ns.map V.int)->sp w [.ref a] H (fun v _=>v=.bl true) fun _ _ _=>False)
  (hCX:∀ (w:adt) (H:Hp) (s:aci) (e:acd) (s':aci),CX w [] H s (fun _ _ _=>False) e s'->False) :
  PySem.W.WalkO q loose XP YP l.row.toRowW d [] (fun f vs=>PySem.call f vs):=by
 refine Att.wW hn hdf fun w s₀ s₁ mg mb fa o pm cd doc a vs ns G Y ho hd hcd hmg hobj hints ahX hg=>?_;have KX:=hY w _ Y;obtain ⟨fd,hb,hF⟩:=F w mg fa _ KX G.T.g hmg;exact Jo KX G.T.g G.T.b G.T.builtins G.T.nolimit hg hobj hints (acq ahX hn2) hr hF hb (fun H hO hS=>hsp w H a ns ahX hO hS) fun H e s'=>hCX w H s₁ e s'
end L2
/- THE LAST THEOREM (shape; LID, My.* are yours):
   My.Adr: a structure of the addresses that your layer names (classes,functions);My.Txt K t: a structure (Prop) of the equations over K;
   My.txt_mk:{K} {implicit addresses ..} (e1:nsIn K ade "law" = some (some (.ref f))) (e2:K.lookup f=some ⟨oc,od,.func (fnOf "law" "law" params body scope dV kV doc pm an cdv ct),sl⟩) (e3:codeIn K cdv "law" = true) .. : ∃ t,My.Txt K t
set_option maxRecDepth 100000 in
set_option maxHeartbeats 0 in
theorem PySem.Challenge.cw_LID_holds : PySem.Challenge.rw_LID.Holds := by
 w_on;o_law;k_head;(case hw=>w_witness2)
 k_fill
 refine L2.DR (l:=PySem.Challenge.rw_LID) (n:=63) (k:=40) (x := "script") (CX:=fun w=>..) (sp:=fun _=>My.sp_law) rfl (by decide) rfl ⟨rfl,by decide,by decide⟩ (fun w h Y=>PySem.W.kIn_of Y) ?F ?S ?C
 case F=>
  intro w mg fa h KX G hmg;have T:∃ t,My.Txt (L2.KOf KX) t:=by
   dsimp only [L2.KOf]                          -- K must stand as «<heap const> w.params» for k_is;refine' My.txt_mk ?e1 ?e2 ?e3 ..
   (case e1=>PySem.W.k_is)                    -- in the order: a name -> its address -> its object -> its parts
   (case e2=>PySem.W.k_is)
   ..
  obtain ⟨t,T⟩:=T;have e0:=hmg.symm.trans (afV KX G T.law);cases e0                                       -- fa is the law's own address
  exact ⟨_,fun s u=>.of_eq rfl,fun base kb nb=>My.law_fn T kb nb⟩     -- if «.of_eq rfl» comes too early: refine' ⟨_,?b,fun base kb nb=>My.law_fn T kb nb⟩;exact fun s u=>.of_eq rfl
 case S=>exact fun w H a ns hl hO hS=>..
 case C=>exact ..
(the tactic k_is has no namespace: write k_is) -/
namespace L2
open PySem PySem.Spec PyProof.Rows
def mG (s:Stmt):Arguments:=match s with
 | .FunctionDef _ a _ _ _ _ _ _ _ _=>a
 | _=>{ posonlyargs:=[],args:=[],vararg:=none,kwonlyargs:=[],kw_defaults:=[],kwarg:=none,defaults:=[] }
def gR (s:Stmt):List Stmt:=match s with
 | .FunctionDef _ _ b _ _ _ _ _ _ _=>b
 | _=>[]
def bO (s:Stmt):Scope:=match s with
 | .FunctionDef _ _ _ _ _ _ sc _ _ _=>sc
 | _=>{ kind:=.function,names:=[],isGenerator:=false,isCoroutine:=false }
abbrev CX0:CXT:=fun _ _ _ _ _ _=>False
abbrev E0:XK:=fun _ _ _=>False
def Zb {X:Cx}:Passes CX0 X E0:=fun _ _ _ _ _ _ _ h=>h.elim
structure Fun (K:abZ) (x qual:Str) (st:Stmt) (f:Addr) (fd:aeV):Prop where
 ex:∃ (oc:acd) (od:Option Addr) (kV doc pm:acd) (an:Option Addr) (cdv ct:acd) (osl:Array (Option acd)),
  fd=afN x qual (mG st) (gR st) (bO st) .none kV doc pm an cdv ct/\K.lookup f=some ⟨oc,od,.func fd,osl⟩/\agI K cdv qual=true
 kp:aeK K (.ref f)=true
section
variable {P:acK}{w:adt}{K:abZ}{mg:Str->Option acd}{base:Heap}
def Fun.ok {x qual:Str}{st:Stmt}{f:Addr}{fd:aeV}{N ps:List Str}{k:Nat}{sp:Sp}(F:Fun K x qual st f fd)(S:lM N ps (bO st))(len:∀ vs H Q E,sp vs H Q E->vs.length=ps.length)
  (hbody:∀ (cdv:acd) (A:acY) (outer:List Env) (s:aci) (H:Hp) (vs:List V) (Q:VK) (E:XK),nF k (A.deeper (envOfC qual (bO st) s.heap.objs.size f cdv))->sp vs H Q E ->
   ∃ t,PSs (Le CX0 P w K mg base N qual (bO st) f cdv A outer s H E).nox (gR st) t/\t { nx:=fun _ H'=>Q .non H',rt:=Q } (start N vs) H):qC P w K mg base CX0 (k+1) f fd ps sp:=by
 obtain ⟨oc,od,kV,doc,pm,an,cdv,ct,osl,rfl,lk,hcd⟩:=F.ex;refine Y7 lk hcd S len fun A outer s H vs Q E hr hsp=>?_;obtain ⟨t,h,q⟩:=hbody cdv A outer s H vs Q E hr hsp;exact ⟨t,h.nox,q⟩
def Fun.binds {x qual:Str}{st:Stmt}{f:Addr}{fd:aeV}{ps:List Str}(F:Fun K x qual st f fd)
  (h:∀ (kV doc pm:acd) (an:Option Addr) (cdv ct:acd) (us:List acd),us.length=ps.length->bindArgs (afN x qual (mG st) (gR st) (bO st) .none kV doc pm an cdv ct) ⟨us,[]⟩=pure (ps.zip us)):Binds K fd ps []:=by
 obtain ⟨oc,od,kV,doc,pm,an,cdv,ct,osl,rfl,lk,hcd⟩:=F.ex;exact .all<|h kV doc pm an cdv ct
def Dv {x qual:Str}{st:Stmt}{f:Addr}{oc:acd}{od an:Option Addr}{osl:Array (Option acd)}{kV doc pm cdv ct:acd}(l:K.lookup f=some ⟨oc,od,.func (afN x qual (mG st) (gR st) (bO st) .none kV doc pm an cdv ct),osl⟩)
  (c:agI K cdv qual=true) (k:aeK K (.ref f)=true):Fun K x qual st f (afN x qual (mG st) (gR st) (bO st) .none kV doc pm an cdv ct):=⟨⟨oc,od,kV,doc,pm,an,cdv,ct,osl,rfl,l,c⟩,k⟩
end
section
variable {X:Cx}
def pv (i:Nat){x:Str}{pos:Pos}(hN:X.N[i]?=some x:=by rfl)(hv:Vis X.env.scope x:=by first | exact Or.inl rfl | exact Or.inr (Or.inl rfl) | exact Or.inr (Or.inr rfl))(hd:(x==("__debug__" : Str))=false:=by decide)
  (hcd:(x==("__classdict__" : Str))=false:=by decide):PE X (.Name x pos) (YJ i):=V9 hN hv hd hcd
end
def Qh (env:Env):List (Str×adh)->List (Str×Addr)->List (Str×Addr)
 | [],cs=>cs
 | (n,k)::r,cs=>Qh env r (if (k==NameKind.free)=true then (n,(env.cells.lookup n).getD 0)::cs else cs)
def Mw (scope:Scope)(env:Env):List (Str×Addr):=Qh env scope.names []
variable {env : Env}
theorem rT {env:Env}{p:Str×Addr}:∀ (l:List (Str×adh)) (cs:List (Str×Addr)),p∈Qh env l cs->p∈cs\/((p.1,NameKind.free)∈l/\p.2=(env.cells.lookup p.1).getD 0)
 | [],cs,h=>.inl h
 | (n,k)::r,cs,h=>by
  rcases rT r _ h with h | ⟨h1,h2⟩
  ·by_cases hk:(k==NameKind.free)=true
   ·rw [if_pos hk] at h;rcases acA.mp h with rfl | h
    ·have e:k=NameKind.free:=by simpa using hk
     subst e;exact .inr ⟨acF,rfl⟩
    ·exact .inl h
   ·rw [if_neg hk] at h;exact .inl h
  ·exact .inr ⟨acr _ h1,h2⟩
theorem yV {env:Env}{x:Str}:∀ (l:List (Str×adh)) (cs:List (Str×Addr)),((x,NameKind.free)∈l\/∃ c,(x,c)∈cs)->∃ c,(x,c)∈Qh env l cs
 | [],cs,h=>by
  rcases h with h | h
  ·exact absurd h<|by simp
  ·exact h
 | (n,k)::r,cs,h=>by
  refine yV r _ ?_;rcases h with h | ⟨c,h⟩
  ·rcases acA.mp h with e | h
   ·injection e with e1 e2
    subst e1;subst e2;exact .inr ⟨_,by rw [if_pos<|by rfl];exact acF⟩
   ·exact .inl h
  ·refine .inr ⟨c,?_⟩;by_cases hk:(k==NameKind.free)=true
   ·rw [if_pos hk];exact acr _ h
   ·rw [if_neg hk];exact h
variable {c : Addr}
theorem gZ {x:Str}{c:Addr}:∀ {l:List (Str×Addr)},(x,c)∈l->∃ c',l.lookup x=some c'
 | [],h=>absurd h (by simp)
 | (n,d)::r,h=>by
  by_cases e:x=n
  ·subst e;exact ⟨d,by simp [adi]⟩
  ·rcases acA.mp h with q | q
   ·injection q with q1 _
    exact absurd q1 e
   ·obtain ⟨c',h'⟩:=gZ q;refine ⟨c',?_⟩;have e':(x==n)=false:=beq_eq_false_iff_ne.mpr e;rw [adi,e'];exact h'
def Ia {scope:Scope}(h:∀ y∈scope.names,y.2=NameKind.free->∃ c,env.cells.lookup y.1=some c):closureFor scope env=pure (Mw scope env):=by
 unfold closureFor Mw;have key:∀ (l:List (Str×adh)) (cs:List (Str×Addr)),(∀ y∈l,y.2=NameKind.free->∃ c,env.cells.lookup y.1=some c) ->
   (forIn l cs (fun (x:Str×adh) (cs:List (Str×Addr))=>(if (x.2==NameKind.free)=true then cellOf env x.1 >>= fun c=>pure (ForInStep.yield ((x.1,c)::cs)) else pure (ForInStep.yield cs):Sem (ForInStep (List (Str×Addr))))))=pure (Qh env l cs):=by
  intro l;induction l with
  | nil=>intro cs _;rfl
  | cons x r ih=>
   intro cs hl;obtain ⟨n,k⟩:=x;rw [agH];have hr:∀ y∈r,y.2=NameKind.free->∃ c,env.cells.lookup y.1=some c:=fun y hy=>hl y (acr _ hy)
   by_cases hk:(k==NameKind.free)=true
   ·obtain ⟨c,hc⟩:=hl (n,k) acF (by simpa using hk);have hc':env.cells.lookup n=some c:=hc;have e1:cellOf env n=pure c:=by unfold cellOf;rw [hc']
    simp only [hk,if_true,e1,pure_bind];rw [ih _ hr];simp only [Qh,hk,if_true,hc',Option.getD_some]
   ·simp only [hk,if_false,pure_bind,adx];rw [ih _ hr];simp only [Qh,hk,if_false,adx]
 have q:=key scope.names [] h
 simpa using q
variable {y : Str}
theorem iQ {y:Str}{c:Addr}:∀ {names:List (Str×adh)} {n:Nat} {acc:List (Str×Addr)},(y,c)∈adI n names acc↔(y,c)∈acc\/(y,c)∈adI n names []
 | [],n,acc=>by simp [adI]
 | (name,kind)::r,n,acc=>by
  unfold adI;split
  ·rw [iQ (acc:=(name,n)::acc),iQ (acc:=[(name,n)])];simp only [acA,adL,or_false];exact ⟨fun h=>h.elim (fun h=>h.elim (fun h=>.inr<|.inl h) .inl) fun h=>.inr<|.inr h,fun h=>h.elim (fun h=>.inl<|.inr h) fun h=>h.elim (fun h=>.inl<|.inl h) .inr⟩
  ·exact iQ
theorem xV {y:Str}{c:Addr}:∀ {names:List (Str×adh)} {n:Nat},(y,c)∈adI n names []->(y,NameKind.cell)∈names
 | [],n,h=>by simp [adI] at h
 | (name,kind)::r,n,h=>by
  unfold adI at h;split at h
  ·rename_i hk;rcases iQ.mp h with q | q
   ·have hk':kind=.cell:=by simpa using hk
    simp only [acA,adL,or_false,Prod.mk.injEq] at q;rw [q.1,hk'];exact acF
   ·exact acr _<|xV q
  ·exact acr _<|xV h
theorem Ej {y:Str}:∀ {names:List (Str×adh)} {n:Nat},(y,NameKind.cell)∈names->∃ c,(y,c)∈adI n names []
 | [],n,h=>by simp at h
 | (name,kind)::r,n,h=>by
  unfold adI;rcases acA.mp h with q | q
  ·cases q;rw [if_pos (by rfl)];exact ⟨n,iQ.mpr<|.inl acF⟩
  ·split
   ·obtain ⟨c,hc⟩:=Ej (n:=n+1) q;exact ⟨c,iQ.mpr<|.inr hc⟩
   ·exact Ej q
variable {names : List (Str×adh)}
def T8 {h:Heap}(e:(y,c)∈adI h.objs.size names []):(pushCells h names).IsCell c none/\h.objs.size<=c:=
 (cellsFrom_ok names h h.objs.size [] ⟨fun _ _ z=>by simp at z,List.Pairwise.nil⟩ (acj _)).empty y c e
def K3 {n:Nat}{z:Str}(e:(y,c)∈adI n names [])(e':(z,c)∈adI n names []):y=z:=by
 have key:∀ (k:Nat),∃ h:Heap,h.objs.size=k:=fun k=>by
  induction k with
  | zero=>exact ⟨{ (default:Heap) with objs:=#[] },rfl⟩
  | succ k ih=>
   obtain ⟨h,e⟩:=ih;exact ⟨h.push { cls:=.type "cell",data:=.cell none },by rw [aex,e]⟩
 obtain ⟨h,rfl⟩:=key n;exact name_of_addr (cellsFrom_ok names h h.objs.size [] ⟨fun _ _ z=>by simp at z,List.Pairwise.nil⟩<|acj _).apart e e'
variable {closure : List (Str×Addr)}
def Ey {M:Model}{A:acY}{E:acd->aci->Prop}{s:aci}{scope:Scope}{globals:Addr}{qual:Str}{func:Option Addr}{code:acd}{ar:Env}{builtins:Addr}{Q:Env->aci->Prop}
  (hQ:Q { scope:=scope,locals:=s.heap.objs.size,globals:=globals,cells:=adI (s.heap.objs.size+1) scope.names closure,qual:=qual,func:=func,code:=ar.code,frame:=ar.frame,builtins:=ar.builtins } { s with heap:=pushCells (s.heap.push { cls:=.type "dict",data:=.dict #[] }) scope.names }) :
  acL M A (newFunctionEnv scope globals closure [] qual func code (some ar) builtins) Q E s:=by
 simp only [newFunctionEnv,Option.isSome_some,if_true];refine abY<|wpAny_alloc ?_
 refine abY<|wpAny_layCells _ (fun name kind cells=>by cases hkc:kind==NameKind.cell <;> simp [hkc]) _ _ _ _ ?_
 rw [show ({ s with heap:=s.heap.push { cls:=.type "dict",data:=.dict #[] } }:aci).heap.objs.size=s.heap.objs.size+1 from aex ..];rw [agL];exact abY<|ach<|ach hQ
def blk (X:Cx)(scope:Scope)(N':List Str)(C:Addr)(s:aci)(H:Hp)(ex:List Addr):Cx where
 prog:=X.prog
 w:=X.w
 K:=X.K
 mg:=X.mg
 base:=X.base
 A:=X.A
 N:=N'
 s₀:=s
 H₀:=H
 env:=compEnvC scope (adI (C+1) scope.names (Mw scope X.env)) C X.env
 outer:=X.stack
 stack:=X.stack
 ex:=ex
 fn:=fun y=>decide (scope.names.lookup y=some .cell)
 calm:=X.calm
 pn:=[]
 xe:=fun _ _=>False
structure iU (X:Cx) (scope:Scope) (x:List Str) (ix:List Nat):Prop where
 kind:scope.kind=.function
 own:∀ y∈x,scope.names.lookup y=some .local\/scope.names.lookup y=some .cell
 names:∀ y∈scope.names,scope.names.lookup y.1=some y.2
 free:∀ y∈scope.names,y.2=.free->X.env.scope.names.lookup y.1=some .cell\/X.env.scope.names.lookup y.1=some .free
 ixs:∀ i∈ix,scope.names.lookup (X.N.getD i "")=some .free
 nd:(x++ix.map fun i=>X.N.getD i "").Nodup
def z9:List Str->Bool
 | []=>true
 | x::r=>!(r.contains x)&&z9 r
def aaR (sc:Scope)(N:List Str)(scope:Scope)(x:List Str)(ix:List Nat):Bool:=
 decide (scope.kind=.function)&&x.all (fun y=>decide (scope.names.lookup y=some .local)||decide (scope.names.lookup y=some .cell)) &&
 scope.names.all (fun y=>decide (scope.names.lookup y.1=some y.2)) &&
 scope.names.all (fun y=>!decide (y.2=.free)||decide (sc.names.lookup y.1=some .cell)||decide (sc.names.lookup y.1=some .free)) &&
 ix.all (fun i=>decide (scope.names.lookup (N.getD i "")=some .free))&&z9 (x++ix.map fun i=>N.getD i "")
theorem uN:∀ {l:List Str},z9 l=true->l.Nodup
 | [],_=>List.nodup_nil
 | x::r,h=>by
  unfold z9 at h;rw [adC] at h;refine aep.mpr ⟨fun hm=>?_,uN h.2⟩;have:r.contains x=true:=List.contains_iff_mem.mpr hm
  rw [this] at h;exact absurd h.1<|by decide
variable {ix : List Nat}
def cR {X:Cx}{scope:Scope}{x:List Str}(h:aaR X.env.scope X.N scope x ix=true):iU X scope x ix:=by
 unfold aaR at h;simp only [adC,aec,decide_eq_true_eq,Bool.or_eq_true,Bool.not_eq_true',decide_eq_false_iff_not] at h;obtain ⟨⟨⟨⟨⟨h1,h3⟩,h4⟩,h5⟩,h6⟩,h7⟩:=h;refine ⟨h1,fun y hy=>h3 y hy,fun y hy=>h4 y hy,fun y hy hk=>?_,fun i hi=>h6 i hi,uN h7⟩
 ·rcases h5 y hy with (q | q) | q
  ·exact absurd hk q
  ·exact .inl q
  ·exact .inr q
def BW (ix:List Nat)(Z : St):St:=ix.map fun i=>(Z[i]?).getD none
abbrev iC (X:Cx)(x:List Str)(ix:List Nat):List Str:=x++ix.map fun i=>X.N.getD i ""
def fW {scope:Scope}{env:Env}{x:Str}:∀ {names:List (Str×adh)} {k:adh},
  (names.map fun (p:Str×adh)=>if (p.2==NameKind.free&&env.scope.kind==.function&&env.kindOf p.1==some .cell)=true then (p.1,NameKind.cell) else (p.1,p.2)).lookup x=some k ->
  names.lookup x=some k\/(k=.cell/\names.lookup x=some .free)
 | [],k,h=>by simp at h
 | (n,k')::r,k,h=>by
  rw [acg] at h;cases hx:x==n with
  | true=>
   by_cases hc:(k'==NameKind.free&&env.scope.kind==.function&&env.kindOf n==some .cell)=true
   ·rw [if_pos hc] at h;simp only [adi,hx] at h;have hk:k'=.free:=by
     have:=(Bool.and_eq_true_iff.mp (Bool.and_eq_true_iff.mp hc).1).1
     simpa using this
    subst hk;cases h;exact .inr ⟨rfl,by simp [adi,hx]⟩
   ·rw [if_neg hc] at h;simp only [adi,hx] at h;cases h;exact .inl<|by simp [adi,hx]
  | false=>
   have h':(r.map fun (p:Str×adh)=>if (p.2==NameKind.free&&env.scope.kind==.function&&env.kindOf p.1==some .cell)=true then (p.1,NameKind.cell) else (p.1,p.2)).lookup x=some k:=by
    by_cases hc:(k'==NameKind.free&&env.scope.kind==.function&&env.kindOf n==some .cell)=true
    ·rw [if_pos hc] at h;simpa only [adi,hx] using h
    ·rw [if_neg hc] at h;simpa only [adi,hx] using h
   rcases fW (scope:=scope) (env:=env) h' with q | ⟨q1,q2⟩
   ·exact .inl<|by simpa only [adi,hx] using q
   ·exact .inr ⟨q1,by simpa only [adi,hx] using q2⟩
def ni {env:Env}{x:Str}:∀ {names:List (Str×adh)},names.lookup x=some .free ->
  (names.map fun (p:Str×adh)=>if (p.2==NameKind.free&&env.scope.kind==.function&&env.kindOf p.1==some .cell)=true then (p.1,NameKind.cell) else (p.1,p.2)).lookup x=some .cell \/
  (names.map fun (p:Str×adh)=>if (p.2==NameKind.free&&env.scope.kind==.function&&env.kindOf p.1==some .cell)=true then (p.1,NameKind.cell) else (p.1,p.2)).lookup x=some .free
 | [],h=>by simp at h
 | (n,k')::r,h=>by
  rw [acg];cases hx:x==n with
  | true=>
   simp only [adi,hx] at h;cases h;by_cases hc:(NameKind.free==NameKind.free&&env.scope.kind==.function&&env.kindOf n==some .cell)=true
   ·rw [if_pos hc];exact .inl (by simp [adi,hx])
   ·rw [if_neg hc];exact .inr (by simp [adi,hx])
  | false=>
   have h':r.lookup x=some .free:=by simpa only [adi,hx] using h
   have ih:=ni (env:=env) h';by_cases hc:(k'==NameKind.free&&env.scope.kind==.function&&env.kindOf n==some .cell)=true
   ·rw [if_pos hc];simpa only [adi,hx] using ih
   ·rw [if_neg hc];simpa only [adi,hx] using ih
def mU {env:Env}{x:Str}:∀ {names:List (Str×adh)},names.lookup x=some .cell ->
  (names.map fun (p:Str×adh)=>if (p.2==NameKind.free&&env.scope.kind==.function&&env.kindOf p.1==some .cell)=true then (p.1,NameKind.cell) else (p.1,p.2)).lookup x=some .cell
 | [],h=>by simp at h
 | (n,k')::r,h=>by
  rw [acg];cases hx:x==n with
  | true=>
   simp only [adi,hx] at h;cases h;rw [if_neg (by simp)];simp [adi,hx]
  | false=>
   have ih:=mU (env:=env) (show r.lookup x=some .cell by simpa only [adi,hx] using h);split
   ·simpa only [adi,hx] using ih
   ·simpa only [adi,hx] using ih
section
variable {X:Cx}{ahW:List (Addr×Obj)}{Z : St}{H:Hp}{s:aci}{scope:Scope}{x:List Str}{C:Addr}{fp:List Addr}
def Ek (B:iU X scope x ix)(hy:y∈x):Loc (relabel scope X.env) y/\(decide (scope.names.lookup y=some .cell)=true\/(relabel scope X.env).names.lookup y=some .local):=by
 rcases B.own y hy with q | q
 ·have:=lookup_relabel_local (env:=X.env) q
  exact ⟨.inl this,.inr this⟩
 ·exact ⟨.inr<|mU (env:=X.env) q,.inl<|decide_eq_true q⟩
def tE (I:Inv X ahW Z H s)(B:iU X scope x ix):∀ y∈scope.names,y.2=NameKind.free->∃ c,X.env.cells.lookup y.1=some c:=fun y hy hk=>I.ok.has y.1 (B.free y hy hk)
def WX (I:Inv X ahW Z H s)(B:iU X scope x ix)(h:(y,c)∈Mw scope X.env):X.env.cells.lookup y=some c:=by
 rcases rT scope.names [] h with q | ⟨q1,q2⟩
 ·exact absurd q<|by simp
 ·obtain ⟨c',e⟩:=tE I B _ q1 rfl;have e':X.env.cells.lookup y=some c':=e;have q2':c=(X.env.cells.lookup y).getD 0:=q2;rw [e',Option.getD_some] at q2';rw [e',q2']
def m9 (I:Inv X ahW Z H s)(B:iU X scope x ix)(h:(adI (C+1) scope.names (Mw scope X.env)).lookup y=some c):X.env.cells.lookup y=some c\/(y,c)∈adI (C+1) scope.names []:=
 (iQ.mp (adX h)).imp_left (WX I B)
def Gz {n:Nat}(e:(y,c)∈adI n names []):n<=c:=by
 have key:∀ (names:List (Str×adh)) (n:Nat),(y,c)∈adI n names []->n<=c:=by
  intro names;induction names with
  | nil=>intro n h;simp [adI] at h
  | cons a r ih=>
   intro n h;obtain ⟨name,kind⟩:=a;unfold adI at h;split at h
   ·rcases iQ.mp h with q | q
    ·simp only [acA,adL,or_false,Prod.mk.injEq] at q;exact Nat.le_of_eq q.2.symm
    ·exact acq (aeU n)<|ih (n+1) q
   ·exact ih n h
 exact key names n e
def Oc (B:iU X scope x ix)(hf:scope.names.lookup y=some .free)(h:(y,c)∈adI (C+1) scope.names []):False:=by
 have:=B.names _ (xV h)
 simp only at this;rw [hf] at this;cases this
def zF (h:scope.names.lookup y=some .free\/scope.names.lookup y=some .cell):∃ c,(adI (C+1) scope.names (Mw scope X.env)).lookup y=some c:=by
 rcases h with h | h
 ·obtain ⟨c,hc⟩:=yV (env:=X.env) scope.names [] (.inl (adX h));exact gZ<|iQ.mpr<|.inl hc
 ·obtain ⟨c,hc⟩:=Ej (n:=C+1) (adX h);exact gZ<|iQ.mpr<|.inr hc
def U6 (I:Inv X ahW Z H s)(B:iU X scope x ix)(hC:s.heap.objs.size<=C)(hf:∀ b∈fp,CK X ahW H b)(ho:∀ b∈fp,∃ o,s.heap.get? b=some o):
  (blk X scope (iC X x ix) C s H fp).Ok where
 mod:=I.ok.mod
 kind:=B.kind
 glob:=I.ok.glob
 blt:=I.ok.blt
 above:=hC
 inj:=fun y z c h1 h2=>by
  have far:∀ {y z:Str},X.env.cells.lookup y=some c->(z,c)∈adI (C+1) scope.names []->False:=fun {y z} e q=>by
   obtain ⟨v,w⟩:=I.cell y c e;exact absurd (acp w.lt<|acq (acq hC<|aeU C)<|Gz q)<|adT _
  rcases m9 I B h1 with q1 | q1
  ·rcases m9 I B h2 with q2 | q2
   ·exact I.ok.inj y z c q1 q2
   ·exact (far q1 q2).elim
  ·rcases m9 I B h2 with q2 | q2
   ·exact (far q2 q1).elim
   ·exact K3 q1 q2
 has:=fun y hy=>by
  have hy':(relabel scope X.env).names.lookup y=some .cell\/(relabel scope X.env).names.lookup y=some .free:=hy;rcases hy' with q | q
  ·rcases fW (scope:=scope) (env:=X.env) q with r | ⟨_,r⟩
   ·exact zF<|.inr r
   ·exact zF<|.inl r
  ·rcases fW (scope:=scope) (env:=X.env) q with r | ⟨r,_⟩
   ·exact zF<|.inl r
   ·cases r
 cab:=fun y c hf h=>by
  have hf':scope.names.lookup y=some .cell:=of_decide_eq_true hf;rcases iQ.mp (adX h) with q | q
  ·rcases rT scope.names [] q with q | ⟨q1,_⟩
   ·exact absurd q<|by simp
   ·have:=B.names _ q1
    simp only at this;rw [hf'] at this;cases this
  ·exact acq (acq hC<|aeU C)<|Gz q
 hd:=I.ok.hd
 qt:=I.qt0
 frames:=I.ok.frames
 stk:=.inl rfl
 exf:=fun b hb=>by
  obtain ⟨o,e⟩:=ho b hb;refine ⟨acI<|acp (acs e) hC,fun y c h=>?_⟩;rcases m9 I B h with q | q
  ·exact (hf b hb).2.2.2.2.1 y c q
  ·intro z;rw [z] at q;exact absurd (acp (acs e)<|acq (acq hC<|aeU C)<|Gz q)<|adT _
 bs:=I.bs
 bsz:=acq I.ok.bsz I.sz
 noex:=fun b o e hb=>by
  rcases (hf b hb).2.2.2.1 with q | q
  ·exact I.ok.noex b o e q
  ·exact absurd (acp (acs e)<|acq I.ok.bsz q)<|adT _
 exfs:=fun b hb z=>by
  obtain ⟨_,h1,h2,_⟩:=hf b hb;rcases acA.mp (I.stkSub b z) with e | e
  ·exact h1 e
  ·exact h2 e
 funs:=I.stack
 frf:=I.stkFree
def QT {D:Addr}{h1:Heap}{tk:Nat}{m:Str->Option acd}(I:Inv X ahW Z H s)(B:iU X scope x ix)(ok:(blk X scope (iC X x ix) C s H fp).Ok)
  (hD:D=s.heap.objs.size) (k:∀ b o,s.heap.get? b=some o->h1.get? b=some o) (hl:h1.get? D=some { cls:=.type "list",data:=.seq #[] }) (hns:h1.Ns C m) (hCD:C≠D) (hC:s.heap.objs.size<=C) (hce:∀ y c,(y,c)∈adI (C+1) scope.names []->h1.IsCell c none) :
  Inv (blk X scope (iC X x ix) C s H fp) [] (acG x.length none++BW ix Z) (upd H D (.lst [])) { s with heap:=h1,toks:=tk } where
 ok:=ok
 os:=rfl
 bare:=I.bare
 base:=Un.laid k (by rw [hD];exact acj _) (I.hok.fresh (by rw [hD];exact acj _))
 loc:=by
  refine ⟨m,hns,fun i y v e1 e2 e3=>?_⟩;by_cases hix:i<x.length
  ·rw [acX (by simpa using hix),afZ,if_pos hix] at e2;cases e2
  ·rw [acU (by simpa using hix),List.length_replicate] at e2;have e1':(ix.map fun i=>X.N.getD i "")[i - x.length]?=some y:=by
    have z:(x++ix.map fun i=>X.N.getD i "")[i]?=some y:=e1
    rwa [acU (by simpa using hix)] at z
   generalize i - x.length=j at e1' e2;unfold BW at e2;rw [acu] at e1' e2;cases hj:ix[j]? with
   | none=>rw [hj] at e2;cases e2
   | some i'=>
    rw [hj] at e1' e2;simp only [Option.map_some,Option.some.injEq] at e1' e2;have hi:Z[i']?=some (some v):=by
     cases q:Z[i']? with
     | none=>rw [q] at e2;cases e2
     | some z=>rw [q] at e2;exact congrArg some e2
    have hlt:i'<X.N.length:=by
     have:=(acD.mp hi).1
     rw [I.len] at this;exact this
    have hn:X.N[i']?=some y:=by
     rw [acQ,acn hlt,Option.getD_some] at e1';rw [acn hlt,e1']
    have hfree:scope.names.lookup y=some .free:=by
     have:=B.ixs i' (acO hj)
     rw [e1'] at this;exact this
    have kx:=B.free _ (adX hfree) rfl;have vis:Vis X.env.scope y:=by
     rcases kx with q | q
     ·exact .inr<|.inl q
     ·exact .inr<|.inr q
    obtain ⟨m',_,hl'⟩:=I.loc;obtain ⟨u,r,lk⟩:=hl' i' y v hn hi vis;refine ⟨u,r,?_⟩;rcases lk with ⟨q,_⟩ | ⟨_,c,hc,hcell⟩
    ·have q':X.env.scope.names.lookup y=some .local:=q;rcases kx with z | z <;> (rw [q'] at z;cases z)
    ·obtain ⟨c',hc'⟩:=zF (X:=X) (C:=C) (.inl hfree);have e:=(m9 I B hc').resolve_right fun z=>Oc B hfree z
     rw [hc] at e;cases e;refine .inr ⟨ni (env:=X.env) hfree,c,hc',?_⟩;obtain ⟨o,ho,hd⟩:=hcell;exact ⟨o,k c o ho,hd⟩
 cell:=fun y c h=>by
  rcases m9 I B h with q | q
  ·obtain ⟨v,o,ho,hd⟩:=I.cell y c q;exact ⟨v,o,k c o ho,hd⟩
  ·exact ⟨none,hce y c q⟩
 free:=by
  show upd H D (.lst []) C=none;rw [aR hCD];exact I.hok.fresh hC
 freeC:=fun y c h=>by
  show upd H D (.lst []) c=none;rcases m9 I B h with q | q
  ·obtain ⟨v,o,ho,hd⟩:=I.cell y c q;rw [aR (by rw [hD];exact acI (acs ho))];exact I.freeC y c q
  ·have g:s.heap.objs.size<c:=acp (Nat.lt_succ_of_le hC) (Gz q);rw [aR (by rw [hD];exact adR g)];exact I.hok.fresh<|aen g
 pin:=fun p hp=>absurd (show p∈([]:List (Addr×Obj)) from hp) (by simp)
 hok:=I.hok.laid k (by rw [hD];exact acj _) ⟨adu _,[],0,.nil,hl⟩
 len:=by
  show (acG x.length none++BW ix Z).length=(iC X x ix).length;simp [BW]
def HN {Z':St}{H':Hp}{s':aci}{h':Heap}{p':List (Addr×Obj)}(I:Inv X ahW Z H s)(hC:s.heap.objs.size<=C)(hf:∀ b∈fp,CK X ahW H b)(J:Inv (blk X scope (iC X x ix) C s H fp) p' Z' H' s')
  (hs:aez C s'.heap h'):Inv X ahW Z H' { s' with heap:=h' }:=by
 have I1:Inv X ahW Z H' s':=I.call' (ch:=fp) J.os J.base J.hok J.bare fun b hb=>⟨(hf b hb).2.2.2.1,(hf b hb).2.1,(hf b hb).2.2.2.2.1,(hf b hb).2.2.2.2.2⟩
 refine I1.turned (it:=C) (t':=s'.toks) (fun b o hb e=>(hs.2 b hb).trans e) J.free (adR<|acp I.lt hC) (.inr<|acq I.sz hC) (fun y c e z=>?_)<|fun p hp z=>?_
 ·obtain ⟨v,q⟩:=I.cell y c e;exact absurd (acp q.lt (by rw [z];exact hC))<|adT _
 ·exact absurd (acp (acs (I.pin p hp).1) (by rw [z];exact hC))<|adT _
end
def S6 (X:Cx)(ifs:List Expr)(t:TT):Prop:=
 ∀ (ahW:List (Addr×Obj)) (s:aci) (Z : St) (H:Hp) (Q:Bool->Hp->Prop),Inv X ahW Z H s->t Z H Q ->
  acL (acP X.prog X.w) X.A (forIn ifs true fun c r=>if r=true then do let ok <-isTrue c X.env (eval c X.env);pure (ForInStep.yield ok) else pure (ForInStep.yield r)) (TP X ahW Z Q) X.xe s
def abT:TT:=fun _ H Q=>Q true H
def Rm {X:Cx}:S6 X [] abT:=fun _ _ _ H _ I h=>ach ⟨H,I,h⟩
def QG {X:Cx}{c:Expr}{t:TT}(h:PT X c t):S6 X [c] t:=fun ahW s Z H Q I hq=>by
 rw [agH];refine abY ?_;rw [if_pos rfl];refine abY<|thn (h ahW s Z H Q I hq) fun b s1 q=>ach ?_
 exact ach q
def Yc (n:Nat)(own:V->Hp->List V->Prop)(ix:List Nat)(tt:TT)(te:TE)(Z : St)(Q:VK)(J:It)(H1:Hp)(D:Addr):Prop:=∃ W:Nat->Nat->List V->Hp->Prop,(∃ m,W 0 m [] (upd H1 D (.lst [])))/\∀ i m ys H,W i m ys H->H D=some (.lst ys) ->
 (J.stop i H/\Q (.ref D) H)\/(J.go i H/\ys.length<acM/\∀ x H',J.yld i H x H'->∃ vs,own x H' vs/\vs.length=n/\tt (vs.map some++BW ix Z) H' fun b H2=>
  if b=true then te (vs.map some++BW ix Z) H2 (fun v H3=>H3 D=some (.lst ys)/\∃ m',m'<m/\W (i+1) m' (ys++[v]) (upd H3 D (.lst (ys++[v]))))
  else H2 D=some (.lst ys)/\∃ m',m'<m/\W (i+1) m' ys H2)
def wLC (n:Nat)(own:V->Hp->List V->Prop)(ix:List Nat)(tt:TT)(te:TE)(Z : St)(Q:VK)(J:It)(H1:Hp):Prop:=∀ D,H1 D=none->Yc n own ix tt te Z Q J H1 D
def tLC (n:Nat)(own:V->Hp->List V->Prop)(ix:List Nat)(wi:TI)(tt:TT)(te:TE):TE:=fun Z H Q=>wi Z H fun J H1=>wLC n own ix tt te Z Q J H1
def PX (n:Nat)(own:V->Hp->List V->Prop):TG:=fun v Z H N=>∃ vs,own v H vs/\vs.length=n/\N (vs.map some++Z.drop n) H
variable {elt : Expr}{ifs : List Expr}{R : Result->aci->Prop}
def GC {P:acK}{w:adt}{A:acY}{s:aci}{target iter:Expr}{scope:Scope}{pos:Pos}{it acc:acd}(Iv:Nat->aci->Prop)
  (turn:∀ n s,Iv n s->acL (acP P w) A (agS it) (fun r s₁=>match r with
   | none=>R (.ok .next) s₁
   | some v=>acL (acP P w) A (letOwnedTupleGo target it v) (fun _ t₁=>acL (acP P w) A (assign target env v) (fun _ s₂=>
     acL (acP P w) A (forIn ifs true fun c r=>if r=true then do let ok <-isTrue c env (eval c env);pure (ForInStep.yield ok) else pure (ForInStep.yield r)) (fun ok s₃=>
      if ok=true then acL (acP P w) A (eval elt env) (fun x s₄=>
       acL (acP P w) A (call (.builtin "list.append") [acc,x]) (fun _ s₅=>∃ m,m<n/\Iv m s₅) (notedBy (acP P w) A env fun e s'=>R (.error e) s') s₄) (notedBy (acP P w) A env fun e s'=>R (.error e) s') s₃
      else ∃ m,m<n/\Iv m s₃) (notedBy (acP P w) A env fun e s'=>R (.error e) s') s₂) (notedBy (acP P w) A env fun e s'=>R (.error e) s') t₁) (notedBy (acP P w) A env fun e s'=>R (.error e) s') s₁) (notedBy (acP P w) A env fun e s'=>R (.error e) s') s)
  (n:Nat) (h:Iv n s):agP (acP P w) A (.compLoop (.ListComp elt [⟨target,iter,ifs,0⟩] scope pos) 0 it acc env) R s:=by
 refine codeAny_loop rfl Iv (fun n s hI=>?_) n h;show acL _ A ((compTurn (.ListComp elt [⟨target,iter,ifs,0⟩] scope pos) 0 it acc env).onRaise (fun x=>do noteFrame x env;theTreesLotGoes x)) _ _ s;refine wpAny_noted ?_;rw [compTurn_list];refine abY<|wpAny_standAt<|abY<|aed (turn n s hI) (fun r s₁ k₁=>?_) fun _ _ z=>z
 cases r with
 | none=>exact ach k₁
 | some v=>
  refine abY<|aed k₁ (fun _ t₁ k₂=>abY<|aed k₂ (fun _ s₂ k₃=>abY<|aed k₃ (fun ok s₃ k₄=>?_) fun _ _ z=>z) fun _ _ z=>z) fun _ _ z=>z
  cases ok with
  | false=>exact ach ⟨rfl,k₄⟩
  | true=>exact abY (abY (aed k₄ (fun x s₄ k₅=>abY (aed k₅ (fun _ s₅ k₆=>ach (ach ⟨rfl,k₆⟩)) fun _ _ z=>z)) fun _ _ z=>z))
section
variable {X:Cx}{scope:Scope}{x:List Str}{iter tg:Expr}{px pos:Pos}{wi:TI}{tt:TT}{te:TE}{own:V->Hp->List V->Prop}
def Dc {ahW:List (Addr×Obj)}{Z : St}{s₂ : aci}{H2:Hp}{it:Addr}{fp:List Addr}{tn:Nat->Heap->Prop}{J:It}{Q:VK}{E:acd->aci->Prop}{RR:acd->Addr->Result->aci->Prop}
  (hc:J.cm=true->X.calm=true) (B:iU X scope x ix) (hg:∀ C s H fp,PG (blk X scope (iC X x ix) C s H fp) tg (PX x.length own)) (ht:∀ C s H fp,S6 (blk X scope (iC X x ix) C s H fp) ifs tt) (he:∀ C s H fp,PE (blk X scope (iC X x ix) C s H fp) elt te)
  (I2:Inv X ahW Z H2 s₂) (T:Turn X.prog X.w X.K tg J fp it tn) (st2:tn 0 s₂.heap) (f2:∀ b∈fp,CK X ahW H2 b) (hq:wLC x.length own ix tt te Z Q J H2)
  (hRR:∀ D C s' Z' H' p',s₂.heap.objs.size<=C->Inv (blk X scope (iC X x ix) C s₂ H2 fp) p' Z' H' s'->Q (.ref D) H'->RR (.ref D) C (.ok .next) s') :
  acL (acP X.prog X.w) X.A (newList []) (fun acc s₃=>acL (acP X.prog X.w) X.A (newFunctionEnv scope X.env.globals (Mw scope X.env) [] X.env.qual none .none (some X.env)) (fun cenv s₄=>
   agP (acP X.prog X.w) X.A (.compStart (.ListComp elt [⟨tg,iter,ifs,0⟩] scope pos) 0 (.ref it) acc { cenv with scope:=relabel scope X.env }) (RR acc cenv.locals) s₄) E s₃) E s₂:=by
 refine adq<|Ey ?_
 dsimp only;generalize hH2:s₂.heap.push { cls:=.type "list",dict:=none,data:=.seq ([]:List acd).toArray }=HH;generalize hh1:pushCells (HH.push { cls:=.type "dict",data:=.dict #[] }) scope.names=h₁;have hns₁ : h₁.Ns HH.objs.size (fun _=>none):=by
  obtain ⟨o,es,ep,ho,r⟩:=Heap.Ns.new HH (.type "dict");exact ⟨o,es,ep,by rw [<-hh1];exact pushCells_keeps _ _ _ _ ho,r⟩
 have hkeep:∀ b o,HH.get? b=some o->h₁.get? b=some o:=fun b o e=>by rw [<-hh1];exact pushCells_keeps _ _ _ _ (ace _ e)
 have hce:∀ y c,(y,c)∈adI (HH.objs.size+1) scope.names []->h₁.IsCell c none:=fun y c e=>by
  rw [<-hh1];exact (T8 (h:=HH.push { cls:=.type "dict",data:=.dict #[] }) (by rw [aex];exact e)).1
 have hC:HH.objs.size=s₂.heap.objs.size+1:=by rw [<-hH2,aex]
 have hDC:s₂.heap.objs.size≠HH.objs.size:=by rw [hC];exact acI (Nat.lt_succ_self _)
 have hCle:s₂.heap.objs.size<=HH.objs.size:=by rw [hC];exact aeU _
 have old:∀ b o,s₂.heap.get? b=some o->h₁.get? b=some o:=fun b o e=>hkeep b o (hH2 ▸ ace _ e)
 have hacc:h₁.get? s₂.heap.objs.size=some { cls:=.type "list",data:=.seq #[] }:=hkeep _ _ (hH2 ▸ acw _ rfl);have hob:∀ b∈fp,∃ o,s₂.heap.get? b=some o:=fun b hb=>let ⟨o,e,_⟩:=T.obj 0 _ st2 b hb;⟨o,e⟩
 have ok:=U6 (C:=HH.objs.size) I2 B hCle f2 hob;obtain ⟨W,⟨m0,w0⟩,turn⟩:=hq s₂.heap.objs.size (I2.hok.fresh (acj _))
 -- the iterator's records, in the block
 have stat:∀ {H':Hp},(∀ b∈fp,H' b=none)->∀ b∈fp,CK (blk X scope (iC X x ix) HH.objs.size s₂ H2 fp) [] H' b:=fun {H'} hn b hb=>by
  obtain ⟨o,e⟩:=hob b hb;obtain ⟨_,g1,g2,g3,g4,g5⟩:=f2 b hb;refine ⟨hn b hb,acI<|acp (acs e) hCle,fun z=>?_,.inl hb,fun y c h=>?_,fun p hp=>absurd (show p∈([]:List (Addr×Obj)) from hp)<|by simp⟩
  ·rcases acA.mp (I2.stkSub b z) with q | q
   ·exact g1 q
   ·exact g2 q
  ·rcases m9 I2 B h with q | q
   ·exact g4 y c q
   ·intro z;rw [z] at q;exact absurd (acp (acs e)<|acq (acq hCle<|aeU _)<|Gz q)<|adT _
 have loop:∀ s₃ : aci,s₃ = { s₂ with heap:=h₁ } ->
   agP (acP X.prog X.w) X.A (.compLoop (.ListComp elt [⟨tg,iter,ifs,0⟩] scope pos) 0 (.ref it) (.ref s₂.heap.objs.size) (compEnvC scope (adI (HH.objs.size+1) scope.names (Mw scope X.env)) HH.objs.size X.env))
    (RR (.ref s₂.heap.objs.size) HH.objs.size) s₃:=by
  rintro s₃ rfl;have J0:=QT (fp:=fp) (C:=HH.objs.size) (tk:=s₂.toks) I2 B ok rfl old hacc hns₁ (aes hDC) hCle hce;have fr0:∀ b∈fp,upd H2 s₂.heap.objs.size (.lst []) b=none:=fun b hb=>by
   obtain ⟨o,e⟩:=hob b hb;rw [aR (acI (acs e))];exact (f2 b hb).1
  refine GC (fun k s'=>∃ i ys H',Inv (blk X scope (iC X x ix) HH.objs.size s₂ H2 fp) [] (acG x.length none++BW ix Z) H' s'/\tn i s'.heap/\(∀ b∈fp,H' b=none)/\H' s₂.heap.objs.size=some (.lst ys)/\W i k ys H') ?_ m0
   ⟨0,[],_,J0,T.keep 0 _ _ st2 (fun b _ o e=>old b o e),fr0,bB,w0⟩
  rintro n s₄ ⟨i,ys,H4,I4,st4,fr4,hD4,w4⟩;rcases turn i n ys H4 w4 hD4 with ⟨stop,qn⟩ | ⟨go,hz,step⟩
  ·refine thn (T.done (blk X scope (iC X x ix) HH.objs.size s₂ H2 fp) rfl rfl rfl hc i [] s₄ _ H4 _ I4 (stat fr4) st4 stop) fun r s5 ⟨hr,I5⟩=>?_;subst hr;exact hRR _ _ s5 _ H4 [] hCle I5 qn
  ·refine thn (T.item (blk X scope (iC X x ix) HH.objs.size s₂ H2 fp) rfl rfl rfl hc i [] s₄ _ H4 _ I4 (stat fr4) st4 go) fun r s5 ⟨u,hr,h5⟩=>?_;subst hr;refine aed h5 (fun _ s6 ⟨xv,H6,I6,r6,y6,st6,fr6⟩=>?_) fun _ _ z=>z;have I6':=I6.pinned (stat fr6) (T.obj _ _ st6);obtain ⟨vs,hov,hvl,q7⟩:=step xv H6 y6;have fgt:∀ {Z9:St} {H9:Hp} {s9:aci} {p9:List (Addr×Obj)},Z9.length=x.length->Inv (blk X scope (iC X x ix) HH.objs.size s₂ H2 fp) p9 (Z9++BW ix Z) H9 s9->Inv (blk X scope (iC X x ix) HH.objs.size s₂ H2 fp) p9 (acG x.length none++BW ix Z) H9 s9:=fun {Z9 H9 s9 p9} hl I9=>
    I9.weak (by simp [hl]) fun k v e=>by
     by_cases hk:k<x.length
     ·rw [acX (by simpa using hk),afZ,if_pos hk] at e;cases e
     ·rw [acU (by simpa using hk),List.length_replicate] at e;rw [acU (by rw [hl];omega),hl];exact e
   refine aed (hg _ _ _ _ _ s6 _ H6 xv u (fun Z9 H9=>Z9=vs.map some++(acG x.length (none:Option V)++BW ix Z).drop x.length/\H9=H6) I6' r6 ⟨vs,hov,hvl,rfl,rfl⟩) (fun _ s7 ⟨Z7,H7,I7,e7,e8⟩=>?_) fun _ _ z=>z.elim;subst e7 e8;rw [List.drop_left' (by simp)] at I7;have hml:(vs.map some).length=x.length:=by rw [acf];exact hvl
   refine aed (ht _ _ _ _ _ s7 _ H7 _ I7 q7) (fun b s8 ⟨H8,I8,q8⟩=>?_) fun _ _ z=>z.elim;have pinned:∀ {H9:Hp} {s9:aci} {Z9:St},Inv (blk X scope (iC X x ix) HH.objs.size s₂ H2 fp) ([]++v7 fp s6.heap) Z9 H9 s9->tn (i+1) s9.heap/\∀ b∈fp,H9 b=none:=fun {H9 s9 Z9} I9=>by
    refine ⟨T.keep _ _ _ st6 fun b hb o e=>(I9.pin (b,o)<|adz _<|adz _<|jm hb e).1,fun b hb=>?_⟩;obtain ⟨o,e,d⟩:=T.obj _ _ st6 b hb;exact (I9.pin (b,o)<|adz _<|adz _<|jm hb e).2.1
   cases b with
   | false=>
    rw [if_neg acZ] at q8 |-
    obtain ⟨hD8,m',hm,w8⟩:=q8;obtain ⟨t8,f8⟩:=pinned I8;exact ⟨m',hm,i+1,ys,H8,fgt hml I8.unpinned,t8,f8,hD8,w8⟩
   | true=>
    rw [if_pos rfl] at q8 |-
    refine aed (he _ _ _ _ _ s8 _ H8 _ I8 q8) (fun u9 s9 ⟨v9,H9,I9,r9,hD9,m',hm,w9⟩=>?_) fun _ _ z=>z.elim;refine aed (vG (X:=blk X scope (iC X x ix) HH.objs.size s₂ H2 fp) _ s9 _ H9 (.ref s₂.heap.objs.size) [v9] _ [u9] (fun _ H'=>H'=upd H9 s₂.heap.objs.size (.lst<|ys++[v9])) I9 rfl (.cons r9 .nil) ⟨_,ys,v9,rfl,rfl,hD9,hz,rfl⟩) (fun _ s10 ⟨_,H10,I10,_,e10⟩=>?_) fun _ _ z=>z.elim;subst e10;obtain ⟨t10,f10⟩:=pinned I10;exact ⟨m',hm,i+1,ys++[v9],_,fgt hml I10.unpinned,t10,f10,bB,w9⟩
 exact codeAny_compStart_list (loop _ rfl)<|T.self _ 0 _ _ _ (T.keep 0 _ _ st2<|fun b _ o e=>old b o e)<|loop _ rfl
def ZK (ix:List Nat)(hc:X.calm=true)(B:iU X scope x ix)(hg:∀ C s H fp,PG (blk X scope (iC X x ix) C s H fp) tg (PX x.length own))(hi:PI X tg iter wi)(ht:∀ C s H fp,S6 (blk X scope (iC X x ix) C s H fp) ifs tt)(he:∀ C s H fp,PE (blk X scope (iC X x ix) C s H fp) elt te)
  (hs:∀ v,aeW iter X.env v=pure v:=by intro _;rfl):PE X (.ListComp elt [⟨tg,iter,ifs,0⟩] scope pos) (tLC x.length own ix wi tt te):=by
 intro ahW s Z H Q I h;rw [eval_ListComp];refine wpAny_comprehension_free (use:=none) rfl hs (Ia<|tE I B) B.kind (fun y hy hk=>by rw [B.names y hy,hk]) ?_;refine thn (hi ahW s Z H _ I h) fun v s1 h1=>thn h1 fun itv s2 h2=>?_;obtain ⟨it,fp,tn,J,H2,e,I2,T,st2,f2,hq⟩:=h2;subst e;refine Dc (RR:=fun acc C=>compPost (acP X.prog X.w) X.A X.xe none (EP X ahW Z Q) acc C) (fun _=>hc) B hg ht he I2 T st2 f2 hq fun D C s' Z' H' p' hC I' q'=>?_;obtain ⟨m,hn,_⟩:=I'.loc;exact ⟨m,hn,fun h' hs'=>⟨.ref D,H',HN I2 hC f2 I' hs',rfl,q'⟩⟩
def YH (ix:List Nat){i:Nat}{py spos:Pos}(hN:X.N.Nodup)(hi':X.N[i]?=some y)(hy:Loc X.env.scope y)(hc:X.calm=true)(B:iU X scope x ix)(hg:∀ C s H fp,PG (blk X scope (iC X x ix) C s H fp) tg (PX x.length own))(hi:PI X tg iter wi)
  (ht:∀ C s H fp,S6 (blk X scope (iC X x ix) C s H fp) ifs tt) (he:∀ C s H fp,PE (blk X scope (iC X x ix) C s H fp) elt te)
  (hsw:swapsWith (.ListComp elt [⟨tg,iter,ifs,0⟩] scope pos) (some (.Name y py)) spos.line X.env=pure true:=by rfl)
  (hf:X.fn y=true\/X.env.scope.names.lookup y=some .local:=by first | exact .inl rfl | exact .inr rfl | assumption)
  (hs:∀ v,aeW iter X.env v=pure v:=by intro _;rfl):PS X (.Assign [.Name y py] (.ListComp elt [⟨tg,iter,ifs,0⟩] scope pos) spos) (TF (tLC x.length own ix wi tt te) (Hy i)):=by
 intro ahW s Z H D I h;rw [exec_Assign_Name_used _ _ _ _ hsw];refine abY<|wpAny_standAt<|abY ?_
 show acL _ X.A (do let _ <-comprehension (.ListComp elt [⟨tg,iter,ifs,0⟩] scope pos) scope X.env _ (newList []) false (eval iter X.env) (some (assign (.Name y py) X.env))) _ _ s;refine abY<|aed (wpAny_comprehension_free (use:=some (assign (.Name y py) X.env)) (Q:=fun _ s'=>SP X ahW D .next s') rfl hs (Ia<|tE I B) B.kind (fun y hy hk=>by rw [B.names y hy,hk]) ?_) (fun _ s' hq=>ach<|ach hq) fun _ _ e=>e
 refine thn (hi ahW s Z H _ I h) fun v s1 h1=>thn h1 fun itv s2 h2=>?_;obtain ⟨it,fp,tn,J,H2,e,I2,T,st2,f2,hq⟩:=h2;subst e;refine Dc (RR:=fun acc C=>compPost (acP X.prog X.w) X.A X.xe (some<|assign (.Name y py) X.env) (fun _ s'=>SP X ahW D .next s') acc C) (fun _=>hc) B hg ht he I2 T st2 f2 hq fun D' C s' Z' H' p' hC I' q'=>?_;obtain ⟨m,hn,_⟩:=I'.loc;have I3:Inv X ahW Z H' s':=HN (h':=s'.heap) I2 hC f2 I' (.refl ..);show acL _ X.A (assign (.Name y py) X.env (.ref D')) _ _ s';have cneC:∀ z c,X.env.cells.lookup z=some c->c≠C:=fun z c e q=>by
  obtain ⟨v,w⟩:=I2.cell z c e;exact absurd (acp w.lt (by rw [q];exact hC))<|adT _
 have lneC:X.env.locals≠C:=acI (acp I2.lt hC);refine wpAny_assign_Name<|wz (v:=.ref D') I3 hN hi' hy rfl (fun s'' I'' hsb=>?_) hf
 obtain ⟨a,hsb,ha⟩:=hsb;have haC:C≠a:=by
  rcases ha with rfl | ha
  ·exact aes lneC
  ·exact aes<|cneC _ _ ha
 refine ⟨m,hn.sameBut hsb haC,fun h' hs'=>⟨_,H',?_,q'⟩⟩;refine I''.turned (it:=C) (t':=s''.toks) (fun b o hb e=>(hs'.2 b hb).trans e) I'.free (aes lneC) (.inr<|acq I2.sz hC) cneC<|fun p hp z=>?_
 exact absurd (acp (acs (I2.pin p hp).1) (by rw [z];exact hC))<|adT _
end
variable {own : V->Hp->List V->Prop}
def Sm (n:Nat)(i:Int):Prop:=i.natAbs<2^n
def Sm.bits {n:Nat}{i:Int}(h:Sm n i):Builtin.Int.intBits i<=n:=by
 unfold Builtin.Int.intBits;by_cases e:i=0
 ·subst e;exact adu _
 ·have e':(i==0)=false:=beq_eq_false_iff_ne.mpr e;rw [e'];have h0:i.natAbs≠0:=by omega
  have:=(Nat.log2_lt h0).mpr h
  simp only [adx,if_false];omega
variable {m : Nat}
def Sm.mono {n:Nat}{i:Int}(h:Sm m i)(hmn:m<=n):Sm n i:=acp h (afL (by decide) hmn)
def Sm.mul {n:Nat}{i j:Int}(h:Sm m i)(h':Sm n j):Sm (m+n) (i*j):=by
 unfold Sm at *;rw [afe,aeJ];by_cases e:j.natAbs=0
 ·rw [e,Nat.mul_zero];exact Nat.mul_pos (afW<|by decide)<|afW<|by decide
 ·exact acp (Nat.mul_lt_mul_of_pos_right h<|Nat.pos_of_ne_zero e)<|Nat.mul_le_mul_left _<|aen h'
def Sm.add {n:Nat}{i j:Int}(h:Sm m i)(h':Sm n j):Sm (max m n+1) (i+j):=by
 have h1:=h.mono (Nat.le_max_left m n);have h2:=h'.mono (Nat.le_max_right m n);unfold Sm at *;rw [Nat.pow_succ];omega
def Sm.neg {n:Nat}{i:Int}(h:Sm n i):Sm n (-i):=by unfold Sm at *;rw [Int.natAbs_neg];exact h
def Sm.sub {n:Nat}{i j:Int}(h:Sm m i)(h':Sm n j):Sm (max m n+1) (i - j):=by
 rw [Int.sub_eq_add_neg];exact h.add h'.neg
def Sm.zero {n:Nat}:Sm n 0:=afW (by decide)
def Dj {n:Nat}{i:Int}(h1:-(2^n:Int)<i)(h2:i<(2^n:Int)):Sm n i:=by
 unfold Sm;have e:((2^n:Nat):Int)=(2:Int)^n:=by simp
 omega
def oM (i j:Int):Prop:=∃ m n,m<=1000000/\n<=1000000/\Sm m i/\Sm n j
def oM.ok {i j:Int}(h:oM i j):IntMulOk i j:=by
 obtain ⟨m,n,hm,hn,h1,h2⟩:=h;have e:(2:Nat)^20=1048576:=by decide
 exact .of_bits (by have:=h1.bits;omega) (by have:=h2.bits;omega)
def FP (_ j:Int):Prop:=j≠0/\∃ n,n<=8000/\Sm n j
def Qv {n:Nat}{j:Int}(hn:n<=8000)(h:Sm n j):j.natAbs.log2<9000:=by
 by_cases e:j.natAbs=0
 ·rw [e];decide
 ·have:=(Nat.log2_lt e).mpr h
  omega
section
variable {X:Cx}
def GX:OpR X (aeN .Mult) (rI oM fun i j=>.int (i*j)):=opI fun _ _ _ _ _ _ _ hc q=>mul_int q hc.ok
def HY:OpR X (aeN .FloorDiv) (rI FP fun i j=>.int (i.fdiv j)):=opI fun i j _ _ _ _ _ hc q=>by
 obtain ⟨h1,n,hn,h2⟩:=hc;exact floordiv_int h1 q<|.inl<|PyProof.noPylong_of_log2<|Qv hn h2
theorem v8:∀ {bs:List Bool} {its:List acd} {i:Nat} {v:acd},Vals (bs.map V.bl) its->its[i]?=some v->∃ b,bs[i]?=some b/\v=.bool b
 | [],_,_,_,.nil,e=>by simp at e
 | b::bs,_,0,_,.cons r _,e=>by simp at e;subst e;exact ⟨b,rfl,r⟩
 | _::bs,_,i+1,v,.cons _ t,e=>by
  obtain ⟨b,h1,h2⟩:=v8 (i:=i) (v:=v) t (by simpa using e);exact ⟨b,by simpa using h1,h2⟩
def aaq (K:abZ)(H:Hp):V->String->Bool->Prop
 | .int _,T,b=>(T = "int"/\b=true)\/(T = "bool"/\b=false)\/(T = "tuple"/\b=false)\/(T = "list"/\b=false)
 | .bl _,T,b=>(T = "int"/\b=true)\/(T = "bool"/\b=true)\/(T = "tuple"/\b=false)\/(T = "list"/\b=false)
 | .str _,T,b=>(T = "int"/\b=false)\/(T = "bool"/\b=false)\/(T = "tuple"/\b=false)\/(T = "list"/\b=false)
 | .non,T,b=>(T = "int"/\b=false)\/(T = "bool"/\b=false)\/(T = "tuple"/\b=false)\/(T = "list"/\b=false)
 | .ref p,T,b=>(∃ xs,SqT K H p xs/\((T = "int"/\b=false)\/(T = "bool"/\b=false)\/(T = "tuple"/\b=true)\/(T = "list"/\b=false))) \/
   (∃ xs,SqL K H p xs/\((T = "int"/\b=false)\/(T = "bool"/\b=false)\/(T = "tuple"/\b=false)\/(T = "list"/\b=true)))
 | _,_,_=>False
def Kw:gk X (.builtin "isinstance") (fun xs H Q=>∃ x T b,xs=[x,.ty T]/\aaq X.K H x T b/\Q (.bl b) H):=by
 intro ahW s Z H xs us Q I r h;obtain ⟨x,T,b,rfl,hi,q⟩:=h;obtain ⟨u,w',rfl,rx,ru⟩:=vals2 r;cases ru;have k0:EP X ahW Z Q (.bool b) s:=⟨.bl b,H,I,rfl,q⟩
 have k1:EP X ahW Z Q (.bool b) { s with toks:=s.toks+1 }:=⟨.bl b,H,I.tok _,rfl,q⟩
 cases x with
 | int i=>
  obtain ⟨t,rfl⟩:=rx;rcases hi with ⟨rfl,rfl⟩ | ⟨rfl,rfl⟩ | ⟨rfl,rfl⟩ | ⟨rfl,rfl⟩
  ·exact IsiPair.int_int k0
  ·exact IsiPair.int_bool k1
  ·exact IsiPair.int_tuple k1
  ·exact IsiPair.int_list k1
 | bl i=>
  cases rx;rcases hi with ⟨rfl,rfl⟩ | ⟨rfl,rfl⟩ | ⟨rfl,rfl⟩ | ⟨rfl,rfl⟩
  ·first | exact IsiPair.bool_int k0 | exact IsiPair.bool_int k1
  ·first | exact IsiPair.bool_bool k0 | exact IsiPair.bool_bool k1
  ·exact IsiPair.bool_tuple k1
  ·exact IsiPair.bool_list k1
 | str i=>
  obtain ⟨t,rfl⟩:=rx;rcases hi with ⟨rfl,rfl⟩ | ⟨rfl,rfl⟩ | ⟨rfl,rfl⟩ | ⟨rfl,rfl⟩
  ·exact IsiPair.str_int k1
  ·exact IsiPair.str_bool k1
  ·exact IsiPair.str_tuple k1
  ·exact IsiPair.str_list k1
 | non=>
  cases rx;rcases hi with ⟨rfl,rfl⟩ | ⟨rfl,rfl⟩ | ⟨rfl,rfl⟩ | ⟨rfl,rfl⟩
  ·exact IsiPair.NoneType_int k1
  ·exact IsiPair.NoneType_bool k1
  ·exact IsiPair.NoneType_tuple k1
  ·exact IsiPair.NoneType_list k1
 | ref p=>
  cases rx;rcases hi with ⟨xs,hS,hi⟩ | ⟨xs,hS,hi⟩
  ·obtain ⟨its,_,⟨o,e,c,_⟩,_⟩:=I.tuple hS;rcases hi with ⟨rfl,rfl⟩ | ⟨rfl,rfl⟩ | ⟨rfl,rfl⟩ | ⟨rfl,rfl⟩
   ·exact IsiPair.tuple_int e c k1
   ·exact IsiPair.tuple_bool e c k1
   ·exact IsiPair.tuple_tuple e c k0
   ·exact IsiPair.tuple_list e c k1
  ·obtain ⟨its,_,pl,_⟩:=I.list hS;obtain ⟨o,e,c,_⟩:=pl.isList;rcases hi with ⟨rfl,rfl⟩ | ⟨rfl,rfl⟩ | ⟨rfl,rfl⟩ | ⟨rfl,rfl⟩
   ·exact IsiPair.list_int e c k1
   ·exact IsiPair.list_bool e c k1
   ·exact IsiPair.list_tuple e c k1
   ·exact IsiPair.list_list e c k0
 | _=>exact (show False from hi).elim
end
inductive W where
 | non | bl (b:Bool) | int (i:Int) | str (x:Str) | ty (n:String) | tup (ws:List W) | lst (ws:List W) | loc (n:Nat) | kls (ws:List W) | exc (n:Str)
 /-- an exception with attributes -/
 | exa (n:Str) (ws:List W)
 /-- a def of the module, by its address and a number -/
 | fnv (f:Addr) (i:Nat)
inductive Cell where
 | lst (ws:List W) | obj (C:Addr) (fs:List (Str×W)) | dct (kvs:List (Key×W))
 /-- a dict whose keys are tuples of ints -/
 | dtt (kvs:List (List Int×W))
structure Gh where
 nx:Nat
 c:Nat->Option Cell
structure Mu where
 f:Nat->Option Addr
 hid:Addr->Prop
def abl (K:abZ)(p:Addr)(xs:List V):Prop:=
 ∃ (o:Obj) (its:Array acd) (n:Nat),K.lookup p=some o/\o.cls=.type "list"/\o.dict=none/\o.data=.seq its n/\its.size<=acM/\Vals xs its.toList
def Frz (H:Hp)(μ : Mu)(p:Addr)(xs:List V):Prop:=H p=some (.lst xs)/\(∀ n,μ.f n≠some p)/\¬ μ.hid p
def Frk (K:abZ)(H:Hp)(p:Addr)(xs:List V):Prop:=(∃ o,H p=some (.frz o (.lst xs)))\/abl K p xs
variable {μ : Mu}
def Frz.sq {K:abZ}{H:Hp}{p:Addr}{xs:List V}(h:Frz H μ p xs):SqL K H p xs:=.inl (.inl h.1)
def Frk.sq {K:abZ}{H:Hp}{p:Addr}{xs:List V}(h:Frk K H p xs):SqL K H p xs:=by
 rcases h with h | h
 ·exact .inl<|.inr h
 ·exact .inr h
def vmB:List acd:=[.type "ValueError",.type "Exception",.type "BaseException",.type "object"]
def abt (K:abZ)(C:Addr)(n:Str):Bool:=ady K ade n==some (some (.ref C))&&PySem.W.typeIn K (.ref C)==some (.type "type")&&match PySem.W.clsIn K C with
 | some cd=>cd.name==n&&cd.mro.contains (.type "BaseException")
 | none=>false
def Yg (K:abZ)(C:Addr)(n:Str):Bool:=abt K C n&&(match PySem.W.clsIn K C with
 | some cd=>(match cd.mro with
  | [.ref C',.ref R,a,b,c,d]=>C'==C&&[a,b,c,d]==vmB&&ady K ade "EaselError"==some (some (.ref R))&&(PySem.W.clsIn K R).any (fun c=>c.name==("EaselError" : Str))
  | _=>false)
 | none=>false)&&aeL K (.ref C) "__getattribute__"==some (some (.builtin "BaseException.__getattribute__"))&&aeL K (.ref C) "__getattr__"==some none&&aeL K (.ref C) "__class__"==some (some (.builtin "object.__class__"))&&PySem.W.specialIn K (.builtin "object.__class__") "__get__"==some (some (.builtin "getset_descriptor.__get__"))
 && PySem.W.takesIn K (.builtin "object.__class__")==some true
def aaL (n:Str):List Str:=if n = "Apart" then ["word", "places"] else ["at"]
def aby (K:abZ)(C:Addr)(n:Str):Bool:=Yg K C n&&PySem.W.hasDictIn K C&&(aaL n).all fun f=>aeL K (.ref C) f==some none
def Xoa (K:abZ)(o:Obj)(n:Str)(dd:Addr):Prop:=∃ C,o.cls=.ref C/\o.dict=some dd/\PySem.W.notCls o=true/\aby K C n=true
def Xob (K:abZ)(o:Obj)(n:Str):Prop:=∃ C,o.cls=.ref C/\o.dict=none/\PySem.W.notCls o=true/\Yg K C n=true
mutual
def Rep (K:abZ)(H:Hp)(μ : Mu):W->V->Prop
 | .non,v=>v=.non
 | .bl b,v=>v=.bl b
 | .int i,v=>v=.int i
 | .str x,v=>v=.str x
 | .ty n,v=>v=.ty n
 | .tup ws,v=>∃ p xs,v=.ref p/\SqT K H p xs/\aM K H μ ws xs
 | .lst ws,v=>∃ p xs,v=.ref p/\Frz H μ p xs/\aM K H μ ws xs
 | .kls ws,v=>∃ p xs,v=.ref p/\Frk K H p xs/\aM K H μ ws xs
 | .loc n,v=>∃ p,v=.ref p/\μ.f n=some p
 | .exc n,v=>∃ p o u,v=.ref p/\H p=some (.frz o u)/\Xob K o n
 | .exa n ws,v=>∃ p o u dd ns xs,v=.ref p/\H p=some (.frz o u)/\Xoa K o n dd/\H dd=some (.xd (List.zip ns xs))/\ns=aaL n/\ns.length=xs.length/\aM K H μ ws xs
 | .fnv f _,v=>v=.ref f
def aM (K:abZ)(H:Hp)(μ : Mu):List W->List V->Prop
 | [],xs=>xs=[]
 | w::ws,xs=>∃ v vs,xs=v::vs/\Rep K H μ w v/\aM K H μ ws vs
end
section
variable {K:abZ}{H H' H1 H2:Hp}{μ' μ1 μ2 : Mu}{h h':Gh}{w:W}{ws:List W}{v:V}{xs:List V}
theorem aM.len:∀ {ws:List W} {xs:List V},aM K H μ ws xs->ws.length=xs.length
 | [],xs,h=>by
  have e:xs=[]:=by rw [aM] at h;exact h
  rw [e];rfl
 | w::ws,xs,h=>by
  rw [aM] at h;obtain ⟨v,vs,e,_,h⟩:=h;rw [e,acE,acE,aM.len h]
theorem aM.get:∀ {ws:List W} {xs:List V} {i:Nat} {w:W},aM K H μ ws xs->ws[i]?=some w->∃ v,xs[i]?=some v/\Rep K H μ w v
 | [],_,_,_,_,e=>by simp at e
 | a::ws,xs,0,w,h,e=>by
  rw [aM] at h;obtain ⟨v,vs,e1,r,_⟩:=h;simp at e;subst e;subst e1;exact ⟨v,rfl,r⟩
 | a::ws,xs,i+1,w,h,e=>by
  rw [aM] at h;obtain ⟨v,vs,e1,_,h⟩:=h;subst e1;obtain ⟨u,h1,h2⟩:=aM.get (i:=i) (w:=w) h (by simpa using e);exact ⟨u,by simpa using h1,h2⟩
def aM.nil:aM K H μ [] []:=by rw [aM]
def aM.cons (r:Rep K H μ w v)(h:aM K H μ ws xs):aM K H μ (w::ws) (v::xs):=by
 rw [aM];exact ⟨v,xs,rfl,r,h⟩
theorem aM.append:∀ {ws:List W} {xs:List V} {us:List W} {ys:List V},aM K H μ ws xs->aM K H μ us ys->aM K H μ (ws++us) (xs++ys)
 | [],xs,us,ys,h,g=>by
  rw [aM] at h;subst h;exact g
 | w::ws,xs,us,ys,h,g=>by
  rw [aM] at h;obtain ⟨v,vs,e,r,h⟩:=h;subst e;exact aM.cons r<|aM.append h g
def aM.one (r:Rep K H μ w v):aM K H μ [w] [v]:=aM.cons r aM.nil
theorem aM.set (r:Rep K H μ w v):∀ {ws:List W} {xs:List V} (i:Nat),aM K H μ ws xs->aM K H μ (ws.set i w) (xs.set i v)
 | [],xs,i,h=>by rw [aM] at h;subst h;exact aM.nil
 | a::ws,xs,0,h=>by
  rw [aM] at h;obtain ⟨u,vs,e,_,h⟩:=h;subst e;exact aM.cons r h
 | a::ws,xs,i+1,h=>by
  rw [aM] at h;obtain ⟨u,vs,e,q,h⟩:=h;subst e;exact aM.cons q<|aM.set r i h
theorem aM.take:∀ {ws:List W} {xs:List V} (n:Nat),aM K H μ ws xs->aM K H μ (ws.take n) (xs.take n)
 | _,_,0,_=>by simp only [List.take_zero];exact aM.nil
 | [],xs,n+1,h=>by rw [aM] at h;subst h;exact aM.nil
 | a::ws,xs,n+1,h=>by
  rw [aM] at h;obtain ⟨u,vs,e,q,h⟩:=h;subst e;exact aM.cons q<|aM.take n h
theorem aM.drop:∀ {ws:List W} {xs:List V} (n:Nat),aM K H μ ws xs->aM K H μ (ws.drop n) (xs.drop n)
 | _,_,0,h=>h
 | [],xs,n+1,h=>by rw [aM] at h;subst h;exact aM.nil
 | a::ws,xs,n+1,h=>by
  rw [aM] at h;obtain ⟨u,vs,e,q,h⟩:=h;subst e;exact aM.drop n h
structure Ex0 (K:abZ) (H:Hp) (μ : Mu) (H':Hp) (μ':Mu):Prop where
 t:∀ p xs,SqT K H p xs->SqT K H' p xs
 l:∀ p xs,Frz H μ p xs->Frz H' μ' p xs
 k:∀ p xs,Frk K H p xs->Frk K H' p xs
 m:∀ n p,μ.f n=some p->μ'.f n=some p
 x:∀ p o u,H p=some (.frz o u)->H' p=some (.frz o u)
 y:∀ p fs,H p=some (.xd fs)->H' p=some (.xd fs)
structure Ex (K:abZ) (H:Hp) (μ : Mu) (H':Hp) (μ':Mu):Prop extends Ex0 K H μ H' μ' where
 o:∀ p u,μ.hid p->H p=some u->μ'.hid p/\H' p=some u
mutual
theorem Rep.ex (e:Ex0 K H μ H' μ'):∀ {w:W} {v:V},Rep K H μ w v->Rep K H' μ' w v
 | .non,_,h=>by rw [Rep] at h |-;exact h
 | .bl _,_,h=>by rw [Rep] at h |-;exact h
 | .int _,_,h=>by rw [Rep] at h |-;exact h
 | .str _,_,h=>by rw [Rep] at h |-;exact h
 | .ty _,_,h=>by rw [Rep] at h |-;exact h
 | .tup ws,_,h=>by
  rw [Rep] at h |-
  obtain ⟨p,xs,e1,hs,hr⟩:=h;exact ⟨p,xs,e1,e.t _ _ hs,aM.ex e hr⟩
 | .lst ws,_,h=>by
  rw [Rep] at h |-
  obtain ⟨p,xs,e1,hs,hr⟩:=h;exact ⟨p,xs,e1,e.l _ _ hs,aM.ex e hr⟩
 | .kls ws,_,h=>by
  rw [Rep] at h |-
  obtain ⟨p,xs,e1,hs,hr⟩:=h;exact ⟨p,xs,e1,e.k _ _ hs,aM.ex e hr⟩
 | .loc n,_,h=>by
  rw [Rep] at h |-
  obtain ⟨p,e1,hm⟩:=h;exact ⟨p,e1,e.m _ _ hm⟩
 | .exc n,_,h=>by
  rw [Rep] at h |-
  obtain ⟨p,o,u,e1,hm,hx⟩:=h;exact ⟨p,o,u,e1,e.x _ _ _ hm,hx⟩
 | .exa n ws,_,h=>by
  rw [Rep] at h |-
  obtain ⟨p,o,u,dd,ns,xs,e1,hm,hx,hd,e2,e3,hr⟩:=h;exact ⟨p,o,u,dd,ns,xs,e1,e.x _ _ _ hm,hx,e.y _ _ hd,e2,e3,aM.ex e hr⟩
 | .fnv _ _,_,h=>by rw [Rep] at h |-;exact h
theorem aM.ex (e:Ex0 K H μ H' μ'):∀ {ws:List W} {xs:List V},aM K H μ ws xs->aM K H' μ' ws xs
 | [],_,h=>by rw [aM] at h |-;exact h
 | w::ws,_,h=>by
  rw [aM] at h |-
  obtain ⟨v,vs,e1,r,h⟩:=h;exact ⟨v,vs,e1,Rep.ex e r,aM.ex e h⟩
end
structure Ext (K:abZ) (H:Hp) (μ : Mu) (H':Hp) (μ':Mu):Prop where
 r:∀ w v,Rep K H μ w v->Rep K H' μ' w v
 o:∀ p u,μ.hid p->H p=some u->μ'.hid p/\H' p=some u
def Ext.refl:Ext K H μ H μ:=⟨fun _ _ h=>h,fun _ _ h g=>⟨h,g⟩⟩
def Ext.trans (a:Ext K H μ H1 μ1)(b:Ext K H1 μ1 H2 μ2):Ext K H μ H2 μ2:=
 ⟨fun w v h=>b.r w v (a.r w v h),fun p u h g=>let ⟨h1,g1⟩:=a.o p u h g;b.o p u h1 g1⟩
def Ex.ext (e:Ex K H μ H' μ'):Ext K H μ H' μ':=⟨fun _ _ h=>Rep.ex e.toEx0 h,e.o⟩
theorem Ext.s (e:Ext K H μ H' μ'):∀ {ws:List W} {xs:List V},aM K H μ ws xs->aM K H' μ' ws xs
 | [],_,h=>by rw [aM] at h |-;exact h
 | w::ws,_,h=>by
  rw [aM] at h |-
  obtain ⟨v,vs,e1,r,h⟩:=h;exact ⟨v,vs,e1,e.r _ _ r,Ext.s e h⟩
def XD:Option HO->Prop
 | some (.lst _)=>True
 | some (.dK _)=>True
 | some (.ins _ _ _)=>True
 | some (.ext _)=>True
 | _=>False
def nG {κ : Type}(K:abZ)(H:Hp)(μ : Mu):List (κ×W)->List (κ×V)->Prop:=adF fun (p:κ×W) (q:κ×V)=>p.1=q.1/\Rep K H μ p.2 q.2
def abf (x:List Int×Addr×acd):afM:=⟨reduceHash (Builtin.Tuple.tupleHashOf (x.1.map hashInt)),.ref x.2.1,x.2.2⟩
def CQ (a:Addr)(xs:List (List Int×Addr×acd))(h:Heap):Prop:=xs.length<=acM/\(a==aeu)=false/\(xs.map (·.1)).Nodup/\∃ o es ep,h.get? a=some o/\o.ExactDict/\o.data=.dict es ep/\es.toList=xs.map abf
def qW (K:abZ)(H:Hp)(μ : Mu)(p:Addr):Cell->Prop
 | .lst ws=>∃ xs,H p=some (.lst xs)/\aM K H μ ws xs
 | .obj C fs=>∃ dx fvs,H p=some (.ins C dx fvs)/\nG K H μ fs fvs
 | .dct kvs=>∃ kvv,H p=some (.dK kvv)/\nG K H μ kvs kvv
 | .dtt kvs=>∃ xs vs,H p=some (.ext (CQ p xs))/\kvs.map (·.1)=xs.map (·.1)/\Vals vs (xs.map (·.2.2))/\aM K H μ (kvs.map fun x=>W.tup (x.1.map W.int)) (xs.map fun x=>V.ref x.2.1)/\aM K H μ (kvs.map (·.2)) vs
structure Rel (K:abZ) (μ : Mu) (H:Hp) (h:Gh):Prop where
 inj:∀ m n p,μ.f m=some p->μ.f n=some p->m=n
 dom:∀ n p,μ.f n=some p->n<h.nx
 trk:∀ n p,μ.f n=some p->XD (H p)
 cel:∀ n c,h.c n=some c->∃ p,μ.f n=some p/\qW K H μ p c
 hd:∀ p,μ.hid p->(∃ xs,H p=some (.lst xs))/\∀ n,μ.f n≠some p
def qW.ext {p:Addr}{c:Cell}(e:Ext K H μ H' μ')(hp:H' p=H p)(x:qW K H μ p c):qW K H' μ' p c:=by
 cases c with
 | lst ws=>obtain ⟨xs,a,b⟩:=x;exact ⟨xs,hp.trans a,e.s b⟩
 | obj C fs=>obtain ⟨dx,fvs,a,b⟩:=x;exact ⟨dx,fvs,hp.trans a,Paired.mapP b fun _ _ z=>⟨z.1,e.r _ _ z.2⟩⟩
 | dct kvs=>obtain ⟨kvv,a,b⟩:=x;exact ⟨kvv,hp.trans a,Paired.mapP b fun _ _ z=>⟨z.1,e.r _ _ z.2⟩⟩
 | dtt kvs=>obtain ⟨xs,vs,a,b,c,d,f⟩:=x;exact ⟨xs,vs,hp.trans a,b,c,e.s d,e.s f⟩
def Rd.laid {p q:Addr}{o u:HO}(hp:H p=none)(r:Rd H q u):Rd (upd H p o) q u:=by
 have ne:q≠p:=by
  rcases r with r | ⟨_,r⟩
  ·exact aV r hp
  ·exact aV r hp
 unfold Rd;rw [aR ne];exact r
def Ex.laid {p:Addr}{o:HO}(hp:H p=none):Ex K H μ (upd H p o) μ where
 t:=fun q xs h=>by
  rcases h with h | h
  ·exact .inl<|h.laid hp
  ·exact .inr h
 l:=fun q xs h=>⟨by rw [aR (aV h.1 hp)];exact h.1,h.2⟩
 k:=fun q xs h=>by
  rcases h with ⟨o',h⟩ | h
  ·exact .inl ⟨o',by rw [aR<|aV h hp];exact h⟩
  ·exact .inr h
 m:=fun _ _ h=>h
 x:=fun q o' u e=>by rw [aR (aV e hp)];exact e
 y:=fun q fs e=>by rw [aR (aV e hp)];exact e
 o:=fun q u z e=>⟨z,by rw [aR (aV e hp)];exact e⟩
def Rel.laid {p:Addr}{o:HO}(R:Rel K μ H h)(hp:H p=none):Rel K μ (upd H p o) h where
 inj:=R.inj
 dom:=R.dom
 trk:=fun n q e=>by
  have:=R.trk n q e
  have ne:q≠p:=fun z=>by subst z;rw [hp] at this;exact this
  rw [aR ne];exact this
 cel:=fun n c e=>by
  obtain ⟨q,e1,x⟩:=R.cel n c e;have:=R.trk n q e1
  have ne:q≠p:=fun z=>by subst z;rw [hp] at this;exact this
  exact ⟨q,e1,x.ext (Ex.laid hp).ext (aR ne)⟩
 hd:=fun q z=>by
  obtain ⟨⟨xs,e⟩,g⟩:=R.hd q z;exact ⟨⟨xs,by rw [aR<|aV e hp];exact e⟩,g⟩
def Rep.tupNew {p:Addr}(hp:H p=none)(r:aM K H μ ws xs):Rep K (upd H p (.tup xs)) μ (.tup ws) (.ref p):=by
 rw [Rep];exact ⟨p,xs,rfl,SqT.of bB,(Ex.laid hp).ext.s r⟩
def Rep.lstNew {p:Addr}(R:Rel K μ H h)(hp:H p=none)(r:aM K H μ ws xs):Rep K (upd H p (.lst xs)) μ (.lst ws) (.ref p):=by
 rw [Rep];refine ⟨p,xs,rfl,⟨bB,fun n e=>?_,fun z=>?_⟩,(Ex.laid hp).ext.s r⟩
 ·have:=R.trk n p e
  rw [hp] at this;exact this
 ·obtain ⟨⟨xs,e⟩,_⟩:=R.hd p z;rw [hp] at e;cases e
def Mu.put (μ : Mu)(n:Nat)(p:Addr):Mu:=⟨fun m=>if m=n then some p else μ.f m,μ.hid⟩
def Mu.put_same {n:Nat}{p:Addr}:(μ.put n p).f n=some p:=by show (if n=n then some p else μ.f n)=_;rw [if_pos rfl]
def Mu.put_ne {n:Nat}{p:Addr}(e:m≠n):(μ.put n p).f m = μ.f m:=by show (if m=n then some p else μ.f m)=_;rw [if_neg e]
def Gh.new (h:Gh)(c:Cell):Gh:=⟨h.nx+1,fun m=>if m=h.nx then some c else h.c m⟩
def Gh.set (h:Gh)(n:Nat)(c:Cell):Gh:=⟨h.nx,fun m=>if m=n then some c else h.c m⟩
def Rel.dead (R:Rel K μ H h){n:Nat}(hn:h.nx<=n):μ.f n=none:=by
 cases e:μ.f n with
 | none=>rfl
 | some p=>exact absurd (R.dom n p e) (by omega)
def Ex.newCell {p:Addr}{o:HO}(R:Rel K μ H h)(hp:H p=none):Ex K H μ (upd H p o) (μ.put h.nx p) where
 t:=fun q xs z=>(Ex.laid (μ:=μ) hp).t q xs z
 l:=fun q xs z=>by
  have nq:=aV z.1 hp;refine ⟨by rw [aR nq];exact z.1,fun n e=>?_,z.2.2⟩;by_cases hn:n=h.nx
  ·subst hn;rw [Mu.put_same] at e;exact nq (acv e).symm
  ·rw [Mu.put_ne hn] at e;exact z.2.1 n e
 k:=fun q xs z=>(Ex.laid (μ:=μ) hp).k q xs z
 m:=fun n q e=>by
  have hn:n≠h.nx:=fun z=>by subst z;rw [R.dead (acj _)] at e;cases e
  rw [Mu.put_ne hn];exact e
 x:=fun q o' u e=>by rw [aR (aV e hp)];exact e
 y:=fun q fs e=>by rw [aR (aV e hp)];exact e
 o:=fun q u z e=>⟨z,by rw [aR (aV e hp)];exact e⟩
def Rel.newCell {p:Addr}{o:HO}{c:Cell}(R:Rel K μ H h)(hp:H p=none)(mo:XD (some o))(ck:qW K (upd H p o) (μ.put h.nx p) p c):Rel K (μ.put h.nx p) (upd H p o) (h.new c) where
 inj:=fun m n q em en=>by
  by_cases hm:m=h.nx
  ·by_cases hn:n=h.nx
   ·rw [hm,hn]
   ·rw [hm,Mu.put_same] at em;rw [Mu.put_ne hn] at en;have e:p=q:=acv em;subst e;have:=R.trk n _ en
    rw [hp] at this;exact this.elim
  ·rw [Mu.put_ne hm] at em;by_cases hn:n=h.nx
   ·rw [hn,Mu.put_same] at en;have e:p=q:=acv en;subst e;have:=R.trk m _ em
    rw [hp] at this;exact this.elim
   ·rw [Mu.put_ne hn] at en;exact R.inj m n q em en
 dom:=fun n q e=>by
  show n<h.nx+1;by_cases hn:n=h.nx
  ·omega
  ·rw [Mu.put_ne hn] at e;have:=R.dom n q e
   omega
 trk:=fun n q e=>by
  by_cases hn:n=h.nx
  ·rw [hn,Mu.put_same] at e;have e:p=q:=acv e;subst e;rw [bB];exact mo
  ·rw [Mu.put_ne hn] at e;have:=R.trk n q e
   have ne:q≠p:=fun z=>by subst z;rw [hp] at this;exact this
   rw [aR ne];exact this
 cel:=fun n d e=>by
  have e:(if n=h.nx then some c else h.c n)=some d:=e;by_cases hn:n=h.nx
  ·rw [if_pos hn] at e;have e:c=d:=acv e;subst e;exact ⟨p,by rw [hn,Mu.put_same],ck⟩
  ·rw [if_neg hn] at e;obtain ⟨q,e1,x⟩:=R.cel n d e;have:=R.trk n q e1
   have ne:q≠p:=fun z=>by subst z;rw [hp] at this;exact this
   exact ⟨q,by rw [Mu.put_ne hn];exact e1,x.ext (Ex.newCell R hp).ext (aR ne)⟩
 hd:=fun q z=>by
  obtain ⟨⟨xs,e⟩,g⟩:=R.hd q z;have ne:=aV e hp;refine ⟨⟨xs,by rw [aR ne];exact e⟩,fun n en=>?_⟩;by_cases hn:n=h.nx
  ·rw [hn,Mu.put_same] at en;exact ne (acv en).symm
  ·rw [Mu.put_ne hn] at en;exact g n en
def Rd.kept {p q:Addr}{o u:HO}(mo:XD (H p))(r:Rd H q u)(hn:q≠p):Rd (upd H p o) q u:=by
 unfold Rd;rw [aR hn];exact r
def Ex.write {n:Nat}{p:Addr}{o:HO}(R:Rel K μ H h)(hn:μ.f n=some p):Ex K H μ (upd H p o) μ where
 t:=fun q xs z=>by
  rcases z with z | z
  ·refine .inl<|z.kept (R.trk n p hn) fun e=>?_
   subst e;have:=R.trk n q hn
   rcases z with r | ⟨_,r⟩ <;> rw [r] at this <;> exact this
  ·exact .inr z
 l:=fun q xs z=>⟨by rw [aR (fun e=>z.2.1 n (by rw [e];exact hn))];exact z.1,z.2⟩
 k:=fun q xs z=>by
  rcases z with ⟨o',z⟩ | z
  ·refine .inl ⟨o',?_⟩;rw [aR (fun e=>?_)]
   ·exact z
   ·subst e;have:=R.trk n q hn
    rw [z] at this;exact this
  ·exact .inr z
 m:=fun _ _ e=>e
 x:=fun q o' u e=>by
  rw [aR (fun y=>?_)]
  ·exact e
  ·subst y;have:=R.trk n q hn
   rw [e] at this;exact this
 y:=fun q fs e=>by
  rw [aR (fun y=>?_)]
  ·exact e
  ·subst y;have:=R.trk n q hn
   rw [e] at this;exact this
 o:=fun q u z e=>⟨z,by rw [aR (fun y=>(R.hd q z).2 n (by rw [y];exact hn))];exact e⟩
def Rel.write {n:Nat}{p:Addr}{o:HO}{c:Cell}(R:Rel K μ H h)(hn:μ.f n=some p)(mo:XD (some o))(ck:qW K (upd H p o) μ p c):Rel K μ (upd H p o) (h.set n c) where
 inj:=R.inj
 dom:=R.dom
 trk:=fun m q e=>by
  by_cases z:q=p
  ·subst z;rw [bB];exact mo
  ·rw [aR z];exact R.trk m q e
 cel:=fun m d e=>by
  have e:(if m=n then some c else h.c m)=some d:=e;by_cases hm:m=n
  ·rw [if_pos hm] at e;have e:c=d:=acv e;subst e;exact ⟨p,by rw [hm];exact hn,ck⟩
  ·rw [if_neg hm] at e;obtain ⟨q,e1,x⟩:=R.cel m d e;have ne:q≠p:=fun z=>by subst z;exact hm (R.inj m n q e1 hn)
   exact ⟨q,e1,x.ext (Ex.write R hn).ext (aR ne)⟩
 hd:=fun q z=>by
  obtain ⟨⟨xs,e⟩,g⟩:=R.hd q z;exact ⟨⟨xs,by rw [aR<|fun y=>g n (by rw [y];exact hn)];exact e⟩,g⟩
mutual
def Lo (k:Nat):W->Prop
 | .tup ws=>Los k ws
 | .lst ws=>Los k ws
 | .kls ws=>Los k ws
 | .exa _ ws=>Los k ws
 | .loc n=>n<k
 | _=>True
def Los (k:Nat):List W->Prop
 | []=>True
 | w::ws=>Lo k w/\Los k ws
end
mutual
theorem Rep.lo {k:Nat}(hd:∀ n p,μ.f n=some p->n<k):∀ {w:W} {v:V},Rep K H μ w v->Lo k w
 | .non,_,_=>by rw [Lo] <;> first | trivial | (intros;contradiction)
 | .bl _,_,_=>by rw [Lo] <;> first | trivial | (intros;contradiction)
 | .int _,_,_=>by rw [Lo] <;> first | trivial | (intros;contradiction)
 | .str _,_,_=>by rw [Lo] <;> first | trivial | (intros;contradiction)
 | .ty _,_,_=>by rw [Lo] <;> first | trivial | (intros;contradiction)
 | .exc _,_,_=>by rw [Lo] <;> first | trivial | (intros;contradiction)
 | .fnv _ _,_,_=>by rw [Lo] <;> first | trivial | (intros;contradiction)
 | .exa _ ws,_,h=>by
  rw [Rep] at h;obtain ⟨_,_,_,_,_,_,_,_,_,_,_,_,hr⟩:=h;rw [Lo];exact aM.lo hd hr
 | .tup ws,_,h=>by
  rw [Rep] at h;obtain ⟨p,xs,_,_,hr⟩:=h;rw [Lo];exact aM.lo hd hr
 | .lst ws,_,h=>by
  rw [Rep] at h;obtain ⟨p,xs,_,_,hr⟩:=h;rw [Lo];exact aM.lo hd hr
 | .kls ws,_,h=>by
  rw [Rep] at h;obtain ⟨p,xs,_,_,hr⟩:=h;rw [Lo];exact aM.lo hd hr
 | .loc n,_,h=>by
  rw [Rep] at h;obtain ⟨p,_,hm⟩:=h;rw [Lo];exact hd n p hm
theorem aM.lo {k:Nat}(hd:∀ n p,μ.f n=some p->n<k):∀ {ws:List W} {xs:List V},aM K H μ ws xs->Los k ws
 | [],_,_=>by rw [Los];trivial
 | w::ws,_,h=>by
  rw [aM] at h;obtain ⟨v,vs,_,r,h⟩:=h;rw [Los];exact ⟨Rep.lo hd r,aM.lo hd h⟩
end
def Mu.cut (μ : Mu)(k:Nat):Mu:=⟨fun n=>if n<k then μ.f n else none,μ.hid⟩
def Mu.cut_some {k n:Nat}{p:Addr}(e:(μ.cut k).f n=some p):n<k/\μ.f n=some p:=by
 have e:(if n<k then μ.f n else none)=some p:=e;by_cases hn:n<k
 ·rw [if_pos hn] at e;exact ⟨hn,e⟩
 ·rw [if_neg hn] at e;cases e
mutual
theorem Rep.cut {k:Nat}:∀ {w:W} {v:V},Rep K H μ w v->Lo k w->Rep K H (μ.cut k) w v
 | .non,_,h,_=>by rw [Rep] at h |-;exact h
 | .bl _,_,h,_=>by rw [Rep] at h |-;exact h
 | .int _,_,h,_=>by rw [Rep] at h |-;exact h
 | .str _,_,h,_=>by rw [Rep] at h |-;exact h
 | .ty _,_,h,_=>by rw [Rep] at h |-;exact h
 | .exc _,_,h,_=>by rw [Rep] at h |-;exact h
 | .fnv _ _,_,h,_=>by rw [Rep] at h |-;exact h
 | .exa _ ws,_,h,l=>by
  rw [Rep] at h |-
  rw [Lo] at l;obtain ⟨p,o,u,dd,ns,xs,e1,hm,hx,hd,e2,e3,hr⟩:=h;exact ⟨p,o,u,dd,ns,xs,e1,hm,hx,hd,e2,e3,aM.cut hr l⟩
 | .tup ws,_,h,l=>by
  rw [Rep] at h |-
  rw [Lo] at l;obtain ⟨p,xs,e1,hs,hr⟩:=h;exact ⟨p,xs,e1,hs,aM.cut hr l⟩
 | .lst ws,_,h,l=>by
  rw [Rep] at h |-
  rw [Lo] at l;obtain ⟨p,xs,e1,hs,hr⟩:=h;exact ⟨p,xs,e1,⟨hs.1,fun n e=>hs.2.1 n (Mu.cut_some e).2,hs.2.2⟩,aM.cut hr l⟩
 | .kls ws,_,h,l=>by
  rw [Rep] at h |-
  rw [Lo] at l;obtain ⟨p,xs,e1,hs,hr⟩:=h;exact ⟨p,xs,e1,hs,aM.cut hr l⟩
 | .loc n,_,h,l=>by
  rw [Rep] at h |-
  rw [Lo] at l;obtain ⟨p,e1,hm⟩:=h;refine ⟨p,e1,?_⟩;show (if n<k then μ.f n else none)=some p;rw [if_pos l];exact hm
theorem aM.cut {k:Nat}:∀ {ws:List W} {xs:List V},aM K H μ ws xs->Los k ws->aM K H (μ.cut k) ws xs
 | [],_,h,_=>by rw [aM] at h |-;exact h
 | w::ws,_,h,l=>by
  rw [aM] at h |-
  rw [Los] at l;obtain ⟨v,vs,e1,r,h⟩:=h;exact ⟨v,vs,e1,Rep.cut r l.1,aM.cut h l.2⟩
end
end
variable {ws : List W}{μ' : Mu}
section
variable {K:abZ}{H H' H1 H2:Hp}{μ1 μ2 : Mu}{h h':Gh}{w:W}{v:V}{xs ys:List V}{p:Addr}
def Mu.hide (μ : Mu)(p:Addr):Mu:=⟨μ.f,fun q=>q=p\/μ.hid q⟩
def Mu.unhide (μ : Mu)(p:Addr):Mu:=⟨μ.f,fun q=>q≠p/\μ.hid q⟩
structure SJ (p:Addr) (K:abZ) (H:Hp) (μ : Mu) (H':Hp) (μ':Mu):Prop where
 r:∀ w v,Rep K H μ w v->Rep K H' μ' w v
 o:∀ q u,q≠p->μ.hid q->H q=some u->μ'.hid q/\H' q=some u
def Ext.x (a:Ext K H μ H1 μ1)(hp:¬ μ.hid p)(b:SJ p K H1 μ1 H2 μ2):Ext K H μ H2 μ2:=
 ⟨fun w v z=>b.r w v (a.r w v z),fun q u z e=>let ⟨z1,e1⟩:=a.o q u z e;b.o q u (fun y=>hp (by rw [<-y];exact z)) z1 e1⟩
def Ext.hide {o:HO}(hp:H p=none):Ext K H μ (upd H p o) (μ.hide p):=Ex.ext {
 t:=fun q xs z=>(Ex.laid (μ:=μ) hp).t q xs z
 l:=fun q xs z=>by
  have nq:=aV z.1 hp;refine ⟨by rw [aR nq];exact z.1,z.2.1,fun y=>?_⟩;rcases y with y | y
  ·exact nq y
  ·exact z.2.2 y
 k:=fun q xs z=>(Ex.laid (μ:=μ) hp).k q xs z
 m:=fun _ _ e=>e
 x:=fun q o' u e=>by rw [aR (aV e hp)];exact e
 y:=fun q fs e=>by rw [aR (aV e hp)];exact e
 o:=fun q u z e=>⟨.inr z,by rw [aR (aV e hp)];exact e⟩ }
def Rel.nohid (R:Rel K μ H h)(hp:H p=none):¬ μ.hid p:=fun z=>by
 obtain ⟨⟨xs,e⟩,_⟩:=R.hd p z;rw [hp] at e;cases e
def Rel.hide (R:Rel K μ H h)(hp:H p=none):Rel K (μ.hide p) (upd H p (.lst xs)) h where
 inj:=R.inj
 dom:=R.dom
 trk:=(R.laid hp).trk
 cel:=fun n c e=>by
  obtain ⟨q,e1,x⟩:=R.cel n c e;have:=R.trk n q e1
  have ne:q≠p:=fun z=>by subst z;rw [hp] at this;exact this
  exact ⟨q,e1,x.ext (Ext.hide hp)<|aR ne⟩
 hd:=fun q z=>by
  rcases z with z | z
  ·subst z;refine ⟨⟨xs,bB⟩,fun n e=>?_⟩;have:=R.trk n q e
   rw [hp] at this;exact this
  ·exact (R.laid (o:=.lst xs) hp).hd q z
def Ex0.grow (R:Rel K μ H h)(hp:μ.hid p):Ex0 K H μ (upd H p (.lst ys)) μ where
 t:=fun q xs z=>by
  rcases z with z | z
  ·refine .inl ?_;unfold Rd;rw [aR (fun y=>?_)]
   ·exact z
   ·subst y;obtain ⟨⟨xs',e⟩,_⟩:=R.hd q hp;rcases z with r | ⟨_,r⟩ <;> rw [e] at r <;> cases r
  ·exact .inr z
 l:=fun q xs z=>⟨by rw [aR (fun y=>z.2.2 (by rw [y];exact hp))];exact z.1,z.2⟩
 k:=fun q xs z=>by
  rcases z with ⟨o',z⟩ | z
  ·refine .inl ⟨o',?_⟩;rw [aR (fun y=>?_)]
   ·exact z
   ·subst y;obtain ⟨⟨xs',e⟩,_⟩:=R.hd q hp;rw [e] at z;cases z
  ·exact .inr z
 m:=fun _ _ e=>e
 x:=fun q o' u e=>by
  rw [aR (fun y=>?_)]
  ·exact e
  ·subst y;obtain ⟨⟨xs',e'⟩,_⟩:=R.hd q hp;rw [e'] at e;cases e
 y:=fun q fs e=>by
  rw [aR (fun y=>?_)]
  ·exact e
  ·subst y;obtain ⟨⟨xs',e'⟩,_⟩:=R.hd q hp;rw [e'] at e;cases e
def SJ.grow (R:Rel K μ H h)(hp:μ.hid p):SJ p K H μ (upd H p (.lst ys)) μ:=
 ⟨fun _ _ z=>Rep.ex (Ex0.grow R hp) z,fun q u ne z e=>⟨z,by rw [aR ne];exact e⟩⟩
def Rel.grow (R:Rel K μ H h)(hp:μ.hid p):Rel K μ (upd H p (.lst ys)) h where
 inj:=R.inj
 dom:=R.dom
 trk:=fun n q e=>by
  have ne:q≠p:=fun z=>(R.hd p hp).2 n (by rw [<-z];exact e)
  rw [aR ne];exact R.trk n q e
 cel:=fun n c e=>by
  obtain ⟨q,e1,x⟩:=R.cel n c e;have ne:q≠p:=fun z=>(R.hd p hp).2 n (by rw [<-z];exact e1)
  refine ⟨q,e1,?_⟩;cases c with
  | lst ws=>obtain ⟨xs,a,b⟩:=x;exact ⟨xs,(aR ne).trans a,aM.ex (Ex0.grow R hp) b⟩
  | obj C fs=>obtain ⟨dx,fvs,a,b⟩:=x;exact ⟨dx,fvs,(aR ne).trans a,Paired.mapP b fun _ _ z=>⟨z.1,Rep.ex (Ex0.grow R hp) z.2⟩⟩
  | dct kvs=>obtain ⟨kvv,a,b⟩:=x;exact ⟨kvv,(aR ne).trans a,Paired.mapP b fun _ _ z=>⟨z.1,Rep.ex (Ex0.grow R hp) z.2⟩⟩
  | dtt kvs=>obtain ⟨xs,vs,a,b,c,d,f⟩:=x;exact ⟨xs,vs,(aR ne).trans a,b,c,aM.ex (Ex0.grow R hp) d,aM.ex (Ex0.grow R hp) f⟩
 hd:=fun q z=>by
  by_cases e:q=p
  ·subst e;exact ⟨⟨ys,bB⟩,(R.hd q hp).2⟩
  ·rw [aR e];exact R.hd q z
def Ex0.unhide:Ex0 K H μ H (μ.unhide p) where
 t:=fun _ _ z=>z
 l:=fun q xs z=>⟨z.1,z.2.1,fun y=>z.2.2 y.2⟩
 k:=fun _ _ z=>z
 m:=fun _ _ e=>e
 x:=fun _ _ _ e=>e
 y:=fun _ _ e=>e
def SJ.unhide:SJ p K H μ H (μ.unhide p):=⟨fun _ _ z=>Rep.ex Ex0.unhide z,fun q u ne z e=>⟨⟨ne,z⟩,e⟩⟩
def Rel.unhide (R:Rel K μ H h):Rel K (μ.unhide p) H h where
 inj:=R.inj
 dom:=R.dom
 trk:=R.trk
 cel:=fun n c e=>by
  obtain ⟨q,e1,x⟩:=R.cel n c e;refine ⟨q,e1,?_⟩;cases c with
  | lst ws=>obtain ⟨xs,a,b⟩:=x;exact ⟨xs,a,aM.ex Ex0.unhide b⟩
  | obj C fs=>obtain ⟨dx,fvs,a,b⟩:=x;exact ⟨dx,fvs,a,Paired.mapP b fun _ _ z=>⟨z.1,Rep.ex Ex0.unhide z.2⟩⟩
  | dct kvs=>obtain ⟨kvv,a,b⟩:=x;exact ⟨kvv,a,Paired.mapP b fun _ _ z=>⟨z.1,Rep.ex Ex0.unhide z.2⟩⟩
  | dtt kvs=>obtain ⟨xs,vs,a,b,c,d,f⟩:=x;exact ⟨xs,vs,a,b,c,aM.ex Ex0.unhide d,aM.ex Ex0.unhide f⟩
 hd:=fun q z=>R.hd q z.2
def Rep.built (R:Rel K μ H h)(hp:μ.hid p)(e:H p=some (.lst xs))(r:aM K H μ ws xs):Rep K H (μ.unhide p) (.lst ws) (.ref p):=by
 rw [Rep];exact ⟨p,xs,rfl,⟨e,(R.hd p hp).2,fun z=>z.1 rfl⟩,aM.ex Ex0.unhide r⟩
end
abbrev Sw:=List (Option W)
abbrev WK:=W->Gh->Prop
abbrev ME:=Sw->Gh->WK->Prop
abbrev MT:=Sw->Gh->(Bool->Gh->Prop)->Prop
abbrev MA:=Sw->Gh->(List W->Gh->Prop)->Prop
structure bV where
 nx:Sw->Gh->Prop
 rt:WK
 bk:Sw->Gh->Prop:=fun _ _=>False
 ct:Sw->Gh->Prop:=fun _ _=>False
abbrev MS:=bV->Sw->Gh->Prop
abbrev MG:=W->Sw->Gh->(Sw->Gh->Prop)->Prop
abbrev MGs:=List W->Sw->Gh->(Sw->Gh->Prop)->Prop
structure Xw where
 cls:Str
 fs:List (Str×W)
abbrev XWK:=Xw->Gh->Prop
abbrev MSp:=List W->Gh->WK->XWK->Prop
def EF:XWK:=fun _ _=>False
structure Slots (K:abZ) (H:Hp) (μ : Mu) (Zw:Sw) (Z : St):Prop where
 len:Zw.length = Z.length
 get:∀ (i:Nat) (w:W),Zw[i]?=some (some w)->∃ v,Z[i]?=some (some v)/\Rep K H μ w v
def DQ (K:abZ)(H:Hp)(μ : Mu)(Q:WK):VK:=fun v H'=>∃ μ' w h',Ext K H μ H' μ'/\Rel K μ' H' h'/\Rep K H' μ' w v/\Q w h'
def DB (K:abZ)(H:Hp)(μ : Mu)(Q:Bool->Gh->Prop):Bool->Hp->Prop:=fun b H'=>∃ μ' h',Ext K H μ H' μ'/\Rel K μ' H' h'/\Q b h'
def DA (K:abZ)(H:Hp)(μ : Mu)(Q:List W->Gh->Prop):List V->Hp->Prop:=fun vs H'=>∃ μ' ws h',Ext K H μ H' μ'/\Rel K μ' H' h'/\aM K H' μ' ws vs/\Q ws h'
def DN (K:abZ)(H:Hp)(μ : Mu)(N:Sw->Gh->Prop):St->Hp->Prop:=fun Z' H'=>∃ μ' Zw' h',Ext K H μ H' μ'/\Rel K μ' H' h'/\Slots K H' μ' Zw' Z'/\N Zw' h'
section
variable {K:abZ}{H H' H1 H2:Hp}{μ1 μ2 : Mu}{h h' h1:Gh}{w:W}{v:V}{Z : St}{Zw:Sw}
def Slots.ext (S:Slots K H μ Zw Z)(e:Ext K H μ H' μ'):Slots K H' μ' Zw Z:=⟨S.len,fun i w q=>let ⟨v,a,b⟩:=S.get i w q;⟨v,a,e.r _ _ b⟩⟩
def Slots.set (S:Slots K H μ Zw Z)(r:Rep K H μ w v)(i:Nat):Slots K H μ (Zw.set i (some w)) (Z.set i (some v)):=by
 refine ⟨by rw [List.length_set,List.length_set,S.len],fun j u q=>?_⟩;rw [List.getElem?_set] at q |-
 by_cases hij:i=j
 ·rw [if_pos hij] at q |-
  by_cases hl:i < Zw.length
  ·rw [if_pos hl] at q;rw [if_pos (by rw [<-S.len];exact hl)];have e:w=u:=by injection q with q;injection q
   subst e;exact ⟨v,rfl,r⟩
  ·rw [if_neg hl] at q;cases q
 ·rw [if_neg hij] at q |-
  exact S.get j u q
def DQ.trans {Q:WK}(e:Ext K H μ H1 μ1)(q:DQ K H1 μ1 Q v H'):DQ K H μ Q v H':=let ⟨μ',w,h',a,b⟩:=q;⟨μ',w,h',e.trans a,b⟩
def DB.trans {Q:Bool->Gh->Prop}{b:Bool}(e:Ext K H μ H1 μ1)(q:DB K H1 μ1 Q b H'):DB K H μ Q b H':=let ⟨μ',h',a,b⟩:=q;⟨μ',h',e.trans a,b⟩
def DN.trans {N:Sw->Gh->Prop}{Z':St}(e:Ext K H μ H1 μ1)(q:DN K H1 μ1 N Z' H'):DN K H μ N Z' H':=let ⟨μ',w,h',a,b⟩:=q;⟨μ',w,h',e.trans a,b⟩
end
def tD (K:abZ)(m:ME):TE:=fun Z H Q=>∃ μ h Zw Qw,Rel K μ H h/\Slots K H μ Zw Z/\m Zw h Qw/\∀ v H',DQ K H μ Qw v H'->Q v H'
def tDT (K:abZ)(m:MT):TT:=fun Z H Q=>∃ μ h Zw Qw,Rel K μ H h/\Slots K H μ Zw Z/\m Zw h Qw/\∀ b H',DB K H μ Qw b H'->Q b H'
def tDA (K:abZ)(m:MA):TA:=fun Z H Q=>∃ μ h Zw Qw,Rel K μ H h/\Slots K H μ Zw Z/\m Zw h Qw/\∀ vs H',DA K H μ Qw vs H'->Q vs H'
def tDG (K:abZ)(g:MG):TG:=fun v Z H N=>∃ μ h Zw w Nw,Rel K μ H h/\Slots K H μ Zw Z/\Rep K H μ w v/\g w Zw h Nw/\∀ Z' H',DN K H μ Nw Z' H'->N Z' H'
def abq (K:abZ)(g:MGs):TGs:=fun vs Z H N=>∃ μ h Zw ws Nw,Rel K μ H h/\Slots K H μ Zw Z/\aM K H μ ws vs/\g ws Zw h Nw/\∀ Z' H',DN K H μ Nw Z' H'->N Z' H'
structure zq (K:abZ) (H:Hp) (μ : Mu) (Dw:bV) (D:Ends):Prop where
 nx:∀ Z' H',DN K H μ Dw.nx Z' H'->D.nx Z' H'
 rt:∀ v H',DQ K H μ Dw.rt v H'->D.rt v H'
 bk:∀ Z' H',DN K H μ Dw.bk Z' H'->D.bk Z' H'
 ct:∀ Z' H',DN K H μ Dw.ct Z' H'->D.ct Z' H'
def tDS (K:abZ)(m:MS):TS:=fun D Z H=>∃ μ h Zw Dw,Rel K μ H h/\Slots K H μ Zw Z/\m Dw Zw h/\zq K H μ Dw D
def zq.trans {K:abZ}{H H1:Hp}{μ μ1:Mu}{Dw:bV}{D:Ends}(k:zq K H μ Dw D)(e:Ext K H μ H1 μ1):zq K H1 μ1 Dw D:=
 ⟨fun _ _ q=>k.nx _ _ (q.trans e),fun _ _ q=>k.rt _ _ (q.trans e),fun _ _ q=>k.bk _ _ (q.trans e),fun _ _ q=>k.ct _ _ (q.trans e)⟩
section
variable {X:Cx}{e:Expr}{es:List Expr}{st:Stmt}{sts:List Stmt}
def PE.of {t t':TE}(h:PE X e t)(k:∀ Z H Q,t' Z H Q->t Z H Q):PE X e t':=fun ahW s Z H Q I q=>h ahW s Z H Q I (k Z H Q q)
def PT.of {t t':TT}(h:PT X e t)(k:∀ Z H Q,t' Z H Q->t Z H Q):PT X e t':=fun ahW s Z H Q I q=>h ahW s Z H Q I (k Z H Q q)
def PW.of {t t':TT}(h:PW X e t)(k:∀ Z H Q,t' Z H Q->t Z H Q):PW X e t':=fun wh ahW s Z H Q I q=>h wh ahW s Z H Q I (k Z H Q q)
def PA.of {t t':TA}(h:PA X es t)(k:∀ Z H Q,t' Z H Q->t Z H Q):PA X es t':=fun pos ahW s Z H Q I q=>h pos ahW s Z H Q I (k Z H Q q)
def PG.of {t t':TG}(h:PG X e t)(k:∀ v Z H Q,t' v Z H Q->t v Z H Q):PG X e t':=fun ahW s Z H v u Q I r q=>h ahW s Z H v u Q I r (k v Z H Q q)
def PGs.of {t t':TGs}(h:PGs X es t)(k:∀ v Z H Q,t' v Z H Q->t v Z H Q):PGs X es t':=fun ahW s Z H v u Q I r q=>h ahW s Z H v u Q I r (k v Z H Q q)
def PS.of {t t':TS}(h:PS X st t)(k:∀ D Z H,t' D Z H->t D Z H):PS X st t':=fun ahW s Z H D I q=>h ahW s Z H D I (k D Z H q)
def PSs.of {t t':TS}(h:PSs X sts t)(k:∀ D Z H,t' D Z H->t D Z H):PSs X sts t':=fun ahW s Z H D I q=>h ahW s Z H D I (k D Z H q)
end
abbrev DE (X:Cx)(e:Expr)(m:ME):Prop:=PE X e (tD X.K m)
abbrev DT (X:Cx)(e:Expr)(m:MT):Prop:=PT X e (tDT X.K m)
abbrev DWt (X:Cx)(e:Expr)(m:MT):Prop:=PW X e (tDT X.K m)
abbrev DAs (X:Cx)(es:List Expr)(m:MA):Prop:=PA X es (tDA X.K m)
abbrev DG (X:Cx)(e:Expr)(m:MG):Prop:=PG X e (tDG X.K m)
abbrev XC (X:Cx)(es:List Expr)(m:MGs):Prop:=PGs X es (abq X.K m)
abbrev DS (X:Cx)(st:Stmt)(m:MS):Prop:=PS X st (tDS X.K m)
abbrev DSs (X:Cx)(st:List Stmt)(m:MS):Prop:=PSs X st (tDS X.K m)
section
variable {X:Cx}{e a b c:Expr}{ma mb mc:ME}{pos:Pos}
def aA (i:Nat):ME:=fun Z h Q=>match Z[i]? with
 | some (some w)=>Q w h
 | _=>False
def mC (w:W):ME:=fun _ h Q=>Q w h
def dv (i:Nat)(he:PE X e (YJ i)):DE X e (aA i):=he.of fun Z H Q ⟨μ,h,Zw,Qw,R,S,m,k⟩=>by
 unfold aA at m;cases q:Zw[i]? with
 | none=>rw [q] at m;exact m.elim
 | some o=>
  rw [q] at m;cases o with
  | none=>exact m.elim
  | some w=>
   obtain ⟨v,h1,h2⟩:=S.get i w q;exact ⟨v,h1,k _ _ ⟨μ,w,h,.refl,R,h2,m⟩⟩
def dc {w:W}{v:V}(he:PE X e (tC v))(r:∀ H μ,Rep X.K H μ w v):DE X e (mC w):=he.of fun Z H Q ⟨μ,h,Zw,Qw,R,S,m,k⟩=>k _ _ ⟨μ,w,h,.refl,R,r H μ,m⟩
def aF {i:Int}{j pos}:DE X (.Constant (.int i) j pos) (mC (.int i)):=dc TX fun _ _=>by rw [Rep]
def Ka {i:Bool}{j pos}:DE X (.Constant (.bool i) j pos) (mC (.bl i)):=dc ZP fun _ _=>by rw [Rep]
def Va {j pos}:DE X (.Constant .none j pos) (mC .non):=dc U8 fun _ _=>by rw [Rep]
def bI {i:Str}{j pos}:DE X (.Constant (.str i) j pos) (mC (.str i)):=dc Mj fun _ _=>by rw [Rep]
abbrev M2:=W->W->Gh->WK->Prop
def mOp (r:M2)(ma mb:ME):ME:=fun Z h Q=>ma Z h fun x h1=>mb Z h1 fun y h2=>r x y h2 Q
def aay (K:abZ)(r:R2)(mr:M2):Prop:=∀ {H:Hp} {μ : Mu} {h:Gh} {x y:V} {wx wy:W} {Qw:WK} {Q:VK},Rel K μ H h->Rep K H μ wx x->Rep K H μ wy y->mr wx wy h Qw ->
 (∀ v H',DQ K H μ Qw v H'->Q v H')->r x y H Q
def two {K:abZ}{Z : St}{H:Hp}{Q:VK}{mr:M2}{R2':V->V->Hp->Prop}(h:tD K (mOp mr ma mb) Z H Q)
  (k:∀ {H2:Hp} {μ2:Mu} {h2:Gh} {x y:V} {wx wy:W} {Qw:WK},Rel K μ2 H2 h2->Rep K H2 μ2 wx x->Rep K H2 μ2 wy y->mr wx wy h2 Qw->(∀ v H',DQ K H2 μ2 Qw v H'->Q v H')->R2' x y H2) :
  tD K ma Z H fun x H1=>tD K mb Z H1 fun y H2=>R2' x y H2:=by
 obtain ⟨μ,g,Zw,Qw,R,S,m,q⟩:=h;refine ⟨μ,g,Zw,_,R,S,m,fun x H1 ⟨μ1,wx,h1,e1,R1,r1,m1⟩=>?_⟩;refine ⟨μ1,h1,Zw,_,R1,S.ext e1,m1,fun y H2 ⟨μ2,wy,h2,e2,R2,r2,m2⟩=>?_⟩;exact k R2 (e2.r _ _ r1) r2 m2 fun v H' z=>q _ _<|(z.trans e2).trans e1
def DOp (X:Cx)(f:acd->acd->Sem acd)(mr:M2):Prop:=∃ r,OpR X f r/\aay X.K r mr
def bM {op:Operator}{mr:M2}(ho:DOp X (aeN op) mr)(ha:DE X a ma)(hb:DE X b mb):DE X (.BinOp a op b pos) (mOp mr ma mb):=by
 obtain ⟨r,o,s⟩:=ho;exact (X6 o ha hb).of fun Z H Q h=>two h fun R r1 r2 m k=>s R r1 r2 m k
def Yh {op:CmpOp}{mr:M2}(ho:DOp X (adW op) mr)(ha:DE X a ma)(hb:DE X b mb)(hm:afR op b=false):DE X (.Compare a [op] [b] pos) (mOp mr ma mb):=by
 obtain ⟨r,o,s⟩:=ho;exact (O5 o ha hb hm).of fun Z H Q h=>two h fun R r1 r2 m k=>s R r1 r2 m k
def bN (m:ME):MT:=fun Z h Q=>m Z h fun w h1=>match w with
 | .bl c=>Q c h1
 | _=>False
def NP {K:abZ}{Z : St}{H:Hp}{m:ME}{Q:Bool->Hp->Prop}(h:tDT K (bN m) Z H Q):tD K m Z H fun x H'=>∃ k,x=.bl k/\Q k H':=by
 obtain ⟨μ,g,Zw,Qw,R,S,mm,q⟩:=h;refine ⟨μ,g,Zw,_,R,S,mm,fun v H' ⟨μ1,w,h1,e1,R1,r1,m1⟩=>?_⟩;cases w with
 | bl c=>rw [Rep] at r1;exact ⟨c,r1,q _ _ ⟨μ1,h1,e1,R1,m1⟩⟩
 | _=>exact m1.elim
def Ws {op:CmpOp}{mr:M2}(ho:DOp X (adW op) mr)(ha:DE X a ma)(hb:DE X b mb)(hm:afR op b=false):DT X (.Compare a [op] [b] pos) (bN (mOp mr ma mb)):=by
 obtain ⟨r,o,s⟩:=ho;exact (QL o ha hb hm).of fun Z H Q h=>two (NP h) fun R r1 r2 m k=>s R r1 r2 m k
def by2 (c:Bool)(a b:Prop):Prop:=match c with
 | true=>a
 | false=>b
def br (c:Bool)(a b:Prop):Prop:=(c=true->a)/\(c=false->b)
def CT {c:Bool}{a b:Prop}(e:c=true)(x:a):br c a b:=⟨fun _=>x,fun z=>by rw [e] at z;cases z⟩
def fX {c:Bool}{a b:Prop}(e:c=false)(x:b):br c a b:=⟨fun z=>(by rw [e] at z;cases z),fun _=>x⟩
def wC {c:Prop}[Decidable c]{a b:Prop}(x:c->a)(y:¬ c->b):br (decide c) a b:=⟨fun e=>x (of_decide_eq_true e),fun e=>y (of_decide_eq_false e)⟩
def ZQ (t u:MT):MT:=fun Z h Q=>t Z h fun c h1=>br c (u Z h1 Q) (Q false h1)
def mOr (t u:MT):MT:=fun Z h Q=>t Z h fun c h1=>br c (Q true h1) (u Z h1 Q)
def Ja (t:MT):MT:=fun Z h Q=>t Z h fun c h1=>Q (!c) h1
variable {tA tB':MT}{rest:List Expr}
def PJ (ha:DT X a tA):DWt X (.BoolOp .And [a] pos) tA:=Rv ha
def j5 (ha:DT X a tA):DWt X (.BoolOp .Or [a] pos) tA:=Tp ha
def Wr (ha:DT X a tA)(hb:DWt X (.BoolOp .And (b::rest) pos) tB'):DWt X (.BoolOp .And (a::b::rest) pos) (ZQ tA tB'):=(T6 ha hb).of fun Z H Q ⟨μ,g,Zw,Qw,R,S,m,q⟩=>by
 refine ⟨μ,g,Zw,_,R,S,m,fun c H1 ⟨μ1,h1,e1,R1,m1⟩=>?_⟩;cases c with
 | true=>
  rw [if_pos rfl];exact ⟨μ1,h1,Zw,_,R1,S.ext e1,m1.1 rfl,fun b H' z=>q _ _<|z.trans e1⟩
 | false=>
  rw [if_neg acZ];exact q _ _ ⟨μ1,h1,e1,R1,m1.2 rfl⟩
def lQ (ha:DT X a tA)(hb:DWt X (.BoolOp .Or (b::rest) pos) tB'):DWt X (.BoolOp .Or (a::b::rest) pos) (mOr tA tB'):=(Yi ha hb).of fun Z H Q ⟨μ,g,Zw,Qw,R,S,m,q⟩=>by
 refine ⟨μ,g,Zw,_,R,S,m,fun c H1 ⟨μ1,h1,e1,R1,m1⟩=>?_⟩;cases c with
 | true=>
  rw [if_pos rfl];exact q _ _ ⟨μ1,h1,e1,R1,m1.1 rfl⟩
 | false=>
  rw [if_neg acZ];exact ⟨μ1,h1,Zw,_,R1,S.ext e1,m1.2 rfl,fun b H' z=>q _ _<|z.trans e1⟩
def oY (ha:DT X a tA):DT X (.UnaryOp .Not a pos) (Ja tA):=(Xk ha).of fun Z H Q ⟨μ,g,Zw,Qw,R,S,m,q⟩=>
 ⟨μ,g,Zw,_,R,S,m,fun c H1 ⟨μ1,h1,e1,R1,m1⟩=>q _ _ ⟨μ1,h1,e1,R1,m1⟩⟩
def Y9 (a b:ME):ME:=fun Z h Q=>a Z h fun x h1=>match x with
 | .bl true=>b Z h1 Q
 | .bl false=>Q (.bl false) h1
 | _=>False
def aa4 (a b:ME):ME:=fun Z h Q=>a Z h fun x h1=>match x with
 | .bl false=>b Z h1 Q
 | .bl true=>Q (.bl true) h1
 | _=>False
def YD (a:ME):ME:=fun Z h Q=>a Z h fun x h1=>match x with
 | .bl c=>Q (.bl (!c)) h1
 | _=>False
def mIf (t:MT)(a b:ME):ME:=fun Z h Q=>t Z h fun c h1=>br c (a Z h1 Q) (b Z h1 Q)
def aaX (hc:DT X c tA)(ha:DE X a ma)(hb:DE X b mb):DE X (.IfExp c a b pos) (mIf tA ma mb):=(Jd hc ha hb).of fun Z H Q ⟨μ,g,Zw,Qw,R,S,m,q⟩=>by
 refine ⟨μ,g,Zw,_,R,S,m,fun c H1 ⟨μ1,h1,e1,R1,m1⟩=>?_⟩;cases c with
 | true=>
  rw [if_pos rfl];exact ⟨μ1,h1,Zw,_,R1,S.ext e1,m1.1 rfl,fun b H' z=>q _ _<|z.trans e1⟩
 | false=>
  rw [if_neg acZ];exact ⟨μ1,h1,Zw,_,R1,S.ext e1,m1.2 rfl,fun b H' z=>q _ _<|z.trans e1⟩
def mUn (r:W->Gh->WK->Prop)(a:ME):ME:=fun Z h Q=>a Z h fun x h1=>r x h1 Q
def aaf:W->Gh->WK->Prop:=fun x h Q=>match x with
 | .int i=>Q (.int (-i)) h
 | _=>False
def Y8 (ha:DE X a ma):DE X (.UnaryOp .USub a pos) (mUn aaf ma):=(Ze W7 ha).of fun Z H Q ⟨μ,g,Zw,Qw,R,S,m,q⟩=>by
 refine ⟨μ,g,Zw,_,R,S,m,fun v H1 ⟨μ1,w,h1,e1,R1,r1,m1⟩=>?_⟩;cases w with
 | int i=>rw [Rep] at r1;exact ⟨i,r1,q _ _ ⟨μ1,.int (-i),h1,e1,R1,by rw [Rep],m1⟩⟩
 | _=>exact m1.elim
def aL:MA:=fun _ h Q=>Q [] h
def ao (a:ME)(r:MA):MA:=fun Z h Q=>a Z h fun x h1=>r Z h1 fun xs h2=>Q (x::xs) h2
variable {es:List Expr}{mr:MA}
def oU:DAs X [] aL:=V4.of fun Z H Q ⟨μ,g,Zw,Qw,R,S,m,q⟩=>q _ _ ⟨μ,[],g,.refl,R,.nil,m⟩
def PK (ha:DE X e ma)(hr:DAs X es mr)(hs:acN (e::es) X.env=(false,eval e X.env)::acN es X.env:=by rfl):DAs X (e::es) (ao ma mr):=(Q8 ha hr hs).of fun Z H Q ⟨μ,g,Zw,Qw,R,S,m,q⟩=>by
 refine ⟨μ,g,Zw,_,R,S,m,fun v H1 ⟨μ1,w,h1,e1,R1,r1,m1⟩=>?_⟩;refine ⟨μ1,h1,Zw,_,R1,S.ext e1,m1,fun vs H2 ⟨μ2,ws,h2,e2,R2,r2,m2⟩=>?_⟩;exact q _ _ ⟨μ2,w::ws,h2,e1.trans e2,R2,.cons (e2.r _ _ r1) r2,m2⟩
def fL (n:Nat)(P:Prop):Prop:=by2 (agR n 1000) P (n<=acM/\P)
def fL.ok {n:Nat}{P:Prop}(h:fL n P):n<=acM/\P:=by
 unfold fL at h;cases e:agR n 1000 with
 | true=>rw [e] at h;exact ⟨acq (afA e) (by decide),h⟩
 | false=>rw [e] at h;exact h
def fL.mk {n:Nat}{P:Prop}(hn:n<=acM)(h:P):fL n P:=by
 unfold fL;cases e:agR n 1000 with
 | true=>exact h
 | false=>exact ⟨hn,h⟩
def je (t:MA):ME:=fun Z h Q=>t Z h fun ws h1=>fL ws.length (Q (.tup ws) h1)
def lD (t:MA):ME:=fun Z h Q=>t Z h fun ws h1=>fL ws.length (Q (.lst ws) h1)
def vM (t:MA):ME:=fun Z h Q=>t Z h fun ws h1=>fL ws.length (Q (.loc h1.nx) (h1.new (.lst ws)))
def d8 {x1}(h:DAs X es mr):DE X (.Tuple es x1 pos) (je mr):=(Ug h).of fun Z H Q ⟨μ,g,Zw,Qw,R,S,m,q⟩=>
 ⟨μ,g,Zw,_,R,S,m,fun vs H1 ⟨μ1,ws,h1,e1,R1,r1,sz⟩=>⟨by rw [<-r1.len];exact sz.ok.1,fun p hp=>q _ _ ⟨μ1,.tup ws,h1,e1.trans (Ex.laid hp).ext,R1.laid hp,.tupNew hp r1,sz.ok.2⟩⟩⟩
def eZ (h:DAs X es mr):DE X (.List es pos) (lD mr):=(Mv h).of fun Z H Q ⟨μ,g,Zw,Qw,R,S,m,q⟩=>
 ⟨μ,g,Zw,_,R,S,m,fun vs H1 ⟨μ1,ws,h1,e1,R1,r1,sz⟩=>⟨by rw [<-r1.len];exact sz.ok.1,fun p hp=>q _ _ ⟨μ1,.lst ws,h1,e1.trans (Ex.laid hp).ext,R1.laid hp,.lstNew R1 hp r1,sz.ok.2⟩⟩⟩
def W3 {K:abZ}{H:Hp}{h:Gh}{p:Addr}{xs:List V}(R:Rel K μ H h)(hp:H p=none)(r:aM K H μ ws xs):
  Rel K (μ.put h.nx p) (upd H p (.lst xs)) (h.new (.lst ws)):=R.newCell hp trivial ⟨xs,bB,(Ex.newCell R hp).ext.s r⟩
def uF (h:DAs X es mr):DE X (.List es pos) (vM mr):=(Mv h).of fun Z H Q ⟨μ,g,Zw,Qw,R,S,m,q⟩=>
 ⟨μ,g,Zw,_,R,S,m,fun vs H1 ⟨μ1,ws,h1,e1,R1,r1,sz⟩=>⟨by rw [<-r1.len];exact sz.ok.1,fun p hp=>q _ _ ⟨μ1.put h1.nx p,.loc h1.nx,h1.new (.lst ws),e1.trans (Ex.newCell R1 hp).ext,W3 R1 hp r1,by rw [Rep];exact ⟨p,rfl,Mu.put_same⟩,sz.ok.2⟩⟩⟩
def lift (K:abZ)(ms:MSp):Sp:=fun vs H Q _=>∃ μ h ws Qw,Rel K μ H h/\aM K H μ ws vs/\ms ws h Qw EF/\∀ v H',DQ K H μ Qw v H'->Q v H'
def aJ (ms:MSp)(E:XWK)(ma:MA):ME:=fun Z h Q=>ma Z h fun ws h1=>ms ws h1 Q E
def call_of {K:abZ}{Z : St}{H:Hp}{Q:VK}{E:XK}{ms:MSp}{ma:MA}(h:tD K (aJ ms EF ma) Z H Q):Tz (lift K ms) [] E (tDA K ma) Z H Q:=by
 obtain ⟨μ,g,Zw,Qw,R,S,m,q⟩:=h;refine ⟨μ,g,Zw,_,R,S,m,fun vs H1 ⟨μ1,ws,h1,e1,R1,r1,m1⟩=>?_⟩;show lift K ms (vs++[]) H1 Q E;rw [aeT];exact ⟨μ1,h1,ws,Qw,R1,r1,m1,fun v H' z=>q _ _<|z.trans e1⟩
def S9 {k:Nat}{f:Addr}{fd:aeV}{ps:List Str}{ms:MSp}{x:Str}{p:Pos}(F:qC X.prog X.w X.K X.mg X.base CX0 k f fd ps (lift X.K ms))(hr:nF k X.A)(hg:Gl X x)(hm:X.mg x=some (.ref f))(hk:aeK X.K (.ref f)=true)
  (hb:Binds X.K fd ps []) (ha:DAs X (e::es) mr) (hdb:(x==("__debug__" : Str))=false:=by decide) (he:acN (e::es) X.env=(false,eval e X.env)::acN es X.env:=by rfl) (hpl:(afj pos (acN es X.env)).any (·.1)=false:=by rfl) :
  DE X (.Call (.Name x p) (e::es) [] pos) (aJ ms EF mr):=(O2 F hr hg hm hk hb .nil Zb ha hdb he hpl).of fun _ _ _ h=>call_of h
def Xz (h:Gh)(w:W):Option Bool:=match w with
 | .non=>some false
 | .bl b=>some b
 | .int i=>some (i != 0)
 | .tup ws=>some (!ws.isEmpty)
 | .lst ws=>some (!ws.isEmpty)
 | .kls ws=>some (!ws.isEmpty)
 | .loc n=>(match h.c n with
  | some (.lst ws)=>some (!ws.isEmpty)
  | _=>none)
 | _=>none
def Cz (m:ME):MT:=fun Z h Q=>m Z h fun w h1=>match Xz h1 w with
 | some b=>Q b h1
 | none=>False
def aM.emp {K:abZ}{H:Hp}{xs:List V}(r:aM K H μ ws xs):ws.isEmpty=xs.isEmpty:=by
 have:=r.len
 cases ws <;> cases xs <;> first | rfl | cases this
def jW (he:DE X e ma)(h:∀ whole,isTrue e X.env whole=(do let v <-whole;standAt e.pos;holding [v] (truthy v)):=by intro _;rfl):DT X e (Cz ma):=(JN he h).of fun Z H Q ⟨μ,g,Zw,Qw,R,S,m,q⟩=>by
 refine ⟨μ,g,Zw,_,R,S,m,fun v H1 ⟨μ1,w,h1,e1,R1,r1,m1⟩=>?_⟩;dsimp only at m1;split at m1
 ·rename_i b eb;refine ⟨b,?_,q _ _ ⟨μ1,h1,e1,R1,m1⟩⟩;cases w with
  | non=>rw [Rep] at r1;subst r1;cases eb;rfl
  | bl c=>rw [Rep] at r1;subst r1;cases eb;rfl
  | int c=>rw [Rep] at r1;subst r1;cases eb;rfl
  | tup ws=>
   rw [Rep] at r1;obtain ⟨p,xs,ev,hs,rs⟩:=r1;subst ev;cases eb;exact .inr<|.inl ⟨xs,hs,by rw [rs.emp]⟩
  | lst ws=>
   rw [Rep] at r1;obtain ⟨p,xs,ev,hs,rs⟩:=r1;subst ev;cases eb;exact .inl ⟨xs,hs.sq,by rw [rs.emp]⟩
  | kls ws=>
   rw [Rep] at r1;obtain ⟨p,xs,ev,hs,rs⟩:=r1;subst ev;cases eb;exact .inl ⟨xs,hs.sq,by rw [rs.emp]⟩
  | loc n=>
   rw [Rep] at r1;obtain ⟨p,ev,hm⟩:=r1;subst ev;unfold Xz at eb;dsimp only at eb;cases ec:h1.c n with
   | none=>rw [ec] at eb;cases eb
   | some cl=>
    rw [ec] at eb;cases cl with
    | lst ws=>
     cases eb;obtain ⟨p',hm',xs,hx,rs⟩:=R1.cel n _ ec;have ep:p'=p:=by rw [hm] at hm';exact (acv hm').symm
     subst ep;exact .inl ⟨xs,.of hx,by rw [rs.emp]⟩
    | _=>cases eb
  | _=>cases eb
 ·exact m1.elim
abbrev MC:=List W->Gh->WK->Prop
def mCB (r:MC)(ma:MA):ME:=fun Z h Q=>ma Z h fun ws h1=>r ws h1 Q
def aas (K:abZ)(r:List V->Hp->VK->Prop)(mr:MC):Prop:=∀ {H:Hp} {μ : Mu} {h:Gh} {vs:List V} {ws:List W} {Qw:WK} {Q:VK},Rel K μ H h->aM K H μ ws vs->mr ws h Qw->(∀ v H',DQ K H μ Qw v H'->Q v H')->r vs H Q
def fM (X:Cx)(f:acd)(mr:MC):Prop:=∃ r,gk X f r/\aas X.K r mr
def Vd {K:abZ}{Z : St}{H:Hp}{Q:VK}{r:List V->Hp->VK->Prop}{mc:MC}{ma:MA}(s:aas K r mc)(h:tD K (mCB mc ma) Z H Q):tCB r (tDA K ma) Z H Q:=by
 obtain ⟨μ,g,Zw,Qw,R,S,m,q⟩:=h;exact ⟨μ,g,Zw,_,R,S,m,fun vs H1 ⟨μ1,ws,h1,e1,R1,r1,m1⟩=>s R1 r1 m1 fun v H' z=>q _ _<|z.trans e1⟩
def Ry {x:Str}{p:Pos}{id:String}{mc:MC}(hc:fM X (.builtin id) mc)(hg:Gl X x)(hm:X.mg x=none)(hv:afs x=some (.builtin id))(ha:DAs X (e::es) mr)(hn:x ≠ "__name__":=by decide)(hdb:(x==("__debug__" : Str))=false:=by decide)
  (he:acN (e::es) X.env=(false,eval e X.env)::acN es X.env:=by rfl) (hpl:(afj pos (acN es X.env)).any (·.1)=false:=by rfl):DE X (.Call (.Name x p) (e::es) [] pos) (mCB mc mr):=by
 obtain ⟨r,c,s⟩:=hc;exact (JM c hg hm hv ha hn hdb he hpl).of fun _ _ _ h=>Vd s h
def Jv {x:Str}{p:Pos}{T:String}{mc:MC}(hc:fM X (.type T) mc)(hg:Gl X x)(hm:X.mg x=none)(hv:afs x=some (.type T))(ha:DAs X (e::es) mr)(hn:x ≠ "__name__":=by decide)(hdb:(x==("__debug__" : Str))=false:=by decide)
  (he:acN (e::es) X.env=(false,eval e X.env)::acN es X.env:=by rfl) (hpl:(afj pos (acN es X.env)).any (·.1)=false:=by rfl):DE X (.Call (.Name x p) (e::es) [] pos) (mCB mc mr):=by
 obtain ⟨r,c,s⟩:=hc;exact (Fw c hg hm hv ha hn hdb he hpl).of fun _ _ _ h=>Vd s h
end
variable {mr : MA}{ma mb : ME}{ms : MSp}
section
variable {X:Cx}{e a b c tg:Expr}{mc:ME}{pos:Pos}{es:List Expr}
def nName (i:Nat):MG:=fun w Z h N=>N (Z.set i (some w)) h
def Qm {i:Nat}(hg:PG X e (Hy i)):DG X e (nName i):=hg.of fun v Z H N ⟨μ,h,Zw,w,Nw,R,S,r,m,k⟩=>k _ _ ⟨μ,Zw.set i (some w),h,.refl,R,S.set r i,m⟩
def wD:MGs:=fun ws Z h N=>match ws with
 | []=>N Z h
 | _=>False
def bY (g:MG)(r:MGs):MGs:=fun ws Z h N=>match ws with
 | w::ws'=>g w Z h fun Z1 h1=>r ws' Z1 h1 N
 | []=>False
def dR:XC X [] wD:=GR.of fun vs Z H N ⟨μ,h,Zw,ws,Nw,R,S,r,m,k⟩=>by
 cases ws with
 | nil=>rw [aM] at r;exact ⟨r,k _ _ ⟨μ,Zw,h,.refl,R,S,m⟩⟩
 | cons w ws=>exact m.elim
def aQ {g:MG}{u:MGs}(h1:DG X e g)(h2:XC X es u)(hs:(aef (e::es) X.env).map (·.2)=assign e X.env::(aef es X.env).map (·.2):=by rfl):XC X (e::es) (bY g u):=(rM h1 h2 hs).of fun vs Z H N ⟨μ,h,Zw,ws,Nw,R,S,r,m,k⟩=>by
 cases ws with
 | nil=>exact m.elim
 | cons w ws=>
  rw [aM] at r;obtain ⟨v,vr,ev,r1,r2⟩:=r;refine ⟨v,vr,ev,μ,h,Zw,w,_,R,S,r1,m,fun Z1 H1 ⟨μ1,Zw1,h1,e1,R1,S1,m1⟩=>?_⟩;exact ⟨μ1,h1,Zw1,ws,_,R1,S1,e1.s r2,m1,fun Z2 H2 z=>k _ _<|z.trans e1⟩
def aaF (n:Nat)(g:MGs):MG:=fun w Z h N=>match w with
 | .tup ws=>by2 (afu ws.length n) (g ws Z h N) False
 | _=>False
abbrev RQ:=W->W->W->Gh->(Gh->Prop)->Prop
def zH (K:abZ)(t:Q9)(ms:RQ):Prop:=∀ {H:Hp} {μ : Mu} {h:Gh} {o i v:V} {wo wi w:W} {Nw:Gh->Prop} {N:Hp->Prop},Rel K μ H h->Rep K H μ wo o->Rep K H μ wi i->Rep K H μ w v->ms wo wi w h Nw ->
 (∀ H',(∃ μ' h',Ext K H μ H' μ'/\Rel K μ' H' h'/\Nw h')->N H')->t o i v H N
def Je (mo mi:ME)(ms:RQ):MG:=fun w Z h N=>mo Z h fun o h1=>mi Z h1 fun i h2=>ms o i w h2 fun h3=>N Z h3
def oh {o i:Expr}{mo mi:ME}{t:Q9}{ms:RQ}(ho:DE X o mo)(hi:DE X i mi)(hs:W5 X t)(hm:zH X.K t ms)
  (ha:∀ v,assign (.Subscript o i pos) X.env v=(do
   let ov <-holding [v] (eval o X.env)
   let iv <-holding [v,ov] (eval i X.env)
   standAt pos
   holding [v,ov,iv] (setItem ov iv v)
   release [v,ov,iv] []):=by intro _;rfl):DG X (.Subscript o i pos) (Je mo mi ms):=
 (Tq ho hi hs ha).of fun v Z H N ⟨μ,h,Zw,w,Nw,R,S,r,m,k⟩=>by
  refine ⟨μ,h,Zw,_,R,S,m,fun o H1 ⟨μ1,wo,h1,e1,R1,r1,m1⟩=>?_⟩;refine ⟨μ1,h1,Zw,_,R1,S.ext e1,m1,fun i H2 ⟨μ2,wi,h2,e2,R2,r2,m2⟩=>?_⟩;refine hm R2 (e2.r _ _ r1) r2 (e2.r _ _<|e1.r _ _ r) m2 fun H3 ⟨μ3,h3,e3,R3,m3⟩=>?_;exact k _ _ ⟨μ3,Zw,h3,(e1.trans e2).trans e3,R3,S.ext<|(e1.trans e2).trans e3,m3⟩
def K8:RQ:=fun o i w h N=>match o,i with
 | .loc n,.int k=>(match h.c n with
  | some (.lst ws)=>(match ixN ws.length k with
   | some j=>N (h.set n (.lst (ws.set j w)))
   | none=>False)
  | _=>False)
 | _,_=>False
def Rel.lstAt {K:abZ}{H:Hp}{h:Gh}{n:Nat}(R:Rel K μ H h)(e:h.c n=some (.lst ws)):∃ p xs,μ.f n=some p/\H p=some (.lst xs)/\aM K H μ ws xs:=by
 obtain ⟨p,e1,xs,e2,r⟩:=R.cel n _ e;exact ⟨p,xs,e1,e2,r⟩
def zJ {K:abZ}:zH K Xi K8:=by
 intro H μ h o i v wo wi w Nw N R ro ri r m k;cases wo with
 | loc n=>
  cases wi with
  | int z=>
   rw [Rep] at ro;rw [Rep] at ri;obtain ⟨p,eo,hp⟩:=ro;unfold K8 at m;dsimp only at m;cases ec:h.c n with
   | none=>rw [ec] at m;exact m.elim
   | some cl=>
    rw [ec] at m;cases cl with
    | lst ws=>
     dsimp only at m;obtain ⟨p',xs,hp',hx,rs⟩:=R.lstAt ec;have ep:p'=p:=by rw [hp] at hp';exact (acv hp').symm
     subst ep;cases ej:ixN ws.length z with
     | none=>rw [ej] at m;exact m.elim
     | some j=>
      rw [ej] at m;refine ⟨p',xs,z,j,eo,ri,hx,by rw [<-rs.len];exact ej,k _ ⟨μ,_,(Ex.write R hp).ext,R.write hp trivial ?_,m⟩⟩;exact ⟨_,bB,aM.set ((Ex.write R hp).ext.r _ _ r) j<|(Ex.write R hp).ext.s rs⟩
    | _=>exact m.elim
  | _=>exact m.elim
 | _=>exact m.elim
variable {st:Stmt}{rest body:List Stmt}{m1 m2:MS}{t:MT}
def dD:MS:=fun D Z h=>D.nx Z h
def bA (m u:MS):MS:=fun D Z h=>m { D with nx:=u D } Z h
def bF:DSs X [] dD:=QV.of fun D Z H ⟨μ,h,Zw,Dw,R,S,m,k⟩=>k.nx _ _ ⟨μ,Zw,h,.refl,R,S,m⟩
def aG (h1:DS X st m1):DSs X [st] m1:=N8 h1
def au (h1:DS X st m1)(h2:DSs X rest m2):DSs X (st::rest) (bA m1 m2):=(Jj h1 h2).of fun D Z H ⟨μ,h,Zw,Dw,R,S,m,k⟩=>by
 refine ⟨μ,h,Zw,_,R,S,m,?_,k.rt,k.bk,k.ct⟩;intro Z' H' ⟨μ1,Zw1,h1,e1,R1,S1,m1⟩;exact ⟨μ1,h1,Zw1,Dw,R1,S1,m1,k.trans e1⟩
def xq (m:ME):MS:=fun D Z h=>m Z h fun _ h1=>D.nx Z h1
def qp (he:DE X e ma)(hs:swapsWith e none pos.line X.env=pure false:=by rfl):DS X (.Expr e pos) (xq ma):=(Qu he hs).of fun D Z H ⟨μ,h,Zw,Dw,R,S,m,k⟩=>
 ⟨μ,h,Zw,_,R,S,m,fun v H1 ⟨μ1,w,h1,e1,R1,_,m1⟩=>k.nx _ _ ⟨μ1,Zw,h1,e1,R1,S.ext e1,m1⟩⟩
def cJ (m:ME):MS:=fun D Z h=>m Z h D.rt
def aO (he:DE X e ma):DS X (.Return (some e) pos) (cJ ma):=(Wi he).of fun D Z H ⟨μ,h,Zw,Dw,R,S,m,k⟩=>⟨μ,h,Zw,_,R,S,m,k.rt⟩
def lE (t:MT)(a b:MS):MS:=fun D Z h=>t Z h fun c h1=>br c (a D Z h1) (b D Z h1)
def eE {a b:List Stmt}(hc:DT X c t)(ha:DSs X a m1)(hb:DSs X b m2):DS X (.If c a b pos) (lE t m1 m2):=(Zu hc ha hb).of fun D Z H ⟨μ,h,Zw,Dw,R,S,m,k⟩=>by
 refine ⟨μ,h,Zw,_,R,S,m,fun b H1 ⟨μ1,h1,e1,R1,q⟩=>?_⟩;cases b with
 | true=>rw [if_pos rfl];exact ⟨μ1,h1,Zw,Dw,R1,S.ext e1,q.1 rfl,k.trans e1⟩
 | false=>rw [if_neg acZ];exact ⟨μ1,h1,Zw,Dw,R1,S.ext e1,q.2 rfl,k.trans e1⟩
def wj (x:Str)(E:XWK):MS:=fun _ _ h=>E ⟨x,[]⟩ h
def tY {x:Str}:DS X st (wj x EF):=JT.of fun _ _ _ ⟨_,_,_,_,_,_,m,_⟩=>m.elim
def bL (m:ME)(g:MG):MS:=fun D Z h=>m Z h fun w h1=>g w Z h1 D.nx
def WT {K:abZ}{Z : St}{H:Hp}{D:Ends}{m:ME}{g:MG}(q:tDS K (bL m g) D Z H):TF (tD K m) (tDG K g) D Z H:=by
 obtain ⟨μ,h,Zw,Dw,R,S,m,k⟩:=q;exact ⟨μ,h,Zw,_,R,S,m,fun v H1 ⟨μ1,w,h1,e1,R1,r1,m1⟩=>⟨μ1,h1,Zw,w,_,R1,S.ext e1,r1,m1,fun Z' H' z=>k.nx _ _<|z.trans e1⟩⟩
def gB {g:MG}(he:DE X e ma)(hg:DG X tg g)(hs:swapsWithSole [tg] e pos.line X.env=pure false:=by rfl)(hw:swappedStores [tg] e X.env=pure none:=by rfl)
  (h1:(aef [tg] X.env).map (·.2)=[assign tg X.env]:=by rfl):DS X (.Assign [tg] e pos) (bL ma g):=(U4 he hg hs hw h1).of fun _ _ _ q=>WT q
def Nj {K:abZ}{Z : St}{H:Hp}{D:Ends}{m:ME}{t:TE}{i:Nat}(ht:∀ Z H Q,tD K m Z H Q->t Z H Q)(q:tDS K (bL m (nName i)) D Z H):TF t (Hy i) D Z H:=by
 obtain ⟨μ,h,Zw,Dw,R,S,m,k⟩:=q;exact ht _ _ _ ⟨μ,h,Zw,_,R,S,m,fun v H1 ⟨μ1,w,h1,e1,R1,r1,m1⟩=>k.nx _ _ ⟨μ1,Zw.set i<|some w,h1,e1,R1,(S.ext e1).set r1 i,m1⟩⟩
def U5 {i:Nat}{x:Str}{pos':Pos}(hN:X.N.Nodup)(hi:X.N[i]?=some x)(hx:Loc X.env.scope x)(he:DE X e ma)(hs:swapsWith e (some (.Name x pos')) pos.line X.env=pure false:=by rfl)
  (hf:X.fn x=true\/X.env.scope.names.lookup x=some .local:=by first | exact .inl rfl | exact .inr rfl | assumption) :
  DS X (.Assign [.Name x pos'] e pos) (bL ma (nName i)):=(T7 hN hi hx he hs hf).of fun _ _ _ q=>Nj (fun _ _ _ z=>z) q
def abX (i j:Nat)(ta:MA):MS:=fun D Z h=>ta Z h fun ws h1=>match ws with
 | [v,w]=>D.nx ((Z.set i (some v)).set j (some w)) h1
 | _=>False
structure Src where
 ws:List W
 cell:Option (Nat×List W)
def Src.chk (s:Src)(h:Gh):Prop:=match s.cell with
 | none=>True
 | some n=>h.c n.1=some (.lst n.2)
abbrev MI:=Sw->Gh->(Src->Gh->Prop)->Prop
def SN (K:abZ)(J:It)(src:Src)(H:Hp)(μ : Mu):Prop:=∀ {H2:Hp} {μ2:Mu} {h2:Gh} {i:Nat},Ext K H μ H2 μ2->Rel K μ2 H2 h2->src.chk h2 ->
 (∀ w,src.ws[i]?=some w->J.go i H2/\∀ x H3,J.yld i H2 x H3->∃ μ3,Ext K H2 μ2 H3 μ3/\Rel K μ3 H3 h2/\Rep K H3 μ3 w x)/\(src.ws.length<=i->J.stop i H2)
def DI (K:abZ)(H:Hp)(μ : Mu)(Rw:Src->Gh->Prop):It->Hp->Prop:=fun J H'=>∃ μ' src h',Ext K H μ H' μ'/\Rel K μ' H' h'/\SN K J src H' μ'/\Rw src h'
def tDI (K:abZ)(mi:MI):TI:=fun Z H R=>∃ μ h Zw Rw,Rel K μ H h/\Slots K H μ Zw Z/\mi Zw h Rw/\∀ J H',DI K H μ Rw J H'->R J H'
abbrev DIt (X:Cx)(tg iter:Expr)(mi:MI):Prop:=PI X tg iter (tDI X.K mi)
def PI.of {iter:Expr}{t t':TI}(h:PI X tg iter t)(k:∀ Z H R,t' Z H R->t Z H R):PI X tg iter t':=fun ahW s Z H R I q=>h ahW s Z H R I (k Z H R q)
def d7 (h:Gh):W->Option (List W)
 | .lst ws=>some ws
 | .kls ws=>some ws
 | .loc n=>(match h.c n with
  | some (.lst ws)=>some ws
  | _=>none)
 | _=>none
def view (h:Gh):W->Option (List W)
 | .tup ws=>some ws
 | .lst ws=>some ws
 | .kls ws=>some ws
 | .loc n=>d7 h (.loc n)
 | _=>none
def Td (h:Gh):W->Option Src
 | .tup ws=>some ⟨ws,none⟩
 | .lst ws=>some ⟨ws,none⟩
 | .kls ws=>some ⟨ws,none⟩
 | .loc n=>(match h.c n with
  | some (.lst ws)=>some ⟨ws,some (n,ws)⟩
  | _=>none)
 | _=>none
def NK {K:abZ}{H:Hp}{p:Addr}(r:Rep K H μ (.lst ws) (.ref p)):SN K (Itl K p) ⟨ws,none⟩ H μ:=by
 intro H2 μ2 h2 i e R2 _;have r2:=e.r _ _ r;rw [Rep] at r2;obtain ⟨q,xs,eq,hf,rs⟩:=r2;cases eq;refine ⟨fun w ew=>?_,fun hl=>⟨xs,hf.sq,by rw [<-rs.len];exact hl⟩⟩;obtain ⟨v,ev,rv⟩:=rs.get ew;refine ⟨⟨xs,v,hf.sq,ev⟩,fun x H3 ⟨e3,y⟩=>?_⟩;subst e3;have:=y xs hf.sq
 rw [ev] at this;cases this;exact ⟨μ2,.refl,R2,rv⟩
def QB {K:abZ}{H:Hp}{p:Addr}(r:Rep K H μ (.kls ws) (.ref p)):SN K (Itl K p) ⟨ws,none⟩ H μ:=by
 intro H2 μ2 h2 i e R2 _;have r2:=e.r _ _ r;rw [Rep] at r2;obtain ⟨q,xs,eq,hf,rs⟩:=r2;cases eq;refine ⟨fun w ew=>?_,fun hl=>⟨xs,hf.sq,by rw [<-rs.len];exact hl⟩⟩;obtain ⟨v,ev,rv⟩:=rs.get ew;refine ⟨⟨xs,v,hf.sq,ev⟩,fun x H3 ⟨e3,y⟩=>?_⟩;subst e3;have:=y xs hf.sq
 rw [ev] at this;cases this;exact ⟨μ2,.refl,R2,rv⟩
def Js {K:abZ}{H:Hp}{p:Addr}{n:Nat}(r:Rep K H μ (.loc n) (.ref p)):SN K (Itl K p) ⟨ws,some (n,ws)⟩ H μ:=by
 intro H2 μ2 h2 i e R2 ck;have r2:=e.r _ _ r;rw [Rep] at r2;obtain ⟨q,eq,hm⟩:=r2;cases eq;obtain ⟨p',xs,hm',hx,rs⟩:=R2.lstAt (show h2.c n=some (.lst ws) from ck);have ep:p'=p:=by rw [hm] at hm';exact (acv hm').symm
 subst ep;refine ⟨fun w ew=>?_,fun hl=>⟨xs,.of hx,by rw [<-rs.len];exact hl⟩⟩;obtain ⟨v,ev,rv⟩:=rs.get ew;refine ⟨⟨xs,v,.of hx,ev⟩,fun x H3 ⟨e3,y⟩=>?_⟩;subst e3;have:=y xs (.of hx)
 rw [ev] at this;cases this;exact ⟨μ2,.refl,R2,rv⟩
def Qc {K:abZ}{H:Hp}{p:Addr}(r:Rep K H μ (.tup ws) (.ref p)):SN K (Itt K p) ⟨ws,none⟩ H μ:=by
 intro H2 μ2 h2 i e R2 _;have r2:=e.r _ _ r;rw [Rep] at r2;obtain ⟨q,xs,eq,hf,rs⟩:=r2;cases eq;refine ⟨fun w ew=>?_,fun hl=>⟨xs,hf,by rw [<-rs.len];exact hl⟩⟩;obtain ⟨v,ev,rv⟩:=rs.get ew;refine ⟨⟨xs,v,hf,ev⟩,fun x H3 ⟨e3,y⟩=>?_⟩;subst e3;have:=y xs hf
 rw [ev] at this;cases this;exact ⟨μ2,.refl,R2,rv⟩
def abM (K:abZ)(tl:TE):TI:=fun Z H R=>tl Z H fun x H1=>(∃ a,x=.ref a/\(∃ xs,SqL K H1 a xs)/\R (Itl K a) H1)\/(∃ a,x=.ref a/\(∃ xs,SqT K H1 a xs)/\R (Itt K a) H1)
def Wb {l:Expr}{tl:TE}(hl:PE X l tl):PI X tg l (abM X.K tl):=by
 intro ahW s Z H R I h;refine thn (hl ahW s Z H _ I h) fun v s1 ⟨x,H1,I1,r1,q1⟩=>?_;rcases q1 with ⟨a,e,⟨xs,hq⟩,q⟩ | ⟨a,e,⟨xs,hq⟩,q⟩
 ·subst e;cases r1;obtain ⟨its,rv,p,hz⟩:=I1.list hq;refine agx p.isList ?_;refine ⟨s1.heap.objs.size,[s1.heap.objs.size],_,_,H1,rfl,I1.kept (t':=s1.toks) fun b o e=>ace _ e,Fi a _,⟨_,acw _ rfl,rfl,rfl⟩,fun b hb=>?_,q⟩;have e:b=s1.heap.objs.size:=by simpa using hb
  subst e;exact I1.fpOk (acj _)<|I1.hok.fresh<|acj _
 ·subst e;cases r1;obtain ⟨its,rv,p,hz⟩:=I1.tuple hq;refine wpAny_pyIter_tuple (show s1.heap.IsTuple a its.toArray from p) ?_;refine ⟨s1.heap.objs.size,[s1.heap.objs.size],_,_,H1,rfl,I1.kept (t':=s1.toks) fun b o e=>ace _ e,Cr a _,⟨_,acw _ rfl,rfl,rfl⟩,fun b hb=>?_,q⟩;have e:b=s1.heap.objs.size:=by simpa using hb
  subst e;exact I1.fpOk (acj _)<|I1.hok.fresh<|acj _
def nIt (m:ME):MI:=fun Z h R=>m Z h fun w h1=>match Td h1 w with
 | some s=>R s h1
 | none=>False
def cj {l:Expr}(hl:DE X l ma):DIt X tg l (nIt ma):=PI.of (Wb hl) fun Z H Q ⟨μ,h,Zw,Rw,R,S,m,k⟩=>by
 refine ⟨μ,h,Zw,_,R,S,m,fun v H1 ⟨μ1,w,h1,e1,R1,r1,m1⟩=>?_⟩;cases w with
 | tup ws=>
  have r1':=r1;rw [Rep] at r1;obtain ⟨p,xs,ev,hs,_⟩:=r1;subst ev;exact .inr ⟨p,rfl,⟨xs,hs⟩,k _ _ ⟨μ1,⟨ws,none⟩,h1,e1,R1,Qc r1',m1⟩⟩
 | lst ws=>
  have r1':=r1;rw [Rep] at r1;obtain ⟨p,xs,ev,hs,_⟩:=r1;subst ev;exact .inl ⟨p,rfl,⟨xs,hs.sq⟩,k _ _ ⟨μ1,⟨ws,none⟩,h1,e1,R1,NK r1',m1⟩⟩
 | kls ws=>
  have r1':=r1;rw [Rep] at r1;obtain ⟨p,xs,ev,hs,_⟩:=r1;subst ev;exact .inl ⟨p,rfl,⟨xs,hs.sq⟩,k _ _ ⟨μ1,⟨ws,none⟩,h1,e1,R1,QB r1',m1⟩⟩
 | loc n=>
  have r1':=r1;rw [Rep] at r1;obtain ⟨p,ev,hm⟩:=r1;subst ev;unfold Td at m1;dsimp only at m1;cases ec:h1.c n with
  | none=>rw [ec] at m1;exact m1.elim
  | some cl=>
   rw [ec] at m1;cases cl with
   | lst ws=>
    obtain ⟨p',xs,hm',hx,rs⟩:=R1.lstAt ec;have ep:p'=p:=by rw [hm] at hm';exact (acv hm').symm
    subst ep;exact .inl ⟨p',rfl,⟨xs,.of hx⟩,k _ _ ⟨μ1,⟨ws,some (n,ws)⟩,h1,e1,R1,Js r1',m1⟩⟩
   | _=>exact m1.elim
 | _=>exact m1.elim
def wA (lo:Int)(n:Nat):List W:=(aeZ n).map fun (k:Nat)=>.int (lo+(k:Int))
def Mf {K:abZ}{H:Hp}{lo:Int}{n:Nat}:SN K (Itr lo n) ⟨wA lo n,none⟩ H μ:=by
 intro H2 μ2 h2 i e R2 _;refine ⟨fun w ew=>?_,fun hl=>?_⟩
 ·have hi:i<n:=by
   have:=(acD.mp ew).1
   simpa [wA] using this
  have ew':w=.int (lo+(i:Int)):=by
   unfold wA at ew;rw [acu,List.getElem?_range hi] at ew;exact (acv ew).symm
  subst ew';refine ⟨hi,fun x H3 ⟨e3,y⟩=>?_⟩;subst e3;exact ⟨μ2,.refl,R2,by rw [Rep];exact y⟩
 ·have:n<=i:=by simpa [wA] using hl
  exact this
def vC (j:Int)(P:Prop):Prop:=by2 (decide (-1000<=j)&&decide (j<=1000)) P ((-(2^62)<=j/\j<2^62)/\P)
def vC.ok {j:Int}{P:Prop}(h:vC j P):(-(2^62)<=j/\j<2^62)/\P:=by
 unfold vC at h;cases e:(decide (-1000<=j)&&decide (j<=1000)) with
 | true=>
  rw [e] at h;rw [adC,decide_eq_true_iff,decide_eq_true_iff] at e;exact ⟨⟨by omega,by omega⟩,h⟩
 | false=>rw [e] at h;exact h
def vC.mk {j:Int}{P:Prop}(h1:-(2^62)<=j)(h2:j<2^62)(h:P):vC j P:=by
 unfold vC;cases e:(decide (-1000<=j)&&decide (j<=1000)) with
 | true=>exact h
 | false=>exact ⟨⟨h1,h2⟩,h⟩
def iH (ma:MA):MI:=fun Z h R=>ma Z h fun ws h1=>match ws with
 | [.int j]=>vC j (R ⟨wA 0 j.toNat,none⟩ h1)
 | _=>False
def Rg (ma:MA):MI:=fun Z h R=>ma Z h fun ws h1=>match ws with
 | [.int i,.int j]=>vC i (vC j (R ⟨wA i (j - i).toNat,none⟩ h1))
 | _=>False
def Hs {a:Expr}{p pos:Pos}(hg:Gl X "range")(hm:X.mg "range" = none)(ha:DAs X [a] mr)(hs:acN [a] X.env=[(false,eval a X.env)]:=by rfl):DIt X tg (.Call (.Name "range" p) [a] [] pos) (iH mr):=
 PI.of (Iz hg hm ha hs) fun Z H Q ⟨μ,h,Zw,Rw,R,S,m,k⟩=>by
  refine ⟨μ,h,Zw,_,R,S,m,fun vs H1 ⟨μ1,ws,h1,e1,R1,r1,m1⟩=>?_⟩;dsimp only at m1;split at m1
  ·rename_i j;rw [aM] at r1;obtain ⟨v,vr,ev,ra,r1⟩:=r1;rw [aM] at r1;rw [Rep] at ra;subst ev r1 ra;exact ⟨j,rfl,m1.ok.1.1,m1.ok.1.2,k _ _ ⟨μ1,_,h1,e1,R1,Mf,m1.ok.2⟩⟩
  ·exact m1.elim
def Ie {a b:Expr}{p pos:Pos}(hg:Gl X "range")(hm:X.mg "range" = none)(ha:DAs X [a,b] mr)(hs:acN [a,b] X.env=[(false,eval a X.env),(false,eval b X.env)]:=by rfl)(hs2:acN [b] X.env=[(false,eval b X.env)]:=by rfl):
  DIt X tg (.Call (.Name "range" p) [a,b] [] pos) (Rg mr):=
 PI.of (Dh hg hm ha hs hs2) fun Z H Q ⟨μ,h,Zw,Rw,R,S,m,k⟩=>by
  refine ⟨μ,h,Zw,_,R,S,m,fun vs H1 ⟨μ1,ws,h1,e1,R1,r1,m1⟩=>?_⟩;dsimp only at m1;split at m1
  ·rename_i i j;rw [aM] at r1;obtain ⟨v,vr,ev,ra,r1⟩:=r1;rw [aM] at r1;obtain ⟨v',vr',ev',rb,r1⟩:=r1;rw [aM] at r1;rw [Rep] at ra rb;subst ev ev' r1 ra rb;exact ⟨i,j,rfl,⟨m1.ok.1.1,m1.ok.1.2,m1.ok.2.ok.1.1,m1.ok.2.ok.1.2⟩,k _ _ ⟨μ1,_,h1,e1,R1,Mf,m1.ok.2.ok.2⟩⟩
  ·exact m1.elim
def Src.go (s:Src)(h:Gh)(P:Prop):Prop:=match s.cell with
 | none=>P
 | some n=>h.c n.1=some (.lst n.2)/\P
def Src.go_ok {s:Src}{h:Gh}{P:Prop}(x:s.go h P):s.chk h/\P:=by
 unfold Src.go at x;unfold Src.chk;cases e:s.cell with
 | none=>rw [e] at x;exact ⟨trivial,x⟩
 | some n=>rw [e] at x;exact x
def iD (s:Src)(g:MG)(b:MS)(D:bV):List W->Sw->Gh->Prop
 | [],Z,h=>s.go h (D.nx Z h)
 | w::r,Z,h=>s.go h (g w Z h fun Z1 h1=>b { D with nx:=iD s g b D r,ct:=iD s g b D r,bk:=D.nx } Z1 h1)
def oX (mi:MI)(g:MG)(b:MS):MS:=fun D Z h=>mi Z h fun s h1=>iD s g b D s.ws Z h1
def eO {iter:Expr}{body:List Stmt}{mi:MI}{g:MG}{mb0:MS}{pos:Pos}(hp:aeP (acP X.prog X.w) X.A X.env X.xe)(hc:X.calm=true)(hi:DIt X tg iter mi)(hg:DG X tg g)(hb:DSs X body mb0)
  (hs:∀ x,aeW iter X.env x=pure x:=by intro _;rfl):DS X (.For tg iter body [] pos) (oX mi g mb0):=(Uj hp hc hi hg hb hs).of fun D Z H ⟨μ,h,Zw,Dw,R,S,m,k⟩=>by
 refine ⟨μ,h,Zw,_,R,S,m,fun J H1 ⟨μ1,src,h1,e1,R1,ok,m1⟩=>?_⟩;refine ⟨fun i n Z' H'=>n=src.ws.length - i/\i<=src.ws.length/\DN X.K H1 μ1 (iD src g mb0 Dw<|src.ws.drop i) Z' H',⟨src.ws.length,by simp,adu _,μ1,Zw,h1,.refl,R1,S.ext e1,by rw [List.drop_zero];exact m1⟩,?_⟩;rintro i n Z2 H2 ⟨hn,hle,μ2,Zw2,h2,e2,R2,S2,m2⟩;by_cases hlt:i<src.ws.length
 ·rw [aej hlt] at m2;obtain ⟨ck,m2⟩:=Src.go_ok m2;obtain ⟨hgo,hy⟩:=(ok e2 R2 ck).1 src.ws[i] (acn hlt);refine .inr ⟨hgo,fun Z' H'=>DN X.K H2 μ2 (iD src g mb0 Dw<|src.ws.drop<|i+1) Z' H',fun Z' H' z=>⟨src.ws.length - (i+1),by omega,rfl,hlt,z.trans e2⟩,fun x H3 y=>?_⟩;obtain ⟨μ3,e3,R3,rx⟩:=hy x H3 y;refine ⟨μ3,h2,Zw2,src.ws[i],_,R3,S2.ext e3,rx,m2,fun Z4 H4 ⟨μ4,Zw4,h4,e4,R4,S4,m4⟩=>?_⟩;have e24:=e3.trans e4;have e14:=(e1.trans e2).trans e24;exact ⟨μ4,h4,Zw4,_,R4,S4,m4,fun Z' H' z=>z.trans e24,fun v H' z=>k.rt _ _<|z.trans e14,fun Z' H' z=>k.nx _ _<|z.trans e14,fun Z' H' z=>z.trans e24⟩
 ·have ei:i=src.ws.length:=by omega
  subst ei;rw [List.drop_length] at m2;obtain ⟨ck,m2⟩:=Src.go_ok m2;exact .inl ⟨(ok e2 R2 ck).2 (acj _),k.nx _ _ ⟨μ2,Zw2,h2,e1.trans e2,R2,S2,m2⟩⟩
def kY (ix:List Nat)(Z : Sw):Sw:=ix.map fun i=>(Z[i]?).getD none
def Slots.blk {K:abZ}{H:Hp}{Zw:Sw}{Z : St}(S:Slots K H μ Zw Z):∀ {ws:List W} {vs:List V},aM K H μ ws vs->Slots K H μ (ws.map some++kY ix Zw) (vs.map some++BW ix Z):=by
 intro ws vs r;have hl:=r.len;refine ⟨by simp [kY,BW,hl],fun i u q=>?_⟩;by_cases hi:i<ws.length
 ·rw [acX (by simpa using hi),acu] at q;have q':ws[i]?=some u:=by
   cases e:ws[i]? with
   | none=>rw [e] at q;cases q
   | some a=>rw [e] at q;simpa using q
  obtain ⟨v,hv,rv⟩:=r.get q';refine ⟨v,?_,rv⟩;rw [acX (by rw [acf];omega),acu,hv];rfl
 ·rw [acU (by simpa using hi),acf] at q;rw [acU (by rw [acf];omega),acf,<-hl];generalize i - ws.length=i at q |-
  unfold kY at q;unfold BW;rw [acu] at q |-
  cases e:ix[i]? with
  | none=>rw [e] at q;cases q
  | some j=>
   rw [e] at q;cases e2:Zw[j]? with
   | none=>simp [e2] at q
   | some o=>
    have eo:o=some u:=by simpa [e2] using q
    subst eo;obtain ⟨v',h1,h2⟩:=S.get j u e2;exact ⟨v',by simp [h1],h2⟩
def jR:MT:=fun _ h Q=>Q true h
def qy (s:Src)(own:W->Option (List W))(ix:List Nat)(tt:MT)(te:ME)(Z : Sw)(Q:WK):List W->List W->Gh->Prop
 | [],acc,h=>s.go h (Q (.lst acc) h)
 | w::r,acc,h=>s.go h (match own w with
  | some vs=>tt (vs.map some++kY ix Z) h fun c h1=>by2 c (te (vs.map some++kY ix Z) h1 fun v h2=>qy s own ix tt te Z Q r (acc++[v]) h2) (qy s own ix tt te Z Q r acc h1)
  | none=>False)
def mLC (own:W->Option (List W))(ix:List Nat)(mi:MI)(tt:MT)(te:ME):ME:=fun Z h Q=>mi Z h fun s h1=>fL s.ws.length (qy s own ix tt te Z Q s.ws [] h1)
def Ed (K:abZ)(n:Nat)(own:V->Hp->List V->Prop)(ow:W->Option (List W)):Prop:=∀ {H:Hp} {μ : Mu} {w:W} {v:V} {ws:List W},Rep K H μ w v->ow w=some ws->∃ vs,own v H vs/\vs.length=n/\aM K H μ ws vs
def ow1 (w:W):Option (List W):=some [w]
def owT (n:Nat)(w:W):Option (List W):=match w with
 | .tup ws=>(match afu ws.length n with
  | true=>some ws
  | false=>none)
 | _=>none
def ov1:V->Hp->List V->Prop:=fun v _ vs=>vs=[v]
def ovT (K:abZ):V->Hp->List V->Prop:=fun v H vs=>∃ a,v=.ref a/\SqT K H a vs
def Ck {K:abZ}:Ed K 1 ov1 ow1:=by
 intro H μ w v ws r e;cases (show some [w]=some ws from e)
 exact ⟨[v],rfl,rfl,.one r⟩
def GK {K:abZ}{n:Nat}:Ed K n (ovT K) (owT n):=by
 intro H μ w v ws r e;cases w with
 | tup us=>
  unfold owT at e;dsimp only at e;cases en:afu us.length n with
  | false=>rw [en] at e;cases e
  | true=>
   rw [en] at e;cases (show some us=some ws from e)
   rw [Rep] at r;obtain ⟨p,xs,ev,hs,rs⟩:=r;exact ⟨xs,⟨p,ev,hs⟩,by rw [<-rs.len];exact afB en,rs⟩
 | _=>cases e
abbrev Tt (X:Cx)(ifs:List Expr)(m:MT):Prop:=S6 X ifs (tDT X.K m)
def gY:Tt X [] jR:=fun ahW s Z H Q I ⟨μ,h,Zw,Qw,R,S,m,k⟩=>Rm ahW s Z H Q I (k _ _ ⟨μ,h,.refl,R,m⟩)
def ql (h:DT X c t):Tt X [c] t:=QG h
def V0 {K:abZ}{Z : St}{H:Hp}{Q:VK}{n:Nat}{ow:W->Option (List W)}{mi:MI}{tt:MT}{te:ME}(oo:Ed K n own ow)(q:tD K (mLC ow ix mi tt te) Z H Q):tLC n own ix (tDI K mi) (tDT K tt) (tD K te) Z H Q:=by
 obtain ⟨μ,h,Zw,Qw,R,S,m,k⟩:=q;refine ⟨μ,h,Zw,_,R,S,m,fun J H1 ⟨μ1,src,h1,e1,R1,ok,hz0⟩=>?_⟩;obtain ⟨hz,m1⟩:=hz0.ok;intro D hD;have nD:=R1.nohid hD;have hD1:Ext K H1 μ1 (upd H1 D (.lst [])) (μ1.hide D):=Ext.hide hD;refine ⟨fun i n ys H'=>n=src.ws.length - i/\i<=src.ws.length/\ys.length<=i/\H' D=some (.lst ys)/\∃ μ' acc h',Ext K H1 μ1 H' μ'/\Rel K μ' H' h'/\μ'.hid D/\aM K H' μ' acc ys/\qy src ow ix tt te Zw Qw (src.ws.drop i) acc h',
  ⟨src.ws.length,by simp,adu _,acj _,bB,μ1.hide D,[],h1,hD1,R1.hide hD,.inl rfl,.nil,by rw [List.drop_zero];exact m1⟩,?_⟩
 rintro i n' ys H2 ⟨hn,hle,hys,hH2,μ2,acc,h2,e2,R2,hid2,ra,m2⟩ _;by_cases hlt:i<src.ws.length
 ·rw [aej hlt] at m2;obtain ⟨ck,m2⟩:=Src.go_ok m2;obtain ⟨hgo,hy⟩:=(ok e2 R2 ck).1 src.ws[i] (acn hlt);refine .inr ⟨hgo,by omega,fun x H3 y=>?_⟩;obtain ⟨μ3,e3,R3,rx⟩:=hy x H3 y;have e13:=e2.trans e3;cases eo:ow src.ws[i] with
  | none=>rw [eo] at m2;exact m2.elim
  | some us=>
   rw [eo] at m2;obtain ⟨vs,hov,hvl,rvs⟩:=oo rx eo;have S3:=(S.ext (e1.trans e13)).blk (ix:=ix) rvs;refine ⟨vs,hov,hvl,μ3,h2,_,_,R3,S3,m2,fun b H4 ⟨μ4,h4,e4,R4,m4⟩=>?_⟩;have e24:=e3.trans e4;obtain ⟨hid4,hH4⟩:=e24.o D _ hid2 hH2;cases b with
   | false=>
    dsimp only;rw [if_neg acZ];exact ⟨hH4,src.ws.length - (i+1),by omega,rfl,hlt,by omega,hH4,μ4,acc,h4,e2.trans e24,R4,hid4,e24.s ra,m4⟩
   | true=>
    dsimp only;rw [if_pos rfl];refine ⟨μ4,h4,_,_,R4,S3.ext e4,m4,fun v H5 ⟨μ5,w5,h5,e5,R5,r5,m5⟩=>?_⟩;have e25:=e24.trans e5;obtain ⟨hid5,hH5⟩:=e25.o D _ hid2 hH2;have g:=SJ.grow (ys:=ys++[v]) R5 hid5;have rs:aM K (upd H5 D (.lst (ys++[v]))) μ5 (acc++[w5]) (ys++[v]):=aM.ex (Ex0.grow R5 hid5) (aM.append (e25.s ra) (aM.one r5));exact ⟨hH5,src.ws.length - (i+1),by omega,rfl,hlt,by rw [acH];simp;omega,bB,μ5,acc++[w5],h5,(e2.trans e25).x nD g,R5.grow hid5,hid5,rs,m5⟩
 ·have ei:i=src.ws.length:=by omega
  subst ei;rw [List.drop_length] at m2;obtain ⟨ck,m2⟩:=Src.go_ok m2;exact .inl ⟨(ok e2 R2 ck).2 (acj _),k _ _ ⟨μ2.unhide D,.lst acc,h2,e1.trans<|e2.x nD .unhide,R2.unhide,Rep.built R2 hid2 hH2 ra,m2⟩⟩
variable {scope:Scope}{x:Str}{xs:List Str}{iter:Expr}{px:Pos}{mi:MI}{tt:MT}{te:ME}
def Bt (B:iU X scope [x] ix)(C:Addr)(s:aci)(H:Hp)(fp:List Addr):PG (blk X scope (iC X [x] ix) C s H fp) (.Name x px) (PX 1 ov1):=by
 obtain ⟨o1,o2⟩:=Ek B (y:=x) (by simp);intro ahW s' Z H' v u Q I r ⟨vs,hv,hl,q⟩;cases hv;refine rJ (X:=blk X scope (iC X [x] ix) C s H fp) (i:=0) B.nd rfl o1 o2 ahW s' Z H' v u Q I r ?_;have ahX:Z.length=(iC X [x] ix).length:=I.len;cases Z with
 | nil=>simp at ahX
 | cons o Z=>exact q
def Iu {py pt:Pos}{kt:Nat}(hc:X.calm=true)(B:iU X scope [x,y] ix)(C:Addr)(s:aci)(H:Hp)(fp:List Addr)
  (h1:∀ env,(aef [.Name x px,.Name y py] env).map (·.2)=assign (.Name x px) env::(aef [.Name y py] env).map (·.2):=by intro _;rfl)
  (h2:∀ env,(aef [.Name y py] env).map (·.2)=assign (.Name y py) env::(aef [] env).map (·.2):=by intro _;rfl)
  (h3:∀ env,(aef [.Name x px,.Name y py] env).length=2:=by intro _;rfl) (h4:∀ env,(aef [.Name x px,.Name y py] env).findIdx? (·.1)=none:=by intro _;rfl) :
  PG (blk X scope (iC X [x,y] ix) C s H fp) (.Tuple [.Name x px,.Name y py] kt pt) (PX 2 (ovT X.K)):=by
 obtain ⟨o1,u1⟩:=Ek B (y:=x) (by simp);obtain ⟨o2,u2⟩:=Ek B (y:=y) (by simp);intro ahW s' Z H' v u Q I r ⟨vs,⟨a,ea,ha⟩,hl,q⟩;have ahX:Z.length=(iC X [x,y] ix).length:=I.len;refine VN (X:=blk X scope (iC X [x,y] ix) C s H fp) (n:=2) hc (rM (rJ (i:=0) B.nd rfl o1 u1) (rM (rJ (i:=1) B.nd rfl o2 u2) GR<|h2 _)<|h1 _) (h3 _) (h4 _) ahW s' Z H' v u Q I r ?_;refine ⟨a,vs,ea,ha,hl,?_⟩;match vs,hl,q with
 | [v1,v2],_,q=>
  match Z,ahX,q with
  | [],ahX,_=>simp at ahX
  | [_],ahX,_=>simp at ahX
  | _::_::Z,_,q=>exact ⟨v1,[v2],rfl,v2,[],rfl,rfl,q⟩
def Sq {ow:W->Option (List W)}(ix:List Nat)(hc:X.calm=true)(B:iU X scope xs ix)(oo:Ed X.K xs.length own ow)(hg:∀ C s H fp,PG (blk X scope (iC X xs ix) C s H fp) tg (PX xs.length own))(hi:DIt X tg iter mi)
  (ht:∀ C s H fp,Tt (blk X scope (iC X xs ix) C s H fp) ifs tt) (he:∀ C s H fp,DE (blk X scope (iC X xs ix) C s H fp) elt te)
  (hs:∀ v,aeW iter X.env v=pure v:=by intro _;rfl):DE X (.ListComp elt [⟨tg,iter,ifs,0⟩] scope pos) (mLC ow ix mi tt te):=(ZK ix hc B hg hi ht he hs).of fun _ _ _ q=>V0 oo q
def Ei {ow:W->Option (List W)}(ix:List Nat){i:Nat}{py spos:Pos}(hN:X.N.Nodup)(hi':X.N[i]?=some y)(hy:Loc X.env.scope y)(hc:X.calm=true)(B:iU X scope xs ix)(oo:Ed X.K xs.length own ow)
  (hg:∀ C s H fp,PG (blk X scope (iC X xs ix) C s H fp) tg (PX xs.length own)) (hi:DIt X tg iter mi)
  (ht:∀ C s H fp,Tt (blk X scope (iC X xs ix) C s H fp) ifs tt) (he:∀ C s H fp,DE (blk X scope (iC X xs ix) C s H fp) elt te)
  (hsw:swapsWith (.ListComp elt [⟨tg,iter,ifs,0⟩] scope pos) (some (.Name y py)) spos.line X.env=pure true:=by rfl)
  (hf:X.fn y=true\/X.env.scope.names.lookup y=some .local:=by first | exact .inl rfl | exact .inr rfl | assumption)
  (hs:∀ v,aeW iter X.env v=pure v:=by intro _;rfl):DS X (.Assign [.Name y py] (.ListComp elt [⟨tg,iter,ifs,0⟩] scope pos) spos) (bL (mLC ow ix mi tt te) (nName i)):=
 (YH ix hN hi' hy hc B hg hi ht he hsw hf hs).of fun _ _ _ q=>Nj (fun _ _ _ z=>V0 oo z) q
theorem Z8 {κ : Type}{K:abZ}{H0 H:Hp}{μ0 μ : Mu}{k:Nat}(hd:∀ n p,μ0.f n=some p->n<k):∀ {fs:List (κ×W)} {f0 fv:List (κ×V)},nG K H0 μ0 fs f0->nG K H μ fs fv->nG K H (μ.cut k) fs fv
 | [],_,_,_,.nil=>.nil
 | _::_,_,_,.cons a b,.cons c d=>.cons ⟨c.1,Rep.cut c.2 (Rep.lo hd a.2)⟩ (Z8 hd b d)
def vH (pure:Bool)(h:Gh)(w:W)(h':Gh)(Q:WK):Prop:=match pure with
 | false=>Q w h'
 | true=>(∀ n c,n<h.nx->h.c n=some c->h'.c n=some c)/\((Lo h.nx w/\Q w h)\/∃ n ws,w=.loc n/\h.nx<=n/\h'.c n=some (.lst ws)/\Los h.nx ws/\Q (.lst ws) h)
def mFn (n N:Nat)(pure:Bool)(body:XWK->MS):MSp:=fun ws h Q E=>by2 (afu ws.length n)
 (body E { nx:=fun _ h'=>vH pure h .non h' Q,rt:=fun w h'=>vH pure h w h' Q } (ws.map some++acG (N - ws.length) none) h) False
def MF {n N:Nat}{pure:Bool}{body:XWK->MS}{h:Gh}{Q:WK}{E:XWK}(x:mFn n N pure body ws h Q E):ws.length=n /\
  body E { nx:=fun _ h'=>vH pure h .non h' Q,rt:=fun w h'=>vH pure h w h' Q } (ws.map some++acG (N - ws.length) none) h:=by
 unfold mFn at x;cases e:afu ws.length n with
 | true=>rw [e] at x;exact ⟨afB e,x⟩
 | false=>rw [e] at x;exact (show False from x).elim
def Rel.cut {K:abZ}{H H':Hp}{μ μ':Mu}{h h':Gh}(R:Rel K μ H h)(R':Rel K μ' H' h')(e:Ext K H μ H' μ')(hc:∀ n c,h.c n=some c->h'.c n=some c):Rel K (μ'.cut h.nx) H' h where
 inj:=fun m n p a b=>R'.inj m n p (Mu.cut_some a).2 (Mu.cut_some b).2
 dom:=fun n p a=>(Mu.cut_some a).1
 trk:=fun n p a=>R'.trk n p (Mu.cut_some a).2
 cel:=fun n c a=>by
  obtain ⟨p0,m0,x0⟩:=R.cel n c a;obtain ⟨p,m,x⟩:=R'.cel n c (hc n c a);have hn:=R.dom n p0 m0;refine ⟨p,by show (if n<h.nx then μ'.f n else none)=some p;rw [if_pos hn];exact m,?_⟩;cases c with
  | lst ws=>
   obtain ⟨xs0,_,r0⟩:=x0;obtain ⟨xs,hx,r⟩:=x;exact ⟨xs,hx,aM.cut r<|aM.lo R.dom r0⟩
  | obj C fs=>
   obtain ⟨dx0,f0,_,r0⟩:=x0;obtain ⟨dx,fv,hx,r⟩:=x;exact ⟨dx,fv,hx,Z8 R.dom r0 r⟩
  | dct kvs=>
   obtain ⟨f0,_,r0⟩:=x0;obtain ⟨fv,hx,r⟩:=x;exact ⟨fv,hx,Z8 R.dom r0 r⟩
  | dtt kvs=>
   obtain ⟨_,_,_,_,_,d0,f0⟩:=x0;obtain ⟨xs,vs,a,b,c,d,f⟩:=x;exact ⟨xs,vs,a,b,c,aM.cut d<|aM.lo R.dom d0,aM.cut f<|aM.lo R.dom f0⟩
 hd:=fun p z=>⟨(R'.hd p z).1,fun n a=>(R'.hd p z).2 n (Mu.cut_some a).2⟩
def Ext.cut {K:abZ}{H H':Hp}{μ μ':Mu}{h:Gh}(R:Rel K μ H h)(e:Ext K H μ H' μ'):Ext K H μ H' (μ'.cut h.nx):=
 ⟨fun w v r=>Rep.cut (e.r w v r) (Rep.lo R.dom r),fun p u z a=>e.o p u z a⟩
def Ef {K:abZ}{H H':Hp}{h h':Gh}{w:W}{v:V}{Q:WK}{pure:Bool}(R:Rel K μ H h)(e:Ext K H μ H' μ')(R':Rel K μ' H' h')(r:Rep K H' μ' w v)(x:vH pure h w h' Q):DQ K H μ Q v H':=by
 cases pure with
 | false=>exact ⟨μ',w,h',e,R',r,x⟩
 | true=>
  obtain ⟨hc0,⟨lo,q⟩ | ⟨n,ws,ew,hn,ec,lo,q⟩⟩:=x;all_goals have hc:∀ n c,h.c n=some c->h'.c n=some c:=fun n c a=>hc0 n c (let ⟨p,m,_⟩:=R.cel n c a;R.dom n p m) a
  ·exact ⟨μ'.cut h.nx,w,h,e.cut R,R.cut R' e hc,Rep.cut r lo,q⟩
  ·subst ew;refine ⟨μ'.cut h.nx,.lst ws,h,e.cut R,R.cut R' e hc,?_,q⟩;rw [Rep] at r;rw [Rep];obtain ⟨p,ev,hm⟩:=r;obtain ⟨p',xs,hm',hx,rs⟩:=R'.lstAt ec;have ep:p'=p:=by rw [hm] at hm';exact (acv hm').symm
   subst ep;refine ⟨p',xs,ev,⟨hx,fun m a=>?_,fun z=>(R'.hd p' z).2 n hm⟩,aM.cut rs lo⟩;obtain ⟨a1,a2⟩:=Mu.cut_some a;have:=R'.inj m n p' a2 hm
   omega
def xY {K:abZ}{H:Hp}{N:List Str}:∀ {ws:List W} {vs:List V},aM K H μ ws vs->Slots K H μ (ws.map some++acG (N.length - ws.length) none) (start N vs):=by
 intro ws vs r;have hl:=r.len;refine ⟨by simp [start,hl],fun i w q=>?_⟩;by_cases hi:i<ws.length
 ·rw [acX (by simpa using hi),acu] at q;have q':ws[i]?=some w:=by
   cases e:ws[i]? with
   | none=>rw [e] at q;cases q
   | some a=>rw [e] at q;simpa using q
  obtain ⟨v,hv,rv⟩:=r.get q';refine ⟨v,?_,rv⟩;unfold start;rw [acX (by rw [acf];omega),acu,hv];rfl
 ·rw [acU (by simpa using hi),afZ] at q;split at q <;> cases q
def aaP {P:acK}{w:adt}{K:abZ}{mg:Str->Option acd}{base:Heap}{x qual:Str}{st:Stmt}{f:Addr}{fd:aeV}{N ps:List Str}{k:Nat}{pure:Bool}{body:XWK->MS}(F:Fun K x qual st f fd)(S:lM N ps (bO st))
  (hb:∀ (cdv:acd) (A:acY) (outer:List Env) (s:aci) (H:Hp) (E:XK),nF k (A.deeper (envOfC qual (bO st) s.heap.objs.size f cdv)) ->
   DSs (Le CX0 P w K mg base N qual (bO st) f cdv A outer s H E).nox (gR st) (body EF)):qC P w K mg base CX0 (k+1) f fd ps (lift K (mFn ps.length N.length pure body)):=by
 refine F.ok S (fun vs H Q E ⟨μ,h,ws,Qw,R,r,m,k⟩=>by rw [<-r.len];exact (MF m).1)<|fun cdv A outer s H vs Q E hr ⟨μ,h,ws,Qw,R,r,m0,k⟩=>?_
 obtain ⟨hl,m⟩:=MF m0;refine ⟨_,hb cdv A outer s H E hr,μ,h,_,_,R,xY r,m,?_,?_,?_,?_⟩
 ·rintro Z' H' ⟨μ1,Zw1,h1,e1,R1,S1,m1⟩;exact k _ _<|Ef (w:=.non) R e1 R1 (by rw [Rep]) m1
 ·rintro v H' ⟨μ1,w1,h1,e1,R1,r1,m1⟩;exact k _ _<|Ef R e1 R1 r1 m1
 ·rintro Z' H' ⟨μ1,Zw1,h1,e1,R1,S1,m1⟩;exact m1.elim
 ·rintro Z' H' ⟨μ1,Zw1,h1,e1,R1,S1,m1⟩;exact m1.elim
end
variable {te : ME}{mi : MI}{tt : MT}{kt : Nat}
section
variable {X:Cx}{K:abZ}
def DQ.int {H:Hp}{μ : Mu}{h:Gh}{i:Int}{Q:WK}(R:Rel K μ H h)(q:Q (.int i) h):DQ K H μ Q (.int i) H:=⟨μ,.int i,h,.refl,R,by rw [Rep],q⟩
def DQ.bl {H:Hp}{μ : Mu}{h:Gh}{i:Bool}{Q:WK}(R:Rel K μ H h)(q:Q (.bl i) h):DQ K H μ Q (.bl i) H:=⟨μ,.bl i,h,.refl,R,by rw [Rep],q⟩
def kI (C:Int->Int->Prop)(g:Int->Int->Int):M2:=fun x y h Q=>match x,y with
 | .int i,.int j=>C i j/\Q (.int (g i j)) h
 | _,_=>False
def yu:M2:=fun x y h Q=>match x,y with
 | .int i,.int j=>Q (.int (i - j)) h
 | _,_=>False
def oV:DOp X (aeN .Sub) yu:=⟨_,Us,by
 intro H μ h x y wx wy Qw Q R rx ry m k;unfold yu at m;split at m
 ·rw [Rep] at rx ry;exact ⟨_,_,rx,ry,k _ _<|.int R m⟩
 ·exact m.elim⟩
def gG:M2:=fun x y h Q=>match x,y with
 | .int i,.int j=>oM i j/\Q (.int (i*j)) h
 | _,_=>False
def cD:DOp X (aeN .Mult) gG:=⟨_,GX,by
 intro H μ h x y wx wy Qw Q R rx ry m k;unfold gG at m;split at m
 ·rw [Rep] at rx ry;exact ⟨_,_,rx,ry,m.1,k _ _<|.int R m.2⟩
 ·exact m.elim⟩
def Mq:M2:=fun x y h Q=>match x,y with
 | .int i,.int j=>FP i j/\Q (.int (i.fdiv j)) h
 | _,_=>False
def Hu:DOp X (aeN .FloorDiv) Mq:=⟨_,HY,by
 intro H μ h x y wx wy Qw Q R rx ry m k;unfold Mq at m;split at m
 ·rw [Rep] at rx ry;exact ⟨_,_,rx,ry,m.1,k _ _<|.int R m.2⟩
 ·exact m.elim⟩
def Bc:M2:=fun x y h Q=>match x,y with
 | .int i,.int j=>j≠0/\Q (.int (i.fmod j)) h
 | _,_=>False
def uz:DOp X (aeN .Mod) Bc:=⟨_,Pa,by
 intro H μ h x y wx wy Qw Q R rx ry m k;unfold Bc at m;split at m
 ·rw [Rep] at rx ry;exact ⟨_,_,rx,ry,m.1,k _ _<|.int R m.2⟩
 ·exact m.elim⟩
def SQ:M2:=fun x y h Q=>match x,y with
 | .int i,.int j=>YT i j/\Q (.int (i^j.toNat)) h
 | _,_=>False
def Vh:DOp X (aeN .Pow) SQ:=⟨_,S7,by
 intro H μ h x y wx wy Qw Q R rx ry m k;unfold SQ at m;split at m
 ·rw [Rep] at rx ry;exact ⟨_,_,rx,ry,m.1,k _ _<|.int R m.2⟩
 ·exact m.elim⟩
def kLt:M2:=fun x y h Q=>match x,y with
 | .int i,.int j=>Q (.bl (decide (i<j))) h
 | _,_=>False
def XH:DOp X (adW .Lt) kLt:=⟨_,Yx,by
 intro H μ h x y wx wy Qw Q R rx ry m k;unfold kLt at m;split at m
 ·rw [Rep] at rx ry;exact ⟨_,_,rx,ry,k _ _<|.bl R m⟩
 ·exact m.elim⟩
def kGt:M2:=fun x y h Q=>match x,y with
 | .int i,.int j=>Q (.bl (decide (j<i))) h
 | _,_=>False
def Oo:DOp X (adW .Gt) kGt:=⟨_,Zn,by
 intro H μ h x y wx wy Qw Q R rx ry m k;unfold kGt at m;split at m
 ·rw [Rep] at rx ry;exact ⟨_,_,rx,ry,k _ _<|.bl R m⟩
 ·exact m.elim⟩
def kGe:M2:=fun x y h Q=>match x,y with
 | .int i,.int j=>Q (.bl (decide (j<=i))) h
 | _,_=>False
def abJ:DOp X (adW .GtE) kGe:=⟨_,Zq,by
 intro H μ h x y wx wy Qw Q R rx ry m k;unfold kGe at m;split at m
 ·rw [Rep] at rx ry;exact ⟨_,_,rx,ry,k _ _<|.bl R m⟩
 ·exact m.elim⟩
def aM.ne_nil {H:Hp}{xs:List V}(r:aM K H μ ws xs):xs=[]↔ws=[]:=by
 have:=r.len
 constructor
 ·intro e;subst e;exact adk this
 ·intro e;subst e;exact adk this.symm
def kIx:M2:=fun x y h Q=>match y with
 | .int i=>(match view h x with
  | some ws=>(match atI ws i with
   | some w=>Q w h
   | none=>False)
  | none=>False)
 | _=>False
def aM.at {H:Hp}{μ : Mu}{ws:List W}{xs:List V}{i:Int}{w:W}(r:aM K H μ ws xs)(e:atI ws i=some w):∃ v,atI xs i=some v/\Rep K H μ w v:=by
 unfold atI at e |-
 rw [<-r.len];cases q:ixN ws.length i with
 | none=>rw [q] at e;cases e
 | some j=>rw [q] at e;exact r.get e
def cX {H:Hp}{h:Gh}{w:W}{v:V}(R:Rel K μ H h)(r:Rep K H μ w v)(e:d7 h w=some ws):∃ p xs,v=.ref p/\SqL K H p xs/\aM K H μ ws xs:=by
 cases w with
 | lst us=>
  rw [Rep] at r;obtain ⟨p,xs,ev,hs,rs⟩:=r;cases (show some us=some ws from e)
  exact ⟨p,xs,ev,hs.sq,rs⟩
 | kls us=>
  rw [Rep] at r;obtain ⟨p,xs,ev,hs,rs⟩:=r;cases (show some us=some ws from e)
  exact ⟨p,xs,ev,hs.sq,rs⟩
 | loc n=>
  rw [Rep] at r;obtain ⟨p,ev,hm⟩:=r;unfold d7 at e;dsimp only at e;cases ec:h.c n with
  | none=>rw [ec] at e;cases e
  | some cl=>
   rw [ec] at e;cases cl with
   | lst us=>
    cases (show some us=some ws from e)
    obtain ⟨p',xs,hm',hx,rs⟩:=R.lstAt ec;have ep:p'=p:=by rw [hm] at hm';exact (acv hm').symm
    subst ep;exact ⟨p',xs,ev,.of hx,rs⟩
   | _=>cases e
 | _=>cases e
def uq {H:Hp}{h:Gh}{w:W}{v:V}(R:Rel K μ H h)(r:Rep K H μ w v)(e:view h w=some ws):∃ p xs,v=.ref p/\(SqL K H p xs\/SqT K H p xs)/\aM K H μ ws xs:=by
 cases w with
 | tup us=>
  rw [Rep] at r;obtain ⟨p,xs,ev,hs,rs⟩:=r;cases (show some us=some ws from e)
  exact ⟨p,xs,ev,.inr hs,rs⟩
 | lst us=>
  obtain ⟨p,xs,ev,hs,rs⟩:=cX (ws:=ws) R r e;exact ⟨p,xs,ev,.inl hs,rs⟩
 | kls us=>
  obtain ⟨p,xs,ev,hs,rs⟩:=cX (ws:=ws) R r e;exact ⟨p,xs,ev,.inl hs,rs⟩
 | loc n=>
  obtain ⟨p,xs,ev,hs,rs⟩:=cX (ws:=ws) R r e;exact ⟨p,xs,ev,.inl hs,rs⟩
 | _=>cases e
def Tn:aay K (rIx K) kIx:=by
 intro H μ h x y wx wy Qw Q R rx ry m k;unfold kIx at m;split at m
 ·rename_i i;split at m
  ·rename_i ws ev;split at m
   ·rename_i w ew;obtain ⟨p,xs,ex,hs,rs⟩:=uq R rx ev;obtain ⟨v,hv,rv⟩:=rs.at ew;rw [Rep] at ry;have fin:=k _ _ ⟨μ,w,h,.refl,R,rv,m⟩;rcases hs with hs | hs
    ·exact .inl ⟨p,xs,i,v,ex,ry,hs,hv,fin⟩
    ·exact .inr<|.inl ⟨p,xs,i,v,ex,ry,hs,hv,fin⟩
   ·exact m.elim
  ·exact m.elim
 ·exact m.elim
def abN {a b:Expr}{pos:Pos}(ha:DE X a ma)(hb:DE X b mb)(hs:xT b):DE X (.Subscript a b pos) (mOp kIx ma mb):=(Zf T5 ha hb hs).of fun Z H Q h=>two h fun R r1 r2 m k=>Tn R r1 r2 m k
abbrev MO:=Sw->Gh->(Option Int->Gh->Prop)->Prop
def tDO (K:abZ)(m:MO):TO:=fun Z H Q=>∃ μ h Zw Qw,Rel K μ H h/\Slots K H μ Zw Z/\m Zw h Qw/\∀ o H',(∃ μ' h',Ext K H μ H' μ'/\Rel K μ' H' h'/\Qw o h')->Q o H'
abbrev DO (X:Cx)(e:Option Expr)(m:MO):Prop:=PO X e (tDO X.K m)
def PO.of {e:Option Expr}{t t':TO}(h:PO X e t)(k:∀ Z H Q,t' Z H Q->t Z H Q):PO X e t':=by
 unfold PO at h |-
 intros
 apply h <;> first | assumption | (apply k;assumption)
def pY:MO:=fun _ h Q=>Q none h
def Gg (m:ME):MO:=fun Z h Q=>m Z h fun w h1=>match w with
 | .int i=>Q (some i) h1
 | _=>False
def FQ:DO X none pY:=PO.of Qi fun Z H Q ⟨μ,h,Zw,Qw,R,S,m,k⟩=>k _ _ ⟨μ,h,.refl,R,m⟩
def Ds {e:Expr}(he:DE X e ma):DO X (some e) (Gg ma):=PO.of (O9 he) fun Z H Q ⟨μ,h,Zw,Qw,R,S,m,k⟩=>by
 refine ⟨μ,h,Zw,_,R,S,m,fun v H1 ⟨μ1,w,h1,e1,R1,r1,m1⟩=>?_⟩;dsimp only at m1;split at m1
 ·rw [Rep] at r1;exact ⟨_,r1,k _ _ ⟨μ1,h1,e1,R1,m1⟩⟩
 ·exact m1.elim
def yJ (xs:List W)(lo hi:Option Int):List W:=(xs.drop (HT.sIx xs.length 0 lo)).take (HT.sIx xs.length xs.length hi - HT.sIx xs.length 0 lo)
def mSl (r:W->Option Int->Option Int->Gh->WK->Prop)(m:ME)(l u:MO):ME:=fun Z h Q=>m Z h fun x h1=>l Z h1 fun lo h2=>u Z h2 fun hi h3=>r x lo hi h3 Q
def aM.cutv {H:Hp}{xs:List V}(r:aM K H μ ws xs)(lo hi:Option Int):aM K H μ (yJ ws lo hi) (Lx xs lo hi):=by
 unfold yJ Lx;rw [<-r.len];exact (r.drop _).take _
end
mutual
def eqW:W->W->Bool
 | .non,.non=>true
 | .bl a,.bl b=>a==b
 | .bl a,.int b=>(if a then 1 else 0)==b
 | .int a,.bl b=>a==(if b then 1 else 0)
 | .int a,.int b=>a==b
 | .str a,.str b=>a==b
 | .tup a,.tup b=>mq a b
 | .lst a,.lst b=>mq a b
 | _,_=>false
def mq:List W->List W->Bool
 | [],[]=>true
 | a::as,b::bs=>eqW a b&&mq as bs
 | _,_=>false
end
def plW:Nat->W->Bool
 | _,.non=>true
 | _,.bl _=>true
 | _,.int _=>true
 | _,.str _=>true
 | n+1,.tup ws=>ws.all (plW n)
 | n+1,.lst ws=>ws.all (plW n)
 | _,_=>false
mutual
def Dt (K:abZ)(H:Hp):W->V->Prop
 | .non,v=>v=.non
 | .bl b,v=>v=.bl b
 | .int i,v=>v=.int i
 | .str x,v=>v=.str x
 | .tup ws,v=>∃ p xs,v=.ref p/\SqT K H p xs/\Dts K H ws xs
 | .lst ws,v=>∃ p xs,v=.ref p/\SqL K H p xs/\Dts K H ws xs
 | .ty _,_=>False
 | .kls _,_=>False
 | .loc _,_=>False
 | .exc _,_=>False
 | .exa _ _,_=>False
 | .fnv _ _,_=>False
def Dts (K:abZ)(H:Hp):List W->List V->Prop
 | [],xs=>xs=[]
 | w::ws,xs=>∃ v vs,xs=v::vs/\Dt K H w v/\Dts K H ws vs
end
section
variable {X:Cx}{K:abZ}{H:Hp}{h:Gh}
theorem Dts.len:∀ {ws:List W} {xs:List V},Dts K H ws xs->ws.length=xs.length
 | [],xs,h=>by
  have e:xs=[]:=by rw [Dts] at h;exact h
  rw [e];rfl
 | w::ws,xs,h=>by
  rw [Dts] at h;obtain ⟨v,vs,e,_,h⟩:=h;rw [e,acE,acE,Dts.len h]
theorem Dts.get:∀ {ws:List W} {xs:List V} {i:Nat} {w:W},Dts K H ws xs->ws[i]?=some w->∃ v,xs[i]?=some v/\Dt K H w v
 | [],_,_,_,_,e=>by simp at e
 | a::ws,xs,0,w,h,e=>by
  rw [Dts] at h;obtain ⟨v,vs,e1,r,_⟩:=h;simp at e;subst e;subst e1;exact ⟨v,rfl,r⟩
 | a::ws,xs,i+1,w,h,e=>by
  rw [Dts] at h;obtain ⟨v,vs,e1,_,h⟩:=h;subst e1;obtain ⟨u,h1,h2⟩:=Dts.get (i:=i) (w:=w) h (by simpa using e);exact ⟨u,by simpa using h1,h2⟩
theorem vq {n:Nat}(one:∀ {w:W} {v:V},Rep K H μ w v->plW n w=true->Dt K H w v):∀ {ws:List W} {xs:List V},aM K H μ ws xs->ws.all (plW n)=true->Dts K H ws xs
 | [],_,h,_=>by rw [aM] at h;rw [Dts];exact h
 | w::ws,_,h,p=>by
  rw [aM] at h;rw [Dts];obtain ⟨v,vs,e,r,h⟩:=h;rw [afn,adC] at p;exact ⟨v,vs,e,one r p.1,vq one h p.2⟩
def JQ:∀ (n:Nat) {w:W} {v:V},Rep K H μ w v->plW n w=true->Dt K H w v:=by
 intro n;induction n with
 | zero=>
  intro w v r p;cases w with
  | non=>rw [Rep] at r;rw [Dt];exact r
  | bl _=>rw [Rep] at r;rw [Dt];exact r
  | int _=>rw [Rep] at r;rw [Dt];exact r
  | str _=>rw [Rep] at r;rw [Dt];exact r
  | _=>simp [plW] at p
 | succ n ih=>
  intro w v r p;cases w with
  | non=>rw [Rep] at r;rw [Dt];exact r
  | bl _=>rw [Rep] at r;rw [Dt];exact r
  | int _=>rw [Rep] at r;rw [Dt];exact r
  | str _=>rw [Rep] at r;rw [Dt];exact r
  | tup ws=>
   rw [Rep] at r;rw [Dt];obtain ⟨p',xs,e,hs,rs⟩:=r;exact ⟨p',xs,e,hs,vq ih rs<|by simpa [plW] using p⟩
  | lst ws=>
   rw [Rep] at r;rw [Dt];obtain ⟨p',xs,e,hs,rs⟩:=r;exact ⟨p',xs,e,hs.sq,vq ih rs<|by simpa [plW] using p⟩
  | _=>simp [plW] at p
theorem jZ:∀ {a b:List W},a.length≠b.length->mq a b=false
 | [],[],h=>absurd rfl h
 | [],_::_,_=>by simp [mq]
 | _::_,[],_=>by simp [mq]
 | a::as,b::bs,h=>by
  rw [mq,jZ (a:=as) (b:=bs) (by simpa using h),Bool.and_false]
def Wg (a b:List W)(j:Nat):Bool:=eqW (a.getD j .non) (b.getD j .non)
theorem j8:∀ {a b:List W},a.length=b.length->(aeZ a.length).all (Wg a b)=mq a b
 | [],[],_=>by simp [mq]
 | [],_::_,h=>by simp at h
 | _::_,[],h=>by simp at h
 | a::as,b::bs,h=>by
  rw [mq,<-j8 (a:=as) (b:=bs) (by simpa using h),acE,List.range_succ_eq_map,afn,List.all_map];rfl
mutual
theorem su {ahW:List (Addr×Obj)}{s:aci}{Z : St}(I:Inv X ahW Z H s):∀ {w u:W} {v:V},Dt X.K H w v->Dt X.K H u v->eqW w u=true
 | .non,u,v,h,g=>by rw [Dt] at h;subst h;cases u <;> rw [Dt] at g <;> first | rfl | exact g.elim | (obtain ⟨_,_,g,_⟩:=g;cases g;done) | (cases g;done)
 | .bl b,u,v,h,g=>by rw [Dt] at h;subst h;cases u <;> rw [Dt] at g <;> first | (injection g with g;simp [eqW,g];done) | exact g.elim | (obtain ⟨_,_,g,_⟩:=g;cases g;done) | (cases g;done)
 | .int b,u,v,h,g=>by rw [Dt] at h;subst h;cases u <;> rw [Dt] at g <;> first | (injection g with g;simp [eqW,g];done) | exact g.elim | (obtain ⟨_,_,g,_⟩:=g;cases g;done) | (cases g;done)
 | .str b,u,v,h,g=>by rw [Dt] at h;subst h;cases u <;> rw [Dt] at g <;> first | (injection g with g;simp [eqW,g];done) | exact g.elim | (obtain ⟨_,_,g,_⟩:=g;cases g;done) | (cases g;done)
 | .tup ws,u,v,h,g=>by
  rw [Dt] at h;obtain ⟨p,xs,e,hs,ds⟩:=h;subst e;cases u with
  | tup us=>
   rw [Dt] at g;obtain ⟨p',xs',e',hs',ds'⟩:=g;cases e'
   have:=I.tuple_inj hs hs'
   subst this;rw [eqW];exact pG I ds ds'
  | lst us=>
   rw [Dt] at g;obtain ⟨p',xs',e',hs',ds'⟩:=g;cases e'
   obtain ⟨_,_,t,_⟩:=I.tuple hs;obtain ⟨_,_,l,_⟩:=I.list hs';exact absurd rfl<|agh l.isList<|show s.heap.IsTuple _ _ from t
  | ty _=>rw [Dt] at g;exact g.elim
  | loc _=>rw [Dt] at g;exact g.elim
  | kls _=>rw [Dt] at g;exact g.elim
  | _=>rw [Dt] at g;cases g
 | .lst ws,u,v,h,g=>by
  rw [Dt] at h;obtain ⟨p,xs,e,hs,ds⟩:=h;subst e;cases u with
  | lst us=>
   rw [Dt] at g;obtain ⟨p',xs',e',hs',ds'⟩:=g;cases e'
   have:=I.list_inj hs hs'
   subst this;rw [eqW];exact pG I ds ds'
  | tup us=>
   rw [Dt] at g;obtain ⟨p',xs',e',hs',ds'⟩:=g;cases e'
   obtain ⟨_,_,t,_⟩:=I.tuple hs';obtain ⟨_,_,l,_⟩:=I.list hs;exact absurd rfl<|agh l.isList<|show s.heap.IsTuple _ _ from t
  | ty _=>rw [Dt] at g;exact g.elim
  | loc _=>rw [Dt] at g;exact g.elim
  | kls _=>rw [Dt] at g;exact g.elim
  | _=>rw [Dt] at g;cases g
 | .ty _,_,_,h,_=>by rw [Dt] at h;exact h.elim
 | .loc _,_,_,h,_=>by rw [Dt] at h;exact h.elim
 | .exc _,_,_,h,_=>by rw [Dt] at h;exact h.elim
 | .exa _ _,_,_,h,_=>by rw [Dt] at h;exact h.elim
 | .kls _,_,_,h,_=>by rw [Dt] at h;exact h.elim
theorem pG {ahW:List (Addr×Obj)}{s:aci}{Z : St}(I:Inv X ahW Z H s):∀ {ws us:List W} {vs:List V},Dts X.K H ws vs->Dts X.K H us vs->mq ws us=true
 | [],us,vs,h,g=>by
  rw [Dts] at h;subst h;cases us with
  | nil=>rfl
  | cons _ _=>rw [Dts] at g;obtain ⟨_,_,g,_⟩:=g;cases g
 | w::ws,us,vs,h,g=>by
  rw [Dts] at h;obtain ⟨v,vs',e,h1,h2⟩:=h;subst e;cases us with
  | nil=>rw [Dts] at g;cases g
  | cons u us=>
   rw [Dts] at g;obtain ⟨v',vs'',e',g1,g2⟩:=g;cases e'
   rw [mq,su I h1 g1,pG I h2 g2];rfl
end
def in1_units {A:acY}:A.in1.units=A.units+1:=rfl
def pL {n:Nat}(h:plW n (.tup ws)=true):∃ m,n=m+1/\ws.all (plW m)=true:=by
 cases n with
 | zero=>simp [plW] at h
 | succ m=>exact ⟨m,rfl,by simpa [plW] using h⟩
def lZ {n:Nat}(h:plW n (.lst ws)=true):∃ m,n=m+1/\ws.all (plW m)=true:=by
 cases n with
 | zero=>simp [plW] at h
 | succ m=>exact ⟨m,rfl,by simpa [plW] using h⟩
def jk {s:aci}{A:acY}{n:Nat}{us:List W}{xs ys:List V}{its jts:List acd}(d1:Dts K H ws xs)(d2:Dts K H us ys)(p1:ws.all (plW n)=true)(p2:us.all (plW n)=true)(r1:Vals xs its)(r2:Vals ys jts)
  (one:∀ {w u:W} {v x:V} {a b:acd},Dt K H w v->Dt K H u x->plW n w=true->plW n u=true->RelV v a->RelV x b->acS A s a b (eqW w u)) :
  ∀ j (h1:j<its.toArray.size) (h2:j<jts.toArray.size),acS A s its.toArray[j] jts.toArray[j] (Wg ws us j):=by
 intro j h1 h2;have l1:j<ws.length:=by rw [d1.len,r1.length];simpa using h1
 have l2:j<us.length:=by rw [d2.len,r2.length];simpa using h2
 obtain ⟨v,ev,dv⟩:=d1.get (acn l1);obtain ⟨x,ex,dx⟩:=d2.get (acn l2);obtain ⟨a,ea,ra⟩:=r1.get ev;obtain ⟨b,eb,rb⟩:=r2.get ex;have ea':its.toArray[j]=a:=by simpa using (acD.mp ea).2
 have eb':jts.toArray[j]=b:=by simpa using (acD.mp eb).2
 have e:Wg ws us j=eqW ws[j] us[j]:=by
  unfold Wg;rw [acQ,acQ,acn l1,acn l2];rfl
 rw [ea',eb',e];exact one dv dx (aec.mp p1 _<|afa l1) (aec.mp p2 _<|afa l2) ra rb
def size_of {xs:List V}{its:List acd}(d:Dts K H ws xs)(r:Vals xs its):its.toArray.size=ws.length:=by
 rw [d.len,r.length];simp
def wU {us:List W}:((aeZ (min ws.length us.length)).all (Wg ws us)&&ws.length==us.length)=mq ws us:=by
 by_cases e:ws.length=us.length
 ·rw [<-e,Nat.min_self,j8 e];simp
 ·rw [jZ e];have e2:(ws.length==us.length)=false:=beq_eq_false_iff_ne.mpr e;rw [e2,Bool.and_false]
inductive Kd (s:aci):W->acd->Prop where
 | non:Kd s .non .none
 | bl (b:Bool):Kd s (.bl b) (.bool b)
 | int (i:Int) (t:Tok):Kd s (.int i) (.int i t)
 | str (x:Str) (t:Tok):Kd s (.str x) (.str x t)
 | tup (ws:List W) {p:Addr} {its:Array acd} (q:s.heap.IsTuple p its):Kd s (.tup ws) (.ref p)
 | lst (ws:List W) {p:Addr} {its:Array acd} (q:s.heap.IsList p its):Kd s (.lst ws) (.ref p)
def Bs {ahW:List (Addr×Obj)}{s:aci}{Z : St}(I:Inv X ahW Z H s){w:W}{v:V}{a:acd}(d:Dt X.K H w v)(r:RelV v a):Kd s w a:=by
 cases w with
 | non=>rw [Dt] at d;subst d;cases r;exact .non
 | bl b=>rw [Dt] at d;subst d;cases r;exact .bl b
 | int b=>rw [Dt] at d;subst d;obtain ⟨t,rfl⟩:=r;exact .int b t
 | str b=>rw [Dt] at d;subst d;obtain ⟨t,rfl⟩:=r;exact .str b t
 | tup ws=>rw [Dt] at d;obtain ⟨p,xs,e,hs,_⟩:=d;subst e;cases r;obtain ⟨its,_,q,_⟩:=I.tuple hs;exact .tup ws q
 | lst ws=>rw [Dt] at d;obtain ⟨p,xs,e,hs,_⟩:=d;subst e;cases r;obtain ⟨its,_,q,_⟩:=I.list hs;exact .lst ws q.isList
 | _=>rw [Dt] at d;exact d.elim
def Cw:W->W->Bool
 | .tup _,.tup _=>true
 | .lst _,.lst _=>true
 | _,_=>false
def aaQ:W->W->Bool
 | .tup _,_=>false
 | .lst _,_=>false
 | _,.tup _=>false
 | _,.lst _=>false
 | _,_=>true
def Vy {s:aci}{A:acY}{w u:W}{a b:acd}(hu:A.units<afi)(k1:Kd s w a)(k2:Kd s u b)(h:Cw w u=false)(f:aaQ w u=false):acS A s a b (eqW w u):=by
 cases k1 with
 | non=>
  cases k2 with
  | non=>cases f
  | bl _=>cases f
  | int _ _=>cases f
  | str _ _=>cases f
  | tup _ q3=>apply SeqAt.EqAt.none_tuple <;> assumption
  | lst _ q4=>apply SeqAt.EqAt.none_list <;> assumption
 | bl _=>
  cases k2 with
  | non=>cases f
  | bl _=>cases f
  | int _ _=>cases f
  | str _ _=>cases f
  | tup _ q3=>apply SeqAt.EqAt.bool_tuple <;> assumption
  | lst _ q4=>apply SeqAt.EqAt.bool_list <;> assumption
 | int _ _=>
  cases k2 with
  | non=>cases f
  | bl _=>cases f
  | int _ _=>cases f
  | str _ _=>cases f
  | tup _ q3=>apply SeqAt.EqAt.int_tuple <;> assumption
  | lst _ q4=>apply SeqAt.EqAt.int_list <;> assumption
 | str _ _=>
  cases k2 with
  | non=>cases f
  | bl _=>cases f
  | int _ _=>cases f
  | str _ _=>cases f
  | tup _ q3=>apply SeqAt.EqAt.str_tuple <;> assumption
  | lst _ q4=>apply SeqAt.EqAt.str_list <;> assumption
 | tup _ q1=>
  cases k2 with
  | non=>apply SeqAt.EqAt.tuple_none <;> assumption
  | bl _=>apply SeqAt.EqAt.tuple_bool <;> assumption
  | int _ _=>apply SeqAt.EqAt.tuple_int <;> assumption
  | str _ _=>apply SeqAt.EqAt.tuple_str <;> assumption
  | tup _ q3=>cases h
  | lst _ q4=>apply SeqAt.EqAt.tuple_list <;> assumption
 | lst _ q2=>
  cases k2 with
  | non=>apply SeqAt.EqAt.list_none <;> assumption
  | bl _=>apply SeqAt.EqAt.list_bool <;> assumption
  | int _ _=>apply SeqAt.EqAt.list_int <;> assumption
  | str _ _=>apply SeqAt.EqAt.list_str <;> assumption
  | tup _ q3=>apply SeqAt.EqAt.list_tuple <;> assumption
  | lst _ q4=>cases h
def Ve {s:aci}{A:acY}{w u:W}{a b:acd}(hu:A.units<afi)(k1:Kd s w a)(k2:Kd s u b)(h:Cw w u=false):acW A s a b (eqW w u):=by
 cases k1 with
 | non=>
  cases k2 with
  | non=>apply SeqAt.RcAt.none_none <;> assumption
  | bl _=>apply SeqAt.RcAt.none_bool <;> assumption
  | int _ _=>apply SeqAt.RcAt.none_int <;> assumption
  | str _ _=>apply SeqAt.RcAt.none_str <;> assumption
  | tup _ q3=>apply SeqAt.RcAt.none_tuple <;> assumption
  | lst _ q4=>apply SeqAt.RcAt.none_list <;> assumption
 | bl _=>
  cases k2 with
  | non=>apply SeqAt.RcAt.bool_none <;> assumption
  | bl _=>apply SeqAt.RcAt.bool_bool <;> assumption
  | int _ _=>apply SeqAt.RcAt.bool_int <;> assumption
  | str _ _=>apply SeqAt.RcAt.bool_str <;> assumption
  | tup _ q3=>apply SeqAt.RcAt.bool_tuple <;> assumption
  | lst _ q4=>apply SeqAt.RcAt.bool_list <;> assumption
 | int _ _=>
  cases k2 with
  | non=>apply SeqAt.RcAt.int_none <;> assumption
  | bl _=>apply SeqAt.RcAt.int_bool <;> assumption
  | int _ _=>apply SeqAt.RcAt.int_int <;> assumption
  | str _ _=>apply SeqAt.RcAt.int_str <;> assumption
  | tup _ q3=>apply SeqAt.RcAt.int_tuple <;> assumption
  | lst _ q4=>apply SeqAt.RcAt.int_list <;> assumption
 | str _ _=>
  cases k2 with
  | non=>apply SeqAt.RcAt.str_none <;> assumption
  | bl _=>apply SeqAt.RcAt.str_bool <;> assumption
  | int _ _=>apply SeqAt.RcAt.str_int <;> assumption
  | str _ _=>apply SeqAt.RcAt.str_str <;> assumption
  | tup _ q3=>apply SeqAt.RcAt.str_tuple <;> assumption
  | lst _ q4=>apply SeqAt.RcAt.str_list <;> assumption
 | tup _ q1=>
  cases k2 with
  | non=>apply SeqAt.RcAt.tuple_none <;> assumption
  | bl _=>apply SeqAt.RcAt.tuple_bool <;> assumption
  | int _ _=>apply SeqAt.RcAt.tuple_int <;> assumption
  | str _ _=>apply SeqAt.RcAt.tuple_str <;> assumption
  | tup _ q3=>cases h
  | lst _ q4=>apply SeqAt.RcAt.tuple_list <;> assumption
 | lst _ q2=>
  cases k2 with
  | non=>apply SeqAt.RcAt.list_none <;> assumption
  | bl _=>apply SeqAt.RcAt.list_bool <;> assumption
  | int _ _=>apply SeqAt.RcAt.list_int <;> assumption
  | str _ _=>apply SeqAt.RcAt.list_str <;> assumption
  | tup _ q3=>apply SeqAt.RcAt.list_tuple <;> assumption
  | lst _ q4=>cases h
def Xg {s:aci}{A:acY}{w u:W}{a b:acd}(hu:A.units<afi)(k1:Kd s w a)(k2:Kd s u b)(h:Cw w u=false):acR A s a b (!eqW w u):=by
 cases k1 with
 | non=>
  cases k2 with
  | non=>apply SeqAt.RcNeAt.none_none <;> assumption
  | bl _=>apply SeqAt.RcNeAt.none_bool <;> assumption
  | int _ _=>apply SeqAt.RcNeAt.none_int <;> assumption
  | str _ _=>apply SeqAt.RcNeAt.none_str <;> assumption
  | tup _ q3=>apply SeqAt.RcNeAt.none_tuple <;> assumption
  | lst _ q4=>apply SeqAt.RcNeAt.none_list <;> assumption
 | bl _=>
  cases k2 with
  | non=>apply SeqAt.RcNeAt.bool_none <;> assumption
  | bl _=>apply SeqAt.RcNeAt.bool_bool <;> assumption
  | int _ _=>apply SeqAt.RcNeAt.bool_int <;> assumption
  | str _ _=>apply SeqAt.RcNeAt.bool_str <;> assumption
  | tup _ q3=>apply SeqAt.RcNeAt.bool_tuple <;> assumption
  | lst _ q4=>apply SeqAt.RcNeAt.bool_list <;> assumption
 | int _ _=>
  cases k2 with
  | non=>apply SeqAt.RcNeAt.int_none <;> assumption
  | bl _=>apply SeqAt.RcNeAt.int_bool <;> assumption
  | int _ _=>apply SeqAt.RcNeAt.int_int <;> assumption
  | str _ _=>apply SeqAt.RcNeAt.int_str <;> assumption
  | tup _ q3=>apply SeqAt.RcNeAt.int_tuple <;> assumption
  | lst _ q4=>apply SeqAt.RcNeAt.int_list <;> assumption
 | str _ _=>
  cases k2 with
  | non=>apply SeqAt.RcNeAt.str_none <;> assumption
  | bl _=>apply SeqAt.RcNeAt.str_bool <;> assumption
  | int _ _=>apply SeqAt.RcNeAt.str_int <;> assumption
  | str _ _=>apply SeqAt.RcNeAt.str_str <;> assumption
  | tup _ q3=>apply SeqAt.RcNeAt.str_tuple <;> assumption
  | lst _ q4=>apply SeqAt.RcNeAt.str_list <;> assumption
 | tup _ q1=>
  cases k2 with
  | non=>apply SeqAt.RcNeAt.tuple_none <;> assumption
  | bl _=>apply SeqAt.RcNeAt.tuple_bool <;> assumption
  | int _ _=>apply SeqAt.RcNeAt.tuple_int <;> assumption
  | str _ _=>apply SeqAt.RcNeAt.tuple_str <;> assumption
  | tup _ q3=>cases h
  | lst _ q4=>apply SeqAt.RcNeAt.tuple_list <;> assumption
 | lst _ q2=>
  cases k2 with
  | non=>apply SeqAt.RcNeAt.list_none <;> assumption
  | bl _=>apply SeqAt.RcNeAt.list_bool <;> assumption
  | int _ _=>apply SeqAt.RcNeAt.list_int <;> assumption
  | str _ _=>apply SeqAt.RcNeAt.list_str <;> assumption
  | tup _ q3=>apply SeqAt.RcNeAt.list_tuple <;> assumption
  | lst _ q4=>cases h
def FW {ahW:List (Addr×Obj)}{s:aci}{Z : St}(I:Inv X ahW Z H s):∀ (n:Nat) {A:acY} {w u:W} {v x:V} {a b:acd},A.units+n<afi->Dt X.K H w v->Dt X.K H u x->plW n w=true->plW n u=true->RelV v a->RelV x b->acS A s a b (eqW w u):=by
 intro n;induction n with
 | zero=>
  intro A w u v x a b hu dw du pw pu ra rb;cases w <;> first | (simp [plW] at pw;done) | skip
  all_goals cases u <;> first | (simp [plW] at pu;done) | (rw [Dt] at dw;rw [Dt] at du;subst dw;subst du;exact Mr ra rb rfl rfl)
 | succ n ih=>
  intro A w u v x a b hu dw du pw pu ra rb;have hu':A.units<afi:=by omega
  have hu1:A.in1.units+n<afi:=by rw [in1_units];omega
  by_cases h2:Cw w u=true
  ·cases w <;> cases u <;> first | (cases h2;done) | skip
   ·rename_i ws us;have dw0:=dw;have du0:=du;rw [Dt] at dw;obtain ⟨p1,xs1,e1,hs1,ds1⟩:=dw;subst e1;cases ra;obtain ⟨its1,rv1,pl1,hz1⟩:=I.tuple hs1;have q1:s.heap.IsTuple p1 its1.toArray:=pl1;rw [Dt] at du;obtain ⟨p2,xs2,e2,hs2,ds2⟩:=du;subst e2;cases rb;obtain ⟨its2,rv2,pl2,hz2⟩:=I.tuple hs2;have q2:s.heap.IsTuple p2 its2.toArray:=pl2;have pw:ws.all (plW n)=true:=by simpa [plW] using pw
    have pu:us.all (plW n)=true:=by simpa [plW] using pu
    by_cases hp:p1=p2
    ·subst hp;rw [su I dw0 du0];exact SeqAt.EqAt.same _
    ·refine SeqAt.EqAt.of_refs hp ?_;have z:=SeqAt.RcAt.tuples q1 q2 hu' (jk ds1 ds2 pw pu rv1 rv2 (fun a b c d e f=>ih hu1 a b c d e f));rw [size_of ds1 rv1,size_of ds2 rv2,wU] at z;rw [eqW];exact z
   ·rename_i ws us;have dw0:=dw;have du0:=du;rw [Dt] at dw;obtain ⟨p1,xs1,e1,hs1,ds1⟩:=dw;subst e1;cases ra;obtain ⟨its1,rv1,pl1,hz1⟩:=I.list hs1;have q1:=pl1.isList;rw [Dt] at du;obtain ⟨p2,xs2,e2,hs2,ds2⟩:=du;subst e2;cases rb;obtain ⟨its2,rv2,pl2,hz2⟩:=I.list hs2;have q2:=pl2.isList;have pw:ws.all (plW n)=true:=by simpa [plW] using pw
    have pu:us.all (plW n)=true:=by simpa [plW] using pu
    by_cases hp:p1=p2
    ·subst hp;rw [su I dw0 du0];exact SeqAt.EqAt.same _
    ·refine SeqAt.EqAt.of_refs hp ?_;rw [eqW];by_cases hl:ws.length=us.length
     ·have z:=SeqAt.RcAt.lists q1 q2 (by rw [size_of ds1 rv1,size_of ds2 rv2,hl]) hu' (jk ds1 ds2 pw pu rv1 rv2 (fun a b c d e f=>ih hu1 a b c d e f));rw [size_of ds1 rv1,j8 hl] at z;exact z
     ·rw [jZ hl];exact SeqAt.RcAt.lists_lengths q1 q2 (by rw [size_of ds1 rv1,size_of ds2 rv2];simpa using hl) hu'
  ·by_cases hf:aaQ w u=true
   ·cases w <;> cases u <;> first | (cases hf;done) | (simp [plW] at pw;done) | (simp [plW] at pu;done) | (rw [Dt] at dw;rw [Dt] at du;subst dw;subst du;exact Mr ra rb rfl rfl)
   ·exact Vy hu' (Bs I dw ra) (Bs I du rb) (by simpa using h2)<|by simpa using hf
def ZM {ahW:List (Addr×Obj)}{s:aci}{Z : St}(I:Inv X ahW Z H s)(n:Nat){A:acY}{w u:W}{v x:V}{a b:acd}(hu:A.units+n<afi)(dw:Dt X.K H w v)(du:Dt X.K H u x)(pw:plW n w=true)(pu:plW n u=true)(ra:RelV v a)(rb:RelV x b):acW A s a b (eqW w u):=by
 have hu':A.units<afi:=by omega
 by_cases h2:Cw w u=true
 ·cases w <;> cases u <;> first | (cases h2;done) | skip
  ·obtain ⟨m,hm,pw⟩:=pL pw;subst hm;obtain ⟨m',hm',pu⟩:=pL pu;cases hm'
   have hu1:A.in1.units+m<afi:=by rw [in1_units];omega
   rw [Dt] at dw;obtain ⟨p1,xs1,e1,hs1,ds1⟩:=dw;subst e1;cases ra;obtain ⟨its1,rv1,pl1,hz1⟩:=I.tuple hs1;have q1:s.heap.IsTuple p1 its1.toArray:=pl1;rw [Dt] at du;obtain ⟨p2,xs2,e2,hs2,ds2⟩:=du;subst e2;cases rb;obtain ⟨its2,rv2,pl2,hz2⟩:=I.tuple hs2;have q2:s.heap.IsTuple p2 its2.toArray:=pl2;rw [eqW];have z:=SeqAt.RcAt.tuples q1 q2 hu' (jk ds1 ds2 pw pu rv1 rv2 (fun a b c d e f=>FW I m hu1 a b c d e f));rw [size_of ds1 rv1,size_of ds2 rv2,wU] at z;exact z
  ·rename_i ws us;obtain ⟨m,hm,pw⟩:=lZ pw;subst hm;obtain ⟨m',hm',pu⟩:=lZ pu;cases hm'
   have hu1:A.in1.units+m<afi:=by rw [in1_units];omega
   rw [Dt] at dw;obtain ⟨p1,xs1,e1,hs1,ds1⟩:=dw;subst e1;cases ra;obtain ⟨its1,rv1,pl1,hz1⟩:=I.list hs1;have q1:=pl1.isList;rw [Dt] at du;obtain ⟨p2,xs2,e2,hs2,ds2⟩:=du;subst e2;cases rb;obtain ⟨its2,rv2,pl2,hz2⟩:=I.list hs2;have q2:=pl2.isList;rw [eqW];by_cases hl:ws.length=us.length
   ·have z:=SeqAt.RcAt.lists q1 q2 (by rw [size_of ds1 rv1,size_of ds2 rv2,hl]) hu' (jk ds1 ds2 pw pu rv1 rv2 (fun a b c d e f=>FW I m hu1 a b c d e f));rw [size_of ds1 rv1,j8 hl] at z;exact z
   ·rw [jZ hl];exact SeqAt.RcAt.lists_lengths q1 q2 (by rw [size_of ds1 rv1,size_of ds2 rv2];simpa using hl) hu'
 ·exact Ve hu' (Bs I dw ra) (Bs I du rb)<|by simpa using h2
def QZ {ahW:List (Addr×Obj)}{s:aci}{Z : St}(I:Inv X ahW Z H s)(n:Nat){A:acY}{w u:W}{v x:V}{a b:acd}(hu:A.units+n<afi)(dw:Dt X.K H w v)(du:Dt X.K H u x)(pw:plW n w=true)(pu:plW n u=true)(ra:RelV v a)(rb:RelV x b):acR A s a b (!eqW w u):=by
 have hu':A.units<afi:=by omega
 by_cases h2:Cw w u=true
 ·cases w <;> cases u <;> first | (cases h2;done) | skip
  ·obtain ⟨m,hm,pw⟩:=pL pw;subst hm;obtain ⟨m',hm',pu⟩:=pL pu;cases hm'
   have hu1:A.in1.units+m<afi:=by rw [in1_units];omega
   rw [Dt] at dw;obtain ⟨p1,xs1,e1,hs1,ds1⟩:=dw;subst e1;cases ra;obtain ⟨its1,rv1,pl1,hz1⟩:=I.tuple hs1;have q1:s.heap.IsTuple p1 its1.toArray:=pl1;rw [Dt] at du;obtain ⟨p2,xs2,e2,hs2,ds2⟩:=du;subst e2;cases rb;obtain ⟨its2,rv2,pl2,hz2⟩:=I.tuple hs2;have q2:s.heap.IsTuple p2 its2.toArray:=pl2;rw [eqW];have z:=SeqAt.RcNeAt.tuples q1 q2 hu' (jk ds1 ds2 pw pu rv1 rv2 (fun a b c d e f=>FW I m hu1 a b c d e f));rw [size_of ds1 rv1,size_of ds2 rv2,wU] at z;exact z
  ·rename_i ws us;obtain ⟨m,hm,pw⟩:=lZ pw;subst hm;obtain ⟨m',hm',pu⟩:=lZ pu;cases hm'
   have hu1:A.in1.units+m<afi:=by rw [in1_units];omega
   rw [Dt] at dw;obtain ⟨p1,xs1,e1,hs1,ds1⟩:=dw;subst e1;cases ra;obtain ⟨its1,rv1,pl1,hz1⟩:=I.list hs1;have q1:=pl1.isList;rw [Dt] at du;obtain ⟨p2,xs2,e2,hs2,ds2⟩:=du;subst e2;cases rb;obtain ⟨its2,rv2,pl2,hz2⟩:=I.list hs2;have q2:=pl2.isList;rw [eqW];by_cases hl:ws.length=us.length
   ·have z:=SeqAt.RcNeAt.lists q1 q2 (by rw [size_of ds1 rv1,size_of ds2 rv2,hl]) hu' (jk ds1 ds2 pw pu rv1 rv2 (fun a b c d e f=>FW I m hu1 a b c d e f));rw [size_of ds1 rv1,j8 hl] at z;exact z
   ·rw [jZ hl];exact SeqAt.RcNeAt.lists_lengths q1 q2 (by rw [size_of ds1 rv1,size_of ds2 rv2];simpa using hl) hu'
 ·exact Xg hu' (Bs I dw ra) (Bs I du rb)<|by simpa using h2
def CP (h:Gh):W->Option W
 | .loc n=>(match h.c n with
  | some (.lst ws)=>some (.lst ws)
  | _=>none)
 | w=>some w
def lU {w d:W}{v:V}{n:Nat}(R:Rel K μ H h)(r:Rep K H μ w v)(e:CP h w=some d)(p:plW n d=true):Dt K H d v:=by
 have other:CP h w=some w->Dt K H d v:=fun z=>by
  rw [z] at e;cases e;exact JQ n r p
 cases w with
 | loc m=>
  unfold CP at e;dsimp only at e;cases ec:h.c m with
  | none=>rw [ec] at e;cases e
  | some cl=>
   rw [ec] at e;cases cl with
   | lst us=>
    cases (show some (W.lst us)=some d from e)
    obtain ⟨p',xs,hm',hx,rs⟩:=R.lstAt ec;rw [Rep] at r;obtain ⟨q,ev,hm⟩:=r;have ep:p'=q:=by rw [hm] at hm';exact (acv hm').symm
    subst ep;obtain ⟨k,rfl,p⟩:=lZ p;rw [Dt];exact ⟨p',xs,ev,.of hx,vq (JQ k) rs p⟩
   | _=>cases e
 | _=>exact other rfl
def aar (K:abZ)(neg:Bool):R2:=fun x y H Q=>∃ w u,Dt K H w x/\Dt K H u y/\plW 30 w=true/\plW 30 u=true/\Q (.bl (if neg then !eqW w u else eqW w u)) H
def WW (hu:X.A.units+30<afi):OpR X (adW .Eq) (aar X.K false):=by
 intro ahW s Z H x y v u Q I rx ry ⟨w,w',d1,d2,p1,p2,q⟩;exact ZM I 30 hu d1 d2 p1 p2 rx ry X.prog X.w X.xe _<|Ah I q rfl
def Mz (hu:X.A.units+30<afi):OpR X (adW .NotEq) (aar X.K true):=by
 intro ahW s Z H x y v u Q I rx ry ⟨w,w',d1,d2,p1,p2,q⟩;exact QZ I 30 hu d1 d2 p1 p2 rx ry X.prog X.w X.xe _<|Ah I q rfl
def kEq:M2:=fun x y h Q=>match CP h x,CP h y with
 | some a,some b=>by2 (plW 30 a&&plW 30 b) (Q (.bl (eqW a b)) h) False
 | _,_=>False
def kNe:M2:=fun x y h Q=>match CP h x,CP h y with
 | some a,some b=>by2 (plW 30 a&&plW 30 b) (Q (.bl (!eqW a b)) h) False
 | _,_=>False
def qx (hu:X.A.units+30<afi):DOp X (adW .Eq) kEq:=⟨_,WW hu,by
 intro H μ h x y wx wy Qw Q R rx ry m k;unfold kEq at m;split at m
 ·rename_i a b ea eb;cases hp:(plW 30 a&&plW 30 b) with
  | true=>
   rw [hp] at m;rw [adC] at hp;exact ⟨a,b,lU R rx ea hp.1,lU R ry eb hp.2,hp.1,hp.2,k _ _<|.bl R m⟩
  | false=>rw [hp] at m;exact (show False from m).elim
 ·exact m.elim⟩
def Sv (hu:X.A.units+30<afi):DOp X (adW .NotEq) kNe:=⟨_,Mz hu,by
 intro H μ h x y wx wy Qw Q R rx ry m k;unfold kNe at m;split at m
 ·rename_i a b ea eb;cases hp:(plW 30 a&&plW 30 b) with
  | true=>
   rw [hp] at m;rw [adC] at hp;exact ⟨a,b,lU R rx ea hp.1,lU R ry eb hp.2,hp.1,hp.2,k _ _<|.bl R m⟩
  | false=>rw [hp] at m;exact (show False from m).elim
 ·exact m.elim⟩
def abK {A:acY}{k:Nat}(hr:nF k A):A.units+30<afi:=by have:=hr.units;omega
end
section
variable {X:Cx}{K:abZ}
def jO {H:Hp}{w:W}{vs:List V}(r:aM K H μ [w] vs):∃ v,vs=[v]/\Rep K H μ w v:=by
 rw [aM] at r;obtain ⟨v,vr,ev,ra,r⟩:=r;rw [aM] at r;subst r;exact ⟨v,ev,ra⟩
def Bb {H:Hp}{w u:W}{vs:List V}(r:aM K H μ [w,u] vs):∃ v x,vs=[v,x]/\Rep K H μ w v/\Rep K H μ u x:=by
 rw [aM] at r;obtain ⟨v,vr,ev,ra,r⟩:=r;obtain ⟨x,e,rb⟩:=jO r;subst e;exact ⟨v,x,ev,ra,rb⟩
def oM.of {i j:Int}{n:Nat}(hi:Sm m i)(hj:Sm n j)(hm:m<=1000000)(hn:n<=1000000):oM i j:=⟨m,n,hm,hn,hi,hj⟩
def Sm.lit {i:Int}(h:agR (i.natAbs+1) (2^64)=true):Sm 64 i:=by
 have:=afA h
 unfold Sm;omega
def kLen:MC:=fun ws h Q=>match ws with
 | [w]=>(match view h w with
  | some xs=>Q (.int (xs.length:Int)) h
  | none=>False)
 | _=>False
def kW:fM X (.builtin "len") kLen:=⟨_,vO,by
 intro H μ h vs ws Qw Q R r m k;unfold kLen at m;split at m
 ·split at m
  ·rename_i w _ xs ev;obtain ⟨v,e,rv⟩:=jO r;obtain ⟨p,ys,ex,hs,rs⟩:=uq R rv ev;subst e ex;exact ⟨p,ys,rfl,hs,by rw [<-rs.len];exact k _ _ (.int R m)⟩
  ·exact m.elim
 ·exact m.elim⟩
def SX:MC:=fun ws h Q=>match ws with
 | [.int i]=>Q (.int (if i<0 then -i else i)) h
 | _=>False
def Py:fM X (.builtin "abs") SX:=⟨_,JV,by
 intro H μ h vs ws Qw Q R r m k;unfold SX at m;split at m
 ·obtain ⟨v,e,rv⟩:=jO r;rw [Rep] at rv;subst e rv;exact ⟨_,rfl,k _ _<|.int R m⟩
 ·exact m.elim⟩
def VL:MC:=fun ws h Q=>match ws with
 | [.int i,.int j]=>Q (.int (if j>i then j else i)) h
 | _=>False
def T4 (hc:X.calm=true):fM X (.builtin "max") VL:=⟨_,Dn hc,by
 intro H μ h vs ws Qw Q R r m k;unfold VL at m;split at m
 ·obtain ⟨v,x,e,rv,rx⟩:=Bb r;rw [Rep] at rv rx;subst e rv rx;exact ⟨_,_,rfl,k _ _<|.int R m⟩
 ·exact m.elim⟩
def IV:List W->Option (List Bool)
 | []=>some []
 | .bl b::ws=>(IV ws).map (b::·)
 | _=>none
theorem Ez {H:Hp}{μ : Mu}:∀ {ws:List W} {xs:List V} {bs:List Bool},aM K H μ ws xs->IV ws=some bs->xs=bs.map V.bl
 | [],xs,bs,r,e=>by
  rw [aM] at r;cases (show some []=some bs from e)
  exact r
 | w::ws,xs,bs,r,e=>by
  rw [aM] at r;obtain ⟨v,vr,ev,ra,r⟩:=r;cases w with
  | bl b=>
   rw [Rep] at ra;rw [IV] at e;cases q:IV ws with
   | none=>rw [q] at e;cases e
   | some cs=>
    rw [q] at e;cases (show some (b::cs)=some bs from e)
    rw [ev,ra,Ez r q];rfl
  | _=>cases e
def aaH:MC:=fun ws h Q=>match ws with
 | [w]=>(match d7 h w with
  | some us=>(match IV us with
   | some bs=>Q (.bl (bs.all id)) h
   | none=>False)
  | none=>False)
 | _=>False
def Xv (h:Gh)(w:W)(T:String):Option Bool:=match w with
 | .int _=>if T = "int" then some true else if T = "bool"\/T = "tuple"\/T = "list" then some false else none
 | .bl _=>if T = "int"\/T = "bool" then some true else if T = "tuple"\/T = "list" then some false else none
 | .str _=>if T = "int"\/T = "bool"\/T = "tuple"\/T = "list" then some false else none
 | .non=>if T = "int"\/T = "bool"\/T = "tuple"\/T = "list" then some false else none
 | .tup _=>if T = "tuple" then some true else if T = "int"\/T = "bool"\/T = "list" then some false else none
 | w=>(match d7 h w with
  | some _=>if T = "list" then some true else if T = "int"\/T = "bool"\/T = "tuple" then some false else none
  | none=>none)
def Oj {H:Hp}{h:Gh}{w:W}{v:V}{T:String}{b:Bool}(R:Rel K μ H h)(r:Rep K H μ w v)(e:Xv h w T=some b):aaq K H v T b:=by
 unfold Xv at e;split at e
 ·rw [Rep] at r;subst r;split at e
  ·rename_i t;subst t;cases e;exact .inl ⟨rfl,rfl⟩
  ·split at e
   ·rename_i t;cases e;rcases t with t | t | t <;> subst t
    ·exact .inr<|.inl ⟨rfl,rfl⟩
    ·exact .inr<|.inr<|.inl ⟨rfl,rfl⟩
    ·exact .inr<|.inr<|.inr ⟨rfl,rfl⟩
   ·cases e
 ·rw [Rep] at r;subst r;split at e
  ·rename_i t;cases e;rcases t with t | t <;> subst t
   ·exact .inl ⟨rfl,rfl⟩
   ·exact .inr<|.inl ⟨rfl,rfl⟩
  ·split at e
   ·rename_i t;cases e;rcases t with t | t <;> subst t
    ·exact .inr<|.inr<|.inl ⟨rfl,rfl⟩
    ·exact .inr<|.inr<|.inr ⟨rfl,rfl⟩
   ·cases e
 ·rw [Rep] at r;subst r;split at e
  ·rename_i t;cases e;rcases t with t | t | t | t <;> subst t
   ·exact .inl ⟨rfl,rfl⟩
   ·exact .inr<|.inl ⟨rfl,rfl⟩
   ·exact .inr<|.inr<|.inl ⟨rfl,rfl⟩
   ·exact .inr<|.inr<|.inr ⟨rfl,rfl⟩
  ·cases e
 ·rw [Rep] at r;subst r;split at e
  ·rename_i t;cases e;rcases t with t | t | t | t <;> subst t
   ·exact .inl ⟨rfl,rfl⟩
   ·exact .inr<|.inl ⟨rfl,rfl⟩
   ·exact .inr<|.inr<|.inl ⟨rfl,rfl⟩
   ·exact .inr<|.inr<|.inr ⟨rfl,rfl⟩
  ·cases e
 ·rw [Rep] at r;obtain ⟨p,xs,ev,hs,_⟩:=r;subst ev;refine .inl ⟨xs,hs,?_⟩;split at e
  ·rename_i t;subst t;cases e;exact .inr (.inr (.inl ⟨rfl,rfl⟩))
  ·split at e
   ·rename_i t;cases e;rcases t with t | t | t <;> subst t
    ·exact .inl ⟨rfl,rfl⟩
    ·exact .inr<|.inl ⟨rfl,rfl⟩
    ·exact .inr<|.inr<|.inr ⟨rfl,rfl⟩
   ·cases e
 ·split at e
  ·rename_i ws ev;obtain ⟨p,xs,ex,hs,_⟩:=cX R r ev;subst ex;refine .inr ⟨xs,hs,?_⟩;split at e
   ·rename_i t;subst t;cases e;exact .inr (.inr (.inr ⟨rfl,rfl⟩))
   ·split at e
    ·rename_i t;cases e;rcases t with t | t | t <;> subst t
     ·exact .inl ⟨rfl,rfl⟩
     ·exact .inr<|.inl ⟨rfl,rfl⟩
     ·exact .inr<|.inr<|.inl ⟨rfl,rfl⟩
    ·cases e
  ·cases e
def Hh:MC:=fun ws h Q=>match ws with
 | [w,.ty T]=>(match Xv h w T with
  | some b=>Q (.bl b) h
  | none=>False)
 | _=>False
def Bj:fM X (.builtin "isinstance") Hh:=⟨_,Kw,by
 intro H μ h vs ws Qw Q R r m k;unfold Hh at m;split at m
 ·split at m
  ·rename_i w T _ b eb;obtain ⟨v,x,e,rv,rx⟩:=Bb r;have hi:=Oj R rv eb;rw [Rep] at rx;subst e rx;exact ⟨v,T,b,rfl,hi,k _ _<|.bl R m⟩
  ·exact m.elim
 ·exact m.elim⟩
def cC:MC:=fun ws h Q=>match ws with
 | [.tup us]=>Q (.tup us) h
 | [w]=>(match d7 h w with
  | some us=>Q (.tup us) h
  | none=>False)
 | _=>False
def cL:fM X (.type "tuple") cC:=⟨_,uc,by
 intro H μ h vs ws Qw Q R r m k;unfold cC at m;split at m
 ·obtain ⟨v,e,rv⟩:=jO r;have rv':=rv;rw [Rep] at rv;obtain ⟨p,xs,ex,hs,rs⟩:=rv;subst e ex;exact ⟨p,xs,rfl,.inr ⟨hs,k _ _ ⟨μ,_,h,.refl,R,rv',m⟩⟩⟩
 ·split at m
  ·rename_i w _ _ us ev;obtain ⟨v,e,rv⟩:=jO r;obtain ⟨p,ys,ex,hs,rs⟩:=cX R rv ev;subst e ex;exact ⟨p,ys,rfl,.inl ⟨hs,fun l hl=>k _ _ ⟨μ,_,h,(Ex.laid hl).ext,R.laid hl,.tupNew hl rs,m⟩⟩⟩
  ·exact m.elim
 ·exact m.elim⟩
def vg:MC:=fun ws h Q=>match ws with
 | [w]=>(match view h w with
  | some us=>Q (.lst us) h
  | none=>False)
 | _=>False
def yI:fM X (.type "list") vg:=⟨_,uU,by
 intro H μ h vs ws Qw Q R r m k;unfold vg at m;split at m
 ·split at m
  ·rename_i w _ xs ev;obtain ⟨v,e,rv⟩:=jO r;obtain ⟨p,ys,ex,hs,rs⟩:=uq R rv ev;subst e ex;exact ⟨p,ys,rfl,hs,fun l hl=>k _ _ ⟨μ,_,h,(Ex.laid hl).ext,R.laid hl,.lstNew R hl rs,m⟩⟩
  ·exact m.elim
 ·exact m.elim⟩
abbrev MM:=W->List W->Gh->WK->Prop
def aaz (K:abZ)(r:V->List V->Hp->VK->Prop)(mr:MM):Prop:=∀ {H:Hp} {μ : Mu} {h:Gh} {x:V} {vs:List V} {wx:W} {ws:List W} {Qw:WK} {Q:VK},Rel K μ H h->Rep K H μ wx x->aM K H μ ws vs->mr wx ws h Qw->(∀ v H',DQ K H μ Qw v H'->Q v H')->r x vs H Q
def Bf (h:Gh)(w:W)(P:Prop):Prop:=match w with
 | .loc n=>(match h.c n with
  | some (.lst _)=>P
  | _=>False)
 | _=>False
def zE {H:Hp}{h:Gh}{w:W}{v:V}{P:Prop}(R:Rel K μ H h)(r:Rep K H μ w v)(e:Bf h w P):tyV K "list" v H/\P:=by
 unfold Bf at e;split at e
 ·split at e
  ·rename_i n _ ws ec;rw [Rep] at r;obtain ⟨p,ev,hm⟩:=r;obtain ⟨p',xs,hm',hx,rs⟩:=R.lstAt ec;have ep:p'=p:=by rw [hm] at hm';exact (acv hm').symm
   subst ep ev;exact ⟨.inl ⟨rfl,xs,.of hx⟩,e⟩
  ·exact e.elim
 ·exact e.elim
def OJ (r:MM)(mo:ME)(ma:MA):ME:=fun Z h Q=>mo Z h fun x h1=>Bf h1 x (ma Z h1 fun xs h2=>r x xs h2 Q)
variable {o e:Expr}{es:List Expr}{mo:ME}{ma:MA}{name:Str}{apos ahY:Pos}{id:String}{r:V->List V->Hp->VK->Prop}{mr:MM}
def aaZ (slot:Slot "list" name id)(hty:typeOf (.builtin id)=pure (.type "method_descriptor"))(hm:MtR X id r)(hs:aaz X.K r mr)(ho:DE X o mo)(ha:DAs X (e::es) ma)
  (hbase:attributeBase o name X.env (eval o X.env)=eval o X.env:=by rfl)
  (hfew:((afj ahY (acN (e::es) X.env)).all (fun x=>!x.1)&&(backToKw ahY (agO [] X.env)).all (fun x=>x.1.isSome)
   && decide ((e::es).length+([]:List agy).length+(if ([]:List agy).isEmpty then 0 else 1)<30))=true:=by rfl)
  (hline:(apos.endLine==ahY.line)=true:=by rfl) (hst:acN (e::es) X.env=(false,eval e X.env)::acN es X.env:=by rfl) (hplain:(afj ahY (acN es X.env)).any (·.1)=false:=by rfl) :
  DE X (.Call (.Attribute o name apos) (e::es) [] ahY) (OJ mr mo ma):=(Zy PySem.F.plainAttrs_list slot hty hm ho ha hbase hfew hline hst hplain).of fun Z H Q ⟨μ,h,Zw,Qw,R,S,m,k⟩=>by
 refine ⟨μ,h,Zw,_,R,S,m,fun v H1 ⟨μ1,w,h1,e1,R1,r1,il⟩=>⟨(zE R1 r1 il).1,?_⟩⟩;have m1:=(zE R1 r1 il).2;exact ⟨μ1,h1,Zw,_,R1,S.ext e1,m1,fun vs H2 ⟨μ2,ws,h2,e2,R2,r2,m2⟩=>hs R2 (e2.r _ _ r1) r2 m2 fun v H' z=>k _ _<|(z.trans e2).trans e1⟩
def gP:MM:=fun x ws h Q=>match x,ws with
 | .loc n,[w]=>(match h.c n with
  | some (.lst us)=>us.length<acM/\Q .non (h.set n (.lst (us++[w])))
  | _=>False)
 | _,_=>False
def W0 {H:Hp}{h:Gh}{n:Nat}{v:V}{us:List W}(R:Rel K μ H h)(r:Rep K H μ (.loc n) v)(ec:h.c n=some (.lst us)):∃ p xs,v=.ref p/\μ.f n=some p/\H p=some (.lst xs)/\aM K H μ us xs:=by
 rw [Rep] at r;obtain ⟨p,ev,hm⟩:=r;obtain ⟨p',xs,hm',hx,rs⟩:=R.lstAt ec;have ep:p'=p:=by rw [hm] at hm';exact (acv hm').symm
 subst ep;exact ⟨p',xs,ev,hm,hx,rs⟩
def DQ.wrote {H:Hp}{h:Gh}{n:Nat}{p:Addr}{us:List W}{xs:List V}{Q:WK}{w:W}{v:V}(R:Rel K μ H h)(hm:μ.f n=some p)(rs:aM K H μ us xs)(rw':Rep K H μ w v)(q:Q w (h.set n (.lst us))):DQ K H μ Q v (upd H p (.lst xs)):=
 ⟨μ,w,h.set n (.lst us),(Ex.write R hm).ext,R.write hm trivial ⟨xs,bB,(Ex.write R hm).ext.s rs⟩,(Ex.write R hm).ext.r _ _ rw',q⟩
def Ky:aaz K Fp gP:=by
 intro H μ h x vs wx ws Qw Q R rx rs m k;unfold gP at m;split at m
 ·split at m
  ·rename_i n w _ us ec;obtain ⟨p,xs,ex,hm,hx,r1⟩:=W0 R rx ec;obtain ⟨v,ev,rv⟩:=jO rs;exact ⟨p,xs,v,ex,ev,hx,by rw [<-r1.len];exact m.1,k _ _<|.wrote R hm (r1.append<|.one rv) (by rw [Rep]) m.2⟩
  ·exact m.elim
 ·exact m.elim
def nM (ho:DE X o mo)(ha:DAs X [e] ma)
  (hbase:attributeBase o "append" X.env (eval o X.env)=eval o X.env:=by rfl)
  (hfew:((afj ahY (acN [e] X.env)).all (fun x=>!x.1)&&(backToKw ahY (agO [] X.env)).all (fun x=>x.1.isSome)
   && decide (([e]:List Expr).length+([]:List agy).length+(if ([]:List agy).isEmpty then 0 else 1)<30))=true:=by rfl)
  (hline:(apos.endLine==ahY.line)=true:=by rfl) (hst:acN [e] X.env=(false,eval e X.env)::acN [] X.env:=by rfl) (hplain:(afj ahY (acN [] X.env)).any (·.1)=false:=by rfl) :
  DE X (.Call (.Attribute o "append" apos) [e] [] ahY) (OJ gP mo ma):=aaZ PySem.F.slot_list_append PySem.F.type_list_append vG Ky ho ha hbase hfew hline hst hplain
end
section
variable {X:Cx}{K:abZ}
def Kq:OpR X (adW .IsNot) (fun x y H Q=>∃ c b,x=.bl c/\y=.bl b/\Q (.bl (!(c==b))) H):=by
 intro ahW s Z H x y v u Q I rx ry ⟨c,b,ex,ey,q⟩;subst ex ey;cases rx;cases ry;exact ach<|Ah I q (by cases c <;> cases b <;> rfl)
def Kh:W->Bool
 | .non=>true
 | _=>false
def Qn {H:Hp}{w:W}{v:V}(r:Rep K H μ w v):decide (v=.non)=Kh w:=by
 cases w with
 | non=>rw [Rep] at r;subst r;rfl
 | bl _=>rw [Rep] at r;subst r;rfl
 | int _=>rw [Rep] at r;subst r;rfl
 | str _=>rw [Rep] at r;subst r;rfl
 | ty _=>rw [Rep] at r;subst r;rfl
 | tup _=>rw [Rep] at r;obtain ⟨_,_,e,_⟩:=r;subst e;rfl
 | lst _=>rw [Rep] at r;obtain ⟨_,_,e,_⟩:=r;subst e;rfl
 | kls _=>rw [Rep] at r;obtain ⟨_,_,e,_⟩:=r;subst e;rfl
 | loc _=>rw [Rep] at r;obtain ⟨_,e,_⟩:=r;subst e;rfl
 | exc _=>rw [Rep] at r;obtain ⟨_,_,_,e,_⟩:=r;subst e;rfl
 | exa _ _=>rw [Rep] at r;obtain ⟨_,_,_,_,_,_,e,_⟩:=r;subst e;rfl
 | fnv _ _=>rw [Rep] at r;subst r;rfl
def kIs:M2:=fun x y h Q=>match x,y with
 | .bl c,.bl b=>Q (.bl (c==b)) h
 | w,.non=>Q (.bl (Kh w)) h
 | _,_=>False
def Ip:M2:=fun x y h Q=>match x,y with
 | .bl c,.bl b=>Q (.bl (!(c==b))) h
 | w,.non=>Q (.bl (!Kh w)) h
 | _,_=>False
def Ul:DOp X (adW .IsNot) Ip:=⟨_,Kq.or Oz,by
 intro H μ h x y wx wy Qw Q R rx ry m k;unfold Ip at m;split at m
 ·rw [Rep] at rx ry;exact .inl ⟨_,_,rx,ry,k _ _<|.bl R m⟩
 ·rw [<-Qn rx] at m;rw [Rep] at ry;exact .inr ⟨ry,k _ _<|.bl R m⟩
 ·exact m.elim⟩
def Ce (bs:List Bool):((aeZ bs.length).any fun i=>(bs[i]?).getD true)=bs.any id:=by
 rw [aga,aeF,aeF];constructor
 ·rintro ⟨i,hi,e⟩;have hi':=List.mem_range.mp hi;exact ⟨bs[i],afa hi',by simpa [hi'] using e⟩
 ·rintro ⟨b,hb,e⟩;obtain ⟨i,hi,rfl⟩:=afJ.mp hb;exact ⟨i,List.mem_range.mpr hi,by simpa [hi] using e⟩
def Ep (hc:X.calm=true):gk X (.builtin "any") (fun xs H Q=>∃ (p:Addr) (bs:List Bool),xs=[.ref p]/\SqL X.K H p (bs.map V.bl)/\Q (.bl (bs.any id)) H):=by
 intro ahW s Z H xs us Q I r ⟨p,bs,e,hS,q⟩;subst e;obtain ⟨u,rfl,ru⟩:=vals1 r;cases ru;obtain ⟨its,rv,pl,hz⟩:=I.list hS;have ahX:its.length=bs.length:=by rw [<-rv.length,acf]
 have hl:=pl.isList;have hlt:p<s.heap.objs.size:=by obtain ⟨_,e,_⟩:=hl;exact acs e
 refine call_any_walk<|agx hl ?_
 refine ⟨s.heap.objs.size,[s.heap.objs.size,p],[s.heap.objs.size],its.toArray.size,_,_,fun i=>(bs[i]?).getD true,rfl,Walks.list (A:=X.A.in1) (I.ok.hd hc) _ p (acI hlt) its.toArray,
  ⟨⟨_,acw _ rfl,rfl,rfl⟩,hl.push _⟩,fun i v s' Q' E' hP hQ=>?_,fun h' tk hk=>?_⟩
 ·obtain ⟨b,e,rfl⟩:=v8 rv (by simpa using hP);simp only [e,Option.getD_some] at hQ;exact wpAny_truthy_bool hQ
 ·have e:((aeZ its.toArray.size).any fun i=>(bs[i]?).getD true)=bs.any id:=by
   rw [acC,ahX];exact Ce bs
  rw [e];refine ⟨.bl<|bs.any id,H,I.kept (h':=h') (t':=tk)<|fun b x e=>?_,rfl,q⟩;exact hk b x (fun hm=>by rw [acT.mp hm] at e;exact adT _ (acs e))<|ace _ e
def Vx:MC:=fun ws h Q=>match ws with
 | [w]=>(match d7 h w with
  | some us=>(match IV us with
   | some bs=>Q (.bl (bs.any id)) h
   | none=>False)
  | none=>False)
 | _=>False
def Yd (hc:X.calm=true):fM X (.builtin "any") Vx:=⟨_,Ep hc,by
 intro H μ h vs ws Qw Q R r m k;unfold Vx at m;split at m
 ·split at m
  ·split at m
   ·rename_i w _ us ev _ bs eb;obtain ⟨v,e,rv⟩:=jO r;obtain ⟨p,ys,ex,hs,rs⟩:=cX R rv ev;subst e ex;exact ⟨p,bs,rfl,by rw [<-Ez rs eb];exact hs,k _ _<|.bl R m⟩
   ·exact m.elim
  ·exact m.elim
 ·exact m.elim⟩
def KD:OpR X (aeN .Add) (fun x y H Q=>∃ a b ys,x=.ref a/\y=.ref b/\SqT X.K H a []/\SqT X.K H b ys/\Q (.ref b) H):=by
 intro ahW s Z H x y v u Q I rx ry ⟨a,b,ys,ex,ey,ha,hb,q⟩;subst ex ey;cases rx;cases ry;obtain ⟨its,r1,p1,_⟩:=I.tuple ha;obtain ⟨jts,r2,p2,_⟩:=I.tuple hb;cases r1;obtain ⟨⟨cls,dd,data,sl⟩,ho,hc,n,hd⟩:=id p1;obtain ⟨⟨cls2,dd2,data2,sl2⟩,ho2,hc2,n2,hd2⟩:=id p2;simp only at hc hd hc2 hd2;subst hc hd hc2 hd2;exact concat_meets ⟨_,ho,rfl⟩ ⟨_,ho2,rfl⟩ noFill_tuple_add seq_tuple_add PySem.F.slot_tuple_add PySem.F.entry_tuple_add (PySem.F.args_tuple_add_2 _ _)
  (tuple_addW0 a b _ _ n n2 dd dd2 sl sl2 (by simp)) ⟨ho,ho2,⟨.ref b,H,I,rfl,q⟩⟩
def Xx (h:Gh):W->Option (List W)
 | .lst ws=>some ws
 | .loc n=>(match h.c n with
  | some (.lst ws)=>some ws
  | _=>none)
 | _=>none
def Di {H:Hp}{h:Gh}{w:W}{v:V}(R:Rel K μ H h)(r:Rep K H μ w v)(e:Xx h w=some ws):∃ p xs,v=.ref p/\H p=some (.lst xs)/\aM K H μ ws xs:=by
 cases w with
 | lst us=>
  rw [Rep] at r;obtain ⟨p,xs,ev,hs,rs⟩:=r;cases (show some us=some ws from e)
  exact ⟨p,xs,ev,hs.1,rs⟩
 | loc n=>
  unfold Xx at e;dsimp only at e;cases ec:h.c n with
  | none=>rw [ec] at e;cases e
  | some cl=>
   rw [ec] at e;cases cl with
   | lst us=>
    cases (show some us=some ws from e)
    obtain ⟨p,xs,ev,_,hx,rs⟩:=W0 R r ec;exact ⟨p,xs,ev,hx,rs⟩
   | _=>cases e
 | _=>cases e
def dH:M2:=fun x y h Q=>match x,y with
 | .int i,.int j=>Q (.int (i+j)) h
 | .tup [],.tup b=>Q (.tup b) h
 | .tup (a0::a),.tup b=>fL (a.length+1+b.length) (Q (.tup (a0::a++b)) h)
 | x,y=>(match Xx h x,Xx h y with
  | some a,some b=>fL (a.length+b.length) (Q (.lst (a++b)) h)
  | _,_=>False)
def cV:DOp X (aeN .Add) dH:=⟨_,(VP.or (KD.or Ra)).or VF,by
 intro H μ h x y wx wy Qw Q R rx ry m k;unfold dH at m;split at m
 ·rw [Rep] at rx ry;exact .inl<|.inl ⟨_,_,rx,ry,k _ _<|.int R m⟩
 ·rename_i b;have ry':=ry;rw [Rep] at rx ry;obtain ⟨p,xs,ex,hx,r1⟩:=rx;obtain ⟨q,ys,ey,hy,r2⟩:=ry;rw [aM] at r1;subst r1;rw [ey] at ry';exact .inl<|.inr<|.inl ⟨p,q,ys,ex,ey,hx,hy,k _ _ ⟨μ,_,h,.refl,R,ry',m⟩⟩
 ·rename_i a0 a b;have rx':=rx;rw [Rep] at rx ry;obtain ⟨p,xs,ex,hx,r1⟩:=rx;obtain ⟨q,ys,ey,hy,r2⟩:=ry;have sz:=m.ok.1;refine .inl<|.inr<|.inr ⟨p,q,xs,ys,ex,ey,hx,hy,fun z=>(by have:=r1.ne_nil.mp z;cases this),by rw [<-r1.len,<-r2.len];exact sz,fun z=>?_,fun z l hl=>?_⟩
  ·have eb:b=[]:=r2.ne_nil.mp z;subst eb;refine k _ _ ⟨μ,.tup (a0::a++[]),h,.refl,R,?_,m.ok.2⟩;rw [aeT,<-ex];exact rx'
  ·exact k _ _ ⟨μ,_,h,(Ex.laid hl).ext,R.laid hl,.tupNew hl<|r1.append r2,m.ok.2⟩
 ·split at m
  ·rename_i a b ea eb;obtain ⟨p,xs,ex,hx,r1⟩:=Di R rx ea;obtain ⟨q,ys,ey,hy,r2⟩:=Di R ry eb;have sz:=m.ok.1;exact .inr ⟨p,q,xs,ys,ex,ey,hx,hy,by rw [<-r1.len,<-r2.len];exact sz,fun l hl=>k _ _ ⟨μ,_,h,(Ex.laid hl).ext,R.laid hl,.lstNew R hl<|r1.append r2,m.ok.2⟩⟩
  ·exact m.elim⟩
variable {o e:Expr}{mo:ME}{ma:MA}{apos ahY:Pos}
end
def KJ (K:abZ):Sp:=fun vs H Q _=>∃ (a:Addr) (ns:List Int),vs=[.ref a]/\SqL K H a (ns.map V.int)/\Only H/\ns.length<=63/\∀ H',Q (.bl true) H'
def g0:Gh:=⟨0,fun _=>none⟩
def μ0:Mu:=⟨fun _=>none,fun _=>False⟩
def aau {K:abZ}{H:Hp}:Rel K μ0 H g0 where
 inj:=fun m n p h=>by cases (show (none:Option Addr)=some p from h)
 dom:=fun n p h=>by cases (show (none:Option Addr)=some p from h)
 trk:=fun n p h=>by cases (show (none:Option Addr)=some p from h)
 cel:=fun n c h=>by cases (show (none:Option Cell)=some c from h)
 hd:=fun p h=>afD h
theorem kE {K:abZ}{H:Hp}{μ : Mu}:∀ ns:List Int,aM K H μ (ns.map W.int) (ns.map V.int)
 | []=>.nil
 | n::ns=>.cons (by rw [Rep]) (kE ns)
def Pb {P:acK}{w:adt}{K:abZ}{mg:Str->Option acd}{base:Heap}{k:Nat}{f:Addr}{fd:aeV}{ps:List Str}
  (hm:∀ ns:List Int,ns.length<=63->ms [.kls (ns.map W.int)] g0 (fun w _=>w=.bl true) EF) (F:qC P w K mg base CX0 k f fd ps (lift K ms)):qC P w K mg base CX0 k f fd ps (KJ K):=
 F.imp fun vs H Q E ⟨a,ns,e,hS,hO,hl,q⟩=>by
  subst e;refine ⟨μ0,g0,[.kls<|ns.map W.int],_,aau,.one ?_,hm ns hl,fun v H' ⟨μ',w',h',_,_,r,e⟩=>?_⟩
  ·rw [Rep];refine ⟨a,ns.map V.int,rfl,?_,kE ns⟩;rcases hS with (hS | hS) | hS
   ·rcases hO a with z | ⟨o,xs,z⟩ <;> rw [hS] at z <;> cases z
   ·exact .inl hS
   ·exact .inr hS
  ·subst e;rw [Rep] at r;subst r;exact q H'
inductive Sk where
 | l | t
def Sk.sq (k:Sk)(h:Heap)(a:Addr)(its:Array acd):Prop:=match k with
 | .l=>h.IsList a its
 | .t=>h.IsTuple a its
def Sk.it (k:Sk)(h:Heap)(i a:Addr)(n:Nat):Prop:=match k with
 | .l=>h.IsListIter i a n
 | .t=>h.IsTupleIter i a n
def Sk.nm:Sk->String
 | .l => "list_iterator"
 | .t => "tuple_iterator"
section
variable {P:acK}{w:adt}{A:acY}{E:acd->aci->Prop}{s:aci}{k k1 k2:Sk}
def Sk.it_at {h h':Heap}{i a:Addr}{n:Nat}(x:k.it h i a n)(e:∀ o,h.get? i=some o->h'.get? i=some o):k.it h' i a n:=by
 cases k with
 | l=>obtain ⟨o,ho,r⟩:=x;exact ⟨o,e o ho,r⟩
 | t=>obtain ⟨o,ho,r⟩:=x;exact ⟨o,e o ho,r⟩
def Sk.sq_at {h h':Heap}{a:Addr}{its:Array acd}(x:k.sq h a its)(e:∀ o,h.get? a=some o->h'.get? a=some o):k.sq h' a its:=by
 cases k with
 | l=>obtain ⟨o,ho,r⟩:=x;exact ⟨o,e o ho,r⟩
 | t=>obtain ⟨o,ho,r⟩:=x;exact ⟨o,e o ho,r⟩
def Sk.it_obj {h:Heap}{i a:Addr}{n:Nat}(x:k.it h i a n):∃ o,h.get? i=some o/\o.cls=.type k.nm/\o.data=.fields #[.ref a,.int n 0]:=by
 cases k with
 | l=>exact x
 | t=>exact x
def Lk {it t:Addr}{i:Nat}{its:Array acd}{x:acd}{Q:acd->aci->Prop}(hi:s.heap.IsTupleIter it t i)(ht:s.heap.IsTuple t its)(hx:its[i]?=some x)
  (q:∀ h',h'.IsTupleIter it t (i+1)->aez it s.heap h'->Q x { s with heap:=h' }):acL (acP P w) A (adw (.ref it)) Q E s:=by
 obtain ⟨o,go,gc,gd⟩:=id hi;obtain ⟨ol,gol,_,nl,gdl⟩:=ht;unfold adw;refine abY (adO (name:=afz "__next__") hi.typeIs afb
  (adS afb hi.typeIs PySem.F.entry_tuple_iterator_next ?_ (PySem.F.args_tuple_iterator_next_1 _)))
 show acL _ _ (field (.ref it) 0 >>= _) _ _ s;refine abY<|aeg go gd (x:=.ref t) rfl ?_
 show acL _ _ (if (Value.ref t==Value.none)=true then _ else _) _ _ s;rw [if_neg (by exact acZ)];show acL _ _ (field (.ref it) 1 >>= _) _ _ s;refine abY<|aeg go gd (x:=.int i 0) rfl ?_
 show acL _ _ (seqItems? (.ref t) >>= _) _ _ s;refine abY<|afl gol gdl ?_
 simp only [afI,hx];refine abY<|wpAny_setField go gd (by simp)<|ach ⟨x,rfl,ach<|q _ ?_<|agl ..⟩
 exact ⟨_,afd _ go<|Obj.isFreed_of_fields<|agc gd _,(Obj.cls_mapFields ..).trans gc,by rw [agc gd];simp [aha]⟩
def vZ {it t:Addr}{i:Nat}{its:Array acd}{Q:acd->aci->Prop}(hh:A.handled=none)(hi:s.heap.IsTupleIter it t i)(ht:s.heap.IsTuple t its)(hx:its[i]?=none)
  (q:∀ h' e,agV it s.heap h'->(∃ o,h'.get? e=some o/\o.cls=.type "StopIteration")->E (.ref e) { s with heap:=h' }):acL (acP P w) A (adw (.ref it)) Q E s:=by
 obtain ⟨o,go,gc,gd⟩:=id hi;obtain ⟨ol,gol,_,nl,gdl⟩:=ht;unfold adw;refine abY (adO (name:=afz "__next__") hi.typeIs afb
  (adS afb hi.typeIs PySem.F.entry_tuple_iterator_next ?_ (PySem.F.args_tuple_iterator_next_1 _)))
 show acL _ _ (field (.ref it) 0 >>= _) _ _ s;refine abY<|aeg go gd (x:=.ref t) rfl ?_
 show acL _ _ (if (Value.ref t==Value.none)=true then _ else _) _ _ s;rw [if_neg (by exact acZ)];show acL _ _ (field (.ref it) 1 >>= _) _ _ s;refine abY<|aeg go gd (x:=.int i 0) rfl ?_
 show acL _ _ (seqItems? (.ref t) >>= _) _ _ s;refine abY<|afl gol gdl ?_
 simp only [afI,hx];refine abY<|aeA<|abY<|wpAny_setField go gd (by simp) ?_
 show acL _ _ (newExc (.type "StopIteration") [] >>= _) _ _ _;refine abY ?_;simp only [newExc,newTuple];refine abY<|adq ?_<|by size_fits
 refine abY (m:=agB _ _)<|wpAny_of_eq (a:=Value.none) (by first | rfl | (simp only [agB];rfl)) ?_
 refine adq ?_<|by size_fits
 simp only [raiseNew];refine abY<|wpAny_handled ?_
 first | rw [show A.in1.handled=none from hh] | rw [hh]
 refine abY<|ach<|wpAny_throw ?_
 exact q _ _ (((agl ..).extBut.push _).push _) ⟨_,acw _ rfl,rfl⟩
def Sk.next {it a:Addr}{i:Nat}{its:Array acd}{x:acd}{Q:acd->aci->Prop}(hi:k.it s.heap it a i)(hs:k.sq s.heap a its)(hx:its[i]?=some x)
  (q:∀ h',k.it h' it a (i+1)->aez it s.heap h'->Q x { s with heap:=h' }):acL (acP P w) A (adw (.ref it)) Q E s:=by
 cases k with
 | l=>exact wpAny_nextOf_list_item hi hs hx q
 | t=>exact Lk hi hs hx q
def Sk.stop {it a:Addr}{i:Nat}{its:Array acd}{Q:acd->aci->Prop}(hh:A.handled=none)(hi:k.it s.heap it a i)(hs:k.sq s.heap a its)(hx:its[i]?=none)
  (q:∀ h' e,agV it s.heap h'->(∃ o,h'.get? e=some o/\o.cls=.type "StopIteration")->E (.ref e) { s with heap:=h' }):acL (acP P w) A (adw (.ref it)) Q E s:=by
 cases k with
 | l=>exact wpAny_nextOf_list_end hh hi hs hx q
 | t=>exact vZ hh hi hs hx q
def Sk.iter {a:Addr}{its:Array acd}{Q:acd->aci->Prop}(hs:k.sq s.heap a its)
  (q:Q (.ref s.heap.objs.size) { s with heap:=s.heap.push { cls:=.type k.nm,data:=.fields #[.ref a,.int 0 0] } }):acL (acP P w) A (pyIter (.ref a)) Q E s:=by
 cases k with
 | l=>exact agx hs q
 | t=>exact wpAny_pyIter_tuple hs q
structure Zap (z TI TO i1 i2:Addr):Prop where
 a1:TI≠z
 a2:TO≠z
 a3:i1≠z
 a4:i2≠z
 a5:TI≠TO
 a6:TI≠i1
 a7:TI≠i2
 a8:TO≠i1
 a9:TO≠i2
 b1:i1≠i2
structure Off (a z TO i1 i2:Addr):Prop where
 z:a≠z
 o:a≠TO
 i:a≠i1
 j:a≠i2
def Ln {z TI TO i1 i2 l1 l2:Addr}{n1 n2:Nat}{xs ys:Array acd}{x y a b:acd}{Q:Option acd->aci->Prop}(D:Zap z TI TO i1 i2)(o1:Off l1 z TO i1 i2)(o2:Off l2 z TO i1 i2)
  (gz:IsZip s.heap z TI TO .none) (gI:agU s.heap TI (.ref i1) (.ref i2)) (gO:agU s.heap TO a b) (g1:k1.it s.heap i1 l1 n1) (g2:k2.it s.heap i2 l2 n2) (gx:k1.sq s.heap l1 xs) (gy:k2.sq s.heap l2 ys)
  (hx:xs[n1]?=some x) (hy:ys[n2]?=some y)
  (q:∀ h',IsZip h' z TI TO (aha s.heap.objs.size)->agU h' TO x y->k1.it h' i1 l1 (n1+1)->k2.it h' i2 l2 (n2+1)->agU h' s.heap.objs.size x y->h'.objs.size=s.heap.objs.size+1 ->
   (∀ c o,c≠z->c≠TO->c≠i1->c≠i2->s.heap.get? c=some o->h'.get? c=some o)->Q (some (.ref s.heap.objs.size)) { s with heap:=h' }) :
  acL (acP P w) A (agS (.ref z)) Q E s:=by
 have gT:s.TypeIs (.ref z) "zip":=⟨_,gz,rfl⟩
 unfold agS;refine abY<|agK<|adO (name:=afz "__next__") gT agi<|adS agi gT PySem.F.entry_zip_next ?_<|PySem.F.args_zip_next_1 _
 show acL _ _ (field (.ref z) 2 >>= _) _ _ _;refine abY<|aeg gz rfl (x:=.bool false) rfl ?_
 show acL _ _ (field (.ref z) 3 >>= _) _ _ _;refine abY<|aeg gz rfl (x:=.ref TI) rfl ?_
 refine abY<|afl gI rfl ?_
 show acL _ _ (aey (.ref z) >>= _) _ _ _;refine abY ?_;unfold aey;refine abY<|aeg gz rfl (x:=.none) rfl<|ach ?_
 simp only [if_true];refine abY<|aeA ?_
 refine abY<|aeg gz rfl (x:=.ref TO) rfl ?_
 refine abY<|afE gz (by simp) fun h₁ z₁ s₁=>?_
 replace z₁ : IsZip h₁ z TI TO .ellipsis:=z₁;refine abY ?_;simp only [List.zipIdx_cons,List.zipIdx_nil,agH,agL]
 -- the first one
 refine abY<|abY<|wpAny_onRaise ?_
 show acL _ _ (adw (.ref i1) >>= _) _ _ _;refine abY<|Sk.next (k:=k1) (s:={ s with heap:=h₁ }) (Sk.it_at g1 fun o e=>s₁.extBut _ o D.a3 e) (Sk.sq_at gx fun o e=>s₁.extBut _ o o1.z e) hx fun h₂ g1₂ s₂=>ach ?_
 have gO₂ : agU h₂ TO a b:=s₂.extBut _ _ D.a8 (s₁.extBut _ _ D.a2 gO);refine abY<|afl gO₂ rfl ?_
 refine abY<|wpAny_updateSeq_pair gO₂ fun h₃ gO₃ s₃=>?_
 replace gO₃ : agU h₃ TO x b:=gO₃;refine abY<|wpAny_letGo<|ach ?_
 -- the second one
 refine abY<|abY<|wpAny_onRaise ?_
 show acL _ _ (adw (.ref i2) >>= _) _ _ _;refine abY (Sk.next (k:=k2) (s:={ s with heap:=h₃ }) (Sk.it_at g2 fun o e=>s₃.extBut _ o D.a9.symm (s₂.extBut _ o D.b1.symm (s₁.extBut _ o D.a4 e)))
  (Sk.sq_at gy fun o e=>s₃.extBut _ o o2.o (s₂.extBut _ o o2.i (s₁.extBut _ o o2.z e))) hy fun h₄ g2₄ s₄=>ach ?_)
 have gO₄ : agU h₄ TO x b:=s₄.extBut _ _ D.a9 gO₃;refine abY<|afl gO₄ rfl ?_
 refine abY<|wpAny_updateSeq_pair gO₄ fun h₅ gO₅ s₅=>?_
 replace gO₅ : agU h₅ TO x y:=gO₅;refine abY<|wpAny_letGo<|ach<|ach ?_
 -- the pair is handed out
 refine abY<|afl gO₅ rfl ?_
 refine abY<|wpAny_newTuple ?_
 have size:h₅.objs.size=s.heap.objs.size:=by rw [s₅.1,s₄.1,s₃.1,s₂.1,s₁.1]
 have z₅ : IsZip h₅ z TI TO .ellipsis:=s₅.extBut _ _ D.a2.symm (s₄.extBut _ _ D.a4.symm (s₃.extBut _ _ D.a2.symm (s₂.extBut _ _ D.a3.symm z₁)));have all₅ : ∀ c o,c≠z->c≠TO->c≠i1->c≠i2->s.heap.get? c=some o->h₅.get? c=some o:=fun c o c1 c2 c3 c4 e=>s₅.extBut _ _ c2 (s₄.extBut _ _ c4 (s₃.extBut _ _ c2 (s₂.extBut _ _ c3 (s₁.extBut _ _ c1 e))))
 have g1₅ : k1.it h₅ i1 l1 (n1+1):=Sk.it_at g1₂ fun o e=>s₅.extBut _ o D.a8.symm (s₄.extBut _ o D.b1 (s₃.extBut _ o D.a8.symm e))
 have g2₅ : k2.it h₅ i2 l2 (n2+1):=Sk.it_at g2₄ fun o e=>s₅.extBut _ o D.a9.symm e
 have zlt:z<h₅.objs.size:=acs z₅;show acL _ _ (Builtin.SmallTypes.ownedTupleHandOut (.ref z) (.ref h₅.objs.size) >>= _) _ _ _;refine abY ?_;unfold Builtin.SmallTypes.ownedTupleHandOut;have z₆ : IsZip (h₅.push { cls:=.type "tuple",data:=.seq #[x,y] }) z TI TO .ellipsis:=ace _ z₅;refine abY<|afE z₆ (by simp) fun h₇ z₇ s₇=>?_
 replace z₇ : IsZip h₇ z TI TO (aha h₅.objs.size):=z₇;refine afE z₇ (by simp) fun h₈ z₈ s₈=>?_;replace z₈ : IsZip h₈ z TI TO (aha h₅.objs.size):=z₈;have up:∀ c o,c≠z->h₅.get? c=some o->h₈.get? c=some o:=fun c o c1 e=>s₈.extBut _ _ c1 (s₇.extBut _ _ c1 (ace _ e))
 have T₈ : agU h₈ h₅.objs.size x y:=s₈.extBut _ _ (adR zlt) (s₇.extBut _ _ (adR zlt) (acw _ rfl));have size8:h₈.objs.size=h₅.objs.size+1:=by rw [s₈.1,s₇.1,aex]
 rw [size] at z₈ T₈ size8;refine ach ⟨_,rfl,ach ?_⟩;show Q (some (.ref h₅.objs.size)) _;rw [size];exact q h₈ z₈ (up _ _ D.a2 gO₅) (Sk.it_at g1₅ fun o e=>up _ o D.a3 e) (Sk.it_at g2₅ fun o e=>up _ o D.a4 e) T₈ size8 fun c o c1 c2 c3 c4 e=>up c o c1<|all₅ c o c1 c2 c3 c4 e
def K1 {z TI TO i1 i2 l1 l2:Addr}{n1 n2:Nat}{xs ys:Array acd}{a b:acd}{Q:Option acd->aci->Prop}(hh:A.handled=none)(D:Zap z TI TO i1 i2)(o1:Off l1 z TO i1 i2)(o2:Off l2 z TO i1 i2)
  (gz:IsZip s.heap z TI TO .none) (gI:agU s.heap TI (.ref i1) (.ref i2)) (gO:agU s.heap TO a b) (g1:k1.it s.heap i1 l1 n1) (g2:k2.it s.heap i2 l2 n2) (gx:k1.sq s.heap l1 xs) (gy:k2.sq s.heap l2 ys)
  (hend:xs[n1]?=none\/ys[n2]?=none)
  (q:∀ h',(∀ c o,c≠z->c≠TO->c≠i1->c≠i2->s.heap.get? c=some o->h'.get? c=some o)->Q none { s with heap:=h' }):acL (acP P w) A (agS (.ref z)) Q E s:=by
 have gT:s.TypeIs (.ref z) "zip":=⟨_,gz,rfl⟩
 have fin:∀ (h':Heap) (e:Addr),(∀ c o,c≠z->c≠TO->c≠i1->c≠i2->s.heap.get? c=some o->h'.get? c=some o)->(∃ o,h'.get? e=some o/\o.cls=.type "StopIteration") ->
   acL (acP P w) A (do if <-isInstance (.ref e) (.type "StopIteration") then pure none else throw (.ref e)) Q E { s with heap:=h' }:=fun h' e all ⟨o,ho,hc⟩=>
  abY (wpAny_isInstance (T := "StopIteration") (b:=true) ⟨o,ho,hc⟩ isSubtype_stop (ach (q _ all)))
 unfold agS;refine abY<|agK<|adO (name:=afz "__next__") gT agi<|adS agi gT PySem.F.entry_zip_next ?_<|PySem.F.args_zip_next_1 _
 show acL _ _ (field (.ref z) 2 >>= _) _ _ _;refine abY<|aeg gz rfl (x:=.bool false) rfl ?_
 show acL _ _ (field (.ref z) 3 >>= _) _ _ _;refine abY<|aeg gz rfl (x:=.ref TI) rfl ?_
 refine abY<|afl gI rfl ?_
 show acL _ _ (aey (.ref z) >>= _) _ _ _;refine abY ?_;unfold aey;refine abY<|aeg gz rfl (x:=.none) rfl<|ach ?_
 simp only [if_true];refine abY<|aeA ?_
 refine abY<|aeg gz rfl (x:=.ref TO) rfl ?_
 refine abY<|afE gz (by simp) fun h₁ z₁ s₁=>?_
 replace z₁ : IsZip h₁ z TI TO .ellipsis:=z₁;refine abY ?_;simp only [List.zipIdx_cons,List.zipIdx_nil,agH,agL];refine abY<|abY<|wpAny_onRaise ?_
 show acL _ _ (adw (.ref i1) >>= _) _ _ _;have g1₁ : k1.it h₁ i1 l1 n1:=Sk.it_at g1 fun o e=>s₁.extBut _ o D.a3 e
 have gx₁ : k1.sq h₁ l1 xs:=Sk.sq_at gx fun o e=>s₁.extBut _ o o1.z e
 cases hx:xs[n1]? with
 | none=>
  refine abY<|Sk.stop (k:=k1) (s:={ s with heap:=h₁ }) hh g1₁ gx₁ hx fun h₂ e s₂ he=>?_
  obtain ⟨oe,hoe,hce⟩:=he;have z₂ : IsZip h₂ z TI TO .ellipsis:=s₂ _ _ D.a3.symm z₁;have ez:e≠z:=fun y=>by subst y;rw [z₂] at hoe;cases hoe;simp at hce
  refine afE z₂ (by simp) fun h₃ _ s₃=>fin h₃ e (fun c o c1 _ c3 _ y=>s₃.extBut _ _ c1<|s₂ _ _ c3<|s₁.extBut _ _ c1 y) ⟨oe,s₃.extBut _ _ ez hoe,hce⟩
 | some x=>
  have hy:ys[n2]?=none:=by
   rcases hend with h | h
   ·rw [hx] at h;cases h
   ·exact h
  refine abY<|Sk.next (k:=k1) (s:={ s with heap:=h₁ }) g1₁ gx₁ hx fun h₂ g1₂ s₂=>ach ?_
  have gO₂ : agU h₂ TO a b:=s₂.extBut _ _ D.a8 (s₁.extBut _ _ D.a2 gO);refine abY<|afl gO₂ rfl ?_
  refine abY<|wpAny_updateSeq_pair gO₂ fun h₃ gO₃ s₃=>?_
  refine abY<|wpAny_letGo<|ach ?_
  refine abY<|abY<|wpAny_onRaise ?_
  show acL _ _ (adw (.ref i2) >>= _) _ _ _;refine abY (Sk.stop (k:=k2) (s:={ s with heap:=h₃ }) hh (Sk.it_at g2 fun o e=>s₃.extBut _ o D.a9.symm (s₂.extBut _ o D.b1.symm (s₁.extBut _ o D.a4 e)))
   (Sk.sq_at gy fun o e=>s₃.extBut _ o o2.o (s₂.extBut _ o o2.i (s₁.extBut _ o o2.z e))) hy fun h₄ e s₄ he=>?_)
  obtain ⟨oe,hoe,hce⟩:=he;have z₄ : IsZip h₄ z TI TO .ellipsis:=s₄ _ _ D.a4.symm (s₃.extBut _ _ D.a2.symm (s₂.extBut _ _ D.a3.symm z₁));have ez:e≠z:=fun y=>by subst y;rw [z₄] at hoe;cases hoe;simp at hce
  refine afE z₄ (by simp) fun h₅ _ s₅=>fin h₅ e (fun c o c1 c2 c3 c4 y=>s₅.extBut _ _ c1<|s₄ _ _ c4<|s₃.extBut _ _ c2<|s₂.extBut _ _ c3<|s₁.extBut _ _ c1 y) ⟨oe,s₅.extBut _ _ ez hoe,hce⟩
abbrev zh1 (k1:Sk)(h:Heap)(l1:Addr):Heap:=h.push { cls:=.type k1.nm,data:=.fields #[.ref l1,.int 0 0] }
abbrev zh2 (k1 k2:Sk)(h:Heap)(l1 l2:Addr):Heap:=(zh1 k1 h l1).push { cls:=.type k2.nm,data:=.fields #[.ref l2,.int 0 0] }
abbrev zh3 (k1 k2:Sk)(h:Heap)(l1 l2:Addr):Heap:=(zh2 k1 k2 h l1 l2).push { cls:=.type "tuple",data:=.seq #[.ref h.objs.size,.ref (zh1 k1 h l1).objs.size] }
abbrev zh4 (k1 k2:Sk)(h:Heap)(l1 l2:Addr):Heap:=(zh3 k1 k2 h l1 l2).push { cls:=.type "tuple",data:=.seq #[.none,.none] }
abbrev zh5 (k1 k2:Sk)(h:Heap)(l1 l2:Addr):Heap:=(zh4 k1 k2 h l1 l2).push { cls:=.type "zip",data:=.fields #[.none,.bool false,.bool false,.ref (zh2 k1 k2 h l1 l2).objs.size,.ref (zh3 k1 k2 h l1 l2).objs.size] }
def Ob (l1 l2:Addr)(xs ys:Array acd):Meets (acV.«zip.__new__» ⟨[.type "zip",.ref l1,.ref l2],[]⟩) (fun _ R s=>k1.sq s.heap l1 xs/\k2.sq s.heap l2 ys /\
   R (.ok (.ret (.ref (zh4 k1 k2 s.heap l1 l2).objs.size))) { s with heap:=zh5 k1 k2 s.heap l1 l2 }):=
 .of_wp fun prog w A R s h=>by
  obtain ⟨hp,g,d,tk,os⟩:=s;obtain ⟨gl1,gl2,h⟩:=h;have hsub:=sub_zip;have L1:k1.sq (Shared.heap ⟨hp,g,d,tk,os⟩) l1 xs:=gl1;have L2':k2.sq (Shared.heap ⟨hp.push { cls:=.type k1.nm,data:=.fields #[.ref l1,.int 0 0] },g,d,tk,os⟩) l2 ys:=Sk.sq_at gl2 fun o e=>ace _ e
  wp_walk using Sk.iter L1,Sk.iter L2'
  exact ⟨_,rfl,h⟩
def Kr {l1 l2:Addr}{xs ys:Array acd}{Q:acd->aci->Prop}(gl1:k1.sq s.heap l1 xs)(gl2:k2.sq s.heap l2 ys)
  (q:∀ h',IsZip h' (s.heap.objs.size+4) (s.heap.objs.size+2) (s.heap.objs.size+3) .none->agU h' (s.heap.objs.size+2) (.ref s.heap.objs.size) (.ref (s.heap.objs.size+1)) ->
   agU h' (s.heap.objs.size+3) .none .none->k1.it h' s.heap.objs.size l1 0->k2.it h' (s.heap.objs.size+1) l2 0->h'.objs.size=s.heap.objs.size+5 ->
   (∀ c o,s.heap.get? c=some o->h'.get? c=some o)->Q (.ref (s.heap.objs.size+4)) { s with heap:=h' }):acL (acP P w) A (call (.type "zip") [.ref l1,.ref l2]) Q E s:=by
 refine callType_new PySem.F.called_zip (by decide) (PySem.F.typeCall_zip_2 _ _) (PySem.F.newCall_zip_2 _ _) (fun obj=>PySem.F.args_object_init_3 obj _ _) PySem.F.entry_zip_new (Ob (k1:=k1) (k2:=k2) l1 l2 xs ys) ⟨gl1,gl2,?_⟩;have e1:(zh1 k1 s.heap l1).objs.size=s.heap.objs.size+1:=aex ..;have e2:(zh2 k1 k2 s.heap l1 l2).objs.size=s.heap.objs.size+2:=by rw [aex,e1]
 have e3:(zh3 k1 k2 s.heap l1 l2).objs.size=s.heap.objs.size+3:=by rw [aex,e2]
 have e4:(zh4 k1 k2 s.heap l1 l2).objs.size=s.heap.objs.size+4:=by rw [aex,e3]
 have e5:(zh5 k1 k2 s.heap l1 l2).objs.size=s.heap.objs.size+5:=by rw [aex,e4]
 have f5:(zh5 k1 k2 s.heap l1 l2).get? (zh4 k1 k2 s.heap l1 l2).objs.size=some _:=acw _ rfl;have f4:(zh5 k1 k2 s.heap l1 l2).get? (zh3 k1 k2 s.heap l1 l2).objs.size=some _:=ace _ (acw _ rfl);have f3:(zh5 k1 k2 s.heap l1 l2).get? (zh2 k1 k2 s.heap l1 l2).objs.size=some _:=ace _ (ace _ (acw _ rfl));have f2:(zh5 k1 k2 s.heap l1 l2).get? (zh1 k1 s.heap l1).objs.size=some _:=ace _ (ace _ (ace _ (acw _ rfl)));have f1:(zh5 k1 k2 s.heap l1 l2).get? s.heap.objs.size=some _:=ace _ (ace _ (ace _ (ace _ (acw _ rfl))));show _/\_;rw [e2,e3,e4] at f5;rw [e1,e2] at f3;rw [e3] at f4;rw [e1] at f2;rw [e4];refine ⟨⟨_,f5,rfl⟩,q _ f5 f3 f4 ?_ ?_ e5 fun c o x=>ace _<|ace _<|ace _<|ace _<|ace _ x⟩
 ·cases k1 with
  | l=>exact ⟨_,f1,rfl,rfl⟩
  | t=>exact ⟨_,f1,rfl,rfl⟩
 ·cases k2 with
  | l=>exact ⟨_,f2,rfl,rfl⟩
  | t=>exact ⟨_,f2,rfl,rfl⟩
end
section
variable {X:Cx}{ahW:List (Addr×Obj)}{Z : St}{H:Hp}{s:aci}{h':Heap}
def Inv.turnedL {t':Nat}{ch:List Addr}(I:Inv X ahW Z H s)(k:∀ b o,b∉ch->s.heap.get? b=some o->h'.get? b=some o)(hf:∀ b∈ch,CK X ahW H b):Inv X ahW Z H { s with heap:=h',toks:=t' }:=by
 have nit:∀ b u,H b=some u->b∉ch:=fun b u e z=>by rw [(hf b z).1] at e;cases e
 refine I.step (g':=s.gens) (d':=s.drawn) (ch:=ch) (fun b hb=>?_) (fun b o _ _ hc e _=>k b o hc e) (fun b o _ _ hc e _=>⟨o.slots,k b o hc e⟩) (fun _ _ _ _ n=>n)
  (fun b o hc e=>⟨o,k b o hc e⟩) (fun _ _ e=>e) (fun _ _ _ e=>e) (fun b ps e=>⟨#[],by rw [e];simp⟩) (fun m hm=>?_) (fun b u e=>?_) I.bare
 ·obtain ⟨_,f1,_,f3,f4,f5⟩:=hf b hb;exact ⟨f3,f1,f4,f5⟩
 ·obtain ⟨o,es,ep,ho,r⟩:=hm;exact ⟨o,es,ep,k _ o (fun z=>(hf _ z).2.1 rfl) ho,r⟩
 ·refine (I.hok b u e).stay (fun c v hc q=>k c v ?_ q) (fun _ q=>q) fun _ _ q=>q;rcases hc with z | z
  ·rw [z];exact nit b u e
  ·exact nit c _ z
end
def Sk.v (k:Sk)(K:abZ)(H:Hp)(a:Addr)(xs:List V):Prop:=match k with
 | .l=>SqL K H a xs
 | .t=>SqT K H a xs
def Inv.sk {X:Cx}{ahW:List (Addr×Obj)}{Z : St}{H:Hp}{s:aci}{k:Sk}{a:Addr}{xs:List V}(I:Inv X ahW Z H s)(h:k.v X.K H a xs):∃ its:List acd,Vals xs its/\k.sq s.heap a its.toArray:=by
 cases k with
 | l=>obtain ⟨its,r,p,_⟩:=I.list h;exact ⟨its,r,p.isList⟩
 | t=>obtain ⟨its,r,p,_⟩:=I.tuple h;exact ⟨its,r,p⟩
def Inv.sk_inj {X:Cx}{ahW:List (Addr×Obj)}{Z : St}{H:Hp}{s:aci}{k:Sk}{a:Addr}{xs ys:List V}(I:Inv X ahW Z H s)(h:k.v X.K H a xs)(g:k.v X.K H a ys):xs=ys:=by
 cases k with
 | l=>exact I.list_inj h g
 | t=>exact I.tuple_inj h g
def Itz (K:abZ)(k1 k2:Sk)(l1 l2:Addr):It:=
  ⟨fun i H=>∃ xs ys x y,k1.v K H l1 xs/\k2.v K H l2 ys/\xs[i]?=some x/\ys[i]?=some y,
   fun i H v H'=>∃ p x y,H p=none/\v=.ref p/\H'=upd H p (.tup [x,y])/\(∀ xs,k1.v K H l1 xs->xs[i]?=some x)/\∀ ys,k2.v K H l2 ys->ys[i]?=some y,
   fun i H=>∃ xs ys,k1.v K H l1 xs/\k2.v K H l2 ys/\(xs.length<=i\/ys.length<=i),true⟩
def ZR (k1 k2:Sk)(z TI TO i1 i2 l1 l2:Addr)(n:Nat)(h:Heap):Prop:=IsZip h z TI TO .none/\agU h TI (.ref i1) (.ref i2)/\(∃ a b,agU h TO a b)/\k1.it h i1 l1 n/\k2.it h i2 l2 n
variable {elts : List Expr}
def Ku {P:acK}{w:adt}{K:abZ}{pos:Pos}{k1 k2:Sk}{z TI TO i1 i2 l1 l2:Addr}(D:Zap z TI TO i1 i2)(o1:Off l1 z TO i1 i2)(o2:Off l2 z TO i1 i2):
  Turn P w K (.Tuple elts kt pos) (Itz K k1 k2 l1 l2) [z,TI,TO,i1,i2] z (ZR k1 k2 z TI TO i1 i2 l1 l2) where
 mem:=by simp
 obj:=fun i h st b hb=>by
  obtain ⟨gz,gI,⟨a,b',gO⟩,g1,g2⟩:=st;simp only [acA,adL,or_false] at hb;rcases hb with rfl | rfl | rfl | rfl | rfl
  ·exact ⟨_,gz,fun v y=>by cases y⟩
  ·exact ⟨_,gI,fun v y=>by cases y⟩
  ·exact ⟨_,gO,fun v y=>by cases y⟩
  ·obtain ⟨o,e,_,d⟩:=Sk.it_obj g1;exact ⟨o,e,fun v y=>by rw [d] at y;cases y⟩
  ·obtain ⟨o,e,_,d⟩:=Sk.it_obj g2;exact ⟨o,e,fun v y=>by rw [d] at y;cases y⟩
 keep:=fun i h h' st k=>by
  obtain ⟨gz,gI,⟨a,b,gO⟩,g1,g2⟩:=st;exact ⟨k z (by simp) _ gz,k TI (by simp) _ gI,⟨a,b,k TO (by simp) _ gO⟩,Sk.it_at g1 fun o e=>k i1 (by simp) o e,Sk.it_at g2 fun o e=>k i2 (by simp) o e⟩
 item:=by
  intro X hP hw hK hc i ahW s Z H E I hf st hg;subst hP hw hK;obtain ⟨gz,gI,⟨a,b,gO⟩,g1,g2⟩:=st;obtain ⟨xs,ys,x,y,hx,hy,ex,ey⟩:=hg;obtain ⟨its,r1,p1⟩:=I.sk hx;obtain ⟨jts,r2,p2⟩:=I.sk hy;obtain ⟨u,hu,ru⟩:=r1.get ex;obtain ⟨v,hv,rv⟩:=r2.get ey;refine Ln D o1 o2 gz gI gO g1 g2 p1 p2 (x:=u) (y:=v) (by simpa using hu) (by simpa using hv) fun h1 z1 O1 g1' g2' T1 size1 all1=>⟨_,rfl,?_⟩;have pz:s.heap.objs.size≠z:=adR (acs gz);have lt:∀ b∈[z,TI,TO,i1,i2],s.heap.objs.size≠b:=fun b hb=>by
   simp only [acA,adL,or_false] at hb;rcases hb with rfl | rfl | rfl | rfl | rfl
   ·exact pz
   ·exact adR<|acs gI
   ·exact adR<|acs gO
   ·obtain ⟨o,e,_⟩:=Sk.it_obj g1;exact adR (acs e)
   ·obtain ⟨o,e,_⟩:=Sk.it_obj g2;exact adR (acs e)
  have all:∀ c o,c∉[z,TI,TO,i1,i2]->s.heap.get? c=some o->h1.get? c=some o:=fun c o hc e=>
   all1 c o (fun q=>hc (by simp [q])) (fun q=>hc (by simp [q])) (fun q=>hc (by simp [q])) (fun q=>hc (by simp [q])) e
  refine wpAny_letOwnedTupleGo_zip (s:={ s with heap:=h1 }) z1 fun h2 z2 sb=>?_;have fr:H s.heap.objs.size=none:=I.hok.fresh (acj _);have I1:Inv X ahW Z (upd H s.heap.objs.size (.tup [x,y])) { s with heap:=s.heap.push { cls:=.type "tuple",data:=.seq #[u,v] } }:=
   I.laid (t':=s.toks) (fun b o e=>ace _ e) (acj _) ⟨(by show 2<=acM;decide),[u,v],.cons ru (.cons rv .nil),⟨_,acw _ rfl,rfl,⟨_,rfl⟩,rfl⟩⟩
  have hf1:∀ b∈[z,TI,TO,i1,i2],CK X ahW (upd H s.heap.objs.size (.tup [x,y])) b:=fun b hb=>⟨by rw [aR (aes (lt b hb))];exact (hf b hb).1,(hf b hb).2⟩
  have I2:Inv X ahW Z (upd H s.heap.objs.size (.tup [x,y])) { s with heap:=h2 }:=by
   refine Inv.turnedL (s:={ s with heap:=s.heap.push { cls:=.type "tuple",data:=.seq #[u,v] } }) (h':=h2) (t':=s.toks) (ch:=[z,TI,TO,i1,i2]) I1 (fun b o hb e=>?_) hf1;have bz:b≠z:=fun q=>hb (by simp [q])
   rcases Heap.get?_push_cases e with ⟨rfl,rfl⟩ | e'
   ·exact sb.extBut _ _ bz T1
   ·exact sb.extBut _ _ bz<|all b o hb e'
  refine ⟨.ref s.heap.objs.size,_,I2,rfl,⟨s.heap.objs.size,x,y,fr,rfl,rfl,fun xs' q=>by rw [I.sk_inj q hx];exact ex,fun ys' q=>by rw [I.sk_inj q hy];exact ey⟩,?_,fun b hb=>(hf1 b hb).1⟩;exact ⟨z2,sb.extBut _ _ D.a1<|all1 _ _ D.a1 D.a5 D.a6 D.a7 gI,⟨u,v,sb.extBut _ _ D.a2 O1⟩,Sk.it_at g1' fun o e=>sb.extBut _ o D.a3 e,Sk.it_at g2' fun o e=>sb.extBut _ o D.a4 e⟩
 done:=by
  intro X hP hw hK hc i ahW s Z H E I hf st hg;subst hP hw hK;obtain ⟨gz,gI,⟨a,b,gO⟩,g1,g2⟩:=st;obtain ⟨xs,ys,hx,hy,hend⟩:=hg;obtain ⟨its,r1,p1⟩:=I.sk hx;obtain ⟨jts,r2,p2⟩:=I.sk hy;have l1:=r1.length;have l2:=r2.length;refine K1 (I.ok.hd<|hc rfl) D o1 o2 gz gI gO g1 g2 p1 p2 (hend.imp (fun q=>by simp;omega) fun q=>by simp;omega) fun h1 all1=>⟨rfl,I.turnedL (t':=s.toks) (ch:=[z,TI,TO,i1,i2]) (fun c o hc e=>?_) hf⟩;exact all1 c o (fun q=>hc<|by simp [q]) (fun q=>hc<|by simp [q]) (fun q=>hc<|by simp [q]) (fun q=>hc<|by simp [q]) e
 self:=fun _ _ _ _ _ st h=>wpAny_pyIter_zip st.1 h
section
variable {X:Cx}{K:abZ}
def sqk (K:abZ)(H:Hp)(x:V)(k:Sk)(a:Addr):Prop:=x=.ref a/\∃ xs,k.v K H a xs
def abk (K:abZ)(ta:TA):TI:=fun Z H R=>ta Z H fun vs H1=>∃ x y k1 k2 a b,vs=[x,y]/\sqk K H1 x k1 a/\sqk K H1 y k2 b/\R (Itz K k1 k2 a b) H1
def Sk.sq_lt {k:Sk}{h:Heap}{a:Addr}{its:Array acd}(x:k.sq h a its):a<h.objs.size:=by
 cases k with
 | l=>obtain ⟨o,e,_⟩:=x;exact acs e
 | t=>obtain ⟨o,e,_⟩:=x;exact acs e
def jT {a b:Nat}(h:a≠b):(show Addr from a)≠(show Addr from b):=h
def Uk (n:Nat):Zap (n+4) (n+2) (n+3) n (n+1) where
 a1:=jT (show n+2≠n+4 by omega)
 a2:=jT (show n+3≠n+4 by omega)
 a3:=jT (show n≠n+4 by omega)
 a4:=jT (show n+1≠n+4 by omega)
 a5:=jT (show n+2≠n+3 by omega)
 a6:=jT (show n+2≠n by omega)
 a7:=jT (show n+2≠n+1 by omega)
 a8:=jT (show n+3≠n by omega)
 a9:=jT (show n+3≠n+1 by omega)
 b1:=jT (show n≠n+1 by omega)
def Mh {a n:Nat}(h:a<n):Off a (n+4) (n+3) n (n+1) where
 z:=jT (show a≠n+4 by omega)
 o:=jT (show a≠n+3 by omega)
 i:=jT (show a≠n by omega)
 j:=jT (show a≠n+1 by omega)
def XS {n c:Nat}(h:c∈([n+4,n+2,n+3,n,n+1]:List Nat)):n<=c:=by
 simp only [acA,adL,or_false] at h;omega
def Vn {e1 e2:Expr}{ta:TA}{p pos tpos:Pos}(hg:Gl X "zip")(hm:X.mg "zip" = none)(ha:PA X [e1,e2] ta)
  (hs:acN [e1,e2] X.env=(false,eval e1 X.env)::acN [e2] X.env:=by rfl) (hpl:(afj pos (acN [e2] X.env)).any (·.1)=false:=by rfl) :
  PI X (.Tuple elts kt tpos) (.Call (.Name "zip" p) [e1,e2] [] pos) (abk X.K ta):=by
 intro ahW s Z H R I h;refine afF<|m6 I hg hm boot_zip ?_ (by decide)<|by decide
 refine aek (thn (ha pos ahW s Z H _ I h) fun us s1 ⟨vs,H1,I1,r1,q1⟩=>?_) hs hpl;obtain ⟨x,y,k1,k2,a,b,ev,⟨ex,xs,hx⟩,⟨ey,ys,hy⟩,q⟩:=q1;subst ev ex ey;obtain ⟨u1,u2,eu,ru1,ru2⟩:=vals2 r1;subst eu;cases ru1;cases ru2;obtain ⟨its,r1,p1⟩:=I1.sk hx;obtain ⟨jts,r2,p2⟩:=I1.sk hy;have la:=Sk.sq_lt p1;have lb:=Sk.sq_lt p2;refine Kr p1 p2 fun h' gz gI gO g1 g2 size all=>?_;refine wpAny_pyIter_zip gz ?_;have I2:Inv X ahW Z H1 { s1 with heap:=h' }:=I1.kept (t':=s1.toks) all;generalize hn:s1.heap.objs.size=n at gz gI gO g1 g2 size la lb |-
 refine ⟨n+4,[n+4,n+2,n+3,n,n+1],_,_,H1,rfl,I2,Ku (Uk n) (Mh la)<|Mh lb,⟨gz,gI,⟨_,_,gO⟩,g1,g2⟩,fun c hc=>?_,q⟩;have hc':n<=c:=XS hc;exact I1.fpOk (by rw [hn];exact hc')<|I1.hok.fresh (by rw [hn];exact hc')
def nH:List W->List W->List W
 | a::as,b::bs=>.tup [a,b]::nH as bs
 | _,_=>[]
theorem n8:∀ {as bs:List W} {i:Nat} {w:W},(nH as bs)[i]?=some w->∃ a b,as[i]?=some a/\bs[i]?=some b/\w=.tup [a,b]
 | [],_,_,_,e=>by simp [nH] at e
 | _::_,[],_,_,e=>by simp [nH] at e
 | a::as,b::bs,0,w,e=>by
  have e:some (W.tup [a,b])=some w:=e;exact ⟨a,b,rfl,rfl,(acv e).symm⟩
 | a::as,b::bs,i+1,w,e=>by
  obtain ⟨x,y,h1,h2,h3⟩:=n8 (as:=as) (bs:=bs) (i:=i) (w:=w) (by simpa [nH] using e);exact ⟨x,y,by simpa using h1,by simpa using h2,h3⟩
theorem nQ:∀ {as bs:List W},(nH as bs).length=min as.length bs.length
 | [],bs=>by simp [nH]
 | _::_,[]=>by simp [nH]
 | a::as,b::bs=>by rw [nH,acE,nQ,acE,acE];omega
def p8:W->Option (List W)
 | .tup ws=>some ws
 | .lst ws=>some ws
 | .kls ws=>some ws
 | _=>none
def Ai {H:Hp}{w:W}{v:V}(r:Rep K H μ w v)(e:p8 w=some ws):∃ k a,v=.ref a/\∀ {H2:Hp} {μ2:Mu},Ext K H μ H2 μ2->∃ xs,Sk.v k K H2 a xs/\aM K H2 μ2 ws xs:=by
 cases w with
 | tup us=>
  cases (show some us=some ws from e)
  have r0:=r;rw [Rep] at r;obtain ⟨p,xs,ev,hs,rs⟩:=r;subst ev;refine ⟨.t,p,rfl,fun {H2 μ2} x=>?_⟩;have r2:=x.r _ _ r0;rw [Rep] at r2;obtain ⟨q,ys,ev,hs,rs⟩:=r2;cases ev;exact ⟨ys,hs,rs⟩
 | lst us=>
  cases (show some us=some ws from e)
  have r0:=r;rw [Rep] at r;obtain ⟨p,xs,ev,hs,rs⟩:=r;subst ev;refine ⟨.l,p,rfl,fun {H2 μ2} x=>?_⟩;have r2:=x.r _ _ r0;rw [Rep] at r2;obtain ⟨q,ys,ev,hs,rs⟩:=r2;cases ev;exact ⟨ys,hs.sq,rs⟩
 | kls us=>
  cases (show some us=some ws from e)
  have r0:=r;rw [Rep] at r;obtain ⟨p,xs,ev,hs,rs⟩:=r;subst ev;refine ⟨.l,p,rfl,fun {H2 μ2} x=>?_⟩;have r2:=x.r _ _ r0;rw [Rep] at r2;obtain ⟨q,ys,ev,hs,rs⟩:=r2;cases ev;exact ⟨ys,hs.sq,rs⟩
 | _=>cases e
def Mt (h:Gh)(x y:W):Option Src:=match p8 x,p8 y with
 | some as,some bs=>some ⟨nH as bs,none⟩
 | none,some bs=>(match x with
  | .loc n=>(match h.c n with
   | some (.lst as)=>some ⟨nH as bs,some (n,as)⟩
   | _=>none)
  | _=>none)
 | _,_=>none
def O4 {H:Hp}{h:Gh}{w:W}{v:V}{o:Option (Nat×List W)}(R:Rel K μ H h)(r:Rep K H μ w v)(e:(p8 w=some ws/\o=none)\/∃ n,w=.loc n/\h.c n=some (.lst ws)/\o=some (n,ws)):
  ∃ k a,v=.ref a/\∀ {H2:Hp} {μ2:Mu} {h2:Gh},Ext K H μ H2 μ2->Rel K μ2 H2 h2->Src.chk ⟨ws,o⟩ h2->∃ xs,Sk.v k K H2 a xs/\aM K H2 μ2 ws xs:=by
 rcases e with ⟨e,rfl⟩ | ⟨n,rfl,ec,rfl⟩
 ·obtain ⟨k,a,ev,f⟩:=Ai r e;exact ⟨k,a,ev,fun x _ _=>f x⟩
 ·have r0:=r;rw [Rep] at r;obtain ⟨p,ev,hm⟩:=r;subst ev;refine ⟨.l,p,rfl,fun {H2 μ2 h2} x R2 ck=>?_⟩;have r2:=x.r _ _ r0;rw [Rep] at r2;obtain ⟨q,eq,hm2⟩:=r2;cases eq;obtain ⟨p',xs,hm',hx,rs⟩:=R2.lstAt (show h2.c n=some (.lst ws) from ck);have ep:p'=p:=by rw [hm2] at hm';exact (acv hm').symm
  subst ep;exact ⟨xs,.of hx,rs⟩
def RD {h:Gh}{x y:W}{s:Src}(e:Mt h x y=some s):∃ as bs o,s=⟨nH as bs,o⟩/\((p8 x=some as/\o=none)\/∃ n,x=.loc n/\h.c n=some (.lst as)/\o=some (n,as))/\p8 y=some bs:=by
 unfold Mt at e;split at e
 ·rename_i as bs ea eb;exact ⟨as,bs,none,(acv e).symm,.inl ⟨ea,rfl⟩,eb⟩
 ·rename_i bs ea eb;split at e
  ·split at e
   ·rename_i n _ as ec;exact ⟨as,bs,_,(acv e).symm,.inr ⟨n,rfl,ec,rfl⟩,eb⟩
   ·cases e
  ·cases e
 ·cases e
def Ow (ma:MA):MI:=fun Z h R=>ma Z h fun ws h1=>match ws with
 | [x,y]=>(match Mt h1 x y with
  | some s=>R s h1
  | none=>False)
 | _=>False
def uZ {e1 e2:Expr}{p pos tpos:Pos}(hg:Gl X "zip")(hm:X.mg "zip" = none)(ha:DAs X [e1,e2] mr)
  (hs:acN [e1,e2] X.env=(false,eval e1 X.env)::acN [e2] X.env:=by rfl) (hpl:(afj pos (acN [e2] X.env)).any (·.1)=false:=by rfl) :
  DIt X (.Tuple elts kt tpos) (.Call (.Name "zip" p) [e1,e2] [] pos) (Ow mr):=PI.of (Vn hg hm ha hs hpl) fun Z H Q ⟨μ,h,Zw,Rw,R,S,m,k⟩=>by
 refine ⟨μ,h,Zw,_,R,S,m,fun vs H1 ⟨μ1,ws,h1,e1,R1,r1,m1⟩=>?_⟩;dsimp only at m1;split at m1
 ·split at m1
  ·rename_i x y _ s es;obtain ⟨as,bs,o,rfl,ea,eb⟩:=RD es;obtain ⟨v,u,ev,rv,ru⟩:=Bb r1;obtain ⟨ka,a,e3,fa⟩:=O4 R1 rv ea;obtain ⟨kb,b,e4,fb⟩:=Ai ru eb;have ck1:Src.chk ⟨as,o⟩ h1:=by
    rcases ea with ⟨_,rfl⟩ | ⟨n,_,ec,rfl⟩
    ·exact trivial
    ·exact ec
   obtain ⟨xs,hxs,_⟩:=fa .refl R1 ck1;obtain ⟨ys,hys,_⟩:=fb .refl;refine ⟨v,u,ka,kb,a,b,ev,⟨e3,xs,hxs⟩,⟨e4,ys,hys⟩,k _ _ ⟨μ1,⟨nH as bs,o⟩,h1,e1,R1,?_,m1⟩⟩;intro H2 μ2 h2 i e2 R2 ck;obtain ⟨xs2,hxs2,rxs⟩:=fa e2 R2 ck;obtain ⟨ys2,hys2,rys⟩:=fb e2;refine ⟨fun w ew=>?_,fun hl=>⟨xs2,ys2,hxs2,hys2,?_⟩⟩
   ·obtain ⟨p1,p2,ep1,ep2,rfl⟩:=n8 ew;obtain ⟨q1,eq1,rq1⟩:=rxs.get ep1;obtain ⟨q2,eq2,rq2⟩:=rys.get ep2;refine ⟨⟨xs2,ys2,q1,q2,hxs2,hys2,eq1,eq2⟩,fun x' H3 ⟨pa,x1,x2,hp,ex',eH3,f1,f2⟩=>?_⟩;have g1:=f1 xs2 hxs2;have g2:=f2 ys2 hys2;rw [eq1] at g1;rw [eq2] at g2;cases g1;cases g2;subst ex' eH3;exact ⟨μ2,(Ex.laid hp).ext,R2.laid hp,.tupNew hp<|.cons rq1<|.one rq2⟩
   ·have l1:=rxs.len;have l2:=rys.len;have:min as.length bs.length<=i:=by rw [<-nQ];exact hl
    omega
  ·exact m1.elim
 ·exact m1.elim
end
variable {e1 e2 : Expr}
section
variable {X:Cx}{K:abZ}
theorem xu:∀ {ns:List Int} {its:List acd} {i:Nat} {v:acd},Vals (ns.map V.int) its->its[i]?=some v->∃ t,v=.int (ns.getD i 0) t
 | [],_,_,_,.nil,e=>by simp at e
 | n::ns,_,0,_,.cons r _,e=>by
  simp at e;subst e;exact r
 | _::ns,_,i+1,v,.cons _ t,e=>by
  obtain ⟨t',h⟩:=xu (i:=i) (v:=v) t (by simpa using e);exact ⟨t',by simpa using h⟩
def rQ:List W->Option (List Int)
 | []=>some []
 | .int i::ws=>(rQ ws).map (i::·)
 | _=>none
theorem zf {H:Hp}{μ : Mu}:∀ {ws:List W} {xs:List V} {ns:List Int},aM K H μ ws xs->rQ ws=some ns->xs=ns.map V.int
 | [],xs,ns,r,e=>by
  rw [aM] at r;cases (show some []=some ns from e)
  exact r
 | w::ws,xs,ns,r,e=>by
  rw [aM] at r;obtain ⟨v,vr,ev,ra,r⟩:=r;cases w with
  | int b=>
   rw [Rep] at ra;rw [rQ] at e;cases q:rQ ws with
   | none=>rw [q] at e;cases e
   | some cs=>
    rw [q] at e;cases (show some (b::cs)=some ns from e)
    rw [ev,ra,zf r q];rfl
  | _=>cases e
def aaK:MC:=fun ws h Q=>match ws with
 | [w]=>(match d7 h w with
  | some us=>(match rQ us with
   | some ns=>Q (.int ns.sum) h
   | none=>False)
  | none=>False)
 | _=>False
end
section
variable {P:acK}{w:adt}{A:acY}{E:acd->aci->Prop}{s:aci}
end
section
variable {X:Cx}{K:abZ}
end
section
variable {X:Cx}
def Y4 (i j k:Nat)(ta:MA):MS:=fun D Z h=>ta Z h fun ws h1=>match ws with
 | [a,b,c]=>D.nx (((Z.set i (some a)).set j (some b)).set k (some c)) h1
 | _=>False
end
section
variable {X:Cx}{K:abZ}
end
def ZL {K:abZ}{H:Hp}:aM K H μ [] []:=by rw [aM]
def SM {K:abZ}{H:Hp}{i:Int}:Rep K H μ (.int i) (.int i):=by rw [Rep]
section
variable {prog:acK}{w:adt}{A:acY}{E:acd->aci->Prop}{s:aci}
def vf {it t:Addr}{items:Array acd}(hne:t≠it):∀ (n i:Nat) (s:aci) (Q:List acd->aci->Prop),s.heap.IsListIter it t i->s.heap.IsList t items->i+n<=items.size ->
  (∀ h',h'.IsListIter it t (i+n)->aez it s.heap h'->Q ((items.toList.drop i).take n) { s with heap:=h' })->acL (acP prog w) A (draw (.ref it) n) Q E s
 | 0,i,s,Q,hit,_,_,hQ=>by
  show acL _ _ (pure []) Q E s;exact ach<|by simpa using hQ s.heap hit (Heap.SameBut.refl ..)
 | n+1,i,s,Q,hit,ht,hle,hQ=>by
  have hlt:i<items.size:=by omega
  show acL _ _ (agS (.ref it) >>= _) Q E s;refine abY<|wpAny_pyNext_list_item hit ht (x:=items[i]) (by simp [hlt]) fun h1 hit1 hs1=>?_
  refine abY<|adB<|vf hne n (i+1) _ _ hit1 (ht.at fun o e=>hs1.extBut _ o hne e) (by omega) fun h2 hit2 hs2=>ach ?_
  have hd:items.toList.drop i=items[i]::items.toList.drop (i+1):=by simp [aej,hlt]
  have:=hQ h2 (by rw [show i+(n+1)=i+1+n by omega];exact hit2) (hs1.trans hs2)
  rw [hd,List.take_succ_cons] at this;exact this
def nj {t:Addr}{items:Array acd}{Q:List acd->aci->Prop}(hh:A.handled=none)(ht:s.heap.IsList t items)
  (hQ:∀ h',agV s.heap.objs.size s.heap h'->Q items.toList { s with heap:=h' }):acL (acP prog w) A (unpackItems (.ref t) items.size none) Q E s:=by
 have hlt:t≠s.heap.objs.size:=by obtain ⟨o,ho,_⟩:=ht;exact acI (acs ho)
 unfold unpackItems;refine abY ?_
 ·unfold notIterableAtAll;refine abY<|wpAny_specialOf ht.typeIs slot_list_iter.lookup ?_
  refine ach ?_;simp only [adx,if_false];refine abY<|adB<|agx ht ?_
  refine abY<|adB<|vf hlt items.size 0 _ _ ⟨_,acw _ rfl,rfl,rfl⟩ (ht.at fun o e=>ace _ e) (by omega) fun h1 hit1 hs1=>?_
  have hall:List.take items.size (List.drop 0 items.toList)=items.toList:=by
   rw [List.drop_zero];exact aev (by simp)
  rw [hall];rw [if_neg (by simp)];have ht1:h1.IsList t items:=ht.at fun o e=>hs1.extBut _ o hlt (ace _ e)
  refine abY<|adB<|wpAny_pyNext_list_end hh hit1 ht1 (by simp) fun h2 he2=>?_
  simp only [Option.isSome_none,adx,if_false];refine ach<|hQ h2 fun b o hb e=>he2 b o hb<|hs1.extBut b o hb<|ace _ e
def lK {x1}{pos:Pos}{t:Addr}{items:Array acd}{Q:Unit->aci->Prop}(hh:A.handled=none)(ht:s.heap.IsList t items)
  (hn:(aef elts env).length=items.size) (hstar:(aef elts env).findIdx? (·.1)=none)
  (h:∀ h',agV s.heap.objs.size s.heap h'->acL (acP prog w) A (assignInOrder ((aef elts env).map (·.2)) items.toList) Q E { s with heap:=h' }) :
  acL (acP prog w) A (assign (.Tuple elts x1 pos) env (.ref t)) Q E s:=by
 rw [assign_Tuple];refine abY<|wpAny_standAt ?_
 unfold unpack;rw [hn,hstar];exact abY<|adB<|nj hh ht h
end
section
variable {X:Cx}{pos:Pos}
def Yk (K:abZ)(n:Nat)(t:TGs):TG:=fun v Z H Q=>∃ a xs,v=.ref a/\(SqT K H a xs\/SqL K H a xs)/\xs.length=n/\t xs Z H Q
def Ru {es:List Expr}{k:Nat}{t:TGs}{n:Nat}(hc:X.calm=true)(h:PGs X es t)
  (hn:(aef es X.env).length=n:=by rfl) (hst:(aef es X.env).findIdx? (·.1)=none:=by rfl):PG X (.Tuple es k pos) (Yk X.K n t):=by
 intro ahW s Z H v u Q I r hw;obtain ⟨a,xs,e1,hq,hl,hw⟩:=hw;subst e1;cases r;rcases hq with hq | hq
 ·obtain ⟨its,rv,ht,hz⟩:=I.tuple hq;refine assign_Tuple_tuple (I.ok.hd hc) ht (by simp [hn,<-hl,rv.length]) hst fun h' hx=>?_;have I1:Inv X ahW Z H { s with heap:=h' }:=I.kept (t':=s.toks) fun b o e=>hx b o (acI (acs e)) e
  exact h ahW _ Z H xs _ Q I1 (by simpa using rv) hw
 ·obtain ⟨its,rv,ht,hz⟩:=I.list hq;refine lK (I.ok.hd hc) ht.isList (by simp [hn,<-hl,rv.length]) hst fun h' hx=>?_;have I1:Inv X ahW Z H { s with heap:=h' }:=I.kept (t':=s.toks) fun b o e=>hx b o (acI (acs e)) e
  exact h ahW _ Z H xs _ Q I1 (by simpa using rv) hw
def gU (n:Nat)(g:MGs):MG:=fun w Z h N=>match w with
 | .tup ws=>by2 (afu ws.length n) (g ws Z h N) False
 | .lst ws=>by2 (afu ws.length n) (g ws Z h N) False
 | .loc j=>(match h.c j with
  | some (.lst ws)=>by2 (afu ws.length n) (g ws Z h N) False
  | _=>False)
 | _=>False
def dU {es:List Expr}{k:Nat}{g:MGs}{n:Nat}(hc:X.calm=true)(h:XC X es g)(hn:(aef es X.env).length=n:=by rfl)(hst:(aef es X.env).findIdx? (·.1)=none:=by rfl):DG X (.Tuple es k pos) (gU n g):=
 (Ru (n:=n) hc h hn hst).of fun v Z H N ⟨μ,h,Zw,w,Nw,R,S,r,m,k⟩=>by
  cases w with
  | tup ws=>
   rw [Rep] at r;obtain ⟨p,xs,e1,hs,hr⟩:=r;have m:by2 (afu ws.length n) (g ws Zw h Nw) False:=m;cases en:afu ws.length n with
   | true=>rw [en] at m;exact ⟨p,xs,e1,.inl hs,by rw [<-hr.len];exact afB en,μ,h,Zw,ws,Nw,R,S,hr,m,k⟩
   | false=>rw [en] at m;exact (show False from m).elim
  | lst ws=>
   rw [Rep] at r;obtain ⟨p,xs,e1,hs,hr⟩:=r;have m:by2 (afu ws.length n) (g ws Zw h Nw) False:=m;cases en:afu ws.length n with
   | true=>rw [en] at m;exact ⟨p,xs,e1,.inr hs.sq,by rw [<-hr.len];exact afB en,μ,h,Zw,ws,Nw,R,S,hr,m,k⟩
   | false=>rw [en] at m;exact (show False from m).elim
  | loc j=>
   have m:(match h.c j with
    | some (.lst ws)=>by2 (afu ws.length n) (g ws Zw h Nw) False
    | _=>False):=m
   split at m
   ·rename_i ws ec;obtain ⟨p,xs,e1,hs,hr⟩:=cX R r (show d7 h (.loc j)=some ws by simp only [d7,ec]);cases en:afu ws.length n with
    | true=>rw [en] at m;exact ⟨p,xs,e1,.inr hs,by rw [<-hr.len];exact afB en,μ,h,Zw,ws,Nw,R,S,hr,m,k⟩
    | false=>rw [en] at m;exact (show False from m).elim
   ·exact m.elim
  | _=>exact m.elim
end
section
variable {K:abZ}{H:Hp}{h:Gh}{p:Addr}{xs:List V}
end
def aaU (Q:WK):WK:=fun w h=>match w with
 | .lst ws=>Q (.loc h.nx) (h.new (.lst ws))
 | _=>False
def abh (own:W->Option (List W))(ix:List Nat)(mi:MI)(tt:MT)(te:ME):ME:=fun Z h Q=>mLC own ix mi tt te Z h (aaU Q)
section
variable {X:Cx}{tg iter:Expr}{pos:Pos}{scope:Scope}{xs:List Str}
end
def isStar:Expr->Bool
 | .Starred _ _=>true
 | _=>false
def bT {e:Expr}{es:List Expr}(h:isStar e=false):acN (e::es) env=(false,eval e env)::acN es env:=by
 cases e <;> first | rfl | cases h
def M7 {e:Expr}(h:isStar e=false):acN [e] env=[(false,eval e env)]:=(bT h).trans rfl
def noStar:List Expr->Bool
 | []=>true
 | e::r=>!isStar e&&noStar r
theorem cP {pos:Pos}{env:Env}:∀ {es:List Expr},noStar es=true->(afj pos (acN es env)).any (·.1)=false
 | [],_=>rfl
 | e::r,h=>by
  rw [noStar,adC,Bool.not_eq_true'] at h;rw [bT h.1];show (false||(afj pos (acN r env)).any (·.1))=false;rw [cP h.2];rfl
def Ju {ahY:Pos}{e:Expr}(h:isStar e=false):((afj ahY (acN [e] env)).all (fun x=>!x.1)&&(backToKw ahY (agO [] env)).all (fun x=>x.1.isSome)
   && decide (([e]:List Expr).length+([]:List agy).length+(if ([]:List agy).isEmpty then 0 else 1)<30))=true:=by
 rw [M7 h];rfl
section
variable {prog:acK}{w:adt}{A:acY}{E:acd->aci->Prop}{s:aci}
open HT in
def jD {t sl:Addr}{items:Array acd}{vl vu:acd}{lo hi:Option Int}{Q:acd->aci->Prop}(ht:IsTup s.heap t items)(hs:s.heap.IsSliceOf sl vl vu .none)(pl:IsPart vl lo)(pu:IsPart vu hi)
  (h0:sIx items.size 0 lo=0) (h1:sIx items.size items.size hi=items.size) (h:Q (.ref t) s):acL (acP prog w) A (getItem (.ref t) (.ref sl)) Q E s:=by
 obtain ⟨os,hos,hcs,hds⟩:=id hs;have hTs:s.TypeIs (.ref sl) "slice":=⟨os,hos,hcs⟩
 unfold getItem;try with_reducible refine adB ?_
 first | refine abY (ach ?_) | skip
 refine abY<|wpAny_sequenceKey ht.typeIs (by decide) ?_
 refine abY (adO (name:=afz "__getitem__") ht.typeIs adV
  (adS adV ht.typeIs entry_tuple_getitem ?_ (args_tuple_getitem _ _)))
 show acL _ _ (Builtin.Tuple.tupleItemsOf (.ref t) >>= _) _ _ s;refine abY<|tupleItemsOf_ ht ?_
 refine abY<|aeI hTs ?_
 rw [if_pos (by decide)];refine abY<|iy hs pl pu ?_
 have hyes:((((sIx items.size 0 lo:Nat):Int)==0&&(1:Int)==1&&(sIx items.size items.size hi - sIx items.size 0 lo)==items.size)=true):=by
  rw [h0,h1];simp
 show acL _ _ (if (((sIx items.size 0 lo:Nat):Int)==0&&(1:Int)==1&&(sIx items.size items.size hi - sIx items.size 0 lo)==items.size)=true then _ else _) _ _ s;rw [if_pos hyes];unfold Builtin.Tuple.tupleIsExact;refine abY<|abY<|aeI ht.typeIs<|ach ?_
 rw [if_pos (by decide)];refine abY<|aeA ?_
 first
  | exact ach ⟨_,rfl,ach h⟩
  | exact abY (ach (ach ⟨_,rfl,ach h⟩))
end
section
variable {X:Cx}
def abd (K:abZ):V->Option Int->Option Int->Hp->VK->Prop:=fun x lo hi H Q=>∃ a xs,x=.ref a/\SqT K H a xs /\
 HT.sIx xs.length 0 lo=0/\HT.sIx xs.length xs.length hi=xs.length/\Q x H
def Lg:SlR X (abd X.K):=by
 intro ahW s Z H x v vl vu lo hi sl Q I rx hs pl pu h;obtain ⟨a,xs,rfl,hx,h0,h1,q⟩:=h;cases rx;obtain ⟨its,r,ht,hz⟩:=I.tuple hx;have ahX:its.toArray.size=xs.length:=by rw [acC];exact r.length.symm
 refine ⟨"tuple",_,adV.lookup,ht.typeIs,?_⟩;refine jD ht hs pl pu (by rw [ahX];exact h0) (by rw [ahX];exact h1) ?_;exact ⟨.ref a,H,I,rfl,q⟩
def Uy (x:W)(lo hi:Option Int)(h:Gh)(Q:WK):Prop:=match x with
 | .tup ws=>Q (.tup (yJ ws lo hi)) h
 | x=>(match d7 h x with
  | some ws=>Q (.lst (yJ ws lo hi)) h
  | none=>False)
def Vc {e:Expr}{lo hi:Option Expr}{ml mh:MO}{p2 pos:Pos}(he:DE X e ma)(hl:DO X lo ml)(hu:DO X hi mh):DE X (.Subscript e (.Slice lo hi none p2) pos) (mSl Uy ma ml mh):=
 (Kf (SlR.or (SlR.or Ph T3) Lg) he hl hu).of fun Z H Q ⟨μ,h,Zw,Qw,R,S,m,k⟩=>by
  refine ⟨μ,h,Zw,_,R,S,m,fun x H1 ⟨μ1,wx,h1,e1,R1,r1,m1⟩=>?_⟩;refine ⟨μ1,h1,Zw,_,R1,S.ext e1,m1,fun lo H2 ⟨μ2,h2,e2,R2,m2⟩=>?_⟩;refine ⟨μ2,h2,Zw,_,R2,(S.ext e1).ext e2,m2,fun hi H3 ⟨μ3,h3,e3,R3,m3⟩=>?_⟩;have e13:=(e1.trans e2).trans e3;have r3:=e3.r _ _ (e2.r _ _ r1);have oth:∀ wy,Rep X.K H3 μ3 wy x->(match d7 h3 wy with
    | some ws=>Qw (.lst (yJ ws lo hi)) h3
    | none=>False)->∃ p xs,x=.ref p/\SqL X.K H3 p xs/\∀ l,H3 l=none->Q (.ref l) (upd H3 l (.lst (Lx xs lo hi))):=by
   intro wy ry my;split at my
   ·rename_i ws ev;obtain ⟨p,xs,ex,hs,rs⟩:=cX R3 ry ev;exact ⟨p,xs,ex,hs,fun l hl=>k _ _ ⟨μ3,_,h3,e13.trans (Ex.laid hl).ext,R3.laid hl,.lstNew R3 hl<|rs.cutv lo hi,my⟩⟩
   ·exact my.elim
  cases wx with
  | tup ws=>
   have m3:Qw (.tup (yJ ws lo hi)) h3:=m3;have r30:=r3;rw [Rep] at r3;obtain ⟨p,xs,ex,hx,rs⟩:=r3;have hl:=rs.len;by_cases hw:HT.sIx xs.length 0 lo=0/\HT.sIx xs.length xs.length hi=xs.length
   ·have ec:yJ ws lo hi=ws:=by
     unfold yJ;rw [hl,hw.1,hw.2,List.drop_zero,Nat.sub_zero,<-hl,adf]
    rw [ec] at m3;exact .inr ⟨p,xs,ex,hx,hw.1,hw.2,k _ _ ⟨μ3,.tup ws,h3,e13,R3,r30,m3⟩⟩
   ·exact .inl<|.inr ⟨p,xs,ex,hx,hw,fun q hq=>k _ _ ⟨μ3,.tup<|yJ ws lo hi,h3,e13.trans (Ex.laid hq).ext,R3.laid hq,.tupNew hq<|rs.cutv lo hi,m3⟩⟩
  | _=>exact .inl (.inl (oth _ r3 m3))
end
section
variable {X:Cx}
def K7:MC:=fun ws h Q=>match ws with
 | [.int i]=>Q (.int i) h
 | [.bl b]=>Q (.int (if b then 1 else 0)) h
 | _=>False
def Bg:fM X (.type "int") K7:=⟨_,GJ,by
 intro H μ h vs ws Qw Q R r m k;unfold K7 at m;split at m
 ·obtain ⟨v,e,rv⟩:=jO r;rw [Rep] at rv;subst e rv;exact .inl ⟨_,rfl,k _ _<|.int R m⟩
 ·obtain ⟨v,e,rv⟩:=jO r;rw [Rep] at rv;subst e rv;exact .inr ⟨_,rfl,k _ _<|.int R m⟩
 ·exact m.elim⟩
def qG:fillsNumberSlot (.type "tuple") "mul" = pure false:=
 PySem.fillsNumberSlot_seq (id := "tuple.__mul__") (r:=some (.builtin "tuple.__rmul__")) F.slot_tuple_mul.lookup (by decide +kernel) F.slot_tuple_rmul.lookup (by decide +kernel)
def Bu:seqRepeat? (.type "tuple")=pure (some (.builtin "tuple.__mul__")):=by
 unfold seqRepeat?;rw [PySem.seqSlot_of (T := "tuple") (name := "__mul__") (id := "tuple.__mul__") F.slot_tuple_mul.lookup (by decide +kernel),PySem.seqSlot_of (T := "tuple") (name := "__rmul__") (id := "tuple.__rmul__") F.slot_tuple_rmul.lookup (by decide +kernel)];rfl
def vo (a:Int)(t:Tok)(l:Addr)(items:Array acd):
  Meets (acV.«int.__rmul__» ⟨[.int a t,.ref l],[]⟩) (fun _ R s=>IsTup s.heap l items/\R (.ok (.ret Value.notImplemented)) s):=
 .of_wp fun prog w A R s h=>by
  obtain ⟨hp,g,d,tk,os⟩:=s;obtain ⟨⟨o,ho,hc,n,hd⟩,h⟩:=h;obtain ⟨cl,dd,da,sl⟩:=o;simp only at hc hd;subst hc hd
  wp_walk
  exact ⟨_,rfl,h⟩
def R0 (l:Addr)(items:Array acd)(k:Int)(t:Tok)(h0:0<=k)(h1:k<2^63)(hz:items.size*k.toNat<=acM):
  Meets (acV.«tuple.__mul__» ⟨[.ref l,.int k t],[]⟩) (fun _ R s=>IsTup s.heap l items/\(if items.size=0\/k=1 then R (.ok (.ret (.ref l))) s else
   R (.ok (.ret (.ref s.heap.objs.size))) { s with heap:=s.heap.push { cls:=.type "tuple",data:=.seq (acG k.toNat items.toList).flatten.toArray } })):=
 .of_wp fun prog w A R s h=>by
  obtain ⟨hp,g,d,tk,os⟩:=s;obtain ⟨⟨o,ho,hc,n,hd⟩,h⟩:=h;obtain ⟨cl,dd,da,sl⟩:=o;simp only at hc hd;subst hc hd;have ht:IsTup hp l items:=⟨_,ho,rfl,n,rfl⟩
  wp_walk
  rw [if_neg (by simp;omega)];refine abY<|tupleItemsOf_ (s:=⟨hp,g,d,tk,os⟩) ht ?_
  dsimp only;have hemp:items.isEmpty=decide (items.size=0):=rfl;by_cases e:items.size=0\/k=1
  ·rw [if_pos e] at h;rw [if_pos (by rcases e with e | e <;> simp [hemp,e])];unfold Builtin.Tuple.tupleIsExact;refine abY<|abY<|aeI ⟨_,ho,rfl⟩<|ach ?_
   rw [if_pos (by decide)];refine abY<|aeA ?_
   exact ach ⟨_,rfl,h⟩
  ·rw [if_neg e] at h;rw [not_or] at e;rw [if_neg (by simp [hemp,e.1,e.2])];by_cases k0:k=0
   ·rw [if_pos (by simp [k0])];subst k0;have ee:(acG (0:Int).toNat items.toList).flatten.toArray = #[]:=rfl;rw [ee] at h;exact abY (m:=adN _)<|adq (ach ⟨_,rfl,h⟩) (by show 0<=acM;exact adu _)
   ·rw [if_neg (by simp [hemp,e.1];omega)];have hp8:((2:Int)^63 - 1) / 8=1152921504606846975:=by decide
    have hsz:(acM:Nat)<=1152921504606846975:=by decide
    have hk:((items.size*k.toNat:Nat):Int)=(items.size:Int)*k:=by rw [Int.natCast_mul,Int.toNat_of_nonneg h0]
    rw [if_neg (by rw [hp8,<-hk];omega)];rw [if_neg (by unfold Builtin.Tuple.tupleTooMany;rw [<-hk,decide_eq_true_iff];omega)];have hnew:List.foldl (fun x1 x2=>x1++x2) #[] (acG k.toNat items)=(acG k.toNat items.toList).flatten.toArray:=by
     have:=foldl_rep items.toList k.toNat []
     rw [afY] at this
     simpa using this
    rw [hnew];refine abY (m:=adN _)<|adq (ach ⟨_,rfl,h⟩) ?_
    show (acG k.toNat items.toList).flatten.toArray.size<=acM;rw [acC,len_rep,Nat.mul_comm]
    simpa using hz
def Yr (K:abZ):R2:=fun x y H Q=>∃ a xs k,x=.ref a/\y=.int k/\SqT K H a xs/\0<=k/\k<2^63/\xs.length*k.toNat<=acM /\
 ((xs.length=0\/k=1)->Q (.ref a) H)/\(¬ (xs.length=0\/k=1)->∀ p,H p=none->Q (.ref p) (upd H p (.tup (acG k.toNat xs).flatten)))
def Rz:OpR X (aeN .Mult) (Yr X.K):=by
 intro ahW s Z H x y v u Q I rx ry h;obtain ⟨a,xs,k,rfl,rfl,hx,h0,h1,hz,q1,q2⟩:=h;cases rx;obtain ⟨t,rfl⟩:=ry;obtain ⟨its,r,ht,hsz⟩:=I.tuple hx;have ahX:its.toArray.size=xs.length:=by rw [acC];exact r.length.symm
 refine wpAny_binaryOp_repeat_ref (T := "tuple") (U := "int") (by decide) ht.typeIs (fun s'=>typeIs_int s' k t) qG F.fills_int_mul F.slot_int_rmul Bu F.slot_int_index.lookup
  (call_meets F.slot_int_rmul (typeIs_int s k t) F.entry_int_rmul (F.args_int_rmul_2 _ _) (vo k t a its.toArray)
   ⟨ht,rfl,ht.typeIs,call_meets F.slot_tuple_mul ht.typeIs F.entry_tuple_mul (F.args_tuple_mul_2 _ _) (R0 a its.toArray k t h0 h1 (by rw [ahX];exact hz)) ⟨ht,?_⟩⟩)
 rw [ahX];by_cases e:xs.length=0\/k=1
 ·rw [if_pos e];exact ⟨.ref a,H,I,rfl,q1 e⟩
 ·rw [if_neg e];refine ⟨.ref s.heap.objs.size,_,I.laid (t':=s.toks) (o:=.tup (acG k.toNat xs).flatten) (fun b ob q=>ace _ q) (acj _) ?_,rfl,q2 e _<|I.hok.fresh<|acj _⟩;exact ⟨by rw [len_rep,Nat.mul_comm];exact hz,_,r.rep k.toNat,G4.new _ _⟩
def vm:M2:=fun x y h Q=>match x,y with
 | .int i,.int j=>oM i j/\Q (.int (i*j)) h
 | .tup ws,.int k=>(0<=k/\k<=1000/\ws.length*k.toNat<=1000)/\Q (.tup (acG k.toNat ws).flatten) h
 | _,_=>False
theorem z6 {K:abZ}{H:Hp}{μ : Mu}{ws:List W}{xs:List V}(r:aM K H μ ws xs):∀ k:Nat,aM K H μ (acG k ws).flatten (acG k xs).flatten
 | 0=>ZL
 | k+1=>by
  rw [aea,aea,aeO,aeO];exact aM.append r<|z6 r k
def yE:DOp X (aeN .Mult) vm:=⟨_,GX.or Rz,by
  intro H μ h x y wx wy Qw Q R rx ry m k;cases wx with
  | int i=>cases wy with
    | int j=>
      rw [Rep] at rx ry;have m:oM i j/\Qw (.int (i*j)) h:=m;exact .inl ⟨_,_,rx,ry,m.1,k _ _<|.int R m.2⟩
    | _=>exact (show False from m).elim
  | tup ws=>cases wy with
    | int n=>
      have m:(0<=n/\n<=1000/\ws.length*n.toNat<=1000)/\Qw (.tup (acG n.toNat ws).flatten) h:=m;obtain ⟨⟨h0,h1,h2⟩,m⟩:=m;have rx0:=rx;rw [Rep] at rx;rw [Rep] at ry;obtain ⟨p,xs,ex,hx,rs⟩:=rx;have hl:=rs.len;have sz:(1000:Nat)<=acM:=by decide
      have p63:(2:Int)^63=9223372036854775808:=by decide
      refine .inr ⟨p,xs,n,ex,ry,hx,h0,by omega,by rw [<-hl];omega,fun e=>?_,fun e q hq=>?_⟩
      . have ee:(acG n.toNat ws).flatten=ws:=by
          rcases e with e | e
          . have:ws=[]:=adk (by omega)
            subst this;have:∀ k:Nat,(acG k ([]:List W)).flatten=[]:=fun k=>by induction k with
              | zero=>rfl
              | succ k ih=>rw [aea,aeO,ih];rfl
            exact this _
          . subst e
            show (acG 1 ws).flatten=ws;simp
        rw [ee] at m;rw [<-ex];exact k _ _ ⟨μ,.tup ws,h,.refl,R,rx0,m⟩
      . exact k _ _ ⟨μ,.tup (acG n.toNat ws).flatten,h,(Ex.laid hq).ext,R.laid hq,.tupNew hq (z6 rs _),m⟩
    | _=>exact (show False from m).elim
  | _=>exact (show False from by cases wy <;> exact m).elim⟩
theorem rD {K:abZ}{H:Hp}{μ : Mu}:∀ {ns:List Int} {xs:List V},aM K H μ (ns.map W.int) xs->xs=ns.map V.int
 | [],xs,r=>by rw [adA,aM] at r;exact r
 | n::ns,xs,r=>by
  rw [acg,aM] at r;obtain ⟨v,vs,e,rv,r⟩:=r;rw [Rep] at rv;rw [e,rv,rD r];rfl
end
section
variable {X:Cx}
def Lb (i j:Int):Prop:=oM i j\/Sm 64 i\/Sm 64 j
def Lb.ok {i j:Int}(h:Lb i j):IntMulOk i j:=by
 rcases h with h | h | h
 ·exact h.ok
 ·exact .of_left h.bits
 ·exact .of_right h.bits
def Qs:OpR X (aeN .Mult) (rI Lb fun i j=>.int (i*j)):=opI fun _ _ _ _ _ _ _ hc q=>mul_int q hc.ok
def Bl:M2:=fun x y h Q=>match x,y with
 | .int i,.int j=>Lb i j/\Q (.int (i*j)) h
 | _,_=>False
def G9:DOp X (aeN .Mult) Bl:=⟨_,Qs,by
 intro H μ h x y wx wy Qw Q R rx ry m k;unfold Bl at m;split at m
 ·rw [Rep] at rx ry;exact ⟨_,_,rx,ry,m.1,k _ _<|.int R m.2⟩
 ·exact m.elim⟩
end
section
variable {X:Cx}
end
def XO (h:Heap)(P:Addr->Prop)(e C:Addr)(od:Option Addr):Prop:=P e/\∃ (oe:Obj) (vs:Array acd),h.get? e=some oe/\oe.cls=.ref C/\oe.dict=od/\oe.data=.fields vs/\vs.size<=1000/\vs[2]?=some .none /\
 (vs[1]?=some .none\/∃ (T:Addr) (oT:Obj) (ts:Array acd),vs[1]?=some (.ref T)/\T≠e/\P T/\h.get? T=some oT/\oT.data=.fields ts/\3<ts.size)
def XN (h:Heap)(P:Addr->Prop)(e C:Addr)(od:Option Addr):Prop:=P e/\∃ (oe:Obj) (vs:Array acd),h.get? e=some oe/\oe.cls=.ref C/\oe.dict=od/\oe.data=.fields vs/\vs.size<=1000/\vs[2]?=some .none /\
 ∃ (T:Addr) (oT:Obj) (ts:Array acd),vs[1]?=some (.ref T)/\T≠e/\P T/\h.get? T=some oT/\oT.data=.fields ts/\3<ts.size
structure Stp (P:Addr->Prop) (fs:List Addr) (h h':Heap):Prop where
 keep:∀ b o,¬ P b->b∉fs->h.get? b=some o->h'.get? b=some o
 slot:∀ b o,¬ P b->h.get? b=some o->∃ sl,h'.get? b=some { o with slots:=sl }
 there:∀ b o,h.get? b=some o->∃ o',h'.get? b=some o'
section
variable {M:Model}{A:acY}{E:acd->aci->Prop}{s:aci}{P:Addr->Prop}{e C:Addr}{od:Option Addr}
end
section
variable {X:Cx}{ahW:List (Addr×Obj)}{Z : St}{H H':Hp}{s s':aci}{b e C:Addr}{od:Option Addr}
structure New (X:Cx) (ahW:List (Addr×Obj)) (H:Hp) (b:Addr):Prop where
 h:H b=none
 s:b∈X.ex\/X.s₀.heap.get? b=none
 l:b≠X.env.locals
 c:∀ x c,X.env.cells.lookup x=some c->c≠b
 p:∀ p∈X.pn++ahW,p.1≠b
 f:b∉X.fs
structure FX (X:Cx) (ahW:List (Addr×Obj)) (Z : St) (H:Hp) (s:aci) (e C:Addr) (od:Option Addr):Prop where
 inv:Inv X ahW Z H s
 xo:XO s.heap (New X ahW H) e C od
structure FN (X:Cx) (ahW:List (Addr×Obj)) (Z : St) (H:Hp) (s:aci) (e C:Addr) (od:Option Addr):Prop where
 inv:Inv X ahW Z H s
 xn:XN s.heap (New X ahW H) e C od
end
section
variable {X:Cx}{ahW:List (Addr×Obj)}{Z : St}{H:Hp}{s:aci}{C:Addr}{x:Str}{np ahY pos:Pos}{e:Expr}{es:List Expr}{t:TA}
end
section
variable {X:Cx}{Γ : St->Prop}{e c:Expr}{es:List Expr}{pos:Pos}{st:Stmt}{rest:List Stmt}
end
variable {Γ : St->Prop}
section
variable {X:Cx}{ahW pins':List (Addr×Obj)}{Z : St}{H:Hp}{s:aci}{xe:acd->aci->Prop}{a C:Addr}{o:Obj}{u:HO}
end
section
variable {prog:acK}{w:adt}{A:acY}{E:acd->aci->Prop}{s:aci}{K:abZ}{x D:Addr}{ox:Obj}
end
def isX (n d:Str):Bool:=n==d||d == "EaselError"
section
variable {K:abZ}{C D:Addr}{n d:Str}
def abU (K:abZ)(v:V)(f:Str->Bool):Prop:=∀ (u:acd),RelV v u->∀ (C:Addr) (n:Str),Yg K C n=true->PySem.W.kitOne K (.ref C) u=some (f n)
end
def bV.lost (D:bV):bV:={ D with nx:=fun Z h=>D.nx (Z.map fun _=>none) h,bk:=fun Z h=>D.bk (Z.map fun _=>none) h,ct:=fun Z h=>D.ct (Z.map fun _=>none) h }
def XJ (x:Xw):W:=match x.fs with
 | []=>.exc x.cls
 | f::fs=>.exa x.cls ((f::fs).map (·.2))
def aa5 (i:Nat)(d:Str)(mb:XWK->MS)(mh:MS):MS:=fun D Z h=>mb (fun x h'=>by2 (isX x.cls d) (mh D.lost (Z.set i (some (XJ x))) h') False) D Z h
section
variable {X:Cx}{body:List Stmt}{b₀ : Stmt}{suite:List Stmt}{d:Str}{np hpos pos:Pos}{i:Nat}{D:Addr}{mb:XWK->MS}{mh:MS}
end
section
variable {X:Cx}{a:Expr}{pos p:Pos}
def abH (f:Str->Bool)(m:ME):ME:=fun Z h Q=>m Z h fun w h1=>match w with
 | .exc n=>Q (.bl (f n)) h1
 | .exa n _=>Q (.bl (f n)) h1
 | _=>False
inductive PCs (X:Cx):List Expr->List V->(Str->Bool)->Prop
 | nil:PCs X [] [] (fun _=>false)
 | cons {e:Expr} {es:List Expr} {v:V} {vs:List V} {f g:Str->Bool}:PE X e (tC v)->abU X.K v f->PCs X es vs g->acN (e::es) X.env=(false,eval e X.env)::acN es X.env->PCs X (e::es) (v::vs) (fun n=>f n||g n)
end
section
variable {X:Cx}{tg:Expr}{scope:Scope}{xs:List Str}{pos p ppos:Pos}
end
section
variable {prog:acK}{w:adt}{A:acY}{E:acd->aci->Prop}{s:aci}
end
section
variable {X:Cx}
end
section
variable {X:Cx}{K:abZ}{o e:Expr}{mo:ME}{ma:MA}{apos ahY:Pos}
variable {H:Hp}{ahW:List (Addr×Obj)}{s:aci}{Z : St}
mutual
theorem Gs (I:Inv X ahW Z H s):∀ {w u:W} {v:V},Dt X.K H w v->Dt X.K H u v->w=u
 | .non,u,v,h,g=>by rw [Dt] at h;subst h;cases u <;> rw [Dt] at g <;> first | rfl | exact g.elim | (obtain ⟨_,_,g,_⟩:=g;cases g;done) | (cases g;done)
 | .bl b,u,v,h,g=>by rw [Dt] at h;subst h;cases u <;> rw [Dt] at g <;> first | (injection g with g;rw [g];done) | exact g.elim | (obtain ⟨_,_,g,_⟩:=g;cases g;done) | (cases g;done)
 | .int b,u,v,h,g=>by rw [Dt] at h;subst h;cases u <;> rw [Dt] at g <;> first | (injection g with g;rw [g];done) | exact g.elim | (obtain ⟨_,_,g,_⟩:=g;cases g;done) | (cases g;done)
 | .str b,u,v,h,g=>by rw [Dt] at h;subst h;cases u <;> rw [Dt] at g <;> first | (injection g with g;rw [g];done) | exact g.elim | (obtain ⟨_,_,g,_⟩:=g;cases g;done) | (cases g;done)
 | .tup ws,u,v,h,g=>by
  rw [Dt] at h;obtain ⟨p,xs,e,hs,ds⟩:=h;subst e;cases u with
  | tup us=>
   rw [Dt] at g;obtain ⟨p',xs',e',hs',ds'⟩:=g;cases e'
   have:=I.tuple_inj hs hs'
   subst this;rw [sJ I ds ds']
  | lst us=>
   rw [Dt] at g;obtain ⟨p',xs',e',hs',ds'⟩:=g;cases e'
   obtain ⟨_,_,t,_⟩:=I.tuple hs;obtain ⟨_,_,l,_⟩:=I.list hs';exact absurd rfl<|agh l.isList<|show s.heap.IsTuple _ _ from t
  | ty _=>rw [Dt] at g;exact g.elim
  | loc _=>rw [Dt] at g;exact g.elim
  | kls _=>rw [Dt] at g;exact g.elim
  | exc _=>rw [Dt] at g;exact g.elim
  | exa _ _=>rw [Dt] at g;exact g.elim
  | _=>rw [Dt] at g;cases g
 | .lst ws,u,v,h,g=>by
  rw [Dt] at h;obtain ⟨p,xs,e,hs,ds⟩:=h;subst e;cases u with
  | lst us=>
   rw [Dt] at g;obtain ⟨p',xs',e',hs',ds'⟩:=g;cases e'
   have:=I.list_inj hs hs'
   subst this;rw [sJ I ds ds']
  | tup us=>
   rw [Dt] at g;obtain ⟨p',xs',e',hs',ds'⟩:=g;cases e'
   obtain ⟨_,_,t,_⟩:=I.tuple hs';obtain ⟨_,_,l,_⟩:=I.list hs;exact absurd rfl<|agh l.isList<|show s.heap.IsTuple _ _ from t
  | ty _=>rw [Dt] at g;exact g.elim
  | loc _=>rw [Dt] at g;exact g.elim
  | kls _=>rw [Dt] at g;exact g.elim
  | exc _=>rw [Dt] at g;exact g.elim
  | exa _ _=>rw [Dt] at g;exact g.elim
  | _=>rw [Dt] at g;cases g
 | .ty _,_,_,h,_=>by rw [Dt] at h;exact h.elim
 | .kls _,_,_,h,_=>by rw [Dt] at h;exact h.elim
 | .loc _,_,_,h,_=>by rw [Dt] at h;exact h.elim
 | .exc _,_,_,h,_=>by rw [Dt] at h;exact h.elim
 | .exa _ _,_,_,h,_=>by rw [Dt] at h;exact h.elim
theorem sJ (I:Inv X ahW Z H s):∀ {ws us:List W} {vs:List V},Dts X.K H ws vs->Dts X.K H us vs->ws=us
 | [],us,vs,h,g=>by
  have e:vs=[]:=by rw [Dts] at h;exact h
  subst e;cases us with
  | nil=>rfl
  | cons u us=>rw [Dts] at g;obtain ⟨_,_,e,_⟩:=g;cases e
 | w::ws,us,vs,h,g=>by
  rw [Dts] at h;obtain ⟨v,vs',e,d,ds⟩:=h;subst e;cases us with
  | nil=>
   have e:v::vs'=[]:=by rw [Dts] at g;exact g
   cases e
  | cons u us=>
   rw [Dts] at g;obtain ⟨v2,vs2,e2,d2,ds2⟩:=g;cases e2;rw [Gs I d d2,sJ I ds ds2]
end
theorem yX:∀ {us:List W} {xs:List V} {its:List acd},Dts X.K H us xs->Vals xs its->∀ a u,(a,u)∈its.zip us->∃ v,RelV v a/\Dt X.K H u v/\u∈us
 | [],_,its,_,_,a,u,m=>by rw [List.zip_nil_right] at m;exact absurd m (by simp)
 | w::us,xs,its,d,r,a,u,m=>by
  rw [Dts] at d;obtain ⟨v,vs,e,d1,ds⟩:=d;subst e;cases r with
  | cons r1 rs=>
   rw [aeh] at m;rcases acA.mp m with m | m
   ·cases m;exact ⟨v,r1,d1,acF⟩
   ·obtain ⟨v',q1,q2,q3⟩:=yX ds rs a u m;exact ⟨v',q1,q2,acr _ q3⟩
theorem qZ {α β : Type}:∀ {xs:List α} {ys:List β},xs.length=ys.length->∀ a∈xs,∃ b,(a,b)∈xs.zip ys
 | [],_,_,a,m=>absurd m (by simp)
 | _::_,[],h,_,_=>by cases h
 | x::xs,y::ys,h,a,m=>by
  rw [aeh];rcases acA.mp m with rfl | m
  ·exact ⟨y,acF⟩
  ·obtain ⟨b,q⟩:=qZ (Nat.succ.inj h) a m;exact ⟨b,acr _ q⟩
def aaY:MM:=fun x ws h Q=>match ws with
 | [w]=>(match d7 h x with
  | some us=>by2 (plW 20 w&&us.all (plW 20)) (Q (.int (us.countP fun u=>eqW u w)) h) False
  | none=>False)
 | _=>False
end
section
variable {X:Cx}{iter tg:Expr}{scope:Scope}{pos:Pos}{xs:List Str}
end
section
variable {X:Cx}{e:Expr}{es:List Expr}{pos:Pos}
variable {mr:XWK->MA}
end
section
variable {X:Cx}{K:abZ}{H:Hp}{ahW:List (Addr×Obj)}{s:aci}{Z : St}
theorem Ii {α β : Type}{p:α->Bool}{q:β->Bool}:∀ {xs:List α} {ys:List β},xs.length=ys.length->(∀ a b,(a,b)∈xs.zip ys->p a=q b)->xs.any p=ys.any q
 | [],[],_,_=>rfl
 | [],_::_,h,_=>by cases h
 | _::_,[],h,_=>by cases h
 | a::xs,b::ys,h,e=>by
  rw [agD,agD,Ii (Nat.succ.inj h) fun a' b' m=>e a' b' (by rw [aeh];exact acr _ m),e a b (by rw [aeh];exact acF)]
def Qq (I:Inv X ahW Z H s){us:List W}{xs:List V}{its:List acd}{w:W}{y:V}{b:acd}(hd:Dts X.K H us xs)(r:Vals xs its)(hw:Dt X.K H w y)(rb:RelV y b)(pl1:us.all (plW 20)=true)(pl2:plW 20 w=true){A:acY}(hu:A.units+20<afi):
  ∃ ev:acd->Bool,(∀ a,a∈its->acS A s a b (ev a))/\its.any ev=us.any (fun u=>eqW u w):=by
 have hl:its.length=us.length:=by rw [<-r.length,hd.len]
 let ev:acd->Bool:=fun a=>@decide (∃ u,(a,u)∈its.zip us/\eqW u w=true) (Classical.propDecidable _)
 have hev:∀ a u,(a,u)∈its.zip us->ev a=eqW u w:=by
  intro a u m;cases c:eqW u w with
  | true=>exact (@decide_eq_true_iff _ (Classical.propDecidable _)).mpr ⟨u,m,c⟩
  | false=>
   refine (@decide_eq_false_iff_not _ (Classical.propDecidable _)).mpr fun ⟨u2,m2,c2⟩=>?_;obtain ⟨v1,r1,d1,_⟩:=yX hd r a u m;obtain ⟨v2,r2,d2,_⟩:=yX hd r a u2 m2;have ev:v1=v2:=r1.inj r2;subst ev;rw [Gs I d1 d2,c2] at c;cases c
 refine ⟨ev,fun a ha=>?_,Ii hl hev⟩;obtain ⟨u,m⟩:=qZ hl a ha;obtain ⟨v,r1,d1,mu⟩:=yX hd r a u m;rw [hev a u m];exact FW I 20 hu d1 hw (aec.mp pl1 u mu) pl2 r1 rb
def abo (K:abZ)(neg:Bool):R2:=fun x y H Q=>∃ p xs us w,y=.ref p/\SqL K H p xs/\Dts K H us xs/\Dt K H w x/\us.all (plW 20)=true/\plW 20 w=true/\Q (.bl (if neg then !(us.any fun u=>eqW u w) else us.any fun u=>eqW u w)) H
def Nu (hu:X.A.units+30<afi):OpR X (adW .NotIn) (abo X.K true):=by
 intro ahW s Z H x y v u Q I rx ry h;obtain ⟨p,xs,us,w,rfl,hq,hd,hw,p1,p2,q⟩:=h;cases ry;obtain ⟨its,r,pl,hz⟩:=I.list hq;obtain ⟨ev,he,ea⟩:=Qq I hd r hw rx p1 p2 (A:=X.A.in1) (by show X.A.units+1+20<afi;omega);refine SeqAt.notIn_listAt ev pl.isList (fun w hw=>he w<|by simpa using hw) ⟨.bl _,H,I,rfl,?_⟩;rw [show its.toArray.any ev=its.any ev by simp,ea];exact q
def Bo:M2:=fun x y h Q=>match d7 h y with
 | some us=>by2 (plW 20 x&&us.all (plW 20)) (Q (.bl (!(us.any fun u=>eqW u x))) h) False
 | none=>False
def Wo (hu:X.A.units+30<afi):DOp X (adW .NotIn) Bo:=⟨_,Nu hu,by
 intro H μ h x y wx wy Qw Q R rx ry m k;unfold Bo at m;split at m
 ·rename_i us eu;obtain ⟨p,xs,ex,hs,rr⟩:=cX R ry eu;cases c:(plW 20 wx&&us.all (plW 20)) with
  | true=>
   rw [c] at m;rw [adC] at c;exact ⟨p,xs,us,wx,ex,hs,vq (JQ 20) rr c.2,JQ 20 rx c.1,c.2,c.1,k _ _<|.bl R m⟩
  | false=>rw [c] at m;exact (show False from m).elim
 ·exact m.elim⟩
end
section
variable {X:Cx}{K:abZ}{H:Hp}{h:Gh}
def nJ (h:Gh):List W->Option (List W)
 | []=>some []
 | w::ws=>match CP h w,nJ h ws with
  | some d,some ds=>some (d::ds)
  | _,_=>none
def Rx (h:Gh)(w:W):Option W:=match w with
 | .tup ws=>(match nJ h ws with
  | some ds=>some (.tup ds)
  | none=>none)
 | w=>CP h w
theorem tH {n:Nat}(R:Rel K μ H h):∀ {ws ds:List W} {vs:List V},aM K H μ ws vs->nJ h ws=some ds->ds.all (plW n)=true->Dts K H ds vs
 | [],ds,vs,r,e,_=>by
  rw [nJ] at e;cases e;rw [aM] at r;subst r;rw [Dts]
 | w::ws,ds,vs,r,e,p=>by
  rw [nJ] at e;cases e1:CP h w with
  | none=>rw [e1] at e;cases e
  | some d=>
   cases e2:nJ h ws with
   | none=>rw [e1,e2] at e;cases e
   | some ds'=>
    rw [e1,e2] at e;cases e;rw [afn,adC] at p;rw [aM] at r;obtain ⟨v,vs',ev,r1,r2⟩:=r;subst ev;rw [Dts];exact ⟨v,vs',rfl,lU R r1 e1 p.1,tH R r2 e2 p.2⟩
def Kp {w d:W}{v:V}{n:Nat}(R:Rel K μ H h)(r:Rep K H μ w v)(e:Rx h w=some d)(p:plW n d=true):Dt K H d v:=by
 cases w with
 | tup ws=>
  unfold Rx at e;dsimp only at e;cases e1:nJ h ws with
  | none=>rw [e1] at e;cases e
  | some ds=>
   rw [e1] at e;cases e;rw [Rep] at r;obtain ⟨q,xs,ev,hs,rs⟩:=r;obtain ⟨m,rfl,p⟩:=pL p;rw [Dt];exact ⟨q,xs,ev,hs,tH R rs e1 p⟩
 | _=>exact lU R r e p
end
section
variable {X:Cx}{K:abZ}{o e e':Expr}{mo:ME}{ma:MA}{apos ahY:Pos}
def Wa {ahY:Pos}{e e':Expr}(h:isStar e=false)(h':isStar e'=false):((afj ahY (acN [e,e'] env)).all (fun x=>!x.1)&&(backToKw ahY (agO [] env)).all (fun x=>x.1.isSome)
   && decide (([e,e']:List Expr).length+([]:List agy).length+(if ([]:List agy).isEmpty then 0 else 1)<30))=true:=by
 rw [bT h,bT h'];rfl
end
def plL (m:Nat):List Nat:=(aeZ 8).filter fun j=>m.testBit j
def rk (m j:Nat):Nat:=((aeZ j).filter fun i=>m.testBit i).length
def pq (h:Int):Nat->Nat×Nat
 | 0=>(afU h % 8,afU h)
 | n+1=>SetTable.leap 7 (pq h n).1 (pq h n).2
def pb (h:Int)(n:Nat):SetTable.Probe:=⟨(pq h n).1,0,(pq h n).1,(pq h n).2,none⟩
theorem aan (h:Int):∀ n,(pq h n).1<8
 | 0=>Nat.mod_lt _ (by decide)
 | n+1=>Nat.mod_lt _ (by decide)
theorem GQ (h:Int):∀ n,(pq h n).2=afU h / 32^n
 | 0=>by simp [pq]
 | n+1=>by
  show (pq h n).2 / 32=_;rw [GQ h n,Nat.div_div_eq_div_mul,Nat.pow_succ]
def QX (h:Int)(n:Nat)(hn:13<=n):(pq h n).2=0:=by
 rw [GQ];apply Nat.div_eq_of_lt;have h1:afU h<2^64:=by
  unfold afU;have a:=aeG h (show (0:Int)<2^64 by decide);have b:=afm h (show (2^64:Int)≠0 by decide);omega
 have h2:32^13<=32^n:=afL (by decide) hn;have h3:(2:Nat)^64<32^13:=by decide
 omega
def lcg:Nat->Nat->Nat
 | i,0=>i
 | i,k+1=>(lcg i k*5+1) % 8
theorem LC (h:Int):∀ k,(pq h (13+k)).1=lcg (pq h 13).1 k
 | 0=>rfl
 | k+1=>by
  show ((pq h (13+k)).1*5+1+(pq h (13+k)).2 / 32) % (7+1)=_;rw [QX h _ (by omega),LC h k];rfl
def Nv:∀ i:Fin 8,∀ j:Fin 8,∃ k:Fin 8,lcg i k=j.val:=by decide +kernel
def Xa (h:Int){j:Nat}(hj:j<8):∃ n,n<21/\(pq h n).1=j:=by
 obtain ⟨k,e⟩:=Nv ⟨(pq h 13).1,aan h 13⟩ ⟨j,hj⟩;exact ⟨13+k.val,by omega,by rw [LC];exact e⟩
theorem least {P:Nat->Bool}:∀ (B:Nat),(∃ n,n<B/\P n=true)->∃ N,N<B/\P N=true/\∀ n,n<N->P n=false
 | 0,⟨n,h,_⟩=>absurd h (Nat.not_lt_zero _)
 | B+1,⟨n,h,e⟩=>by
  by_cases q:∃ n,n<B/\P n=true
  ·obtain ⟨N,a,b,c⟩:=least B q;exact ⟨N,by omega,b,c⟩
  ·refine ⟨n,h,e,fun i hi=>?_⟩;cases r:P i with
   | false=>rfl
   | true=>exact absurd ⟨i,by omega,r⟩ q
def road (h:Int)(hf:∃ j,j<8/\m.testBit j=false):∃ N,N<21/\m.testBit (pq h N).1=false/\∀ n,n<N->m.testBit (pq h n).1=true:=by
 obtain ⟨j,hj,e⟩:=hf;obtain ⟨n,hn,en⟩:=Xa h hj;obtain ⟨N,a,b,c⟩:=least (P:=fun n=>!m.testBit (pq h n).1) 21 ⟨n,hn,by simp [en,e]⟩;exact ⟨N,a,by simpa using b,fun n hn=>by simpa using c n hn⟩
section
variable {prog:acK}{w:adt}{A:acY}{E:acd->aci->Prop}{s:aci}{ka:Nat->List Int}{ad:Nat->Addr}{t:afX}{a b:Addr}{k:List Int}
abbrev TK (prog:acK)(w:adt)(h:Heap)(k:List Int)(a:Addr):Prop:=IsTupleKey (ahc prog w) h k a
def hT (prog:acK)(w:adt)(k:List Int):Int:=tupleKeyHash (ahc prog w) k
def elL (prog:acK)(w:adt)(m:Nat)(ka:Nat->List Int)(ad:Nat->Addr):List (Int×acd):=(plL m).map fun j=>(hT prog w (ka j),Value.ref (ad j))
structure abR (prog:acK) (w:adt) (h:Heap) (m:Nat) (ka:Nat->List Int) (ad:Nat->Addr) (t:afX):Prop where
 mask:t.mask=7
 place:t.place=(plL m).toArray
 dum:t.dummies = #[]
 m8:m<256
 few:(plL m).length<=4
 key:∀ j,j∈plL m->TK prog w h (ka j) (ad j)
 way:∀ j,j∈plL m->∃ n,(pq (hT prog w (ka j)) n).1=j/\∀ i,i<n->m.testBit (pq (hT prog w (ka j)) i).1=true
def abm (es:Array (Int×acd))(ep:Nat)(t:afX):Obj:={ cls:=.type "set",dict:=none,data:=.set es ep t }
def Te (prog:acK)(w:adt)(h:Heap)(a:Addr)(m:Nat)(ka:Nat->List Int)(ad:Nat->Addr):Prop:=∃ ep t,h.get? a=some (abm (elL prog w m ka ad).toArray ep t)/\abR prog w h m ka ad t
end
variable {k : List Int}{ad : Nat->Addr}{ka : Nat->List Int}
section
variable {prog:acK}{w:adt}{A:acY}{E:acd->aci->Prop}
structure abQ (prog:acK) (w:adt) (z:Nat) (h:Heap) (S:Addr) (seen:List (List Int)) (m:Nat) (ka:Nat->List Int) (ad:Nat->Addr):Prop where
 set:Te prog w h S m ka ad
 low:∀ j,j∈plL m->ad j<z
 mem:∀ k,k∈seen↔∃ j,j∈plL m/\ka j=k
 len:(plL m).length=seen.length
end
section
variable {prog:acK}{w:adt}{A:acY}{E:acd->aci->Prop}{s:aci}
end
section
variable {X:Cx}{K:abZ}
theorem sy {prog:acK}{w:adt}:∀ {k:List Int} {us:List acd},Vals (k.map V.int) us->ItemsAre (ahc prog w) k us
 | [],_,.nil=>.nil
 | i::k,_,.cons r t=>by
  obtain ⟨tk,rfl⟩:=r;exact .cons (intKind_is _ _ _ _)<|sy t
end
section
variable {X:Cx}{K:abZ}
end
section
variable {κ : Type}[DecidableEq κ]
def CV (kvs:List (κ×V))(k:κ):Option V:=(kvs.find? fun kv=>decide (kv.1=k)).map (·.2)
def putK (kvs:List (κ×V))(k:κ)(v:V):List (κ×V):=
 if (kvs.any fun kv=>decide (kv.1=k))=true then kvs.map (fun kv=>if kv.1=k then (kv.1,v) else kv) else kvs++[(k,v)]
def Ae {p:κ×V}{r:List (κ×V)}{k:κ}(e:p.1=k):CV (p::r) k=some p.2:=by simp [CV,adM,e]
def zY {p:κ×V}{r:List (κ×V)}{k:κ}(e:¬ p.1=k):CV (p::r) k=CV r k:=by simp [CV,adM,e]
def qd (kvs:List (κ×V))(k:κ)(v:V):(putK kvs k v).length<=kvs.length+1:=by
 unfold putK;split
 ·rw [acf];omega
 ·rw [acH,acE,agG];omega
def Jh.getD {o:Option V}{u:Option acd}{d:V}{d':acd}(r:Jh o u)(rd:RelV d d'):RelV (o.getD d) (u.getD d'):=by
 cases o with
 | none=>cases u with
  | none=>exact rd
  | some _=>exact (show False from r).elim
 | some _=>cases u with
  | none=>exact (show False from r).elim
  | some _=>exact r
def KV.val {kvs:List (κ×V)}{vs:List (κ×acd)}(r:KV kvs vs)(k:κ):Jh (CV kvs k) (valueAt vs k):=by
 unfold KV at r;induction r with
 | nil=>exact True.intro
 | @cons p q ps qs h t ih=>
  obtain ⟨h1,h2⟩:=h;by_cases e:p.1=k
  ·have e':q.1=k:=h1.symm.trans e;have b:valueAt (q::qs) k=some q.2:=by simp [valueAt,adM,e']
   rw [Ae e,b];exact h2
  ·have e':¬ q.1=k:=fun z=>e (h1.trans z)
   have b:valueAt (q::qs) k=valueAt qs k:=by simp [valueAt,adM,e']
   rw [zY e,b];exact ih
def KV.any {kvs:List (κ×V)}{vs:List (κ×acd)}(r:KV kvs vs)(k:κ):(kvs.any fun kv=>decide (kv.1=k))=vs.any fun kv=>decide (kv.1=k):=by
 unfold KV at r;induction r with
 | nil=>rfl
 | cons h t ih=>rw [agD,agD,ih,h.1]
def KV.repl {kvs:List (κ×V)}{vs:List (κ×acd)}(r:KV kvs vs)(k:κ){y:V}{u:acd}(ry:RelV y u):
  KV (kvs.map fun kv=>if kv.1=k then (kv.1,y) else kv) (vs.map fun kv=>if kv.1=k then (kv.1,u) else kv):=by
 unfold KV at r |-
 induction r with
 | nil=>exact .nil
 | @cons p q ps qs h t ih=>
  rw [acg,acg];refine .cons ?_ ih;obtain ⟨h1,h2⟩:=h;by_cases e:p.1=k
  ·rw [if_pos e,if_pos (h1.symm.trans e)];exact ⟨h1,ry⟩
  ·rw [if_neg e,if_neg (fun z=>e (h1.trans z))];exact ⟨h1,h2⟩
def KV.put {kvs:List (κ×V)}{vs:List (κ×acd)}(r:KV kvs vs)(k:κ){y:V}{u:acd}(ry:RelV y u):KV (putK kvs k y) (stored vs k u):=by
 unfold putK stored;rw [r.any k];by_cases e:(vs.any fun kv=>decide (kv.1=k))=true
 ·rw [if_pos e,if_pos e];exact r.repl k ry
 ·rw [if_neg e,if_neg e];exact Paired.snoc r ⟨rfl,ry⟩
def KV.length {kvs:List (κ×V)}{vs:List (κ×acd)}(r:KV kvs vs):kvs.length=vs.length:=agv r
end
def G3 {P:acK}{w:adt}{k:Key}{u:acd}(r:RelV (kV k) u):(dO P w).is k u=true:=by
 cases k with
 | inl i=>obtain ⟨t,e⟩:=(show ∃ t,u=Value.int i t from r);subst e;exact wH P w i t
 | inr x=>obtain ⟨t,e⟩:=(show ∃ t,u=Value.str x t from r);subst e;exact yh P w x t
section
variable {P:acK}{w:adt}{H:Hp}{h:Heap}{a:Addr}
def YB {u:HO}(ok:HOk P w H h)(e:Rd H a u):eG P w H h a u:=e.ok ok
def Q0 {kvs:List (Key×V)}(ok:HOk P w H h)(e:Rd H a (.dK kvs)):kvs.length<=acM/\(a==aeu)=false/\∃ vs,KV kvs vs/\h.DictOf (dO P w) a vs:=
 show eG P w H h a (.dK kvs) from YB ok e
def Hl {kvs:List (Key×V)}(ok:HOk P w H h)(e:H a=some (.dK kvs)):kvs.length<=acM/\(a==aeu)=false/\∃ vs,KV kvs vs/\h.DictOf (dO P w) a vs:=Q0 ok (.inl e)
end
section
variable {X:Cx}{ahW:List (Addr×Obj)}{Z : St}{H:Hp}{s:aci}{a:Addr}{y v:V}{u r:acd}{o:Option V}{A:acY}{E:acd->aci->Prop}
def Inv.big (I:Inv X ahW Z H s):aeu<s.heap.objs.size:=by
 have h:ade<s.heap.objs.size:=(I.mod.glob.keeps I.bk).lt;exact agu (by decide) h
def wO {h':Heap}{t':Nat}{ob:HO}(I:Inv X ahW Z H s)(mu:Mut (H a))(hs:aez a s.heap h')(he:∃ q,h'.get? a=some q)(new:eG X.prog X.w (upd H a ob) h' a ob):
  Inv X ahW Z (upd H a ob) { s with heap:=h',toks:=t' }:=
 I.write (x:=a) (e:=a) mu (.inl rfl) (fun b q hb z=>(hs.2 b hb).trans z) he new
def MJ {P:acK}{w:adt}{H':Hp}{h':Heap}{kvs:List (Key×V)}{vs:List (Key×acd)}(z:kvs.length<=acM)(hd:(a==aeu)=false)(rel:KV kvs vs)(dd:h'.DictOf (dO P w) a vs):
  eG P w H' h' a (.dK kvs):=⟨z,hd,vs,rel,dd⟩
end
section
variable {X:Cx}{ahW:List (Addr×Obj)}{Z : St}{H:Hp}{s:aci}{a:Addr}{kvs:List (Key×V)}{k:Key}{u:acd}{A:acY}{E:acd->aci->Prop}
end
def Vv (i:Expr):Prop:=∀ ov iv,subscripted i false ov iv=operate [ov,iv] (getItem ov iv)
def Hr {prog:acK}{w:adt}{A:acY}{E:acd->aci->Prop}{s:aci}{value slice:Expr}{pos:Pos}{T id:String}{Q:acd->aci->Prop}
  (hl:typeLookup (.type T) "__getitem__" = pure (some (.builtin id))) (hs:Vv slice)
  (h:acL (acP prog w) A (eval value env) (fun o s₁=>acL (acP prog w) A (eval slice env) (fun i s₂=>s₂.TypeIs o T/\acL (acP prog w) A (getItem o i) Q E s₂) E s₁) E s) :
  acL (acP prog w) A (eval (.Subscript value slice pos) env) Q E s:=by
 refine Subscript_<|aed h (fun o s₁ h₁=>aed h₁ (fun i s₂ h₂=>?_) fun _ _ x=>x) fun _ _ x=>x
 obtain ⟨hT,h₂⟩:=h₂;unfold subscriptTail;refine abY ?_;rw [getitemInPython_of_ne hT.not_modules];refine abY<|wpAny_specialOf hT hl ?_
 have fin:acL (acP prog w) A (subscripted slice false o i) (fun r s₃=>acL (acP prog w) A (letTemporaryGo value o r >>= fun _=>pure r) Q E s₃) E s₂:=by
  rw [hs o i];exact wpAny_operating<|aed h₂ (fun r s₃ h₃=>abY<|wpAny_letTemporaryGo<|ach h₃) fun _ _ x=>x
 first
  | exact ach (abY fin)
  | exact abY (ach (abY fin))
  | exact abY fin
section
variable {X:Cx}{o i e value:Expr}{pos pos' tpos:Pos}{td ty tv:TE}
end
def zG {P:acK}{w:adt}{H:Hp}(h:Heap)(hb:aeu<h.objs.size):eG P w H (h.push { cls:=.type "dict",data:=.dict #[] }) h.objs.size (.dK []):=
 ⟨adu _,beq_eq_false_iff_ne.mpr (aes (acI hb)),[],.nil,Heap.DictOf.new h⟩
def Jg {P:acK}{w:adt}{H:Hp}(h:Heap)(hb:aeu<h.objs.size):eG P w H (h.push { cls:=.type "dict",data:=.dict #[] }) h.objs.size (.dT []):=
 ⟨adu _,beq_eq_false_iff_ne.mpr (aes (acI hb)),[],.nil,_,#[],0,acw _ rfl,⟨rfl,rfl,rfl⟩,rfl,rfl,List.nodup_nil⟩
def Wq:TE:=fun _ H Q=>∀ p,H p=none->Q (.ref p) (upd H p (.dK []))
section
variable {X:Cx}{pos:Pos}
def La:PE X (.Dict [] [] pos) Wq:=fun ahW s Z H Q I h=>
 wpAny_Dict_empty ⟨.ref s.heap.objs.size,_,I.laid (a:=s.heap.objs.size) (o:=.dK []) (t':=s.toks) (fun _ _ q=>ace _ q) (acj _) (zG s.heap I.big),rfl,h _ (I.hok.fresh (acj _))⟩
end
def vK:List (TE×TE)->St->Hp->(List (V×V)->Hp->Prop)->Prop
 | [],_,H,Q=>Q [] H
 | (tk,tv)::r,Z,H,Q=>tk Z H fun x H1=>tv Z H1 fun y H2=>vK r Z H2 fun ps H3=>Q ((x,y)::ps) H3
abbrev VV:List (V×V)->List (acd×acd)->Prop:=adF fun p q=>RelV p.1 q.1/\RelV p.2 q.2
def PPs (X:Cx)(pos:Pos)(keys:List (Option Expr))(values:List Expr)(trs:List (TE×TE)):Prop:=
 ∀ (ahW:List (Addr×Obj)) (s:aci) (Z : St) (H:Hp) (Q:List (V×V)->Hp->Prop),Inv X ahW Z H s->vK trs Z H Q ->
  acL (acP X.prog X.w) X.A (evalPairs (pairTrees keys values X.env pos)) (fun vs s'=>∃ ps H',Inv X ahW Z H' s'/\VV ps vs/\Q ps H') X.xe s
def Ou {X:Cx}{pos:Pos}:PPs X pos [] [] []:=fun ahW s Z H Q I h=>pairTrees_nil_walk ⟨[],H,I,.nil,h⟩
variable {trs : List (TE×TE)}
def J7 {X:Cx}{pos:Pos}{k v:Expr}{ks:List (Option Expr)}{vs:List Expr}{tk tv:TE}(hk:PE X k tk)(hv:PE X v tv)(hr:PPs X pos ks vs trs):
  PPs X pos (some k::ks) (v::vs) ((tk,tv)::trs):=fun ahW s Z H Q I h=>
 pairTrees_cons_walk (thn (hk ahW s Z H _ I h) fun u s1 ⟨x,H1,I1,rx,q1⟩=>thn (hv ahW s1 Z H1 _ I1 q1) fun w2 s2 ⟨y,H2,I2,ry,q2⟩=>
  thn (hr ahW s2 Z H2 _ I2 q2) fun ws s3 ⟨ps,H3,I3,rel,q3⟩=>⟨(x,y)::ps,H3,I3,.cons ⟨rx,ry⟩ rel,q3⟩)
def pR (kvs more:List (Key×V)):List (Key×V):=more.foldl (fun acc kv=>putK acc kv.1 kv.2) kvs
def KV.merge:∀ {more:List (Key×V)} {rs:List (Key×acd)} {kvs:List (Key×V)} {vs:List (Key×acd)},KV more rs->KV kvs vs->KV (pR kvs more) (merged vs rs):=by
 intro more rs kvs vs r;unfold KV at r;induction r generalizing kvs vs with
 | nil=>intro q;exact q
 | @cons p q ps qs h t ih=>
  intro r0;have e:KV (putK kvs p.1 p.2) (stored vs q.1 q.2):=by
   have:=r0.put p.1 h.2
   rw [<-h.1];exact this
  exact ih e
theorem j7:∀ (more kvs:List (Key×V)),(pR kvs more).length<=kvs.length+more.length
 | [],kvs=>by show kvs.length<=kvs.length+0;omega
 | p::r,kvs=>by
  have h1:=j7 r (putK kvs p.1 p.2);have h2:=qd kvs p.1 p.2;show (pR (putK kvs p.1 p.2) r).length<=_;rw [acE];omega
theorem qM {P:acK}{w:adt}:∀ {kvs:List (Key×V)} {ws:List (acd×acd)},VV (kvs.map fun kv=>(kV kv.1,kv.2)) ws->∃ rs,Carries (dO P w) ws rs/\KV kvs rs
 | [],_,r=>by rw [adA] at r;cases r;exact ⟨[],True.intro,.nil⟩
 | p::kvs,_,r=>by
  rw [acg] at r;cases r with
  | @cons a b as bs h t=>
   obtain ⟨rs,c,q⟩:=qM (P:=P) (w:=w) t;obtain ⟨b1,b2⟩:=b;exact ⟨(p.1,b2)::rs,⟨G3 h.1,rfl,c⟩,.cons ⟨rfl,h.2⟩ q⟩
def ZG (trs:List (TE×TE)):TE:=fun Z H Q=>∀ p,H p=none->vK trs Z (upd H p (.dK [])) fun ps H2=>H2 p=some (.dK [])/\∃ kvs:List (Key×V),ps=kvs.map (fun kv=>(kV kv.1,kv.2))/\kvs.length<=15/\Q (.ref p) (upd H2 p (.dK (pR [] kvs)))
variable {keys : List (Option Expr)}
def QJ {X:Cx}{pos:Pos}{values:List Expr}(h:PPs X pos keys values trs)(hall:keys.all (·.isSome)=true)(hl:keys.length=values.length)(h0:keys≠[])
  (h15:keys.length<=15):PE X (.Dict keys values pos) (ZG trs):=by
 intro ahW s Z H Q I q;have hn:=I.hok.fresh (acj s.heap.objs.size);have I1:=I.laid (a:=s.heap.objs.size) (o:=.dK []) (h':=s.heap.push { cls:=.type "dict",data:=.dict #[] }) (t':=s.toks) (fun _ _ q=>ace _ q) (acj _) (zG s.heap I.big);refine wpAny_Dict_walk (knd:=dO X.prog X.w) hall hl h0 h15<|thn (h ahW _ Z _ _ I1<|q _ hn) fun ws s2 ⟨ps,H2,I2,rel,e,kvs,ep,lk,q2⟩=>?_
 subst ep;obtain ⟨rs,c,rk⟩:=qM (P:=X.prog) (w:=X.w) rel;obtain ⟨z,hd,vs0,r0,dd⟩:=Hl I2.hok e;cases r0;refine ⟨rs,c,dd,fun h' dd' hs=>⟨.ref s.heap.objs.size,_,?_,rfl,q2⟩⟩;have hz:(pR [] kvs).length<=acM:=by
  have h1:=j7 kvs [];rw [agG] at h1;rw [agX];omega
 have he:∃ q,h'.get? s.heap.objs.size=some q:=let ⟨q,_,_,hq,_⟩:=dd';⟨q,hq⟩
 exact wO I2 (by rw [e];exact True.intro) hs he<|MJ hz hd (rk.merge .nil) dd'
def Xu:W->Option Key
 | .int i=>some (.inl i)
 | .str x=>some (.inr x)
 | _=>none
def qu (kvs:List (Key×W))(k:Key):Option W:=(kvs.find? fun kv=>decide (kv.1=k)).map (·.2)
def MK (kvs:List (Key×W))(k:Key)(w:W):List (Key×W):=
 if (kvs.any fun kv=>decide (kv.1=k))=true then kvs.map (fun kv=>if kv.1=k then (kv.1,w) else kv) else kvs++[(k,w)]
section
variable {K:abZ}{H:Hp}{kvs:List (Key×W)}{kvv:List (Key×V)}{k:Key}{w:W}{v:V}
def nT (r:Rep K H μ w v)(e:Xu w=some k):v=kV k:=by
 cases w with
 | int i=>rw [Rep] at r;cases e;exact r
 | str x=>rw [Rep] at r;cases e;exact r
 | _=>cases e
def nG.val (r:nG K H μ kvs kvv)(e:qu kvs k=some w):∃ v,CV kvv k=some v/\Rep K H μ w v:=by
 unfold nG at r;induction r with
 | nil=>cases e
 | @cons p q ps qs h t ih=>
  by_cases z:p.1=k
  ·have e1:qu (p::ps) k=some p.2:=by simp [qu,adM,z]
   rw [e1] at e;cases e;exact ⟨q.2,Ae<|h.1.symm.trans z,h.2⟩
  ·have e1:qu (p::ps) k=qu ps k:=by simp [qu,adM,z]
   rw [e1] at e;obtain ⟨v,a,b⟩:=ih e;exact ⟨v,by rw [zY<|fun y=>z<|h.1.trans y];exact a,b⟩
def nG.any (r:nG K H μ kvs kvv)(k:Key):(kvs.any fun kv=>decide (kv.1=k))=(kvv.any fun kv=>decide (kv.1=k)):=by
 unfold nG at r;induction r with
 | nil=>rfl
 | @cons p q ps qs h t ih=>rw [agD,agD,ih,h.1]
def nG.repl (r:nG K H μ kvs kvv)(rv:Rep K H μ w v)(k:Key):nG K H μ (kvs.map fun kv=>if kv.1=k then (kv.1,w) else kv) (kvv.map fun kv=>if kv.1=k then (kv.1,v) else kv):=by
 unfold nG at r |-
 induction r with
 | nil=>exact .nil
 | @cons p q ps qs h t ih=>
  rw [acg,acg];refine .cons ?_ ih;by_cases z:p.1=k
  ·rw [if_pos z,if_pos (h.1.symm.trans z)];exact ⟨h.1,rv⟩
  ·rw [if_neg z,if_neg (fun y=>z (h.1.trans y))];exact h
def nG.put (r:nG K H μ kvs kvv)(rv:Rep K H μ w v)(k:Key):nG K H μ (MK kvs k w) (putK kvv k v):=by
 unfold MK putK;rw [<-r.any k];by_cases e:(kvs.any fun kv=>decide (kv.1=k))=true
 ·rw [if_pos e,if_pos e];exact r.repl rv k
 ·rw [if_neg e,if_neg e];exact Paired.snoc r ⟨rfl,rv⟩
def Rel.dctAt {h:Gh}{n:Nat}(R:Rel K μ H h)(e:h.c n=some (.dct kvs)):∃ p kvv,μ.f n=some p/\H p=some (.dK kvv)/\nG K H μ kvs kvv:=by
 obtain ⟨p,e1,xs,e2,r⟩:=R.cel n _ e;exact ⟨p,xs,e1,e2,r⟩
end
section
variable {X:Cx}{a b:Expr}{pos:Pos}
def Sg:M2:=fun x y h Q=>match x,Xu y with
 | .loc n,some k=>(match h.c n with
  | some (.dct kvs)=>(match qu kvs k with
   | some w=>Q w h
   | none=>False)
  | _=>False)
 | _,_=>False
def Ko {o i:Expr}{td ty:TE}(ho:PE X o td)(hi:PE X i ty)(hs:Vv i):PE X (.Subscript o i pos) (fun Z H Q=>td Z H fun x H1=>ty Z H1 fun y H2=>∃ a kvs k v,x=.ref a/\Rd H2 a (.dK kvs)/\y=kV k/\CV kvs k=some v/\Q v H2):=by
 intro ahW s Z H Q I h;refine Hr PySem.F.slot_dict_getitem.lookup hs<|thn (ho ahW s Z H _ I h) fun u s1 ⟨x,H1,I1,rx,q1⟩=>thn (hi ahW s1 Z H1 _ I1 q1) fun iv s2 ⟨y,H2,I2,ry,a,kvs,k,v,ex,e,ey,l,q2⟩=>?_
 subst ex ey;obtain rfl:u=Value.ref a:=rx;obtain ⟨z,hd,vs,rel,dd⟩:=Q0 I2.hok e;obtain ⟨w',hw,rw'⟩:=Jh.some_of (v:=v) (o:=valueAt vs k) (by rw [<-l];exact rel.val k);exact ⟨dd.typeIs,wpAny_getItem_of (G3 ry) dd.mapOf hw ⟨v,H2,I2.tok _,rw',q2⟩⟩
def Zd (ha:DE X a ma)(hb:DE X b mb)(hs:Vv b):DE X (.Subscript a b pos) (mOp Sg ma mb):=(Ko ha hb hs).of fun Z H Q h=>two h fun {H2 μ2 h2 x y wx wy Qw} R r1 r2 m k=>by
 unfold Sg at m;split at m
 ·rename_i n kk e;split at m
  ·rename_i kvs ec;split at m
   ·rename_i w ev;obtain ⟨p,kvv,hp,hx,rf⟩:=R.dctAt ec;rw [Rep] at r1;obtain ⟨p',e1,hp'⟩:=r1;have ep:p'=p:=by rw [hp] at hp';exact (acv hp').symm
    subst ep;obtain ⟨v,e2,rv⟩:=rf.val ev;exact ⟨p',kvv,kk,v,e1,.inl hx,nT r2 e,e2,k _ _ ⟨μ2,w,h2,.refl,R,rv,m⟩⟩
   ·exact m.elim
  ·exact m.elim
 ·exact m.elim
def Ut:Q9:=fun o i v H N=>∃ a kvs k,o=.ref a/\H a=some (.dK kvs)/\i=kV k/\kvs.length<acM/\N (upd H a (.dK (putK kvs k v)))
def set_dict:W5 X Ut:=by
 intro ahW s Z H o i v ov iv u Q I ro ri rv ⟨a,kvs,k,eo,e,ei,l,q⟩;subst eo ei;obtain rfl:ov=Value.ref a:=ro;obtain ⟨z,hd,vs,rel,dd⟩:=Hl I.hok e;have hz:vs.length<=acM:=by rw [<-rel.length];exact z
 have hl:(putK kvs k v).length<=acM:=by have:=qd kvs k v;omega
 refine wpAny_setItem_pairs (hsz:=hz) (G3 ri) dd fun h' dd' hs=>⟨_,?_,q⟩;have he:∃ q,h'.get? a=some q:=let ⟨q,_,_,hq,_⟩:=dd';⟨q,hq⟩
 exact wO I (by rw [e];exact True.intro) hs he<|MJ hl hd (rel.put k rv) dd'
def wQ:RQ:=fun o i w h N=>match o,Xu i with
 | .loc n,some k=>(match h.c n with
  | some (.dct kvs)=>fL (kvs.length+1) (N (h.set n (.dct (MK kvs k w))))
  | _=>False)
 | _,_=>False
def nZ {K:abZ}:zH K Ut wQ:=by
 intro H μ h o i v wo wi w Nw N R ro ri r m k;unfold wQ at m;split at m
 ·rename_i n kk e;split at m
  ·rename_i kvs ec;obtain ⟨p,kvv,hp,hx,rf⟩:=R.dctAt ec;rw [Rep] at ro;obtain ⟨p',e1,hp'⟩:=ro;have ep:p'=p:=by rw [hp] at hp';exact (acv hp').symm
   subst ep;refine ⟨p',kvv,kk,e1,hx,nT ri e,?_,k _ ⟨μ,_,(Ex.write R hp).ext,R.write (c:=.dct (MK kvs kk w)) hp trivial ⟨_,bB,?_⟩,m.ok.2⟩⟩
   ·have:=m.ok.1
    rw [agv rf] at this;omega
   ·refine nG.put ?_ ((Ex.write R hp).ext.r _ _ r) kk;exact Paired.mapP rf fun _ _ z=>⟨z.1,(Ex.write R hp).ext.r _ _ z.2⟩
  ·exact m.elim
 ·exact m.elim
def mDs:List (Key×ME)->MA
 | [],_,h,Q=>Q [] h
 | p::r,Z,h,Q=>p.2 Z h fun w h1=>mDs r Z h1 fun ws h2=>Q (w::ws) h2
def mkD:List (Key×ME)->List W->List (Key×W)->List (Key×W)
 | p::r,w::ws,acc=>mkD r ws (MK acc p.1 w)
 | _,_,acc=>acc
def Vq (r:List (Key×ME)):ME:=fun Z h Q=>mDs r Z (h.new (.dct [])) fun ws h2=>match h2.c h.nx with
 | some (.dct [])=>Q (.loc h.nx) (h2.set h.nx (.dct (mkD r ws [])))
 | _=>False
inductive DDs (X:Cx):List (Option Expr)->List Expr->List (Key×ME)->Prop
 | nil:DDs X [] [] []
 | cons {x:Str} {j pos} {v:Expr} {m:ME} {ks:List (Option Expr)} {vs:List Expr} {r:List (Key×ME)} (h:DE X v m) (t:DDs X ks vs r):DDs X (some (.Constant (.str x) j pos)::ks) (v::vs) ((.inr x,m)::r)
def trD (K:abZ)(r:List (Key×ME)):List (TE×TE):=r.map fun p=>(tC (kV p.1),tD K p.2)
def DDs.pps {ks:List (Option Expr)}{vs:List Expr}{r:List (Key×ME)}(h:DDs X ks vs r):PPs X pos ks vs (trD X.K r):=by
 induction h with
 | nil=>exact Ou
 | cons h t ih=>exact J7 Mj h ih
def DDs.all {ks:List (Option Expr)}{vs:List Expr}{r:List (Key×ME)}(h:DDs X ks vs r):ks.all (·.isSome)=true/\ks.length=vs.length/\ks.length=r.length:=by
 induction h with
 | nil=>exact ⟨rfl,rfl,rfl⟩
 | cons h t ih=>exact ⟨by rw [afn,ih.1];rfl,by rw [acE,acE,ih.2.1],by rw [acE,acE,ih.2.2]⟩
def zM {K:abZ}:∀ {r:List (Key×ME)} {Z : St} {H:Hp} {μ : Mu} {h:Gh} {Zw:Sw} {Qw:List W->Gh->Prop} {Q:List (V×V)->Hp->Prop},Rel K μ H h->Slots K H μ Zw Z->mDs r Zw h Qw ->
  (∀ (vs:List V) (ws:List W) (H':Hp) (μ':Mu) (h':Gh),Ext K H μ H' μ'->Rel K μ' H' h'->aM K H' μ' ws vs->vs.length=r.length->Qw ws h'->Q ((r.zip vs).map fun p=>(kV p.1.1,p.2)) H')->vK (trD K r) Z H Q
 | [],Z,H,μ,h,Zw,Qw,Q,R,S,m,k=>k [] [] H μ h .refl R aM.nil rfl m
 | p::r,Z,H,μ,h,Zw,Qw,Q,R,S,m,k=>by
  show tC (kV p.1) Z H fun x H1=>tD K p.2 Z H1 fun y H2=>vK (trD K r) Z H2 fun ps H3=>Q ((x,y)::ps) H3
  refine ⟨μ,h,Zw,_,R,S,m,fun v H1 ⟨μ1,w,h1,e1,R1,r1,m1⟩=>?_⟩;refine zM R1 (S.ext e1) m1 fun vs ws H2 μ2 h2 e2 R2 rs hl q=>?_;exact k (v::vs) (w::ws) H2 μ2 h2 (e1.trans e2) R2 (aM.cons (e2.r _ _ r1) rs) (by rw [acE,acE,hl]) q
def MN {K:abZ}{H:Hp}{μ : Mu}:∀ {r:List (Key×ME)} {ws:List W} {vs:List V} {acc:List (Key×W)} {accv:List (Key×V)},aM K H μ ws vs->vs.length=r.length->nG K H μ acc accv ->
  nG K H μ (mkD r ws acc) (pR accv ((r.zip vs).map fun p=>(p.1.1,p.2)))
 | [],ws,vs,acc,accv,rs,hl,ra=>by
  have e:vs=[]:=List.length_eq_zero_iff.mp hl;subst e;cases ws with
  | nil=>exact ra
  | cons w ws=>exact ra
 | p::r,ws,vs,acc,accv,rs,hl,ra=>by
  cases ws with
  | nil=>rw [aM] at rs;subst rs;cases hl
  | cons w ws=>
   rw [aM] at rs;obtain ⟨v,vs',e,rv,rs'⟩:=rs;subst e;exact MN (r:=r) rs' (by simpa using hl)<|ra.put rv p.1
def Wf {ks:List (Option Expr)}{vs:List Expr}{r:List (Key×ME)}(h:DDs X ks vs r)(h0:ks≠[])(h15:ks.length<=15):DE X (.Dict ks vs pos) (Vq r):=
 (QJ h.pps h.all.1 h.all.2.1 h0 h15).of fun Z H Q ⟨μ,g,Zw,Qw,R,S,m,q⟩ p hp=>by
  have R1:Rel X.K (μ.put g.nx p) (upd H p (.dK [])) (g.new (.dct [])):=R.newCell hp trivial ⟨[],bB,.nil⟩;have e1:=(Ex.newCell (o:=.dK []) R hp).ext;refine zM R1 (S.ext e1) m fun vs' ws H2 μ2 h2 e2 R2 rs hl z=>?_;split at z
  ·rename_i ec;obtain ⟨p',kvv,hp',hx,rf⟩:=R2.dctAt ec;have r0:Rep X.K (upd H p (.dK [])) (μ.put g.nx p) (.loc g.nx) (.ref p):=by rw [Rep];exact ⟨p,rfl,Mu.put_same⟩
   have r2:=e2.r _ _ r0;rw [Rep] at r2;obtain ⟨p'',ep,hp''⟩:=r2;cases ep;have ep:p'=p:=by rw [hp''] at hp';exact (acv hp').symm
   subst ep;unfold nG at rf;cases rf;refine ⟨hx,(r.zip vs').map (fun p=>(p.1.1,p.2)),by rw [adb];rfl,?_,?_⟩
   ·rw [acf,List.length_zip,hl,<-h.all.2.2,Nat.min_self];exact h15
   ·have ew:=(Ex.write (o:=.dK (pR [] ((r.zip vs').map (fun p=>(p.1.1,p.2))))) R2 hp'').ext;refine q _ _ ⟨μ2,.loc g.nx,_,(e1.trans e2).trans ew,R2.write (c:=.dct (mkD r ws [])) hp'' trivial ⟨_,bB,?_⟩,by rw [Rep];exact ⟨p',rfl,hp''⟩,z⟩;exact MN (ew.s rs) hl .nil
  ·exact z.elim
end
inductive Yo (w:adt) (K:abZ):List afM->List (Key×W)->Prop
 | nil:Yo w K [] []
 | cons {x:Str} {t} {v:V} {u:acd} {d:W} {es:List afM} {tbl:List (Key×W)} (r:RelV v u) (q:∀ H μ,Rep K H μ d v) (h:Yo w K es tbl):Yo w K (⟨PyData.keyHash w.params x,.str x t,u⟩::es) ((.inr x,d)::tbl)
section
variable {X:Cx}{b:Expr}{pos p:Pos}{x:Str}{a:Addr}{tbl:List (Key×W)}
end
variable {tbl : List (Key×W)}
section
variable {X:Cx}{pos p p':Pos}{x:Str}{a:Addr}
end
section
variable {X:Cx}
end
section
variable {X:Cx}{K:abZ}{H:Hp}{h:Gh}
def sX (h:Gh)(w:W):Option W:=match w with
 | .lst ws=>(match nJ h ws with
  | some ds=>some (.lst ds)
  | none=>none)
 | w=>Rx h w
def za {w d:W}{v:V}{n:Nat}(R:Rel K μ H h)(r:Rep K H μ w v)(e:sX h w=some d)(p:plW n d=true):Dt K H d v:=by
 cases w with
 | lst ws=>
  unfold sX at e;dsimp only at e;cases e1:nJ h ws with
  | none=>rw [e1] at e;cases e
  | some ds=>
   rw [e1] at e;cases e;rw [Rep] at r;obtain ⟨q,xs,ev,hs,rs⟩:=r;obtain ⟨m,rfl,p⟩:=lZ p;rw [Dt];exact ⟨q,xs,ev,hs.sq,tH R rs e1 p⟩
 | _=>exact Kp R r (by unfold sX at e;exact e) p
def abV:M2:=fun x y h Q=>match sX h x,sX h y with
 | some a,some b=>by2 (plW 30 a&&plW 30 b) (Q (.bl (eqW a b)) h) False
 | _,_=>False
def VR:M2:=fun x y h Q=>match sX h x,sX h y with
 | some a,some b=>by2 (plW 30 a&&plW 30 b) (Q (.bl (!eqW a b)) h) False
 | _,_=>False
def Zv (hu:X.A.units+30<afi):DOp X (adW .NotEq) VR:=⟨_,Mz hu,by
 intro H μ h x y wx wy Qw Q R rx ry m k;unfold VR at m;split at m
 ·rename_i a b ea eb;cases hp:(plW 30 a&&plW 30 b) with
  | true=>
   rw [hp] at m;rw [adC] at hp;exact ⟨a,b,za R rx ea hp.1,za R ry eb hp.2,hp.1,hp.2,k _ _<|.bl R m⟩
  | false=>rw [hp] at m;exact (show False from m).elim
 ·exact m.elim⟩
end
section
variable {X:Cx}{a b c:Expr}{mc:ME}{pos:Pos}
end
section
variable {K:abZ}{H:Hp}{fs:List (Str×W)}{fvs:List (Str×V)}{f:Str}{w:W}{v:V}
end
section
variable {X:Cx}{e o value:Expr}{es:List Expr}{mo mv:ME}{f:Str}{C:Addr}{pos pos' apos:Pos}
end
section
variable {prog:acK}{w:adt}{A:acY}{E:acd->aci->Prop}{s:aci}
def Qz:typeLookup (.type "list_reverseiterator") "__len__" = pure none:=by rw [typeLookup_type,agF];kernel_rfl
def KQ:typeLookup (.type "list_reverseiterator") "__length_hint__" = pure (some (.builtin "list_reverseiterator.__length_hint__")):=by rw [typeLookup_type,agF];kernel_rfl
def Jk {r:Addr}{Q:Bool->aci->Prop}(hT:s.TypeIs (.ref r) "list_reverseiterator")(h:Q false s):acL (acP prog w) A (Builtin.List.listLengthHint (.ref r)) Q E s:=by
 unfold Builtin.List.listLengthHint;refine abY<|wpAny_specialOf hT Qz ?_
 dsimp only;refine agn (fun hab=>absurd hab<|by decide)<|fun _=>?_
 refine agn (fun hab=>absurd hab<|by decide)<|fun _=>?_
 refine abY<|wpAny_specialOf hT KQ ?_
 generalize hid:("list_reverseiterator.__length_hint__" : String)=id0
 wp_delta
 rw [show splitId id0=some ("list_reverseiterator", "__length_hint__") from by subst hid;decide +kernel];subst hid;refine abY<|wpAny_isInstance (T := "list_reverseiterator") (b:=true) hT (by rw [isSubtype_type];kernel_rfl) ?_
 refine agn (fun hab=>absurd hab<|by decide)<|fun _=>?_
 refine agn (fun _=>?_)<|fun hab=>absurd (by decide +kernel) hab
 refine agn (fun hab=>absurd hab<|by decide +kernel)<|fun _=>?_
 exact ach h
def BL {r l:Addr}{items:Array acd}(hh:A.handled=none)(hit:s.heap.IsRevIter r l ((items.size:Int) - 1))(hl:s.heap.IsList l items)(hne:l≠r)(S:Addr)(hSr:S≠r)(hSl:S≠l)(res:acd)(c₀ : Nat)(hS:s.heap.get? S=some { cls:=.type "list",data:=.seq #[] c₀ })
  (hR:∀ h' tk acc' c',(∀ b o,b≠S->b≠r->s.heap.get? b=some o->h'.get? b=some o)->h'.get? S=some { cls:=.type "list",dict:=none,data:=.seq acc' c',slots:=#[] }->ItemsOf (fun i v=>items[items.size - 1 - i]?=some v) acc' items.size->R (.ok (.ret res)) { s with heap:=h',toks:=tk }) (hn:items.size<=acM) :
  acL (acP prog w) A.in1 (afp (.ref S) (.ref r) res)
   (fun fin s'=>match fin with | .done f=>R (.ok f) s' | .again c'=>c'.quiet=true/\agP (acP prog w) A c' R s') (fun e s'=>R (.error e) s') s:=by
 have hSf:S∉[r,l]:=by simp only [acA,adL,or_false,not_or];exact ⟨hSr,hSl⟩
 have W:=Walks.listRev (prog:=prog) (w:=w) (A:=A.in1) hh r l hne items;have st:(fun (i:Nat) (h:Heap)=>i<=items.size/\h.IsRevIter r l ((items.size:Int) - 1 - (i:Int))/\h.IsList l items) 0 s.heap:=⟨adu _,by simpa using hit,hl⟩
 have key:∀ (h:Heap) (c₁ tk:Nat),(fun (i:Nat) (h:Heap)=>i<=items.size/\h.IsRevIter r l ((items.size:Int) - 1 - (i:Int))/\h.IsList l items) 0 h->(∀ b o,b≠S->s.heap.get? b=some o->h.get? b=some o) ->
   h.get? S=some { cls:=.type "list",data:=.seq #[] c₁ }->agP (acP prog w) A (.builtin "list.extend.loop" ⟨[.ref S,.ref r,res],[]⟩) R { s with heap:=h,toks:=tk }:=by
  intro h c₁ tk hst hk hS₁;refine codeAny_extend_loopS W.toS hn S hSf res items.size 0 _ #[] c₁ rfl (adu _) hst hS₁ (ItemsOf.nil _) fun s' acc' c' hm hS' hacc=>?_;rw [Moved.eq_with hm];refine hR s'.heap s'.toks acc' c' (fun b o hb hr e=>hm.heap b o (fun hmem=>?_)<|hk b o hb e) hS' hacc;rcases acA.mp hmem with e' | hmem
  ·exact hb e'
  ·exact hr<|acT.mp hmem
 unfold afp;refine abY<|aeI (T := "list_reverseiterator") hit.typeIs ?_
 have h1:Builtin.List.listSameRef (.ref S) (.ref r)=false:=by simp [Builtin.List.listSameRef,hSr]
 have n1:(Value.type "list_reverseiterator"==Value.type "list")=false:=by decide +kernel
 have n2:(Value.type "list_reverseiterator"==Value.type "tuple")=false:=by decide +kernel
 simp only [h1,n1,n2,Bool.or_false,adx,if_false];refine abY<|wpAny_pyIter_revIter hit ?_
 refine abY<|adB<|Jk hit.typeIs ?_
 refine agn (fun _=>?_)<|fun _=>ach ⟨afQ PySem.F.plain_extend_loop _,key _ c₀ _ st (fun b o _ e=>e) hS⟩
 refine abY<|aeA ?_
 refine abY ?_;show acL _ _ (updateSeq S (·.push .none) >>= fun _=>updateSeq S (·.pop)) _ _ _;refine abY<|wpAny_updateSeq hS rfl ?_
 have hS₂:=afd (afc (·.push Value.none)) hS rfl;refine wpAny_updateSeq (hz:=by seq_fits) hS₂ rfl ?_;have hS₃:=afd (afc (·.pop)) hS₂ rfl;refine ach ⟨afQ PySem.F.plain_extend_loop _,key _ _ _ ?_ (fun b o hb e=>?_) hS₃⟩
 ·refine W.frame 0 _ _ st fun b hb o e=>?_;have hbS:b≠S:=fun h=>hSf (h ▸ hb)
  exact (adG _ _<|aes hbS).trans ((adG _ _<|aes hbS).trans e)
 ·exact (adG _ _<|aes hb).trans ((adG _ _<|aes hb).trans e)
end
def Lf:∀ {xs:List V} {us:List acd},Vals xs us->Vals xs.reverse us.reverse:=by
 intro xs us r;induction r with
 | nil=>exact .nil
 | cons h t ih=>
  rw [agk,agk];exact Vals.append ih<|.cons h .nil
theorem yM {K:abZ}{H:Hp}{μ : Mu}:∀ {ws:List W} {vs:List V},aM K H μ ws vs->aM K H μ ws.reverse vs.reverse
 | [],vs,r=>by rw [aM] at r;subst r;exact aM.nil
 | w::ws,vs,r=>by
  rw [aM] at r;obtain ⟨v,vs',e,rv,r⟩:=r;subst e;rw [agk,agk];exact aM.append (yM r)<|aM.cons rv aM.nil
section
variable {X:Cx}
end
section
variable {X:Cx}{e:Expr}{me:ME}{x:Str}{a:Addr}{p pos:Pos}
end
section
variable {X:Cx}{C:Addr}{o e:Expr}{es:List Expr}{mo:ME}{pos apos:Pos}
end
def wJ (kvs:List (List Int×W))(k:List Int):Option W:=(kvs.find? fun x=>decide (x.1=k)).map (·.2)
def Sx (kvs:List (List Int×W))(k:List Int)(w:W):List (List Int×W):=if (wJ kvs k).isSome then kvs.map (fun x=>if x.1=k then (x.1,w) else x) else kvs++[(k,w)]
section
variable {X:Cx}{ahW:List (Addr×Obj)}{Z : St}{H:Hp}{s:aci}{K:abZ}
def Fq (K:abZ)(H:Hp)(xs:List (List Int×Addr×acd)):Prop:=∀ x∈xs,SqT K H x.2.1 (x.1.map V.int)
def vN {b:Addr}(I:Inv X ahW Z H s)(hb:SqT X.K H b (k.map V.int)):(tupleKind (ahc X.prog X.w)).is s.heap k b:=by
 obtain ⟨its2,r2,⟨o,ho,hcl,n,hd⟩,_⟩:=I.tuple hb;exact ⟨o,_,_,ho,hcl,hd,sy r2⟩
def yc {a:Addr}{xs:List (List Int×Addr×acd)}(I:Inv X ahW Z H s)(e:H a=some (.ext (CQ a xs)))(hk:Fq X.K H xs):xs.length<=acM/\(a==aeu)=false/\s.heap.DictOfH (tupleKind (ahc X.prog X.w)) a xs:=by
 obtain ⟨⟨z,y,nd,o,es,ep,h1,h2,h3,h4⟩,_⟩:=I.hok a _ e;exact ⟨z,y,o,es,ep,h1,h2,h3,h4,fun x hx=>vN I<|hk x hx,nd⟩
def Ij {P:acK}{w:adt}{H':Hp}{a:Addr}{xs:List (List Int×Addr×acd)}{h:Heap}(z:xs.length<=acM)(y:(a==aeu)=false)(d:h.DictOfH (tupleKind (ahc P w)) a xs):eG P w H' h a (.ext (CQ a xs)):=by
 obtain ⟨o,es,ep,h1,h2,h3,h4,_,h5⟩:=d;exact ⟨⟨z,y,h5,o,es,ep,h1,h2,h3,h4⟩,⟨o,h1⟩,fun g1 g2 ⟨z,y,nd,o,es,ep,a1,a2,a3,a4⟩ k=>⟨z,y,nd,o,es,ep,k o a1,a2,a3,a4⟩⟩
def Oq {x:List Int×Addr×acd}{xs:List (List Int×Addr×acd)}:atKey (x::xs) k=if x.1=k then some x.2 else atKey xs k:=by
 unfold atKey;rw [adM];by_cases e:x.1=k
 ·rw [if_pos e];simp [e]
 ·rw [if_neg e];simp [e]
def yH {x:List Int×W}{kvs:List (List Int×W)}:wJ (x::kvs) k=if x.1=k then some x.2 else wJ kvs k:=by
 unfold wJ;rw [adM];by_cases e:x.1=k
 ·rw [if_pos e];simp [e]
 ·rw [if_neg e];simp [e]
def rP:∀ {kvs:List (List Int×W)} {xs:List (List Int×Addr×acd)} {vs:List V},kvs.map (·.1)=xs.map (·.1)->Vals vs (xs.map (·.2.2))->aM K H μ (kvs.map (·.2)) vs->∀ k:List Int,
  (∀ w,wJ kvs k=some w->∃ p v,atKey xs k=some p/\RelV v p.2/\Rep K H μ w v)/\(wJ kvs k).isSome=(atKey xs k).isSome
 | [],[],_,_,_,_,k=>⟨fun w e=>by simp [wJ] at e,rfl⟩
 | [],_::_,_,e,_,_,_=>by simp at e
 | _::_,[],_,e,_,_,_=>by simp at e
 | x::kvs,y::xs,vs,e,hv,hr,k=>by
  rw [acg,acg] at e;obtain ⟨e1,e2⟩:=aeB e;rw [acg,aM] at hr;obtain ⟨v,vs',rfl,r1,r2⟩:=hr;rw [acg] at hv;cases hv with
  | cons a b=>
   obtain ⟨i1,i2⟩:=rP e2 b r2 k;rw [yH,Oq,e1];by_cases z:y.1=k
   ·rw [if_pos z,if_pos z];exact ⟨fun w ew=>by cases ew;exact ⟨_,v,rfl,a,r1⟩,rfl⟩
   ·rw [if_neg z,if_neg z];exact ⟨i1,i2⟩
def Rel.dttAt {h:Gh}{n:Nat}{kvs:List (List Int×W)}(R:Rel K μ H h)(e:h.c n=some (.dtt kvs)):∃ p xs vs,μ.f n=some p/\H p=some (.ext (CQ p xs))/\kvs.map (·.1)=xs.map (·.1)/\Vals vs (xs.map (·.2.2))/\aM K H μ (kvs.map fun x=>W.tup (x.1.map W.int)) (xs.map fun x=>V.ref x.2.1)/\aM K H μ (kvs.map (·.2)) vs:=by
 obtain ⟨p,e1,xs,vs,a,b,c,d,f⟩:=R.cel n _ e;exact ⟨p,xs,vs,e1,a,b,c,d,f⟩
theorem sS:∀ {k:List Int} {vs:List V},aM K H μ (k.map W.int) vs->vs=k.map V.int
 | [],_,h=>by rw [adA,aM] at h;exact h
 | i::k,_,h=>by
  rw [acg,aM] at h;obtain ⟨v,vs,rfl,r,t⟩:=h;rw [Rep] at r;rw [r,sS t];rfl
def Qp {b:Addr}(r:Rep K H μ (.tup (k.map .int)) (.ref b)):SqT K H b (k.map V.int):=by
 rw [Rep] at r;obtain ⟨p,xs,e,hs,hr⟩:=r;cases e;rw [sS hr] at hs;exact hs
theorem ji:∀ {kvs:List (List Int×W)} {xs:List (List Int×Addr×acd)},kvs.map (·.1)=xs.map (·.1)->aM K H μ (kvs.map fun x=>W.tup (x.1.map W.int)) (xs.map fun x=>V.ref x.2.1)->Fq K H xs
 | [],[],_,_=>fun x hx=>nomatch hx
 | [],_::_,e,_=>by simp at e
 | _::_,[],e,_=>by simp at e
 | x::kvs,y::xs,e,hr=>by
  rw [acg,acg] at e;obtain ⟨e1,e2⟩:=aeB e;rw [acg,acg,aM] at hr;obtain ⟨v,vs',ev,r1,r2⟩:=hr;obtain ⟨rfl,rfl⟩:=aeB ev;intro z hz;rcases acA.mp hz with rfl | hz
  ·rw [e1] at r1;exact Qp r1
  ·exact ji e2 r2 z hz
end
section
variable {X:Cx}{a b o i:Expr}{td ty:TE}{pos:Pos}
def Jb:W->Option (List Int)
 | .tup ws=>rQ ws
 | _=>none
def V6:M2:=fun x y h Q=>match x,Jb y with
 | .loc n,some k=>(match h.c n with
  | some (.dtt kvs)=>(match wJ kvs k with
   | some w=>Q w h
   | none=>False)
  | _=>False)
 | _,_=>False
def jq {K:abZ}{H:Hp}{y:W}{v:V}(r:Rep K H μ y v)(e:Jb y=some k):∃ b,v=.ref b/\SqT K H b (k.map V.int):=by
 unfold Jb at e;split at e
 ·rw [Rep] at r;obtain ⟨p,xs,e1,hs,hr⟩:=r;rw [zf hr e] at hs;exact ⟨p,e1,hs⟩
 ·cases e
theorem vY {k:List Int}{v:acd}:∀ {xs:List (List Int×Addr×acd)},(xs.map (putAt k v)).map (·.1)=xs.map (·.1)
 | []=>rfl
 | x::xs=>by
  rw [acg,acg,acg,vY];congr 1
  unfold putAt;by_cases e:x.1=k
  ·rw [if_pos e]
  ·rw [if_neg e]
theorem uI {k:List Int}{v:acd}:∀ {xs:List (List Int×Addr×acd)},(xs.map (putAt k v)).map (fun x=>V.ref x.2.1)=xs.map (fun x=>V.ref x.2.1)
 | []=>rfl
 | x::xs=>by
  rw [acg,acg,acg,uI];congr 1
  unfold putAt;by_cases e:x.1=k
  ·rw [if_pos e]
  ·rw [if_neg e]
def Vz (K:abZ):Q9:=fun o i v H N=>∃ a xs k b,o=.ref a/\H a=some (.ext (CQ a xs))/\Fq K H xs/\i=.ref b/\SqT K H b (k.map V.int)/\xs.length<acM/\∀ u,RelV v u->N (upd H a (.ext (CQ a (storedH xs k b u))))
def Aw {xs:List (List Int×Addr×acd)}{b:Addr}{u:acd}:(storedH xs k b u).length<=xs.length+1:=by
 unfold storedH;split
 ·rw [acf];omega
 ·rw [acH];exact acj _
def HS (hu:X.A.units+30<afi):W5 X (Vz X.K):=by
 intro ahW s Z H o i v ov iv u Q I ro ri rv ⟨a,xs,k,b,eo,e,hk,ei,hb,l,q⟩;subst eo ei;obtain rfl:ov=Value.ref a:=ro;obtain rfl:iv=Value.ref b:=ri;obtain ⟨z,hd,dd⟩:=yc I e hk;refine wpAny_setItem_heap (hsz:=z) (tupleKind_room_in1<|by omega) (vN I hb) dd fun h' dd' hs=>⟨_,?_,q u rv⟩;have he:∃ q,h'.get? a=some q:=let ⟨q,_,_,hq,_⟩:=dd';⟨q,hq⟩
 exact wO I (by rw [e];exact True.intro) hs he<|Ij (by have:=Aw (xs:=xs) (k:=k) (b:=b) (u:=u);omega) hd dd'
def Hw:RQ:=fun o i w h N=>match o,Jb i with
 | .loc n,some k=>(match h.c n with
  | some (.dtt kvs)=>fL (kvs.length+1) (N (h.set n (.dtt (Sx kvs k w))))
  | _=>False)
 | _,_=>False
def Dk {K:abZ}{H:Hp}{μ : Mu}{k:List Int}{w:W}{v:V}{u:acd}(rv:RelV v u)(r:Rep K H μ w v):∀ {kvs:List (List Int×W)} {xs:List (List Int×Addr×acd)} {vs:List V},kvs.map (·.1)=xs.map (·.1)->Vals vs (xs.map (·.2.2))->aM K H μ (kvs.map (·.2)) vs ->
  ∃ vs',Vals vs' ((xs.map (putAt k u)).map (·.2.2))/\aM K H μ ((kvs.map (fun x=>if x.1=k then (x.1,w) else x)).map (·.2)) vs'
 | [],[],_,_,_,_=>⟨[],.nil,by rw [adA,adA,aM]⟩
 | [],_::_,_,e,_,_=>by simp at e
 | _::_,[],_,e,_,_=>by simp at e
 | x::kvs,y::xs,vs,e,hv,hr=>by
  rw [acg,acg] at e;obtain ⟨e1,e2⟩:=aeB e;rw [acg,aM] at hr;obtain ⟨v1,vs',rfl,r1,r2⟩:=hr;rw [acg] at hv;cases hv with
  | cons a b=>
   obtain ⟨vs2,i1,i2⟩:=Dk rv r e2 b r2;by_cases z:y.1=k
   ·refine ⟨v::vs2,?_,?_⟩
    ·rw [acg,acg];refine .cons ?_ i1;unfold putAt;rw [if_pos z];exact rv
    ·rw [acg,acg,aM];refine ⟨v,vs2,rfl,?_,i2⟩;rw [if_pos (e1.trans z)];exact r
   ·refine ⟨v1::vs2,?_,?_⟩
    ·rw [acg,acg];refine .cons ?_ i1;unfold putAt;rw [if_neg z];exact a
    ·rw [acg,acg,aM];refine ⟨v1,vs2,rfl,?_,i2⟩;rw [if_neg (fun q=>z (e1.symm.trans q))];exact r1
theorem G5 {k:List Int}{w:W}:∀ {kvs:List (List Int×W)},(kvs.map (fun x=>if x.1=k then (x.1,w) else x)).map (·.1)=kvs.map (·.1)
 | []=>rfl
 | x::kvs=>by
  rw [acg,acg,acg,G5];congr 1
  by_cases e:x.1=k
  ·rw [if_pos e]
  ·rw [if_neg e]
theorem G6 {k:List Int}{w:W}:∀ {kvs:List (List Int×W)},(kvs.map (fun x=>if x.1=k then (x.1,w) else x)).map (fun x=>W.tup (x.1.map W.int))=kvs.map (fun x=>W.tup (x.1.map W.int))
 | []=>rfl
 | x::kvs=>by
  rw [acg,acg,acg,G6];congr 1
  by_cases e:x.1=k
  ·rw [if_pos e]
  ·rw [if_neg e]
theorem aM.snoc {K:abZ}{H:Hp}{μ : Mu}{w:W}{v:V}(r:Rep K H μ w v):∀ {ws:List W} {vs:List V},aM K H μ ws vs->aM K H μ (ws++[w]) (vs++[v])
 | [],_,h=>by
  rw [aM] at h;rw [h,afY,afY,aM];exact ⟨v,[],rfl,r,by rw [aM]⟩
 | a::ws,_,h=>by
  rw [aM] at h;obtain ⟨b,bs,rfl,h1,h2⟩:=h;rw [afT,afT,aM];exact ⟨b,bs++[v],rfl,h1,aM.snoc r h2⟩
theorem nR {K:abZ}{H:Hp}{μ : Mu}:∀ k:List Int,aM K H μ (k.map W.int) (k.map V.int)
 | []=>by rw [adA,adA,aM]
 | i::k=>by
  rw [acg,acg,aM];exact ⟨_,_,rfl,by rw [Rep],nR k⟩
def Lj {K:abZ}:zH K (Vz K) Hw:=by
 intro H μ h o i v wo wi w Nw N R ro ri r m k;unfold Hw at m;split at m
 ·rename_i n kk e;split at m
  ·rename_i kvs ec;obtain ⟨p,xs,vs,hp,hx,e1,e2,r3,r4⟩:=R.dttAt ec;rw [Rep] at ro;obtain ⟨p',ex,hp'⟩:=ro;have ep:p'=p:=by rw [hp] at hp';exact (acv hp').symm
   subst ep;obtain ⟨b,eb,hb⟩:=jq ri e;have ahX:kvs.length=xs.length:=by have:=congrArg aeS e1;rwa [acf,acf] at this
   have we:=fun (o:HO)=>(Ex.write (o:=o) R hp).ext
   have rk:Rep K H μ (.tup (kk.map W.int)) (.ref b):=by rw [Rep];exact ⟨b,_,rfl,hb,nR kk⟩
   refine ⟨p',xs,kk,b,ex,hx,ji e1 r3,eb,hb,by have:=m.ok.1;omega,fun u ru=>k _ ⟨μ,_,we _,R.write (c:=.dtt (Sx kvs kk w)) hp trivial ?_,m.ok.2⟩⟩;have hs:=(rP e1 e2 r4 kk).2;cases ea:atKey xs kk with
   | some q=>
    rw [ea] at hs;obtain ⟨vs',i1,i2⟩:=Dk (k:=kk) ru r e1 e2 r4;rw [storedH_old ea];unfold Sx;rw [if_pos (show (wJ kvs kk).isSome=true from hs)];exact ⟨_,vs',bB,G5.trans<|e1.trans vY.symm,i1,by rw [G6,uI];exact (we _).s r3,(we _).s i2⟩
   | none=>
    rw [ea] at hs;rw [storedH_new ea];unfold Sx;rw [if_neg (show ¬ (wJ kvs kk).isSome=true from by rw [hs];decide)];refine ⟨_,vs++[v],bB,?_,?_,?_,?_⟩
    ·rw [acB,acB,e1];rfl
    ·rw [acB];exact Vals.append e2 (.cons ru .nil)
    ·rw [acB,acB];exact (we _).s (aM.snoc rk r3)
    ·rw [acB];exact (we _).s (aM.snoc r r4)
  ·exact m.elim
 ·exact m.elim
end
section
variable {prog:acK}{w:adt}{A:acY}{E:acd->aci->Prop}{s:aci}
end
section
variable {X:Cx}
end
def ps (h:Int):Nat->Nat×Nat
 | 0=>(afU h % 32,afU h)
 | n+1=>SetTable.leap 31 (ps h n).1 (ps h n).2
def liv (o:Array (Option Nat)):List (Nat×Nat):=(aeZ 32).filterMap fun j=>(o.getD j none).map (j,·)
structure Lay (o:Array (Option Nat)) (k:Nat):Prop where
 sz:o.size=32
 len:(liv o).length=k
 low:∀ p,p∈liv o->p.2<k
section
variable {prog:acK}{w:adt}{A:acY}{E:acd->aci->Prop}{s:aci}{a:Addr}
end
section
variable {prog:acK}{w:adt}{A:acY}{E:acd->aci->Prop}{s:aci}{t:afX}{a b:Addr}
end
section
variable {prog:acK}{w:adt}{A:acY}{E:acd->aci->Prop}
end
section
variable {prog:acK}{w:adt}{A:acY}{E:acd->aci->Prop}{s:aci}
end
section
variable {X:Cx}{K:abZ}
end
section
variable {X:Cx}{K:abZ}{o e:Expr}{mo:ME}{apos ahY:Pos}
end
section
variable {prog:acK}{w:adt}{A:acY}{s:aci}{K:abZ}{x C:Addr}
end
section
variable {prog:acK}{w:adt}{A:acY}{E:acd->aci->Prop}{s:aci}{K:abZ}{x dx C f:Addr}{mA:Str->Option acd}{name:Str}{v:acd}
end
section
variable {prog:acK}{w:adt}{A:acY}{E:acd->aci->Prop}{s:aci}{K:abZ}{x D:Addr}{ox:Obj}
end
section
variable {prog:acK}{w:adt}{A:acY}{E:acd->aci->Prop}{h:Heap}{g:Array GenState}{d:Drawn}{t:Nat}{os:OsState}
variable {nm q:Str}{C N:Addr}{bs bm bmB:List acd}{hdct:Bool}{sn:List Str}{sub:List acd}{ab:Bool}{col:Option Bool}{dd:Option Addr}{k0 k1 k2 k3 k5:Option acd}{B newId initId:String}{K:abZ}{f:Addr}
end
variable {sn : List Str}{sub : List acd}{dd : Option Addr}{col : Option Bool}
section
variable {prog:acK}{w:adt}{M:Model}{A:acY}{E:acd->aci->Prop}{s:aci}{K:abZ}{f:Addr}
variable {nm q:Str}{C N:Addr}{bs bm bmB:List acd}{hdct:Bool}{ab:Bool}{k0 k1 k2 k3 k5:Option acd}{B newId initId:String}
end
section
variable {X:Cx}{o value:Expr}{f:Str}{C:Addr}{pos pos':Pos}{ta tv:TE}
end
section
variable {X:Cx}{ahW:List (Addr×Obj)}{Z : St}{H:Hp}{s:aci}{e:Addr}
end
section
variable {X:Cx}{ahW:List (Addr×Obj)}{Z : St}{H:Hp}{s:aci}{C fi:Addr}{x f:Str}{np ahY pos:Pos}{e:Expr}{t:TA}{k:Nat}{fd:aeV}{ps:List Str}
end
section
variable {X:Cx}{e:Expr}{pos:Pos}
end
section
variable {X:Cx}{e:Expr}{f:Str}{pos:Pos}
end
section
variable {X:Cx}
end
section
variable {X:Cx}{tg:Expr}
end
section
variable {X:Cx}{K:abZ}
end
section
variable {X:Cx}{pos p:Pos}{e:Expr}{es:List Expr}{k:Nat}{fs:List (Addr×MSp)}
inductive VFs (X:Cx) (k:Nat):List (Addr×MSp)->Prop
 | nil:VFs X k []
 | cons {f:Addr} {fd:aeV} {ps:List Str} {ms:MSp} {fs:List (Addr×MSp)} (F:qC X.prog X.w X.K X.mg X.base CX0 k f fd ps (lift X.K ms)) (hk:aeK X.K (.ref f)=true) (hb:Binds X.K fd ps []) (r:VFs X k fs):VFs X k ((f,ms)::fs)
end
def Cmp (P:acK)(w:adt)(A:acY)(s:aci)(kd:agp)(rk:acd->Nat)(good:acd->Prop):Prop:=
 ∀ (E:acd->aci->Prop) (Q:Bool->aci->Prop) (x y:acd),good x->good y->Q (decide (rk x<rk y)) s->acL (acP P w) A (keyLt' kd x y) Q E s
section
variable {P:acK}{w:adt}{A:acY}{E:acd->aci->Prop}{s:aci}{kd:agp}{rk:acd->Nat}{good:acd->Prop}
def Rk (rk:acd->Nat)(a:Array ada)(i:Nat):Nat:=match a[i]? with
 | some p=>rk p.1
 | none=>0
def aY (rk:acd->Nat)(a:Array ada)(i j:Nat):Prop:=∀ p q,i<=p->p<q->q<j->Rk rk a p<Rk rk a q
structure Keys (rk:acd->Nat) (good:acd->Prop) (a:Array ada):Prop where
 good:∀ p∈a.toList,good p.1
 nd:(a.toList.map fun p=>rk p.1).Nodup
def yg {a b:Array ada}{i j:Nat}(h:a[i]?=b[j]?):Rk rk a i=Rk rk b j:=by unfold Rk;rw [h]
def Keys.perm {a b:Array ada}(h:Keys rk good a)(p:b.Perm a):Keys rk good b:=by
 have pl:=aeY.mp p;exact ⟨fun x hx=>h.good x<|pl.mem_iff.mp hx,(pl.map _).nodup_iff.mpr h.nd⟩
def Keys.ne {a:Array ada}(h:Keys rk good a){i j:Nat}(hi:i<a.size)(hj:j<a.size)(e:Rk rk a i=Rk rk a j):i=j:=by
 have e1:∀ k (hk:k<a.size),Rk rk a k=rk (a.toList[k]'(by simpa using hk)).1:=fun k hk=>by
  unfold Rk;rw [adP hk];rfl
 rw [e1 i hi,e1 j hj] at e;refine (List.getElem_inj h.nd).mp (?_:(a.toList.map fun p=>rk p.1)[i]'(by simpa using hi)=(a.toList.map fun p=>rk p.1)[j]'(by simpa using hj))
 simpa using e
structure SOk (kd:agp) (rk:acd->Nat) (good:acd->Prop) (st:ado):Prop where
 kind:afG st=kd
 failed:agZ st=none
 keys:Keys rk good (adg st)
def SOk.arr {st:ado}(h:SOk kd rk good st){b:Array ada}(p:b.Perm (adg st)):SOk kd rk good (afK st b):=⟨h.kind,h.failed,h.keys.perm p⟩
def cM {a:Array ada}{i:Nat}{st:ado}{Q:ada->ado->Prop}(hi:i<a.size)(q:Q a[i] st):wpS (acP P w) A E s (elem' a i) Q st:=by
 rw [elem'_eq,adP hi];exact acy q
def w_lt (C:Cmp P w A s kd rk good){x y:ada}{st:ado}{Q:Option Bool->ado->Prop}(hk:afG st=kd)(hx:good x.1)(hy:good y.1)(q:Q (some (decide (rk x.1<rk y.1))) st):wpS (acP P w) A E s (lt' x y) Q st:=by
 rw [lt'_eq];refine acz<|agW ?_
 rw [hk];exact acz<|wpS_lift<|agK<|C _ _ _ _ hx hy ⟨rfl,acy q⟩
def eH {a:Array ada}{i:Nat}(hi:i<a.size):Rk rk a i=rk a[i].1:=by
 unfold Rk;rw [adP hi]
def rF (C:Cmp P w A s kd rk good){i j:Nat}{st:ado}{Q:Option Bool->ado->Prop}(ok:SOk kd rk good st)(hi:i<(adg st).size)(hj:j<(adg st).size)(q:Q (some (decide (Rk rk (adg st) i<Rk rk (adg st) j))) st):wpS (acP P w) A E s (ltAt' i j) Q st:=by
 rw [ltAt'_eq];refine acz<|agW<|acz<|cM hi<|acz<|cM hj<|w_lt C ok.kind ?_ ?_ ?_
 ·exact ok.keys.good _<|by simp
 ·exact ok.keys.good _<|by simp
 ·rw [<-eH (rk:=rk) hi,<-eH (rk:=rk) hj];exact q
structure Within (a b:Array ada) (lo hi:Nat):Prop where
 perm:b.Perm a
 out:∀ k,k<lo\/hi<=k->b[k]?=a[k]?
def Within.size {a b:Array ada}{lo hi:Nat}(h:Within a b lo hi):b.size=a.size:=h.perm.size_eq
def Within.refl (a:Array ada)(lo hi:Nat):Within a a lo hi:=⟨Array.Perm.refl _,fun _ _=>rfl⟩
def Within.trans {a b c:Array ada}{lo hi:Nat}(h:Within a b lo hi)(g:Within b c lo hi):Within a c lo hi:=⟨g.perm.trans h.perm,fun k hk=>(g.out k hk).trans (h.out k hk)⟩
def Within.wide {a b:Array ada}{lo hi lo' hi':Nat}(h:Within a b lo hi)(h1:lo'<=lo)(h2:hi<=hi'):Within a b lo' hi':=⟨h.perm,fun k hk=>h.out k (by omega)⟩
def jF (st:ado):afK st (adg st)=st:=by cases st;rfl
def pU {a:Array ada}{lo n:Nat}(h:aY rk a lo (lo+n))(h1:1<=n)(g:Rk rk a (lo+n - 1)<Rk rk a (lo+n)):aY rk a lo (lo+n+1):=fun p q h2 h3 h4=>by
 by_cases c:q<lo+n
 ·exact h p q h2 h3 c
 ·have e:q=lo+n:=by omega
  subst e;by_cases c2:p=lo+n - 1
  ·rw [c2];exact g
  ·exact agu (h p (lo+n - 1) h2 (by omega)<|by omega) g
def w_count (C:Cmp P w A s kd rk good){lo nrem:Nat}{st:ado}{Q:Option Nat->ado->Prop}(ok:SOk kd rk good st)(h1:1<=nrem)(hz:lo+nrem<=(adg st).size)
  (q:∀ (n:Nat) (b:Array ada),1<=n->n<=nrem->Within (adg st) b lo (lo+nrem)->aY rk b lo (lo+n)->(aY rk (adg st) lo (lo+nrem)->n=nrem/\b=adg st)->Q (some n) (afK st b)) :
  wpS (acP P w) A E s (countRun' lo nrem) Q st:=by
 rw [countRun'_eq];have ne:∀ {i j:Nat},i<(adg st).size->j<(adg st).size->i≠j->Rk rk (adg st) i≠Rk rk (adg st) j:=fun hi hj c e=>c (ok.keys.ne hi hj e)
 refine acz (afh (adU
  (I:=fun x c st'=>st'=st/\c=(none,x)/\aY rk (adg st) lo (lo+x)/\x<=nrem)
  (Q:=fun c st'=>st'=st/\∃ n,c=(none,n)/\1<=n/\n<=nrem/\aY rk (adg st) lo (lo+n)/\(n=nrem\/Rk rk (adg st) (lo+n)<Rk rk (adg st) (lo+n - 1))) ?_ ?_ ⟨rfl,rfl,fun p q a b c=>by omega,h1⟩) ?_)
 ·rintro x c st' hx1 hx2 ⟨rfl,rfl,hr,_⟩;dsimp only;refine acz<|rF C ok (by omega) (by omega) ?_
  by_cases c:Rk rk (adg st') (lo+x)<Rk rk (adg st') (lo+x - 1)
  ·rw [decide_eq_true c];exact acy ⟨rfl,x,rfl,hx1,by omega,hr,.inr c⟩
  ·rw [decide_eq_false c];have:=ne (i:=lo+x) (j:=lo+x - 1) (by omega) (by omega) (by omega)
   exact acy ⟨rfl,rfl,pU hr hx1<|by omega,by omega⟩
 ·rintro c st' ⟨rfl,rfl,hr,hx⟩;have e:max 1 nrem=nrem:=by omega
  rw [e] at hr |-
  exact ⟨rfl,nrem,rfl,h1,acj _,hr,.inl rfl⟩
 ·rintro c st' ⟨rfl,n,rfl,n1,n2,hr,hd⟩;dsimp only;by_cases en:n=nrem
  ·subst en;simp only [beq_self_eq_true,if_true];have:=q n (adg st') n1 (acj _) (.refl _ _ _) hr fun _=>⟨rfl,rfl⟩
   rw [jF] at this;exact acy this
  ·have hd:=hd.resolve_left en;have not:¬ aY rk (adg st') lo (lo+nrem):=fun r=>by
    have:=r (lo+n - 1) (lo+n) (by omega) (by omega) (by omega)
    omega
   rw [if_neg (by simpa using en)];by_cases c1:n>1
   ·rw [if_pos c1];have hrise:=hr lo (lo+n - 1) (acj _) (by omega) (by omega);refine acz<|rF C ok (by omega) (by omega) ?_
    rw [decide_eq_true hrise];have:=q n (adg st') n1 n2 (.refl _ _ _) hr fun r=>absurd r not
    rw [jF] at this;exact acy this
   ·rw [if_neg c1];have e1:n=1:=by omega
    subst e1;refine acz<|wpS_lift<|aeA ⟨rfl,?_⟩
    refine acz (afh (adU
     (I:=fun x c st2=>st2=st'/\c=(none,x,0)/\(∀ u v,lo<=u->u<v->v<lo+x->Rk rk (adg st') v<Rk rk (adg st') u)/\x<=nrem)
     (Q:=fun c st2=>st2=st'/\∃ m,c=(none,m,0)/\2<=m/\m<=nrem/\∀ u v,lo<=u->u<v->v<lo+m->Rk rk (adg st') v<Rk rk (adg st') u) ?_ ?_ ⟨rfl,rfl,fun u v h2 h3 h4=>?_,by omega⟩) ?_)
    ·rintro x c st2 hx1 hx2 ⟨rfl,rfl,hf,_⟩;dsimp only;refine acz<|rF C ok (by omega) (by omega) ?_
     by_cases c:Rk rk (adg st2) (lo+x)<Rk rk (adg st2) (lo+x - 1)
     ·rw [decide_eq_true c];refine acy ⟨rfl,rfl,fun u v h2 h3 h4=>?_,by omega⟩;by_cases c2:v<lo+x
      ·exact hf u v h2 h3 c2
      ·have ev:v=lo+x:=by omega
       subst ev;by_cases c3:u=lo+x - 1
       ·rw [c3];exact c
       ·exact agu c<|hf u (lo+x - 1) h2 (by omega)<|by omega
     ·rw [decide_eq_false c];have:=ne (i:=lo+x) (j:=lo+x - 1) (by omega) (by omega) (by omega)
      refine acz<|rF C ok (by omega) (by omega) ?_
      rw [decide_eq_true (show Rk rk (adg st2) (lo+x - 1)<Rk rk (adg st2) (lo+x) by omega)];exact acy ⟨rfl,x,rfl,by omega,by omega,hf⟩
    ·rintro c st2 ⟨rfl,rfl,hf,hx⟩;have e:max (1+1) nrem=nrem:=by omega
     rw [e] at hf |-
     exact ⟨rfl,nrem,rfl,by omega,acj _,hf⟩
    ·have eu:u=lo+1 - 1:=by omega
     have ev:v=lo+1:=by omega
     rw [eu,ev];exact hd
    ·rintro c st2 ⟨rfl,m,rfl,m1,m2,hf⟩;dsimp only;rw [if_neg (adT 0)];refine acz<|wpS_reverse ?_
     have hb:∀ k,Rk rk (mirror (adg st2) lo (lo+m) ((lo+m - lo) / 2)) k=if lo<=k/\k<lo+m then Rk rk (adg st2) (lo+(lo+m) - 1 - k) else Rk rk (adg st2) k:=fun k=>by
      have e:=getElem?_mirror_all (xs:=adg st2) (i:=lo) (j:=lo+m) (by omega) k;split
      ·rename_i c;rw [if_pos c] at e;exact yg e
      ·rename_i c;rw [if_neg c] at e;exact yg e
     have hw:Within (adg st2) (mirror (adg st2) lo (lo+m) ((lo+m - lo) / 2)) lo (lo+nrem):=⟨mirror_perm _ _ _ _,fun k hk=>by
      rw [getElem?_mirror_all (by omega),if_neg (by omega)]⟩
     have hrb:aY rk (mirror (adg st2) lo (lo+m) ((lo+m - lo) / 2)) lo (lo+m):=fun u v h2 h3 h4=>by
      rw [hb,hb,if_pos (by omega),if_pos (by omega)];exact hf _ _ (by omega) (by omega)<|by omega
     generalize mirror (adg st2) lo (lo+m) ((lo+m - lo) / 2)=b at hb hw hrb;have ok2:SOk kd rk good (afK st2 b):=ok.arr hw.perm;have hz2:(adg (afK st2 b)).size=(adg st2).size:=hw.size;refine acz (afh (adU
      (I:=fun x c st3=>st3=afK st2 b/\c=(none,x)/\aY rk b lo (lo+x)/\x<=nrem)
      (Q:=fun c st3=>st3=afK st2 b/\∃ n,c=(none,n)/\1<=n/\n<=nrem/\aY rk b lo (lo+n)) ?_ ?_ ⟨rfl,rfl,hrb,m2⟩) ?_)
     ·rintro x c st3 hx1 hx2 ⟨rfl,rfl,hr3,_⟩;dsimp only;refine acz<|rF C ok2 (by omega) (by omega) ?_
      by_cases c:Rk rk (adg (afK st2 b)) (lo+x)<Rk rk (adg (afK st2 b)) (lo+x - 1)
      ·rw [decide_eq_true c];exact acy ⟨rfl,x,rfl,by omega,by omega,hr3⟩
      ·rw [decide_eq_false c];have:Rk rk b (lo+x)≠Rk rk b (lo+x - 1):=fun e=>absurd (ok2.keys.ne (i:=lo+x) (j:=lo+x - 1) (by omega) (by omega) e) (by omega)
       have c:¬ Rk rk b (lo+x)<Rk rk b (lo+x - 1):=c;exact acy ⟨rfl,rfl,pU hr3 (by omega)<|by omega,by omega⟩
     ·rintro c st3 ⟨rfl,rfl,hr3,hx⟩;have e:max m nrem=nrem:=by omega
      rw [e] at hr3 |-
      exact ⟨rfl,nrem,rfl,h1,acj _,hr3⟩
     ·rintro c st3 ⟨rfl,n,rfl,n1,n2,hr3⟩;exact acy<|q n b n1 n2 hw hr3 fun r=>absurd r not
end
variable {a b : Array ada}{lo : Nat}{good : acd->Prop}{st : ado}{kd : agp}
section
variable {P:acK}{w:adt}{A:acY}{E:acd->aci->Prop}{s:aci}{rk:acd->Nat}
def Wu (C:Cmp P w A s kd rk good){n ok':Nat}{Q:Bool->ado->Prop}(ok:SOk kd rk good st)(h1:1<=ok')(hn:ok'<=n)(hz:lo+n<=(adg st).size)(hr:aY rk (adg st) lo (lo+ok'))
  (q:∀ b,Within (adg st) b lo (lo+n)->aY rk b lo (lo+n)->Q true (afK st b)):wpS (acP P w) A E s (binarySort' lo n ok') Q st:=by
 rw [binarySort'_eq];refine acz (afh (adU
  (I:=fun x c st'=>c=(none,())/\∃ b,st'=afK st b/\Within (adg st) b lo (lo+n)/\aY rk b lo (lo+x)/\x<=n)
  (Q:=fun c st'=>c=(none,())/\∃ b,st'=afK st b/\Within (adg st) b lo (lo+n)/\aY rk b lo (lo+n)) ?_ ?_ ⟨rfl,adg st,(jF st).symm,.refl _ _ _,by rw [Nat.max_eq_left h1];exact hr,by omega⟩) ?_)
 ·rintro x c st' hx1 hx2 ⟨rfl,b,rfl,hw,hb,_⟩;have okb:SOk kd rk good (afK st b):=ok.arr hw.perm;have zb:(adg (afK st b)).size=(adg st).size:=hw.size;have zb':b.size=(adg st).size:=hw.size;have ne:∀ {i j:Nat},i<b.size->j<b.size->i≠j->Rk rk b i≠Rk rk b j:=fun hi hj c e=>c (okb.keys.ne hi hj e)
  refine acz (afh (adU
   (I:=fun y c st2=>st2=afK st b/\∃ l r,c=(none,l,r)/\l<=r/\r<=x/\r - l<=x - y/\(∀ p,lo<=p->p<lo+l->Rk rk b p<Rk rk b (lo+x))/\∀ p,lo+r<=p->p<lo+x->Rk rk b (lo+x)<Rk rk b p)
   (Q:=fun c st2=>st2=afK st b/\∃ l,c=(none,l,l)/\l<=x/\(∀ p,lo<=p->p<lo+l->Rk rk b p<Rk rk b (lo+x))/\∀ p,lo+l<=p->p<lo+x->Rk rk b (lo+x)<Rk rk b p) ?_ ?_ ⟨rfl,0,x,rfl,adu _,acj _,by omega,fun p h2 h3=>by omega,fun p h2 h3=>by omega⟩) ?_)
  ·rintro y c st2 hy1 hy2 ⟨rfl,l,r,rfl,a1,a2,a3,a4,a5⟩;dsimp only;by_cases c:l>=r
   ·rw [if_pos c];have e:l=r:=by omega
    subst e;exact acy ⟨rfl,l,rfl,a2,a4,a5⟩
   ·rw [if_neg c];refine acz<|rF C okb (by omega) (by omega) ?_
    by_cases c2:Rk rk (adg (afK st b)) (lo+x)<Rk rk (adg (afK st b)) (lo+(l+r) / 2)
    ·rw [decide_eq_true c2];refine acy ⟨rfl,l,(l+r) / 2,rfl,by omega,by omega,by omega,a4,fun p h2 h3=>?_⟩;have c2:Rk rk b (lo+x)<Rk rk b (lo+(l+r) / 2):=c2;by_cases c3:p=lo+(l+r) / 2
     ·rw [c3];exact c2
     ·exact agu c2<|hb _ p (by omega) (by omega)<|by omega
    ·rw [decide_eq_false c2];have c2:¬ Rk rk b (lo+x)<Rk rk b (lo+(l+r) / 2):=c2;have:=ne (i:=lo+x) (j:=lo+(l+r) / 2) (by omega) (by omega) (by omega)
     refine acy ⟨rfl,(l+r) / 2+1,r,rfl,by omega,by omega,by omega,fun p h2 h3=>?_,a5⟩;by_cases c3:p=lo+(l+r) / 2
     ·rw [c3];omega
     ·have:=hb p (lo+(l+r) / 2) (by omega) (by omega) (by omega)
      omega
  ·rintro c st2 ⟨rfl,l,r,rfl,a1,a2,a3,a4,a5⟩;have e:l=r:=by omega
   subst e;exact ⟨rfl,l,rfl,a2,a4,a5⟩
  ·rintro c st2 ⟨rfl,l,rfl,a2,a4,a5⟩;dsimp only;rw [moveDown'_eq];refine acz<|agf ?_
   have hbu:∀ k,(bubble b (lo+x) (lo+x - (lo+l)))[k]?=if k=lo+l then b[lo+x]? else if lo+l<k/\k<=lo+x then b[k - 1]? else b[k]?:=fun k=>by
    have:=getElem?_bubble (xs:=b) (src:=lo+x) (by omega) (lo+x - (lo+l)) (by omega) k
    rw [show lo+x - (lo+x - (lo+l))=lo+l by omega] at this;exact this
   have hR:∀ k,Rk rk (bubble b (lo+x) (lo+x - (lo+l))) k=if k=lo+l then Rk rk b (lo+x) else if lo+l<k/\k<=lo+x then Rk rk b (k - 1) else Rk rk b k:=fun k=>by
    have e:=hbu k;split
    ·rename_i c;rw [if_pos c] at e;exact yg e
    ·rename_i c;rw [if_neg c] at e;split
     ·rename_i c2;rw [if_pos c2] at e;exact yg e
     ·rename_i c2;rw [if_neg c2] at e;exact yg e
   refine acy ⟨rfl,bubble b (lo+x)<|lo+x - (lo+l),rfl,hw.trans ⟨bubble_perm _ _ _,fun k hk=>?_⟩,fun u v h2 h3 h4=>?_,by omega⟩
   ·rw [hbu,if_neg (by omega),if_neg (by omega)]
   ·rw [hR,hR];by_cases c1:u=lo+l
    ·rw [if_pos c1];by_cases c2:v=lo+l
     ·omega
     ·rw [if_neg c2,if_pos (by omega)];exact a5 _ (by omega)<|by omega
    ·rw [if_neg c1];by_cases c3:lo+l<u/\u<=lo+x
     ·rw [if_pos c3,if_neg (by omega),if_pos (by omega)];exact hb _ _ (by omega) (by omega)<|by omega
     ·rw [if_neg c3];by_cases c2:v=lo+l
      ·rw [if_pos c2];exact a4 _ (by omega)<|by omega
      ·rw [if_neg c2];by_cases c4:lo+l<v/\v<=lo+x
       ·rw [if_pos c4];by_cases c5:u=v - 1
        ·omega
        ·exact hb _ _ (by omega) (by omega)<|by omega
       ·rw [if_neg c4];exact hb _ _ (by omega) (by omega)<|by omega
 ·rintro c st' ⟨rfl,b,rfl,hw,hb,hx⟩;rw [show max (max ok' 1) n=n by omega] at hb;exact ⟨rfl,b,rfl,hw,hb⟩
 ·rintro c st' ⟨rfl,b,rfl,hw,hb⟩;exact acy<|q b hw hb
end
section
variable {P:acK}{w:adt}{A:acY}{E:acd->aci->Prop}{s:aci}{rk:acd->Nat}
end
def Bp (h:Heap)(d:Addr)(es:Array afM)(ep:Nat):Prop:=∃ o,h.get? d=some o/\o.ExactDict/\o.data=.dict es ep
variable {d : Addr}{ep : Nat}
def Bp.of {h h':Heap}{es:Array afM}(x:Bp h d es ep)(e:∀ o,h.get? d=some o->h'.get? d=some o):Bp h' d es ep:=by
 obtain ⟨o,g,r⟩:=x;exact ⟨o,e o g,r⟩
def Bp.ty {s:aci}{es:Array afM}(x:Bp s.heap d es ep):s.TypeIs (.ref d) "dict":=by
 obtain ⟨o,g,r,_⟩:=x;exact ⟨o,g,r.1⟩
section
variable {P:acK}{w:adt}{A:acY}{E:acd->aci->Prop}{s:aci}{it:Addr}{es:Array afM}{i:Nat}
def K6 {Q:acd->aci->Prop}(nd:(d==aeu)=false)(x:Bp s.heap d es ep)
  (q:Q (.ref s.heap.objs.size) { s with heap:=s.heap.push { cls:=.type "dict_keyiterator",data:=.fields #[.ref d,.int 0 0,.int es.size 0,.int ep 0] } }):acL (acP P w) A (pyIter (.ref d)) Q E s:=by
 have gT:=x.ty;obtain ⟨o,g,gc,gd⟩:=x;refine wpAny_pyIter_slot gT F.slot_dict_iter<|adS F.slot_dict_iter gT F.entry_dict_iter ?_<|F.args_dict_iter_1 _
 unfold acV.«dict.__iter__» Builtin.Dict.dictSlotNone;refine abY<|abY<|wpAny_notOrdered_dict gT ?_
 show acL _ _ (pure (Value.ref d)) _ _ s;refine ach ?_;show acL _ _ (Builtin.Dict.showsAll d >>= _) _ _ s;unfold Builtin.Dict.showsAll;rw [nd,if_neg acZ];refine abY<|ach<|abY<|wpAny_dictEntries g gd<|abY<|wpAny_dictEpoch g gd ?_
 refine abY<|adq<|ach ⟨_,rfl, "dict_keyiterator",_,⟨_,acw _ rfl,rfl⟩,aeQ.lookup,?_⟩
 simpa [aha] using q
def KH {Q:Option acd->aci->Prop}(gi:s.heap.IsKeyIter it d i es.size ep)(x:Bp s.heap d es ep)(hi:i<es.size)
  (q:∀ h',h'.IsKeyIter it d (i+1) es.size ep->aez it s.heap h'->Q (some es[i].key) { s with heap:=h' }):acL (acP P w) A (agS (.ref it)) Q E s:=by
 obtain ⟨u,gu,gc,gd⟩:=id gi;obtain ⟨o,g,_,ge⟩:=x;unfold agS;refine abY<|agK<|adO (name:=afz "__next__") gi.typeIs aeQ<|adS aeQ gi.typeIs F.entry_dict_keyiterator_next ?_<|F.args_dict_keyiterator_next_1 _
 refine abY<|ach<|abY<|abY ?_
 first
  | refine abY (afx gi.typeIs (ach ?_))
  | refine abY (agg gi.typeIs (ach ?_))
 refine abY<|wpAny_fieldsOf gu gd ?_
 have ow:Builtin.Dict_items.ownsTuple "dict_keyiterator" = false:=by decide
 simp only [ow,adx,if_false];show acL _ _ (if (Value.ref d==Value.none)=true then _ else _) _ _ s;rw [if_neg (by exact acZ)];refine abY<|ach<|abY<|wpAny_dictEntries g ge ?_
 rw [if_neg (by simp)];refine abY<|ach<|abY<|wpAny_dictEpoch g ge ?_
 rw [if_neg (by simp)];refine ach ?_;simp only [show ¬ ((i:Int)<0) from by omega,if_false,afI,adP hi];refine abY ?_;first
  | refine abY (afx gi.typeIs (ach ?_))
  | refine abY (agg gi.typeIs (ach ?_))
 refine abY<|wpAny_isOneOf_keyiter gi.typeIs ?_
 show acL _ _ (setField (.ref it) 1 (aha ((i:Int)+1)) >>= _) _ _ s;refine abY<|wpAny_setField gu gd (by simp) ?_
 have g2:(s.heap.update it (Obj.mapFields (·.setIfInBounds 1 (aha ((i:Int)+1))))).IsKeyIter it d (i+1) es.size ep:=by
  refine ⟨_,afd _ gu<|Obj.isFreed_of_fields<|agc gd _,(Obj.cls_mapFields ..).trans gc,?_⟩;rw [agc gd];simp [aha]
 refine abY<|adB<|abY<|wpAny_isOneOf_keyiter (s:={ s with heap:=s.heap.update it (Obj.mapFields (·.setIfInBounds 1 (aha<|(i:Int)+1))) }) g2.typeIs ?_
 show acL _ _ (pure es[i].key) _ _ _;exact ach<|ach ⟨_,rfl,ach<|q _ g2<|agl ..⟩
def Lq {Q:Option acd->aci->Prop}(hh:A.handled=none)(gi:s.heap.IsKeyIter it d es.size es.size ep)(x:Bp s.heap d es ep)(q:∀ h',agV it s.heap h'->Q none { s with heap:=h' }):acL (acP P w) A (agS (.ref it)) Q E s:=by
 obtain ⟨u,gu,gc,gd⟩:=id gi;obtain ⟨o,g,_,ge⟩:=x;unfold agS;refine abY<|agK<|adO (name:=afz "__next__") gi.typeIs aeQ<|adS aeQ gi.typeIs F.entry_dict_keyiterator_next ?_<|F.args_dict_keyiterator_next_1 _
 refine abY<|ach<|abY<|abY ?_
 first
  | refine abY (afx gi.typeIs (ach ?_))
  | refine abY (agg gi.typeIs (ach ?_))
 refine abY<|wpAny_fieldsOf gu gd ?_
 have ow:Builtin.Dict_items.ownsTuple "dict_keyiterator" = false:=by decide
 simp only [ow,adx,if_false];show acL _ _ (if (Value.ref d==Value.none)=true then _ else _) _ _ s;rw [if_neg (by exact acZ)];refine abY<|ach<|abY<|wpAny_dictEntries g ge ?_
 rw [if_neg (by simp)];refine abY<|ach<|abY<|wpAny_dictEpoch g ge ?_
 rw [if_neg (by simp)];refine ach ?_;simp only [show ¬ ((es.size:Int)<0) from by omega,if_false,afI,Array.getElem?_eq_none (acj es.size)];refine abY ?_;first
  | refine abY (afx gi.typeIs (ach ?_))
  | refine abY (agg gi.typeIs (ach ?_))
 show acL _ _ (setField (.ref it) 0 .none >>= _) _ _ s;refine abY<|wpAny_setField gu gd (by simp) ?_
 show acL _ _ (newExc (.type "StopIteration") [] >>= _) _ _ _;refine abY ?_;simp only [newExc,newTuple];refine abY<|adq ?_<|by size_fits
 refine abY (m:=agB _ _)<|wpAny_of_eq (a:=Value.none) (by first | rfl | (simp only [agB];rfl)) ?_
 refine adq ?_<|by size_fits
 simp only [raiseNew];refine abY<|wpAny_handled ?_
 rw [show A.in1.handled=none from hh];refine abY<|ach<|wpAny_throw ?_
 refine abY<|wpAny_isInstance (b:=true) (T := "StopIteration") ⟨_,acw _ rfl,rfl⟩ isSubtype_stop ?_
 exact ach<|q _<|((agl ..).extBut.push _).push _
def Dg (hh:A.handled=none)(I d:Addr)(ne:d≠I)(es:Array afM)(ep:Nat):
  Walks P w A I [I,d] [I] es.size (fun i v=>∃ h:i<es.size,v=es[i].key) (fun i h=>h.IsKeyIter I d i es.size ep/\Bp h d es ep) where
 sub:=fun b hb=>by simp at hb;simp [hb]
 frame:=fun i h h' st k=>⟨by obtain ⟨⟨o,g,r⟩,_⟩:=st;exact ⟨o,k I (by simp) o g,r⟩,st.2.of fun o e=>k d (by simp) o e⟩
 item:=fun i s Q E hi st q=>KH st.1 st.2 hi fun h' g sb=>q _ h' s.toks ⟨hi,rfl⟩ ⟨g,st.2.of fun o e=>sb.extBut d o ne e⟩ fun b o hb e=>sb.extBut b o (fun z=>hb (by simp [z])) e
 done:=fun s Q E st q=>Lq hh st.1 st.2 fun h' eb=>q h' s.toks fun b o hb e=>eb b o (fun z=>hb (by simp [z])) e
 self:=fun _ _ _ _ st q=>wpAny_pyIter_keyiter st.1 q
def Ol (nd:(d==aeu)=false):PySem.W.KdlSrc P w "dict" d d es.size (fun i v=>∃ h:i<es.size,v=es[i].key) (fun h=>Bp h d es ep) where
 type:=fun _ x=>x.ty
 there:=fun _ x=>by obtain ⟨o,g,_⟩:=x;exact ⟨acs g,acs g⟩
 keep:=fun _ _ x k=>x.of fun o e=>k d (.inl rfl) o e
 notList:=by decide
 notTuple:=by decide
 hint:=fun _ _ _ _ x q=>PySem.W.kdl_hint_dict x.ty q
 iter:=fun _ s hh x=>by
  have lt:d<s.heap.objs.size:=by obtain ⟨o,g,_⟩:=x;exact acs g
  exact ⟨_,_,fun _ _ q=>K6 nd x q,Dg hh _ d (acI lt) es ep,⟨_,acw _ rfl,rfl,rfl⟩,x.of fun o e=>ace _ e⟩
def qb {Q:List acd->aci->Prop}(hh:A.handled=none)(nd:(d==aeu)=false)(x:Bp s.heap d es ep)(hz:es.size<=acM)
  (q:∀ h' tk,(∀ b o,s.heap.get? b=some o->h'.get? b=some o)->s.heap.objs.size<h'.objs.size->Q (es.toList.map (·.key)) { s with heap:=h',toks:=tk }):acL (acP P w) A (collect (.ref d)) Q E s:=by
 have lt:d<s.heap.objs.size:=by obtain ⟨o,g,_⟩:=x;exact acs g
 unfold collect;refine abY<|wpAny_runValue<|afq F.entry_proto_collect ?_
 rw [aeH F.plain_proto_collect _];show acL _ A.in1 (newList [] >>= fun l=>again (.builtin "list.__iadd__" ⟨[l,.ref d],[]⟩)) _ _ s;refine abY<|adq<|ach ⟨afQ F.plain_list_iadd _,afq F.entry_list_iadd ?_⟩
 rw [aeH F.plain_list_iadd _];have g0:(s.heap.push { cls:=.type "list",data:=.seq ([]:List acd).toArray }).get? s.heap.objs.size=some { cls:=.type "list",data:=.seq ([]:List acd).toArray }:=acw _ rfl;show acL _ A.in1 (afp (.ref s.heap.objs.size) (.ref d) (.ref s.heap.objs.size)) _ _ _;have fin:∀ (f:Flow) (s':aci),(f=.ret (.ref s.heap.objs.size)/\∃ h' tk acc c,s' = { s with heap:=h',toks:=tk }/\(∀ b o,b≠s.heap.objs.size->(s.heap.push { cls:=.type "list",data:=.seq ([]:List acd).toArray }).get? b=some o->h'.get? b=some o)/\h'.get? s.heap.objs.size=some { cls:=.type "list",dict:=none,data:=.seq acc c,slots:=#[] }/\ItemsOf (fun i v=>∃ h:i<es.size,v=es[i].key) acc es.size) ->
   ∃ v,f=.ret v/\acL (acP P w) A (match v with
    | Value.ref a=>do
     let u <-load a
     match u.data with
     | Data.seq xs _=>pure xs.toList
     | _=>unsupported "internal:collect"
    | _=>unsupported "internal:collect") Q E s':=by
  rintro f s' ⟨rfl,h',tk,acc,c,rfl,k,e,it⟩;refine ⟨_,rfl,?_⟩;show acL _ A (load s.heap.objs.size >>= _) _ _ _;refine abY<|wpAny_load e ?_
  have ea:acc.toList=es.toList.map (·.key):=by
   refine List.ext_getElem? fun j=>?_;rw [acu,ael,ael];by_cases hj:j<es.size
   ·have hj':j<acc.size:=by rw [it.1];exact hj
    obtain ⟨_,ev⟩:=it.2 j acc[j] (adP hj');rw [adP hj',adP hj,ev];rfl
   ·rw [Array.getElem?_eq_none (by rw [it.1];omega),Array.getElem?_eq_none (by omega)];rfl
  refine ach ?_;rw [ea];exact q h' tk (fun b o g=>k b o (acI<|acs g)<|ace _ g)<|acs e
 refine aed (PySem.W.kdl_extend (s:={ s with heap:=s.heap.push { cls:=.type "list",data:=.seq ([]:List acd).toArray } }) (R:=fun r s'=>match r with
  | .ok f=>f=.ret (.ref s.heap.objs.size)/\∃ h' tk acc c,s' = { s with heap:=h',toks:=tk }/\(∀ b o,b≠s.heap.objs.size->(s.heap.push { cls:=.type "list",data:=.seq ([]:List acd).toArray }).get? b=some o->h'.get? b=some o)/\h'.get? s.heap.objs.size=some { cls:=.type "list",dict:=none,data:=.seq acc c,slots:=#[] }/\ItemsOf (fun i v=>∃ h:i<es.size,v=es[i].key) acc es.size
  | .error _=>False) (Ol (es:=es) (ep:=ep) nd) hh (x.of fun o e=>ace _ e) s.heap.objs.size (adR lt) (adR lt) _ 0 g0 (fun h' tk acc c k e it=>⟨rfl,h',tk,acc,c,rfl,k,e,it⟩) hz) (fun r s' hr=>?_) fun e s' hr=>hr.elim
 cases r with
 | done f=>
  obtain ⟨v,rfl,q'⟩:=fin f s' hr;exact q'
 | again c=>
  refine ⟨hr.1,codeAny_mono hr.2 fun r s' hr=>?_⟩;cases r with
  | error e=>exact hr.elim
  | ok f=>
   obtain ⟨v,rfl,q'⟩:=fin f s' hr;exact q'
end
def gal:Bool->ada->Array ada->Nat->Nat->Nat->StateT ado Sem (Option Nat):=sortPriv% PySem.Builtin.gallop
section
variable {P:acK}{w:adt}{A:acY}{E:acd->aci->Prop}{s:aci}{rk:acd->Nat}
def Bey (rk:acd->Nat)(left:Bool)(key:ada)(a:Array ada)(i:Nat):Bool:=if left then decide (Rk rk a i<rk key.1) else !decide (rk key.1<Rk rk a i)
def abG (left:Bool)(key:ada)(a:Array ada)(base i:Nat):StateT ado Sem (Option Bool):=elem' a (base+i) >>= fun x=>if left=true then lt' x key else lt' key x >>= fun r=>pure (r.map (! ·))
def Hg (C:Cmp P w A s kd rk good){left:Bool}{key:ada}{base i:Nat}{Q:Option Bool->ado->Prop}(hk:afG st=kd)(ka:∀ p∈a.toList,good p.1)(kg:good key.1)(hi:base+i<a.size)(q:Q (some (Bey rk left key a (base+i))) st):wpS (acP P w) A E s (abG left key a base i) Q st:=by
 refine acz<|cM hi ?_
 have gi:good a[base+i].1:=ka _ (by simp);unfold Bey at q;rw [eH hi] at q;cases left with
 | true=>exact w_lt C hk gi kg q
 | false=>exact acz (w_lt C hk kg gi (acy q))
set_option maxHeartbeats 1000000 in
def Bm (C:Cmp P w A s kd rk good){left:Bool}{key:ada}{base n hint:Nat}{Q:Option Nat->ado->Prop}(hk:afG st=kd)(ka:∀ p∈a.toList,good p.1)(kg:good key.1)(hz:base+n<=a.size)(hh:hint<n)
  (mono:∀ i j,i<=j->j<n->Bey rk left key a (base+j)=true->Bey rk left key a (base+i)=true)
  (q:∀ m,m<=n->(∀ i,i<m->Bey rk left key a (base+i)=true)->(∀ i,m<=i->i<n->Bey rk left key a (base+i)=false)->Q (some m) st):wpS (acP P w) A E s (gal left key a base n hint) Q st:=by
 have anti:∀ i j,i<=j->j<n->Bey rk left key a (base+i)=false->Bey rk left key a (base+j)=false:=fun i j h1 h2 h3=>by
  cases e:Bey rk left key a (base+j) with
  | false=>rfl
  | true=>rw [mono i j h1 h2 e] at h3;cases h3
 refine acz<|Hg C hk ka kg (by omega) ?_
 dsimp only;cases hB:Bey rk left key a (base+hint) with
 | true=>
  rw [if_pos rfl];refine acz (afh (adU
   (I:=fun x c st'=>st'=st/\∃ l o,c=(none,l,o)/\l<o/\x<o/\hint+l<n/\Bey rk left key a (base+(hint+l))=true)
   (Q:=fun c st'=>st'=st/\∃ l o,c=(none,l,o)/\l<o/\hint+l<n/\Bey rk left key a (base+(hint+l))=true/\(n - hint<=o\/Bey rk left key a (base+(hint+o))=false)) ?_ ?_ ⟨rfl,0,1,rfl,by decide,by decide,by omega,hB⟩) ?_)
  ·rintro x c st' _ hx ⟨rfl,l,o,rfl,a1,a2,a3,a4⟩;dsimp only;by_cases c:o>=n - hint
   ·rw [if_pos c];exact acy ⟨rfl,l,o,rfl,a1,a3,a4,.inl c⟩
   ·rw [if_neg c];refine acz<|Hg C hk ka kg (by omega) ?_
    cases hm:Bey rk left key a (base+(hint+o)) with
    | true=>exact acy ⟨rfl,o,2*o+1,rfl,by omega,by omega,by omega,hm⟩
    | false=>exact acy ⟨rfl,l,o,rfl,a1,a3,a4,.inr hm⟩
  ·rintro c st' ⟨rfl,l,o,rfl,a1,a2,a3,a4⟩;exact ⟨rfl,l,o,rfl,a1,a3,a4,.inl<|by omega⟩
  ·rintro c st' ⟨rfl,l,o,rfl,a1,a3,a4,a5⟩;dsimp only;have b1:hint+l+1<=hint+min o (n - hint):=by omega
   have b2:hint+min o (n - hint)<=n:=by omega
   have b3:∀ i,i<hint+l+1->Bey rk left key a (base+i)=true:=fun i hi=>mono i (hint+l) (by omega) a3 a4
   have b4:∀ i,hint+min o (n - hint)<=i->i<n->Bey rk left key a (base+i)=false:=fun i h1 h2=>by
    rcases a5 with c | c
    ·omega
    ·exact anti (hint+o) i (by omega) h2 c
   refine acz (afh (adU
     (I:=fun x c st2=>st2=st'/\∃ l r,c=(none,l,r)/\l<=r/\r<=n/\r - l<=n - x/\(∀ i,i<l->Bey rk left key a (base+i)=true)/\∀ i,r<=i->i<n->Bey rk left key a (base+i)=false)
     (Q:=fun c st2=>st2=st'/\∃ m,c=(none,m,m)/\m<=n/\(∀ i,i<m->Bey rk left key a (base+i)=true)/\∀ i,m<=i->i<n->Bey rk left key a (base+i)=false) ?_ ?_ ⟨rfl,_,_,rfl,b1,b2,(acq (Nat.sub_le _ _) b2:_<=n - 0),b3,b4⟩) ?_)
   ·rintro x c st2 _ hx ⟨rfl,l,r,rfl,a1,a2,a3,a4,a5⟩;dsimp only;by_cases c:l>=r
    ·rw [if_pos c];have e:l=r:=by omega
     subst e;exact acy ⟨rfl,l,rfl,a2,a4,a5⟩
    ·rw [if_neg c];refine acz<|Hg C hk ka kg (by omega) ?_
     cases hm:Bey rk left key a (base+(l+(r - l) / 2)) with
     | true=>exact acy ⟨rfl,l+(r - l) / 2+1,r,rfl,by omega,a2,by omega,fun i hi=>mono i (l+(r - l) / 2) (by omega) (by omega) hm,a5⟩
     | false=>exact acy ⟨rfl,l,l+(r - l) / 2,rfl,by omega,by omega,by omega,a4,fun i h2 h3=>anti (l+(r - l) / 2) i h2 h3 hm⟩
   ·rintro c st2 ⟨rfl,l,r,rfl,a1,a2,a3,a4,a5⟩;have e:l=r:=by omega
    subst e;exact ⟨rfl,l,rfl,a2,a4,a5⟩
   ·rintro c st2 ⟨rfl,m,rfl,a1,a2,a3⟩;exact acy<|q m a1 a2 a3
 | false=>
  rw [if_neg acZ];refine acz (afh (adU
   (I:=fun x c st'=>st'=st/\∃ l o,c=(none,l,o)/\l<o/\x<o/\l<=hint/\Bey rk left key a (base+(hint - l))=false)
   (Q:=fun c st'=>st'=st/\∃ l o,c=(none,l,o)/\l<o/\l<=hint/\Bey rk left key a (base+(hint - l))=false/\(hint+1<=o\/Bey rk left key a (base+(hint - o))=true)) ?_ ?_ ⟨rfl,0,1,rfl,by decide,by decide,by omega,hB⟩) ?_)
  ·rintro x c st' _ hx ⟨rfl,l,o,rfl,a1,a2,a3,a4⟩;dsimp only;by_cases c:o>=hint+1
   ·rw [if_pos c];exact acy ⟨rfl,l,o,rfl,a1,a3,a4,.inl c⟩
   ·rw [if_neg c];refine acz<|Hg C hk ka kg (by omega) ?_
    cases hm:Bey rk left key a (base+(hint - o)) with
    | true=>exact acy ⟨rfl,l,o,rfl,a1,a3,a4,.inr hm⟩
    | false=>exact acy ⟨rfl,o,2*o+1,rfl,by omega,by omega,by omega,hm⟩
  ·rintro c st' ⟨rfl,l,o,rfl,a1,a2,a3,a4⟩;exact ⟨rfl,l,o,rfl,a1,a3,a4,.inl<|by omega⟩
  ·rintro c st' ⟨rfl,l,o,rfl,a1,a3,a4,a5⟩;dsimp only;have b1:hint+1 - min o (hint+1)<=hint - l:=by omega
   have b2:hint - l<=n:=by omega
   have b3:∀ i,i<hint+1 - min o (hint+1)->Bey rk left key a (base+i)=true:=fun i hi=>by
    rcases a5 with c | c
    ·omega
    ·exact mono i (hint - o) (by omega) (by omega) c
   have b4:∀ i,hint - l<=i->i<n->Bey rk left key a (base+i)=false:=fun i h1 h2=>anti (hint - l) i h1 h2 a4
   refine acz (afh (adU
     (I:=fun x c st2=>st2=st'/\∃ l r,c=(none,l,r)/\l<=r/\r<=n/\r - l<=n - x/\(∀ i,i<l->Bey rk left key a (base+i)=true)/\∀ i,r<=i->i<n->Bey rk left key a (base+i)=false)
     (Q:=fun c st2=>st2=st'/\∃ m,c=(none,m,m)/\m<=n/\(∀ i,i<m->Bey rk left key a (base+i)=true)/\∀ i,m<=i->i<n->Bey rk left key a (base+i)=false) ?_ ?_ ⟨rfl,_,_,rfl,b1,b2,(acq (Nat.sub_le _ _) b2:_<=n - 0),b3,b4⟩) ?_)
   ·rintro x c st2 _ hx ⟨rfl,l,r,rfl,a1,a2,a3,a4,a5⟩;dsimp only;by_cases c:l>=r
    ·rw [if_pos c];have e:l=r:=by omega
     subst e;exact acy ⟨rfl,l,rfl,a2,a4,a5⟩
    ·rw [if_neg c];refine acz<|Hg C hk ka kg (by omega) ?_
     cases hm:Bey rk left key a (base+(l+(r - l) / 2)) with
     | true=>exact acy ⟨rfl,l+(r - l) / 2+1,r,rfl,by omega,a2,by omega,fun i hi=>mono i (l+(r - l) / 2) (by omega) (by omega) hm,a5⟩
     | false=>exact acy ⟨rfl,l,l+(r - l) / 2,rfl,by omega,by omega,by omega,a4,fun i h2 h3=>anti (l+(r - l) / 2) i h2 h3 hm⟩
   ·rintro c st2 ⟨rfl,l,r,rfl,a1,a2,a3,a4,a5⟩;have e:l=r:=by omega
    subst e;exact ⟨rfl,l,rfl,a2,a4,a5⟩
   ·rintro c st2 ⟨rfl,m,rfl,a1,a2,a3⟩;exact acy<|q m a1 a2 a3
end
def mLo:Array ada->Array ada->StateT ado Sem (Array ada):=sortPriv% PySem.Builtin.mergeLo
def mHi:Array ada->Array ada->StateT ado Sem (Array ada):=sortPriv% PySem.Builtin.mergeHi
def Rb:Nat->StateT ado Sem Unit:=sortPriv% PySem.Builtin.setMinGallop
section
variable {rk:acd->Nat}
def SL (rk:acd->Nat)(l:List ada):Prop:=l.Pairwise fun x y=>rk x.1<rk y.1
def Be (rk:acd->Nat)(xs ys:List ada):Prop:=∀ x∈xs,∀ y∈ys,rk x.1<rk y.1
def ML (rk:acd->Nat)(A B out al bl:List ada):Prop:=∃ a1 b1,A=a1++al/\B=b1++bl/\out.Perm (a1++b1)/\SL rk out/\Be rk out al/\Be rk out bl
def Mrg (rk:acd->Nat)(A B r:List ada):Prop:=r.Perm (A++B)/\SL rk r
def ML.swap {A B out al bl:List ada}(h:ML rk A B out al bl):ML rk B A out bl al:=by
 obtain ⟨a1,b1,e1,e2,p,s,q1,q2⟩:=h;exact ⟨b1,a1,e2,e1,p.trans List.perm_append_comm,s,q2,q1⟩
def ML.pA {A B out xs al bl:List ada}(sa:SL rk A)(h:ML rk A B out (xs++al) bl)(hx:Be rk xs bl):ML rk A B (out++xs) al bl:=by
 obtain ⟨a1,b1,e1,e2,p,s,q1,q2⟩:=h;have sx:SL rk (xs++al):=by
  unfold SL at sa;rw [e1,aer] at sa;exact sa.2.1
 unfold SL at sx;rw [aer] at sx;refine ⟨a1++xs,b1,by rw [e1,adH],e2,?_,?_,?_,?_⟩
 ·refine (p.append_right xs).trans ?_;rw [adH,adH];exact List.Perm.append_left _ List.perm_append_comm
 ·unfold SL;rw [aer];exact ⟨s,sx.1,fun x hx y hy=>q1 x hx y<|adQ _ hy⟩
 ·intro x hx y hy;rcases adn.mp hx with hx | hx
  ·exact q1 x hx y<|adz _ hy
  ·exact sx.2.2 x hx y hy
 ·intro x hx' y hy;rcases adn.mp hx' with hx' | hx'
  ·exact q2 x hx' y hy
  ·exact hx x hx' y hy
def ML.pB {A B out xs al bl:List ada}(sb:SL rk B)(h:ML rk A B out al (xs++bl))(hx:Be rk xs al):ML rk A B (out++xs) al bl:=(h.swap.pA sb hx).swap
def ML.fin {A B out al:List ada}(sa:SL rk A)(h:ML rk A B out al []):Mrg rk A B (out++al):=by
 have h:ML rk A B out (al++[]) []:=by rw [aeT];exact h
 obtain ⟨a1,b1,e1,e2,p,s,_⟩:=h.pA sa fun _ _ _ h=>(nomatch h)
 rw [aeT] at e1 e2;rw [e1,e2];exact ⟨p,s⟩
def ML.fin2 {A B out al bl:List ada}(sa:SL rk A)(sb:SL rk B)(h:ML rk A B out al bl)(hx:Be rk bl al):Mrg rk A B (out++bl++al):=by
 have h:ML rk A B out al (bl++[]):=by rw [aeT];exact h
 exact (h.pB sb hx).fin sa
end
variable {B : List ada}
section
variable {P:acK}{w:adt}{A:acY}{E:acd->aci->Prop}{s:aci}{rk:acd->Nat}
def fj (st st':ado):Prop:=adg st'=adg st/\afG st'=afG st/\agZ st'=agZ st/\adD st'=adD st
def fj.refl (st:ado):fj st st:=⟨rfl,rfl,rfl,rfl⟩
def fj.trans {a b c:ado}(h:fj a b)(g:fj b c):fj a c:=⟨g.1.trans h.1,g.2.1.trans h.2.1,g.2.2.1.trans h.2.2.1,g.2.2.2.trans h.2.2.2⟩
def tB {g:Nat}{Q:Unit->ado->Prop}(q:∀ st',fj st st'->Q () st'):wpS (acP P w) A E s (Rb g) Q st:=agf (q _ (by cases st;exact ⟨rfl,rfl,rfl,rfl⟩))
structure Two (rk:acd->Nat) (good:acd->Prop) (a b:Array ada):Prop where
 sa:SL rk a.toList
 sb:SL rk b.toList
 ga:∀ p∈a.toList,good p.1
 gb:∀ p∈b.toList,good p.1
 ne:∀ x∈a.toList,∀ y∈b.toList,rk x.1≠rk y.1
def Q7 {i:Nat}(h:i<a.size):a.toList.drop i=a[i]::a.toList.drop (i+1):=by
 rw [aej (by simpa using h)];simp
def Yn (a:Array ada)(i k:Nat)(h:i+k<=a.size):a.toList.drop i=(a.extract i (i+k)).toList++a.toList.drop (i+k):=by
 rw [agw];have e:i+k - i=k:=by omega
 simp only [afP,e];rw [<-List.drop_drop,agq]
def ur (a:Array ada)(i:Nat):(a.extract i a.size).toList=a.toList.drop i:=by
 rw [agw,afP,aev (by simp)]
def ext_get {i k:Nat}{x:ada}(h:i+k<=a.size)(hx:x∈(a.extract i (i+k)).toList):∃ j,j<k/\∃ hj:i+j<a.size,x=a[i+j]:=by
 obtain ⟨j,hj,e⟩:=Array.mem_iff_getElem.mp (Array.mem_def.mpr hx);have hj':j<k:=by simp at hj;omega
 exact ⟨j,hj',by omega,by rw [<-e];simp⟩
def gW {i:Nat}{x:ada}(hx:x∈a.toList.drop i):∃ j,i<=j/\∃ hj:j<a.size,x=a[j]:=by
 obtain ⟨k,hk,e⟩:=afJ.mp hx;rw [List.length_drop] at hk;refine ⟨i+k,by omega,by simp at hk;omega,?_⟩;rw [<-e,List.getElem_drop];simp
def SL.lt (h:SL rk a.toList){i j:Nat}(hij:i<j)(hj:j<a.size):rk (a[i]'(by omega)).1<rk a[j].1:=by
 have:=aei.mp h i j (by simp;omega) (by simpa using hj) hij
 simpa using this
def SL.le (h:SL rk a.toList){i j:Nat}(hij:i<=j)(hj:j<a.size):rk (a[i]'(by omega)).1<=rk a[j].1:=by
 rcases Nat.lt_or_ge i j with c | c
 ·exact aen<|h.lt c hj
 ·have:i=j:=by omega
  subst this;exact acj _
structure LI (rk:acd->Nat) (a b out:Array ada) (ia ib:Nat):Prop where
 ml:ML rk a.toList b.toList out.toList (a.toList.drop ia) (b.toList.drop ib)
 ia:ia+1<a.size
 ib:ib<b.size
def Ay (rk:acd->Nat)(a b:Array ada):Prop:=∀ (h:0<a.size),∀ y∈b.toList,rk y.1<rk (a[a.size - 1]).1
def kO (out:Array ada)(x:ada):(out.push x).toList=out.toList++[x]:=by simp
def WQ {out:Array ada}{ia ib:Nat}(T:Two rk good a b)(h:ML rk a.toList b.toList out.toList (a.toList.drop ia) (b.toList.drop ib))(hi:ia<a.size)(hx:∀ y∈b.toList.drop ib,rk a[ia].1<rk y.1):ML rk a.toList b.toList (out.push a[ia]).toList (a.toList.drop (ia+1)) (b.toList.drop ib):=by
 rw [kO];refine ML.pA T.sa (xs:=[a[ia]]) ?_ fun x h y hy=>?_
 ·rw [List.singleton_append,<-Q7 hi];exact h
 ·rw [acT.mp h];exact hx y hy
def Pg {out:Array ada}{ia ib:Nat}(T:Two rk good a b)(h:ML rk a.toList b.toList out.toList (a.toList.drop ia) (b.toList.drop ib))(hi:ib<b.size)(hx:∀ y∈a.toList.drop ia,rk b[ib].1<rk y.1):ML rk a.toList b.toList (out.push b[ib]).toList (a.toList.drop ia) (b.toList.drop (ib+1)):=by
 rw [kO];refine ML.pB T.sb (xs:=[b[ib]]) ?_ fun x h y hy=>?_
 ·rw [List.singleton_append,<-Q7 hi];exact h
 ·rw [acT.mp h];exact hx y hy
def ZS {out:Array ada}{ia ib k:Nat}(T:Two rk good a b)(h:ML rk a.toList b.toList out.toList (a.toList.drop ia) (b.toList.drop ib))(hi:ia+k<=a.size)(hx:Be rk (a.extract ia (ia+k)).toList (b.toList.drop ib)):ML rk a.toList b.toList (out++a.extract ia (ia+k)).toList (a.toList.drop (ia+k)) (b.toList.drop ib):=by
 rw [adY];refine ML.pA T.sa ?_ hx;rw [<-Yn a ia k hi];exact h
def aag {out:Array ada}{ia ib k:Nat}(T:Two rk good a b)(h:ML rk a.toList b.toList out.toList (a.toList.drop ia) (b.toList.drop ib))(hi:ib+k<=b.size)(hx:Be rk (b.extract ib (ib+k)).toList (a.toList.drop ia)):ML rk a.toList b.toList (out++b.extract ib (ib+k)).toList (a.toList.drop ia) (b.toList.drop (ib+k)):=by
 rw [adY];refine ML.pB T.sb ?_ hx;rw [<-Yn b ib k hi];exact h
def o7 {out:Array ada}{ia ib:Nat}(T:Two rk good a b)(h:ML rk a.toList b.toList out.toList (a.toList.drop ia) (b.toList.drop ib))(e:ib=b.size):Mrg rk a.toList b.toList (out++a.extract ia a.size++b.extract ib b.size).toList:=by
 have eb:b.toList.drop ib=[]:=by rw [e];simp
 rw [adY,adY,ur,ur,eb,aeT];rw [eb] at h;exact h.fin T.sa
def tU {out:Array ada}{ia ib:Nat}(T:Two rk good a b)(hL:Ay rk a b)(h:ML rk a.toList b.toList out.toList (a.toList.drop ia) (b.toList.drop ib))(e:ia+1=a.size):Mrg rk a.toList b.toList (out++b.extract ib b.size++a.extract ia a.size).toList:=by
 rw [adY,adY,ur,ur];refine h.fin2 T.sa T.sb fun x hx y hy=>?_;rw [Q7 (by omega)] at hy;have hn:a.toList.drop (ia+1)=[]:=by rw [e];simp
 rw [hn,acT] at hy;rw [hy];have:=hL (by omega) x (List.mem_of_mem_drop hx)
 have ei:a.size - 1=ia:=by omega
 simpa only [ei] using this
def jN {α : Type}{c:Prop}[Decidable c]{m1 m2:StateT ado Sem α}{Q:α->ado->Prop}(h1:wpS (acP P w) A E s m1 Q st)(h2:wpS (acP P w) A E s m2 Q st):wpS (acP P w) A E s (if c then m1 else m2) Q st:=by
 split
 ·exact h1
 ·exact h2
def wN {key:ada}{i:Nat}(hi:i<a.size):Bey rk true key a i=decide (rk a[i].1<rk key.1):=by unfold Bey;rw [if_pos rfl,eH hi]
def xW {key:ada}{i:Nat}(hi:i<a.size):Bey rk false key a i = !decide (rk key.1<rk a[i].1):=by unfold Bey;rw [if_neg acZ,eH hi]
def cg {i:Nat}(h:i<a.size):a[i]∈a.toList:=by simp
def ifT {α : Type}{c:Prop}[Decidable c]{m1 m2:StateT ado Sem α}{Q:α->ado->Prop}(h:c)(x:wpS (acP P w) A E s m1 Q st):wpS (acP P w) A E s (if c then m1 else m2) Q st:=by rw [if_pos h];exact x
def ifF {α : Type}{c:Prop}[Decidable c]{m1 m2:StateT ado Sem α}{Q:α->ado->Prop}(h:¬ c)(x:wpS (acP P w) A E s m2 Q st):wpS (acP P w) A E s (if c then m1 else m2) Q st:=by rw [if_neg h];exact x
def Jw {α : Type}{out:Array ada}{ia ib:Nat}{c:Prop}[Decidable c]{E1 E2 E3:ada->StateT ado Sem α}{Q:α->ado->Prop}(T:Two rk good a b)(hL:Ay rk a b)(h:ML rk a.toList b.toList out.toList (a.toList.drop ia) (b.toList.drop ib))(h1:ia+1<a.size)(h2:ib<b.size)
  (hx:∀ y∈b.toList.drop ib,rk (a[ia]'(by omega)).1<rk y.1)
  (q1:∀ x,Mrg rk a.toList b.toList (out.push x++b.extract ib b.size++a.extract (ia+1) a.size).toList->wpS (acP P w) A E s (E1 x) Q st)
  (q2:∀ x,LI rk a b (out.push x) (ia+1) ib->wpS (acP P w) A E s (E2 x) Q st) (q3:∀ x,LI rk a b (out.push x) (ia+1) ib->wpS (acP P w) A E s (E3 x) Q st) :
  wpS (acP P w) A E s (elem' a ia >>= fun x=>if (ia+1+1==a.size)=true then E1 x else if c then E2 x else E3 x) Q st:=by
 refine acz<|cM (by omega) ?_
 have m:=WQ T h (by omega) hx;by_cases e:ia+1+1=a.size
 ·exact ifT (by simpa using e)<|q1 _<|tU T hL m e
 ·refine ifF (by simpa using e) ?_;have li:LI rk a b (out.push (a[ia]'(by omega))) (ia+1) ib:=⟨m,by omega,h2⟩
  exact jN (q2 _ li)<|q3 _ li
set_option maxHeartbeats 1000000 in
def Xe (C:Cmp P w A s kd rk good){α : Type}{out:Array ada}{ia ib:Nat}{D1:ada->StateT ado Sem α}{K:ada->ada->Option Nat->StateT ado Sem α}{Q:α->ado->Prop}(T:Two rk good a b)(h:ML rk a.toList b.toList out.toList (a.toList.drop ia) (b.toList.drop ib))(h1:ia+1<a.size)(h2:ib<b.size)(hk:afG st=kd)
  (hx:∀ y∈a.toList.drop ia,rk b[ib].1<rk y.1)
  (q1:∀ y,Mrg rk a.toList b.toList (out.push y++a.extract ia a.size++b.extract (ib+1) b.size).toList->wpS (acP P w) A E s (D1 y) Q st)
  (q2:∀ x y k,ib+1<b.size->ib+1+k<=b.size->ML rk a.toList b.toList (out.push y++b.extract (ib+1) (ib+1+k)).toList (a.toList.drop ia) (b.toList.drop (ib+1+k))->(∀ z∈b.toList.drop (ib+1+k),rk (a[ia]'(by omega)).1<rk z.1)->wpS (acP P w) A E s (K y x (some k)) Q st) :
  wpS (acP P w) A E s (elem' b ib >>= fun y=>if (ib+1==b.size)=true then D1 y else elem' a ia >>= fun x=>gal true x b (ib+1) (b.size - (ib+1)) 0 >>= K y x) Q st:=by
 refine acz<|cM h2 ?_
 have m:=Pg T h h2 hx;by_cases c:ib+1=b.size
 ·exact ifT (by simpa using c)<|q1 _<|o7 T m c
 ·refine ifF (by simpa using c) ?_;have ha:ia<a.size:=by omega
  refine acz<|cM ha ?_
  refine acz<|Bm C hk T.gb (T.ga _<|cg ha) (by omega) (by omega) (fun i j h3 h4 h5=>?_) fun k hk1 hk2 hk3=>?_
  ·rw [wN (by omega)] at h5 |-
   have:=T.sb.le (i:=ib+1+i) (j:=ib+1+j) (by omega) (by omega)
   simp at h5 |-
   omega
  ·refine q2 _ _ k (by omega) (by omega) (aag (k:=k) T m (by omega) fun x hx y hy=>?_) fun y hy=>?_
   ·obtain ⟨j,h3,h4,rfl⟩:=ext_get (by omega) hx;obtain ⟨i,h5,h6,rfl⟩:=gW hy;have:=hk2 j h3
    rw [wN (by omega)] at this;have:=T.sa.le h5 h6
    simp at *;omega
   ·obtain ⟨j,h3,h4,rfl⟩:=gW hy;have:=hk3 (j - (ib+1)) (by omega) (by omega)
    rw [wN (by omega)] at this;have ej:ib+1+(j - (ib+1))=j:=by omega
    simp only [ej] at this;have ne:=T.ne _ (cg ha) _ (cg h4);simp at this;omega
set_option maxHeartbeats 1000000 in
def Zh (C:Cmp P w A s kd rk good){α : Type}{out:Array ada}{ia ib g:Nat}{K:ada->Option Nat->StateT ado Sem α}{Q:α->ado->Prop}(T:Two rk good a b)(hL:Ay rk a b)(li:LI rk a b out ia ib)(hk:afG st=kd)
  (q:∀ y k st',fj st st'->ia+k<a.size->ML rk a.toList b.toList (out++a.extract ia (ia+k)).toList (a.toList.drop (ia+k)) (b.toList.drop ib)->(∀ z∈a.toList.drop (ia+k),rk (b[ib]'li.ib).1<rk z.1)->wpS (acP P w) A E s (K y (some k)) Q st') :
  wpS (acP P w) A E s (Rb g >>= fun _=>elem' b ib >>= fun y=>gal false y a ia (a.size - ia) 0 >>= K y) Q st:=by
 obtain ⟨h,h1,h2⟩:=li;refine acz<|tB fun st1 s1=>?_
 refine acz<|cM h2 ?_
 refine acz<|Bm C (s1.2.1.trans hk) T.ga (T.gb _<|cg h2) (by omega) (by omega) (fun i j h3 h4 h5=>?_) fun k q1 q2 q3=>?_
 ·rw [xW (by omega)] at h5 |-
  have:=T.sa.le (i:=ia+i) (j:=ia+j) (by omega) (by omega)
  simp at h5 |-
  omega
 ·have lk:ia+k<a.size:=by
   refine aeX fun z=>?_;have:=q2 (a.size - 1 - ia) (by omega)
   rw [xW (by omega)] at this;have ej:ia+(a.size - 1 - ia)=a.size - 1:=by omega
   simp only [ej] at this;have:=hL (by omega) _ (cg h2)
   simp at *;omega
  refine q _ k st1 s1 lk (ZS (k:=k) T h (by omega) fun x hx y hy=>?_) fun y hy=>?_
  ·obtain ⟨j,h3,h4,rfl⟩:=ext_get (by omega) hx;obtain ⟨i,h5,h6,rfl⟩:=gW hy;have:=q2 j h3
   rw [xW (by omega)] at this;have:=T.sb.le h5 h6
   have:=T.ne _ (cg h4) _ (cg h2)
   simp at *;omega
  ·obtain ⟨j,h3,h4,rfl⟩:=gW hy;have:=q3 (j - ia) (by omega) (by omega)
   rw [xW (by omega)] at this;have ej:ia+(j - ia)=j:=by omega
   simp only [ej] at this
   simpa using this
def ext_nil (out a:Array ada)(i:Nat):out++a.extract i (i+0)=out:=by simp [Nat.min_le_left]
set_option maxHeartbeats 2000000 in
def X5 (C:Cmp P w A s kd rk good){Q:Array ada->ado->Prop}(T:Two rk good a b)(hL:Ay rk a b)(ha:0<a.size)(hb:0<b.size)(hf:rk b[0].1<rk a[0].1)(hk:afG st=kd)
  (q:∀ r st',Mrg rk a.toList b.toList r.toList->fj st st'->Q r st'):wpS (acP P w) A E s (mLo a b) Q st:=by
 refine acz<|wpS_lift<|aeA ⟨rfl,?_⟩
 refine acz<|cM hb ?_
 have m0:ML rk a.toList b.toList (#[b[0]]:Array ada).toList (a.toList.drop 0) (b.toList.drop 1):=by
  have m:ML rk a.toList b.toList (#[]:Array ada).toList (a.toList.drop 0) (b.toList.drop 0):=⟨[],[],rfl,rfl,.nil,.nil,fun _ h=>(nomatch h),fun _ h=>(nomatch h)⟩
  exact Pg T m hb fun y hy=>by
   obtain ⟨j,_,h4,rfl⟩:=gW hy;exact acp hf<|T.sa.le (adu _) h4
 by_cases c1:1=b.size
 ·rw [if_pos (by simpa using c1)];exact acy<|q _ _ (o7 T m0 c1)<|.refl _
 rw [if_neg (by simpa using c1)];by_cases c2:0+1=a.size
 ·rw [if_pos (by simpa using c2)];exact acy<|q _ _ (tU T hL m0 c2)<|.refl _
 rw [if_neg (by simpa using c2)];refine acz<|agW ?_
 dsimp only;refine acz (afh (adU
  (I:=fun x c st'=>fj st st'/\∃ out ia ib mg,c=(none,out,ia,ib,mg)/\LI rk a b out ia ib/\1+x<=ia+ib)
  (Q:=fun c st'=>fj st st'/\∃ r rest,c=(some r,rest)/\Mrg rk a.toList b.toList r.toList) ?_ ?_ ⟨.refl _,_,0,1,_,rfl,⟨m0,by omega,by omega⟩,by omega⟩) ?_)
 ·rintro x c st' _ hx ⟨sm,out,ia,ib,mg,rfl,li,hp⟩;dsimp only;refine acz (afh (adU
   (I:=fun y c st2=>fj st st2/\∃ out ia ib ac bc,c=(none,out,ia,ib,ac,bc)/\LI rk a b out ia ib/\1+x+y<=ia+ib)
   (Q:=fun c st2=>fj st st2/\((∃ r rest,c=(some r,rest)/\Mrg rk a.toList b.toList r.toList)\/∃ out ia ib ac bc,c=(none,out,ia,ib,ac,bc)/\LI rk a b out ia ib/\2+x<=ia+ib)) ?_ ?_ ⟨sm,out,ia,ib,0,0,rfl,li,by omega⟩) ?_)
  ·rintro y c st2 _ hy ⟨sm2,out,ia,ib,ac,bc,rfl,⟨m,h1,h2⟩,hp2⟩;dsimp only;have hia:ia<a.size:=by omega
   refine acz<|cM h2<|acz<|cM hia<|acz<|w_lt C (sm2.2.1.trans hk) (T.gb _<|cg h2) (T.ga _<|cg hia) ?_
   dsimp only;by_cases cb:rk b[ib].1<rk a[ia].1
   ·rw [if_pos (by simpa using cb)];refine acz<|cM h2 ?_
    have m2:=Pg T m h2 fun y hy=>by
     obtain ⟨j,h3,h4,rfl⟩:=gW hy;exact acp cb<|T.sa.le h3 h4
    by_cases e:ib+1=b.size
    ·rw [if_pos (by simpa using e)];exact acy ⟨sm2,.inl ⟨_,_,rfl,o7 T m2 e⟩⟩
    ·rw [if_neg (by simpa using e)];have li2:LI rk a b (out.push b[ib]) ia (ib+1):=⟨m2,h1,by omega⟩
     split
     ·exact acy ⟨sm2,.inr ⟨_,_,_,_,_,rfl,li2,by omega⟩⟩
     ·exact acy ⟨sm2,_,_,_,_,_,rfl,li2,by omega⟩
   ·rw [if_neg (by simpa using cb)];refine acz<|cM hia ?_
    have m2:=WQ T m hia fun y hy=>by
     obtain ⟨j,h3,h4,rfl⟩:=gW hy;have:=T.sb.le h3 h4
     have:=T.ne _ (cg hia) _ (cg h2)
     omega
    by_cases e:ia+1+1=a.size
    ·rw [if_pos (by simpa using e)];exact acy ⟨sm2,.inl ⟨_,_,rfl,tU T hL m2 e⟩⟩
    ·rw [if_neg (by simpa using e)];have li2:LI rk a b (out.push a[ia]) (ia+1) ib:=⟨m2,by omega,h2⟩
     split
     ·exact acy ⟨sm2,.inr ⟨_,_,_,_,_,rfl,li2,by omega⟩⟩
     ·exact acy ⟨sm2,_,_,_,_,_,rfl,li2,by omega⟩
  ·rintro c st2 ⟨sm2,out,ia,ib,ac,bc,rfl,li2,hp2⟩;exact ⟨sm2,.inr ⟨_,_,_,_,_,rfl,li2,by omega⟩⟩
  ·rintro c st2 ⟨sm2,(⟨r,rest,rfl,hr⟩ | ⟨out,ia,ib,ac,bc,rfl,li2,hp2⟩)⟩
   ·exact acy ⟨sm2,_,_,rfl,hr⟩
   ·dsimp only;refine acz<|wpS_lift<|aeA ⟨rfl,?_⟩
    refine acz (afh (adU
     (I:=fun y c st3=>fj st st3/\∃ out ia ib mg ac bc,c=(none,out,ia,ib,mg,ac,bc)/\LI rk a b out ia ib/\2+x<=ia+ib)
     (Q:=fun c st3=>fj st st3/\((∃ r rest,c=(some r,rest)/\Mrg rk a.toList b.toList r.toList)\/∃ out ia ib mg ac bc,c=(none,out,ia,ib,mg,ac,bc)/\LI rk a b out ia ib/\2+x<=ia+ib)) ?_ ?_ ⟨sm2,out,ia,ib,mg+1,ac,bc,rfl,li2,hp2⟩) ?_)
    ·rintro y c st3 _ hy ⟨sm3,out,ia,ib,mg,ac,bc,rfl,li3,hp3⟩;refine jN ?_ ?_ <;> refine Zh (out:=out) (ia:=ia) (ib:=ib) C T hL li3 (sm3.2.1.trans hk) fun y k st4 s4 lk m4 lo=>?_;all_goals
      have sm4:=sm3.trans s4;by_cases k0:k>0
      ·refine ifT k0 ?_;by_cases e1:ia+k+1=a.size
       ·exact ifT (by simpa using e1)<|acy ⟨sm4,.inl ⟨_,_,rfl,tU T hL m4 e1⟩⟩
       ·refine ifF (by simpa using e1)<|ifF (by simp;omega) ?_
        refine Xe (out:=out++a.extract ia (ia+k)) (ia:=ia+k) (ib:=ib) C T m4 (by omega) li3.ib (sm4.2.1.trans hk) lo (fun y h=>acy ⟨sm4,.inl ⟨_,_,rfl,h⟩⟩) fun x' y' j j1 j2 m5 lo2=>?_;by_cases j0:j>0
        ·refine ifT j0 ?_;by_cases e2:ib+1+j=b.size
         ·exact ifT (by simpa using e2)<|acy ⟨sm4,.inl ⟨_,_,rfl,o7 T m5 e2⟩⟩
         ·refine ifF (by simpa using e2) ?_;exact Jw (ia:=ia+k) (ib:=ib+1+j) T hL m5 (by omega) (by omega) lo2 (fun x' h=>acy ⟨sm4,.inl ⟨_,_,rfl,h⟩⟩) (fun x' h=>acy ⟨sm4,.inr ⟨_,_,_,_,_,_,rfl,h,(show 2+x<=ia+k+1+(ib+1+j) by omega)⟩⟩) fun x' h=>acy ⟨sm4,_,_,_,_,_,_,rfl,h,(show 2+x<=ia+k+1+(ib+1+j) by omega)⟩
        ·refine ifF j0 ?_;have z:j=0:=by omega
         subst z;rw [ext_nil] at m5;exact Jw (ia:=ia+k) (ib:=ib+1) T hL m5 (by omega) (by omega) lo2 (fun x' h=>acy ⟨sm4,.inl ⟨_,_,rfl,h⟩⟩) (fun x' h=>acy ⟨sm4,.inr ⟨_,_,_,_,_,_,rfl,h,(show 2+x<=ia+k+1+(ib+1) by omega)⟩⟩) fun x' h=>acy ⟨sm4,_,_,_,_,_,_,rfl,h,(show 2+x<=ia+k+1+(ib+1) by omega)⟩
      ·refine ifF k0 ?_;have z:k=0:=by omega
       subst z;rw [ext_nil] at m4;refine Xe (out:=out) (ia:=ia) (ib:=ib) C T m4 li3.ia li3.ib (sm4.2.1.trans hk) lo (fun y h=>acy ⟨sm4,.inl ⟨_,_,rfl,h⟩⟩) fun x' y' j j1 j2 m5 lo2=>?_;by_cases j0:j>0
       ·refine ifT j0 ?_;by_cases e2:ib+1+j=b.size
        ·exact ifT (by simpa using e2)<|acy ⟨sm4,.inl ⟨_,_,rfl,o7 T m5 e2⟩⟩
        ·refine ifF (by simpa using e2) ?_;exact Jw (ia:=ia) (ib:=ib+1+j) T hL m5 li3.ia (by omega) lo2 (fun x' h=>acy ⟨sm4,.inl ⟨_,_,rfl,h⟩⟩) (fun x' h=>acy ⟨sm4,.inr ⟨_,_,_,_,_,_,rfl,h,(show 2+x<=ia+1+(ib+1+j) by omega)⟩⟩) fun x' h=>acy ⟨sm4,_,_,_,_,_,_,rfl,h,(show 2+x<=ia+1+(ib+1+j) by omega)⟩
       ·refine ifF j0 ?_;have z:j=0:=by omega
        subst z;rw [ext_nil] at m5;exact Jw (ia:=ia) (ib:=ib+1) T hL m5 li3.ia (by omega) lo2 (fun x' h=>acy ⟨sm4,.inl ⟨_,_,rfl,h⟩⟩) (fun x' h=>acy ⟨sm4,.inr ⟨_,_,_,_,_,_,rfl,h,(show 2+x<=ia+1+(ib+1) by omega)⟩⟩) fun x' h=>acy ⟨sm4,_,_,_,_,_,_,rfl,h,(show 2+x<=ia+1+(ib+1) by omega)⟩
    ·rintro c st3 ⟨sm3,out,ia,ib,mg,ac,bc,rfl,li3,hp3⟩;exact ⟨sm3,.inr ⟨_,_,_,_,_,_,rfl,li3,hp3⟩⟩
    ·rintro c st3 ⟨sm3,(⟨r,rest,rfl,hr⟩ | ⟨out,ia,ib,mg,ac,bc,rfl,li3,hp3⟩)⟩
     ·exact acy ⟨sm3,_,_,rfl,hr⟩
     ·dsimp only;refine acz<|tB fun st4 s4=>acy ⟨sm3.trans s4,_,_,_,_,rfl,li3,by omega⟩
 ·rintro c st' ⟨sm,out,ia,ib,mg,rfl,⟨_,h1,h2⟩,hp⟩;omega
 ·rintro c st' ⟨sm,r,rest,rfl,hr⟩;exact acy<|q r st' hr sm
end
variable {out : Array ada}
section
variable {rk:acd->Nat}
def MH (rk:acd->Nat)(A B o ah bh:List ada):Prop:=∃ a2 b2,A=ah++a2/\B=bh++b2/\o.Perm (a2++b2)/\SL rk o/\Be rk ah o/\Be rk bh o
def MH.swap {A o ah bh:List ada}(h:MH rk A B o ah bh):MH rk B A o bh ah:=by
 obtain ⟨a1,b1,e1,e2,p,s,q1,q2⟩:=h;exact ⟨b1,a1,e2,e1,p.trans List.perm_append_comm,s,q2,q1⟩
def MH.pA {A o xs ah bh:List ada}(sa:SL rk A)(h:MH rk A B o (ah++xs) bh)(hx:Be rk bh xs):MH rk A B (xs++o) ah bh:=by
 obtain ⟨a2,b2,e1,e2,p,s,q1,q2⟩:=h;have sx:SL rk (ah++xs):=by
  unfold SL at sa;rw [e1,aer] at sa;exact sa.1
 unfold SL at sx;rw [aer] at sx;refine ⟨xs++a2,b2,by rw [e1,adH],e2,?_,?_,?_,?_⟩
 ·rw [adH];exact p.append_left xs
 ·unfold SL;rw [aer];exact ⟨sx.2.1,s,fun x hx y hy=>q1 x (adz _ hx) y hy⟩
 ·intro x hx y hy;rcases adn.mp hy with hy | hy
  ·exact sx.2.2 x hx y hy
  ·exact q1 x (adQ _ hx) y hy
 ·intro x hx' y hy;rcases adn.mp hy with hy | hy
  ·exact hx x hx' y hy
  ·exact q2 x hx' y hy
def MH.pB {A o xs ah bh:List ada}(sb:SL rk B)(h:MH rk A B o ah (bh++xs))(hx:Be rk ah xs):MH rk A B (xs++o) ah bh:=(h.swap.pA sb hx).swap
def MH.fin {A o bh:List ada}(sb:SL rk B)(h:MH rk A B o [] bh):Mrg rk A B (bh++o):=by
 have h:MH rk A B o [] ([]++bh):=h;obtain ⟨a2,b2,e1,e2,p,s,_⟩:=h.pB sb fun _ h=>(nomatch h)
 rw [afY] at e1 e2;rw [e1,e2];exact ⟨p,s⟩
def MH.fin2 {A o ah bh:List ada}(sa:SL rk A)(sb:SL rk B)(h:MH rk A B o ah bh)(hx:Be rk bh ah):Mrg rk A B (bh++ah++o):=by
 have h:MH rk A B o ([]++ah) bh:=h;rw [adH];exact (h.pA sa hx).fin sb
end
section
variable {P:acK}{w:adt}{A:acY}{E:acd->aci->Prop}{s:aci}{rk:acd->Nat}
def VJ {i:Nat}(h:i<a.size):a.toList.take (i+1)=a.toList.take i++[a[i]]:=by
 rw [adl,acn (by simpa using h)];simp
def Zr (a:Array ada){i n:Nat}(h:i<=n):a.toList.take n=a.toList.take i++(a.extract i n).toList:=by
 rw [agw,afP];have e:n=i+(n - i):=by omega
 conv=>lhs;rw [e,List.take_add]
def rW (a:Array ada)(n:Nat):(a.extract 0 n).toList=a.toList.take n:=by
 rw [agw,afP];simp
def gQ {n:Nat}{x:ada}(hx:x∈a.toList.take n):∃ j,j<n/\∃ hj:j<a.size,x=a[j]:=by
 obtain ⟨k,hk,e⟩:=afJ.mp hx;rw [aeb] at hk;simp at hk;refine ⟨k,by omega,by omega,?_⟩;rw [<-e,List.getElem_take];simp
def cY {i n:Nat}{x:ada}(h:n<=a.size)(hx:x∈(a.extract i n).toList):∃ j,i<=j/\j<n/\∃ hj:j<a.size,x=a[j]:=by
 obtain ⟨j,hj,e⟩:=Array.mem_iff_getElem.mp (Array.mem_def.mpr hx);have hj':i+j<n:=by simp at hj;omega
 exact ⟨i+j,by omega,hj',by omega,by rw [<-e];simp⟩
def zN (rk:acd->Nat)(a b:Array ada):Prop:=∀ (h:0<b.size),∀ x∈a.toList,rk b[0].1<rk x.1
structure HI (rk:acd->Nat) (a b out:Array ada) (na nb:Nat):Prop where
 mh:MH rk a.toList b.toList out.toList.reverse (a.toList.take na) (b.toList.take nb)
 pa:0<na
 pb:1<nb
 la:na<=a.size
 lb:nb<=b.size
def Rq {na nb:Nat}(T:Two rk good a b)(h:MH rk a.toList b.toList out.toList.reverse (a.toList.take na) (b.toList.take nb))(h0:0<na)(hi:na<=a.size)(hx:∀ y∈b.toList.take nb,rk y.1<rk (a[na - 1]'(by omega)).1):MH rk a.toList b.toList (out.push (a[na - 1]'(by omega))).toList.reverse (a.toList.take (na - 1)) (b.toList.take nb):=by
 rw [kO,List.reverse_append];refine MH.pA T.sa (xs:=[a[na - 1]'(by omega)]) ?_ fun x hx' y hy=>?_
 ·have e:=VJ (a:=a) (i:=na - 1) (by omega);have e1:na - 1+1=na:=by omega
  rw [e1] at e;rw [<-e];exact h
 ·rw [acT.mp hy];exact hx x hx'
def Wy {na nb:Nat}(T:Two rk good a b)(h:MH rk a.toList b.toList out.toList.reverse (a.toList.take na) (b.toList.take nb))(h0:0<nb)(hi:nb<=b.size)(hx:∀ y∈a.toList.take na,rk y.1<rk (b[nb - 1]'(by omega)).1):MH rk a.toList b.toList (out.push (b[nb - 1]'(by omega))).toList.reverse (a.toList.take na) (b.toList.take (nb - 1)):=by
 rw [kO,List.reverse_append];refine MH.pB T.sb (xs:=[b[nb - 1]'(by omega)]) ?_ fun x hx' y hy=>?_
 ·have e:=VJ (a:=b) (i:=nb - 1) (by omega);have e1:nb - 1+1=nb:=by omega
  rw [e1] at e;rw [<-e];exact h
 ·rw [acT.mp hy];exact hx x hx'
def Fb (out xs:Array ada):(out++xs.reverse).toList.reverse=xs.toList++out.toList.reverse:=by simp
def Yv {na nb:Nat}(T:Two rk good a b)(h:MH rk a.toList b.toList out.toList.reverse (a.toList.take na) (b.toList.take nb))(hi:m<=na)(hx:Be rk (b.toList.take nb) (a.extract m na).toList):MH rk a.toList b.toList (out++(a.extract m na).reverse).toList.reverse (a.toList.take m) (b.toList.take nb):=by
 rw [Fb];refine MH.pA T.sa ?_ hx;rw [<-Zr a hi];exact h
def Zk {na nb:Nat}(T:Two rk good a b)(h:MH rk a.toList b.toList out.toList.reverse (a.toList.take na) (b.toList.take nb))(hi:m<=nb)(hx:Be rk (a.toList.take na) (b.extract m nb).toList):MH rk a.toList b.toList (out++(b.extract m nb).reverse).toList.reverse (a.toList.take na) (b.toList.take m):=by
 rw [Fb];refine MH.pB T.sb ?_ hx;rw [<-Zr b hi];exact h
def tX {na nb:Nat}(T:Two rk good a b)(h:MH rk a.toList b.toList out.toList.reverse (a.toList.take na) (b.toList.take nb))(e:na=0):Mrg rk a.toList b.toList (a.extract 0 na++b.extract 0 nb++out.reverse).toList:=by
 subst e;rw [adY,adY,rW,rW,List.take_zero,afY,Array.toList_reverse];rw [List.take_zero] at h;exact h.fin T.sb
def lC {na nb:Nat}(T:Two rk good a b)(hF:zN rk a b)(hb:0<b.size)(h:MH rk a.toList b.toList out.toList.reverse (a.toList.take na) (b.toList.take nb))(e:nb=1):Mrg rk a.toList b.toList (b.extract 0 nb++a.extract 0 na++out.reverse).toList:=by
 rw [adY,adY,rW,rW,Array.toList_reverse];refine h.fin2 T.sa T.sb fun x hx y hy=>?_;obtain ⟨j,h1,h2,rfl⟩:=gQ hx;have z:j=0:=by omega
 subst z;exact hF hb y<|afk hy
def JB {α : Type}{na nb:Nat}{c:Prop}[Decidable c]{E1 E2 E3:ada->StateT ado Sem α}{Q:α->ado->Prop}(T:Two rk good a b)(h:MH rk a.toList b.toList out.toList.reverse (a.toList.take na) (b.toList.take nb))(h1:0<na)(h2:1<nb)(h3:na<=a.size)(h4:nb<=b.size)
  (hx:∀ y∈b.toList.take nb,rk y.1<rk (a[na - 1]'(by omega)).1)
  (q1:∀ x,Mrg rk a.toList b.toList (a.extract 0 (na - 1)++b.extract 0 nb++(out.push x).reverse).toList->wpS (acP P w) A E s (E1 x) Q st)
  (q2:∀ x,HI rk a b (out.push x) (na - 1) nb->wpS (acP P w) A E s (E2 x) Q st) (q3:∀ x,HI rk a b (out.push x) (na - 1) nb->wpS (acP P w) A E s (E3 x) Q st) :
  wpS (acP P w) A E s (elem' a (na - 1) >>= fun x=>if (na - 1==0)=true then E1 x else if c then E2 x else E3 x) Q st:=by
 refine acz<|cM (by omega) ?_
 have m:=Rq T h h1 h3 hx;by_cases e:na - 1=0
 ·exact ifT (by simpa using e)<|q1 _<|tX T m e
 ·refine ifF (by simpa using e) ?_;have li:HI rk a b (out.push (a[na - 1]'(by omega))) (na - 1) nb:=⟨m,by omega,h2,by omega,h4⟩
  exact jN (q2 _ li)<|q3 _ li
set_option maxHeartbeats 1000000 in
def WY (C:Cmp P w A s kd rk good){α : Type}{na nb:Nat}{D1:ada->StateT ado Sem α}{K:ada->ada->Option Nat->StateT ado Sem α}{Q:α->ado->Prop}(T:Two rk good a b)(hF:zN rk a b)(h:MH rk a.toList b.toList out.toList.reverse (a.toList.take na) (b.toList.take nb))(h1:0<na)(h2:1<nb)(h3:na<=a.size)(h4:nb<=b.size)(hk:afG st=kd)
  (hx:∀ y∈a.toList.take na,rk y.1<rk (b[nb - 1]'(by omega)).1)
  (q1:∀ y,Mrg rk a.toList b.toList (b.extract 0 (nb - 1)++a.extract 0 na++(out.push y).reverse).toList->wpS (acP P w) A E s (D1 y) Q st)
  (q2:∀ x y m,1<nb - 1->0<m->m<=nb - 1->MH rk a.toList b.toList (out.push y++(b.extract m (nb - 1)).reverse).toList.reverse (a.toList.take na) (b.toList.take m)->(∀ z∈b.toList.take m,rk z.1<rk (a[na - 1]'(by omega)).1)->wpS (acP P w) A E s (K y x (some m)) Q st) :
  wpS (acP P w) A E s (elem' b (nb - 1) >>= fun y=>if (nb - 1==1)=true then D1 y else elem' a (na - 1) >>= fun x=>gal true x b 0 (nb - 1) (nb - 1 - 1) >>= K y x) Q st:=by
 refine acz<|cM (by omega) ?_
 have m:=Wy T h (by omega) h4 hx;by_cases c:nb - 1=1
 ·exact ifT (by simpa using c)<|q1 _<|lC T hF (by omega) m c
 ·refine ifF (by simpa using c) ?_;have ha:na - 1<a.size:=by omega
  refine acz<|cM ha ?_
  refine acz<|Bm C hk T.gb (T.ga _<|cg ha) (by omega) (by omega) (fun i j h5 h6 h7=>?_) fun k k1 k2 k3=>?_
  ·rw [wN (by omega)] at h7 |-
   have:=T.sb.le (i:=0+i) (j:=0+j) (by omega) (by omega)
   simp at h7 this |-
   omega
  ·have kp:0<k:=by
    refine aeX fun z=>?_;have:=k3 0 (by omega) (by omega)
    rw [wN (by omega)] at this;have:=hF (by omega) _ (cg ha)
    simp at *;omega
   refine q2 _ _ k (by omega) kp k1 (Zk T m k1 fun x hx y hy=>?_) fun y hy=>?_
   ·obtain ⟨j,j1,j2,rfl⟩:=gQ hx;obtain ⟨i,i1,i2,i3,rfl⟩:=cY (by omega) hy;have:=k3 i i1 (by omega)
    rw [wN (by omega)] at this;have:=T.sa.le (i:=j) (j:=na - 1) (by omega) ha
    have:=T.ne _ (cg ha) _ (cg i3)
    simp at *;omega
   ·obtain ⟨j,j1,j2,rfl⟩:=gQ hy;have:=k2 j j1
    rw [wN (by omega)] at this
    simpa using this
set_option maxHeartbeats 1000000 in
def X3 (C:Cmp P w A s kd rk good){α : Type}{na nb g:Nat}{K:ada->Option Nat->StateT ado Sem α}{Q:α->ado->Prop}(T:Two rk good a b)(li:HI rk a b out na nb)(hk:afG st=kd)
  (q:∀ y m st',fj st st'->m<=na->MH rk a.toList b.toList (out++(a.extract m na).reverse).toList.reverse (a.toList.take m) (b.toList.take nb)->(∀ z∈a.toList.take m,rk z.1<rk (b[nb - 1]'(by have:=li.lb;have:=li.pb;omega)).1)->wpS (acP P w) A E s (K y (some m)) Q st') :
  wpS (acP P w) A E s (Rb g >>= fun _=>elem' b (nb - 1) >>= fun y=>gal false y a 0 na (na - 1) >>= K y) Q st:=by
 obtain ⟨h,h1,h2,h3,h4⟩:=li;have hb:nb - 1<b.size:=by omega
 refine acz<|tB fun st1 s1=>?_
 refine acz<|cM hb ?_
 refine acz<|Bm C (s1.2.1.trans hk) T.ga (T.gb _<|cg hb) (by omega) (by omega) (fun i j h5 h6 h7=>?_) fun k k1 k2 k3=>?_
 ·rw [xW (by omega)] at h7 |-
  have:=T.sa.le (i:=0+i) (j:=0+j) (by omega) (by omega)
  simp at h7 this |-
  omega
 ·refine q _ k st1 s1 k1 (Yv T h k1 fun x hx y hy=>?_) fun y hy=>?_
  ·obtain ⟨j,j1,j2,rfl⟩:=gQ hx;obtain ⟨i,i1,i2,i3,rfl⟩:=cY h3 hy;have:=k3 i i1 i2
   rw [xW (by omega)] at this;have:=T.sb.le (i:=j) (j:=nb - 1) (by omega) hb
   simp at *;omega
  ·obtain ⟨j,j1,j2,rfl⟩:=gQ hy;have:=k2 j j1
   rw [xW (by omega)] at this;have:=T.ne _ (cg j2) _ (cg hb)
   simp at *;omega
def rG (out a:Array ada)(n:Nat):out++(a.extract n n).reverse=out:=by simp [Nat.min_le_left]
set_option maxHeartbeats 2000000 in
def X7 (C:Cmp P w A s kd rk good){Q:Array ada->ado->Prop}(T:Two rk good a b)(hL:Ay rk a b)(hF:zN rk a b)(ha:0<a.size)(hb:0<b.size)(hk:afG st=kd)
  (q:∀ r st',Mrg rk a.toList b.toList r.toList->fj st st'->Q r st'):wpS (acP P w) A E s (mHi a b) Q st:=by
 refine acz<|wpS_lift<|aeA ⟨rfl,?_⟩
 refine acz<|cM (show a.size - 1<a.size by omega) ?_
 have m0:MH rk a.toList b.toList (#[a[a.size - 1]]:Array ada).toList.reverse (a.toList.take (a.size - 1)) (b.toList.take b.size):=by
  have m:MH rk a.toList b.toList (#[]:Array ada).toList.reverse (a.toList.take a.size) (b.toList.take b.size):=⟨[],[],by rw [aeT,aev (by simp)],by rw [aeT,aev (by simp)],.nil,.nil,fun _ _ _ h=>(nomatch h),fun _ _ _ h=>(nomatch h)⟩
  exact Rq T m ha (acj _) fun y hy=>hL ha y<|afk hy
 by_cases c1:a.size - 1=0
 ·exact ifT (by simpa using c1)<|acy<|q _ _ (tX T m0 c1)<|.refl _
 refine ifF (by simpa using c1) ?_;by_cases c2:b.size=1
 ·exact ifT (by simpa using c2)<|acy<|q _ _ (lC T hF hb m0 c2)<|.refl _
 refine ifF (by simpa using c2) ?_;refine acz<|agW ?_
 dsimp only;refine acz (afh (adU
  (I:=fun x c st'=>fj st st'/\∃ na nb out mg,c=(none,na,nb,out,mg)/\HI rk a b out na nb/\na+nb+1+x<=a.size+b.size)
  (Q:=fun c st'=>fj st st'/\∃ r rest,c=(some r,rest)/\Mrg rk a.toList b.toList r.toList) ?_ ?_ ⟨.refl _,_,_,_,_,rfl,⟨m0,by omega,by omega,by omega,by omega⟩,by omega⟩) ?_)
 ·rintro x c st' _ hx ⟨sm,na,nb,out,mg,rfl,li,hp⟩;dsimp only;refine acz (afh (adU
   (I:=fun y c st2=>fj st st2/\∃ na nb out ac bc,c=(none,na,nb,out,ac,bc)/\HI rk a b out na nb/\na+nb+1+x+y<=a.size+b.size)
   (Q:=fun c st2=>fj st st2/\((∃ r rest,c=(some r,rest)/\Mrg rk a.toList b.toList r.toList)\/∃ na nb out ac bc,c=(none,na,nb,out,ac,bc)/\HI rk a b out na nb/\na+nb+2+x<=a.size+b.size)) ?_ ?_ ⟨sm,na,nb,out,0,0,rfl,li,by omega⟩) ?_)
  ·rintro y c st2 _ hy ⟨sm2,na,nb,out,ac,bc,rfl,⟨m,h1,h2,h3,h4⟩,hp2⟩;dsimp only;have hia:na - 1<a.size:=by omega
   have hib:nb - 1<b.size:=by omega
   refine acz<|cM hib<|acz<|cM hia<|acz<|w_lt C (sm2.2.1.trans hk) (T.gb _<|cg hib) (T.ga _<|cg hia) ?_
   dsimp only;by_cases cb:rk b[nb - 1].1<rk a[na - 1].1
   ·refine ifT (by simpa using cb) ?_;refine acz<|cM hia ?_
    have m2:=Rq T m h1 h3 fun y hy=>by
     obtain ⟨j,j1,j2,rfl⟩:=gQ hy;exact aeD (T.sb.le (by omega) hib) cb
    by_cases e:na - 1=0
    ·exact ifT (by simpa using e)<|acy ⟨sm2,.inl ⟨_,_,rfl,tX T m2 e⟩⟩
    ·refine ifF (by simpa using e) ?_;have li2:HI rk a b (out.push a[na - 1]) (na - 1) nb:=⟨m2,by omega,h2,by omega,h4⟩
     exact jN (acy ⟨sm2,.inr ⟨_,_,_,_,_,rfl,li2,by omega⟩⟩)<|acy ⟨sm2,_,_,_,_,_,rfl,li2,by omega⟩
   ·refine ifF (by simpa using cb) ?_;refine acz<|cM hib ?_
    have m2:=Wy T m (by omega) h4 fun y hy=>by
     obtain ⟨j,j1,j2,rfl⟩:=gQ hy;have:=T.sa.le (i:=j) (j:=na - 1) (by omega) hia
     have:=T.ne _ (cg hia) _ (cg hib)
     omega
    by_cases e:nb - 1=1
    ·exact ifT (by simpa using e)<|acy ⟨sm2,.inl ⟨_,_,rfl,lC T hF hb m2 e⟩⟩
    ·refine ifF (by simpa using e) ?_;have li2:HI rk a b (out.push b[nb - 1]) na (nb - 1):=⟨m2,h1,by omega,h3,by omega⟩
     exact jN (acy ⟨sm2,.inr ⟨_,_,_,_,_,rfl,li2,by omega⟩⟩)<|acy ⟨sm2,_,_,_,_,_,rfl,li2,by omega⟩
  ·rintro c st2 ⟨sm2,na,nb,out,ac,bc,rfl,li2,hp2⟩;exact ⟨sm2,.inr ⟨_,_,_,_,_,rfl,li2,by omega⟩⟩
  ·rintro c st2 ⟨sm2,(⟨r,rest,rfl,hr⟩ | ⟨na,nb,out,ac,bc,rfl,li2,hp2⟩)⟩
   ·exact acy ⟨sm2,_,_,rfl,hr⟩
   ·dsimp only;refine acz<|wpS_lift<|aeA ⟨rfl,?_⟩
    refine acz (afh (adU
     (I:=fun y c st3=>fj st st3/\∃ na nb out mg ac bc,c=(none,na,nb,out,mg,ac,bc)/\HI rk a b out na nb/\na+nb+2+x<=a.size+b.size)
     (Q:=fun c st3=>fj st st3/\((∃ r rest,c=(some r,rest)/\Mrg rk a.toList b.toList r.toList)\/∃ na nb out mg ac bc,c=(none,na,nb,out,mg,ac,bc)/\HI rk a b out na nb/\na+nb+2+x<=a.size+b.size)) ?_ ?_ ⟨sm2,na,nb,out,mg+1,ac,bc,rfl,li2,hp2⟩) ?_)
    ·rintro y c st3 _ hy ⟨sm3,na,nb,out,mg,ac,bc,rfl,li3,hp3⟩;have pb:=li3.pb;have pa:=li3.pa;have la:=li3.la;have lb:=li3.lb;refine jN ?_ ?_ <;> refine X3 (out:=out) (na:=na) (nb:=nb) C T li3 (sm3.2.1.trans hk) fun y' m st4 s4 lk m4 lo=>?_;all_goals
      have sm4:=sm3.trans s4;by_cases k0:na - m>0
      ·refine ifT k0 ?_;by_cases e1:m=0
       ·exact ifT (by simpa using e1)<|acy ⟨sm4,.inl ⟨_,_,rfl,tX T m4 e1⟩⟩
       ·refine ifF (by simpa using e1) ?_;refine WY (out:=out++(a.extract m na).reverse) (na:=m) (nb:=nb) C T hF m4 (by omega) pb (by omega) lb (sm4.2.1.trans hk) lo (fun y h=>acy ⟨sm4,.inl ⟨_,_,rfl,h⟩⟩) fun x' y' j j1 jp j2 m5 lo2=>?_;by_cases j0:nb - 1 - j>0
        ·refine ifT j0 ?_;by_cases e2:j=1
         ·exact ifT (by simpa using e2)<|acy ⟨sm4,.inl ⟨_,_,rfl,lC T hF hb m5 e2⟩⟩
         ·refine ifF (by simpa using e2)<|ifF (by simp;omega) ?_
          exact JB (na:=m) (nb:=j) T m5 (by omega) (by omega) (by omega) (by omega) lo2 (fun x' h=>acy ⟨sm4,.inl ⟨_,_,rfl,h⟩⟩) (fun x' h=>acy ⟨sm4,.inr ⟨_,_,_,_,_,_,rfl,h,(show m - 1+j+2+x<=a.size+b.size by omega)⟩⟩) fun x' h=>acy ⟨sm4,_,_,_,_,_,_,rfl,h,(show m - 1+j+2+x<=a.size+b.size by omega)⟩
        ·refine ifF j0 ?_;have z:j=nb - 1:=by omega
         subst z;rw [rG] at m5;exact JB (na:=m) (nb:=nb - 1) T m5 (by omega) (by omega) (by omega) (by omega) lo2 (fun x' h=>acy ⟨sm4,.inl ⟨_,_,rfl,h⟩⟩) (fun x' h=>acy ⟨sm4,.inr ⟨_,_,_,_,_,_,rfl,h,(show m - 1+(nb - 1)+2+x<=a.size+b.size by omega)⟩⟩) fun x' h=>acy ⟨sm4,_,_,_,_,_,_,rfl,h,(show m - 1+(nb - 1)+2+x<=a.size+b.size by omega)⟩
      ·refine ifF k0 ?_;have z:m=na:=by omega
       subst z;rw [rG] at m4;refine WY (out:=out) (na:=m) (nb:=nb) C T hF m4 pa pb la lb (sm4.2.1.trans hk) lo (fun y h=>acy ⟨sm4,.inl ⟨_,_,rfl,h⟩⟩) fun x' y' j j1 jp j2 m5 lo2=>?_;by_cases j0:nb - 1 - j>0
       ·refine ifT j0 ?_;by_cases e2:j=1
        ·exact ifT (by simpa using e2)<|acy ⟨sm4,.inl ⟨_,_,rfl,lC T hF hb m5 e2⟩⟩
        ·refine ifF (by simpa using e2)<|ifF (by simp;omega) ?_
         exact JB (na:=m) (nb:=j) T m5 pa (by omega) la (by omega) lo2 (fun x' h=>acy ⟨sm4,.inl ⟨_,_,rfl,h⟩⟩) (fun x' h=>acy ⟨sm4,.inr ⟨_,_,_,_,_,_,rfl,h,(show m - 1+j+2+x<=a.size+b.size by omega)⟩⟩) fun x' h=>acy ⟨sm4,_,_,_,_,_,_,rfl,h,(show m - 1+j+2+x<=a.size+b.size by omega)⟩
       ·refine ifF j0 ?_;have z:j=nb - 1:=by omega
        subst z;rw [rG] at m5;exact JB (na:=m) (nb:=nb - 1) T m5 pa (by omega) la (by omega) lo2 (fun x' h=>acy ⟨sm4,.inl ⟨_,_,rfl,h⟩⟩) (fun x' h=>acy ⟨sm4,.inr ⟨_,_,_,_,_,_,rfl,h,(show m - 1+(nb - 1)+2+x<=a.size+b.size by omega)⟩⟩) fun x' h=>acy ⟨sm4,_,_,_,_,_,_,rfl,h,(show m - 1+(nb - 1)+2+x<=a.size+b.size by omega)⟩
    ·rintro c st3 ⟨sm3,na,nb,out,mg,ac,bc,rfl,li3,hp3⟩;exact ⟨sm3,.inr ⟨_,_,_,_,_,_,rfl,li3,hp3⟩⟩
    ·rintro c st3 ⟨sm3,(⟨r,rest,rfl,hr⟩ | ⟨na,nb,out,mg,ac,bc,rfl,li3,hp3⟩)⟩
     ·exact acy ⟨sm3,_,_,rfl,hr⟩
     ·dsimp only;refine acz<|tB fun st4 s4=>acy ⟨sm3.trans s4,_,_,_,_,rfl,li3,by omega⟩
 ·rintro c st' ⟨sm,na,nb,out,mg,rfl,⟨_,h1,h2,_,_⟩,hp⟩;omega
 ·rintro c st' ⟨sm,r,rest,rfl,hr⟩;exact acy<|q r st' hr sm
end
variable {na nb : Nat}
def mAt:Nat->StateT ado Sem Bool:=sortPriv% PySem.Builtin.mergeAt
section
variable {P:acK}{w:adt}{A:acY}{E:acd->aci->Prop}{s:aci}{rk:acd->Nat}
def KY {st2:ado}{Q:PUnit->ado->Prop}(h:Q ⟨⟩ st2):wpS (acP P w) A E s (set st2:StateT ado Sem PUnit) Q st:=agf (f:=fun _=>st2) h
theorem zU (s0:Nat):∀ (m:List ada) (j0:Nat) (arr:Array ada),s0+j0+m.length<=arr.size->((m.zipIdx j0).foldl (fun a (p:ada×Nat)=>a.setIfInBounds (s0+p.2) p.1) arr).toList=arr.toList.take (s0+j0)++m++arr.toList.drop (s0+j0+m.length)
 | [],j0,arr,h=>by simp
 | p::m,j0,arr,h=>by
  rw [acE] at h;rw [List.zipIdx_cons,List.foldl_cons,zU s0 m (j0+1) _ (by rw [Array.size_setIfInBounds];omega)];dsimp only;have e1:(arr.setIfInBounds (s0+j0) p).toList=arr.toList.set (s0+j0) p:=by simp
  have e2:s0+(j0+1)=s0+j0+1:=by omega
  rw [e1,e2,adl,List.getElem?_set_self (by simp;omega),List.take_set_of_le (acj _),List.drop_set_of_lt (by omega)];have e3:s0+j0+1+m.length=s0+j0+(p::m).length:=by rw [acE];omega
  rw [e3];simp
def j9 {i j:Nat}(hj:j<=a.size)(h:aY rk a i j):SL rk (a.extract i j).toList:=by
 unfold SL;rw [aei];intro p q hp hq hpq;have lp:(a.extract i j).toList.length=j - i:=by simp;omega
 have hq':q<j - i:=by rw [<-lp];exact hq
 have:=h (i+p) (i+q) (by omega) (by omega) (by omega)
 rw [eH (by omega),eH (by omega)] at this
 simpa using this
def Fy {i j:Nat}{l1 l2 l:List ada}(e:a.toList=l1++l++l2)(e1:l1.length=i)(e2:l.length=j - i)(h:SL rk l):aY rk a i j:=by
 intro p q h1 h2 h3;have hl:∀ k (hk:k<l.length),Rk rk a (i+k)=rk (l[k]).1:=fun k hk=>by
  unfold Rk;have:a[i+k]?=some l[k]:=by
   rw [<-ael,e,adH,acU (by omega),acX (by omega)];have ek:i+k - l1.length=k:=by omega
   rw [ek,acn hk]
  rw [this]
 have hp:=hl (p - i) (by omega);have hq:=hl (q - i) (by omega);have ep:i+(p - i)=p:=by omega
 have eq:i+(q - i)=q:=by omega
 rw [ep] at hp;rw [eq] at hq;rw [hp,hq];exact aei.mp h _ _ (by omega) (by omega)<|by omega
def uE (a:Array ada){i j:Nat}(h:i<=j)(hj:j<=a.size):a.toList.drop i=(a.extract i j).toList++a.toList.drop j:=by
 have:=Yn a i (j - i) (by omega)
 have e:i+(j - i)=j:=by omega
 rw [e] at this;exact this
def mJ (a:Array ada){i j:Nat}(hj:j<=a.size):(a.extract i j).toList.length=j - i:=by simp;omega
structure Runs (rk:acd->Nat) (a:Array ada) (sa k sb n' e:Nat):Prop where
 h1:sa+k<=sb
 h2:sb+n'<=e
 h3:e<=a.size
 r1:aY rk a sa sb
 r2:aY rk a sb e
 lo:∀ p,sa<=p->p<sa+k->Rk rk a p<Rk rk a sb
 hi:∀ p,sb+n'<=p->p<e->Rk rk a (sb - 1)<Rk rk a p
def aY.le {i j p q:Nat}(h:aY rk a i j)(h1:i<=p)(h2:p<=q)(h3:q<j):Rk rk a p<=Rk rk a q:=by
 rcases Nat.lt_or_ge p q with c | c
 ·exact aen<|h p q h1 c h3
 ·have:p=q:=by omega
  subst this;exact acj _
def KR {α : Type}{t m1 m2 d:List α}(hl:m1.length=m2.length){q:Nat}(hq:q<t.length\/t.length+m1.length<=q):(t++m1++d)[q]?=(t++m2++d)[q]?:=by
 rcases hq with hq | hq
 ·rw [adH,adH,acX hq,acX hq]
 ·rw [acU (by rw [acH];exact hq),acU (by rw [acH,<-hl];exact hq),acH,acH,hl]
set_option maxHeartbeats 1000000 in
def Et {W:Array ada}{sa k sb n' e:Nat}{m:List ada}(R:Runs rk a sa k sb n' e)(hx:sa+k<sb)(M:Mrg rk (a.extract (sa+k) sb).toList (a.extract sb (sb+n')).toList m)(eW:W.toList=a.toList.take (sa+k)++m++a.toList.drop (sb+n')):Within a W sa e/\aY rk W sa e:=by
 obtain ⟨h1,h2,h3,r1,r2,lo,hi⟩:=R;have ea:a.toList=a.toList.take (sa+k)++((a.extract (sa+k) sb).toList++(a.extract sb (sb+n')).toList)++a.toList.drop (sb+n'):=by
  rw [adH,adH,<-uE a (by omega) (by omega),<-uE a h1 (by omega),agq]
 have lm:m.length=((a.extract (sa+k) sb).toList++(a.extract sb (sb+n')).toList).length:=M.1.length_eq;have lt:(a.toList.take (sa+k)).length=sa+k:=by rw [aeb];simp;omega
 have lx:((a.extract (sa+k) sb).toList++(a.extract sb (sb+n')).toList).length=sb+n' - (sa+k):=by rw [acH,mJ a (by omega),mJ a (by omega)];omega
 refine ⟨⟨?_,fun q hq=>?_⟩,?_⟩
 ·rw [aeY,eW];conv=>rhs;rw [ea]
  exact ((M.1.append_left _).append_right _)
 ·rw [<-ael,<-ael,eW];conv=>rhs;rw [ea]
  exact KR lm (by rw [lt,lm,lx];omega)
 ·have et:a.toList.take (sa+k)=a.toList.take sa++(a.extract sa (sa+k)).toList:=Zr a (by omega);have ed:a.toList.drop (sb+n')=(a.extract (sb+n') e).toList++a.toList.drop e:=uE a h2 h3;have em:∀ z∈m,(∃ p,sa+k<=p/\p<sb/\rk z.1=Rk rk a p)\/∃ p,sb<=p/\p<sb+n'/\rk z.1=Rk rk a p:=fun z hz=>by
   rcases adn.mp (M.1.mem_iff.mp hz) with hz | hz
   ·obtain ⟨p,p1,p2,p3,rfl⟩:=cY (by omega) hz;exact .inl ⟨p,p1,p2,(eH p3).symm⟩
   ·obtain ⟨p,p1,p2,p3,rfl⟩:=cY (by omega) hz;exact .inr ⟨p,p1,p2,(eH p3).symm⟩
  have ep:∀ z∈(a.extract sa (sa+k)).toList,∃ p,sa<=p/\p<sa+k/\rk z.1=Rk rk a p:=fun z hz=>by
   obtain ⟨p,p1,p2,p3,rfl⟩:=cY (by omega) hz;exact ⟨p,p1,p2,(eH p3).symm⟩
  have eq:∀ z∈(a.extract (sb+n') e).toList,∃ p,sb+n'<=p/\p<e/\rk z.1=Rk rk a p:=fun z hz=>by
   obtain ⟨p,p1,p2,p3,rfl⟩:=cY h3 hz;exact ⟨p,p1,p2,(eH p3).symm⟩
  have sp:SL rk (a.extract sa (sa+k)).toList:=j9 (by omega) fun p q q1 q2 q3=>r1 p q q1 q2 (by omega)
  have sq:SL rk (a.extract (sb+n') e).toList:=j9 h3 fun p q q1 q2 q3=>r2 p q (by omega) q2 q3
  refine Fy (l1:=a.toList.take sa) (l:=(a.extract sa<|sa+k).toList++m++(a.extract (sb+n') e).toList) (l2:=a.toList.drop e) (by rw [eW,et,ed];simp only [adH]) (by rw [aeb];simp;omega) ?_ ?_
  ·rw [acH,acH,lm,lx,mJ a (by omega),mJ a h3];omega
  ·unfold SL at *;rw [aer,aer];refine ⟨⟨sp,M.2,fun u hu v hv=>?_⟩,sq,fun u hu v hv=>?_⟩
   ·obtain ⟨p,p1,p2,e1⟩:=ep u hu;rw [e1];have l1:=lo p p1 p2;rcases em v hv with ⟨q,q1,q2,e2⟩ | ⟨q,q1,q2,e2⟩ <;> rw [e2]
    ·exact r1 p q p1 (by omega) q2
    ·exact acp l1<|r2.le (acj _) q1<|by omega
   ·obtain ⟨q,q1,q2,e2⟩:=eq v hv;rw [e2];rcases adn.mp hu with hu | hu
    ·obtain ⟨p,p1,p2,e1⟩:=ep u hu;rw [e1];exact acp (lo p p1 p2)<|r2.le (acj _) (by omega) q2
    ·rcases em u hu with ⟨p,p1,p2,e1⟩ | ⟨p,p1,p2,e1⟩ <;> rw [e1]
     ·exact aeD (r1.le (by omega) (by omega)<|by omega)<|hi q q1 q2
     ·exact r2 p q p1 (by omega) q2
set_option maxHeartbeats 1000000 in
def Zx (C:Cmp P w A s kd rk good){i:Nat}{Q:Bool->ado->Prop}{sa p sb p2:Nat}(ok:SOk kd rk good st)(e1:(adD st)[i]?=some (sa,na,p))(e2:(adD st)[i+1]?=some (sb,nb,p2))(hb:sb=sa+na)(h1:0<na)(h2:0<nb)(hz:sb+nb<=(adg st).size)(r1:aY rk (adg st) sa sb)(r2:aY rk (adg st) sb (sb+nb))
  (q:∀ st',SOk kd rk good st'->Within (adg st) (adg st') sa (sb+nb)->aY rk (adg st') sa (sb+nb)->adD st'=((adD st).setIfInBounds i (sa,na+nb,p)).eraseIdxIfInBounds (i+1)->Q true st'):wpS (acP P w) A E s (mAt i) Q st:=by
 refine acz<|agW ?_
 simp only [e1,e2];refine acz<|KY ?_
 have hsb:sb<(adg st).size:=by omega
 have gd:∀ x∈(adg st).toList,good x.1:=ok.keys.good
 refine acz<|cM (a:=adg st) hsb ?_
 refine acz<|Bm (a:=adg st) C ok.kind gd (gd _<|cg hsb) (by omega) (by omega) (fun x y h5 h6 h7=>?_) fun k k1 k2 k3=>?_
 ·unfold Bey at h7 |-
  have:=r1.le (p:=sa+x) (q:=sa+y) (by omega) (by omega) (by omega)
  simp at h7 |-
  omega
 have key:rk (adg st)[sb].1=Rk rk (adg st) sb:=(eH hsb).symm;have lo:∀ p,sa<=p->p<sa+k->Rk rk (adg st) p<Rk rk (adg st) sb:=fun p p1 p3=>by
  have:=k2 (p - sa) (by omega)
  have ep:sa+(p - sa)=p:=by omega
  unfold Bey at this;rw [ep,key] at this;have ne:Rk rk (adg st) p≠Rk rk (adg st) sb:=fun z=>by have:=ok.keys.ne (by omega) hsb z;omega
  simp at this;omega
 have up:∀ p,sa+k<=p->p<sb->Rk rk (adg st) sb<Rk rk (adg st) p:=fun p p1 p3=>by
  have:=k3 (p - sa) (by omega) (by omega)
  have ep:sa+(p - sa)=p:=by omega
  unfold Bey at this;rw [ep,key] at this
  simpa using this
 by_cases c:na - k=0
 ·refine ifT (by simpa using c)<|acy<|q _ ⟨ok.kind,ok.failed,ok.keys⟩ (Within.refl _ _ _) (fun p q p1 p3 p4=>?_) rfl
  show Rk rk (adg st) p<Rk rk (adg st) q;by_cases c1:q<sb
  ·exact r1 p q p1 p3 c1
  ·by_cases c2:sb<=p
   ·exact r2 p q c2 p3 p4
   ·exact acp (lo p p1<|by omega)<|r2.le (acj _) (by omega) p4
 refine ifF (by simpa using c) ?_;have hl:sa+k+(na - k) - 1<(adg st).size:=by omega
 have el:sa+k+(na - k) - 1=sb - 1:=by omega
 refine acz<|cM (a:=adg st) hl ?_
 have key2:rk ((adg st)[sa+k+(na - k) - 1]'hl).1=Rk rk (adg st) (sb - 1):=by rw [<-eH (rk:=rk) hl,el]
 refine acz<|Bm (a:=adg st) C ok.kind gd (gd _<|cg hl) (by omega) (by omega) (fun x y h5 h6 h7=>?_) fun n' n1 n2 n3=>?_
 ·unfold Bey at h7 |-
  have:=r2.le (p:=sb+x) (q:=sb+y) (by omega) (by omega) (by omega)
  simp at h7 |-
  omega
 have be:∀ p,sb<=p->p<sb+n'->Rk rk (adg st) p<Rk rk (adg st) (sb - 1):=fun p p1 p3=>by
  have:=n2 (p - sb) (by omega)
  have ep:sb+(p - sb)=p:=by omega
  unfold Bey at this;rw [ep,key2] at this
  simpa using this
 have hi:∀ p,sb+n'<=p->p<sb+nb->Rk rk (adg st) (sb - 1)<Rk rk (adg st) p:=fun p p1 p3=>by
  have:=n3 (p - sb) (by omega) (by omega)
  have ep:sb+(p - sb)=p:=by omega
  unfold Bey at this;rw [ep,key2] at this;have ne:Rk rk (adg st) p≠Rk rk (adg st) (sb - 1):=fun z=>by have:=ok.keys.ne (by omega) (by omega) z;omega
  simp at this;omega
 have np:0<n':=by
  refine aeX fun z=>?_;have:=hi sb (by omega) (by omega)
  have:=up (sb - 1) (by omega) (by omega)
  omega
 refine ifF (by simp;omega) ?_;have zx:((adg st).extract (sa+k) sb).size=sb - (sa+k):=by simp;omega
 have zy:((adg st).extract sb (sb+n')).size=n':=by simp;omega
 have T:Two rk good ((adg st).extract (sa+k) sb) ((adg st).extract sb (sb+n')):=⟨j9 (by omega) fun p q p1 p3 p4=>r1 p q (by omega) p3 p4,j9 (by omega) fun p q p1 p3 p4=>r2 p q p1 p3 (by omega),fun x hx=>by
   obtain ⟨p,_,_,p3,rfl⟩:=cY (by omega) hx;exact gd _<|cg p3,fun x hx=>by
   obtain ⟨p,_,_,p3,rfl⟩:=cY (by omega) hx;exact gd _<|cg p3,fun x hx y hy e=>by
   obtain ⟨p,p1,p3,p4,rfl⟩:=cY (by omega) hx;obtain ⟨q,q1,q3,q4,rfl⟩:=cY (by omega) hy;rw [<-eH (rk:=rk) p4,<-eH (rk:=rk) q4] at e;have:=ok.keys.ne p4 q4 e
   omega⟩
 have hL:Ay rk ((adg st).extract (sa+k) sb) ((adg st).extract sb (sb+n')):=fun h z hz=>by
  obtain ⟨p,p1,p3,p4,rfl⟩:=cY (by omega) hz;have:=be p p1 p3
  rw [eH p4,eH (by omega)] at this;have ex:sa+k+(((adg st).extract (sa+k) sb).size - 1)=sb - 1:=by omega
  simpa only [Array.getElem_extract,ex] using this
 have hF:zN rk ((adg st).extract (sa+k) sb) ((adg st).extract sb (sb+n')):=fun h z hz=>by
  obtain ⟨p,p1,p3,p4,rfl⟩:=cY (by omega) hz;have:=up p p1 p3
  rw [eH p4,eH hsb] at this
  simpa only [Array.getElem_extract,Nat.add_zero] using this
 have fin:∀ (m:Array ada) (st2:ado),Mrg rk ((adg st).extract (sa+k) sb).toList ((adg st).extract sb (sb+n')).toList m.toList->adg st2=adg st->Within (adg st) (m.toList.zipIdx.foldl (fun a (p:ada×Nat)=>a.setIfInBounds (sa+k+p.2) p.1) (adg st2)) sa (sb+nb)/\aY rk (m.toList.zipIdx.foldl (fun a (p:ada×Nat)=>a.setIfInBounds (sa+k+p.2) p.1) (adg st2)) sa (sb+nb):=fun m st2 M ea=>by
  have lm:m.toList.length=sb+n' - (sa+k):=by rw [M.1.length_eq,acH,mJ _ (by omega),mJ _ (by omega)];omega
  rw [ea];refine Et ⟨by omega,by omega,hz,r1,r2,lo,hi⟩ (by omega) M ?_;rw [zU (sa+k) m.toList 0 (adg st) (by omega),Nat.add_zero];have e:sa+k+m.toList.length=sb+n':=by omega
  rw [e]
 have hx0:0<((adg st).extract (sa+k) sb).size:=by omega
 have hy0:0<((adg st).extract sb (sb+n')).size:=by omega
 refine jN (acz<|X5 C T hL hx0 hy0 (hF hy0 _<|cg hx0) ok.kind fun m st2 M sm=>?_)<|acz<|X7 C T hL hF hx0 hy0 ok.kind fun m st2 M sm=>?_
 all_goals
  obtain ⟨f1,f2⟩:=fin m st2 M sm.1;have fl:agZ st2=none:=sm.2.2.1.trans ok.failed;refine acz<|agf<|acz<|agW<|acy ?_
  show Q (agZ st2).isNone _;rw [fl];exact q _ ⟨sm.2.1.trans ok.kind,fl,ok.keys.perm f1.perm⟩ f1 f2 sm.2.2.2
end
section
variable {P:acK}{w:adt}{A:acY}{E:acd->aci->Prop}{s:aci}{rk:acd->Nat}
def Cont (rk:acd->Nat)(a:Array ada):List (Nat×Nat×Nat)->Nat->Nat->Prop
 | [],i,j=>i=j
 | (s,n,_)::r,i,j=>s=i/\0<n/\aY rk a i (i+n)/\Cont rk a r (i+n) j
theorem uw {a:Array ada}:∀ {ps:List (Nat×Nat×Nat)} {i j:Nat},Cont rk a ps i j->i+ps.length<=j
 | [],i,j,h=>by have h:i=j:=h;simp;omega
 | (s,n,p)::r,i,j,h=>by
  obtain ⟨_,h1,_,h2⟩:=h;have:=uw h2
  simp;omega
theorem jX {a:Array ada}:∀ {ps qs:List (Nat×Nat×Nat)} {i j:Nat},Cont rk a (ps++qs) i j↔∃ k,Cont rk a ps i k/\Cont rk a qs k j
 | [],qs,i,j=>⟨fun h=>⟨i,rfl,h⟩,fun ⟨k,e,h⟩=>by have e:i=k:=e;rw [e];exact h⟩
 | (s,n,p)::r,qs,i,j=>by
  constructor
  ·rintro ⟨h1,h2,h3,h4⟩;obtain ⟨k,a1,a2⟩:=jX.mp h4;exact ⟨k,⟨h1,h2,h3,a1⟩,a2⟩
  ·rintro ⟨k,⟨h1,h2,h3,h4⟩,h5⟩;exact ⟨h1,h2,h3,jX.mpr ⟨k,h4,h5⟩⟩
def oJ {hi i j:Nat}(W:Within a b lo hi)(h:aY rk a i j)(o:j<=lo\/hi<=i):aY rk b i j:=fun p q h1 h2 h3=>by
 rw [yg (W.out p (by omega)),yg (W.out q (by omega))];exact h p q h1 h2 h3
theorem eY {a b:Array ada}{lo hi:Nat}(W:Within a b lo hi):∀ {ps:List (Nat×Nat×Nat)} {i j:Nat},Cont rk a ps i j->(j<=lo\/hi<=i)->Cont rk b ps i j
 | [],i,j,h,_=>h
 | (s,n,p)::r,i,j,⟨h1,h2,h3,h4⟩,o=>⟨h1,h2,oJ W h3 (by have:=uw h4;omega),eY W h4 (by omega)⟩
theorem uD {a:Array ada}{f:Nat×Nat×Nat->Nat×Nat×Nat}(hf:∀ x,(f x).1=x.1/\(f x).2.1=x.2.1):∀ {ps:List (Nat×Nat×Nat)} {k i j:Nat},Cont rk a ps i j->Cont rk a (ps.modify k f) i j
 | [],k,i,j,h=>by simpa using h
 | (s,n,p)::r,0,i,j,⟨h1,h2,h3,h4⟩=>by
  obtain ⟨e1,e2⟩:=hf (s,n,p);have e:f (s,n,p)=(s,n,(f (s,n,p)).2.2):=by
   rw [Prod.ext_iff,Prod.ext_iff];exact ⟨e1,e2,rfl⟩
  show Cont rk a (f (s,n,p)::r) i j;rw [e];exact ⟨h1,h2,h3,h4⟩
 | (s,n,p)::r,k+1,i,j,⟨h1,h2,h3,h4⟩=>⟨h1,h2,h3,uD hf h4⟩
def Ua {α : Type}{l:List α}{i:Nat}(h:i+1<l.length):l=l.take i++l[i]::l[i+1]::l.drop (i+2):=by
 rw [<-aej h,<-aej (by omega),agq]
structure JI (kd:agp) (rk:acd->Nat) (good:acd->Prop) (a0:Array ada) (lo:Nat) (st:ado):Prop where
 ok:SOk kd rk good st
 perm:(adg st).Perm a0
 cont:Cont rk (adg st) (adD st).toList 0 lo
set_option maxHeartbeats 1000000 in
def z8 (C:Cmp P w A s kd rk good){i:Nat}{a0:Array ada}{Q:Bool->ado->Prop}(J:JI kd rk good a0 lo st)(hl:lo<=a0.size)(hi:i+1<(adD st).size)
  (q:∀ st',JI kd rk good a0 lo st'->Within (adg st) (adg st') 0 lo->(adD st').size+1=(adD st).size->Q true st'):wpS (acP P w) A E s (mAt i) Q st:=by
 obtain ⟨ok,pm,ct⟩:=J;have hi':i+1<(adD st).toList.length:=by simpa using hi
 have es:=Ua hi';obtain ⟨sa,na,p,hx⟩:∃ sa na p,(adD st).toList[i]=(sa,na,p):=⟨_,_,_,rfl⟩
 obtain ⟨sb,nb,p2,hy⟩:∃ sb nb p2,(adD st).toList[i+1]=(sb,nb,p2):=⟨_,_,_,rfl⟩
 rw [hx,hy] at es;have ct2:=ct;rw [es] at ct2;obtain ⟨k,c1,e1,n1,r1,e2,n2,r2,c2⟩:=jX.mp ct2;subst e1 e2;have hz:=uw c2;have hs:=pm.size_eq;refine Zx C ok (sa:=sa) (na:=na) (p:=p) (sb:=sa+na) (nb:=nb) (p2:=p2) ?_ ?_ rfl n1 n2 (by omega) r1 r2 fun st' ok' W R e=>?_
 ·rw [<-ael,acn (by omega),hx]
 ·rw [<-ael,acn hi',hy]
 have lt:((adD st).toList.take i).length=i:=by rw [aeb];omega
 have el:(adD st').toList=(adD st).toList.take i++(sa,na+nb,p)::(adD st).toList.drop (i+2):=by
  rw [e,Array.toList_eraseIdxIfInBounds,Array.toList_setIfInBounds];conv=>lhs;rw [es]
  rw [List.set_append_right _ _ (by omega),lt,Nat.sub_self,List.set_cons_zero,List.eraseIdx_append_of_length_le (by omega),lt];have:i+1 - i=1:=by omega
  rw [this];rfl
 refine q st' ⟨ok',W.perm.trans pm,?_⟩ (W.wide (adu _)<|by omega) ?_
 ·rw [el];refine jX.mpr ⟨sa,eY W c1<|.inl<|acj _,rfl,by omega,?_,?_⟩
  ·rw [<-Nat.add_assoc];exact R
  ·rw [<-Nat.add_assoc];exact eY W c2 (.inr (acj _))
 ·have l1:=congrArg aeS el;have l2:=congrArg aeS es;simp only [acH,acE,aew] at l1 l2;omega
def Lh {c:Prop}[Decidable c](i:Nat):(if c then i - 1 else i)<=i:=by split <;> omega
def mF {pd:Array (Nat×Nat×Nat)}(ok:SOk kd rk good st):SOk kd rk good (setPending st pd):=⟨ok.kind,ok.failed,ok.keys⟩
set_option maxHeartbeats 2000000 in
def CW (C:Cmp P w A s kd rk good){Q:Unit->ado->Prop}(ok:SOk kd rk good st)(hp:adD st = #[])(h2:2<=(adg st).size)
  (q:∀ st',(adg st').Perm (adg st)->agZ st'=none->aY rk (adg st') 0 (adg st).size->Q () st'):wpS (acP P w) A E s sortRuns' Q st:=by
 rw [sortRuns'_eq];refine acz<|agW ?_
 dsimp only;obtain ⟨a0,ea0⟩:∃ a0,adg st=a0:=⟨_,rfl⟩
 have J0:JI kd rk good a0 0 st:=⟨ok,by rw [ea0],by rw [hp];rfl⟩
 rw [ea0] at h2 q |-
 generalize hn:a0.size=N at *;generalize hmr:minRun' N N 0=mr at *;refine acz (afh (adU
  (I:=fun x c st'=>∃ lo,c=(none,lo)/\JI kd rk good a0 lo st'/\lo<=N/\x<=lo)
  (Q:=fun c st'=>c=(none,N)/\JI kd rk good a0 N st') ?_ ?_ ⟨0,rfl,J0,adu _,acj _⟩) ?_)
 ·rintro x c st' _ hx ⟨lo,rfl,J,hlo,hxl⟩;dsimp only;by_cases c0:lo>=N
  ·have e:lo=N:=by omega
   subst e;exact ifT c0<|acy ⟨rfl,J⟩
  refine ifF c0 ?_;have hsz:(adg st').size=N:=by rw [J.perm.size_eq,hn]
  refine acz<|w_count C J.ok (by omega) (by omega) fun n b n1 n2 hw hr _=>?_
  dsimp only;have ok2:SOk kd rk good (afK st' b):=J.ok.arr hw.perm;have fin:∀ (m:Nat) (st2:ado),SOk kd rk good st2->(adg st2).Perm a0->Cont rk (adg st2) (adD st2).toList 0 lo->aY rk (adg st2) lo (lo+m)->0<m->lo+m<=N->JI kd rk good a0 (lo+m) (setPending st2 ((adD st2).push (lo,m,0))):=fun m st2 o2 p2 c2 r2 m0 m1=>by
   refine ⟨mF o2,p2,?_⟩;show Cont rk (adg st2) ((adD st2).push (lo,m,0)).toList 0 (lo+m);rw [Array.toList_push];exact jX.mpr ⟨lo,c2,rfl,m0,r2,rfl⟩
  have back:∀ (m pw:Nat) (st2:ado),JI kd rk good a0 lo st2->aY rk (adg st2) lo (lo+m)->0<m->lo+m<=N->wpS (acP P w) A E s (forIn [0:N] ((none:Option Unit),()) fun _ _=>do
     let p:=adD (<-get)
     match (if p.size>1 then p[p.size - 2]? else none) with
     | some (_,_,older)=>if older<=pw then pure (ForInStep.done ((none:Option Unit),())) else do
       let r <-mAt (p.size - 2)
       if (!r)=true then pure (ForInStep.done (some (),())) else pure (ForInStep.yield ((none:Option Unit),()))
     | x=>pure (ForInStep.done ((none:Option Unit),())))
    (fun c st3=>c=(none,())/\JI kd rk good a0 lo st3/\aY rk (adg st3) lo (lo+m)) st2:=fun m pw st2 J2 R2 m0 m1=>by
   refine adU (I:=fun _ c st3=>c=(none,())/\JI kd rk good a0 lo st3/\aY rk (adg st3) lo (lo+m)) ?_ (fun c st3 h=>h) ⟨rfl,J2,R2⟩;rintro y c st3 _ hy ⟨rfl,J3,R3⟩;refine acz<|agW ?_
   dsimp only;by_cases hs:(adD st3).size>1
   ·rw [if_pos hs];obtain ⟨a1,a2,a3,ex⟩:∃ a1 a2 a3,(adD st3)[(adD st3).size - 2]?=some (a1,a2,a3):=⟨_,_,_,adP (by omega)⟩
    rw [ex];dsimp only;by_cases c3:a3<=pw
    ·exact ifT c3<|acy ⟨rfl,J3,R3⟩
    ·refine ifF c3<|acz<|z8 C J3 (by omega) (by omega) fun st4 J4 W4 _=>?_
     exact ifF (by simp)<|acy ⟨rfl,J4,oJ W4 R3<|.inr<|acj _⟩
   ·rw [if_neg hs];exact acy ⟨rfl,J3,R3⟩
  by_cases c:n<mr
  ·refine ifT c<|acz<|wpS_lift<|aeA ⟨rfl,?_⟩
   refine acz<|Wu C ok2 n1 (show n<=min (N - lo) mr by omega) (by show lo+min (N - lo) mr<=b.size;rw [hw.size];omega) hr fun b2 hw2 hr2=>?_
   refine ifF (by simp) ?_;have W:Within (adg st') b2 lo (lo+(N - lo)):=hw.trans (hw2.wide (acj _) (by omega));have J2:JI kd rk good a0 lo (afK (afK st' b) b2):=⟨ok2.arr hw2.perm,W.perm.trans J.perm,eY W J.cont (.inl (acj _))⟩
   refine acz<|agW ?_
   cases hbk:(adD (afK (afK st' b) b2)).back? with
   | none=>exact acz (agf (acy ⟨_,rfl,fin (min (N - lo) mr) _ J2.ok J2.perm J2.cont hr2 (by omega) (by omega),by omega,by omega⟩))
   | some t=>
    obtain ⟨s1,l1,p1⟩:=t;dsimp only;refine acz<|afh (back (min (N - lo) mr) _ _ J2 hr2 (by omega)<|by omega) ?_
    rintro c st3 ⟨rfl,J3,R3⟩;dsimp only;refine acz<|agf<|acz<|agf<|acy ⟨_,rfl,fin (min (N - lo) mr) (setPending st3 _) (mF J3.ok) J3.perm ?_ R3 (by omega)<|by omega,by omega,by omega⟩
    show Cont rk (adg st3) ((adD st3).modify _ _).toList 0 lo;rw [Array.toList_modify];refine @uD rk (adg st3) _ ?_ _ _ _ _ J3.cont;exact fun _=>⟨rfl,rfl⟩
  ·refine ifF c ?_;have J2:JI kd rk good a0 lo (afK st' b):=⟨ok2,hw.perm.trans J.perm,eY hw J.cont (.inl (acj _))⟩
   refine acz<|agW ?_
   cases hbk:(adD (afK st' b)).back? with
   | none=>exact acz (agf (acy ⟨_,rfl,fin n _ J2.ok J2.perm J2.cont hr (by omega) (by omega),by omega,by omega⟩))
   | some t=>
    obtain ⟨s1,l1,p1⟩:=t;dsimp only;refine acz<|afh (back n _ _ J2 hr (by omega)<|by omega) ?_
    rintro c st3 ⟨rfl,J3,R3⟩;dsimp only;refine acz<|agf<|acz<|agf<|acy ⟨_,rfl,fin n (setPending st3 _) (mF J3.ok) J3.perm ?_ R3 (by omega)<|by omega,by omega,by omega⟩
    show Cont rk (adg st3) ((adD st3).modify _ _).toList 0 lo;rw [Array.toList_modify];refine @uD rk (adg st3) _ ?_ _ _ _ _ J3.cont;exact fun _=>⟨rfl,rfl⟩
 ·rintro c st' ⟨lo,rfl,J,hlo,hxl⟩;have e:lo=N:=by omega
  subst e;exact ⟨rfl,J⟩
 ·rintro c st' ⟨rfl,J⟩;dsimp only;refine acz (afh (adU
   (I:=fun x c st2=>c=(none,())/\JI kd rk good a0 N st2/\(adD st2).size+x<=N) (Q:=fun c st2=>c=(none,())/\JI kd rk good a0 N st2/\(adD st2).size<=1) ?_ ?_ ⟨rfl,J,?_⟩) ?_)
  ·rintro x c st2 _ hx ⟨rfl,J2,hl⟩;refine acz<|agW ?_
   by_cases c1:(adD st2).size<=1
   ·exact ifT c1<|acy ⟨rfl,J2,c1⟩
   ·refine ifF c1<|acz<|z8 C J2 (by omega) ?_ fun st4 J4 _ e4=>ifF (by simp)<|acy ⟨rfl,J4,by omega⟩
    exact aeD (Nat.add_le_add_right (Lh _) 1)<|by omega
  ·rintro c st2 ⟨rfl,J2,hl⟩;exact ⟨rfl,J2,by omega⟩
  ·have:=uw J.cont
   simp at this;omega
  ·rintro c st2 ⟨rfl,J2,hl⟩;refine acy<|q _ J2.perm J2.ok.failed ?_
   have ct:=J2.cont;match hl2:(adD st2).toList,ct with
   | [],ct=>
    have ct:0=N:=ct;omega
   | [(s1,l1,p1)],⟨_,_,r,e⟩=>
    have e:0+l1=N:=e;rw [e] at r;exact r
   | _::_::_,_=>
    have:=congrArg aeS hl2
    simp at this;omega
end
def Jz:List Int->List Int->Option Bool
 | a::k,b::l=>if a=b then Jz k l else some (decide (a<b))
 | _,_=>none
theorem Gk:∀ k l:List Int,(match Jz k l with | some r=>r | none=>decide (k.length<l.length))=decide (k<l)
 | [],[]=>by simp [Jz]
 | [],b::l=>by simp [Jz]
 | a::k,[]=>by simp [Jz]
 | a::k,b::l=>by
  unfold Jz;by_cases e:a=b
  ·subst e;rw [if_pos rfl];have:=Gk k l
   simp only [acE,Nat.add_lt_add_iff_right];rw [this];exact decide_eq_decide.mpr (by rw [adJ];simp [Int.lt_irrefl])
  ·rw [if_neg e];exact decide_eq_decide.mpr (by rw [adJ];simp [e])
section
variable {P:acK}{w:adt}{A:acY}{E:acd->aci->Prop}{s:aci}
def fK (h:Heap)(v:acd)(k:List Int):Prop:=∃ a o its n,v=.ref a/\h.get? a=some o/\o.cls=.type "tuple"/\o.data=.seq its n/\Vals (k.map V.int) its.toList
def JL {a b:Int}{t u:Tok}{Q:Bool->aci->Prop}(h:Q (decide (a<b)) s):acL (acP P w) A (oneLt' false (.int a t) (.int b u)) Q E s:=by
 rw [oneLt'_eq];simp only [adx,if_false];exact abY<|wpAny_richCompare_same (typeIs_int s a t) (typeIs_int s b u) slot_int_lt<|call_int_lt ⟨by simp,wpAny_truthy_bool h⟩
def Ik {f:(acd×acd)×Nat->Option Bool×Unit->Sem (ForInStep (Option Bool×Unit))}
  (hf:∀ (a b:Int) (t u:Tok) (i:Nat) (R:ForInStep (Option Bool×Unit)->aci->Prop),R (if a=b then .yield (none,()) else .done (some (decide (a<b)),())) s->acL (acP P w) A (f ((.int a t,.int b u),i) (none,())) R E s) :
  ∀ {k l:List Int} {ps qs:List acd} {j:Nat},Vals (k.map V.int) ps->Vals (l.map V.int) qs->∀ {R:Option Bool×Unit->aci->Prop},R (Jz k l,()) s->acL (acP P w) A (forIn ((ps.zip qs).zipIdx j) (none,()) f) R E s
 | [],l,ps,qs,j,hp,hq,R,q=>by
  cases hp;rw [List.zip_nil_left,List.zipIdx_nil,agL];exact ach q
 | a::k,[],ps,qs,j,hp,hq,R,q=>by
  cases hq;rw [List.zip_nil_right,List.zipIdx_nil,agL];exact ach q
 | a::k,b::l,ps,qs,j,hp,hq,R,q=>by
  cases hp with
  | cons r1 hp=>
   cases hq with
   | cons r2 hq=>
    obtain ⟨t,rfl⟩:=r1;obtain ⟨u,rfl⟩:=r2;rw [aeh,List.zipIdx_cons,agH];refine abY<|hf a b t u j _ ?_
    unfold Jz at q;by_cases e:a=b
    ·rw [if_pos e] at q |-
     exact Ik hf hp hq q
    ·rw [if_neg e] at q |-
     exact ach q
def Wm {fo:Bool}{x y:acd}{l:List Int}{Q:Bool->aci->Prop}(hx:fK s.heap x k)(hy:fK s.heap y l)(q:Q (decide (k<l)) s):acL (acP P w) A (keyLt' (ahb fo) x y) Q E s:=by
 obtain ⟨a,o,its,n,rfl,ga,_,da,va⟩:=hx;obtain ⟨b,u,jts,m,rfl,gb,_,db,vb⟩:=hy;refine abY<|agE ga da<|abY<|agE gb db<|abY<|Ik (fun c d t u i R hR=>?_) va vb ?_
 ·dsimp only;refine abY<|wpAny_eqBool_int ?_
  by_cases e:c=d
  ·rw [if_pos e] at hR;rw [show (c==d)=true by simpa using e];exact ach hR
  ·rw [if_neg e] at hR;rw [show (c==d)=false by simpa using e];refine abY ?_;cases hb:(fo&&i==0) with
   | true=>exact oneLt_int (ach hR)
   | false=>exact JL (ach hR)
 ·have e:=Gk k l;have la:its.size=k.length:=by have:=va.length;simpa using this.symm
  have lb:jts.size=l.length:=by have:=vb.length;simpa using this.symm
  rw [<-e] at q;dsimp only;cases c:Jz k l with
  | some r=>rw [c] at q;exact ach q
  | none=>rw [c] at q;rw [la,lb];exact ach q
def Ho {x:acd}{i:Int}{Q:Option acd->aci->Prop}(hx:fK s.heap x (i::k))(q:∀ t,Q (some (.int i t)) s):acL (acP P w) A (firstOfTuple' x) Q E s:=by
 obtain ⟨a,o,its,n,rfl,ga,ca,da,va⟩:=hx;refine abY<|aeI (T := "tuple") ⟨o,ga,ca⟩ ?_
 rw [if_neg (by decide)];refine abY<|agE ga da ?_
 obtain ⟨xs⟩:=its;cases va with
 | cons r _=>
  obtain ⟨t,rfl⟩:=r;exact ach<|q t
theorem q9:∀ {vs:List acd} {ks:List (List Int)} {Q:List (Option acd)->aci->Prop},adF (fun k v=>fK s.heap v k) ks vs->(∀ k∈ks,k≠[])->(∀ us:List acd,us.length=vs.length->(∀ u∈us,∃ i t,u=.int i t)->Q (us.map some) s)->acL (acP P w) A (vs.mapM firstOfTuple') Q E s
 | [],_,Q,h,_,q=>by
  cases h;exact ach<|q [] rfl fun _ h=>nomatch h
 | v::vs,ks,Q,h,hn,q=>by
  cases h with
  | @cons k _ ks' _ r h=>
   rw [List.mapM_cons];obtain ⟨i,k',rfl⟩:∃ i k',k=i::k':=List.exists_cons_of_ne_nil (hn k acF)
   refine abY<|Ho r fun t=>abY ?_
   refine q9 h (fun k hk=>hn k<|acr _ hk) fun us hl hu=>ach ?_;refine q (.int i t::us) (by simp [hl]) fun u hm=>?_;rcases acA.mp hm with rfl | hm
   ·exact ⟨i,t,rfl⟩
   ·exact hu u hm
theorem vJ:∀ {us:List acd} {Q:List acd->aci->Prop},(∀ u∈us,∃ i t,u=Value.int i t)->Q (us.map fun _=>.type "int") s->acL (acP P w) A (us.mapM typeOf) Q E s
 | [],Q,_,q=>ach q
 | u::us,Q,h,q=>by
  rw [List.mapM_cons];obtain ⟨i,t,rfl⟩:=h u acF;exact abY<|aeI (typeIs_int s i t)<|abY<|vJ (fun v hv=>h v<|acr _ hv)<|ach q
def Lp {vs:List acd}{ks:List (List Int)}{Q:agp->aci->Prop}(h:adF (fun k v=>fK s.heap v k) ks vs)(hn:∀ k∈ks,k≠[])(h1:1<=vs.length)(q:Q (ahb true) s):acL (acP P w) A (keyKind' vs.toArray) Q E s:=by
 rw [keyKind'_eq,List.mapM_toArray];refine abY<|wpAny_map ?_
 refine q9 h hn fun us hl hu=>?_;rw [if_pos (by simp)];refine abY<|aeA<|abY ?_
 have ef:(us.map some).toArray.filterMap id=us.toArray:=by
  rw [List.filterMap_toArray];simp
 rw [ef,oneTypeOnly'_eq,List.mapM_toArray];refine abY<|wpAny_map<|vJ hu ?_
 obtain ⟨u,us',rfl⟩:∃ u us',us=u::us':=List.exists_cons_of_ne_nil fun e=>by rw [e] at hl;simp at hl;omega
 show acL _ _ (pure (if _ then some (Value.type "int") else none)) _ _ s;rw [if_pos (by simp)];exact ach<|ach q
end
variable {ks : List (List Int)}{l : List Int}
section
variable {P:acK}{w:adt}{A:acY}{E:acd->aci->Prop}{s:aci}
def rankOf (ks:List (List Int))(k:List Int):Nat:=ks.countP fun l=>decide (l<k)
theorem xG {k l:List Int}(h:k<l):∀ ks:List (List Int),rankOf ks k<=rankOf ks l/\(k∈ks->rankOf ks k<rankOf ks l)
 | []=>⟨acj _,fun h=>nomatch h⟩
 | a::as=>by
  obtain ⟨i1,i2⟩:=xG h as;unfold rankOf at *;rw [List.countP_cons,List.countP_cons];by_cases c:a<k
  ·have c2:a<l:=List.lt_trans c h;rw [if_pos (decide_eq_true c),if_pos (decide_eq_true c2)];refine ⟨by omega,fun hm=>?_⟩;rcases acA.mp hm with e | hm
   ·exact absurd c (by rw [e];exact afO a)
   ·have:=i2 hm
    omega
  ·rw [if_neg (by simpa using c)];refine ⟨by split <;> omega,fun hm=>?_⟩;rcases acA.mp hm with e | hm
   ·subst e;rw [if_pos (decide_eq_true h)];omega
   ·have:=i2 hm
    split <;> omega
def lJ (hk:k∈ks):rankOf ks k<rankOf ks l↔k<l:=by
 refine ⟨fun h=>?_,fun h=>(xG h ks).2 hk⟩;refine aeX fun c=>?_;have c:l<=k:=List.not_lt.mp c;by_cases e:l=k
 ·subst e;exact absurd h (adT _)
 ·have c2:l<k:=aeX fun c3=>e (List.le_antisymm c (List.not_lt.mp c3))
  exact absurd h<|Nat.not_lt.mpr (xG c2 ks).1
def fK.fn {h:Heap}{v:acd}(x:fK h v k)(y:fK h v l):k=l:=by
 obtain ⟨a,o,its,n,rfl,ga,_,da,va⟩:=x;obtain ⟨b,u,jts,m,e,gb,_,db,vb⟩:=y;cases e;rw [ga] at gb;cases gb;rw [da] at db;cases db;have go:∀ {k l:List Int} {xs:List acd},Vals (k.map V.int) xs->Vals (l.map V.int) xs->k=l:=by
  intro k;induction k with
  | nil=>
   intro l xs h1 h2;cases h1;cases l with
   | nil=>rfl
   | cons b l=>cases h2
  | cons a k ih=>
   intro l xs h1 h2;cases h1 with
   | cons r1 h1=>
    cases l with
    | nil=>cases h2
    | cons b l=>
     cases h2 with
     | cons r2 h2=>
      obtain ⟨t,e1⟩:=r1;obtain ⟨u,e2⟩:=r2;rw [e1] at e2;cases e2;rw [ih h1 h2]
 exact go va vb
def fK.of {h h':Heap}{v:acd}(x:fK h v k)(e:∀ b o,v=.ref b->o.cls=.type "tuple"->h.get? b=some o->h'.get? b=some o):fK h' v k:=by
 obtain ⟨a,o,its,n,rfl,ga,ca,r⟩:=x;exact ⟨a,o,its,n,rfl,e a o rfl ca ga,ca,r⟩
open Classical in
noncomputable def rkV (h:Heap)(ks:List (List Int))(v:acd):Nat:=if e:∃ k,fK h v k then rankOf ks e.choose else 0
def vQ {h:Heap}{v:acd}(x:fK h v k):rkV h ks v=rankOf ks k:=by
 unfold rkV;have e:∃ k,fK h v k:=⟨k,x⟩
 rw [dif_pos e,e.choose_spec.fn x]
def Ri {fo:Bool}:Cmp P w A s (ahb fo) (rkV s.heap ks) (fun v=>∃ k∈ks,fK s.heap v k):=fun E Q x y ⟨k,hk,hx⟩ ⟨l,hl,hy⟩ q=>by
 refine Wm hx hy ?_;rw [vQ hx,vQ hy] at q;rw [<-decide_eq_decide.mpr (lJ (ks:=ks) (l:=l) hk)];exact q
open Classical in
noncomputable def keyV (h:Heap)(v:acd):List Int:=if e:∃ k,fK h v k then e.choose else []
def sH {h:Heap}{v:acd}(x:fK h v k):keyV h v=k:=by
 unfold keyV;have e:∃ k,fK h v k:=⟨k,x⟩
 rw [dif_pos e,e.choose_spec.fn x]
theorem keys_map {h:Heap}:∀ {ks:List (List Int)} {vs:List acd},adF (fun k v=>fK h v k) ks vs->ks=vs.map (keyV h)/\∀ v∈vs,∃ k∈ks,fK h v k
 | [],_,p=>by cases p;exact ⟨rfl,fun _ h=>nomatch h⟩
 | k::ks,_,p=>by
  cases p with
  | cons r p=>
   obtain ⟨e,g⟩:=keys_map p;refine ⟨by rw [acg,sH r,<-e],fun v hv=>?_⟩;rcases acA.mp hv with rfl | hv
   ·exact ⟨k,acF,r⟩
   ·obtain ⟨l,hl,x⟩:=g v hv;exact ⟨l,acr _ hl,x⟩
theorem qN {h:Heap}:∀ {vs:List acd},(∀ v∈vs,∃ k,fK h v k)->adF (fun k v=>fK h v k) (vs.map (keyV h)) vs
 | [],_=>.nil
 | v::vs,g=>by
  obtain ⟨k,x⟩:=g v acF;exact .cons (by rw [sH x];exact x)<|qN fun u hu=>g u<|acr _ hu
def Uc {h:Heap}{vs:List acd}(p:adF (fun k v=>fK h v k) ks vs)(hp:b.Perm (adK vs))(hr:aY (rkV h ks) b 0 vs.length):
  ∃ ks',adF (fun k v=>fK h v k) ks' (b.map (·.2)).toList/\ks'.Perm ks/\ks'.Pairwise (· < ·)/\(b.map (·.2)).toList.Perm vs:=by
 obtain ⟨ek,g⟩:=keys_map p;have hl:=aeY.mp hp;have ep:(adK vs).toList=vs.map fun v=>(v,v):=by
  have z:∀ l:List acd,l.zip l=l.map fun v=>(v,v):=fun l=>by
   induction l with
   | nil=>rfl
   | cons a l ih=>rw [aeh,ih];rfl
  unfold adK;rw [aeC];exact z vs
 rw [ep] at hl;have same:∀ x∈b.toList,x.1=x.2/\x.2∈vs:=fun x hx=>by
  obtain ⟨v,hv,rfl⟩:=acJ.mp (hl.mem_iff.mp hx);exact ⟨rfl,hv⟩
 have eo:(b.map (·.2)).toList=b.toList.map (·.2):=by simp
 have po:(b.toList.map (·.2)).Perm vs:=by
  have:=hl.map (·.2)
  rw [adb] at this
  simpa [Function.comp_def] using this
 rw [eo];refine ⟨(b.toList.map (·.2)).map (keyV h),qN fun v hv=>?_,?_,?_,po⟩
 ·obtain ⟨k,_,x⟩:=g v (po.mem_iff.mp hv);exact ⟨k,x⟩
 ·rw [ek];exact po.map _
 ·rw [adb,aem,aei];intro i j hi hj hij;have hb:b.toList.length=vs.length:=by have:=po.length_eq;simpa using this
  have hi':i<b.size:=by simpa using hi
  have hj':j<b.size:=by simpa using hj
  have:=hr i j (adu _) hij (by rw [<-hb];exact hj)
  rw [eH hi',eH hj'] at this;have e1:=same b[i] (by simp);have e2:=same b[j] (by simp);obtain ⟨k,hk,x⟩:=g b[i].2 e1.2;obtain ⟨l,_,y⟩:=g b[j].2 e2.2;rw [e1.1,e2.1,vQ x,vQ y,lJ hk] at this;show keyV h b.toList[i].2<keyV h b.toList[j].2;rw [afg,afg,sH x,sH y];exact this
theorem cO {α β : Type}{F G:α->β->Prop}:∀ {as:List α} {bs:List β},adF F as bs->(∀ a b,b∈bs->F a b->G a b)->adF G as bs
 | [],_,h,_=>by cases h;exact .nil
 | a::as,_,h,g=>by
  cases h with
  | cons r h=>exact .cons (g _ _ acF r) (cO h fun a b hb=>g a b (acr _ hb))
theorem M6 {h:Heap}{KS:List (List Int)}:∀ {ks:List (List Int)} {vs:List acd},adF (fun k v=>fK h v k) ks vs->vs.map (rkV h KS)=ks.map (rankOf KS)
 | [],_,p=>by cases p;rfl
 | k::ks,_,p=>by
  cases p with
  | cons r p=>rw [acg,acg,vQ r,M6 p]
def Gf (nd:ks.Nodup):(ks.map (rankOf ks)).Nodup:=by
 unfold List.Nodup;rw [aem];refine afy (fun {k l} hk hl ne e=>ne ?_) nd;have n1:¬ k<l:=fun c=>by have:=(lJ hk).mpr c;omega
 have n2:¬ l<k:=fun c=>by have:=(lJ hl).mpr c;omega
 exact List.le_antisymm (List.not_lt.mp n2)<|List.not_lt.mp n1
def Kl {h:Heap}{KS:List (List Int)}{vs:List acd}(p:adF (fun k v=>fK h v k) ks vs):((adK vs).toList.map fun x=>rkV h KS x.1)=ks.map (rankOf KS):=by
 have ep:(adK vs).toList.map (·.1)=vs:=by
  unfold adK;rw [aeC,afS (acj _)]
 rw [<-M6 p,<-ep,adb,ep];rfl
abbrev hp6 (h:Heap)(a:Addr)(vs:List acd):Heap:=((h.update a (afc fun _=>#[])).push (aeM "tuple" vs.toArray 0)).push (aeM "list" #[] 0)
def Du {a:Addr}{vs:List acd}{n:Nat}{R:Fin->aci->Prop}(ho:s.heap.get? a=some (aeM "list" vs.toArray n))(p:adF (fun k v=>fK s.heap v k) ks vs)
  (hne:2<=vs.length->∀ k∈ks,k≠[]) (nd:ks.Nodup) (hz:vs.length<=acM)
  (q:∀ (out:Array acd) (ks':List (List Int)),adF (fun k v=>fK s.heap v k) ks' out.toList->ks'.Perm ks->ks'.Pairwise (· < ·)->out.toList.Perm vs->R (.done (.ret .none)) { s with heap:=sortedHeap s.heap a vs out }) :
  acL (acP P w) A (acV.«list.sort» ⟨[.ref a],[]⟩) R E s:=by
 have la:a<s.heap.objs.size:=acs ho;rw [list_sort_plain];refine abY<|agE ho rfl<|abY<|aft ho rfl ?_ (by simpa using hz)<|adu _
 obtain ⟨e1,h1⟩:∃ e1,(s.heap.update a (afc fun _=>#[])).get? a=some (aeM "list" #[] e1):=⟨_,get?_update_seq ho (fun _=>#[])⟩
 refine abY<|agb h1 rfl<|abY<|wpAny_newTuple<|abY<|agJ<|adB ?_
 have h6:(hp6 s.heap a vs).get? a=some (aeM "list" #[] e1):=ace _ (ace _ h1);have keep:∀ b o,o.cls=.type "tuple"->s.heap.get? b=some o->(hp6 s.heap a vs).get? b=some o:=fun b o hc hb=>by
  have ne:b≠a:=fun e=>by rw [e,ho] at hb;cases hb;simp at hc
  exact ace _<|ace _<|(adG _ _<|aes ne).trans hb
 have back:∀ {v:acd} {k:List Int},(∃ l,fK s.heap v l)->fK (hp6 s.heap a vs) v k->fK s.heap v k:=fun {v k} ⟨l,x⟩ y=>by
  have:=(x.of fun b o _ hc hb=>keep b o hc hb).fn y
  exact this ▸ x
 have p6:adF (fun k v=>fK (hp6 s.heap a vs) v k) ks vs:=cO p fun k v _ x=>x.of fun b o _ hc hb=>keep b o hc hb
 have lk:ks.length=vs.length:=p.length;show acL (acP P w) A _ R E { s with heap:=hp6 s.heap a vs };dsimp only;have size:vs.toArray.size=vs.length:=by simp
 have fin:∀ b:Array ada,b.Perm (adK vs)->aY (rkV (hp6 s.heap a vs) ks) b 0 vs.length->R (.done (.ret .none)) { s with heap:=sortedHeap s.heap a vs (b.map (·.2)) }:=fun b hp hr=>by
  obtain ⟨ks',g1,g2,g3,g4⟩:=Uc p6 hp hr;refine q _ ks' (cO g1 fun k v hv x=>back ?_ x) g2 g3 g4;obtain ⟨l,_,y⟩:=(keys_map p).2 v (g4.mem_iff.mp hv);exact ⟨l,y⟩
 by_cases h2:vs.toArray.size<2
 ·rw [if_pos h2,if_pos h2];refine abY<|ach ?_
  rw [StateT.run_pure];refine abY<|ach ?_
  dsimp only;refine abY<|agb h6 rfl<|abY<|aft h6 rfl ?_ (hsz2:=?_)
  ·simp only [bne_self_eq_false,adx,if_false];refine ach<|fin (vs.toArray.zip vs.toArray) (Array.Perm.refl _) fun u v _ h3 h4=>?_
   omega
  ·rw [agm];show (adK vs).size<=_;rw [agT];omega
 ·rw [if_neg h2,if_neg h2];refine abY<|Lp p6 (hne<|by omega) (by omega)<|abY ?_
  have kk:=keys_map p6;have ep:(adK vs).toList.map (·.1)=vs:=by
   unfold adK;rw [aeC,afS (acj _)]
  have ok:SOk (ahb true) (rkV (hp6 s.heap a vs) ks) (fun v=>∃ k∈ks,fK (hp6 s.heap a vs) v k) (SortSt.mk' (ahb true) (adK vs) #[] 7 none):=⟨rfl,rfl,⟨fun x hx=>kk.2 x.1 (by rw [<-ep];exact acJ.mpr ⟨x,hx,rfl⟩),by
   rw [Kl p6];exact Gf nd⟩⟩
  have zp:(adK vs).size=vs.length:=agT _;refine aed (CW (s:={ s with heap:=hp6 s.heap a vs }) (Q:=fun _ st'=>(adg st').Perm (adK vs)/\agZ st'=none/\aY (rkV (hp6 s.heap a vs) ks) (adg st') 0 vs.length) Ri ok rfl (by show 2<=(adK vs).size;omega) fun st' g1 g2 g3=>⟨g1,g2,by rw [<-zp];exact g3⟩) (fun r s' hr=>?_) fun _ _ e=>e
  ·obtain ⟨r1,st'⟩:=r;obtain ⟨rfl,g1,g2,g3⟩:=hr;dsimp only;refine abY<|agb h6 rfl<|abY<|aft h6 rfl ?_ (hsz2:=?_)
   ·rw [g2];simp only [bne_self_eq_false,adx,if_false];exact ach<|fin _ g1 g3
   ·rw [agm,g1.size_eq,zp];omega
def BJ {es:Array afM}{Q:acd->aci->Prop}(hh:A.handled=none)(nd0:(d==aeu)=false)(x:Bp s.heap d es ep)(hz:es.size<=acM)
  (p:adF (fun k v=>fK s.heap v k) ks (es.toList.map (·.key))) (hne:2<=ks.length->∀ k∈ks,k≠[]) (nd:ks.Nodup)
  (q:∀ (h':Heap) (tk:Nat) (l:Addr) (out:Array acd) (ks':List (List Int)) (c:Nat),(∀ b o,s.heap.get? b=some o->h'.get? b=some o)->s.heap.objs.size<=l->h'.get? l=some (aeM "list" out c)->adF (fun k v=>fK s.heap v k) ks' out.toList->ks'.Perm ks->ks'.Pairwise (· < ·)->out.toList.Perm (es.toList.map (·.key))->Q (.ref l) { s with heap:=h',toks:=tk }) :
  acL (acP P w) A (call (.builtin "sorted") [.ref d]) Q E s:=by
 have lk:ks.length=(es.toList.map (·.key)).length:=p.length;have le:(es.toList.map (·.key)).length=es.size:=by simp
 refine Calls.call_function_entry kind_sorted plain_sorted entry_sorted (args_sorted1 _) ?_;unfold acV.«sorted»;refine abY (m:=checkCount "sorted" 1 1 _)<|ach ?_
 refine abY<|qb hh nd0 x hz fun h1 tk k1 lt1=>abY<|agJ ?_
 have ho:(h1.push (aeM "list" (es.toList.map (·.key)).toArray 0)).get? h1.objs.size=some (aeM "list" (es.toList.map (·.key)).toArray 0):=acw _ rfl;have sz:s.heap.objs.size<=h1.objs.size:=aen lt1;have k2:∀ b o,s.heap.get? b=some o->(h1.push (aeM "list" (es.toList.map (·.key)).toArray 0)).get? b=some o:=fun b o hb=>ace _ (k1 b o hb)
 have p2:adF (fun k v=>fK (h1.push (aeM "list" (es.toList.map (·.key)).toArray 0)) v k) ks (es.toList.map (·.key)):=cO p fun k v _ y=>y.of fun b o _ _ hb=>k2 b o hb
 show acL _ _ _ _ _ { s with heap:=h1.push (aeM "list" (es.toList.map (·.key)).toArray 0),toks:=tk };refine abY<|adB<|adS slot_list_sort ⟨_,ho,rfl⟩ entry_list_sort (Du (s:={ s with heap:=h1.push (aeM "list" (es.toList.map (·.key)).toArray 0),toks:=tk }) ho p2 (fun h=>hne<|by omega) nd (by rw [le];exact hz) fun out ks' g1 g2 g3 g4=>⟨_,rfl,ach ⟨_,rfl,?_⟩⟩)<|args_list_sort _
 obtain ⟨c,e⟩:=sortedHeap_at (a:=h1.objs.size) (vs:=es.toList.map (·.key)) (out:=out) ho;refine q _ tk _ out ks' c (fun b o hb=>?_) sz e ?_ g2 g3 g4
 ·have lt:=acs (k1 b o hb);rw [sortedHeap_old (acI lt) (acp lt (by rw [size_push'];exact aeU _))];exact k2 b o hb
 ·refine cO g1 fun k v hv y=>?_;obtain ⟨l,_,z⟩:=(keys_map p).2 v (g4.mem_iff.mp hv);have:=(z.of fun b o _ _ hb=>k2 b o hb).fn y
  exact this ▸ z
end
variable {KS : List (List Int)}
def yZ {α β : Type}{f:α->β}{l l':List β}(h:l'.Perm l):∀ {xs:List α},l=xs.map f->∃ ys:List α,ys.Perm xs/\l'=ys.map f:=by
 induction h with
 | nil=>
  intro xs e;cases xs with
  | nil=>exact ⟨[],.refl _,rfl⟩
  | cons x xs=>simp at e
 | cons a h ih=>
  intro xs e;cases xs with
  | nil=>simp at e
  | cons x xs=>
   rw [acg] at e;obtain ⟨e1,e2⟩:=aeB e;obtain ⟨ys,p,e3⟩:=ih e2;exact ⟨x::ys,p.cons x,by rw [acg,<-e1,<-e3]⟩
 | swap a b l=>
  intro xs e;match xs with
  | []=>simp at e
  | [x]=>simp at e
  | x::y::xs=>
   rw [acg,acg] at e;obtain ⟨e1,e2⟩:=aeB e;obtain ⟨e2,e3⟩:=aeB e2;exact ⟨y::x::xs,.swap x y xs,by rw [acg,acg,<-e1,<-e2,<-e3]⟩
 | trans h1 h2 i1 i2=>
  intro xs e;obtain ⟨ys,p,e1⟩:=i2 e;obtain ⟨zs,p2,e2⟩:=i1 e1;exact ⟨zs,p2.trans p,e2⟩
section
variable {X:Cx}{K:abZ}
def GD {ahW:List (Addr×Obj)}{Z : St}{H:Hp}{s:aci}{b:Addr}(I:Inv X ahW Z H s)(h:SqT X.K H b (k.map V.int)):fK s.heap (.ref b) k:=by
 obtain ⟨its,r,⟨o,ho,hc,n,hd⟩,_⟩:=I.tuple h;exact ⟨b,o,its.toArray,n,rfl,ho,hc,hd,by simpa using r⟩
def Cq (ks:List (List Int)):Prop:=2<=ks.length->∀ k∈ks,k≠[]
def Ba (hc:X.calm=true):gk X (.builtin "sorted") (fun vs H Q=>∃ a xs,vs=[.ref a]/\H a=some (.ext (CQ a xs))/\Fq X.K H xs/\Cq (xs.map (·.1)) /\
  ∀ ys:List (List Int×Addr×acd),ys.Perm xs->(ys.map (·.1)).Pairwise (· < ·)->∀ l,H l=none->Q (.ref l) (upd H l (.lst (ys.map fun y=>V.ref y.2.1)))):=by
 intro ahW s Z H vs us Q I r ⟨a,xs,ev,hx,hk,c1,q⟩;subst ev;obtain ⟨u,rfl,ru⟩:=vals1 r;cases ru;obtain ⟨⟨z,y,nd,o,es,ep,g1,g2,g3,g4⟩,_⟩:=I.hok a _ hx;have ek:es.toList.map (·.key)=xs.map fun x=>Value.ref x.2.1:=by
  rw [g4,adb];rfl
 have p:∀ zs:List (List Int×Addr×acd),(∀ x∈zs,x∈xs)->adF (fun k v=>fK s.heap v k) (zs.map (·.1)) (zs.map fun x=>Value.ref x.2.1):=fun zs hz=>by
  induction zs with
  | nil=>exact .nil
  | cons x zs ih=>exact .cons (GD I (hk x (hz x acF))) (ih fun y hy=>hz y (acr _ hy))
 have le:es.size=xs.length:=by rw [<-aew,g4,acf]
 refine BJ (I.ok.hd hc) y ⟨o,g1,g2,g3⟩ (by rw [le];exact z) (ks:=xs.map (·.1)) (by rw [ek];exact p xs fun _ h=>h) (show 2<=(xs.map (·.1)).length->∀ k∈xs.map (·.1),k≠[] from c1) nd fun h' tk l out ks' c keep hl e pr pm pw po=>?_;rw [ek] at po;obtain ⟨ys,py,eo⟩:=yZ po rfl;have hy:=p ys fun x hx=>py.mem_iff.mp hx
 have eks:ks'=ys.map (·.1):=by
  rw [eo] at pr;exact (keys_map pr).1.trans (keys_map hy).1.symm
 rw [eks] at pw;refine ⟨.ref l,_,I.laid (t':=tk) keep hl<|show eG X.prog X.w _ h' _ (.lst<|ys.map fun y=>V.ref y.2.1) from ⟨by rw [acf,py.length_eq];exact z,out.toList,c,?_,by simpa using e⟩,rfl,q ys py pw l<|I.hok.fresh hl⟩;rw [eo];clear eo pr eks pw hy py po;induction ys with
 | nil=>exact .nil
 | cons y ys ih=>exact .cons rfl ih
def Hz:MC:=fun ws h Q=>match ws with
 | [.loc n]=>(match h.c n with
  | some (.dtt kvs)=>Cq (kvs.map (·.1))/\∀ ks:List (List Int),ks.Perm (kvs.map (·.1))->ks.Pairwise (· < ·)->Q (.lst (ks.map fun k=>.tup (k.map .int))) h
  | _=>False)
 | _=>False
def RW (hc:X.calm=true):fM X (.builtin "sorted") Hz:=⟨_,Ba hc,by
 intro H μ h vs ws Qw Q R r m k;unfold Hz at m;split at m
 ·rename_i n;split at m
  ·rename_i kvs ec;obtain ⟨p,xs,vs',hp,hx,e1,e2,r3,r4⟩:=R.dttAt ec;obtain ⟨v,rfl,r1⟩:=jO r;rw [Rep] at r1;obtain ⟨p',rfl,hp'⟩:=r1;have ep:p'=p:=by rw [hp] at hp';exact (acv hp').symm
   subst ep;obtain ⟨m1,m2⟩:=m;rw [e1] at m1 m2;refine ⟨p',xs,rfl,hx,ji e1 r3,m1,fun ys py pw l hl=>?_⟩;refine k _ _ ⟨μ,_,h,(Ex.laid hl).ext,R.laid hl,?_,m2 (ys.map (·.1)) (py.map _) pw⟩;refine .lstNew R hl ?_;have kk:=ji e1 r3;have go:∀ zs:List (List Int×Addr×acd),(∀ z∈zs,z∈xs)->aM X.K H μ ((zs.map (·.1)).map fun k=>W.tup (k.map .int)) (zs.map fun y=>V.ref y.2.1):=fun zs hz=>by
    induction zs with
    | nil=>exact .nil
    | cons z zs ih=>
     refine aM.cons ?_<|ih fun y hy=>hz y<|acr _ hy
     rw [Rep];exact ⟨z.2.1,z.1.map V.int,rfl,kk z<|hz z acF,kE _⟩
   exact go ys fun z hz=>py.mem_iff.mp hz
  ·exact m.elim
 ·exact m.elim⟩
end
section
variable {X:Cx}{o:Expr}{mo:ME}{ma:MA}{apos ahY:Pos}
def Dq:MM:=fun x ws h Q=>match x,ws with
 | .loc n,[y,z]=>(match h.c n,Jb y with
  | some (.dtt kvs),some k=>Q ((wJ kvs k).getD z) h
  | _,_=>False)
 | _,_=>False
def IK (h:Gh)(x:W)(P:Prop):Prop:=match x with
 | .loc n=>(match h.c n with
  | some (.dtt _)=>P
  | _=>False)
 | _=>False
def YZ (r:MM)(mo:ME)(ma:MA):ME:=fun Z h Q=>mo Z h fun x h1=>IK h1 x (ma Z h1 fun xs h2=>r x xs h2 Q)
def VD (hu:X.A.units+30<afi)(ho:DE X o mo)(ha:DAs X [e1,e2] ma)
  (hbase:attributeBase o "get" X.env (eval o X.env)=eval o X.env:=by rfl)
  (hfew:((afj ahY (acN [e1,e2] X.env)).all (fun x=>!x.1)&&(backToKw ahY (agO [] X.env)).all (fun x=>x.1.isSome)
   && decide (([e1,e2]:List Expr).length+([]:List agy).length+(if ([]:List agy).isEmpty then 0 else 1)<30))=true:=by rfl)
  (hline:(apos.endLine==ahY.line)=true:=by rfl) (hst:acN [e1,e2] X.env=(false,eval e1 X.env)::acN [e2] X.env:=by rfl) (hplain:(afj ahY (acN [e2] X.env)).any (·.1)=false:=by rfl) :
  DE X (.Call (.Attribute o "get" apos) [e1,e2] [] ahY) (YZ Dq mo ma):=by
 intro ahW s Z H Q I ⟨μ,h,Zw,Qw,R,S,m,k⟩;refine wpAny_Call_method_late hbase hfew hline rfl<|thn (ho ahW s Z H _ I ⟨μ,h,Zw,_,R,S,m,fun _ _ z=>z⟩) fun u s1 ⟨x,H1,I1,rx,μ1,wx,h1,e1',R1,r1,il⟩=>?_
 unfold IK at il;dsimp only at il;split at il
 ·rename_i n;split at il
  ·rename_i kv0 ec0;have r0:=r1;rw [Rep] at r1;obtain ⟨a,rfl,ha'⟩:=r1;obtain rfl:u=Value.ref a:=rx;obtain ⟨p,xs,vs,hp,hx,_⟩:=R1.dttAt ec0;have ep:p=a:=by rw [ha'] at hp;exact (acv hp).symm
   subst ep;obtain ⟨⟨z,y,nd,ob,es,epo,g1,g2,g3,g4⟩,_⟩:=I1.hok p _ hx;refine ⟨"dict", "dict.get",PySem.F.plainAttrs_dict,agj,PySem.F.type_dict_get,⟨ob,g1,g2.1⟩,fun b e=>by cases e;exact ⟨ob,g1,g2.2.1⟩,?_⟩;have hA:=ha ahY ahW s1 Z H1 _ I1 ⟨μ1,h1,Zw,_,R1,S.ext e1',il,fun _ _ z=>z⟩;rw [hst] at hA |-
   refine Calls.callWith_builtin (by show (false||(afj ahY<|acN [e2] X.env).any (·.1))=false;rw [hplain] <;> rfl)<|Calls.evalArgs_plain ?_
   refine thn hA fun us s2 ⟨ys,H2,I2,r2,μ2,ws,h2,e2',R2,rs,m2⟩=>?_;unfold Dq at m2;dsimp only at m2;split at m2
   ·rename_i n' y' z' e3;cases e3;split at m2
    ·rename_i kvs kk ec ek;obtain ⟨v1,v2,rfl,ry,rz⟩:=Bb rs;obtain ⟨b,rfl,hb⟩:=jq ry ek;obtain ⟨u1,u2,rfl,ru1,ru2⟩:=vals2 r2;cases ru1;obtain ⟨p2,xs2,vs2,hp2,hx2,q1,q2,q3,q4⟩:=R2.dttAt ec;have r0':=e2'.r _ _ r0;rw [Rep] at r0';obtain ⟨a2,ea,ha2⟩:=r0';cases ea;have ep2:p2=p:=by rw [ha2] at hp2;exact (acv hp2).symm
     subst ep2;obtain ⟨_,hd2,dd⟩:=yc I2 hx2 (ji q1 q3);obtain ⟨t1,t2⟩:=rP q1 q2 q4 kk;refine call_meetsIn agj dd.typeIs PySem.F.entry_dict_get (PySem.F.args_dict_get_3 _ _ _) (meetsH_dict_get_default (tupleKind<|ahc X.prog X.w) p2 b hd2 u2) ⟨tupleKind_room_in1<|by omega,kk,xs2,vN I2 hb,dd,?_⟩;cases ev:wJ kvs kk with
     | some wv=>
      rw [ev] at m2;obtain ⟨pp,v,a1,a2,a3⟩:=t1 wv ev;rw [a1];exact ⟨v,H2,I2.tok _,a2,k _ _ ⟨μ2,wv,h2,e1'.trans e2',R2,a3,m2⟩⟩
     | none=>
      rw [ev] at m2 t2;have a1:atKey xs2 kk=none:=by
       cases e:atKey xs2 kk with
       | none=>rfl
       | some _=>rw [e] at t2;cases t2
      rw [a1];exact ⟨v2,H2,I2.tok _,ru2,k _ _ ⟨μ2,z',h2,e1'.trans e2',R2,rz,m2⟩⟩
    ·exact m2.elim
   ·exact m2.elim
  ·exact il.elim
 ·exact il.elim
end
section
variable {X:Cx}{K:abZ}
def Em (hc:X.calm=true):gk X (.builtin "min") (fun xs H Q=>∃ (p:Addr) (ns:List Int),xs=[.ref p]/\SqL X.K H p (ns.map V.int)/\0<ns.length/\∀ M,M∈ns->(∀ a,a∈ns->M<=a)->Q (.int M) H):=by
 intro ahW s Z H xs us Q I r ⟨p,ns,e,hS,hne,q⟩;subst e;obtain ⟨u,rfl,ru⟩:=vals1 r;cases ru;obtain ⟨its,rv,pl,hz⟩:=I.list hS;have ahX:its.length=ns.length:=by rw [<-rv.length,acf]
 have all:AllInts its.toArray:=fun v hv=>by
  obtain ⟨i,hi,e⟩:=Array.mem_iff_getElem.mp hv;obtain ⟨t,e2⟩:=xu (i:=i) (v:=v) rv (by rw [<-e];simp at hi |-);exact ⟨_,t,e2⟩
 obtain ⟨ys,ey⟩:=all.items;have hl:=pl.isList;rw [ey] at hl;have hys:ys.size=ns.length:=by
  have:=congrArg Array.size ey
  simp [intItems] at this;omega
 have num:∀ i,i<ns.length->numAt ys i=ns.getD i 0:=fun i hi=>by
  obtain ⟨t,e2⟩:=xu (i:=i) (v:=its[i]'(by omega)) rv (acn (by omega));have e3:(intItems ys)[i]?=some (its[i]'(by omega)):=by rw [<-ey];simp
  obtain ⟨t',e4⟩:=intItems_at e3;rw [e2] at e4;injection e4 with e5 _
  exact e5.symm
 refine min_intList (I.ok.hd hc) hl (by omega) fun v h' tk hv hk=>?_;obtain ⟨t,rfl⟩:=intItems_at hv;obtain ⟨h1,h2⟩:=argBest_lt (numAt ys) (ys.size - 1);refine ⟨.int _,H,I.kept (h':=h') (t':=tk) hk,⟨t,rfl⟩,q _ ?_ fun a ha=>?_⟩
 ·rw [num _ (by omega),acQ,acn (by omega)];exact afa _
 ·obtain ⟨j,hj,e⟩:=afJ.mp ha;have:=h2 j (by omega)
  rw [num j hj,acQ,acn hj] at this;rw [<-e];exact this
def PN:MC:=fun ws h Q=>match ws with
 | [w]=>(match d7 h w with
  | some us=>∃ ns:List Int,us=ns.map W.int/\0<ns.length/\∀ M,M∈ns->(∀ a,a∈ns->M<=a)->Q (.int M) h
  | none=>False)
 | _=>False
def Vs (hc:X.calm=true):fM X (.builtin "min") PN:=⟨_,Em hc,by
 intro H μ h vs ws Qw Q R r m k;unfold PN at m;split at m
 ·split at m
  ·rename_i w us ev;obtain ⟨v,e,rv⟩:=jO r;obtain ⟨p,ys,ex,hs,rs⟩:=cX R rv ev;obtain ⟨ns,eu,hne,m⟩:=m;subst e ex;rw [eu] at rs;have:=rD rs
   subst this;exact ⟨p,ns,rfl,hs,hne,fun M hM ha=>k _ _<|.int R<|m M hM ha⟩
  ·exact m.elim
 ·exact m.elim⟩
variable {o e:Expr}{mo:ME}{ma:MA}{apos ahY:Pos}
end
section
variable {prog:acK}{w:adt}{A:acY}{E:acd->aci->Prop}{L I:Addr}{ns:List Int}{its:List acd}
def Gr (ns:List Int)(j:Nat)(b:Int):Prop:=b∈ns/\∀ k,k<j->ns.getD k 0<=b
end
section
variable {X:Cx}
end
section
open AutoSeq1 (wpAny_loadPart')
set_option maxRecDepth 100000
end
section
variable {prog:acK}{w:adt}{A:acY}{E:acd->aci->Prop}{s:aci}
end
section
variable {X:Cx}{K:abZ}
end
section
variable {prog:acK}{w:adt}{A:acY}{L I:Addr}{its:List acd}
end
section
variable {X:Cx}{K:abZ}
end
section
variable {X:Cx}{K:abZ}
def Yy (h:Gh)(x y:W):Option Src:=match p8 x,y with
 | some as,.loc n=>(match h.c n with
  | some (.lst bs)=>some ⟨nH as bs,some (n,bs)⟩
  | _=>none)
 | _,_=>none
end
theorem lex_lt:∀ k l:List Int,HT.lexLt k l=decide (k<l)
 | [],[]=>by simp [HT.lexLt]
 | [],b::l=>by simp [HT.lexLt]
 | a::k,[]=>by simp [HT.lexLt]
 | a::k,b::l=>by
  unfold HT.lexLt;by_cases e:a=b
  ·subst e;rw [if_pos (by first | rfl | simp),lex_lt k l];exact decide_eq_decide.mpr (by rw [adJ];simp [Int.lt_irrefl])
  ·rw [if_neg (by simpa using e)];exact decide_eq_decide.mpr (by rw [adJ];simp [e])
section
variable {X:Cx}
def Wz:M2:=fun x y h Q=>match Jb x,Jb y with
 | some k,some l=>Q (.bl (decide (k<l))) h
 | _,_=>False
def YX (hu:X.A.units+30<afi):DOp X (adW .Lt) Wz:=⟨_,Wx (by omega),by
 intro H μ h x y wx wy Qw Q R rx ry m k;unfold Wz at m;split at m
 ·rename_i kk ll e1 e2;obtain ⟨a,ea,ha⟩:=jq rx e1;obtain ⟨b,eb,hb⟩:=jq ry e2;rw [<-lex_lt] at m;exact ⟨a,b,kk,ll,ea,eb,ha,hb,k _ _<|.bl R m⟩
 ·exact m.elim⟩
end
section
variable {prog:acK}{w:adt}{A:acY}{E:acd->aci->Prop}{s:aci}
def pW:typeLookup (.type "tuple") "keys" = pure none:=by rw [typeLookup_type,agF];kernel_rfl
def qF:typeLookup (.type "list") "keys" = pure none:=by rw [typeLookup_type,agF];kernel_rfl
set_option maxRecDepth 100000 in
def Az {a:Addr}{o:Obj}{xs:Array acd}{k:Nat}{Q:Option acd->aci->Prop}(hx:s.heap.get? a=some o)(hc:o.cls=.type "tuple")(hdat:o.data=.seq xs k)(hd:o.dict=none)(hA:A.handled=none)
  (h:∀ h' tk,(∀ b ob,s.heap.get? b=some ob->h'.get? b=some ob)->Q none { s with heap:=h',toks:=tk }):acL (acP prog w) A (getAttr? (.ref a) "keys") Q E s:=by
 obtain ⟨c,dct,dat,sl⟩:=o;simp only at hc hdat hd;subst hc hdat hd;obtain ⟨hp,g,d,tk,os⟩:=s;have hT:∀ tk',(⟨hp,g,d,tk',os⟩:aci).TypeIs (.ref a) "tuple":=fun _=>⟨_,hx,rfl⟩
 have f1:=sub_AttributeError;have f3:=F.slot_tuple_getattribute.lookup;have f4:=F.slot_tuple_getattribute.bind (.ref a);have f5:=am_tuple_getattr_none;unfold getAttr? getAttrBy? getAttrBy;repeat (any_goals (first | assumption | exact hT _ | ((with_reducible show acL _ _ (call (Value.builtin "tuple.__getattribute__") _ _) _ _ _);refine call_meets F.slot_tuple_getattribute (hT _) am_entry_tuple_getattribute (F.args_tuple_getattribute_2 _ _) (meets_getattribute_miss_tuple a xs k sl "keys" _ pW (by decide) (by size_fits)) ⟨hx,hA,fun h' tk' e hx'=>?_⟩) | wp_step))
 obtain ⟨t',u',he⟩:=hx'.there;show acL _ _ (getattributeRaised _ _ _ _ _ _ _) _ _ _;unfold getattributeRaised;repeat (any_goals (first | assumption | wp_step))
 exact h _ _ hx'.keeps
set_option maxRecDepth 100000 in
def Bh {a:Addr}{o:Obj}{xs:Array acd}{k:Nat}{Q:Option acd->aci->Prop}(hx:s.heap.get? a=some o)(hc:o.cls=.type "list")(hdat:o.data=.seq xs k)(hd:o.dict=none)(hA:A.handled=none)
  (h:∀ h' tk,(∀ b ob,s.heap.get? b=some ob->h'.get? b=some ob)->Q none { s with heap:=h',toks:=tk }):acL (acP prog w) A (getAttr? (.ref a) "keys") Q E s:=by
 obtain ⟨c,dct,dat,sl⟩:=o;simp only at hc hdat hd;subst hc hdat hd;obtain ⟨hp,g,d,tk,os⟩:=s;have hT:∀ tk',(⟨hp,g,d,tk',os⟩:aci).TypeIs (.ref a) "list":=fun _=>⟨_,hx,rfl⟩
 have f1:=sub_AttributeError;have f3:=F.slot_list_getattribute.lookup;have f4:=F.slot_list_getattribute.bind (.ref a);have f5:=am_list_getattr_none;unfold getAttr? getAttrBy? getAttrBy;repeat (any_goals (first | assumption | exact hT _ | ((with_reducible show acL _ _ (call (Value.builtin "list.__getattribute__") _ _) _ _ _);refine call_meets F.slot_list_getattribute (hT _) am_entry_list_getattribute (F.args_list_getattribute_2 _ _) (meets_getattribute_miss_list a xs k sl "keys" _ qF (by decide) (by size_fits)) ⟨hx,hA,fun h' tk' e hx'=>?_⟩) | wp_step))
 obtain ⟨t',u',he⟩:=hx'.there;show acL _ _ (getattributeRaised _ _ _ _ _ _ _) _ _ _;unfold getattributeRaised;repeat (any_goals (first | assumption | wp_step))
 exact h _ _ hx'.keeps
def u6:entryFor table "dict.update.loop" = some acV.«dict.update.loop»:=entryFor_of_tree (by kernel_rfl)
def jf:plainId "dict.update.loop" = true:=by decide +kernel
abbrev tkd (prog:acK)(w:adt):=tupleKind (ahc prog w)
def Gw {h h':Heap}{a:Addr}(x:(tkd prog w).is h k a)(m:∀ b o,h.get? b=some o->h'.get? b=some o):(tkd prog w).is h' k a:=by
 obtain ⟨o,its,n,ho,r⟩:=x;exact ⟨o,its,n,m _ _ ho,r⟩
def qU {h0 h h':Heap}{xs:List (List Int×Addr×acd)}(x:ags (tkd prog w) h d xs)(hd:∀ o,h.get? d=some o->h'.get? d=some o)(hk:∀ y∈xs,(tkd prog w).is h' y.1 y.2.1):ags (tkd prog w) h' d xs:=by
 obtain ⟨o,es,ep,e1,e2,e3,e4,_,e6⟩:=x;exact ⟨o,es,ep,hd o e1,e2,e3,e4,hk,e6⟩
def HX {I:Addr}{items:Array acd}{fp:List Addr}{St:Nat->Heap->Prop}(W:Walks prog w A.in1 I fp [I] items.size (fun i v=>items[i]?=some v) St)(hdf:d∉fp)(hu:A.in1.units<afi)(h0:Heap)(hd0:h0.get? d=none)(hI0:h0.get? I=none)
  {ps:List (List Int×Addr×acd)} (hp:items.size=ps.length) (hk:∀ (j:Nat) (p:List Int×Addr×acd),ps[j]?=some p->∃ q,items[j]?=some (.ref q)/\IsTup h0 q #[.ref p.2.1,p.2.2]/\(tkd prog w).is h0 p.1 p.2.1) (nd:(ps.map (·.1)).Nodup) (hz:ps.length<=acM) :
  ∀ (k j:Nat) (s:aci) (t:Tok),ps.length - j=k->j<=ps.length->St j s.heap->ags (tkd prog w) s.heap d (ps.take j)->(∀ b o,h0.get? b=some o->s.heap.get? b=some o) ->
  (∀ h' tk,ags (tkd prog w) h' d ps->(∀ b o,h0.get? b=some o->h'.get? b=some o)->R (.ok (.ret .none)) { s with heap:=h',toks:=tk }) ->
  agP (acP prog w) A (.builtin "dict.update.loop" ⟨[.ref d,.ref I,.int (j:Int) t,.none],[]⟩) R s:=by
 have dI:d≠I:=fun e=>hdf (W.sub d (by rw [e];simp))
 have keys:∀ (j:Nat) (h':Heap),(∀ b o,h0.get? b=some o->h'.get? b=some o)->∀ y∈ps.take j,(tkd prog w).is h' y.1 y.2.1:=fun j h' m y hy=>by
  obtain ⟨i,hi,e⟩:=afJ.mp (afk hy);obtain ⟨q,_,_,hq⟩:=hk i y (by rw [<-e];exact acn hi);exact Gw hq m
 intro k;induction k with
 | zero=>
  intro j s t hkj hj st hm h00 hR;have ej:j=ps.length:=by omega
  refine afq u6 ?_;rw [aeH jf _];show acL _ A.in1 (agS (.ref I) >>= _) _ _ s;refine abY<|W.done s _ _ (by rw [hp,<-ej];exact st) fun h' tk hk'=>?_
  have m:∀ b o,h0.get? b=some o->h'.get? b=some o:=fun b o e=>hk' b o (by intro z;rw [acT.mp z,hI0] at e;cases e) (h00 b o e)
  have hm':ags (tkd prog w) h' d ps:=by
   rw [ej,adf] at hm;refine qU (h0:=h0) hm (fun o e=>hk' d o (by simpa using dI) e) fun y hy=>keys ps.length h' m y (by rw [adf];exact hy)
  exact abY<|ach<|ach<|hR h' tk hm' m
 | succ k ih=>
  intro j s t hkj hj st hm h00 hR;have hlt:j<ps.length:=by omega
  have ep:ps[j]?=some ps[j]:=acn hlt;generalize ps[j]=p at ep;obtain ⟨q,eq,hq,hkey⟩:=hk j p ep;refine afq u6 ?_;rw [aeH jf _];show acL _ A.in1 (agS (.ref I) >>= _) _ _ s;refine abY<|W.item j s _ _ (by rw [hp];exact hlt) st fun v h' tk hP st' hk'=>?_
  have ev:v=.ref q:=by rw [eq] at hP;exact (acv hP).symm
  subst ev;have m:∀ b o,h0.get? b=some o->h'.get? b=some o:=fun b o e=>hk' b o (by intro z;rw [acT.mp z,hI0] at e;cases e) (h00 b o e)
  have hm':ags (tkd prog w) h' d (ps.take j):=qU (h0:=h0) hm (fun o e=>hk' d o (by simpa using dI) e) (keys j h' m);obtain ⟨oq,goq,cq,nq,dq⟩:=hq;have goq':=m _ _ goq;refine abY<|adB<|abY<|wpAny_tryCatch ?_
  unfold Builtin.Dict.pairItems;refine abY<|aeI (T := "tuple") ⟨oq,goq',cq⟩ ?_
  rw [if_pos (by decide)];refine abY<|afl goq' dq<|ach ?_
  show acL _ _ (holding [_,_] (dictSet d _ _)) _ _ _;have hno:atKey (ps.take j) p.1=none:=by
   unfold atKey;rw [Option.map_eq_none_iff,List.find?_eq_none];intro y hy;have hn:p.1∉(ps.take j).map (·.1):=by
    have e1:ps=ps.take j++p::ps.drop (j+1):=by
     conv=>lhs;rw [<-agq j ps]
     congr 1
     rw [aej hlt];congr 1
     rw [acn hlt] at ep;exact acv ep
    rw [e1,acB,List.nodup_append] at nd;intro z;exact nd.2.2 _ z p.1 (by simp) rfl
   intro z;exact hn<|acJ.mpr ⟨y,hy,by simpa using z⟩
  refine adB<|wpAny_dictSet_heap (hsz:=by rw [aeb];omega) hu (Gw hkey m) hm' fun h2 hd2 hs2=>?_
  rw [storedH_new hno] at hd2;have et:ps.take j++[(p.1,p.2.1,p.2.2)]=ps.take (j+1):=by rw [adl,ep];rfl
  rw [et] at hd2;have keep2:∀ b o,b≠d->h'.get? b=some o->h2.get? b=some o:=fun b o hb e=>hs2.extBut b o hb e
  refine ach ⟨afQ jf _,?_⟩;have ej:((j:Int)+1)=((j+1:Nat):Int):=by omega
  show agP _ _ (.builtin "dict.update.loop" ⟨[.ref d,.ref I,.int ((j:Int)+1) 0,.none],[]⟩) _ _;rw [ej];refine ih (j+1) _ 0 (by omega) hlt (W.frame _ _ _ st' fun b hb o e=>keep2 b o (fun z=>hdf<|z ▸ hb) e) hd2 (fun b o e=>keep2 b o (fun z=>by rw [z,hd0] at e;cases e)<|m b o e) fun h3 tk3 d3 m3=>hR h3 tk3 d3 m3
def rN {T:Addr}{items:Array acd}{Q:acd->aci->Prop}(hh:A.handled=none)(hu:A.units+30<afi)
  (src:(∃ o n,s.heap.get? T=some o/\o.cls=.type "tuple"/\o.data=.seq items n/\o.dict=none)\/(∃ o n,s.heap.get? T=some o/\o.cls=.type "list"/\o.data=.seq items n/\o.dict=none))
  {ps:List (List Int×Addr×acd)} (hp:items.size=ps.length) (hk:∀ (j:Nat) (p:List Int×Addr×acd),ps[j]?=some p->∃ q,items[j]?=some (.ref q)/\IsTup s.heap q #[.ref p.2.1,p.2.2]/\(tkd prog w).is s.heap p.1 p.2.1) (nd:(ps.map (·.1)).Nodup) (hz:ps.length<=acM)
  (h:∀ h' tk,ags (tkd prog w) h' s.heap.objs.size ps->(∀ b o,s.heap.get? b=some o->h'.get? b=some o)->Q (.ref s.heap.objs.size) { s with heap:=h',toks:=tk }) :
  acL (acP prog w) A (call (.type "dict") [.ref T]) Q E s:=by
 have hhA:A.in1.in1.handled=none:=hh;have hu2:A.in1.in1.units<afi:=by
  have:A.in1.in1.units=A.units+1+1:=rfl
  omega
 have hT0:T<s.heap.objs.size:=by
  rcases src with ⟨o,_,e,_⟩ | ⟨o,_,e,_⟩ <;> exact acs e
 refine callType_codes (Q₁:=fun obj s₁=>obj=.ref s.heap.objs.size/\s₁ = { s with heap:=s.heap.push { cls:=.type "dict",data:=.dict #[] } }) F.kt_called_dict (F.kt_typeCall_dict_1 _) F.entry_dict_init (kt_code_dict_new _ ⟨rfl,rfl⟩) ?_;rintro obj s₁ ⟨rfl,rfl⟩;have hTd:({ s with heap:=s.heap.push { cls:=.type "dict",data:=.dict #[] } }:aci).TypeIs (.ref s.heap.objs.size) "dict":=⟨_,acw _ rfl,rfl⟩
 refine ⟨hTd,F.args_dict_init_2 _ _,?_⟩;unfold acV.«dict.__init__»;refine abY ?_;unfold Builtin.Dict.selfAndRest;refine abY<|wpAny_notOrdered_dict hTd ?_
 show acL _ _ (pure (s.heap.objs.size,[Value.ref T])) _ _ _;refine ach ?_;show acL _ _ (Builtin.Dict.updateFrom "dict.__init__" s.heap.objs.size (.ref T) [] .none) _ _ _;unfold Builtin.Dict.updateFrom;have loop:∀ (h1:Heap) (tk1:Nat),(∀ b ob,(s.heap.push { cls:=.type "dict",data:=.dict #[] }).get? b=some ob->h1.get? b=some ob)->∀ (h2:Heap) (fp:List Addr) (St:Nat->Heap->Prop),h1.objs.size∉([s.heap.objs.size]:List Addr)->(∀ b ob,h1.get? b=some ob->h2.get? b=some ob)->s.heap.objs.size∉fp->Walks prog w A.in1.in1 h1.objs.size fp [h1.objs.size] items.size (fun i v=>items[i]?=some v) St->St 0 h2 ->
   agP (acP prog w) A.in1 (.builtin "dict.update.loop" ⟨[.ref s.heap.objs.size,.ref h1.objs.size,aha 0,.none],[]⟩) (wants (fun r s₂=>r=.none/\Q (.ref s.heap.objs.size) s₂) E) { s with heap:=h2,toks:=tk1 }:=by
  intro h1 tk1 m1 h2 fp St hne m2 hfp W st;have hd1:=m1 _ _ (acw s.heap (o:={ cls:=.type "dict",data:=.dict #[] }) rfl);refine HX (A:=A.in1) W hfp hu2 s.heap (agA<|acj _) (agA<|aen<|acs hd1) hp hk nd hz ps.length 0 _ _ rfl (adu _) st ?_ (fun b o e=>m2 b o<|m1 b o<|ace _ e) fun h' tk d m=>⟨rfl,h h' tk d m⟩;exact ⟨_,#[],0,m2 _ _ hd1,⟨rfl,rfl,rfl⟩,rfl,rfl,(fun x hx=>absurd hx adL),List.nodup_nil⟩
 rcases src with ⟨o,n,g1,g2,g3,g4⟩ | ⟨o,n,g1,g2,g3,g4⟩
 ·have g1':(s.heap.push { cls:=.type "dict",data:=.dict #[] }).get? T=some o:=ace _ g1;refine abY<|aeI (T := "tuple") ⟨o,g1',g2⟩ ?_
  rw [if_pos (by decide)];refine abY<|Az g1' g2 g3 g4 hhA fun h1 tk1 m1=>?_
  rw [if_pos (show (none:Option acd).isNone=true from rfl)];refine abY<|aeA ?_
  have hT:h1.IsTuple T items:=⟨o,m1 _ _ g1',g2,n,g3⟩
  refine abY<|wpAny_pyIter_tuple hT ?_
  have hlt:T<h1.objs.size:=acs (m1 _ _ g1');have hd1:=acs (m1 _ _ (acw s.heap (o:={ cls:=.type "dict",data:=.dict #[] }) rfl));refine ach ⟨afQ jf _,?_⟩;exact loop h1 tk1 m1 _ _ _ (by simpa using adR hd1) (fun b ob e=>ace _ e) (by simp only [acA,adL,or_false,not_or];exact ⟨acI hd1,adR hT0⟩) (Walks.tuple hhA _ T (acI hlt) items) ⟨⟨_,acw _ rfl,rfl,rfl⟩,hT.push _⟩
 ·have g1':(s.heap.push { cls:=.type "dict",data:=.dict #[] }).get? T=some o:=ace _ g1;refine abY<|aeI (T := "list") ⟨o,g1',g2⟩ ?_
  rw [if_pos (by decide)];refine abY<|Bh g1' g2 g3 g4 hhA fun h1 tk1 m1=>?_
  rw [if_pos (show (none:Option acd).isNone=true from rfl)];refine abY<|aeA ?_
  have hT:h1.IsList T items:=⟨o,m1 _ _ g1',g2,n,g3⟩
  refine abY<|agx hT ?_
  have hlt:T<h1.objs.size:=acs (m1 _ _ g1');have hd1:=acs (m1 _ _ (acw s.heap (o:={ cls:=.type "dict",data:=.dict #[] }) rfl));refine ach ⟨afQ jf _,?_⟩;exact loop h1 tk1 m1 _ _ _ (by simpa using adR hd1) (fun b ob e=>ace _ e) (by simp only [acA,adL,or_false,not_or];exact ⟨acI hd1,adR hT0⟩) (Walks.list hhA _ T (acI hlt) items) ⟨⟨_,acw _ rfl,rfl,rfl⟩,hT.push _⟩
end
section
variable {X:Cx}{K:abZ}
abbrev QD (K:abZ)(H:Hp)(y:V)(p:List Int×Addr×V):Prop:=∃ q,y=V.ref q/\SqT K H q [.ref p.2.1,p.2.2]/\SqT K H p.2.1 (p.1.map V.int)
def vX {ahW:List (Addr×Obj)}{Z : St}{H:Hp}{s:aci}(I:Inv X ahW Z H s):∀ {ys:List V} {ps:List (List Int×Addr×V)} {its:List acd},Vals ys its->adF (QD X.K H) ys ps ->
  ∃ xs:List (List Int×Addr×acd),xs.map (·.1)=ps.map (·.1)/\xs.map (·.2.1)=ps.map (·.2.1)/\Vals (ps.map (·.2.2)) (xs.map (·.2.2))/\∀ (j:Nat) (p:List Int×Addr×acd),xs[j]?=some p->∃ q,its[j]?=some (.ref q)/\IsTup s.heap q #[.ref p.2.1,p.2.2]/\(tkd X.prog X.w).is s.heap p.1 p.2.1
 | _,_,_,.nil,.nil=>⟨[],rfl,rfl,.nil,fun j p e=>by simp at e⟩
 | _,_,_,.cons r rv,.cons (b:=p) hp pp=>by
  obtain ⟨xs,a1,a2,a3,a4⟩:=vX I rv pp;obtain ⟨q,rfl,h1,h2⟩:=hp;cases r;obtain ⟨js,r2,ht,_⟩:=I.tuple h1;cases r2 with
  | cons r3 r4=>
   cases r4 with
   | cons r5 r6=>
    cases r6;cases r3;rename_i v;refine ⟨(p.1,p.2.1,v)::xs,by simp [a1],by simp [a2],.cons r5 a3,fun j z e=>?_⟩;cases j with
    | zero=>
     simp at e;subst e;exact ⟨q,rfl,ht,vN I h2⟩
    | succ j=>
     obtain ⟨q',b1,b2⟩:=a4 j z (by simpa using e);exact ⟨q',by simpa using b1,b2⟩
def Ax (hc:X.calm=true)(hu:X.A.units+30<afi):gk X (.type "dict") (fun vs H Q=>∃ (T:Addr) (ys:List V) (ps:List (List Int×Addr×V)),vs=[.ref T]/\(SqL X.K H T ys\/SqT X.K H T ys)/\adF (QD X.K H) ys ps/\(ps.map (·.1)).Nodup /\
  ∀ d,H d=none->∀ xs:List (List Int×Addr×acd),xs.map (·.1)=ps.map (·.1)->xs.map (·.2.1)=ps.map (·.2.1)->Vals (ps.map (·.2.2)) (xs.map (·.2.2))->Q (.ref d) (upd H d (.ext (CQ d xs)))):=by
 intro ahW s Z H vs us Q I r ⟨T,ys,ps,ev,hS,pp,nd,q⟩;subst ev;obtain ⟨u,rfl,ru⟩:=vals1 r;cases ru;have key:∀ its:List acd,Vals ys its->ys.length<=acM->((∃ o n,s.heap.get? T=some o/\o.cls=.type "tuple"/\o.data=.seq its.toArray n/\o.dict=none)\/(∃ o n,s.heap.get? T=some o/\o.cls=.type "list"/\o.data=.seq its.toArray n/\o.dict=none))->acL (acP X.prog X.w) X.A (call (.type "dict") [.ref T]) (EP X ahW Z Q) X.xe s:=fun its rv hz src=>by
  obtain ⟨xs,a1,a2,a3,a4⟩:=vX I rv pp;have e1:ys.length=its.length:=rv.length;have e2:ys.length=ps.length:=agv pp;have e3:xs.length=ps.length:=by have:=congrArg aeS a1;simpa using this
  refine rN (I.ok.hd hc) hu src (ps:=xs) (by rw [acC];omega) (fun j p e=>by
   obtain ⟨q,b1,b2⟩:=a4 j p e;exact ⟨q,by rw [List.getElem?_toArray];exact b1,b2⟩) (by rw [a1];exact nd) (by omega) fun h' tk d m=>?_
  have y:(s.heap.objs.size==aeu)=false:=(Jg (P:=X.prog) (w:=X.w) (H:=H) s.heap I.big).2.1;exact ⟨.ref s.heap.objs.size,_,I.laid (a:=s.heap.objs.size) (o:=.ext (CQ s.heap.objs.size xs)) (t':=tk) m (acj _)<|Ij (P:=X.prog) (w:=X.w) (by omega) y d,rfl,q _ (I.hok.fresh<|acj _) xs a1 a2 a3⟩
 rcases hS with hS | hS
 ·obtain ⟨its,rv,⟨o,n,g1,g2,g3,g4⟩,hz⟩:=I.list hS;exact key its rv hz<|.inr ⟨o,n,g1,g2,g4,g3⟩
 ·obtain ⟨its,rv,⟨o,g1,g2,⟨n,g3⟩,g4⟩,hz⟩:=I.tupO hS;exact key its rv hz<|.inl ⟨o,n,g1,g2,g3,g4⟩
def mV:List W->Option (List (List Int×W))
 | []=>some []
 | .tup [k,v]::r=>(match Jb k with
  | some ks=>(mV r).map ((ks,v)::·)
  | none=>none)
 | _=>none
theorem u5 {H:Hp}{μ : Mu}:∀ {us:List W} {ys:List V} {ps:List (List Int×W)},aM K H μ us ys->mV us=some ps->∃ qs:List (List Int×Addr×V),adF (QD K H) ys qs/\qs.map (·.1)=ps.map (·.1)/\aM K H μ (ps.map fun x=>W.tup (x.1.map W.int)) (qs.map fun x=>V.ref x.2.1)/\aM K H μ (ps.map (·.2)) (qs.map (·.2.2))
 | [],ys,ps,r,e=>by
  rw [aM] at r;cases e;subst r;exact ⟨[],.nil,rfl,by rw [adA,adA,aM],by rw [adA,adA,aM]⟩
 | w::us,ys,ps,r,e=>by
  rw [aM] at r;obtain ⟨y,yr,rfl,ra,r⟩:=r;unfold mV at e;split at e
  ·rename_i h;cases h
  ·rename_i k v us' h;cases h;split at e
   ·rename_i ks ek;cases q:mV us with
    | none=>rw [q] at e;cases e
    | some cs=>
     rw [q] at e;cases (show some ((ks,v)::cs)=some ps from e)
     obtain ⟨qs,p1,p2,p3,p4⟩:=u5 r q;rw [Rep] at ra;obtain ⟨b,zs,rfl,hb,rz⟩:=ra;obtain ⟨z1,z2,rfl,rk,rw'⟩:=Bb rz;obtain ⟨kb,rfl,hkb⟩:=jq rk ek;refine ⟨(ks,kb,z2)::qs,.cons ⟨b,rfl,hb,hkb⟩ p1,by simp [p2],?_,?_⟩
     ·rw [acg,acg,aM];exact ⟨_,_,rfl,by rw [Rep];exact ⟨kb,_,rfl,hkb,nR ks⟩,p3⟩
     ·rw [acg,acg,aM];exact ⟨_,_,rfl,rw',p4⟩
   ·cases e
  ·cases e
def yN:MC:=fun ws h Q=>match ws with
 | [w]=>(match view h w with
  | some us=>(match mV us with
   | some ps=>(ps.map (·.1)).Nodup/\Q (.loc h.nx) (h.new (.dtt ps))
   | none=>False)
  | none=>False)
 | _=>False
def Ot (hc:X.calm=true)(hu:X.A.units+30<afi):fM X (.type "dict") yN:=⟨_,Ax hc hu,by
 intro H μ h vs ws Qw Q R r m k;unfold yN at m;split at m
 ·split at m
  ·split at m
   ·rename_i w _ us ev _ ps ek;obtain ⟨v,e,rv⟩:=jO r;obtain ⟨p,ys,ex,hs,rs⟩:=uq R rv ev;obtain ⟨qs,p1,p2,p3,p4⟩:=u5 rs ek;subst e ex;refine ⟨p,ys,qs,rfl,hs,p1,by rw [p2];exact m.1,fun d hd xs a1 a2 a3=>?_⟩;have xt:=(Ex.newCell (o:=.ext (CQ d xs)) R hd).ext;have e3:(xs.map fun x=>V.ref x.2.1)=qs.map fun x=>V.ref x.2.1:=by
     have:(xs.map (·.2.1)).map V.ref=(qs.map (·.2.1)).map V.ref:=by rw [a2]
     rw [adb,adb] at this;exact this
    have R1:Rel X.K (μ.put h.nx d) (upd H d (.ext (CQ d xs))) (h.new (.dtt ps)):=R.newCell hd trivial ⟨xs,qs.map (·.2.2),bB,(by rw [a1,p2]),a3,by rw [e3];exact xt.s p3,xt.s p4⟩;exact k _ _ ⟨_,.loc h.nx,_,xt,R1,by rw [Rep];exact ⟨d,rfl,Mu.put_same⟩,m.2⟩
   ·exact m.elim
  ·exact m.elim
 ·exact m.elim⟩
end
section
variable {prog:acK}{w:adt}{A:acY}{E:acd->aci->Prop}{s:aci}{r l:Addr}{items:Array acd}
def wM {Q:List acd->aci->Prop}(hh:A.handled=none)(hit:s.heap.IsRevIter r l ((items.size:Int) - 1))(hl:s.heap.IsList l items)(hne:l≠r)(hn:items.size<=acM)
  (hQ:∀ (h':Heap) (tk:Nat) (acc':Array acd),s.heap.objs.size<h'.objs.size->(∀ b o,b≠r->s.heap.get? b=some o->h'.get? b=some o)->ItemsOf (fun i v=>items[items.size - 1 - i]?=some v) acc' items.size->Q acc'.toList { s with heap:=h',toks:=tk }):acL (acP prog w) A (collect (.ref r)) Q E s:=by
 have lr:r<s.heap.objs.size:=by obtain ⟨_,e,_⟩:=hit;exact acs e
 have ll:l<s.heap.objs.size:=by obtain ⟨_,e,_⟩:=hl;exact acs e
 unfold collect;refine abY<|wpAny_runValue<|afq F.entry_proto_collect ?_
 rw [aeH F.plain_proto_collect _];show acL _ A.in1 (newList [] >>= fun l=>again (.builtin "list.__iadd__" ⟨[l,.ref r],[]⟩)) _ _ s;refine abY<|adq ?_
 refine ach ⟨afQ F.plain_list_iadd _,afq F.entry_list_iadd ?_⟩;rw [aeH F.plain_list_iadd _];show acL _ A.in1 (afp (.ref s.heap.objs.size) (.ref r) (.ref s.heap.objs.size)) _ _ _;have hS₁ : (s.heap.push { cls:=.type "list",data:=.seq ([]:List acd).toArray }).get? s.heap.objs.size=some { cls:=.type "list",data:=.seq #[] 0 }:=acw _ rfl;refine BL (A:=A) (R:=fun (r:Result) s'=>match r with
  | .ok (.ret v)=>acL (acP prog w) A (match v with
   | .ref a=>do
    match (<-load a).data with
    | .seq xs _=>pure xs.toList
    | _=>unsupported "internal:collect"
   | _=>unsupported "internal:collect") Q E s'
  | .ok _=>False
  | .error e=>E e s') (s:={ s with heap:=s.heap.push { cls:=.type "list",data:=.seq ([]:List acd).toArray } }) hh (hit.at fun o e=>ace _ e) (hl.at fun o e=>ace _ e) hne _ (adR lr) (adR ll) _ _ hS₁ (fun h' tk acc' c' hk hS' hacc=>?_) hn
 show acL _ A (load s.heap.objs.size >>= _) _ _ _;refine abY<|wpAny_load hS' ?_
 exact ach<|hQ h' tk acc' (acs hS') (fun b o hb e=>hk b o (acI<|acs e) hb<|ace _ e) hacc
def yt {Q₁ : acd->aci->Prop}(hh:A.handled=none)(hit:s.heap.IsRevIter r l ((items.size:Int) - 1))(hl:s.heap.IsList l items)(hne:l≠r)(hn:items.size<=acM)
  (h:∀ (h':Heap) (tk:Nat) (acc':Array acd),s.heap.objs.size<h'.objs.size->(∀ b o,b≠r->s.heap.get? b=some o->h'.get? b=some o)->ItemsOf (fun i v=>items[items.size - 1 - i]?=some v) acc' items.size->Q₁ (.ref h'.objs.size) { s with heap:=h'.push { cls:=.type "tuple",data:=.seq acc' },toks:=tk }) :
  agP (acP prog w) A (.call (.builtin "tuple.__new__") ⟨[.type "tuple",.ref r],[]⟩) (wants Q₁ E) s:=by
 refine codeAny_of_tree ?_;show acL _ A.in1 (do checkBuiltinCall "tuple.__new__" ⟨[.type "tuple",.ref r],[]⟩;again (.builtin "tuple.__new__" ⟨[.type "tuple",.ref r],[]⟩)) _ _ s;refine abY<|wpAny_of_eq (F.newCall_tuple_1 _)<|ach ⟨afQ F.plain_tuple_new _,afq F.entry_tuple_new ?_⟩
 rw [aeH F.plain_tuple_new _];have hsub:=sub_tuple_self;have hinit:=init_tuple_lookup;have hmh:=madeHere_tuple;have hTI:=hit.typeIs;have hhA:A.in1.handled=none:=hh
 wp_walk using aeI hTI,wM hhA hit hl hne hn
 intro h' tk acc hs hm hacc;show acL _ _ (adN acc.toList.toArray >>= fun v=>ret v) _ _ _;unfold adN;refine abY<|adq ?_ (by show acc.toList.toArray.size<=acM;simp only [Array.toArray_toList];rw [hacc.1];exact hn)
 refine ach ?_;have e:acc.toList.toArray=acc:=by simp
 rw [e];exact h h' tk acc hs hm hacc
def xU {Q:acd->aci->Prop}(hh:A.handled=none)(hit:s.heap.IsRevIter r l ((items.size:Int) - 1))(hl:s.heap.IsList l items)(hne:l≠r)(hn:items.size<=acM)
  (h:∀ (h':Heap) (tk:Nat) (acc':Array acd),s.heap.objs.size<h'.objs.size->(∀ b o,b≠r->s.heap.get? b=some o->h'.get? b=some o)->ItemsOf (fun i v=>items[items.size - 1 - i]?=some v) acc' items.size->Q (.ref h'.objs.size) { s with heap:=h'.push { cls:=.type "tuple",data:=.seq acc' },toks:=tk }) :
  acL (acP prog w) A (call (.type "tuple") [.ref r]) Q E s:=by
 refine callType_codes (Q₁:=fun obj s₁=>s₁.TypeIs obj "tuple"/\Q obj s₁) F.called_tuple (F.typeCall_tuple_1 _) F.entry_object_init
  (yt (A:=A.in1) hh hit hl hne hn fun h' tk acc hs hm hacc=>⟨⟨_,acw _ rfl,rfl⟩,h h' tk acc hs hm hacc⟩) fun obj s₁ h₁=>?_
 exact ⟨h₁.1,F.args_object_init_2 obj _,object_init_meets F.called_tuple.init.lookup F.called_tuple.made (by decide) prog w A.in1 _ s₁ ⟨h₁.1,rfl,h₁.2⟩⟩
end
section
variable {X:Cx}
def xJ (me:ME):ME:=fun Z h Q=>me Z h fun x h1=>match d7 h1 x with
 | some us=>Q (.tup us.reverse) h1
 | none=>False
def J5 {me:ME}{p p' pos pos':Pos}(hc:X.calm=true)(hl:Gl X "tuple")(hlm:X.mg "tuple" = none)(hr:Gl X "reversed")(hrm:X.mg "reversed" = none)(he:DE X e1 me)
  (h1:acN [.Call (.Name "reversed" p') [e1] [] pos'] X.env=(false,eval (.Call (.Name "reversed" p') [e1] [] pos') X.env)::acN [] X.env:=by rfl) (hp1:(afj pos (acN [] X.env)).any (·.1)=false:=by rfl)
  (h2:acN [e1] X.env=(false,eval e1 X.env)::acN [] X.env:=by rfl) (hp2:(afj pos' (acN [] X.env)).any (·.1)=false:=by rfl) :
  DE X (.Call (.Name "tuple" p) [.Call (.Name "reversed" p') [e1] [] pos'] [] pos) (xJ me):=by
 intro ahW s Z H Q I ⟨μ,g,Zw,Qw,R,S,m,q⟩;refine afF<|m6 I hl hlm aee ?_ (by decide)<|by decide
 refine aek ?_ h1 hp1;rw [h1];show acL _ _ (spliced ((false,eval _ X.env)::afj pos (acN [] X.env))) _ _ s;refine Calls.spliced_cons ?_;refine afF<|m6 I hr hrm boot_reversed ?_ (by decide)<|by decide
 refine aek ?_ h2 hp2;rw [h2];show acL _ _ (spliced ((false,eval e1 X.env)::afj pos' (acN [] X.env))) _ _ s;refine Calls.spliced_cons<|thn (he ahW s Z H _ I ⟨μ,g,Zw,_,R,S,m,fun v H1 z=>z⟩) fun u s1 ⟨x,H1,I1,rx,μ1,wx,g1,x1,R1,r1,m1⟩=>?_
 refine Calls.spliced_nil ?_;dsimp only at m1;split at m1
 ·rename_i us ev;obtain ⟨a,xs,ex,hs,rs⟩:=cX R1 r1 ev;subst ex;obtain rfl:u=Value.ref a:=rx;obtain ⟨its,r,pl,hz⟩:=I1.list hs;have ahX:=r.length;refine call_reversed_list pl.isList ?_;refine Calls.spliced_nil ?_;have la:a<s1.heap.objs.size:=by obtain ⟨_,e,_⟩:=pl.isList;exact acs e
  have gi:(s1.heap.push (revObj a ((its.toArray.size:Int) - 1))).IsRevIter s1.heap.objs.size a ((its.toArray.size:Int) - 1):=⟨_,acw _ rfl,rfl,rfl⟩
  refine xU (I1.ok.hd hc) gi (pl.isList.at fun o e=>ace _ e) (acI la) (by rw [acC,<-ahX];exact hz) fun h' tk acc' hsz kp it=>?_;have ea:acc'.toList=its.reverse:=by
   refine List.ext_getElem? fun j=>?_;by_cases hj:j<its.length
   ·have hj':j<acc'.toList.length:=by rw [aew,it.1,acC];exact hj
    have h3:=it.2 j (acc'.toList[j]) (by rw [<-ael];exact acn hj');rw [acn hj',List.getElem?_reverse hj,<-h3,acC];simp
   ·rw [List.getElem?_eq_none (by rw [aew,it.1,acC];omega),List.getElem?_eq_none (by rw [List.length_reverse];omega)]
  have kp':∀ b o,s1.heap.get? b=some o->h'.get? b=some o:=fun b o eb=>kp b o (acI (acs eb)) (ace _ eb)
  have hge:s1.heap.objs.size<=h'.objs.size:=by
   have:(s1.heap.push (revObj a ((its.toArray.size:Int) - 1))).objs.size=s1.heap.objs.size+1:=aex _ _
   rw [this] at hsz;omega
  have hf:H1 h'.objs.size=none:=I1.hok.fresh hge;refine ⟨.ref h'.objs.size,_,I1.laid (a:=h'.objs.size) (o:=.tup xs.reverse) (t':=tk) (fun b o eb=>ace _<|kp' b o eb) hge<|show eG X.prog X.w _ _ _ (.tup xs.reverse) from ⟨by rw [List.length_reverse];exact hz,acc'.toList,by rw [ea];exact Lf r,by simpa using G4.new h' acc'⟩,rfl,?_⟩;exact q _ _ ⟨μ1,.tup us.reverse,g1,x1.trans (Ex.laid hf).ext,R1.laid hf,.tupNew hf<|yM rs,m1⟩
 ·exact m1.elim
end
section
variable {P:acK}{w:adt}{A:acY}{E:acd->aci->Prop}{s:aci}
def lO (ks:List Int)(i:Int):Nat:=(ks.filter fun j=>decide (j<i)).length
theorem ud {k l:Int}(h:k<l):∀ ks:List Int,lO ks k<=lO ks l/\(k∈ks->lO ks k<lO ks l)
 | []=>⟨acj _,fun h=>nomatch h⟩
 | a::ks=>by
  obtain ⟨i1,i2⟩:=ud h ks;unfold lO at *;rw [aeE,aeE];by_cases c1:a<k
  ·rw [if_pos (by simpa using c1),if_pos (by simpa using Int.lt_trans c1 h),acE,acE];refine ⟨by omega,fun m=>?_⟩;rcases acA.mp m with rfl | m
   ·exact absurd c1<|Int.lt_irrefl _
   ·have:=i2 m;omega
  ·rw [if_neg (by simpa using c1)];by_cases c2:a<l
   ·rw [if_pos (by simpa using c2),acE];exact ⟨by omega,fun _=>by omega⟩
   ·rw [if_neg (by simpa using c2)];refine ⟨i1,fun m=>?_⟩;rcases acA.mp m with rfl | m
    ·exact absurd h c2
    ·exact i2 m
def nP {ks:List Int}{k l:Int}(hk:k∈ks):lO ks k<lO ks l↔k<l:=by
 constructor
 ·intro h;rcases Int.lt_trichotomy k l with c | c | c
  ·exact c
  ·rw [c] at h;exact absurd h (adT _)
  ·have:=(ud c ks).1;omega
 ·intro h;exact (ud h ks).2 hk
def rkI (ks:List Int):acd->Nat
 | .int i _=>lO ks i
 | _=>0
def V1:acd->Int
 | .int i _=>i
 | _=>0
def RB {ks:List Int}:Cmp P w A s oneType' (rkI ks) (fun v=>∃ k∈ks,∃ t,v=.int k t):=by
 rintro E Q x y ⟨k,hk,t,rfl⟩ ⟨l,hl,u,rfl⟩ q;rw [keyLt'_oneType];refine oneLt_int ?_;rw [<-decide_eq_decide.mpr (nP (ks:=ks) (l:=l) hk)];exact q
theorem sO:∀ {ks:List Int} {vs:List acd},Vals (ks.map V.int) vs->vs.map V1=ks/\∀ v∈vs,∃ k∈ks,∃ t,v=.int k t
 | [],_,h=>by cases h;exact ⟨rfl,fun _ h=>nomatch h⟩
 | k::ks,_,h=>by
  cases h with
  | cons r h=>
   obtain ⟨t,rfl⟩:=r;obtain ⟨e,g⟩:=sO h;refine ⟨by rw [acg,e];rfl,fun v hv=>?_⟩;rcases acA.mp hv with rfl | hv
   ·exact ⟨k,acF,t,rfl⟩
   ·obtain ⟨l,hl,x⟩:=g v hv;exact ⟨l,acr _ hl,x⟩
theorem vD:∀ {vs:List acd},(∀ v∈vs,∃ k t,v=Value.int k t)->Vals ((vs.map V1).map V.int) vs
 | [],_=>.nil
 | v::vs,h=>by
  obtain ⟨k,t,rfl⟩:=h v acF;exact .cons ⟨t,rfl⟩<|vD fun u hu=>h u<|acr _ hu
def Rj {ks:List Int}{vs:List acd}(p:Vals (ks.map V.int) vs)(hp:b.Perm (adK vs))(hr:aY (rkI ks) b 0 vs.length):
  ∃ ks':List Int,Vals (ks'.map V.int) (b.map (·.2)).toList/\ks'.Perm ks/\ks'.Pairwise (· < ·)/\(b.map (·.2)).toList.Perm vs:=by
 obtain ⟨ek,g⟩:=sO p;have hl:=aeY.mp hp;have ep:(adK vs).toList=vs.map fun v=>(v,v):=by
  have z:∀ l:List acd,l.zip l=l.map fun v=>(v,v):=fun l=>by
   induction l with
   | nil=>rfl
   | cons a l ih=>rw [aeh,ih];rfl
  unfold adK;rw [aeC];exact z vs
 rw [ep] at hl;have same:∀ x∈b.toList,x.1=x.2/\x.2∈vs:=fun x hx=>by
  obtain ⟨v,hv,rfl⟩:=acJ.mp (hl.mem_iff.mp hx);exact ⟨rfl,hv⟩
 have eo:(b.map (·.2)).toList=b.toList.map (·.2):=by simp
 have po:(b.toList.map (·.2)).Perm vs:=by
  have:=hl.map (·.2)
  rw [adb] at this
  simpa [Function.comp_def] using this
 rw [eo];refine ⟨(b.toList.map (·.2)).map V1,vD fun v hv=>?_,?_,?_,po⟩
 ·obtain ⟨k,_,t,x⟩:=g v (po.mem_iff.mp hv);exact ⟨k,t,x⟩
 ·rw [<-ek];exact po.map _
 ·rw [adb,aem,aei];intro i j hi hj hij;have hb:b.toList.length=vs.length:=by have:=po.length_eq;simpa using this
  have hi':i<b.size:=by simpa using hi
  have hj':j<b.size:=by simpa using hj
  have:=hr i j (adu _) hij (by rw [<-hb];exact hj)
  rw [eH hi',eH hj'] at this;have e1:=same b[i] (by simp);have e2:=same b[j] (by simp);obtain ⟨k,hk,t,x⟩:=g b[i].2 e1.2;obtain ⟨l,_,u,y⟩:=g b[j].2 e2.2;rw [e1.1,e2.1,x,y] at this;have this:lO ks k<lO ks l:=this;rw [nP hk] at this;show V1 b.toList[i].2<V1 b.toList[j].2;rw [afg,afg,x,y];exact this
theorem FZ {KS:List Int}:∀ {ks:List Int} {vs:List acd},Vals (ks.map V.int) vs->vs.map (rkI KS)=ks.map (lO KS)
 | [],_,p=>by cases p;rfl
 | k::ks,_,p=>by
  cases p with
  | cons r p=>
   obtain ⟨t,rfl⟩:=r;rw [acg,acg,FZ p];rfl
def KC {ks:List Int}(nd:ks.Nodup):(ks.map (lO ks)).Nodup:=by
 unfold List.Nodup;rw [aem];refine afy (fun {k l} hk hl ne e=>ne ?_) nd;have n1:¬ k<l:=fun c=>by have:=(nP hk).mpr c;omega
 have n2:¬ l<k:=fun c=>by have:=(nP hl).mpr c;omega
 omega
def Eb {KS ks:List Int}{vs:List acd}(p:Vals (ks.map V.int) vs):((adK vs).toList.map fun x=>rkI KS x.1)=ks.map (lO KS):=by
 have ep:(adK vs).toList.map (·.1)=vs:=by
  unfold adK;rw [aeC,afS (acj _)]
 rw [<-FZ p,<-ep,adb,ep];rfl
def Br {a:Addr}{vs:List acd}{ks:List Int}{n:Nat}{R:Fin->aci->Prop}(ho:s.heap.get? a=some (aeM "list" vs.toArray n))(p:Vals (ks.map V.int) vs)(nd:ks.Nodup)(hz:vs.length<=acM)
  (q:∀ (out:Array acd) (ks':List Int),Vals (ks'.map V.int) out.toList->ks'.Perm ks->ks'.Pairwise (· < ·)->out.toList.Perm vs->R (.done (.ret .none)) { s with heap:=sortedHeap s.heap a vs out }) :
  acL (acP P w) A (acV.«list.sort» ⟨[.ref a],[]⟩) R E s:=by
 have la:a<s.heap.objs.size:=acs ho;rw [list_sort_plain];refine abY<|agE ho rfl<|abY<|aft ho rfl ?_ (by simpa using hz)<|adu _
 obtain ⟨e1,h1⟩:∃ e1,(s.heap.update a (afc fun _=>#[])).get? a=some (aeM "list" #[] e1):=⟨_,get?_update_seq ho (fun _=>#[])⟩
 refine abY<|agb h1 rfl<|abY<|wpAny_newTuple<|abY<|agJ<|adB ?_
 have h6:(hp6 s.heap a vs).get? a=some (aeM "list" #[] e1):=ace _ (ace _ h1);have lk:ks.length=vs.length:=by have:=p.length;simpa using this
 show acL (acP P w) A _ R E { s with heap:=hp6 s.heap a vs };dsimp only;have size:vs.toArray.size=vs.length:=by simp
 have fin:∀ b:Array ada,b.Perm (adK vs)->aY (rkI ks) b 0 vs.length->R (.done (.ret .none)) { s with heap:=sortedHeap s.heap a vs (b.map (·.2)) }:=fun b hp hr=>by
  obtain ⟨ks',g1,g2,g3,g4⟩:=Rj p hp hr;exact q _ ks' g1 g2 g3 g4
 by_cases h2:vs.toArray.size<2
 ·rw [if_pos h2,if_pos h2];refine abY<|ach ?_
  rw [StateT.run_pure];refine abY<|ach ?_
  dsimp only;refine abY<|agb h6 rfl<|abY<|aft h6 rfl ?_ (hsz2:=?_)
  ·simp only [bne_self_eq_false,adx,if_false];refine ach<|fin (vs.toArray.zip vs.toArray) (Array.Perm.refl _) fun u v _ h3 h4=>?_
   omega
  ·rw [agm];show (adK vs).size<=_;rw [agT];omega
 ·rw [if_neg h2,if_neg h2];have kd:keyKind' vs.toArray=pure oneType':=by
   match vs,p,size,h2 with
   | [],_,_,h2=>exact absurd (by simp) h2
   | [_],_,_,h2=>exact absurd (by simp) h2
   | v1::v2::vs,p,_,_=>exact keyKind_ints (intsAre_of p)
  refine abY<|wpAny_of_eq kd<|abY ?_
  have kk:=sO p;have ep:(adK vs).toList.map (·.1)=vs:=by
   unfold adK;rw [aeC,afS (acj _)]
  have ok:SOk oneType' (rkI ks) (fun v=>∃ k∈ks,∃ t,v=.int k t) (SortSt.mk' oneType' (adK vs) #[] 7 none):=⟨rfl,rfl,⟨fun x hx=>kk.2 x.1 (by rw [<-ep];exact acJ.mpr ⟨x,hx,rfl⟩),by
   rw [Eb p];exact KC nd⟩⟩
  have zp:(adK vs).size=vs.length:=agT _;refine aed (CW (s:={ s with heap:=hp6 s.heap a vs }) (Q:=fun _ st'=>(adg st').Perm (adK vs)/\agZ st'=none/\aY (rkI ks) (adg st') 0 vs.length) RB ok rfl (by show 2<=(adK vs).size;omega) fun st' g1 g2 g3=>⟨g1,g2,by rw [<-zp];exact g3⟩) (fun r s' hr=>?_) fun _ _ e=>e
  ·obtain ⟨r1,st'⟩:=r;obtain ⟨rfl,g1,g2,g3⟩:=hr;dsimp only;refine abY<|agb h6 rfl<|abY<|aft h6 rfl ?_ (hsz2:=?_)
   ·rw [g2];simp only [bne_self_eq_false,adx,if_false];exact ach<|fin _ g1 g3
   ·rw [agm,g1.size_eq,zp];omega
def wR {es:Array afM}{ks:List Int}{Q:acd->aci->Prop}(hh:A.handled=none)(nd0:(d==aeu)=false)(x:Bp s.heap d es ep)(hz:es.size<=acM)
  (p:Vals (ks.map V.int) (es.toList.map (·.key))) (nd:ks.Nodup)
  (q:∀ (h':Heap) (tk:Nat) (l:Addr) (out:Array acd) (ks':List Int) (c:Nat),(∀ b o,s.heap.get? b=some o->h'.get? b=some o)->s.heap.objs.size<=l->h'.get? l=some (aeM "list" out c)->Vals (ks'.map V.int) out.toList->ks'.Perm ks->ks'.Pairwise (· < ·)->Q (.ref l) { s with heap:=h',toks:=tk }) :
  acL (acP P w) A (call (.builtin "sorted") [.ref d]) Q E s:=by
 have le:(es.toList.map (·.key)).length=es.size:=by simp
 refine Calls.call_function_entry kind_sorted plain_sorted entry_sorted (args_sorted1 _) ?_;unfold acV.«sorted»;refine abY (m:=checkCount "sorted" 1 1 _)<|ach ?_
 refine abY<|qb hh nd0 x hz fun h1 tk k1 lt1=>abY<|agJ ?_
 have ho:(h1.push (aeM "list" (es.toList.map (·.key)).toArray 0)).get? h1.objs.size=some (aeM "list" (es.toList.map (·.key)).toArray 0):=acw _ rfl;have sz:s.heap.objs.size<=h1.objs.size:=aen lt1;have k2:∀ b o,s.heap.get? b=some o->(h1.push (aeM "list" (es.toList.map (·.key)).toArray 0)).get? b=some o:=fun b o hb=>ace _ (k1 b o hb)
 show acL _ _ _ _ _ { s with heap:=h1.push (aeM "list" (es.toList.map (·.key)).toArray 0),toks:=tk };refine abY<|adB<|adS slot_list_sort ⟨_,ho,rfl⟩ entry_list_sort (Br (s:={ s with heap:=h1.push (aeM "list" (es.toList.map (·.key)).toArray 0),toks:=tk }) ho p nd (by rw [le];exact hz) fun out ks' g1 g2 g3 g4=>⟨_,rfl,ach ⟨_,rfl,?_⟩⟩)<|args_list_sort _
 obtain ⟨c,e⟩:=sortedHeap_at (a:=h1.objs.size) (vs:=es.toList.map (·.key)) (out:=out) ho;refine q _ tk _ out ks' c (fun b o hb=>?_) sz e g1 g2 g3;have lt:=acs (k1 b o hb);rw [sortedHeap_old (acI lt) (acp lt (by rw [size_push'];exact aeU _))];exact k2 b o hb
end
section
variable {X:Cx}{K:abZ}
def BZ {β : Type}(kvs:List (Key×β))(ks:List Int):Prop:=kvs.map (·.1)=ks.map Sum.inl
theorem yP {ks:List Int}:∀ {kvs:List (Key×V)} {vs:List (Key×acd)} {ks:List Int},KV kvs vs->BZ kvs ks->vs.map (·.1)=ks.map Sum.inl
 | [],_,ks,.nil,e=>by
  have:ks=[]:=by cases ks with
   | nil=>rfl
   | cons a l=>simp [BZ] at e
  subst this;rfl
 | x::kvs,_,ks,.cons r t,e=>by
  cases ks with
  | nil=>simp [BZ] at e
  | cons k ks=>
   unfold BZ at e;rw [acg,acg] at e;obtain ⟨e1,e2⟩:=aeB e;rw [acg,acg,yP (ks:=ks) t e2,<-r.1,e1]
theorem uY:∀ {es:List afM} {vs:List (Key×acd)} {ks:List Int},PySem.Pairs (dO X.prog X.w) es vs->vs.map (·.1)=ks.map Sum.inl->Vals (ks.map V.int) (es.map (·.key))/\es.length=vs.length
 | _,_,ks,.nil,e=>by
  have:ks=[]:=by cases ks with
   | nil=>rfl
   | cons a l=>simp at e
  subst this;exact ⟨.nil,rfl⟩
 | _,_,ks,.cons h1 h2 t,e=>by
  cases ks with
  | nil=>simp at e
  | cons k ks=>
   rw [acg,acg] at e;obtain ⟨e1,e2⟩:=aeB e;obtain ⟨i1,i2⟩:=uY (ks:=ks) t e2;refine ⟨.cons ?_ i1,by rw [acE,acE,i2]⟩;rcases bU h1 with ⟨i,u,q1,q2⟩ | ⟨x,u,q1,q2⟩
   ·rw [e1] at q1;injection q1 with q1
    exact ⟨u,by rw [q1];exact q2⟩
   ·rw [e1] at q1;exact nomatch q1
def Cp (hc:X.calm=true):gk X (.builtin "sorted") (fun vs H Q=>∃ a kvs ks,vs=[.ref a]/\H a=some (.dK kvs)/\BZ kvs ks /\
  ∀ js:List Int,js.Perm ks->js.Pairwise (· < ·)->∀ l,H l=none->Q (.ref l) (upd H l (.lst (js.map V.int)))):=by
 intro ahW s Z H vs us Q I r ⟨a,kvs,ks,ev,hx,hi,q⟩;subst ev;obtain ⟨u,rfl,ru⟩:=vals1 r;cases ru;obtain ⟨z,y,vs,rel,dd⟩:=Hl I.hok hx;have hl:kvs.length=vs.length:=agv rel;have kk:=yP (ks:=ks) rel hi;obtain ⟨o,es,ep,g1,g2,g3,_,g4,g5⟩:=dd;obtain ⟨p1,p2⟩:=uY (X:=X) g4 kk;have pk:Vals (ks.map V.int) (es.toList.map (·.key))/\ks.Nodup/\es.size=vs.length:=by
  refine ⟨p1,?_,by rw [<-p2,aew]⟩;rw [kk] at g5;exact (aem.mp g5).imp fun h e=>h<|by rw [e]
 refine wR (I.ok.hd hc) y ⟨o,g1,g2,g3⟩ (by rw [pk.2.2];omega) pk.1 pk.2.1 fun h' tk l out ks' c keep hl' e pr pm pw=>?_;have l1:ks'.length=out.toList.length:=by have:=pr.length;simpa using this
 have l2:=pm.length_eq;have l3:ks.length=vs.length:=by have:=congrArg aeS kk;simpa using this.symm
 exact ⟨.ref l,_,I.laid (t':=tk) keep hl'<|show eG X.prog X.w _ h' _ (.lst<|ks'.map V.int) from ⟨by rw [acf];omega,out.toList,c,pr,by simpa using e⟩,rfl,q ks' pm pw l<|I.hok.fresh hl'⟩
def En:MC:=fun ws h Q=>match ws with
 | [.loc n]=>(match h.c n with
  | some (.dct kvs)=>∃ ks:List Int,BZ kvs ks/\∀ js:List Int,js.Perm ks->js.Pairwise (· < ·)->Q (.lst (js.map .int)) h
  | _=>False)
 | _=>False
theorem Ak {H:Hp}{μ : Mu}:∀ {kvs:List (Key×W)} {kvv:List (Key×V)} {ks:List Int},nG K H μ kvs kvv->BZ kvs ks->BZ kvv ks
 | [],_,ks,.nil,e=>e
 | x::kvs,_,ks,.cons r t,e=>by
  cases ks with
  | nil=>simp [BZ] at e
  | cons k ks=>
   unfold BZ at e |-
   rw [acg,acg] at e;obtain ⟨e1,e2⟩:=aeB e;have:=Ak (ks:=ks) t e2
   unfold BZ at this;rw [acg,acg,this,<-r.1,e1]
def QM (hc:X.calm=true):fM X (.builtin "sorted") En:=⟨_,Cp hc,by
 intro H μ h vs ws Qw Q R r m k;unfold En at m;split at m
 ·rename_i n;split at m
  ·rename_i kvs ec;obtain ⟨p,kvv,hp,hx,rf⟩:=R.dctAt ec;obtain ⟨v,rfl,r1⟩:=jO r;rw [Rep] at r1;obtain ⟨p',rfl,hp'⟩:=r1;have ep:p'=p:=by rw [hp] at hp';exact (acv hp').symm
   subst ep;obtain ⟨ks,m1,m2⟩:=m;refine ⟨p',kvv,ks,rfl,hx,Ak rf m1,fun js pj sj l hl=>?_⟩;exact k _ _ ⟨μ,_,h,(Ex.laid hl).ext,R.laid hl,.lstNew R hl<|nR js,m2 js pj sj⟩
  ·exact m.elim
 ·exact m.elim⟩
def QK:ME:=fun _ h Q=>Q (.loc h.nx) (h.new (.dct []))
def WL {pos:Pos}:DE X (.Dict [] [] pos) QK:=La.of fun Z H Q ⟨μ,g,Zw,Qw,R,S,m,q⟩ p hp=>by
 have R1:Rel X.K (μ.put g.nx p) (upd H p (.dK [])) (g.new (.dct [])):=R.newCell hp trivial ⟨[],bB,.nil⟩;exact q _ _ ⟨_,.loc g.nx,_,(Ex.newCell R hp).ext,R1,by rw [Rep];exact ⟨p,rfl,Mu.put_same⟩,m⟩
end
section
variable {X:Cx}{o:Expr}{mo:ME}{ma:MA}{apos ahY:Pos}
def K9:MM:=fun x ws h Q=>match x,ws with
 | .loc n,[y,z]=>(match h.c n,Xu y with
  | some (.dct kvs),some k=>Q ((qu kvs k).getD z) h
  | _,_=>False)
 | _,_=>False
def DX (h:Gh)(x:W)(P:Prop):Prop:=match x with
 | .loc n=>(match h.c n with
  | some (.dct _)=>P
  | _=>False)
 | _=>False
def Y0 (r:MM)(mo:ME)(ma:MA):ME:=fun Z h Q=>mo Z h fun x h1=>DX h1 x (ma Z h1 fun xs h2=>r x xs h2 Q)
theorem Aj {K:abZ}{H:Hp}{μ : Mu}{k:Key}:∀ {kvs:List (Key×W)} {kvv:List (Key×V)},nG K H μ kvs kvv->(∀ w,qu kvs k=some w->∃ v,CV kvv k=some v/\Rep K H μ w v)/\(qu kvs k=none->CV kvv k=none)
 | [],_,.nil=>⟨fun w e=>by simp [qu] at e,fun _=>rfl⟩
 | x::kvs,y::_,.cons r t=>by
  obtain ⟨i1,i2⟩:=Aj (k:=k) t;unfold qu CV at *;rw [adM,adM];by_cases c:x.1=k
  ·have c2:y.1=k:=r.1.symm.trans c;rw [decide_eq_true c];simp only [c2,decide_true];exact ⟨fun w e=>by cases e;exact ⟨_,rfl,r.2⟩,fun e=>by cases e⟩
  ·have c2:¬ y.1=k:=fun e=>c (r.1.trans e)
   rw [decide_eq_false c];simp only [c2,decide_false];exact ⟨i1,i2⟩
def Tc (hu:X.A.units+30<afi)(ho:DE X o mo)(ha:DAs X [e1,e2] ma)
  (hbase:attributeBase o "get" X.env (eval o X.env)=eval o X.env:=by rfl)
  (hfew:((afj ahY (acN [e1,e2] X.env)).all (fun x=>!x.1)&&(backToKw ahY (agO [] X.env)).all (fun x=>x.1.isSome)
   && decide (([e1,e2]:List Expr).length+([]:List agy).length+(if ([]:List agy).isEmpty then 0 else 1)<30))=true:=by rfl)
  (hline:(apos.endLine==ahY.line)=true:=by rfl) (hst:acN [e1,e2] X.env=(false,eval e1 X.env)::acN [e2] X.env:=by rfl) (hplain:(afj ahY (acN [e2] X.env)).any (·.1)=false:=by rfl) :
  DE X (.Call (.Attribute o "get" apos) [e1,e2] [] ahY) (Y0 K9 mo ma):=by
 intro ahW s Z H Q I ⟨μ,h,Zw,Qw,R,S,m,k⟩;refine wpAny_Call_method_late hbase hfew hline rfl<|thn (ho ahW s Z H _ I ⟨μ,h,Zw,_,R,S,m,fun _ _ z=>z⟩) fun u s1 ⟨x,H1,I1,rx,μ1,wx,h1,e1',R1,r1,il⟩=>?_
 unfold DX at il;dsimp only at il;split at il
 ·rename_i n;split at il
  ·rename_i kv0 ec0;have r0:=r1;rw [Rep] at r1;obtain ⟨a,rfl,ha'⟩:=r1;obtain rfl:u=Value.ref a:=rx;obtain ⟨p,kvv,hp,hx,_⟩:=R1.dctAt ec0;have ep:p=a:=by rw [ha'] at hp;exact (acv hp).symm
   subst ep;obtain ⟨z,y,vs0,aau,dd0⟩:=Hl I1.hok hx;obtain ⟨ob,es,epo,g1,g2,_⟩:=id dd0;refine ⟨"dict", "dict.get",PySem.F.plainAttrs_dict,agj,PySem.F.type_dict_get,⟨ob,g1,g2.1⟩,fun b e=>by cases e;exact ⟨ob,g1,g2.2.1⟩,?_⟩;have hA:=ha ahY ahW s1 Z H1 _ I1 ⟨μ1,h1,Zw,_,R1,S.ext e1',il,fun _ _ z=>z⟩;rw [hst] at hA |-
   refine Calls.callWith_builtin (by show (false||(afj ahY<|acN [e2] X.env).any (·.1))=false;rw [hplain] <;> rfl)<|Calls.evalArgs_plain ?_
   refine thn hA fun us s2 ⟨ys,H2,I2,r2,μ2,ws,h2,e2',R2,rs,m2⟩=>?_;unfold K9 at m2;dsimp only at m2;split at m2
   ·rename_i n' y' z' e3;cases e3;split at m2
    ·rename_i kvs kk ec ek;obtain ⟨v1,v2,rfl,ry,rz⟩:=Bb rs;have ev1:=nT ry ek;subst ev1;obtain ⟨u1,u2,rfl,ru1,ru2⟩:=vals2 r2;obtain ⟨p2,kvv2,hp2,hx2,rf2⟩:=R2.dctAt ec;have r0':=e2'.r _ _ r0;rw [Rep] at r0';obtain ⟨a2,ea,ha2⟩:=r0';cases ea;have ep2:p2=p:=by rw [ha2] at hp2;exact (acv hp2).symm
     subst ep2;obtain ⟨z2,hd2,vs2,rel2,dd⟩:=Hl I2.hok hx2;obtain ⟨t1,t2⟩:=Aj (k:=kk) rf2;refine call_meetsIn agj dd.typeIs PySem.F.entry_dict_get (PySem.F.args_dict_get_3 _ _ _) (meets_dict_get_default (dO X.prog X.w) p2 (G3 ru1) hd2 u2) ⟨_,dd.mapOf,?_⟩;have hv:=(rel2.val kk).getD ru2;cases ev:qu kvs kk with
     | some wv=>
      rw [ev] at m2;obtain ⟨v,a1,a3⟩:=t1 wv ev;rw [a1] at hv;exact ⟨v,H2,I2.tok _,hv,k _ _ ⟨μ2,wv,h2,e1'.trans e2',R2,a3,m2⟩⟩
     | none=>
      rw [ev] at m2;rw [t2 ev] at hv;exact ⟨v2,H2,I2.tok _,hv,k _ _ ⟨μ2,z',h2,e1'.trans e2',R2,rz,m2⟩⟩
    ·exact m2.elim
   ·exact m2.elim
  ·exact il.elim
 ·exact il.elim
end
section
variable {prog:acK}{w:adt}{A:acY}{E:acd->aci->Prop}{L I:Addr}{ns:List Int}{its:List acd}
end
section
variable {X:Cx}
end
section
variable {X:Cx}{a b o i:Expr}{td ty:TE}{pos:Pos}
def fM.or {f:acd}{m1 m2:MC}(h1:fM X f m1)(h2:fM X f m2):fM X f (fun ws h Q=>m1 ws h Q\/m2 ws h Q):=by
 obtain ⟨r1,c1,s1⟩:=h1;obtain ⟨r2,c2,s2⟩:=h2;refine ⟨_,gk.or c1 c2,?_⟩;intro H μ h vs ws Qw Q R r m k;rcases m with m | m
 ·exact .inl<|s1 R r m k
 ·exact .inr<|s2 R r m k
def zW:MC:=fun ws h Q=>Hz ws h Q\/En ws h Q
def Pz (hc:X.calm=true):fM X (.builtin "sorted") zW:=(RW hc).or (QM hc)
def Qe:M2:=fun x y h Q=>V6 x y h Q\/Sg x y h Q
def Kc (hu:X.A.units+30<afi)(ho:PE X o td)(hi:PE X i ty)(hs:Vv i):PE X (.Subscript o i pos) (fun Z H Q=>td Z H fun x H1=>ty Z H1 fun y H2=>(∃ a xs k b p v,x=.ref a/\H2 a=some (.ext (CQ a xs))/\Fq X.K H2 xs/\y=.ref b/\SqT X.K H2 b (k.map V.int)/\atKey xs k=some p/\RelV v p.2/\Q v H2)\/∃ a kvs k v,x=.ref a/\Rd H2 a (.dK kvs)/\y=kV k/\CV kvs k=some v/\Q v H2):=by
 intro ahW s Z H Q I h;refine Hr PySem.F.slot_dict_getitem.lookup hs<|thn (ho ahW s Z H _ I h) fun u s1 ⟨x,H1,I1,rx,q1⟩=>thn (hi ahW s1 Z H1 _ I1 q1) fun iv s2 ⟨y,H2,I2,ry,q2⟩=>?_
 rcases q2 with ⟨a,xs,k,b,p,v,ex,e,hk,ey,hb,l,rv,q2⟩ | ⟨a,kvs,k,v,ex,e,ey,l,q2⟩
 ·subst ex ey;obtain rfl:u=Value.ref a:=rx;obtain rfl:iv=Value.ref b:=ry;obtain ⟨z,hd,dd⟩:=yc I2 e hk;exact ⟨dd.typeIs,wpAny_getItem_heap (tupleKind_room_in1<|by omega) (vN I2 hb) dd l ⟨v,H2,I2.tok _,rv,q2⟩⟩
 ·subst ex ey;obtain rfl:u=Value.ref a:=rx;obtain ⟨z,hd,vs,rel,dd⟩:=Q0 I2.hok e;obtain ⟨w',hw,rw'⟩:=Jh.some_of (v:=v) (o:=valueAt vs k) (by rw [<-l];exact rel.val k);exact ⟨dd.typeIs,wpAny_getItem_of (G3 ry) dd.mapOf hw ⟨v,H2,I2.tok _,rw',q2⟩⟩
def Vb (hu:X.A.units+30<afi)(ha:DE X a ma)(hb:DE X b mb)(hs:Vv b):DE X (.Subscript a b pos) (mOp Qe ma mb):=(Kc hu ha hb hs).of fun Z H Q h=>two h fun {H2 μ2 h2 x y wx wy Qw} R r1 r2 m k=>by
 rcases m with m | m
 ·unfold V6 at m;split at m
  ·rename_i n kk e;split at m
   ·rename_i kvs ec;split at m
    ·rename_i w ev;obtain ⟨p,xs,vs,hp,hx,e1,e2,r3,r4⟩:=R.dttAt ec;rw [Rep] at r1;obtain ⟨p',ex,hp'⟩:=r1;have ep:p'=p:=by rw [hp] at hp';exact (acv hp').symm
     subst ep;obtain ⟨b',eb,hb'⟩:=jq r2 e;obtain ⟨q,v,h3,h4,h5⟩:=(rP e1 e2 r4 kk).1 w ev;exact .inl ⟨p',xs,kk,b',q,v,ex,hx,ji e1 r3,eb,hb',h3,h4,k _ _ ⟨μ2,w,h2,.refl,R,h5,m⟩⟩
    ·exact m.elim
   ·exact m.elim
  ·exact m.elim
 ·unfold Sg at m;split at m
  ·rename_i n kk e;split at m
   ·rename_i kvs ec;split at m
    ·rename_i w ev;obtain ⟨p,kvv,hp,hx,rf⟩:=R.dctAt ec;rw [Rep] at r1;obtain ⟨p',e1,hp'⟩:=r1;have ep:p'=p:=by rw [hp] at hp';exact (acv hp').symm
     subst ep;obtain ⟨v,e2,rv⟩:=rf.val ev;exact .inr ⟨p',kvv,kk,v,e1,.inl hx,nT r2 e,e2,k _ _ ⟨μ2,w,h2,.refl,R,rv,m⟩⟩
    ·exact m.elim
   ·exact m.elim
  ·exact m.elim
end
section
variable {P:acK}{w:adt}{A:acY}{E:acd->aci->Prop}{s:aci}
def iG (h:Heap)(v:acd)(k:List Int):Prop:=∃ a b o n c t,v=.ref a/\h.get? a=some o/\o.cls=.type "tuple"/\o.data=.seq #[.ref b,.int c t] n/\fK h (.ref b) k
def iG.fn {h:Heap}{v:acd}{k l:List Int}(x:iG h v k)(y:iG h v l):k=l:=by
 obtain ⟨a,b,o,n,c,t,rfl,ga,_,da,va⟩:=x;obtain ⟨a',b',o',n',c',t',e,gb,_,db,vb⟩:=y;cases e;rw [ga] at gb;cases gb;rw [da] at db;cases db;exact va.fn vb
def iG.of {h h':Heap}{v:acd}{k:List Int}(x:iG h v k)(e:∀ b o,o.cls=.type "tuple"->h.get? b=some o->h'.get? b=some o):iG h' v k:=by
 obtain ⟨a,b,o,n,c,t,rfl,ga,ca,da,r⟩:=x;exact ⟨a,b,o,n,c,t,rfl,e a o ca ga,ca,da,r.of fun b o _ hc hb=>e b o hc hb⟩
def fK.key {h:Heap}{b:Addr}(x:fK h (.ref b) k):IsTupleKey (ahc P w) h k b:=by
 obtain ⟨a,o,its,n,e,ga,ca,da,va⟩:=x;cases e;exact ⟨o,its,n,ga,ca,da,sy va⟩
def fK.isTup {h:Heap}{b:Addr}(x:fK h (.ref b) k):∃ its,IsTup h b its/\agz its.toList k:=by
 obtain ⟨a,o,its,n,e,ga,ca,da,va⟩:=x;cases e;exact ⟨its,⟨o,ga,ca,n,da⟩,intsAre_of va⟩
def Nt {x y:acd}{Q:Bool->aci->Prop}(hu:A.units<afi)(hx:iG s.heap x k)(hy:iG s.heap y l)(hxy:k=l->x=y)(q:Q (decide (k<l)) s):acL (acP P w) A (keyLt' (ahb false) x y) Q E s:=by
 obtain ⟨a,b,o,n,c,t,rfl,ga,_,da,va⟩:=hx;obtain ⟨a',b',o',n',c',t',rfl,gb,_,db,vb⟩:=hy;refine PySem.W.kat_lt ga da gb db ?_;refine PySem.W.kat_cons<|wpAny_eqBool_tuple hu (va.key (P:=P) (w:=w)) vb.key<|PySem.W.kat_go (fun e=>?_) fun e=>?_
 ·have ek:k=l:=of_decide_eq_true e;have ea:=hxy ek;cases ea;rw [ga] at gb;cases gb;rw [da] at db;cases db;refine PySem.W.kat_yes<|PySem.W.kat_cons<|wpAny_eqBool_int<|PySem.W.kat_go (fun _=>PySem.W.kat_yes<|PySem.W.kat_nil ?_) fun e=>?_
  ·have:decide (k<l)=false:=by rw [ek];exact decide_eq_false (afO _)
   rw [this] at q;exact q
  ·simp at e
 ·refine PySem.W.kat_no<|PySem.W.kat_one _ _ ?_
  obtain ⟨i1,t1,n1⟩:=va.isTup;obtain ⟨i2,t2,n2⟩:=vb.isTup;refine HT.qX t1 t2 n1 n2 hu ?_;rw [lex_lt];exact q
def Cd {x:acd}{Q:Option acd->aci->Prop}(hx:iG s.heap x k)(q:∀ b,fK s.heap (.ref b) k->Q (some (.ref b)) s):acL (acP P w) A (firstOfTuple' x) Q E s:=by
 obtain ⟨a,b,o,n,c,t,rfl,ga,ca,da,va⟩:=hx;refine abY<|aeI (T := "tuple") ⟨o,ga,ca⟩ ?_
 rw [if_neg (by decide)];refine abY<|agE ga da ?_
 exact ach<|q b va
theorem oE:∀ {vs:List acd} {ks:List (List Int)} {Q:List (Option acd)->aci->Prop},adF (fun k v=>iG s.heap v k) ks vs->(∀ us:List acd,us.length=vs.length->(∀ u∈us,∃ b k,u=.ref b/\fK s.heap (.ref b) k)->Q (us.map some) s)->acL (acP P w) A (vs.mapM firstOfTuple') Q E s
 | [],_,Q,h,q=>by
  cases h;exact ach<|q [] rfl fun _ h=>nomatch h
 | v::vs,ks,Q,h,q=>by
  cases h with
  | @cons k _ ks' _ r h=>
   rw [List.mapM_cons];refine abY<|Cd r fun b hb=>abY ?_
   refine oE h fun us hl hu=>ach ?_;refine q (.ref b::us) (by simp [hl]) fun u hm=>?_;rcases acA.mp hm with rfl | hm
   ·exact ⟨b,_,rfl,hb⟩
   ·exact hu u hm
theorem uT:∀ {us:List acd} {Q:List acd->aci->Prop},(∀ u∈us,∃ b k,u=Value.ref b/\fK s.heap (.ref b) k)->Q (us.map fun _=>.type "tuple") s->acL (acP P w) A (us.mapM typeOf) Q E s
 | [],Q,_,q=>ach q
 | u::us,Q,h,q=>by
  rw [List.mapM_cons];obtain ⟨b,k,rfl,x⟩:=h u acF;obtain ⟨a,o,its,n,e,ga,ca,_⟩:=x;cases e;exact abY<|aeI (T := "tuple") ⟨o,ga,ca⟩<|abY<|uT (fun v hv=>h v<|acr _ hv)<|ach q
def Dl {vs:List acd}{Q:agp->aci->Prop}(h:adF (fun k v=>iG s.heap v k) ks vs)(h1:1<=vs.length)(q:Q (ahb false) s):acL (acP P w) A (keyKind' vs.toArray) Q E s:=by
 rw [keyKind'_eq,List.mapM_toArray];refine abY<|wpAny_map ?_
 refine oE h fun us hl hu=>?_;rw [if_pos (by simp)];refine abY<|aeA<|abY ?_
 have ef:(us.map some).toArray.filterMap id=us.toArray:=by
  rw [List.filterMap_toArray];simp
 rw [ef,oneTypeOnly'_eq,List.mapM_toArray];refine abY<|wpAny_map<|uT hu ?_
 obtain ⟨u,us',rfl⟩:∃ u us',us=u::us':=List.exists_cons_of_ne_nil fun e=>by rw [e] at hl;simp at hl;omega
 show acL _ _ (pure (if _ then some (Value.type "tuple") else none)) _ _ s;rw [if_pos (by simp)];exact ach<|ach q
open Classical in
noncomputable def rkP (h:Heap)(ks:List (List Int))(v:acd):Nat:=if e:∃ k,iG h v k then rankOf ks e.choose else 0
def vU {h:Heap}{v:acd}(x:iG h v k):rkP h ks v=rankOf ks k:=by
 unfold rkP;have e:∃ k,iG h v k:=⟨k,x⟩
 rw [dif_pos e,e.choose_spec.fn x]
open Classical in
noncomputable def LK (h:Heap)(v:acd):List Int:=if e:∃ k,iG h v k then e.choose else []
def lH {h:Heap}{v:acd}(x:iG h v k):LK h v=k:=by
 unfold LK;have e:∃ k,iG h v k:=⟨k,x⟩
 rw [dif_pos e,e.choose_spec.fn x]
theorem dZ {h:Heap}:∀ {ks:List (List Int)} {vs:List acd},adF (fun k v=>iG h v k) ks vs->ks=vs.map (LK h)/\∀ v∈vs,∃ k∈ks,iG h v k
 | [],_,p=>by cases p;exact ⟨rfl,fun _ h=>nomatch h⟩
 | k::ks,_,p=>by
  cases p with
  | cons r p=>
   obtain ⟨e,g⟩:=dZ p;refine ⟨by rw [acg,lH r,<-e],fun v hv=>?_⟩;rcases acA.mp hv with rfl | hv
   ·exact ⟨k,acF,r⟩
   ·obtain ⟨l,hl,x⟩:=g v hv;exact ⟨l,acr _ hl,x⟩
theorem pH {h:Heap}:∀ {vs:List acd},(∀ v∈vs,∃ k,iG h v k)->adF (fun k v=>iG h v k) (vs.map (LK h)) vs
 | [],_=>.nil
 | v::vs,g=>by
  obtain ⟨k,x⟩:=g v acF;exact .cons (by rw [lH x];exact x)<|pH fun u hu=>g u<|acr _ hu
def QS {h:Heap}{vs:List acd}(p:adF (fun k v=>iG h v k) ks vs)(hp:b.Perm (adK vs))(hr:aY (rkP h ks) b 0 vs.length):
  ∃ ks',adF (fun k v=>iG h v k) ks' (b.map (·.2)).toList/\ks'.Perm ks/\ks'.Pairwise (· < ·)/\(b.map (·.2)).toList.Perm vs:=by
 obtain ⟨ek,g⟩:=dZ p;have hl:=aeY.mp hp;have ep:(adK vs).toList=vs.map fun v=>(v,v):=by
  have z:∀ l:List acd,l.zip l=l.map fun v=>(v,v):=fun l=>by
   induction l with
   | nil=>rfl
   | cons a l ih=>rw [aeh,ih];rfl
  unfold adK;rw [aeC];exact z vs
 rw [ep] at hl;have same:∀ x∈b.toList,x.1=x.2/\x.2∈vs:=fun x hx=>by
  obtain ⟨v,hv,rfl⟩:=acJ.mp (hl.mem_iff.mp hx);exact ⟨rfl,hv⟩
 have eo:(b.map (·.2)).toList=b.toList.map (·.2):=by simp
 have po:(b.toList.map (·.2)).Perm vs:=by
  have:=hl.map (·.2)
  rw [adb] at this
  simpa [Function.comp_def] using this
 rw [eo];refine ⟨(b.toList.map (·.2)).map (LK h),pH fun v hv=>?_,?_,?_,po⟩
 ·obtain ⟨k,_,x⟩:=g v (po.mem_iff.mp hv);exact ⟨k,x⟩
 ·rw [ek];exact po.map _
 ·rw [adb,aem,aei];intro i j hi hj hij;have hb:b.toList.length=vs.length:=by have:=po.length_eq;simpa using this
  have hi':i<b.size:=by simpa using hi
  have hj':j<b.size:=by simpa using hj
  have:=hr i j (adu _) hij (by rw [<-hb];exact hj)
  rw [eH hi',eH hj'] at this;have e1:=same b[i] (by simp);have e2:=same b[j] (by simp);obtain ⟨k,hk,x⟩:=g b[i].2 e1.2;obtain ⟨l,_,y⟩:=g b[j].2 e2.2;rw [e1.1,e2.1,vU x,vU y,lJ hk] at this;show LK h b.toList[i].2<LK h b.toList[j].2;rw [afg,afg,lH x,lH y];exact this
theorem Dm {f:acd->List Int}:∀ {vs:List acd},(vs.map f).Nodup->∀ x∈vs,∀ y∈vs,f x=f y->x=y
 | [],_,_,h,_,_,_=>nomatch h
 | v::vs,nd,x,hx,y,hy,e=>by
  rw [acg,aep] at nd;rcases acA.mp hx with h1 | h1
  ·rcases acA.mp hy with h2 | h2
   ·rw [h1,h2]
   ·exact absurd (by rw [<-h1,e];exact acJ.mpr ⟨y,h2,rfl⟩) nd.1
  ·rcases acA.mp hy with h2 | h2
   ·exact absurd (by rw [<-h2,<-e];exact acJ.mpr ⟨x,h1,rfl⟩) nd.1
   ·exact Dm nd.2 x h1 y h2 e
def J6 {vs:List acd}(hu:A.units<afi)(p:adF (fun k v=>iG s.heap v k) ks vs)(nd:ks.Nodup):Cmp P w A s (ahb false) (rkP s.heap ks) (fun v=>v∈vs):=fun E Q x y mx my q=>by
 obtain ⟨ek,g⟩:=dZ p;obtain ⟨k,hk,hx⟩:=g x mx;obtain ⟨l,hl,hy⟩:=g y my;refine Nt hu hx hy (fun e=>?_) ?_
 ·refine Dm (f:=LK s.heap) (by rw [<-ek];exact nd) x mx y my ?_;rw [lH hx,lH hy,e]
 ·rw [vU hx,vU hy] at q;rw [<-decide_eq_decide.mpr (lJ (ks:=ks) (l:=l) hk)];exact q
theorem Eo {h:Heap}{KS:List (List Int)}:∀ {ks:List (List Int)} {vs:List acd},adF (fun k v=>iG h v k) ks vs->vs.map (rkP h KS)=ks.map (rankOf KS)
 | [],_,p=>by cases p;rfl
 | k::ks,_,p=>by
  cases p with
  | cons r p=>rw [acg,acg,vU r,Eo p]
def Gm {h:Heap}{vs:List acd}(p:adF (fun k v=>iG h v k) ks vs):((adK vs).toList.map fun x=>rkP h KS x.1)=ks.map (rankOf KS):=by
 have ep:(adK vs).toList.map (·.1)=vs:=by
  unfold adK;rw [aeC,afS (acj _)]
 rw [<-Eo p,<-ep,adb,ep];rfl
def Bk {a:Addr}{vs:List acd}{n:Nat}{R:Fin->aci->Prop}(ho:s.heap.get? a=some (aeM "list" vs.toArray n))(p:adF (fun k v=>iG s.heap v k) ks vs)
  (hu:A.units<afi) (nd:ks.Nodup) (hz:vs.length<=acM)
  (q:∀ (out:Array acd) (ks':List (List Int)),adF (fun k v=>iG s.heap v k) ks' out.toList->ks'.Perm ks->ks'.Pairwise (· < ·)->out.toList.Perm vs->R (.done (.ret .none)) { s with heap:=sortedHeap s.heap a vs out }) :
  acL (acP P w) A (acV.«list.sort» ⟨[.ref a],[]⟩) R E s:=by
 have la:a<s.heap.objs.size:=acs ho;rw [list_sort_plain];refine abY<|agE ho rfl<|abY<|aft ho rfl ?_ (by simpa using hz)<|adu _
 obtain ⟨e1,h1⟩:∃ e1,(s.heap.update a (afc fun _=>#[])).get? a=some (aeM "list" #[] e1):=⟨_,get?_update_seq ho (fun _=>#[])⟩
 refine abY<|agb h1 rfl<|abY<|wpAny_newTuple<|abY<|agJ<|adB ?_
 have h6:(hp6 s.heap a vs).get? a=some (aeM "list" #[] e1):=ace _ (ace _ h1);have keep:∀ b o,o.cls=.type "tuple"->s.heap.get? b=some o->(hp6 s.heap a vs).get? b=some o:=fun b o hc hb=>by
  have ne:b≠a:=fun e=>by rw [e,ho] at hb;cases hb;simp at hc
  exact ace _<|ace _<|(adG _ _<|aes ne).trans hb
 have back:∀ {v:acd} {k:List Int},(∃ l,iG s.heap v l)->iG (hp6 s.heap a vs) v k->iG s.heap v k:=fun {v k} ⟨l,x⟩ y=>by
  have:=(x.of keep).fn y
  exact this ▸ x
 have p6:adF (fun k v=>iG (hp6 s.heap a vs) v k) ks vs:=cO p fun k v _ x=>x.of keep
 have lk:ks.length=vs.length:=p.length;show acL (acP P w) A _ R E { s with heap:=hp6 s.heap a vs };dsimp only;have size:vs.toArray.size=vs.length:=by simp
 have fin:∀ b:Array ada,b.Perm (adK vs)->aY (rkP (hp6 s.heap a vs) ks) b 0 vs.length->R (.done (.ret .none)) { s with heap:=sortedHeap s.heap a vs (b.map (·.2)) }:=fun b hp hr=>by
  obtain ⟨ks',g1,g2,g3,g4⟩:=QS p6 hp hr;refine q _ ks' (cO g1 fun k v hv x=>back ?_ x) g2 g3 g4;obtain ⟨l,_,y⟩:=(dZ p).2 v (g4.mem_iff.mp hv);exact ⟨l,y⟩
 by_cases h2:vs.toArray.size<2
 ·rw [if_pos h2,if_pos h2];refine abY<|ach ?_
  rw [StateT.run_pure];refine abY<|ach ?_
  dsimp only;refine abY<|agb h6 rfl<|abY<|aft h6 rfl ?_ (hsz2:=?_)
  ·simp only [bne_self_eq_false,adx,if_false];refine ach<|fin (vs.toArray.zip vs.toArray) (Array.Perm.refl _) fun u v _ h3 h4=>?_
   omega
  ·rw [agm];show (adK vs).size<=_;rw [agT];omega
 ·rw [if_neg h2,if_neg h2];refine abY<|Dl p6 (by omega)<|abY ?_
  have kk:=dZ p6;have ep:(adK vs).toList.map (·.1)=vs:=by
   unfold adK;rw [aeC,afS (acj _)]
  have ok:SOk (ahb false) (rkP (hp6 s.heap a vs) ks) (fun v=>v∈vs) (SortSt.mk' (ahb false) (adK vs) #[] 7 none):=⟨rfl,rfl,⟨fun x hx=>by show x.1∈vs;rw [<-ep];exact acJ.mpr ⟨x,hx,rfl⟩,by
   rw [Gm p6];exact Gf nd⟩⟩
  have zp:(adK vs).size=vs.length:=agT _;refine aed (CW (s:={ s with heap:=hp6 s.heap a vs }) (Q:=fun _ st'=>(adg st').Perm (adK vs)/\agZ st'=none/\aY (rkP (hp6 s.heap a vs) ks) (adg st') 0 vs.length) (J6 hu p6 nd) ok rfl (by show 2<=(adK vs).size;omega) fun st' g1 g2 g3=>⟨g1,g2,by rw [<-zp];exact g3⟩) (fun r s' hr=>?_) fun _ _ e=>e
  ·obtain ⟨r1,st'⟩:=r;obtain ⟨rfl,g1,g2,g3⟩:=hr;dsimp only;refine abY<|agb h6 rfl<|abY<|aft h6 rfl ?_ (hsz2:=?_)
   ·rw [g2];simp only [bne_self_eq_false,adx,if_false];exact ach<|fin _ g1 g3
   ·rw [agm,g1.size_eq,zp];omega
def wV {vs:List acd}{Q:acd->aci->Prop}(hu:A.units+30<afi)(x:s.heap.IsList d vs.toArray)(hz:vs.length<=acM)
  (p:adF (fun k v=>iG s.heap v k) ks vs) (nd:ks.Nodup)
  (q:∀ (h':Heap) (tk:Nat) (l:Addr) (out:Array acd) (ks':List (List Int)) (c:Nat),(∀ b o,s.heap.get? b=some o->h'.get? b=some o)->s.heap.objs.size<=l->h'.get? l=some (aeM "list" out c)->adF (fun k v=>iG s.heap v k) ks' out.toList->ks'.Perm ks->ks'.Pairwise (· < ·)->out.toList.Perm vs->Q (.ref l) { s with heap:=h',toks:=tk }) :
  acL (acP P w) A (call (.builtin "sorted") [.ref d]) Q E s:=by
 have lk:ks.length=vs.length:=p.length;refine Calls.call_function_entry kind_sorted plain_sorted entry_sorted (args_sorted1 _) ?_;unfold acV.«sorted»;refine abY (m:=checkCount "sorted" 1 1 _)<|ach ?_
 refine abY<|collect_list x (abY<|agJ ?_) hz
 have k1:∀ b o,s.heap.get? b=some o->((s.heap.push (aeM "list" #[] 0)).update s.heap.objs.size (afc (·++vs.toArray))).get? b=some o:=fun b o hb=>(adG _ _ (aes (acI (acs hb)))).trans (ace _ hb)
 have lt1:s.heap.objs.size<((s.heap.push (aeM "list" #[] 0)).update s.heap.objs.size (afc (·++vs.toArray))).objs.size:=by
  have g0:(s.heap.push (aeM "list" #[] 0)).get? s.heap.objs.size=some (aeM "list" #[] 0):=acw _ rfl;exact acs<|get?_update_seq g0 (·++vs.toArray)
 revert k1 lt1
 generalize (s.heap.push (aeM "list" #[] 0)).update s.heap.objs.size (afc (·++vs.toArray))=h1;intro k1 lt1;have ho:(h1.push (aeM "list" vs.toArray 0)).get? h1.objs.size=some (aeM "list" vs.toArray 0):=acw _ rfl;have sz:s.heap.objs.size<=h1.objs.size:=aen lt1;have k2:∀ b o,s.heap.get? b=some o->(h1.push (aeM "list" vs.toArray 0)).get? b=some o:=fun b o hb=>ace _ (k1 b o hb)
 have p2:adF (fun k v=>iG (h1.push (aeM "list" vs.toArray 0)) v k) ks vs:=cO p fun k v _ y=>y.of fun b o _ hb=>k2 b o hb
 show acL _ _ _ _ _ { s with heap:=h1.push (aeM "list" vs.toArray 0) };refine abY<|adB<|adS slot_list_sort ⟨_,ho,rfl⟩ entry_list_sort (Bk (s:={ s with heap:=h1.push (aeM "list" vs.toArray 0) }) ho p2 ?_ nd hz fun out ks' g1 g2 g3 g4=>⟨_,rfl,ach ⟨_,rfl,?_⟩⟩)<|args_list_sort _
 ·rw [in1_units,in1_units];omega
 obtain ⟨c,e⟩:=sortedHeap_at (a:=h1.objs.size) (vs:=vs) (out:=out) ho;refine q _ s.toks _ out ks' c (fun b o hb=>?_) sz e ?_ g2 g3 g4
 ·have lt:=acs (k1 b o hb);rw [sortedHeap_old (acI lt) (acp lt (by rw [size_push'];exact aeU _))];exact k2 b o hb
 ·refine cO g1 fun k v hv y=>?_;obtain ⟨l,_,z⟩:=(dZ p).2 v (g4.mem_iff.mp hv);have:=(z.of fun b o _ hb=>k2 b o hb).fn y
  exact this ▸ z
end
section
variable {X:Cx}
abbrev Pr:=Addr×Addr×List Int×Int
def HB (K:abZ)(H:Hp)(t:Pr):Prop:=SqT K H t.1 [.ref t.2.1,.int t.2.2.2]/\SqT K H t.2.1 (t.2.2.1.map V.int)
def Nx {ahW:List (Addr×Obj)}{Z : St}{H:Hp}{s:aci}{t:Pr}(I:Inv X ahW Z H s)(h:HB X.K H t):iG s.heap (.ref t.1) t.2.2.1:=by
 obtain ⟨its,r,⟨o,ho,hc,n,hd⟩,_⟩:=I.tuple h.1;cases r with
 | cons r1 r=>
  cases r with
  | cons r2 r=>
   cases r;cases r1;obtain ⟨tk,rfl⟩:=r2;exact ⟨t.1,t.2.1,o,n,t.2.2.2,tk,rfl,ho,hc,hd,GD I h.2⟩
def V7 (X:Cx):List V->Hp->VK->Prop:=fun vs H Q=>∃ a ts,vs=[.ref a]/\SqL X.K H a (ts.map fun t:Pr=>V.ref t.1)/\(∀ t∈ts,HB X.K H t)/\(ts.map (·.2.2.1)).Nodup /\
  ∀ us:List Pr,us.Perm ts->(us.map (·.2.2.1)).Pairwise (· < ·)->∀ l,H l=none->Q (.ref l) (upd H l (.lst (us.map fun t=>V.ref t.1)))
def Cy (hu:X.A.units+30<afi):gk X (.builtin "sorted") (V7 X):=by
 intro ahW s Z H vs us Q I r ⟨a,ts,ev,hx,hk,nd,q⟩;subst ev;obtain ⟨u,rfl,ru⟩:=vals1 r;cases ru;obtain ⟨its,rv,pl,z⟩:=I.list hx;have ei:its=ts.map fun t=>Value.ref t.1:=by
  have go:∀ (ts:List Pr) (its:List acd),Vals (ts.map fun t=>V.ref t.1) its->its=ts.map fun t=>Value.ref t.1:=fun ts=>by
   induction ts with
   | nil=>intro its h;cases h;rfl
   | cons t ts ih=>
    intro its h;cases h with
    | cons r h=>
     cases r;rw [ih _ h];rfl
  exact go ts its rv
 have p:∀ zs:List Pr,(∀ x∈zs,x∈ts)->adF (fun k v=>iG s.heap v k) (zs.map (·.2.2.1)) (zs.map fun x=>Value.ref x.1):=fun zs hz=>by
  induction zs with
  | nil=>exact .nil
  | cons x zs ih=>exact .cons (Nx I (hk x (hz x acF))) (ih fun y hy=>hz y (acr _ hy))
 have zl:its.length<=acM:=by rw [ei,acf];rw [acf] at z;exact z
 refine wV hu pl.isList zl (ks:=ts.map (·.2.2.1)) (by rw [ei];exact p ts fun _ h=>h) nd fun h' tk l out ks' c keep hl e pr pm pw po=>?_;rw [ei] at po;obtain ⟨ys,py,eo⟩:=yZ po rfl;have hy:=p ys fun x hx=>py.mem_iff.mp hx
 have eks:ks'=ys.map (·.2.2.1):=by
  rw [eo] at pr;exact (dZ pr).1.trans (dZ hy).1.symm
 rw [eks] at pw;refine ⟨.ref l,_,I.laid (t':=tk) keep hl<|show eG X.prog X.w _ h' _ (.lst<|ys.map fun y=>V.ref y.1) from ⟨by rw [acf,py.length_eq];rw [acf] at z;exact z,out.toList,c,?_,by simpa using e⟩,rfl,q ys py pw l<|I.hok.fresh hl⟩;rw [eo];clear eo pr eks pw hy py po;induction ys with
 | nil=>exact .nil
 | cons y ys ih=>exact .cons rfl ih
def prW (t:List Int×Int):W:=.tup [.tup (t.1.map .int),.int t.2]
def Gu:MC:=fun ws h Q=>match ws with
 | [w]=>(match d7 h w with
  | some us=>∃ ts:List (List Int×Int),us=ts.map prW/\(ts.map (·.1)).Nodup/\∀ rs:List (List Int×Int),rs.Perm ts->(rs.map (·.1)).Pairwise (· < ·)->Q (.lst (rs.map prW)) h
  | none=>False)
 | _=>False
theorem Ng {H:Hp}{μ : Mu}:∀ {ts:List (List Int×Int)} {xs:List V},aM X.K H μ (ts.map prW) xs->∃ zs:List Pr,xs=zs.map (fun t=>V.ref t.1)/\zs.map (·.2.2)=ts/\∀ t∈zs,HB X.K H t
 | [],xs,r=>by
  rw [adA,aM] at r;exact ⟨[],r,rfl,fun _ h=>nomatch h⟩
 | t::ts,xs,r=>by
  rw [acg,aM] at r;obtain ⟨v,vs',rfl,r1,r2⟩:=r;obtain ⟨zs,e1,e2,e3⟩:=Ng r2;unfold prW at r1;rw [Rep] at r1;obtain ⟨p,ys,rfl,hs,hr⟩:=r1;rw [aM] at hr;obtain ⟨v1,vs1,rfl,a1,a2⟩:=hr;rw [aM] at a2;obtain ⟨v2,vs2,rfl,b1,b2⟩:=a2;rw [aM] at b2;subst b2;rw [Rep] at a1;obtain ⟨b,ys,rfl,hb,hr⟩:=a1;rw [sS hr] at hb;rw [Rep] at b1;subst b1;refine ⟨(p,b,t.1,t.2)::zs,by rw [acg,<-e1],by rw [acg,e2],fun u hu=>?_⟩;rcases acA.mp hu with rfl | hu
  ·exact ⟨hs,hb⟩
  ·exact e3 u hu
def Rr (hu:X.A.units+30<afi):fM X (.builtin "sorted") Gu:=⟨_,Cy hu,by
 intro H μ h vs ws Qw Q R r m k;unfold Gu at m;split at m
 ·split at m
  ·rename_i w us ev;obtain ⟨v,e,rv⟩:=jO r;obtain ⟨p,ys,ex,hs,rs⟩:=cX R rv ev;obtain ⟨ts,eu,nd,m⟩:=m;subst e ex;rw [eu] at rs;obtain ⟨zs,e1,e2,e3⟩:=Ng rs;have ek:zs.map (·.2.2.1)=ts.map (·.1):=by rw [<-e2,adb];rfl
   refine ⟨p,zs,rfl,by rw [<-e1];exact hs,e3,by rw [ek];exact nd,fun us pu pw l hl=>?_⟩;have pw2:((us.map (·.2.2)).map (·.1)).Pairwise (· < ·):=by rw [adb];exact pw
   have q:=m (us.map (·.2.2)) (by rw [<-e2];exact pu.map _) pw2;refine k _ _ ⟨μ,_,h,(Ex.laid hl).ext,R.laid hl,?_,q⟩;refine .lstNew R hl ?_;have go:∀ zz:List Pr,(∀ z∈zz,z∈zs)->aM X.K H μ ((zz.map (·.2.2)).map prW) (zz.map fun y=>V.ref y.1):=fun zz hz=>by
    induction zz with
    | nil=>exact .nil
    | cons z zz ih=>
     refine aM.cons ?_<|ih fun y hy=>hz y<|acr _ hy
     obtain ⟨g1,g2⟩:=e3 z (hz z acF);unfold prW;rw [Rep];refine ⟨z.1,_,rfl,g1,aM.cons ?_<|aM.one<|by rw [Rep]⟩;rw [Rep];exact ⟨z.2.1,_,rfl,g2,kE _⟩
   exact go us fun z hz=>pu.mem_iff.mp hz
  ·exact m.elim
 ·exact m.elim⟩
end
section
variable {X:Cx}
end
def Fk (P:acK)(w:adt)(K:abZ)(mg:Str->Option acd)(base:Heap)(k:Nat)(x:Str)(ms:MSp):Prop:=∃ f fd ps,qC P w K mg base CX0 k f fd ps (lift K ms)/\mg x=some (.ref f)/\aeK K (.ref f)=true/\Binds K fd ps []
def At (K:abZ)(mg:Str->Option acd)(x:Str)(st:Stmt)(ps:List Str):Prop:=∃ f fd,Fun K x x st f fd/\mg x=some (.ref f)/\Binds K fd ps []
section
variable {X:Cx}{e e3 e4:Expr}{es:List Expr}{mc md:ME}{pos:Pos}{k:Nat}{zl:List Str}{x:Str}{p:Pos}
def vV (i:Nat)(hN:X.N[i]?=some x:=by with_unfolding_all rfl)(hv:Vis X.env.scope x:=by with_unfolding_all first | exact Or.inl rfl | exact Or.inr (Or.inl rfl) | exact Or.inr (Or.inr rfl))(hd:(x==("__debug__" : Str))=false:=by decide)(hcd:(x==("__classdict__" : Str))=false:=by decide):DE X (.Name x pos) (aA i):=dv i (pv i hN hv hd hcd)
def aC (h1:DE X e ma)(h2:DAs X es mr)(s:isStar e=false:=by with_unfolding_all rfl):DAs X (e::es) (ao ma mr):=PK h1 h2 (bT s)
def a1 (h1:DE X e ma)(s:isStar e=false:=by with_unfolding_all rfl):DAs X [e] (ao ma aL):=aC h1 oU s
def a2 (h1:DE X e ma)(h2:DE X e2 mb)(s1:isStar e=false:=by with_unfolding_all rfl)(s2:isStar e2=false:=by with_unfolding_all rfl):DAs X [e,e2] (ao ma (ao mb aL)):=aC h1 (a1 h2 s2) s1
def a3 (h1:DE X e ma)(h2:DE X e2 mb)(h3:DE X e3 mc)(s1:isStar e=false:=by with_unfolding_all rfl)(s2:isStar e2=false:=by with_unfolding_all rfl)(s3:isStar e3=false:=by with_unfolding_all rfl):DAs X [e,e2,e3] (ao ma (ao mb (ao mc aL))):=aC h1 (a2 h2 h3 s2 s3) s1
def dcl {j:Nat}(F:Fk X.prog X.w X.K X.mg X.base j x ms)(ha:DAs X (e::es) mr)(hr:nF k X.A:=by with_unfolding_all assumption)(hk:j<=k:=by decide)(hg:Gl X x:=by with_unfolding_all rfl)(hdb:(x==("__debug__" : Str))=false:=by decide)(h1:isStar e=false:=by with_unfolding_all rfl)(h2:noStar es=true:=by with_unfolding_all rfl):
  DE X (.Call (.Name x p) (e::es) [] pos) (aJ ms EF mr):=by
 obtain ⟨f,fd,ps,a,b,c,d⟩:=F;exact S9 (a.mono hk) hr hg b c d ha hdb (bT h1)<|cP h2
def dcb {id:String}{mc:MC}(hc:fM X (.builtin id) mc)(hv:afs x=some (.builtin id))(ha:DAs X (e::es) mr)(z:∀ n∈zl,X.mg n=none:=by with_unfolding_all assumption)(hz:x∈zl:=by decide)(hg:Gl X x:=by with_unfolding_all rfl)(hn:x ≠ "__name__":=by decide)(hdb:(x==("__debug__" : Str))=false:=by decide)
  (h1:isStar e=false:=by with_unfolding_all rfl) (h2:noStar es=true:=by with_unfolding_all rfl):DE X (.Call (.Name x p) (e::es) [] pos) (mCB mc mr):=Ry hc hg (z _ hz) hv ha hn hdb (bT h1) (cP h2)
def dct {T:String}{mc:MC}(hc:fM X (.type T) mc)(hv:afs x=some (.type T))(ha:DAs X (e::es) mr)(z:∀ n∈zl,X.mg n=none:=by with_unfolding_all assumption)(hz:x∈zl:=by decide)(hg:Gl X x:=by with_unfolding_all rfl)(hn:x ≠ "__name__":=by decide)(hdb:(x==("__debug__" : Str))=false:=by decide)
  (h1:isStar e=false:=by with_unfolding_all rfl) (h2:noStar es=true:=by with_unfolding_all rfl):DE X (.Call (.Name x p) (e::es) [] pos) (mCB mc mr):=Jv hc hg (z _ hz) hv ha hn hdb (bT h1) (cP h2)
def dse (i:Nat){pos':Pos}(he:DE X e ma)(hN:X.N.Nodup:=by with_unfolding_all assumption)(hi:X.N[i]?=some x:=by with_unfolding_all rfl)(hx:Loc X.env.scope x:=by with_unfolding_all first | exact Or.inl rfl | exact Or.inr rfl)(hs:swapsWith e (some (.Name x pos')) pos.line X.env=pure false:=by with_unfolding_all rfl)
  (hf:X.fn x=true\/X.env.scope.names.lookup x=some .local:=by with_unfolding_all first | exact .inl rfl | exact .inr rfl):DS X (.Assign [.Name x pos'] e pos) (bL ma (nName i)):=U5 hN hi hx he hs hf
def dgn (i:Nat)(hN:X.N.Nodup:=by with_unfolding_all assumption)(hi:X.N[i]?=some x:=by with_unfolding_all rfl)(hx:Loc X.env.scope x:=by with_unfolding_all first | exact Or.inl rfl | exact Or.inr rfl)(hf:X.fn x=true\/X.env.scope.names.lookup x=some .local:=by with_unfolding_all first | exact .inl rfl | exact .inr rfl):DG X (.Name x pos) (nName i):=Qm (rJ hN hi hx hf)
def dix {a b:Expr}(ha:DE X a ma)(hb:DE X b mb)(hs:xT b:=by with_unfolding_all (intro _ _;rfl)):DE X (.Subscript a b pos) (mOp kIx ma mb):=abN ha hb hs
def dce {a b:Expr}{op:CmpOp}{m2:M2}(ho:DOp X (adW op) m2)(ha:DE X a ma)(hb:DE X b mb)(hm:afR op b=false:=by with_unfolding_all first | exact Ml _ | rfl):DT X (.Compare a [op] [b] pos) (bN (mOp m2 ma mb)):=Ws ho ha hb hm
def cce {a b:Expr}{op:CmpOp}{m2:M2}(ho:DOp X (adW op) m2)(ha:DE X a ma)(hb:DE X b mb)(hm:afR op b=false:=by with_unfolding_all first | exact Ml _ | rfl):DE X (.Compare a [op] [b] pos) (mOp m2 ma mb):=Yh ho ha hb hm
def dl1 {scope:Scope}{iter:Expr}(ix:List Nat)(hi:DIt X (.Name x p) iter mi)(ht:∀ C s H fp,Tt (blk X scope (iC X [x] ix) C s H fp) ifs tt)(he:∀ C s H fp,DE (blk X scope (iC X [x] ix) C s H fp) elt te)(B:iU X scope [x] ix:=by with_unfolding_all exact cR rfl)(hc:X.calm=true:=by with_unfolding_all assumption)
  (hs:∀ v,aeW iter X.env v=pure v:=by with_unfolding_all (intro _;rfl)):DE X (.ListComp elt [⟨.Name x p,iter,ifs,0⟩] scope pos) (mLC ow1 ix mi tt te):=Sq ix hc B Ck (Bt B) hi ht he hs
def dl0 {scope:Scope}{iter:Expr}(ix:List Nat)(hi:DIt X (.Name x p) iter mi)(he:∀ C s H fp,DE (blk X scope (iC X [x] ix) C s H fp) elt te)(B:iU X scope [x] ix:=by with_unfolding_all exact cR rfl)(hc:X.calm=true:=by with_unfolding_all assumption)
  (hs:∀ v,aeW iter X.env v=pure v:=by with_unfolding_all (intro _;rfl)):DE X (.ListComp elt [⟨.Name x p,iter,[],0⟩] scope pos) (mLC ow1 ix mi jR te):=dl1 ix hi (fun _ _ _ _=>gY) he B hc hs
def qq (hr:nF k X.A:=by with_unfolding_all assumption):X.A.units+30<afi:=abK hr
def hh (hc:X.calm=true:=by with_unfolding_all assumption):X.calm=true:=hc
def drg {a:Expr}{tg:Expr}(ha:DAs X [a] mr)(z:∀ n∈zl,X.mg n=none:=by with_unfolding_all assumption)(hz:("range" : Str)∈zl:=by decide)(hg:Gl X "range":=by with_unfolding_all rfl)(hs:isStar a=false:=by with_unfolding_all rfl):DIt X tg (.Call (.Name "range" p) [a] [] pos) (iH mr):=Hs hg (z _ hz) ha (M7 hs)
end
def fk {P:acK}{w:adt}{K:abZ}{mg:Str->Option acd}{base:Heap}{x:Str}{st:Stmt}{ps zl:List Str}(N:List Str){k:Nat}{pure:Bool}{body:XWK->MS}(T:At K mg x st ps)(z:∀ n∈zl,mg n=none)
  (hb:∀ (f:Addr) (cdv:acd) (A:acY) (outer:List Env) (s:aci) (H:Hp) (E:XK),nF k (A.deeper (envOfC x (bO st) s.heap.objs.size f cdv))->N.Nodup->(Le CX0 P w K mg base N x (bO st) f cdv A outer s H E).nox.calm=true->(∀ n∈zl,mg n=none)->DSs (Le CX0 P w K mg base N x (bO st) f cdv A outer s H E).nox (gR st) (body EF))
  (S:lM N ps (bO st):=by exact ⟨rfl,rfl,rfl,by decide +kernel,rfl,by decide +kernel,by decide +kernel⟩) (hk:9<=k:=by decide):Fk P w K mg base (k+1) x (mFn ps.length N.length pure body):=by
 obtain ⟨f,fd,F,m,b⟩:=T;exact ⟨f,fd,ps,aaP F S fun cdv A outer s H E hr=>hb f cdv A outer s H E hr S.nd (hr.calm hk) z,m,F.kp,b⟩
end L2
namespace My
set_option maxHeartbeats 4000000
open PySem L2 PyProof.Rows
def top (i:Nat):Stmt:=PySem.Challenge.pw_easelroom_k71_raws_at_numbers.main.body.getD i (.Pass ⟨0,0,0,0⟩)
abbrev O8:Stmt:=top 54
def dJ (E:XWK):MS:=
  (cJ (aA 1))
def cF:MSp:=mFn 1 2 false fun E=>
  (bA (bL (mCB cC (ao (mLC ow1 [0] (nIt (mCB zW (ao (aA 0) aL))) (bN (mOp kNe (mOp Qe (aA 1) (aA 0)) (mC (.int 0)))) (je (ao (aA 0) (ao (mOp Qe (aA 1) (aA 0)) aL)))) aL)) (nName 1))
  (bA (lE (bN (mOp kGt (mCB kLen (ao (aA 1) aL)) (mC (.int 600)))) (wj "TooMuch" E) dD)
  (dJ E)))
def eX:MSp:=cF
def jw (ahv:MSp)(E:XWK):MS:=
  (cJ (aJ ahv E (ao (aA 3) aL)))
def iI (ahv:MSp):MSp:=mFn 3 6 true fun E=>
  (bA (bL (mCB yN (ao (aA 0) aL)) (nName 3))
  (bA (oX (nIt (aA 1)) (gU 2 (bY (nName 4) (bY (nName 5) wD))) (bL (mOp dH (YZ Dq (aA 3) (ao (aA 4) (ao (mC (.int 0)) aL))) (mOp gG (aA 2) (aA 5))) (Je (aA 3) (aA 4) Hw)))
  (jw ahv E)))
def fP:MSp:=iI eX
def Hx (ahM:MSp):MSp:=mFn 2 2 false fun E=>
  (cJ (aJ ahM E (ao (aA 0) (ao (aA 1) (ao (mC (.int 1)) aL)))))
def rA:MSp:=Hx fP
def xP (ahM:MSp):MSp:=mFn 2 2 false fun E=>
  (cJ (aJ ahM E (ao (aA 0) (ao (aA 1) (ao (mUn aaf (mC (.int 1))) aL)))))
def rZ:MSp:=xP fP
def rC (E:XWK):MS:=
  (cJ (aA 1))
def uf:MSp:=mFn 1 3 false fun E=>
  (bA (bL (mC (.int 0)) (nName 1))
  (bA (oX (nIt (aA 0)) (nName 2) (bL (mOp dH (mOp gG (aA 1) (mC (.int 65536))) (aA 2)) (nName 1)))
  (rC E)))
def zK:MSp:=uf
def mY (E:XWK):MS:=
  (cJ (xJ (aA 2)))
def lY:MSp:=mFn 2 4 true fun E=>
  (bA (bL (vM aL) (nName 2))
  (bA (oX (iH (ao (aA 1) aL)) (nName 3) (bA (xq (OJ gP (aA 2) (ao (mOp Bc (aA 0) (mC (.int 65536))) aL)))
  (bL (mOp Mq (aA 0) (mC (.int 65536))) (nName 0))))
  (mY E)))
def qK:MSp:=lY
def gq (ahy:MSp):MSp:=mFn 1 1 false fun E=>
  (cJ (mLC (owT 2) [] (nIt (aA 0)) jR (je (ao (aJ ahy E (ao (aA 0) aL)) (ao (aA 1) aL)))))
def ju:MSp:=gq zK
def fY:MSp:=mFn 1 3 false fun E=>
  (oX (nIt (aA 0)) (gU 2 (bY (nName 1) (bY (nName 2) wD))) (lE (Cz (mCB Vx (ao (mLC ow1 [] (nIt (aA 1)) jR (mOp kGt (aA 0) (mC (.int 60)))) aL))) (wj "TooMuch" E) dD))
def jy:MSp:=fY
def uM (ahv ahI ahB ahG:MSp)(E:XWK):MS:=
  (bA (bL (mIf (Cz (aA 0)) (mCB kLen (ao (mOp kIx (mOp kIx (aA 0) (mC (.int 0))) (mC (.int 0))) aL)) (mC (.int 0))) (nName 9))
  (bA (bL (aJ ahv E (ao (aA 2) aL)) (nName 10))
  (bA (bL (mCB cC (ao (mLC (owT 2) [9] (nIt (aA 10)) jR (je (ao (aJ ahI E (ao (aA 0) (ao (aA 2) aL))) (ao (aA 1) aL)))) aL)) (nName 11))
  (bA (xq (aJ ahG E (ao (aA 11) aL)))
  (cJ (aA 11))))))
def uX (ahv ahI ahB ahG:MSp)(E:XWK):MS:=
  (bA (bL QK (nName 2))
  (bA (bL (aJ ahB E (ao (aA 1) aL)) (nName 3))
  (bA (oX (nIt (aJ ahB E (ao (aA 0) aL))) (gU 2 (bY (nName 4) (bY (nName 5) wD))) (oX (nIt (aA 3)) (gU 2 (bY (nName 6) (bY (nName 7) wD))) (bA (bL (mOp dH (aA 4) (aA 6)) (nName 8))
  (bL (mOp dH (Y0 K9 (aA 2) (ao (aA 8) (ao (mC (.int 0)) aL))) (mOp gG (aA 5) (aA 7))) (Je (aA 2) (aA 8) wQ)))))
  (uM ahv ahI ahB ahG E))))
def w6 (ahv ahI ahB ahG:MSp):MSp:=mFn 2 12 true fun E=>
  (bA (lE (bN (mOp kGt (mOp gG (mCB kLen (ao (aA 0) aL)) (mCB kLen (ao (aA 1) aL))) (mC (.int 20000)))) (wj "TooMuch" E) dD)
  (uX ahv ahI ahB ahG E))
def jP:MSp:=w6 eX qK ju jy
def gA (ahL ahf:MSp):MSp:=mFn 4 4 false fun E=>
  (cJ (aJ ahL E (ao (aJ ahf E (ao (mOp kIx (aA 0) (aA 2)) (ao (mOp kIx (aA 1) (aA 3)) aL))) (ao (aJ ahf E (ao (mOp kIx (aA 0) (aA 3)) (ao (mOp kIx (aA 1) (aA 2)) aL))) aL))))
def jt:MSp:=gA rZ jP
def jG (ahP:MSp):MSp:=mFn 2 2 false fun E=>
  (cJ (je (ao (aJ ahP E (ao (aA 0) (ao (aA 1) (ao (mC (.int 1)) (ao (mC (.int 2)) aL))))) (ao (aJ ahP E (ao (aA 0) (ao (aA 1) (ao (mC (.int 2)) (ao (mC (.int 0)) aL))))) (ao (aJ ahP E (ao (aA 0) (ao (aA 1) (ao (mC (.int 0)) (ao (mC (.int 1)) aL))))) aL)))))
def dM:MSp:=jG jt
def pB (ahx ahf:MSp)(E:XWK):MS:=
  (cJ (aA 2))
def pJ (ahx ahf:MSp):MSp:=mFn 2 5 false fun E=>
  (bA (bL (je aL) (nName 2))
  (bA (oX (Ow (ao (aA 0) (ao (aA 1) aL))) (gU 2 (bY (nName 3) (bY (nName 4) wD))) (bL (aJ ahx E (ao (aA 2) (ao (aJ ahf E (ao (aA 3) (ao (aA 4) aL))) aL))) (nName 2)))
  (pB ahx ahf E)))
def gF:MSp:=pJ rA jP
def mD (ahg aho:MSp):MSp:=mFn 3 3 false fun E=>
  (cJ (aJ aho E (ao (aJ ahg E (ao (aA 0) (ao (aA 1) aL))) (ao (aA 2) aL))))
def rm:MSp:=mD dM gF
def iR (ahf:MSp):MSp:=mFn 2 2 false fun E=>
  (cJ (mCB cC (ao (mLC ow1 [1] (nIt (aA 0)) jR (aJ ahf E (ao (aA 0) (ao (aA 1) aL)))) aL)))
def dX:MSp:=iR jP
def jg (ahL:MSp):MSp:=mFn 2 2 false fun E=>
  (cJ (mCB cC (ao (mLC (owT 2) [] (Ow (ao (aA 0) (ao (aA 1) aL))) jR (aJ ahL E (ao (aA 0) (ao (aA 1) aL)))) aL)))
def fU:MSp:=jg rZ
def fZ (ahx ahf:MSp):MSp:=mFn 2 2 false fun E=>
  (cJ (je (ao (aJ ahf E (ao (mOp kIx (aA 0) (mC (.int 0))) (ao (mOp kIx (aA 1) (mC (.int 0))) aL))) (ao (aJ ahx E (ao (aJ ahf E (ao (mOp kIx (aA 0) (mC (.int 0))) (ao (mOp kIx (aA 1) (mC (.int 1))) aL))) (ao (aJ ahf E (ao (mOp kIx (aA 0) (mC (.int 1))) (ao (mOp kIx (aA 1) (mC (.int 0))) aL))) aL))) (ao (aJ ahf E (ao (mOp kIx (aA 0) (mC (.int 1))) (ao (mOp kIx (aA 1) (mC (.int 1))) aL))) (ao (aJ ahx E (ao (aJ ahf E (ao (mOp kIx (aA 0) (mC (.int 0))) (ao (mOp kIx (aA 1) (mC (.int 2))) aL))) (ao (aJ ahf E (ao (mOp kIx (aA 0) (mC (.int 2))) (ao (mOp kIx (aA 1) (mC (.int 0))) aL))) aL))) (ao (aJ ahx E (ao (aJ ahf E (ao (mOp kIx (aA 0) (mC (.int 1))) (ao (mOp kIx (aA 1) (mC (.int 2))) aL))) (ao (aJ ahf E (ao (mOp kIx (aA 0) (mC (.int 2))) (ao (mOp kIx (aA 1) (mC (.int 1))) aL))) aL))) (ao (aJ ahf E (ao (mOp kIx (aA 0) (mC (.int 2))) (ao (mOp kIx (aA 1) (mC (.int 2))) aL))) aL))))))))
def jA:MSp:=fZ rA jP
def oR (ahx:MSp):MSp:=mFn 1 1 false fun E=>
  (cJ (aJ ahx E (ao (aA 0) (ao (aA 0) aL))))
def lq:MSp:=oR rA
def jE (ahD:MSp):MSp:=mFn 1 1 false fun E=>
  (cJ (je (ao (je (ao (aJ ahD E (ao (mOp kIx (aA 0) (mC (.int 0))) aL)) (ao (mOp kIx (aA 0) (mC (.int 1))) (ao (mOp kIx (aA 0) (mC (.int 3))) aL)))) (ao (je (ao (mOp kIx (aA 0) (mC (.int 1))) (ao (aJ ahD E (ao (mOp kIx (aA 0) (mC (.int 2))) aL)) (ao (mOp kIx (aA 0) (mC (.int 4))) aL)))) (ao (je (ao (mOp kIx (aA 0) (mC (.int 3))) (ao (mOp kIx (aA 0) (mC (.int 4))) (ao (aJ ahD E (ao (mOp kIx (aA 0) (mC (.int 5))) aL)) aL)))) aL)))))
def fD:MSp:=jE lq
def gJ (ahg:MSp):MSp:=mFn 1 1 false fun E=>
  (cJ (je (ao (aJ ahg E (ao (mOp kIx (aA 0) (mC (.int 1))) (ao (mOp kIx (aA 0) (mC (.int 2))) aL))) (ao (aJ ahg E (ao (mOp kIx (aA 0) (mC (.int 2))) (ao (mOp kIx (aA 0) (mC (.int 0))) aL))) (ao (aJ ahg E (ao (mOp kIx (aA 0) (mC (.int 0))) (ao (mOp kIx (aA 0) (mC (.int 1))) aL))) aL)))))
def kJ:MSp:=gJ dM
def jc (aho:MSp):MSp:=mFn 2 2 false fun E=>
  (cJ (mCB cC (ao (mLC ow1 [1] (nIt (aA 0)) jR (aJ aho E (ao (aA 0) (ao (aA 1) aL)))) aL)))
def dY:MSp:=jc gF
def cT (aho ahk:MSp):MSp:=mFn 3 3 false fun E=>
  (cJ (aJ aho E (ao (aA 1) (ao (aJ ahk E (ao (aA 0) (ao (aA 2) aL))) aL))))
def eN:MSp:=cT gF dY
def jQ (ahV:MSp):MSp:=mFn 1 1 false fun E=>
  (cJ (aJ ahV E (ao (mOp kIx (aA 0) (mC (.int 0))) (ao (mOp kIx (aA 0) (mC (.int 1))) (ao (mOp kIx (aA 0) (mC (.int 2))) aL)))))
def oA:MSp:=jQ rm
def g8 (ahf ahg aho ahz ahN ahS:MSp):MSp:=mFn 1 7 false fun E=>
  (bA (bL (aJ ahg E (ao (mOp kIx (aA 0) (mC (.int 0))) (ao (mOp kIx (aA 0) (mC (.int 1))) aL))) (nName 1))
  (bA (bL (aJ ahg E (ao (mOp kIx (aA 0) (mC (.int 2))) (ao (mOp kIx (aA 0) (mC (.int 3))) aL))) (nName 2))
  (bA (bL (aJ ahg E (ao (mOp kIx (aA 0) (mC (.int 0))) (ao (mOp kIx (aA 0) (mC (.int 2))) aL))) (nName 3))
  (bA (bL (aJ ahg E (ao (mOp kIx (aA 0) (mC (.int 1))) (ao (mOp kIx (aA 0) (mC (.int 3))) aL))) (nName 4))
  (bA (bL (aJ ahf E (ao (aJ aho E (ao (aA 1) (ao (mOp kIx (aA 0) (mC (.int 4))) aL))) (ao (aJ aho E (ao (aA 2) (ao (mOp kIx (aA 0) (mC (.int 4))) aL))) aL))) (nName 5))
  (bA (bL (aJ ahf E (ao (aJ aho E (ao (aA 3) (ao (mOp kIx (aA 0) (mC (.int 4))) aL))) (ao (aJ aho E (ao (aA 4) (ao (mOp kIx (aA 0) (mC (.int 4))) aL))) aL))) (nName 6))
  (cJ (aJ ahN E (ao (aJ ahz E (ao (aJ ahS E (ao (aA 3) (ao (aA 4) aL))) (ao (aA 5) aL))) (ao (aJ ahz E (ao (aJ ahS E (ao (aA 1) (ao (aA 2) aL))) (ao (aA 6) aL))) aL))))))))))
def o8:MSp:=g8 jP dM gF dX fU jA
def jj (ahz ahl ahT ahk ahU:MSp):MSp:=mFn 2 3 false fun E=>
  (bA (bL (aJ ahl E (ao (aA 0) aL)) (nName 2))
  (cJ (aJ ahz E (ao (aJ ahk E (ao (aJ ahT E (ao (aA 2) aL)) (ao (aA 1) aL))) (ao (aJ ahU E (ao (aA 2) aL)) aL)))))
def qT:MSp:=jj dX fD kJ dY oA
def gM (ahz ahN ahD ahl ahR:MSp):MSp:=mFn 3 6 false fun E=>
  (bA (bL (aJ ahl E (ao (aA 0) aL)) (nName 3))
  (bA (bL (aJ ahR E (ao (aA 3) (ao (aA 2) (ao (aA 2) aL)))) (nName 4))
  (bA (bL (aJ ahD E (ao (aJ ahR E (ao (aA 3) (ao (aA 1) (ao (aA 2) aL)))) aL)) (nName 5))
  (cJ (aJ ahN E (ao (aJ ahz E (ao (aA 1) (ao (aA 4) aL))) (ao (aJ ahz E (ao (aA 2) (ao (aA 5) aL))) aL)))))))
def pN:MSp:=gM dX fU lq fD eN
def HF (ahg ahl ahk aht ahw ahu:MSp)(E:XWK):MS:=
  (cJ (aJ ahg E (ao (mOp kIx (aA 4) (mC (.int 0))) (ao (mOp kIx (aA 4) (mC (.int 1))) aL))))
def yd (ahg ahl ahk aht ahw ahu:MSp)(E:XWK):MS:=
  (bA (lE (bN (mOp kEq (aA 3) (mC (.str "other")))) (cJ (aJ ahu E (ao (mOp kIx (aA 4) (mC (.int 0))) (ao (mOp kIx (aA 4) (mC (.int 1))) (ao (mOp kIx (aA 4) (mC (.int 2))) aL))))) dD)
  (HF ahg ahl ahk aht ahw ahu E))
def tR (ahg ahl ahk aht ahw ahu:MSp)(E:XWK):MS:=
  (bA (lE (bN (mOp kEq (aA 3) (mC (.str "pole")))) (cJ (aJ ahw E (ao (mOp kIx (aA 4) (mC (.int 0))) (ao (mOp kIx (aA 4) (mC (.int 1))) aL)))) dD)
  (yd ahg ahl ahk aht ahw ahu E))
def qm (ahg ahl ahk aht ahw ahu:MSp)(E:XWK):MS:=
  (bA (lE (bN (mOp kEq (aA 3) (mC (.str "about")))) (cJ (aJ ahk E (ao (aJ ahl E (ao (mOp kIx (aA 4) (mC (.int 0))) aL)) (ao (mOp kIx (aA 4) (mC (.int 1))) aL)))) dD)
  (tR ahg ahl ahk aht ahw ahu E))
def Ox (ahg ahl ahk aht ahw ahu:MSp):MSp:=mFn 3 5 false fun E=>
  (bA (bL (mOp kIx (mOp kIx (aA 0) (aA 2)) (mC (.int 0))) (nName 3))
  (bA (bL (mLC ow1 [1] (nIt (mSl Uy (mOp kIx (aA 0) (aA 2)) (Gg (mC (.int 1))) pY)) jR (mOp kIx (aA 1) (aA 0))) (nName 4))
  (bA (lE (bN (mOp kEq (aA 3) (mC (.str "curve")))) (cJ (aJ aht E (ao (aA 4) aL))) dD)
  (qm ahg ahl ahk aht ahw ahu E))))
def OD:MSp:=Ox dM fD dY o8 qT pN
def Cg (E:XWK):MS:=
  (cJ (mC (.int 0)))
def zQ:MSp:=mFn 2 2 false fun E=>
  (bA (lE (bN (mOp kLt (aA 1) (mCB kLen (ao (aA 0) aL)))) (cJ (mOp kIx (aA 0) (aA 1))) dD)
  (Cg E))
def Al:MSp:=zQ
def Hq:MSp:=mFn 1 1 false fun E=>
  (cJ (vM (ao (mOp Bl (mCB SX (ao (aA 0) aL)) (mCB K7 (ao (mOp kGe (mCB SX (ao (aA 0) aL)) (mOp SQ (mC (.int 10)) (mC (.int 18)))) aL))) (ao (mOp Bc (mCB SX (ao (aA 0) aL)) (mC (.int 2147483647))) aL))))
def Eh:MSp:=Hq
def Bv (E:XWK):MS:=
  (bA (bL (mOp Bc (mOp dH (mOp gG (mOp kIx (aA 0) (mC (.int 1))) (mC (.int 48271))) (mC (.int 11))) (mC (.int 2147483647))) (Je (aA 0) (mC (.int 1)) K8))
  (cJ (mOp Bc (mOp Mq (mOp Bc (mOp gG (mOp kIx (aA 0) (mC (.int 1))) (mOp dH (mOp Mq (mOp kIx (aA 0) (mC (.int 1))) (mC (.int 65536))) (mC (.int 7)))) (mC (.int 2147483629))) (mC (.int 32))) (aA 1))))
def yK:MSp:=mFn 2 3 false fun E=>
  (bA (lE (bN (mOp kGt (mOp kIx (aA 0) (mC (.int 0))) (mC (.int 0)))) (bA (bL (mOp Bc (mOp kIx (aA 0) (mC (.int 0))) (aA 1)) (nName 2))
  (bA (bL (mOp Mq (mOp kIx (aA 0) (mC (.int 0))) (aA 1)) (Je (aA 0) (mC (.int 0)) K8))
  (cJ (aA 2)))) dD)
  (Bv E))
def jV:MSp:=yK
def zV:MSp:=mFn 1 2 false fun E=>
  (bA (bL (Vq [(.inr "free",(lD aL)),(.inr "join",(lD (ao (mC (.str "spot")) (ao (mC (.str "spot")) aL)))),(.inr "meet",(lD (ao (mC (.str "line")) (ao (mC (.str "line")) aL)))),(.inr "about",(lD (ao (mC (.str "curve")) (ao (mC (.str "spot")) aL))))]) (nName 1))
  (bA (bL (lD (ao (mC (.str "spot")) (ao (mC (.str "spot")) (ao (mC (.str "spot")) (ao (mC (.str "spot")) (ao (mC (.str "spot")) aL)))))) (Je (aA 1) (mC (.str "curve")) wQ))
  (bA (bL (lD (ao (mC (.str "curve")) (ao (mC (.str "line")) aL))) (Je (aA 1) (mC (.str "pole")) wQ))
  (bA (bL (lD (ao (mC (.str "curve")) (ao (mC (.str "spot")) (ao (mC (.str "spot")) aL)))) (Je (aA 1) (mC (.str "other")) wQ))
  (cJ (mOp Sg (aA 1) (aA 0)))))))
def zT:MSp:=zV
def qJ (E:XWK):MS:=
  (cJ (mOp kIx (lD (ao (mC (.str "spot")) (ao (mC (.str "curve")) aL))) (mCB K7 (ao (mOp kEq (mOp kIx (aA 0) (mC (.int 0))) (mC (.str "curve"))) aL))))
def sG:MSp:=mFn 1 1 false fun E=>
  (bA (lE (mOr (bN (mOp kEq (mOp kIx (aA 0) (mC (.int 0))) (mC (.str "join")))) (bN (mOp kEq (mOp kIx (aA 0) (mC (.int 0))) (mC (.str "about"))))) (cJ (mC (.str "line"))) dD)
  (qJ E))
def nY:MSp:=sG
def sZ (ahe ahm:MSp):MSp:=mFn 3 4 false fun E=>
  (bA (bL (mLC ow1 [1,2] (iH (ao (mCB kLen (ao (aA 1) aL)) aL)) (bN (mOp kEq (aJ ahm E (ao (mOp kIx (aA 1) (aA 0)) aL)) (aA 2))) (aA 0)) (nName 3))
  (cJ (mOp kIx (aA 3) (aJ ahe E (ao (aA 0) (ao (mCB kLen (ao (aA 3) aL)) aL))))))
def yR:MSp:=sZ jV nY
def p7 (ahe ahK ahm ahO:MSp)(E:XWK):MS:=
  (cJ (mCB cC (ao (mOp dH (lD (ao (aA 5) aL)) (mLC ow1 [0,1] (nIt (aJ ahK E (ao (aA 5) aL))) jR (aJ ahO E (ao (aA 1) (ao (aA 2) (ao (aA 0) aL)))))) aL)))
def xO (ahe ahK ahm ahO:MSp):MSp:=mFn 3 7 false fun E=>
  (bA (bL (mLC ow1 [] (nIt (aA 1)) jR (aJ ahm E (ao (aA 0) aL))) (nName 3))
  (bA (bL (lD (ao (mC (.str "join")) (ao (mC (.str "meet")) (ao (mC (.str "curve")) (ao (mC (.str "about")) (ao (mC (.str "pole")) (ao (mC (.str "other")) (ao (mC (.str "join")) (ao (mC (.str "meet")) (ao (mC (.str "join")) (ao (mC (.str "meet")) aL))))))))))) (nName 4))
  (bA (bL (mOp kIx (aA 4) (aJ ahe E (ao (aA 0) (ao (mC (.int 10)) aL)))) (nName 5))
  (bA (bL (mLC ow1 [3] (nIt (aJ ahK E (ao (aA 5) aL))) (bN (mOp Bo (aA 0) (aA 1))) (aA 0)) (nName 6))
  (bA (lE (mOr (bN (mOp kLt (mCB kLen (ao (aA 1) aL)) (aA 2))) (bN (mOp kGt (mCB kLen (ao (aA 6) aL)) (mC (.int 0))))) (bL (mOp kIx (lD (ao (mC (.str "join")) (ao (mC (.str "free")) aL))) (mCB K7 (ao (mOp kLt (mCB kLen (ao (aA 1) aL)) (aA 2)) aL))) (nName 5)) dD)
  (p7 ahe ahK ahm ahO E))))))
def Gd:MSp:=xO jV zT nY yR
def oH:MSp:=mFn 2 8 false fun E=>
  (bA (bL (aA 0) (gU 3 (bY (nName 2) (bY (nName 3) (bY (nName 4) wD)))))
  (bA (bL (aA 1) (gU 3 (bY (nName 5) (bY (nName 6) (bY (nName 7) wD)))))
  (cJ (je (ao (mOp yu (mOp gG (aA 3) (aA 7)) (mOp gG (aA 4) (aA 6))) (ao (mOp yu (mOp gG (aA 4) (aA 5)) (mOp gG (aA 2) (aA 7))) (ao (mOp yu (mOp gG (aA 2) (aA 6)) (mOp gG (aA 3) (aA 5))) aL)))))))
def pZ:MSp:=oH
def yp:MSp:=mFn 2 2 false fun E=>
  (cJ (mOp dH (mOp dH (mOp gG (mOp kIx (aA 0) (mC (.int 0))) (mOp kIx (aA 1) (mC (.int 0)))) (mOp gG (mOp kIx (aA 0) (mC (.int 1))) (mOp kIx (aA 1) (mC (.int 1))))) (mOp gG (mOp kIx (aA 0) (mC (.int 2))) (mOp kIx (aA 1) (mC (.int 2))))))
def ug:MSp:=yp
def tZ (ahi ahh:MSp):MSp:=mFn 3 3 false fun E=>
  (cJ (aJ ahh E (ao (aJ ahi E (ao (aA 0) (ao (aA 1) aL))) (ao (aA 2) aL))))
def zO:MSp:=tZ pZ ug
def jJ:MSp:=mFn 1 7 false fun E=>
  (bA (bL (aA 0) (gU 6 (bY (nName 1) (bY (nName 2) (bY (nName 3) (bY (nName 4) (bY (nName 5) (bY (nName 6) wD))))))))
  (cJ (lD (ao (je (ao (mOp gG (mC (.int 2)) (aA 1)) (ao (aA 2) (ao (aA 4) aL)))) (ao (je (ao (aA 2) (ao (mOp gG (mC (.int 2)) (aA 3)) (ao (aA 5) aL)))) (ao (je (ao (aA 4) (ao (aA 5) (ao (mOp gG (mC (.int 2)) (aA 6)) aL)))) aL))))))
def jH:MSp:=jJ
def pP (ahh ahn:MSp):MSp:=mFn 2 2 false fun E=>
  (cJ (mCB cC (ao (mLC ow1 [1] (nIt (aJ ahn E (ao (aA 0) aL))) jR (aJ ahh E (ao (aA 0) (ao (aA 1) aL)))) aL)))
def vp:MSp:=pP ug jH
def Af (E:XWK):MS:=
  (cJ (aA 2))
def Fj:MSp:=mFn 2 8 false fun E=>
  (bA (bL (mC (.int 0)) (nName 2))
  (bA (oX (nIt (aA 0)) (gU 2 (bY (nName 3) (bY (nName 4) wD))) (bA (oX (Ow (ao (aA 3) (ao (aA 1) aL))) (gU 2 (bY (nName 5) (bY (nName 6) wD))) (oX (iH (ao (aA 5) aL)) (nName 7) (bL (mOp gG (aA 4) (aA 6)) (nName 4))))
  (bL (mOp dH (aA 2) (aA 4)) (nName 2))))
  (Af E)))
def Nk:MSp:=Fj
def fV (E:XWK):MS:=
  (cJ (mC (.bl true)))
def jz (E:XWK):MS:=
  (bA (bL (mC .non) (nName 2))
  (bA (oX (nIt (aA 0)) (nName 3) (bA (lE (mOr (Ja (Cz (mCB Hh (ao (aA 3) (ao (mC (.ty "tuple")) aL))))) (mOr (bN (mOp kNe (mCB kLen (ao (aA 3) aL)) (mC (.int 2)))) (mOr (Ja (Cz (mCB Hh (ao (mOp kIx (aA 3) (mC (.int 0))) (ao (mC (.ty "tuple")) aL))))) (bN (mOp kNe (mCB kLen (ao (mOp kIx (aA 3) (mC (.int 0))) aL)) (aA 1)))))) (cJ (mC (.bl false))) dD)
  (bA (oX (nIt (mOp dH (mCB vg (ao (mOp kIx (aA 3) (mC (.int 0))) aL)) (lD (ao (mOp kIx (aA 3) (mC (.int 1))) aL)))) (nName 4) (lE (mOr (Ja (Cz (mCB Hh (ao (aA 4) (ao (mC (.ty "int")) aL))))) (Cz (mCB Hh (ao (aA 4) (ao (mC (.ty "bool")) aL))))) (cJ (mC (.bl false))) dD))
  (bA (lE (mOr (bN (mOp kLt (mCB PN (ao (mOp dH (lD (ao (mC (.int 0)) aL)) (mCB vg (ao (mOp kIx (aA 3) (mC (.int 0))) aL))) aL)) (mC (.int 0)))) (mOr (bN (mOp kEq (mOp kIx (aA 3) (mC (.int 1))) (mC (.int 0)))) (ZQ (bN (mOp Ip (aA 2) (mC .non))) (Ja (bN (mOp Wz (aA 2) (mOp kIx (aA 3) (mC (.int 0))))))))) (cJ (mC (.bl false))) dD)
  (bL (mOp kIx (aA 3) (mC (.int 0))) (nName 2))))))
  (fV E)))
def jd:MSp:=mFn 2 5 false fun E=>
  (bA (lE (Ja (Cz (mCB Hh (ao (aA 0) (ao (mC (.ty "tuple")) aL))))) (cJ (mC (.bl false))) dD)
  (jz E))
def m7:MSp:=jd
def mQ (ahe:MSp)(E:XWK):MS:=
  (cJ (lD (ao (je (ao (mOp vm (je (ao (mC (.int 0)) aL)) (aA 1)) (ao (mOp yu (aJ ahe E (ao (aA 0) (ao (mC (.int 5)) aL))) (mC (.int 2))) aL))) (ao (je (ao (aA 6) (ao (aA 4) aL))) (ao (je (ao (aA 7) (ao (mOp yu (aJ ahe E (ao (aA 0) (ao (mC (.int 3)) aL))) (mC (.int 1))) aL))) aL)))))
def mj (ahe:MSp)(E:XWK):MS:=
  (bA (bL (mOp vm (je (ao (mC (.int 1)) aL)) (aA 1)) (nName 7))
  (bA (lE (bN (mOp kEq (aA 3) (mC (.int 2)))) (cJ (lD (ao (je (ao (mOp vm (je (ao (mC (.int 0)) aL)) (aA 1)) (ao (aA 4) aL))) (ao (je (ao (aA 6) (ao (mOp yu (aJ ahe E (ao (aA 0) (ao (mC (.int 5)) aL))) (mC (.int 2))) aL))) aL)))) dD)
  (mQ ahe E)))
def mR (ahe:MSp)(E:XWK):MS:=
  (bA (bL (aJ ahe E (ao (aA 0) (ao (aA 1) aL))) (nName 5))
  (bA (bL (mCB cC (ao (mLC ow1 [5] (iH (ao (aA 1) aL)) jR (mCB K7 (ao (mOp kEq (aA 0) (aA 1)) aL))) aL)) (nName 6))
  (bA (lE (mOr (bN (mOp kGt (aA 1) (mC (.int 2)))) (bN (mOp kEq (aA 3) (mC (.int 1))))) (cJ (lD (ao (je (ao (aA 6) (ao (aA 4) aL))) aL))) dD)
  (mj ahe E))))
def sW (ahe:MSp):MSp:=mFn 3 8 false fun E=>
  (bA (bL (aJ ahe E (ao (aA 0) (ao (mC (.int 4)) aL))) (nName 3))
  (bA (bL (mOp yu (aJ ahe E (ao (aA 0) (ao (mOp dH (mOp gG (mC (.int 2)) (aA 2)) (mC (.int 1))) aL))) (aA 2)) (nName 4))
  (bA (lE (mOr (bN (mOp kEq (aA 3) (mC (.int 0)))) (bN (mOp kEq (aA 1) (mC (.int 0))))) (cJ (lD (ao (je (ao (mOp vm (je (ao (mC (.int 0)) aL)) (aA 1)) (ao (aA 4) aL))) aL))) dD)
  (mR ahe E))))
def yC:MSp:=sW jV
def pD (ahQ:MSp)(E:XWK):MS:=
  (cJ (mCB cC (ao (aA 4) aL)))
def pF (ahQ:MSp):MSp:=mFn 4 6 false fun E=>
  (bA (bL (vM aL) (nName 4))
  (bA (oX (iH (ao (mOp dH (mC (.int 3)) (mOp Bl (mC (.int 3)) (mCB K7 (ao (mOp kEq (aA 2) (mC (.str "curve"))) aL)))) aL)) (nName 5) (xq (OJ gP (aA 4) (ao (mCB cC (ao (mCB Gu (ao (mLC ow1 [] (nIt (aJ ahQ E (ao (aA 0) (ao (aA 1) (ao (aA 3) aL))))) (bN (mOp kNe (mOp kIx (aA 0) (mC (.int 1))) (mC (.int 0)))) (aA 0)) aL)) aL)) aL))))
  (pD ahQ E)))
def vd:MSp:=pF yC
def rY:MSp:=mFn 2 8 false fun E=>
  (bA (bL (aA 0) (gU 3 (bY (nName 2) (bY (nName 3) (bY (nName 4) wD)))))
  (bA (bL (aA 1) (gU 3 (bY (nName 5) (bY (nName 6) (bY (nName 7) wD)))))
  (cJ (lD (ao (mOp gG (aA 2) (aA 5)) (ao (mOp dH (mOp gG (aA 2) (aA 6)) (mOp gG (aA 3) (aA 5))) (ao (mOp gG (aA 3) (aA 6)) (ao (mOp dH (mOp gG (aA 2) (aA 7)) (mOp gG (aA 4) (aA 5))) (ao (mOp dH (mOp gG (aA 3) (aA 7)) (mOp gG (aA 4) (aA 6))) (ao (mOp gG (aA 4) (aA 7)) aL))))))))))
def zL:MSp:=rY
def uG (ahi ahh ahr ahn ahp ahq:MSp)(E:XWK):MS:=
  (bA (bL (aJ ahp E (ao (mOp kIx (aA 1) (mC (.int 0))) (ao (mOp kIx (aA 1) (mC (.int 2))) aL))) (nName 16))
  (bA (bL (aJ ahh E (ao (mOp kIx (aA 1) (mC (.int 2))) (ao (aA 16) aL))) (nName 17))
  (bA (bL (mOp gG (mC (.int 2)) (aJ ahh E (ao (mOp kIx (aA 1) (mC (.int 1))) (ao (aA 16) aL)))) (nName 18))
  (cJ (mCB cC (ao (mLC (owT 2) [17,18] (Ow (ao (mOp kIx (aA 1) (mC (.int 1))) (ao (mOp kIx (aA 1) (mC (.int 2))) aL))) jR (mOp yu (mOp gG (aA 2) (aA 0)) (mOp gG (aA 3) (aA 1)))) aL))))))
def ou (ahi ahh ahr ahn ahp ahq:MSp)(E:XWK):MS:=
  (bA (lE (bN (mOp kEq (aA 0) (mC (.str "pole")))) (bA (bL (aJ ahn E (ao (mOp kIx (aA 1) (mC (.int 0))) aL)) (nName 13))
  (bA (bL (lD (ao (aJ ahi E (ao (mOp kIx (aA 13) (mC (.int 1))) (ao (mOp kIx (aA 13) (mC (.int 2))) aL))) (ao (aJ ahi E (ao (mOp kIx (aA 13) (mC (.int 2))) (ao (mOp kIx (aA 13) (mC (.int 0))) aL))) (ao (aJ ahi E (ao (mOp kIx (aA 13) (mC (.int 0))) (ao (mOp kIx (aA 13) (mC (.int 1))) aL))) aL)))) (nName 14))
  (bA (bL (aJ ahr E (ao (mOp kIx (aA 13) (mC (.int 0))) (ao (mOp kIx (aA 13) (mC (.int 1))) (ao (mOp kIx (aA 13) (mC (.int 2))) aL)))) (nName 15))
  (cJ (mCB cC (ao (mLC ow1 [1,15] (nIt (aA 14)) jR (mOp gG (aJ ahh E (ao (aA 0) (ao (mOp kIx (aA 1) (mC (.int 1))) aL))) (aA 2))) aL)))))) dD)
  (uG ahi ahh ahr ahn ahp ahq E))
def j6 (ahi ahh ahr ahn ahp ahq:MSp)(E:XWK):MS:=
  (bA (lE (bN (mOp kEq (aA 0) (mC (.str "about")))) (cJ (aJ ahp E (ao (mOp kIx (aA 1) (mC (.int 0))) (ao (mOp kIx (aA 1) (mC (.int 1))) aL)))) dD)
  (ou ahi ahh ahr ahn ahp ahq E))
def gC (ahi ahh ahr ahn ahp ahq:MSp)(E:XWK):MS:=
  (bA (lE (bN (mOp kEq (aA 0) (mC (.str "curve")))) (bA (bL (aA 1) (gU 5 (bY (nName 2) (bY (nName 3) (bY (nName 4) (bY (nName 5) (bY (nName 6) wD)))))))
  (bA (bL (aJ ahi E (ao (aA 2) (ao (aA 3) aL))) (nName 7))
  (bA (bL (aJ ahi E (ao (aA 4) (ao (aA 5) aL))) (nName 8))
  (bA (bL (aJ ahi E (ao (aA 2) (ao (aA 4) aL))) (nName 9))
  (bA (bL (aJ ahi E (ao (aA 3) (ao (aA 5) aL))) (nName 10))
  (bA (bL (mOp gG (aJ ahh E (ao (aA 7) (ao (aA 6) aL))) (aJ ahh E (ao (aA 8) (ao (aA 6) aL)))) (nName 11))
  (bA (bL (mOp gG (aJ ahh E (ao (aA 9) (ao (aA 6) aL))) (aJ ahh E (ao (aA 10) (ao (aA 6) aL)))) (nName 12))
  (cJ (mCB cC (ao (mLC (owT 2) [11,12] (Ow (ao (aJ ahq E (ao (aA 9) (ao (aA 10) aL))) (ao (aJ ahq E (ao (aA 7) (ao (aA 8) aL))) aL))) jR (mOp yu (mOp gG (aA 2) (aA 0)) (mOp gG (aA 3) (aA 1)))) aL)))))))))) dD)
  (j6 ahi ahh ahr ahn ahp ahq E))
def gn (ahi ahh ahr ahn ahp ahq:MSp):MSp:=mFn 2 19 false fun E=>
  (bA (lE (mOr (bN (mOp kEq (aA 0) (mC (.str "join")))) (bN (mOp kEq (aA 0) (mC (.str "meet"))))) (cJ (aJ ahi E (ao (mOp kIx (aA 1) (mC (.int 0))) (ao (mOp kIx (aA 1) (mC (.int 1))) aL)))) dD)
  (gC ahi ahh ahr ahn ahp ahq E))
def Fe:MSp:=gn pZ ug zO jH vp zL
def zA (ahE ahs ahA ahe ahm ahj ahC ahH ahF ahJ:MSp)(E:XWK):MS:=
  (cJ (mC (.bl true)))
def xQ (ahE ahs ahA ahe ahm ahj ahC ahH ahF ahJ:MSp)(E:XWK):MS:=
  (bA (bL (aJ ahA E (ao (aJ ahs E (ao (aA 0) (ao (mC (.int 2)) aL))) aL)) (nName 8))
  (bA (bL (mLC ow1 [3,8] (iH (ao (mC (.int 3)) aL)) jR (mCB cC (ao (mLC ow1 [2] (iH (ao (aA 1) aL)) jR (mOp yu (aJ ahe E (ao (aA 1) (ao (mC (.int 7)) aL))) (mC (.int 3)))) aL))) (nName 9))
  (bA (oX (Rg (ao (aA 1) (ao (aA 2) aL))) (nName 7) (bA (bL (lD (ao (mCB vg (ao (aA 5) aL)) (ao (mCB vg (ao (aA 6) aL)) aL))) (nName 10))
  (bA (bL (aJ ahE E (ao (mOp kIx (aA 10) (mC (.int 0))) (ao (mOp kIx (aA 10) (mC (.int 1))) (ao (aA 7) aL)))) (nName 11))
  (bA (bL (mOp dH (mC (.int 3)) (mOp Bl (mC (.int 3)) (mCB K7 (ao (mOp kEq (mOp kIx (mOp kIx (aA 5) (aA 7)) (mC (.int 0))) (mC (.str "curve"))) aL)))) (nName 12))
  (bA (lE (mOr (Ja (Cz (mCB Hh (ao (aA 11) (ao (mC (.ty "tuple")) aL))))) (mOr (bN (mOp kNe (mCB kLen (ao (aA 11) aL)) (aA 12))) (bN (mOp VR (aA 10) (lD (ao (aA 5) (ao (aA 6) aL))))))) (cJ (mC (.bl false))) dD)
  (bA (lE (bN (mOp kGt (mCB kLen (ao (mLC ow1 [3] (nIt (aA 11)) (Ja (Cz (aJ ahH E (ao (aA 0) (ao (aA 1) aL))))) (aA 0)) aL)) (mC (.int 0)))) (cJ (mC (.bl false))) dD)
  (oX (nIt (aA 9)) (nName 13) (bA (bL (mLC ow1 [6,13] (nIt (mSl Uy (mOp kIx (aA 5) (aA 7)) (Gg (mC (.int 1))) pY)) jR (mCB cC (ao (mLC ow1 [2] (nIt (mOp kIx (aA 1) (aA 0))) jR (aJ ahC E (ao (aA 0) (ao (aA 1) aL)))) aL))) (nName 14))
  (lE (bN (mOp kNe (mCB cC (ao (mLC ow1 [13] (nIt (aA 11)) jR (aJ ahC E (ao (aA 0) (ao (aA 1) aL)))) aL)) (mCB cC (ao (aJ ahJ E (ao (mOp kIx (mOp kIx (aA 5) (aA 7)) (mC (.int 0))) (ao (aA 14) aL))) aL)))) (cJ (mC (.bl false))) dD)))))))))
  (zA ahE ahs ahA ahe ahm ahj ahC ahH ahF ahJ E))))
def RL (ahE ahs ahA ahe ahm ahj ahC ahH ahF ahJ:MSp):MSp:=mFn 1 15 false fun E=>
  (bA (bL (mOp dH (mC (.int 1)) (mOp Bc (aJ ahs E (ao (aA 0) (ao (mC (.int 0)) aL))) (mC (.int 7)))) (nName 1))
  (bA (bL (mCB VL (ao (aA 1) (ao (mOp dH (mC (.int 1)) (mOp Bc (mOp Mq (aJ ahs E (ao (aA 0) (ao (mC (.int 0)) aL))) (mC (.int 7))) (mC (.int 12)))) aL))) (nName 2))
  (bA (bL (mOp gG (mC (.int 2)) (mCB VL (ao (mC (.int 0)) (ao (mOp yu (aA 1) (mC (.int 4))) aL)))) (nName 3))
  (bA (bL (mIf (bN (mOp kEq (aA 3) (mC (.int 0)))) (mOp kIx (lD (ao (mC (.int 4)) (ao (mC (.int 4)) (ao (mC (.int 4)) (ao (mOp SQ (mC (.int 10)) (mC (.int 9))) aL))))) (mOp Bc (aJ ahs E (ao (aA 0) (ao (mC (.int 1)) aL))) (mC (.int 4)))) (mC (.int 4))) (nName 4))
  (bA (bL (vM aL) (nName 5))
  (bA (bL (vM aL) (nName 6))
  (bA (oX (iH (ao (aA 2) aL)) (nName 7) (bA (bL (aJ ahA E (ao (aJ ahs E (ao (aA 0) (ao (mOp dH (mC (.int 3)) (aA 7)) aL))) aL)) (nName 8))
  (bA (xq (OJ gP (aA 5) (ao (aJ ahj E (ao (aA 8) (ao (aA 5) (ao (aA 1) aL)))) aL)))
  (xq (OJ gP (aA 6) (ao (aJ ahF E (ao (aA 8) (ao (aA 3) (ao (aJ ahm E (ao (mOp kIx (aA 5) (aA 7)) aL)) (ao (aA 4) aL))))) aL))))))
  (xQ ahE ahs ahA ahe ahm ahj ahC ahH ahF ahJ E))))))))
def Om:MSp:=RL OD Al Eh jV nY Gd Nk m7 vd Fe
def zl:List Str:=["abs", "any", "bool", "dict", "int", "isinstance", "len", "list", "max", "min", "range", "reversed", "sorted", "tuple", "zip"]
structure Txt (P:acK) (w:adt) (K:abZ) (mg:Str->Option acd) (base:Heap):Prop where
 f0:At K mg "sum_of_totals" (top 8) ["totals"]
 f1:At K mg "with_times" (top 9) ["one", "other", "factor"]
 f2:At K mg "plus" (top 10) ["one", "other"]
 f3:At K mg "minus" (top 11) ["one", "other"]
 f4:At K mg "packed" (top 12) ["powers"]
 f5:At K mg "unpacked" (top 13) ["key", "letters"]
 f6:At K mg "packed_terms" (top 14) ["one"]
 f7:At K mg "check_powers" (top 15) ["one"]
 f8:At K mg "times" (top 16) ["one", "other"]
 f9:At K mg "less_swapped" (top 18) ["one", "other", "i", "j"]
 f10:At K mg "sum_cross" (top 19) ["one", "other"]
 f11:At K mg "sum_dot" (top 20) ["one", "other"]
 f12:At K mg "sum_turn" (top 21) ["one", "other", "third"]
 f13:At K mg "sums_times" (top 22) ["some", "factor"]
 f14:At K mg "sums_minus" (top 23) ["some", "others"]
 f15:At K mg "sum_together" (top 24) ["line", "other"]
 f16:At K mg "doubled" (top 25) ["one"]
 f17:At K mg "sum_table" (top 26) ["curve"]
 f18:At K mg "turned_rows" (top 27) ["rows"]
 f19:At K mg "rows_times" (top 28) ["rows", "thing"]
 f20:At K mg "rows_on_both_sides" (top 29) ["rows", "one", "other"]
 f21:At K mg "rows_size" (top 30) ["rows"]
 f22:At K mg "curve_raw" (top 31) ["five"]
 f23:At K mg "pole_raw" (top 32) ["curve", "line"]
 f24:At K mg "other_raw" (top 33) ["curve", "one", "other"]
 f25:At K mg "raw" (top 34) ["rows", "things", "k"]
 f26:At K mg "_law_cell" (top 36) ["_law_script", "_law_k"]
 f27:At K mg "_law_bag" (top 37) ["_law_cell_here"]
 f28:At K mg "_law_draw" (top 38) ["_law_bag_here", "_law_many"]
 f29:At K mg "_law_asks" (top 39) ["_law_word"]
 f30:At K mg "_law_sort" (top 40) ["_law_row_here"]
 f31:At K mg "_law_pick" (top 41) ["_law_bag_here", "_law_rows", "_law_sort_here"]
 f32:At K mg "_law_row" (top 42) ["_law_bag_here", "_law_rows", "_law_frees"]
 f33:At K mg "_law_cross" (top 43) ["_law_one", "_law_other"]
 f34:At K mg "_law_dot" (top 44) ["_law_one", "_law_other"]
 f35:At K mg "_law_turn" (top 45) ["_law_one", "_law_other", "_law_third"]
 f36:At K mg "_law_rows_of" (top 46) ["_law_curve"]
 f37:At K mg "_law_times" (top 47) ["_law_curve", "_law_row_here"]
 f38:At K mg "_law_at" (top 48) ["_law_one", "_law_numbers"]
 f39:At K mg "_law_sum_good" (top 49) ["_law_thing_here", "_law_letters"]
 f40:At K mg "_law_part" (top 50) ["_law_bag_here", "_law_letters", "_law_top"]
 f41:At K mg "_law_thing" (top 51) ["_law_bag_here", "_law_letters", "_law_sort_here", "_law_top"]
 f42:At K mg "_law_pair" (top 52) ["_law_one", "_law_other"]
 f43:At K mg "_law_due" (top 53) ["_law_word", "_law_some"]
 z:∀ n∈zl,mg n=none
 g_MOST_TERMS:∃ n,mg "MOST_TERMS" = some (.int 600 n)
 g_MOST_POWER:∃ n,mg "MOST_POWER" = some (.int 60 n)
 g_MOST_PAIRS:∃ n,mg "MOST_PAIRS" = some (.int 20000 n)
 g_FIELD:∃ n,mg "FIELD" = some (.int 65536 n)
section
variable {P:acK}{w:adt}{K:abZ}{mg:Str->Option acd}{base:Heap}(T:Txt P w K mg base)
include T
theorem iz:Fk P w K mg base 10 "sum_of_totals" eX:=by
 refine fk (k:=9) ["totals", "terms"] T.f0 T.z ?_
 intros
 obtain ⟨_,g_MOST_TERMS⟩:=T.g_MOST_TERMS;refine au ?_ ?_
 ·exact dse 1<|dct cL aee<|a1<|dl1 [0] (cj<|dcb (Pz hh) PyProof.Rows.boot_sorted<|a1<|vV 0) (fun _ _ _ _=>(ql<|dce (Sv qq) (Vb qq (vV 1) (vV 0) (by intro _ _;rfl)) aF))<|fun _ _ _ _=>(d8<|a2 (vV 0)<|Vb qq (vV 1) (vV 0) (by intro _ _;rfl))
 refine au ?_ ?_
 ·exact eE (dce Oo (dcb kW adZ<|a1<|vV 1)<|dc (v:=.int 600) (lG (by rfl) g_MOST_TERMS ⟨_,rfl⟩)<|fun _ _=>SM) (aG tY) bF
 refine aG ?_;exact aO<|vV 1
theorem lA:Fk P w K mg base 11 "with_times" fP:=by
 refine fk (k:=10) ["one", "other", "factor", "totals", "powers", "number"] T.f1 T.z ?_
 intros
 refine au ?_ ?_
 ·exact dse 3<|dct (Ot hh qq) boot_dict<|a1<|vV 0
 refine au ?_ ?_
 ·exact eO adE hh (cj<|vV 1) (dU hh<|aQ (dgn 4)<|aQ (dgn 5) dR)<|aG<|gB (bM cV (VD qq (vV 3) (a2 (vV 4) aF) (by rfl) (Wa (by rfl)<|by rfl) (by rfl) (bT<|by rfl)<|cP<|by rfl)<|bM cD (vV 2)<|vV 5)<|oh (vV 3) (vV 4) (HS qq) Lj
 refine aG ?_;exact aO<|dcl (iz T)<|a1<|vV 3
theorem oO:Fk P w K mg base 12 "plus" rA:=by
 refine fk (k:=11) ["one", "other"] T.f2 T.z ?_
 intros
 refine aG ?_;exact aO<|dcl (lA T)<|a3 (vV 0) (vV 1) aF
theorem Aa:Fk P w K mg base 12 "minus" rZ:=by
 refine fk (k:=11) ["one", "other"] T.f3 T.z ?_
 intros
 refine aG ?_;exact aO<|dcl (lA T)<|a3 (vV 0) (vV 1)<|Y8 aF
theorem Ht:Fk P w K mg base 10 "packed" zK:=by
 refine fk (k:=9) ["powers", "key", "power"] T.f4 T.z ?_
 intros
 obtain ⟨_,g_FIELD⟩:=T.g_FIELD;refine au ?_ ?_
 ·exact dse 1 aF
 refine au ?_ ?_
 ·exact eO adE hh (cj<|vV 0) (dgn 2)<|aG<|dse 1<|bM cV (bM cD (vV 1)<|dc (v:=.int 65536) (lG (by rfl) g_FIELD ⟨_,rfl⟩)<|fun _ _=>SM)<|vV 2
 refine aG ?_;exact aO<|vV 1
theorem yj:Fk P w K mg base 10 "unpacked" qK:=by
 refine fk (k:=9) ["key", "letters", "powers", "taken"] T.f5 T.z ?_
 intros
 obtain ⟨_,g_FIELD⟩:=T.g_FIELD;refine au ?_ ?_
 ·exact dse 2<|uF oU
 refine au ?_ ?_
 ·exact eO adE hh (drg<|a1<|vV 1) (dgn 3)<|au (qp<|nM (vV 2) (a1<|bM uz (vV 0)<|dc (v:=.int 65536) (lG (by rfl) g_FIELD ⟨_,rfl⟩)<|fun _ _=>SM) (by rfl) (Ju<|by rfl) (by rfl) (bT<|by rfl)<|by rfl)<|aG<|dse 0<|bM Hu (vV 0)<|dc (v:=.int 65536) (lG (by rfl) g_FIELD ⟨_,rfl⟩)<|fun _ _=>SM
 refine aG ?_;exact aO<|J5 hh (by rfl) (by exact T.z _ (by decide)) (by rfl) (by exact T.z _ (by decide)) (vV 2) (bT<|by rfl) (cP<|by rfl) (bT<|by rfl)<|cP<|by rfl
theorem jh:Fk P w K mg base 11 "packed_terms" ju:=by
 refine fk (k:=10) ["one"] T.f6 T.z ?_
 intros
 refine aG ?_;exact aO<|Sq [] hh (cR<|by rfl) GK (Iu hh<|cR<|by rfl) (cj<|vV 0) (fun _ _ _ _=>gY)<|fun _ _ _ _=>(d8<|a2 (dcl (Ht T)<|a1<|vV 0)<|vV 1)
theorem oF:Fk P w K mg base 10 "check_powers" jy:=by
 refine fk (k:=9) ["one", "powers", "number"] T.f7 T.z ?_
 intros
 obtain ⟨_,g_MOST_POWER⟩:=T.g_MOST_POWER;refine aG ?_;exact eO adE hh (cj<|vV 0) (dU hh<|aQ (dgn 1)<|aQ (dgn 2) dR)<|aG<|eE (jW<|dcb (Yd hh) boot_any<|a1<|dl0 [] (cj<|vV 1)<|fun _ _ _ _=>(cce Oo (vV 0)<|dc (v:=.int 60) (lG (by rfl) g_MOST_POWER ⟨_,rfl⟩)<|fun _ _=>SM)) (aG tY) bF
theorem cB:Fk P w K mg base 12 "times" jP:=by
 refine fk (k:=11) ["one", "other", "totals", "others", "key", "number", "other_key", "other_number", "place", "letters", "product", "unpacked_terms"] T.f8 T.z ?_
 intros
 obtain ⟨_,g_MOST_PAIRS⟩:=T.g_MOST_PAIRS;refine au ?_ ?_
 ·exact eE (dce Oo (bM cD (dcb kW adZ<|a1<|vV 0)<|dcb kW adZ<|a1<|vV 1)<|dc (v:=.int 20000) (lG (by rfl) g_MOST_PAIRS ⟨_,rfl⟩)<|fun _ _=>SM) (aG tY) bF
 refine au ?_ ?_
 ·with_reducible exact dse 2 WL
 refine au ?_ ?_
 ·exact dse 3<|dcl (jh T)<|a1<|vV 1
 refine au ?_ ?_
 ·exact eO adE hh (cj<|dcl (jh T)<|a1<|vV 0) (dU hh<|aQ (dgn 4)<|aQ (dgn 5) dR)<|aG<|eO adE hh (cj<|vV 3) (dU hh<|aQ (dgn 6)<|aQ (dgn 7) dR)<|au (dse 8<|bM cV (vV 4)<|vV 6)<|aG<|gB (bM cV (Tc qq (vV 2) (a2 (vV 8) aF) (by rfl) (Wa (by rfl)<|by rfl) (by rfl) (bT<|by rfl)<|cP<|by rfl)<|bM cD (vV 5)<|vV 7)<|oh (vV 2) (vV 8) set_dict nZ
 refine au ?_ ?_
 ·exact dse 9<|aaX (jW<|vV 0) (dcb kW adZ<|a1<|dix (dix (vV 0) aF) aF) aF
 refine au ?_ ?_
 ·exact dse 10<|dcl (iz T)<|a1<|vV 2
 refine au ?_ ?_
 ·exact dse 11<|dct cL aee<|a1<|Sq [9] hh (cR<|by rfl) GK (Iu hh<|cR<|by rfl) (cj<|vV 10) (fun _ _ _ _=>gY)<|fun _ _ _ _=>(d8<|a2 (dcl (yj T)<|a2 (vV 0)<|vV 2)<|vV 1)
 refine au ?_ ?_
 ·exact qp<|dcl (oF T)<|a1<|vV 11
 refine aG ?_;exact aO<|vV 11
theorem fB:Fk P w K mg base 13 "less_swapped" jt:=by
 refine fk (k:=12) ["one", "other", "i", "j"] T.f9 T.z ?_
 intros
 refine aG ?_;exact aO<|dcl (Aa T)<|a2 (dcl (cB T)<|a2 (dix (vV 0)<|vV 2)<|dix (vV 1)<|vV 3)<|dcl (cB T)<|a2 (dix (vV 0)<|vV 3)<|dix (vV 1)<|vV 2
theorem bR:Fk P w K mg base 14 "sum_cross" dM:=by
 refine fk (k:=13) ["one", "other"] T.f10 T.z ?_
 intros
 refine aG ?_;exact aO<|d8<|a3 (dcl (fB T)<|aC (vV 0)<|a3 (vV 1) aF aF) (dcl (fB T)<|aC (vV 0)<|a3 (vV 1) aF aF)<|dcl (fB T)<|aC (vV 0)<|a3 (vV 1) aF aF
theorem dN:Fk P w K mg base 13 "sum_dot" gF:=by
 refine fk (k:=12) ["one", "other", "total", "mine", "its"] T.f11 T.z ?_
 intros
 refine au ?_ ?_
 ·exact dse 2<|d8 oU
 refine au ?_ ?_
 ·exact eO adE hh (uZ (by rfl) (by exact T.z _ (by decide)) (a2 (vV 0)<|vV 1) (bT<|by rfl)<|cP<|by rfl) (dU hh<|aQ (dgn 3)<|aQ (dgn 4) dR)<|aG<|dse 2<|dcl (oO T)<|a2 (vV 2)<|dcl (cB T)<|a2 (vV 3)<|vV 4
 refine aG ?_;exact aO<|vV 2
theorem wI:Fk P w K mg base 15 "sum_turn" rm:=by
 refine fk (k:=14) ["one", "other", "third"] T.f12 T.z ?_
 intros
 refine aG ?_;exact aO<|dcl (dN T)<|a2 (dcl (bR T)<|a2 (vV 0)<|vV 1)<|vV 2
theorem dj:Fk P w K mg base 13 "sums_times" dX:=by
 refine fk (k:=12) ["some", "factor"] T.f13 T.z ?_
 intros
 refine aG ?_;exact aO<|dct cL aee<|a1<|dl0 [1] (cj<|vV 0)<|fun _ _ _ _=>(dcl (cB T)<|a2 (vV 0)<|vV 1)
theorem lg:Fk P w K mg base 13 "sums_minus" fU:=by
 refine fk (k:=12) ["some", "others"] T.f14 T.z ?_
 intros
 refine aG ?_;exact aO<|dct cL aee<|a1<|Sq [] hh (cR<|by rfl) GK (Iu hh<|cR<|by rfl) (uZ (by rfl) (by exact T.z _ (by decide)) (a2 (vV 0)<|vV 1) (bT<|by rfl)<|cP<|by rfl) (fun _ _ _ _=>gY)<|fun _ _ _ _=>(dcl (Aa T)<|a2 (vV 0)<|vV 1)
theorem iY:Fk P w K mg base 13 "sum_together" jA:=by
 refine fk (k:=12) ["line", "other"] T.f15 T.z ?_
 intros
 refine aG ?_;exact aO<|d8<|aC (dcl (cB T)<|a2 (dix (vV 0) aF)<|dix (vV 1) aF)<|aC (dcl (oO T)<|a2 (dcl (cB T)<|a2 (dix (vV 0) aF)<|dix (vV 1) aF)<|dcl (cB T)<|a2 (dix (vV 0) aF)<|dix (vV 1) aF)<|aC (dcl (cB T)<|a2 (dix (vV 0) aF)<|dix (vV 1) aF)<|a3 (dcl (oO T)<|a2 (dcl (cB T)<|a2 (dix (vV 0) aF)<|dix (vV 1) aF)<|dcl (cB T)<|a2 (dix (vV 0) aF)<|dix (vV 1) aF) (dcl (oO T)<|a2 (dcl (cB T)<|a2 (dix (vV 0) aF)<|dix (vV 1) aF)<|dcl (cB T)<|a2 (dix (vV 0) aF)<|dix (vV 1) aF)<|dcl (cB T)<|a2 (dix (vV 0) aF)<|dix (vV 1) aF
theorem jr:Fk P w K mg base 13 "doubled" lq:=by
 refine fk (k:=12) ["one"] T.f16 T.z ?_
 intros
 refine aG ?_;exact aO<|dcl (oO T)<|a2 (vV 0)<|vV 0
theorem iZ:Fk P w K mg base 14 "sum_table" fD:=by
 refine fk (k:=13) ["curve"] T.f17 T.z ?_
 intros
 refine aG ?_;with_reducible exact aO (d8 (a3 (d8 (a3 (dcl (by with_unfolding_all exact jr T) (a1 (dix (vV 0) aF))) (dix (vV 0) aF) (dix (vV 0) aF))) (d8 (a3 (dix (vV 0) aF) (dcl (by with_unfolding_all exact jr T) (a1 (dix (vV 0) aF))) (dix (vV 0) aF))) (d8 (a3 (dix (vV 0) aF) (dix (vV 0) aF) (dcl (by with_unfolding_all exact jr T) (a1 (dix (vV 0) aF)))))))
theorem qD:Fk P w K mg base 15 "turned_rows" kJ:=by
 refine fk (k:=14) ["rows"] T.f18 T.z ?_
 intros
 refine aG ?_;exact aO<|d8<|a3 (dcl (bR T)<|a2 (dix (vV 0) aF)<|dix (vV 0) aF) (dcl (bR T)<|a2 (dix (vV 0) aF)<|dix (vV 0) aF)<|dcl (bR T)<|a2 (dix (vV 0) aF)<|dix (vV 0) aF
theorem gK:Fk P w K mg base 14 "rows_times" dY:=by
 refine fk (k:=13) ["rows", "thing"] T.f19 T.z ?_
 intros
 refine aG ?_;exact aO<|dct cL aee<|a1<|dl0 [1] (cj<|vV 0)<|fun _ _ _ _=>(dcl (dN T)<|a2 (vV 0)<|vV 1)
theorem d9:Fk P w K mg base 15 "rows_on_both_sides" eN:=by
 refine fk (k:=14) ["rows", "one", "other"] T.f20 T.z ?_
 intros
 refine aG ?_;exact aO<|dcl (dN T)<|a2 (vV 1)<|dcl (gK T)<|a2 (vV 0)<|vV 2
theorem vI:Fk P w K mg base 16 "rows_size" oA:=by
 refine fk (k:=15) ["rows"] T.f21 T.z ?_
 intros
 refine aG ?_;exact aO<|dcl (wI T)<|a3 (dix (vV 0) aF) (dix (vV 0) aF)<|dix (vV 0) aF
theorem vL:Fk P w K mg base 15 "curve_raw" o8:=by
 refine fk (k:=14) ["five", "first", "second", "third", "last", "more", "less"] T.f22 T.z ?_
 intros
 refine au ?_ ?_
 ·exact dse 1<|dcl (bR T)<|a2 (dix (vV 0) aF)<|dix (vV 0) aF
 refine au ?_ ?_
 ·exact dse 2<|dcl (bR T)<|a2 (dix (vV 0) aF)<|dix (vV 0) aF
 refine au ?_ ?_
 ·exact dse 3<|dcl (bR T)<|a2 (dix (vV 0) aF)<|dix (vV 0) aF
 refine au ?_ ?_
 ·exact dse 4<|dcl (bR T)<|a2 (dix (vV 0) aF)<|dix (vV 0) aF
 refine au ?_ ?_
 ·exact dse 5<|dcl (cB T)<|a2 (dcl (dN T)<|a2 (vV 1)<|dix (vV 0) aF)<|dcl (dN T)<|a2 (vV 2)<|dix (vV 0) aF
 refine au ?_ ?_
 ·exact dse 6<|dcl (cB T)<|a2 (dcl (dN T)<|a2 (vV 3)<|dix (vV 0) aF)<|dcl (dN T)<|a2 (vV 4)<|dix (vV 0) aF
 refine aG ?_;exact aO<|dcl (lg T)<|a2 (dcl (dj T)<|a2 (dcl (iY T)<|a2 (vV 3)<|vV 4)<|vV 5)<|dcl (dj T)<|a2 (dcl (iY T)<|a2 (vV 1)<|vV 2)<|vV 6
theorem wX:Fk P w K mg base 17 "pole_raw" qT:=by
 refine fk (k:=16) ["curve", "line", "rows"] T.f23 T.z ?_
 intros
 refine au ?_ ?_
 ·exact dse 2<|dcl (iZ T)<|a1<|vV 0
 refine aG ?_;exact aO<|dcl (dj T)<|a2 (dcl (gK T)<|a2 (dcl (qD T)<|a1<|vV 2)<|vV 1)<|dcl (vI T)<|a1<|vV 2
theorem uH:Fk P w K mg base 16 "other_raw" pN:=by
 refine fk (k:=15) ["curve", "one", "other", "rows", "own", "shared"] T.f24 T.z ?_
 intros
 refine au ?_ ?_
 ·exact dse 3<|dcl (iZ T)<|a1<|vV 0
 refine au ?_ ?_
 ·exact dse 4<|dcl (d9 T)<|a3 (vV 3) (vV 2)<|vV 2
 refine au ?_ ?_
 ·exact dse 5<|dcl (jr T)<|a1<|dcl (d9 T)<|a3 (vV 3) (vV 1)<|vV 2
 refine aG ?_;exact aO<|dcl (lg T)<|a2 (dcl (dj T)<|a2 (vV 1)<|vV 4)<|dcl (dj T)<|a2 (vV 2)<|vV 5
theorem Ww:Fk P w K mg base 18 "raw" OD:=by
 refine fk (k:=17) ["rows", "things", "k", "word", "told"] T.f25 T.z ?_
 intros
 refine au ?_ ?_
 ·exact dse 3<|dix (dix (vV 0)<|vV 2) aF
 refine au ?_ ?_
 ·exact Ei [1] (i:=4) (by assumption) (by rfl) (by exact Or.inl rfl) hh (cR<|by rfl) Ck (Bt<|cR<|by rfl) (cj<|Vc (dix (vV 0)<|vV 2) (Ds aF) FQ) (fun _ _ _ _=>gY)<|fun _ _ _ _=>(dix (vV 1)<|vV 0)
 refine au ?_ ?_
 ·exact eE (dce (qx qq) (vV 3) bI) (aG<|aO<|dcl (vL T)<|a1<|vV 4) bF
 refine au ?_ ?_
 ·exact eE (dce (qx qq) (vV 3) bI) (aG<|aO<|dcl (gK T)<|a2 (dcl (iZ T)<|a1<|dix (vV 4) aF)<|dix (vV 4) aF) bF
 refine au ?_ ?_
 ·exact eE (dce (qx qq) (vV 3) bI) (aG<|aO<|dcl (wX T)<|a2 (dix (vV 4) aF)<|dix (vV 4) aF) bF
 refine au ?_ ?_
 ·exact eE (dce (qx qq) (vV 3) bI) (aG<|aO<|dcl (uH T)<|a3 (dix (vV 4) aF) (dix (vV 4) aF)<|dix (vV 4) aF) bF
 refine aG ?_;exact aO<|dcl (bR T)<|a2 (dix (vV 4) aF)<|dix (vV 4) aF
theorem iV:Fk P w K mg base 10 "_law_cell" Al:=by
 refine fk (k:=9) ["_law_script", "_law_k"] T.f26 T.z ?_
 intros
 refine au ?_ ?_
 ·exact eE (dce XH (vV 1)<|dcb kW adZ<|a1<|vV 0) (aG<|aO<|dix (vV 0)<|vV 1) bF
 refine aG ?_;exact aO aF
theorem zZ:Fk P w K mg base 10 "_law_bag" Eh:=by
 refine fk (k:=9) ["_law_cell_here"] T.f27 T.z ?_
 intros
 refine aG ?_;exact aO<|uF<|a2 (bM G9 (dcb Py boot_abs<|a1<|vV 0)<|dct Bg boot_int<|a1<|cce abJ (dcb Py boot_abs<|a1<|vV 0)<|bM Vh aF aF)<|bM uz (dcb Py boot_abs<|a1<|vV 0) aF
theorem dh:Fk P w K mg base 10 "_law_draw" jV:=by
 refine fk (k:=9) ["_law_bag_here", "_law_many", "_law_found"] T.f28 T.z ?_
 intros
 refine au ?_ ?_
 ·exact eE (dce Oo (dix (vV 0) aF) aF) (au (dse 2<|bM uz (dix (vV 0) aF)<|vV 1)<|au (gB (bM Hu (dix (vV 0) aF)<|vV 1)<|oh (vV 0) aF set_list zJ)<|aG<|aO<|vV 2) bF
 refine au ?_ ?_
 ·exact gB (bM uz (bM cV (bM cD (dix (vV 0) aF) aF) aF) aF)<|oh (vV 0) aF set_list zJ
 refine aG ?_;exact aO<|bM uz (bM Hu (bM uz (bM cD (dix (vV 0) aF)<|bM cV (bM Hu (dix (vV 0) aF) aF) aF) aF) aF)<|vV 1
theorem vR:Fk P w K mg base 10 "_law_asks" zT:=by
 refine fk (k:=9) ["_law_word", "_law_asks_here"] T.f29 T.z ?_
 intros
 refine au ?_ ?_
 ·with_reducible exact dse 1 (Wf (DDs.cons (eZ oU) (DDs.cons (eZ (a2 bI bI)) (DDs.cons (eZ (a2 bI bI)) (DDs.cons (eZ (a2 bI bI)) DDs.nil)))) (by with_unfolding_all exact List.cons_ne_nil _ _) (by with_unfolding_all exact afA rfl))
 refine au ?_ ?_
 ·exact gB (eZ<|aC bI<|aC bI<|a3 bI bI bI)<|oh (vV 1) bI set_dict nZ
 refine au ?_ ?_
 ·exact gB (eZ<|a2 bI bI)<|oh (vV 1) bI set_dict nZ
 refine au ?_ ?_
 ·exact gB (eZ<|a3 bI bI bI)<|oh (vV 1) bI set_dict nZ
 refine aG ?_;exact aO<|Zd (vV 1) (vV 0) (by intro _ _;rfl)
theorem o9:Fk P w K mg base 10 "_law_sort" nY:=by
 refine fk (k:=9) ["_law_row_here"] T.f30 T.z ?_
 intros
 refine au ?_ ?_
 ·exact eE (lQ (dce (qx qq) (dix (vV 0) aF) bI)<|j5<|dce (qx qq) (dix (vV 0) aF) bI).pt (aG<|aO bI) bF
 refine aG ?_;exact aO<|dix (eZ<|a2 bI bI)<|dct Bg boot_int<|a1<|cce (qx qq) (dix (vV 0) aF) bI
theorem Gp:Fk P w K mg base 11 "_law_pick" yR:=by
 refine fk (k:=10) ["_law_bag_here", "_law_rows", "_law_sort_here", "_law_numbers"] T.f31 T.z ?_
 intros
 refine au ?_ ?_
 ·exact Ei [1,2] (i:=3) (by assumption) (by rfl) (by exact Or.inl rfl) hh (cR<|by rfl) Ck (Bt<|cR<|by rfl) (drg<|a1<|dcb kW adZ<|a1<|vV 1) (fun _ _ _ _=>(ql<|dce (qx qq) (dcl (o9 T)<|a1<|dix (vV 1)<|vV 0)<|vV 2))<|fun _ _ _ _=>(vV 0)
 refine aG ?_;exact aO<|dix (vV 3)<|dcl (dh T)<|a2 (vV 0)<|dcb kW adZ<|a1<|vV 3
theorem Lw:Fk P w K mg base 12 "_law_row" Gd:=by
 refine fk (k:=11) ["_law_bag_here", "_law_rows", "_law_frees", "_law_sorts", "_law_words", "_law_word", "_law_lacking"] T.f32 T.z ?_
 intros
 refine au ?_ ?_
 ·exact dse 3<|dl0 [] (cj<|vV 1)<|fun _ _ _ _=>(dcl (o9 T)<|a1<|vV 0)
 refine au ?_ ?_
 ·exact dse 4<|eZ<|aC bI<|aC bI<|aC bI<|aC bI<|aC bI<|aC bI<|aC bI<|a3 bI bI bI
 refine au ?_ ?_
 ·exact dse 5<|dix (vV 4)<|dcl (dh T)<|a2 (vV 0) aF
 refine au ?_ ?_
 ·exact Ei [3] (i:=6) (by assumption) (by rfl) (by exact Or.inl rfl) hh (cR<|by rfl) Ck (Bt<|cR<|by rfl) (cj<|dcl (vR T)<|a1<|vV 5) (fun _ _ _ _=>(ql<|dce (Wo qq) (vV 0)<|vV 1))<|fun _ _ _ _=>(vV 0)
 refine au ?_ ?_
 ·exact eE (lQ (dce XH (dcb kW adZ<|a1<|vV 1)<|vV 2)<|j5<|dce Oo (dcb kW adZ<|a1<|vV 6) aF).pt (aG<|dse 5<|dix (eZ<|a2 bI bI)<|dct Bg boot_int<|a1<|cce XH (dcb kW adZ<|a1<|vV 1)<|vV 2) bF
 refine aG ?_;exact aO<|dct cL aee<|a1<|bM cV (eZ<|a1<|vV 5)<|dl0 [0,1] (cj<|dcl (vR T)<|a1<|vV 5)<|fun _ _ _ _=>(dcl (Gp T)<|a3 (vV 1) (vV 2)<|vV 0)
theorem cN:Fk P w K mg base 10 "_law_cross" pZ:=by
 refine fk (k:=9) ["_law_one", "_law_other", "_law_a", "_law_b", "_law_c", "_law_d", "_law_e", "_law_f"] T.f33 T.z ?_
 intros
 refine au ?_ ?_
 ·exact gB (vV 0)<|dU hh<|aQ (dgn 2)<|aQ (dgn 3)<|aQ (dgn 4) dR
 refine au ?_ ?_
 ·exact gB (vV 1)<|dU hh<|aQ (dgn 5)<|aQ (dgn 6)<|aQ (dgn 7) dR
 refine aG ?_;exact aO<|d8<|a3 (bM oV (bM cD (vV 3)<|vV 7)<|bM cD (vV 4)<|vV 6) (bM oV (bM cD (vV 4)<|vV 5)<|bM cD (vV 2)<|vV 7)<|bM oV (bM cD (vV 2)<|vV 6)<|bM cD (vV 3)<|vV 5
theorem eU:Fk P w K mg base 10 "_law_dot" ug:=by
 refine fk (k:=9) ["_law_one", "_law_other"] T.f34 T.z ?_
 intros
 refine aG ?_;exact aO<|bM cV (bM cV (bM cD (dix (vV 0) aF)<|dix (vV 1) aF)<|bM cD (dix (vV 0) aF)<|dix (vV 1) aF)<|bM cD (dix (vV 0) aF)<|dix (vV 1) aF
theorem DW:Fk P w K mg base 11 "_law_turn" zO:=by
 refine fk (k:=10) ["_law_one", "_law_other", "_law_third"] T.f35 T.z ?_
 intros
 refine aG ?_;exact aO<|dcl (eU T)<|a2 (dcl (cN T)<|a2 (vV 0)<|vV 1)<|vV 2
theorem mW:Fk P w K mg base 10 "_law_rows_of" jH:=by
 refine fk (k:=9) ["_law_curve", "_law_a", "_law_b", "_law_c", "_law_d", "_law_e", "_law_f"] T.f36 T.z ?_
 intros
 refine au ?_ ?_
 ·exact gB (vV 0)<|dU hh<|aQ (dgn 1)<|aQ (dgn 2)<|aQ (dgn 3)<|aQ (dgn 4)<|aQ (dgn 5)<|aQ (dgn 6) dR
 refine aG ?_;with_reducible exact aO (eZ (a3 (d8 (a3 (bM cD aF (vV 1)) (vV 2) (vV 4))) (d8 (a3 (vV 2) (bM cD aF (vV 3)) (vV 5))) (d8 (a3 (vV 4) (vV 5) (bM cD aF (vV 6))))))
theorem qY:Fk P w K mg base 11 "_law_times" vp:=by
 refine fk (k:=10) ["_law_curve", "_law_row_here"] T.f37 T.z ?_
 intros
 refine aG ?_;exact aO<|dct cL aee<|a1<|dl0 [1] (cj<|dcl (mW T)<|a1<|vV 0)<|fun _ _ _ _=>(dcl (eU T)<|a2 (vV 0)<|vV 1)
theorem Io:Fk P w K mg base 10 "_law_at" Nk:=by
 refine fk (k:=9) ["_law_one", "_law_numbers", "_law_found", "_law_powers", "_law_number", "_law_power", "_law_letter", "_law_lap"] T.f38 T.z ?_
 intros
 refine au ?_ ?_
 ·exact dse 2 aF
 refine au ?_ ?_
 ·exact eO adE hh (cj<|vV 0) (dU hh<|aQ (dgn 3)<|aQ (dgn 4) dR)<|au (eO adE hh (uZ (by rfl) (by exact T.z _ (by decide)) (a2 (vV 3)<|vV 1) (bT<|by rfl)<|cP<|by rfl) (dU hh<|aQ (dgn 5)<|aQ (dgn 6) dR)<|aG<|eO adE hh (drg<|a1<|vV 5) (dgn 7)<|aG<|dse 4<|bM cD (vV 4)<|vV 6)<|aG<|dse 2<|bM cV (vV 2)<|vV 4
 refine aG ?_;exact aO<|vV 2
theorem rK:Fk P w K mg base 10 "_law_sum_good" m7:=by
 refine fk (k:=9) ["_law_thing_here", "_law_letters", "_law_ahead", "_law_term", "_law_number"] T.f39 T.z ?_
 intros
 refine au ?_ ?_
 ·exact eE (oY<|jW<|dcb Bj ago<|a2 (vV 0)<|dc (mz (v:=.ty "tuple") (by rfl) (by exact T.z _ (by decide)) aee<|by rfl)<|fun _ _=>by rw [Rep]) (aG<|aO Ka) bF
 refine au ?_ ?_
 ·exact dse 2 Va
 refine au ?_ ?_
 ·exact eO adE hh (cj<|vV 0) (dgn 3)<|au (eE (lQ (oY<|jW<|dcb Bj ago<|a2 (vV 3)<|dc (mz (v:=.ty "tuple") (by rfl) (by exact T.z _ (by decide)) aee<|by rfl)<|fun _ _=>by rw [Rep])<|lQ (dce (Sv qq) (dcb kW adZ<|a1<|vV 3) aF)<|lQ (oY<|jW<|dcb Bj ago<|a2 (dix (vV 3) aF)<|dc (mz (v:=.ty "tuple") (by rfl) (by exact T.z _ (by decide)) aee<|by rfl)<|fun _ _=>by rw [Rep])<|j5<|dce (Sv qq) (dcb kW adZ<|a1<|dix (vV 3) aF)<|vV 1).pt (aG<|aO Ka) bF)<|au (eO adE hh (cj<|bM cV (dct yI boot_list<|a1<|dix (vV 3) aF)<|eZ<|a1<|dix (vV 3) aF) (dgn 4)<|aG<|eE (lQ (oY<|jW<|dcb Bj ago<|a2 (vV 4)<|dc (mz (v:=.ty "int") (by rfl) (by exact T.z _ (by decide)) boot_int<|by rfl)<|fun _ _=>by rw [Rep])<|j5<|jW<|dcb Bj ago<|a2 (vV 4)<|dc (mz (v:=.ty "bool") (by rfl) (by exact T.z _ (by decide)) boot_bool<|by rfl)<|fun _ _=>by rw [Rep]).pt (aG<|aO Ka) bF)<|au (eE (lQ (dce XH (dcb (Vs hh) boot_min<|a1<|bM cV (eZ<|a1 aF)<|dct yI boot_list<|a1<|dix (vV 3) aF) aF)<|lQ (dce (qx qq) (dix (vV 3) aF) aF)<|j5 (Wr (dce Ul (vV 2) Va)<|PJ<|oY<|dce (YX qq) (vV 2)<|dix (vV 3) aF).pt).pt (aG<|aO Ka) bF)<|aG<|dse 2<|dix (vV 3) aF
 refine aG ?_;exact aO Ka
theorem Gj:Fk P w K mg base 11 "_law_part" yC:=by
 refine fk (k:=10) ["_law_bag_here", "_law_letters", "_law_top", "_law_way", "_law_number", "_law_letter", "_law_powers", "_law_both"] T.f40 T.z ?_
 intros
 refine au ?_ ?_
 ·exact dse 3<|dcl (dh T)<|a2 (vV 0) aF
 refine au ?_ ?_
 ·exact dse 4<|bM oV (dcl (dh T)<|a2 (vV 0)<|bM cV (bM cD aF<|vV 2) aF)<|vV 2
 refine au ?_ ?_
 ·with_reducible exact eE (lQ (dce (qx qq) (vV 3) aF) (j5 (dce (qx qq) (vV 1) aF))).pt (aG (aO (eZ (a1 (d8 (a2 (bM yE (d8 (a1 aF)) (vV 1)) (vV 4))))))) bF
 refine au ?_ ?_
 ·exact dse 5<|dcl (dh T)<|a2 (vV 0)<|vV 1
 refine au ?_ ?_
 ·exact dse 6<|dct cL aee<|a1<|dl0 [5] (drg<|a1<|vV 1)<|fun _ _ _ _=>(dct Bg boot_int<|a1<|cce (qx qq) (vV 0)<|vV 1)
 refine au ?_ ?_
 ·with_reducible exact eE (lQ (dce Oo (vV 1) aF) (j5 (dce (qx qq) (vV 3) aF))).pt (aG (aO (eZ (a1 (d8 (a2 (vV 6) (vV 4))))))) bF
 refine au ?_ ?_
 ·exact dse 7<|bM yE (d8<|a1 aF)<|vV 1
 refine au ?_ ?_
 ·with_reducible exact eE (dce (qx qq) (vV 3) aF) (aG (aO (eZ (a2 (d8 (a2 (bM yE (d8 (a1 aF)) (vV 1)) (vV 4))) (d8 (a2 (vV 6) (bM oV (dcl (by with_unfolding_all exact dh T) (a2 (vV 0) aF)) aF))))))) bF
 refine aG ?_;try unfold mQ
 with_reducible exact aO (eZ (a3 (d8 (a2 (bM yE (d8 (a1 aF)) (vV 1)) (bM oV (dcl (by with_unfolding_all exact dh T) (a2 (vV 0) aF)) aF))) (d8 (a2 (vV 6) (vV 4))) (d8 (a2 (vV 7) (bM oV (dcl (by with_unfolding_all exact dh T) (a2 (vV 0) aF)) aF)))))
theorem BK:Fk P w K mg base 12 "_law_thing" vd:=by
 refine fk (k:=11) ["_law_bag_here", "_law_letters", "_law_sort_here", "_law_top", "_law_said", "_law_k"] T.f41 T.z ?_
 intros
 refine au ?_ ?_
 ·exact dse 4<|uF oU
 refine au ?_ ?_
 ·exact eO adE hh (drg<|a1<|bM cV aF<|bM G9 aF<|dct Bg boot_int<|a1<|cce (qx qq) (vV 2) bI) (dgn 5)<|aG<|qp<|nM (vV 4) (a1<|dct cL aee<|a1<|dcb (Rr qq) PyProof.Rows.boot_sorted<|a1<|dl1 [] (cj<|dcl (Gj T)<|a3 (vV 0) (vV 1)<|vV 3) (fun _ _ _ _=>(ql<|dce (Sv qq) (dix (vV 0) aF) aF))<|fun _ _ _ _=>(vV 0)) (by rfl) (Ju<|by rfl) (by rfl) (bT<|by rfl)<|by rfl
 refine aG ?_;exact aO<|dct cL aee<|a1<|vV 4
theorem uV:Fk P w K mg base 10 "_law_pair" zL:=by
 refine fk (k:=9) ["_law_one", "_law_other", "_law_l", "_law_m", "_law_n", "_law_u", "_law_v", "_law_w"] T.f42 T.z ?_
 intros
 refine au ?_ ?_
 ·exact gB (vV 0)<|dU hh<|aQ (dgn 2)<|aQ (dgn 3)<|aQ (dgn 4) dR
 refine au ?_ ?_
 ·exact gB (vV 1)<|dU hh<|aQ (dgn 5)<|aQ (dgn 6)<|aQ (dgn 7) dR
 refine aG ?_;exact aO<|eZ<|aC (bM cD (vV 2)<|vV 5)<|aC (bM cV (bM cD (vV 2)<|vV 6)<|bM cD (vV 3)<|vV 5)<|aC (bM cD (vV 3)<|vV 6)<|a3 (bM cV (bM cD (vV 2)<|vV 7)<|bM cD (vV 4)<|vV 5) (bM cV (bM cD (vV 3)<|vV 7)<|bM cD (vV 4)<|vV 6)<|bM cD (vV 4)<|vV 7
theorem JF:Fk P w K mg base 12 "_law_due" Fe:=by
 refine fk (k:=11) ["_law_word", "_law_some", "_law_p", "_law_q", "_law_r", "_law_s", "_law_t", "_law_one", "_law_two", "_law_three", "_law_four", "_law_near", "_law_far", "_law_table", "_law_swung", "_law_size", "_law_moved", "_law_there", "_law_between"] T.f43 T.z ?_
 intros
 refine au ?_ ?_
 ·exact eE (lQ (dce (qx qq) (vV 0) bI)<|j5<|dce (qx qq) (vV 0) bI).pt (aG<|aO<|dcl (cN T)<|a2 (dix (vV 1) aF)<|dix (vV 1) aF) bF
 refine au ?_ ?_
 ·exact eE (dce (qx qq) (vV 0) bI) (au (gB (vV 1)<|dU hh<|aQ (dgn 2)<|aQ (dgn 3)<|aQ (dgn 4)<|aQ (dgn 5)<|aQ (dgn 6) dR)<|au (dse 7<|dcl (cN T)<|a2 (vV 2)<|vV 3)<|au (dse 8<|dcl (cN T)<|a2 (vV 4)<|vV 5)<|au (dse 9<|dcl (cN T)<|a2 (vV 2)<|vV 4)<|au (dse 10<|dcl (cN T)<|a2 (vV 3)<|vV 5)<|au (dse 11<|bM cD (dcl (eU T)<|a2 (vV 7)<|vV 6)<|dcl (eU T)<|a2 (vV 8)<|vV 6)<|au (dse 12<|bM cD (dcl (eU T)<|a2 (vV 9)<|vV 6)<|dcl (eU T)<|a2 (vV 10)<|vV 6)<|aG<|aO<|dct cL aee<|a1<|Sq [11,12] hh (cR<|by rfl) GK (Iu hh<|cR<|by rfl) (uZ (by rfl) (by exact T.z _ (by decide)) (a2 (dcl (uV T)<|a2 (vV 9)<|vV 10)<|dcl (uV T)<|a2 (vV 7)<|vV 8) (bT<|by rfl)<|cP<|by rfl) (fun _ _ _ _=>gY)<|fun _ _ _ _=>(bM oV (bM cD (vV 2)<|vV 0)<|bM cD (vV 3)<|vV 1)) bF
 refine au ?_ ?_
 ·exact eE (dce (qx qq) (vV 0) bI) (aG<|aO<|dcl (qY T)<|a2 (dix (vV 1) aF)<|dix (vV 1) aF) bF
 refine au ?_ ?_
 ·exact eE (dce (qx qq) (vV 0) bI) (au (dse 13<|dcl (mW T)<|a1<|dix (vV 1) aF)<|au (dse 14<|eZ<|a3 (dcl (cN T)<|a2 (dix (vV 13) aF)<|dix (vV 13) aF) (dcl (cN T)<|a2 (dix (vV 13) aF)<|dix (vV 13) aF)<|dcl (cN T)<|a2 (dix (vV 13) aF)<|dix (vV 13) aF)<|au (dse 15<|dcl (DW T)<|a3 (dix (vV 13) aF) (dix (vV 13) aF)<|dix (vV 13) aF)<|aG<|aO<|dct cL aee<|a1<|dl0 [1,15] (cj<|vV 14)<|fun _ _ _ _=>(bM cD (dcl (eU T)<|a2 (vV 0)<|dix (vV 1) aF)<|vV 2)) bF
 refine au ?_ ?_
 ·exact dse 16<|dcl (qY T)<|a2 (dix (vV 1) aF)<|dix (vV 1) aF
 refine au ?_ ?_
 ·exact dse 17<|dcl (eU T)<|a2 (dix (vV 1) aF)<|vV 16
 refine au ?_ ?_
 ·exact dse 18<|bM cD aF<|dcl (eU T)<|a2 (dix (vV 1) aF)<|vV 16
 refine aG ?_;exact aO<|dct cL aee<|a1<|Sq [17,18] hh (cR<|by rfl) GK (Iu hh<|cR<|by rfl) (uZ (by rfl) (by exact T.z _ (by decide)) (a2 (dix (vV 1) aF)<|dix (vV 1) aF) (bT<|by rfl)<|cP<|by rfl) (fun _ _ _ _=>gY)<|fun _ _ _ _=>(bM oV (bM cD (vV 2)<|vV 0)<|bM cD (vV 3)<|vV 1)
theorem Uq {f:Addr}{fd:aeV}(F:Fun K "law" "law" O8 f fd):qC P w K mg base CX0 19 f fd ["_law_script"] (lift K Om):=by
 have S:lM ["_law_script", "_law_frees", "_law_size", "_law_letters", "_law_top", "_law_rows", "_law_things", "_law_k", "_law_bag_here", "_law_spots", "_law_handed", "_law_found", "_law_many", "_law_numbers", "_law_some"] ["_law_script"] (bO O8):=⟨rfl,rfl,rfl,by decide +kernel,rfl,by decide +kernel,by decide +kernel⟩
 refine aaP (k:=18) F S fun _ _ _ _ _ _ hr=>?_;have hc:=hr.calm (by decide);have nd:=S.nd;have z:=T.z;refine au ?_ ?_
 ·exact dse 1<|bM cV aF<|bM uz (dcl (iV T)<|a2 (vV 0) aF) aF
 refine au ?_ ?_
 ·exact dse 2<|dcb (T4 hh) boot_max<|a2 (vV 1)<|bM cV aF<|bM uz (bM Hu (dcl (iV T)<|a2 (vV 0) aF) aF) aF
 refine au ?_ ?_
 ·exact dse 3<|bM cD aF<|dcb (T4 hh) boot_max<|a2 aF<|bM oV (vV 1) aF
 refine au ?_ ?_
 ·exact dse 4<|aaX (dce (qx qq) (vV 3) aF) (dix (eZ<|aC aF<|a3 aF aF<|bM Vh aF aF)<|bM uz (dcl (iV T)<|a2 (vV 0) aF) aF) aF
 refine au ?_ ?_
 ·exact dse 5<|uF oU
 refine au ?_ ?_
 ·exact dse 6<|uF oU
 refine au ?_ ?_
 ·exact eO adE hh (drg<|a1<|vV 2) (dgn 7)<|au (dse 8<|dcl (zZ T)<|a1<|dcl (iV T)<|a2 (vV 0)<|bM cV aF<|vV 7)<|au (qp<|nM (vV 5) (a1<|dcl (Lw T)<|a3 (vV 8) (vV 5)<|vV 1) (by rfl) (Ju<|by rfl) (by rfl) (bT<|by rfl)<|by rfl)<|aG<|qp<|nM (vV 6) (a1<|dcl (BK T)<|aC (vV 8)<|a3 (vV 3) (dcl (o9 T)<|a1<|dix (vV 5)<|vV 7)<|vV 4) (by rfl) (Ju<|by rfl) (by rfl) (bT<|by rfl)<|by rfl
 refine au ?_ ?_
 ·exact dse 8<|dcl (zZ T)<|a1<|dcl (iV T)<|a2 (vV 0) aF
 refine au ?_ ?_
 ·exact Ei [3,8] (i:=9) (by assumption) (by rfl) (by exact Or.inl rfl) hh (cR<|by rfl) Ck (Bt<|cR<|by rfl) (drg<|a1 aF) (fun _ _ _ _=>gY)<|fun _ _ _ _=>(dct cL aee<|a1<|dl0 [2] (drg<|a1<|vV 1)<|fun _ _ _ _=>(bM oV (dcl (dh T)<|a2 (vV 1) aF) aF))
 refine au ?_ ?_
 ·exact eO adE hh (Ie (by rfl) (by exact T.z _ (by decide))<|a2 (vV 1)<|vV 2) (dgn 7)<|au (dse 10<|eZ<|a2 (dct yI boot_list<|a1<|vV 5)<|dct yI boot_list<|a1<|vV 6)<|au (dse 11<|dcl (Ww T)<|a3 (dix (vV 10) aF) (dix (vV 10) aF)<|vV 7)<|au (dse 12<|bM cV aF<|bM G9 aF<|dct Bg boot_int<|a1<|cce (qx qq) (dix (dix (vV 5)<|vV 7) aF) bI)<|au (eE (lQ (oY<|jW<|dcb Bj ago<|a2 (vV 11)<|dc (mz (v:=.ty "tuple") (by rfl) (by exact T.z _ (by decide)) aee<|by rfl)<|fun _ _=>by rw [Rep])<|lQ (dce (Sv qq) (dcb kW adZ<|a1<|vV 11)<|vV 12)<|j5<|dce (Zv qq) (vV 10)<|eZ<|a2 (vV 5)<|vV 6).pt (aG<|aO Ka) bF)<|au (eE (dce Oo (dcb kW adZ<|a1<|dl1 [3] (cj<|vV 11) (fun _ _ _ _=>(ql<|oY<|jW<|dcl (rK T)<|a2 (vV 0)<|vV 1))<|fun _ _ _ _=>(vV 0)) aF) (aG<|aO Ka) bF)<|aG<|eO adE hh (cj<|vV 9) (dgn 13)<|au (Ei [6,13] (i:=14) (by assumption) (by rfl) (by exact Or.inl rfl) hh (cR<|by rfl) Ck (Bt<|cR<|by rfl) (cj<|Vc (dix (vV 5)<|vV 7) (Ds aF) FQ) (fun _ _ _ _=>gY)<|fun _ _ _ _=>(dct cL aee<|a1<|dl0 [2] (cj<|dix (vV 1)<|vV 0)<|fun _ _ _ _=>(dcl (Io T)<|a2 (vV 0)<|vV 1)))<|aG<|eE (dce (Sv qq) (dct cL aee<|a1<|dl0 [13] (cj<|vV 11)<|fun _ _ _ _=>(dcl (Io T)<|a2 (vV 0)<|vV 1))<|dct cL aee<|a1<|dcl (JF T)<|a2 (dix (dix (vV 5)<|vV 7) aF)<|vV 14) (aG<|aO Ka) bF
 refine aG ?_;exact aO Ka
end
variable {mg : Str->Option acd}{K : abZ}
def fO (x:Str)(s:Stmt)(oc:acd)(od:Option Addr)(kV dc pm:acd)(an:Option Addr)(cd ct:acd)(sl:Array (Option acd)):Option Obj:=some ⟨oc,od,.func (afN x x (mG s) (gR s) (bO s) .none kV dc pm an cd ct),sl⟩
def sR (f:Addr):Option (Option acd):=some (some (.ref f))
def fH (K:abZ)(x:Str)(s:Stmt):Prop:=∃ f oc od kV dc pm an cd ct sl,ady K ade x=sR f/\K.lookup f=fO x s oc od kV dc pm an cd ct sl/\agI K cd x=true/\aeK K (.ref f)=true
variable {x : Str}
def Pq {s:Stmt}{f:Addr}{oc:acd}{od:Option Addr}{kV dc pm:acd}{an:Option Addr}{cd ct:acd}{sl:Array (Option acd)}(a:ady K ade x=sR f)(l:K.lookup f=fO x s oc od kV dc pm an cd ct sl)(c:agI K cd x=true)(k:aeK K (.ref f)=true):fH K x s:=⟨f,oc,od,kV,dc,pm,an,cd,ct,sl,a,l,c,k⟩
def bQ {h:Heap}{st:Stmt}{ps:List Str}(X:K.In h)(G:h.Ns ade mg)(H:fH K x st)(hb:∀ (kV doc pm:acd) (an:Option Addr) (cdv ct:acd) (us:List acd),us.length=ps.length->bindArgs (afN x x (mG st) (gR st) (bO st) .none kV doc pm an cdv ct) ⟨us,[]⟩=pure (ps.zip us):=by intro _ _ _ _ _ _ us hl;first | (match us,hl with | [_],_=>rfl) | (match us,hl with | [_,_],_=>rfl) | (match us,hl with | [_,_,_],_=>rfl) | (match us,hl with | [_,_,_,_],_=>rfl)):At K mg x st ps:=by
 obtain ⟨f,oc,od,kV,dc,pm,an,cd,ct,sl,a,l,c,k⟩:=H;exact ⟨f,_,Dv (st:=st) l c k,afV X G a,(Dv (st:=st) l c k).binds hb⟩
def zc {n:Str}{l:List Str}(a:mg n=none)(b:∀ m∈l,mg m=none):∀ m∈n::l,mg m=none:=List.forall_mem_cons.2 ⟨a,b⟩
def all_mk {l:PySem.W.OpenLaw}{w:adt}{h:Heap}{fa:Addr}(hlaw:∀ ns:List Int,ns.length<=63->Om [.kls (ns.map W.int)] g0 (fun w _=>w=.bl true) EF)(X:K.In h)(G:h.Ns ade mg)(hfa:mg "law" = some (.ref fa))
  (h0:fH K "sum_of_totals" (top 8))
  (h1:fH K "with_times" (top 9))
  (h2:fH K "plus" (top 10))
  (h3:fH K "minus" (top 11))
  (h4:fH K "packed" (top 12))
  (h5:fH K "unpacked" (top 13))
  (h6:fH K "packed_terms" (top 14))
  (h7:fH K "check_powers" (top 15))
  (h8:fH K "times" (top 16))
  (h9:fH K "less_swapped" (top 18))
  (h10:fH K "sum_cross" (top 19))
  (h11:fH K "sum_dot" (top 20))
  (h12:fH K "sum_turn" (top 21))
  (h13:fH K "sums_times" (top 22))
  (h14:fH K "sums_minus" (top 23))
  (h15:fH K "sum_together" (top 24))
  (h16:fH K "doubled" (top 25))
  (h17:fH K "sum_table" (top 26))
  (h18:fH K "turned_rows" (top 27))
  (h19:fH K "rows_times" (top 28))
  (h20:fH K "rows_on_both_sides" (top 29))
  (h21:fH K "rows_size" (top 30))
  (h22:fH K "curve_raw" (top 31))
  (h23:fH K "pole_raw" (top 32))
  (h24:fH K "other_raw" (top 33))
  (h25:fH K "raw" (top 34))
  (h26:fH K "_law_cell" (top 36))
  (h27:fH K "_law_bag" (top 37))
  (h28:fH K "_law_draw" (top 38))
  (h29:fH K "_law_asks" (top 39))
  (h30:fH K "_law_sort" (top 40))
  (h31:fH K "_law_pick" (top 41))
  (h32:fH K "_law_row" (top 42))
  (h33:fH K "_law_cross" (top 43))
  (h34:fH K "_law_dot" (top 44))
  (h35:fH K "_law_turn" (top 45))
  (h36:fH K "_law_rows_of" (top 46))
  (h37:fH K "_law_times" (top 47))
  (h38:fH K "_law_at" (top 48))
  (h39:fH K "_law_sum_good" (top 49))
  (h40:fH K "_law_part" (top 50))
  (h41:fH K "_law_thing" (top 51))
  (h42:fH K "_law_pair" (top 52))
  (h43:fH K "_law_due" (top 53))
  (h44:fH K "law" (top 54))
  (z_abs:ady K ade "abs" = some none)
  (z_any:ady K ade "any" = some none)
  (z_bool:ady K ade "bool" = some none)
  (z_dict:ady K ade "dict" = some none)
  (z_int:ady K ade "int" = some none)
  (z_isinstance:ady K ade "isinstance" = some none)
  (z_len:ady K ade "len" = some none)
  (z_list:ady K ade "list" = some none)
  (z_max:ady K ade "max" = some none)
  (z_min:ady K ade "min" = some none)
  (z_range:ady K ade "range" = some none)
  (z_reversed:ady K ade "reversed" = some none)
  (z_sorted:ady K ade "sorted" = some none)
  (z_tuple:ady K ade "tuple" = some none)
  (z_zip:ady K ade "zip" = some none)
  (g_MOST_TERMS:∃ n,ady K ade "MOST_TERMS" = some (some (.int 600 n)))
  (g_MOST_POWER:∃ n,ady K ade "MOST_POWER" = some (some (.int 60 n)))
  (g_MOST_PAIRS:∃ n,ady K ade "MOST_PAIRS" = some (some (.int 20000 n)))
  (g_FIELD:∃ n,ady K ade "FIELD" = some (some (.int 65536 n)))
  : ∃ fd:aeV,(∀ (s:aci) (v:acd),BindsTo s fd ⟨[v],[]⟩ [("_law_script",v)])/\∀ base:Heap,K.In base->base.Ns ade mg->qC l.prog w K mg base CX0 19 fa fd ["_law_script"] (KJ K):=by
 have T:∀ base,Txt l.prog w K mg base:=fun _=>⟨bQ X G h0,bQ X G h1,bQ X G h2,bQ X G h3,bQ X G h4,bQ X G h5,bQ X G h6,bQ X G h7,bQ X G h8,bQ X G h9,bQ X G h10,bQ X G h11,bQ X G h12,bQ X G h13,bQ X G h14,bQ X G h15,bQ X G h16,bQ X G h17,bQ X G h18,bQ X G h19,bQ X G h20,bQ X G h21,bQ X G h22,bQ X G h23,bQ X G h24,bQ X G h25,bQ X G h26,bQ X G h27,bQ X G h28,bQ X G h29,bQ X G h30,bQ X G h31,bQ X G h32,bQ X G h33,bQ X G h34,bQ X G h35,bQ X G h36,bQ X G h37,bQ X G h38,bQ X G h39,bQ X G h40,bQ X G h41,bQ X G h42,bQ X G h43,zc (adv X G z_abs) (zc (adv X G z_any) (zc (adv X G z_bool) (zc (adv X G z_dict) (zc (adv X G z_int) (zc (adv X G z_isinstance) (zc (adv X G z_len) (zc (adv X G z_list) (zc (adv X G z_max) (zc (adv X G z_min) (zc (adv X G z_range) (zc (adv X G z_reversed) (zc (adv X G z_sorted) (zc (adv X G z_tuple) (zc (adv X G z_zip) (fun _ h=>nomatch h))))))))))))))),g_MOST_TERMS.imp fun _ e=>afV X G e,g_MOST_POWER.imp fun _ e=>afV X G e,g_MOST_PAIRS.imp fun _ e=>afV X G e,g_FIELD.imp fun _ e=>afV X G e⟩
 obtain ⟨f,oc,od,kV,dc,pm,an,cd,ct,sl,a,l,c,k⟩:=h44;have e:=hfa.symm.trans (afV X G a);cases e;exact ⟨_,fun s v=>.of_eq rfl,fun base _ _=>Pb hlaw<|Uq (T base)<|Dv (st:=O8) l c k⟩
variable {XP : (Str->Option acd)->Heap->Prop}
def walk {l:PySem.W.OpenLaw}{q:acK}{loose:List Str}{YP:adt->Heap->Prop}{d:DefRec}{K:Params->abZ}(hn:l.most=some 63)(hdf:d.params.defaults=[])
  (hY:∀ (w:adt) (h:Heap),YP w h->(K w.params).In h)
  (F:∀ (w:adt) (mg:Str->Option acd) (fa:Addr) (h:Heap),(K w.params).In h->h.Ns ade mg->mg d.name=some (.ref fa) ->
   ∃ fd:aeV,(∀ (s:aci) (u:acd),BindsTo s fd ⟨[u],[]⟩ [("_law_script",u)])/\∀ base:Heap,(K w.params).In base->base.Ns ade mg->qC l.prog w (K w.params) mg base CX0 19 fa fd ["_law_script"] (KJ (K w.params))) :
  PySem.W.WalkO q loose XP YP l.row.toRowW d [] (fun f vs=>PySem.call f vs):=
 L2.DR (n:=63) (k:=19) (x := "_law_script") (CX:=fun _=>CX0) (sp:=fun w=>KJ (K w.params)) hn (by decide) hdf ⟨fun _=>rfl,by decide,by decide⟩ hY F (fun _ _ a ns hl hO hS=>⟨a,ns,rfl,hS,hO,hl,fun _=>rfl⟩) fun _ _ _ _ _ z=>z
local macro_rules | `(tactic| trivial) => `(tactic| with_reducible exact Sm.lit (by decide))
local macro_rules | `(tactic| trivial) => `(tactic| with_reducible exact Sm.zero)
local macro_rules | `(tactic| trivial) => `(tactic| with_reducible exact Sm.neg (by trivial))
local macro_rules | `(tactic| trivial) => `(tactic| with_reducible exact Sm.sub (by trivial) (by trivial))
local macro_rules | `(tactic| trivial) => `(tactic| with_reducible exact Sm.add (by trivial) (by trivial))
local macro_rules | `(tactic| trivial) => `(tactic| with_reducible exact Sm.mul (by trivial) (by trivial))
local macro_rules | `(tactic| trivial) => `(tactic| with_reducible assumption)
def rO (h:Gh)(n:Nat)(c:Cell):(h.set n c).c n=some c:=by show (if n=n then some c else h.c n)=some c;rw [if_pos rfl]
variable {h : Gh}{m n : Nat}
def mZ {c:Cell}(e:m≠n):(h.set n c).c m=h.c m:=by show (if m=n then some c else h.c m)=_;rw [if_neg e]
def Gy (h:Gh)(c:Cell):(h.new c).c h.nx=some c:=by show (if h.nx=h.nx then some c else h.c h.nx)=some c;rw [if_pos rfl]
def uP {c:Cell}(e:m≠h.nx):(h.new c).c m=h.c m:=by show (if m=h.nx then some c else h.c m)=_;rw [if_neg e]
variable {ws : List W}
def dz (e:h.c n=some (.lst ws)):view h (.loc n)=some ws:=by simp only [view,d7,e]
def Oth (n:Nat)(h h':Gh):Prop:=h'.nx=h.nx/\∀ m,m≠n->h'.c m=h.c m
def Oth.trans {n:Nat}{a b c:Gh}(x:Oth n a b)(y:Oth n b c):Oth n a c:=⟨y.1.trans x.1,fun m e=>(y.2 m e).trans (x.2 m e)⟩
def Oth.set {n:Nat}{h:Gh}{c:Cell}:Oth n h (h.set n c):=⟨rfl,fun _ e=>mZ e⟩
def dW {a b:Int}(h:0<b):a.fmod b=a % b:=Int.fmod_eq_emod_of_nonneg a (Int.le_of_lt h)
def tO {a b:Int}(h:0<b):a.fdiv b=a / b:=Int.fdiv_eq_ediv_of_nonneg a (Int.le_of_lt h)
variable {c : Bool}
def TJ {A B:Prop}(e:c=true)(h:A):by2 c A B:=by subst e;exact h
def O6 {c:Prop}[Decidable c]{A B:Prop}(h1:c->A)(h2:¬ c->B):by2 (decide c) A B:=by
 by_cases h:c
 ·rw [decide_eq_true h];exact h1 h
 ·rw [decide_eq_false h];exact h2 h
variable {g : MG}
def cZ {ws0:List W}{b:MS}{D:bV}(I:Nat->Sw->Gh->Prop)
  (step:∀ (i:Nat) (w:W) (Z : Sw) (h:Gh) (N:Sw->Gh->Prop),(∀ Z' h',I (i+1) Z' h'->N Z' h')->ws[i]?=some w->I i Z h->g w Z h fun Z1 h1=>b { D with nx:=N,ct:=N,bk:=D.nx } Z1 h1)
  (fin:∀ Z h,I ws.length Z h->D.nx Z h):∀ {Z : Sw} {h:Gh},I 0 Z h->iD ⟨ws0,none⟩ g b D ws Z h:=by
 induction ws generalizing I with
 | nil=>intro Z h h0;exact fin Z h h0
 | cons w ws ih=>
  intro Z h h0;refine step 0 w Z h _ (fun Z' h' q=>?_) rfl h0;exact ih (fun i=>I<|i+1) (fun i w Z h N hN e hi=>step (i+1) w Z h N hN (by simpa using e) hi) (fun Z h q=>fin Z h q) q
variable {ix : List Nat}{te : ME}{tt : MT}{Z : Sw}{own : W->Option (List W)}{Q : WK}
def dF {ws0:List W}(I:Nat->List W->Gh->Prop)
  (step:∀ (i:Nat) (w:W) (acc:List W) (h:Gh) (N:List W->Gh->Prop),(∀ acc' h',I (i+1) acc' h'->N acc' h')->ws[i]?=some w->I i acc h ->
   ∃ vs,own w=some vs/\tt (vs.map some++kY ix Z) h fun c h1=>by2 c (te (vs.map some++kY ix Z) h1 fun v h2=>N (acc++[v]) h2) (N acc h1))
  (fin:∀ acc h,I ws.length acc h->Q (.lst acc) h):∀ {acc:List W} {h:Gh},I 0 acc h->qy ⟨ws0,none⟩ own ix tt te Z Q ws acc h:=by
 induction ws generalizing I with
 | nil=>intro acc h h0;exact fin acc h h0
 | cons w ws ih=>
  intro acc h h0;obtain ⟨vs,ev,q⟩:=step 0 w acc h _ (fun acc' h' q=>ih (fun i=>I (i+1)) (fun i w acc h N hN e hi=>step (i+1) w acc h N hN (by simpa using e) hi) (fun acc h q=>fin acc h q) q) rfl h0;show (match own w with
   | some vs=>_
   | none=>False)
  rw [ev];exact q
variable {i : Nat}{w : W}
def zP {lo:Int}(e:(wA lo n)[i]?=some w):i<n/\w=.int (lo+(i:Int)):=by
 have hi:i<n:=by
  have:=(acD.mp e).1
  simpa [wA] using this
 unfold wA at e;rw [acu,List.getElem?_range hi] at e;exact ⟨hi,(acv e).symm⟩
def tL {lo:Int}:(wA lo n).length=n:=by simp [wA]
variable {j : Int}{ma : MA}
def Qd {b:MS}{D:bV}(hm:∀ R,ma Z h R=R [.int j] h)(h1:-(2^62)<=j)(h2:j<2^62)(I:Nat->Sw->Gh->Prop)
  (step:∀ (i:Nat) (Z : Sw) (h:Gh) (N:Sw->Gh->Prop),(∀ Z' h',I (i+1) Z' h'->N Z' h')->i<j.toNat->I i Z h->g (.int (i:Int)) Z h fun Z1 h1=>b { D with nx:=N,ct:=N,bk:=D.nx } Z1 h1)
  (fin:∀ Z h,I j.toNat Z h->D.nx Z h) (h0:I 0 Z h):oX (iH ma) g b D Z h:=by
 unfold oX iH;rw [hm];refine vC.mk h1 h2 ?_;refine cZ I (fun i w Z h N hN e hi=>?_) (fun Z h q=>fin Z h (by rw [tL] at q;exact q)) h0;obtain ⟨hlt,rfl⟩:=zP e;rw [Int.zero_add];exact step i Z h N hN hlt hi
variable {ns : List Int}
def JK {k:Int}(h0:0<=k)(h1:k<((ns.map W.int).length:Int)):atI (ns.map W.int) k=some (.int (ns.getD k.toNat 0)):=by
 have hk:k.toNat<ns.length:=by rw [acf] at h1;omega
 have e:(ns.map W.int)[k.toNat]?=some (.int (ns.getD k.toNat 0)):=by
  rw [acu,acn hk,acQ,acn hk];rfl
 have:=cG e
 rwa [show ((k.toNat:Nat):Int)=k by omega] at this
def ints_get (e:(ns.map W.int)[i]?=some w):∃ n,ns[i]?=some n/\w=.int n:=by
 rw [acu] at e;cases q:ns[i]? with
 | none=>rw [q] at e;cases e
 | some n=>rw [q] at e;exact ⟨n,rfl,(acv e).symm⟩
def jM (a b:Int):eqW (.int a) (.int b)=(a==b):=by rw [eqW]
abbrev Tr:=Int×Int×Int
def tl (t:Tr):List Int:=[t.1,t.2.1,t.2.2]
def tw (t:Tr):W:=.tup [.int t.1,.int t.2.1,.int t.2.2]
def sc (k:Int)(t:Tr):Tr:=(t.1*k,t.2.1*k,t.2.2*k)
def crs (p q:Tr):Tr:=(p.2.1*q.2.2 - p.2.2*q.2.1,p.2.2*q.1 - p.1*q.2.2,p.1*q.2.1 - p.2.1*q.1)
def dt3 (p q:Tr):Int:=p.1*q.1+p.2.1*q.2.1+p.2.2*q.2.2
def ray {p q:Tr}(hp:p≠(0,0,0))(h:crs p q=(0,0,0)):∃ s t:Int,s≠0/\sc s q=sc t p:=by
 obtain ⟨a,b,c⟩:=p;obtain ⟨x,y,z⟩:=q;have h1:b*z - c*y=0:=congrArg (·.1) h;have h2:c*x - a*z=0:=congrArg (·.2.1) h;have h3:a*y - b*x=0:=congrArg (·.2.2) h;by_cases ha:a=0
 ·by_cases hb:b=0
  ·by_cases hc:c=0
   ·exact absurd (by rw [ha,hb,hc]) hp
   ·refine ⟨c,z,hc,?_⟩;simp only [sc];refine Prod.ext ?_ (Prod.ext ?_ ?_) <;> simp only <;> grind
  ·refine ⟨b,y,hb,?_⟩;simp only [sc];refine Prod.ext ?_ (Prod.ext ?_ ?_) <;> simp only <;> grind
 ·refine ⟨a,x,ha,?_⟩;simp only [sc];refine Prod.ext ?_ (Prod.ext ?_ ?_) <;> simp only <;> grind
def flat {n p q r:Tr}(hn:n≠(0,0,0))(hp:dt3 n p=0)(hq:dt3 n q=0)(hr:dt3 n r=0):dt3 (crs p q) r=0:=by
 obtain ⟨n1,n2,n3⟩:=n;obtain ⟨p1,p2,p3⟩:=p;obtain ⟨q1,q2,q3⟩:=q;obtain ⟨r1,r2,r3⟩:=r;simp only [dt3,crs] at *;generalize hd:(p2*q3 - p3*q2)*r1+(p3*q1 - p1*q3)*r2+(p1*q2 - p2*q1)*r3=d;have e1:n1*d=0:=by grind
 have e2:n2*d=0:=by grind
 have e3:n3*d=0:=by grind
 by_cases h:d=0
 ·exact h
 ·have f:∀ x:Int,x*d=0->x=0:=fun x e=>by
   rcases Int.mul_eq_zero.mp e with e | e
   ·exact e
   ·exact absurd e h
  exact absurd (by rw [f _ e1,f _ e2,f _ e3]) hn
def Xb (p q:Tr):eqW (tw p) (tw q)=decide (p=q):=by
 obtain ⟨a,b,c⟩:=p;obtain ⟨x,y,z⟩:=q;unfold tw;rw [eqW,mq,mq,mq,mq,jM,jM,jM];by_cases ha:a=x <;> by_cases hb:b=y <;> by_cases hc:c=z <;> simp [ha,hb,hc]
def vB (e:h.c n=some (.lst ws)):d7 h (.loc n)=some ws:=by simp only [d7,e]
theorem Ih:∀ bs:List Bool,IV (bs.map W.bl)=some bs
 | []=>rfl
 | b::bs=>by rw [acg,IV,Ih bs];rfl
def Rf {s:Src}(I:Nat->List W->Gh->Prop)
  (go:∀ i acc h,I i acc h->∀ P:Prop,P->s.go h P)
  (step:∀ (i:Nat) (w:W) (acc:List W) (h:Gh) (N:List W->Gh->Prop),(∀ acc' h',I (i+1) acc' h'->N acc' h')->ws[i]?=some w->I i acc h ->
   ∃ vs,own w=some vs/\tt (vs.map some++kY ix Z) h fun c h1=>by2 c (te (vs.map some++kY ix Z) h1 fun v h2=>N (acc++[v]) h2) (N acc h1))
  (fin:∀ acc h,I ws.length acc h->Q (.lst acc) h):∀ {acc:List W} {h:Gh},I 0 acc h->qy s own ix tt te Z Q ws acc h:=by
 induction ws generalizing I with
 | nil=>intro acc h h0;exact go 0 acc h h0 _ (fin acc h h0)
 | cons w ws ih=>
  intro acc h h0;obtain ⟨vs,ev,q⟩:=step 0 w acc h _ (fun acc' h' q=>ih (fun i=>I (i+1)) (fun i=>go (i+1)) (fun i w acc h N hN e hi=>step (i+1) w acc h N hN (by simpa using e) hi) (fun acc h q=>fin acc h q) q) rfl h0;refine go 0 acc h h0 _ ?_;show (match own w with
   | some vs=>_
   | none=>False)
  rw [ev];exact q
def V2 {us:List W}(e:h.c n=some (.lst us))(hz:us.length<acM)(k:Q .non (h.set n (.lst (us++[w])))):gP (.loc n) [w] h Q:=by
 show (match h.c n with
  | some (Cell.lst us)=>_
  | _=>False)
 rw [e];exact ⟨hz,k⟩
def Xn (hm:∀ R,ma Z h R=R [.int j] h)(h1:-(2^62)<=j)(h2:j<2^62)(hz:j.toNat<=acM)(I:Nat->List W->Gh->Prop)
  (step:∀ (i:Nat) (acc:List W) (h:Gh) (N:List W->Gh->Prop),(∀ acc' h',I (i+1) acc' h'->N acc' h')->i<j.toNat->I i acc h ->
   ∃ vs,own (.int (i:Int))=some vs/\tt (vs.map some++kY ix Z) h fun c h1=>by2 c (te (vs.map some++kY ix Z) h1 fun v h2=>N (acc++[v]) h2) (N acc h1))
  (fin:∀ acc h,I j.toNat acc h->Q (.lst acc) h) (h0:I 0 [] h):mLC own ix (iH ma) tt te Z h Q:=by
 unfold mLC iH;rw [hm];refine vC.mk h1 h2<|fL.mk (by rw [tL];exact hz) ?_
 refine dF I (fun i w acc h N hN e hi=>?_) (fun acc h q=>fin acc h (by rw [tL] at q;exact q)) h0;obtain ⟨hlt,rfl⟩:=zP e;rw [Int.zero_add];exact step i acc h N hN hlt hi
def wK (a b:Str):eqW (.str a) (.str b)=(a==b):=by rw [eqW]
def Bag (h:Gh)(n:Nat):Prop:=∃ a b,h.c n=some (.lst [.int a,.int b])/\0<=b/\b<2147483647
def pX (c:MSp):Prop:=∀ {h:Gh} {n:Nat} {many:Int} {Q:WK} {E:XWK},Bag h n->0<many->Sm 60 many->(∀ d h',0<=d->d<many->Bag h' n->Oth n h h'->Q (.int d) h')->c [.loc n,.int many] h Q E
def yD:pX yK:=by
 intro h n many Q E hb hm hs k;obtain ⟨a,b,e,b0,b1⟩:=hb;have hm0:many≠0:=by omega
 have ev:=dz e;have bag:∀ {h':Gh} {a b:Int},h'.c n=some (.lst [.int a,.int b])->0<=b->b<2147483647->Bag h' n:=fun e h0 h1=>⟨_,_,e,h0,h1⟩
 show (match view h (.loc n) with
  | some ws=>_
  | none=>False)
 rw [ev];refine wC (fun _=>?_)<|fun _=>?_
 ·show (match view h (.loc n) with
   | some ws=>_
   | none=>False)
  rw [ev];refine And.intro hm0 ?_;show (match view h (.loc n) with
   | some ws=>_
   | none=>False)
  rw [ev];refine And.intro ⟨hm0,60,by decide,hs⟩ ?_;show (match h.c n with
   | some (Cell.lst ws)=>_
   | _=>False)
  rw [e];show Q (.int (a.fmod many)) (h.set n _);rw [dW hm];exact k _ _ (afm _ hm0) (aeG _ hm) (bag (rO _ _ _) b0 b1) Oth.set
 ·show (match view h (.loc n) with
   | some ws=>_
   | none=>False)
  rw [ev];refine And.intro (.of (m:=31) (n:=64) (Dj (by omega)<|by omega) (.lit rfl) (by decide)<|by decide) ?_;refine And.intro (show (2147483647:Int)≠0 by decide) ?_;show (match h.c n with
   | some (Cell.lst ws)=>_
   | _=>False)
  rw [e];have c0:0<=(b*48271+11).fmod 2147483647:=by rw [dW (by decide)];exact afm _ (by decide)
  have c1:(b*48271+11).fmod 2147483647<2147483647:=by rw [dW (by decide)];exact aeG _ (by decide)
  have e2:(h.set n (.lst [.int a,.int ((b*48271+11).fmod 2147483647)])).c n=some (.lst [.int a,.int ((b*48271+11).fmod 2147483647)]):=rO _ _ _;have ev2:=dz e2;have o2:Oth n h (h.set n (.lst [.int a,.int ((b*48271+11).fmod 2147483647)])):=Oth.set;show (match view (h.set n (.lst [.int a,.int ((b*48271+11).fmod 2147483647)])) (.loc n) with
   | some ws=>_
   | none=>False)
  rw [ev2];show (match view (h.set n (.lst [.int a,.int ((b*48271+11).fmod 2147483647)])) (.loc n) with
   | some ws=>_
   | none=>False)
  rw [ev2];generalize (b*48271+11).fmod 2147483647=c at *;refine And.intro ⟨by decide,64,by decide,.lit rfl⟩ ?_;have q0:0<=c.fdiv 65536:=by rw [tO (by decide)];omega
  have q1:c.fdiv 65536<2147483647:=by rw [tO (by decide)];omega
  refine And.intro (.of (m:=31) (n:=40) (Dj (by omega)<|by omega) (Dj (by omega)<|by omega) (by decide)<|by decide) ?_;refine And.intro (show (2147483629:Int)≠0 by decide) ?_;refine And.intro ⟨by decide,64,by decide,.lit rfl⟩ ?_;refine And.intro hm0 ?_;show Q (.int (Int.fmod _ many)) (h.set n (.lst [.int a,.int c]));rw [dW hm];exact k _ _ (afm _ hm0) (aeG _ hm) (bag e2 c0 c1) o2
def tG (c:MSp):Prop:=∀ {h:Gh} {ns:List Int} {k:Int} {Q:WK} {E:XWK},0<=k->Q (.int (ns.getD k.toNat 0)) h->c [.kls (ns.map .int),.int k] h Q E
def V5:tG zQ:=by
 intro h ns k Q E h0 q;show br (decide (k<((ns.map W.int).length:Int))) _ _;refine wC (fun hk=>?_)<|fun hk=>?_
 ·conv=>whnf
  rw [JK h0 hk];exact q
 ·have e:ns.getD k.toNat 0=0:=by
   rw [acQ,List.getElem?_eq_none (by rw [acf] at hk;omega)];rfl
  rw [e] at q;exact q
def tK (Q:Bool->Gh->Prop):WK:=fun w h=>match w with
 | .bl c=>Q c h
 | _=>False
def uK (Q:Bool->Gh->Prop):WK:=fun w h=>match Xz h w with
 | some b=>Q b h
 | none=>False
def aK (b:ME)(Z : Sw)(Q:WK):WK:=fun x h=>match x with
 | .bl true=>b Z h Q
 | .bl false=>Q (.bl false) h
 | _=>False
def oK (b:ME)(Z : Sw)(Q:WK):WK:=fun x h=>match x with
 | .bl false=>b Z h Q
 | .bl true=>Q (.bl true) h
 | _=>False
def nK (Q:WK):WK:=fun x h=>match x with
 | .bl c=>Q (.bl (!c)) h
 | _=>False
def iK (R:Src->Gh->Prop):WK:=fun w h=>match Td h w with
 | some s=>R s h
 | none=>False
def xK (f:Str->Bool)(Q:WK):WK:=fun w h=>match w with
 | .exc n=>Q (.bl (f n)) h
 | .exa n _=>Q (.bl (f n)) h
 | _=>False
def pK (Q:Option Int->Gh->Prop):WK:=fun w h=>match w with
 | .int i=>Q (some i) h
 | _=>False
def aaE (g:MG)(b:MS)(D:bV)(Z : Sw):Src->Gh->Prop:=fun s h=>iD s g b D s.ws Z h
def lcK (own:W->Option (List W))(ix:List Nat)(tt:MT)(te:ME)(Z : Sw)(Q:WK):Src->Gh->Prop:=fun s h=>fL s.ws.length (qy s own ix tt te Z Q s.ws [] h)
def rgK (R:Src->Gh->Prop):List W->Gh->Prop:=fun ws h=>match ws with
 | [.int j]=>vC j (R ⟨wA 0 j.toNat,none⟩ h)
 | _=>False
def zpK (R:Src->Gh->Prop):List W->Gh->Prop:=fun ws h=>match ws with
 | [x,y]=>(match Mt h x y with
  | some s=>R s h
  | none=>False)
 | _=>False
def aH {m u:MS}{D:bV}(x:m { D with nx:=u D } Z h):bA m u D Z h:=x
variable {N : Sw->Gh->Prop}
def bw {b c:Sw->Gh->Prop}{r:WK}(x:N Z h):bV.nx ⟨N,r,b,c⟩ Z h:=x
def abL {b c:Sw->Gh->Prop}{r:WK}(x:b Z h):bV.bk ⟨N,r,b,c⟩ Z h:=x
def abC {b c:Sw->Gh->Prop}{r:WK}(x:c Z h):bV.ct ⟨N,r,b,c⟩ Z h:=x
def gH {b c:Sw->Gh->Prop}{r:WK}(x:r w h):bV.rt ⟨N,r,b,c⟩ w h:=x
def O7 {D:bV}(x:D.rt w h):bV.rt (bV.lost D) w h:=x
def Q5 {D:bV}(x:D.nx (Z.map fun _=>none) h):bV.nx (bV.lost D) Z h:=x
def aW {D:bV}(x:D.nx Z h):dD D Z h:=x
def aP {m:ME}{D:bV}(x:m Z h fun w h1=>g w Z h1 D.nx):bL m g D Z h:=x
def mO {m:ME}{D:bV}(x:m Z h fun _ h1=>D.nx Z h1):xq m D Z h:=x
def aX {m:ME}{D:bV}(x:m Z h D.rt):cJ m D Z h:=x
variable {E : XWK}
def kZ {c:Str}{D:bV}(x:E ⟨c,[]⟩ h):wj c E D Z h:=x
def aZ {t:MT}{a b:MS}{D:bV}(x:t Z h fun c h1=>br c (a D Z h1) (b D Z h1)):lE t a b D Z h:=x
def JG {t:MT}{a b:ME}(x:t Z h fun c h1=>br c (a Z h1 Q) (b Z h1 Q)):mIf t a b Z h Q:=x
variable {d : Str}
def W9 {mb:XWK->MS}{mh:MS}{D:bV}(x:mb (fun x h'=>by2 (isX x.cls d) (mh D.lost (Z.set i (some (XJ x))) h') False) D Z h):aa5 i d mb mh D Z h:=x
def iW {g:MGs}(e:w=.tup ws)(b:afu ws.length n=true)(x:g ws Z h N):gU n g w Z h N:=by
 subst e;unfold gU;dsimp only;rw [b];exact x
def Hv {g:MGs}(e:w=.lst ws)(b:afu ws.length n=true)(x:g ws Z h N):gU n g w Z h N:=by
 subst e;unfold gU;dsimp only;rw [b];exact x
def Uu {g:MGs}(e:w=.tup ws)(b:afu ws.length n=true)(x:g ws Z h N):aaF n g w Z h N:=by
 subst e;unfold aaF;dsimp only;rw [b];exact x
def bZ {r:MGs}(x:g w Z h fun Z1 h1=>r ws Z1 h1 N):bY g r (w::ws) Z h N:=x
def jY (x:N Z h):wD [] Z h N:=x
def ak (e:Z[i]?=some (some w))(x:Q w h):aA i Z h Q:=by
 unfold aA;rw [e];exact x
def aU (x:Q w h):mC w Z h Q:=x
def aD {r:M2}{ma mb:ME}(x:ma Z h fun a h1=>mb Z h1 fun b h2=>r a b h2 Q):mOp r ma mb Z h Q:=x
def Vf {r:W->Gh->WK->Prop}{ma:ME}(x:ma Z h fun a h1=>r a h1 Q):mUn r ma Z h Q:=x
def Mi {i:Int}(x:Q (.int (-i)) h):aaf (.int i) h Q:=x
def aj {a:ME}{r:MA}{Q:List W->Gh->Prop}(x:a Z h fun w h1=>r Z h1 fun ws h2=>Q (w::ws) h2):ao a r Z h Q:=x
def aq {Q:List W->Gh->Prop}(x:Q [] h):aL Z h Q:=x
variable {P : Prop}
def bC (e:agR n 1000=true)(x:P):fL n P:=by
 unfold fL;rw [e];exact x
def cQ {t:MA}(x:t Z h fun ws h1=>fL ws.length (Q (.tup ws) h1)):je t Z h Q:=x
def iT {t:MA}(x:t Z h fun ws h1=>fL ws.length (Q (.lst ws) h1)):lD t Z h Q:=x
def aB {c:MSp}(x:ma Z h fun ws h1=>c ws h1 Q E):aJ c E ma Z h Q:=x
def bK {r:MC}(x:ma Z h fun ws h1=>r ws h1 Q):mCB r ma Z h Q:=x
def aN {m:ME}{Q:Bool->Gh->Prop}(x:m Z h (tK Q)):bN m Z h Q:=x
def dG {Q:Bool->Gh->Prop}(x:Q c h):tK Q (.bl c) h:=x
def iM {m:ME}{Q:Bool->Gh->Prop}(x:m Z h (uK Q)):Cz m Z h Q:=x
def Ga {b:Bool}{Q:Bool->Gh->Prop}(e:Xz h w=some b)(x:Q b h):uK Q w h:=by
 unfold uK;rw [e];exact x
def mX {t:MT}{Q:Bool->Gh->Prop}(x:t Z h fun c h1=>Q (!c) h1):Ja t Z h Q:=x
def Gv {t u:MT}{Q:Bool->Gh->Prop}(x:t Z h fun c h1=>br c (u Z h1 Q) (Q false h1)):ZQ t u Z h Q:=x
def jC {t u:MT}{Q:Bool->Gh->Prop}(x:t Z h fun c h1=>br c (Q true h1) (u Z h1 Q)):mOr t u Z h Q:=x
def bG {Q:Bool->Gh->Prop}(x:Q true h):jR Z h Q:=x
def Pu {a b:ME}(x:a Z h (aK b Z Q)):Y9 a b Z h Q:=x
def Wd {a b:ME}(x:a Z h (oK b Z Q)):aa4 a b Z h Q:=x
def Od {a:ME}(x:a Z h (nK Q)):YD a Z h Q:=x
def aa8 {b:ME}(x:br c (b Z h Q) (Q (.bl false) h)):aK b Z Q (.bl c) h:=by
 cases c with
 | true=>exact x.1 rfl
 | false=>exact x.2 rfl
def aa2 {b:ME}(x:br c (Q (.bl true) h) (b Z h Q)):oK b Z Q (.bl c) h:=by
 cases c with
 | true=>exact x.1 rfl
 | false=>exact x.2 rfl
def aa3 (x:Q (.bl (!c)) h):nK Q (.bl c) h:=x
def TY {f:Str->Bool}{m:ME}(x:m Z h (xK f Q)):abH f m Z h Q:=x
def aa9 {f:Str->Bool}{n:Str}(x:Q (.bl (f n)) h):xK f Q (.exc n) h:=x
variable {a : Prop}
def Bw {b:Prop}(x:a):br true a b:=CT rfl x
def wL {b:Prop}(x:b):br false a b:=fX rfl x
def Xf {b:Prop}(x:b):br (!true) a b:=wL x
def Vj {b:Prop}(x:a):br (!false) a b:=Bw x
def bD {b:Prop}(x:a):by2 true a b:=x
def zR {b:Prop}(x:b):by2 false a b:=x
def fC {i:Int}(x:Q (.int (i - j)) h):yu (.int i) (.int j) h Q:=x
def fG {i:Int}(x:Q (.int (i+j)) h):dH (.int i) (.int j) h Q:=x
def bH {i:Int}(c:oM i j)(x:Q (.int (i*j)) h):gG (.int i) (.int j) h Q:=⟨c,x⟩
def Mx {i:Int}(c:FP i j)(x:Q (.int (i.fdiv j)) h):Mq (.int i) (.int j) h Q:=⟨c,x⟩
def yG {i:Int}(c:j≠0)(x:Q (.int (i.fmod j)) h):Bc (.int i) (.int j) h Q:=⟨c,x⟩
def Wc {i:Int}(x:Q (.bl (decide (i<j))) h):kLt (.int i) (.int j) h Q:=x
def yw {i:Int}(x:Q (.bl (decide (i>j))) h):kGt (.int i) (.int j) h Q:=x
def uR {i:Int}(x:Q (.bl (decide (i=j))) h):kEq (.int i) (.int j) h Q:=by
 have e:eqW (.int i) (.int j)=decide (i=j):=jM i j;show Q (.bl (eqW (.int i) (.int j))) h;rw [e];exact x
def wY {i:Int}(x:Q (.bl (decide (i≠j))) h):kNe (.int i) (.int j) h Q:=by
 have e:(!eqW (.int i) (.int j))=decide (i≠j):=by rw [jM];by_cases z:i=j <;> simp [z]
 show Q (.bl (!eqW (.int i) (.int j))) h;rw [e];exact x
def YW {i j:Bool}(x:Q (.bl (decide (i=j))) h):kEq (.bl i) (.bl j) h Q:=by
 have e:eqW (.bl i) (.bl j)=decide (i=j):=by rw [eqW];cases i <;> cases j <;> rfl
 show Q (.bl (eqW (.bl i) (.bl j))) h;rw [e];exact x
def Za {i j:Bool}(x:Q (.bl (decide (i≠j))) h):kNe (.bl i) (.bl j) h Q:=by
 have e:(!eqW (.bl i) (.bl j))=decide (i≠j):=by rw [eqW];cases i <;> cases j <;> rfl
 show Q (.bl (!eqW (.bl i) (.bl j))) h;rw [e];exact x
def Wn {p q:Tr}(x:Q (.bl (decide (p=q))) h):kEq (tw p) (tw q) h Q:=by
 show Q (.bl (eqW (tw p) (tw q))) h;rw [Xb];exact x
def T9 {p q:Tr}(x:Q (.bl (decide (p≠q))) h):kNe (tw p) (tw q) h Q:=by
 have e:(!eqW (tw p) (tw q))=decide (p≠q):=by rw [Xb];by_cases z:p=q <;> simp [z]
 show Q (.bl (!eqW (tw p) (tw q))) h;rw [e];exact x
def Ye {p:Tr}{a b c:Int}(x:Q (.bl (decide (p=(a,b,c)))) h):kEq (tw p) (.tup [.int a,.int b,.int c]) h Q:=Wn (q:=(a,b,c)) x
def Yw {p:Tr}{a b c:Int}(x:Q (.bl (decide (p≠(a,b,c)))) h):kNe (tw p) (.tup [.int a,.int b,.int c]) h Q:=T9 (q:=(a,b,c)) x
def cH {x:W}{i:Int}(e:view h x=some ws)(a:atI ws i=some w)(k:Q w h):kIx x (.int i) h Q:=by
 unfold kIx;dsimp only;rw [e];dsimp only;rw [a];exact k
def qg {T:String}{b:Bool}(e:Xv h w T=some b)(x:Q (.bl b) h):Hh [w,.ty T] h Q:=by
 unfold Hh;dsimp only;rw [e];exact x
def fQ {xs:List W}(e:view h w=some xs)(x:Q (.int (xs.length:Int)) h):kLen [w] h Q:=by
 unfold kLen;dsimp only;rw [e];exact x
def bW {us:List W}(x:Q (.tup us) h):cC [.lst us] h Q:=x
variable {bs : List Bool}
def Nf {us:List W}(e:d7 h w=some us)(b:IV us=some bs)(x:Q (.bl (bs.any id)) h):Vx [w] h Q:=by
 unfold Vx;dsimp only;rw [e];dsimp only;rw [b];exact x
def Tv {us:List W}(e:d7 h w=some us)(b:IV us=some bs)(x:Q (.bl (bs.all id)) h):aaH [w] h Q:=by
 unfold aaH;dsimp only;rw [e];dsimp only;rw [b];exact x
def U7 {us:List W}(e:d7 h w=some us)(b:rQ us=some ns)(x:Q (.int ns.sum) h):aaK [w] h Q:=by
 unfold aaK;dsimp only;rw [e];dsimp only;rw [b];exact x
def Vk {i:Int}(x:Q (.int (if i<0 then -i else i)) h):SX [.int i] h Q:=x
def zm {b:Bool}(x:Q (.int (if b then 1 else 0)) h):K7 [.bl b] h Q:=x
def iw {mi:MI}{b:MS}{D:bV}(x:mi Z h (aaE g b D Z)):oX mi g b D Z h:=x
variable {o : Option (Nat×List W)}
def iB {b:MS}{D:bV}(x:iD ⟨ws,o⟩ g b D ws Z h):aaE g b D Z ⟨ws,o⟩ h:=x
def Ec {b:MS}{D:bV}(x:D.nx Z h):iD ⟨ws,none⟩ g b D [] Z h:=x
def sY {r:List W}{b:MS}{D:bV}(x:g w Z h fun Z1 h1=>b { D with nx:=iD ⟨ws,none⟩ g b D r,ct:=iD ⟨ws,none⟩ g b D r,bk:=D.nx } Z1 h1):iD ⟨ws,none⟩ g b D (w::r) Z h:=x
variable {R : Src->Gh->Prop}
def gw {m:ME}(x:m Z h (iK R)):nIt m Z h R:=x
def qz (e:Td h w=some ⟨ws,o⟩)(x:R ⟨ws,o⟩ h):iK R w h:=by
 unfold iK;rw [e];exact x
def lW (x:ma Z h (rgK R)):iH ma Z h R:=x
def ZW (x:R ⟨[.int 0,.int 1,.int 2],none⟩ h):rgK R [.int 3] h:=x
def Ys (x:R ⟨[.int 0,.int 1],none⟩ h):rgK R [.int 2] h:=x
def qL (x:ma Z h (zpK R)):Ow ma Z h R:=x
variable {as : List W}
def Bx {a b:W}{bs:List W}{zs:List W}(e:p8 a=some as)(e':p8 b=some bs)(z:nH as bs=zs)(x:R ⟨zs,none⟩ h):zpK R [a,b] h:=by
 subst z;have es:Mt h a b=some ⟨nH as bs,none⟩:=by unfold Mt;rw [e,e']
 unfold zpK;dsimp only;rw [es];exact x
def ZD {b:W}{bs:List W}{zs:List W}(e:h.c n=some (.lst as))(e':p8 b=some bs)(z:nH as bs=zs)(x:R ⟨zs,some (n,as)⟩ h):zpK R [.loc n,b] h:=by
 subst z;have es:Mt h (.loc n) b=some ⟨nH as bs,some (n,as)⟩:=by unfold Mt;rw [e'];dsimp only [p8];rw [e]
 unfold zpK;dsimp only;rw [es];exact x
def aao {bs:List W}:nH [] bs=[]:=by cases bs <;> rfl
def aaI {a:W}:nH (a::as) []=[]:=rfl
def Yy {a b:W}{bs l:List W}(e:nH as bs=l):nH (a::as) (b::bs)=.tup [a,b]::l:=by rw [nH,e]
def gj {mi:MI}(x:mi Z h (lcK own ix tt te Z Q)):mLC own ix mi tt te Z h Q:=x
def yx (e:agR ws.length 1000=true)(x:qy ⟨ws,o⟩ own ix tt te Z Q ws [] h):lcK own ix tt te Z Q ⟨ws,o⟩ h:=bC e x
variable {acc : List W}
def qO (x:Q (.lst acc) h):qy ⟨ws,none⟩ own ix tt te Z Q [] acc h:=x
def dB {r vs:List W}(e:own w=some vs)(x:tt (vs.map some++kY ix Z) h fun c h1=>by2 c (te (vs.map some++kY ix Z) h1 fun v h2=>qy ⟨ws,none⟩ own ix tt te Z Q r (acc++[v]) h2) (qy ⟨ws,none⟩ own ix tt te Z Q r acc h1)):qy ⟨ws,none⟩ own ix tt te Z Q (w::r) acc h:=by
 unfold qy;show match own w with
  | some vs=>tt (vs.map some++kY ix Z) h fun c h1=>by2 c (te (vs.map some++kY ix Z) h1 fun v h2=>qy ⟨ws,none⟩ own ix tt te Z Q r (acc++[v]) h2) (qy ⟨ws,none⟩ own ix tt te Z Q r acc h1)
  | none=>False
 rw [e];exact x
variable {body : XWK->MS}
def XR {N:Nat}(hl:afu ws.length n=true)(x:body E { nx:=fun _ h'=>Q .non h',rt:=Q } (ws.map some++acG (N - ws.length) none) h):mFn n N false body ws h Q E:=by
 unfold mFn;rw [hl];exact x
variable {r : W->Option Int->Option Int->Gh->WK->Prop}
def R9 {m:ME}{l u:MO}(x:m Z h fun a h1=>l Z h1 fun lo h2=>u Z h2 fun hi h3=>r a lo hi h3 Q):mSl r m l u Z h Q:=x
def xX {m:ME}{Q:Option Int->Gh->Prop}(x:m Z h (pK Q)):Gg m Z h Q:=x
def Y6 {i:Int}{Q:Option Int->Gh->Prop}(x:Q (some i) h):pK Q (.int i) h:=x
def p3K (i j k:Nat)(D:bV)(Z : Sw):List W->Gh->Prop:=fun ws h=>match ws with
 | [x,y,z]=>D.nx (((Z.set i (some x)).set j (some y)).set k (some z)) h
 | _=>False
def R6 {j k:Nat}{ta:MA}{D:bV}(x:ta Z h (p3K i j k D Z)):Y4 i j k ta D Z h:=x
def U9 {xs:List W}{n:Int}{b:Prop}(e:decide ((xs.length:Int)≠n)=false)(x:b):br (decide ((xs.length:Int)≠n)) a b:=fX e x
def Qt {b:Prop}(e:bs.all id=true)(x:b):br (!(bs.all id)) a b:=fX (by rw [e];rfl) x
def aai {n:Str}{b:Prop}(e:isX n d=true)(x:a):by2 (isX n d) a b:=TJ e x
def Zi {n:Str}{b:Prop}(e:isX n d=true)(x:a):br (isX n d) a b:=CT e x
def aac {n:Str}{b:Prop}(e:isX n d=false)(x:b):br (isX n d) a b:=fX e x
def S5 {α : Type}{a x:α}{l:List α}:(a::l).set 0 x=x::l:=rfl
def Ss {α : Type}{a x:α}{l l':List α}(e:l.set n x=l'):(a::l).set (n+1) x=a::l':=by rw [List.set_cons_succ,e]
def mK {Z':Sw}(e:Z.set i (some w) = Z')(x:N Z' h):nName i w Z h N:=by
 subst e;exact x
def nV {Z':Sw}(x:N Z' h)(e:Z.set i (some w) = Z':=by repeat (first | with_reducible exact S5 | with_reducible apply Ss)):nName i w Z h N:=mK e x
def YQ {j k:Nat}{D:bV}{Z1 Z2 Z3:Sw}{x y z:W}(e1:Z.set i (some x) = Z1)(e2:Z1.set j (some y) = Z2)(e3:Z2.set k (some z) = Z3)(q:D.nx Z3 h):p3K i j k D Z [x,y,z] h:=by
 subst e1 e2 e3;exact q
def ini (ws:List W)(n:Nat):Sw:=ws.map some++acG (n - ws.length) none
def aat:ini [] 0=[]:=rfl
def aaV {l:Sw}(e:ini [] n=l):ini [] (n+1)=none::l:=by
 subst e;rfl
def aaD {l:Sw}(e:ini ws n=l):ini (w::ws) (n+1)=some w::l:=by
 subst e;unfold ini;rw [acE,Nat.add_sub_add_right];rfl
def cA {N:Nat}(hl:afu ws.length n=true)(e:ini ws N = Z)(x:body E { nx:=fun _ h'=>Q .non h',rt:=Q } Z h):mFn n N false body ws h Q E:=by
 subst e;exact XR hl x
def YF {n:Str}{fs:List (Str×W)}{mh:MS}{D:bV}{Z':Sw}(e:isX n d=true)(s:Z.set i (some (XJ ⟨n,fs⟩)) = Z')(x:mh D Z' h):by2 (isX (Xw.mk n fs).cls d) (mh D (Z.set i (some (XJ (Xw.mk n fs)))) h) False:=by
 subst s;exact TJ e x
def Vo {mi:MI}(x:mLC own ix mi tt te Z h (aaU Q)):abh own ix mi tt te Z h Q:=x
def HJ {mo mi:ME}{ms:RQ}(x:mo Z h fun o h1=>mi Z h1 fun i h2=>ms o i w h2 fun h3=>N Z h3):Je mo mi ms w Z h N:=x
def Km {r us:List W}{b:MS}{D:bV}(e:h.c n=some (.lst us))(x:g w Z h fun Z1 h1=>b { D with nx:=iD ⟨ws,some (n,us)⟩ g b D r,ct:=iD ⟨ws,some (n,us)⟩ g b D r,bk:=D.nx } Z1 h1):iD ⟨ws,some (n,us)⟩ g b D (w::r) Z h:=⟨e,x⟩
def Jr {us:List W}{b:MS}{D:bV}(e:h.c n=some (.lst us))(x:D.nx Z h):iD ⟨ws,some (n,us)⟩ g b D [] Z h:=⟨e,x⟩
def R8 {us:List W}(e:h.c n=some (.lst us))(x:Q (.lst acc) h):qy ⟨ws,some (n,us)⟩ own ix tt te Z Q [] acc h:=⟨e,x⟩
def Qo {us r vs:List W}(ec:h.c n=some (.lst us))(e:own w=some vs)(x:tt (vs.map some++kY ix Z) h fun c h1=>by2 c (te (vs.map some++kY ix Z) h1 fun v h2=>qy ⟨ws,some (n,us)⟩ own ix tt te Z Q r (acc++[v]) h2) (qy ⟨ws,some (n,us)⟩ own ix tt te Z Q r acc h1)):qy ⟨ws,some (n,us)⟩ own ix tt te Z Q (w::r) acc h:=by
 unfold qy;refine ⟨ec,?_⟩;show match own w with
  | some vs=>tt (vs.map some++kY ix Z) h fun c h1=>by2 c (te (vs.map some++kY ix Z) h1 fun v h2=>qy ⟨ws,some (n,us)⟩ own ix tt te Z Q r (acc++[v]) h2) (qy ⟨ws,some (n,us)⟩ own ix tt te Z Q r acc h1)
  | none=>False
 rw [e];exact x
def abO (e:h.c n=some (.lst ws))(x:R ⟨ws,some (n,ws)⟩ h):iK R (.loc n) h:=qz (by simp only [Td,e]) x
def X4 {i:Int}(e:h.c n=some (.lst ws))(a:atI ws i=some w)(k:Q w h):kIx (.loc n) (.int i) h Q:=cH (dz e) a k
def zB {N:Nat}(hl:afu ws.length n=true)(e:ini ws N = Z)(x:body E { nx:=fun _ h'=>vH true h .non h' Q,rt:=fun w h'=>vH true h w h' Q } Z h):mFn n N true body ws h Q E:=by
 subst e;unfold mFn;rw [hl];exact x
def Oa {a b:List W}(e:agR (a.length+b.length) 1000=true)(x:Q (.lst (a++b)) h):dH (.lst a) (.lst b) h Q:=bC e x
def YG {a b:Bool}(x:Q (.bl (a==b)) h):kIs (.bl a) (.bl b) h Q:=x
def Pj {a b:Bool}(x:Q (.bl (!(a==b))) h):Ip (.bl a) (.bl b) h Q:=x
def cI {a b:Str}(x:Q (.bl (decide (a=b))) h):kEq (.str a) (.str b) h Q:=by
 have e:eqW (.str a) (.str b)=decide (a=b):=by rw [eqW];by_cases z:a=b <;> simp [z]
 show Q (.bl (eqW (.str a) (.str b))) h;rw [e];exact x
def aah {a b:Str}(x:Q (.bl (decide (a≠b))) h):kNe (.str a) (.str b) h Q:=by
 have e:(!eqW (.str a) (.str b))=decide (a≠b):=by rw [eqW];by_cases z:a=b <;> simp [z]
 show Q (.bl (!eqW (.str a) (.str b))) h;rw [e];exact x
def Vp {b:Prop}(e:bs.any id=false)(x:b):br (bs.any id) a b:=fX e x
local macro_rules | `(tactic| rfl') => `(tactic| repeat (first
 | with_reducible refine aH ?_ | with_reducible refine aP ?_ | with_reducible refine aB ?_ | with_reducible refine aj ?_ | with_reducible refine aq ?_
 | ((with_reducible apply ak);exact rfl) | with_reducible refine aU ?_ | with_reducible refine aD ?_ | with_reducible refine mK (by repeat (first | with_reducible exact S5 | with_reducible apply Ss)) ?_ | with_reducible refine O7 ?_ | with_reducible refine Q5 ?_ | with_reducible refine bw ?_ | with_reducible refine gH ?_ | with_reducible refine abL ?_ | with_reducible refine abC ?_
 | with_reducible refine aZ ?_ | with_reducible refine JG ?_ | with_reducible refine aX ?_ | with_reducible refine mO ?_ | with_reducible refine aW ?_ | with_reducible refine W9 ?_ | with_reducible refine kZ ?_
 | with_reducible refine aN ?_ | with_reducible refine dG ?_ | with_reducible refine iM ?_ | ((with_reducible apply Ga);exact rfl) | with_reducible refine mX ?_ | with_reducible refine Gv ?_ | with_reducible refine jC ?_ | with_reducible refine bG ?_
 | with_reducible refine Pu ?_ | with_reducible refine Wd ?_ | with_reducible refine Od ?_ | with_reducible refine aa8 ?_ | with_reducible refine aa2 ?_ | with_reducible refine aa3 ?_ | with_reducible refine TY ?_ | with_reducible refine aa9 ?_
 | with_reducible refine Bw ?_ | with_reducible refine wL ?_ | with_reducible refine Xf ?_ | with_reducible refine Vj ?_ | with_reducible refine bD ?_ | with_reducible refine zR ?_
 | with_reducible refine cQ ?_ | with_reducible refine iT ?_ | ((with_reducible apply bC);exact rfl) | with_reducible refine bK ?_ | with_reducible refine Vf ?_ | with_reducible refine Mi ?_
 | ((with_reducible apply iW);exact rfl;exact rfl) | ((with_reducible apply Hv);exact rfl;exact rfl) | ((with_reducible apply Uu);exact rfl;exact rfl) | with_reducible refine bZ ?_ | with_reducible refine jY ?_
 | with_reducible refine fC ?_ | with_reducible refine fG ?_ | ((with_reducible apply bH);exact oM.of (by trivial) (by trivial) (by omega) (by omega)) | with_reducible refine Wc ?_ | with_reducible refine yw ?_
 | with_reducible refine uR ?_ | with_reducible refine wY ?_ | with_reducible refine YW ?_ | with_reducible refine Za ?_ | with_reducible refine Wn ?_ | with_reducible refine T9 ?_ | with_reducible refine Ye ?_ | with_reducible refine Yw ?_
 | ((with_reducible apply cH);exact rfl;exact rfl) | ((with_reducible apply qg);exact rfl) | ((with_reducible apply fQ);exact rfl) | with_reducible refine bW ?_ | ((with_reducible apply Nf);exact rfl;exact rfl) | ((with_reducible apply Tv);exact rfl;exact rfl) | ((with_reducible apply U7);exact rfl;exact rfl) | with_reducible refine zm ?_ | with_reducible refine Vk ?_
 | with_reducible refine iw ?_ | with_reducible refine iB ?_ | with_reducible refine Ec ?_ | with_reducible refine sY ?_ | with_reducible refine gw ?_ | ((with_reducible apply qz);exact rfl) | with_reducible refine lW ?_ | with_reducible refine ZW ?_ | with_reducible refine Ys ?_ | with_reducible refine qL ?_ | ((with_reducible apply Bx);exact rfl;exact rfl;(repeat (first | with_reducible exact aao | with_reducible exact aaI | with_reducible apply Yy)))
 | with_reducible refine gj ?_ | ((with_reducible apply yx);exact rfl) | with_reducible refine qO ?_ | ((with_reducible apply dB);exact rfl) | ((with_reducible apply cA);exact rfl;repeat (first | with_reducible exact aat | with_reducible apply aaD | with_reducible apply aaV)) | with_reducible refine R9 ?_ | with_reducible refine xX ?_ | with_reducible refine Y6 ?_ | with_reducible refine R6 ?_ | with_reducible refine YQ (by repeat (first | with_reducible exact S5 | with_reducible apply Ss)) (by repeat (first | with_reducible exact S5 | with_reducible apply Ss)) (by repeat (first | with_reducible exact S5 | with_reducible apply Ss)) ?_ | ((with_reducible apply U9);exact rfl) | ((with_reducible apply Qt);exact rfl) | ((with_reducible apply YF);decide +kernel;(repeat (first | with_reducible exact S5 | with_reducible apply Ss))) | ((with_reducible apply aai);decide +kernel) | ((with_reducible apply Zi);decide +kernel) | ((with_reducible apply aac);decide +kernel) | with_reducible refine Vo ?_ | with_reducible refine HJ ?_ | ((with_reducible apply abO);(with_reducible assumption)) | ((with_reducible apply Km);(with_reducible assumption)) | ((with_reducible apply Jr);(with_reducible assumption)) | ((with_reducible apply R8);(with_reducible assumption)) | ((with_reducible apply Qo);(with_reducible assumption);exact rfl) | ((with_reducible apply X4);(with_reducible assumption);exact rfl) | ((with_reducible apply ZD);(with_reducible assumption);exact rfl;(repeat (first | with_reducible exact aao | with_reducible exact aaI | with_reducible apply Yy))) | ((with_reducible apply zB);exact rfl;(repeat (first | with_reducible exact aat | with_reducible apply aaD | with_reducible apply aaV))) | ((with_reducible apply Oa);exact rfl) | with_reducible refine YG ?_ | with_reducible refine Pj ?_ | with_reducible refine cI ?_ | with_reducible refine aah ?_ | ((with_reducible apply Vp);decide +kernel)))
def zj {r:MM}{mo:ME}(x:mo Z h fun x h1=>Bf h1 x (ma Z h1 fun xs h2=>r x xs h2 Q)):OJ r mo ma Z h Q:=x
def tM {us:List W}(e:h.c n=some (.lst us))(p:P):Bf h (.loc n) P:=by
 simp only [Bf,e];exact p
def sI (hm:∀ R,ma Z h R=R ws h)(hz:agR ws.length 1000=true)(x:∀ g:Gh,g.c h.nx=some (.lst ws)->(∀ n,n≠h.nx->g.c n=h.c n)->g.nx=h.nx+1->Q (.loc h.nx) g):vM ma Z h Q:=by
 unfold vM;rw [hm];exact bC hz<|x _ (Gy _ _) (fun _ e=>uP e) rfl
def JZ {us:List W}(e:h.c n=some (.lst us))(hz:us.length<=1000)(k:∀ g:Gh,g.c n=some (.lst (us++[w]))->(∀ m,m≠n->g.c m=h.c m)->g.nx=h.nx->Q .non g):gP (.loc n) [w] h Q:=
 V2 e (aeD hz (by decide)) (k _ (rO _ _ _) (fun _ e=>mZ e) rfl)
def rng (a m:Nat):List Nat:=List.range' a (m - a)
def NQ {a x:Nat}:x∈rng a m↔a<=x/\x<m:=by
 unfold rng;rw [List.mem_range'_1];omega
def Ad (a m:Nat):wA (a:Int) ((m:Int) - (a:Int)).toNat=(rng a m).map fun x:Nat=>W.int (x:Int):=by
 unfold wA rng;rw [List.range'_eq_map_range,adb,show ((m:Int) - (a:Int)).toNat=m - a by omega];refine aeR fun x _=>?_;simp
def Iw (m:Nat):wA 0 ((m:Nat):Int).toNat=(rng 0 m).map fun x:Nat=>W.int (x:Int):=by
 have:=Ad 0 m
 rw [show ((m:Int) - ((0:Nat):Int)).toNat=((m:Nat):Int).toNat by omega] at this;exact this
def aaJ (R:Src->Gh->Prop):List W->Gh->Prop:=fun ws h=>match ws with
 | [.int i,.int j]=>vC i (vC j (R ⟨wA i (j - i).toNat,none⟩ h))
 | _=>False
def Pk (x:ma Z h (aaJ R)):Rg ma Z h R:=x
def W2 {a:Int}(ha:a=(n:Int))(h1:n<=1000)(h2:m<=1000)(x:R ⟨(rng n m).map fun x:Nat=>W.int (x:Int),none⟩ h):aaJ R [.int a,.int (m:Int)] h:=by
 subst ha;rw [<-Ad] at x;exact vC.mk (by omega) (by omega)<|vC.mk (by omega) (by omega) x
def CG (h2:m<=1000)(x:R ⟨(rng 0 m).map fun x:Nat=>W.int (x:Int),none⟩ h):rgK R [.int (m:Int)] h:=by
 rw [<-Iw] at x;exact vC.mk (by omega) (by omega) x
def nxt (l:List Nat):Nat:=match l.getLast? with
 | none=>0
 | some x=>x+1
def grow (m:Nat)(l:List Nat):List (List Nat):=(rng (nxt l) m).map fun p=>l++[p]
def lV {a x:Nat}(e:(rng a m)[i]?=some x):x=a+i/\x<m:=by
 have hx:=NQ.mp (acO e);unfold rng at e;have hl:=(acD.mp e).1;rw [afv] at hl;rw [acn (by rw [afv];exact hl),List.getElem_range'] at e;have:=acv e
 omega
abbrev Tm:=List Int×Int
def tmW (t:Tm):W:=.tup [.tup (t.1.map .int),.int t.2]
def smW (ts:List Tm):W:=.tup (ts.map tmW)
def Ge (h h':Gh):Prop:=h.nx<=h'.nx/\∀ n,n<h.nx->h'.c n=h.c n
def Pw (ps:List Int):Prop:=∀ p∈ps,0<=p/\p<=60
def Ub {i:Int}(c:YT i j)(x:Q (.int (i^j.toNat)) h):SQ (.int i) (.int j) h Q:=⟨c,x⟩
theorem yq (n:Nat):∀ l:List Int,Los n (l.map .int)
 | []=>by simp [Los]
 | x::l=>by rw [acg,Los];exact ⟨by simp [Lo],yq n l⟩
def kvW (ts:List Tm):List (List Int×W):=ts.map fun t=>(t.1,.int t.2)
def wB (ts:List Tm)(k:List Int)(n:Int):List Tm:=if ts.any (fun t=>decide (t.1=k)) then ts.map (fun t=>if t.1=k then (t.1,n) else t) else ts++[(k,n)]
theorem yW:∀ (ts:List Tm) (k:List Int),wJ (kvW ts) k=((ts.find? fun t=>decide (t.1=k)).map fun t=>W.int t.2)
 | [],k=>rfl
 | t::ts,k=>by
  show wJ ((t.1,.int t.2)::kvW ts) k=_;rw [yH,adM,yW ts k];by_cases e:t.1=k
  ·simp [e]
  ·simp [e]
def Wk (ts:List Tm)(k:List Int)(n:Int):Sx (kvW ts) k (.int n)=kvW (wB ts k n):=by
 have e:(wJ (kvW ts) k).isSome=ts.any fun t=>decide (t.1=k):=by
  rw [yW,Option.isSome_map,aga,List.find?_isSome,aeF]
 unfold Sx wB;rw [e];by_cases c:(ts.any fun t=>decide (t.1=k))=true
 ·rw [if_pos c,if_pos c];unfold kvW;rw [adb,adb];refine aeR fun t _=>?_;simp only [agt];by_cases e:t.1=k
  ·rw [if_pos e,if_pos e]
  ·rw [if_neg e,if_neg e]
 ·rw [if_neg c,if_neg c];simp [kvW]
def DP (ts:List Tm)(k:List Int)(n:Int):(wB ts k n).length<=ts.length+1:=by
 unfold wB;split
 ·rw [acf];omega
 ·simp
def rE (k:List Int):Jb (.tup (k.map .int))=some k:=by
 show rQ (k.map .int)=some k;induction k with
 | nil=>rfl
 | cons a k ih=>rw [acg];simp [rQ,ih]
variable {k : List Int}{ts : List Tm}
def W8 {x:Int}{N:Gh->Prop}(e:h.c n=some (.dtt (kvW ts)))(hz:ts.length<=990)(q:∀ g:Gh,g.c n=some (.dtt (kvW (wB ts k x)))->(∀ m,m≠n->g.c m=h.c m)->g.nx=h.nx->N g):Hw (.loc n) (.tup (k.map .int)) (.int x) h N:=by
 unfold Hw;rw [rE];dsimp only;rw [e];dsimp only;refine fL.mk (acq (m:=1000) (by unfold kvW;rw [acf];omega)<|by decide) ?_;rw [Wk];exact q _ (rO _ _ _) (fun _ e=>mZ e) rfl
variable {t : Tm}
def aae (e:h.c n=some (.dtt (kvW ts)))(f:(ts.find? fun t=>decide (t.1=k))=some t)(q:Q (.int t.2) h):V6 (.loc n) (.tup (k.map .int)) h Q:=by
 unfold V6;rw [rE];dsimp only;rw [e];dsimp only;rw [yW,f];exact q
def Ji (ts:List Tm)(k:List Int)(n:Int)(nd:(ts.map (·.1)).Nodup):((wB ts k n).map (·.1)).Nodup:=by
 unfold wB;split
 ·rw [adb];have e:(((·.1):Tm->List Int) ∘ fun t:Tm=>if t.1=k then (t.1,n) else t)=(·.1):=by
   funext t;simp only [agt];split <;> rfl
  rw [e];exact nd
 ·rename_i c;rw [acB,List.nodup_append];refine ⟨nd,by simp,fun a ha b hb e=>c ?_⟩;simp only [acg,adA,acT] at hb;obtain ⟨t,ht,e2⟩:=acJ.mp ha;rw [aeF];exact ⟨t,ht,by simp [e2,e,hb]⟩
def getM (ts:List Tm)(k:List Int):Int:=((ts.find? fun t=>decide (t.1=k)).map (·.2)).getD 0
def Bq (ts:List Tm)(k:List Int)(v:Int):List Tm:=wB ts k (getM ts k+v)
def nO (ts:List Tm)(ks:List (List Int)):List Tm:=(ks.map fun k=>(k,getM ts k)).filter fun t=>decide (t.2≠0)
def lin (f:List Int->Int)(ts:List Tm):Int:=(ts.map fun t=>f t.1*t.2).sum
def cU (t:Tm)(ts:List Tm)(k:List Int):getM (t::ts) k=if t.1=k then t.2 else getM ts k:=by
 unfold getM;rw [adM];by_cases e:t.1=k
 ·rw [if_pos e,decide_eq_true e];rfl
 ·rw [if_neg e,decide_eq_false e]
def JD (ts us:List Tm)(k:List Int):getM (ts++us) k=if k∈ts.map (·.1) then getM ts k else getM us k:=by
 induction ts with
 | nil=>simp
 | cons t ts ih=>
  rw [afT,cU,cU,ih,acg];by_cases e:t.1=k
  ·rw [if_pos e,if_pos e,if_pos (by simp [e])]
  ·rw [if_neg e,if_neg e];by_cases m:k∈ts.map (·.1)
   ·rw [if_pos m,if_pos (acr _ m)]
   ·rw [if_neg m,if_neg (fun q=>by rcases acA.mp q with q | q;exact e q.symm;exact m q)]
def getM_none (h:k∉ts.map (·.1)):getM ts k=0:=by
 induction ts with
 | nil=>rfl
 | cons t ts ih=>
  rw [acg] at h;rw [cU,if_neg (fun e=>h (by simp [e])),ih fun m=>h (acr _ m)]
def ux (nd:(ts.map (·.1)).Nodup)(h:t∈ts):getM ts t.1=t.2:=by
 induction ts with
 | nil=>cases h
 | cons u ts ih=>
  rw [acg,aep] at nd;rw [cU];rcases acA.mp h with rfl | h
  ·rw [if_pos rfl]
  ·rw [if_neg (fun e=>nd.1 (by rw [e];exact acJ.mpr ⟨t,h,rfl⟩)),ih nd.2 h]
def Ft (ts:List Tm)(k:List Int):(ts.any fun t=>decide (t.1=k))=decide (k∈ts.map (·.1)):=by
 rw [aga,aeF,decide_eq_true_iff,acJ];constructor
 ·rintro ⟨t,ht,e⟩;exact ⟨t,ht,by simpa using e⟩
 ·rintro ⟨t,ht,e⟩;exact ⟨t,ht,by simpa using e⟩
def get_map (ts:List Tm)(k r:List Int)(n:Int):getM (ts.map fun t=>if t.1=k then (t.1,n) else t) r=if r=k/\k∈ts.map (·.1) then n else getM ts r:=by
 induction ts with
 | nil=>simp [getM]
 | cons t ts ih=>
  rw [acg,cU,ih,cU,acg];by_cases e:t.1=k
  ·rw [if_pos e];dsimp only;by_cases q:t.1=r
   ·rw [if_pos q,if_pos ⟨by rw [<-q,e],by simp [e]⟩]
   ·rw [if_neg q,if_neg q,if_neg (fun z=>q (by rw [e,z.1])),if_neg (fun z=>q (by rw [e,z.1]))]
  ·rw [if_neg e];by_cases q:t.1=r
   ·rw [if_pos q,if_pos q,if_neg (fun z=>e (by rw [q,z.1]))]
   ·rw [if_neg q,if_neg q];by_cases m:r=k/\k∈ts.map (·.1)
    ·rw [if_pos m,if_pos ⟨m.1,acr _ m.2⟩]
    ·rw [if_neg m,if_neg (fun z=>m ⟨z.1,by rcases acA.mp z.2 with y | y;exact absurd y.symm e;exact y⟩)]
def wG (n:Int)(h:k∈ts.map (·.1)):wB ts k n=ts.map fun t=>if t.1=k then (t.1,n) else t:=by
 unfold wB;rw [Ft,if_pos (by simpa using h)]
def rH (n:Int)(h:k∉ts.map (·.1)):wB ts k n=ts++[(k,n)]:=by
 unfold wB;rw [Ft,if_neg (by simpa using h)]
def Qa (ts:List Tm)(k r:List Int)(n:Int):getM (wB ts k n) r=if r=k then n else getM ts r:=by
 by_cases h:k∈ts.map (·.1)
 ·rw [wG n h,get_map];by_cases q:r=k
  ·rw [if_pos q,if_pos ⟨q,h⟩]
  ·rw [if_neg q,if_neg (fun z=>q z.1)]
 ·rw [rH n h,JD];by_cases q:r=k
  ·rw [if_pos q,q,if_neg h,cU,if_pos rfl]
  ·rw [if_neg q];by_cases m:r∈ts.map (·.1)
   ·rw [if_pos m]
   ·rw [if_neg m,cU,if_neg (aes q),getM_none m];rfl
def Lz (ts:List Tm)(k r:List Int)(v:Int):getM (Bq ts k v) r=getM ts r+if r=k then v else 0:=by
 unfold Bq;rw [Qa];by_cases q:r=k
 ·rw [if_pos q,if_pos q,q]
 ·rw [if_neg q,if_neg q,Int.add_zero]
def keys_map (ts:List Tm)(k:List Int)(n:Int):(ts.map fun t=>if t.1=k then (t.1,n) else t).map (·.1)=ts.map (·.1):=by
 rw [adb];refine aeR fun t _=>?_;simp only [agt];split <;> rfl
def nU (ts:List Tm)(k:List Int)(v:Int):(Bq ts k v).map (·.1)=if k∈ts.map (·.1) then ts.map (·.1) else ts.map (·.1)++[k]:=by
 unfold Bq;by_cases h:k∈ts.map (·.1)
 ·rw [wG _ h,keys_map,if_pos h]
 ·rw [rH _ h,if_neg h,acB];rfl
variable {v : Int}
def vA (nd:(ts.map (·.1)).Nodup):((Bq ts k v).map (·.1)).Nodup:=Ji ts k _ nd
def bJ (f:List Int->Int)(t:Tm)(ts:List Tm):lin f (t::ts)=f t.1*t.2+lin f ts:=by unfold lin;simp
def jL (f:List Int->Int)(ts us:List Tm):lin f (ts++us)=lin f ts+lin f us:=by unfold lin;simp
variable {f : List Int->Int}
theorem Fz {f:List Int->Int}{k:List Int}{n:Int}:∀ {ts:List Tm},(ts.map (·.1)).Nodup->k∈ts.map (·.1)->lin f (ts.map fun t=>if t.1=k then (t.1,n) else t)=lin f ts+f k*(n - getM ts k)
 | t::ts,nd,h=>by
  rw [acg,aep] at nd;rw [acg,bJ,bJ,cU];by_cases e:t.1=k
  ·have no:k∉ts.map (·.1):=e ▸ nd.1;have em:(ts.map fun t=>if t.1=k then (t.1,n) else t)=ts:=by
    refine (aeR fun u hu=>?_).trans (List.map_id _);rw [if_neg (fun q=>no (by rw [<-q];exact acJ.mpr ⟨u,hu,rfl⟩))];rfl
   rw [if_pos e,if_pos e,em];dsimp only;rw [e];grind
  ·rw [if_neg e,if_neg e,Fz nd.2 (by rcases acA.mp h with q | q;exact absurd q.symm e;exact q)];omega
def Ir (nd:(ts.map (·.1)).Nodup):lin f (Bq ts k v)=lin f ts+f k*v:=by
 unfold Bq;by_cases h:k∈ts.map (·.1)
 ·rw [wG _ h,Fz nd h];grind
 ·rw [rH _ h,jL,getM_none h];unfold lin;simp
def Jm {a b:List Int}(p:a.Perm b):a.sum=b.sum:=by
 induction p with
 | nil=>rfl
 | cons x _ ih=>simp only [List.sum_cons,ih]
 | swap x y l=>simp only [List.sum_cons];omega
 | trans _ _ ih1 ih2=>exact ih1.trans ih2
theorem lN (f:List Int->Int):∀ ts:List Tm,lin f (ts.filter fun t=>decide (t.2≠0))=lin f ts
 | []=>rfl
 | t::ts=>by
  rw [aeE];by_cases e:t.2=0
  ·rw [if_neg (by simp [e]),lN f ts,bJ,e];omega
  ·rw [if_pos (by simp [e]),bJ,bJ,lN f ts]
variable {ks : List (List Int)}{D : List Tm}
def Rh (nd:(D.map (·.1)).Nodup)(p:ks.Perm (D.map (·.1))):lin f (nO D ks)=lin f D:=by
 unfold nO;rw [lN];unfold lin;rw [adb,Jm (p.map _),adb];congr 1
 refine aeR fun t ht=>?_;simp only [agt];rw [ux nd ht]
def Nr {u:Tm}(nd:(D.map (·.1)).Nodup)(p:∀ k∈ks,k∈D.map (·.1))(h:u∈nO D ks):u∈D/\u.2≠0:=by
 unfold nO at h;obtain ⟨h1,h2⟩:=List.mem_filter.mp h;obtain ⟨k,hk,rfl⟩:=acJ.mp h1;obtain ⟨t,ht,rfl⟩:=acJ.mp (p k hk);rw [ux nd ht] at h2 |-
 exact ⟨ht,by simpa using h2⟩
def Nz (D:List Tm)(ks:List (List Int)):(nO D ks).length<=ks.length:=by
 unfold nO;exact acq (List.length_filter_le _ _) (by rw [acf];exact acj _)
def Gx (h:ks.Pairwise (· < ·)):((nO D ks).map (·.1)).Pairwise (· < ·):=by
 unfold nO;rw [aem];refine List.Pairwise.filter _ ?_;rw [aem];exact h
def fJ (h:ks.Pairwise (· < ·)):ks.Nodup:=by
 unfold List.Nodup;refine h.imp fun {a b} h e=>?_;rw [e] at h;exact afO _ h
def fr (l:Nat)(x:Int)(r k:List Int):Int:=if r=k.set l 0 then x^(k.getD l 0).toNat else 0
def snoc_ind {α : Type}{P:List α->Prop}(h0:P [])(h1:∀ ts t,P ts->P (ts++[t]))(ts:List α):P ts:=by
 have:∀ us:List α,P us.reverse:=fun us=>by
  induction us with
  | nil=>exact h0
  | cons a us ih=>rw [agk];exact h1 _ _ ih
 have:=this ts.reverse
 rwa [List.reverse_reverse] at this
def Nh (e:h.c n=some (.dtt (kvW ts)))(m:k∈ts.map (·.1))(q:Q (.int (getM ts k)) h):V6 (.loc n) (.tup (k.map .int)) h Q:=by
 cases f:ts.find? fun t=>decide (t.1=k) with
 | none=>
  obtain ⟨t,ht,e⟩:=acJ.mp m;exact absurd (List.find?_eq_none.mp f t ht)<|by simp [e]
 | some t=>
  have eg:getM ts k=t.2:=by unfold getM;rw [f];rfl
  rw [eg] at q;exact aae e f q
variable {L : Nat}
def J8 (nd:(ts.map (·.1)).Nodup)(hL:∀ t∈ts,t.1.length=L):Cq (ts.map (·.1)):=by
 intro h2 k hk e;obtain ⟨t,ht,e1⟩:=acJ.mp hk;have L0:L=0:=by rw [<-hL t ht,e1,e];rfl
 have all:∀ k∈ts.map (·.1),k=[]:=fun k hk=>by
  obtain ⟨u,hu,e2⟩:=acJ.mp hk;rw [<-e2];exact adk<|by rw [hL u hu,L0]
 generalize ts.map (·.1)=ks at nd h2 all;match ks,nd,h2,all with
 | a::b::r,nd,_,all=>
  have ea:=all a (by simp);have eb:=all b (by simp);rw [ea,eb] at nd;simp at nd
 | [_],_,h2,_=>simp at h2
 | [],_,h2,_=>simp at h2
def Pv (ps:List Int):Prop:=∀ p∈ps,0<=p/\p<=61
def JR (us:List W)(k:Nat):yJ us (some (k:Int)) none=us.drop k:=by
 unfold yJ;rw [HT.Qx,HT.K4];by_cases h:k<=us.length
 ·rw [Nat.min_eq_left h,aev (by rw [List.length_drop];exact acj _)]
 ·rw [Nat.min_eq_right (by omega),List.drop_length,List.drop_of_length_le (by omega)];simp
def wk {Q:Option Int->Gh->Prop}(x:Q none h):pY Z h Q:=x
def XQ (e:h.c n=some (.dtt (kvW ts)))(q:Q (.int (getM ts k)) h):Dq (.loc n) [.tup (k.map .int),.int 0] h Q:=by
 unfold Dq;dsimp only;rw [e,rE];dsimp only;rw [yW];have:(((ts.find? fun t=>decide (t.1=k)).map fun t=>W.int t.2).getD (.int 0))=.int (getM ts k):=by
  unfold getM;cases ts.find? fun t=>decide (t.1=k) <;> rfl
 rw [this];exact q
def NZ {kvs:List (List Int×W)}(e:h.c n=some (.dtt kvs))(p:P):IK h (.loc n) P:=by
 unfold IK;dsimp only;rw [e];exact p
def UL {r:MM}{mo:ME}(x:mo Z h fun x h1=>IK h1 x (ma Z h1 fun xs h2=>r x xs h2 Q)):YZ r mo ma Z h Q:=x
def aaj (n:Nat)(t:Tm):Lo n (tmW t):=by
 unfold tmW;simp only [Lo,Los];exact ⟨yq _ _,trivial,trivial⟩
theorem Np (n:Nat):∀ ts:List Tm,Los n (ts.map tmW)
 | []=>by simp [Los]
 | t::ts=>by rw [acg,Los];exact ⟨aaj n t,Np n ts⟩
def YL (n:Nat)(ts:List Tm):Lo n (smW ts):=by unfold smW;rw [Lo];exact Np n ts
def pack (k:List Int):Int:=k.foldl (fun a p=>a*65536+p) 0
def Kb (L:Nat)(k:List Int):Prop:=k.length=L/\∀ p∈k,0<=p/\p<=100
def cW (k:List Int)(p:Int):pack (k++[p])=pack k*65536+p:=by unfold pack;rw [List.foldl_append];rfl
def oG {p:Int}(h:Kb (L+1) (k++[p])):Kb L k/\0<=p/\p<=100:=by
 refine ⟨⟨by have:=h.1;simp at this;omega,fun q hq=>h.2 q<|adQ _ hq⟩,h.2 p<|by simp⟩
def jK (h:k.length=L+1):∃ (a:List Int) (p:Int),k=a++[p]:=by
 refine ⟨k.dropLast,k.getLast (by intro e;rw [e] at h;simp at h),?_⟩;exact (List.dropLast_concat_getLast _).symm
theorem j4:∀ {L:Nat} {k l:List Int},Kb L k->Kb L l->pack k=pack l->k=l
 | 0,k,l,h1,h2,_=>by rw [adk h1.1,adk h2.1]
 | L+1,k,l,h1,h2,e=>by
  obtain ⟨a,p,rfl⟩:=jK h1.1;obtain ⟨b,q,rfl⟩:=jK h2.1;obtain ⟨ha,p0,p1⟩:=oG h1;obtain ⟨hb,q0,q1⟩:=oG h2;rw [cW,cW] at e;have e1:pack a=pack b:=by omega
  have e2:p=q:=by omega
  rw [j4 ha hb e1,e2]
theorem Hf:∀ {a b:List Int} {p q:Int},a.length=b.length->(a++[p]<b++[q]↔a<b\/a=b/\p<q)
 | [],[],p,q,_=>by simp [adJ]
 | [],_::_,_,_,h=>by simp at h
 | _::_,[],_,_,h=>by simp at h
 | x::a,y::b,p,q,h=>by
  have ih:=Hf (a:=a) (b:=b) (p:=p) (q:=q) (by simpa using h);rw [afT,afT,adJ,adJ,ih];constructor
  ·rintro (h | ⟨h1,h2 | ⟨h2,h3⟩⟩)
   ·exact .inl<|.inl h
   ·exact .inl<|.inr ⟨h1,h2⟩
   ·exact .inr ⟨by rw [h1,h2],h3⟩
  ·rintro ((h | ⟨h1,h2⟩) | ⟨h1,h2⟩)
   ·exact .inl h
   ·exact .inr ⟨h1,.inl h2⟩
   ·obtain ⟨e1,e2⟩:=aeB h1;exact .inr ⟨e1,.inr ⟨e2,h2⟩⟩
theorem Ig:∀ {L:Nat} {k l:List Int},Kb L k->Kb L l->(k<l↔pack k<pack l)
 | 0,k,l,h1,h2=>by
  rw [adk h1.1,adk h2.1];constructor
  ·intro h;exact absurd h (afO _)
  ·intro h;exact absurd h (Int.lt_irrefl _)
 | L+1,k,l,h1,h2=>by
  obtain ⟨a,p,rfl⟩:=jK h1.1;obtain ⟨b,q,rfl⟩:=jK h2.1;obtain ⟨ha,p0,p1⟩:=oG h1;obtain ⟨hb,q0,q1⟩:=oG h2;have ih:=Ig ha hb;rw [Hf (by rw [ha.1,hb.1]),cW,cW];constructor
  ·rintro (h | ⟨h,h'⟩)
   ·have:=ih.mp h;omega
   ·rw [h];omega
  ·intro h;rcases Int.lt_trichotomy (pack a) (pack b) with c | c | c
   ·exact .inl<|ih.mpr c
   ·exact .inr ⟨j4 ha hb c,by omega⟩
   ·omega
def iu (k l:List Int):List Int:=List.zipWith (· + ·) k l
def zu {l:List Int}(h:k.length=l.length):(iu k l).length=k.length:=by unfold iu;rw [List.length_zipWith,h,Nat.min_self]
theorem wu:∀ {k l:List Int} {p q:Int},k.length=l.length->iu (k++[p]) (l++[q])=iu k l++[p+q]
 | [],[],p,q,_=>rfl
 | [],_::_,_,_,h=>by simp at h
 | _::_,[],_,_,h=>by simp at h
 | x::a,y::b,p,q,h=>by
  show (x+y)::iu (a++[p]) (b++[q])=(x+y)::(iu a b++[p+q]);rw [wu (by simpa using h)]
theorem Ag:∀ {L:Nat} {k l:List Int},k.length=L->l.length=L->pack (iu k l)=pack k+pack l
 | 0,k,l,h1,h2=>by rw [adk h1,adk h2];rfl
 | L+1,k,l,h1,h2=>by
  obtain ⟨a,p,rfl⟩:=jK h1;obtain ⟨b,q,rfl⟩:=jK h2;have la:a.length=L:=by simpa using h1
  have lb:b.length=L:=by simpa using h2
  rw [wu (by rw [la,lb]),cW,cW,cW,Ag la lb];omega
theorem uy:∀ {k l:List Int} {p:Int},p∈iu k l->∃ a∈k,∃ b∈l,p=a+b
 | [],_,_,h=>by simp [iu] at h
 | _::_,[],_,h=>by simp [iu] at h
 | a::k,b::l,p,h=>by
  have h:p∈(a+b)::iu k l:=h;rcases acA.mp h with rfl | h
  ·exact ⟨a,by simp,b,by simp,rfl⟩
  ·obtain ⟨x,hx,y,hy,e⟩:=uy h;exact ⟨x,acr _ hx,y,acr _ hy,e⟩
theorem xR:∀ {L:Nat} {k:List Int},Kb L k->0<=pack k/\(pack k).natAbs<2^(16*L)
 | 0,k,h=>by rw [adk h.1];exact ⟨Int.le_refl _,by decide⟩
 | L+1,k,h=>by
  obtain ⟨a,p,rfl⟩:=jK h.1;obtain ⟨ha,p0,p1⟩:=oG h;obtain ⟨i0,i1⟩:=xR ha;rw [cW,Nat.mul_succ,aeJ];generalize 2^(16*L)=A at *;have:(2:Nat)^16=65536:=rfl
  rw [this];omega
def mulR (k:List Int)(n:Int)(vs:List Tm)(D:List Tm):List Tm:=vs.foldl (fun D s=>Bq D (iu k s.1) (n*s.2)) D
def lF (us vs:List Tm):List Tm:=us.foldl (fun D t=>mulR t.1 t.2 vs D) []
def eV (k:List Int)(n:Int)(vs D:List Tm)(s:Tm):mulR k n (vs++[s]) D=Bq (mulR k n vs D) (iu k s.1) (n*s.2):=by unfold mulR;rw [List.foldl_append];rfl
def fu (us vs:List Tm)(t:Tm):lF (us++[t]) vs=mulR t.1 t.2 vs (lF us vs):=by unfold lF;rw [List.foldl_append];rfl
variable {vs : List Tm}
def Dr {n:Int}(h:(D.map (·.1)).Nodup):((mulR k n vs D).map (·.1)).Nodup:=by
 refine snoc_ind (P:=fun vs=>((mulR k n vs D).map (·.1)).Nodup) h (fun vs t ih=>?_) vs;rw [eV];exact vA ih
def mH (us vs:List Tm):((lF us vs).map (·.1)).Nodup:=by
 refine snoc_ind (P:=fun us=>((lF us vs).map (·.1)).Nodup) List.nodup_nil (fun us t ih=>?_) us;rw [fu];exact Dr ih
def yU (k:List Int)(n:Int)(vs D:List Tm):(mulR k n vs D).length<=D.length+vs.length:=by
 refine snoc_ind (P:=fun vs=>(mulR k n vs D).length<=D.length+vs.length) (acj _) (fun vs t ih=>?_) vs;rw [eV,acH,agr];exact acq (DP ..)<|by omega
def uo (us vs:List Tm):(lF us vs).length<=us.length*vs.length:=by
 refine snoc_ind (P:=fun us=>(lF us vs).length<=us.length*vs.length) (adu _) (fun us t ih=>?_) us;rw [fu,acH,agr,Nat.add_mul,Nat.one_mul];exact acq (yU ..)<|by omega
def dl (r k:List Int):Int:=if k=r then 1 else 0
def Jq (k:List Int)(n:Int)(r:List Int)(D vs:List Tm):getM (mulR k n vs D) r=getM D r+n*lin (fun l=>dl r (iu k l)) vs:=by
 refine snoc_ind (P:=fun vs=>getM (mulR k n vs D) r=getM D r+n*lin (fun l=>dl r<|iu k l) vs) (by show getM D r=getM D r+n*0;omega) (fun vs t ih=>?_) vs;rw [eV,Lz,jL,ih];show _=_+n*(_+lin (fun l=>dl r (iu k l)) [t]);rw [bJ];show _=_+n*(_+(dl r (iu k t.1)*t.2+0));unfold dl;by_cases c:iu k t.1=r
 ·rw [if_pos c.symm,if_pos c];grind
 ·rw [if_neg (aes c),if_neg c];grind
def Jc (r:List Int)(us vs:List Tm):getM (lF us vs) r=lin (fun k=>lin (fun l=>dl r (iu k l)) vs) us:=by
 refine snoc_ind (P:=fun us=>getM (lF us vs) r=lin (fun k=>lin (fun l=>dl r<|iu k l) vs) us) rfl (fun us t ih=>?_) us;rw [fu,Jq,ih,jL,bJ];show _=_+(_+0);rw [Int.add_zero,afC]
theorem pI (f:List Int->Int)(c:Int):∀ us:List Tm,lin (fun k=>f k*c) us=lin f us*c
 | []=>by show (0:Int)=0*c;omega
 | t::us=>by rw [bJ,bJ,pI f c us];grind
def wF (D rs:List Tm):Prop:=∃ ks:List (List Int),ks.Perm (D.map (·.1))/\ks.Pairwise (· < ·)/\rs=nO D ks
def Ms (L:Nat)(us:List Tm):Prop:=us.length<=210/\(us.map (·.1)).Pairwise (· < ·)/\∀ t∈us,t.1.length=L/\t.2≠0/\Sm 1000 t.2/\∀ p∈t.1,0<=p/\p<=40
def DK {l:List Int}(hk:k.length=L/\∀ p∈k,0<=p/\p<=40)(hl:l.length=L/\∀ p∈l,0<=p/\p<=40):Kb L (iu k l):=by
 refine ⟨by rw [zu<|by rw [hk.1,hl.1],hk.1],fun p hp=>?_⟩;obtain ⟨a,ha,b,hb,rfl⟩:=uy hp;have:=hk.2 a ha
 have:=hl.2 b hb
 omega
def Eu (ht:t.1.length=L/\∀ p∈t.1,0<=p/\p<=40)(hv:∀ t∈vs,t.1.length=L/\∀ p∈t.1,0<=p/\p<=40)(hD:∀ k∈D.map (·.1),Kb L k):∀ k∈(mulR t.1 t.2 vs D).map (·.1),Kb L k:=by
 revert hv
 refine snoc_ind (P:=fun vs=>(∀ t∈vs,t.1.length=L/\∀ p∈t.1,0<=p/\p<=40)->∀ k∈(mulR t.1 t.2 vs D).map (·.1),Kb L k) (fun _=>hD) (fun vs s ih hv k hk=>?_) vs;rw [eV,nU] at hk;have hk:k∈(mulR t.1 t.2 vs D).map (·.1)\/k=iu t.1 s.1:=by
  split at hk
  ·exact .inl hk
  ·rcases adn.mp hk with hk | hk
   ·exact .inl hk
   ·exact .inr<|acT.mp hk
 rcases hk with hk | rfl
 ·exact ih (fun u hu=>hv u<|adQ _ hu) k hk
 ·exact DK ht<|hv s<|by simp
variable {us : List Tm}
def uJ (hu:∀ t∈us,t.1.length=L/\∀ p∈t.1,0<=p/\p<=40)(hv:∀ t∈vs,t.1.length=L/\∀ p∈t.1,0<=p/\p<=40):∀ k∈(lF us vs).map (·.1),Kb L k:=by
 revert hu
 refine snoc_ind (P:=fun us=>(∀ t∈us,t.1.length=L/\∀ p∈t.1,0<=p/\p<=40)->∀ k∈(lF us vs).map (·.1),Kb L k) (fun _ k hk=>by simp [lF] at hk) (fun us t ih hu=>?_) us;rw [fu];exact Eu (hu t<|by simp) hv<|ih fun u h=>hu u<|adQ _ h
def ikv (D:List Tm):List (Key×W):=D.map fun t=>(.inl (pack t.1),.int t.2)
def GZ (hD:∀ j∈D.map (·.1),Kb L j)(hk:Kb L k):qu (ikv D) (.inl (pack k))=((D.find? fun t=>decide (t.1=k)).map fun t=>W.int t.2):=by
 unfold qu ikv;induction D with
 | nil=>rfl
 | cons t D ih=>
  have ih:=ih fun j hj=>hD j (by rw [acg];exact acr _ hj)
  rw [acg,adM,adM];by_cases c:t.1=k
  ·rw [decide_eq_true c,decide_eq_true (by rw [c])];rfl
  ·rw [decide_eq_false c,decide_eq_false (fun e=>c (j4 (hD t.1 (by simp)) hk (Sum.inl.inj e)))];exact ih
def RN (hD:∀ j∈D.map (·.1),Kb L j)(hk:Kb L k):(qu (ikv D) (.inl (pack k))).getD (.int 0)=.int (getM D k):=by
 rw [GZ hD hk];unfold getM;cases D.find? fun t=>decide (t.1=k) <;> rfl
def RV {n:Int}(hD:∀ j∈D.map (·.1),Kb L j)(hk:Kb L k):MK (ikv D) (.inl (pack k)) (.int n)=ikv (wB D k n):=by
 have ea:((ikv D).any fun kv=>decide (kv.1=Sum.inl (pack k)))=D.any fun t=>decide (t.1=k):=by
  unfold ikv;rw [List.any_map,aga,aeF,aeF];constructor
  ·rintro ⟨t,ht,e⟩;simp only [agt,decide_eq_true_iff] at e;exact ⟨t,ht,decide_eq_true<|j4 (hD t.1<|acJ.mpr ⟨t,ht,rfl⟩) hk<|Sum.inl.inj e⟩
  ·rintro ⟨t,ht,e⟩;rw [decide_eq_true_iff] at e;exact ⟨t,ht,by simp [e]⟩
 unfold MK wB;rw [ea];by_cases c:(D.any fun t=>decide (t.1=k))=true
 ·rw [if_pos c,if_pos c];unfold ikv;rw [adb,adb];refine aeR fun t ht=>?_;simp only [agt];by_cases e:t.1=k
  ·rw [if_pos e,if_pos (by rw [e])]
  ·rw [if_neg e,if_neg (fun z=>e (j4 (hD t.1 (acJ.mpr ⟨t,ht,rfl⟩)) hk (Sum.inl.inj z)))]
 ·rw [if_neg c,if_neg c];simp [ikv]
theorem Fg:∀ {ks js:List Int},ks.Perm js->ks.Pairwise (· < ·)->js.Pairwise (· < ·)->ks=js
 | [],js,p,_,_=>p.symm.eq_nil.symm
 | a::ks,[],p,_,_=>p.eq_nil
 | a::ks,b::js,p,h1,h2=>by
  have e:a=b:=by
   have ma:a∈b::js:=p.mem_iff.mp (acF ..);have mb:b∈a::ks:=p.mem_iff.mpr (acF ..);rcases acA.mp ma with e | ma
   ·exact e
   ·rcases acA.mp mb with e | mb
    ·exact e.symm
    ·have:=(aeo.mp h1).1 b mb
     have:=(aeo.mp h2).1 a ma
     omega
  subst e;rw [Fg (List.Perm.cons_inv p) (aeo.mp h1).2 (aeo.mp h2).2]
def PB (a:List Int):List (List Int)->List (List Int)
 | []=>[a]
 | b::l=>if a<b then a::b::l else b::PB a l
theorem oZ (a:List Int):∀ l,(PB a l).Perm (a::l)
 | []=>.refl _
 | b::l=>by
  unfold PB;split
  ·exact .refl _
  ·exact (List.Perm.cons b<|oZ a l).trans (List.Perm.swap a b l)
theorem z7 {a:List Int}:∀ {l:List (List Int)},l.Pairwise (· < ·)->a∉l->(PB a l).Pairwise (· < ·)
 | [],_,_=>by simp [PB]
 | b::l,h,n=>by
  rw [aeo] at h;unfold PB;split
  ·rename_i c;rw [aeo];refine ⟨fun x hx=>?_,aeo.mpr h⟩;rcases acA.mp hx with rfl | hx
   ·exact c
   ·exact List.lt_trans c<|h.1 x hx
  ·rename_i c;rw [aeo];refine ⟨fun x hx=>?_,z7 h.2 fun m=>n<|acr _ m⟩;rcases acA.mp ((oZ a l).mem_iff.mp hx) with rfl | hx
   ·rcases List.le_iff_lt_or_eq.mp (List.not_lt.mp c) with h | h
    ·exact h
    ·exact absurd (by rw [h];exact acF ..) n
   ·exact h.1 x hx
theorem QC:∀ (l:List (List Int)),l.Nodup->∃ ks:List (List Int),ks.Perm l/\ks.Pairwise (· < ·)
 | [],_=>⟨[],.refl _,.nil⟩
 | a::l,nd=>by
  rw [aep] at nd;obtain ⟨ks,p,s⟩:=QC l nd.2;exact ⟨PB a ks,(oZ a ks).trans (p.cons a),z7 s fun m=>nd.1<|p.mem_iff.mp m⟩
def PkX (c0:MSp):Prop:=∀ {h:Gh} {k:List Int} {L:Nat} {Q:WK} {E:XWK},Kb L k->L<=8->Q (.int (pack k)) h->c0 [.tup (k.map .int)] h Q E
def mL {b:MS}{D:bV}(hv:Z[i]?=some (some (.tup ws)))(x:iD ⟨ws,none⟩ g b D ws Z h):oX (nIt (aA i)) g b D Z h:=iw (gw (ak hv (qz rfl (iB x))))
def Er (h:Kb L k)(i:Nat):Kb (min i L) (k.take i):=⟨by rw [aeb,h.1],fun p hp=>h.2 p (afk hp)⟩
def Tf:PkX uf:=by
 intro h k L Q E hk hL q;unfold uf;refine cA rfl (Z:=[some<|.tup<|k.map .int,none,none]) rfl<|aH<|aP<|aU ?_
 refine nV<|bw ?_
 refine aH ?_;refine mL (ws:=k.map .int) rfl ?_;refine cZ (fun i Z h'=>h'=h/\∃ s2:Option W,Z = [some<|.tup<|k.map .int,some<|.int<|pack<|k.take i,s2]) ?_ ?_ ⟨rfl,none,rfl⟩
 ·rintro i w Z h' N hN e ⟨rfl,s2,rfl⟩;obtain ⟨p,ep,rfl⟩:=ints_get e;have sp:=(xR (Er hk i)).2;have s1:Sm 128 (pack (k.take i)):=acp sp (afL (by decide) (by omega));refine nV ?_;refine aP<|aD<|aD<|ak rfl<|aU<|bH (.of s1 (n:=64) (.lit rfl) (by decide)<|by decide)<|ak rfl<|fG ?_
  refine mK (Z':=[some<|.tup<|k.map .int,some<|.int<|pack<|k.take<|i+1,some<|.int p]) ?_<|bw<|hN _ _ ⟨rfl,_,rfl⟩
  rw [adl,ep];show _=[some (W.tup (k.map .int)),some (.int (pack (k.take i++[p]))),some (.int p)];rw [cW];rfl
 ·rintro Z h' ⟨rfl,s2,rfl⟩;rw [acf,adf];unfold rC;exact bw<|aX<|ak rfl<|gH q
def UnX (c0:MSp):Prop:=∀ {h:Gh} {k:List Int} {L:Nat} {Q:WK} {E:XWK},Kb L k->L<=8->Q (.tup (k.map .int)) h->c0 [.int (pack k),.int (L:Int)] h Q E
def Kz (h:Kb L k)(hi:i<L):(pack (k.take (L - i))).fmod 65536=k.getD (L - 1 - i) 0/\(pack (k.take (L - i))).fdiv 65536=pack (k.take (L - (i+1))):=by
 have lk:=h.1;have e1:L - i=(L - 1 - i)+1:=by omega
 have e2:L - (i+1)=L - 1 - i:=by omega
 have ek:k[L - 1 - i]?=some (k[L - 1 - i]'(by omega)):=acn (by omega);have hb:=h.2 (k[L - 1 - i]'(by omega)) (afa (by omega));rw [e2,e1,adl,ek];show (pack (k.take (L - 1 - i)++[k[L - 1 - i]'(by omega)])).fmod 65536=_/\(pack (k.take (L - 1 - i)++[k[L - 1 - i]'(by omega)])).fdiv 65536=_;rw [cW,acQ,ek];have:=(xR (Er h (L - 1 - i))).1
 rw [dW (by decide),tO (by decide)];constructor
 ·show _=k[L - 1 - i]'(by omega);omega
 ·omega
def Zg {us:List W}(hv:Z[i]?=some (some (.loc n)))(e:h.c n=some (.lst us))(x:Q (.tup us.reverse) h):xJ (aA i) Z h Q:=by
 refine ak hv ?_;show (match d7 h (.loc n) with
  | some us=>Q (.tup us.reverse) h
  | none=>False)
 rw [vB e];exact x
def dg (k:List Int)(L i:Nat):List Int:=(aeZ i).map fun j=>k.getD (L - 1 - j) 0
def W6 (h:k.length=L):(dg k L L).reverse=k:=by
 have ll:(dg k L L).length=L:=by unfold dg;simp
 refine List.ext_getElem (by rw [List.length_reverse,ll,h]) fun j h1 h2=>?_;rw [List.getElem_reverse];simp only [dg,List.getElem_map,List.getElem_range,acf,List.length_range];have:L - 1 - (L - 1 - j)=j:=by omega
 rw [this,acQ,acn h2];rfl
set_option maxHeartbeats 1000000 in
def Y5:UnX lY:=by
 intro h k L Q E hk hL q;unfold lY;refine zB rfl (Z:=[some<|.int<|pack k,some<|.int L,none,none]) rfl ?_;refine aH<|aP<|sI (ws:=[]) (fun R=>rfl) rfl fun g eg og xg=>?_
 refine nV<|bw ?_
 refine aH ?_;refine Qd (j:=(L:Int)) (fun _=>rfl) (by omega) (by omega) (fun i Z h'=>i<=L/\∃ s3:Option W,Z = [some<|.int<|pack<|k.take<|L - i,some<|.int L,some<|.loc h.nx,s3]/\h'.c h.nx=some (.lst<|(dg k L i).map .int)/\∀ n,n≠h.nx->h'.c n=h.c n) ?_ ?_ ⟨adu _,none,by rw [Nat.sub_zero,aev (by rw [hk.1];exact acj _)],eg,og⟩
 ·rintro i Z h' N hN hi ⟨_,s3,rfl,e2,o2⟩;have hi:i<L:=by omega
  obtain ⟨u1,u2⟩:=Kz hk hi;refine nV ?_;refine aH<|mO<|zj<|ak rfl<|tM e2<|aj<|aD<|ak rfl<|aU<|yG (by decide)<|aq ?_
  refine JZ e2 (by rw [acf];unfold dg;simp;omega) fun g2 a1 a2 a3=>bw ?_;refine aP<|aD<|ak rfl<|aU<|Mx ⟨by decide,64,by decide,.lit rfl⟩ ?_
  rw [u2];refine nV<|bw ?_
  refine hN _ _ ⟨by omega,_,rfl,?_,fun n hn=>by rw [a2 n hn];exact o2 n hn⟩;rw [a1,u1];unfold dg;rw [List.range_succ,acB,acB];rfl
 ·rintro Z h' ⟨_,s3,rfl,e2,o2⟩;have eL:(L:Int).toNat=L:=by omega
  rw [eL] at e2;unfold mY;refine bw<|aX<|Zg rfl e2 ?_
  rw [<-List.map_reverse,W6 hk.1];exact ⟨fun n c hn ec=>by rw [o2 n<|by omega];exact ec,.inl ⟨by rw [Lo];exact yq _ _,q⟩⟩
def ptW (t:Tm):W:=.tup [.int (pack t.1),.int t.2]
def PtX (c0:MSp):Prop:=∀ {h:Gh} {us:List Tm} {L:Nat} {Q:WK} {E:XWK},(∀ t∈us,Kb L t.1)->us.length<=1000->L<=8->Q (.lst (us.map ptW)) h->c0 [smW us] h Q E
def abr {pk:MSp}(hpk:PkX pk):PtX (gq pk):=by
 intro h us L Q E hu hz hL q;unfold gq;refine cA rfl (Z:=[some<|smW us]) rfl<|aX<|gj<|gw<|ak rfl<|qz (ws:=us.map tmW) (o:=none) rfl<|fL.mk (acq (m:=1000) (by rw [acf];exact hz)<|by decide) ?_
 refine dF (fun i acc g=>g=h/\acc=(us.take i).map ptW) ?_ ?_ ⟨rfl,rfl⟩
 ·rintro i w acc g N hN e ⟨rfl,rfl⟩;rw [acu] at e;cases qe:us[i]? with
  | none=>rw [qe] at e;cases e
  | some t=>
   rw [qe] at e;cases e;refine ⟨[.tup<|t.1.map .int,.int t.2],rfl,bG<|bD<|cQ<|aj<|aB<|aj<|ak rfl<|aq ?_⟩;refine hpk (hu t<|acO qe) hL<|aj<|ak rfl<|aq<|bC rfl<|hN _ _ ⟨rfl,?_⟩
   rw [adl,qe,acB];rfl
 ·rintro acc g ⟨rfl,rfl⟩;rw [acf,adf];exact gH q
def Ma (e:h.c n=some (.dct (ikv D)))(hD:∀ j∈D.map (·.1),Kb L j)(m:k∈D.map (·.1))(q:Q (.int (getM D k)) h):Sg (.loc n) (.int (pack k)) h Q:=by
 show (match h.c n with
  | some (.dct kvs)=>(match qu kvs (.inl (pack k)) with
   | some w=>Q w h
   | none=>False)
  | _=>False)
 rw [e];show (match qu (ikv D) (.inl (pack k)) with
  | some w=>Q w h
  | none=>False)
 rw [GZ hD (hD k m)];cases f:D.find? fun t=>decide (t.1=k) with
 | none=>
  obtain ⟨t,ht,e⟩:=acJ.mp m;exact absurd (List.find?_eq_none.mp f t ht)<|by simp [e]
 | some t=>
  have eg:getM D k=t.2:=by unfold getM;rw [f];rfl
  rw [eg] at q;exact q
def itW (t:Tm):W:=.tup [.int (pack t.1),.int t.2]
def aaO (c0:MSp):Prop:=∀ {h:Gh} {n:Nat} {D:List Tm} {L:Nat} {Q:WK} {E:XWK},h.c n=some (.dct (ikv D))->(∀ j∈D.map (·.1),Kb L j)->(D.map (·.1)).Nodup->D.length<=30000->(∀ rs,wF D rs->(rs.length<=600->Q (.tup (rs.map itW)) h)/\(600<rs.length->E ⟨"TooMuch",[]⟩ h))->c0 [.loc n] h Q E
def U3 (rs:List Tm):Prop:=∃ t∈rs,∃ p∈t.1,60<p
instance (rs:List Tm):Decidable (U3 rs):=by unfold U3;infer_instance
def CpX (c0:MSp):Prop:=∀ {h:Gh} {rs:List Tm} {L:Nat} {Q:WK} {E:XWK},(∀ t∈rs,t.1.length=L)->L<=8->rs.length<=600->(¬ U3 rs->Q .non h)->(U3 rs->E ⟨"TooMuch",[]⟩ h)->c0 [smW rs] h Q E
def aa0:CpX fY:=by
 intro h rs L Q E hl hL hz q1 q2;unfold fY;refine cA rfl (Z:=[some<|smW rs,none,none]) rfl ?_;refine mL (ws:=rs.map tmW) rfl ?_;refine cZ (fun i Z h'=>h'=h/\(∀ t∈rs.take i,∀ p∈t.1,¬ 60<p)/\∃ s1 s2:Option W,Z = [some<|smW rs,s1,s2]) ?_ ?_ ⟨rfl,fun _ h=>by simp at h,none,none,rfl⟩
 ·rintro i w Z h' N hN e ⟨rfl,lo,s1,s2,rfl⟩;rw [acu] at e;cases qe:rs[i]? with
  | none=>rw [qe] at e;cases e
  | some t=>
   rw [qe] at e;cases e;have mt:=acO qe;have lt:=hl t mt;refine iW rfl rfl<|bZ<|nV ?_
   refine bZ<|nV ?_
   refine jY ?_;refine aZ<|iM<|bK<|aj<|gj<|gw<|ak rfl<|qz (ws:=t.1.map .int) (o:=none) rfl<|fL.mk (acq (m:=1000) (by rw [acf];omega)<|by decide) ?_
   refine dF (fun j acc g=>g=h'/\acc=((t.1.take j).map fun p=>decide<|p>60).map .bl) ?_ ?_ ⟨rfl,rfl⟩
   ·rintro j w acc g N' hN' e' ⟨rfl,rfl⟩;obtain ⟨p,ep,rfl⟩:=ints_get e';refine ⟨[.int p],rfl,bG<|bD<|aD<|ak rfl<|aU<|yw<|hN' _ _ ⟨rfl,?_⟩⟩;rw [adl,ep];simp
   ·rintro acc g ⟨rfl,rfl⟩;rw [acf,adf];refine aq<|Nf (us:=(t.1.map fun p=>decide<|p>60).map .bl) (bs:=t.1.map fun p=>decide<|p>60) rfl (Ih _)<|Ga rfl ?_
    have ea:(t.1.map fun p=>decide (p>60)).any id=decide (∃ p∈t.1,60<p):=by
     rw [aga,List.any_map,aeF,decide_eq_true_iff];constructor
     ·rintro ⟨p,hp,e⟩;exact ⟨p,hp,by simpa using e⟩
     ·rintro ⟨p,hp,e⟩;exact ⟨p,hp,by simpa using e⟩
    rw [ea];refine wC (fun c=>kZ<|q2 ⟨t,mt,c⟩) fun c=>aW<|hN _ _ ⟨rfl,fun u hu p hp h60=>?_,_,_,rfl⟩
    rw [adl,qe] at hu;rcases adn.mp hu with hu | hu
    ·exact lo u hu p hp h60
    ·have:u=t:=by simpa using hu
     exact c ⟨p,by rw [<-this];exact hp,h60⟩
 ·rintro Z h' ⟨rfl,lo,s1,s2,rfl⟩;rw [acf,adf] at lo;exact bw<|q1 fun ⟨t,ht,p,hp,h60⟩=>lo t ht p hp h60
def Over (us vs rs:List Tm):Prop:=20000<us.length*vs.length\/600<rs.length\/U3 rs
def Ui {x:Int}{N:Gh->Prop}(e:h.c n=some (.dct (ikv D)))(hD:∀ j∈D.map (·.1),Kb L j)(hk:Kb L k)(hz:D.length<=30000)(q:∀ g:Gh,g.c n=some (.dct (ikv (wB D k x)))->(∀ m,m≠n->g.c m=h.c m)->g.nx=h.nx->N g):wQ (.loc n) (.int (pack k)) (.int x) h N:=by
 show (match h.c n with
  | some (.dct kvs)=>fL (kvs.length+1) (N (h.set n (.dct (MK kvs (.inl (pack k)) (.int x)))))
  | _=>False)
 rw [e];refine fL.mk (acq (m:=30001) (by unfold ikv;rw [acf];omega)<|by decide) ?_;rw [RV hD hk];exact q _ (rO _ _ _) (fun _ e=>mZ e) rfl
def VB (e:h.c n=some (.dct (ikv D)))(hD:∀ j∈D.map (·.1),Kb L j)(hk:Kb L k)(q:Q (.int (getM D k)) h):K9 (.loc n) [.int (pack k),.int 0] h Q:=by
 show (match h.c n,(some (Sum.inl (pack k)):Option Key) with
  | some (.dct kvs),some k=>Q ((qu kvs k).getD (.int 0)) h
  | _,_=>False)
 rw [e];show Q ((qu (ikv D) (.inl (pack k))).getD (.int 0)) h;rw [RN hD hk];exact q
def QW {kvs:List (Key×W)}(e:h.c n=some (.dct kvs))(p:P):DX h (.loc n) P:=by
 unfold DX;dsimp only;rw [e];exact p
def Xc {r:MM}{mo:ME}(x:mo Z h fun x h1=>DX h1 x (ma Z h1 fun xs h2=>r x xs h2 Q)):Y0 r mo ma Z h Q:=x
def RX (x:∀ g:Gh,g.c h.nx=some (.dct (ikv []))->(∀ n,n≠h.nx->g.c n=h.c n)->g.nx=h.nx+1->Q (.loc h.nx) g):QK Z h Q:=x _ (Gy _ _) (fun _ e=>uP e) rfl
def EY (e:us[i]?=some t):lF (us.take (i+1)) vs=mulR t.1 t.2 vs (lF (us.take i) vs):=by
 rw [adl,e];exact fu ..
def HW {n:Int}{s:Tm}(e:vs[i]?=some s):mulR k n (vs.take (i+1)) D=Bq (mulR k n (vs.take i) D) (iu k s.1) (n*s.2):=by
 rw [adl,e];exact eV ..
def Ms.kb (h:Ms L us):∀ t∈us,t.1.length=L/\∀ p∈t.1,0<=p/\p<=40:=fun t ht=>⟨(h.2.2 t ht).1,(h.2.2 t ht).2.2.2⟩
variable {rs : List Tm}
def wF.facts (hD:∀ k∈D.map (·.1),Kb L k)(nd:(D.map (·.1)).Nodup)(a:wF D rs):(∀ t∈rs,Kb L t.1/\t.2≠0)/\(rs.map (·.1)).Pairwise (· < ·):=by
 obtain ⟨ks,pk,sk,rfl⟩:=a;refine ⟨fun t ht=>?_,Gx sk⟩;have:=Nr nd (fun k hk=>pk.mem_iff.mp hk) ht
 exact ⟨hD t.1<|acJ.mpr ⟨t,this.1,rfl⟩,this.2⟩
theorem Ab:∀ us:List Tm,mV (us.map tmW)=some (kvW us)
 | []=>rfl
 | t::us=>by
  show (match Jb (.tup (t.1.map W.int)) with
   | some ks=>(mV (us.map tmW)).map ((ks,W.int t.2)::·)
   | none=>none)=_
  rw [rE,Ab us];rfl
def Vg (nd:(us.map (·.1)).Nodup)(x:∀ g:Gh,g.c h.nx=some (.dtt (kvW us))->(∀ n,n≠h.nx->g.c n=h.c n)->g.nx=h.nx+1->Q (.loc h.nx) g):yN [smW us] h Q:=by
 show (match mV (us.map tmW) with
  | some ps=>(ps.map (·.1)).Nodup/\Q (.loc h.nx) (h.new (.dtt ps))
  | none=>False)
 rw [Ab];refine ⟨?_,x _ (Gy _ _) (fun _ e=>uP e) rfl⟩;have:(kvW us).map (·.1)=us.map (·.1):=by unfold kvW;rw [adb];rfl
 rw [this];exact nd
def MP {h':Gh}(keep:∀ n,n<h.nx->h'.c n=h.c n)(q:Q (smW us) h):vH true h (smW us) h' Q:=
 ⟨fun n c hn ec=>by rw [keep n hn];exact ec,.inl ⟨YL _ _,q⟩⟩
def pO (f:Int)(us vs:List Tm):List Tm:=vs.foldl (fun D t=>Bq D t.1 (f*t.2)) us
def gD (f:Int)(us vs:List Tm)(t:Tm):pO f us (vs++[t])=Bq (pO f us vs) t.1 (f*t.2):=by unfold pO;rw [List.foldl_append];rfl
def iJ {f:Int}(h:(us.map (·.1)).Nodup):((pO f us vs).map (·.1)).Nodup:=by
 refine snoc_ind (P:=fun vs=>((pO f us vs).map (·.1)).Nodup) h (fun vs t ih=>?_) vs;rw [gD];exact vA ih
def nW (f:Int)(us vs:List Tm):(pO f us vs).length<=us.length+vs.length:=by
 refine snoc_ind (P:=fun vs=>(pO f us vs).length<=us.length+vs.length) (acj _) (fun vs t ih=>?_) vs;rw [gD,acH,agr];exact acq (DP ..)<|by omega
def vP {f:Int}:∀ k∈(pO f us vs).map (·.1),k∈us.map (·.1)\/k∈vs.map (·.1):=by
 refine snoc_ind (P:=fun vs=>∀ k∈(pO f us vs).map (·.1),k∈us.map (·.1)\/k∈vs.map (·.1)) (fun k h=>.inl h) (fun vs t ih k hk=>?_) vs;rw [gD,nU] at hk;rw [acB,adn];have hk:k∈(pO f us vs).map (·.1)\/k=t.1:=by
  split at hk
  ·exact .inl hk
  ·rcases adn.mp hk with hk | hk
   ·exact .inl hk
   ·exact .inr<|acT.mp hk
 rcases hk with hk | hk
 ·rcases ih k hk with h | h
  ·exact .inl h
  ·exact .inr<|.inl h
 ·exact .inr<|.inr<|by simp [hk]
def Ls (L:Nat)(us:List Tm):Prop:=us.length<=400/\(us.map (·.1)).Pairwise (· < ·)/\∀ t∈us,t.1.length=L/\t.2≠0/\Sm 1000 t.2
def WR {f:Int}(hu:Ls L us)(hv:Ls L vs):∀ t∈pO f us vs,t.1.length=L:=fun t ht=>by
 rcases vP t.1 (acJ.mpr ⟨t,ht,rfl⟩) with h | h
 ·obtain ⟨u,h1,h2⟩:=acJ.mp h;rw [<-h2];exact (hu.2.2 u h1).1
 ·obtain ⟨u,h1,h2⟩:=acJ.mp h;rw [<-h2];exact (hv.2.2 u h1).1
def aaW (c0:MSp):Prop:=∀ {h:Gh} {n:Nat} {ts:List Tm} {Q:WK} {E:XWK},h.c n=some (.dtt (kvW ts))->ts.length<=1000->Cq (ts.map (·.1))->(∀ ks:List (List Int),ks.Perm (ts.map (·.1))->ks.Pairwise (· < ·)->((nO ts ks).length<=600->Q (smW (nO ts ks)) h)/\(600<(nO ts ks).length->E ⟨"TooMuch",[]⟩ h))->c0 [.loc n] h Q E
def Ly (hv:Z[0]?=some (some (.loc n)))(ec:h.c n=some (.dct (ikv D)))(hD:∀ j∈D.map (·.1),Kb L j)(nd:(D.map (·.1)).Nodup)(hz:D.length<=30000)
  (q:∀ rs,wF D rs->Q (.lst (rs.map itW)) h) :
  mLC ow1 [0] (nIt (mCB zW (ao (aA 0) aL))) (bN (mOp kNe (mOp Qe (aA 1) (aA 0)) (mC (.int 0)))) (je (ao (aA 0) (ao (mOp Qe (aA 1) (aA 0)) aL))) Z h Q:=by
 have eb:kY [0] Z = [some (.loc n)]:=by unfold kY;rw [acg,hv];rfl
 refine gj<|gw<|bK<|aj<|ak hv<|aq<|Or.inr ?_
 show (match h.c n with
  | some (.dct kvs)=>∃ ks:List Int,BZ kvs ks/\∀ js:List Int,js.Perm ks->js.Pairwise (· < ·)->_
  | _=>False)
 rw [ec];refine ⟨(D.map (·.1)).map pack,by unfold BZ ikv;rw [adb,adb,adb];rfl,fun js pj sj=>?_⟩;obtain ⟨ks,pk,sk⟩:=QC (D.map (·.1)) nd;have ej:js=ks.map pack:=by
  refine Fg (pj.trans (pk.map pack).symm) sj ?_;rw [aem];exact afy (fun {a b} ha hb h=>(Ig (hD a<|pk.mem_iff.mp ha)<|hD b<|pk.mem_iff.mp hb).mp h) sk
 subst ej;have q:=q _ ⟨ks,pk,sk,rfl⟩;have lk:ks.length=D.length:=by rw [pk.length_eq,acf]
 refine qz (ws:=(ks.map pack).map .int) (o:=none) rfl<|fL.mk (acq (m:=30000) (by rw [acf,acf];omega)<|by decide) ?_
 refine dF (fun i acc h'=>h'=h/\acc=(nO D<|ks.take i).map itW) ?_ ?_ ⟨rfl,rfl⟩
 ·rintro i w acc h' N hN e ⟨rfl,rfl⟩;rw [adb,acu] at e;cases qe:ks[i]? with
  | none=>rw [qe] at e;cases e
  | some k=>
   rw [qe] at e;cases e;have mk:=pk.mem_iff.mp (acO qe);refine ⟨[.int<|pack k],rfl,?_⟩;rw [eb];have eo:nO D (ks.take (i+1))=nO D (ks.take i)++([(k,getM D k)].filter fun t:Tm=>decide (t.2≠0)):=by
    unfold nO;rw [adl,qe,acB,List.filter_append];rfl
   refine aN<|aD<|aD<|ak rfl<|ak rfl<|Or.inr<|Ma ec hD mk<|aU<|wY<|dG ?_
   refine O6 (fun ne=>?_) fun ne=>?_
   ·refine cQ<|aj<|ak rfl<|aj<|aD<|ak rfl<|ak rfl<|Or.inr<|Ma ec hD mk<|aq<|bC rfl ?_
    refine hN _ _ ⟨rfl,?_⟩;rw [eo,aeE,if_pos (by simpa using ne),acB];rfl
   ·refine hN _ _ ⟨rfl,?_⟩;rw [eo,aeE,if_neg (by simpa using ne)];simp
 ·rintro acc h' ⟨rfl,rfl⟩;rw [acf,acf,adf];exact q
def Ro:aaO cF:=by
 intro h n D L Q E ec hD nd hz q;unfold cF;refine cA rfl (Z:=[some<|.loc n,none]) rfl<|aH<|aP<|bK<|aj<|Ly rfl ec hD nd hz fun rs hr=>aq<|bW ?_
 obtain ⟨q1,q2⟩:=q rs hr;refine nV<|bw ?_
 refine aH<|aZ<|aN<|aD<|bK<|aj<|ak rfl<|aq<|fQ (xs:=rs.map itW) rfl ?_
 rw [acf];refine aU<|yw<|dG<|wC (fun c=>kZ<|q2<|by omega) fun c=>aW<|bw ?_
 unfold dJ;exact aX<|ak rfl<|gH<|q1<|by omega
def Jp (hv:Z[0]?=some (some (.loc n)))(ec:h.c n=some (.dtt (kvW ts)))(hz:ts.length<=1000)(hs:Cq (ts.map (·.1)))
  (q:∀ ks:List (List Int),ks.Perm (ts.map (·.1))->ks.Pairwise (· < ·)->Q (.lst ((nO ts ks).map tmW)) h) :
  mLC ow1 [0] (nIt (mCB zW (ao (aA 0) aL))) (bN (mOp kNe (mOp Qe (aA 1) (aA 0)) (mC (.int 0)))) (je (ao (aA 0) (ao (mOp Qe (aA 1) (aA 0)) aL))) Z h Q:=by
 have eb:kY [0] Z = [some (.loc n)]:=by unfold kY;rw [acg,hv];rfl
 refine gj<|gw<|bK<|aj<|ak hv<|aq<|Or.inl ?_
 show (match h.c n with
  | some (.dtt kvs)=>Cq (kvs.map (·.1))/\∀ ks:List (List Int),ks.Perm (kvs.map (·.1))->ks.Pairwise (· < ·)->_
  | _=>False)
 rw [ec];have ek:(kvW ts).map (·.1)=ts.map (·.1):=by unfold kvW;rw [adb];rfl
 refine ⟨by rw [ek];exact hs,fun ks pk sk=>?_⟩;rw [ek] at pk;have q:=q ks pk sk;have lk:ks.length=ts.length:=by rw [pk.length_eq,acf]
 refine qz (ws:=ks.map fun k=>.tup<|k.map .int) (o:=none) rfl<|fL.mk (acq (m:=1000) (by rw [acf];omega)<|by decide) ?_
 refine dF (fun i acc h'=>h'=h/\acc=(nO ts<|ks.take i).map tmW) ?_ ?_ ⟨rfl,rfl⟩
 ·rintro i w acc h' N hN e ⟨rfl,rfl⟩;rw [acu] at e;cases qe:ks[i]? with
  | none=>rw [qe] at e;cases e
  | some k=>
   rw [qe] at e;cases e;have mk:=pk.mem_iff.mp (acO qe);refine ⟨[.tup<|k.map .int],rfl,?_⟩;rw [eb];have eo:nO ts (ks.take (i+1))=nO ts (ks.take i)++([(k,getM ts k)].filter fun t:Tm=>decide (t.2≠0)):=by
    unfold nO;rw [adl,qe,acB,List.filter_append];rfl
   refine aN<|aD<|aD<|ak rfl<|ak rfl<|Or.inl<|Nh ec mk<|aU<|wY<|dG ?_
   refine O6 (fun ne=>?_) fun ne=>?_
   ·refine cQ<|aj<|ak rfl<|aj<|aD<|ak rfl<|ak rfl<|Or.inl<|Nh ec mk<|aq<|bC rfl ?_
    refine hN _ _ ⟨rfl,?_⟩;rw [eo,aeE,if_pos (by simpa using ne),acB];rfl
   ·refine hN _ _ ⟨rfl,?_⟩;rw [eo,aeE,if_neg (by simpa using ne)];simp
 ·rintro acc h' ⟨rfl,rfl⟩;rw [acf,adf];exact q
def Ue:aaW cF:=by
 intro h n ts Q E ec hz hs q;unfold cF;refine cA rfl (Z:=[some<|.loc n,none]) rfl<|aH<|aP<|bK<|aj<|Jp rfl ec hz hs fun ks pk sk=>aq<|bW ?_
 obtain ⟨q1,q2⟩:=q ks pk sk;refine nV<|bw ?_
 refine aH<|aZ<|aN<|aD<|bK<|aj<|ak rfl<|aq<|fQ (xs:=(nO ts ks).map tmW) rfl ?_
 rw [acf];refine aU<|yw<|dG<|wC (fun c=>kZ<|q2<|by omega) fun c=>aW<|bw ?_
 unfold dJ;exact aX<|ak rfl<|gH<|q1<|by omega
def aaC (f:Int)(us vs rs:List Tm):Prop:=∃ ks:List (List Int),ks.Perm ((pO f us vs).map (·.1))/\ks.Pairwise (· < ·)/\rs=nO (pO f us vs) ks
def WhX (c0:MSp):Prop:=∀ {h:Gh} {us vs:List Tm} {f:Int} {L:Nat} {Q:WK} {E:XWK},Ls L us->Ls L vs->Sm 64 f->(∀ rs,aaC f us vs rs->(rs.length<=600->Q (smW rs) h)/\(600<rs.length->∀ h':Gh,E ⟨"TooMuch",[]⟩ h'))->c0 [smW us,smW vs,.int f] h Q E
def Fx {f:Int}(e:vs[i]?=some t):pO f us (vs.take (i+1))=Bq (pO f us (vs.take i)) t.1 (f*t.2):=by
 rw [adl,e];exact gD ..
set_option maxHeartbeats 1000000 in
def abz {so:MSp}(hso:aaW so):WhX (iI so):=by
 intro h us vs f L Q E hu hv sf q;have lu:=hu.1;have lv:=hv.1;unfold iI;refine zB rfl (Z:=[some<|smW us,some<|smW vs,some<|.int f,none,none,none]) rfl<|aH<|aP<|bK<|aj<|ak rfl<|aq<|Vg (fJ hu.2.1) fun g eg og xg=>?_
 refine nV<|bw ?_
 refine aH ?_;refine mL (ws:=vs.map tmW) rfl ?_;refine cZ (fun i Z h'=>∃ s4 s5:Option W,Z = [some<|smW us,some<|smW vs,some<|.int f,some<|.loc h.nx,s4,s5]/\h'.c h.nx=some (.dtt<|kvW<|pO f us<|vs.take i)/\∀ n,n≠h.nx->h'.c n=h.c n) ?_ ?_ ⟨none,none,rfl,eg,og⟩
 ·rintro i w Z h' N hN e ⟨s4,s5,rfl,e2,o2⟩;rw [acu] at e;cases qe:vs[i]? with
  | none=>rw [qe] at e;cases e
  | some t=>
   rw [qe] at e;cases e;have ld:=nW f us (vs.take i);rw [aeb] at ld;refine iW rfl rfl<|bZ<|nV ?_
   refine bZ<|nV ?_
   refine jY ?_;refine aP<|aD<|UL<|ak rfl<|NZ e2<|aj<|ak rfl<|aj<|aU<|aq<|XQ e2 ?_
   refine aD<|ak rfl<|ak rfl<|bH (.of sf (hv.2.2 t<|acO qe).2.2 (by decide) (by decide))<|fG<|HJ<|ak rfl<|ak rfl ?_
   refine W8 e2 (by omega) fun g2 a1 a2 a3=>bw<|hN _ _ ⟨_,_,rfl,?_,fun n hn=>by rw [a2 n hn];exact o2 n hn⟩
   rw [Fx qe];exact a1
 ·rintro Z h' ⟨s4,s5,rfl,e2,o2⟩;rw [acf,adf] at e2;unfold jw;refine bw<|aX<|aB<|aj<|ak rfl<|aq ?_
  refine hso e2 (acq (nW f us vs)<|by omega) (J8 (L:=L) (iJ<|fJ hu.2.1)<|WR hu hv) fun ks pk sk=>?_;obtain ⟨q1,q2⟩:=q _ ⟨ks,pk,sk,rfl⟩;exact ⟨fun l=>MP (fun n hn=>o2 n<|by omega)<|q1 l,fun l=>q2 l h'⟩
def PlX (f:Int)(c0:MSp):Prop:=∀ {h:Gh} {us vs:List Tm} {L:Nat} {Q:WK} {E:XWK},Ls L us->Ls L vs->(∀ rs,aaC f us vs rs->(rs.length<=600->Q (smW rs) h)/\(600<rs.length->∀ h':Gh,E ⟨"TooMuch",[]⟩ h'))->c0 [smW us,smW vs] h Q E
def Vl {wt:MSp}(hwt:WhX wt):PlX 1 (Hx wt):=by
 intro h us vs L Q E hu hv q;unfold Hx;exact cA rfl (Z:=[some<|smW us,some<|smW vs]) rfl<|aX<|aB<|aj<|ak rfl<|aj<|ak rfl<|aj<|aU<|aq<|hwt hu hv (.lit rfl) q
def Ny {wt:MSp}(hwt:WhX wt):PlX (-1) (xP wt):=by
 intro h us vs L Q E hu hv q;unfold xP;exact cA rfl (Z:=[some<|smW us,some<|smW vs]) rfl<|aX<|aB<|aj<|ak rfl<|aj<|ak rfl<|aj<|Vf<|aU<|Mi<|aq<|hwt hu hv (.lit rfl) q
def Li {b:MS}{D:bV}(hv:Z[i]?=some (some (.lst ws)))(x:iD ⟨ws,none⟩ g b D ws Z h):oX (nIt (aA i)) g b D Z h:=iw (gw (ak hv (qz rfl (iB x))))
def M5 {l:List W}:atI (w::l) 0=some w:=by
 unfold atI ixN;simp
def lets (hv:Z[0]?=some (some (smW us)))(hl:∀ t∈us,t.1.length=L)(q:∀ l:Nat,(us≠[]->l=L)->Q (.int l) h):
  mIf (Cz (aA 0)) (mCB kLen (ao (mOp kIx (mOp kIx (aA 0) (mC (.int 0))) (mC (.int 0))) aL)) (mC (.int 0)) Z h Q:=by
 cases us with
 | nil=>exact JG (iM (ak hv (Ga (b:=false) rfl (wL (aU (q 0 fun n=>absurd rfl n))))))
 | cons t us=>
  refine JG<|iM<|ak hv<|Ga (b:=true) rfl<|Bw<|bK<|aj<|aD<|aD<|ak hv<|aU<|cH (ws:=(t::us).map tmW) rfl (w:=tmW t) (by rw [acg];exact M5)<|aU<|cH (ws:=[.tup<|t.1.map .int,.int t.2]) rfl (w:=.tup (t.1.map .int)) M5<|aq<|fQ (xs:=t.1.map .int) rfl ?_
  rw [acf];exact q _ fun _=>hl t<|by simp
def abp {l:Nat}{un:MSp}{E0:XWK}(hun:UnX un)(hv:Z[10]?=some (some (.tup (rs.map itW))))(hv9:Z[9]?=some (some (.int l)))(hr:∀ t∈rs,Kb L t.1)(hl:rs≠[]->l=L)(hL:L<=8)(hz:rs.length<=600)(q:Q (.lst (rs.map tmW)) h):
  mLC (owT 2) [9] (nIt (aA 10)) jR (je (ao (aJ un E0 (ao (aA 0) (ao (aA 2) aL))) (ao (aA 1) aL))) Z h Q:=by
 have eb:kY [9] Z = [some (.int l)]:=by unfold kY;rw [acg,hv9];rfl
 refine gj<|gw<|ak hv<|qz (ws:=rs.map itW) (o:=none) rfl<|fL.mk (acq (m:=1000) (by rw [acf];omega)<|by decide) ?_
 refine dF (fun i acc g=>g=h/\acc=(rs.take i).map tmW) ?_ ?_ ⟨rfl,rfl⟩
 ·rintro i w acc g N hN e ⟨rfl,rfl⟩;rw [acu] at e;cases qe:rs[i]? with
  | none=>rw [qe] at e;cases e
  | some t=>
   rw [qe] at e;cases e;have mt:=acO qe;have el:=hl (List.ne_nil_of_mem mt);subst el;refine ⟨[.int<|pack t.1,.int t.2],rfl,?_⟩;rw [eb];refine bG<|bD<|cQ<|aj<|aB<|aj<|ak rfl<|aj<|ak rfl<|aq ?_
   refine hun (hr t mt) hL<|aj<|ak rfl<|aq<|bC rfl<|hN _ _ ⟨rfl,?_⟩
   rw [adl,qe,acB];rfl
 ·rintro acc g ⟨rfl,rfl⟩;rw [acf,adf];exact q
def XF (c0:MSp):Prop:=∀ {h:Gh} {us vs:List Tm} {L:Nat} {Q:WK} {E:XWK},Ms L us->Ms L vs->L<=8->(∀ rs,wF (lF us vs) rs->(¬ Over us vs rs->Q (smW rs) h)/\(Over us vs rs->∀ h':Gh,E ⟨"TooMuch",[]⟩ h'))->c0 [smW us,smW vs] h Q E
abbrev ht (us vs:List Tm)(h:Gh)(r:Sw):Sw:=some (smW us)::some (smW vs)::some (.loc h.nx)::some (.lst (vs.map ptW))::r
set_option maxHeartbeats 2000000 in
def Qg {so un pt cp:MSp}(hso:aaO so)(hun:UnX un)(hpt:PtX pt)(hcp:CpX cp):XF (w6 so un pt cp):=by
 intro h us vs L Q E hu hv hL q;have lu:=hu.1;have lv:=hv.1;have ku:=hu.kb;have kv:=hv.kb;have kbu:∀ t∈us,Kb L t.1:=fun t ht=>⟨(ku t ht).1,fun p hp=>by have:=(ku t ht).2 p hp;omega⟩
 have kbv:∀ t∈vs,Kb L t.1:=fun t ht=>⟨(kv t ht).1,fun p hp=>by have:=(kv t ht).2 p hp;omega⟩
 have kD:=uJ ku kv;obtain ⟨ks,pk,sk⟩:=QC _ (mH us vs);have hO:wF (lF us vs) (nO (lF us vs) ks):=⟨ks,pk,sk,rfl⟩
 unfold w6;refine zB rfl (Z:=[some<|smW us,some<|smW vs,none,none,none,none,none,none,none,none,none,none]) rfl ?_;refine aH<|aZ<|aN<|aD<|aD<|bK<|aj<|ak rfl<|aq<|fQ (xs:=us.map tmW) rfl<|bK<|aj<|ak rfl<|aq<|fQ (xs:=vs.map tmW) rfl ?_
 rw [acf,acf];refine bH (.of (n:=8) (m:=8) (by unfold Sm;show (us.length:Int).natAbs<256;omega) (by unfold Sm;show (vs.length:Int).natAbs<256;omega) (by decide)<|by decide)<|aU<|yw<|dG ?_
 have em:(us.length:Int)*(vs.length:Int)=((us.length*vs.length:Nat):Int):=by rw [Int.natCast_mul]
 rw [em];generalize ez:us.length*vs.length=z;refine wC (fun c=>kZ<|(q _ hO).2 (.inl<|by omega) _) fun c=>aW<|bw ?_
 have hz:us.length*vs.length<=20000:=by omega
 unfold uX;refine aH<|aP<|RX fun g eg og xg=>?_
 refine nV<|bw ?_
 refine aH<|aP<|aB<|aj<|ak rfl<|aq<|hpt kbv (by omega) hL ?_
 refine nV<|bw ?_
 refine aH<|iw<|gw<|aB<|aj<|ak rfl<|aq<|hpt kbu (by omega) hL<|qz (ws:=us.map ptW) (o:=none) rfl<|iB ?_
 refine cZ (fun i Z h'=>∃ s4 s5 s6 s7 s8:Option W,Z = ht us vs h [s4,s5,s6,s7,s8,none,none,none]/\h'.c h.nx=some (.dct<|ikv<|lF (us.take i) vs)/\h'.nx=h.nx+1/\∀ n,n≠h.nx->h'.c n=h.c n) ?_ ?_ ⟨none,none,none,none,none,rfl,eg,xg,og⟩
 ·rintro i w Z h' N hN e ⟨s4,s5,s6,s7,s8,rfl,e2,x2,o2⟩;rw [acu] at e;cases qe:us[i]? with
  | none=>rw [qe] at e;cases e
  | some t=>
   rw [qe] at e;cases e;have mt:=acO qe;have zi:(us.take i).length*vs.length<=20000:=acq (agC _ (by rw [aeb];omega)) hz;have ldi:=acq (uo (us.take i) vs) zi;have kDi:∀ k∈(lF (us.take i) vs).map (·.1),Kb L k:=uJ (fun u hu=>ku u (afk hu)) kv
   refine iW rfl rfl<|bZ<|nV ?_
   refine bZ<|nV ?_
   refine jY ?_;refine Li (ws:=vs.map ptW) rfl ?_;refine cZ (fun j Z h'=>∃ s6 s7 s8:Option W,Z = ht us vs h [some<|.int<|pack t.1,some<|.int t.2,s6,s7,s8,none,none,none]/\h'.c h.nx=some (.dct<|ikv<|mulR t.1 t.2 (vs.take j)<|lF (us.take i) vs)/\h'.nx=h.nx+1/\∀ n,n≠h.nx->h'.c n=h.c n) ?_ ?_ ⟨s6,s7,s8,rfl,e2,x2,o2⟩
   ·rintro j w Z h2 N2 hN2 e' ⟨s6,s7,s8,rfl,e3,x3,o3⟩;rw [acu] at e';cases qf:vs[j]? with
    | none=>rw [qf] at e';cases e'
    | some s=>
     rw [qf] at e';cases e'
     have ms:=acO qf;have kDj:=Eu (t:=t) (vs:=vs.take j) (ku t mt) (fun u hu=>kv u (afk hu)) kDi;have kz:=DK (ku t mt) (kv s ms);have lj:=yU t.1 t.2 (vs.take j) (lF (us.take i) vs);rw [aeb] at lj;refine iW rfl rfl<|bZ<|nV ?_
     refine bZ<|nV ?_
     refine jY ?_;refine aH<|aP<|aD<|ak rfl<|ak rfl<|fG ?_
     rw [<-Ag (ku t mt).1 (kv s ms).1];refine nV<|bw ?_
     refine aP<|aD<|Xc<|ak rfl<|QW e3<|aj<|ak rfl<|aj<|aU<|aq<|VB e3 kDj kz ?_
     refine aD<|ak rfl<|ak rfl<|bH (.of (hu.2.2 t mt).2.2.1 (hv.2.2 s ms).2.2.1 (by decide) (by decide))<|fG<|HJ<|ak rfl<|ak rfl ?_
     refine Ui e3 kDj kz (by omega) fun g2 a1 a2 a3=>bw<|hN2 _ _ ⟨_,_,_,rfl,?_,by omega,fun n hn=>by rw [a2 n hn];exact o3 n hn⟩
     rw [HW qf];exact a1
   ·rintro Z h2 ⟨s6,s7,s8,rfl,e3,x3,o3⟩;rw [acf,adf] at e3;refine bw<|hN _ _ ⟨_,_,_,_,_,rfl,?_,x3,o3⟩
    rw [EY qe];exact e3
 ·rintro Z h' ⟨s4,s5,s6,s7,s8,rfl,e2,x2,o2⟩;rw [acf,adf] at e2;have ge:Ge h h':=⟨by omega,fun n hn=>o2 n (by omega)⟩
  refine bw ?_;unfold uM;refine aH<|aP<|lets (L:=L) rfl (fun t ht=>(ku t ht).1) fun l el=>?_
  refine nV<|bw ?_
  refine aH<|aP<|aB<|aj<|ak rfl<|aq ?_
  refine hso e2 kD (mH us vs) (acq (uo us vs)<|by omega) fun rs hr=>?_;obtain ⟨q1,q2⟩:=q rs hr;have fr:=(hr.facts kD (mH us vs)).1;refine ⟨fun l6=>?_,fun l6=>q2 (.inr<|.inl l6) _⟩;have hne:rs≠[]->l=L:=fun n=>el fun eu=>n (by
   subst eu;obtain ⟨ks,pk,sk,rfl⟩:=hr;have:ks=[]:=pk.eq_nil
   rw [this];rfl)
  refine nV<|bw ?_
  refine aH<|aP<|bK<|aj<|abp hun rfl rfl (fun t ht=>(fr t ht).1) hne hL l6<|aq<|bW ?_
  refine nV<|bw ?_
  refine aH<|mO<|aB<|aj<|ak rfl<|aq ?_
  refine hcp (fun t ht=>(fr t ht).1.1) hL l6 (fun lo=>bw<|aX<|ak rfl<|gH<|MP (fun n hn=>ge.2 n hn)<|q1 fun o=>?_) fun hi=>q2 (.inr<|.inr hi) _;rcases o with o | o | o
  ·omega
  ·omega
  ·exact lo o
def mo (ps xs:List Int):Nat->Int
 | 0=>1
 | i+1=>mo ps xs i*(xs.getD i 0)^(ps.getD i 0).toNat
def wo (ts:List Tm)(xs:List Int)(L:Nat):Nat->Int
 | 0=>0
 | i+1=>wo ts xs L i+(ts.getD i ([],0)).2*mo (ts.getD i ([],0)).1 xs L
def Bd (xs:List Int):Prop:=∀ x∈xs,Sm 34 x
def Fv {x:Int}(k:Nat)(h:Sm 34 x):(x^k).natAbs<=2^(34*k):=by
 rw [Int.natAbs_pow,Nat.pow_mul];exact Nat.pow_le_pow_left (aen h) k
variable {xs : List Int}
def Bd.get (h:Bd xs)(i:Nat):Sm 34 (xs.getD i 0):=by
 rw [acQ];cases e:xs[i]? with
 | none=>exact (by unfold Sm;decide:Sm 34 0)
 | some x=>exact h x (acO e)
def Pw.get {ps:List Int}(h:Pw ps)(i:Nat):0<=ps.getD i 0/\ps.getD i 0<=60:=by
 rw [acQ];cases e:ps[i]? with
 | none=>exact (by decide:(0:Int)<=0/\(0:Int)<=60)
 | some x=>exact h x (acO e)
def JH {x p:Int}(h:Sm 34 x)(h1:p<=60):(x^p.toNat).natAbs<=2^2040:=
 acq (Fv _ h) (afL (by decide) (by omega))
theorem Qj {ps xs:List Int}(hx:Bd xs)(hp:Pw ps):∀ i,(mo ps xs i).natAbs<=2^(2040*i)
 | 0=>by simp [mo]
 | i+1=>by
  rw [mo,afe,Nat.mul_succ,aeJ];exact agQ (Qj hx hp i)<|JH (hx.get i) (hp.get i).2
def El {k:Nat}{a b:Int}(h:Sm m a)(hb:b.natAbs<=2^k):Sm (m+k) (a*b):=by
 unfold Sm at *;rw [afe,aeJ];exact Nat.mul_lt_mul_of_lt_of_le h hb<|afW<|by decide
theorem uh {f g:List Int->Int}:∀ {us:List Tm},(∀ t∈us,f t.1=g t.1)->lin f us=lin g us
 | [],_=>rfl
 | t::us,h=>by rw [bJ,bJ,h t (by simp),uh fun u hu=>h u (acr _ hu)]
theorem rR {r:List Int}:∀ {vs:List Tm},(vs.map (·.1)).Nodup->lin (dl r) vs=getM vs r
 | [],_=>rfl
 | t::vs,nd=>by
  rw [acg,aep] at nd;rw [bJ,cU,rR nd.2];unfold dl;by_cases c:t.1=r
  ·rw [if_pos c,if_pos c,getM_none (c ▸ nd.1)];omega
  ·rw [if_neg c,if_neg c];omega
def Jl {g:List Int->Int}{n:Int}(nd:(D.map (·.1)).Nodup)(vs:List Tm):lin g (mulR k n vs D)=lin g D+n*lin (fun l=>g (iu k l)) vs:=by
 refine snoc_ind (P:=fun vs=>lin g (mulR k n vs D)=lin g D+n*lin (fun l=>g<|iu k l) vs) (by show lin g D=lin g D+n*0;omega) (fun vs t ih=>?_) vs;rw [eV,Ir (Dr nd),ih,jL,bJ];show _=_+n*(_+(g (iu k t.1)*t.2+0));grind
def Ld (g:List Int->Int)(us vs:List Tm):lin g (lF us vs)=lin (fun k=>lin (fun l=>g (iu k l)) vs) us:=by
 refine snoc_ind (P:=fun us=>lin g (lF us vs)=lin (fun k=>lin (fun l=>g<|iu k l) vs) us) rfl (fun us t ih=>?_) us;rw [fu,Jl (mH us vs),ih,jL,bJ];show _=_+(_+0);rw [Int.add_zero,afC]
def Og {g:List Int->Int}(hg:∀ t∈us,∀ s∈vs,g (iu t.1 s.1)=g t.1*g s.1):lin g (lF us vs)=lin g us*lin g vs:=by
 rw [Ld,<-pI];refine uh fun t ht=>?_;rw [afC,<-pI];refine uh fun s hs=>?_;rw [hg t ht s hs,afC]
def xM {g:List Int->Int}{f:Int}(nd:(us.map (·.1)).Nodup)(vs:List Tm):lin g (pO f us vs)=lin g us+f*lin g vs:=by
 refine snoc_ind (P:=fun vs=>lin g (pO f us vs)=lin g us+f*lin g vs) (by show lin g us=lin g us+f*0;omega) (fun vs t ih=>?_) vs;rw [gD,Ir (iJ nd),ih,jL,bJ];show _=_+f*(_+(g t.1*t.2+0));grind
def wF.lin {D rs:List Tm}(nd:(D.map (·.1)).Nodup)(a:wF D rs)(g:List Int->Int):lin g rs=lin g D:=by
 obtain ⟨ks,pk,_,rfl⟩:=a;exact Rh nd pk
theorem Dy {ts:List Tm}{xs:List Int}{L:Nat}:∀ i,i<=ts.length->wo ts xs L i=lin (fun k=>mo k xs L) (ts.take i)
 | 0,_=>rfl
 | i+1,h=>by
  have e:ts[i]?=some (ts[i]'(by omega)):=acn _;rw [wo,Dy i (by omega),adl,e,acQ,e];show _=lin _ (ts.take i++[ts[i]'(by omega)]);rw [jL,bJ];show _=_+(_+0);rw [Int.add_zero,afC];rfl
def Vm:wo ts xs L ts.length=lin (fun k=>mo k xs L) ts:=by
 rw [Dy _ (acj _),adf]
theorem Ib:∀ {k l:List Int} {i:Nat},k.length=l.length->(iu k l).getD i 0=k.getD i 0+l.getD i 0
 | [],[],_,_=>rfl
 | [],_::_,_,h=>by simp at h
 | _::_,[],_,h=>by simp at h
 | a::k,b::l,0,_=>rfl
 | a::k,b::l,i+1,h=>by
  show (iu k l).getD i 0=k.getD i 0+l.getD i 0;exact Ib<|by simpa using h
theorem Dd {k l xs:List Int}(hl:k.length=l.length)(hk:∀ i,0<=k.getD i 0)(hm:∀ i,0<=l.getD i 0):∀ i,mo (iu k l) xs i=mo k xs i*mo l xs i
 | 0=>rfl
 | i+1=>by
  rw [mo,mo,mo,Dd hl hk hm i,Ib hl,Int.toNat_add (hk i) (hm i),Int.pow_add];grind
theorem Gn {f:List Int->Int}{B C:Nat}(hf:∀ k,(f k).natAbs<=B):∀ {us:List Tm},(∀ t∈us,t.2.natAbs<=C)->(lin f us).natAbs<=us.length*(B*C)
 | [],_=>adu _
 | t::us,h=>by
  rw [bJ,acE,Nat.succ_mul,Nat.add_comm];refine acq (Int.natAbs_add_le _ _)<|Nat.add_le_add ?_<|Gn hf fun u hu=>h u<|acr _ hu
  rw [afe];exact agQ (hf _)<|h t<|by simp
def KZ {n:Int}(vs:List Tm):∀ x∈(mulR k n vs D).map (·.1),x∈D.map (·.1)\/∃ s∈vs,x=iu k s.1:=by
 refine snoc_ind (P:=fun vs=>∀ x∈(mulR k n vs D).map (·.1),x∈D.map (·.1)\/∃ s∈vs,x=iu k s.1) (fun _ h=>.inl h) (fun vs s ih x hx=>?_) vs;rw [eV,nU] at hx;have hx:x∈(mulR k n vs D).map (·.1)\/x=iu k s.1:=by
  split at hx
  ·exact .inl hx
  ·rcases adn.mp hx with hx | hx
   ·exact .inl hx
   ·exact .inr<|acT.mp hx
 rcases hx with hx | hx
 ·rcases ih x hx with h | ⟨u,hu,e⟩
  ·exact .inl h
  ·exact .inr ⟨u,adQ _ hu,e⟩
 ·exact .inr ⟨s,by simp,hx⟩
def Jy (us vs:List Tm):∀ x∈(lF us vs).map (·.1),∃ t∈us,∃ s∈vs,x=iu t.1 s.1:=by
 refine snoc_ind (P:=fun us=>∀ x∈(lF us vs).map (·.1),∃ t∈us,∃ s∈vs,x=iu t.1 s.1) (fun x h=>by simp [lF] at h) (fun us t ih x hx=>?_) us;rw [fu] at hx;rcases KZ vs x hx with h | ⟨s,hs,e⟩
 ·obtain ⟨u,hu,s,hs,e⟩:=ih x h;exact ⟨u,adQ _ hu,s,hs,e⟩
 ·exact ⟨t,by simp,s,hs,e⟩
def Mb (L b p n:Nat)(us:List Tm):Prop:=us.length<=n/\(us.map (·.1)).Pairwise (· < ·)/\∀ t∈us,t.1.length=L/\t.2≠0/\Sm b t.2/\∀ q∈t.1,0<=q/\q<=(p:Int)
variable {b p : Nat}
def Mb.mono {L b p n b' p' n':Nat}{us:List Tm}(h:Mb L b p n us)(hb:b<=b')(hp:p<=p')(hn:n<=n'):Mb L b' p' n' us:=
 ⟨by have:=h.1;omega,h.2.1,fun t ht=>⟨(h.2.2 t ht).1,(h.2.2 t ht).2.1,(h.2.2 t ht).2.2.1.mono hb,fun q hq=>by have:=(h.2.2 t ht).2.2.2 q hq;omega⟩⟩
def Mb.ms (h:Mb L 1000 30 64 us):Ms L us:=⟨by have:=h.1;omega,h.2.1,fun t ht=>⟨(h.2.2 t ht).1,(h.2.2 t ht).2.1,(h.2.2 t ht).2.2.1,fun q hq=>by have:=(h.2.2 t ht).2.2.2 q hq;omega⟩⟩
def Mb.nn (h:Mb L b p n us)(ht:t∈us)(i:Nat):0<=t.1.getD i 0:=by
 rw [acQ];cases e:t.1[i]? with
 | none=>exact Int.le_refl _
 | some x=>exact ((h.2.2 t ht).2.2.2 x (acO e)).1
def wF.mem (nd:(D.map (·.1)).Nodup)(a:wF D rs):rs.length<=D.length/\(rs.map (·.1)).Pairwise (· < ·)/\∀ t∈rs,t.1∈D.map (·.1)/\t.2≠0/\t.2=getM D t.1:=by
 obtain ⟨ks,pk,sk,rfl⟩:=a;have lo:=Nz D ks;rw [pk.length_eq,acf] at lo;refine ⟨lo,Gx sk,fun t ht=>?_⟩;have:=Nr nd (fun k hk=>pk.mem_iff.mp hk) ht
 exact ⟨acJ.mpr ⟨t,this.1,rfl⟩,this.2,(ux nd this.1).symm⟩
def WM {c q:Nat}(hu:Mb L b p n us)(hv:Mb L c q m vs)(hn:n<=64)(hm:m<=64)(a:wF (lF us vs) rs):Mb L (b+c+13) (p+q) (n*m) rs:=by
 obtain ⟨h1,h2,h3⟩:=a.mem (mH us vs);have lm:=acq (acq h1 (uo us vs)) (agQ hu.1 hv.1);refine ⟨lm,h2,fun t ht=>?_⟩;obtain ⟨k1,k2,k3⟩:=h3 t ht;obtain ⟨x,hx,s,hs,e⟩:=Jy us vs _ k1;refine ⟨by rw [e,zu<|by rw [(hu.2.2 x hx).1,(hv.2.2 s hs).1],(hu.2.2 x hx).1],k2,?_,fun z hz=>?_⟩
 ·rw [k3,Jc];have d1:∀ k l,(dl t.1 (iu k l)).natAbs<=1:=fun k l=>by unfold dl;split <;> decide
  have i1:∀ k,(lin (fun l=>dl t.1 (iu k l)) vs).natAbs<=64*2^c:=fun k=>acq (Gn (B:=1) (C:=2^c) (fun l=>d1 k l) fun s hs=>aen (hv.2.2 s hs).2.2.1) (by rw [Nat.one_mul];exact agC _ (acq hv.1 hm))
  have i2:=Gn (C:=2^b) i1 fun s hs=>aen (hu.2.2 s hs).2.2.1
  unfold Sm;refine aeD i2<|aeD (agC _<|acq hu.1 hn) ?_
  rw [aeJ,aeJ];have p1:0<2^b:=afW (by decide);have p2:0<2^c:=afW (by decide);have p3:0<2^b*2^c:=Nat.mul_pos p1 p2;have e:64*(64*2^c*2^b)=4096*(2^b*2^c):=by
   rw [Nat.mul_assoc 64,<-Nat.mul_assoc 64 64,Nat.mul_comm (2^c)]
  rw [e];have e2:(2:Nat)^13=8192:=by decide
  rw [e2];omega
 ·rw [e] at hz;obtain ⟨y,hy,w,hw,rfl⟩:=uy hz;have:=(hu.2.2 x hx).2.2.2 y hy
  have:=(hv.2.2 s hs).2.2.2 w hw
  omega
def M4 (h:∀ t∈us,Sm b t.2)(r:List Int):Sm b (getM us r):=by
 unfold getM;cases e:us.find? fun t=>decide (t.1=r) with
 | none=>exact afW (by decide)
 | some t=>exact h t (List.mem_of_find?_eq_some e)
def WD {f:Int}(hu:Mb L b p n us)(hv:Mb L b p n vs)(hf:f=1\/f = -1)(a:wF (pO f us vs) rs):Mb L (b+1) p (n+n) rs:=by
 have nu:=fJ hu.2.1;obtain ⟨h1,h2,h3⟩:=a.mem (iJ nu);have lm:=acq (acq h1 (nW f us vs)) (Nat.add_le_add hu.1 hv.1);refine ⟨lm,h2,fun t ht=>?_⟩;obtain ⟨k1,k2,k3⟩:=h3 t ht;have kk:t.1.length=L/\∀ q∈t.1,0<=q/\q<=(p:Int):=by
  rcases vP t.1 k1 with h | h
  ·obtain ⟨u,hu2,e⟩:=acJ.mp h;rw [<-e];exact ⟨(hu.2.2 u hu2).1,(hu.2.2 u hu2).2.2.2⟩
  ·obtain ⟨u,hu2,e⟩:=acJ.mp h;rw [<-e];exact ⟨(hv.2.2 u hu2).1,(hv.2.2 u hu2).2.2.2⟩
 refine ⟨kk.1,k2,?_,kk.2⟩;have e:getM (pO f us vs) t.1=getM us t.1+f*getM vs t.1:=by rw [<-rR (iJ nu),xM nu,rR nu,rR (fJ hv.2.1)]
 have b1:=M4 (fun u h=>(hu.2.2 u h).2.2.1) t.1;have b2:=M4 (fun u h=>(hv.2.2 u h).2.2.1) t.1;rw [k3,e];unfold Sm at *;rw [Nat.pow_succ];rcases hf with rfl | rfl <;> omega
theorem Dz:∀ {cs:List Int} {lo hi:Int},cs.Pairwise (· < ·)->(∀ c∈cs,lo<=c/\c<hi)->lo<=hi->(cs.length:Int)<=hi - lo
 | [],lo,hi,_,_,h=>by simp;omega
 | c::cs,lo,hi,s,b,_=>by
  rw [aeo] at s;have hc:=b c (by simp);have:=Dz (lo:=lo+1) (hi:=hi) s.2 (fun d hd=>by have:=s.1 d hd;have:=b d (acr _ hd);omega) (by omega)
  rw [acE];omega
def code (P:Int):List Int->Int
 | [a]=>a
 | [a,b]=>a*P+b
 | _=>0
def P0 {P:Int}(hL:L<=2){l:List Int}(hk:k.length=L/\∀ q∈k,0<=q/\q<P)(hl:l.length=L/\∀ q∈l,0<=q/\q<P)(h:k<l):code P k<code P l:=by
 match k,l,hk,hl with
 | [],[],_,_=>exact absurd h (afO _)
 | [a],[b],_,_=>
  rw [adJ] at h;rcases h with h | ⟨_,h⟩
  ·exact h
  ·exact absurd h<|afO _
 | [a,c],[b,d],hk,hl=>
  have c1:=hk.2 c (by simp);have d1:=hl.2 d (by simp);show a*P+c<b*P+d;rw [adJ] at h;rcases h with h | ⟨e,h⟩
  ·have:(a+1)*P<=b*P:=afo (by omega) (by omega)
   rw [Int.add_mul,Int.one_mul] at this;omega
  ·rw [adJ] at h;rcases h with h | ⟨_,h⟩
   ·rw [e];omega
   ·exact absurd h<|afO _
 | [],_::_,hk,hl=>exact absurd (hk.1.trans hl.1.symm) (by simp)
 | _::_,[],hk,hl=>exact absurd (hk.1.trans hl.1.symm) (by simp)
 | [_],_::_::_,hk,hl=>exact absurd (hk.1.trans hl.1.symm) (by simp)
 | _::_::_,[_],hk,hl=>exact absurd (hk.1.trans hl.1.symm) (by simp)
 | _::_::_::_,_,hk,hl=>
  have:=hk.1
  simp only [acE] at this;omega
 | _,_::_::_::_,hk,hl=>
  have:=hl.1
  simp only [acE] at this;omega
def Sd {P:Int}(hL:L<=2)(hk:k.length=L/\∀ q∈k,0<=q/\q<P)(hP:1<=P):0<=code P k/\code P k<P*P:=by
 have pp:1*P<=P*P:=afo hP (by omega);match k,hk with
 | [],_=>exact ⟨Int.le_refl _,by show (0:Int)<P*P;omega⟩
 | [a],hk=>
  have:=hk.2 a (by simp)
  exact ⟨this.1,by show a<P*P;omega⟩
 | [a,b],hk=>
  have ha:=hk.2 a (by simp);have hb:=hk.2 b (by simp);have h1:0*P<=a*P:=afo ha.1 (by omega);have h2:(a+1)*P<=P*P:=afo (by omega) (by omega);rw [Int.add_mul,Int.one_mul] at h2;exact ⟨by show 0<=a*P+b;omega,by show a*P+b<P*P;omega⟩
 | _::_::_::_,hk=>
  have:=hk.1
  simp only [acE] at this;omega
def Mb.box (h:Mb L b p n us)(hL:L<=2):Mb L b p ((p+1)*(p+1)) us:=by
 refine ⟨?_,h.2.1,h.2.2⟩;have hk:∀ k∈us.map (·.1),k.length=L/\∀ q∈k,0<=q/\q<(p:Int)+1:=fun k hk=>by
  obtain ⟨t,ht,rfl⟩:=acJ.mp hk;exact ⟨(h.2.2 t ht).1,fun q hq=>by have:=(h.2.2 t ht).2.2.2 q hq;omega⟩
 have:=Dz (cs:=(us.map (·.1)).map (code ((p:Int)+1))) (lo:=0) (hi:=((p:Int)+1)*((p:Int)+1)) (by
  rw [aem];exact afy (fun {a b} ha hb h=>P0 hL (hk a ha) (hk b hb) h) h.2.1) (fun c hc=>by
  obtain ⟨k,h1,rfl⟩:=acJ.mp hc;exact Sd hL (hk k h1) (by omega)) (Int.mul_nonneg (by omega) (by omega))
 rw [acf,acf] at this;have e:((p:Int)+1)*((p:Int)+1)=(((p+1)*(p+1):Nat):Int):=by rw [Int.natCast_mul];rfl
 rw [e] at this;omega
def Cap (L p n k:Nat):Prop:=n<=k\/L<=2/\(p+1)*(p+1)<=k
def Mb.cap {k:Nat}(h:Mb L b p n us)(c:Cap L p n k):Mb L b p k us:=by
 rcases c with c | ⟨c,d⟩
 ·exact h.mono (acj _) (acj _) c
 ·exact (h.box c).mono (acj _) (acj _) d
def Ev (L b p n:Nat)(f:List Int->Int)(us:List Tm):Prop:=Mb L b p n us/\∀ xs,lin (fun q=>mo q xs L) us=f xs
def TiE (c0:MSp):Prop:=∀ {h:Gh} {us vs:List Tm} {L b c p q n m:Nat} (k:Nat) {f g:List Int->Int} {Q:WK} {E:XWK},Ev L b p n f us->Ev L c q m g vs->L<=8->b<=1000->c<=1000->n<=64->m<=64->p<=30->q<=30->k<=600->Cap L (p+q) (n*m) k ->
 (∀ rs,Ev L (b+c+13) (p+q) k (fun xs=>f xs*g xs) rs->Q (smW rs) h)->c0 [smW us,smW vs] h Q E
variable {c0 : MSp}
def XF.e (hc:XF c0):TiE c0:=by
 intro h us vs L b c p q n m k f g Q E hu hv hL hb hc' hn hm hp hq hk cap x;refine hc (hu.1.mono hb hp hn).ms (hv.1.mono hc' hq hm).ms hL fun rs a=>?_;have mr:=(WM hu.1 hv.1 hn hm a).cap cap;refine ⟨fun _=>x rs ⟨mr,fun xs=>?_⟩,fun o=>?_⟩
 ·rw [a.lin (mH us vs),Og fun t ht s hs=>Dd (by rw [(hu.1.2.2 t ht).1,(hv.1.2.2 s hs).1]) (hu.1.nn ht) (hv.1.nn hs) L,hu.2,hv.2]
 ·rcases o with o | o | ⟨t,ht,z,hz,h60⟩
  ·have:=agQ (acq hu.1.1 hn) (acq hv.1.1 hm)
   omega
  ·have:=mr.1
   omega
  ·have:=(mr.2.2 t ht).2.2.2 z hz
   omega
def HD {f:Int}(hu:Mb L b p n us)(hv:Mb L b p m vs)(hf:f=1\/f = -1)(a:wF (pO f us vs) rs):Mb L (b+1) p (n+m) rs:=by
 have r:=WD (hu.mono (acj _) (acj _) (Nat.le_max_left n m)) (hv.mono (acj _) (acj _) (Nat.le_max_right n m)) hf a;refine ⟨?_,r.2⟩;have h1:=(a.mem (iJ (fJ hu.2.1))).1;exact acq (acq h1<|nW f us vs)<|Nat.add_le_add hu.1 hv.1
def PlE (s:Int)(c0:MSp):Prop:=∀ {h:Gh} {us vs:List Tm} {L b p n m:Nat} (k:Nat) {f g:List Int->Int} {Q:WK} {E:XWK},Ev L b p n f us->Ev L b p m g vs->b<=1000->n<=400->m<=400->k<=600->Cap L p (n+m) k ->
 (∀ rs,Ev L (b+1) p k (fun xs=>f xs+s*g xs) rs->Q (smW rs) h)->c0 [smW us,smW vs] h Q E
def Mb.ls4 (h:Mb L b p n us)(hb:b<=1000)(hn:n<=400):Ls L us:=⟨by have:=h.1;omega,h.2.1,fun t ht=>⟨(h.2.2 t ht).1,(h.2.2 t ht).2.1,(h.2.2 t ht).2.2.1.mono hb⟩⟩
def PlX.e {s:Int}(hs:s=1\/s = -1)(hc:PlX s c0):PlE s c0:=by
 intro h us vs L b p n m k f g Q E hu hv hb hn hm hk cap x;have nu:=fJ hu.1.2.1;refine hc (hu.1.ls4 hb hn) (hv.1.ls4 hb hm) fun rs a=>?_;have mr:=(HD hu.1 hv.1 hs a).cap cap;refine ⟨fun _=>x rs ⟨mr,fun xs=>?_⟩,fun l=>?_⟩
 ·rw [wF.lin (iJ nu) a,xM nu,hu.2,hv.2]
 ·have:=mr.1
  omega
def Ev.le {b' p' n':Nat}(h:Ev L b p n f us)(hb:b<=b')(hp:p<=p')(hn:n<=n'):Ev L b' p' n' f us:=⟨h.1.mono hb hp hn,h.2⟩
def Ev.eq {g:List Int->Int}(h:Ev L b p n f us)(e:∀ xs,f xs=g xs):Ev L b p n g us:=⟨h.1,fun xs=>by rw [h.2,e]⟩
def Ev.nil (L b p n:Nat):Ev L b p n (fun _=>0) []:=⟨⟨adu _,.nil,fun _ h=>(nomatch h)⟩,fun _=>rfl⟩
abbrev tW (T:List (List Tm)):W:=.tup (T.map smW)
abbrev Fn:=List Int->Int
structure E3 (L b p n:Nat) (f g h:Fn) (x y z:List Tm):Prop where
 x1:Ev L b p n f x
 x2:Ev L b p n g y
 x3:Ev L b p n h z
structure Nm (L b c p q n m k:Nat):Prop where
 hl:L<=8
 hb:b+c+20<=1000
 hn:n<=64
 hm:m<=64
 hp:p<=30
 hq:q<=30
 hk:k<=400
 cap:Cap L (p+q) (n*m) k
variable {ti : MSp}
def R7 (hti:TiE ti){c q k:Nat}(N:Nm L b c p q n m k){f g:Fn}(hu:Ev L b p n f us)(hv:Ev L c q m g vs)(x:∀ rs,Ev L (b+c+13) (p+q) k (fun xs=>f xs*g xs) rs->Q (smW rs) h):ti [smW us,smW vs] h Q E:=by
 have:=N.hb
 have:=N.hk
 exact hti k hu hv N.hl (by omega) (by omega) N.hn N.hm N.hp N.hq (by omega) N.cap x
def LsE (c0:MSp):Prop:=∀ {h:Gh} {A B:List (List Tm)} {i j:Nat} {u1 u2 v1 v2:List Tm} {f1 f2 g1 g2:Fn} {L b c p q n m k k2:Nat} {Q:WK} {E:XWK},Nm L b c p q n m k->k2<=600->Cap L (p+q) (k+k) k2 ->
 A[i]?=some u1->A[j]?=some u2->B[j]?=some v1->B[i]?=some v2->Ev L b p n f1 u1->Ev L b p n f2 u2->Ev L c q m g1 v1->Ev L c q m g2 v2 ->
 (∀ rs,Ev L (b+c+14) (p+q) k2 (fun xs=>f1 xs*g1 xs - f2 xs*g2 xs) rs->Q (smW rs) h)->c0 [tW A,tW B,.int (i:Int),.int (j:Int)] h Q E
variable {A : List (List Tm)}{u : List Tm}
def wZ (e:A[i]?=some u)(x:Q (smW u) h):kIx (tW A) (.int (i:Int)) h Q:=
 cH (ws:=A.map smW) rfl (cG (by rw [acu,e];rfl)) x
def Uv {mi:MSp}(hmi:PlE (-1) mi)(hti:TiE ti):LsE (gA mi ti):=by
 intro h A B i j u1 u2 v1 v2 f1 f2 g1 g2 L b c p q n m k k2 Q E N hk2 cap e1 e2 e3 e4 a1 a2 a3 a4 x;have:=N.hb
 have:=N.hk
 unfold gA;refine cA rfl (Z:=[some<|tW A,some<|tW B,some<|.int (i:Int),some<|.int (j:Int)]) rfl<|aX<|aB<|aj<|aB<|aj<|aD<|ak rfl<|ak rfl<|wZ e1 ?_
 refine aj<|aD<|ak rfl<|ak rfl<|wZ e3<|aq<|R7 hti N a1 a3 fun r1 b1=>?_
 refine aj<|aB<|aj<|aD<|ak rfl<|ak rfl<|wZ e2 ?_
 refine aj<|aD<|ak rfl<|ak rfl<|wZ e4<|aq<|R7 hti N a2 a4 fun r2 b2=>aq ?_
 refine hmi k2 b1 b2 (by omega) (by omega) (by omega) hk2 cap fun rs er=>gH<|x rs<|er.eq fun xs=>?_
 omega
def CrE (c0:MSp):Prop:=∀ {h:Gh} {x y z u v w:List Tm} {f1 f2 f3 g1 g2 g3:Fn} {L b c p q n m k k2:Nat} {Q:WK} {E:XWK},Nm L b c p q n m k->k2<=600->Cap L (p+q) (k+k) k2 ->
 E3 L b p n f1 f2 f3 x y z->E3 L c q m g1 g2 g3 u v w ->
 (∀ a b1 c1,E3 L (b+c+14) (p+q) k2 (fun xs=>f2 xs*g3 xs - f3 xs*g2 xs) (fun xs=>f3 xs*g1 xs - f1 xs*g3 xs) (fun xs=>f1 xs*g2 xs - f2 xs*g1 xs) a b1 c1->Q (tW [a,b1,c1]) h)->c0 [tW [x,y,z],tW [u,v,w]] h Q E
def JC {ls:MSp}(hls:LsE ls):CrE (jG ls):=by
 intro h x y z u v w f1 f2 f3 g1 g2 g3 L b c p q n m k k2 Q E N hk2 cap e1 e2 q';unfold jG;refine cA rfl (Z:=[some<|tW [x,y,z],some<|tW [u,v,w]]) rfl<|aX<|cQ<|aj<|aB<|aj<|ak rfl<|aj<|ak rfl<|aj<|aU<|aj<|aU<|aq ?_
 refine hls (i:=1) (j:=2) N hk2 cap rfl rfl rfl rfl e1.x2 e1.x3 e2.x3 e2.x2 fun a ea=>?_;refine aj<|aB<|aj<|ak rfl<|aj<|ak rfl<|aj<|aU<|aj<|aU<|aq ?_
 refine hls (i:=2) (j:=0) N hk2 cap rfl rfl rfl rfl e1.x3 e1.x1 e2.x1 e2.x3 fun b1 eb=>?_;refine aj<|aB<|aj<|ak rfl<|aj<|ak rfl<|aj<|aU<|aj<|aU<|aq ?_
 refine hls (i:=0) (j:=1) N hk2 cap rfl rfl rfl rfl e1.x1 e1.x2 e2.x2 e2.x1 fun c1 ec=>?_;exact aq<|bC rfl<|gH<|q' a b1 c1 ⟨ea,eb,ec⟩
def DoE (c0:MSp):Prop:=∀ {h:Gh} {x y z u v w:List Tm} {f1 f2 f3 g1 g2 g3:Fn} {L b c p q n m k k3:Nat} {Q:WK} {E:XWK},Nm L b c p q n m k->k*3<=400->k3<=600->Cap L (p+q) (k*3) k3 ->
 E3 L b p n f1 f2 f3 x y z->E3 L c q m g1 g2 g3 u v w ->
 (∀ r,Ev L (b+c+16) (p+q) k3 (fun xs=>f1 xs*g1 xs+f2 xs*g2 xs+f3 xs*g3 xs) r->Q (smW r) h)->c0 [tW [x,y,z],tW [u,v,w]] h Q E
set_option maxHeartbeats 1000000 in
variable {pl : MSp}
def TQ (hpl:PlE 1 pl)(hti:TiE ti):DoE (pJ pl ti):=by
 intro h x y z u v w f1 f2 f3 g1 g2 g3 L b c p q n m k k3 Q E N kk hk3 cap e1 e2 q';have:=N.hb
 unfold pJ;refine cA rfl (Z:=[some<|tW [x,y,z],some<|tW [u,v,w],none,none,none]) rfl<|aH<|aP<|cQ<|aq<|bC rfl ?_
 refine nV<|bw ?_
 refine aH<|iw<|qL<|aj<|ak rfl<|aj<|ak rfl<|aq ?_
 refine Bx (as:=[smW x,smW y,smW z]) (bs:=[smW u,smW v,smW w]) rfl rfl rfl<|iB ?_
 have step:∀ {t mx ix:List Tm} {s3 s4:Option W} {h':Gh} {F f g:Fn} {N' b0 c0:Sw->Gh->Prop} {r0:WK} (i:Nat),i<=2->Ev L (b+c+13+i) (p+q) (k*i) F t->Ev L b p n f mx->Ev L c q m g ix ->
   (∀ rs,Ev L (b+c+13+(i+1)) (p+q) (k*(i+1)) (fun xs=>F xs+f xs*g xs) rs->N' [some (tW [x,y,z]),some (tW [u,v,w]),some (smW rs),some (smW mx),some (smW ix)] h') ->
   (gU 2 (bY (nName 3) (bY (nName 4) wD))) (.tup [smW mx,smW ix]) [some (tW [x,y,z]),some (tW [u,v,w]),some (smW t),s3,s4] h' fun Z1 h1=>(bL (aJ pl E (ao (aA 2) (ao (aJ ti E (ao (aA 3) (ao (aA 4) aL))) aL))) (nName 2)) { nx:=N',rt:=r0,bk:=b0,ct:=c0 } Z1 h1:=fun {t mx ix s3 s4 h' F f g N' b0 c0 r0} i hi et em ei k'=>by
  refine iW rfl rfl<|bZ<|nV ?_
  refine bZ<|nV ?_
  refine jY ?_;refine aP<|aB<|aj<|ak rfl<|aj<|aB<|aj<|ak rfl<|aj<|ak rfl<|aq<|R7 hti N em ei fun r1 b1=>aq ?_
  have c1:k*i<=400:=acq (Nat.mul_le_mul_left k (by omega:i<=3)) kk;have c2:k*(i+1)<=400:=acq (Nat.mul_le_mul_left k (by omega:i+1<=3)) kk;refine hpl (k*(i+1)) et (b1.le (by omega) (acj _)<|acj _) (by omega) c1 (by omega) (by omega) (.inl (by rw [Nat.mul_succ];exact acj _)) fun rs er=>?_;refine nV<|bw ?_
  refine k' rs<|(er.le (by omega) (acj _)<|acj _).eq fun xs=>?_
  omega
 refine sY<|step (s3:=none) (s4:=none) (t:=[]) (F:=fun _=>0) 0 (by omega) (Ev.nil ..) e1.x1 e2.x1 fun r1 a1=>?_
 refine sY<|step 1 (by omega) a1 e1.x2 e2.x2 fun r2 a2=>?_
 refine sY<|step 2 (by omega) a2 e1.x3 e2.x3 fun r3 a3=>?_
 refine Ec ?_;unfold pB;refine bw<|aX<|ak rfl<|gH<|q' r3 ⟨a3.1.cap cap,fun xs=>?_⟩
 rw [a3.2];dsimp only;omega
inductive EL (L b p n:Nat):List Fn->List (List Tm)->Prop
 | nil:EL L b p n [] []
 | cons {f:Fn} {us:List Tm} {fs:List Fn} {T:List (List Tm)}:Ev L b p n f us->EL L b p n fs T->EL L b p n (f::fs) (us::T)
variable {T : List (List Tm)}{fs : List Fn}
def EL.le {L b p n b' p' n':Nat}{fs:List Fn}{T:List (List Tm)}(e:EL L b p n fs T)(hb:b<=b')(hp:p<=p')(hn:n<=n'):EL L b' p' n' fs T:=by
 induction e with
 | nil=>exact .nil
 | cons a _ ih=>exact .cons (a.le hb hp hn) ih
def EL.length {L b p n:Nat}{fs:List Fn}{T:List (List Tm)}(e:EL L b p n fs T):fs.length=T.length:=by
 induction e with
 | nil=>rfl
 | cons _ _ ih=>simp [ih]
def EL.snoc {f:Fn}(e:EL L b p n fs T)(h:Ev L b p n f us):EL L b p n (fs++[f]) (T++[us]):=by
 induction e with
 | nil=>exact .cons h .nil
 | cons a _ ih=>exact .cons a ih
def EL.at {L b p n:Nat}{fs:List Fn}{T:List (List Tm)}(e:EL L b p n fs T){i:Nat}{us:List Tm}(h:T[i]?=some us):∃ f,fs[i]?=some f/\Ev L b p n f us:=by
 induction e generalizing i with
 | nil=>simp at h
 | cons a _ ih=>
  cases i with
  | zero=>cases h;exact ⟨_,rfl,a⟩
  | succ i=>exact ih h
def E3.l {f g h:Fn}{x y z:List Tm}(e:E3 L b p n f g h x y z):EL L b p n [f,g,h] [x,y,z]:=.cons e.x1 (.cons e.x2 (.cons e.x3 .nil))
def EL.e3 {f g h:Fn}(e:EL L b p n [f,g,h] T):∃ x y z,T=[x,y,z]/\E3 L b p n f g h x y z:=by
 cases e with
 | cons a e=>cases e with
  | cons b e=>cases e with
   | cons c e=>cases e;exact ⟨_,_,_,rfl,a,b,c⟩
def StE (c0:MSp):Prop:=∀ {h:Gh} {T:List (List Tm)} {fs:List Fn} {vs:List Tm} {g:Fn} {L b c p q n m k:Nat} {Q:WK} {E:XWK},Nm L b c p q n m k->T.length<=6->EL L b p n fs T->Ev L c q m g vs ->
 (∀ R,EL L (b+c+13) (p+q) k (fs.map fun f xs=>f xs*g xs) R->Q (tW R) h)->c0 [tW T,smW vs] h Q E
def K5 (hti:TiE ti):StE (iR ti):=by
 intro h T fs vs g L b c p q n m k Q E N hT e ev q';have lf:=e.length;unfold iR;refine cA rfl (Z:=[some<|tW T,some<|smW vs]) rfl<|aX<|bK<|aj<|gj<|gw<|ak rfl<|qz (ws:=T.map smW) (o:=none) rfl<|fL.mk (acq (m:=1000) (by rw [acf];omega)<|by decide) ?_
 refine dF (fun i acc h'=>h'=h/\∃ R,acc=R.map smW/\EL L (b+c+13) (p+q) k ((fs.take i).map fun f xs=>f xs*g xs) R) ?_ ?_ ⟨rfl,[],rfl,.nil⟩
 ·rintro i w acc h' N' hN e' ⟨rfl,R,rfl,er⟩;rw [acu] at e';cases qe:T[i]? with
  | none=>rw [qe] at e';cases e'
  | some us=>
   rw [qe] at e';cases e'
   obtain ⟨f,ef,eu⟩:=e.at qe;refine ⟨[smW us],rfl,bG<|bD<|aB<|aj<|ak rfl<|aj<|ak rfl<|aq ?_⟩;refine R7 hti N eu ev fun rs er1=>hN _ _ ⟨rfl,R++[rs],by rw [acB];rfl,?_⟩;rw [adl,ef,acB];exact er.snoc er1
 ·rintro acc h' ⟨rfl,R,rfl,er⟩;rw [acf,<-lf,adf] at er;exact aq<|bW<|gH<|q' R er
def SmE (c0:MSp):Prop:=∀ {h:Gh} {T S:List (List Tm)} {fs gs:List Fn} {L b p n k:Nat} {Q:WK} {E:XWK},b<=1000->n<=400->k<=600->Cap L p (n+n) k->T.length<=6->T.length=S.length->EL L b p n fs T->EL L b p n gs S ->
 (∀ R,EL L (b+1) p k (List.zipWith (fun f g xs=>f xs - g xs) fs gs) R->Q (tW R) h)->c0 [tW T,tW S] h Q E
def J9 {gs:List Fn}{f g:Fn}{F:Fn->Fn->Fn}(e1:fs[i]?=some f)(e2:gs[i]?=some g):(List.zipWith F fs gs).take (i+1)=(List.zipWith F fs gs).take i++[F f g]:=by
 rw [adl,List.getElem?_zipWith,e1,e2];rfl
def Ks {mi:MSp}(hmi:PlE (-1) mi):SmE (jg mi):=by
 intro h T S fs gs L b p n k Q E hb hn hk cap hT hS e1 e2 q';have l1:=e1.length;have l2:=e2.length;unfold jg;refine cA rfl (Z:=[some<|tW T,some<|tW S]) rfl<|aX<|bK<|aj<|gj<|qL<|aj<|ak rfl<|aj<|ak rfl<|aq<|Bx (as:=T.map smW) (bs:=S.map smW) rfl rfl rfl ?_
 have lz:(nH (T.map smW) (S.map smW)).length=T.length:=by rw [nQ,acf,acf];omega
 refine fL.mk (acq (m:=1000) (by rw [lz];omega)<|by decide) ?_;refine dF (fun i acc h'=>h'=h/\∃ R,acc=R.map smW/\EL L (b+1) p k ((List.zipWith (fun f g xs=>f xs - g xs) fs gs).take i) R) ?_ ?_ ⟨rfl,[],rfl,.nil⟩
 ·rintro i w acc h' N' hN e' ⟨rfl,R,rfl,er⟩;obtain ⟨a,c,ea,ec,rfl⟩:=n8 e';rw [acu] at ea ec;cases qa:T[i]? with
  | none=>rw [qa] at ea;cases ea
  | some us=>
   cases qc:S[i]? with
   | none=>rw [qc] at ec;cases ec
   | some vs=>
    rw [qa] at ea;rw [qc] at ec;cases ea;cases ec;obtain ⟨f,ef,eu⟩:=e1.at qa;obtain ⟨g,eg,ev⟩:=e2.at qc;refine ⟨[smW us,smW vs],rfl,bG<|bD<|aB<|aj<|ak rfl<|aj<|ak rfl<|aq ?_⟩;refine hmi k eu ev hb hn hn hk cap fun rs er1=>hN _ _ ⟨rfl,R++[rs],by rw [acB];rfl,?_⟩;rw [J9 ef eg];exact er.snoc<|er1.eq fun xs=>by omega
 ·rintro acc h' ⟨rfl,R,rfl,er⟩;rw [lz,aev (by rw [List.length_zipWith];omega)] at er;exact aq<|bW<|gH<|q' R er
def add_same {f:Int}(h:∀ t∈vs,t.1∈us.map (·.1)):(pO f us vs).map (·.1)=us.map (·.1):=by
 revert h
 refine snoc_ind (P:=fun vs=>(∀ t∈vs,t.1∈us.map (·.1))->(pO f us vs).map (·.1)=us.map (·.1)) (fun _=>rfl) (fun vs t ih h=>?_) vs;have ih:=ih fun u hu=>h u (adQ _ hu)
 rw [gD,nU,ih,if_pos (h t (by simp))]
def DbE (c0:MSp):Prop:=∀ {h:Gh} {us:List Tm} {f:Fn} {L b p n:Nat} {Q:WK} {E:XWK},b<=1000->n<=400->Ev L b p n f us->(∀ rs,Ev L (b+1) p n (fun xs=>2*f xs) rs->Q (smW rs) h)->c0 [smW us] h Q E
def G8 (hpl:PlX 1 pl):DbE (oR pl):=by
 intro h us f L b p n Q E hb hn e q';have nu:=fJ e.1.2.1;unfold oR;refine cA rfl (Z:=[some<|smW us]) rfl<|aX<|aB<|aj<|ak rfl<|aj<|ak rfl<|aq ?_
 refine hpl (e.1.ls4 hb hn) (e.1.ls4 hb hn) fun rs a=>?_;have mr:=HD e.1 e.1 (.inl rfl) a;have lr:rs.length<=n:=by
  have h1:=(wF.mem (iJ nu) a).1;have h2:=congrArg aeS (add_same (f:=1) (us:=us) (vs:=us) fun t ht=>acJ.mpr ⟨t,ht,rfl⟩);rw [acf,acf] at h2;have:=e.1.1
  omega
 refine ⟨fun _=>gH<|q' rs ⟨⟨lr,mr.2⟩,fun xs=>?_⟩,fun l=>absurd l<|by omega⟩;rw [wF.lin (iJ nu) a,xM nu,e.2];dsimp only;omega
def tij (hti:TiE ti){c q k:Nat}(N:Nm L b c p q n m k){B:List (List Tm)}{j:Nat}{v:List Tm}{f g:Fn}(v0:Z[0]?=some (some (tW A)))(v1:Z[1]?=some (some (tW B)))(eu:A[i]?=some u)(ev:B[j]?=some v)(hu:Ev L b p n f u)(hv:Ev L c q m g v)
  (x:∀ rs,Ev L (b+c+13) (p+q) k (fun xs=>f xs*g xs) rs->Q (smW rs) h) :
  aJ ti E (ao (mOp kIx (aA 0) (mC (.int (i:Int)))) (ao (mOp kIx (aA 1) (mC (.int (j:Int)))) aL)) Z h Q:=
 aB (aj (aD (ak v0 (aU (wZ eu (aj (aD (ak v1 (aU (wZ ev (aq (R7 hti N hu hv x))))))))))))
def pij (hpl:PlE 1 pl)(hti:TiE ti){c q k k2:Nat}(N:Nm L b c p q n m k)(hk2:k2<=600)(cap:Cap L (p+q) (k+k) k2){B:List (List Tm)}{j i' j':Nat}{v u' v':List Tm}{f g f' g':Fn}(v0:Z[0]?=some (some (tW A)))(v1:Z[1]?=some (some (tW B)))(eu:A[i]?=some u)(ev:B[j]?=some v)(hu:Ev L b p n f u)(hv:Ev L c q m g v)(eu':A[i']?=some u')(ev':B[j']?=some v')(hu':Ev L b p n f' u')(hv':Ev L c q m g' v')
  (x:∀ rs,Ev L (b+c+14) (p+q) k2 (fun xs=>f xs*g xs+f' xs*g' xs) rs->Q (smW rs) h) :
  aJ pl E (ao (aJ ti E (ao (mOp kIx (aA 0) (mC (.int (i:Int)))) (ao (mOp kIx (aA 1) (mC (.int (j:Int)))) aL))) (ao (aJ ti E (ao (mOp kIx (aA 0) (mC (.int (i':Int)))) (ao (mOp kIx (aA 1) (mC (.int (j':Int)))) aL))) aL)) Z h Q:=by
 have:=N.hb
 have:=N.hk
 refine aB<|aj<|tij hti N v0 v1 eu ev hu hv fun r1 e1=>aj<|tij hti N v0 v1 eu' ev' hu' hv' fun r2 e2=>aq ?_
 exact hpl k2 e1 e2 (by omega) (by omega) (by omega) hk2 cap fun rs er=>x rs<|er.eq fun xs=>by omega
def ToE (c0:MSp):Prop:=∀ {h:Gh} {x y z u v w:List Tm} {f1 f2 f3 g1 g2 g3:Fn} {L b c p q n m k k2:Nat} {Q:WK} {E:XWK},Nm L b c p q n m k->k<=k2->k2<=600->Cap L (p+q) (k+k) k2 ->
 E3 L b p n f1 f2 f3 x y z->E3 L c q m g1 g2 g3 u v w ->
 (∀ R,EL L (b+c+14) (p+q) k2 [fun xs=>f1 xs*g1 xs,fun xs=>f1 xs*g2 xs+f2 xs*g1 xs,fun xs=>f2 xs*g2 xs,fun xs=>f1 xs*g3 xs+f3 xs*g1 xs,fun xs=>f2 xs*g3 xs+f3 xs*g2 xs,fun xs=>f3 xs*g3 xs] R->Q (tW R) h)->c0 [tW [x,y,z],tW [u,v,w]] h Q E
set_option maxHeartbeats 1000000 in
def Cu (hpl:PlE 1 pl)(hti:TiE ti):ToE (fZ pl ti):=by
 intro h x y z u v w f1 f2 f3 g1 g2 g3 L b c p q n m k k2 Q E N hkk hk2 cap e1 e2 q';unfold fZ;refine cA rfl (Z:=[some<|tW [x,y,z],some<|tW [u,v,w]]) rfl<|aX<|cQ<|aj ?_
 refine tij (i:=0) (j:=0) hti N rfl rfl rfl rfl e1.x1 e2.x1 fun a1 b1=>aj ?_;refine pij (i:=0) (j:=1) (i':=1) (j':=0) hpl hti N hk2 cap rfl rfl rfl rfl e1.x1 e2.x2 rfl rfl e1.x2 e2.x1 fun a2 b2=>aj ?_;refine tij (i:=1) (j:=1) hti N rfl rfl rfl rfl e1.x2 e2.x2 fun a3 b3=>aj ?_;refine pij (i:=0) (j:=2) (i':=2) (j':=0) hpl hti N hk2 cap rfl rfl rfl rfl e1.x1 e2.x3 rfl rfl e1.x3 e2.x1 fun a4 b4=>aj ?_;refine pij (i:=1) (j:=2) (i':=2) (j':=1) hpl hti N hk2 cap rfl rfl rfl rfl e1.x2 e2.x3 rfl rfl e1.x3 e2.x2 fun a5 b5=>aj ?_;refine tij (i:=2) (j:=2) hti N rfl rfl rfl rfl e1.x3 e2.x3 fun a6 b6=>aq<|bC rfl<|gH<|q' [a1,a2,a3,a4,a5,a6] ?_
 exact .cons (b1.le (by omega) (acj _) hkk)<|.cons b2<|.cons (b3.le (by omega) (acj _) hkk)<|.cons b4<|.cons b5<|.cons (b6.le (by omega) (acj _) hkk) .nil
abbrev t3 (A B C:List (List Tm)):W:=.tup [tW A,tW B,tW C]
def TaE (c0:MSp):Prop:=∀ {h:Gh} {x0 x1 x2 x3 x4 x5:List Tm} {f0 f1 f2 f3 f4 f5:Fn} {L b p n:Nat} {Q:WK} {E:XWK},b<=1000->n<=400->EL L b p n [f0,f1,f2,f3,f4,f5] [x0,x1,x2,x3,x4,x5] ->
 (∀ a d g,E3 L (b+1) p n (fun xs=>2*f0 xs) f1 f3 a x1 x3->E3 L (b+1) p n f1 (fun xs=>2*f2 xs) f4 x1 d x4->E3 L (b+1) p n f3 f4 (fun xs=>2*f5 xs) x3 x4 g->Q (t3 [a,x1,x3] [x1,d,x4] [x3,x4,g]) h)->c0 [tW [x0,x1,x2,x3,x4,x5]] h Q E
def RG {db:MSp}(hdb:DbE db):TaE (jE db):=by
 intro h x0 x1 x2 x3 x4 x5 f0 f1 f2 f3 f4 f5 L b p n Q E hb hn e q';cases e with
 | cons e0 e=>cases e with
  | cons e1 e=>cases e with
   | cons e2 e=>cases e with
    | cons e3 e=>cases e with
     | cons e4 e=>cases e with
      | cons e5 e=>
       unfold jE;refine cA rfl (Z:=[some<|tW [x0,x1,x2,x3,x4,x5]]) rfl<|aX<|cQ<|aj<|cQ<|aj<|aB<|aj<|aD<|ak rfl<|aU<|wZ (i:=0) rfl<|aq ?_
       refine hdb hb hn e0 fun a ea=>?_;refine aj<|aD<|ak rfl<|aU<|wZ (i:=1) rfl<|aj<|aD<|ak rfl<|aU<|wZ (i:=3) rfl<|aq<|bC rfl ?_
       refine aj<|cQ<|aj<|aD<|ak rfl<|aU<|wZ (i:=1) rfl<|aj<|aB<|aj<|aD<|ak rfl<|aU<|wZ (i:=2) rfl<|aq ?_
       refine hdb hb hn e2 fun d ed=>?_;refine aj<|aD<|ak rfl<|aU<|wZ (i:=4) rfl<|aq<|bC rfl ?_
       refine aj<|cQ<|aj<|aD<|ak rfl<|aU<|wZ (i:=3) rfl<|aj<|aD<|ak rfl<|aU<|wZ (i:=4) rfl ?_
       refine aj<|aB<|aj<|aD<|ak rfl<|aU<|wZ (i:=5) rfl<|aq ?_
       refine hdb hb hn e5 fun g eg=>aq<|bC rfl<|aq<|bC rfl<|gH ?_
       have l1:=e1.le (aeU b) (acj p) (acj n);have l3:=e3.le (aeU b) (acj p) (acj n);have l4:=e4.le (aeU b) (acj p) (acj n);exact q' a d g ⟨ea,l1,l3⟩ ⟨l1,ed,l4⟩ ⟨l3,l4,eg⟩
def ix3 {B C D:List (List Tm)}(e:[A,B,C][i]?=some D)(x:Q (tW D) h):kIx (t3 A B C) (.int (i:Int)) h Q:=
 cH (ws:=[A,B,C].map tW) rfl (cG (by rw [acu,e];rfl)) x
def TuE (c0:MSp):Prop:=∀ {h:Gh} {x y z u v w r s t:List Tm} {f1 f2 f3 g1 g2 g3 h1 h2 h3:Fn} {L b c d p q o n m l k k2 k3 k4:Nat} {Q:WK} {E:XWK},Nm L b c p q n m k->k2<=600->Cap L (p+q) (k+k) k2->Nm L (b+c+14) d (p+q) o k2 l k3->k3*3<=400->k4<=600->Cap L (p+q+o) (k3*3) k4 ->
 E3 L b p n f1 f2 f3 x y z->E3 L c q m g1 g2 g3 u v w->E3 L d o l h1 h2 h3 r s t ->
 (∀ e,Ev L (b+c+14+d+16) (p+q+o) k4 (fun xs=>(f2 xs*g3 xs - f3 xs*g2 xs)*h1 xs+(f3 xs*g1 xs - f1 xs*g3 xs)*h2 xs+(f1 xs*g2 xs - f2 xs*g1 xs)*h3 xs) e->Q (smW e) h)->c0 [tW [x,y,z],tW [u,v,w],tW [r,s,t]] h Q E
variable {cr dt : MSp}
def Qk (hcr:CrE cr)(hdt:DoE dt):TuE (mD cr dt):=by
 intro h x y z u v w r s t f1 f2 f3 g1 g2 g3 h1 h2 h3 L b c d p q o n m l k k2 k3 k4 Q E N hk2 cap N2 kk hk4 cap2 e1 e2 e3 q';unfold mD;refine cA rfl (Z:=[some<|tW [x,y,z],some<|tW [u,v,w],some<|tW [r,s,t]]) rfl<|aX<|aB<|aj<|aB<|aj<|ak rfl<|aj<|ak rfl<|aq ?_
 refine hcr N hk2 cap e1 e2 fun a b1 c1 ea=>aj<|ak rfl<|aq ?_
 exact hdt N2 kk hk4 cap2 ea e3 fun r2 e=>gH<|q' r2 e
def TrE (c0:MSp):Prop:=∀ {h:Gh} {a1 a2 a3 b1 b2 b3 c1 c2 c3:List Tm} {f1 f2 f3 g1 g2 g3 h1 h2 h3:Fn} {L b p n k k2:Nat} {Q:WK} {E:XWK},Nm L b b p p n n k->k2<=600->Cap L (p+p) (k+k) k2 ->
 E3 L b p n f1 f2 f3 a1 a2 a3->E3 L b p n g1 g2 g3 b1 b2 b3->E3 L b p n h1 h2 h3 c1 c2 c3 ->
 (∀ A B C,(∃ x y z,A=[x,y,z]/\E3 L (b+b+14) (p+p) k2 (fun xs=>g2 xs*h3 xs - g3 xs*h2 xs) (fun xs=>g3 xs*h1 xs - g1 xs*h3 xs) (fun xs=>g1 xs*h2 xs - g2 xs*h1 xs) x y z) ->
  (∃ x y z,B=[x,y,z]/\E3 L (b+b+14) (p+p) k2 (fun xs=>h2 xs*f3 xs - h3 xs*f2 xs) (fun xs=>h3 xs*f1 xs - h1 xs*f3 xs) (fun xs=>h1 xs*f2 xs - h2 xs*f1 xs) x y z) ->
  (∃ x y z,C=[x,y,z]/\E3 L (b+b+14) (p+p) k2 (fun xs=>f2 xs*g3 xs - f3 xs*g2 xs) (fun xs=>f3 xs*g1 xs - f1 xs*g3 xs) (fun xs=>f1 xs*g2 xs - f2 xs*g1 xs) x y z)->Q (t3 A B C) h) ->
 c0 [t3 [a1,a2,a3] [b1,b2,b3] [c1,c2,c3]] h Q E
def JW (hcr:CrE cr):TrE (gJ cr):=by
 intro h a1 a2 a3 b1 b2 b3 c1 c2 c3 f1 f2 f3 g1 g2 g3 h1 h2 h3 L b p n k k2 Q E N hk2 cap ea eb ec q';unfold gJ;refine cA rfl (Z:=[some<|t3 [a1,a2,a3] [b1,b2,b3] [c1,c2,c3]]) rfl<|aX<|cQ<|aj ?_
 refine aB<|aj<|aD<|ak rfl<|aU<|ix3 (i:=1) rfl<|aj<|aD<|ak rfl<|aU<|ix3 (i:=2) rfl<|aq ?_
 refine hcr N hk2 cap eb ec fun x y z e1=>?_;refine aj<|aB<|aj<|aD<|ak rfl<|aU<|ix3 (i:=2) rfl<|aj<|aD<|ak rfl<|aU<|ix3 (i:=0) rfl<|aq ?_
 refine hcr N hk2 cap ec ea fun x' y' z' e2=>?_;refine aj<|aB<|aj<|aD<|ak rfl<|aU<|ix3 (i:=0) rfl<|aj<|aD<|ak rfl<|aU<|ix3 (i:=1) rfl<|aq ?_
 refine hcr N hk2 cap ea eb fun x2 y2 z2 e3=>aq<|bC rfl<|gH ?_
 exact q' _ _ _ ⟨_,_,_,rfl,e1⟩ ⟨_,_,_,rfl,e2⟩ ⟨_,_,_,rfl,e3⟩
def RtE (c0:MSp):Prop:=∀ {h:Gh} {a1 a2 a3 b1 b2 b3 c1 c2 c3 u v w:List Tm} {f1 f2 f3 g1 g2 g3 h1 h2 h3 k1 k2 k3:Fn} {L b c p q n m k k4:Nat} {Q:WK} {E:XWK},Nm L b c p q n m k->k*3<=400->k4<=600->Cap L (p+q) (k*3) k4 ->
 E3 L b p n f1 f2 f3 a1 a2 a3->E3 L b p n g1 g2 g3 b1 b2 b3->E3 L b p n h1 h2 h3 c1 c2 c3->E3 L c q m k1 k2 k3 u v w ->
 (∀ x y z,E3 L (b+c+16) (p+q) k4 (fun xs=>f1 xs*k1 xs+f2 xs*k2 xs+f3 xs*k3 xs) (fun xs=>g1 xs*k1 xs+g2 xs*k2 xs+g3 xs*k3 xs) (fun xs=>h1 xs*k1 xs+h2 xs*k2 xs+h3 xs*k3 xs) x y z->Q (tW [x,y,z]) h) ->
 c0 [t3 [a1,a2,a3] [b1,b2,b3] [c1,c2,c3],tW [u,v,w]] h Q E
def JX (hdt:DoE dt):RtE (jc dt):=by
 intro h a1 a2 a3 b1 b2 b3 c1 c2 c3 u v w f1 f2 f3 g1 g2 g3 h1 h2 h3 k1 k2 k3 L b c p q n m k k4 Q E N kk hk4 cap ea eb ec ek q';unfold jc;refine cA rfl (Z:=[some<|t3 [a1,a2,a3] [b1,b2,b3] [c1,c2,c3],some<|tW [u,v,w]]) rfl<|aX<|bK<|aj<|gj<|gw<|ak rfl<|qz (ws:=[tW [a1,a2,a3],tW [b1,b2,b3],tW [c1,c2,c3]]) (o:=none) rfl<|yx rfl ?_
 refine dB (vs:=[tW [a1,a2,a3]]) rfl<|bG<|bD<|aB<|aj<|ak rfl<|aj<|ak rfl<|aq ?_
 refine hdt N kk hk4 cap ea ek fun x ex=>?_;refine dB (vs:=[tW [b1,b2,b3]]) rfl<|bG<|bD<|aB<|aj<|ak rfl<|aj<|ak rfl<|aq ?_
 refine hdt N kk hk4 cap eb ek fun y ey=>?_;refine dB (vs:=[tW [c1,c2,c3]]) rfl<|bG<|bD<|aB<|aj<|ak rfl<|aj<|ak rfl<|aq ?_
 refine hdt N kk hk4 cap ec ek fun z ez=>qO<|aq<|bW<|gH ?_
 exact q' x y z ⟨ex,ey,ez⟩
def BoE (c0:MSp):Prop:=∀ {h:Gh} {a1 a2 a3 b1 b2 b3 c1 c2 c3 r s t u v w:List Tm} {f1 f2 f3 g1 g2 g3 h1 h2 h3 j1 j2 j3 k1 k2 k3:Fn} {L b c p q n m k k4 k5 k6:Nat} {Q:WK} {E:XWK},Nm L b c p q n m k->k*3<=400->k4<=600->Cap L (p+q) (k*3) k4->Nm L c (b+c+16) q (p+q) m k4 k5->k5*3<=400->k6<=600->Cap L (q+(p+q)) (k5*3) k6 ->
 E3 L b p n f1 f2 f3 a1 a2 a3->E3 L b p n g1 g2 g3 b1 b2 b3->E3 L b p n h1 h2 h3 c1 c2 c3->E3 L c q m j1 j2 j3 r s t->E3 L c q m k1 k2 k3 u v w ->
 (∀ e,Ev L (c+(b+c+16)+16) (q+(p+q)) k6 (fun xs=>j1 xs*(f1 xs*k1 xs+f2 xs*k2 xs+f3 xs*k3 xs)+j2 xs*(g1 xs*k1 xs+g2 xs*k2 xs+g3 xs*k3 xs)+j3 xs*(h1 xs*k1 xs+h2 xs*k2 xs+h3 xs*k3 xs)) e->Q (smW e) h) ->
 c0 [t3 [a1,a2,a3] [b1,b2,b3] [c1,c2,c3],tW [r,s,t],tW [u,v,w]] h Q E
def Uh {rt:MSp}(hdt:DoE dt)(hrt:RtE rt):BoE (cT dt rt):=by
 intro h a1 a2 a3 b1 b2 b3 c1 c2 c3 r s t u v w f1 f2 f3 g1 g2 g3 h1 h2 h3 j1 j2 j3 k1 k2 k3 L b c p q n m k k4 k5 k6 Q E N kk hk4 cap N2 kk2 hk6 cap2 ea eb ec ej ek q';unfold cT;refine cA rfl (Z:=[some<|t3 [a1,a2,a3] [b1,b2,b3] [c1,c2,c3],some<|tW [r,s,t],some<|tW [u,v,w]]) rfl<|aX<|aB<|aj<|ak rfl<|aj<|aB<|aj<|ak rfl<|aj<|ak rfl<|aq ?_
 refine hrt N kk hk4 cap ea eb ec ek fun x y z e=>aq ?_;exact hdt N2 kk2 hk6 cap2 ej e fun r2 e=>gH<|q' r2 e
def SzE (c0:MSp):Prop:=∀ {h:Gh} {a1 a2 a3 b1 b2 b3 c1 c2 c3:List Tm} {f1 f2 f3 g1 g2 g3 h1 h2 h3:Fn} {L b p n k k2 k3 k4:Nat} {Q:WK} {E:XWK},Nm L b b p p n n k->k2<=600->Cap L (p+p) (k+k) k2->Nm L (b+b+14) b (p+p) p k2 n k3->k3*3<=400->k4<=600->Cap L (p+p+p) (k3*3) k4 ->
 E3 L b p n f1 f2 f3 a1 a2 a3->E3 L b p n g1 g2 g3 b1 b2 b3->E3 L b p n h1 h2 h3 c1 c2 c3 ->
 (∀ e,Ev L (b+b+14+b+16) (p+p+p) k4 (fun xs=>(f2 xs*g3 xs - f3 xs*g2 xs)*h1 xs+(f3 xs*g1 xs - f1 xs*g3 xs)*h2 xs+(f1 xs*g2 xs - f2 xs*g1 xs)*h3 xs) e->Q (smW e) h)->c0 [t3 [a1,a2,a3] [b1,b2,b3] [c1,c2,c3]] h Q E
variable {tu : MSp}
def RZ (htu:TuE tu):SzE (jQ tu):=by
 intro h a1 a2 a3 b1 b2 b3 c1 c2 c3 f1 f2 f3 g1 g2 g3 h1 h2 h3 L b p n k k2 k3 k4 Q E N hk2 cap N2 kk hk4 cap2 ea eb ec q';unfold jQ;refine cA rfl (Z:=[some<|t3 [a1,a2,a3] [b1,b2,b3] [c1,c2,c3]]) rfl<|aX ?_
 refine aB<|aj<|aD<|ak rfl<|aU<|ix3 (i:=0) rfl<|aj<|aD<|ak rfl<|aU<|ix3 (i:=1) rfl ?_
 refine aj<|aD<|ak rfl<|aU<|ix3 (i:=2) rfl<|aq ?_
 exact htu N hk2 cap N2 kk hk4 cap2 ea eb ec fun e ee=>gH<|q' e ee
def Cl (L n:Nat):Prop:=L<=2/\n=4\/L<=8/\n=1
def Cap.box {k:Nat}(h:L<=2)(e:agR ((p+1)*(p+1)) k=true):Cap L p n k:=.inr ⟨h,afA e⟩
def Cap.few {k:Nat}(e:agR n k=true):Cap L p n k:=.inl (afA e)
def Nm.bx {c q k:Nat}(l:L<=2)(h:b+c+20<=1000/\n<=64/\m<=64/\p<=30/\q<=30/\k<=400/\agR ((p+q+1)*(p+q+1)) k=true:=by decide):Nm L b c p q n m k:=⟨by omega,h.1,h.2.1,h.2.2.1,h.2.2.2.1,h.2.2.2.2.1,h.2.2.2.2.2.1,.box l h.2.2.2.2.2.2⟩
def Nm.fw {c q k:Nat}(l:L<=8)(h:b+c+20<=1000/\n<=64/\m<=64/\p<=30/\q<=30/\k<=400/\agR (n*m) k=true:=by decide):Nm L b c p q n m k:=⟨l,h.1,h.2.1,h.2.2.1,h.2.2.2.1,h.2.2.2.2.1,h.2.2.2.2.2.1,.few h.2.2.2.2.2.2⟩
def IW {A:List (List (List Tm))}(e:A[i]?=some T)(x:Q (tW T) h):kIx (.lst (A.map tW)) (.int (i:Int)) h Q:=
 cH (ws:=A.map tW) rfl (cG (by rw [acu,e];rfl)) x
abbrev Sp (L n:Nat)(f g h:Fn)(x y z:List Tm):Prop:=E3 L 40 1 n f g h x y z
def crv (f1 f2 f3 g1 g2 g3 h1 h2 h3 j1 j2 j3 k1 k2 k3:Fn):List Fn:=
  let a1:Fn:=fun xs=>f2 xs*g3 xs - f3 xs*g2 xs;let a2:Fn:=fun xs=>f3 xs*g1 xs - f1 xs*g3 xs;let a3:Fn:=fun xs=>f1 xs*g2 xs - f2 xs*g1 xs
  let b1:Fn:=fun xs=>h2 xs*j3 xs - h3 xs*j2 xs;let b2:Fn:=fun xs=>h3 xs*j1 xs - h1 xs*j3 xs;let b3:Fn:=fun xs=>h1 xs*j2 xs - h2 xs*j1 xs
  let c1:Fn:=fun xs=>f2 xs*h3 xs - f3 xs*h2 xs;let c2:Fn:=fun xs=>f3 xs*h1 xs - f1 xs*h3 xs;let c3:Fn:=fun xs=>f1 xs*h2 xs - f2 xs*h1 xs
  let d1:Fn:=fun xs=>g2 xs*j3 xs - g3 xs*j2 xs;let d2:Fn:=fun xs=>g3 xs*j1 xs - g1 xs*j3 xs;let d3:Fn:=fun xs=>g1 xs*j2 xs - g2 xs*j1 xs
  let mo:Fn:=fun xs=>(a1 xs*k1 xs+a2 xs*k2 xs+a3 xs*k3 xs)*(b1 xs*k1 xs+b2 xs*k2 xs+b3 xs*k3 xs)
  let le:Fn:=fun xs=>(c1 xs*k1 xs+c2 xs*k2 xs+c3 xs*k3 xs)*(d1 xs*k1 xs+d2 xs*k2 xs+d3 xs*k3 xs)
  [fun xs=>c1 xs*d1 xs*mo xs - a1 xs*b1 xs*le xs,fun xs=>(c1 xs*d2 xs+c2 xs*d1 xs)*mo xs - (a1 xs*b2 xs+a2 xs*b1 xs)*le xs,fun xs=>c2 xs*d2 xs*mo xs - a2 xs*b2 xs*le xs,
   fun xs=>(c1 xs*d3 xs+c3 xs*d1 xs)*mo xs - (a1 xs*b3 xs+a3 xs*b1 xs)*le xs,fun xs=>(c2 xs*d3 xs+c3 xs*d2 xs)*mo xs - (a2 xs*b3 xs+a3 xs*b2 xs)*le xs,fun xs=>c3 xs*d3 xs*mo xs - a3 xs*b3 xs*le xs]
def CuE (c0:MSp):Prop:=∀ {h:Gh} {x1 x2 x3 y1 y2 y3 z1 z2 z3 u1 u2 u3 v1 v2 v3:List Tm} {f1 f2 f3 g1 g2 g3 h1 h2 h3 j1 j2 j3 k1 k2 k3:Fn} {L n:Nat} {Q:WK} {E:XWK},Cl L n ->
 Sp L n f1 f2 f3 x1 x2 x3->Sp L n g1 g2 g3 y1 y2 y3->Sp L n h1 h2 h3 z1 z2 z3->Sp L n j1 j2 j3 u1 u2 u3->Sp L n k1 k2 k3 v1 v2 v3 ->
 (∀ R,EL L 1000 40 600 (crv f1 f2 f3 g1 g2 g3 h1 h2 h3 j1 j2 j3 k1 k2 k3) R->Q (tW R) h)->c0 [.lst ([[x1,x2,x3],[y1,y2,y3],[z1,z2,z3],[u1,u2,u3],[v1,v2,v3]].map tW)] h Q E
set_option maxHeartbeats 2000000 in
def Pn {st sm to:MSp}(hti:TiE ti)(hcr:CrE cr)(hdt:DoE dt)(hst:StE st)(hsm:SmE sm)(hto:ToE to):CuE (g8 ti cr dt st sm to):=by
 intro h x1 x2 x3 y1 y2 y3 z1 z2 z3 u1 u2 u3 v1 v2 v3 f1 f2 f3 g1 g2 g3 h1 h2 h3 j1 j2 j3 k1 k2 k3 L n Q E cl ef eg eh ej ek q';have core:∀ {kc kd ke kf kg kh ki kj kk:Nat},Nm L 40 40 1 1 n n kc->kd<=600->Cap L (1+1) (kc+kc) kd->Nm L 94 40 (1+1) 1 kd n ke->ke*3<=400->kf<=600->Cap L (1+1+1) (ke*3) kf->Nm L 150 150 3 3 kf kf kg->Nm L 94 94 2 2 kd kd kh->kh<=ki->ki<=600->Cap L (2+2) (kh+kh) ki->Nm L 202 313 4 6 ki kg kj->kk<=600->Cap L 10 (kj+kj) kk ->
   g8 ti cr dt st sm to [.lst ([[x1,x2,x3],[y1,y2,y3],[z1,z2,z3],[u1,u2,u3],[v1,v2,v3]].map tW)] h Q E:=fun {kc kd ke kf kg kh ki kj kk} N1 a1 a2 N2 a3 a4 a5 N3 N4 a6 a7 a8 N5 a9 a10=>by
  unfold g8;refine cA rfl (Z:=[some<|.lst<|[[x1,x2,x3],[y1,y2,y3],[z1,z2,z3],[u1,u2,u3],[v1,v2,v3]].map tW,none,none,none,none,none,none]) rfl ?_;have ix:∀ {Z : Sw} {i:Nat} {T:List (List Tm)} {h:Gh} {Q:WK},Z[0]?=some (some (.lst ([[x1,x2,x3],[y1,y2,y3],[z1,z2,z3],[u1,u2,u3],[v1,v2,v3]].map tW)))->[[x1,x2,x3],[y1,y2,y3],[z1,z2,z3],[u1,u2,u3],[v1,v2,v3]][i]?=some T->Q (tW T) h->mOp kIx (aA 0) (mC (.int (i:Int))) Z h Q:=fun v0 e x=>aD (ak v0 (aU (IW e x)))
  refine aH<|aP<|aB<|aj<|ix (i:=0) rfl rfl<|aj<|ix (i:=1) rfl rfl<|aq ?_
  refine hcr N1 a1 a2 ef eg fun p1 p2 p3 e1=>nV<|bw ?_
  refine aH<|aP<|aB<|aj<|ix (i:=2) rfl rfl<|aj<|ix (i:=3) rfl rfl<|aq ?_
  refine hcr N1 a1 a2 eh ej fun q1 q2 q3 e2=>nV<|bw ?_
  refine aH<|aP<|aB<|aj<|ix (i:=0) rfl rfl<|aj<|ix (i:=2) rfl rfl<|aq ?_
  refine hcr N1 a1 a2 ef eh fun r1 r2 r3 e3=>nV<|bw ?_
  refine aH<|aP<|aB<|aj<|ix (i:=1) rfl rfl<|aj<|ix (i:=3) rfl rfl<|aq ?_
  refine hcr N1 a1 a2 eg ej fun s1 s2 s3 e4=>nV<|bw ?_
  refine aH<|aP<|aB<|aj<|aB<|aj<|ak rfl<|aj<|ix (i:=4) rfl rfl<|aq ?_
  refine hdt N2 a3 a4 a5 e1 ek fun t1 b1=>aj<|aB<|aj<|ak rfl<|aj<|ix (i:=4) rfl rfl<|aq ?_
  refine hdt N2 a3 a4 a5 e2 ek fun t2 b2=>aq<|R7 hti N3 b1 b2 fun mo b3=>?_
  refine nV<|bw ?_
  refine aH<|aP<|aB<|aj<|aB<|aj<|ak rfl<|aj<|ix (i:=4) rfl rfl<|aq ?_
  refine hdt N2 a3 a4 a5 e3 ek fun t3' b4=>aj<|aB<|aj<|ak rfl<|aj<|ix (i:=4) rfl rfl<|aq ?_
  refine hdt N2 a3 a4 a5 e4 ek fun t4 b5=>aq<|R7 hti N3 b4 b5 fun le b6=>?_
  refine nV<|bw ?_
  refine aX<|aB<|aj<|aB<|aj<|aB<|aj<|ak rfl<|aj<|ak rfl<|aq ?_
  refine hto N4 a6 a7 a8 e3 e4 fun R1 c1=>aj<|ak rfl<|aq<|hst N5 (by have:=c1.length;simp at this;omega) c1 b3 fun R2 c2=>?_
  refine aj<|aB<|aj<|aB<|aj<|ak rfl<|aj<|ak rfl<|aq ?_
  refine hto N4 a6 a7 a8 e1 e2 fun R3 c3=>aj<|ak rfl<|aq<|hst N5 (by have:=c3.length;simp at this;omega) c3 b6 fun R4 c4=>aq ?_
  refine hsm (by decide) N5.hk a9 a10 (by have:=c2.length;simp at this;omega) (by have:=c2.length;have:=c4.length;simp at *;omega) c2 c4 fun R5 c5=>gH<|q' R5 ?_
  exact c5.le (by decide) (by decide)<|by omega
 rcases cl with ⟨l2,rfl⟩ | ⟨l8,rfl⟩
 ·exact core (kc:=9) (kd:=9) (ke:=16) (kf:=16) (kg:=49) (kh:=25) (ki:=25) (kj:=121) (kk:=121) (.bx l2) (by decide) (.box l2 rfl) (.bx l2) (by decide) (by decide) (.box l2 rfl) (.bx l2) (.bx l2) (by decide) (by decide) (.box l2 rfl) (.bx l2) (by decide)<|.box l2 rfl
 ·exact core (kc:=1) (kd:=2) (ke:=2) (kf:=6) (kg:=36) (kh:=4) (ki:=8) (kj:=288) (kk:=600) (.fw l8) (by decide) (.few rfl) (.fw l8) (by decide) (by decide) (.few rfl) (.fw l8) (.fw l8) (by decide) (by decide) (.few rfl) (.fw l8) (by decide)<|.few rfl
abbrev szF (f0 f1 f2 f3 f4 f5:Fn):Fn:=fun xs=>(f1 xs*f4 xs - f3 xs*(2*f2 xs))*f3 xs+(f3 xs*f1 xs - 2*f0 xs*f4 xs)*f4 xs+(2*f0 xs*(2*f2 xs) - f1 xs*f1 xs)*(2*f5 xs)
def Zt (f0 f1 f2 f3 f4 f5 k1 k2 k3:Fn):List Fn:=
  [fun xs=>((2*f2 xs*(2*f5 xs) - f4 xs*f4 xs)*k1 xs+(f4 xs*f3 xs - f1 xs*(2*f5 xs))*k2 xs+(f1 xs*f4 xs - 2*f2 xs*f3 xs)*k3 xs)*szF f0 f1 f2 f3 f4 f5 xs,
   fun xs=>((f4 xs*f3 xs - 2*f5 xs*f1 xs)*k1 xs+(2*f5 xs*(2*f0 xs) - f3 xs*f3 xs)*k2 xs+(f3 xs*f1 xs - f4 xs*(2*f0 xs))*k3 xs)*szF f0 f1 f2 f3 f4 f5 xs,
   fun xs=>((f1 xs*f4 xs - f3 xs*(2*f2 xs))*k1 xs+(f3 xs*f1 xs - 2*f0 xs*f4 xs)*k2 xs+(2*f0 xs*(2*f2 xs) - f1 xs*f1 xs)*k3 xs)*szF f0 f1 f2 f3 f4 f5 xs]
abbrev Cv (L n:Nat)(f0 f1 f2 f3 f4 f5:Fn)(x0 x1 x2 x3 x4 x5:List Tm):Prop:=EL L 40 1 n [f0,f1,f2,f3,f4,f5] [x0,x1,x2,x3,x4,x5]
def PoE (c0:MSp):Prop:=∀ {h:Gh} {x0 x1 x2 x3 x4 x5 u v w:List Tm} {f0 f1 f2 f3 f4 f5 k1 k2 k3:Fn} {L n:Nat} {Q:WK} {E:XWK},Cl L n->Cv L n f0 f1 f2 f3 f4 f5 x0 x1 x2 x3 x4 x5->Sp L n k1 k2 k3 u v w ->
 (∀ R,EL L 1000 40 600 (Zt f0 f1 f2 f3 f4 f5 k1 k2 k3) R->Q (tW R) h)->c0 [tW [x0,x1,x2,x3,x4,x5],tW [u,v,w]] h Q E
set_option maxHeartbeats 2000000 in
def Wv {st ta tr rt sz:MSp}(hst:StE st)(hta:TaE ta)(htr:TrE tr)(hrt:RtE rt)(hsz:SzE sz):PoE (jj st ta tr rt sz):=by
 intro h x0 x1 x2 x3 x4 x5 u v w f0 f1 f2 f3 f4 f5 k1 k2 k3 L n Q E cl ec ek q';have n4:n<=400:=by rcases cl with ⟨_,rfl⟩ | ⟨_,rfl⟩ <;> decide
 have core:∀ {kc kd ke kf kg:Nat},Nm L 41 41 1 1 n n kc->kd<=600->Cap L (1+1) (kc+kc) kd->Nm L 96 40 (1+1) 1 kd n ke->Nm L 96 41 (1+1) 1 kd n ke->ke*3<=400->kf<=600->Cap L (1+1+1) (ke*3) kf->Nm L 152 153 3 3 kf kf kg ->
   jj st ta tr rt sz [tW [x0,x1,x2,x3,x4,x5],tW [u,v,w]] h Q E:=fun {kc kd ke kf kg} N1 a1 a2 N2 N2' a3 a4 a5 N3=>by
  unfold jj;refine cA rfl (Z:=[some<|tW [x0,x1,x2,x3,x4,x5],some<|tW [u,v,w],none]) rfl<|aH<|aP<|aB<|aj<|ak rfl<|aq ?_
  refine hta (by decide) n4 ec fun a d g e1 e2 e3=>nV<|bw ?_
  refine aX<|aB<|aj<|aB<|aj<|aB<|aj<|ak rfl<|aq ?_
  refine htr N1 a1 a2 e1 e2 e3 fun A B C eA eB eC=>?_;obtain ⟨p1,p2,p3,rfl,eA⟩:=eA;obtain ⟨q1,q2,q3,rfl,eB⟩:=eB;obtain ⟨r1,r2,r3,rfl,eC⟩:=eC;refine aj<|ak rfl<|aq<|hrt N2 a3 a4 a5 eA eB eC ek fun s1 s2 s3 es=>?_
  refine aj<|aB<|aj<|ak rfl<|aq<|hsz N1 a1 a2 N2' a3 a4 a5 e1 e2 e3 fun z ez=>aq ?_
  exact hst N3 (by simp) es.l ez fun R er=>gH<|q' R<|er.le (by decide) (by decide) (by have:=N3.hk;omega)
 rcases cl with ⟨l2,rfl⟩ | ⟨l8,rfl⟩
 ·exact core (kc:=9) (kd:=9) (ke:=16) (kf:=16) (kg:=49) (.bx l2) (by decide) (.box l2 rfl) (.bx l2) (.bx l2) (by decide) (by decide) (.box l2 rfl)<|.bx l2
 ·exact core (kc:=1) (kd:=2) (ke:=2) (kf:=6) (kg:=36) (.fw l8) (by decide) (.few rfl) (.fw l8) (.fw l8) (by decide) (by decide) (.few rfl)<|.fw l8
abbrev bo (f0 f1 f2 f3 f4 f5 j1 j2 j3 k1 k2 k3:Fn):Fn:=fun xs=>j1 xs*(2*f0 xs*k1 xs+f1 xs*k2 xs+f3 xs*k3 xs)+j2 xs*(f1 xs*k1 xs+2*f2 xs*k2 xs+f4 xs*k3 xs)+j3 xs*(f3 xs*k1 xs+f4 xs*k2 xs+2*f5 xs*k3 xs)
def Ud (f0 f1 f2 f3 f4 f5 j1 j2 j3 k1 k2 k3:Fn):List Fn:=
 [fun xs=>j1 xs*bo f0 f1 f2 f3 f4 f5 k1 k2 k3 k1 k2 k3 xs - k1 xs*(2*bo f0 f1 f2 f3 f4 f5 j1 j2 j3 k1 k2 k3 xs),fun xs=>j2 xs*bo f0 f1 f2 f3 f4 f5 k1 k2 k3 k1 k2 k3 xs - k2 xs*(2*bo f0 f1 f2 f3 f4 f5 j1 j2 j3 k1 k2 k3 xs),fun xs=>j3 xs*bo f0 f1 f2 f3 f4 f5 k1 k2 k3 k1 k2 k3 xs - k3 xs*(2*bo f0 f1 f2 f3 f4 f5 j1 j2 j3 k1 k2 k3 xs)]
def OtE (c0:MSp):Prop:=∀ {h:Gh} {x0 x1 x2 x3 x4 x5 r s t u v w:List Tm} {f0 f1 f2 f3 f4 f5 j1 j2 j3 k1 k2 k3:Fn} {L n:Nat} {Q:WK} {E:XWK},Cl L n->Cv L n f0 f1 f2 f3 f4 f5 x0 x1 x2 x3 x4 x5->Sp L n j1 j2 j3 r s t->Sp L n k1 k2 k3 u v w ->
 (∀ R,EL L 1000 40 600 (Ud f0 f1 f2 f3 f4 f5 j1 j2 j3 k1 k2 k3) R->Q (tW R) h)->c0 [tW [x0,x1,x2,x3,x4,x5],tW [r,s,t],tW [u,v,w]] h Q E
set_option maxHeartbeats 2000000 in
def Oe {st sm db ta bo':MSp}(hst:StE st)(hsm:SmE sm)(hdb:DbE db)(hta:TaE ta)(hbo:BoE bo'):OtE (gM st sm db ta bo'):=by
 intro h x0 x1 x2 x3 x4 x5 r s t u v w f0 f1 f2 f3 f4 f5 j1 j2 j3 k1 k2 k3 L n Q E cl ec ej ek q';have n4:n<=400:=by rcases cl with ⟨_,rfl⟩ | ⟨_,rfl⟩ <;> decide
 have core:∀ {ka kb kc kd ke kf:Nat},Nm L 41 40 1 1 n n ka->ka*3<=400->kb<=600->Cap L (1+1) (ka*3) kb->Nm L 40 97 1 (1+1) n kb kc->kc*3<=400->kd<=64->Cap L (1+(1+1)) (kc*3) kd->Nm L 40 153 1 3 n kd ke->Nm L 40 154 1 3 n kd ke->kf<=600->Cap L 4 (ke+ke) kf ->
   gM st sm db ta bo' [tW [x0,x1,x2,x3,x4,x5],tW [r,s,t],tW [u,v,w]] h Q E:=fun {ka kb kc kd ke kf} N1 a1 a2 a3 N2 a4 a5 a6 N3 N3' a7 a8=>by
  unfold gM;refine cA rfl (Z:=[some<|tW [x0,x1,x2,x3,x4,x5],some<|tW [r,s,t],some<|tW [u,v,w],none,none,none]) rfl<|aH<|aP<|aB<|aj<|ak rfl<|aq ?_
  refine hta (by decide) n4 ec fun a d g e1 e2 e3=>nV<|bw ?_
  refine aH<|aP<|aB<|aj<|ak rfl<|aj<|ak rfl<|aj<|ak rfl<|aq ?_
  refine hbo N1 a1 a2 a3 N2 a4 (by omega) a6 e1 e2 e3 ek ek fun ow eo=>?_;refine nV<|bw ?_
  refine aH<|aP<|aB<|aj<|aB<|aj<|ak rfl<|aj<|ak rfl<|aj<|ak rfl<|aq ?_
  refine hbo N1 a1 a2 a3 N2 a4 (by omega) a6 e1 e2 e3 ej ek fun sh es=>aq<|hdb (by decide) (by omega) es fun sd ed=>?_
  refine nV<|bw ?_
  refine aX<|aB<|aj<|aB<|aj<|ak rfl<|aj<|ak rfl<|aq ?_
  refine hst N3 (by simp) ej.l eo fun R1 c1=>aj<|aB<|aj<|ak rfl<|aj<|ak rfl<|aq ?_
  refine hst N3' (by simp) ek.l ed fun R2 c2=>aq ?_;have l1:=c1.length;have l2:=c2.length;refine hsm (b:=207) (by decide) N3.hk a7 a8 (by simp at l1;omega) (by simp at l1 l2;omega) (c1.le (by decide) (by decide)<|acj _) (c2.le (by decide) (by decide)<|acj _) fun R3 c3=>gH<|q' R3 ?_
  exact c3.le (by decide) (by decide) a7
 rcases cl with ⟨l2,rfl⟩ | ⟨l8,rfl⟩
 ·exact core (ka:=9) (kb:=9) (kc:=16) (kd:=16) (ke:=25) (kf:=25) (.bx l2) (by decide) (by decide) (.box l2 rfl) (.bx l2) (by decide) (by decide) (.box l2 rfl) (.bx l2) (.bx l2) (by decide)<|.box l2 rfl
 ·exact core (ka:=1) (kb:=3) (kc:=3) (kd:=9) (ke:=9) (kf:=18) (.fw l8) (by decide) (by decide) (.few rfl) (.fw l8) (by decide) (by decide) (.few rfl) (.fw l8) (.fw l8) (by decide)<|.few rfl
def AtX (c0:MSp):Prop:=∀ {h:Gh} {ts:List Tm} {xs:List Int} {L:Nat} {Q:WK} {E:XWK},L<=8->(∀ t∈ts,t.1.length=L/\Sm 1000 t.2/\Pw t.1)->xs.length=L->Bd xs->Q (.int (wo ts xs L ts.length)) h->c0 [smW ts,.tup (xs.map .int)] h Q E
def sE:∀ n:Nat,((rng 0 n).map fun x:Nat=>W.int (x:Int)).length=n:=fun n=>by unfold rng;rw [acf,afv];omega
def Yp:AtX Fj:=by
 intro h ts xs L Q E hL wf hx bx q;unfold Fj;refine cA rfl (Z:=[some<|smW ts,some<|.tup<|xs.map .int,none,none,none,none,none,none]) rfl<|aH<|aP<|aU ?_
 refine nV<|bw ?_
 refine aH ?_;refine mL (ws:=ts.map tmW) rfl ?_;refine cZ (fun i Z h'=>h'=h/\∃ s3 s4 s5 s6 s7:Option W,Z = [some<|smW ts,some<|.tup<|xs.map .int,some<|.int<|wo ts xs L i,s3,s4,s5,s6,s7]) ?_ ?_ ⟨rfl,none,none,none,none,none,rfl⟩
 ·rintro i w Z h' N hN e ⟨rfl,s3,s4,s5,s6,s7,rfl⟩;rw [acu] at e;cases qe:ts[i]? with
  | none=>rw [qe] at e;cases e
  | some t=>
   rw [qe] at e;cases e;have mt:=acO qe;obtain ⟨w1,w2,w3⟩:=wf t mt;have et:ts.getD i ([],0)=t:=by rw [acQ,qe];rfl
   refine iW rfl rfl<|bZ<|nV ?_
   refine bZ<|nV ?_
   refine jY ?_;refine aH<|iw<|qL<|aj<|ak rfl<|aj<|ak rfl<|aq ?_
   refine Bx (as:=t.1.map .int) (bs:=xs.map .int) rfl rfl rfl<|iB ?_
   have lz:(nH (t.1.map W.int) (xs.map W.int)).length=L:=by rw [nQ,acf,acf];omega
   refine cZ (fun j Z h1=>h1=h'/\∃ s5 s6 s7:Option W,Z = [some<|smW ts,some<|.tup<|xs.map .int,some<|.int<|wo ts xs L i,some<|.tup<|t.1.map .int,some<|.int<|t.2*mo t.1 xs j,s5,s6,s7]) ?_ ?_ ⟨rfl,s5,s6,s7,by rw [mo,Int.mul_one]⟩
   ·rintro j w Z h1 N' hN' e' ⟨rfl,s5,s6,s7,rfl⟩;obtain ⟨a,b,ea,eb,rfl⟩:=n8 e';have hj:j<L:=by have:=(acD.mp e').1;rw [lz] at this;exact this
    rw [acu,acn (by omega)] at ea eb;have eg:t.1.getD j 0=t.1[j]'(by omega):=by rw [acQ,acn (by omega)];rfl
    have ex:xs.getD j 0=xs[j]'(by omega):=by rw [acQ,acn (by omega)];rfl
    cases ea;cases eb;rw [<-eg,<-ex];obtain ⟨b0,b1⟩:=w3.get j;have en:t.1.getD j 0=(((t.1.getD j 0).toNat:Nat):Int):=by omega
    refine iW rfl rfl<|bZ<|nV ?_
    refine bZ<|nV ?_
    refine jY ?_;refine iw<|lW<|aj<|ak rfl<|aq ?_
    rw [en];refine CG (by omega)<|iB ?_
    rw [<-en];refine cZ (fun a Z h2=>h2=h1/\a<=60/\∃ s7:Option W,Z = [some<|smW ts,some<|.tup<|xs.map .int,some<|.int<|wo ts xs L i,some<|.tup<|t.1.map .int,some<|.int<|t.2*mo t.1 xs j*xs.getD j 0^a,some<|.int<|t.1.getD j 0,some<|.int<|xs.getD j 0,s7]) ?_ ?_ ⟨rfl,adu _,s7,by rw [Int.pow_zero,Int.mul_one]⟩
    ·rintro a w Z h2 N2 hN2 e2 ⟨rfl,a0,s7,rfl⟩;have ha:a<(t.1.getD j 0).toNat:=by have:=(acD.mp e2).1;rw [sE] at this;exact this
     refine nV ?_;refine aP<|aD<|ak rfl<|ak rfl ?_
     refine bH (.of (El (El w2<|Qj bx w3 j)<|Fv a<|bx.get j) (bx.get j) (by omega)<|by decide) ?_;exact mK (Z':=[some<|smW ts,some<|.tup<|xs.map .int,some<|.int<|wo ts xs L i,some<|.tup<|t.1.map .int,some<|.int<|t.2*mo t.1 xs j*xs.getD j 0^(a+1),some<|.int<|t.1.getD j 0,some<|.int<|xs.getD j 0,some w]) (by rw [Int.pow_succ,<-Int.mul_assoc];rfl)<|bw<|hN2 _ _ ⟨rfl,by omega,_,rfl⟩
    ·rintro Z h2 ⟨rfl,a0,s7,rfl⟩;rw [sE];exact bw<|hN' _ _ ⟨rfl,some<|.int<|t.1.getD j 0,some<|.int<|xs.getD j 0,s7,by rw [mo,Int.mul_assoc]⟩
   ·rintro Z h1 ⟨rfl,s5,s6,s7,rfl⟩;rw [lz];refine bw<|aP<|aD<|ak rfl<|ak rfl<|fG ?_
    exact mK (Z':=[some<|smW ts,some<|.tup<|xs.map .int,some<|.int<|wo ts xs L<|i+1,some<|.tup<|t.1.map .int,some<|.int<|t.2*mo t.1 xs L,s5,s6,s7]) (by rw [wo,et];rfl)<|bw<|hN _ _ ⟨rfl,_,_,_,_,_,rfl⟩
 ·rintro Z h' ⟨rfl,s3,s4,s5,s6,s7,rfl⟩;rw [acf];unfold Af;exact bw<|aX<|ak rfl<|gH q
def aad {l:List Int}(x:Q (.bl (decide (k<l))) h):Wz (.tup (k.map .int)) (.tup (l.map .int)) h Q:=by
 unfold Wz;rw [rE,rE];exact x
def Mg (x:Q (.bl (!Kh w)) h):Ip w .non h Q:=by cases w <;> exact x
def CZ {us:List W}(x:Q (.lst us) h):vg [.tup us] h Q:=x
def Mp {a b:List W}(hz:a.length+b.length<=1000)(x:Q (.lst (a++b)) h):dH (.lst a) (.lst b) h Q:=fL.mk (acq hz (by decide:1000<=acM)) x
def GoX (c0:MSp):Prop:=∀ {h:Gh} {ts:List Tm} {L:Nat} {Q:WK} {E:XWK},L<=8->ts.length<=1000->(ts.map (·.1)).Pairwise (· < ·)->(∀ t∈ts,t.1.length=L/\t.2≠0/\∀ p∈t.1,0<=p)->Q (.bl true) h->c0 [smW ts,.int (L:Int)] h Q E
def Tg:GoX jd:=by
 intro h ts L Q E hL hz srt wf q;unfold jd;refine cA rfl (Z:=[some<|smW ts,some<|.int (L:Int),none,none,none]) rfl<|aH<|aZ<|mX<|iM<|bK<|aj<|ak rfl<|aj<|aU<|aq<|qg (b:=true) rfl<|Ga rfl<|fX rfl<|aW<|bw ?_
 unfold jz;refine aH<|aP<|aU<|nV<|bw ?_
 refine aH ?_;refine mL (ws:=ts.map tmW) rfl ?_;refine cZ (fun i Z h'=>h'=h/\i<=ts.length/\∃ (a:W) (s3 s4:Option W),Z = [some<|smW ts,some<|.int (L:Int),some a,s3,s4]/\(a=.non\/∃ (j:Nat) (t:Tm),j+1=i/\ts[j]?=some t/\a=.tup (t.1.map .int))) ?_ ?_ ⟨rfl,adu _,.non,none,none,rfl,.inl rfl⟩
 ·rintro i w Z h' N hN e ⟨rfl,_,a,s3,s4,rfl,ha⟩;rw [acu] at e;cases qe:ts[i]? with
  | none=>rw [qe] at e;cases e
  | some t=>
   rw [qe] at e;cases e;have hi:=(acD.mp qe).1;obtain ⟨w1,w2,w3⟩:=wf t (acO qe);refine nV ?_;refine aH<|aZ ?_
   have ix0:∀ {s4:Option W} {R:WK},R (.tup (t.1.map .int)) h'->mOp kIx (aA 3) (mC (.int 0)) [some (smW ts),some (.int (L:Int)),some a,some (tmW t),s4] h' R:=fun x=>aD (ak rfl (aU (cH (ws:=[.tup (t.1.map .int),.int t.2]) (w:=.tup (t.1.map .int)) rfl rfl x)))
   have ix1:∀ {s4:Option W} {R:WK},R (.int t.2) h'->mOp kIx (aA 3) (mC (.int 1)) [some (smW ts),some (.int (L:Int)),some a,some (tmW t),s4] h' R:=fun x=>aD (ak rfl (aU (cH (ws:=[.tup (t.1.map .int),.int t.2]) (w:=.int t.2) rfl rfl x)))
   refine jC<|mX<|iM<|bK<|aj<|ak rfl<|aj<|aU<|aq<|qg (b:=true) rfl<|Ga rfl<|fX rfl ?_
   refine jC<|aN<|aD<|bK<|aj<|ak rfl<|aq<|fQ (xs:=[.tup<|t.1.map .int,.int t.2]) rfl<|aU<|wY<|dG<|fX rfl ?_
   refine jC<|mX<|iM<|bK<|aj<|ix0<|aj<|aU<|aq<|qg (b:=true) rfl<|Ga rfl<|fX rfl ?_
   refine aN<|aD<|bK<|aj<|ix0<|aq<|fQ (xs:=t.1.map .int) rfl<|ak rfl<|wY<|dG<|fX (by rw [acf,w1];simp) ?_
   refine aW<|bw<|aH<|iw<|gw<|aD<|bK<|aj<|ix0<|aq<|CZ ?_
   refine iT<|aj<|ix1<|aq<|bC rfl<|Mp (by rw [acf];show t.1.length+1<=1000;omega) ?_
   have el:(t.1.map W.int++[W.int t.2])=(t.1++[t.2]).map .int:=by rw [acB];rfl
   rw [el];refine qz (ws:=(t.1++[t.2]).map .int) (o:=none) rfl<|iB ?_
   refine cZ (fun j Z h1=>h1=h'/\∃ s4:Option W,Z = [some<|smW ts,some<|.int (L:Int),some a,some<|tmW t,s4]) ?_ ?_ ⟨rfl,s4,rfl⟩
   ·rintro j w Z h1 N' hN' e' ⟨rfl,s4,rfl⟩;obtain ⟨n,en,rfl⟩:=ints_get e';refine nV ?_;refine aZ ?_;refine jC<|mX<|iM<|bK<|aj<|ak rfl<|aj<|aU<|aq<|qg (b:=true) rfl<|Ga rfl<|fX rfl ?_
    exact iM<|bK<|aj<|ak rfl<|aj<|aU<|aq<|qg (b:=false) rfl<|Ga rfl<|fX rfl<|aW<|hN' _ _ ⟨rfl,_,rfl⟩
   ·rintro Z h1 ⟨rfl,s4,rfl⟩;refine bw<|aH<|aZ<|jC<|aN<|aD<|bK<|aj<|aD<|iT<|aj<|aU<|aq<|bC rfl ?_
    refine bK<|aj<|ix0<|aq<|CZ<|Mp (by rw [acf];show 1+t.1.length<=1000;omega)<|aq ?_
    refine ⟨0::t.1,rfl,by simp,fun M hM ml=>aU<|Wc<|dG<|fX ?_ ?_⟩
    ·have:0<=M:=by
      rcases acA.mp hM with rfl | hM
      ·exact Int.le_refl _
      ·exact w3 M hM
     simp;omega
    refine jC<|aN<|aD<|ix1<|aU<|uR<|dG<|fX (by simp [w2]) ?_
    have fin:bL (mOp kIx (aA 3) (mC (.int 0))) (nName 2) { nx:=N,rt:=Q,ct:=N,bk:=fV E { nx:=fun _ h'=>Q .non h',rt:=Q } } [some (smW ts),some (.int (L:Int)),some a,some (tmW t),s4] h1:=by
     refine aP<|ix0<|nV<|bw ?_
     refine hN _ _ ⟨rfl,hi,_,_,_,rfl,.inr ⟨i,t,rfl,qe,rfl⟩⟩
    rcases ha with rfl | ⟨j,u,ej,eu,rfl⟩
    ·exact Gv<|aN<|aD<|ak rfl<|aU<|Mg<|dG<|fX rfl<|wL<|aW<|bw fin
    ·refine Gv<|aN<|aD<|ak rfl<|aU<|Mg<|dG<|CT rfl ?_
     have lt:u.1<t.1:=by
      have hj:=(acD.mp eu).1;have:=aei.mp srt j i (by rw [acf];omega) (by rw [acf];omega) (by omega)
      rw [List.getElem_map,List.getElem_map,(acD.mp eu).2,(acD.mp qe).2] at this;exact this
     refine mX<|aN<|aD<|ak rfl<|ix0<|aad<|dG<|fX (by rw [decide_eq_true lt];rfl)<|aW<|bw fin
 ·rintro Z h' ⟨rfl,_,a,s3,s4,rfl,_⟩;unfold fV;exact bw<|aX<|aU<|gH q
def Xq (L:Nat)(ps:List Tm):Prop:=(ps.map (·.1)).Nodup/\ps.length<=3/\(2<L->ps.length<=1)/\∀ t∈ps,t.1.length=L/\Sm 40 t.2/\∀ q∈t.1,0<=q/\q<=1
def UJ (c0:MSp):Prop:=∀ {h:Gh} {b L:Nat} {top:Int} {Q:WK} {E:XWK},Bag h b->L<=8->L≠1->0<=top->top<=1000000000->(∀ ps h',Xq L ps->Bag h' b->Oth b h h'->Q (.lst (ps.map prW)) h')->c0 [.loc b,.int (L:Int),.int top] h Q E
def un (l L:Nat):List Int:=(aeZ L).map fun k=>if k=l then 1 else 0
def Rp {l:Nat}(ea:acc=(un l i).map .int):acc++[.int (if i=l then 1 else 0)]=(un l (i+1)).map .int:=by
 rw [ea];unfold un;rw [List.range_succ,acB,acB];rfl
def Wj {c:Int}(hL:L<=8)(q:Q (.tup ((acG L c).map .int)) h):vm (.tup [.int c]) (.int (L:Int)) h Q:=by
 have fl:∀ k:Nat,(acG k [W.int c]).flatten=(acG k c).map .int:=fun k=>by
  induction k with
  | zero=>rfl
  | succ k ih=>rw [aea,aea,aeO,ih];rfl
 have eL:(L:Int).toNat=L:=by omega
 refine ⟨⟨by omega,by omega,by rw [eL];simp;omega⟩,?_⟩;rw [eL,fl];exact q
def Ov (l L:Nat):(un l L).length=L/\∀ q∈un l L,0<=q/\q<=1:=by
 refine ⟨by unfold un;simp,fun q hq=>?_⟩;unfold un at hq;obtain ⟨k,_,rfl⟩:=acJ.mp hq;split <;> decide
def yS {c:Int}(L:Nat)(h:0<=c/\c<=1):(acG L c).length=L/\∀ q∈acG L c,0<=q/\q<=1:=⟨by simp,fun q hq=>by rw [List.eq_of_mem_replicate hq];exact h⟩
def yQ {n:Int}(hk:k.length=L/\∀ q∈k,0<=q/\q<=1)(hn:Sm 40 n):Xq L [(k,n)]:=by
 refine ⟨by simp,by simp,by simp,fun t ht=>?_⟩;rw [acT.mp ht];exact ⟨hk.1,hn,hk.2⟩
def Tj {l:Nat}(hl:l<2):un l 2≠[0,0]/\un l 2≠[1,1]:=by
 match l,hl with
 | 0,_=>decide
 | 1,_=>decide
variable {dr : MSp}
def VG (hdr:pX dr):UJ (sW dr):=by
 intro h b L top Q E hb hL h1 t0 t1 q';have sm:∀ {n:Int},-2000000000<=n->n<=3000000000->Sm 40 n:=fun {n} a b=>(Dj (n:=35) (by omega) (by omega)).mono (by decide)
 have sm6:∀ {n:Int},-2000000000<=n->n<=3000000000->Sm 60 n:=fun {n} a b=>(Dj (n:=35) (by omega) (by omega)).mono (by decide)
 unfold sW;refine cA rfl (Z:=[some<|.loc b,some<|.int (L:Int),some<|.int top,none,none,none,none,none]) rfl<|aH<|aP<|aB<|aj<|ak rfl<|aj<|aU<|aq ?_
 refine hdr hb (by decide) (sm6 (by decide)<|by decide) fun way ha w0 w1 ba oa=>nV<|bw ?_
 refine aH<|aP<|aD<|aB<|aj<|ak rfl<|aj<|aD<|aD<|aU<|ak rfl<|bH (.of (m:=64) (.lit rfl) (sm6 (n:=top) (by omega)<|by omega) (by decide)<|by decide)<|aU<|fG<|aq ?_
 refine hdr ba (by omega) (sm6 (by omega)<|by omega) fun d hc d0 d1 bc oc=>ak rfl<|fC<|nV<|bw ?_
 have sn:Sm 40 (d - top):=sm (by omega) (by omega);have o2:=oa.trans oc;have zero:∀ {Z : Sw} {h:Gh} {R:WK},Z[1]?=some (some (.int (L:Int)))->R (.tup ((acG L (0:Int)).map .int)) h->mOp vm (je (ao (mC (.int 0)) aL)) (aA 1) Z h R:=fun v x=>aD (cQ (aj (aU (aq (bC rfl (ak v (Wj hL x)))))))
 refine aH<|aZ<|jC<|aN<|aD<|ak rfl<|aU<|uR<|dG ?_
 have first:cJ (lD (ao (je (ao (mOp vm (je (ao (mC (.int 0)) aL)) (aA 1)) (ao (aA 4) aL))) aL)) { nx:=mR dr E { nx:=fun _ h'=>Q .non h',rt:=Q },rt:=Q } [some (.loc b),some (.int (L:Int)),some (.int top),some (.int way),some (.int (d - top)),none,none,none] hc:=
  aX (iT (aj (cQ (aj (zero rfl (aj (ak rfl (aq (bC rfl (aq (bC rfl (gH (q' [(acG L 0,d - top)] hc (yQ (yS L (by decide)) sn) bc o2)))))))))))))
 refine wC (fun _=>Bw first) fun nw=>aN<|aD<|ak rfl<|aU<|uR<|dG<|wC (fun _=>first) fun nl=>aW<|bw ?_
 unfold mR;refine aH<|aP<|aB<|aj<|ak rfl<|aj<|ak rfl<|aq ?_
 refine hdr bc (by omega) (sm6 (by omega)<|by omega) fun l he l0 l1 be oe=>?_;obtain ⟨l,rfl⟩:=agd l0;have o3:=o2.trans oe;refine nV<|bw ?_
 refine aH<|aP<|bK<|aj ?_
 refine Xn (j:=(L:Int)) (fun R=>rfl) (by omega) (by omega) (acq (m:=1000) (by omega)<|by decide) (fun i acc g=>g=he/\acc=(un l i).map .int) ?_ ?_ ⟨rfl,rfl⟩
 ·rintro i acc g N hN hi ⟨rfl,ea⟩;refine ⟨[.int (i:Int)],rfl,bG<|bD<|bK<|aj<|aD<|ak rfl<|ak rfl<|uR<|aq<|zm<|hN _ _ ⟨rfl,?_⟩⟩;rw [<-Rp ea];by_cases c:i=l
  ·rw [if_pos c,decide_eq_true (by omega)];rfl
  ·rw [if_neg c,decide_eq_false (by omega)];rfl
 ·rintro acc g ⟨rfl,rfl⟩;have eL:(L:Int).toNat=L:=by omega
  rw [eL];refine aq<|bW<|nV<|bw ?_
  refine aH<|aZ<|jC<|aN<|aD<|ak rfl<|aU<|yw<|dG ?_
  have sec:cJ (lD (ao (je (ao (aA 6) (ao (aA 4) aL))) aL)) { nx:=mj dr E { nx:=fun _ h'=>Q .non h',rt:=Q },rt:=Q } [some (.loc b),some (.int (L:Int)),some (.int top),some (.int way),some (.int (d - top)),some (.int (l:Int)),some (.tup ((un l L).map .int)),none] g:=
   aX (iT (aj (cQ (aj (ak rfl (aj (ak rfl (aq (bC rfl (aq (bC rfl (gH (q' [(un l L,d - top)] g (yQ (Ov l L) sn) be o3)))))))))))))
  refine wC (fun _=>Bw sec) fun g2=>aN<|aD<|ak rfl<|aU<|uR<|dG<|wC (fun _=>sec) fun nw1=>aW<|bw ?_
  have L2:L=2:=by omega
  subst L2;obtain ⟨u0,u1⟩:=Tj (l:=l) (by omega);unfold mj;refine aH<|aP<|aD<|cQ<|aj<|aU<|aq<|bC rfl<|ak rfl<|Wj hL ?_
  refine nV<|bw ?_
  refine aH<|aZ<|aN<|aD<|ak rfl<|aU<|uR<|dG ?_
  have tz:∀ {k:List Int} {n:Int} {ps:List Tm},k∉ps.map (·.1)->(k.length=2/\∀ q∈k,0<=q/\q<=1)->Sm 40 n->Xq 2 ps->ps.length<=2->Xq 2 ((k,n)::ps):=fun {k n ps} nk hk hn hp hl=>⟨by rw [acg,aep];exact ⟨nk,hp.1⟩,by rw [acE];omega,fun h=>absurd h (by decide),fun t ht=>by
   rcases acA.mp ht with rfl | ht
   ·exact ⟨hk.1,hn,hk.2⟩
   ·exact hp.2.2.2 t ht⟩
  refine wC (fun _=>?_) fun _=>aW<|bw ?_
  ·refine aX<|iT<|aj<|cQ<|aj<|zero rfl<|aj<|ak rfl<|aq<|bC rfl ?_
   refine aj<|cQ<|aj<|ak rfl<|aj<|aD<|aB<|aj<|ak rfl<|aj<|aU<|aq ?_
   refine hdr be (by decide) (sm6 (by decide)<|by decide) fun d2 hf e0 e1 bf of=>aU<|fC<|aq<|bC rfl<|aq<|bC rfl<|gH<|q' [([0,0],d - top),(un l 2,d2 - 2)] hf ?_ bf<|o3.trans of
   exact tz (by simpa using aes u0) (yS (c:=0) 2<|by decide) sn (yQ (Ov l 2)<|sm (by omega)<|by omega)<|by simp
  ·unfold mQ;refine aX<|iT<|aj<|cQ<|aj<|zero rfl<|aj<|aD<|aB<|aj<|ak rfl<|aj<|aU<|aq ?_
   refine hdr be (by decide) (sm6 (by decide)<|by decide) fun d2 hf e0 e1 bf of=>aU<|fC<|aq<|bC rfl ?_
   refine aj<|cQ<|aj<|ak rfl<|aj<|ak rfl<|aq<|bC rfl ?_
   refine aj<|cQ<|aj<|ak rfl<|aj<|aD<|aB<|aj<|ak rfl<|aj<|aU<|aq ?_
   refine hdr bf (by decide) (sm6 (by decide)<|by decide) fun d3 hg e2 e3 bg og=>aU<|fC<|aq<|bC rfl<|aq<|bC rfl<|gH<|q' [([0,0],d2 - 2),(un l 2,d - top),([1,1],d3 - 1)] hg ?_ bg<|(o3.trans of).trans og
   exact tz (by simp;exact aes u0) (yS (c:=0) 2<|by decide) (sm (by omega)<|by omega) (tz (by simpa using u1) (Ov l 2) sn (yQ (yS (c:=1) 2<|by decide)<|sm (by omega)<|by omega)<|by simp)<|by simp
def Gb (b:Nat)(h h':Gh):Prop:=h.nx<=h'.nx/\∀ m,m<h.nx->m≠b->h'.c m=h.c m
def Cj (s:Str):Nat:=if s = "curve" then 6 else 3
def ThX (c0:MSp):Prop:=∀ {h:Gh} {b L n:Nat} {s:Str} {top:Int} {Q:WK} {E:XWK},Bag h b->b<h.nx->L<=8->L≠1->0<=top->top<=1000000000->(3<=n\/2<L/\1<=n) ->
 (∀ T h',T.length=Cj s->(∀ us∈T,Mb L 40 1 n us)->Bag h' b->Gb b h h'->Q (tW T) h')->c0 [.loc b,.int (L:Int),.str s,.int top] h Q E
def M8 (x:Q (.int (3*(if c then 1 else 0))) h):Bl (.int 3) (.int (if c then 1 else 0)) h Q:=by
 exact ⟨.inr<|.inl<|.lit rfl,x⟩
variable {pa : MSp}
def NT (hpa:UJ pa):ThX (pF pa):=by
 intro h b L n s top Q E hb bl hL h1 t0 t1 hn q';unfold pF;refine cA rfl (Z:=[some<|.loc b,some<|.int (L:Int),some<|.str s,some<|.int top,none,none]) rfl<|aH<|aP<|sI (ws:=[]) (fun R=>rfl) rfl fun g eg og xg=>?_
 refine nV<|bw ?_
 refine aH ?_;refine iw<|lW<|aj<|aD<|aU<|aD<|aU<|bK<|aj<|aD<|ak rfl<|aU<|cI<|aq<|zm<|M8<|fG<|aq ?_
 have em:(3:Int)+3*(if decide (s = "curve") then 1 else 0)=((Cj s:Nat):Int):=by
  unfold Cj;by_cases c:s = "curve"
  ·rw [if_pos c,decide_eq_true c];rfl
  ·rw [if_neg c,decide_eq_false c];rfl
 rw [em];have nb:b≠h.nx:=acI bl;have n6:Cj s<=6:=by unfold Cj;split <;> decide
 refine CG (by omega)<|iB ?_
 have bg:Bag g b:=by
  obtain ⟨x,y,e,r⟩:=hb;exact ⟨x,y,by rw [og b nb];exact e,r⟩
 refine cZ (fun i Z h'=>∃ (T:List (List Tm)) (s5:Option W),Z = [some<|.loc b,some<|.int (L:Int),some<|.str s,some<|.int top,some<|.loc h.nx,s5]/\h'.c h.nx=some (.lst<|T.map smW)/\T.length=i/\(∀ us∈T,Mb L 40 1 n us)/\Bag h' b/\h'.nx=h.nx+1/\∀ m,m<h.nx->m≠b->h'.c m=h.c m) ?_ ?_ ⟨[],none,rfl,eg,rfl,fun _ h=>(nomatch h),bg,xg,fun m hm _=>og m<|acI hm⟩
 ·rintro i w Z h' N hN e ⟨T,s5,rfl,e2,lT,mT,b2,x2,o2⟩;have hi:i<Cj s:=by have:=(acD.mp e).1;rw [sE] at this;exact this
  refine nV ?_;refine mO<|zj<|ak rfl<|tM e2<|aj<|bK<|aj<|bK<|aj<|gj<|gw<|aB<|aj<|ak rfl<|aj<|ak rfl<|aj<|ak rfl<|aq ?_
  refine hpa b2 hL h1 t0 t1 fun ps h3 ok b3 o3=>qz (ws:=ps.map prW) (o:=none) rfl<|fL.mk (acq (m:=1000) (by rw [acf];have:=ok.2.1;omega)<|by decide) ?_
  refine dF (fun j acc g'=>g'=h3/\acc=((ps.take j).filter fun t=>decide<|t.2≠0).map prW) ?_ ?_ ⟨rfl,rfl⟩
  ·rintro j w acc g' N' hN' e' ⟨rfl,rfl⟩;rw [acu] at e';cases qe:ps[j]? with
   | none=>rw [qe] at e';cases e'
   | some t=>
    rw [qe] at e';cases e'
    have tk:((ps.take (j+1)).filter fun t=>decide (t.2≠0))=((ps.take j).filter fun t=>decide (t.2≠0))++([t].filter fun t:Tm=>decide (t.2≠0)):=by
     rw [adl,qe,List.filter_append];rfl
    refine ⟨[prW t],rfl,aN<|aD<|aD<|ak rfl<|aU<|cH (ws:=[.tup<|t.1.map .int,.int t.2]) (w:=.int t.2) rfl rfl<|aU<|wY<|dG ?_⟩;refine O6 (fun ne=>ak rfl<|hN' _ _ ⟨rfl,?_⟩) fun ne=>hN' _ _ ⟨rfl,?_⟩
    ·rw [tk,aeE,if_pos (by simpa using ne),acB];rfl
    ·rw [tk,aeE,if_neg (by simpa using ne)];simp
  ·rintro acc g' ⟨rfl,rfl⟩;rw [acf,adf];refine aq ⟨ps.filter fun t=>decide<|t.2≠0,rfl,ok.1.sublist<|List.filter_sublist.map _,fun rs pr sr=>aq<|bW<|aq ?_⟩;have e3:g'.c h.nx=some (.lst (T.map smW)):=by rw [o3.2 h.nx (aes nb)];exact e2
   have mr:Mb L 40 1 n rs:=by
    refine ⟨?_,sr,fun t ht=>?_⟩
    ·have l1:rs.length<=ps.length:=by rw [pr.length_eq];exact List.length_filter_le _ _
     have l3:=ok.2.1;rcases hn with hn | ⟨hn,hn1⟩
     ·omega
     ·have:=ok.2.2.1 hn
      omega
    ·have m1:=List.mem_filter.mp (pr.mem_iff.mp ht);obtain ⟨c1,c2,c3⟩:=ok.2.2.2 t m1.1;exact ⟨c1,by simpa using m1.2,c2,c3⟩
   refine JZ e3 (by rw [acf];omega) fun g2 a1 a2 a3=>bw<|hN _ _ ⟨T++[rs],_,rfl,by rw [a1,acB];rfl,by simp [lT],fun us hu=>?_,?_,by rw [a3,o3.1];exact x2,fun m hm mb=>?_⟩
   ·rcases adn.mp hu with hu | hu
    ·exact mT us hu
    ·rw [acT.mp hu];exact mr
   ·obtain ⟨x,y,e,r⟩:=b3;exact ⟨x,y,by rw [a2 b nb];exact e,r⟩
   ·rw [a2 m (acI hm),o3.2 m mb];exact o2 m hm mb
 ·rintro Z h' ⟨T,s5,rfl,e2,lT,mT,b2,x2,o2⟩;rw [sE] at lT;unfold pD;refine bw<|aX<|bK<|aj<|ak rfl<|aq ?_
  show (match d7 h' (.loc h.nx) with
   | some us=>_
   | none=>False)
  rw [vB e2];exact q' T h' lT mT b2 ⟨by omega,o2⟩
inductive Rw (L n:Nat):Str->List (List (List Tm))->List Fn->Prop
 | join {x:Str} {f1 f2 f3 g1 g2 g3:Fn} {x1 x2 x3 y1 y2 y3:List Tm}:(x = "join"\/x = "meet")->Sp L n f1 f2 f3 x1 x2 x3->Sp L n g1 g2 g3 y1 y2 y3->Rw L n x [[x1,x2,x3],[y1,y2,y3]] [fun xs=>f2 xs*g3 xs - f3 xs*g2 xs,fun xs=>f3 xs*g1 xs - f1 xs*g3 xs,fun xs=>f1 xs*g2 xs - f2 xs*g1 xs]
 | curve {f1 f2 f3 g1 g2 g3 h1 h2 h3 j1 j2 j3 k1 k2 k3:Fn} {x1 x2 x3 y1 y2 y3 z1 z2 z3 u1 u2 u3 v1 v2 v3:List Tm}:Sp L n f1 f2 f3 x1 x2 x3->Sp L n g1 g2 g3 y1 y2 y3->Sp L n h1 h2 h3 z1 z2 z3->Sp L n j1 j2 j3 u1 u2 u3->Sp L n k1 k2 k3 v1 v2 v3->Rw L n "curve" [[x1,x2,x3],[y1,y2,y3],[z1,z2,z3],[u1,u2,u3],[v1,v2,v3]] (crv f1 f2 f3 g1 g2 g3 h1 h2 h3 j1 j2 j3 k1 k2 k3)
 | about {f0 f1 f2 f3 f4 f5 k1 k2 k3:Fn} {x0 x1 x2 x3 x4 x5 u v w:List Tm}:Cv L n f0 f1 f2 f3 f4 f5 x0 x1 x2 x3 x4 x5->Sp L n k1 k2 k3 u v w->Rw L n "about" [[x0,x1,x2,x3,x4,x5],[u,v,w]] [fun xs=>2*f0 xs*k1 xs+f1 xs*k2 xs+f3 xs*k3 xs,fun xs=>f1 xs*k1 xs+2*f2 xs*k2 xs+f4 xs*k3 xs,fun xs=>f3 xs*k1 xs+f4 xs*k2 xs+2*f5 xs*k3 xs]
 | pole {f0 f1 f2 f3 f4 f5 k1 k2 k3:Fn} {x0 x1 x2 x3 x4 x5 u v w:List Tm}:Cv L n f0 f1 f2 f3 f4 f5 x0 x1 x2 x3 x4 x5->Sp L n k1 k2 k3 u v w->Rw L n "pole" [[x0,x1,x2,x3,x4,x5],[u,v,w]] (Zt f0 f1 f2 f3 f4 f5 k1 k2 k3)
 | other {f0 f1 f2 f3 f4 f5 j1 j2 j3 k1 k2 k3:Fn} {x0 x1 x2 x3 x4 x5 r s t u v w:List Tm}:Cv L n f0 f1 f2 f3 f4 f5 x0 x1 x2 x3 x4 x5->Sp L n j1 j2 j3 r s t->Sp L n k1 k2 k3 u v w->Rw L n "other" [[x0,x1,x2,x3,x4,x5],[r,s,t],[u,v,w]] (Ud f0 f1 f2 f3 f4 f5 j1 j2 j3 k1 k2 k3)
def Xp (c0:MSp):Prop:=∀ {h:Gh} {rws thg:List W} {k:Nat} {x:Str} {js:List Nat} {ws:List (List (List Tm))} {fs:List Fn} {L n:Nat} {Q:WK} {E:XWK},rws[k]?=some (.tup (.str x::js.map fun j:Nat=>W.int (j:Int)))->js.map (fun j=>thg[j]?)=ws.map (fun T=>some (tW T))->Cl L n->Rw L n x ws fs ->
 (∀ R,EL L 1000 40 600 fs R->Q (tW R) h)->c0 [.lst rws,.lst thg,.int (k:Int)] h Q E
def Xo (cl:Cl L n){c:Nat}(hb:b+c+20<=1000):∃ k,Nm L b c 1 1 n n k/\k*3<=400/\∃ k2,k2<=600/\Cap L (1+1) (k+k) k2/\Cap L (1+1) (k*3) k2:=by
 rcases cl with ⟨l2,rfl⟩ | ⟨l8,rfl⟩
 ·exact ⟨9,⟨by omega,hb,by decide,by decide,by decide,by decide,by decide,.box l2 rfl⟩,by decide,9,by decide,.box l2 rfl,.box l2 rfl⟩
 ·exact ⟨1,⟨by omega,hb,by decide,by decide,by decide,by decide,by decide,.few rfl⟩,by decide,3,by decide,.few rfl,.few rfl⟩
def Rn {l:List W}:atI (w::l) 0=some w:=by
 unfold atI ixN;simp
def aaS (w:W)(ws:List W):yJ (w::ws) (some 1) none=ws:=by
 first | rfl | exact JR (w::ws) 1 | simp [yJ]
def aaw {us:List W}{lo hi:Option Int}(e:yJ ws lo hi=us)(x:Q (.tup us) h):Uy (.tup ws) lo hi h Q:=by
 subst e;exact x
set_option maxHeartbeats 2000000 in
def Yb {ta rt cu po ot:MSp}(hcr:CrE cr)(hta:TaE ta)(hrt:RtE rt)(hcu:CuE cu)(hpo:PoE po)(hot:OtE ot):Xp (Ox cr ta rt cu po ot):=by
 intro h rws thg k x js ws fs L n Q E ek et cl rw' q';have n4:n<=400:=by rcases cl with ⟨_,rfl⟩ | ⟨_,rfl⟩ <;> decide
 have lj:js.length=ws.length:=by have:=congrArg aeS et;simpa using this
 have lw:ws.length<=5:=by cases rw' <;> simp
 unfold Ox;refine cA rfl (Z:=[some<|.lst rws,some<|.lst thg,some<|.int (k:Int),none,none]) rfl<|aH<|aP<|aD<|aD<|ak rfl<|ak rfl<|cH (ws:=rws) rfl (cG ek)<|aU<|cH (ws:=.str x::js.map fun j:Nat=>W.int (j:Int)) rfl Rn ?_
 refine nV<|bw ?_
 refine aH<|aP ?_
 refine gj<|gw<|R9<|aD<|ak rfl<|ak rfl<|cH (ws:=rws) rfl (cG ek)<|xX<|aU<|Y6<|wk ?_
 refine aaw (aaS _ _)<|qz (ws:=js.map fun j:Nat=>W.int (j:Int)) (o:=none) rfl<|fL.mk (acq (m:=1000) (by rw [acf];omega)<|by decide) ?_
 refine dF (fun i acc g=>g=h/\acc=(ws.take i).map tW) ?_ ?_ ⟨rfl,rfl⟩
 ·rintro i w acc g N hN e ⟨rfl,rfl⟩;rw [acu] at e;cases qe:js[i]? with
  | none=>rw [qe] at e;cases e
  | some j=>
   rw [qe] at e;cases e;have hi:=(acD.mp qe).1;have qw:ws[i]?=some (ws[i]'(by omega)):=acn _;have e2:=congrArg (·[i]?) et;simp only [acu,qe,qw,Option.map_some] at e2;refine ⟨[.int (j:Int)],rfl,bG<|bD<|aD<|ak rfl<|ak rfl<|cH (ws:=thg) rfl (cG<|acv e2)<|hN _ _ ⟨rfl,?_⟩⟩;rw [adl,qw,acB];rfl
 ·rintro acc g ⟨rfl,rfl⟩;rw [acf,lj,adf];refine nV<|bw ?_
  refine aH<|aZ<|aN<|aD<|ak rfl<|aU<|cI<|dG ?_
  cases rw' with
  | curve a1 a2 a3 a4 a5=>
   refine CT (by decide)<|aX<|aB<|aj<|ak rfl<|aq ?_
   exact hcu cl a1 a2 a3 a4 a5 fun R e=>gH<|q' R e
  | about a1 a2=>
   refine fX (by decide)<|aW<|bw ?_
   unfold qm;refine aH<|aZ<|aN<|aD<|ak rfl<|aU<|cI<|dG<|CT (by decide) ?_
   refine aX<|aB<|aj<|aB<|aj<|aD<|ak rfl<|aU<|IW (i:=0) rfl<|aq ?_
   refine hta (by decide) n4 a1 fun a d g e1 e2 e3=>aj<|aD<|ak rfl<|aU<|IW (i:=1) rfl<|aq ?_
   obtain ⟨ka,N1,k3,kb,hkb,_,cap⟩:=Xo cl (b:=41) (c:=40) (by decide);exact hrt N1 k3 hkb cap e1 e2 e3 a2 fun r1 r2 r3 er=>gH<|q' [r1,r2,r3]<|er.l.le (by decide) (by decide) hkb
  | pole a1 a2=>
   refine fX (by decide)<|aW<|bw ?_
   unfold qm;refine aH<|aZ<|aN<|aD<|ak rfl<|aU<|cI<|dG<|fX (by decide)<|aW<|bw ?_
   unfold tR;refine aH<|aZ<|aN<|aD<|ak rfl<|aU<|cI<|dG<|CT (by decide) ?_
   refine aX<|aB<|aj<|aD<|ak rfl<|aU<|IW (i:=0) rfl<|aj<|aD<|ak rfl<|aU<|IW (i:=1) rfl<|aq ?_
   exact hpo cl a1 a2 fun R e=>gH<|q' R e
  | other a1 a2 a3=>
   refine fX (by decide)<|aW<|bw ?_
   unfold qm;refine aH<|aZ<|aN<|aD<|ak rfl<|aU<|cI<|dG<|fX (by decide)<|aW<|bw ?_
   unfold tR;refine aH<|aZ<|aN<|aD<|ak rfl<|aU<|cI<|dG<|fX (by decide)<|aW<|bw ?_
   unfold yd;refine aH<|aZ<|aN<|aD<|ak rfl<|aU<|cI<|dG<|CT (by decide) ?_
   refine aX<|aB<|aj<|aD<|ak rfl<|aU<|IW (i:=0) rfl<|aj<|aD<|ak rfl<|aU<|IW (i:=1) rfl ?_
   refine aj<|aD<|ak rfl<|aU<|IW (i:=2) rfl<|aq ?_
   exact hot cl a1 a2 a3 fun R e=>gH<|q' R e
  | join hx a1 a2=>
   have c1:x ≠ "curve":=by rcases hx with rfl | rfl <;> decide
   have c2:x ≠ "about":=by rcases hx with rfl | rfl <;> decide
   have c3:x ≠ "pole":=by rcases hx with rfl | rfl <;> decide
   have c4:x ≠ "other":=by rcases hx with rfl | rfl <;> decide
   refine fX (decide_eq_false c1)<|aW<|bw ?_
   unfold qm;refine aH<|aZ<|aN<|aD<|ak rfl<|aU<|cI<|dG<|fX (decide_eq_false c2)<|aW<|bw ?_
   unfold tR;refine aH<|aZ<|aN<|aD<|ak rfl<|aU<|cI<|dG<|fX (decide_eq_false c3)<|aW<|bw ?_
   unfold yd;refine aH<|aZ<|aN<|aD<|ak rfl<|aU<|cI<|dG<|fX (decide_eq_false c4)<|aW<|bw ?_
   unfold HF;refine aX<|aB<|aj<|aD<|ak rfl<|aU<|IW (i:=0) rfl<|aj<|aD<|ak rfl<|aU<|IW (i:=1) rfl<|aq ?_
   obtain ⟨ka,N1,k3,kb,hkb,cap,_⟩:=Xo cl (b:=40) (c:=40) (by decide);exact hcr N1 hkb cap a1 a2 fun r1 r2 r3 er=>gH<|q' [r1,r2,r3]<|er.l.le (by decide) (by decide) hkb
def CrI (c0:MSp):Prop:=∀ {h:Gh} {a b c d e f:Int} {m:Nat} {Q:WK} {E:XWK},m<=400000->Sm m a->Sm m b->Sm m c->Sm m d->Sm m e->Sm m f->Q (.tup [.int (b*f - c*e),.int (c*d - a*f),.int (a*e - b*d)]) h->c0 [.tup [.int a,.int b,.int c],.tup [.int d,.int e,.int f]] h Q E
def Uo:CrI oH:=by
 intro h a b c d e f m Q E hm ha hb hc hd he hf q;unfold oH;refine cA rfl (Z:=[some<|.tup [.int a,.int b,.int c],some<|.tup [.int d,.int e,.int f],none,none,none,none,none,none]) rfl ?_;rfl'
 exact q
def DoI (c0:MSp):Prop:=∀ {h:Gh} {a b c d e f:Int} {m k:Nat} {Q:WK} {E:XWK},m<=400000->k<=400000->Sm m a->Sm m b->Sm m c->Sm k d->Sm k e->Sm k f->Q (.int (a*d+b*e+c*f)) h->c0 [.tup [.int a,.int b,.int c],.tup [.int d,.int e,.int f]] h Q E
def Ql:DoI yp:=by
 intro h a b c d e f m k Q E hm hk ha hb hc hd he hf q;unfold yp;refine cA rfl (Z:=[some<|.tup [.int a,.int b,.int c],some<|.tup [.int d,.int e,.int f]]) rfl ?_;rfl'
 exact q
def RoI (c0:MSp):Prop:=∀ {h:Gh} {a b c d e f:Int} {m:Nat} {Q:WK} {E:XWK},m<=400000->Sm m a->Sm m b->Sm m c->Sm m d->Sm m e->Sm m f->Q (.lst [.tup [.int (2*a),.int b,.int d],.tup [.int b,.int (2*c),.int e],.tup [.int d,.int e,.int (2*f)]]) h->c0 [.tup [.int a,.int b,.int c,.int d,.int e,.int f]] h Q E
def Ti:RoI jJ:=by
 intro h a b c d e f m Q E hm ha hb hc hd he hf q;unfold jJ;refine cA rfl (Z:=[some<|.tup [.int a,.int b,.int c,.int d,.int e,.int f],none,none,none,none,none,none]) rfl ?_;rfl'
 exact q
def PaI (c0:MSp):Prop:=∀ {h:Gh} {a b c d e f:Int} {m:Nat} {Q:WK} {E:XWK},m<=400000->Sm m a->Sm m b->Sm m c->Sm m d->Sm m e->Sm m f->Q (.lst [.int (a*d),.int (a*e+b*d),.int (b*e),.int (a*f+c*d),.int (b*f+c*e),.int (c*f)]) h->c0 [.tup [.int a,.int b,.int c],.tup [.int d,.int e,.int f]] h Q E
def X8:PaI rY:=by
 intro h a b c d e f m Q E hm ha hb hc hd he hf q;unfold rY;refine cA rfl (Z:=[some<|.tup [.int a,.int b,.int c],some<|.tup [.int d,.int e,.int f],none,none,none,none,none,none]) rfl ?_;rfl'
 exact q
def jB {a:Int}(h:Sm m a):Sm (m+2) (2*a):=by
 unfold Sm at *;rw [afe,aeJ];show 2*a.natAbs<2^m*4;omega
def TmI (c0:MSp):Prop:=∀ {h:Gh} {a b c d e f x y z:Int} {m:Nat} {Q:WK} {E:XWK},m<=300000->Sm m a->Sm m b->Sm m c->Sm m d->Sm m e->Sm m f->Sm m x->Sm m y->Sm m z->Q (.tup [.int (2*a*x+b*y+d*z),.int (b*x+2*c*y+e*z),.int (d*x+e*y+2*f*z)]) h->c0 [.tup [.int a,.int b,.int c,.int d,.int e,.int f],.tup [.int x,.int y,.int z]] h Q E
variable {ro : MSp}
def Zc (hdt:DoI dt)(hro:RoI ro):TmI (pP dt ro):=by
 intro h a b c d e f x y z m Q E hm ha hb hc hd he hf hx hy hz q;have up:∀ {i:Int},Sm m i->Sm (m+2) i:=fun h=>h.mono (by omega)
 unfold pP;refine cA rfl (Z:=[some<|.tup [.int a,.int b,.int c,.int d,.int e,.int f],some<|.tup [.int x,.int y,.int z]]) rfl<|aX<|bK<|aj<|gj<|gw<|aB<|aj<|ak rfl<|aq ?_
 refine hro (by omega) ha hb hc hd he hf<|qz (ws:=[.tup [.int<|2*a,.int b,.int d],.tup [.int b,.int<|2*c,.int e],.tup [.int d,.int e,.int<|2*f]]) (o:=none) rfl<|yx rfl ?_
 refine dB (vs:=[.tup [.int<|2*a,.int b,.int d]]) rfl<|bG<|bD<|aB<|aj<|ak rfl<|aj<|ak rfl<|aq<|hdt (m:=m+2) (k:=m) (by omega) (by omega) (jB ha) (up hb) (up hd) hx hy hz ?_
 refine dB (vs:=[.tup [.int b,.int<|2*c,.int e]]) rfl<|bG<|bD<|aB<|aj<|ak rfl<|aj<|ak rfl<|aq<|hdt (m:=m+2) (k:=m) (by omega) (by omega) (up hb) (jB hc) (up he) hx hy hz ?_
 refine dB (vs:=[.tup [.int d,.int e,.int<|2*f]]) rfl<|bG<|bD<|aB<|aj<|ak rfl<|aj<|ak rfl<|aq<|hdt (m:=m+2) (k:=m) (by omega) (by omega) (up hd) (up he) (jB hf) hx hy hz ?_
 exact qO<|aq<|bW<|gH q
def jU {a b c d:Int}(ha:Sm m a)(hb:Sm m b)(hc:Sm m c)(hd:Sm m d):Sm (m+m+2) (a*b - c*d):=by
 have h1:(a*b).natAbs<2^(m+m):=by rw [afe,aeJ];exact Nat.mul_lt_mul'' ha hb
 have h2:(c*d).natAbs<2^(m+m):=by rw [afe,aeJ];exact Nat.mul_lt_mul'' hc hd
 unfold Sm;rw [aeJ];generalize 2^(m+m)=A at *;omega
def BX {k:Nat}{a b c d e f:Int}(ha:Sm m a)(hb:Sm m b)(hc:Sm m c)(hd:Sm k d)(he:Sm k e)(hf:Sm k f):Sm (m+k+2) (a*d+b*e+c*f):=by
 have g:∀ {x y:Int},Sm m x->Sm k y->(x*y).natAbs<2^(m+k):=fun {x y} hx hy=>by rw [afe,aeJ];exact Nat.mul_lt_mul'' hx hy
 have h1:=g ha hd;have h2:=g hb he;have h3:=g hc hf;unfold Sm;rw [aeJ];generalize 2^(m+k)=A at *;omega
def TuI (c0:MSp):Prop:=∀ {h:Gh} {a b c d e f x y z:Int} {m:Nat} {Q:WK} {E:XWK},m<=100000->Sm m a->Sm m b->Sm m c->Sm m d->Sm m e->Sm m f->Sm m x->Sm m y->Sm m z->Q (.int ((b*f - c*e)*x+(c*d - a*f)*y+(a*e - b*d)*z)) h->c0 [.tup [.int a,.int b,.int c],.tup [.int d,.int e,.int f],.tup [.int x,.int y,.int z]] h Q E
def ZV (hcr:CrI cr)(hdt:DoI dt):TuI (tZ cr dt):=by
 intro h a b c d e f x y z m Q E hm ha hb hc hd he hf hx hy hz q;unfold tZ;refine cA rfl (Z:=[some<|.tup [.int a,.int b,.int c],some<|.tup [.int d,.int e,.int f],some<|.tup [.int x,.int y,.int z]]) rfl<|aX<|aB<|aj<|aB<|aj<|ak rfl<|aj<|ak rfl<|aq ?_
 refine hcr (m:=m) (by omega) ha hb hc hd he hf<|aj<|ak rfl<|aq ?_
 exact hdt (m:=m+m+2) (k:=m) (by omega) (by omega) (jU hb hf hc he) (jU hc hd ha hf) (jU ha he hb hd) hx hy hz<|gH q
variable {zs : List Int}
def Ev.sm {f:Fn}(e:Ev L 40 1 n f us)(hn:n<=64)(bx:Bd zs)(hL:L<=8):Sm 20000 (f zs):=by
 rw [<-e.2 zs];have f0:∀ t∈us,(mo t.1 zs L*t.2).natAbs<=2^17000:=fun t ht=>by
  have pw:Pw t.1:=fun q hq=>by have:=(e.1.2.2 t ht).2.2.2 q hq;omega
  have b1:=Qj bx pw L;have b2:=(e.1.2.2 t ht).2.2.1;rw [afe];refine acq (agQ b1<|aen b2) ?_;rw [<-aeJ];exact afL (by decide)<|by omega
 have g:∀ us:List Tm,(∀ t∈us,(mo t.1 zs L*t.2).natAbs<=2^17000)->(lin (fun q=>mo q zs L) us).natAbs<=us.length*2^17000:=fun us=>by
  induction us with
  | nil=>intro _;exact adu _
  | cons t us ih=>
   intro f;rw [bJ,acE,Nat.succ_mul,Nat.add_comm];exact acq (Int.natAbs_add_le _ _)<|Nat.add_le_add (f t<|by simp)<|ih fun u hu=>f u<|acr _ hu
 have:=acq (g us f0) (agC _ (acq e.1.1 hn))
 unfold Sm;refine aeD this ?_;rw [show (64:Nat)=2^6 from rfl,<-aeJ];exact Nat.pow_lt_pow_right (by decide)<|by decide
abbrev vW (zs:List Int)(L:Nat)(T:List (List Tm)):W:=.tup (T.map fun us=>.int (lin (fun q=>mo q zs L) us))
def Df {f g h:Fn}{x y z:List Tm}(e:Sp L n f g h x y z)(zs:List Int):vW zs L [x,y,z]=.tup [.int (f zs),.int (g zs),.int (h zs)]:=by
 show W.tup [.int _,.int _,.int _]=_;rw [e.x1.2,e.x2.2,e.x3.2]
def YS {f0 f1 f2 f3 f4 f5:Fn}{x0 x1 x2 x3 x4 x5:List Tm}(e:Cv L n f0 f1 f2 f3 f4 f5 x0 x1 x2 x3 x4 x5)(zs:List Int)(hn:n<=64)(bx:Bd zs)(hL:L<=8):vW zs L [x0,x1,x2,x3,x4,x5]=.tup [.int (f0 zs),.int (f1 zs),.int (f2 zs),.int (f3 zs),.int (f4 zs),.int (f5 zs)]/\Sm 20000 (f0 zs)/\Sm 20000 (f1 zs)/\Sm 20000 (f2 zs)/\Sm 20000 (f3 zs)/\Sm 20000 (f4 zs)/\Sm 20000 (f5 zs):=by
 cases e with
 | cons e0 e=>cases e with
  | cons e1 e=>cases e with
   | cons e2 e=>cases e with
    | cons e3 e=>cases e with
     | cons e4 e=>cases e with
      | cons e5 e=>
       refine ⟨?_,e0.sm hn bx hL,e1.sm hn bx hL,e2.sm hn bx hL,e3.sm hn bx hL,e4.sm hn bx hL,e5.sm hn bx hL⟩;show W.tup [.int _,.int _,.int _,.int _,.int _,.int _]=_;rw [e0.2,e1.2,e2.2,e3.2,e4.2,e5.2]
def Xy (c0:MSp):Prop:=∀ {h:Gh} {x:Str} {ws:List (List (List Tm))} {fs:List Fn} {L n:Nat} {zs:List Int} {Q:WK} {E:XWK},Cl L n->Rw L n x ws fs->Bd zs->L<=8->Q (.tup (fs.map fun f=>.int (f zs))) h->c0 [.str x,.lst (ws.map (vW zs L))] h Q E
def Ac {ws:List (List (List Tm))}(e:ws[i]?=some T)(ew:vW zs L T=w)(x:Q w h):kIx (.lst (ws.map (vW zs L))) (.int (i:Int)) h Q:=
 cH (ws:=ws.map (vW zs L)) rfl (cG (by rw [acu,e,<-ew];rfl)) x
variable {tm : MSp}
def LQ (hcr:CrI cr)(htm:TmI tm){ws:List (List (List Tm))}(cl:Cl L n)(rw':Rw L n x ws fs)(bx:Bd zs)(hL:L<=8)(hx:x = "join"\/x = "meet"\/x = "about")(q:Q (.tup (fs.map fun f=>.int (f zs))) h):gn cr dt tu ro tm pa [.str x,.lst (ws.map (vW zs L))] h Q E:=by
 have n4:n<=64:=by rcases cl with ⟨_,rfl⟩ | ⟨_,rfl⟩ <;> decide
 unfold gn;refine cA rfl (Z:=[some<|.str x,some<|.lst<|ws.map<|vW zs L,none,none,none,none,none,none,none,none,none,none,none,none,none,none,none,none,none]) rfl<|aH<|aZ<|jC<|aN<|aD<|ak rfl<|aU<|cI<|dG ?_
 cases rw' with
 | join hx' a1 a2=>
  rename_i f1 f2 f3 g1 g2 g3 x1 x2 x3 y1 y2 y3;have go:cJ (aJ cr E (ao (mOp kIx (aA 1) (mC (.int 0))) (ao (mOp kIx (aA 1) (mC (.int 1))) aL))) { nx:=gC cr dt tu ro tm pa E { nx:=fun _ h'=>Q .non h',rt:=Q },rt:=Q } [some (.str x),some (.lst ([[x1,x2,x3],[y1,y2,y3]].map (vW zs L))),none,none,none,none,none,none,none,none,none,none,none,none,none,none,none,none,none] h:=by
   refine aX<|aB<|aj<|aD<|ak rfl<|aU<|Ac (i:=0) rfl (Df a1 zs)<|aj<|aD<|ak rfl<|aU<|Ac (i:=1) rfl (Df a2 zs)<|aq ?_
   exact hcr (m:=20000) (by decide) (a1.x1.sm n4 bx hL) (a1.x2.sm n4 bx hL) (a1.x3.sm n4 bx hL) (a2.x1.sm n4 bx hL) (a2.x2.sm n4 bx hL) (a2.x3.sm n4 bx hL)<|gH q
  rcases hx' with rfl | rfl
  ·exact CT (by decide)<|Bw go
  ·exact fX (by decide)<|aN<|aD<|ak rfl<|aU<|cI<|dG<|CT (by decide) go
 | about a1 a2=>
  refine fX (by decide)<|aN<|aD<|ak rfl<|aU<|cI<|dG<|fX (by decide)<|aW<|bw ?_
  unfold gC;refine aH<|aZ<|aN<|aD<|ak rfl<|aU<|cI<|dG<|fX (by decide)<|aW<|bw ?_
  unfold j6;refine aH<|aZ<|aN<|aD<|ak rfl<|aU<|cI<|dG<|CT (by decide) ?_
  obtain ⟨ev,s0,s1,s2,s3,s4,s5⟩:=YS a1 zs n4 bx hL;refine aX<|aB<|aj<|aD<|ak rfl<|aU<|Ac (i:=0) rfl ev<|aj<|aD<|ak rfl<|aU<|Ac (i:=1) rfl (Df a2 zs)<|aq ?_
  exact htm (m:=20000) (by decide) s0 s1 s2 s3 s4 s5 (a2.x1.sm n4 bx hL) (a2.x2.sm n4 bx hL) (a2.x3.sm n4 bx hL)<|gH q
 | curve=>exact absurd hx (by decide)
 | pole=>exact absurd hx (by decide)
 | other=>exact absurd hx (by decide)
abbrev tr3 (a b c:Int):W:=.tup [.int a,.int b,.int c]
def VH (hcr:CrI cr)(hdt:DoI dt)(htu:TuI tu)(hro:RoI ro){f0 f1 f2 f3 f4 f5 k1 k2 k3:Fn}{x0 x1 x2 x3 x4 x5 v w:List Tm}(n4:n<=64)(bx:Bd zs)(hL:L<=8)(a1:Cv L n f0 f1 f2 f3 f4 f5 x0 x1 x2 x3 x4 x5)(a2:Sp L n k1 k2 k3 u v w)(q:Q (.tup ((Zt f0 f1 f2 f3 f4 f5 k1 k2 k3).map fun f=>.int (f zs))) h):gn cr dt tu ro tm pa [.str "pole",.lst ([[x0,x1,x2,x3,x4,x5],[u,v,w]].map (vW zs L))] h Q E:=by
 obtain ⟨ev,s0,s1,s2,s3,s4,s5⟩:=YS a1 zs n4 bx hL;have e2:=Df a2 zs;have k1s:=a2.x1.sm n4 bx hL;have k2s:=a2.x2.sm n4 bx hL;have k3s:=a2.x3.sm n4 bx hL;have up:∀ {i:Int},Sm 20000 i->Sm 20002 i:=fun h=>h.mono (by decide)
 have t0:=jB s0;have t2:=jB s2;have t5:=jB s5;have u1:=up s1;have u3:=up s3;have u4:=up s4;unfold gn;refine cA rfl (Z:=[some<|.str "pole",some<|.lst<|[[x0,x1,x2,x3,x4,x5],[u,v,w]].map (vW zs L),none,none,none,none,none,none,none,none,none,none,none,none,none,none,none,none,none]) rfl<|aH<|aZ<|jC<|aN<|aD<|ak rfl<|aU<|cI<|dG<|fX (by decide) ?_
 refine aN<|aD<|ak rfl<|aU<|cI<|dG<|fX (by decide)<|aW<|bw ?_
 unfold gC;refine aH<|aZ<|aN<|aD<|ak rfl<|aU<|cI<|dG<|fX (by decide)<|aW<|bw ?_
 unfold j6;refine aH<|aZ<|aN<|aD<|ak rfl<|aU<|cI<|dG<|fX (by decide)<|aW<|bw ?_
 unfold ou;refine aH<|aZ<|aN<|aD<|ak rfl<|aU<|cI<|dG<|CT (by decide) ?_
 refine aH<|aP<|aB<|aj<|aD<|ak rfl<|aU<|Ac (i:=0) rfl ev<|aq ?_
 refine hro (m:=20000) (by decide) s0 s1 s2 s3 s4 s5 ?_;generalize etb:([tr3 (2*f0 zs) (f1 zs) (f3 zs),tr3 (f1 zs) (2*f2 zs) (f4 zs),tr3 (f3 zs) (f4 zs) (2*f5 zs)]:List W)=tb;refine mK (Z':=[some<|.str "pole",some<|.lst<|[[x0,x1,x2,x3,x4,x5],[u,v,w]].map (vW zs L),none,none,none,none,none,none,none,none,none,none,none,some<|.lst tb,none,none,none,none,none]) (by rw [<-etb];rfl)<|bw ?_
 have i0:∀ {R:WK} {h:Gh},R (tr3 (2*f0 zs) (f1 zs) (f3 zs)) h->kIx (.lst tb) (.int 0) h R:=fun x=>cH (ws:=tb) rfl (by rw [<-etb];rfl) x
 have i1:∀ {R:WK} {h:Gh},R (tr3 (f1 zs) (2*f2 zs) (f4 zs)) h->kIx (.lst tb) (.int 1) h R:=fun x=>cH (ws:=tb) rfl (by rw [<-etb];rfl) x
 have i2:∀ {R:WK} {h:Gh},R (tr3 (f3 zs) (f4 zs) (2*f5 zs)) h->kIx (.lst tb) (.int 2) h R:=fun x=>cH (ws:=tb) rfl (by rw [<-etb];rfl) x
 refine aH<|aP<|iT<|aj<|aB<|aj<|aD<|ak rfl<|aU<|i1<|aj<|aD<|ak rfl<|aU<|i2<|aq ?_
 refine hcr (m:=20002) (by decide) u1 t2 u4 u3 u4 t5 ?_;refine aj<|aB<|aj<|aD<|ak rfl<|aU<|i2<|aj<|aD<|ak rfl<|aU<|i0<|aq ?_
 refine hcr (m:=20002) (by decide) u3 u4 t5 t0 u1 u3 ?_;refine aj<|aB<|aj<|aD<|ak rfl<|aU<|i0<|aj<|aD<|ak rfl<|aU<|i1<|aq ?_
 refine hcr (m:=20002) (by decide) t0 u1 u3 u1 t2 u4<|aq<|bC rfl ?_
 refine nV<|bw ?_
 refine aH<|aP<|aB<|aj<|aD<|ak rfl<|aU<|i0<|aj<|aD<|ak rfl<|aU<|i1<|aj<|aD<|ak rfl<|aU<|i2<|aq ?_
 refine htu (m:=20002) (by decide) t0 u1 u3 u1 t2 u4 u3 u4 t5 ?_;have ss:=BX (jU u1 u4 u3 t2) (jU u3 u1 t0 u4) (jU t0 t2 u1 u1) u3 u4 t5;refine nV<|bw ?_
 refine aX<|bK<|aj<|gj<|gw<|ak rfl<|qz (ws:=[tr3 (2*f2 zs*(2*f5 zs) - f4 zs*f4 zs) (f4 zs*f3 zs - f1 zs*(2*f5 zs))<|f1 zs*f4 zs - 2*f2 zs*f3 zs,tr3 (f4 zs*f3 zs - 2*f5 zs*f1 zs) (2*f5 zs*(2*f0 zs) - f3 zs*f3 zs)<|f3 zs*f1 zs - f4 zs*(2*f0 zs),tr3 (f1 zs*f4 zs - f3 zs*(2*f2 zs)) (f3 zs*f1 zs - 2*f0 zs*f4 zs)<|2*f0 zs*(2*f2 zs) - f1 zs*f1 zs]) (o:=none) rfl<|yx rfl ?_
 refine dB (vs:=[tr3 _ _ _]) rfl<|bG<|bD<|aD<|aB<|aj<|ak rfl<|aj<|aD<|ak rfl<|aU<|Ac (i:=1) rfl e2<|aq ?_
 refine hdt (m:=20002+20002+2) (k:=20000) (by decide) (by decide) (jU t2 t5 u4 u4) (jU u4 u3 u1 t5) (jU u1 u4 t2 u3) k1s k2s k3s ?_;refine ak rfl<|bH (.of (BX (jU t2 t5 u4 u4) (jU u4 u3 u1 t5) (jU u1 u4 t2 u3) k1s k2s k3s) ss (by decide)<|by decide) ?_
 refine dB (vs:=[tr3 _ _ _]) rfl<|bG<|bD<|aD<|aB<|aj<|ak rfl<|aj<|aD<|ak rfl<|aU<|Ac (i:=1) rfl e2<|aq ?_
 refine hdt (m:=20002+20002+2) (k:=20000) (by decide) (by decide) (jU u4 u3 t5 u1) (jU t5 t0 u3 u3) (jU u3 u1 u4 t0) k1s k2s k3s ?_;refine ak rfl<|bH (.of (BX (jU u4 u3 t5 u1) (jU t5 t0 u3 u3) (jU u3 u1 u4 t0) k1s k2s k3s) ss (by decide)<|by decide) ?_
 refine dB (vs:=[tr3 _ _ _]) rfl<|bG<|bD<|aD<|aB<|aj<|ak rfl<|aj<|aD<|ak rfl<|aU<|Ac (i:=1) rfl e2<|aq ?_
 refine hdt (m:=20002+20002+2) (k:=20000) (by decide) (by decide) (jU u1 u4 u3 t2) (jU u3 u1 t0 u4) (jU t0 t2 u1 u1) k1s k2s k3s ?_;refine ak rfl<|bH (.of (BX (jU u1 u4 u3 t2) (jU u3 u1 t0 u4) (jU t0 t2 u1 u1) k1s k2s k3s) ss (by decide)<|by decide) ?_
 exact qO<|aq<|bW<|gH q
def Wh (hdt:DoI dt)(htm:TmI tm){f0 f1 f2 f3 f4 f5 j1 j2 j3 k1 k2 k3:Fn}{x0 x1 x2 x3 x4 x5 r s t v w:List Tm}(n4:n<=64)(bx:Bd zs)(hL:L<=8)(a1:Cv L n f0 f1 f2 f3 f4 f5 x0 x1 x2 x3 x4 x5)(a2:Sp L n j1 j2 j3 r s t)(a3:Sp L n k1 k2 k3 u v w)(q:Q (.tup ((Ud f0 f1 f2 f3 f4 f5 j1 j2 j3 k1 k2 k3).map fun f=>.int (f zs))) h):gn cr dt tu ro tm pa [.str "other",.lst ([[x0,x1,x2,x3,x4,x5],[r,s,t],[u,v,w]].map (vW zs L))] h Q E:=by
 obtain ⟨ev,s0,s1,s2,s3,s4,s5⟩:=YS a1 zs n4 bx hL;have e2:=Df a2 zs;have e3:=Df a3 zs;have j1s:=a2.x1.sm n4 bx hL;have j2s:=a2.x2.sm n4 bx hL;have j3s:=a2.x3.sm n4 bx hL;have k1s:=a3.x1.sm n4 bx hL;have k2s:=a3.x2.sm n4 bx hL;have k3s:=a3.x3.sm n4 bx hL;have up:∀ {i:Int},Sm 20000 i->Sm 20002 i:=fun h=>h.mono (by decide)
 have m1:=BX (jB s0) (up s1) (up s3) k1s k2s k3s;have m2:=BX (up s1) (jB s2) (up s4) k1s k2s k3s;have m3:=BX (up s3) (up s4) (jB s5) k1s k2s k3s;have o1:=BX k1s k2s k3s m1 m2 m3;have o2:=BX j1s j2s j3s m1 m2 m3;unfold gn;refine cA rfl (Z:=[some<|.str "other",some<|.lst<|[[x0,x1,x2,x3,x4,x5],[r,s,t],[u,v,w]].map (vW zs L),none,none,none,none,none,none,none,none,none,none,none,none,none,none,none,none,none]) rfl<|aH<|aZ<|jC<|aN<|aD<|ak rfl<|aU<|cI<|dG<|fX (by decide) ?_
 refine aN<|aD<|ak rfl<|aU<|cI<|dG<|fX (by decide)<|aW<|bw ?_
 unfold gC;refine aH<|aZ<|aN<|aD<|ak rfl<|aU<|cI<|dG<|fX (by decide)<|aW<|bw ?_
 unfold j6;refine aH<|aZ<|aN<|aD<|ak rfl<|aU<|cI<|dG<|fX (by decide)<|aW<|bw ?_
 unfold ou;refine aH<|aZ<|aN<|aD<|ak rfl<|aU<|cI<|dG<|fX (by decide)<|aW<|bw ?_
 unfold uG;refine aH<|aP<|aB<|aj<|aD<|ak rfl<|aU<|Ac (i:=0) rfl ev<|aj<|aD<|ak rfl<|aU<|Ac (i:=2) rfl e3<|aq ?_
 refine htm (m:=20000) (by decide) s0 s1 s2 s3 s4 s5 k1s k2s k3s ?_;refine nV<|bw ?_
 refine aH<|aP<|aB<|aj<|aD<|ak rfl<|aU<|Ac (i:=2) rfl e3<|aj<|ak rfl<|aq ?_
 refine hdt (m:=20000) (k:=20000+2+20000+2) (by decide) (by decide) k1s k2s k3s m1 m2 m3 ?_;refine nV<|bw ?_
 refine aH<|aP<|aD<|aU<|aB<|aj<|aD<|ak rfl<|aU<|Ac (i:=1) rfl e2<|aj<|ak rfl<|aq ?_
 refine hdt (m:=20000) (k:=20000+2+20000+2) (by decide) (by decide) j1s j2s j3s m1 m2 m3<|bH (.of (m:=64) (.lit rfl) o2 (by decide)<|by decide) ?_
 refine nV<|bw ?_
 have o3:=jB o2;have com:∀ a b c d:Int,a*b - c*d=b*a - d*c:=fun a b c d=>by rw [afC a,afC c]
 refine aX<|bK<|aj<|gj<|qL<|aj<|aD<|ak rfl<|aU<|Ac (i:=1) rfl e2<|aj<|aD<|ak rfl<|aU<|Ac (i:=2) rfl e3<|aq<|Bx (as:=[.int<|j1 zs,.int<|j2 zs,.int<|j3 zs]) (bs:=[.int<|k1 zs,.int<|k2 zs,.int<|k3 zs]) rfl rfl rfl<|yx rfl ?_
 refine dB (vs:=[.int<|j1 zs,.int<|k1 zs]) rfl<|bG<|bD<|aD<|aD<|ak rfl<|ak rfl<|bH (.of o1 j1s (by decide)<|by decide)<|aD<|ak rfl<|ak rfl<|bH (.of o3 k1s (by decide)<|by decide)<|fC ?_
 refine dB (vs:=[.int<|j2 zs,.int<|k2 zs]) rfl<|bG<|bD<|aD<|aD<|ak rfl<|ak rfl<|bH (.of o1 j2s (by decide)<|by decide)<|aD<|ak rfl<|ak rfl<|bH (.of o3 k2s (by decide)<|by decide)<|fC ?_
 refine dB (vs:=[.int<|j3 zs,.int<|k3 zs]) rfl<|bG<|bD<|aD<|aD<|ak rfl<|ak rfl<|bH (.of o1 j3s (by decide)<|by decide)<|aD<|ak rfl<|ak rfl<|bH (.of o3 k3s (by decide)<|by decide)<|fC ?_
 refine qO<|aq<|bW<|gH ?_
 have e:((Ud f0 f1 f2 f3 f4 f5 j1 j2 j3 k1 k2 k3).map fun f=>W.int (f zs))=[.int (bo f0 f1 f2 f3 f4 f5 k1 k2 k3 k1 k2 k3 zs*j1 zs - 2*bo f0 f1 f2 f3 f4 f5 j1 j2 j3 k1 k2 k3 zs*k1 zs),.int (bo f0 f1 f2 f3 f4 f5 k1 k2 k3 k1 k2 k3 zs*j2 zs - 2*bo f0 f1 f2 f3 f4 f5 j1 j2 j3 k1 k2 k3 zs*k2 zs),.int (bo f0 f1 f2 f3 f4 f5 k1 k2 k3 k1 k2 k3 zs*j3 zs - 2*bo f0 f1 f2 f3 f4 f5 j1 j2 j3 k1 k2 k3 zs*k3 zs)]:=by
  unfold Ud;simp only [acg,adA];rw [com (j1 zs),com (j2 zs),com (j3 zs)]
 rw [e] at q;exact q
def Kv {a1 a2 a3 b1 b2 b3:Int}(h1:Sm 20000 a1)(h2:Sm 20000 a2)(h3:Sm 20000 a3)(g1:Sm 20000 b1)(g2:Sm 20000 b2)(g3:Sm 20000 b3):Sm 40002 (a2*b3 - a3*b2)/\Sm 40002 (a3*b1 - a1*b3)/\Sm 40002 (a1*b2 - a2*b1):=⟨jU h2 g3 h3 g2,jU h3 g1 h1 g3,jU h1 g2 h2 g1⟩
def Sy {a b c d:Int}(ha:Sm m a)(hb:Sm m b)(hc:Sm m c)(hd:Sm m d):Sm (m+m+2) (a*b+c*d):=by
 have:=jU ha hb hc (d:=-d) (by unfold Sm at *;rw [Int.natAbs_neg];exact hd)
 rw [Int.mul_neg] at this;have e:a*b - -(c*d)=a*b+c*d:=by omega
 rw [e] at this;exact this
def Ni {a b:Int}(ha:Sm m a)(hb:Sm m b):Sm (m+m+2) (a*b):=by
 have:=jU ha hb (c:=0) (d:=0) (afW (by decide)) (afW (by decide))
 rw [Int.mul_zero,Int.sub_zero] at this;exact this
set_option maxHeartbeats 8000000 in
def Wt (hcr:CrI cr)(hdt:DoI dt)(hpa:PaI pa){f1 f2 f3 g1 g2 g3 h1 h2 h3 j1 j2 j3 k1 k2 k3:Fn}{x1 x2 x3 y1 y2 y3 z1 z2 z3 u1 u2 u3 v1 v2 v3:List Tm}(n4:n<=64)(bx:Bd zs)(hL:L<=8)(a1:Sp L n f1 f2 f3 x1 x2 x3)(a2:Sp L n g1 g2 g3 y1 y2 y3)(a3:Sp L n h1 h2 h3 z1 z2 z3)(a4:Sp L n j1 j2 j3 u1 u2 u3)(a5:Sp L n k1 k2 k3 v1 v2 v3)(q:Q (.tup ((crv f1 f2 f3 g1 g2 g3 h1 h2 h3 j1 j2 j3 k1 k2 k3).map fun f=>.int (f zs))) h):gn cr dt tu ro tm pa [.str "curve",.lst ([[x1,x2,x3],[y1,y2,y3],[z1,z2,z3],[u1,u2,u3],[v1,v2,v3]].map (vW zs L))] h Q E:=by
 have f1s:=a1.x1.sm n4 bx hL;have f2s:=a1.x2.sm n4 bx hL;have f3s:=a1.x3.sm n4 bx hL;have g1s:=a2.x1.sm n4 bx hL;have g2s:=a2.x2.sm n4 bx hL;have g3s:=a2.x3.sm n4 bx hL;have h1s:=a3.x1.sm n4 bx hL;have h2s:=a3.x2.sm n4 bx hL;have h3s:=a3.x3.sm n4 bx hL;have j1s:=a4.x1.sm n4 bx hL;have j2s:=a4.x2.sm n4 bx hL;have j3s:=a4.x3.sm n4 bx hL;have k1s:=a5.x1.sm n4 bx hL;have k2s:=a5.x2.sm n4 bx hL;have k3s:=a5.x3.sm n4 bx hL;obtain ⟨A1,A2,A3⟩:=Kv f1s f2s f3s g1s g2s g3s;obtain ⟨B1,B2,B3⟩:=Kv h1s h2s h3s j1s j2s j3s;obtain ⟨C1,C2,C3⟩:=Kv f1s f2s f3s h1s h2s h3s;obtain ⟨D1,D2,D3⟩:=Kv g1s g2s g3s j1s j2s j3s;have el:(.lst ([[x1,x2,x3],[y1,y2,y3],[z1,z2,z3],[u1,u2,u3],[v1,v2,v3]].map (vW zs L)):W)=.lst [tr3 (f1 zs) (f2 zs) (f3 zs),tr3 (g1 zs) (g2 zs) (g3 zs),tr3 (h1 zs) (h2 zs) (h3 zs),tr3 (j1 zs) (j2 zs) (j3 zs),tr3 (k1 zs) (k2 zs) (k3 zs)]:=by
  show W.lst [vW zs L [x1,x2,x3],vW zs L [y1,y2,y3],vW zs L [z1,z2,z3],vW zs L [u1,u2,u3],vW zs L [v1,v2,v3]]=_;rw [Df a1 zs,Df a2 zs,Df a3 zs,Df a4 zs,Df a5 zs]
 unfold gn;refine cA rfl (Z:=[some<|.str "curve",some<|.lst<|[[x1,x2,x3],[y1,y2,y3],[z1,z2,z3],[u1,u2,u3],[v1,v2,v3]].map (vW zs L),none,none,none,none,none,none,none,none,none,none,none,none,none,none,none,none,none]) rfl<|aH<|aZ<|jC<|aN<|aD<|ak rfl<|aU<|cI<|dG<|fX (by decide) ?_
 refine aN<|aD<|ak rfl<|aU<|cI<|dG<|fX (by decide)<|aW<|bw ?_
 unfold gC;refine aH<|aZ<|aN<|aD<|ak rfl<|aU<|cI<|dG<|CT (by decide) ?_
 refine aH<|aP<|ak rfl<|Hv el rfl<|bZ<|nV ?_
 refine bZ<|nV ?_
 refine bZ<|nV ?_
 refine bZ<|nV ?_
 refine bZ<|nV ?_
 refine jY<|bw ?_
 refine aH<|aP<|aB<|aj<|ak rfl<|aj<|ak rfl<|aq<|hcr (m:=20000) (by decide) f1s f2s f3s g1s g2s g3s ?_
 refine nV<|bw ?_
 refine aH<|aP<|aB<|aj<|ak rfl<|aj<|ak rfl<|aq<|hcr (m:=20000) (by decide) h1s h2s h3s j1s j2s j3s ?_
 refine nV<|bw ?_
 refine aH<|aP<|aB<|aj<|ak rfl<|aj<|ak rfl<|aq<|hcr (m:=20000) (by decide) f1s f2s f3s h1s h2s h3s ?_
 refine nV<|bw ?_
 refine aH<|aP<|aB<|aj<|ak rfl<|aj<|ak rfl<|aq<|hcr (m:=20000) (by decide) g1s g2s g3s j1s j2s j3s ?_
 refine nV<|bw ?_
 have nA:=BX A1 A2 A3 k1s k2s k3s;have nB:=BX B1 B2 B3 k1s k2s k3s;refine aH<|aP<|aD<|aB<|aj<|ak rfl<|aj<|ak rfl<|aq<|hdt (m:=40002) (k:=20000) (by decide) (by decide) A1 A2 A3 k1s k2s k3s ?_
 refine aB<|aj<|ak rfl<|aj<|ak rfl<|aq<|hdt (m:=40002) (k:=20000) (by decide) (by decide) B1 B2 B3 k1s k2s k3s<|bH (.of nA nB (by decide)<|by decide) ?_
 have pA:=Ni nA nB;refine nV<|bw ?_
 have nC:=BX C1 C2 C3 k1s k2s k3s;have nD:=BX D1 D2 D3 k1s k2s k3s;refine aH<|aP<|aD<|aB<|aj<|ak rfl<|aj<|ak rfl<|aq<|hdt (m:=40002) (k:=20000) (by decide) (by decide) C1 C2 C3 k1s k2s k3s ?_
 refine aB<|aj<|ak rfl<|aj<|ak rfl<|aq<|hdt (m:=40002) (k:=20000) (by decide) (by decide) D1 D2 D3 k1s k2s k3s<|bH (.of nC nD (by decide)<|by decide) ?_
 have pC:=Ni nC nD;refine nV<|bw ?_
 refine aX<|bK<|aj<|gj<|qL<|aj<|aB<|aj<|ak rfl<|aj<|ak rfl<|aq<|hpa (m:=40002) (by decide) C1 C2 C3 D1 D2 D3 ?_
 refine aj<|aB<|aj<|ak rfl<|aj<|ak rfl<|aq<|hpa (m:=40002) (by decide) A1 A2 A3 B1 B2 B3<|aq<|Bx rfl rfl rfl<|yx rfl ?_
 refine dB rfl<|bG<|bD<|aD<|aD<|ak rfl<|ak rfl<|bH (.of pA (Ni C1 D1) (by decide)<|by decide)<|aD<|ak rfl<|ak rfl<|bH (.of pC (Ni A1 B1) (by decide)<|by decide)<|fC ?_
 refine dB rfl<|bG<|bD<|aD<|aD<|ak rfl<|ak rfl<|bH (.of pA (Sy C1 D2 C2 D1) (by decide)<|by decide)<|aD<|ak rfl<|ak rfl<|bH (.of pC (Sy A1 B2 A2 B1) (by decide)<|by decide)<|fC ?_
 refine dB rfl<|bG<|bD<|aD<|aD<|ak rfl<|ak rfl<|bH (.of pA (Ni C2 D2) (by decide)<|by decide)<|aD<|ak rfl<|ak rfl<|bH (.of pC (Ni A2 B2) (by decide)<|by decide)<|fC ?_
 refine dB rfl<|bG<|bD<|aD<|aD<|ak rfl<|ak rfl<|bH (.of pA (Sy C1 D3 C3 D1) (by decide)<|by decide)<|aD<|ak rfl<|ak rfl<|bH (.of pC (Sy A1 B3 A3 B1) (by decide)<|by decide)<|fC ?_
 refine dB rfl<|bG<|bD<|aD<|aD<|ak rfl<|ak rfl<|bH (.of pA (Sy C2 D3 C3 D2) (by decide)<|by decide)<|aD<|ak rfl<|ak rfl<|bH (.of pC (Sy A2 B3 A3 B2) (by decide)<|by decide)<|fC ?_
 refine dB rfl<|bG<|bD<|aD<|aD<|ak rfl<|ak rfl<|bH (.of pA (Ni C3 D3) (by decide)<|by decide)<|aD<|ak rfl<|ak rfl<|bH (.of pC (Ni A3 B3) (by decide)<|by decide)<|fC ?_
 refine qO<|aq<|bW<|gH ?_
 have com:∀ a b c d:Int,a*b - c*d=b*a - d*c:=fun a b c d=>by rw [afC a,afC c]
 refine Eq.mp (congrArg (fun l=>Q (.tup l) h) ?_) q;unfold crv;simp only [acg,adA,afY,afT,List.cons.injEq,W.int.injEq,and_true];exact ⟨com ..,com ..,com ..,com ..,com ..,com ..⟩
def YM (hcr:CrI cr)(hdt:DoI dt)(htu:TuI tu)(hro:RoI ro)(htm:TmI tm)(hpa:PaI pa):Xy (gn cr dt tu ro tm pa):=by
 intro h x ws fs L n zs Q E cl rw' bx hL q;have n4:n<=64:=by rcases cl with ⟨_,rfl⟩ | ⟨_,rfl⟩ <;> decide
 cases rw' with
 | join hx a1 a2=>exact LQ hcr htm cl (.join hx a1 a2) bx hL (by rcases hx with h | h;exact .inl h;exact .inr (.inl h)) q
 | about a1 a2=>exact LQ hcr htm cl (.about a1 a2) bx hL (.inr (.inr rfl)) q
 | curve a1 a2 a3 a4 a5=>exact Wt hcr hdt hpa n4 bx hL a1 a2 a3 a4 a5 q
 | pole a1 a2=>exact VH hcr hdt htu hro n4 bx hL a1 a2 q
 | other a1 a2 a3=>exact Wh hdt htm n4 bx hL a1 a2 a3 q
def wds:List Str:=["free", "join", "meet", "curve", "about", "pole", "other"]
def BR (x:Str):List Str:=if x = "join" then ["spot", "spot"] else if x = "meet" then ["line", "line"] else if x = "about" then ["curve", "spot"] else
 if x = "curve" then ["spot", "spot", "spot", "spot", "spot"] else if x = "pole" then ["curve", "line"] else if x = "other" then ["curve", "spot", "spot"] else []
def Nw1 (h h':Gh):Prop:=(∀ m,m≠h.nx->h'.c m=h.c m)/\h'.nx=h.nx+1
def N6 (c0:MSp):Prop:=∀ {h:Gh} {x:Str} {Q:WK} {E:XWK},x∈wds->(∀ h',Nw1 h h'->Q (.lst ((BR x).map .str)) h')->c0 [.str x] h Q E
def CN:List (Key×W):=[(.inr "free",.lst []),(.inr "join",.lst [.str "spot",.str "spot"]),(.inr "meet",.lst [.str "line",.str "line"]),(.inr "about",.lst [.str "curve",.str "spot"]),
 (.inr "curve",.lst [.str "spot",.str "spot",.str "spot",.str "spot",.str "spot"]),(.inr "pole",.lst [.str "curve",.str "line"]),(.inr "other",.lst [.str "curve",.str "spot",.str "spot"])]
def RP (hx:x∈wds):qu CN (.inr x)=some (.lst ((BR x).map .str)):=by
 unfold wds at hx;simp only [acA,adL,or_false] at hx;rcases hx with e | e | e | e | e | e | e <;> subst e <;> rfl
def V8:N6 zV:=by
 intro h x Q E hx k;show (match (h.new (.dct [])).c h.nx with
  | some (.dct [])=>_
  | _=>False)
 rw [Gy];show (match (((h.new (.dct [])).set h.nx (.dct (CN.take 4))).c h.nx) with
  | some (.dct kvs)=>_
  | _=>False)
 rw [rO];refine fL.mk (by rw [agX];decide) ?_;show (match ((((h.new (.dct [])).set h.nx (.dct (CN.take 4))).set h.nx (.dct (CN.take 5))).c h.nx) with
  | some (.dct kvs)=>_
  | _=>False)
 rw [rO];refine fL.mk (by rw [agX];decide) ?_;show (match (((((h.new (.dct [])).set h.nx (.dct (CN.take 4))).set h.nx (.dct (CN.take 5))).set h.nx (.dct (CN.take 6))).c h.nx) with
  | some (.dct kvs)=>_
  | _=>False)
 rw [rO];refine fL.mk (by rw [agX];decide) ?_;show (match ((((((h.new (.dct [])).set h.nx (.dct (CN.take 4))).set h.nx (.dct (CN.take 5))).set h.nx (.dct (CN.take 6))).set h.nx (.dct CN)).c h.nx) with
  | some (.dct kvs)=>_
  | _=>False)
 rw [rO];show (match qu CN (.inr x) with
  | some w=>_
  | none=>False)
 rw [RP hx];refine k _ ⟨fun m hm=>?_,rfl⟩;rw [mZ hm,mZ hm,mZ hm,mZ hm,uP hm]
def QF (x:Str):Str:=if x = "join" then "line" else if x = "about" then "line" else if x = "curve" then "curve" else "spot"
def Ca (c0:MSp):Prop:=∀ {h:Gh} {x:Str} {ws:List W} {Q:WK} {E:XWK},x∈wds->Q (.str (QF x)) h->c0 [.tup (.str x::ws)] h Q E
def FT:Ca sG:=by
 intro h x ws Q E hx k;unfold QF at k;have ix:∀ {Q':WK} {h':Gh},Q' (.str x) h'->kIx (.tup (.str x::ws)) (.int 0) h' Q':=fun z=>cH (ws:=.str x::ws) (w:=.str x) rfl (cG (j:=0) rfl) z
 unfold sG;rfl'
 refine ix<|aU<|cI<|dG<|wC (fun e=>?_)<|fun e=>?_
 ·rw [if_pos e] at k;rfl'
  exact k
 ·rw [if_neg e] at k;rfl'
  refine ix<|aU<|cI<|dG<|wC (fun e=>?_)<|fun e=>?_
  ·rw [if_pos e] at k;rfl'
   exact k
  ·rw [if_neg e] at k;rfl'
   unfold qJ;rfl'
   refine ix<|aU<|cI ?_
   by_cases e:x=("curve" : Str)
   ·rw [if_pos e] at k;rw [decide_eq_true e];exact k
   ·rw [if_neg e] at k;rw [decide_eq_false e];exact k
def Row (w:W):Prop:=∃ x ns,x∈wds/\w=.tup (.str x::(ns:List Int).map .int)
def srt:W->Str
 | .tup (.str x::_)=>QF x
 | _ => ""
def Row.sort (r:Row w)(hc:Ca c0)(k:Q (.str (srt w)) h):c0 [w] h Q E:=by
 obtain ⟨x,ns,hx,e⟩:=r;subst e;exact hc hx k
inductive Th (h:Gh):W->Prop
 | int {i:Int}:Th h (.int i)
 | bl {b:Bool}:Th h (.bl b)
 | str {s:Str}:Th h (.str s)
 | non:Th h .non
 | tup {ws:List W}:Th h (.tup ws)
 | lst {ws:List W}:Th h (.lst ws)
 | loc {n:Nat} {ws:List W} (e:h.c n=some (.lst ws)) (l:n<h.nx):Th h (.loc n)
def abW:W->Bool
 | .int _=>true
 | _=>false
def nth (ss:List Str):W->Option Str
 | .int i=>if 0<=i then ss[i.toNat]? else none
 | _=>none
variable {ss : List Str}
def Vt (e:v<0):nth ss (.int v)=none:=by
 show (if 0<=v then ss[v.toNat]? else none)=none;rw [if_neg (by omega)]
def LR (e:0<=v):nth ss (.int v)=ss[v.toNat]?:=by
 show (if 0<=v then ss[v.toNat]? else none)=_;rw [if_pos e]
def N7 (c0:MSp):Prop:=∀ {h:Gh} {b n:Nat} {rws:List W} {s:Str} {Q:WK} {E:XWK},Bag h b->h.c n=some (.lst rws)->b≠n->(∀ r∈rws,Row r)->rws.length<=24->(∃ r∈rws,srt r=s) ->
 (∀ (j:Nat) h',(rws.map srt)[j]?=some s->Bag h' b->Oth b h h'->Q (.int j) h')->c0 [.loc b,.loc n,.str s] h Q E
def Ux {c1:MSp}(hd:pX c0)(hs:Ca c1):N7 (sZ c0 c1):=by
 intro h b n rws s Q E hb hn ne hr hl hex k;have ev:=dz hn;unfold sZ;rfl'
 refine fQ ev<|aq<|CG (m:=rws.length) (by omega)<|yx (by rw [acf];unfold rng;rw [afv];exact Nat.ble_eq.mpr (by omega)) ?_
 refine dF (fun i acc h'=>h'=h/\∃ js:List Nat,acc=js.map (fun j:Nat=>W.int (j:Int))/\js.length<=i/\((∃ k,k<i/\∃ r,rws[k]?=some r/\srt r=s)->js≠[])/\∀ j∈js,(rws.map srt)[j]?=some s) ?_ ?_ ⟨rfl,[],rfl,acj _,fun ⟨_,z,_⟩=>absurd z<|Nat.not_lt_zero _,fun j hj=>absurd hj<|by simp⟩
 ·rintro i w acc h' N hN e ⟨rfl,js,rfl,jl,jn,jo⟩;rw [acu] at e;obtain ⟨x,ex,rfl⟩:=afr.mp e;have e0:=(lV ex).1;have hx:=(lV ex).2;rw [Nat.zero_add] at e0;subst e0;have hri:rws[x]?=some rws[x]:=acn hx;refine ⟨[.int (x:Int)],rfl,?_⟩;refine aN<|aD<|aB<|aj<|aD<|ak rfl<|ak rfl<|cH ev (cG hri)<|aq<|(hr _<|afa hx).sort hs (ak rfl<|cI<|dG ?_)
  by_cases z:srt rws[x]=s
  ·rw [decide_eq_true z];refine bD<|ak rfl<|hN _ _ ⟨rfl,js++[x],by rw [acB];rfl,by rw [acH];exact Nat.succ_le_succ jl,fun _ y=>?_,fun j hj=>?_⟩
   ·exact absurd (congrArg aeS y) (by rw [acH];exact Nat.succ_ne_zero _)
   ·rcases adn.mp hj with hj | hj
    ·exact jo j hj
    ·rw [acT.mp hj,acu,hri,Option.map_some,z]
  ·rw [decide_eq_false z];refine zR<|hN _ _ ⟨rfl,js,rfl,Nat.le_succ_of_le jl,fun ⟨q,hq,r,e1,e2⟩=>jn ⟨q,?_,r,e1,e2⟩,jo⟩
   rcases Nat.lt_or_ge q x with y | y
   ·exact y
   ·have:q=x:=by omega
    subst this;rw [hri] at e1;cases e1;exact absurd e2 z
 ·rintro acc h' ⟨rfl,js,rfl,jl,jn,jo⟩;have hj:js≠[]:=by
   obtain ⟨r,h1,h2⟩:=hex;obtain ⟨q,hq,e⟩:=List.getElem_of_mem h1;refine jn ⟨q,?_,r,by rw [acn hq,e],h2⟩;rw [acf];unfold rng;rw [afv];exact hq
  have hjl:js.length<=24:=by
   rw [acf] at jl;unfold rng at jl;rw [afv] at jl;omega
  have hj0:0<js.length:=List.length_pos_iff.mpr hj;rfl'
  rw [acf];refine hd hb (by omega) (by unfold Sm;omega) fun d h2 d0 d1 hb2 ho=>?_;obtain ⟨dn,rfl⟩:=agd d0;have hdn:dn<js.length:=by omega
  refine cH (ws:=js.map fun j:Nat=>W.int (j:Int)) (w:=.int (js[dn]:Int)) rfl (cG (by rw [acu,acn hdn];rfl)) ?_;exact k _ _ (jo _<|afa hdn) hb2 ho
def Gr (b:Nat)(h h':Gh):Prop:=h.nx<=h'.nx/\∀ m,m<h.nx->m≠b->h'.c m=h.c m
def Gr.trans {b:Nat}{h h1 h2:Gh}(x:Gr b h h1)(y:Gr b h1 h2):Gr b h h2:=⟨acq x.1 y.1,fun m hm ne=>(y.2 m (acp hm x.1) ne).trans (x.2 m hm ne)⟩
def Oth.gr {h1:Gh}(x:Oth b h h1):Gr b h h1:=⟨Nat.le_of_eq x.1.symm,fun m _ ne=>x.2 m ne⟩
def Nw1.gr {h1:Gh}(x:Nw1 h h1):Gr b h h1:=⟨by rw [x.2];exact aeU _,fun m hm _=>x.1 m (acI hm)⟩
def Nw1.bag {h1:Gh}(x:Nw1 h h1)(hb:Bag h b)(hl:b<h.nx):Bag h1 b:=by
 obtain ⟨p,q,e,r⟩:=hb;exact ⟨p,q,(x.1 b<|acI hl).trans e,r⟩
variable {rws : List W}
def Vw {c1:MSp}(hs:Ca c1)(hn:h.c n=some (.lst rws))(hr:∀ r∈rws,Row r)(hl:rws.length<=24)(q:Q (.lst (rws.map fun r=>.str (srt r))) h):
  lcK ow1 [] jR (aJ c1 E (ao (aA 0) aL)) Z Q ⟨rws,some (n,rws)⟩ h:=by
 refine fL.mk (acq hl<|by decide) ?_;refine Rf (fun i acc h'=>h'=h/\acc=(rws.take i).map fun r=>.str<|srt r) ?_ ?_ ?_ ⟨rfl,rfl⟩
 ·rintro i acc h' ⟨rfl,_⟩ P p;exact ⟨hn,p⟩
 ·rintro i w acc h' N hN ew ⟨rfl,rfl⟩;refine ⟨[w],rfl,bG<|bD ?_⟩;refine aB<|aj<|ak rfl<|aq<|(hr w<|acO ew).sort hs (hN _ _ ⟨rfl,?_⟩)
  rw [adl,ew,acB];rfl
 ·rintro acc h' ⟨rfl,rfl⟩;rw [adf];exact q
def abE {y:W}{us:List Str}{a:Str}(e:d7 h y=some (us.map .str))(k:Q (.bl (!decide (a∈us))) h):Bo (.str a) y h Q:=by
 have e1:(plW 20 (.str a)&&(us.map W.str).all (plW 20))=true:=by
  rw [adC];refine ⟨rfl,aec.mpr fun w hw=>?_⟩;obtain ⟨x,_,rfl⟩:=acJ.mp hw;rfl
 have e2:((us.map W.str).any fun u=>eqW u (.str a))=decide (a∈us):=by
  rw [aga,aeF,decide_eq_true_iff];constructor
  ·rintro ⟨w,hw,he⟩;obtain ⟨x,hx,rfl⟩:=acJ.mp hw;rw [wK] at he;rw [<-eq_of_beq he];exact hx
  ·intro ha;exact ⟨.str a,acJ.mpr ⟨a,ha,rfl⟩,by rw [wK];exact beq_self_eq_true a⟩
 unfold Bo;rw [e];show by2 (plW 20 (.str a)&&(us.map W.str).all (plW 20)) _ _;rw [e1,e2];exact k
def aam {us:List Str}(hZ : kY ix Z = [some (.lst (ss.map .str))])(hl:us.length<=24)(q:∀ ls:List Str,(ls=[]->∀ u∈us,u∈ss)->ls.length<=24->Q (.lst (ls.map .str)) h):
  lcK ow1 ix (bN (mOp Bo (aA 0) (aA 1))) (aA 0) Z Q ⟨us.map .str,none⟩ h:=by
 refine fL.mk (by rw [acf];exact acq hl (by decide)) ?_;refine dF (fun i acc h'=>h'=h/\∃ ls:List Str,acc=ls.map .str/\ls.length<=i/\(ls=[]->∀ u∈us.take i,u∈ss)) ?_ ?_ ⟨rfl,[],rfl,acj _,fun _ u hu=>by simp at hu⟩
 ·rintro i w acc h' N hN e ⟨rfl,ls,rfl,ll,lh⟩;rw [acu] at e;obtain ⟨u,eu,rfl⟩:=afr.mp e;refine ⟨[.str u],rfl,?_⟩;rw [hZ];refine aN<|aD<|ak rfl<|ak rfl<|abE (us:=ss) rfl<|dG ?_
  by_cases z:u∈ss
  ·rw [decide_eq_true z];refine zR<|hN _ _ ⟨rfl,ls,rfl,Nat.le_succ_of_le ll,fun e v hv=>?_⟩
   rw [adl,eu] at hv;rcases adn.mp hv with hv | hv
   ·exact lh e v hv
   ·have:v=u:=by simpa using hv
    rw [this];exact z
  ·rw [decide_eq_false z];refine bD<|ak rfl<|hN _ _ ⟨rfl,ls++[u],by rw [acB];rfl,by rw [acH];exact Nat.succ_le_succ ll,fun y=>?_⟩
   exact absurd (congrArg aeS y) (by rw [acH];exact Nat.succ_ne_zero _)
 ·rintro acc h' ⟨rfl,ls,rfl,ll,lh⟩;rw [acf] at ll lh;rw [adf] at lh;exact q ls lh<|acq ll hl
def xH (hx:x∈wds):(BR x).length<=24:=by
 unfold wds at hx;simp only [acA,adL,or_false] at hx;rcases hx with e | e | e | e | e | e | e <;> subst e <;> decide
def Ym {a b:List W}(hz:a.length+b.length<=1000)(x:Q (.lst (a++b)) h):dH (.lst a) (.lst b) h Q:=fL.mk (acq hz (by decide:1000<=acM)) x
def Dp {c1 c2 c3:MSp}(ha:N6 c1)(hp:N7 c3){a2 a3 a4 a6:Option W}{D:bV}(hb:Bag h b)(hn:h.c n=some (.lst rws))(ne:b≠n)(bl:b<h.nx)(nl:n<h.nx)
  (hr:∀ r∈rws,Row r) (hl:rws.length<=24) (hx:x∈wds) (hs:∀ s∈BR x,∃ r∈rws,srt r=s) (k:∀ (ns:List Int) h',(ns.map W.int).map (nth (rws.map srt))=(BR x).map some->Bag h' b->Gr b h h'->D.rt (.tup (.str x::ns.map .int)) h') :
  p7 c0 c1 c2 c3 E D [some (.loc b),some (.loc n),a2,a3,a4,some (.str x),a6] h:=by
 unfold p7;rfl'
 refine ha hx fun h2 n2=>?_;have hn2:h2.c n=some (.lst rws):=(n2.1 n (acI nl)).trans hn;have hb2:Bag h2 b:=n2.bag hb bl;have g2:Gr b h h2:=n2.gr;rfl'
 refine fL.mk (by rw [acf];exact acq (xH hx) (by decide)) ?_;refine dF (fun i acc h'=>Bag h' b/\Oth b h2 h'/\∃ ns:List Int,acc=ns.map .int/\ns.length=i/\(ns.map W.int).map (nth<|rws.map srt)=((BR x).take i).map some) ?_ ?_ ⟨hb2,⟨rfl,fun _ _=>rfl⟩,[],rfl,rfl,rfl⟩
 ·rintro i w acc h' N hN e ⟨hb',o',ns,rfl,el,em⟩;rw [acu] at e;obtain ⟨u,eu,rfl⟩:=afr.mp e;refine ⟨[.str u],rfl,bG<|bD<|aB<|aj<|ak rfl<|aj<|ak rfl<|aj<|ak rfl<|aq ?_ ⟩;refine hp hb' ((o'.2 n<|aes ne).trans hn2) ne hr hl (hs u<|acO eu) fun j h3 jo hb3 o3=>?_;exact hN _ _ ⟨hb3,⟨o3.1.trans o'.1,fun m hm=>(o3.2 m hm).trans (o'.2 m hm)⟩,ns++[(j:Int)],by rw [acB];rfl,by rw [acH,el];rfl,by rw [acB,acB,em,adl,eu,acB];show _++[nth _ _]=_;rw [LR<|Int.natCast_nonneg _,afI,jo];rfl⟩
 ·rintro acc h' ⟨hb',o',ns,rfl,el,em⟩;have ahX:ns.length<=24:=by rw [el,acf];exact xH hx
  rfl'
  refine Ym (by rw [acf];show 1+ns.length<=1000;omega) ?_;exact k ns h' (by rw [em,acf,adf]) hb'<|g2.trans o'.gr
def ok1 (ss:List Str):W->Bool
 | .tup (.str x::ns)=>decide (x∈wds)&&decide (ns.map (nth ss)=(BR x).map some)
 | _=>false
def aaN:W->Bool
 | .tup (.str x::_)=>decide (x = "free")
 | _=>false
def Qy {ns:List W}(hx:x∈wds)(e:ns.map (nth ss)=(BR x).map some):ok1 ss (.tup (.str x::ns))=true:=by
 show (decide (x∈wds)&&decide (ns.map (nth ss)=(BR x).map some))=true;rw [decide_eq_true hx,decide_eq_true e];rfl
def RT:List Str:=["join", "meet", "curve", "about", "pole", "other", "join", "meet", "join", "meet"]
def Qf:∀ i:Fin RT.length,RT[i]∈wds:=by decide +kernel
def aaB (c0:MSp):Prop:=∀ {h:Gh} {b n:Nat} {rws:List W} {fr:Int} {Q:WK} {E:XWK},Bag h b->h.c n=some (.lst rws)->b≠n->b<h.nx->n<h.nx->(∀ r∈rws,Row r)->rws.length<=23 ->
 ((rws.length:Int)<fr\/∃ r∈rws,srt r = "spot")->(∀ r h',Row r->((rws.length:Int)<fr->srt r = "spot")->ok1 (rws.map srt) r=true->aaN r=decide ((rws.length:Int)<fr)->Bag h' b->Gr b h h'->Q r h')->c0 [.loc b,.loc n,.int fr] h Q E
def YK {c1 c2 c3:MSp}(hd:pX c0)(ha:N6 c1)(hs:Ca c2)(hp:N7 c3):aaB (xO c0 c1 c2 c3):=by
 intro h b n rws fr Q E hb hn ne bl nl hr hl hsp k;unfold xO;rfl'
 refine Vw hs hn hr (by omega) ?_;rfl'
 refine hd hb (by decide) (by unfold Sm;decide) fun d h1 d0 d1 hb1 o1=>?_;obtain ⟨dn,rfl⟩:=agd d0;have hdn:dn<RT.length:=by show dn<10;omega
 have hx:RT[dn]∈wds:=Qf ⟨dn,hdn⟩;have nf:("free" : Str)∉RT:=by decide
 generalize ew:RT[dn]=x at hx;have g1:Gr b h h1:=o1.gr;have hn1:h1.c n=some (.lst rws):=(o1.2 n (aes ne)).trans hn;rfl'
 refine cH (ws:=RT.map W.str) (w:=.str x) rfl (cG (by rw [acu,acn hdn,ew];rfl)) ?_;rfl'
 refine ha hx fun h2 n2=>?_;have nl1:n<h1.nx:=acp nl g1.1;have bl1:b<h1.nx:=acp bl g1.1;have hn2:h2.c n=some (.lst rws):=(n2.1 n (acI nl1)).trans hn1;have hb2:Bag h2 b:=n2.bag hb1 bl1;have g2:Gr b h h2:=g1.trans n2.gr;have v2:=dz hn2;rfl'
 refine aam (ss:=rws.map srt) (by rw [adb];rfl) (xH hx) fun ls lh ll=>?_;have nl2:n<h2.nx:=acp nl g2.1;have bl2:b<h2.nx:=acp bl g2.1;rfl'
 refine fQ v2 ?_;rfl'
 refine wC (fun e=>?_)<|fun e=>?_
 ·rfl'
  refine fQ v2 ?_;rfl'
  rw [decide_eq_true e];refine Dp (c0:=c0) (c2:=c2) (x := "free") ha hp hb2 hn2 ne bl2 nl2 hr (by omega) (by decide) (fun s hs=>absurd (show s∈([]:List Str) from hs)<|by simp) fun ns h3 eo hb3 g3=>?_;exact k _ _ ⟨"free",ns,by decide,rfl⟩ (fun _=>rfl) (Qy (by decide) eo) (by rw [decide_eq_true e];rfl) hb3<|g2.trans g3
 ·rfl'
  refine wC (fun e'=>?_)<|fun e'=>?_
  ·rfl'
   refine fQ v2 ?_;rfl'
   rw [decide_eq_false e];refine Dp (c0:=c0) (c2:=c2) (x := "join") ha hp hb2 hn2 ne bl2 nl2 hr (by omega) (by decide) (fun s hs=>?_) fun ns h3 eo hb3 g3=>?_
   ·have es:s = "spot":=by
     have h0:s∈(["spot", "spot"]:List Str):=hs
     simpa using h0
    rw [es];exact hsp.resolve_left e
   ·exact k _ _ ⟨"join",ns,by decide,rfl⟩ (fun z=>absurd z e) (Qy (by decide) eo) (by rw [decide_eq_false e];rfl) hb3<|g2.trans g3
  ·have el:ls=[]:=by
    rw [acf] at e';exact List.length_eq_zero_iff.mp<|by omega
   refine Dp (c0:=c0) (c2:=c2) (x:=x) ha hp hb2 hn2 ne bl2 nl2 hr (by omega) hx (fun s hs=>?_) fun ns h3 eo hb3 g3=>?_
   ·obtain ⟨r,h1,h2⟩:=acJ.mp (lh el s hs);exact ⟨r,h1,h2⟩
   ·exact k _ _ ⟨x,ns,hx,rfl⟩ (fun z=>absurd z e) (Qy hx eo) (by rw [decide_eq_false e];exact decide_eq_false (fun z=>nf<|z ▸ ew ▸ afa hdn)) hb3<|g2.trans g3
def RK (c0:MSp):Prop:=∀ {h:Gh} {a:Int} {Q:WK} {E:XWK},(∀ h',Bag h' h.nx->h'.nx=h.nx+1->(∀ m,m≠h.nx->h'.c m=h.c m)->Q (.loc h.nx) h')->c0 [.int a] h Q E
def Yl:RK Hq:=by
 intro h a Q E k;refine And.intro ⟨by decide,by decide,by decide⟩ ?_;refine And.intro (.inr<|.inr ?_) ?_
 ·have g:∀ b:Bool,Sm 64 (if b=true then (1:Int) else 0):=fun b=>by
   cases b
   ·exact Sm.zero
   ·exact .lit rfl
  exact g _
 refine And.intro (show (2147483647:Int)≠0 by decide) ?_;refine k _ ⟨_,_,Gy _ _,?_,?_⟩ rfl fun m hm=>uP hm
 ·rw [dW (by decide)];exact afm _ (by decide)
 ·rw [dW (by decide)];exact aeG _ (by decide)
def oN {a:List Int}:mq (a.map .int) (a.map .int)=true:=by
 induction a with
 | nil=>rfl
 | cons x a ih=>
  show (eqW (.int x) (.int x)&&mq (a.map .int) (a.map .int))=true;rw [ih,jM,beq_self_eq_true];rfl
def Xh {r:W}(hr:Row r):eqW r r=true:=by
 obtain ⟨x,ns,_,rfl⟩:=hr;show (eqW (.str x) (.str x)&&mq (ns.map .int) (ns.map .int))=true;rw [oN,wK,beq_self_eq_true];rfl
def Xm {r:W}(hr:Row r):plW (n+2) r=true:=by
 obtain ⟨x,ns,_,rfl⟩:=hr;show ((W.str x::ns.map .int).all (plW (n+1)))=true;rw [afn,adC];refine ⟨rfl,aec.mpr fun w hw=>?_⟩;obtain ⟨y,_,rfl⟩:=acJ.mp hw;rfl
theorem Im:∀ {rws:List W},(∀ r∈rws,Row r)->mq rws rws=true
 | [],_=>rfl
 | r::rws,h=>by
  show (eqW r r&&mq rws rws)=true;rw [Xh (h r acF),Im fun r hr=>h r (acr _ hr)];rfl
def Nq {i:Int}(x:Q (.int (if j>i then j else i)) h):VL [.int i,.int j] h Q:=x
def M9 {us:List W}(e:h.c n=some (.lst us))(k:Q (.lst us) h):vg [.loc n] h Q:=by
 show (match view h (.loc n) with
  | some us=>Q (.lst us) h
  | none=>False)
 rw [dz e];exact k
def Th7 (L n:Nat)(s:Str)(w:W):Prop:=∃ T:List (List Tm),w=tW T/\T.length=Cj s/\∀ us∈T,Mb L 40 1 n us
def Sh (L n:Nat)(rws thg:List W):Prop:=rws.length=thg.length/\∀ (j:Nat) (s:Str),(rws.map srt)[j]?=some s->∃ w,thg[j]?=some w/\Th7 L n s w
theorem FJ {L b p n:Nat}:∀ {T:List (List Tm)},(∀ us∈T,Mb L b p n us)->EL L b p n (T.map fun us xs=>lin (fun q=>mo q xs L) us) T
 | [],_=>.nil
 | us::T,h=>.cons ⟨h us acF,fun _=>rfl⟩ (FJ fun u hu=>h u (acr _ hu))
def Th7.sp {s:Str}(h:Th7 L n s w)(ne:s ≠ "curve"):∃ (f g k:Fn) (x y z:List Tm),w=tW [x,y,z]/\Sp L n f g k x y z:=by
 obtain ⟨T,rfl,lT,mT⟩:=h;unfold Cj at lT;rw [if_neg ne] at lT;have e:=FJ mT;match T,lT,e with
 | [x,y,z],_,e=>
  obtain ⟨a,b,c,q,r⟩:=e.e3;cases q;exact ⟨_,_,_,_,_,_,rfl,r⟩
def Th7.cv (h:Th7 L n "curve" w):∃ (f0 f1 f2 f3 f4 f5:Fn) (x0 x1 x2 x3 x4 x5:List Tm),w=tW [x0,x1,x2,x3,x4,x5]/\Cv L n f0 f1 f2 f3 f4 f5 x0 x1 x2 x3 x4 x5:=by
 obtain ⟨T,rfl,lT,mT⟩:=h;have e:=FJ mT;match T,lT,e with
 | [x0,x1,x2,x3,x4,x5],_,e=>exact ⟨_,_,_,_,_,_,_,_,_,_,_,_,rfl,e⟩
variable {thg : List W}
def Hj {r:W}(f:Sh L n rws thg)(t:Th7 L n (srt r) w):Sh L n (rws++[r]) (thg++[w]):=by
 refine ⟨by rw [acH,acH,f.1];rfl,fun j s e=>?_⟩;rw [acB] at e;by_cases hj:j<rws.length
 ·rw [acX (by rw [acf];exact hj)] at e;obtain ⟨u,eu,tu⟩:=f.2 j s e;exact ⟨u,by rw [acX (by rw [<-f.1];exact hj)];exact eu,tu⟩
 ·rw [acU (by rw [acf];omega),acf] at e;have hj':j - rws.length=0:=by
   have:=(acD.mp e).1
   have h2:j - rws.length<1:=this;omega
  rw [hj'] at e;cases e;refine ⟨w,?_,t⟩;rw [acU (by rw [<-f.1];omega),<-f.1,hj'];rfl
def Rt (ss:List Str)(r:W):Prop:=∃ (x:Str) (js:List Nat),r=.tup (.str x::js.map fun j:Nat=>W.int (j:Int))/\x∈wds/\x ≠ "free"/\js.map (fun j=>ss[j]?)=(BR x).map some
def Rt.app {tt:List Str}{r:W}(h:Rt ss r):Rt (ss++tt) r:=by
 obtain ⟨x,js,e,hx,hf,em⟩:=h;refine ⟨x,js,e,hx,hf,?_⟩;rw [<-em];refine aeR fun j hj=>?_;have:ss[j]?∈(BR x).map some:=em ▸ acJ.mpr ⟨j,hj,rfl⟩
 obtain ⟨s,_,es⟩:=acJ.mp this;rw [<-es];rw [acX (acD.mp es.symm).1];exact es.symm
theorem Nb {ss:List Str}:∀ {ns:List Int} {ls:List Str},(ns.map W.int).map (nth ss)=ls.map some->∃ js:List Nat,ns.map W.int=js.map (fun j:Nat=>W.int (j:Int))/\js.map (fun j=>ss[j]?)=ls.map some
 | [],ls,e=>⟨[],rfl,e⟩
 | v::ns,[],e=>by cases e
 | v::ns,s::ls,e=>by
  obtain ⟨js,e1,e2⟩:=Nb (ns:=ns) (ls:=ls) (congrArg List.tail e);have e0:nth ss (.int v)=some s:=acv (congrArg (fun l=>l[0]?) e);have hv:0<=v:=Int.not_lt.mp fun z=>by rw [Vt z] at e0;cases e0
  rw [LR hv] at e0;refine ⟨v.toNat::js,?_,?_⟩
  ·rw [acg,acg,e1,Int.toNat_of_nonneg hv]
  ·rw [acg,acg,e0,e2]
def Yt {r:W}(rr:Row r)(h:ok1 ss r=true)(f:aaN r=false):Rt ss r:=by
 obtain ⟨x,ns,hx,rfl⟩:=rr;have h2:(decide (x∈wds)&&decide ((ns.map W.int).map (nth ss)=(BR x).map some))=true:=h;rw [adC,decide_eq_true_iff,decide_eq_true_iff] at h2;obtain ⟨js,e1,e2⟩:=Nb h2.2;exact ⟨x,js,by rw [e1],hx,of_decide_eq_false f,e2⟩
variable {js : List Nat}
def qQ {a:Str}(h:js.map (fun j=>ss[j]?)=[a].map some):∃ i,js=[i]/\ss[i]?=some a:=by
 cases js with
 | nil=>cases h
 | cons i js=>
  cases js with
  | nil=>exact ⟨i,rfl,acv (congrArg (fun l=>l[0]?) h)⟩
  | cons j js=>exact absurd (congrArg aeS h) (by simp)
def jx {a:Str}{ls:List Str}(h:js.map (fun j=>ss[j]?)=(a::ls).map some):∃ i is,js=i::is/\ss[i]?=some a/\is.map (fun j=>ss[j]?)=ls.map some:=by
 cases js with
 | nil=>cases h
 | cons i js=>exact ⟨i,js,rfl,acv (congrArg (fun l=>l[0]?) h),congrArg List.tail h⟩
def ZC (f:Sh L n rws thg)(hx:x∈wds)(hf:x ≠ "free")(em:js.map (fun j=>(rws.map srt)[j]?)=(BR x).map some):∃ (ws:List (List (List Tm))) (fs:List Fn),js.map (fun j=>thg[j]?)=ws.map (fun T=>some (tW T))/\Rw L n x ws fs/\fs.length=Cj x:=by
 have sp:∀ {i:Nat} {s:Str},(rws.map srt)[i]?=some s->s ≠ "curve"->∃ (f g k:Fn) (x y z:List Tm),thg[i]?=some (tW [x,y,z])/\Sp L n f g k x y z:=fun e ne=>by
  obtain ⟨w,ew,t⟩:=f.2 _ _ e;obtain ⟨f,g,k,x,y,z,rfl,h⟩:=t.sp ne;exact ⟨f,g,k,x,y,z,ew,h⟩
 have cv:∀ {i:Nat},(rws.map srt)[i]?=some "curve"->∃ (f0 f1 f2 f3 f4 f5:Fn) (x0 x1 x2 x3 x4 x5:List Tm),thg[i]?=some (tW [x0,x1,x2,x3,x4,x5])/\Cv L n f0 f1 f2 f3 f4 f5 x0 x1 x2 x3 x4 x5:=fun e=>by
  obtain ⟨w,ew,t⟩:=f.2 _ _ e;obtain ⟨f0,f1,f2,f3,f4,f5,x0,x1,x2,x3,x4,x5,rfl,h⟩:=t.cv;exact ⟨f0,f1,f2,f3,f4,f5,x0,x1,x2,x3,x4,x5,ew,h⟩
 unfold wds at hx;simp only [acA,adL,or_false] at hx;rcases hx with e | e | e | e | e | e | e
 ·exact absurd e hf
 all_goals subst e
 ·obtain ⟨i,_,rfl,h1,em⟩:=jx (a := "spot") (ls:=["spot"]) em;obtain ⟨j,rfl,h2⟩:=qQ em;obtain ⟨_,_,_,_,_,_,e1,s1⟩:=sp h1 (by decide);obtain ⟨_,_,_,_,_,_,e2,s2⟩:=sp h2 (by decide);exact ⟨_,_,by simp only [acg,adA,e1,e2],.join (.inl rfl) s1 s2,rfl⟩
 ·obtain ⟨i,_,rfl,h1,em⟩:=jx (a := "line") (ls:=["line"]) em;obtain ⟨j,rfl,h2⟩:=qQ em;obtain ⟨_,_,_,_,_,_,e1,s1⟩:=sp h1 (by decide);obtain ⟨_,_,_,_,_,_,e2,s2⟩:=sp h2 (by decide);exact ⟨_,_,by simp only [acg,adA,e1,e2],.join (.inr rfl) s1 s2,rfl⟩
 ·obtain ⟨i,_,rfl,h1,em⟩:=jx (a := "spot") (ls:=["spot", "spot", "spot", "spot"]) em;obtain ⟨i2,_,rfl,h2,em⟩:=jx (a := "spot") (ls:=["spot", "spot", "spot"]) em;obtain ⟨i3,_,rfl,h3,em⟩:=jx (a := "spot") (ls:=["spot", "spot"]) em;obtain ⟨i4,_,rfl,h4,em⟩:=jx (a := "spot") (ls:=["spot"]) em;obtain ⟨i5,rfl,h5⟩:=qQ em;obtain ⟨_,_,_,_,_,_,e1,s1⟩:=sp h1 (by decide);obtain ⟨_,_,_,_,_,_,e2,s2⟩:=sp h2 (by decide);obtain ⟨_,_,_,_,_,_,e3,s3⟩:=sp h3 (by decide);obtain ⟨_,_,_,_,_,_,e4,s4⟩:=sp h4 (by decide);obtain ⟨_,_,_,_,_,_,e5,s5⟩:=sp h5 (by decide);exact ⟨_,_,by simp only [acg,adA,e1,e2,e3,e4,e5],.curve s1 s2 s3 s4 s5,rfl⟩
 ·obtain ⟨i,_,rfl,h1,em⟩:=jx (a := "curve") (ls:=["spot"]) em;obtain ⟨j,rfl,h2⟩:=qQ em;obtain ⟨_,_,_,_,_,_,_,_,_,_,_,_,e1,s1⟩:=cv h1;obtain ⟨_,_,_,_,_,_,e2,s2⟩:=sp h2 (by decide);exact ⟨_,_,by simp only [acg,adA,e1,e2],.about s1 s2,rfl⟩
 ·obtain ⟨i,_,rfl,h1,em⟩:=jx (a := "curve") (ls:=["line"]) em;obtain ⟨j,rfl,h2⟩:=qQ em;obtain ⟨_,_,_,_,_,_,_,_,_,_,_,_,e1,s1⟩:=cv h1;obtain ⟨_,_,_,_,_,_,e2,s2⟩:=sp h2 (by decide);exact ⟨_,_,by simp only [acg,adA,e1,e2],.pole s1 s2,rfl⟩
 ·obtain ⟨i,_,rfl,h1,em⟩:=jx (a := "curve") (ls:=["spot", "spot"]) em;obtain ⟨i2,_,rfl,h2,em⟩:=jx (a := "spot") (ls:=["spot"]) em;obtain ⟨j,rfl,h3⟩:=qQ em;obtain ⟨_,_,_,_,_,_,_,_,_,_,_,_,e1,s1⟩:=cv h1;obtain ⟨_,_,_,_,_,_,e2,s2⟩:=sp h2 (by decide);obtain ⟨_,_,_,_,_,_,e3,s3⟩:=sp h3 (by decide);exact ⟨_,_,by simp only [acg,adA,e1,e2,e3],.other s1 s2 s3,rfl⟩
def aak (hd:pX dr)(hL:L<=8)(hZ : kY [3,8] Z = [some (.int (L:Int)),some (.loc b)])(hb:Bag h b)
  (q:∀ (xss:List (List Int)) h',xss.length=3->(∀ xs∈xss,xs.length=L/\Bd xs)->Oth b h h'->Q (.lst (xss.map fun xs=>.tup (xs.map .int))) h') :
  mLC ow1 [3,8] (iH (ao (mC (.int 3)) aL)) jR (mCB cC (ao (mLC ow1 [2] (iH (ao (aA 1) aL)) jR (mOp yu (aJ dr E (ao (aA 1) (ao (mC (.int 7)) aL))) (mC (.int 3)))) aL)) Z h Q:=by
 refine gj<|lW<|aj<|aU<|aq<|CG (m:=3) (by decide)<|fL.mk (acq (m:=1000) (by rw [sE];decide)<|by decide) ?_
 refine dF (fun i acc g=>Bag g b/\Oth b h g/\∃ xss:List (List Int),acc=xss.map (fun xs=>.tup<|xs.map .int)/\xss.length=i/\∀ xs∈xss,xs.length=L/\Bd xs) ?_ ?_ ⟨hb,⟨rfl,fun _ _=>rfl⟩,[],rfl,rfl,fun _ z=>nomatch z⟩
 ·rintro i w acc g N hN e ⟨hg,og,xss,rfl,lx,ox⟩;refine ⟨[w],rfl,bG<|bD ?_⟩;rw [hZ];refine bK<|aj<|gj<|lW<|aj<|ak rfl<|aq<|CG (m:=L) (by omega)<|fL.mk (acq (m:=1000) (by rw [sE];omega)<|by decide) ?_
  refine dF (fun j acc g2=>Bag g2 b/\Oth b h g2/\∃ xs:List Int,acc=xs.map .int/\xs.length=j/\Bd xs) ?_ ?_ ⟨hg,og,[],rfl,rfl,fun _ z=>nomatch z⟩
  ·rintro j w' acc g2 N2 hN2 e2 ⟨hg2,og2,xs,rfl,lx2,bx⟩;refine ⟨[w'],rfl,bG<|bD<|aD<|aB<|aj<|ak rfl<|aj<|aU<|aq ?_⟩;refine hd hg2 (by decide) (by unfold Sm;decide) fun d g3 d0 d1 hb3 o3=>aU<|fC<|hN2 _ _ ⟨hb3,⟨o3.1.trans og2.1,fun m hm=>(o3.2 m hm).trans (og2.2 m hm)⟩,xs++[d - 3],by rw [acB];rfl,by simp [lx2],?_⟩
   intro x hx;rcases adn.mp hx with hx | hx
   ·exact bx x hx
   ·rw [acT.mp hx];unfold Sm;refine aeD (m:=7) (by omega)<|by decide
  ·rintro acc g2 ⟨hg2,og2,xs,rfl,lx2,bx⟩;rw [sE] at lx2;refine aq<|bW<|hN _ _ ⟨hg2,og2,xss++[xs],by rw [acB];rfl,by simp [lx],fun ys hy=>?_⟩
   rcases adn.mp hy with hy | hy
   ·exact ox ys hy
   ·rw [acT.mp hy];exact ⟨lx2,bx⟩
 ·rintro acc g ⟨hg,og,xss,rfl,lx,ox⟩;rw [sE] at lx;exact q xss g lx ox og
def aaA {la:MSp}(hla:AtX la)(hL:L<=8)(hT:T.length<=6)(hm:∀ us∈T,∀ t∈us,t.1.length=L/\Sm 1000 t.2/\Pw t.1)(hx:xs.length=L)(bx:Bd xs)(hZ : kY ix Z = [some (.tup (xs.map .int))])(q:Q (.lst (T.map fun us=>.int (lin (fun q=>mo q xs L) us))) h):
  lcK ow1 ix jR (aJ la E (ao (aA 0) (ao (aA 1) aL))) Z Q ⟨T.map smW,none⟩ h:=by
 refine fL.mk (acq (m:=1000) (by rw [acf];omega)<|by decide) ?_;refine dF (fun i acc g=>g=h/\acc=(T.take i).map fun us=>.int<|lin (fun q=>mo q xs L) us) ?_ ?_ ⟨rfl,rfl⟩
 ·rintro i w acc g N hN e ⟨rfl,rfl⟩;rw [acu] at e;cases qe:T[i]? with
  | none=>rw [qe] at e;cases e
  | some us=>
   rw [qe] at e;cases e;refine ⟨[smW us],rfl,bG<|bD ?_⟩;rw [hZ];refine aB<|aj<|ak rfl<|aj<|ak rfl<|aq<|hla hL (hm us<|acO qe) hx bx<|hN _ _ ⟨rfl,?_⟩
   rw [adl,qe,acB,Vm];rfl
 ·rintro acc g ⟨rfl,rfl⟩;rw [acf,adf];exact q
def Mb.at (h:Mb L b p n us)(hb:b<=1000)(hp:p<=40):∀ t∈us,t.1.length=L/\Sm 1000 t.2/\Pw t.1:=fun t ht=>by
 obtain ⟨a,_,c,d⟩:=h.2.2 t ht;exact ⟨a,c.mono hb,fun q hq=>by have:=d q hq;omega⟩
def EL.mb (e:EL L b p n fs T):∀ us∈T,Mb L b p n us:=fun us hu=>by
 obtain ⟨i,hi,ei⟩:=List.getElem_of_mem hu;obtain ⟨f,_,ev⟩:=e.at (i:=i) (us:=us) (by rw [acn hi,ei]);exact ev.1
def EL.val (e:EL L b p n fs T)(xs:List Int):(T.map fun us=>W.int (lin (fun q=>mo q xs L) us))=fs.map fun f=>.int (f xs):=by
 induction e with
 | nil=>rfl
 | cons a _ ih=>rw [acg,acg,ih,a.2]
def ZF:plW (n+5) (tW T)=true:=by
 have g:∀ us:List Tm,plW (n+4) (smW us)=true:=fun us=>by
  show ((us.map tmW).all (plW (n+3)))=true;refine aec.mpr fun w hw=>?_;obtain ⟨t,_,rfl⟩:=acJ.mp hw;show (([.tup (t.1.map .int),.int t.2]:List W).all (plW (n+2)))=true;rw [afn,afn,List.all_nil,adC];refine ⟨?_,rfl⟩;show ((t.1.map W.int).all (plW (n+1)))=true;refine aec.mpr fun w hw=>?_;obtain ⟨y,_,rfl⟩:=acJ.mp hw;rfl
 show ((T.map smW).all (plW (n+4)))=true;refine aec.mpr fun w hw=>?_;obtain ⟨us,_,rfl⟩:=acJ.mp hw;exact g us
def lB (h:∀ w∈ws,eqW w w=true):mq ws ws=true:=by
 induction ws with
 | nil=>rfl
 | cons w ws ih=>
  show (eqW w w&&mq ws ws)=true;rw [h w acF,ih fun u hu=>h u (acr _ hu)];rfl
def Z5:eqW (tW T) (tW T)=true:=by
 refine lB fun w hw=>?_;obtain ⟨us,_,rfl⟩:=acJ.mp hw;refine lB fun w hw=>?_;obtain ⟨t,_,rfl⟩:=acJ.mp hw;refine lB fun w hw=>?_;rw [acA,acT] at hw;rcases hw with rfl | rfl
 ·exact oN
 ·rw [jM,beq_self_eq_true]
def GF {t:Nat}(e1:h.c n=some (.lst rws))(e2:h.c t=some (.lst thg))(hr:∀ r∈rws,Row r)(ht:∀ w∈thg,∃ T,w=tW T)(k:Q (.bl false) h):VR (.lst [.lst rws,.lst thg]) (.lst [.loc n,.loc t]) h Q:=by
 have d1:CP h (.loc n)=some (.lst rws):=by
  show (match h.c n with
   | some (.lst ws)=>some (W.lst ws)
   | _=>none)=_
  rw [e1]
 have d2:CP h (.loc t)=some (.lst thg):=by
  show (match h.c t with
   | some (.lst ws)=>some (W.lst ws)
   | _=>none)=_
  rw [e2]
 have da:sX h (.lst [.loc n,.loc t])=some (.lst [.lst rws,.lst thg]):=by
  unfold sX;dsimp only;rw [nJ,nJ,nJ,d1,d2]
 have p1:plW 29 (.lst rws)=true:=by
  show (rws.all (plW 28))=true;exact aec.mpr fun r hr'=>Xm<|hr r hr'
 have p2:plW 29 (.lst thg)=true:=by
  show (thg.all (plW 28))=true;exact aec.mpr fun w hw=>by
   obtain ⟨T,rfl⟩:=ht w hw;exact ZF
 have p:plW 30 (.lst [.lst rws,.lst thg])=true:=by
  show (([W.lst rws,W.lst thg]:List W).all (plW 29))=true;rw [afn,afn,List.all_nil,p1,p2];rfl
 unfold VR;rw [da];show by2 (plW 30 (.lst [.lst rws,.lst thg])&&plW 30 (.lst [.lst rws,.lst thg])) (Q (.bl (!(mq rws rws&&(mq thg thg&&true)))) h) False;rw [p,Im hr,lB fun w hw=>by obtain ⟨T,rfl⟩:=ht w hw;exact Z5];exact k
def Jx (f:Sh L n rws thg):∀ w∈thg,∃ T,w=tW T:=by
 intro w hw;obtain ⟨j,hj,e⟩:=List.getElem_of_mem hw;have hj':j<rws.length:=by rw [f.1];exact hj
 obtain ⟨u,eu,T,tu,_⟩:=f.2 j (srt rws[j]) (by rw [acu,acn hj'];rfl);rw [acn hj,e] at eu;cases eu;exact ⟨T,tu⟩
def Jf (k:Q (.bl false) h):kNe (.tup (ns.map .int)) (.tup (ns.map .int)) h Q:=by
 have p:plW 30 (.tup (ns.map .int))=true:=by
  show ((ns.map W.int).all (plW 29))=true;refine aec.mpr fun w hw=>?_;obtain ⟨y,_,rfl⟩:=acJ.mp hw;rfl
 unfold kNe;show by2 (plW 30 (.tup (ns.map .int))&&plW 30 (.tup (ns.map .int))) (Q (.bl (!(mq (ns.map .int) (ns.map .int)))) h) False;rw [p,oN];exact k
def Kg {us:List W}(x:Q (.tup us) h):cC [.tup us] h Q:=x
def Oi {la du:MSp}(hla:AtX la)(hdu:Xy du){k:Nat}{ws:List (List (List Tm))}{R:List (List Tm)}{xss:List (List Int)}{nn t:Nat}{a0 a1 a2 a3 a4 a8 a10 a12 a13 a14:Option W}{D:bV}
  (hn:h.c nn=some (.lst rws)) (ht:h.c t=some (.lst thg)) (hL:L<=8) (cl:Cl L n) (rw':Rw L n x ws fs) (ek:rws[k]?=some (.tup (.str x::js.map fun j:Nat=>W.int (j:Int)))) (et:js.map (fun j=>thg[j]?)=ws.map (fun T=>some (tW T))) (mT:∀ T∈ws,T.length<=6/\∀ us∈T,Mb L 40 1 n us) (eR:EL L 1000 40 600 fs R) (lR:R.length<=6) (lw:ws.length<=5) (ox:∀ xs∈xss,xs.length=L/\Bd xs)
  (q:∀ a13 a14,D.nx [a0,a1,a2,a3,a4,some (.loc nn),some (.loc t),some (.int (k:Int)),a8,some (.lst (xss.map fun xs=>.tup (xs.map .int))),a10,some (tW R),a12,a13,a14] h) :
  (oX (nIt (aA 9)) (nName 13) (bA (bL (mLC ow1 [6,13] (nIt (mSl Uy (mOp kIx (aA 5) (aA 7)) (Gg (mC (.int 1))) pY)) jR (mCB cC (ao (mLC ow1 [2] (nIt (mOp kIx (aA 1) (aA 0))) jR (aJ la E (ao (aA 0) (ao (aA 1) aL)))) aL))) (nName 14))
  (lE (bN (mOp kNe (mCB cC (ao (mLC ow1 [13] (nIt (aA 11)) jR (aJ la E (ao (aA 0) (ao (aA 1) aL)))) aL)) (mCB cC (ao (aJ du E (ao (mOp kIx (mOp kIx (aA 5) (aA 7)) (mC (.int 0))) (ao (aA 14) aL))) aL)))) (cJ (mC (.bl false))) dD))) D [a0,a1,a2,a3,a4,some (.loc nn),some (.loc t),some (.int (k:Int)),a8,some (.lst (xss.map fun xs=>.tup (xs.map .int))),a10,some (tW R),a12,a13,a14] h:=by
 have lj:js.length=ws.length:=by have:=congrArg aeS et;simpa using this
 refine iw<|gw<|ak rfl<|qz (ws:=xss.map fun xs=>.tup<|xs.map .int) (o:=none) rfl<|iB ?_
 refine cZ (fun i Z g=>g=h/\∃ a13 a14,Z = [a0,a1,a2,a3,a4,some<|.loc nn,some<|.loc t,some<|.int (k:Int),a8,some<|.lst<|xss.map fun xs=>.tup<|xs.map .int,a10,some<|tW R,a12,a13,a14]) ?_ ?_ ⟨rfl,a13,a14,rfl⟩
 ·rintro i w Z g N hN e ⟨rfl,a13,a14,rfl⟩;rw [acu] at e;cases qe:xss[i]? with
  | none=>rw [qe] at e;cases e
  | some xs=>
   rw [qe] at e;cases e;obtain ⟨lx,bx⟩:=ox xs (acO qe);refine nV ?_;refine aH<|aP ?_
   refine gj<|gw<|R9<|aD<|ak rfl<|ak rfl<|cH (dz hn) (cG ek)<|xX<|aU<|Y6<|wk ?_
   refine aaw (aaS _ _)<|qz (ws:=js.map fun j:Nat=>W.int (j:Int)) (o:=none) rfl<|fL.mk (acq (m:=1000) (by rw [acf];omega)<|by decide) ?_
   refine dF (fun i acc g'=>g'=g/\acc=(ws.take i).map (vW xs L)) ?_ ?_ ⟨rfl,rfl⟩
   ·rintro i2 w acc g' N2 hN2 e2 ⟨rfl,rfl⟩;rw [acu] at e2;cases qj:js[i2]? with
    | none=>rw [qj] at e2;cases e2
    | some j=>
     rw [qj] at e2;cases e2;have hi:=(acD.mp qj).1;have qw:ws[i2]?=some (ws[i2]'(by omega)):=acn _;have e3:=congrArg (·[i2]?) et;simp only [acu,qj,qw,Option.map_some] at e3;obtain ⟨l6,mb⟩:=mT _ (acO qw);refine ⟨[.int (j:Int)],rfl,bG<|bD<|bK<|aj<|gj<|gw<|aD<|ak rfl<|ak rfl<|cH (dz ht) (cG<|acv e3)<|qz (ws:=(ws[i2]'(by omega)).map smW) (o:=none) rfl ?_ ⟩;refine aaA hla hL l6 (fun us hu=>(mb us hu).at (by decide) (by decide)) lx bx rfl<|aq<|bW<|hN2 _ _ ⟨rfl,?_⟩
     rw [adl,qw,acB];rfl
   ·rintro acc g' ⟨rfl,rfl⟩;rw [acf,lj,adf];refine nV<|bw ?_
    refine aZ<|aN<|aD<|bK<|aj<|gj<|gw<|ak rfl<|qz (ws:=R.map smW) (o:=none) rfl ?_
    refine aaA hla hL lR (fun us hu=>(eR.mb us hu).at (by decide) (by decide)) lx bx rfl<|aq<|bW ?_
    rw [eR.val xs];refine bK<|aj<|aB<|aj<|aD<|aD<|ak rfl<|ak rfl<|cH (dz hn) (cG ek)<|aU<|cH (ws:=.str x::js.map fun j:Nat=>W.int (j:Int)) rfl Rn<|aj<|ak rfl<|aq ?_
    refine hdu cl rw' bx hL<|aq<|Kg ?_
    have em:(fs.map fun f=>W.int (f xs))=(fs.map fun f=>f xs).map W.int:=by rw [adb];rfl
    rw [em];exact Jf<|dG<|wL<|aW<|hN _ _ ⟨rfl,_,_,rfl⟩
 ·rintro Z g ⟨rfl,a13,a14,rfl⟩;exact q _ _
def Vu {T:List W}(k:Q (.bl true) h):Hh [.tup T,.ty "tuple"] h Q:=qg rfl k
def UW {ws:List (List (List Tm))}(r:Rw L n x ws fs):ws.length<=5/\∀ T∈ws,T.length<=6/\∀ us∈T,Mb L 40 1 n us:=by
 have sp:∀ {f g h:Fn} {x y z:List Tm},Sp L n f g h x y z->∀ T∈[[x,y,z]],T.length<=6/\∀ us∈T,Mb L 40 1 n us:=fun e T hT=>by
  rw [acT.mp hT];exact ⟨by simp,e.l.mb⟩
 have cv:∀ {f0 f1 f2 f3 f4 f5:Fn} {x0 x1 x2 x3 x4 x5:List Tm},Cv L n f0 f1 f2 f3 f4 f5 x0 x1 x2 x3 x4 x5->∀ T∈[[x0,x1,x2,x3,x4,x5]],T.length<=6/\∀ us∈T,Mb L 40 1 n us:=fun e T hT=>by
  rw [acT.mp hT];exact ⟨by simp,EL.mb e⟩
 have ap:∀ {A B:List (List (List Tm))},(∀ T∈A,T.length<=6/\∀ us∈T,Mb L 40 1 n us)->(∀ T∈B,T.length<=6/\∀ us∈T,Mb L 40 1 n us)->∀ T∈A++B,T.length<=6/\∀ us∈T,Mb L 40 1 n us:=fun a b T hT=>(adn.mp hT).elim (a T) (b T)
 cases r with
 | join _ a b=>exact ⟨by simp,ap (sp a) (sp b)⟩
 | curve a b c d e=>exact ⟨by simp,ap (sp a) (ap (sp b) (ap (sp c) (ap (sp d) (sp e))))⟩
 | about a b=>exact ⟨by simp,ap (cv a) (sp b)⟩
 | pole a b=>exact ⟨by simp,ap (cv a) (sp b)⟩
 | other a b c=>exact ⟨by simp,ap (cv a) (ap (sp b) (sp c))⟩
def V3 {go:MSp}(hgo:GoX go){R:List (List Tm)}(hL:L<=8)(lR:R.length<=6)(hm:∀ us∈R,Mb L 1000 40 600 us)(hZ : kY [3] Z = [some (.int (L:Int))])(q:Q (.lst []) h):
  lcK ow1 [3] (Ja (Cz (aJ go E (ao (aA 0) (ao (aA 1) aL))))) (aA 0) Z Q ⟨R.map smW,none⟩ h:=by
 refine fL.mk (acq (m:=1000) (by rw [acf];omega)<|by decide) ?_;refine dF (fun i acc g=>g=h/\acc=[]) ?_ ?_ ⟨rfl,rfl⟩
 ·rintro i w acc g N hN e ⟨rfl,rfl⟩;rw [acu] at e;cases qe:R[i]? with
  | none=>rw [qe] at e;cases e
  | some us=>
   rw [qe] at e;cases e;have m:=hm us (acO qe);refine ⟨[smW us],rfl,?_⟩;rw [hZ];refine mX<|iM<|aB<|aj<|ak rfl<|aj<|ak rfl<|aq<|hgo hL (acq m.1<|by decide) m.2.1 (fun t ht=>?_)<|Ga (b:=true) rfl ?_
   ·obtain ⟨a,b,_,d⟩:=m.2.2 t ht;exact ⟨a,b,fun p hp=>(d p hp).1⟩
   ·exact zR<|hN _ _ ⟨rfl,rfl⟩
 ·rintro acc g ⟨rfl,rfl⟩;exact q
def Tw {ra cl bg so rw' la go th du:MSp}(hra:Xp ra)(hcl:tG cl)(hbg:RK bg)(hdr:pX dr)(hla:AtX la)(hgo:GoX go)(hdu:Xy du)(ns:List Int){t nn F S:Nat}{a4 a7 a8:Option W}(hn:h.c n=some (.lst rws))(ht:h.c t=some (.lst thg))(nl:n<h.nx)(tl:t<h.nx)(hr:∀ r∈rws,Row r)(hf:Sh L nn rws thg)(hL:L<=8)(c7:Cl L nn)(hS:S<=24)(hF:F<=S)(ls:rws.length=S)(hrt:∀ k r,F<=k->rws[k]?=some r->Rt (rws.map srt) r):
  xQ ra cl bg dr so rw' la go th du EF { nx:=fun _ h'=>(fun w _=>w=W.bl true) W.non h',rt:=fun w _=>w=W.bl true } [some (.kls (ns.map .int)),some (.int (F:Int)),some (.int (S:Int)),some (.int (L:Int)),a4,some (.loc n),some (.loc t),a7,a8,none,none,none,none,none,none] h:=by
 unfold xQ;refine aH<|aP<|aB<|aj<|aB<|aj<|ak rfl<|aj<|aU<|aq<|hcl (by decide)<|aq ?_
 refine hbg fun hb bag nxb ob=>?_;have nb:n≠h.nx:=acI nl;have tb:t≠h.nx:=acI tl;have hnb:hb.c n=some (.lst rws):=(ob n nb).trans hn;have htb:hb.c t=some (.lst thg):=(ob t tb).trans ht;generalize h.nx=b at *;refine nV<|bw ?_
 refine aH<|aP ?_
 refine aak hdr hL rfl bag fun xss g3 l3 ox o3=>?_;have hn3:g3.c n=some (.lst rws):=(o3.2 n nb).trans hnb;have ht3:g3.c t=some (.lst thg):=(o3.2 t tb).trans htb;refine nV<|bw ?_
 refine aH ?_;refine iw<|Pk<|aj<|ak rfl<|aj<|ak rfl<|aq<|W2 (n:=F) (m:=S) rfl (by omega) (by omega)<|iB ?_
 refine cZ (fun i Z g=>g=g3/\∃ a7 a10 a11 a12 a13 a14,Z = [some<|.kls<|ns.map .int,some<|.int (F:Int),some<|.int (S:Int),some<|.int (L:Int),a4,some<|.loc n,some<|.loc t,a7,some<|.loc b,some<|.lst<|xss.map fun xs=>.tup<|xs.map .int,a10,a11,a12,a13,a14]) ?_ ?_ ⟨rfl,_,_,_,_,_,_,rfl⟩
 ·rintro i w Z g N hN ew ⟨rfl,a7,a10,a11,a12,a13,a14,rfl⟩;rw [acu] at ew;obtain ⟨k,ex,rfl⟩:=afr.mp ew;have e0:=(lV ex).1;have hk:=(lV ex).2;have er:rws[k]?=some (rws[k]'(by omega)):=acn _;obtain ⟨x,js,exr,hx,hxf,em⟩:=hrt k _ (by omega) er;rw [exr] at er;obtain ⟨ws,fs,et,r,lf⟩:=ZC hf hx hxf em;obtain ⟨lw,mT⟩:=UW r;refine nV ?_;refine aH<|aP<|iT<|aj<|bK<|aj<|ak rfl<|aq<|M9 hn3<|aj<|bK<|aj<|ak rfl<|aq<|M9 ht3<|aq<|bC rfl ?_
  refine nV<|bw ?_
  refine aH<|aP<|aB<|aj<|aD<|ak rfl<|aU<|cH (ws:=[.lst rws,.lst thg]) (w:=.lst rws) rfl rfl<|aj<|aD<|ak rfl<|aU<|cH (ws:=[.lst rws,.lst thg]) (w:=.lst thg) rfl rfl<|aj<|ak rfl<|aq ?_
  refine hra er et c7 r fun R eR=>?_;have lR:R.length=Cj x:=by rw [<-eR.length];exact lf
  have l6:R.length<=6:=by rw [lR];unfold Cj;split <;> decide
  refine nV<|bw ?_
  refine aH<|aP ?_
  refine aD<|aU<|aD<|aU<|bK<|aj<|aD<|aD<|aD<|ak rfl<|ak rfl<|cH (dz hn3) (cG er)<|aU<|cH (ws:=.str x::js.map fun j:Nat=>W.int (j:Int)) rfl Rn<|aU<|cI<|aq<|zm<|M8<|fG ?_
  have emn:(3:Int)+3*(if decide (x = "curve") then 1 else 0)=((Cj x:Nat):Int):=by
   unfold Cj;by_cases c:x = "curve"
   ·rw [if_pos c,decide_eq_true c];rfl
   ·rw [if_neg c,decide_eq_false c];rfl
  rw [emn];refine nV<|bw ?_
  refine aH<|aZ ?_
  refine jC<|mX<|iM<|bK<|aj<|ak rfl<|aj<|aU<|aq<|Vu<|Ga (b:=true) rfl<|wL ?_
  refine jC<|aN<|aD<|bK<|aj<|ak rfl<|aq<|fQ (xs:=R.map smW) rfl<|ak rfl<|wY<|dG<|fX (decide_eq_false fun z=>z<|by rw [acf,lR]) ?_
  refine aN<|aD<|ak rfl<|iT<|aj<|ak rfl<|aj<|ak rfl<|aq<|bC rfl<|GF hn3 ht3 hr (Jx hf)<|dG<|wL<|aW<|bw ?_
  refine aH<|aZ<|aN<|aD<|bK<|aj<|gj<|gw<|ak rfl<|qz (ws:=R.map smW) (o:=none) rfl ?_
  refine V3 hgo hL l6 eR.mb rfl<|aq<|fQ (xs:=[]) rfl<|aU<|yw<|dG<|fX (by decide)<|aW<|bw ?_
  exact Oi hla hdu hn3 ht3 hL c7 r er et mT eR l6 lw ox fun a13 a14=>hN _ _ ⟨rfl,_,_,_,_,_,_,rfl⟩
 ·rintro Z g ⟨rfl,a7,a10,a11,a12,a13,a14,rfl⟩;unfold zA;exact bw<|aX<|aU rfl
def ZX {cl:MSp}(hcl:tG cl)(h0:Z[0]?=some (some (.kls (ns.map .int))))(h3:Z[3]?=some (some (.int (L:Int))))(q:∀ top:Int,0<=top->top<=1000000000->Q (.int top) h):
  mIf (bN (mOp kEq (aA 3) (mC (.int 0)))) (mOp kIx (lD (ao (mC (.int 4)) (ao (mC (.int 4)) (ao (mC (.int 4)) (ao (mOp SQ (mC (.int 10)) (mC (.int 9))) aL))))) (mOp Bc (aJ cl E (ao (aA 0) (ao (mC (.int 1)) aL))) (mC (.int 4)))) (mC (.int 4)) Z h Q:=by
 refine JG<|aN<|aD<|ak h3<|aU<|uR<|dG<|wC (fun e=>?_) fun e=>aU<|q 4 (by decide)<|by decide
 refine aD<|iT<|aj<|aU<|aj<|aU<|aj<|aU<|aj<|aD<|aU<|aU<|Ub ?_<|aq<|bC rfl ?_
 ·exact ⟨by decide,by decide,by decide⟩
 ·refine aD<|aB<|aj<|ak h0<|aj<|aU<|aq<|hcl (by decide)<|aU<|yG (by decide) ?_
  generalize ns.getD (1:Int).toNat 0=c;have a:=afm c (show (4:Int)≠0 by decide);have b:=aeG c (show (0:Int)<4 by decide);rw [dW (by decide)];generalize c % 4=z at a b;obtain ⟨k,rfl⟩:=agd a;have hk:k<4:=by omega
  match k,hk with
  | 0,_=>exact cH rfl rfl (q 4 (by decide) (by decide))
  | 1,_=>exact cH rfl rfl (q 4 (by decide) (by decide))
  | 2,_=>exact cH rfl rfl (q 4 (by decide) (by decide))
  | 3,_=>exact cH rfl rfl (q _ (by decide) (by decide))
def XM {ra cl bg so rw' la go th du:MSp}(hra:Xp ra)(hcl:tG cl)(hbg:RK bg)(hdr:pX dr)(hso:Ca so)(hrw:aaB rw')(hla:AtX la)(hgo:GoX go)(hth:ThX th)(hdu:Xy du)(ns:List Int){h':Gh}:RL ra cl bg dr so rw' la go th du [.kls (ns.map .int)] h' (fun w _=>w=.bl true) EF:=by
 unfold RL;rfl'
 refine hcl (by decide) ?_;generalize ns.getD (0:Int).toNat 0=c;rfl'
 refine yG (by decide) ?_;obtain ⟨F,f1,f7,eF⟩:∃ F:Nat,1<=F/\F<=7/\1+c.fmod 7=(F:Int):=by
  have a:=afm c (show (7:Int)≠0 by decide);have b:=aeG c (show (0:Int)<7 by decide);rw [dW (by decide)];exact ⟨(1+c % 7).toNat,by omega,by omega,by omega⟩
 refine fG ?_;rw [eF];rfl'
 refine hcl (by decide) ?_;rfl'
 refine Mx ⟨by decide,64,by decide,Sm.lit rfl⟩ ?_;rfl'
 refine yG (by omega) ?_;rfl'
 refine Nq ?_;obtain ⟨S,s1,s2,s3',eS⟩:∃ S:Nat,1<=S/\S<=12/\F<=S/\(if 1+((ns.getD (0:Int).toNat 0).fdiv 7).fmod 12>(F:Int) then 1+((ns.getD (0:Int).toNat 0).fdiv 7).fmod 12 else (F:Int))=(S:Int):=by
  rw [dW (by omega)];have a:=afm ((ns.getD (0:Int).toNat 0).fdiv 7) (show (12:Int)≠0 by omega);have b:=aeG ((ns.getD (0:Int).toNat 0).fdiv 7) (show (0:Int)<12 by omega);generalize (ns.getD (0:Int).toNat 0).fdiv 7 % 12=z at a b;split
  ·exact ⟨(1+z).toNat,by omega,by omega,by omega,by omega⟩
  ·exact ⟨F,by omega,by omega,by omega,rfl⟩
 rw [eS];rfl'
 refine Nq ?_;obtain ⟨L,l6,l1,eL⟩:∃ L:Nat,L<=6/\L≠1/\(2:Int)*(if (F:Int) - 4>0 then (F:Int) - 4 else 0)=(L:Int):=by
  split
  ·exact ⟨2*(F - 4),by omega,by omega,by omega⟩
  ·exact ⟨0,by omega,by omega,by omega⟩
 refine bH (.of (m:=64) (n:=10) (.lit rfl) (by unfold Sm;split <;> omega) (by decide)<|by decide) ?_;rw [eL];refine nV<|bw ?_
 refine aH<|aP ?_
 refine ZX hcl rfl rfl fun top t0 t1=>?_;refine nV<|bw ?_
 refine aH<|aP ?_
 refine sI (ws:=[]) (fun R=>rfl) rfl fun g eg og xg=>?_;have nlg:h'.nx<g.nx:=by rw [xg];exact Nat.lt_succ_self _
 generalize h'.nx=n at *;refine nV<|bw ?_
 refine aH<|aP ?_
 refine sI (ws:=[]) (fun R=>rfl) rfl fun g2 eg2 og2 xg2=>?_;have tlg:g.nx<g2.nx:=by rw [xg2];exact Nat.lt_succ_self _
 have nt:n≠g.nx:=acI nlg;have nlg2:n<g2.nx:=agu nlg tlg;have eg':g2.c n=some (.lst []):=(og2 n nt).trans eg;generalize g.nx=t at *;refine nV<|bw ?_
 refine aH ?_;obtain ⟨nn,c7,hnn⟩:∃ nn:Nat,Cl L nn/\(3<=nn\/2<L/\1<=nn):=by
  by_cases z:L<=2
  ·exact ⟨4,.inl ⟨z,rfl⟩,.inl<|by decide⟩
  ·exact ⟨1,.inr ⟨by omega,rfl⟩,.inr ⟨by omega,acj _⟩⟩
 refine iw<|lW<|aj<|ak rfl<|aq<|CG (m:=S) (by omega)<|iB ?_
 refine cZ (fun i Z h=>∃ rws thg a7 a8,Z = [some<|.kls<|ns.map .int,some<|.int (F:Int),some<|.int (S:Int),some<|.int (L:Int),some<|.int top,some<|.loc n,some<|.loc t,a7,a8,none,none,none,none,none,none]/\h.c n=some (.lst rws)/\h.c t=some (.lst thg)/\n<h.nx/\t<h.nx/\(∀ r∈rws,Row r)/\Sh L nn rws thg/\rws.length=i/\(1<=i->∃ r∈rws,srt r = "spot")/\∀ k r,F<=k->rws[k]?=some r->Rt (rws.map srt) r) ?_ ?_ ⟨[],[],none,none,rfl,eg',eg2,nlg2,tlg,fun r hr=>absurd hr<|by simp,⟨rfl,fun j s e=>by simp at e⟩,rfl,fun z=>absurd z<|by decide,fun k r _ e=>by simp at e⟩
 ·rintro i w Z h N hN ew ⟨rws,thg,a7,a8,rfl,hn,ht,nl,tl,hr,hfit,hl,hspt,hrt⟩;rw [acu] at ew;obtain ⟨x,ex,rfl⟩:=afr.mp ew;have e0:=(lV ex).1;have hx:=(lV ex).2;rw [Nat.zero_add] at e0;subst e0;refine nV ?_;refine aH<|aP<|aB<|aj<|aB<|aj<|ak rfl<|aj<|aD<|aU<|ak rfl<|fG<|aq<|hcl (by omega)<|aq ?_
  refine hbg fun hb bag nxb ob=>?_;have nb:n≠h.nx:=acI nl;have tb:t≠h.nx:=acI tl;have bb:h.nx<hb.nx:=by rw [nxb];exact Nat.lt_succ_self _
  have nlb:n<hb.nx:=agu nl bb;have tlb:t<hb.nx:=agu tl bb;have hnb:hb.c n=some (.lst rws):=(ob n nb).trans hn;have htb:hb.c t=some (.lst thg):=(ob t tb).trans ht;generalize h.nx=b at *;refine nV<|bw ?_
  refine aH<|mO<|zj<|ak rfl<|tM hnb<|aj<|aB<|aj<|ak rfl<|aj<|ak rfl<|aj<|ak rfl<|aq ?_
  refine hrw bag hnb (aes nb) bb nlb hr (by omega) ?_ fun r h2 rr hfs ok fr bag2 gr2=>?_
  ·by_cases z:1<=rws.length
   ·exact .inr<|hspt<|by omega
   ·exact .inl<|by omega
  ·have hn2:h2.c n=some (.lst rws):=(gr2.2 n nlb nb).trans hnb;have ht2:h2.c t=some (.lst thg):=(gr2.2 t tlb tb).trans htb;refine aq<|JZ hn2 (by omega) fun g3 g3c g3o g3n=>bw ?_
   have bag3:Bag g3 b:=by
    obtain ⟨p,q,e,r⟩:=bag2;exact ⟨p,q,(g3o b<|aes nb).trans e,r⟩
   have bl3:b<g3.nx:=by rw [g3n];exact acp bb gr2.1
   have nl3:n<g3.nx:=by rw [g3n];exact acp nlb gr2.1
   have tl3:t<g3.nx:=by rw [g3n];exact acp tlb gr2.1
   have ht3:g3.c t=some (.lst thg):=(g3o t (aes nt)).trans ht2;have thl:thg.length<=1000:=by rw [<-hfit.1];omega
   refine mO<|zj<|ak rfl<|tM ht3<|aj<|aB<|aj<|ak rfl<|aj<|ak rfl<|aj<|aB<|aj<|aD<|ak rfl<|ak rfl ?_
   refine cH (w:=r) (dz g3c) (cG (by rw [acU<|by omega,hl,Nat.sub_self];rfl))<|aq<|rr.sort hso<|aj<|ak rfl<|aq ?_
   refine hth bag3 bl3 (by omega) l1 t0 t1 hnn fun T g4 lT mT bag4 gb4=>aq ?_;have hn4:g4.c n=some (.lst (rws++[r])):=(gb4.2 n nl3 nb).trans g3c;have ht4:g4.c t=some (.lst thg):=(gb4.2 t tl3 tb).trans ht3;refine JZ ht4 thl fun g5 g5c g5o g5n=>bw<|hN _ _ ⟨rws++[r],thg++[tW T],_,_,rfl,(g5o n nt).trans hn4,g5c,by rw [g5n];exact acp nl3 gb4.1,by rw [g5n];exact acp tl3 gb4.1,?_,Hj hfit ⟨T,rfl,lT,mT⟩,by rw [acH,hl];rfl,?_,?_⟩
   ·intro u hu;rcases adn.mp hu with z | z
    ·exact hr u z
    ·rw [acT.mp z];exact rr
   ·intro _;by_cases z:1<=rws.length
    ·obtain ⟨u,hu,eu⟩:=hspt (by omega);exact ⟨u,adn.mpr<|.inl hu,eu⟩
    ·exact ⟨r,adn.mpr<|.inr<|acT.mpr rfl,hfs<|by omega⟩
   ·intro k u hk eu;rw [acB];by_cases z:k<rws.length
    ·rw [acX z] at eu;exact (hrt k u hk eu).app
    ·have hk2:=(acD.mp eu).1;rw [acH] at hk2;have ek:k=rws.length:=by simp at hk2;omega
     rw [ek,acU (acj _),Nat.sub_self] at eu;cases eu;exact (Yt rr ok (by rw [fr];exact decide_eq_false (by omega))).app
 ·rintro Z h ⟨rws,thg,a7,a8,rfl,hn,ht,nl,tl,hr,hfit,hl,hspt,hrt⟩;rw [sE] at hl;exact Tw hra hcl hbg hdr hla hgo hdu ns hn ht nl tl hr hfit (by omega) c7 (by omega) s3' hl hrt
def S8 (ns:List Int)(_:ns.length<=63):Om [.kls (ns.map W.int)] g0 (fun w _=>w=.bl true) EF:=by
 have wt:WhX fP:=abz Ue;have ti:TiE jP:=XF.e (Qg Ro Y5 (abr Tf) aa0);have px:PlX 1 rA:=Vl wt;have pl:PlE 1 rA:=PlX.e (.inl rfl) px;have mi:PlE (-1) rZ:=PlX.e (.inr rfl) (Ny wt);have cr:CrE dM:=JC (Uv mi ti);have dt:DoE gF:=TQ pl ti;have st:StE dX:=K5 ti;have sm:SmE fU:=Ks mi;have db:DbE lq:=G8 px;have ta:TaE fD:=RG db;have rt:RtE dY:=JX dt;have ra:Xp OD:=Yb cr ta rt (Pn ti cr dt st sm (Cu pl ti)) (Wv st ta (JW cr) rt (RZ (Qk cr dt))) (Oe st sm db ta (Uh dt rt));exact XM ra V5 Yl yD FT (YK yD V8 FT<|Ux yD FT) Yp Tg (NT<|VG yD) (YM Uo Ql (ZV Uo Ql) Ti (Zc Ql Ti) X8) ns
end My
namespace PySem.W.Fast
def tw16720236078749645014:=()
def tw8133909349451073554:=()
def tw8533001286832409467:=()
def tw17991478334811332473:=()
def tw173983593152837550:=()
def tw12535890942534168462:=()
def tw3113910656034468809:=()
def tw1714689055851971829:=()
def tw9938446120691443753:=()
def tw12784547264937017114:=()
def tw458995240559497124:=()
def tw9456357526675026191:=()
def tw14455900869589876274:=()
def tw17207463775231554346:=()
def tw11185562158404417299:=()
def tw12061285711655717067:=()
def tw5868543030873648365:=()
def tw3817735908710403278:=()
def tw7474499351711102266:=()
def tw5968392665761079837:=()
def tw2440102853889387956:=()
def tw15131988745254070246:=()
def tw3890197826499304518:=()
def tw7909713842403938224:=()
def tw7601437254653253569:=()
def tw2091306163132278746:=()
def tw1450076175419418330:=()
def tw1494456107257934886:=()
def tw16470487188693706128:=()
def tw6338061425739423063:=()
def tw2964580857169987947:=()
def tw1060969848345193082:=()
def tw9285175936569862322:=()
def tw11650197778695800297:=()
def tw9282447021938044721:=()
def tw7679913855851449883:=()
def tw7845555579330712285:=()
def tw17313376411683793337:=()
def tw2387437570359735784:=()
def tw5054572583081149209:=()
def tw3477276890244573034:=()
def tw11112575937862652375:=()
def tw8382657529015867010:=()
def tw2159940740812977320:=()
def tw1395711786980443426:=()
def tw5809784095876336154:=()
def tw12574275483058631135:=()
def tw16962341159042583563:=()
def tw9161384539041817888:=()
def tw13412180249772600358:=()
def tw11769473120952248572:=()
def tw12777572504682652627:=()
def tw15570801133037576547:=()
def tw15258151063721899657:=()
def tw18070649943438887533:=()
def tw18136158723056076122:=()
def tw7744453576372488090:=()
def tw8050720996080627445:=()
def tw4984276570912221141:=()
def tw8952687686976626724:=()
def tw3698231916134567611:=()
def tw17646480481562439211:=()
def tw15602252759358374355:=()
def tw11701949191872960494:=()
def tw4831123771187547154:=()
def tw17418541503886675796:=()
def tw15272457778995268952:=()
def tw11657409138466953412:=()
def tw15396209892330393602:=()
def tw5434396716363993040:=()
def tw13408632863856717102:=()
def tw13675676202333732434:=()
def tw18085219576645996084:=()
def tw11149945748071922405:=()
def tw3147774911651385887:=()
def tw16641478397786406333:=()
def tw663731684226381808:=()
def tw2434028184481308082:=()
def tw2900216286602592446:=()
def tw2064646005691654301:=()
def tw14090506277428928385:=()
def tw6231303639562415629:=()
def tw2901415004301348680:=()
def tw3766338780674917:=()
def tw16612895424850787262:=()
def tw3204310376973608395:=()
end PySem.W.Fast
open PySem PySem.W PyProof.Rows
set_option maxRecDepth 100000 in
set_option maxHeartbeats 0 in
theorem PySem.Challenge.cw_easelroom_k71_raws_at_numbers_holds : PySem.Challenge.rw_easelroom_k71_raws_at_numbers.Holds := by
 w_on;o_law;k_head;(case hw=>w_witness2)
 k_fill
 refine My.walk (l:=PySem.Challenge.rw_easelroom_k71_raws_at_numbers) rfl rfl (fun w h Y=>PySem.W.kIn_of Y) ?F
 case F=>
  intro w mg fa h KX G hmg;refine' My.all_mk My.S8 KX G hmg ?h0 ?h1 ?h2 ?h3 ?h4 ?h5 ?h6 ?h7 ?h8 ?h9 ?h10 ?h11 ?h12 ?h13 ?h14 ?h15 ?h16 ?h17 ?h18 ?h19 ?h20 ?h21 ?h22 ?h23 ?h24 ?h25 ?h26 ?h27 ?h28 ?h29 ?h30 ?h31 ?h32 ?h33 ?h34 ?h35 ?h36 ?h37 ?h38 ?h39 ?h40 ?h41 ?h42 ?h43 ?h44 ?z_abs ?z_any ?z_bool ?z_dict ?z_int ?z_isinstance ?z_len ?z_list ?z_max ?z_min ?z_range ?z_reversed ?z_sorted ?z_tuple ?z_zip ?g_MOST_TERMS ?g_MOST_POWER ?g_MOST_PAIRS ?g_FIELD
  (case h0 | h1 | h2 | h3 | h4 | h5 | h6 | h7 | h8 | h9 | h10 | h11 | h12 | h13 | h14=>(apply My.Pq <;> k_is))
  (case h15 | h16 | h17 | h18 | h19 | h20 | h21 | h22 | h23 | h24 | h25 | h26 | h27 | h28 | h29=>(apply My.Pq <;> k_is))
  (case h30 | h31 | h32 | h33 | h34 | h35 | h36 | h37 | h38 | h39 | h40 | h41 | h42 | h43 | h44=>(apply My.Pq <;> k_is))
  (case z_abs | z_any | z_bool | z_dict | z_int | z_isinstance | z_len | z_list | z_max | z_min | z_range | z_reversed | z_sorted | z_tuple | z_zip=>k_is)
  (case g_MOST_TERMS | g_MOST_POWER | g_MOST_PAIRS | g_FIELD=>(apply Exists.intro <;> k_is))
