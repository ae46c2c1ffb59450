import PyProof.Rows.All
import Wide.All
import OpenK.AllK
import Wide.FinOn
import Lean
import PyProof.EqAt
import PyProof.EqKinds
import PyProof.TupleCall
import PySem.Challenge.RW_easelroom_k31_steps_walked
set_option Elab.async false
set_option linter.all false
set_option maxRecDepth 100000
namespace L2
open PySem PySem.Spec PyProof.Rows
abbrev Key:=Sum Int Str
def xq:Key→Value→Bool
 | .inl k,v=>Value.isInt k v
 | .inr x,v=>Value.isStrOf x v
def keyH (w:World):Key→Int
 | .inl k=>hashInt k
 | .inr x=>hashStr w x
theorem bI:∀ {k:Key} {v:Value},xq k v=true→(∃ i t,k=Sum.inl i∧v=Value.int i t)∨(∃ x t,k=Sum.inr x∧v=Value.str x t)
 | .inl i,v,h=>by
  obtain ⟨t,e⟩:=Value.isInt_shape (k:=i) (v:=v) h
  exact .inl ⟨i,t,rfl,e⟩
 | .inr x,v,h=>by
  obtain ⟨t,e⟩:=Value.isStrOf_shape (x:=x) (v:=v) h
  exact .inr ⟨x,t,rfl,e⟩
theorem keyIs_int (i:Int)(t:Tok):xq (.inl i) (.int i t)=true:=by simp [xq,Value.isInt]
theorem Ak (x:Str)(t:Tok):xq (.inr x) (.str x t)=true:=by simp [xq,Value.isStrOf]
theorem key_ll (a b:Int):decide ((Sum.inl a:Key)=Sum.inl b)=(a==b):=by
 by_cases e:a=b
 ·subst e;simp
 ·have h:¬ (Sum.inl a:Key)=Sum.inl b:=fun q=>e (Sum.inl.inj q)
  rw [decide_eq_false h]
  exact (beq_eq_false_iff_ne.mpr e).symm
theorem key_rr (a b:Str):decide ((Sum.inr a:Key)=Sum.inr b)=decide (a=b):=by
 by_cases e:a=b
 ·subst e;simp
 ·have h:¬ (Sum.inr a:Key)=Sum.inr b:=fun q=>e (Sum.inr.inj q)
  rw [decide_eq_false h,decide_eq_false e]
theorem key_lr (a:Int)(b:Str):decide ((Sum.inl a:Key)=Sum.inr b)=false:=decide_eq_false (fun q=>nomatch q)
theorem key_rl (a:Str)(b:Int):decide ((Sum.inr a:Key)=Sum.inl b)=false:=decide_eq_false (fun q=>nomatch q)
def bN (prog:Program)(w:World):PySem.KeyKind prog w Key where
 is:=xq
 hash:=keyH w
 inj:=fun v a b ha hb=>by
  rcases bI ha with ⟨i,t,rfl,rfl⟩ | ⟨x,t,rfl,rfl⟩
  ·rcases bI hb with ⟨j,u,rfl,e⟩ | ⟨y,u,rfl,e⟩
   ·injection e with e1 _;rw [e1]
   ·exact nomatch e
  ·rcases bI hb with ⟨j,u,rfl,e⟩ | ⟨y,u,rfl,e⟩
   ·exact nomatch e
   ·injection e with e1 _;rw [e1]
 byValue:=fun k v h=>by
  rcases bI h with ⟨i,t,rfl,rfl⟩ | ⟨x,t,rfl,rfl⟩ <;> rfl
 pyHash:=fun hv h=>by
  rcases bI hv with ⟨i,t,rfl,rfl⟩ | ⟨x,t,rfl,rfl⟩
  ·exact wpAny_pyHash_int h
  ·exact wpAny_pyHash_str h
 eqBool:=fun hu hv h=>by
  rcases bI hu with ⟨i,t,rfl,rfl⟩ | ⟨x,t,rfl,rfl⟩
  ·rcases bI hv with ⟨j,u,rfl,rfl⟩ | ⟨y,u,rfl,rfl⟩
   ·rw [key_ll] at h;exact wpAny_eqBool_int h
   ·rw [key_lr] at h;exact SeqAt.EqAt.int_str i t y u _ _ _ _ h
  ·rcases bI hv with ⟨j,u,rfl,rfl⟩ | ⟨y,u,rfl,rfl⟩
   ·rw [key_rl] at h;exact SeqAt.EqAt.str_int x t j u _ _ _ _ h
   ·rw [key_rr] at h;exact wpAny_eqBool_str h
 «strs»:=fun k x t v h=>by
  rcases bI h with ⟨i,u,rfl,e⟩ | ⟨y,u,rfl,e⟩
  ·exact nomatch e
  ·injection e with e1 _
   subst e1
   cases v <;> rfl
theorem tZ (prog:Program)(w:World)(i:Int)(t:Tok):(bN prog w).is (.inl i) (.int i t)=true:=keyIs_int i t
theorem uz (prog:Program)(w:World)(x:Str)(t:Tok):(bN prog w).is (.inr x) (.str x t)=true:=Ak x t
end L2
namespace L2
open PySem PySem.Spec PyProof.Rows
inductive V where
 | non | bl (b:Bool) | int (i:Int) | str (x:Str) | byt (b:Array UInt8) | flt (b:UInt64) | ref (a:Addr) | ty (n:String)
 deriving DecidableEq
def RelV:V→Value→Prop
 | .non,u=>u=Value.none
 | .bl b,u=>u=Value.bool b
 | .int i,u=>∃ t,u=Value.int i t
 | .str x,u=>∃ t,u=Value.str x t
 | .byt b,u=>∃ t,u=Value.bytes b t
 | .flt b,u=>∃ t,u=Value.float b t
 | .ref a,u=>u=Value.ref a
 | .ty n,u=>u=Value.type n
abbrev Vals:List V→List Value→Prop:=Paired RelV
theorem Vals.length {xs:List V}{us:List Value}(r:Vals xs us):xs.length=us.length:=Paired.length r
theorem Vals.get:∀ {xs:List V} {us:List Value} {i:Nat} {x:V},Vals xs us→xs[i]?=some x→∃ u,us[i]?=some u∧RelV x u
 | _,_,_,_,.nil,e=>by simp at e
 | _,_,0,_,.cons r _,e=>by simp at e;subst e;exact ⟨_,rfl,r⟩
 | _,_,i+1,x,.cons _ t,e=>by
  obtain ⟨u,h1,h2⟩:=Vals.get (i:=i) (x:=x) t (by simpa using e)
  exact ⟨u,by simpa using h1,h2⟩
theorem Vals.set {x:V}{u:Value}(r:RelV x u):∀ {xs:List V} {us:List Value} (i:Nat),Vals xs us→Vals (xs.set i x) (us.set i u)
 | _,_,_,.nil=>.nil
 | _,_,0,.cons _ t=>.cons r t
 | _,_,i+1,.cons q t=>.cons q (Vals.set r i t)
theorem Vals.append:∀ {xs ys:List V} {us ws:List Value},Vals xs us→Vals ys ws→Vals (xs++ys) (us++ws)
 | _,_,_,_,.nil,s=>s
 | _,_,_,_,.cons r t,s=>.cons r (Vals.append t s)
theorem Vals.take:∀ {xs:List V} {us:List Value} (n:Nat),Vals xs us→Vals (xs.take n) (us.take n)
 | _,_,0,_=>.nil
 | _,_,_+1,.nil=>.nil
 | _,_,n+1,.cons r t=>.cons r (Vals.take n t)
theorem Vals.drop:∀ {xs:List V} {us:List Value} (n:Nat),Vals xs us→Vals (xs.drop n) (us.drop n)
 | _,_,0,r=>r
 | _,_,_+1,.nil=>.nil
 | _,_,n+1,.cons _ t=>Vals.drop n t
def tE:Option V→Option Value→Prop
 | some v,some u=>RelV v u
 | none,none=>True
 | _,_=>False
def KV {κ : Type}:List (κ×V)→List (κ×Value)→Prop:=Paired fun (p:κ×V) (q:κ×Value)=>p.1=q.1∧RelV p.2 q.2
def kV:Key→V
 | .inl i=>.int i
 | .inr x=>.str x
inductive HO where
 /-- a list -/
 | lst (xs:List V)
 /-- a tuple (never changes) -/
 | tup (xs:List V)
 /-- a dict whose keys are ints and texts; one whose keys are tuples of ints and texts (the empty one is both) -/
 | dK (kvs:List (Key×V)) | dT (kvs:List (List Key×V))
 /-- a set of ints: its members, its size -/
 | set (S:Int→Bool) (n:Nat)
 /-- an instance of the class at C, its dict at dx, its attributes -/
 | ins (C dx:Addr) (fs:List (Str×V))
 /-- the dict of the instance at x -/
 | own (x:Addr)
 /-- the dict of an exception -/
 | xd (fs:List (Str×V))
 /-- a bound method, f of x -/
 | met (f x:Addr)
 /-- a range object lo, lo + 1, .. below hi -/
 | rng (lo hi:Int)
 /-- a thing that is known to the object (the script; a dict while a loop walks it): read, never written while it is so -/
 | frz (o:Obj) (u:HO)
 /-- a code object's table -/
 | tbl (ps:Array Value)
 /-- any other thing, by what is true of its one object (a def of one's own: SetO a S n := HO.ext fun h => ..) -/
 | ext (φ : Heap→Prop)
abbrev Hp:=Addr→Option HO
def upd (H:Hp)(a:Addr)(o:HO):Hp:=fun b=>if b=a then some o else H b
theorem aL {H:Hp}{a:Addr}{o:HO}:upd H a o a=some o:=by unfold upd;rw [if_pos rfl]
theorem aD {H:Hp}{a b:Addr}{o:HO}(h:b≠a):upd H a o b=H b:=by unfold upd;rw [if_neg h]
theorem aM {H:Hp}{a b:Addr}{o:HO}(h:H a=some o)(h':H b=none):a≠b:=by
 intro e;subst e;rw [h] at h';cases h'
section
variable (P:Program)(w:World)
def cU (H:Hp)(h:Heap)(a:Addr):HO→Prop
 | .lst xs=>xs.length≤sizeLine∧∃ (its:List Value) (n:Nat),Vals xs its∧h.get? a=some { cls:=.type "list",data:=.seq its.toArray n }
 | .tup xs=>xs.length≤sizeLine∧∃ its:List Value,Vals xs its∧IsTup h a its.toArray
 | .dK kvs=>kvs.length≤sizeLine∧(a==sysModules)=false∧∃ vs,KV kvs vs∧h.DictOf (bN P w) a vs
 | .dT kvs=>kvs.length≤sizeLine∧(a==sysModules)=false∧∃ xs:List (List Key×Addr×Value),
   Paired (fun (p:List Key×V) (q:List Key×Addr×Value)=>p.1=q.1∧H q.2.1=some (.tup (p.1.map kV))∧RelV p.2 q.2.2) kvs xs ∧
   ∃ o es ep,h.get? a=some o∧o.ExactDict∧o.data=.dict es ep∧es.toList=xs.map (entryOfKey (tupleKind (bN P w)))∧(xs.map (·.1)).Nodup
 | .set S n=>h.SetOf (intKind P w) a S n
 | .ins C dx fs=>H dx=some (.own a)∧fs.length≤1000∧dx≠a∧h.get? a=some (PySem.W.instObj C dx) ∧
   ∃ mA,h.Ns1 dx mA∧(∀ f,tE (fs.lookup f) (mA f))∧PySem.Within mA (fs.map (·.1))
 | .own _=>∃ o,h.get? a=some o
 | .xd fs=>∃ mA,h.Ns1 a mA∧∀ f,tE (fs.lookup f) (mA f)
 | .rng lo hi=>∃ t u v,h.get? a=some { cls:=.type "range",data:=.fields #[.int lo t,.int hi u,.int 1 v] }
 | .frz o u=>h.get? a=some o∧cU H h a u
 | .tbl ps=>h.get? a=some { cls:=.none,data:=.fields ps }
 | .met f x=>h.get? a=some (PySem.W.methodObj (.ref f) (.ref x))
 | .ext φ=>φ h∧(∃ o,h.get? a=some o)∧∀ h1 h2:Heap,φ h1→(∀ o,h1.get? a=some o→h2.get? a=some o)→φ h2
def HOk (H:Hp)(h:Heap):Prop:=∀ a o,H a=some o→cU P w H h a o
end
section
variable {P:Program}{w:World}{H H':Hp}{h h':Heap}{a:Addr}{o:HO}
theorem cU.lt (x:cU P w H h a o):a<h.objs.size:=by
 cases o with
 | lst xs=>obtain ⟨_,_,_,_,e⟩:=x;exact Heap.lt_size e
 | tup xs=>obtain ⟨_,_,_,p⟩:=x;exact p.lt
 | dK kvs=>obtain ⟨_,_,_,_,o,_,_,e,_⟩:=x;exact Heap.lt_size e
 | dT kvs=>obtain ⟨_,_,_,_,o,_,_,e,_⟩:=x;exact Heap.lt_size e
 | set S n=>obtain ⟨o,_,_,_,e,_⟩:=x;exact Heap.lt_size e
 | ins C dx fs=>obtain ⟨_,_,_,e,_⟩:=x;exact Heap.lt_size e
 | own y=>obtain ⟨_,e⟩:=x;exact Heap.lt_size e
 | xd fs=>obtain ⟨_,⟨_,_,_,e,_⟩,_⟩:=x;exact Heap.lt_size e
 | rng lo hi=>obtain ⟨_,_,_,e⟩:=x;exact Heap.lt_size e
 | frz ob u=>obtain ⟨e,_⟩:=x;exact Heap.lt_size e
 | tbl ps=>exact Heap.lt_size (show h.get? a=some _ from x)
 | met f y=>exact Heap.lt_size (show h.get? a=some _ from x)
 | ext φ=>obtain ⟨_,⟨_,e⟩,_⟩:=x;exact Heap.lt_size e
theorem Paired.mapP {α β : Type}{F G:α→β→Prop}:∀ {l₁ : List α} {l₂ : List β},Paired F l₁ l₂→(∀ a b,F a b→G a b)→Paired G l₁ l₂
 | _,_,.nil,_=>.nil
 | _,_,.cons r t,f=>.cons (f _ _ r) (Paired.mapP t f)
theorem cU.stay (x:cU P w H h a o)(k:∀ b u,(b=a∨H b=some (.own a))→h.get? b=some u→h'.get? b=some u)
  (ho:∀ b,H b=some (.own a)→H' b=some (.own a)) (ht:∀ b xs,H b=some (.tup xs)→H' b=some (.tup xs)):cU P w H' h' a o:=by
 induction o with
 | lst xs=>obtain ⟨z,its,n,r,e⟩:=x;exact ⟨z,its,n,r,k _ _ (.inl rfl) e⟩
 | tup xs=>obtain ⟨z,its,r,ob,e,c⟩:=x;exact ⟨z,its,r,ob,k _ _ (.inl rfl) e,c⟩
 | dK kvs=>obtain ⟨z,y,vs,r,ob,es,ep,e,c⟩:=x;exact ⟨z,y,vs,r,ob,es,ep,k _ _ (.inl rfl) e,c⟩
 | dT kvs=>
  obtain ⟨z,y,xs,r,ob,es,ep,e,c⟩:=x
  exact ⟨z,y,xs,Paired.mapP r fun p q z=>⟨z.1,ht _ _ z.2.1,z.2.2⟩,ob,es,ep,k _ _ (.inl rfl) e,c⟩
 | set S n=>obtain ⟨ob,es,ep,t,e,c⟩:=x;exact ⟨ob,es,ep,t,k _ _ (.inl rfl) e,c⟩
 | ins C dx fs=>
  obtain ⟨d,z,ne,e,mA,⟨od,es,ep,e2,c⟩,r⟩:=x
  exact ⟨ho _ d,z,ne,k _ _ (.inl rfl) e,mA,⟨od,es,ep,k _ _ (.inr d) e2,c⟩,r⟩
 | own y=>obtain ⟨ob,e⟩:=x;exact ⟨ob,k _ _ (.inl rfl) e⟩
 | xd fs=>obtain ⟨mA,⟨od,es,ep,e,c⟩,r⟩:=x;exact ⟨mA,⟨od,es,ep,k _ _ (.inl rfl) e,c⟩,r⟩
 | rng lo hi=>obtain ⟨t,u,v,e⟩:=x;exact ⟨t,u,v,k _ _ (.inl rfl) e⟩
 | frz ob u ih=>obtain ⟨e,q⟩:=x;exact ⟨k _ _ (.inl rfl) e,ih q⟩
 | tbl ps=>
  have e:h.get? a=some { cls:=.none,data:=.fields ps }:=x
  show h'.get? a=some { cls:=.none,data:=.fields ps }
  exact k a _ (.inl rfl) e
 | met f y=>
  have e:h.get? a=some (PySem.W.methodObj (.ref f) (.ref y)):=x
  show h'.get? a=some (PySem.W.methodObj (.ref f) (.ref y))
  exact k a _ (.inl rfl) e
 | ext φ=>obtain ⟨p,⟨o,e⟩,st⟩:=x;exact ⟨st _ _ p fun o q=>k _ _ (.inl rfl) q,⟨o,k _ _ (.inl rfl) e⟩,st⟩
theorem HOk.lt (x:HOk P w H h)(e:H a=some o):a<h.objs.size:=(x a o e).lt
theorem HOk.fresh (x:HOk P w H h)(e:h.objs.size≤a):H a=none:=by
 cases q:H a with
 | none=>rfl
 | some u=>exact absurd (Nat.lt_of_lt_of_le (x.lt q) e) (Nat.lt_irrefl _)
theorem HOk.kept (x:HOk P w H h)(k:∀ b u,h.get? b=some u→h'.get? b=some u):HOk P w H h':=fun a o e=>
 (x a o e).stay (fun b u _ q=>k b u q) (fun _ q=>q) fun _ _ q=>q
theorem HOk.laid (x:HOk P w H h)(k:∀ b u,h.get? b=some u→h'.get? b=some u)(hp:h.objs.size≤a)(new:cU P w (upd H a o) h' a o):HOk P w (upd H a o) h':=fun b u e=>by
 have hn:=x.fresh hp
 by_cases hb:b=a
 ·subst hb;rw [aL] at e;cases e;exact new
 ·rw [aD hb] at e
  exact (x b u e).stay (fun c v _ q=>k c v q) (fun c q=>by rw [aD (aM q hn)];exact q) fun c xs q=>by rw [aD (aM q hn)];exact q
end
def Rd (H:Hp)(a:Addr)(u:HO):Prop:=H a=some u∨∃ o,H a=some (.frz o u)
theorem Rd.ok {P:Program}{w:World}{H:Hp}{h:Heap}{a:Addr}{u:HO}(r:Rd H a u)(x:HOk P w H h):cU P w H h a u:=by
 rcases r with r | ⟨o,r⟩
 ·exact x a u r
 ·obtain ⟨_,q⟩:=x a _ r
  exact q
def Mut:Option HO→Prop
 | some (.lst _)=>True
 | some (.dK _)=>True
 | some (.dT _)=>True
 | some (.set _ _)=>True
 | some (.ins _ _ _)=>True
 | some (.ext _)=>True
 | _=>False
section
variable {P:Program}{w:World}{H:Hp}{h h':Heap}{x e:Addr}{o':HO}
theorem HOk.write (ok:HOk P w H h)(mu:Mut (H x))(he:e=x∨H e=some (.own x))(k:∀ b u,b≠e→h.get? b=some u→h'.get? b=some u)(heo:∃ u,h'.get? e=some u)
  (new:cU P w (upd H x o') h' x o'):HOk P w (upd H x o') h':=fun b u q=>by
 have nown:∀ c y,H c=some (.own y)→c≠x:=fun c y r z=>by subst z;rw [r] at mu;exact mu
 have ntup:∀ c xs,H c=some (.tup xs)→c≠x:=fun c xs r z=>by subst z;rw [r] at mu;exact mu
 by_cases hb:b=x
 ·subst hb;rw [aL] at q;cases q;exact new
 ·rw [aD hb] at q
  by_cases hbe:b=e
  ·have q':H b=some (.own x):=by
    rcases he with z | z
    ·exact absurd (hbe.trans z) hb
    ·rw [hbe];exact z
   rw [q] at q';cases q'
   obtain ⟨v,hv⟩:=heo
   exact ⟨v,by rw [hbe];exact hv⟩
  ·refine (ok b u q).stay (fun c v hc r=>k c v ?_ r) (fun c r=>by rw [aD (nown c b r)];exact r) fun c xs r=>by rw [aD (ntup c xs r)];exact r
   rcases hc with rfl | hc
   ·exact hbe
   ·rintro rfl
    rcases he with z | z
    ·exact nown c b hc z
    ·rw [hc] at z;cases z;exact hb rfl
end
structure Un (fs ex:List Addr) (H H':Hp) (h h':Heap):Prop where
 keep:∀ b o,h.get? b=some o→H b=none→b∉fs→b∉ex→h'.get? b=some o
 slot:∀ b o,h.get? b=some o→H b=none→b∈fs→b∉ex→∃ sl,h'.get? b=some { o with slots:=sl }
 free:∀ b o,h.get? b=some o→H b=none→b∉ex→H' b=none
 there:∀ b o,h.get? b=some o→b∉ex→∃ o',h'.get? b=some o'
 tups:∀ b xs,H b=some (.tup xs)→H' b=some (.tup xs)
 frzs:∀ b o u,H b=some (.frz o u)→H' b=some (.frz o u)
 tbls:∀ b ps,H b=some (.tbl ps)→∃ more,H' b=some (.tbl (ps++more))
section
variable {fs fs' ex ex':List Addr}{H H1 H2:Hp}{h h1 h2 h':Heap}{a x e:Addr}{o:HO}
theorem Un.any (u:Un fs ex H H1 h h1){b:Addr}{ob:Obj}(q:h.get? b=some ob)(n:H b=none)(hx:b∉ex):∃ sl,h1.get? b=some { ob with slots:=sl }:=by
 by_cases hb:b∈fs
 ·exact u.slot b ob q n hb hx
 ·exact ⟨ob.slots,u.keep b ob q n hb hx⟩
theorem Un.kept (k:∀ b u,h.get? b=some u→h'.get? b=some u):Un fs ex H H h h':=
 ⟨fun b ob q _ _ _=>k b ob q,fun b ob q _ _ _=>⟨ob.slots,k b ob q⟩,fun _ _ _ n _=>n,fun b ob q _=>⟨ob,k b ob q⟩,fun _ _ q=>q,fun _ _ _ q=>q,fun _ ps q=>⟨#[],by rw [q];simp⟩⟩
theorem Un.refl:Un fs ex H H h h:=Un.kept fun _ _ q=>q
theorem Un.laid (k:∀ b u,h.get? b=some u→h'.get? b=some u)(hp:h.objs.size≤a)(hn:H a=none):Un fs ex H (upd H a o) h h' where
 keep:=fun b u q _ _ _=>k b u q
 slot:=fun b u q _ _ _=>⟨u.slots,k b u q⟩
 free:=fun b u q n _=>by rw [aD (Nat.ne_of_lt (Nat.lt_of_lt_of_le (Heap.lt_size q) hp))];exact n
 there:=fun b u q _=>⟨u,k b u q⟩
 tups:=fun b xs q=>by rw [aD (aM q hn)];exact q
 frzs:=fun b u xs q=>by rw [aD (aM q hn)];exact q
 tbls:=fun b ps q=>⟨#[],by rw [aD (aM q hn),q];simp⟩
theorem Un.write (mu:Mut (H x))(he:e=x∨H e=some (.own x))(k:∀ b u,b≠e→h.get? b=some u→h'.get? b=some u)(heo:∃ u,h'.get? e=some u):Un fs ex H (upd H x o) h h':=by
 have hx:∀ b,H b=none→b≠x:=fun b n z=>by subst z;rw [n] at mu;exact mu
 have hb:∀ b,H b=none→b≠e:=fun b n z=>by
  subst z
  rcases he with r | r
  ·exact hx b n r
  ·rw [n] at r;cases r
 have hm:∀ b u,H b=some u→¬ Mut (some u)→b≠x:=fun b u q nm z=>by subst z;rw [q] at mu;exact nm mu
 refine ⟨fun b u q n _ _=>k b u (hb b n) q,fun b u q n _ _=>⟨u.slots,k b u (hb b n) q⟩,fun b u q n _=>by rw [aD (hx b n)];exact n,fun b u q _=>?_,
  fun b xs q=>by rw [aD (hm b _ q fun z=>z)];exact q,fun b u xs q=>by rw [aD (hm b _ q fun z=>z)];exact q,fun b ps q=>⟨#[],by rw [aD (hm b _ q fun z=>z),q];simp⟩⟩
 by_cases hbe:b=e
 ·subst hbe;exact heo
 ·exact ⟨u,k b u hbe q⟩
end
def trk (h:Heap)(H:Hp):List Addr:=(List.range h.objs.size).filter fun a=>(H a).isSome
def hidT (h:Heap)(H:Hp):Heap:=PySem.W.hideAll h (trk h H)
theorem yV (h:Heap)(H:Hp):(hidT h H).objs.size=h.objs.size:=PySem.W.hideAll_size _ _
theorem hidT_get {h:Heap}{H:Hp}{b:Addr}{o:Obj}(e:h.get? b=some o)(n:H b=none):(hidT h H).get? b=some o:=
 PySem.W.hideAll_get _ e fun hm=>by
  have q:(H b).isSome=true:=(List.mem_filter.mp hm).2
  rw [n] at q;simp at q
theorem of_hidT {h:Heap}{H:Hp}{b:Addr}{o:Obj}(e:(hidT h H).get? b=some o):h.get? b=some o∧H b=none:=by
 have e':h.get? b=some o:=PySem.W.of_hideAll (trk h H) e
 refine ⟨e',?_⟩
 cases q:H b with
 | none=>rfl
 | some x=>
  have hm:b∈trk h H:=List.mem_filter.mpr ⟨List.mem_range.mpr (Heap.lt_size e'),by simp [q]⟩
  have z:(hidT h H).get? b=none:=PySem.W.hideAll_none (trk h H) hm
  rw [z] at e;cases e
def allNews (g h:Heap)(L:Addr):List (Addr×Obj):=(List.range h.objs.size).filterMap fun a=>if a=L∨(g.get? a).isSome=true then none else (h.get? a).map fun o=>(a,o)
def rest (g h:Heap)(L d:Addr):List (Addr×Obj):=(allNews g h L).filter fun p=>decide (p.1≠d)
end L2
namespace L2
open PySem PySem.Spec PyProof.Rows
structure Mod (K:PySem.W.Frag) (mg:Str→Option Value) (base:Heap):Prop where
 kin:K.In base
 glob:base.Ns mainGlobals mg
 blt:∃ mb,base.Ns builtinsNs mb∧∀ x:Str,x ≠ "__name__"→mb x=bootBuiltins x
 nolimit:base.NoLimit
structure Cx where
 prog:Program
 w:World
 K:PySem.W.Frag
 mg:Str→Option Value
 base:Heap
 A:Around
 N:List Str
 s₀ : Shared
 H₀ : Hp
 env:Env
 outer:List Env
 stack:List Env
 ex:List Addr
 fn:Str→Bool
 calm:Bool
 pn:List (Addr×Obj)
 xe:Value→Shared→Prop
def frs (l:List Env):List Addr:=l.filterMap (·.frame)
abbrev Cx.fs (X:Cx):List Addr:=frs X.outer
def Vis (sc:Scope)(x:Str):Prop:=sc.names.lookup x=some .local∨sc.names.lookup x=some .cell∨sc.names.lookup x=some .free
def Loc (sc:Scope)(x:Str):Prop:=sc.names.lookup x=some .local∨sc.names.lookup x=some .cell
def Look (env:Env)(h:Heap)(m:Str→Option Value)(x:Str)(u:Value):Prop:=
 (env.kindOf x=some .local∧m x=some u)∨((env.kindOf x=some .cell∨env.kindOf x=some .free)∧∃ c,env.cells.lookup x=some c∧h.IsCell c (some u))
def Still (H:Hp)(v:Value):Prop:=∃ (a:Addr) (o:Obj) (u:HO) (vs:Array Value),v=.ref a∧H a=some (.frz o u)∧o.data=.fields vs∧vs[2]?=some .none
def Quiet (A:Around)(H:Hp):Prop:=∀ v,A.handled=some v→Still H v
structure Cx.Ok (X:Cx):Prop where
 mod:Mod X.K X.mg X.base
 kind:X.env.scope.kind=.function
 glob:X.env.globals=mainGlobals
 blt:X.env.builtins=builtinsNs
 above:X.s₀.heap.objs.size≤X.env.locals
 inj:∀ x y c,X.env.cells.lookup x=some c→X.env.cells.lookup y=some c→x=y
 has:∀ x,(X.env.kindOf x=some .cell∨X.env.kindOf x=some .free)→∃ c,X.env.cells.lookup x=some c
 cab:∀ x c,X.fn x=true→X.env.cells.lookup x=some c→X.s₀.heap.objs.size≤c
 hd:X.calm=true→X.A.handled=none
 qt:Quiet X.A X.H₀
 frames:X.A.frames=some X.stack
 stk:X.stack=X.outer∨(X.stack=X.env::X.outer∧X.env.frame=some X.env.locals)
 exf:∀ b∈X.ex,b≠X.env.locals∧∀ x c,X.env.cells.lookup x=some c→c≠b
 bs:∀ b o,X.base.get? b=some o→X.s₀.heap.get? b=some o∧X.H₀ b=none
 bsz:X.base.objs.size≤X.s₀.heap.objs.size
 noex:∀ b o,X.base.get? b=some o→b∉X.ex
 exfs:∀ b∈X.ex,b∉X.fs
 funs:X.s₀.heap.FunFrames X.base X.outer
 frf:∀ b∈X.fs,X.H₀ b=none
structure Inv (X:Cx) (pins:List (Addr×Obj)) (σ : List (Option V)) (H:Hp) (s:Shared):Prop where
 ok:X.Ok
 os:s.os=X.s₀.os
 bare:AllBare s.gens
 base:Un X.fs X.ex X.H₀ H X.s₀.heap s.heap
 loc:∃ m,s.heap.Ns X.env.locals m∧∀ (i:Nat) (x:Str) (v:V),X.N[i]?=some x→σ[i]?=some (some v)→Vis X.env.scope x→∃ u,RelV v u∧Look X.env s.heap m x u
 cell:∀ x c,X.env.cells.lookup x=some c→∃ v,s.heap.IsCell c v
 free:H X.env.locals=none
 freeC:∀ x c,X.env.cells.lookup x=some c→H c=none
 pin:∀ p∈X.pn++pins,s.heap.get? p.1=some p.2∧H p.1=none∧p.1≠X.env.locals∧p.1∉X.fs∧∀ v,p.2.data≠.cell v
 hok:HOk X.prog X.w H s.heap
 len:σ.length=X.N.length
section
variable {X:Cx}{pins:List (Addr×Obj)}{σ : List (Option V)}{H H':Hp}{s:Shared}{h':Heap}
theorem Cx.Ok.nofr (ok:X.Ok){b:Addr}{o:Obj}(e:X.base.get? b=some o):b∉X.fs:=fun hb=>by
 have:=(ok.funs.mem hb).1
 rw [e] at this;cases this
theorem Inv.bs (I:Inv X pins σ H s):∀ b o,X.base.get? b=some o→s.heap.get? b=some o∧H b=none:=fun b o e=>
 ⟨I.base.keep b o (I.ok.bs b o e).1 (I.ok.bs b o e).2 (I.ok.nofr e) (I.ok.noex b o e),I.base.free b o (I.ok.bs b o e).1 (I.ok.bs b o e).2 (I.ok.noex b o e)⟩
theorem Inv.qt0 (I:Inv X pins σ H s):Quiet X.A H:=fun v e=>let ⟨a,o,u,vs,h1,h2,h3⟩:=I.ok.qt v e;⟨a,o,u,vs,h1,I.base.frzs a o u h2,h3⟩
theorem Inv.bk (I:Inv X pins σ H s):∀ b o,X.base.get? b=some o→s.heap.get? b=some o:=fun b o e=>(I.bs b o e).1
theorem Inv.mod (I:Inv X pins σ H s):Mod X.K X.mg X.base:=I.ok.mod
theorem Inv.kIn (I:Inv X pins σ H s):X.K.In s.heap:=I.ok.mod.kin.keeps I.bk
theorem Inv.lt (I:Inv X pins σ H s):X.env.locals<s.heap.objs.size:=let ⟨_,hn,_⟩:=I.loc;hn.lt
theorem Inv.sz (I:Inv X pins σ H s):X.s₀.heap.objs.size≤s.heap.objs.size:=Nat.le_trans I.ok.above (Nat.le_of_lt I.lt)
theorem Inv.nofs (I:Inv X pins σ H s){a:Addr}(h:s.heap.objs.size≤a):a∉X.fs:=fun hb=>by
 obtain ⟨_,o,ho,_⟩:=I.ok.funs.mem hb
 exact absurd (Nat.lt_of_lt_of_le (Heap.lt_size ho) (Nat.le_trans I.sz h)) (Nat.lt_irrefl _)
theorem Inv.cne (I:Inv X pins σ H s):∀ x c,X.env.cells.lookup x=some c→c≠X.env.locals:=fun x c e z=>by
 obtain ⟨v,o,ho,hd⟩:=I.cell x c e
 obtain ⟨m,⟨o',es,ep,ho',hd',_⟩,_⟩:=I.loc
 rw [z,ho'] at ho;cases ho;rw [hd'] at hd;cases hd
theorem Inv.funs (I:Inv X pins σ H s):s.heap.FunFrames X.base X.outer:=by
 have all:∀ (l:List Env),(∀ b∈frs l,b∈X.fs)→X.s₀.heap.FunFrames X.base l→s.heap.FunFrames X.base l:=by
  intro l
  induction l with
  | nil=>intro _ _;trivial
  | cons env r ih=>
   intro hs hl
   obtain ⟨hk,⟨L,o,hf,hn,ho,hd⟩,hr⟩:=hl
   have hL:L∈X.fs:=hs L (by unfold frs;rw [List.filterMap_cons,hf];exact List.mem_cons_self)
   obtain ⟨sl,e⟩:=I.base.slot L o ho (I.ok.frf L hL) hL fun z=>I.ok.exfs L z hL
   exact ⟨hk,⟨L,_,hf,hn,e,hd⟩,ih (fun b hb=>hs b (by unfold frs;rw [List.filterMap_cons,hf];exact List.mem_cons_of_mem _ hb)) hr⟩
 exact all X.outer (fun _ hb=>hb) I.ok.funs
theorem Inv.stack (I:Inv X pins σ H s):s.heap.FunFrames X.base X.stack:=by
 rcases I.ok.stk with e | ⟨e,hf⟩
 ·rw [e];exact I.funs
 ·rw [e]
  obtain ⟨m,hn,_⟩:=I.loc
  refine .cons (by rw [I.ok.kind];decide) hf hn ?_ I.funs
  exact Heap.get?_none_of_le (Nat.le_trans I.ok.bsz I.ok.above)
theorem Inv.stkSub (I:Inv X pins σ H s):∀ b∈frs X.stack,b∈X.env.locals::X.fs:=fun b hb=>by
 rcases I.ok.stk with e | ⟨e,hf⟩
 ·rw [e] at hb;exact List.mem_cons_of_mem _ hb
 ·rw [e] at hb
  unfold frs at hb
  rw [List.filterMap_cons,hf] at hb
  exact hb
theorem Inv.stkFree (I:Inv X pins σ H s):∀ b∈frs X.stack,H b=none:=fun b hb=>by
 rcases List.mem_cons.mp (I.stkSub b hb) with e | hb
 ·rw [e];exact I.free
 ·obtain ⟨_,o,ho,_⟩:=I.ok.funs.mem hb
  exact I.base.free b o ho (I.ok.frf b hb) fun z=>I.ok.exfs b z hb
theorem Inv.stepG {g':Array GenState}{t':Nat}{d':Drawn}{ch:List Addr}(I:Inv X pins σ H s)
  (hch:∀ b∈ch,(b∈X.ex∨X.s₀.heap.get? b=none)∧b≠X.env.locals∧(∀ x c,X.env.cells.lookup x=some c→c≠b)∧∀ p∈X.pn++pins,p.1≠b)
  (keep:∀ b o,b≠X.env.locals→b∉X.fs→b∉ch→s.heap.get? b=some o→H b=none→h'.get? b=some o)
  (slot:∀ b o,b≠X.env.locals→b∈X.fs→b∉ch→s.heap.get? b=some o→H b=none→∃ sl,h'.get? b=some { o with slots:=sl }) (free:∀ b o,b∉ch→s.heap.get? b=some o→H b=none→H' b=none)
  (there:∀ b o,b∉ch→s.heap.get? b=some o→∃ o',h'.get? b=some o')
  (tups:∀ b xs,H b=some (.tup xs)→H' b=some (.tup xs)) (frzs:∀ b o u,H b=some (.frz o u)→H' b=some (.frz o u)) (tbls:∀ b ps,H b=some (.tbl ps)→∃ more,H' b=some (.tbl (ps++more)))
  (ns:∀ m,s.heap.Ns X.env.locals m→h'.Ns X.env.locals m) (hok:HOk X.prog X.w H' h') (hg:AllBare g') :
  Inv X pins σ H' { s with heap:=h',gens:=g',drawn:=d',toks:=t' }:=by
 have neL:∀ b o,X.s₀.heap.get? b=some o→b≠X.env.locals:=fun b o e=>Nat.ne_of_lt (Nat.lt_of_lt_of_le (Heap.lt_size e) I.ok.above)
 have neC:∀ b o,X.s₀.heap.get? b=some o→b∉X.ex→b∉ch:=fun b o e hx hb=>by
  rcases (hch b hb).1 with z | z
  ·exact hx z
  ·rw [z] at e;cases e
 have cellK:∀ x c,X.env.cells.lookup x=some c→∀ v,s.heap.IsCell c v→h'.IsCell c v:=fun x c e v ⟨o,ho,hd⟩=>by
  have nch:c∉ch:=fun z=>(hch c z).2.2.1 x c e rfl
  by_cases hc:c∈X.fs
  ·obtain ⟨sl,q⟩:=slot c o (I.cne x c e) hc nch ho (I.freeC x c e)
   exact ⟨_,q,hd⟩
  ·exact ⟨o,keep c o (I.cne x c e) hc nch ho (I.freeC x c e),hd⟩
 refine ⟨I.ok,I.os,hg,⟨fun b o e n hb hx=>?_,fun b o e n hb hx=>?_,fun b o e n hx=>?_,fun b o e hx=>?_,fun b xs e=>tups b xs (I.base.tups b xs e),fun b o xs e=>frzs b o xs (I.base.frzs b o xs e),fun b ps e=>?_⟩,?_,fun x c e=>?_,?_,fun x c e=>?_,fun p hp=>?_,hok,I.len⟩
 ·exact keep b o (neL b o e) hb (neC b o e hx) (I.base.keep b o e n hb hx) (I.base.free b o e n hx)
 ·obtain ⟨sl,e1⟩:=I.base.slot b o e n hb hx
  obtain ⟨sl',e2⟩:=slot b _ (neL b o e) hb (neC b o e hx) e1 (I.base.free b o e n hx)
  exact ⟨sl',e2⟩
 ·obtain ⟨o',e1⟩:=I.base.there b o e hx
  exact free b o' (neC b o e hx) e1 (I.base.free b o e n hx)
 ·obtain ⟨o',e1⟩:=I.base.there b o e hx
  exact there b o' (neC b o e hx) e1
 ·obtain ⟨m1,e1⟩:=I.base.tbls b ps e
  obtain ⟨m2,e2⟩:=tbls b _ e1
  exact ⟨m1++m2,by rw [e2,Array.append_assoc]⟩
 ·obtain ⟨m,hn,hl⟩:=I.loc
  refine ⟨m,ns m hn,fun i x v e1 e2 e3=>?_⟩
  obtain ⟨u,r,l⟩:=hl i x v e1 e2 e3
  refine ⟨u,r,?_⟩
  rcases l with l | ⟨k,c,e,z⟩
  ·exact .inl l
  ·exact .inr ⟨k,c,e,cellK x c e _ z⟩
 ·obtain ⟨v,z⟩:=I.cell x c e
  exact ⟨v,cellK x c e v z⟩
 ·obtain ⟨m,⟨o,_,_,ho,_⟩,_⟩:=I.loc
  exact free _ o (fun z=>(hch _ z).2.1 rfl) ho I.free
 ·obtain ⟨v,o,ho,hd⟩:=I.cell x c e
  exact free c o (fun z=>(hch c z).2.2.1 x c e rfl) ho (I.freeC x c e)
 ·obtain ⟨e,n,ne,nf,d⟩:=I.pin p hp
  have nch:p.1∉ch:=fun z=>(hch p.1 z).2.2.2 p hp rfl
  exact ⟨keep p.1 p.2 ne nf nch e n,free p.1 p.2 nch e n,ne,nf,d⟩
theorem Inv.step {g':Array GenState}{t':Nat}{d':Drawn}{ch:List Addr}(I:Inv X pins σ H s)
  (hch:∀ b∈ch,(b∈X.ex∨X.s₀.heap.objs.size≤b)∧b≠X.env.locals∧(∀ x c,X.env.cells.lookup x=some c→c≠b)∧∀ p∈X.pn++pins,p.1≠b)
  (keep:∀ b o,b≠X.env.locals→b∉X.fs→b∉ch→s.heap.get? b=some o→H b=none→h'.get? b=some o)
  (slot:∀ b o,b≠X.env.locals→b∈X.fs→b∉ch→s.heap.get? b=some o→H b=none→∃ sl,h'.get? b=some { o with slots:=sl }) (free:∀ b o,b∉ch→s.heap.get? b=some o→H b=none→H' b=none)
  (there:∀ b o,b∉ch→s.heap.get? b=some o→∃ o',h'.get? b=some o')
  (tups:∀ b xs,H b=some (.tup xs)→H' b=some (.tup xs)) (frzs:∀ b o u,H b=some (.frz o u)→H' b=some (.frz o u)) (tbls:∀ b ps,H b=some (.tbl ps)→∃ more,H' b=some (.tbl (ps++more)))
  (ns:∀ m,s.heap.Ns X.env.locals m→h'.Ns X.env.locals m) (hok:HOk X.prog X.w H' h') (hg:AllBare g') :
  Inv X pins σ H' { s with heap:=h',gens:=g',drawn:=d',toks:=t' }:=
 I.stepG (ch:=ch) (fun b z=>⟨(hch b z).1.imp id fun q=>Heap.get?_none_of_le q,(hch b z).2⟩) keep slot free there tups frzs tbls ns hok hg
theorem Inv.un {t':Nat}(I:Inv X pins σ H s)(u:Un X.fs [] H H' s.heap h')(hok:HOk X.prog X.w H' h'):Inv X pins σ H' { s with heap:=h',toks:=t' }:=by
 obtain ⟨m,⟨o,es,ep,ho,r⟩,_⟩:=id I.loc
 obtain ⟨sl,hL⟩:=u.any ho I.free (by simp)
 exact I.step (g':=s.gens) (d':=s.drawn) (ch:=[]) (fun _ z=>nomatch z) (fun b o _ hb _ e n=>u.keep b o e n hb (by simp)) (fun b o _ hb _ e n=>u.slot b o e n hb (by simp)) (fun b o _ e n=>u.free b o e n (by simp)) (fun b o _ e=>u.there b o e (by simp)) u.tups u.frzs u.tbls (fun m' hm=>by
  obtain ⟨o',es',ep',ho',r'⟩:=hm
  rw [ho] at ho';cases ho'
  exact ⟨_,es',ep',hL,r'⟩) hok I.bare
theorem Inv.call {g':Array GenState}{t':Nat}{d':Drawn}{ch:List Addr}(I:Inv X pins σ H s)(u:Un (frs X.stack) ch H H' s.heap h')(hok:HOk X.prog X.w H' h')(hg:AllBare g')
  (hch:∀ b∈ch,(b∈X.ex∨X.s₀.heap.objs.size≤b)∧b≠X.env.locals∧(∀ x c,X.env.cells.lookup x=some c→c≠b)∧∀ p∈X.pn++pins,p.1≠b) :
  Inv X pins σ H' { s with heap:=h',gens:=g',drawn:=d',toks:=t' }:=by
 obtain ⟨m,⟨o,es,ep,ho,r⟩,_⟩:=id I.loc
 obtain ⟨sl,hL⟩:=u.any ho I.free fun z=>(hch _ z).2.1 rfl
 exact I.step (ch:=ch) hch (fun b o hL hb hc e n=>u.keep b o e n (fun z=>(List.mem_cons.mp (I.stkSub b z)).elim hL hb) hc) (fun b o _ _ hc e n=>u.any e n hc) (fun b o hc e n=>u.free b o e n hc) (fun b o hc e=>u.there b o e hc) u.tups u.frzs u.tbls (fun m' hm=>by
  obtain ⟨o',es',ep',ho',r'⟩:=hm
  rw [ho] at ho';cases ho'
  exact ⟨_,es',ep',hL,r'⟩) hok hg
theorem Inv.turned {t':Nat}{it:Addr}(I:Inv X pins σ H s)(k:∀ b o,b≠it→s.heap.get? b=some o→h'.get? b=some o)(hn:H it=none)(hL:it≠X.env.locals)
  (h1:it∈X.ex∨X.s₀.heap.objs.size≤it) (h2:∀ x c,X.env.cells.lookup x=some c→c≠it) (h3:∀ p∈X.pn++pins,p.1≠it):Inv X pins σ H { s with heap:=h',toks:=t' }:=by
 have nit:∀ b u,H b=some u→b≠it:=fun b u e z=>by rw [z,hn] at e;cases e
 refine I.step (g':=s.gens) (d':=s.drawn) (ch:=[it]) (fun b hb=>?_) (fun b o _ _ hc e _=>k b o (fun z=>hc (by simp [z])) e) (fun b o _ _ hc e _=>⟨o.slots,k b o (fun z=>hc (by simp [z])) e⟩) (fun _ _ _ _ n=>n)
  (fun b o hc e=>⟨o,k b o (fun z=>hc (by simp [z])) e⟩) (fun _ _ e=>e) (fun _ _ _ e=>e) (fun b ps e=>⟨#[],by rw [e];simp⟩) (fun m hm=>?_) (fun b u e=>?_) I.bare
 ·have e:b=it:=by simpa using hb
  subst e
  exact ⟨h1,hL,h2,h3⟩
 ·obtain ⟨o,es,ep,ho,r⟩:=hm
  exact ⟨o,es,ep,k _ o (Ne.symm hL) ho,r⟩
 ·refine (I.hok b u e).stay (fun c v hc q=>k c v ?_ q) (fun _ q=>q) fun _ _ q=>q
  rcases hc with z | z
  ·rw [z];exact nit b u e
  ·exact nit c _ z
theorem Inv.tok (I:Inv X pins σ H s)(t:Nat):Inv X pins σ H { s with toks:=t }:=I.un (h':=s.heap) (t':=t) Un.refl I.hok
theorem Inv.kept {t':Nat}(I:Inv X pins σ H s)(k:∀ b u,s.heap.get? b=some u→h'.get? b=some u):Inv X pins σ H { s with heap:=h',toks:=t' }:=I.un (Un.kept k) (I.hok.kept k)
theorem Inv.laid {a:Addr}{o:HO}{t':Nat}(I:Inv X pins σ H s)(k:∀ b u,s.heap.get? b=some u→h'.get? b=some u)(hp:s.heap.objs.size≤a)(new:cU X.prog X.w (upd H a o) h' a o) :
  Inv X pins σ (upd H a o) { s with heap:=h',toks:=t' }:=I.un (Un.laid k hp (I.hok.fresh hp)) (I.hok.laid k hp new)
theorem Inv.write {x e:Addr}{o:HO}{t':Nat}(I:Inv X pins σ H s)(mu:Mut (H x))(he:e=x∨H e=some (.own x))(k:∀ b u,b≠e→s.heap.get? b=some u→h'.get? b=some u)(heo:∃ u,h'.get? e=some u)
  (new:cU X.prog X.w (upd H x o) h' x o):Inv X pins σ (upd H x o) { s with heap:=h',toks:=t' }:=I.un (Un.write mu he k heo) (I.hok.write mu he k heo new)
theorem Inv.weak {σ':List (Option V)}(I:Inv X pins σ H s)(hl:σ'.length = σ.length)(w:∀ (i:Nat) v,σ'[i]?=some (some v)→σ[i]?=some (some v)):Inv X pins σ' H s:=
 ⟨I.ok,I.os,I.bare,I.base,let ⟨m,hn,hl'⟩:=I.loc;⟨m,hn,fun i x v e1 e2 e3=>hl' i x v e1 (w i v e2) e3⟩,I.cell,I.free,I.freeC,I.pin,I.hok,hl.trans I.len⟩
theorem Inv.pins_of {pins':List (Addr×Obj)}(I:Inv X pins σ H s)(h:∀ p∈pins',s.heap.get? p.1=some p.2∧H p.1=none∧p.1≠X.env.locals∧p.1∉X.fs∧∀ v,p.2.data≠.cell v):Inv X pins' σ H s:=
 ⟨I.ok,I.os,I.bare,I.base,I.loc,I.cell,I.free,I.freeC,fun p hp=>(List.mem_append.mp hp).elim (fun z=>I.pin p (List.mem_append_left _ z)) (h p),I.hok,I.len⟩
theorem vd {N:List Str}(hN:N.Nodup){i j:Nat}{x:Str}(a:N[i]?=some x)(b:N[j]?=some x):i=j:=by
 obtain ⟨h1,e1⟩:=List.getElem?_eq_some_iff.mp a
 obtain ⟨h2,e2⟩:=List.getElem?_eq_some_iff.mp b
 exact (List.getElem_inj hN).mp (e1.trans e2.symm)
theorem sG {M:Model}{A:Around}{E:Value→Shared→Prop}{i:Nat}{x:Str}{v:V}{u:Value}{Q:Unit→Shared→Prop}(I:Inv X pins σ H s)(hN:X.N.Nodup)(hi:X.N[i]?=some x)(hx:Loc X.env.scope x)(r:RelV v u)
  (h:∀ s',Inv X pins (σ.set i (some v)) H s'→(∃ a,Heap.SameBut a s.heap s'.heap∧(a=X.env.locals∨X.env.cells.lookup x=some a))→Q () s') (hf:X.fn x=true∨X.env.scope.names.lookup x=some .local:=by first | exact .inl rfl | exact .inr rfl | assumption):wpAny M A (storeName X.env x u) Q E s:=by
 obtain ⟨m,hn,hl⟩:=id I.loc
 have hcls:(X.env.scope.kind==.class||(X.env.scope.kind==.module&&X.env.locals != X.env.globals))=false:=by rw [I.ok.kind];rfl
 have hiσ : i < σ.length:=by rw [I.len];exact (List.getElem?_eq_some_iff.mp hi).1
 have cne:=I.cne
 have tracked:∀ {a:Addr} {h':Heap},(∃ o,s.heap.get? a=some o∧H a=none)→Heap.SameBut a s.heap h'→HOk X.prog X.w H h':=fun {a h'} ha hs b ob e=>by
  obtain ⟨_,_,hfree⟩:=ha
  refine (I.hok b ob e).stay (fun c w' hc q=>(hs.2 c ?_).trans q) (fun _ q=>q) fun _ _ q=>q
  rintro rfl
  rcases hc with rfl | hc
  ·rw [hfree] at e;cases e
  ·rw [hfree] at hc;cases hc
 rcases hx with hk | hk
 ·refine wpAny_storeName_local hk hn (fun h' hn' hs=>?_) hcls
  obtain ⟨oL,_,_,hoL,_⟩:=id hn
  refine h _ ⟨I.ok,I.os,I.bare,⟨fun b o e n hb hx=>?_,fun b o e n hb hx=>?_,I.base.free,fun b o e hx=>?_,I.base.tups,I.base.frzs,I.base.tbls⟩,⟨_,hn',fun j y v' e1 e2 e3=>?_⟩,fun y c e=>?_,I.free,I.freeC,fun p hp=>?_,tracked ⟨oL,hoL,I.free⟩ hs,by simpa using I.len⟩ ⟨_,hs,.inl rfl⟩
  ·exact (hs.2 b (Nat.ne_of_lt (Nat.lt_of_lt_of_le (Heap.lt_size e) I.ok.above))).trans (I.base.keep b o e n hb hx)
  ·obtain ⟨sl,e1⟩:=I.base.slot b o e n hb hx
   exact ⟨sl,(hs.2 b (Nat.ne_of_lt (Nat.lt_of_lt_of_le (Heap.lt_size e) I.ok.above))).trans e1⟩
  ·obtain ⟨o',e1⟩:=I.base.there b o e hx
   exact ⟨o',(hs.2 b (Nat.ne_of_lt (Nat.lt_of_lt_of_le (Heap.lt_size e) I.ok.above))).trans e1⟩
  ·by_cases hj:j=i
   ·subst hj
    rw [hi] at e1;cases e1
    rw [List.getElem?_set_self hiσ] at e2
    cases e2
    exact ⟨u,r,.inl ⟨hk,by simp⟩⟩
   ·rw [List.getElem?_set_ne (Ne.symm hj)] at e2
    obtain ⟨u',r',q⟩:=hl j y v' e1 e2 e3
    refine ⟨u',r',?_⟩
    rcases q with ⟨k,e⟩ | ⟨k,c,e,z⟩
    ·refine .inl ⟨k,?_⟩
     have:y≠x:=fun e=>hj (vd hN e1 (e ▸ hi))
     simp [this,e]
    ·exact .inr ⟨k,c,e,z.sameBut hs (cne y c e)⟩
  ·obtain ⟨w',z⟩:=I.cell y c e
   exact ⟨w',z.sameBut hs (cne y c e)⟩
  ·obtain ⟨e,n,ne,nf,d⟩:=I.pin p hp
   exact ⟨(hs.2 p.1 ne).trans e,n,ne,nf,d⟩
 ·have hfn:X.fn x=true:=by
   rcases hf with z | z
   ·exact z
   ·rw [z] at hk;cases hk
  obtain ⟨c,hc⟩:=I.ok.has x (.inl hk)
  obtain ⟨w',z⟩:=I.cell x c hc
  refine wpAny_storeName_cell I.ok.kind hk hc z (fun h' hc' hs=>?_)
  obtain ⟨oc,hoc,hocd⟩:=id z
  refine h { s with heap:=h' } ⟨I.ok,I.os,I.bare,⟨fun b o e n hb hx=>?_,fun b o e n hb hx=>?_,I.base.free,fun b o e hx=>?_,I.base.tups,I.base.frzs,I.base.tbls⟩,⟨m,hn.sameBut hs (Ne.symm (cne x c hc)),fun j y v' e1 e2 e3=>?_⟩,fun y c' e=>?_,I.free,I.freeC,fun p hp=>?_,tracked ⟨oc,hoc,I.freeC x c hc⟩ hs,by simpa using I.len⟩ ⟨c,hs,.inr hc⟩
  ·exact (hs.2 b (Nat.ne_of_lt (Nat.lt_of_lt_of_le (Heap.lt_size e) (I.ok.cab x c hfn hc)))).trans (I.base.keep b o e n hb hx)
  ·obtain ⟨sl,e1⟩:=I.base.slot b o e n hb hx
   exact ⟨sl,(hs.2 b (Nat.ne_of_lt (Nat.lt_of_lt_of_le (Heap.lt_size e) (I.ok.cab x c hfn hc)))).trans e1⟩
  ·obtain ⟨o',e1⟩:=I.base.there b o e hx
   exact ⟨o',(hs.2 b (Nat.ne_of_lt (Nat.lt_of_lt_of_le (Heap.lt_size e) (I.ok.cab x c hfn hc)))).trans e1⟩
  ·by_cases hj:j=i
   ·subst hj
    rw [hi] at e1;cases e1
    rw [List.getElem?_set_self hiσ] at e2
    cases e2
    exact ⟨u,r,.inr ⟨.inl hk,c,hc,hc'⟩⟩
   ·rw [List.getElem?_set_ne (Ne.symm hj)] at e2
    obtain ⟨u',r',q⟩:=hl j y v' e1 e2 e3
    refine ⟨u',r',?_⟩
    rcases q with q | ⟨k,c',e,z'⟩
    ·exact .inl q
    ·refine .inr ⟨k,c',e,z'.sameBut hs ?_⟩
     rintro rfl
     exact hj (vd hN e1 (I.ok.inj _ _ _ e hc ▸ hi))
  ·by_cases hcc:c'=c
   ·subst hcc;exact ⟨_,hc'⟩
   ·obtain ⟨w2,z2⟩:=I.cell y c' e
    exact ⟨w2,z2.sameBut hs hcc⟩
  ·obtain ⟨e,n,ne,nf,d⟩:=I.pin p hp
   refine ⟨(hs.2 p.1 ?_).trans e,n,ne,nf,d⟩
   intro q
   rw [q,hoc] at e
   have q':oc=p.2:=Option.some.inj e
   exact d w' (by rw [←q'];exact hocd)
theorem ji {M:Model}{A:Around}{E:Value→Shared→Prop}{i:Nat}{x:Str}{v:V}{u:Value}{Q:Unit→Shared→Prop}(I:Inv X pins σ H s)(hN:X.N.Nodup)(hi:X.N[i]?=some x)(hx:Loc X.env.scope x)(r:RelV v u)
  (h:∀ s',Inv X pins (σ.set i (some v)) H s'→Q () s') (hf:X.fn x=true∨X.env.scope.names.lookup x=some .local:=by first | exact .inl rfl | exact .inr rfl | assumption):wpAny M A (storeName X.env x u) Q E s:=
 sG I hN hi hx r (fun s' I' _=>h s' I') hf
theorem Inv.call' {s':Shared}{ch:List Addr}(I:Inv X pins σ H s)(ho:s'.os=s.os)(u:Un (frs X.stack) ch H H' s.heap s'.heap)(hok:HOk X.prog X.w H' s'.heap)(hg:AllBare s'.gens)
  (hch:∀ b∈ch,(b∈X.ex∨X.s₀.heap.objs.size≤b)∧b≠X.env.locals∧(∀ x c,X.env.cells.lookup x=some c→c≠b)∧∀ p∈X.pn++pins,p.1≠b):Inv X pins σ H' s':=by
 obtain ⟨h',g',d',t',o'⟩:=s'
 have e:o'=s.os:=ho
 subst e
 exact I.call (g':=g') (t':=t') (d':=d') u hok hg hch
end
abbrev XK:=Value→Option Addr→Hp→Prop
abbrev St:=List (Option V)
abbrev VK:=V→Hp→Prop
abbrev TE:=St→Hp→VK→Prop
abbrev TT:=St→Hp→(Bool→Hp→Prop)→Prop
abbrev TA:=St→Hp→(List V→Hp→Prop)→Prop
structure Ends where
 nx:St→Hp→Prop
 rt:VK
 bk:St→Hp→Prop:=fun _ _=>False
 ct:St→Hp→Prop:=fun _ _=>False
abbrev TS:=Ends→St→Hp→Prop
def EP (X:Cx)(pins:List (Addr×Obj))(σ : St)(Q:VK)(u:Value)(s':Shared):Prop:=∃ v H',Inv X pins σ H' s'∧RelV v u∧Q v H'
def TP (X:Cx)(pins:List (Addr×Obj))(σ : St)(Q:Bool→Hp→Prop)(b:Bool)(s':Shared):Prop:=∃ H',Inv X pins σ H' s'∧Q b H'
def AP (X:Cx)(pins:List (Addr×Obj))(σ : St)(Q:List V→Hp→Prop)(us:List Value)(s':Shared):Prop:=∃ vs H',Inv X pins σ H' s'∧Vals vs us∧Q vs H'
def SP (X:Cx)(pins:List (Addr×Obj))(D:Ends)(f:Flow)(s':Shared):Prop:=
 match f with
 | .next=>∃ σ' H',Inv X pins σ' H' s'∧D.nx σ' H'
 | .brk=>∃ σ' H',Inv X pins σ' H' s'∧D.bk σ' H'
 | .cont=>∃ σ' H',Inv X pins σ' H' s'∧D.ct σ' H'
 | .ret u=>∃ v σ' H',Inv X pins σ' H' s'∧RelV v u∧D.rt v H'
def PE (X:Cx)(e:Expr)(t:TE):Prop:=
 ∀ (pins:List (Addr×Obj)) (s:Shared) (σ : St) (H:Hp) (Q:VK),Inv X pins σ H s→t σ H Q→wpAny (model X.prog X.w) X.A (eval e X.env) (EP X pins σ Q) X.xe s
def PT (X:Cx)(e:Expr)(t:TT):Prop:=
 ∀ (pins:List (Addr×Obj)) (s:Shared) (σ : St) (H:Hp) (Q:Bool→Hp→Prop),Inv X pins σ H s→t σ H Q→wpAny (model X.prog X.w) X.A (isTrue e X.env (eval e X.env)) (TP X pins σ Q) X.xe s
def PW (X:Cx)(e:Expr)(t:TT):Prop:=
 ∀ (whole:Sem Value) (pins:List (Addr×Obj)) (s:Shared) (σ : St) (H:Hp) (Q:Bool→Hp→Prop),Inv X pins σ H s→t σ H Q→wpAny (model X.prog X.w) X.A (isTrue e X.env whole) (TP X pins σ Q) X.xe s
theorem PW.pt {X:Cx}{e:Expr}{t:TT}(h:PW X e t):PT X e t:=h _
def PA (X:Cx)(es:List Expr)(t:TA):Prop:=
 ∀ (pos:Pos) (pins:List (Addr×Obj)) (s:Shared) (σ : St) (H:Hp) (Q:List V→Hp→Prop),Inv X pins σ H s→t σ H Q→wpAny (model X.prog X.w) X.A (spliced (backTo pos (starEach es X.env))) (AP X pins σ Q) X.xe s
def PS (X:Cx)(st:Stmt)(t:TS):Prop:=
 ∀ (pins:List (Addr×Obj)) (s:Shared) (σ : St) (H:Hp) (D:Ends),Inv X pins σ H s→t D σ H→wpAny (model X.prog X.w) X.A (exec st X.env) (SP X pins D) X.xe s
def PSs (X:Cx)(st:List Stmt)(t:TS):Prop:=
 ∀ (pins:List (Addr×Obj)) (s:Shared) (σ : St) (H:Hp) (D:Ends),Inv X pins σ H s→t D σ H→wpAny (model X.prog X.w) X.A (execs st X.env) (SP X pins D) X.xe s
theorem thn {α : Type}{t:Sem α}{Q Q':α→Shared→Prop}{M:Model}{A:Around}{E:Value→Shared→Prop}{s:Shared}(h:wpAny M A t Q E s)(hQ:∀ a s,Q a s→Q' a s):wpAny M A t Q' E s:=wpAny_mono h hQ fun _ _ x=>x
end L2
namespace L2
open PySem PySem.Spec PyProof.Rows
section
variable {X:Cx}
def tVar (i:Nat):TE:=fun σ H Q=>∃ v,σ[i]?=some (some v)∧Q v H
def tC (v:V):TE:=fun _ H Q=>Q v H
theorem pe_var {i:Nat}{x:Str}{pos:Pos}(hN:X.N[i]?=some x)(hv:Vis X.env.scope x)(hd:(x==("__debug__" : Str))=false:=by decide)(hcd:(x==("__classdict__" : Str))=false:=by decide):PE X (.Name x pos) (tVar i):=by
 intro pins s σ H Q I h
 obtain ⟨v,e,h⟩:=h
 obtain ⟨m,hn,hl⟩:=I.loc
 obtain ⟨u,r,l⟩:=hl i x v hN e hv
 have fin:EP X pins σ Q u s:=⟨v,H,I,r,h⟩
 rcases l with ⟨hk,hm⟩ | ⟨hk,c,hc,hcell⟩
 ·exact wpAny_Name (wpAny_loadName_local I.ok.kind hk hn hm fin) hd
 ·rcases hk with hk | hk
  ·exact wpAny_Name (wpAny_loadName_cell I.ok.kind hk hc hcell fin) hd
  ·exact wpAny_Name (wpAny_loadName_free I.ok.kind hk hc hcell fin hcd) hd
theorem pe_int {i j pos}:PE X (.Constant (.int i) j pos) (tC (.int i)):=fun _ _ _ H _ I h=>wpAny_Constant_int ⟨.int i,H,I.tok _,⟨_,rfl⟩,h⟩
theorem pe_bl {b j pos}:PE X (.Constant (.bool b) j pos) (tC (.bl b)):=fun _ _ _ H _ I h=>Constant_bool ⟨.bl b,H,I,rfl,h⟩
theorem pe_non {j pos}:PE X (.Constant .none j pos) (tC .non):=fun _ _ _ H _ I h=>Constant_none ⟨.non,H,I,rfl,h⟩
theorem vD {x j pos}:PE X (.Constant (.str x) j pos) (tC (.str x)):=fun _ _ _ H _ I h=>Calls.Constant_str ⟨.str x,H,I.tok _,⟨_,rfl⟩,h⟩
def Gl (X:Cx)(x:Str):Prop:=X.env.kindOf x=some .globalImplicit
theorem lH {E:Value→Shared→Prop}{pins:List (Addr×Obj)}{s:Shared}{σ : St}{H:Hp}{x:Str}{u:Value}{pos:Pos}{Q:Value→Shared→Prop}(I:Inv X pins σ H s)(hg:Gl X x)(hm:X.mg x=some u)(h:Q u s)
  (hd:(x==("__debug__" : Str))=false:=by decide):wpAny (model X.prog X.w) X.A (eval (.Name x pos) X.env) Q E s:=
 Calls.Name_function_global I.ok.kind hg (Calls.loadGlobal_global (by rw [I.ok.glob];exact I.mod.glob.keeps I.bk) hm h) hd
theorem rm {E:Value→Shared→Prop}{pins:List (Addr×Obj)}{s:Shared}{σ : St}{H:Hp}{x:Str}{u:Value}{pos:Pos}{Q:Value→Shared→Prop}(I:Inv X pins σ H s)(hg:Gl X x)(hm:X.mg x=none)(hv:bootBuiltins x=some u)(h:Q u s)
  (hn:x ≠ "__name__":=by decide) (hd:(x==("__debug__" : Str))=false:=by decide):wpAny (model X.prog X.w) X.A (eval (.Name x pos) X.env) Q E s:=by
 obtain ⟨mb,h1,h2⟩:=I.mod.blt
 exact Calls.Name_function_global I.ok.kind hg (Calls.loadGlobal_builtin (by rw [I.ok.glob];exact I.mod.glob.keeps I.bk) hm (by rw [I.ok.blt];exact h1.keeps I.bk) ((h2 x hn).trans hv) h) hd
theorem eU {x:Str}{v:V}{u:Value}{pos:Pos}(hg:Gl X x)(hm:X.mg x=some u)(r:RelV v u)(hd:(x==("__debug__" : Str))=false:=by decide):PE X (.Name x pos) (tC v):=
 fun _ _ _ H _ I h=>lH I hg hm ⟨v,H,I,r,h⟩ hd
theorem dX {x:Str}{v:V}{u:Value}{pos:Pos}(hg:Gl X x)(hm:X.mg x=none)(hv:bootBuiltins x=some u)(r:RelV v u)(hn:x ≠ "__name__":=by decide)(hd:(x==("__debug__" : Str))=false:=by decide):PE X (.Name x pos) (tC v):=
 fun _ _ _ H _ I h=>rm I hg hm hv ⟨v,H,I,r,h⟩ hn hd
variable {a b:Expr}{ta tb:TE}{pos:Pos}
def PC (X:Cx)(op:CmpOp)(a b:Expr)(t:TE):Prop:=
 ∀ (pins:List (Addr×Obj)) (s:Shared) (σ : St) (H:Hp) (Q:VK),Inv X pins σ H s→t σ H Q →
  wpAny (model X.prog X.w) X.A (eval a X.env) (fun v s₁=>wpAny (model X.prog X.w) X.A (eval b X.env) (fun u s₂=>wpAny (model X.prog X.w) X.A (compareOp op v u) (EP X pins σ Q) X.xe s₂) X.xe s₁) X.xe s
theorem nobehind (b:Expr){op:CmpOp}(h:op≠.In)(h2:op≠.NotIn):behindInMarks op b=false:=by
 have e1:(op==CmpOp.In)=false:=by cases op <;> first | rfl | exact absurd rfl h
 have e2:(op==CmpOp.NotIn)=false:=by cases op <;> first | rfl | exact absurd rfl h2
 cases b <;> simp [behindInMarks,e1,e2]
def tB (t:TE):TT:=fun σ H Q=>t σ H fun x H1=>∃ c,x=.bl c∧Q c H1
theorem pt_cmp {op:CmpOp}{t:TE}(h:PC X op a b t)(h1:behindInMarks op b=false:=by first | exact nobehind _ (by decide) (by decide) | rfl):PT X (.Compare a [op] [b] pos) (tB t):=by
 intro pins s σ H Q I hw
 refine wpAny_isTrue_Compare1 (thn (h pins s σ H _ I hw) fun v s1 h1=>thn h1 fun u s2 h2=>thn h2 fun c s3 ⟨x,H1,I1,r1,q1⟩=>?_) h1
 obtain ⟨d,rfl,q⟩:=q1
 cases r1
 exact wpAny_truthy_bool ⟨H1,I1,q⟩
variable {tA tB':TT}{rest:List Expr}
def tAnd (t u:TT):TT:=fun σ H Q=>t σ H fun c H1=>if c=true then u σ H1 Q else Q false H1
def tOr (t u:TT):TT:=fun σ H Q=>t σ H fun c H1=>if c=true then Q true H1 else u σ H1 Q
def tNot (t:TT):TT:=fun σ H Q=>t σ H fun c H1=>Q (!c) H1
theorem pw_and1 (ha:PT X a tA):PW X (.BoolOp .And [a] pos) tA:=by
 intro wh pins s σ H Q I h
 refine isTrue_and (thn (ha pins s σ H Q I h) fun c s1 e=>?_)
 cases c with
 | true=>exact isTrue_and_nil e
 | false=>exact e
theorem pw_or1 (ha:PT X a tA):PW X (.BoolOp .Or [a] pos) tA:=by
 intro wh pins s σ H Q I h
 refine isTrue_or (thn (ha pins s σ H Q I h) fun c s1 e=>?_)
 cases c with
 | false=>exact isTrue_or_nil e
 | true=>exact e
theorem pw_and (ha:PT X a tA)(hb:PW X (.BoolOp .And (b::rest) pos) tB'):PW X (.BoolOp .And (a::b::rest) pos) (tAnd tA tB'):=by
 intro wh pins s σ H Q I h
 refine isTrue_and (thn (ha pins s σ H _ I h) fun c s1 ⟨H1,I1,q1⟩=>?_)
 cases c with
 | true=>exact hb wh pins s1 σ H1 Q I1 q1
 | false=>exact ⟨H1,I1,q1⟩
theorem pw_or (ha:PT X a tA)(hb:PW X (.BoolOp .Or (b::rest) pos) tB'):PW X (.BoolOp .Or (a::b::rest) pos) (tOr tA tB'):=by
 intro wh pins s σ H Q I h
 refine isTrue_or (thn (ha pins s σ H _ I h) fun c s1 ⟨H1,I1,q1⟩=>?_)
 cases c with
 | true=>exact ⟨H1,I1,q1⟩
 | false=>exact hb wh pins s1 σ H1 Q I1 q1
theorem pt_not (ha:PT X a tA):PT X (.UnaryOp .Not a pos) (tNot tA):=by
 intro pins s σ H Q I h
 exact isTrue_not (ha pins s σ H (fun c H1=>Q (!c) H1) I h)
def tAndV (ta tb:TE):TE:=fun σ H Q=>ta σ H fun x H1=>∃ c,x=.bl c∧if c=true then tb σ H1 Q else Q (.bl false) H1
def tNotV (ta:TE):TE:=fun σ H Q=>ta σ H fun x H1=>∃ c,x=.bl c∧Q (.bl (!c)) H1
theorem pe_one {op}{t:TE}(h:PE X a t):PE X (.BoolOp op [a] pos) t:=fun pins s σ H Q I hw=>BoolOp_one (h pins s σ H Q I hw)
theorem pe_and (ha:PE X a ta)(hb:PE X (.BoolOp .And (b::rest) pos) tb):PE X (.BoolOp .And (a::b::rest) pos) (tAndV ta tb):=by
 intro pins s σ H Q I h
 refine BoolOp_and (thn (ha pins s σ H _ I h) fun v s1 ⟨x,H1,I1,r1,q1⟩=>?_)
 obtain ⟨c,rfl,q1⟩:=q1
 cases r1
 refine wpAny_truthy_bool ?_
 cases c with
 | true=>exact hb pins s1 σ H1 Q I1 q1
 | false=>exact ⟨.bl false,H1,I1,rfl,q1⟩
theorem pe_not (ha:PE X a ta):PE X (.UnaryOp .Not a pos) (tNotV ta):=by
 intro pins s σ H Q I h
 refine UnaryOp_ (thn (ha pins s σ H _ I h) fun v s1 ⟨x,H1,I1,r1,q1⟩=>?_)
 obtain ⟨c,rfl,q1⟩:=q1
 cases r1
 exact not_of (wpAny_truthy_bool ⟨.bl (!c),H1,I1,rfl,q1⟩)
end
end L2
namespace L2
open PySem PySem.Spec PyProof.Rows
def SqL (K:PySem.W.Frag)(H:Hp)(a:Addr)(xs:List V):Prop:=
 Rd H a (.lst xs) ∨
  ∃ (o:Obj) (its:Array Value) (n:Nat),K.lookup a=some o∧o.cls=.type "list"∧o.dict=none∧o.data=.seq its n∧its.size≤sizeLine∧Vals xs its.toList
def SqT (K:PySem.W.Frag)(H:Hp)(a:Addr)(xs:List V):Prop:=
 Rd H a (.tup xs) ∨
  ∃ (o:Obj) (its:Array Value) (n:Nat),K.lookup a=some o∧o.cls=.type "tuple"∧o.data=.seq its n∧its.size≤sizeLine∧Vals xs its.toList
def absV:Value→Option V
 | .none=>some .non
 | .bool b=>some (.bl b)
 | .int i _=>some (.int i)
 | .str x _=>some (.str x)
 | .bytes b _=>some (.byt b)
 | .float b _=>some (.flt b)
 | .ref a=>some (.ref a)
 | .type n=>some (.ty n)
 | _=>none
theorem RelV.abs {x:V}{u:Value}(r:RelV x u):absV u=some x:=by
 cases x with
 | non=>cases r;rfl
 | bl _=>cases r;rfl
 | int _=>obtain ⟨t,rfl⟩:=r;rfl
 | str _=>obtain ⟨t,rfl⟩:=r;rfl
 | byt _=>obtain ⟨t,rfl⟩:=r;rfl
 | flt _=>obtain ⟨t,rfl⟩:=r;rfl
 | ref _=>cases r;rfl
 | ty _=>cases r;rfl
theorem RelV.inj {x y:V}{u:Value}(r:RelV x u)(q:RelV y u):x=y:=Option.some.inj (r.abs.symm.trans q.abs)
theorem Vals.inj:∀ {xs ys:List V} {us:List Value},Vals xs us→Vals ys us→xs=ys
 | _,_,_,.nil,.nil=>rfl
 | _,_,_,.cons r t,.cons r' t'=>by rw [r.inj r',Vals.inj t t']
section
variable {X:Cx}{pins:List (Addr×Obj)}{σ : St}{H:Hp}{s:Shared}{a:Addr}{xs ys:List V}
theorem SqL.of {K:PySem.W.Frag}(h:H a=some (.lst xs)):SqL K H a xs:=.inl (.inl h)
theorem SqT.of {K:PySem.W.Frag}(h:H a=some (.tup xs)):SqT K H a xs:=.inl (.inl h)
theorem Inv.list (I:Inv X pins σ H s)(h:SqL X.K H a xs):∃ its:List Value,Vals xs its∧PlainL s.heap a its.toArray∧xs.length≤sizeLine:=by
 rcases h with h | ⟨o,its,n,hk,hc,hd,hs,hz,r⟩
 ·obtain ⟨z,its,n,r,e⟩:=h.ok I.hok
  exact ⟨its,r,⟨_,n,e,rfl,rfl,rfl⟩,z⟩
 ·refine ⟨its.toList,r,⟨o,n,I.kIn a o hk,hc,hd,by simpa using hs⟩,?_⟩
  have e:=r.length
  simp only [Array.length_toList] at e
  omega
theorem Inv.tuple (I:Inv X pins σ H s)(h:SqT X.K H a xs):∃ its:List Value,Vals xs its∧IsTup s.heap a its.toArray∧xs.length≤sizeLine:=by
 rcases h with h | ⟨o,its,n,hk,hc,hs,hz,r⟩
 ·obtain ⟨z,its,r,p⟩:=h.ok I.hok
  exact ⟨its,r,p,z⟩
 ·refine ⟨its.toList,r,⟨o,I.kIn a o hk,hc,n,by simpa using hs⟩,?_⟩
  have e:=r.length
  simp only [Array.length_toList] at e
  omega
theorem Inv.list_inj (I:Inv X pins σ H s)(h:SqL X.K H a xs)(h':SqL X.K H a ys):xs=ys:=by
 obtain ⟨its,r,⟨o,n,e,_,_,d⟩,_⟩:=I.list h
 obtain ⟨its',r',⟨o',n',e',_,_,d'⟩,_⟩:=I.list h'
 rw [e] at e';cases e'
 rw [d] at d'
 injection d' with d1 _
 have:its=its':=by simpa using congrArg Array.toList d1
 subst this
 exact r.inj r'
theorem Inv.tuple_inj (I:Inv X pins σ H s)(h:SqT X.K H a xs)(h':SqT X.K H a ys):xs=ys:=by
 obtain ⟨its,r,⟨o,e,_,n,d⟩,_⟩:=I.tuple h
 obtain ⟨its',r',⟨o',e',_,n',d'⟩,_⟩:=I.tuple h'
 rw [e] at e';cases e'
 rw [d] at d'
 injection d' with d1 _
 have:its=its':=by simpa using congrArg Array.toList d1
 subst this
 exact r.inj r'
end
abbrev Cx.wish (X:Cx)(E:Value→Shared→Prop):Cx:={ X with xe:=E }
abbrev Cx.nox (X:Cx):Cx:=X.wish fun _ _=>False
theorem Cx.Ok.wish {X:Cx}(ok:X.Ok)(E:Value→Shared→Prop):(X.wish E).Ok:=
 ⟨ok.mod,ok.kind,ok.glob,ok.blt,ok.above,ok.inj,ok.has,ok.cab,ok.hd,ok.qt,ok.frames,ok.stk,ok.exf,ok.bs,ok.bsz,ok.noex,ok.exfs,ok.funs,ok.frf⟩
theorem Cx.Ok.unwish {X:Cx}{E:Value→Shared→Prop}(ok:(X.wish E).Ok):X.Ok:=
 ⟨ok.mod,ok.kind,ok.glob,ok.blt,ok.above,ok.inj,ok.has,ok.cab,ok.hd,ok.qt,ok.frames,ok.stk,ok.exf,ok.bs,ok.bsz,ok.noex,ok.exfs,ok.funs,ok.frf⟩
section
variable {X:Cx}{pins:List (Addr×Obj)}{σ : St}{H:Hp}{s:Shared}{E:Value→Shared→Prop}
theorem Inv.wish (I:Inv X pins σ H s)(E:Value→Shared→Prop):Inv (X.wish E) pins σ H s:=⟨I.ok.wish E,I.os,I.bare,I.base,I.loc,I.cell,I.free,I.freeC,I.pin,I.hok,I.len⟩
theorem Inv.unwish (I:Inv (X.wish E) pins σ H s):Inv X pins σ H s:=⟨I.ok.unwish,I.os,I.bare,I.base,I.loc,I.cell,I.free,I.freeC,I.pin,I.hok,I.len⟩
theorem SP.unwish {D:Ends}{f:Flow}{s':Shared}(h:SP (X.wish E) pins D f s'):SP X pins D f s':=by
 cases f with
 | next=>obtain ⟨σ',H',I,q⟩:=h;exact ⟨σ',H',I.unwish,q⟩
 | brk=>obtain ⟨σ',H',I,q⟩:=h;exact ⟨σ',H',I.unwish,q⟩
 | cont=>obtain ⟨σ',H',I,q⟩:=h;exact ⟨σ',H',I.unwish,q⟩
 | ret u=>obtain ⟨v,σ',H',I,r,q⟩:=h;exact ⟨v,σ',H',I.unwish,r,q⟩
theorem PSs.nox {st:List Stmt}{t:TS}(h:PSs X.nox st t):PSs X st t:=fun pins s σ H D I hw=>
 wpAny_mono (h pins s σ H D (I.wish _) hw) (fun _ _ q=>q.unwish) fun _ _ z=>False.elim z
end
section
variable {X:Cx}{st:Stmt}{rest:List Stmt}{t u:TS}{e:Expr}{te:TE}{pos:Pos}
def tNext:TS:=fun D σ H=>D.nx σ H
def tSeq (t u:TS):TS:=fun D σ H=>t { D with nx:=u D } σ H
theorem pss_nil:PSs X [] tNext:=fun _ _ σ H _ I h=>wpAny_execs_nil ⟨σ,H,I,h⟩
theorem v7 (h1:PS X st t)(h2:PSs X rest u):PSs X (st::rest) (tSeq t u):=by
 intro pins s σ H D I h
 refine wpAny_execs_cons (thn (h1 pins s σ H { D with nx:=u D } I h) fun f s1 q=>?_)
 cases f with
 | next=>
  obtain ⟨σ',H',I',q⟩:=q
  exact h2 pins s1 σ' H' D I' q
 | ret v=>exact q
 | brk=>exact q
 | cont=>exact q
theorem tQ (h1:PS X st t):PSs X [st] t:=by
 intro pins s σ H D I h
 refine wpAny_execs_cons (thn (h1 pins s σ H D I h) fun f s1 q=>?_)
 cases f with
 | next=>exact wpAny_execs_nil q
 | ret v=>exact q
 | brk=>exact q
 | cont=>exact q
theorem Inv.quiet {pins:List (Addr×Obj)}{σ : St}{H:Hp}{s:Shared}(I:Inv X pins σ H s):interactive X.env=false:=by simp [interactive,I.ok.kind]
def tDrop (te:TE):TS:=fun D σ H=>te σ H fun _ H1=>D.nx σ H1
theorem yN (he:PE X e te)(hs:swapsWith e none pos.line X.env=pure false:=by rfl):PS X (.Expr e pos) (tDrop te):=by
 intro pins s σ H D I h
 exact wpAny_Expr_any (thn (he pins s σ H _ I h) fun v s1 ⟨x,H1,I1,r1,q1⟩=>⟨σ,H1,I1,q1⟩) I.quiet hs
def tRet (te:TE):TS:=fun D σ H=>te σ H D.rt
theorem ps_ret (he:PE X e te):PS X (.Return (some e) pos) (tRet te):=by
 intro pins s σ H D I h
 exact wpAny_Return_some (thn (he pins s σ H _ I h) fun v s1 ⟨x,H1,I1,r1,q1⟩=>⟨x,σ,H1,I1,r1,q1⟩)
def tIfS (c:TT)(t u:TS):TS:=fun D σ H=>c σ H fun b H1=>if b=true then t D σ H1 else u D σ H1
theorem ps_if {c:Expr}{a b:List Stmt}{tc:TT}(hc:PT X c tc)(ha:PSs X a t)(hb:PSs X b u):PS X (.If c a b pos) (tIfS tc t u):=by
 intro pins s σ H D I h
 refine wpAny_If (thn (hc pins s σ H _ I h) fun d s1 ⟨H1,I1,q1⟩=>?_)
 cases d with
 | true=>exact ha pins s1 σ H1 D I1 q1
 | false=>exact hb pins s1 σ H1 D I1 q1
def tNever:TS:=fun _ _ _=>False
theorem ps_never:PS X st tNever:=fun _ _ _ _ _ _ h=>h.elim
end
abbrev TG:=V→St→Hp→(St→Hp→Prop)→Prop
abbrev TGs:=List V→St→Hp→(St→Hp→Prop)→Prop
def PG (X:Cx)(target:Expr)(t:TG):Prop:=
 ∀ (pins:List (Addr×Obj)) (s:Shared) (σ : St) (H:Hp) (v:V) (u:Value) (Q:St→Hp→Prop),Inv X pins σ H s→RelV v u→t v σ H Q →
  wpAny (model X.prog X.w) X.A (assign target X.env u) (fun _ s'=>∃ σ' H',Inv X pins σ' H' s'∧Q σ' H') X.xe s
def PGs (X:Cx)(ts:List Expr)(t:TGs):Prop:=
 ∀ (pins:List (Addr×Obj)) (s:Shared) (σ : St) (H:Hp) (vs:List V) (us:List Value) (Q:St→Hp→Prop),Inv X pins σ H s→Vals vs us→t vs σ H Q →
  wpAny (model X.prog X.w) X.A (assignInOrder ((assignEach ts X.env).map (·.2)) us) (fun _ s'=>∃ σ' H',Inv X pins σ' H' s'∧Q σ' H') X.xe s
abbrev TSet:=V→V→V→Hp→(Hp→Prop)→Prop
def PSet (X:Cx)(t:TSet):Prop:=
 ∀ (pins:List (Addr×Obj)) (s:Shared) (σ : St) (H:Hp) (o i v:V) (ov iv u:Value) (Q:Hp→Prop),Inv X pins σ H s→RelV o ov→RelV i iv→RelV v u→t o i v H Q →
  wpAny (model X.prog X.w) X.A (setItem ov iv u) (fun _ s'=>∃ H',Inv X pins σ H' s'∧Q H') X.xe s
section
variable {X:Cx}{pos:Pos}
def zJ (i:Nat):TG:=fun v σ H Q=>Q (σ.set i (some v)) H
theorem bO {i:Nat}{x:Str}(hN:X.N.Nodup)(hi:X.N[i]?=some x)(hx:Loc X.env.scope x)(hf:X.fn x=true∨X.env.scope.names.lookup x=some .local:=by first | exact .inl rfl | exact .inr rfl | assumption):PG X (.Name x pos) (zJ i):=by
 intro pins s σ H v u Q I r h
 exact wpAny_assign_Name (ji I hN hi hx r (fun s' I'=>⟨_,H,I',h⟩) hf)
def gNil:TGs:=fun vs σ H Q=>vs=[]∧Q σ H
def gCons (t:TG)(u:TGs):TGs:=fun vs σ H Q=>∃ v r,vs=v::r∧t v σ H fun σ' H'=>u r σ' H' Q
theorem pgs_nil:PGs X [] gNil:=by
 intro pins s σ H vs us Q I r h
 obtain ⟨e,h⟩:=h
 subst e
 cases r
 exact assignInOrder_nil ⟨σ,H,I,h⟩
theorem pgs_cons {e:Expr}{es:List Expr}{t:TG}{u:TGs}(h1:PG X e t)(h2:PGs X es u)
  (hs:(assignEach (e::es) X.env).map (·.2)=assign e X.env::(assignEach es X.env).map (·.2):=by rfl):PGs X (e::es) (gCons t u):=by
 intro pins s σ H vs us Q I r h
 obtain ⟨v,vr,e1,h⟩:=h
 subst e1
 cases r with
 | cons r rr=>
  rw [hs]
  refine assignInOrder_cons (thn (h1 pins s σ H _ _ _ I r h) fun _ s1 ⟨σ1,H1,I1,q1⟩=>?_)
  exact h2 pins s1 σ1 H1 _ _ Q I1 rr q1
def gSub (to ti:TE)(t:TSet):TG:=fun v σ H Q=>to σ H fun o H1=>ti σ H1 fun i H2=>t o i v H2 fun H3=>Q σ H3
theorem pg_sub {o i:Expr}{to ti:TE}{t:TSet}(ho:PE X o to)(hi:PE X i ti)(hs:PSet X t)
  (ha:∀ v,assign (.Subscript o i pos) X.env v=(do
   let ov ←holding [v] (eval o X.env)
   let iv ←holding [v,ov] (eval i X.env)
   standAt pos
   holding [v,ov,iv] (setItem ov iv v)
   release [v,ov,iv] []):=by intro _;rfl):PG X (.Subscript o i pos) (gSub to ti t):=by
 intro pins s σ H v u Q I r h
 rw [ha]
 refine wpAny_bind (wpAny_holding (thn (ho pins s σ H _ I h) fun ov s1 ⟨x,H1,I1,r1,q1⟩=>?_))
 refine wpAny_bind (wpAny_holding (thn (hi pins s1 σ H1 _ I1 q1) fun iv s2 ⟨y,H2,I2,r2,q2⟩=>?_))
 refine wpAny_bind (wpAny_standAt (wpAny_bind (wpAny_holding (thn (hs pins s2 σ H2 x y v ov iv u _ I2 r1 r2 r q2) fun _ s3 ⟨H3,I3,q3⟩=>?_))))
 exact wpAny_release ⟨σ,H3,I3,q3⟩
def tAsg (te:TE)(g:TG):TS:=fun D σ H=>te σ H fun x H1=>g x σ H1 D.nx
theorem ps_asg {tg e:Expr}{te:TE}{g:TG}(he:PE X e te)(hg:PG X tg g)(hs:swapsWithSole [tg] e pos.line X.env=pure false:=by rfl)(hw:swappedStores [tg] e X.env=pure none:=by rfl)
  (h1:(assignEach [tg] X.env).map (·.2)=[assign tg X.env]:=by rfl):PS X (.Assign [tg] e pos) (tAsg te g):=by
 intro pins s σ H D I h
 refine wpAny_Assign_stores (thn (he pins s σ H _ I h) fun v s1 ⟨x,H1,I1,r1,q1⟩=>?_) hs hw
 rw [h1]
 exact thn (hg pins s1 σ H1 x v _ I1 r1 q1) fun _ s2 q=>q
theorem ps_set {i:Nat}{x:Str}{e:Expr}{te:TE}{pos':Pos}(hN:X.N.Nodup)(hi:X.N[i]?=some x)(hx:Loc X.env.scope x)(he:PE X e te)(hs:swapsWith e (some (.Name x pos')) pos.line X.env=pure false:=by rfl)(hf:X.fn x=true∨X.env.scope.names.lookup x=some .local:=by first | exact .inl rfl | exact .inr rfl | assumption) :
  PS X (.Assign [.Name x pos'] e pos) (tAsg te (zJ i)):=by
 intro pins s σ H D I h
 refine wpAny_Assign_Name (thn (he pins s σ H _ I h) fun v s1 ⟨y,H1,I1,r1,q1⟩=>?_) hs
 exact ji I1 hN hi hx r1 (fun s2 I2=>⟨_,H1,I2,q1⟩) hf
def tPar (i j:Nat)(ta:TA):TS:=fun D σ H=>ta σ H fun vs H1=>∃ v w,vs=[v,w]∧D.nx ((σ.set i (some v)).set j (some w)) H1
theorem ps_par {i j:Nat}{x y:Str}{a b:Expr}{ta:TA}{px py pt:Pos}{kt k2 pt2}(hc:X.calm=true)(hN:X.N.Nodup)(hi:X.N[i]?=some x)(hj:X.N[j]?=some y)(hij:i≠j)
  (hx:X.env.scope.names.lookup x=some .local) (hy:X.env.scope.names.lookup y=some .local) (ha:PA X [a,b] ta)
  (hw:swappedStores [.Tuple [.Name x px,.Name y py] kt pt] (.Tuple [a,b] k2 pt2) X.env=pure (some [x,y]))
  (hs:swapsWithSole [.Tuple [.Name x px,.Name y py] kt pt] (.Tuple [a,b] k2 pt2) pos.line X.env=pure false:=by rfl) :
  PS X (.Assign [.Tuple [.Name x px,.Name y py] kt pt] (.Tuple [a,b] k2 pt2) pos) (tPar i j ta):=by
 intro pins s σ H D I h
 rw [exec_Assign_arm]
 refine wpAny_bind (wpAny_standAt ?_)
 rw [hs]
 refine wpAny_bind (wpAny_pure ?_)
 rw [if_neg (by decide)]
 refine wpAny_bind (Tuple_ (thn (ha _ pins s σ H _ I h) fun us s1 ⟨vs,H1,I1,r1,q1⟩=>?_))
 obtain ⟨v,w,e1,q1⟩:=q1
 subst e1
 obtain ⟨u1,u2,rfl,rv,rw'⟩:∃ u1 u2,us=[u1,u2]∧RelV v u1∧RelV w u2:=by
  cases r1 with
  | cons p q=>
   cases q with
   | cons p' q'=>
    cases q'
    exact ⟨_,_,rfl,p,p'⟩
 refine wpAny_newObj_type ?_ (by show 2≤sizeLine;decide)
 have I2:Inv X pins σ H1 { s1 with heap:=s1.heap.push { cls:=.type "tuple",data:=.seq [u1,u2].toArray } }:=I1.kept (t':=s1.toks) fun b o e=>Heap.get?_push_of_some _ e
 rw [hw]
 refine wpAny_bind (wpAny_pure ?_)
 show wpAny (model X.prog X.w) X.A (do rule "assign.swapped-stores";let items ←unpackItems (.ref s1.heap.objs.size) 2 none;assignInOrder [fun v=>bindName X.env y v,fun v=>bindName X.env x v] items.reverse;pure Flow.next) _ _ _
 refine wpAny_bind (wpAny_rule (wpAny_bind (unpackItems_tuple (items:=#[u1,u2]) (I.ok.hd hc) (IsTup.new s1.heap _) fun h' hx'=>?_)))
 have I3:=I2.kept (h':=h') (t':=s1.toks) fun b o e=>hx' b o (Nat.ne_of_lt (Heap.lt_size e)) e
 show wpAny _ _ (assignInOrder [fun v=>bindName X.env y v,fun v=>bindName X.env x v] [u2,u1] >>= fun _=>pure Flow.next) _ _ _
 refine wpAny_bind (assignInOrder_cons (wpAny_bindName (ji I3 hN hj (.inl hy) rw' (fun s2 I4=>?_) (.inr hy))))
 refine assignInOrder_cons (wpAny_bindName (ji I4 hN hi (.inl hx) rv (fun s3 I5=>assignInOrder_nil (wpAny_pure ?_)) (.inr hx)))
 rw [List.set_comm _ _ (Ne.symm hij)] at I5
 exact ⟨_,H1,I5,q1⟩
end
section
variable {X:Cx}{pos:Pos}
def tWhile (c:TT)(tb:TS):TS:=fun D σ H=>∃ W:Nat→St→Hp→Prop,(∃ m,W m σ H)∧∀ m σ H,W m σ H →
 c σ H fun b H1=>if b=true then ∃ N:St→Hp→Prop,(∀ σ' H',N σ' H'→∃ m',m'<m∧W m' σ' H')∧tb { D with nx:=N,ct:=N,bk:=D.nx } σ H1 else D.nx σ H1
theorem ps_while {c:Expr}{body:List Stmt}{tc:TT}{tb:TS}(hp:PassesOwn (model X.prog X.w) X.A X.env X.xe)(hc:PT X c tc)(hb:PSs X body tb):PS X (.While c body [] pos) (tWhile tc tb):=by
 intro pins s σ H D I h
 obtain ⟨W,⟨m0,w0⟩,turn⟩:=h
 refine wpAny_While (codeAny_whileLoop (fun n s'=>∃ σ' H',Inv X pins σ' H' s'∧W n σ' H') ?_ m0 ⟨σ,H,I,w0⟩)
 rintro n s1 ⟨σ1,H1,I1,w1⟩
 refine wpAny_passesOwn hp (thn (hc pins s1 σ1 H1 _ I1 (turn n σ1 H1 w1)) fun b s2 ⟨H2,I2,q2⟩=>?_)
 cases b with
 | true=>
  obtain ⟨N,hN,q2⟩:=q2
  rw [if_pos rfl]
  refine wpAny_passesOwn hp (thn (hb pins s2 σ1 H2 _ I2 q2) fun f s3 q3=>?_)
  cases f with
  | next=>
   obtain ⟨σ3,H3,I3,n3⟩:=q3
   obtain ⟨m',hm,w3⟩:=hN σ3 H3 n3
   exact ⟨m',hm,σ3,H3,I3,w3⟩
  | cont=>
   obtain ⟨σ3,H3,I3,n3⟩:=q3
   obtain ⟨m',hm,w3⟩:=hN σ3 H3 n3
   exact ⟨m',hm,σ3,H3,I3,w3⟩
  | brk=>exact q3
  | ret v=>exact q3
 | false=>
  rw [if_neg Bool.false_ne_true]
  exact wpAny_execs_nil ⟨σ1,H2,I2,q2⟩
end
theorem qJ:entryFor table "proto.unchain" = some Builtin.«proto.unchain»:=entryFor_of_tree (by kernel_rfl)
def uf (A:Around)(h:Heap):Prop:=∀ v,A.handled=some v→∃ (a:Addr) (o:Obj) (vs:Array Value),v=.ref a∧h.get? a=some o∧o.data=.fields vs∧vs[2]?=some .none
theorem xZ {A:Around}{P:Program}{w:World}{H:Hp}{h:Heap}(q:Quiet A H)(x:HOk P w H h):uf A h:=fun v e=>by
 obtain ⟨a,o,u,vs,h1,h2,h3,h4⟩:=q v e
 exact ⟨a,o,vs,h1,(x a _ h2).1,h3,h4⟩
theorem xr {α : Type}{prog:Program}{w:World}{A:Around}{E:Value→Shared→Prop}{s:Shared}{e:Addr}{oe:Obj}{ws:Array Value}{Q:α→Shared→Prop}(hq:uf A s.heap)(he:s.heap.get? e=some oe)(hd:oe.data=.fields ws)(hz:2<ws.size)(hne:∀ v,A.handled=some v→v≠.ref e)
  (h:∀ h',(∀ b,b≠e→h'.get? b=s.heap.get? b)→(∃ o',h'.get? e=some o'∧o'.cls=oe.cls)→E (.ref e) { s with heap:=h' }):wpAny (model prog w) A (raiseNew (.ref e):Sem α) Q E s:=by
 unfold raiseNew
 refine wpAny_bind (wpAny_handled ?_)
 cases hh:A.handled with
 | none=>
  dsimp only
  refine wpAny_bind (wpAny_pure (wpAny_throw ?_))
  exact h s.heap (fun _ _=>rfl) ⟨oe,he,rfl⟩
 | some v=>
  obtain ⟨a,o,vs,rfl,ho,hdo,h2⟩:=hq v hh
  dsimp only
  have ne:(Value.ref a != Value.ref e)=true:=by
   have:=hne _ hh
   simp only [bne_iff_ne,ne_eq]
   exact this
  rw [if_pos ne]
  refine wpAny_bind (wpAny_holding (wpAny_runValue (codeAny_builtin qJ ?_)))
  unfold Builtin.«proto.unchain»
  dsimp only
  refine wpAny_bind (wpAny_field ho hdo h2 ?_)
  rw [if_pos (show (Value.none==Value.none)=true from rfl)]
  refine wpAny_bind (wpAny_pure (wpAny_pure ?_))
  dsimp only
  refine wpAny_bind ?_
  unfold updateField
  refine wpAny_bind (wpAny_load he ?_)
  rw [hd]
  dsimp only
  rw [if_pos hz]
  refine wpAny_update he (wpAny_throw ?_)
  have hd3:=Obj.data_mapFields hd (·.setIfInBounds 2 (Value.ref a))
  exact h _ (fun b hb=>Heap.get?_update_other _ _ (Ne.symm hb)) ⟨_,Heap.get?_update_self _ he (Obj.isFreed_of_fields hd3),Obj.cls_mapFields _ _⟩
theorem range_end {prog:Program}{w:World}{A:Around}{E:Value→Shared→Prop}{s:Shared}{it:Addr}{x left step:Int}{Q:Option Value→Shared→Prop}(hh:uf A s.heap)(hit:IsRangeIter s.heap it x left step)(hleft:left≤0)
  (hQ:∀ h',Heap.ExtBut it s.heap h'→Q none { s with heap:=h' }):wpAny (model prog w) A (pyNext (.ref it)) Q E s:=by
 have hT:s.TypeIs (.ref it) "range_iterator":=⟨_,hit,rfl⟩
 unfold pyNext
 refine wpAny_bind (wpAny_attempt (wpAny_callSpecial?_slot (name:=Str.ofString "__next__") hT F.slot_range_iterator_next
  (wpAny_call_entry F.slot_range_iterator_next hT F.entry_range_iterator_next ?_ (F.args_range_iterator_next_1 _))))
 show wpAny _ _ (field (.ref it) 0 >>= _) _ _ s
 refine wpAny_bind (wpAny_field hit rfl (x:=rawInt x) rfl ?_)
 show wpAny _ _ (field (.ref it) 1 >>= _) _ _ s
 refine wpAny_bind (wpAny_field hit rfl (x:=rawInt left) rfl ?_)
 show wpAny _ _ (field (.ref it) 2 >>= _) _ _ s
 refine wpAny_bind (wpAny_field hit rfl (x:=rawInt step) rfl ?_)
 show wpAny _ _ (if left≤0 then _ else _) _ _ s
 rw [if_pos hleft]
 refine wpAny_bind (wpAny_rule ?_)
 refine wpAny_bind ?_
 show wpAny _ _ (newExc (.type "StopIteration") [] >>= _) _ _ _
 refine wpAny_bind ?_
 simp only [newExc,newTuple]
 refine wpAny_bind (wpAny_newObj_type ?_ (by size_fits))
 refine wpAny_bind (m:=firstArgMember _ _) (wpAny_of_eq (a:=Value.none) (by first | rfl | (simp only [firstArgMember];rfl)) ?_)
 refine wpAny_newObj_type ?_ (by size_fits)
 refine xr (A:=A.in1) (fun v e=>?_) (Heap.get?_push_size _ rfl) rfl (by simp;omega) (fun v e=>?_) fun h' h1 ⟨o',h2,h3⟩=>?_
 ·obtain ⟨a,o,vs,r1,r2,r3⟩:=hh v e
  exact ⟨a,o,vs,r1,Heap.get?_push_of_some _ (Heap.get?_push_of_some _ r2),r3⟩
 ·obtain ⟨a,o,vs,r1,r2,r3⟩:=hh v e
  rw [r1]
  intro q
  have q:a=_:=Value.ref.inj q
  have:=Heap.lt_size r2
  rw [q] at this
  exact absurd this (Nat.not_lt.mpr (by simp [Heap.push]))
 refine wpAny_bind (wpAny_isInstance (T := "StopIteration") (b:=true) ⟨_,h2,h3⟩ isSubtype_stop ?_)
 refine wpAny_pure (hQ _ fun b o hb e=>?_)
 rw [h1 b ?_]
 ·exact Heap.get?_push_of_some _ (Heap.get?_push_of_some _ e)
 ·have:=Heap.lt_size e
  exact Nat.ne_of_lt (Nat.lt_of_lt_of_le this (by simp [Heap.push]))
structure It where
 go:Nat→Hp→Prop
 yld:Nat→Hp→V→Hp→Prop
 stop:Nat→Hp→Prop
 cm:Bool
def FpOk (X:Cx)(pins:List (Addr×Obj))(H:Hp)(b:Addr):Prop:=
 H b=none∧b≠X.env.locals∧b∉X.fs∧(b∈X.ex∨X.s₀.heap.objs.size≤b)∧(∀ x c,X.env.cells.lookup x=some c→c≠b)∧∀ p∈X.pn++pins,p.1≠b
theorem Inv.fpOk {X:Cx}{pins:List (Addr×Obj)}{σ : St}{H H':Hp}{s:Shared}{b:Addr}(I:Inv X pins σ H s)(hb:s.heap.objs.size≤b)(hn:H' b=none):FpOk X pins H' b:=by
 refine ⟨hn,Nat.ne_of_gt (Nat.lt_of_lt_of_le I.lt hb),I.nofs hb,.inr (Nat.le_trans I.sz hb),fun x c e z=>?_,fun p hp z=>?_⟩
 ·obtain ⟨v,q⟩:=I.cell x c e
  exact absurd (Nat.lt_of_lt_of_le q.lt (by rw [z];exact hb)) (Nat.lt_irrefl _)
 ·exact absurd (Nat.lt_of_lt_of_le (Heap.lt_size (I.pin p hp).1) (by rw [z];exact hb)) (Nat.lt_irrefl _)
structure Turn (P:Program) (w:World) (K:PySem.W.Frag) (tg:Expr) (J:It) (fp:List Addr) (it:Addr) (tn:Nat→Heap→Prop):Prop where
 mem:it∈fp
 obj:∀ i h,tn i h→∀ b∈fp,∃ o,h.get? b=some o∧∀ v,o.data≠.cell v
 keep:∀ i h h',tn i h→(∀ b∈fp,∀ o,h.get? b=some o→h'.get? b=some o)→tn i h'
 item:∀ (X:Cx),X.prog=P→X.w=w→X.K=K→(J.cm=true→X.calm=true)→∀ (i:Nat) (pins:List (Addr×Obj)) (s:Shared) (σ : St) (H:Hp) (E:Value→Shared→Prop),Inv X pins σ H s→(∀ b∈fp,FpOk X pins H b)→tn i s.heap→J.go i H →
  wpAny (model P w) X.A (pyNext (.ref it)) (fun r s1=>∃ u,r=some u ∧
   wpAny (model P w) X.A (letOwnedTupleGo tg (.ref it) u) (fun _ s2=>∃ x H',Inv X pins σ H' s2∧RelV x u∧J.yld i H x H'∧tn (i+1) s2.heap∧∀ b∈fp,H' b=none) E s1) E s
 done:∀ (X:Cx),X.prog=P→X.w=w→X.K=K→(J.cm=true→X.calm=true)→∀ (i:Nat) (pins:List (Addr×Obj)) (s:Shared) (σ : St) (H:Hp) (E:Value→Shared→Prop),Inv X pins σ H s→(∀ b∈fp,FpOk X pins H b)→tn i s.heap→J.stop i H →
  wpAny (model P w) X.A (pyNext (.ref it)) (fun r s1=>r=none∧Inv X pins σ H s1) E s
 self:∀ (A:Around) (i:Nat) (s:Shared) (Q:Value→Shared→Prop) (E:Value→Shared→Prop),tn i s.heap→Q (.ref it) s→wpAny (model P w) A (pyIter (.ref it)) Q E s
abbrev TI:=St→Hp→(It→Hp→Prop)→Prop
def PIE (X:Cx)(pins:List (Addr×Obj))(σ : St)(tg:Expr)(R:It→Hp→Prop)(itv:Value)(s2:Shared):Prop:=
 ∃ (it:Addr) (fp:List Addr) (tn:Nat→Heap→Prop) (J:It) (H':Hp),itv=.ref it∧Inv X pins σ H' s2∧Turn X.prog X.w X.K tg J fp it tn∧tn 0 s2.heap∧(∀ b∈fp,FpOk X pins H' b)∧R J H'
def PI (X:Cx)(tg iter:Expr)(wi:TI):Prop:=
 ∀ (pins:List (Addr×Obj)) (s:Shared) (σ : St) (H:Hp) (R:It→Hp→Prop),Inv X pins σ H s→wi σ H R →
  wpAny (model X.prog X.w) X.A (eval iter X.env) (fun v s1=>wpAny (model X.prog X.w) X.A (pyIter v) (PIE X pins σ tg R) X.xe s1) X.xe s
theorem yM {M:Model}{A:Around}{E:Value→Shared→Prop}{s:Shared}{tg:Expr}{it:Addr}{u:Value}{o:Obj}{n:String}{vs:Array Value}{Q:Unit→Shared→Prop}(ho:s.heap.get? it=some o)(hc:o.cls=.type n)(hd:o.data=.fields vs)
    (hn:["enumerate", "zip", "dict_itemiterator", "dict_reverseitemiterator", "odict_iterator", "itertools.zip_longest", "itertools.pairwise"].contains n=false) (hQ:Q () s):wpAny M A (letOwnedTupleGo tg (.ref it) u) Q E s:=by
  unfold letOwnedTupleGo
  cases tg <;> first
    | exact wpAny_pure hQ
    | (cases u <;> first
        | exact wpAny_pure hQ
        | (refine wpAny_bind (wpAny_load ho ?_)
           rw [hc,hd]
           show wpAny M A (if (["enumerate", "zip", "dict_itemiterator", "dict_reverseitemiterator", "odict_iterator", "itertools.zip_longest", "itertools.pairwise"].contains n&&vs[0]?==some (rawInt _))=true then _ else _) Q E s
           rw [if_neg (by intro h;rw [hn,Bool.false_and] at h;cases h)]
           exact wpAny_pure hQ))
def Itl (K:PySem.W.Frag)(a:Addr):It:=
 ⟨fun i H=>∃ xs x,SqL K H a xs∧xs[i]?=some x,fun i H x H'=>H'=H∧∀ xs,SqL K H a xs→xs[i]?=some x,fun i H=>∃ xs,SqL K H a xs∧xs.length≤i,true⟩
def Itt (K:PySem.W.Frag)(a:Addr):It:=
 ⟨fun i H=>∃ xs x,SqT K H a xs∧xs[i]?=some x,fun i H x H'=>H'=H∧∀ xs,SqT K H a xs→xs[i]?=some x,fun i H=>∃ xs,SqT K H a xs∧xs.length≤i,true⟩
def Itr (lo:Int)(n:Nat):It:=⟨fun i _=>i<n,fun i H x H'=>H'=H∧x=.int (lo+i),fun i _=>n≤i,false⟩
theorem turn_list {P:Program}{w:World}{K:PySem.W.Frag}{tg:Expr}(a it:Addr):Turn P w K tg (Itl K a) [it] it (fun i h=>h.IsListIter it a i) where
 mem:=by simp
 obj:=fun i h st b hb=>by
  have e:b=it:=by simpa using hb
  subst e
  obtain ⟨o,e,c,d⟩:=st
  exact ⟨o,e,fun v z=>by rw [d] at z;cases z⟩
 keep:=fun i h h' st k=>st.at fun o e=>k it (by simp) o e
 item:=by
  intro X hP hw hK hc i pins s σ H E I hf st hg
  subst hP hw hK
  obtain ⟨xs,x,hq,hx⟩:=hg
  obtain ⟨its,rv,p,hz⟩:=I.list hq
  obtain ⟨u,hu,ru⟩:=rv.get hx
  obtain ⟨f0,f1,f2,f3,f4,f5⟩:=hf it (by simp)
  refine wpAny_pyNext_list_item st p.isList (x:=u) (by simpa using hu) fun h' st' sb=>?_
  have I1:Inv X pins σ H { s with heap:=h' }:=I.turned (t':=s.toks) (fun b o hb e=>(sb.2 b hb).trans e) f0 f1 f3 f4 f5
  obtain ⟨o,e,c,d⟩:=id st'
  exact ⟨u,rfl,yM (s:={ s with heap:=h' }) e c d (by decide) ⟨x,H,I1,ru,⟨rfl,fun ys hy=>by rw [I.list_inj hy hq];exact hx⟩,st',fun b hb=>(hf b hb).1⟩⟩
 done:=by
  intro X hP hw hK hc i pins s σ H E I hf st hg
  subst hP hw hK
  obtain ⟨xs,hq,hx⟩:=hg
  obtain ⟨its,rv,p,hz⟩:=I.list hq
  obtain ⟨f0,f1,f2,f3,f4,f5⟩:=hf it (by simp)
  have hl:=rv.length
  exact wpAny_pyNext_list_end (I.ok.hd (hc rfl)) st p.isList (by simp;omega) fun h' eb=>⟨rfl,I.turned (t':=s.toks) (fun b o hb e=>eb b o hb e) f0 f1 f3 f4 f5⟩
 self:=fun _ _ _ _ _ st h=>wpAny_pyIter_listiter st h
theorem wU {P:Program}{w:World}{K:PySem.W.Frag}{tg:Expr}(a it:Addr):Turn P w K tg (Itt K a) [it] it (fun i h=>h.IsTupleIter it a i) where
 mem:=by simp
 obj:=fun i h st b hb=>by
  have e:b=it:=by simpa using hb
  subst e
  obtain ⟨o,e,c,d⟩:=st
  exact ⟨o,e,fun v z=>by rw [d] at z;cases z⟩
 keep:=fun i h h' st k=>st.at fun o e=>k it (by simp) o e
 item:=by
  intro X hP hw hK hc i pins s σ H E I hf st hg
  subst hP hw hK
  obtain ⟨xs,x,hq,hx⟩:=hg
  obtain ⟨its,rv,p,hz⟩:=I.tuple hq
  obtain ⟨u,hu,ru⟩:=rv.get hx
  obtain ⟨f0,f1,f2,f3,f4,f5⟩:=hf it (by simp)
  refine wpAny_pyNext_tuple_item st (show s.heap.IsTuple a its.toArray from p) (x:=u) (by simpa using hu) fun h' st' sb=>?_
  have I1:Inv X pins σ H { s with heap:=h' }:=I.turned (t':=s.toks) (fun b o hb e=>(sb.2 b hb).trans e) f0 f1 f3 f4 f5
  obtain ⟨o,e,c,d⟩:=id st'
  exact ⟨u,rfl,yM (s:={ s with heap:=h' }) e c d (by decide) ⟨x,H,I1,ru,⟨rfl,fun ys hy=>by rw [I.tuple_inj hy hq];exact hx⟩,st',fun b hb=>(hf b hb).1⟩⟩
 done:=by
  intro X hP hw hK hc i pins s σ H E I hf st hg
  subst hP hw hK
  obtain ⟨xs,hq,hx⟩:=hg
  obtain ⟨its,rv,p,hz⟩:=I.tuple hq
  obtain ⟨f0,f1,f2,f3,f4,f5⟩:=hf it (by simp)
  have hl:=rv.length
  exact wpAny_pyNext_tuple_end (I.ok.hd (hc rfl)) st (show s.heap.IsTuple a its.toArray from p) (by simp;omega) fun h' eb=>⟨rfl,I.turned (t':=s.toks) (fun b o hb e=>eb b o hb e) f0 f1 f3 f4 f5⟩
 self:=fun _ _ _ _ _ st h=>wpAny_pyIter_tupleiter st h
theorem yq {P:Program}{w:World}{K:PySem.W.Frag}{tg:Expr}(it:Addr)(lo:Int)(n:Nat):Turn P w K tg (Itr lo n) [it] it (fun i h=>IsRangeIter h it (lo+(i:Nat)*1) ((n:Int) - (i:Nat)) 1) where
 mem:=by simp
 obj:=fun i h st b hb=>by
  have e:b=it:=by simpa using hb
  subst e
  exact ⟨_,st,fun v z=>by
   have z':Data.fields _=Data.cell v:=z
   cases z'⟩
 keep:=fun i h h' st k=>k it (by simp) _ st
 item:=by
  intro X hP hw hK hc i pins s σ H E I hf st hg
  subst hP hw hK
  obtain ⟨f0,f1,f2,f3,f4,f5⟩:=hf it (by simp)
  refine wpAny_pyNext_range_item st (by have:i<n:=hg;omega) fun h' st' kk=>?_
  have I1:Inv X pins σ H { s with heap:=h',toks:=s.toks+1 }:=I.turned (fun b o hb e=>(kk.2 b hb).trans e) f0 f1 f3 f4 f5
  have st2:IsRangeIter h' it (lo+((i+1:Nat):Int)*1) ((n:Int) - ((i+1:Nat):Int)) 1:=by
   have e1:lo+((i+1:Nat):Int)*1=lo+((i:Nat):Int)*1+1:=by omega
   have e2:(n:Int) - ((i+1:Nat):Int)=(n:Int) - ((i:Nat):Int) - 1:=by omega
   rw [e1,e2]
   exact st'
  refine ⟨_,rfl,yM (s:={ s with heap:=h',toks:=s.toks+1 }) (n := "range_iterator") st' rfl rfl (by decide) ⟨.int (lo+i),H,I1,⟨s.toks,?_⟩,⟨rfl,rfl⟩,st2,fun b hb=>(hf b hb).1⟩⟩
  rw [Int.mul_one]
 done:=by
  intro X hP hw hK hc i pins s σ H E I hf st hg
  subst hP hw hK
  obtain ⟨f0,f1,f2,f3,f4,f5⟩:=hf it (by simp)
  exact range_end (xZ I.qt0 I.hok) st (by have:n≤i:=hg;omega) fun h' eb=>⟨rfl,I.turned (t':=s.toks) (fun b o hb e=>eb b o hb e) f0 f1 f3 f4 f5⟩
 self:=fun _ _ _ _ _ st h=>wpAny_pyIter_rangeiter st h
end L2
namespace L2
open PySem PySem.Spec PyProof.Rows
section
variable {X:Cx}{tg:Expr}
theorem range_it {pins:List (Addr×Obj)}{σ : St}{H:Hp}{s:Shared}{R:It→Hp→Prop}{E:Value→Shared→Prop}{lo hi:Int}{t u v:Tok}{tk:Nat}(I:Inv X pins σ H s)(h1:-(2^62)≤lo)(h2:lo<2^62)(h3:-(2^62)≤hi)(h4:hi<2^62)
  (q:R (Itr lo (hi - lo).toNat) H):wpAny (model X.prog X.w) X.A (pyIter (.ref s.heap.objs.size)) (PIE X pins σ tg R) E { s with heap:=s.heap.push { cls:=.type "range",data:=.fields #[.int lo t,.int hi u,.int 1 v] },toks:=tk }:=by
 refine wpAny_pyIter_range (IsRange.new ..) (small_one h1 h2 h3 h4) ?_
 have I1:Inv X pins σ H { s with heap:=s.heap.push { cls:=.type "range",data:=.fields #[.int lo t,.int hi u,.int 1 v] },toks:=tk }:=I.kept fun b o e=>Heap.get?_push_of_some _ e
 refine ⟨(s.heap.push { cls:=.type "range",data:=.fields #[.int lo t,.int hi u,.int 1 v] }).objs.size,[(s.heap.push { cls:=.type "range",data:=.fields #[.int lo t,.int hi u,.int 1 v] }).objs.size],_,_,H,rfl,
  I1.kept (t':=tk) fun b o e=>Heap.get?_push_of_some _ e,yq _ lo (hi - lo).toNat,?_,fun b hb=>?_,q⟩
 ·have e1:lo+((0:Nat):Int)*1=lo:=by simp
  have e2:(((hi - lo).toNat:Nat):Int) - ((0:Nat):Int)=Builtin.Range.rangeSize lo hi 1:=by rw [rangeSize_one];split <;> omega
  show IsRangeIter _ _ (lo+((0:Nat):Int)*1) ((((hi - lo).toNat:Nat):Int) - ((0:Nat):Int)) 1
  rw [e1,e2]
  exact Heap.get?_push_size _ rfl
 ·have e:b=(s.heap.push { cls:=.type "range",data:=.fields #[.int lo t,.int hi u,.int 1 v] }).objs.size:=by simpa using hb
  subst e
  exact I1.fpOk (Nat.le_refl _) (I1.hok.fresh (Nat.le_refl _))
def iRng1 (ta:TA):TI:=fun σ H R=>ta σ H fun vs H1=>∃ j:Int,vs=[.int j]∧-(2^62)≤j∧j<2^62∧R (Itr 0 j.toNat) H1
theorem pi_range1 {a:Expr}{ta:TA}{p pos:Pos}(hg:Gl X "range")(hm:X.mg "range" = none)(ha:PA X [a] ta)(hs:starEach [a] X.env=[(false,eval a X.env)]:=by rfl):PI X tg (.Call (.Name "range" p) [a] [] pos) (iRng1 ta):=by
 intro pins s σ H R I h
 refine Call_ (rm I hg hm boot_range (PyProof.Rows.callWith_type1 (thn (ha pos pins s σ H _ I h) fun us s1 ⟨vs,H1,I1,r1,q1⟩=>?_) hs rfl))
 obtain ⟨j,e,q1,q2,q⟩:=q1
 subst e
 cases r1 with
 | cons r rr=>
  cases rr
  obtain ⟨t,rfl⟩:=r
  exact call_range_1 (range_it I1 (by omega) (by omega) q1 q2 (by simpa using q))
def tFor (wi:TI)(g:TG)(tb:TS):TS:=fun D σ H=>wi σ H fun J H1=>∃ W:Nat→Nat→St→Hp→Prop,(∃ m,W 0 m σ H1)∧∀ i m σ H,W i m σ H →
 (J.stop i H∧D.nx σ H)∨(J.go i H∧∃ N:St→Hp→Prop,(∀ σ' H',N σ' H'→∃ m',m'<m∧W (i+1) m' σ' H')∧∀ x H',J.yld i H x H'→g x σ H' fun σ2 H2=>tb { D with nx:=N,ct:=N,bk:=D.nx } σ2 H2)
def qO (fp:List Addr)(h:Heap):List (Addr×Obj):=fp.filterMap fun b=>(h.get? b).map fun o=>(b,o)
theorem gB {fp:List Addr}{h:Heap}{b:Addr}{o:Obj}(hb:b∈fp)(e:h.get? b=some o):(b,o)∈qO fp h:=List.mem_filterMap.mpr ⟨b,hb,by rw [e];rfl⟩
theorem Af {fp:List Addr}{h:Heap}{p:Addr×Obj}(hp:p∈qO fp h):p.1∈fp∧h.get? p.1=some p.2:=by
 obtain ⟨b,hb,e⟩:=List.mem_filterMap.mp hp
 cases q:h.get? b with
 | none=>rw [q] at e;cases e
 | some o=>
  rw [q] at e
  have e':(b,o)=p:=Option.some.inj e
  subst e'
  exact ⟨hb,q⟩
theorem Inv.pinned {pins:List (Addr×Obj)}{σ : St}{H:Hp}{s:Shared}{fp:List Addr}(I:Inv X pins σ H s)(hf:∀ b∈fp,FpOk X pins H b)(ho:∀ b∈fp,∃ o,s.heap.get? b=some o∧∀ v,o.data≠.cell v):Inv X (pins++qO fp s.heap) σ H s:=
 I.pins_of fun p hp=>(List.mem_append.mp hp).elim (fun z=>I.pin p (List.mem_append_right _ z)) fun z=>by
  obtain ⟨hb,e⟩:=Af z
  obtain ⟨f0,f1,f2,_⟩:=hf p.1 hb
  obtain ⟨o,e',d⟩:=ho p.1 hb
  rw [e] at e';cases e'
  exact ⟨e,f0,f1,f2,d⟩
theorem Inv.unpinned {pins pl:List (Addr×Obj)}{σ : St}{H:Hp}{s:Shared}(I:Inv X (pins++pl) σ H s):Inv X pins σ H s:=I.pins_of fun p hp=>I.pin p (List.mem_append_right _ (List.mem_append_left _ hp))
theorem ps_for {iter:Expr}{body:List Stmt}{wi:TI}{g:TG}{tb:TS}{pos:Pos}(hp:PassesOwn (model X.prog X.w) X.A X.env X.xe)(hc:X.calm=true)(hi:PI X tg iter wi)(hg:PG X tg g)(hb:PSs X body tb)
  (hs:∀ x,foldedSetIterable iter X.env x=pure x:=by intro _;rfl):PS X (.For tg iter body [] pos) (tFor wi g tb):=by
 intro pins s σ H D I h
 refine wpAny_For (thn (hi pins s σ H _ I h) fun v s1 h1=>thn h1 fun itv s2 h2=>?_) hs
 obtain ⟨it,fp,tn,J,H2,e,I2,T,st2,f2,W,⟨m0,w0⟩,turn⟩:=h2
 subst e
 -- what stays true of the iterator's objects through the loop
 have stat:∀ {H':Hp},(∀ b∈fp,H' b=none)→∀ b∈fp,FpOk X pins H' b:=fun hn b hb=>⟨hn b hb,(f2 b hb).2⟩
 refine codeAny_forLoop_any (fun n s'=>∃ i σ' H',Inv X pins σ' H' s'∧tn i s'.heap∧(∀ b∈fp,H' b=none)∧W i n σ' H') ?_ m0 ⟨0,σ,H2,I2,st2,fun b hb=>(f2 b hb).1,w0⟩
 rintro n s3 ⟨i,σ3,H3,I3,st3,fr3,w3⟩
 rcases turn i n σ3 H3 w3 with ⟨stop,qn⟩ | ⟨go,N,hN,step⟩
 ·refine wpAny_passesOwn hp (thn (T.done X rfl rfl rfl (fun _=>hc) i pins s3 σ3 H3 X.xe I3 (stat fr3) st3 stop) fun r s4 ⟨hr,I4⟩=>?_)
  subst hr
  exact wpAny_execs_nil ⟨σ3,H3,I4,qn⟩
 ·refine wpAny_passesOwn hp (thn (T.item X rfl rfl rfl (fun _=>hc) i pins s3 σ3 H3 X.xe I3 (stat fr3) st3 go) fun r s4 ⟨u,hr,h4⟩=>?_)
  subst hr
  refine wpAny_passesOwn hp (thn h4 fun _ s5 ⟨x,H5,I5,r5,y5,st5,fr5⟩=>?_)
  have I5':=I5.pinned (stat fr5) (T.obj _ _ st5)
  refine wpAny_passesOwn hp (thn (hg _ s5 σ3 H5 x u _ I5' r5 (step x H5 y5)) fun _ s6 ⟨σ6,H6,I6,q6⟩=>?_)
  refine wpAny_passesOwn hp (thn (hb _ s6 σ6 H6 _ I6 q6) fun f s7 q7=>?_)
  have again:∀ {σ7:St} {H7:Hp},Inv X (pins++qO fp s5.heap) σ7 H7 s7→N σ7 H7→∃ m,m<n∧∃ i σ' H',Inv X pins σ' H' s7∧tn i s7.heap∧(∀ b∈fp,H' b=none)∧W i m σ' H':=fun {σ7 H7} I7 n7=>by
   obtain ⟨m',hm,w7⟩:=hN σ7 H7 n7
   refine ⟨m',hm,i+1,σ7,H7,I7.unpinned,T.keep _ _ _ st5 fun b hb o e=>(I7.pin (b,o) (List.mem_append_right _ (List.mem_append_right _ (gB hb e)))).1,fun b hb=>?_,w7⟩
   obtain ⟨o,e,d⟩:=T.obj _ _ st5 b hb
   exact (I7.pin (b,o) (List.mem_append_right _ (List.mem_append_right _ (gB hb e)))).2.1
  cases f with
  | next=>obtain ⟨σ7,H7,I7,n7⟩:=q7;exact again I7 n7
  | cont=>obtain ⟨σ7,H7,I7,n7⟩:=q7;exact again I7 n7
  | brk=>obtain ⟨σ7,H7,I7,q7⟩:=q7;exact ⟨σ7,H7,I7.unpinned,q7⟩
  | ret v=>obtain ⟨x7,σ7,H7,I7,r7,q7⟩:=q7;exact ⟨x7,σ7,H7,I7.unpinned,r7,q7⟩
end
end L2
namespace L2
open PySem PySem.Spec PyProof.Rows
abbrev R2:=V→V→Hp→VK→Prop
def OpR (X:Cx)(f:Value→Value→Sem Value)(r:R2):Prop:=
 ∀ (pins:List (Addr×Obj)) (s:Shared) (σ : St) (H:Hp) (x y:V) (v u:Value) (Q:VK),Inv X pins σ H s→RelV x v→RelV y u→r x y H Q →
  wpAny (model X.prog X.w) X.A (f v u) (EP X pins σ Q) X.xe s
def UnR (X:Cx)(f:Value→Sem Value)(r:V→Hp→VK→Prop):Prop:=
 ∀ (pins:List (Addr×Obj)) (s:Shared) (σ : St) (H:Hp) (x:V) (v:Value) (Q:VK),Inv X pins σ H s→RelV x v→r x H Q →
  wpAny (model X.prog X.w) X.A (f v) (EP X pins σ Q) X.xe s
def fu (X:Cx)(f:Value)(r:List V→Hp→VK→Prop):Prop:=
 ∀ (pins:List (Addr×Obj)) (s:Shared) (σ : St) (H:Hp) (xs:List V) (us:List Value) (Q:VK),Inv X pins σ H s→Vals xs us→r xs H Q →
  wpAny (model X.prog X.w) X.A (call f us) (EP X pins σ Q) X.xe s
def TruR (X:Cx)(r:V→Hp→(Bool→Hp→Prop)→Prop):Prop:=
 ∀ (pins:List (Addr×Obj)) (s:Shared) (σ : St) (H:Hp) (x:V) (v:Value) (Q:Bool→Hp→Prop),Inv X pins σ H s→RelV x v→r x H Q →
  wpAny (model X.prog X.w) X.A (truthy v) (TP X pins σ Q) X.xe s
def tOp (r:R2)(ta tb:TE):TE:=fun σ H Q=>ta σ H fun x H1=>tb σ H1 fun y H2=>r x y H2 Q
def tUn (r:V→Hp→VK→Prop)(ta:TE):TE:=fun σ H Q=>ta σ H fun x H1=>r x H1 Q
def rI (C:Int→Int→Prop)(g:Int→Int→V):R2:=fun x y H Q=>∃ i j,x=.int i∧y=.int j∧C i j∧Q (g i j) H
def rI0 (g:Int→Int→V):R2:=fun x y H Q=>∃ i j,x=.int i∧y=.int j∧Q (g i j) H
def rU (g:Int→V):V→Hp→VK→Prop:=fun x H Q=>∃ i,x=.int i∧Q (g i) H
section
variable {X:Cx}{a b c:Expr}{ta tb tc:TE}{pos:Pos}
theorem binT (ha:PE X a ta)(hb:PE X b tb){pins:List (Addr×Obj)}{s:Shared}{σ : St}{H:Hp}{R:V→V→Hp→Prop}(I:Inv X pins σ H s)
  (h:ta σ H fun x H1=>tb σ H1 fun y H2=>R x y H2) {Q:Value→Shared→Prop} {f:Value→Value→Sem Value}
  (hf:∀ v u s2 x y H2,Inv X pins σ H2 s2→RelV x v→RelV y u→R x y H2→wpAny (model X.prog X.w) X.A (f v u) Q X.xe s2) :
  wpAny (model X.prog X.w) X.A (eval a X.env) (fun v s₁=>wpAny (model X.prog X.w) X.A (eval b X.env) (fun u s₂=>wpAny (model X.prog X.w) X.A (f v u) Q X.xe s₂) X.xe s₁) X.xe s:=by
 refine thn (ha pins s σ H _ I h) fun v s1 ⟨x,H1,I1,r1,q1⟩=>?_
 refine thn (hb pins s1 σ H1 _ I1 q1) fun u s2 ⟨y,H2,I2,r2,q2⟩=>?_
 exact hf v u s2 x y H2 I2 r1 r2 q2
theorem pe_op {op:Operator}{r:R2}(ho:OpR X (binaryOp op) r)(ha:PE X a ta)(hb:PE X b tb):PE X (.BinOp a op b pos) (tOp r ta tb):=by
 intro pins s σ H Q I h
 exact wpAny_BinOp (binT ha hb I h fun v u s2 x y H2 I2 rx ry q=>ho pins s2 σ H2 x y v u Q I2 rx ry q)
theorem pe_un {op:UnaryOp}{r:V→Hp→VK→Prop}(ho:UnR X (unaryOp op) r)(ha:PE X a ta):PE X (.UnaryOp op a pos) (tUn r ta):=by
 intro pins s σ H Q I h
 exact UnaryOp_ (thn (ha pins s σ H _ I h) fun v s1 ⟨x,H1,I1,r1,q1⟩=>ho pins s1 σ H1 x v Q I1 r1 q1)
theorem opI {f:Value→Value→Sem Value}{C:Int→Int→Prop}{g:Int→Int→Int}
  (rule:∀ (i j:Int) (t u:Tok) (s:Shared) (Q:Value→Shared→Prop) (E:Value→Shared→Prop),C i j→Q (.int (g i j) s.toks) { s with toks:=s.toks+1 }→wpAny (model X.prog X.w) X.A (f (.int i t) (.int j u)) Q E s) :
  OpR X f (rI C fun i j=>.int (g i j)):=by
 intro pins s σ H x y v u Q I rx ry h
 obtain ⟨i,j,rfl,rfl,hc,q⟩:=h
 obtain ⟨t,rfl⟩:=rx
 obtain ⟨t',rfl⟩:=ry
 exact rule i j t t' s _ _ hc ⟨.int (g i j),H,I.tok _,⟨_,rfl⟩,q⟩
theorem opI0 {f:Value→Value→Sem Value}{g:Int→Int→Int}
  (rule:∀ (i j:Int) (t u:Tok) (s:Shared) (Q:Value→Shared→Prop) (E:Value→Shared→Prop),Q (.int (g i j) s.toks) { s with toks:=s.toks+1 }→wpAny (model X.prog X.w) X.A (f (.int i t) (.int j u)) Q E s) :
  OpR X f (rI0 fun i j=>.int (g i j)):=by
 intro pins s σ H x y v u Q I rx ry h
 obtain ⟨i,j,rfl,rfl,q⟩:=h
 obtain ⟨t,rfl⟩:=rx
 obtain ⟨t',rfl⟩:=ry
 exact rule i j t t' s _ _ ⟨.int (g i j),H,I.tok _,⟨_,rfl⟩,q⟩
theorem opB0 {f:Value→Value→Sem Value}{g:Int→Int→Bool}
  (rule:∀ (i j:Int) (t u:Tok) (s:Shared) (Q:Value→Shared→Prop) (E:Value→Shared→Prop),Q (.bool (g i j)) s→wpAny (model X.prog X.w) X.A (f (.int i t) (.int j u)) Q E s) :
  OpR X f (rI0 fun i j=>.bl (g i j)):=by
 intro pins s σ H x y v u Q I rx ry h
 obtain ⟨i,j,rfl,rfl,q⟩:=h
 obtain ⟨t,rfl⟩:=rx
 obtain ⟨t',rfl⟩:=ry
 exact rule i j t t' s _ _ ⟨.bl (g i j),H,I,rfl,q⟩
def CPow (i j:Int):Prop:=0≤j∧j≤1000000∧i.natAbs<2^64
theorem op_add:OpR X (binaryOp .Add) (rI0 fun i j=>.int (i+j)):=opI0 fun _ _ _ _ _ _ _ q=>add_int q
theorem op_sub:OpR X (binaryOp .Sub) (rI0 fun i j=>.int (i - j)):=opI0 fun _ _ _ _ _ _ _ q=>sub_int q
theorem op_modN:OpR X (binaryOp .Mod) (rI (fun _ j=>j≠0) fun i j=>.int (i.fmod j)):=opI fun _ _ _ _ _ _ _ hc q=>mod_int' hc q
theorem op_pow:OpR X (binaryOp .Pow) (rI CPow fun i j=>.int (i^j.toNat)):=opI fun _ _ _ _ _ _ _ hc q=>pow_int_small hc.1 hc.2.1 hc.2.2 q
theorem unI {f:Value→Sem Value}{g:Int→Int}
  (rule:∀ (i:Int) (t:Tok) (s:Shared) (Q:Value→Shared→Prop) (E:Value→Shared→Prop),Q (.int (g i) s.toks) { s with toks:=s.toks+1 }→wpAny (model X.prog X.w) X.A (f (.int i t)) Q E s) :
  UnR X f (rU fun i=>.int (g i)):=by
 intro pins s σ H x v Q I rx h
 obtain ⟨i,rfl,q⟩:=h
 obtain ⟨t,rfl⟩:=rx
 exact rule i t s _ _ ⟨.int (g i),H,I.tok _,⟨_,rfl⟩,q⟩
theorem un_neg:UnR X (unaryOp .USub) (rU fun i=>.int (-i)):=unI fun _ _ _ _ _ q=>neg_int q
end
section
variable {X:Cx}{a b c:Expr}{ta tb tc:TE}{pos:Pos}
theorem uV {pins:List (Addr×Obj)}{σ : St}{H:Hp}{s:Shared}{Q:VK}{k k':Bool}(I:Inv X pins σ H s)(q:Q (.bl k) H)(e:k=k'):EP X pins σ Q (.bool k') s:=by
 subst e
 exact ⟨.bl k,H,I,rfl,q⟩
theorem op_lt:OpR X (compareOp .Lt) (rI0 fun i j=>.bl (decide (i<j))):=opB0 fun _ _ _ _ _ _ _ q=>lt_int q
theorem op_le:OpR X (compareOp .LtE) (rI0 fun i j=>.bl (decide (i≤j))):=opB0 fun _ _ _ _ _ _ _ q=>le_int q
theorem op_gt:OpR X (compareOp .Gt) (rI0 fun i j=>.bl (decide (j<i))):=opB0 fun _ _ _ _ _ _ _ q=>gt_int q
theorem op_notN:OpR X (compareOp .IsNot) (fun x y H Q=>y=.non∧Q (.bl (!decide (x=.non))) H):=by
 intro pins s σ H x y v u Q I rx ry h
 obtain ⟨rfl,q⟩:=h
 cases ry
 refine isnot_none_gen (uV I q ?_)
 cases x <;> first
  | (cases rx;rfl)
  | (obtain ⟨t,rfl⟩:=rx;rfl)
theorem OpR.or {f:Value→Value→Sem Value}{r r':R2}(h:OpR X f r)(h':OpR X f r'):OpR X f (fun x y H Q=>r x y H Q∨r' x y H Q):=by
 intro pins s σ H x y v u Q I rx ry q
 rcases q with q | q
 ·exact h pins s σ H x y v u Q I rx ry q
 ·exact h' pins s σ H x y v u Q I rx ry q
theorem aY (b:Expr){op:CmpOp}(h:op≠.In:=by decide)(h2:op≠.NotIn:=by decide):behindInMarks op b=false:=by
 have e1:(op==CmpOp.In)=false:=by cases op <;> first | rfl | exact absurd rfl h
 have e2:(op==CmpOp.NotIn)=false:=by cases op <;> first | rfl | exact absurd rfl h2
 cases b <;> simp [behindInMarks,e1,e2]
theorem pe_cmpR {op:CmpOp}{r:R2}(ho:OpR X (compareOp op) r)(ha:PE X a ta)(hb:PE X b tb)(hm:behindInMarks op b=false):PE X (.Compare a [op] [b] pos) (tOp r ta tb):=by
 intro pins s σ H Q I h
 exact wpAny_Compare1 (binT ha hb I h fun v u s2 x y H2 I2 rx ry q=>ho pins s2 σ H2 x y v u Q I2 rx ry q) hm
def tTest (t:TE):TT:=fun σ H Q=>t σ H fun x H'=>∃ k,x=.bl k∧Q k H'
theorem pt_cmpR {op:CmpOp}{r:R2}(ho:OpR X (compareOp op) r)(ha:PE X a ta)(hb:PE X b tb)(hm:behindInMarks op b=false):PT X (.Compare a [op] [b] pos) (tTest (tOp r ta tb)):=by
 intro pins s σ H Q I h
 refine wpAny_isTrue_Compare1 (thn (ha pins s σ H _ I h) fun v s1 ⟨x,H1,I1,r1,q1⟩=>thn (hb pins s1 σ H1 _ I1 q1) fun u s2 ⟨y,H2,I2,r2,q2⟩=>
  thn (ho pins s2 σ H2 x y v u _ I2 r1 r2 q2) fun c s3 ⟨z,H3,I3,r3,k,e,q3⟩=>?_) hm
 subst e
 cases r3
 exact wpAny_truthy_bool ⟨H3,I3,q3⟩
def tChain (r r':R2)(ta tb tc:TE):TE:=fun σ H Q=>ta σ H fun x H1=>tb σ H1 fun y H2=>r x y H2 fun z H3=>∃ k,z=.bl k ∧
 (if k=true then tc σ H3 fun w' H4=>r' y w' H4 Q else Q (.bl false) H3)
theorem pe_chain {op op':CmpOp}{r r':R2}(ho:OpR X (compareOp op) r)(ho':OpR X (compareOp op') r')(ha:PE X a ta)(hb:PE X b tb)(hc:PE X c tc)
  (hm:lastMarks [op,op'] [b,c]=false:=by with_unfolding_all rfl):PE X (.Compare a [op,op'] [b,c] pos) (tChain r r' ta tb tc):=by
 intro pins s σ H Q I h
 refine Compare_chain (thn (ha pins s σ H _ I h) fun v s1 ⟨x,H1,I1,r1,q1⟩=>chain_link (thn (hb pins s1 σ H1 _ I1 q1) fun u s2 ⟨y,H2,I2,r2,q2⟩=>
  thn (ho pins s2 σ H2 x y v u _ I2 r1 r2 q2) fun d s3 ⟨z,H3,I3,r3,k,e,q3⟩=>?_)) hm
 subst e
 cases r3
 refine wpAny_truthy_bool ?_
 cases k with
 | false=>exact ite_ff ⟨.bl false,H3,I3,rfl,q3⟩
 | true=>exact ite_tt (chain_last (thn (hc pins s3 σ H3 _ I3 q3) fun w' s4 ⟨z',H4,I4,r4,q4⟩=>ho' pins s4 σ H4 y z' u w' Q I4 r2 r4 q4))
theorem pt_chain {op op':CmpOp}{r r':R2}(ho:OpR X (compareOp op) r)(ho':OpR X (compareOp op') r')(ha:PE X a ta)(hb:PE X b tb)(hc:PE X c tc)
  (hm:lastMarks [op,op'] [b,c]=false:=by with_unfolding_all rfl):PT X (.Compare a [op,op'] [b,c] pos) (tTest (tChain r r' ta tb tc)):=by
 intro pins s σ H Q I h
 refine isTrue_chain (thn (ha pins s σ H _ I h) fun v s1 ⟨x,H1,I1,r1,q1⟩=>test_link (thn (hb pins s1 σ H1 _ I1 q1) fun u s2 ⟨y,H2,I2,r2,q2⟩=>
  thn (ho pins s2 σ H2 x y v u _ I2 r1 r2 q2) fun d s3 ⟨z,H3,I3,r3,k,e,q3⟩=>?_)) hm
 subst e
 cases r3
 refine wpAny_truthy_bool ?_
 cases k with
 | false=>
  obtain ⟨k',e',q'⟩:=q3
  cases e'
  exact ite_ff ⟨H3,I3,q'⟩
 | true=>
  refine ite_tt (test_last (thn (hc pins s3 σ H3 _ I3 q3) fun w' s4 ⟨z',H4,I4,r4,q4⟩=>thn (ho' pins s4 σ H4 y z' u w' _ I4 r2 r4 q4) fun d' s5 ⟨z2,H5,I5,r5,k2,e2,q5⟩=>?_))
  subst e2
  cases r5
  exact wpAny_truthy_bool ⟨H5,I5,q5⟩
def TruV (K:PySem.W.Frag)(x:V)(H:Hp)(k:Bool):Prop:=
 match x with
 | .non=>k=false
 | .bl b=>k=b
 | .int i=>k=(i != 0)
 | .str y=>y.length≤sizeLine∧k=((y.length:Int) != 0)
 | .byt y=>y.size≤sizeLine∧k=((y.size:Int) != 0)
 | .ref p=>(∃ xs,SqL K H p xs∧k = !xs.isEmpty)∨(∃ xs,SqT K H p xs∧k = !xs.isEmpty)∨∃ kvs,H p=some (.dK kvs)∧k = !kvs.isEmpty
 | _=>False
theorem xW {κ : Type}{kvs:List (κ×V)}{vs:List (κ×Value)}(r:KV kvs vs):(!vs.isEmpty) = !kvs.isEmpty:=by
 cases r <;> rfl
theorem oJ {xs:List V}{its:List Value}(r:Vals xs its):(!its.toArray.isEmpty) = !xs.isEmpty:=by
 cases r <;> simp
theorem jR:(sizeLine:Nat)<2^63:=by rw [sizeLine_eq];decide
theorem tru_ok:TruR X (fun x H Q=>∃ k,TruV X.K x H k∧Q k H):=by
 intro pins s σ H x v Q I rx h
 obtain ⟨k,e,q⟩:=h
 have hl:=jR
 have hs:sizeLine=16777216:=sizeLine_eq
 cases x with
 | non=>
  cases rx
  have e':k=false:=e
  subst e'
  exact truthy_none ⟨H,I,q⟩
 | bl b=>
  cases rx
  have e':k=b:=e
  subst e'
  exact wpAny_truthy_bool ⟨H,I,q⟩
 | int i=>
  obtain ⟨t,rfl⟩:=rx
  have e':k=(i != 0):=e
  subst e'
  exact PySem.P.truthy_int ⟨H,I,q⟩
 | str y=>
  obtain ⟨t,rfl⟩:=rx
  obtain ⟨hy,e'⟩:y.length≤sizeLine∧k=((y.length:Int) != 0):=e
  subst e'
  exact PySem.P.truthy_str (by omega) ⟨H,I.tok _,q⟩
 | byt y=>
  obtain ⟨t,rfl⟩:=rx
  obtain ⟨hy,e'⟩:y.size≤sizeLine∧k=((y.size:Int) != 0):=e
  subst e'
  exact PySem.W.truthy_bytes (by omega) ⟨H,I.tok _,q⟩
 | ref p=>
  cases rx
  have e':(∃ xs,SqL X.K H p xs∧k = !xs.isEmpty)∨(∃ xs,SqT X.K H p xs∧k = !xs.isEmpty)∨∃ kvs,H p=some (.dK kvs)∧k = !kvs.isEmpty:=e
  rcases e' with ⟨xs,hx,e'⟩ | ⟨xs,hx,e'⟩ | ⟨kvs,hx,e'⟩
  ·subst e'
   obtain ⟨its,r,pl,hz⟩:=I.list hx
   have hlen:=r.length
   exact wpAny_truthy_list pl.isList (by simp only [List.size_toArray];omega) ⟨H,I.tok _,by rw [oJ r];exact q⟩
  ·subst e'
   obtain ⟨its,r,pl,hz⟩:=I.tuple hx
   have hlen:=r.length
   exact truthy_tuple pl (by simp only [List.size_toArray];omega) ⟨H,I.tok _,by rw [oJ r];exact q⟩
  ·subst e'
   obtain ⟨hz,hS,vs,r,m⟩:kvs.length≤sizeLine∧(p==sysModules)=false∧∃ vs,KV kvs vs∧s.heap.DictOf (bN X.prog X.w) p vs:=I.hok p _ hx
   have hlen:kvs.length=vs.length:=Paired.length r
   exact wpAny_truthy_dict hS m (by omega) ⟨H,I.tok _,by rw [xW r];exact q⟩
 | _=>exact (show False from e).elim
theorem pt_truth (ha:PE X a ta)(he:∀ whole,isTrue a X.env whole=(do let v ←whole;standAt a.pos;holding [v] (truthy v))) :
  PT X a (fun σ H Q=>ta σ H fun x H'=>∃ k,TruV X.K x H' k∧Q k H'):=by
 intro pins s σ H Q I h
 exact isTrue_plain (thn (ha pins s σ H _ I h) fun v s1 ⟨x,H1,I1,r1,q1⟩=>tru_ok pins s1 σ H1 x v Q I1 r1 q1) (he _)
theorem vals1 {x:V}{us:List Value}(r:Vals [x] us):∃ u,us=[u]∧RelV x u:=by
 cases r with
 | cons r1 r2=>cases r2;exact ⟨_,rfl,r1⟩
theorem vals2 {x y:V}{us:List Value}(r:Vals [x,y] us):∃ u w',us=[u,w']∧RelV x u∧RelV y w':=by
 cases r with
 | cons r1 r2=>
  cases r2 with
  | cons r3 r4=>cases r4;exact ⟨_,_,rfl,r1,r3⟩
theorem call_abs:fu X (.builtin "abs") (fun xs H Q=>∃ i,xs=[.int i]∧Q (.int (if i<0 then -i else i)) H):=by
 intro pins s σ H xs us Q I r h
 obtain ⟨i,rfl,q⟩:=h
 obtain ⟨u,rfl,t,rfl⟩:=vals1 r
 exact call_abs_int fun u tk=>⟨.int (if i<0 then -i else i),H,I.tok _,⟨_,rfl⟩,q⟩
theorem call_max2 (hc:X.calm=true):fu X (.builtin "max") (fun xs H Q=>∃ i j,xs=[.int i,.int j]∧Q (.int (if j>i then j else i)) H):=by
 intro pins s σ H xs us Q I r h
 obtain ⟨i,j,rfl,q⟩:=h
 obtain ⟨u,w',rfl,⟨t,rfl⟩,⟨t',rfl⟩⟩:=vals2 r
 refine max_two_ints (I.ok.hd hc) fun h' tk k=>⟨_,H,I.kept k,?_,q⟩
 by_cases hj:j>i
 ·rw [if_pos hj,if_pos hj];exact ⟨_,rfl⟩
 ·rw [if_neg hj,if_neg hj];exact ⟨_,rfl⟩
end
end L2
namespace L2
open PySem PySem.Spec PyProof.Rows
structure ObjM (h:Heap) (x dx C:Addr) (mA:Str→Option Value):Prop where
 obj:h.get? x=some (PySem.W.instObj C dx)
 ns:h.Ns1 dx mA
 ne:dx≠x
theorem sX {h:Heap}{dx:Addr}{mA:Str→Option Value}(n:h.Ns1 dx mA):∃ od,h.get? dx=some od∧∀ name,PySem.W.lookIn name od=some (mA name):=by
 obtain ⟨o,es,ep,ho,hd,hk,_,hm⟩:=n
 refine ⟨o,ho,fun name=>?_⟩
 have e:=hm name
 unfold nsFind findBy at e
 rw [←Array.find?_toList] at e
 unfold PySem.W.lookIn
 rw [hd]
 dsimp only
 split
 ·rename_i y q
  rw [q] at e
  exact congrArg some e
 ·rename_i q
  rw [q] at e
  have a:es.toList.any (·.refKey)=false:=by
   rw [List.any_eq_false]
   intro y hy
   obtain ⟨z,t,hkey⟩:=hk y (Array.mem_toList_iff.mp hy)
   simp [DictEntry.refKey,hkey]
  have a':¬ es.toList.any (·.refKey)=true:=by rw [a];exact Bool.false_ne_true
  rw [if_neg a']
  exact congrArg some e
theorem ObjM.look {h:Heap}{x dx C:Addr}{mA:Str→Option Value}(I:ObjM h x dx C mA):∃ od,PySem.W.InstAt h x (PySem.W.instObj C dx) C (some od)∧∀ name,PySem.W.lookIn name od=some (mA name):=
 let ⟨od,ho,hl⟩:=sX I.ns
 ⟨od,⟨I.obj,rfl,rfl,ho⟩,hl⟩
section
variable {prog:Program}{w:World}{A:Around}{E:Value→Shared→Prop}{s:Shared}{K:PySem.W.Frag}{x dx C f:Addr}{mA:Str→Option Value}{name:Str}{v:Value}
theorem get_map {expr:Bool}{Q:Value→Shared→Prop}(X:K.In s.heap)(I:ObjM s.heap x dx C mA)(hg:PySem.W.plainGet K C name=true)(hh:PySem.W.hasDictIn K C=true)
  (ha:PySem.W.findIn K (.ref C) name=some none) (hv:mA name=some v) (hv':PySem.W.handedIn v=true) (h:Q v { s with toks:=s.toks+1 }) :
  wpAny (model prog w) A (getAttr (.ref x) name expr) Q E s:=by
 obtain ⟨od,J,hl⟩:=I.look
 exact PySem.W.get_value X J (PySem.W.plainGet_of hg).1 (PySem.W.findObj_own hh ha rfl (by rw [hl,hv])) hv' h
theorem get_meth {pl:Sem Bool}{Q:Value×List Value→Shared→Prop}(X:K.In s.heap)(I:ObjM s.heap x dx C mA)(hg:PySem.W.plainGet K C name=true)
  (hf:PySem.W.findIn K (.ref C) name=some (some (.ref f))) (ht:PySem.W.isFn K (.ref f)=true) (hv:mA name=none) (h:Q (.ref f,[.ref x]) s) :
  wpAny (model prog w) A (getMethod (.ref x) name pl) Q E s:=by
 obtain ⟨od,J,hl⟩:=I.look
 exact PySem.W.method_fn X J (PySem.W.plainGet_of hg).1 (PySem.W.plainGet_of hg).2 hf (beq_iff_eq.mp ht) (by show (PySem.W.lookIn name od).map (·.isSome)=some false;rw [hl,hv];rfl) h
theorem set_map {ns:List Str}{Q:Unit→Shared→Prop}(X:K.In s.heap)(I:ObjM s.heap x dx C mA)
  (hs:PySem.W.findIn K (.ref C) "__setattr__" = some (some (.builtin "object.__setattr__"))) (hp:PySem.W.plainOver K C=true) (ht:PySem.W.takerIn K C name=some none) (hh:PySem.W.hasDictIn K C=true)
  (hw:PySem.Within mA ns) (hsz:ns.length≤sizeLine)
  (h:∀ h',ObjM h' x dx C (fun y=>if y=name then some v else mA y)→Heap.SameBut dx s.heap h'→Q () { s with heap:=h',toks:=s.toks+2 }) :
  wpAny (model prog w) A (setAttr (.ref x) name v) Q E s:=by
 obtain ⟨od,J,hl⟩:=I.look
 refine PySem.W.set_plain X J hs (PySem.W.osa_open (s:={ s with toks:=s.toks+1 }) (r:=none) X J hp ht fun b=>?_)
 obtain ⟨cd,hc,hd'⟩:=PySem.W.any_some hh
 have hx:s.heap.get? x=some ⟨.ref C,some dx,.plain,#[]⟩:=I.obj
 refine wpAny_bind (wpAny_pure (wpAny_bind (wpAny_bind (wpAny_loadPart hx (wpAny_bind (PySem.W.Looks.here (s:={ s with toks:=s.toks+1 }) (PySem.W.looks_clsIn X hc) ?_))))))
 rw [hd']
 refine wpAny_pure (a:=some dx) (wpAny_bind (wpAny_pure (wpAny_bind ?_)))
 refine wpAny_nsSet1 (s:={ s with toks:=s.toks+1 }) I.ns fun h' hn2 hs2=>?_
 obtain ⟨oD,esD,epD,hoD,hdD,hcD⟩:=hn2.count (PySem.Within.cons name v hw)
 refine wpAny_bind (wpAny_lookBehind hoD (by rw [hdD];exact pastItsLine_dict (Nat.le_trans hcD (by rw [List.length_cons];omega))) ?_)
 exact wpAny_pure (h _ ⟨(hs2.2 _ (Ne.symm I.ne)).trans I.obj,hn2,I.ne⟩ hs2)
theorem make_map {R:Result→Shared→Prop}{vs:List Value}{kw:List (Str×Value)}(X:K.In s.heap)(hm:PySem.W.makesIn K C=true)
  (hi:PySem.W.findIn K (.ref C) "__init__" = some (some (.ref f))) (hf:PySem.W.typeIn K (.ref f)=some (.type "function"))
  (h:codeAny (model prog w) (A.under (.builtin "type.__call__" ⟨.ref C::vs,kw⟩)) (.call (.ref f) ⟨.ref (s.heap.objs.size+1)::vs,kw⟩) (PySem.W.InitBack (s.heap.objs.size+1) R)
   { s with heap:=(s.heap.push PySem.W.emptyDict).push (PySem.W.instObj C s.heap.objs.size) }) :
  codeAny (model prog w) A (.call (.ref C) ⟨vs,kw⟩) R s:=by
 obtain ⟨hh,g,d,t,os⟩:=s
 exact PySem.W.make_core (PySem.W.makes_of X hm) (PySem.W.looks_findIn X hi) (fun self=>PySem.W.bind_fn X self hf) (.inl rfl) h
end
def nJ (f:Str)(v:V):List (Str×V)→List (Str×V)
 | []=>[(f,v)]
 | (g,x)::r=>if g=f then (g,v)::r else (g,x)::nJ f v r
theorem mK (f g:Str)(v:V):∀ fs:List (Str×V),(nJ f v fs).lookup g=if g=f then some v else fs.lookup g
 | []=>by
  show List.lookup g [(f,v)]=_
  by_cases h:g=f
  ·have hb:(g==f)=true:=beq_iff_eq.mpr h
   simp only [List.lookup,hb,if_pos h]
  ·have hb:(g==f)=false:=beq_eq_false_iff_ne.mpr h
   simp only [List.lookup,hb,if_neg h]
 | (k,x)::r=>by
  have ih:=mK f g v r
  rw [show nJ f v ((k,x)::r)=(if k=f then (k,v)::r else (k,x)::nJ f v r) from rfl]
  by_cases hk:k=f
  ·rw [if_pos hk]
   by_cases h:g=k
   ·have hb:(g==k)=true:=beq_iff_eq.mpr h
    simp only [List.lookup,hb,if_pos (h.trans hk)]
   ·have hb:(g==k)=false:=beq_eq_false_iff_ne.mpr h
    simp only [List.lookup,hb,if_neg (fun e:g=f=>h (e.trans hk.symm))]
  ·rw [if_neg hk]
   by_cases h:g=k
   ·have hb:(g==k)=true:=beq_iff_eq.mpr h
    simp only [List.lookup,hb,if_neg (fun e:g=f=>hk (h.symm.trans e))]
   ·have hb:(g==k)=false:=beq_eq_false_iff_ne.mpr h
    simp only [List.lookup,hb]
    exact ih
theorem lF (f:Str)(v:V):∀ fs:List (Str×V),f∈(nJ f v fs).map (·.1)∧∀ g,g∈fs.map (·.1)→g∈(nJ f v fs).map (·.1)
 | []=>⟨by simp [nJ],fun g h=>by simp at h⟩
 | (k,x)::r=>by
  obtain ⟨i1,i2⟩:=lF f v r
  rw [show nJ f v ((k,x)::r)=(if k=f then (k,v)::r else (k,x)::nJ f v r) from rfl]
  by_cases hk:k=f
  ·rw [if_pos hk]
   subst hk
   exact ⟨by simp,fun g h=>by simpa using h⟩
  ·rw [if_neg hk]
   refine ⟨?_,fun g h=>?_⟩
   ·rw [List.map_cons]
    exact List.mem_cons_of_mem _ i1
   ·rw [List.map_cons] at h ⊢
    rcases List.mem_cons.mp h with e | e
    ·exact List.mem_cons.mpr (.inl e)
    ·exact List.mem_cons_of_mem _ (i2 g e)
theorem lZ (f:Str)(v:V):∀ fs:List (Str×V),(nJ f v fs).length≤fs.length+1
 | []=>by simp [nJ]
 | (k,x)::r=>by
  have ih:=lZ f v r
  rw [show nJ f v ((k,x)::r)=(if k=f then (k,v)::r else (k,x)::nJ f v r) from rfl]
  by_cases hk:k=f
  ·rw [if_pos hk,List.length_cons,List.length_cons];omega
  ·rw [if_neg hk,List.length_cons,List.length_cons];omega
theorem tE.some_of {v:V}{o:Option Value}(r:tE (some v) o):∃ u,o=some u∧RelV v u:=by
 cases o with
 | none=>exact (show False from r).elim
 | some u=>exact ⟨u,rfl,r⟩
theorem tE.none_of {o:Option Value}(r:tE none o):o=none:=by
 cases o with
 | none=>rfl
 | some u=>exact (show False from r).elim
theorem qR {v:V}{u:Value}(r:RelV v u):PySem.W.handedIn u=true:=by
 cases v with
 | non=>cases (show u=Value.none from r);rfl
 | bl b=>cases (show u=Value.bool b from r);rfl
 | int i=>obtain ⟨t,e⟩:=(show ∃ t,u=Value.int i t from r);cases e;rfl
 | str x=>obtain ⟨t,e⟩:=(show ∃ t,u=Value.str x t from r);cases e;rfl
 | byt b=>obtain ⟨t,e⟩:=(show ∃ t,u=Value.bytes b t from r);cases e;rfl
 | flt b=>obtain ⟨t,e⟩:=(show ∃ t,u=Value.float b t from r);cases e;rfl
 | ref a=>cases (show u=Value.ref a from r);rfl
 | ty n=>cases (show u=Value.type n from r);rfl
section
variable {P:Program}{w:World}{H H':Hp}{h h':Heap}{a C dx:Addr}{fs fs':List (Str×V)}
theorem uy (hok:HOk P w H h)(e:H a=some (.ins C dx fs)):∃ mA,ObjM h a dx C mA∧(∀ f,tE (fs.lookup f) (mA f))∧PySem.Within mA (fs.map (·.1))∧fs.length≤1000∧H dx=some (.own a):=by
 obtain ⟨d,z,ne,ob,mA,n,r,q⟩:=(show cU P w H h a (.ins C dx fs) from hok a _ e)
 exact ⟨mA,⟨ob,n,ne⟩,r,q,z,d⟩
end
structure Cls (K:PySem.W.Frag) (C:Addr):Prop where
 pg:PySem.W.plainGet K C Str.empty=true
 hd:PySem.W.hasDictIn K C=true
 po:PySem.W.plainOver K C=true
 sa:PySem.W.findIn K (.ref C) "__setattr__" = some (some (.builtin "object.__setattr__"))
theorem Cls.get {K:PySem.W.Frag}{C:Addr}(c:Cls K C)(f:Str):PySem.W.plainGet K C f=true:=c.pg
def gP (K:PySem.W.Frag)(C:Addr)(f:Str):Prop:=PySem.W.findIn K (.ref C) f=some none
theorem gP.taker {K:PySem.W.Frag}{C:Addr}{f:Str}(n:gP K C f):PySem.W.takerIn K C f=some none:=by
 unfold PySem.W.takerIn
 rw [show PySem.W.findIn K (.ref C) f=some none from n]
 rfl
structure Con (K:PySem.W.Frag) (C:Addr) (f:Str) (v:V) (u:Value):Prop where
 at_:PySem.W.findIn K (.ref C) f=some (some u)
 rel:RelV v u
 get:PySem.W.specialIn K u "__get__" = some none
 cp:PySem.W.copiedNames.contains f=false
structure Meth (K:PySem.W.Frag) (C:Addr) (m:Str) (f:Addr):Prop where
 at_:PySem.W.findIn K (.ref C) m=some (some (.ref f))
 fn:PySem.W.isFn K (.ref f)=true
 kp:PySem.W.keepIn K (.ref f)=true
section
variable {X:Cx}{pins:List (Addr×Obj)}{σ : St}{H:Hp}{s:Shared}{a C dx:Addr}{fs:List (Str×V)}{f:Str}{v:V}{A:Around}{E:Value→Shared→Prop}
theorem xu {b:Bool}{Q:Value→Shared→Prop}(I:Inv X pins σ H s)(e:H a=some (.ins C dx fs))(c:Cls X.K C)(n:gP X.K C f)(l:fs.lookup f=some v)
  (h:∀ u s',Inv X pins σ H s'→RelV v u→Q u s'):wpAny (model X.prog X.w) A (getAttr (.ref a) f b) Q E s:=by
 obtain ⟨mA,O,r,_,_,_⟩:=uy I.hok e
 obtain ⟨u,hu,ru⟩:=tE.some_of (v:=v) (o:=mA f) (by rw [←l];exact r f)
 exact get_map I.kIn O (c.get f) c.hd n hu (qR ru) (h u _ (I.tok _) ru)
theorem jE {m:Str}{g:Addr}{pl:Sem Bool}{Q:Value×List Value→Shared→Prop}(I:Inv X pins σ H s)(e:H a=some (.ins C dx fs))(c:Cls X.K C)(k:Meth X.K C m g)(l:fs.lookup m=none)
  (h:Q (.ref g,[.ref a]) s):wpAny (model X.prog X.w) A (getMethod (.ref a) m pl) Q E s:=by
 obtain ⟨mA,O,r,_,_,_⟩:=uy I.hok e
 have hn:mA m=none:=tE.none_of (by rw [←l];exact r m)
 exact get_meth I.kIn O (c.get m) k.at_ k.fn hn h
theorem wY {y:V}{u:Value}{Q:Unit→Shared→Prop}(I:Inv X pins σ H s)(e:H a=some (.ins C dx fs))(c:Cls X.K C)(n:gP X.K C f)(hl:fs.length<1000)(ry:RelV y u)
  (h:∀ s',Inv X pins σ (upd H a (.ins C dx (nJ f y fs))) s'→Q () s'):wpAny (model X.prog X.w) A (setAttr (.ref a) f u) Q E s:=by
 obtain ⟨mA,O,r,wi,_,ho⟩:=uy I.hok e
 have hz:(fs.map (·.1)).length≤sizeLine:=by rw [List.length_map,sizeLine_eq];omega
 refine set_map I.kIn O c.sa c.po n.taker c.hd wi hz fun h' O' sb=>h _ ?_
 have hd:∃ o,h'.get? dx=some o:=let ⟨o,_,_,e',_⟩:=O'.ns;⟨o,e'⟩
 refine I.write (x:=a) (e:=dx) (by rw [e];exact True.intro) (.inr ho) (fun b q hb z=>(sb.2 b hb).trans z) hd ?_
 refine ⟨by rw [aD O.ne];exact ho,?_,O.ne,O'.obj,_,O'.ns,fun g=>?_,fun g hg=>?_⟩
 ·have:=lZ f y fs;omega
 ·show tE ((nJ f y fs).lookup g) (if g=f then some u else mA g)
  rw [mK]
  by_cases q:g=f
  ·rw [if_pos q,if_pos q];exact ry
  ·rw [if_neg q,if_neg q];exact r g
 ·by_cases q:g=f
  ·rw [q];exact (lF f y fs).1
  ·refine (lF f y fs).2 g (wi g fun z=>hg ?_)
   show (if g=f then some u else mA g)=none
   rw [if_neg q];exact z
theorem Inv.made (I:Inv X pins σ H s):Inv X pins σ (upd (upd H s.heap.objs.size (.own (s.heap.objs.size+1))) (s.heap.objs.size+1) (.ins C s.heap.objs.size []))
  { s with heap:=(s.heap.push PySem.W.emptyDict).push (PySem.W.instObj C s.heap.objs.size) }:=by
 have e1:(s.heap.push PySem.W.emptyDict).get? s.heap.objs.size=some PySem.W.emptyDict:=Heap.get?_push_size s.heap rfl
 have e2:((s.heap.push PySem.W.emptyDict).push (PySem.W.instObj C s.heap.objs.size)).get? (s.heap.objs.size+1)=some (PySem.W.instObj C s.heap.objs.size):=by
  have:=Heap.get?_push_size (s.heap.push PySem.W.emptyDict) (o:=PySem.W.instObj C s.heap.objs.size) rfl
  rwa [Heap.size_push] at this
 have e3:(s.heap.push PySem.W.emptyDict).Ns s.heap.objs.size (fun _=>none):=⟨PySem.W.emptyDict,#[],_,e1,rfl,(fun e he=>absurd he (by simp)),fun _=>rfl⟩
 have I1:=I.laid (a:=s.heap.objs.size) (o:=.own (s.heap.objs.size+1)) (h':=s.heap.push PySem.W.emptyDict) (t':=s.toks) (fun b u q=>Heap.get?_push_of_some _ q) (Nat.le_refl _) ⟨_,e1⟩
 refine I1.laid (a:=s.heap.objs.size+1) (o:=.ins C s.heap.objs.size []) (t':=s.toks) (fun b u q=>Heap.get?_push_of_some _ q) (Nat.le_of_eq (Heap.size_push _ _)) ?_
 have ne:s.heap.objs.size≠s.heap.objs.size+1:=Nat.ne_of_lt (Nat.lt_succ_self _)
 refine ⟨by rw [aD ne,aL],Nat.zero_le _,ne,e2,fun _=>none,(Heap.Ns1.of_empty e3).at fun o q=>Heap.get?_push_of_some _ q,fun _=>True.intro,fun y hy=>absurd rfl hy⟩
theorem zP {prog:Program}{w:World}{env:Env}{e:Expr}{f:Str}{pos:Pos}{s:Shared}{Q:Value→Shared→Prop}(hb:attributeBase e f env (eval e env)=eval e env)
  (h:wpAny (model prog w) A (eval e env) (fun o s₁=>wpAny (model prog w) A (getAttr o f true) Q E s₁) E s):wpAny (model prog w) A (eval (.Attribute e f pos) env) Q E s:=
 Attribute_any_ h (by rw [arm_eval_Attribute,hb])
end
def tFld (K:PySem.W.Frag)(ta:TE)(f:Str):TE:=fun σ H Q=>ta σ H fun x H1=>∃ a C dx fs v,x=.ref a∧H1 a=some (.ins C dx fs)∧Cls K C∧gP K C f∧fs.lookup f=some v∧Q v H1
def sFld (K:PySem.W.Frag)(ta tv:TE)(f:Str):TS:=fun D σ H=>tv σ H fun y H1=>ta σ H1 fun x H2=>∃ a C dx fs,x=.ref a∧H2 a=some (.ins C dx fs)∧Cls K C∧gP K C f∧fs.length<1000 ∧
 D.nx σ (upd H2 a (.ins C dx (nJ f y fs)))
section
variable {X:Cx}{o e value:Expr}{f:Str}{pos pos' tpos:Pos}{ta tv:TE}
theorem pe_fld (he:PE X e ta)(hb:attributeBase e f X.env (eval e X.env)=eval e X.env):PE X (.Attribute e f pos) (tFld X.K ta f):=by
 intro pins s σ H Q I h
 refine zP hb (thn (he pins s σ H _ I h) fun u s1 ⟨x,H1,I1,rx,a,C,dx,fs,v,ex,ea,c,n,l,q⟩=>?_)
 subst ex
 obtain rfl:u=Value.ref a:=rx
 exact xu I1 ea c n l fun u' s2 I2 ru=>⟨v,H1,I2,ru,q⟩
theorem ps_fld (ha:PE X o ta)(hv:PE X value tv)(hs:swapsWith value (some (.Attribute o f pos')) pos.line X.env=pure false):PS X (.Assign [.Attribute o f pos'] value pos) (sFld X.K ta tv f):=by
 intro pins s σ H D I h
 refine plainObj_wpAny_Assign_Attribute (thn (hv pins s σ H _ I h) fun u s1 ⟨y,H1,I1,ry,q⟩=>thn (ha pins s1 σ H1 _ I1 q) fun ov s2 ⟨x,H2,I2,rx,a,C,dx,fs,ex,ea,c,n,l,q2⟩=>?_) hs
 subst ex
 obtain rfl:ov=Value.ref a:=rx
 exact wY I2 ea c n l ry fun s3 I3=>⟨σ,_,I3,q2⟩
end
section
variable {X:Cx}{pins:List (Addr×Obj)}{σ : St}{H:Hp}{s:Shared}{A:Around}{E:Value→Shared→Prop}{Q:Value→Shared→Prop}{c:Value}{b:Bool}
inductive TyOf (K:PySem.W.Frag) (H:Hp):V→Value→Prop where
 | non:TyOf K H .non (.type "NoneType")
 | bl (x:Bool):TyOf K H (.bl x) (.type "bool")
 | int (i:Int):TyOf K H (.int i) (.type "int")
 | str (x:Str):TyOf K H (.str x) (.type "str")
 | flt (x:UInt64):TyOf K H (.flt x) (.type "float")
 | lst {a:Addr} {xs:List V} (e:H a=some (.lst xs)):TyOf K H (.ref a) (.type "list")
 | frz {a:Addr} {o:Obj} {xs:List V} (e:H a=some (.frz o (.lst xs))):TyOf K H (.ref a) (.type "list")
 | tup {a:Addr} {xs:List V} (e:H a=some (.tup xs)):TyOf K H (.ref a) (.type "tuple")
 | dK {a:Addr} {kvs:List (Key×V)} (e:H a=some (.dK kvs)):TyOf K H (.ref a) (.type "dict")
 | dT {a:Addr} {kvs:List (List Key×V)} (e:H a=some (.dT kvs)):TyOf K H (.ref a) (.type "dict")
 | ins {a C dx:Addr} {fs:List (Str×V)} (e:H a=some (.ins C dx fs)) (cl:Cls K C) (ha:PySem.W.findIn K (.ref C) "__class__" = some (some (.builtin "object.__class__")))
   (hn:PySem.W.specialIn K (.builtin "object.__class__") "__get__" = some (some (.builtin "getset_descriptor.__get__"))) (htk:PySem.W.takesIn K (.builtin "object.__class__")=some true)
   (hm:PySem.W.mroIn K C (.type "object")=some true):TyOf K H (.ref a) (.ref C)
end
end L2
namespace L2
open PySem PySem.Spec PyProof.Rows
structure eN (k:Nat) (A:Around):Prop where
 hd:9≤k→A.handled=none
 dp:A.depth+3*k+5<recursionLimit
 un:A.units+16*k+200<cLine
theorem eN.mono {j k:Nat}{A:Around}(r:eN k A)(h:j≤k):eN j A:=⟨fun z=>r.hd (Nat.le_trans z h),by have:=r.dp;omega,by have:=r.un;omega⟩
theorem eN.deeper {k:Nat}{A:Around}(r:eN (k+1) A)(env:Env):eN k (A.deeper env):=
 ⟨fun z=>r.hd (Nat.le_succ_of_le z),by have:=r.dp;show A.depth+1+3*k+5<_;omega,by have:=r.un;show A.units+3+16*k+200<_;omega⟩
theorem xY {A:Around}{C:Addr}{us:List Value}{kw:List (Str×Value)}:(A.under (.builtin "type.__call__" ⟨.ref C::us,kw⟩)).depth=A.depth+1:=by
 first | rfl | simp [Around.under,Code.weight,Code.isCreation,Code.isGuard,Code.isCaller,Code.frames,Code.isFrame,guardIds]
theorem xU {A:Around}{C:Addr}{us:List Value}{kw:List (Str×Value)}:(A.under (.builtin "type.__call__" ⟨.ref C::us,kw⟩)).units=A.units+1:=by
 first | rfl | simp [Around.under,Code.cUnits,Code.frames,Code.isFrame]
theorem eN.make {k:Nat}{A:Around}(r:eN (k+1) A)(C:Addr)(us:List Value)(kw:List (Str×Value)):eN k (A.under (.builtin "type.__call__" ⟨.ref C::us,kw⟩)):=
 ⟨fun z=>r.hd (Nat.le_succ_of_le z),by have:=r.dp;rw [xY];omega,by have:=r.un;rw [xU];omega⟩
theorem eN.calm {k:Nat}{A:Around}(r:eN k A)(h:9≤k):A.handled.isNone=true:=by rw [r.hd h];rfl
theorem eN.depth {k:Nat}{A:Around}(r:eN k A):A.depth<recursionLimit:=by have:=r.dp;omega
theorem eN.units {k:Nat}{A:Around}(r:eN k A):A.units+64<cLine:=by have:=r.un;omega
def tNil:TA:=fun _ H Q=>Q [] H
def tCons (ta:TE)(tr:TA):TA:=fun σ H Q=>ta σ H fun x H1=>tr σ H1 fun xs H2=>Q (x::xs) H2
section
variable {X:Cx}{e:Expr}{es:List Expr}{te:TE}{t:TA}{pos:Pos}
theorem qZ:PA X [] tNil:=fun _ _ _ _ H Q I h=>Calls.spliced_nil ⟨[],H,I,.nil,h⟩
theorem fV (ha:PE X e te)(hr:PA X es t)(hs:starEach (e::es) X.env=(false,eval e X.env)::starEach es X.env:=by rfl):PA X (e::es) (tCons te t):=by
 intro pos pins s σ H Q I h
 rw [hs]
 show wpAny _ _ (spliced ((false,eval e X.env)::backTo pos (starEach es X.env))) _ _ s
 refine Calls.spliced_cons (thn (ha pins s σ H _ I h) fun u s1 ⟨x,H1,I1,r1,q1⟩=>?_)
 exact thn (hr pos pins s1 σ H1 _ I1 q1) fun us s2 ⟨xs,H2,I2,r2,q2⟩=>⟨x::xs,H2,I2,.cons r1 r2,q2⟩
def tTup (t:TA):TE:=fun σ H Q=>t σ H fun xs H1=>xs.length≤sizeLine∧∀ p,H1 p=none→Q (.ref p) (upd H1 p (.tup xs))
def tLst (t:TA):TE:=fun σ H Q=>t σ H fun xs H1=>xs.length≤sizeLine∧∀ p,H1 p=none→Q (.ref p) (upd H1 p (.lst xs))
theorem pe_tup {x1}(h:PA X es t):PE X (.Tuple es x1 pos) (tTup t):=by
 intro pins s σ H Q I hq
 refine wpAny_Tuple_spliced (thn (h pos pins s σ H _ I hq) fun us s1 ⟨xs,H1,I1,r,z,q⟩=>⟨by rw [←r.length];exact z,?_⟩)
 have hf:H1 s1.heap.objs.size=none:=I1.hok.fresh (Nat.le_refl _)
 refine ⟨.ref s1.heap.objs.size,upd H1 s1.heap.objs.size (.tup xs),I1.laid (t':=s1.toks) (fun b u e=>Heap.get?_push_of_some _ e) (Nat.le_refl _) ?_,rfl,q _ hf⟩
 exact ⟨z,us,r,⟨_,Heap.get?_push_size _ rfl,rfl,_,rfl⟩⟩
theorem pe_lst (h:PA X es t):PE X (.List es pos) (tLst t):=by
 intro pins s σ H Q I hq
 refine wpAny_List_spliced (thn (h pos pins s σ H _ I hq) fun us s1 ⟨xs,H1,I1,r,z,q⟩=>⟨by rw [←r.length];exact z,?_⟩)
 have hf:H1 s1.heap.objs.size=none:=I1.hok.fresh (Nat.le_refl _)
 refine ⟨.ref s1.heap.objs.size,upd H1 s1.heap.objs.size (.lst xs),I1.laid (t':=s1.toks) (fun b u e=>Heap.get?_push_of_some _ e) (Nat.le_refl _) ?_,rfl,q _ hf⟩
 exact ⟨z,us,0,r,Heap.get?_push_size _ rfl⟩
end
abbrev Sp:=List V→Hp→VK→XK→Prop
abbrev CXT:=List Env→Hp→Shared→XK→Value→Shared→Prop
structure Env0 (P:Program) (w:World) (K:PySem.W.Frag) (mg:Str→Option Value) (base:Heap) (A:Around) (outer:List Env) (s:Shared) (H:Hp):Prop where
 frames:A.frames=some outer
 mod:Mod K mg base
 bs:∀ b o,base.get? b=some o→s.heap.get? b=some o∧H b=none
 bsz:base.objs.size≤s.heap.objs.size
 funs:s.heap.FunFrames base outer
 frf:∀ b∈frs outer,H b=none
 hok:HOk P w H s.heap
 bare:AllBare s.gens
 qt:Quiet A H
def CE (outer:List Env)(P:Program)(w:World)(H:Hp)(s:Shared)(Q:VK)(u:Value)(s':Shared):Prop:=
 ∃ v H',s'.os=s.os∧AllBare s'.gens∧Un (frs outer) [] H H' s.heap s'.heap∧HOk P w H' s'.heap∧RelV v u∧Q v H'
def CR (CX:CXT)(outer:List Env)(P:Program)(w:World)(H:Hp)(s:Shared)(Q:VK)(E:XK)(r:Result)(s':Shared):Prop:=
 match r with
 | .ok (.ret u)=>CE outer P w H s Q u s'
 | .ok _=>False
 | .error e=>CX outer H s E e s'
structure bT (P:Program) (w:World) (K:PySem.W.Frag) (mg:Str→Option Value) (base:Heap) (CX:CXT) (k:Nat) (f:Addr) (fd:FuncData) (ps:List Str) (sp:Sp):Prop where
 len:∀ vs H Q E,sp vs H Q E→vs.length=ps.length
 run:∀ (A:Around) (outer:List Env) (s:Shared) (H:Hp) (args:Args) (us:List Value) (vs:List V) (Q:VK) (E:XK),eN k A→Env0 P w K mg base A outer s H→BindsTo s fd args (ps.zip us)→Vals vs us→sp vs H Q E →
  codeAny (model P w) A (.call (.ref f) args) (CR CX outer P w H s Q E) s
theorem bT.mono {P:Program}{w:World}{K:PySem.W.Frag}{mg:Str→Option Value}{base:Heap}{CX:CXT}{j k:Nat}{f:Addr}{fd:FuncData}{ps:List Str}{sp:Sp}(F:bT P w K mg base CX j f fd ps sp)(h:j≤k) :
  bT P w K mg base CX k f fd ps sp:=⟨F.len,fun A outer s H args us vs Q E hr=>F.run A outer s H args us vs Q E (hr.mono h)⟩
theorem bT.imp {P:Program}{w:World}{K:PySem.W.Frag}{mg:Str→Option Value}{base:Heap}{CX:CXT}{k:Nat}{f:Addr}{fd:FuncData}{ps:List Str}{sp sp':Sp}(F:bT P w K mg base CX k f fd ps sp)
  (h:∀ vs H Q E,sp' vs H Q E→sp vs H Q E):bT P w K mg base CX k f fd ps sp':=
 ⟨fun vs H Q E q=>F.len vs H Q E (h _ _ _ _ q),fun A outer s H args us vs Q E hr he hb hv hs=>F.run A outer s H args us vs Q E hr he hb hv (h _ _ _ _ hs)⟩
theorem Env0.make {P:Program}{w:World}{K:PySem.W.Frag}{mg:Str→Option Value}{base:Heap}{A:Around}{outer:List Env}{s:Shared}{H:Hp}(e:Env0 P w K mg base A outer s H)(C:Addr)(us:List Value)(kw:List (Str×Value)) :
  Env0 P w K mg base (A.under (.builtin "type.__call__" ⟨.ref C::us,kw⟩)) outer s H:=⟨by first | exact e.frames | (simpa [Around.under,Code.envs,Code.isFrame,pushEnvs] using e.frames),e.mod,e.bs,e.bsz,e.funs,e.frf,e.hok,e.bare,e.qt⟩
section
variable {X:Cx}{pins:List (Addr×Obj)}{σ : St}{H:Hp}{s s':Shared}
theorem Inv.env0 (I:Inv X pins σ H s):Env0 X.prog X.w X.K X.mg X.base X.A X.stack s H:=
 ⟨I.ok.frames,I.ok.mod,I.bs,Nat.le_trans I.ok.bsz I.sz,I.stack,I.stkFree,I.hok,I.bare,I.qt0⟩
theorem Inv.after {Q:VK}{u:Value}(I:Inv X pins σ H s)(h:CE X.stack X.prog X.w H s Q u s'):EP X pins σ Q u s':=by
 obtain ⟨v,H',os,bare,un,hok,r,q⟩:=h
 obtain ⟨hh,g,d,t,os'⟩:=s'
 obtain rfl:os'=s.os:=os
 exact ⟨v,H',I.call (h':=hh) (g':=g) (d':=d) (t':=t) (ch:=[]) un hok bare (fun b z=>absurd z (by simp)),r,q⟩
end
def tCall (sp:Sp)(dvs:List V)(E:XK)(t:TA):TE:=fun σ H Q=>t σ H fun vs H1=>sp (vs++dvs) H1 Q E
def tMeth (C:Addr)(m:Str)(sp:Sp)(dvs:List V)(E:XK)(ta:TE)(t:TA):TE:=fun σ H Q=>ta σ H fun x H1=>∃ a dx fs,x=.ref a∧H1 a=some (.ins C dx fs)∧fs.lookup m=none ∧
 t σ H1 fun vs H2=>sp (x::(vs++dvs)) H2 Q E
def tMake (C:Addr)(sp:Sp)(dvs:List V)(E:XK)(t:TA):TE:=fun σ H Q=>t σ H fun vs H1=>∀ x dx,H1 x=none→H1 dx=none→dx≠x →
 sp (.ref x::(vs++dvs)) (upd (upd H1 dx (.own x)) x (.ins C dx [])) (fun v H2=>v=.non∧Q (.ref x) H2) E
def Binds (K:PySem.W.Frag)(fd:FuncData)(ps:List Str)(ds:List Value):Prop:=
 ∀ (s:Shared) (us:List Value),K.In s.heap→(us++ds).length=ps.length→BindsTo s fd ⟨us,[]⟩ (ps.zip (us++ds))
theorem Binds.all {K:PySem.W.Frag}{fd:FuncData}{ps:List Str}(h:∀ us:List Value,us.length=ps.length→bindArgs fd ⟨us,[]⟩=pure (ps.zip us)):Binds K fd ps []:=fun s us _ hl=>by
 rw [List.append_nil] at hl ⊢
 exact .of_eq (h us hl)
def Passes (CX:CXT)(X:Cx)(E:XK):Prop:=∀ (pins:List (Addr×Obj)) (σ : St) (H:Hp) (s:Shared) (e:Value) (s':Shared),Inv X pins σ H s→CX X.stack H s E e s'→X.xe e s'
section
variable {X:Cx}{CX:CXT}{k:Nat}{f C:Addr}{fd:FuncData}{ps:List Str}{sp:Sp}{dvs:List V}{ds:List Value}{E:XK}{x m:Str}{p pos apos:Pos}{e o:Expr}{es:List Expr}{ta:TE}{t:TA}
theorem Ac {pins:List (Addr×Obj)}{σ : St}{H:Hp}{s:Shared}{Q:VK}{us:List Value}{vs:List V}(F:bT X.prog X.w X.K X.mg X.base CX k f fd ps sp)(hr:eN k X.A)(hb:Binds X.K fd ps ds)(hd:Vals dvs ds)(hx:Passes CX X E)
  (I:Inv X pins σ H s) (r:Vals vs us) (h:sp (vs++dvs) H Q E):wpAny (model X.prog X.w) X.A (call (.ref f) us) (EP X pins σ Q) X.xe s:=by
 have r2:Vals (vs++dvs) (us++ds):=r.append hd
 have hl:(us++ds).length=ps.length:=by rw [←r2.length];exact F.len _ _ _ _ h
 refine wpAny_call (codeAny_mono (F.run X.A X.stack s H ⟨us,[]⟩ (us++ds) (vs++dvs) Q E hr I.env0 (hb s us I.kIn hl) r2 h) fun r s' hq=>?_)
 cases r with
 | error e=>exact hx pins σ H s e s' I hq
 | ok fl=>
  cases fl with
  | ret u=>exact I.after hq
  | next=>exact False.elim hq
  | brk=>exact False.elim hq
  | cont=>exact False.elim hq
theorem pe_call (F:bT X.prog X.w X.K X.mg X.base CX k f fd ps sp)(hr:eN k X.A)(hg:Gl X x)(hm:X.mg x=some (.ref f))(hk:PySem.W.keepIn X.K (.ref f)=true)(hb:Binds X.K fd ps ds)(hd:Vals dvs ds)(hx:Passes CX X E)
  (ha:PA X (e::es) t) (hdb:(x==("__debug__" : Str))=false:=by decide) (he:starEach (e::es) X.env=(false,eval e X.env)::starEach es X.env:=by rfl) (hpl:(backTo pos (starEach es X.env)).any (·.1)=false:=by rfl) :
  PE X (.Call (.Name x p) (e::es) [] pos) (tCall sp dvs E t):=by
 intro pins s σ H Q I h
 refine wpAny_Call_Name_kw (lH I hg hm ?_ hdb)
 refine PySem.W.callWith_K (h₀:=X.base) I.ok.mod.kin hk (thn (ha pos pins s σ H _ I h) fun us s1 ⟨vs,H1,I1,r,q⟩=>⟨I1.kIn,?_⟩) he hpl
 exact Ac F hr hb hd hx I1 r q
theorem pe_meth {pl:Sem Bool}(he:PE X o ta)(c:Cls X.K C)(hm:Meth X.K C m f)(F:bT X.prog X.w X.K X.mg X.base CX k f fd ps sp)(hr:eN k X.A)(hb:Binds X.K fd ps ds)(hd:Vals dvs ds)(hx:Passes CX X E)(ha:PA X (e::es) t)
  (hst:starEach (e::es) X.env=(false,eval e X.env)::starEach es X.env:=by rfl) (hpl:(backTo pos (starEach es X.env)).any (·.1)=false:=by rfl)
  (ht:eval (.Call (.Attribute o m apos) (e::es) [] pos) X.env=(do
   let ov ←eval o X.env
   standAt apos.atName
   let (f,first) ←holding [ov] (getMethod ov m pl)
   callWith pos f first (backTo pos (starEach (e::es) X.env)) (backToKw pos (keywordEach [] X.env))):=by rfl) :
  PE X (.Call (.Attribute o m apos) (e::es) [] pos) (tMeth C m sp dvs E ta t):=by
 intro pins s σ H Q I h
 refine PySem.W.methodCall_KW (pl:=pl) (thn (he pins s σ H _ I h) fun u s1 ⟨x,H1,I1,rx,a,dx,fs,ex,ea,l,q⟩=>?_) ht
 subst ex
 obtain rfl:u=Value.ref a:=rx
 refine jE I1 ea c hm l ?_
 refine PySem.W.callWith_K (first:=[.ref a]) (h₀:=X.base) I.ok.mod.kin hm.kp (thn (ha pos pins s1 σ H1 _ I1 q) fun us s2 ⟨vs,H2,I2,r,q2⟩=>⟨I2.kIn,?_⟩) hst hpl
 exact Ac (us:=.ref a::us) (vs:=.ref a::vs) F hr hb hd hx I2 (.cons rfl r) q2
theorem pe_meth0 {pl:Sem Bool}(he:PE X o ta)(c:Cls X.K C)(hm:Meth X.K C m f)(F:bT X.prog X.w X.K X.mg X.base CX k f fd ps sp)(hr:eN k X.A)(hb:Binds X.K fd ps ds)(hd:Vals dvs ds)(hx:Passes CX X E)
  (ht:eval (.Call (.Attribute o m apos) [] [] pos) X.env=(do
   let ov ←eval o X.env
   standAt apos.atName
   let (f,first) ←holding [ov] (getMethod ov m pl)
   callWith pos f first (backTo pos (starEach [] X.env)) (backToKw pos (keywordEach [] X.env))):=by rfl) :
  PE X (.Call (.Attribute o m apos) [] [] pos) (tMeth C m sp dvs E ta tNil):=by
 intro pins s σ H Q I h
 refine PySem.W.methodCall_KW (pl:=pl) (thn (he pins s σ H _ I h) fun u s1 ⟨x,H1,I1,rx,a,dx,fs,ex,ea,l,q⟩=>?_) ht
 subst ex
 obtain rfl:u=Value.ref a:=rx
 refine jE I1 ea c hm l ?_
 exact PySem.W.callWith_K0 (first:=[.ref a]) I1.kIn hm.kp (Ac (us:=[.ref a]) (vs:=[.ref a]) F hr hb hd hx I1 (.cons rfl .nil) q)
structure Mk (K:PySem.W.Frag) (C f:Addr):Prop where
 makes:PySem.W.makesIn K C=true
 init:PySem.W.findIn K (.ref C) "__init__" = some (some (.ref f))
 fn:PySem.W.isFn K (.ref f)=true
 kp:PySem.W.keepIn K (.ref C)=true
theorem run_make {pins:List (Addr×Obj)}{σ : St}{H:Hp}{s:Shared}{Q:VK}{us:List Value}{vs:List V}(M:Mk X.K C f)(F:bT X.prog X.w X.K X.mg X.base CX k f fd ps sp)(hr:eN (k+1) X.A)(hb:Binds X.K fd ps ds)(hd:Vals dvs ds)
  (hx:Passes CX X E) (I:Inv X pins σ H s) (r:Vals vs us)
  (h:∀ x dx,H x=none→H dx=none→dx≠x→sp (.ref x::(vs++dvs)) (upd (upd H dx (.own x)) x (.ins C dx [])) (fun v H2=>v=.non∧Q (.ref x) H2) E) :
  wpAny (model X.prog X.w) X.A (call (.ref C) us) (EP X pins σ Q) X.xe s:=by
 have hq:=h (s.heap.objs.size+1) s.heap.objs.size (I.hok.fresh (Nat.le_succ _)) (I.hok.fresh (Nat.le_refl _)) (Nat.ne_of_lt (Nat.lt_succ_self _))
 have I2:=Inv.made (C:=C) I
 have r2:Vals (V.ref (s.heap.objs.size+1)::(vs++dvs)) (Value.ref (s.heap.objs.size+1)::(us++ds)):=.cons rfl (r.append hd)
 have hl:(Value.ref (s.heap.objs.size+1)::us++ds).length=ps.length:=by
  have e:=r2.length
  rw [F.len _ _ _ _ hq] at e
  exact e.symm
 refine wpAny_call (make_map (f:=f) I.kIn M.makes M.init (beq_iff_eq.mp M.fn) (codeAny_mono (F.run _ X.stack _ _ ⟨Value.ref (s.heap.objs.size+1)::us,[]⟩ (Value.ref (s.heap.objs.size+1)::(us++ds)) _ _ E (hr.make C us [])
  (I2.env0.make C us []) (hb _ (Value.ref (s.heap.objs.size+1)::us) I2.kIn hl) r2 hq) fun r s' hq'=>?_))
 cases r with
 | error e=>exact hx pins σ _ _ e s' I2 hq'
 | ok fl=>
  cases fl with
  | ret u=>
   obtain ⟨v,H',I3,rv,ev,q3⟩:=I2.after hq'
   subst ev
   exact ⟨rv,⟨V.ref (s.heap.objs.size+1),H',I3,rfl,q3⟩⟩
  | next=>exact False.elim hq'
  | brk=>exact False.elim hq'
  | cont=>exact False.elim hq'
theorem pe_make0 (M:Mk X.K C f)(F:bT X.prog X.w X.K X.mg X.base CX k f fd ps sp)(hr:eN (k+1) X.A)(hg:Gl X x)(hm:X.mg x=some (.ref C))(hb:Binds X.K fd ps ds)(hd:Vals dvs ds)(hx:Passes CX X E)
  (hdb:(x==("__debug__" : Str))=false:=by decide):PE X (.Call (.Name x p) [] [] pos) (tMake C sp dvs E tNil):=by
 intro pins s σ H Q I h
 refine wpAny_Call_Name_kw (lH I hg hm ?_ hdb)
 exact PySem.W.callWith_K0 I.kIn M.kp (run_make (us:=[]) M F hr hb hd hx I .nil h)
end
section
variable {X:Cx}{CX:CXT}{k:Nat}{f C:Addr}{fd:FuncData}{ps ks:List Str}{sp:Sp}{E:XK}{x m:Str}{p pos apos kpos:Pos}{e o:Expr}{es:List Expr}{kws:List Keyword}{te ta:TE}{t tk:TA}{nm:Option Str}
structure KBinds (K:PySem.W.Frag) (fd:FuncData) (ps ks:List Str) (g:List Value→List Value→List Value) (gV:List V→List V→List V):Prop where
 to:∀ (s:Shared) (us ws:List Value),K.In s.heap→(g us ws).length=ps.length→BindsTo s fd ⟨us,ks.zip ws⟩ (ps.zip (g us ws))
 rel:∀ {vs:List V} {us:List Value} {zs:List V} {ws:List Value},Vals vs us→Vals zs ws→Vals (gV vs zs) (g us ws)
variable {g:List Value→List Value→List Value}{gV:List V→List V→List V}
end
structure aP (N P:List Str) (sc:Scope):Prop where
 kind:sc.kind=.function
 co:sc.isCoroutine=false
 gen:sc.isGenerator=false
 nd:N.Nodup
 pre:N.take P.length=P
 par:∀ x∈P,sc.names.lookup x=some .local∨sc.names.lookup x=some .cell
 nofree:∀ y∈sc.names,y.2≠.free
theorem tu {kindOf:Str→Option NameKind}{x:Str}:∀ {binds:List (Str×Value)} {m:Str→Option Value},(∀ v,(x,v)∉binds)→bindL kindOf binds m x=m x
 | [],_,_=>rfl
 | (n,v)::r,m,h=>by
  unfold bindL
  rw [tu fun w hw=>h w (List.mem_cons_of_mem _ hw)]
  split
  ·have:x≠n:=by rintro rfl;exact h v List.mem_cons_self
   simp [this]
  ·rfl
theorem sY {kindOf:Str→Option NameKind}{x:Str}:∀ {binds:List (Str×Value)} {m:Str→Option Value},(∀ v,(x,v)∉binds)→bindC kindOf binds m x=m x
 | [],_,_=>rfl
 | (n,v)::r,m,h=>by
  unfold bindC
  rw [sY fun w hw=>h w (List.mem_cons_of_mem _ hw)]
  split
  ·rfl
  ·have:x≠n:=by rintro rfl;exact h v List.mem_cons_self
   simp [this]
theorem rB {kindOf:Str→Option NameKind}{x:Str}{v:Value}:∀ {P:List Str} {vs:List Value} {i:Nat} {m:Str→Option Value},P.Nodup→P[i]?=some x→vs[i]?=some v→kindOf x=some .local →
  bindL kindOf (P.zip vs) m x=some v
 | [],_,_,_,_,h,_,_=>by simp at h
 | _::_,[],_,_,_,_,h,_=>by simp at h
 | p::P,w::vs,0,m,nd,h1,h2,hk=>by
  simp at h1 h2;subst h1;subst h2
  show bindL kindOf ((p,w)::P.zip vs) m p=_
  unfold bindL
  rw [tu fun v hv=>(List.nodup_cons.mp nd).1 (List.of_mem_zip hv).1,if_pos hk]
  simp
 | p::P,w::vs,i+1,m,nd,h1,h2,hk=>by
  show bindL kindOf ((p,w)::P.zip vs) m x=_
  unfold bindL
  exact rB (i:=i) (List.nodup_cons.mp nd).2 (by simpa using h1) (by simpa using h2) hk
theorem sW {kindOf:Str→Option NameKind}{x:Str}{v:Value}:∀ {P:List Str} {vs:List Value} {i:Nat} {m:Str→Option Value},P.Nodup→P[i]?=some x→vs[i]?=some v→kindOf x≠some .local →
  bindC kindOf (P.zip vs) m x=some v
 | [],_,_,_,_,h,_,_=>by simp at h
 | _::_,[],_,_,_,_,h,_=>by simp at h
 | p::P,w::vs,0,m,nd,h1,h2,hk=>by
  simp at h1 h2;subst h1;subst h2
  show bindC kindOf ((p,w)::P.zip vs) m p=_
  unfold bindC
  rw [sY fun v hv=>(List.nodup_cons.mp nd).1 (List.of_mem_zip hv).1,if_neg hk]
  simp
 | p::P,w::vs,i+1,m,nd,h1,h2,hk=>by
  show bindC kindOf ((p,w)::P.zip vs) m x=_
  unfold bindC
  exact sW (i:=i) (List.nodup_cons.mp nd).2 (by simpa using h1) (by simpa using h2) hk
def start (N:List Str)(vs:List V):St:=vs.map some++List.replicate (N.length - vs.length) none
def cxOf (CX:CXT)(P:Program)(w:World)(K:PySem.W.Frag)(mg:Str→Option Value)(base:Heap)(N:List Str)(qual:Str)(scope:Scope)(f:Addr)(cd:Value)(A:Around)(outer:List Env)(s:Shared)(H:Hp)(E:XK):Cx where
 prog:=P
 w:=w
 K:=K
 mg:=mg
 base:=base
 A:=A.deeper (envOfC qual scope s.heap.objs.size f cd)
 N:=N
 s₀:=s
 H₀:=H
 env:=envOfC qual scope s.heap.objs.size f cd
 outer:=outer
 stack:=envOfC qual scope s.heap.objs.size f cd::outer
 ex:=[]
 calm:=A.handled.isNone
 fn:=fun _=>true
 pn:=[]
 xe:=fun e s'=>wpAny (model P w) (A.deeper (envOfC qual scope s.heap.objs.size f cd)) (leaving (envOfC qual scope s.heap.objs.size f cd) e) (fun _ s''=>CX outer H s E e s'') (fun e' s''=>CX outer H s E e' s'') s'
theorem vp {sc:Scope}{n:Nat}{x:Str}(h:sc.names.lookup x=some .cell):∃ c,(cellsFrom n sc.names []).lookup x=some c:=by
 have q:=PySem.W.cellsFrom_some sc.names n [] (.inl h)
 exact Option.isSome_iff_exists.mp q
theorem zM {CX:CXT}{P:Program}{w:World}{K:PySem.W.Frag}{mg:Str→Option Value}{base:Heap}{N ps:List Str}{qual:Str}{scope:Scope}{f:Addr}{cd:Value}{A:Around}{outer:List Env}{s s1:Shared}{H:Hp}{E:XK}{us:List Value}{vs:List V}
  (S:aP N ps scope) (e0:Env0 P w K mg base A outer s H) (hl:vs.length=ps.length) (r:Vals vs us)
  (x:InCallC s s.heap.objs.size (bindL (envOfC qual scope s.heap.objs.size f cd).kindOf (ps.zip us) fun _=>none) (cellsFrom (s.heap.objs.size+1) scope.names []) (bindC (envOfC qual scope s.heap.objs.size f cd).kindOf (ps.zip us) fun _=>none) s1) :
  Inv (cxOf CX P w K mg base N qual scope f cd A outer s H E) [] (start N vs) H s1:=by
 have hpl:ps.length≤N.length:=by have:=congrArg List.length S.pre;rw [List.length_take] at this;omega
 obtain ⟨h1,tk,rfl,hk⟩:=x.done
 have noA:∀ b:Addr,b∉(cxOf CX P w K mg base N qual scope f cd A outer s H E).ex:=fun b z=>absurd (show b∈([]:List Addr) from z) (by simp)
 refine ⟨⟨e0.mod,S.kind,rfl,rfl,Nat.le_refl _,fun y z c h1 h2=>?_,fun y hy=>?_,fun y c _ h=>?_,fun z=>Option.isNone_iff_eq_none.mp (show A.handled.isNone=true from z),e0.qt,Around.frames_deeper e0.frames,.inr ⟨rfl,rfl⟩,fun b z=>absurd z (noA b),e0.bs,e0.bsz,fun b _ _=>noA b,fun b z=>absurd z (noA b),e0.funs,e0.frf⟩,
  rfl,e0.bare,Un.kept hk,⟨_,x.toInCall.ns,fun i y v h1 h2 h3=>?_⟩,fun y c h=>⟨_,x.cell y c h⟩,e0.hok.fresh (Nat.le_refl _),fun y c h=>?_,fun p hp=>absurd (show p∈([]:List (Addr×Obj)) from hp) (by simp),e0.hok.kept hk,?_⟩
 ·exact name_of_addr x.apart (PySem.mem_of_lookup h1) (PySem.mem_of_lookup h2)
 ·have hy:scope.names.lookup y=some .cell∨scope.names.lookup y=some .free:=hy
  rcases hy with hy | hy
  ·exact vp hy
  ·exact absurd rfl (S.nofree _ (PySem.mem_of_lookup hy))
 ·exact Nat.le_of_lt (x.above y c (PySem.mem_of_lookup h))
 ·have hi:i<vs.length:=by
   unfold start at h2
   by_cases hi:i<vs.length
   ·exact hi
   ·rw [List.getElem?_append_right (by simpa using hi)] at h2
    rw [List.getElem?_replicate] at h2
    split at h2 <;> cases h2
  have ha:vs[i]?=some v:=by
   unfold start at h2
   rw [List.getElem?_append_left (by simpa using hi),List.getElem?_map] at h2
   cases e:vs[i]? with
   | none=>rw [e] at h2;cases h2
   | some a=>rw [e] at h2;cases h2;rfl
  obtain ⟨u,hu,rv⟩:=r.get ha
  have hp:ps[i]?=some y:=by
   rw [←S.pre,List.getElem?_take_of_lt (by omega)];exact h1
  have ndP:ps.Nodup:=by rw [←S.pre];exact S.nd.sublist (List.take_sublist _ _)
  refine ⟨u,rv,?_⟩
  rcases S.par y (List.mem_of_getElem? hp) with k | k
  ·exact .inl ⟨k,rB ndP hp hu k⟩
  ·obtain ⟨c,e⟩:=vp (n:=s.heap.objs.size+1) k
   refine .inr ⟨.inl k,c,e,?_⟩
   have q:=x.cell y c e
   rw [sW ndP hp hu (by show scope.names.lookup y≠_;rw [k];decide)] at q
   exact q
 ·exact e0.hok.fresh (Nat.le_of_lt (x.above y c (PySem.mem_of_lookup h)))
 ·unfold start
  show _=N.length
  rw [List.length_append,List.length_map,List.length_replicate]
  omega
theorem fn_of {CX:CXT}{P:Program}{w:World}{K:PySem.W.Frag}{mg:Str→Option Value}{base:Heap}{k:Nat}{f:Addr}{name qual:Str}{params:Arguments}{body:List Stmt}{scope:Scope}{dV kV doc pm cdv ct oc:Value}{an od:Option Addr}
  {osl:Array (Option Value)} {N ps:List Str} {sp:Sp} (lk:K.lookup f=some ⟨oc,od,.func (PySem.W.fnOf name qual params body scope dV kV doc pm an cdv ct),osl⟩) (hcd:PySem.W.codeIn K cdv qual=true) (S:aP N ps scope)
  (len:∀ vs H Q E,sp vs H Q E→vs.length=ps.length)
  (hbody:∀ (A:Around) (outer:List Env) (s:Shared) (H:Hp) (vs:List V) (Q:VK) (E:XK),eN k (A.deeper (envOfC qual scope s.heap.objs.size f cdv))→sp vs H Q E →
   ∃ t,PSs (cxOf CX P w K mg base N qual scope f cdv A outer s H E) body t∧t { nx:=fun _ H'=>Q .non H',rt:=Q } (start N vs) H) :
  bT P w K mg base CX (k+1) f (PySem.W.fnOf name qual params body scope dV kV doc pm an cdv ct) ps sp:=by
 refine ⟨len,fun A outer s H args us vs Q E hr e0 hb r hsp=>?_⟩
 have hl:=len _ _ _ _ hsp
 have KX:K.In s.heap:=e0.mod.kin.keeps fun b o e=>(e0.bs b o e).1
 have lim:s.heap.NoLimit:=e0.mod.nolimit.keeps fun b o e=>(e0.bs b o e).1
 have hkind:∀ y∈ps.zip us,scope.names.lookup y.1=some .local∨(scope.names.lookup y.1=some .cell∧((cellsFrom (s.heap.objs.size+1) scope.names []).lookup y.1).isSome=true):=fun ⟨n,v⟩ hy=>by
  rcases S.par n (List.of_mem_zip hy).1 with q | q
  ·exact .inl q
  ·exact .inr ⟨q,PySem.W.cellsFrom_some _ _ _ (.inl q)⟩
 refine codeAny_call_function hr.depth (KX _ _ lk) rfl S.co S.gen rfl (PySem.W.codeRec_of KX hcd) (hb _ _ _ _ ?_)
 refine wpAny_newFunctionEnv_cells S.kind hkind fun env he s1 x=>?_
 subst he
 refine ⟨lim.keeps x.toInCall.keep,codeAny_func ?_⟩
 obtain ⟨t,ht,hq⟩:=hbody A outer s H vs Q E (hr.deeper _) hsp
 have I:Inv (cxOf CX P w K mg base N qual scope f cdv A outer s H E) [] (start N vs) H s1:=zM S e0 hl r x
 refine wpAny_mono (ht [] s1 (start N vs) H _ I hq) (fun fl s' hs=>?_) fun e s' hs=>hs
 have fin:∀ {σ':St} {H':Hp} {v:V} {u:Value},Inv (cxOf CX P w K mg base N qual scope f cdv A outer s H E) [] σ' H' s'→RelV v u→Q v H'→CE outer P w H s Q u s':=
  fun {σ' H' v u} J rv q=>⟨v,H',J.os,J.bare,J.base,J.hok,rv,q⟩
 cases fl with
 | ret u=>
  obtain ⟨v,σ',H',J,rv,q⟩:=hs
  exact fin J rv q
 | next=>
  obtain ⟨σ',H',J,q⟩:=hs
  exact fin (v:=V.non) (u:=Value.none) J rfl q
 | brk=>
  obtain ⟨_,_,_,q⟩:=hs
  exact False.elim q
 | cont=>
  obtain ⟨_,_,_,q⟩:=hs
  exact False.elim q
end L2
namespace L2
open PySem PySem.Spec PyProof.Rows
section
variable {X:Cx}{x:Str}{p pos:Pos}{e:Expr}{es:List Expr}{t:TA}{id T:String}{r:List V→Hp→VK→Prop}
def tCB (r:List V→Hp→VK→Prop)(t:TA):TE:=fun σ H Q=>t σ H fun vs H1=>r vs H1 Q
theorem pO (hc:fu X (.builtin id) r)(hg:Gl X x)(hm:X.mg x=none)(hv:bootBuiltins x=some (.builtin id))(ha:PA X (e::es) t)(hn:x ≠ "__name__":=by decide)(hdb:(x==("__debug__" : Str))=false:=by decide)
  (he:starEach (e::es) X.env=(false,eval e X.env)::starEach es X.env:=by rfl) (hpl:(backTo pos (starEach es X.env)).any (·.1)=false:=by rfl):PE X (.Call (.Name x p) (e::es) [] pos) (tCB r t):=by
 intro pins s σ H Q I h
 refine wpAny_Call_Name_kw (rm I hg hm hv ?_ hn hdb)
 exact PyProof.Rows.callWith_builtin1 (thn (ha pos pins s σ H _ I h) fun us s1 ⟨vs,H1,I1,r1,q1⟩=>hc pins s1 σ H1 vs us Q I1 r1 q1) he hpl
theorem yZ (hc:fu X (.type T) r)(hg:Gl X x)(hm:X.mg x=none)(hv:bootBuiltins x=some (.type T))(ha:PA X (e::es) t)(hn:x ≠ "__name__":=by decide)(hdb:(x==("__debug__" : Str))=false:=by decide)
  (he:starEach (e::es) X.env=(false,eval e X.env)::starEach es X.env:=by rfl) (hpl:(backTo pos (starEach es X.env)).any (·.1)=false:=by rfl):PE X (.Call (.Name x p) (e::es) [] pos) (tCB r t):=by
 intro pins s σ H Q I h
 refine wpAny_Call_Name_kw (rm I hg hm hv ?_ hn hdb)
 exact PyProof.Rows.callWith_type1 (thn (ha pos pins s σ H _ I h) fun us s1 ⟨vs,H1,I1,r1,q1⟩=>hc pins s1 σ H1 vs us Q I1 r1 q1) he hpl
end
end L2
namespace HT
open PySem PyProof.Rows
section
open PySem.SeqAt
open PySem.AutoSeq1 (wpAny_loadPart')
open PySem.MeetsSeq PySem.MeetsSeq2 PySem.MeetsSeq3
end
section
variable {prog:Program}{w:World}{A:Around}{E:Value→Shared→Prop}{s:Shared}
theorem cat_tup {t b:Addr}{vs ws:List Value}{Q:Value→Shared→Prop}(ht:IsTup s.heap t vs.toArray)(hb:IsTup s.heap b ws.toArray)(hv:vs≠[])
  (h1:ws=[]→Q (.ref t) s) (h2:ws≠[]→Q (.ref s.heap.objs.size) { s with heap:=s.heap.push { cls:=.type "tuple",data:=.seq (vs++ws).toArray } })
  (hsz:vs.length+ws.length≤sizeLine):wpAny (model prog w) A (binaryOp .Add (.ref t) (.ref b)) Q E s:=by
 obtain ⟨⟨cls,dd,data,sl⟩,ho,hc,n,hd⟩:=id ht
 obtain ⟨⟨cls2,dd2,data2,sl2⟩,ho2,hc2,n2,hd2⟩:=id hb
 simp only at hc hd hc2 hd2
 subst hc hd hc2 hd2
 have e:vs.toArray++ws.toArray=(vs++ws).toArray:=by simp
 by_cases hw:ws=[]
 ·exact concat_meets ⟨_,ho,rfl⟩ ⟨_,ho2,rfl⟩ noFill_tuple_add seq_tuple_add PySem.F.slot_tuple_add PySem.F.entry_tuple_add (PySem.F.args_tuple_add_2 _ _)
   (tuple_addW1 t b vs.toArray ws.toArray n n2 dd dd2 sl sl2 (by simpa using hv) (by simp [hw])) ⟨ho,ho2,h1 hw⟩
 ·refine concat_meets ⟨_,ho,rfl⟩ ⟨_,ho2,rfl⟩ noFill_tuple_add seq_tuple_add PySem.F.slot_tuple_add PySem.F.entry_tuple_add (PySem.F.args_tuple_add_2 _ _)
   (tuple_addW2 t b vs.toArray ws.toArray n n2 dd dd2 sl sl2 (by simpa using hv) (by simpa using hw) (by rw [List.size_toArray,List.size_toArray];exact hsz)) ⟨ho,ho2,?_⟩
  rw [e]
  exact h2 hw
def sIx (n d:Nat):Option Int→Nat
 | none=>d
 | some v=>if v<0 then (v+(n:Int)).toNat else min v.toNat n
theorem vG (n d:Nat):sIx n d none=d:=rfl
theorem jH (n d k:Nat):sIx n d (some (k:Int))=min k n:=by
 show (if (k:Int)<0 then ((k:Int)+(n:Int)).toNat else min (k:Int).toNat n)=min k n
 rw [if_neg (by omega),Int.toNat_natCast]
theorem sIx_le (n d:Nat)(hd:d≤n)(o:Option Int):sIx n d o≤n:=by
 cases o with
 | none=>exact hd
 | some v=>
  show (if v<0 then (v+(n:Int)).toNat else min v.toNat n)≤n
  by_cases hv:v<0
  ·rw [if_pos hv];omega
  ·rw [if_neg hv];exact Nat.min_le_right _ _
theorem zN (v:Int)(n d:Nat):(if v<0 then max (v+(n:Int)) 0 else min v (n:Int))=((sIx n d (some v):Nat):Int):=by
 show (if v<0 then max (v+(n:Int)) 0 else min v (n:Int))=(((if v<0 then (v+(n:Int)).toNat else min v.toNat n):Nat):Int)
 by_cases hv:v<0
 ·simp only [if_pos hv];omega
 ·simp only [if_neg hv];omega
theorem wR (lo hi:Option Int)(n:Nat):Builtin.Slice.sliceAdjust lo hi 1 (n:Int)=(((sIx n 0 lo:Nat):Int),((sIx n n hi:Nat):Int)):=by
 have h1:¬ ((1:Int)<0):=by omega
 unfold Builtin.Slice.sliceAdjust
 simp only [h1,if_false]
 refine Prod.ext ?_ ?_
 ·cases lo with
  | none=>rfl
  | some v=>exact zN v n 0
 ·cases hi with
  | none=>rfl
  | some v=>exact zN v n n
theorem xM (i j:Nat):Builtin.Slice.slicePlaces (i:Int) (j:Int) 1=j - i:=by
 unfold Builtin.Slice.slicePlaces
 have h1:(1:Int)>0:=by omega
 simp only [h1,if_true,Int.ediv_one]
 split <;> omega
theorem oX {v:Value}{o:Option Int}{Q:Option Int→Shared→Prop}(p:IsPart v o)(h:Q o s):wpAny (model prog w) A (Builtin.Slice.slicePartIndex v) Q E s:=by
 cases p with
 | none=>exact slicePart_none h
 | int i t=>exact slicePart_int h
theorem fG {sl:Addr}{vl vu:Value}{lo hi:Option Int}{n:Nat}{Q:Int×Int×Nat→Shared→Prop}(hs:s.heap.IsSliceOf sl vl vu .none)(pl:IsPart vl lo)(pu:IsPart vu hi)
  (h:Q (((sIx n 0 lo:Nat):Int),1,sIx n n hi - sIx n 0 lo) s):wpAny (model prog w) A (Builtin.Slice.sliceApplied (.ref sl) (pure (n:Int))) Q E s:=by
 obtain ⟨os,hos,hcs,hds⟩:=id hs
 unfold Builtin.Slice.sliceApplied Builtin.Slice.sliceFields
 refine wpAny_bind (wpAny_bind (wpAny_field hos hds (x:=vl) rfl (wpAny_bind (wpAny_field hos hds (x:=vu) rfl (wpAny_bind (wpAny_field hos hds (x:=.none) rfl (wpAny_pure ?_)))))))
 refine wpAny_bind (slicePart_none ?_)
 show wpAny _ _ (if ((1:Int)==0)=true then _ else _) _ _ s
 rw [if_neg (by decide)]
 refine wpAny_bind (oX pl (wpAny_bind (oX pu (wpAny_bind (wpAny_pure ?_)))))
 show wpAny _ _ (match Builtin.Slice.sliceAdjust lo hi 1 (n:Int) with | (lo,hi)=>pure (lo,(1:Int),Builtin.Slice.slicePlaces lo hi 1)) _ _ s
 rw [wR lo hi n]
 show wpAny _ _ (pure (((sIx n 0 lo:Nat):Int),(1:Int),Builtin.Slice.slicePlaces ((sIx n 0 lo:Nat):Int) ((sIx n n hi:Nat):Int) 1)) _ _ s
 rw [xM]
 exact wpAny_pure h
theorem pick_gen (xs:Array Value)(i k:Nat):((List.range k).filterMap fun (m:Nat)=>xs[((i:Int)+(m:Int)*1).toNat]?).toArray=((xs.toList.drop i).take k).toArray:=by
 have e:(fun (m:Nat)=>xs[((i:Int)+(m:Int)*1).toNat]?)=fun m=>xs[i+m]?:=by
  funext m
  have:((i:Int)+(m:Int)*1).toNat=i+m:=by omega
  rw [this]
 rw [e]
 have:=pick_run xs i k
 rw [List.filterMap_map] at this
 have e2:((fun x=>xs[x]?) ∘ fun x=>i+x)=fun m=>xs[i+m]?:=rfl
 rw [e2] at this
 rw [this]
theorem jD {t sl:Addr}{items:Array Value}{vl vu:Value}{lo hi:Option Int}{Q:Value→Shared→Prop}(ht:IsTup s.heap t items)(hs:s.heap.IsSliceOf sl vl vu .none)(pl:IsPart vl lo)(pu:IsPart vu hi)
  (hw:¬ (sIx items.size 0 lo=0∧sIx items.size items.size hi=items.size))
  (h:Q (.ref s.heap.objs.size) { s with heap:=s.heap.push { cls:=.type "tuple",data:=.seq ((items.toList.drop (sIx items.size 0 lo)).take (sIx items.size items.size hi - sIx items.size 0 lo)).toArray } })
  (hsz:items.size≤sizeLine):wpAny (model prog w) A (getItem (.ref t) (.ref sl)) Q E s:=by
 have htake:sizeOk (.seq ((items.toList.drop (sIx items.size 0 lo)).take (sIx items.size items.size hi - sIx items.size 0 lo)).toArray):=by
  show ((items.toList.drop (sIx items.size 0 lo)).take (sIx items.size items.size hi - sIx items.size 0 lo)).toArray.size≤sizeLine
  rw [List.size_toArray,List.length_take,List.length_drop,Array.length_toList]
  omega
 have hj:sIx items.size items.size hi≤items.size:=sIx_le _ _ (Nat.le_refl _) hi
 obtain ⟨os,hos,hcs,hds⟩:=id hs
 have hTs:s.TypeIs (.ref sl) "slice":=⟨os,hos,hcs⟩
 unfold getItem
 try with_reducible refine wpAny_holding ?_
 first | refine wpAny_bind (wpAny_pure ?_) | skip
 refine wpAny_bind (wpAny_sequenceKey ht.typeIs (by decide) ?_)
 refine wpAny_bind (wpAny_callSpecial?_slot (name:=Str.ofString "__getitem__") ht.typeIs PyProof.Rows.slot_tuple_getitem
  (wpAny_call_entry PyProof.Rows.slot_tuple_getitem ht.typeIs entry_tuple_getitem ?_ (args_tuple_getitem _ _)))
 show wpAny _ _ (Builtin.Tuple.tupleItemsOf (.ref t) >>= _) _ _ s
 refine wpAny_bind (tupleItemsOf_ ht ?_)
 refine wpAny_bind (wpAny_typeOf hTs ?_)
 rw [if_pos (by decide)]
 refine wpAny_bind (fG hs pl pu ?_)
 have hno:¬ ((((sIx items.size 0 lo:Nat):Int)==0&&(1:Int)==1&&(sIx items.size items.size hi - sIx items.size 0 lo)==items.size)=true):=by
  intro q
  rw [Bool.and_eq_true,Bool.and_eq_true] at q
  have q1:((sIx items.size 0 lo:Nat):Int)=0:=eq_of_beq q.1.1
  have q2:sIx items.size items.size hi - sIx items.size 0 lo=items.size:=eq_of_beq q.2
  exact hw ⟨by omega,by omega⟩
 show wpAny _ _ (if (((sIx items.size 0 lo:Nat):Int)==0&&(1:Int)==1&&(sIx items.size items.size hi - sIx items.size 0 lo)==items.size)=true then _ else _) _ _ s
 rw [if_neg hno,pick_gen]
 first
  | exact wpAny_bind (m:=Builtin.Tuple.tupleExact _) (wpAny_newObj_type (wpAny_pure ⟨_,rfl,wpAny_pure h⟩) htake)
  | exact wpAny_bind (m:=Builtin.Tuple.tupleExact _) (wpAny_newObj_type (wpAny_bind (wpAny_pure (wpAny_pure ⟨_,rfl,wpAny_pure h⟩))) htake)
  | exact wpAny_bind (wpAny_bind (m:=Builtin.Tuple.tupleExact _) (wpAny_newObj_type (wpAny_pure (wpAny_pure ⟨_,rfl,wpAny_pure h⟩)) htake))
  | exact wpAny_bind (wpAny_bind (m:=Builtin.Tuple.tupleExact _) (wpAny_newObj_type (wpAny_pure ⟨_,rfl,wpAny_pure h⟩) htake))
end
end HT
namespace L2
open PySem PySem.Spec PyProof.Rows
abbrev TO:=St→Hp→(Option Int→Hp→Prop)→Prop
def PO (X:Cx)(e:Option Expr)(t:TO):Prop:=
 ∀ (pins:List (Addr×Obj)) (s:Shared) (σ : St) (H:Hp) (Q:Option Int→Hp→Prop),Inv X pins σ H s→t σ H Q →
  wpAny (model X.prog X.w) X.A (evalPart e X.env) (fun u s'=>∃ o H',Inv X pins σ H' s'∧IsPart u o∧Q o H') X.xe s
def tNoPart:TO:=fun _ H Q=>Q none H
def tPart (t:TE):TO:=fun σ H Q=>t σ H fun x H1=>∃ i,x=.int i∧Q (some i) H1
section
variable {X:Cx}{e:Expr}{te:TE}{lo hi:Option Expr}{tl th:TO}{pos p2:Pos}
theorem po_none:PO X none tNoPart:=by
 intro pins s σ H Q I h
 rw [evalPart_none]
 exact wpAny_pure ⟨none,H,I,.none,h⟩
theorem po_some (h:PE X e te):PO X (some e) (tPart te):=by
 intro pins s σ H Q I hw
 rw [evalPart_some]
 refine thn (h pins s σ H _ I hw) fun u s1 ⟨x,H1,I1,r1,q1⟩=>?_
 obtain ⟨i,rfl,q⟩:=q1
 obtain ⟨t,rfl⟩:=r1
 exact ⟨some i,H1,I1,.int i t,q⟩
def SlR (X:Cx)(r:V→Option Int→Option Int→Hp→VK→Prop):Prop:=
 ∀ (pins:List (Addr×Obj)) (s:Shared) (σ : St) (H:Hp) (x:V) (v vl vu:Value) (lo hi:Option Int) (sl:Addr) (Q:VK),Inv X pins σ H s→RelV x v→s.heap.IsSliceOf sl vl vu .none→IsPart vl lo→IsPart vu hi→r x lo hi H Q →
  ∃ T id,typeLookup (.type T) "__getitem__" = pure (some (.builtin id))∧s.TypeIs v T∧wpAny (model X.prog X.w) X.A (getItem v (.ref sl)) (EP X pins σ Q) X.xe s
theorem SlR.or {r r':V→Option Int→Option Int→Hp→VK→Prop}(h:SlR X r)(h':SlR X r'):SlR X (fun x lo hi H Q=>r x lo hi H Q∨r' x lo hi H Q):=by
 intro pins s σ H x v vl vu lo hi sl Q I rx hs pl pu q
 rcases q with q | q
 ·exact h pins s σ H x v vl vu lo hi sl Q I rx hs pl pu q
 ·exact h' pins s σ H x v vl vu lo hi sl Q I rx hs pl pu q
def tSl (r:V→Option Int→Option Int→Hp→VK→Prop)(te:TE)(tl th:TO):TE:=fun σ H Q=>te σ H fun x H1=>tl σ H1 fun l H2=>th σ H2 fun u H3=>r x l u H3 Q
theorem pe_slice {r:V→Option Int→Option Int→Hp→VK→Prop}(hr:SlR X r)(he:PE X e te)(hl:PO X lo tl)(hu:PO X hi th):PE X (.Subscript e (.Slice lo hi none p2) pos) (tSl r te tl th):=by
 intro pins s σ H Q I h
 refine Subscript_ (thn (he pins s σ H _ I h) fun v s1 ⟨x,H1,I1,r1,q1⟩=>?_)
 refine wpAny_Slice (thn (hl pins s1 σ H1 _ I1 q1) fun vl s2 ⟨l,H2,I2,pl,q2⟩=>thn (hu pins s2 σ H2 _ I2 q2) fun vu s3 ⟨u,H3,I3,pu,q3⟩=>?_)
 rw [evalPart_none]
 refine wpAny_pure ?_
 have I4:Inv X pins σ H3 { s3 with heap:=s3.heap.push { cls:=.type "slice",data:=.fields #[vl,vu,.none] } }:=I3.kept (t':=s3.toks) fun b ob q=>Heap.get?_push_of_some _ q
 obtain ⟨T,id,hT,ht,hg⟩:=hr pins { s3 with heap:=s3.heap.push { cls:=.type "slice",data:=.fields #[vl,vu,.none] } } σ H3 x v vl vu l u s3.heap.objs.size Q I4 r1 (Heap.IsSliceOf.new ..) pl pu q3
 show wpAny (model X.prog X.w) X.A (subscriptTail e (.Slice lo hi none p2) v (.ref s3.heap.objs.size)) (EP X pins σ Q) X.xe { s3 with heap:=s3.heap.push { cls:=.type "slice",data:=.fields #[vl,vu,.none] } }
 exact tail_any (ops:=[.ref s3.heap.objs.size,v]) ht hT hg (by with_unfolding_all rfl)
def cutV (xs:List V)(lo hi:Option Int):List V:=(xs.drop (HT.sIx xs.length 0 lo)).take (HT.sIx xs.length xs.length hi - HT.sIx xs.length 0 lo)
theorem nj (xs:List V)(lo hi:Option Int):(cutV xs lo hi).length≤xs.length:=by
 unfold cutV
 rw [List.length_take,List.length_drop]
 omega
def rSlT (K:PySem.W.Frag):V→Option Int→Option Int→Hp→VK→Prop:=fun x lo hi H Q=>∃ a xs,x=.ref a∧SqT K H a xs ∧
 ¬ (HT.sIx xs.length 0 lo=0∧HT.sIx xs.length xs.length hi=xs.length)∧∀ p,H p=none→Q (.ref p) (upd H p (.tup (cutV xs lo hi)))
theorem sl_tup:SlR X (rSlT X.K):=by
 intro pins s σ H x v vl vu lo hi sl Q I rx hs pl pu h
 obtain ⟨a,xs,rfl,hx,hw,q⟩:=h
 cases rx
 obtain ⟨its,r,ht,hz⟩:=I.tuple hx
 have hlen:its.toArray.size=xs.length:=by rw [List.size_toArray];exact r.length.symm
 refine ⟨"tuple",_,PyProof.Rows.slot_tuple_getitem.lookup,ht.typeIs,?_⟩
 refine HT.jD ht hs pl pu (by rw [hlen];exact hw) ?_ (by rw [hlen];exact hz)
 rw [hlen]
 refine ⟨.ref s.heap.objs.size,_,I.laid (t':=s.toks) (o:=.tup (cutV xs lo hi)) (fun b ob q=>Heap.get?_push_of_some _ q) (Nat.le_refl _) ?_,rfl,q _ (I.hok.fresh (Nat.le_refl _))⟩
 exact ⟨Nat.le_trans (nj xs lo hi) hz,_,(r.drop (HT.sIx xs.length 0 lo)).take (HT.sIx xs.length xs.length hi - HT.sIx xs.length 0 lo),IsTup.new _ _⟩
def rCatT (K:PySem.W.Frag):R2:=fun x y H Q=>∃ a b xs ys,x=.ref a∧y=.ref b∧SqT K H a xs∧SqT K H b ys∧xs≠[]∧xs.length+ys.length≤sizeLine ∧
 (ys=[]→Q (.ref a) H)∧(ys≠[]→∀ p,H p=none→Q (.ref p) (upd H p (.tup (xs++ys))))
theorem Vals.nil_iff {xs:List V}{us:List Value}(r:Vals xs us):us=[]↔xs=[]:=by
 cases r with
 | nil=>simp
 | cons _ _=>simp
theorem op_catT:OpR X (binaryOp .Add) (rCatT X.K):=by
 intro pins s σ H x y v u Q I rx ry h
 obtain ⟨a,b,xs,ys,rfl,rfl,ha,hb,hx,hz,q1,q2⟩:=h
 cases rx
 cases ry
 obtain ⟨its,r1,p1,_⟩:=I.tuple ha
 obtain ⟨its2,r2,p2,_⟩:=I.tuple hb
 refine HT.cat_tup p1 p2 (fun z=>hx (r1.nil_iff.mp z)) (fun z=>⟨.ref a,H,I,rfl,q1 (r2.nil_iff.mp z)⟩) (fun z=>?_) (by rw [←r1.length,←r2.length];exact hz)
 refine ⟨.ref s.heap.objs.size,_,I.laid (t':=s.toks) (o:=.tup (xs++ys)) (fun b ob q=>Heap.get?_push_of_some _ q) (Nat.le_refl _) ?_,rfl,q2 (fun w=>z (r2.nil_iff.mpr w)) _ (I.hok.fresh (Nat.le_refl _))⟩
 exact ⟨by rw [List.length_append];exact hz,_,r1.append r2,IsTup.new _ _⟩
end
end L2
namespace L2
open PySem PySem.Spec PyProof.Rows
def ixN (n:Nat)(i:Int):Option Nat:=if 0≤i then (if i<n then some i.toNat else none) else if -(n:Int)≤i then some (i+n).toNat else none
def atI {α : Type}(xs:List α)(i:Int):Option α:=(ixN xs.length i).bind fun j=>xs[j]?
theorem ixN_seq {n:Nat}{i:Int}{j:Nat}(h:ixN n i=some j):seqIndex? i n=some j∧j<n∧-(n:Int)≤i∧i<n:=by
 unfold ixN at h
 by_cases h0:0≤i
 ·rw [if_pos h0] at h
  by_cases h1:i<n
  ·rw [if_pos h1] at h
   have e:i.toNat=j:=Option.some.inj h
   exact ⟨by rw [seqIndex_of h0 h1,e],by omega,by omega,h1⟩
  ·rw [if_neg h1] at h;cases h
 ·rw [if_neg h0] at h
  by_cases h1:-(n:Int)≤i
  ·rw [if_pos h1] at h
   have e:(i+n).toNat=j:=Option.some.inj h
   exact ⟨by rw [seqIndex_neg (by omega) h1,e],by omega,h1,by omega⟩
  ·rw [if_neg h1] at h;cases h
theorem tX {α : Type}{xs:List α}{i:Int}{v:α}(h:atI xs i=some v):∃ j,seqIndex? i xs.length=some j∧xs[j]?=some v∧j<xs.length∧-(xs.length:Int)≤i∧i<xs.length:=by
 unfold atI at h
 cases e:ixN xs.length i with
 | none=>rw [e] at h;cases h
 | some j=>
  rw [e] at h
  obtain ⟨h1,h2,h3,h4⟩:=ixN_seq e
  exact ⟨j,h1,h,h2,h3,h4⟩
theorem aX {α : Type}{xs:List α}{j:Nat}{v:α}(h:xs[j]?=some v):atI xs (j:Int)=some v:=by
 have hj:j<xs.length:=(List.getElem?_eq_some_iff.mp h).1
 have e:ixN xs.length (j:Int)=some j:=by
  unfold ixN
  rw [if_pos (by omega),if_pos (by omega)];simp
 unfold atI;rw [e];exact h
theorem atI_last {α : Type}(xs:List α)(v:α):atI (xs++[v]) (-1)=some v:=by
 have hl:(xs++[v]).length=xs.length+1:=by simp
 have e:ixN (xs++[v]).length (-1)=some xs.length:=by
  unfold ixN
  rw [hl,if_neg (by decide),if_pos (by omega)]
  congr 1
  omega
 unfold atI
 rw [e]
 show (xs++[v])[xs.length]?=some v
 simp
def Al (b:Expr):Prop:=∀ o i,subscripted b false o i=operate [o,i] (getItem o i)
def IxR (X:Cx)(r:R2):Prop:=
 ∀ (value slice:Expr) (pins:List (Addr×Obj)) (s:Shared) (σ : St) (H:Hp) (x y:V) (v u:Value) (Q:VK),Inv X pins σ H s→RelV x v→RelV y u→r x y H Q →
  subscripted slice false v u=operate [v,u] (getItem v u)→wpAny (model X.prog X.w) X.A (subscriptTail value slice v u) (EP X pins σ Q) X.xe s
def MtR (X:Cx)(id:String)(r:V→List V→Hp→VK→Prop):Prop:=
 ∀ (pins:List (Addr×Obj)) (s:Shared) (σ : St) (H:Hp) (x:V) (xs:List V) (v:Value) (us:List Value) (Q:VK),Inv X pins σ H s→RelV x v→Vals xs us→r x xs H Q →
  wpAny (model X.prog X.w) X.A (call (.builtin id) (v::us)) (EP X pins σ Q) X.xe s
section
variable {X:Cx}{a b:Expr}{ta tb:TE}{pos:Pos}
theorem IxR.or {r r':R2}(h:IxR X r)(h':IxR X r'):IxR X (fun x y H Q=>r x y H Q∨r' x y H Q):=by
 intro value slice pins s σ H x y v u Q I rx ry q hs
 rcases q with q | q
 ·exact h value slice pins s σ H x y v u Q I rx ry q hs
 ·exact h' value slice pins s σ H x y v u Q I rx ry q hs
theorem pe_ix {r:R2}(hr:IxR X r)(ha:PE X a ta)(hb:PE X b tb)(hs:Al b):PE X (.Subscript a b pos) (tOp r ta tb):=by
 intro pins s σ H Q I h
 exact Subscript_ (binT ha hb I h fun v u s2 x y H2 I2 rx ry q=>hr a b pins s2 σ H2 x y v u Q I2 rx ry q (hs _ _))
def rIxL (K:PySem.W.Frag):R2:=fun x y H Q=>∃ p xs i v,x=.ref p∧y=.int i∧SqL K H p xs∧atI xs i=some v∧Q v H
def rIxT (K:PySem.W.Frag):R2:=fun x y H Q=>∃ p xs i v,x=.ref p∧y=.int i∧SqT K H p xs∧atI xs i=some v∧Q v H
def rIxS:R2:=fun x y H Q=>∃ z i c,x=.str z∧y=.int i∧z.length≤sizeLine∧atI z.cps.toList i=some c∧Q (.str ⟨#[c]⟩) H
theorem ix_list:IxR X (rIxL X.K):=by
 intro value slice pins s σ H x y v u Q I rx ry h hs
 obtain ⟨p,xs,i,z,rfl,rfl,hq,he,q⟩:=h
 cases rx
 obtain ⟨t,rfl⟩:=ry
 obtain ⟨its,r,pl,hz⟩:=I.list hq
 obtain ⟨j,h1,h2,h3,h4,h5⟩:=tX he
 obtain ⟨w,ew,rw'⟩:=r.get h2
 have hl:=r.length
 have hn:=jR
 have fin:EP X pins σ Q w s:=⟨z,H,I,rw',q⟩
 by_cases h0:0≤i
 ·have hj:i.toNat=j:=by
   rw [seqIndex_of h0 h5] at h1
   exact Option.some.inj h1
  exact item_listR pl.isList h0 (by omega) (by rw [hj];simpa using ew) fin hs
 ·have hj:(i+(its.toArray.size:Int)).toNat=j:=by
   rw [seqIndex_neg (by omega) h4] at h1
   rw [List.size_toArray,←hl]
   exact Option.some.inj h1
  exact subscriptTail_builtinR (x:=w) pl.isList.typeIs slot_list_getitem.lookup
   (wpAny_getItem_list_neg (Q:=fun r s'=>r=w∧EP X pins σ Q r s') pl.isList (by omega) (by rw [List.size_toArray] <;> omega) (by omega) (by rw [hj];simpa using ew) ⟨rfl,fin⟩) hs
theorem ix_tup:IxR X (rIxT X.K):=by
 intro value slice pins s σ H x y v u Q I rx ry h hs
 obtain ⟨p,xs,i,z,rfl,rfl,hq,he,q⟩:=h
 cases rx
 obtain ⟨t,rfl⟩:=ry
 obtain ⟨its,r,pl,hz⟩:=I.tuple hq
 obtain ⟨j,h1,h2,h3,h4,h5⟩:=tX he
 obtain ⟨w,ew,rw'⟩:=r.get h2
 have hl:=r.length
 have hn:=jR
 have fin:EP X pins σ Q w s:=⟨z,H,I,rw',q⟩
 exact subscriptTail_builtinR (x:=w) pl.typeIs slot_tuple_getitem.lookup
  (getItem_tuple (j:=j) (Q:=fun r s'=>r=w∧EP X pins σ Q r s') pl (by omega) (by omega) (by rw [List.size_toArray,←hl];exact h1) (by simpa using ew) ⟨rfl,fin⟩) hs
theorem ix_str:IxR X rIxS:=by
 intro value slice pins s σ H x y v u Q I rx ry h hs
 obtain ⟨z,i,c,rfl,rfl,hz,he,q⟩:=h
 obtain ⟨t,rfl⟩:=rx
 obtain ⟨t',rfl⟩:=ry
 obtain ⟨j,h1,h2,h3,h4,h5⟩:=tX he
 have hl:z.cps.toList.length=z.length:=by simp [Str.length]
 rw [hl] at h1 h4 h5
 have hn:=jR
 exact tail_any (typeIs_str s z t) slot_str_getitem.lookup (getItem_str (c:=c) (by
  have e1:decide (i < -(2^63:Int))=false:=decide_eq_false (by omega)
  have e2:decide (i≥2^63)=false:=decide_eq_false (by omega)
  rw [e1,e2,Bool.or_false]) (by rw [h1];simpa using h2) ⟨.str ⟨#[c]⟩,H,I.tok _,⟨_,rfl⟩,q⟩) hs
def rIx (K:PySem.W.Frag):R2:=fun x y H Q=>rIxL K x y H Q∨rIxT K x y H Q∨rIxS x y H Q
theorem ix_seq:IxR X (rIx X.K):=ix_list.or (ix_tup.or ix_str)
theorem xO (its:List Value)(n j:Nat)(u:Value):Obj.mapSeq (·.setIfInBounds j u) { cls:=.type "list",data:=.seq its.toArray n } = { cls:=.type "list",data:=.seq (its.set j u).toArray n }:=by
 simp [Obj.mapSeq]
theorem Inv.lst {pins:List (Addr×Obj)}{σ : St}{H:Hp}{s:Shared}{p:Addr}{xs:List V}(I:Inv X pins σ H s)(h:H p=some (.lst xs)) :
  ∃ (its:List Value) (n:Nat),Vals xs its∧s.heap.get? p=some { cls:=.type "list",data:=.seq its.toArray n }∧xs.length≤sizeLine:=by
 obtain ⟨z,its,n,r,e⟩:=I.hok p _ h
 exact ⟨its,n,r,e,z⟩
theorem Inv.lstUpd {pins:List (Addr×Obj)}{σ : St}{H:Hp}{s:Shared}{p:Addr}{xs ys:List V}{its its':List Value}{n n':Nat}{f:Obj→Obj}(I:Inv X pins σ H s)(h:H p=some (.lst xs))
  (ho:s.heap.get? p=some { cls:=.type "list",data:=.seq its.toArray n }) (hf:f { cls:=.type "list",data:=.seq its.toArray n } = { cls:=.type "list",data:=.seq its'.toArray n' }) (r:Vals ys its') (hz:ys.length≤sizeLine) (t:Nat) :
  Inv X pins σ (upd H p (.lst ys)) { s with heap:=s.heap.update p f,toks:=t }:=by
 have e:(s.heap.update p f).get? p=some { cls:=.type "list",data:=.seq its'.toArray n' }:=by
  rw [Heap.get?_update_self f ho (by rw [hf] <;> rfl),hf]
 refine I.write (x:=p) (e:=p) (by rw [h];trivial) (.inl rfl) (fun b u hb q=>(Heap.get?_update_other _ _ (Ne.symm hb)).trans q) ⟨_,e⟩ ?_
 exact ⟨hz,its',n',r,e⟩
def rSetL:V→V→V→Hp→(Hp→Prop)→Prop:=fun o i v H Q=>∃ p xs k j,o=.ref p∧i=.int k∧H p=some (.lst xs)∧ixN xs.length k=some j∧Q (upd H p (.lst (xs.set j v)))
theorem set_list:PSet X rSetL:=by
 intro pins s σ H o i v ov iv u Q I ro ri rv h
 obtain ⟨p,xs,k,j,rfl,rfl,hp,hj,q⟩:=h
 cases ro
 obtain ⟨t,rfl⟩:=ri
 obtain ⟨its,n,r,ho,hz⟩:=I.lst hp
 obtain ⟨h1,h2,h3,h4⟩:=ixN_seq hj
 have hl:=r.length
 have hn:=jR
 have I':Inv X pins σ (upd H p (.lst (xs.set j v))) { s with heap:=s.heap.update p (Obj.mapSeq (·.setIfInBounds j u)) }:=
  I.lstUpd hp ho (xO its n j u) (r.set rv j) (by rw [List.length_set];exact hz) s.toks
 by_cases h0:0≤k
 ·have hk:k.toNat=j:=by
   rw [seqIndex_of h0 h4] at h1
   exact Option.some.inj h1
  exact PySem.W.ki_setAt ho h0 (by omega) (by rw [List.size_toArray,←hl];exact h4) (by rw [hk];exact ⟨_,I',q⟩)
 ·have hk:(k+(its.toArray.size:Int)).toNat=j:=by
   rw [seqIndex_neg (by omega) h3] at h1
   rw [List.size_toArray,←hl]
   exact Option.some.inj h1
  exact PySem.W.ki_setBack ho (by omega) (by rw [List.size_toArray,←hl];exact h3) (by omega) (by rw [hk];exact ⟨_,I',q⟩)
theorem rC (lo hi:Option Int)(n:Nat):(sliceBounds lo hi none n).1=((HT.sIx n 0 lo:Nat):Int)∧(sliceBounds lo hi none n).2.1=((HT.sIx n n hi:Nat):Int)∧(sliceBounds lo hi none n).2.2=1:=by
 refine ⟨?_,?_,rfl⟩
 ·cases lo with
  | none=>simp [sliceBounds,HT.sIx]
  | some i=>
   simp only [sliceBounds,HT.sIx,Option.getD_none,show (1:Int)>0 by decide,if_true]
   by_cases h:i<0
   ·simp only [h,if_true] <;> omega
   ·simp only [h,if_false] <;> omega
 ·cases hi with
  | none=>simp [sliceBounds,HT.sIx]
  | some i=>
   simp only [sliceBounds,HT.sIx,Option.getD_none,show (1:Int)>0 by decide,if_true]
   by_cases h:i<0
   ·simp only [h,if_true] <;> omega
   ·simp only [h,if_false] <;> omega
theorem qe (its:List Value)(lo hi:Option Int):slicePick its.toArray lo hi none=((its.drop (HT.sIx its.length 0 lo)).take (HT.sIx its.length its.length hi - HT.sIx its.length 0 lo)).toArray:=by
 obtain ⟨h1,h2,h3⟩:=rC lo hi its.toArray.size
 unfold slicePick
 rw [h1,h2,h3]
 simp only [sliceRange_one,pick_run,List.size_toArray] <;> rfl
def rSlL (K:PySem.W.Frag):V→Option Int→Option Int→Hp→VK→Prop:=fun x lo hi H Q=>∃ a xs,x=.ref a∧SqL K H a xs∧∀ p,H p=none→Q (.ref p) (upd H p (.lst (cutV xs lo hi)))
theorem sl_list:SlR X (rSlL X.K):=by
 intro pins s σ H x v vl vu lo hi sl Q I rx hs pl pu h
 obtain ⟨a,xs,rfl,hx,q⟩:=h
 cases rx
 obtain ⟨its,r,ht,hz⟩:=I.list hx
 have hlen:=r.length
 refine ⟨"list",_,slot_list_getitem.lookup,ht.isList.typeIs,?_⟩
 refine wpAny_getItem_list_slice ht.isList hs pl pu .none (by simp) ?_ (by rw [List.size_toArray] <;> omega)
 rw [qe,←hlen]
 refine ⟨.ref s.heap.objs.size,_,I.laid (t':=s.toks) (o:=.lst (cutV xs lo hi)) (fun b ob q=>Heap.get?_push_of_some _ q) (Nat.le_refl _) ?_,rfl,q _ (I.hok.fresh (Nat.le_refl _))⟩
 exact ⟨Nat.le_trans (nj xs lo hi) hz,_,0,(r.drop (HT.sIx xs.length 0 lo)).take (HT.sIx xs.length xs.length hi - HT.sIx xs.length 0 lo),Heap.get?_push_size _ rfl⟩
def nG:V→Bool
 | .non=>true
 | .bl _=>true
 | .int _=>true
 | .str _=>true
 | _=>false
def eqV:V→V→Bool
 | .non,.non=>true
 | .bl a,.bl b=>a==b
 | .bl a,.int b=>(if a then 1 else 0)==b
 | .int a,.bl b=>a==(if b then 1 else 0)
 | .int a,.int b=>a==b
 | .str a,.str b=>a==b
 | _,_=>false
theorem zR {A:Around}{s:Shared}{y x:V}{u v:Value}(ry:RelV y u)(rx:RelV x v)(fy:nG y=true)(fx:nG x=true):SeqAt.EqAt A s u v (eqV y x):=by
 cases y with
 | non=>
  cases ry
  cases x with
  | non=>cases rx;exact SeqAt.EqAt.same _
  | bl b=>cases rx;exact SeqAt.EqAt.none_bool b
  | int b=>obtain ⟨t,rfl⟩:=rx;exact SeqAt.EqAt.none_int b t
  | str b=>obtain ⟨t,rfl⟩:=rx;exact SeqAt.EqAt.none_str b t
  | _=>exact absurd (show false=true from fx) Bool.false_ne_true
 | bl a=>
  cases ry
  cases x with
  | non=>cases rx;exact SeqAt.EqAt.bool_none a
  | bl b=>cases rx;exact SeqAt.EqAt.bool_bool a b
  | int b=>obtain ⟨t,rfl⟩:=rx;exact SeqAt.EqAt.bool_int a b t
  | str b=>obtain ⟨t,rfl⟩:=rx;exact SeqAt.EqAt.bool_str a b t
  | _=>exact absurd (show false=true from fx) Bool.false_ne_true
 | int a=>
  obtain ⟨t',rfl⟩:=ry
  cases x with
  | non=>cases rx;exact SeqAt.EqAt.int_none a t'
  | bl b=>cases rx;exact SeqAt.EqAt.int_bool a t' b
  | int b=>obtain ⟨t,rfl⟩:=rx;exact SeqAt.EqAt.int_int a t' b t
  | str b=>obtain ⟨t,rfl⟩:=rx;exact SeqAt.EqAt.int_str a t' b t
  | _=>exact absurd (show false=true from fx) Bool.false_ne_true
 | str a=>
  obtain ⟨t',rfl⟩:=ry
  cases x with
  | non=>cases rx;exact SeqAt.EqAt.str_none a t'
  | bl b=>cases rx;exact SeqAt.EqAt.str_bool a t' b
  | int b=>obtain ⟨t,rfl⟩:=rx;exact SeqAt.EqAt.str_int a t' b t
  | str b=>obtain ⟨t,rfl⟩:=rx;exact SeqAt.EqAt.str_str a t' b t
  | _=>exact absurd (show false=true from fx) Bool.false_ne_true
 | _=>exact absurd (show false=true from fy) Bool.false_ne_true
def eqU (x:V)(u:Value):Bool:=match u with
 | .none=>eqV .non x
 | .bool b=>eqV (.bl b) x
 | .int i _=>eqV (.int i) x
 | .str z _=>eqV (.str z) x
 | _=>false
theorem eqU_of {x y:V}{u:Value}(r:RelV y u)(f:nG y=true):eqU x u=eqV y x:=by
 cases y with
 | non=>cases r;rfl
 | bl b=>cases r;rfl
 | int i=>obtain ⟨t,rfl⟩:=r;rfl
 | str z=>obtain ⟨t,rfl⟩:=r;rfl
 | _=>exact absurd (show false=true from f) Bool.false_ne_true
theorem uN {x:V}:∀ {xs:List V} {us:List Value},Vals xs us→xs.all nG=true→us.any (eqU x)=xs.any fun y=>eqV y x
 | _,_,.nil,_=>rfl
 | y::xs,u::us,.cons r t,f=>by
  rw [List.all_cons,Bool.and_eq_true] at f
  rw [List.any_cons,List.any_cons,eqU_of r f.1,uN t f.2]
theorem pP {A:Around}{s:Shared}{x:V}{v:Value}(rx:RelV x v)(fx:nG x=true):∀ {xs:List V} {us:List Value},Vals xs us→xs.all nG=true→∀ u∈us,SeqAt.EqAt A s u v (eqU x u)
 | _,_,.nil,_=>fun u hu=>by cases hu
 | y::xs,u::us,.cons r t,f=>fun u' hu=>by
  rw [List.all_cons,Bool.and_eq_true] at f
  rcases List.mem_cons.mp hu with rfl | hu
  ·rw [eqU_of r f.1];exact zR r rx f.1 fx
  ·exact pP rx fx t f.2 u' hu
def inV (x:V)(xs:List V):Bool:=xs.any fun y=>eqV y x
def rIn (K:PySem.W.Frag)(neg:Bool):R2:=fun x y H Q=>∃ p xs,y=.ref p∧(SqL K H p xs∨SqT K H p xs)∧nG x=true∧xs.all nG=true∧Q (.bl (if neg then !inV x xs else inV x xs)) H
theorem rH:OpR X (compareOp .NotIn) (rIn X.K true):=by
 intro pins s σ H x y v u Q I rx ry h
 obtain ⟨p,xs,rfl,hq,fx,fs,q⟩:=h
 cases ry
 rcases hq with hq | hq
 ·obtain ⟨its,r,pl,hz⟩:=I.list hq
  refine SeqAt.notIn_listAt (eqU x) pl.isList (fun w hw=>pP rx fx r fs w (by simpa using hw)) ⟨.bl _,H,I,rfl,?_⟩
  rw [show its.toArray.any (eqU x)=its.any (eqU x) by simp,uN r fs]
  exact q
 ·obtain ⟨its,r,pl,hz⟩:=I.tuple hq
  refine SeqAt.notIn_tupleAt (eqU x) pl (fun w hw=>pP rx fx r fs w (by simpa using hw)) ⟨.bl _,H,I,rfl,?_⟩
  rw [show its.toArray.any (eqU x)=its.any (eqU x) by simp,uN r fs]
  exact q
theorem rP:fu X (.builtin "len") (fun xs H Q=>∃ p ys,xs=[.ref p]∧(SqL X.K H p ys∨SqT X.K H p ys)∧Q (.int ys.length) H):=by
 intro pins s σ H xs us Q I r h
 obtain ⟨p,ys,rfl,hq,q⟩:=h
 obtain ⟨u,rfl,rx⟩:=vals1 r
 cases rx
 have hn:=jR
 rcases hq with hq | hq
 ·obtain ⟨its,r',pl,hz⟩:=I.list hq
  have hlen:=r'.length
  exact Calls.call_len_list pl.isList (by simp only [List.size_toArray] <;> omega) ⟨.int ys.length,H,I.tok _,⟨s.toks+1,by rw [List.size_toArray,hlen]⟩,q⟩
 ·obtain ⟨its,r',pl,hz⟩:=I.tuple hq
  have hlen:=r'.length
  exact len_tuple pl (by simp only [List.size_toArray] <;> omega) ⟨.int ys.length,H,I.tok _,⟨s.toks+1,by rw [List.size_toArray,hlen]⟩,q⟩
theorem fu.or {f:Value}{r r':List V→Hp→VK→Prop}(h:fu X f r)(h':fu X f r'):fu X f (fun xs H Q=>r xs H Q∨r' xs H Q):=by
 intro pins s σ H xs us Q I rs q
 rcases q with q | q
 ·exact h pins s σ H xs us Q I rs q
 ·exact h' pins s σ H xs us Q I rs q
theorem rJ:fu X (.type "list") (fun xs H Q=>∃ p ys,xs=[.ref p]∧(SqL X.K H p ys∨SqT X.K H p ys)∧∀ l,H l=none→Q (.ref l) (upd H l (.lst ys))):=by
 intro pins s σ H xs us Q I r h
 obtain ⟨p,ys,rfl,hq,q⟩:=h
 obtain ⟨u,rfl,rx⟩:=vals1 r
 cases rx
 have fin:∀ (its:List Value),Vals ys its→ys.length≤sizeLine→∀ (h':Heap) (c':Nat),(∀ b o',s.heap.get? b=some o'→h'.get? b=some o') →
   h'.get? s.heap.objs.size=some { cls:=.type "list",dict:=none,data:=.seq its.toArray c',slots:=#[] }→EP X pins σ Q (.ref s.heap.objs.size) { s with heap:=h' }:=fun its r' hz h' c' kp e=>
  ⟨.ref s.heap.objs.size,_,I.laid (t':=s.toks) kp (Nat.le_refl _) (show cU X.prog X.w _ h' _ (.lst ys) from ⟨hz,its,c',r',e⟩),rfl,q _ (I.hok.fresh (Nat.le_refl _))⟩
 rcases hq with hq | hq
 ·obtain ⟨its,r',pl,hz⟩:=I.list hq
  have hlen:=r'.length
  obtain ⟨o,ho,hc,n,hd⟩:=pl.isList
  exact call_list_seq p (.inl rfl) ho hc hd (fun h' c' kp e=>fin its r' hz h' c' kp e) (by simp only [List.size_toArray] <;> omega)
 ·obtain ⟨its,r',pl,hz⟩:=I.tuple hq
  have hlen:=r'.length
  obtain ⟨o,ho,hc,n,hd⟩:=pl
  exact call_list_seq p (.inr rfl) ho hc hd (fun h' c' kp e=>fin its r' hz h' c' kp e) (by simp only [List.size_toArray] <;> omega)
theorem qu:fu X (.type "tuple") (fun xs H Q=>∃ p ys,xs=[.ref p]∧((SqL X.K H p ys∧∀ l,H l=none→Q (.ref l) (upd H l (.tup ys)))∨(SqT X.K H p ys∧Q (.ref p) H))):=by
 intro pins s σ H xs us Q I r h
 obtain ⟨p,ys,rfl,h⟩:=h
 obtain ⟨u,rfl,rx⟩:=vals1 r
 cases rx
 rcases h with ⟨hq,q⟩ | ⟨hq,q⟩
 ·obtain ⟨its,r',pl,hz⟩:=I.list hq
  have hlen:=r'.length
  refine call_tuple_list pl.isList (fun h' kp=>?_) (by simp only [List.size_toArray] <;> omega)
  have I1:Inv X pins σ H { s with heap:=h' }:=I.kept (t':=s.toks) kp
  have I2:Inv X pins σ (upd H h'.objs.size (.tup ys)) { s with heap:=h'.push { cls:=.type "tuple",data:=.seq its.toArray } }:=
   I1.laid (t':=s.toks) (fun b o e=>Heap.get?_push_of_some _ e) (Nat.le_refl _) (show cU X.prog X.w _ _ _ (.tup ys) from ⟨hz,its,r',IsTup.new _ _⟩)
  exact ⟨.ref h'.objs.size,_,I2,rfl,q _ (I1.hok.fresh (Nat.le_refl _))⟩
 ·obtain ⟨its,r',pl,hz⟩:=I.tuple hq
  exact call_tuple_same pl ⟨.ref p,H,I,rfl,q⟩
def tyV (K:PySem.W.Frag)(T:String)(x:V)(H:Hp):Prop:=match x with
 | .str _=>T = "str"
 | .int _=>T = "int"
 | .ref p=>(T = "list"∧∃ xs,SqL K H p xs)∨(T = "tuple"∧∃ o,K.lookup p=some o∧o.cls=.type "tuple"∧o.dict=none) ∨
   (T = "dict"∧((∃ kvs,H p=some (.dK kvs))∨∃ kvs,H p=some (.dT kvs)))∨(T = "set"∧∃ S n,H p=some (.set S n))
 | _=>False
theorem tyV_is {pins:List (Addr×Obj)}{σ : St}{H:Hp}{s:Shared}{T:String}{x:V}{v:Value}(I:Inv X pins σ H s)(r:RelV x v)(ty:tyV X.K T x H) :
  s.TypeIs v T∧∀ a,v=.ref a→∃ ob,s.heap.get? a=some ob∧ob.dict=none:=by
 cases x with
 | str z=>
  obtain ⟨t,rfl⟩:=r
  cases (show T = "str" from ty)
  exact ⟨typeIs_str s z t,fun _ e=>nomatch e⟩
 | int i=>
  obtain ⟨t,rfl⟩:=r
  cases (show T = "int" from ty)
  exact ⟨typeIs_int s i t,fun _ e=>nomatch e⟩
 | ref p=>
  cases r
  rcases ty with ⟨rfl,xs,hq⟩ | ⟨rfl,o,hk,hc,hd⟩ | ⟨rfl,hk⟩ | ⟨rfl,S,n,hk⟩
  ·obtain ⟨its,_,pl,_⟩:=I.list hq
   refine ⟨pl.isList.typeIs,fun a e=>?_⟩
   cases e
   obtain ⟨o,n,e,c,hd,_⟩:=pl
   exact ⟨o,e,hd⟩
  ·refine ⟨⟨o,I.kIn p o hk,hc⟩,fun a e=>?_⟩
   cases e
   exact ⟨o,I.kIn _ o hk,hd⟩
  ·have z:∃ o,s.heap.get? p=some o∧o.ExactDict:=by
    rcases hk with ⟨kvs,hk⟩ | ⟨kvs,hk⟩
    ·obtain ⟨_,_,_,_,o,_,_,e,ex,_⟩:=I.hok p _ hk
     exact ⟨o,e,ex⟩
    ·obtain ⟨_,_,_,_,o,_,_,e,ex,_⟩:=I.hok p _ hk
     exact ⟨o,e,ex⟩
   obtain ⟨o,e,ex⟩:=z
   refine ⟨⟨o,e,ex.1⟩,fun a e2=>?_⟩
   cases e2
   exact ⟨o,e,ex.2.1⟩
  ·obtain ⟨o,_,_,_,e,ex,_⟩:=I.hok p _ hk
   refine ⟨⟨o,e,ex.1⟩,fun a e2=>?_⟩
   cases e2
   exact ⟨o,e,ex.2.1⟩
 | _=>exact False.elim ty
def tBM0 (K:PySem.W.Frag)(T:String)(r:V→List V→Hp→VK→Prop)(to:TE):TE:=fun σ H Q=>to σ H fun x H1=>tyV K T x H1∧r x [] H1 Q
def tBM (K:PySem.W.Frag)(T:String)(r:V→List V→Hp→VK→Prop)(to:TE)(t:TA):TE:=fun σ H Q=>to σ H fun x H1=>tyV K T x H1∧t σ H1 fun xs H2=>r x xs H2 Q
variable {o e:Expr}{es:List Expr}{to:TE}{t:TA}{name:Str}{apos cpos:Pos}{T id:String}{r:V→List V→Hp→VK→Prop}
theorem pe_bm0 (pa:PlainAttrs T)(slot:Slot T name id)(hty:typeOf (.builtin id)=pure (.type "method_descriptor"))(hm:MtR X id r)(ho:PE X o to)
  (hbase:attributeBase o name X.env (eval o X.env)=eval o X.env:=by rfl) (hline:(apos.endLine==cpos.line)=true:=by rfl):PE X (.Call (.Attribute o name apos) [] [] cpos) (tBM0 X.K T r to):=by
 intro pins s σ H Q I h
 refine wpAny_Call_method0_late hbase hline (thn (ho pins s σ H _ I h) fun v s1 ⟨x,H1,I1,r1,ty,q1⟩=>?_)
 obtain ⟨h1,h2⟩:=tyV_is I1 r1 ty
 exact ⟨T,id,pa,slot,hty,h1,h2,Calls.callWith_builtin rfl (PySem.evalArgs_none (hm pins s1 σ H1 x [] v [] Q I1 r1 .nil q1))⟩
theorem pe_bm (pa:PlainAttrs T)(slot:Slot T name id)(hty:typeOf (.builtin id)=pure (.type "method_descriptor"))(hm:MtR X id r)(ho:PE X o to)(ha:PA X (e::es) t)
  (hbase:attributeBase o name X.env (eval o X.env)=eval o X.env:=by rfl)
  (hfew:((backTo cpos (starEach (e::es) X.env)).all (fun x=>!x.1)&&(backToKw cpos (keywordEach [] X.env)).all (fun x=>x.1.isSome)
   && decide ((e::es).length+([]:List Keyword).length+(if ([]:List Keyword).isEmpty then 0 else 1)<30))=true:=by rfl)
  (hline:(apos.endLine==cpos.line)=true:=by rfl) (hs:starEach (e::es) X.env=(false,eval e X.env)::starEach es X.env:=by rfl) (hplain:(backTo cpos (starEach es X.env)).any (·.1)=false:=by rfl) :
  PE X (.Call (.Attribute o name apos) (e::es) [] cpos) (tBM X.K T r to t):=by
 intro pins s σ H Q I h
 refine wpAny_Call_method_late hbase hfew hline rfl (thn (ho pins s σ H _ I h) fun v s1 ⟨x,H1,I1,r1,ty,q1⟩=>?_)
 obtain ⟨h1,h2⟩:=tyV_is I1 r1 ty
 refine ⟨T,id,pa,slot,hty,h1,h2,?_⟩
 have hA:=ha cpos pins s1 σ H1 _ I1 q1
 rw [hs] at hA ⊢
 refine Calls.callWith_builtin (by show (false||(backTo cpos (starEach es X.env)).any (·.1))=false;rw [hplain] <;> rfl) (Calls.evalArgs_plain ?_)
 exact thn hA fun us s2 ⟨vs,H2,I2,r2,q2⟩=>hm pins s2 σ H2 x vs v us Q I2 r1 r2 q2
/- xs.append(e), list.index on a module's tuple .. are MtR facts of 06m -/
end
end L2
namespace L2
open PySem PySem.Spec PyProof.Rows
def MtM (X:Cx)(id:String)(r:V→List V→Hp→VK→Prop):Prop:=
 ∀ (pins:List (Addr×Obj)) (s:Shared) (σ : St) (H:Hp) (x:V) (xs:List V) (v:Value) (us:List Value) (Q:VK),Inv X pins σ H s→RelV x v→Vals xs us→r x xs H Q →
  wpAny (model X.prog X.w) X.A (call (.builtin id) (v::us)) (EP X pins σ Q) X.xe s
theorem Vals.one:∀ {x:V} {us:List Value},Vals [x] us→∃ u,us=[u]∧RelV x u
 | _,_,.cons r .nil=>⟨_,rfl,r⟩
theorem Vals.zero:∀ {us:List Value},Vals [] us→us=[]
 | _,.nil=>rfl
section
variable {X:Cx}{pins:List (Addr×Obj)}{σ : St}{H:Hp}{s:Shared}{l b:Addr}{xs ys zs:List V}
theorem Inv.lset {its its':List Value}{n:Nat}{f:Array Value→Array Value}{t':Nat}(I:Inv X pins σ H s)(hH:H l=some (.lst xs))
  (e:s.heap.get? l=some { cls:=.type "list",data:=.seq its.toArray n }) (hf:f its.toArray=its'.toArray) (hv:Vals ys its') (hz:ys.length≤sizeLine) :
  Inv X pins σ (upd H l (.lst ys)) { s with heap:=s.heap.update l (Obj.mapSeq f),toks:=t' }:=by
 have q:=PySem.IsL.update e f
 rw [hf] at q
 refine I.write (x:=l) (e:=l) (by rw [hH];exact trivial) (.inl rfl) (fun b' u hb hu=>(Heap.get?_update_other s.heap (Obj.mapSeq f) (Ne.symm hb)).trans hu) ⟨_,q⟩ ?_
 exact ⟨hz,its',_,hv,q⟩
theorem Inv.lnew {its:List Value}{t':Nat}(I:Inv X pins σ H s)(hv:Vals ys its)(hz:ys.length≤sizeLine) :
  Inv X pins σ (upd H s.heap.objs.size (.lst ys)) { s with heap:=s.heap.push { cls:=.type "list",data:=.seq its.toArray },toks:=t' }:=
 I.laid (fun _ _ q=>Heap.get?_push_of_some _ q) (Nat.le_refl _) ⟨hz,its,0,hv,Heap.get?_push_size _ rfl⟩
theorem Inv.fresh (I:Inv X pins σ H s):H s.heap.objs.size=none:=I.hok.fresh (Nat.le_refl _)
theorem Inv.lstM (I:Inv X pins σ H s)(hH:H l=some (.lst xs)):xs.length≤sizeLine∧∃ (its:List Value) (n:Nat),Vals xs its∧xs.length=its.length∧s.heap.get? l=some { cls:=.type "list",data:=.seq its.toArray n }:=by
 obtain ⟨z,its,n,r,e⟩:=I.hok l _ hH
 exact ⟨z,its,n,r,r.length,e⟩
end
section
variable {X:Cx}
def zc:V→List V→Hp→VK→Prop:=fun x vs H Q=>∃ l xs y,x=.ref l∧vs=[y]∧H l=some (.lst xs)∧xs.length<sizeLine∧Q .non (upd H l (.lst (xs++[y])))
theorem rE:MtM X "list.append" zc:=by
 intro pins s σ H x vs v us Q I rx rv h
 obtain ⟨l,xs,y,rfl,rfl,hH,hz,q⟩:=h
 cases rx
 obtain ⟨u,rfl,ru⟩:=rv.one
 obtain ⟨z,its,n,r,hl,e⟩:=I.lstM hH
 refine call_meets F.slot_list_append ⟨_,e,rfl⟩ F.entry_list_append (F.args_list_append_2 _ _) (PySem.list_append l its.toArray n u (by rw [List.size_toArray];omega)) ⟨e,?_⟩
 refine ⟨.non,_,I.lset (its':=its++[u]) hH e (by simp) (r.append (.cons ru .nil)) ?_,rfl,q⟩
 rw [List.length_append,List.length_singleton]
 omega
def rClear:V→List V→Hp→VK→Prop:=fun x vs H Q=>∃ l xs,x=.ref l∧vs=[]∧H l=some (.lst xs)∧Q .non (upd H l (.lst []))
theorem mt_clear:MtM X "list.clear" rClear:=by
 intro pins s σ H x vs v us Q I rx rv h
 obtain ⟨l,xs,rfl,rfl,hH,q⟩:=h
 cases rx
 have hus:=rv.zero
 subst hus
 obtain ⟨z,its,n,r,hl,e⟩:=I.lstM hH
 refine call_meets F.slot_list_clear ⟨_,e,rfl⟩ F.entry_list_clear (F.args_list_clear_1 _) (AutoSeq1.list_clear_list_0 l its.toArray n (by rw [List.size_toArray];omega)) ⟨e,?_⟩
 exact ⟨.non,_,I.lset (its':=[]) (ys:=[]) hH e rfl .nil (Nat.zero_le _),rfl,q⟩
def rCat:R2:=fun x y H Q=>∃ l b xs zs,x=.ref l∧y=.ref b∧H l=some (.lst xs)∧H b=some (.lst zs)∧xs.length+zs.length≤sizeLine∧∀ p,H p=none→Q (.ref p) (upd H p (.lst (xs++zs)))
theorem op_cat:OpR X (binaryOp .Add) rCat:=by
 intro pins s σ H x y v u Q I rx ry h
 obtain ⟨l,b,xs,zs,rfl,rfl,hH,hB,hz,q⟩:=h
 cases rx
 cases ry
 obtain ⟨z,its,n,r,hl,e⟩:=I.lstM hH
 obtain ⟨z2,its2,n2,r2,hl2,e2⟩:=I.lstM hB
 refine PySem.P.add_list e e2 ?_ (by rw [List.size_toArray,List.size_toArray];omega)
 have ea:its.toArray++its2.toArray=(its++its2).toArray:=by simp
 rw [ea]
 exact ⟨.ref _,_,I.lnew (t':=s.toks) (r.append r2) (by rw [List.length_append];omega),rfl,q _ I.fresh⟩
end
section
variable {prog:Program}{w:World}{A:Around}{E:Value→Shared→Prop}{s:Shared}
end
section
variable {X:Cx}
end
end L2
namespace Att
open PySem PySem.W PySem.Calls PyProof.Rows
theorem lJ {P:Params}{h:Heap}:∀ (ns:List Int) (vs:List Value),WellAll P h vs (ns.map WData.int)→IntsAre vs ns:=by
 intro ns
 induction ns with
 | nil=>
  intro vs w
  rw [List.map_nil] at w
  cases w
  exact .nil
 | cons n ns ih=>
  intro vs w
  rw [List.map_cons] at w
  cases w with
  | cons a b=>
   cases a
   exact .cons _ _ (ih _ b)
theorem script_of {l:OpenLaw}{n:Nat}(hn:l.most=some n){P:Params}{h:Heap}{args:List WData}{vals:List Value}
  (hpre:l.row.toRowW.claim.pre args=true) (hwl:WellAll P h vals args) :
  ∃ a vs ns,vals=[Value.ref a]∧args=[WData.list (ns.map WData.int)]∧h.get? a=some { cls:=.type "list",data:=.seq vs.toArray }∧IntsAre vs ns∧ns.length≤n:=by
 have hsh:WShape.hasAll [] args [.list .int]=true:=(pre_splitW hpre).1
 have hc:l.pre.holds [] { args:=args }=true:=(pre_splitW hpre).2
 obtain ⟨d,r,rfl,h1,h2⟩:=hasAllW_cons hsh
 obtain rfl:=hasAllW_nil h2
 obtain ⟨xs,rfl,h3⟩:=hasW_list h1
 obtain ⟨ns,rfl⟩:=items_int h3
 have hlen:ns.length≤n:=by
  unfold OpenLaw.pre at hc
  have h4:(WTm.not (.lt (.lit (.int (n:Int))) (.len (.arg 0)))).holds [] { args:=[.list (ns.map .int)] }=true:=by
   have h4:=(holds_andW hc).1
   rw [hn] at h4
   exact h4
  have h5:=condW_of h4 (w_not (w_lt w_lit (w_len_list (w_arg rfl))))
  rw [List.length_map] at h5
  refine Nat.le_of_not_lt fun q=>?_
  have q':(n:Int)<((ns.length:Nat):Int):=by omega
  first
   | (rw [decide_eq_true q'] at h5;exact absurd h5 (by decide))
   | (simp at h5;omega)
 cases hwl with
 | cons w1 w2=>
  cases w2
  cases w1 with
  | list ho hall=>exact ⟨_,_,ns,rfl,rfl,ho,lJ ns _ hall,hlen⟩
theorem yJ (l:OpenLaw)(args:List WData):l.row.toRowW.claim.post args (.bool true) args=true:=
 postW_of (r:=l.row.toRowW) (X:=(true==true))
  (show WShape.has [] (.bool true) .bool=true by first | rfl | decide | simp [WShape.has,WShape.arms,WShape.armsAll])
  (show (WTm.eq .res (.lit (.bool true))).value [] { args:=args,res:=some (.bool true),after:=args }=some (.bool (true==true)) from w_eq_bool (w_res rfl) w_lit) rfl
theorem tY {l:OpenLaw}{n:Nat}{q:Program}{loose:List Str}{XP:(Str→Option Value)→Heap→Prop}{YP:World→Heap→Prop}{d:DefRec}
  (hn:l.most=some n) (hdf:d.params.defaults=[])
  (call:∀ (w:World) (s₀ s₁ : Shared) (mg mb:Str→Option Value) (fa:Addr) (o:Obj) (pm cd doc:Value) (a:Addr) (vs:List Value) (ns:List Int),
   Ground q loose [] XP w s₀ mg mb s₁.heap→YP w s₁.heap →
   s₁.heap.get? fa=some o→o.data=.func (docDef d.name d.params d.body d.scope pm cd doc)→s₁.heap.CodeRec cd d.name→mg d.name=some (.ref fa) →
   s₁.heap.get? a=some { cls:=.type "list",data:=.seq vs.toArray }→IntsAre vs ns→ns.length≤n→s₁.gens = #[] →
   codeAny (model l.prog w) callerA (.call (.ref fa) ⟨[.ref a],[]⟩) (fun r s'=>r=.ok (.ret (.bool true))∧OldK s₁.heap s'.heap∧s'.os=s₁.os∧AllBare s'.gens) s₁) :
  WalkO q loose XP YP l.row.toRowW d [] (fun f vs=>PySem.call f vs):=by
 intro w s₀ s₁ mg mb G Y fa o pm cd doc dV kV ho hd hcd hD hmg hg args vals as hpre hlay hrd hwl hlo
 obtain rfl:dV=.none:=Dflts.none hD hdf
 obtain rfl:kV=.none:=Dflts.noKw hD
 obtain ⟨a,vs,ns,rfl,rfl,hobj,hints,hlen⟩:=script_of hn hpre hwl
 refine enter_call (codeAny_mono (call w s₀ s₁ mg mb fa o pm cd doc a vs ns G Y ho (fd_plain hd) hcd hmg hobj hints hlen hg) fun r s' hq=>?_)
 obtain ⟨rfl,h2,h3,h4⟩:=hq
 exact ⟨.inl ⟨.bool true,.bool true,[],rfl,fun _=>rfl,.bool true,yJ l _,fun _=>⟨List.Pairwise.nil,fun _ hm=>(nomatch hm)⟩⟩,h2,h3,h4⟩
section
variable {prog:Program}{w:World}{A:Around}{E:Value→Shared→Prop}{s:Shared}{K:Frag}
def ledger (h:Heap)(L d:Addr):List (Addr×Obj):=(List.range h.objs.size).filterMap fun a=>if a=L∨a=d then none else (h.get? a).map fun o=>(a,o)
end
end Att
namespace L2
open PySem PySem.Spec PyProof.Rows
theorem sV:∀ {vs:List Value} {ns:List Int},IntsAre vs ns→Vals (ns.map V.int) vs
 | _,_,.nil=>.nil
 | _,_,.cons n t h=>.cons ⟨t,rfl⟩ (sV h)
def Only (H:Hp):Prop:=∀ b,H b=none∨∃ o xs,H b=some (.frz o (.lst xs))
theorem law_call {P:Program}{w:World}{K:PySem.W.Frag}{mg mb:Str→Option Value}{CX:CXT}{k:Nat}{fa a:Addr}{fd:FuncData}{x:Str}{sp:Sp}{s₁ : Shared}{vs:List Value}{ns:List Int}
  (KX:K.In s₁.heap) (hns:s₁.heap.Ns mainGlobals mg) (hb:s₁.heap.Ns builtinsNs mb) (hbb:∀ x:Str,x ≠ "__name__"→mb x=bootBuiltins x) (hlim:s₁.heap.NoLimit) (hg:s₁.gens = #[])
  (ha:s₁.heap.get? a=some { cls:=.type "list",data:=.seq vs.toArray }) (hi:IntsAre vs ns) (hl:ns.length≤sizeLine) (hr:eN k callerA)
  (F:∀ base:Heap,K.In base→base.Ns mainGlobals mg→bT P w K mg base CX k fa fd [x] sp) (hbind:∀ (s:Shared) (u:Value),BindsTo s fd ⟨[u],[]⟩ [(x,u)])
  (hsp:∀ H:Hp,Only H→SqL K H a (ns.map V.int)→sp [.ref a] H (fun v _=>v=.bl true) fun _ _ _=>False)
  (hCX:∀ H e s',CX [] H s₁ (fun _ _ _=>False) e s'→False) :
  codeAny (model P w) callerA (.call (.ref fa) ⟨[.ref a],[]⟩) (fun r s'=>r=.ok (.ret (.bool true))∧OldK s₁.heap s'.heap∧s'.os=s₁.os∧AllBare s'.gens) s₁:=by
 have rv:=sV hi
 have lenV:=hi.length
 -- from an abstract heap in which nothing but the script may be tracked
 have core:∀ H:Hp,Only H→SqL K H a (ns.map V.int)→HOk P w H s₁.heap→(∀ b,H b≠none→b=a)→(H a≠none→K.lookup a=none) →
   codeAny (model P w) callerA (.call (.ref fa) ⟨[.ref a],[]⟩) (fun r s'=>r=.ok (.ret (.bool true))∧OldK s₁.heap s'.heap∧s'.os=s₁.os∧AllBare s'.gens) s₁:=by
  intro H hO hS hok hA hK
  have base_of:∀ {b:Addr} {o:Obj},s₁.heap.get? b=some o→H b=none→(hidT s₁.heap H).get? b=some o:=fun e n=>hidT_get e n
  have noA:∀ {b:Addr} {o:Obj} {es:Array DictEntry} {ep:Nat},s₁.heap.get? b=some o→o.data=.dict es ep→H b=none:=fun {b o es ep} e d=>by
   cases q:H b with
   | none=>rfl
   | some u=>
    have e':b=a:=hA b (by rw [q];simp)
    subst e'
    rw [ha] at e;cases e
    have d':Data.seq vs.toArray _=Data.dict es ep:=d
    cases d'
  have nsK:∀ {b:Addr} {m:Str→Option Value},s₁.heap.Ns b m→(hidT s₁.heap H).Ns b m:=fun {b m} ⟨o,es,ep,e,d,r⟩=>⟨o,es,ep,base_of e (noA e d),d,r⟩
  have hKb:K.In (hidT s₁.heap H):=fun b o e=>base_of (KX b o e) (by
   cases q:H b with
   | none=>rfl
   | some u=>
    have e':b=a:=hA b (by rw [q];simp)
    subst e'
    rw [hK (by rw [q];simp)] at e;cases e)
  have hM:Mod K mg (hidT s₁.heap H):=⟨hKb,nsK hns,⟨mb,nsK hb,hbb⟩,let ⟨mc,h1,h2⟩:=hlim;⟨mc,nsK h1,h2⟩⟩
  have e0:Env0 P w K mg (hidT s₁.heap H) callerA [] s₁ H:=⟨rfl,hM,fun b o e=>of_hidT e,Nat.le_of_eq (yV _ _),trivial,fun b hb=>absurd (show b∈([]:List Addr) from hb) (by simp),hok,.of_eq hg,fun v e=>(nomatch e)⟩
  refine codeAny_mono ((F _ hKb (nsK hns)).run callerA [] s₁ H ⟨[.ref a],[]⟩ [.ref a] [.ref a] _ _ hr e0 (hbind s₁ (.ref a)) (.cons rfl .nil) (hsp H hO hS)) fun r s' h=>?_
  cases r with
  | error e=>exact (hCX H e s' h).elim
  | ok fl=>
   cases fl with
   | next=>exact False.elim h
   | brk=>exact False.elim h
   | cont=>exact False.elim h
   | ret u=>
    obtain ⟨v,H',os,bare,un,hok',r',q⟩:=h
    have q':v=.bl true:=q
    subst q'
    obtain rfl:u=Value.bool true:=r'
    refine ⟨rfl,OldK.of_keep fun b o e=>?_,os,bare⟩
    cases q:H b with
    | none=>exact un.keep b o e q (by intro z;exact absurd (show b∈([]:List Addr) from z) (by simp)) (by simp)
    | some u=>
     rcases hO b with z | ⟨ob,xs,z⟩
     ·rw [q] at z;cases z
     ·have z2:=un.frzs b ob _ z
      obtain ⟨e1,_⟩:=hok b _ z
      obtain ⟨e2,_⟩:=hok' b _ z2
      rw [e] at e1;cases e1
      exact e2
 cases hk:K.lookup a with
 | some o=>
  -- the script is one of the module's own objects
  have e:=KX a o hk
  rw [ha] at e
  cases e
  refine core (fun _=>none) (fun _=>.inl rfl) (.inr ⟨_,vs.toArray,_,hk,rfl,rfl,rfl,by rw [List.size_toArray,lenV];exact hl,by simpa using rv⟩) (fun b u z=>by have z':(none:Option HO)=some u:=z;cases z') (fun b z=>absurd rfl z) fun z=>absurd rfl z
 | none=>
  refine core (fun b=>if b=a then some (.frz { cls:=.type "list",data:=.seq vs.toArray } (.lst (ns.map V.int))) else none) (fun b=>?_) (.inl (.inr ⟨{ cls:=.type "list",data:=.seq vs.toArray },if_pos rfl⟩)) (fun b u z=>?_) (fun b z=>?_) fun _=>hk
  ·by_cases hb:b=a
   ·exact .inr ⟨_,_,if_pos hb⟩
   ·exact .inl (if_neg hb)
  ·by_cases hb:b=a
   ·have z':=(if_pos hb).symm.trans z
    cases z'
    subst hb
    exact ⟨ha,by rw [List.length_map];exact hl,vs,_,rv,ha⟩
   ·have z':=(if_neg hb).symm.trans z
    cases z'
  ·by_cases hb:b=a
   ·exact hb
   ·exact absurd (if_neg hb) z
end L2
namespace L2
open PySem PySem.Spec PyProof.Rows
theorem zA {l:PySem.W.OpenLaw}{n k:Nat}{q:Program}{loose:List Str}{XP:(Str→Option Value)→Heap→Prop}{YP:World→Heap→Prop}{d:DefRec}{K:Params→PySem.W.Frag}{CX:World→CXT}{sp:World→Sp}{x:Str}
  (hn:l.most=some n) (hn2:n≤sizeLine) (hdf:d.params.defaults=[]) (hr:eN k callerA)
  (hY:∀ (w:World) (h:Heap),YP w h→(K w.params).In h)
  (F:∀ (w:World) (mg:Str→Option Value) (fa:Addr) (h:Heap),(K w.params).In h→h.Ns mainGlobals mg→mg d.name=some (.ref fa) →
   ∃ fd:FuncData,(∀ (s:Shared) (u:Value),BindsTo s fd ⟨[u],[]⟩ [(x,u)]) ∧
    ∀ base:Heap,(K w.params).In base→base.Ns mainGlobals mg→bT l.prog w (K w.params) mg base (CX w) k fa fd [x] (sp w))
  (hsp:∀ (w:World) (H:Hp) (a:Addr) (ns:List Int),ns.length≤n→Only H→SqL (K w.params) H a (ns.map V.int)→sp w [.ref a] H (fun v _=>v=.bl true) fun _ _ _=>False)
  (hCX:∀ (w:World) (H:Hp) (s:Shared) (e:Value) (s':Shared),CX w [] H s (fun _ _ _=>False) e s'→False) :
  PySem.W.WalkO q loose XP YP l.row.toRowW d [] (fun f vs=>PySem.call f vs):=by
 refine Att.tY hn hdf fun w s₀ s₁ mg mb fa o pm cd doc a vs ns G Y ho hd hcd hmg hobj hints hlen hg=>?_
 have KX:=hY w _ Y
 obtain ⟨fd,hb,hF⟩:=F w mg fa _ KX G.T.g hmg
 exact law_call KX G.T.g G.T.b G.T.builtins G.T.nolimit hg hobj hints (Nat.le_trans hlen hn2) hr hF hb (fun H hO hS=>hsp w H a ns hlen hO hS) fun H e s'=>hCX w H s₁ e s'
end L2
/- THE LAST THEOREM (shape; LID, My.* are yours):
   My.Adr: a structure of the addresses that your layer names (classes,functions);My.Txt K t: a structure (Prop) of the equations over K;
   My.txt_mk:{K} {implicit addresses ..} (e1:nsIn K mainGlobals "law" = some (some (.ref f))) (e2:K.lookup f=some ⟨oc,od,.func (fnOf "law" "law" params body scope dV kV doc pm an cdv ct),sl⟩) (e3:codeIn K cdv "law" = true) .. : ∃ t,My.Txt K t
set_option maxRecDepth 100000 in
set_option maxHeartbeats 0 in
theorem PySem.Challenge.cw_LID_holds : PySem.Challenge.rw_LID.Holds := by
 w_on;o_law;k_head;(case hw=>w_witness2)
 k_fill
 refine L2.zA (l:=PySem.Challenge.rw_LID) (n:=63) (k:=40) (x := "script") (CX:=fun w=>..) (sp:=fun _=>My.sp_law) rfl (by decide) rfl ⟨rfl,by decide,by decide⟩ (fun w h Y=>PySem.W.kIn_of Y) ?F ?S ?C
 case F=>
  intro w mg fa h KX G hmg
  have T:∃ t,My.Txt (L2.KOf KX) t:=by
   dsimp only [L2.KOf]                          -- K must stand as «<heap const> w.params» for k_is
   refine' My.txt_mk ?e1 ?e2 ?e3 ..
   (case e1=>PySem.W.k_is)                    -- in the order: a name -> its address -> its object -> its parts
   (case e2=>PySem.W.k_is)
   ..
  obtain ⟨t,T⟩:=T
  have e0:=hmg.symm.trans (PySem.W.mg_of KX G T.law)
  cases e0                                       -- fa is the law's own address
  exact ⟨_,fun s u=>.of_eq rfl,fun base kb nb=>My.law_fn T kb nb⟩     -- if «.of_eq rfl» comes too early: refine' ⟨_,?b,fun base kb nb=>My.law_fn T kb nb⟩;exact fun s u=>.of_eq rfl
 case S=>exact fun w H a ns hl hO hS=>..
 case C=>exact ..
(the tactic k_is has no namespace: write k_is) -/
namespace L2
open PySem PySem.Spec PyProof.Rows
def jC (s:Stmt):Arguments:=match s with
 | .FunctionDef _ a _ _ _ _ _ _ _ _=>a
 | _=>{ posonlyargs:=[],args:=[],vararg:=none,kwonlyargs:=[],kw_defaults:=[],kwarg:=none,defaults:=[] }
def dW (s:Stmt):List Stmt:=match s with
 | .FunctionDef _ _ b _ _ _ _ _ _ _=>b
 | _=>[]
def aH (s:Stmt):Scope:=match s with
 | .FunctionDef _ _ _ _ _ _ sc _ _ _=>sc
 | _=>{ kind:=.function,names:=[],isGenerator:=false,isCoroutine:=false }
abbrev CX0:CXT:=fun _ _ _ _ _ _=>False
abbrev E0:XK:=fun _ _ _=>False
theorem zU {X:Cx}:Passes CX0 X E0:=fun _ _ _ _ _ _ _ h=>h.elim
structure Fun (K:PySem.W.Frag) (x qual:Str) (st:Stmt) (f:Addr) (fd:FuncData):Prop where
 ex:∃ (oc:Value) (od:Option Addr) (kV doc pm:Value) (an:Option Addr) (cdv ct:Value) (osl:Array (Option Value)),
  fd=PySem.W.fnOf x qual (jC st) (dW st) (aH st) .none kV doc pm an cdv ct∧K.lookup f=some ⟨oc,od,.func fd,osl⟩∧PySem.W.codeIn K cdv qual=true
 kp:PySem.W.keepIn K (.ref f)=true
section
variable {P:Program}{w:World}{K:PySem.W.Frag}{mg:Str→Option Value}{base:Heap}
theorem Fun.ok {x qual:Str}{st:Stmt}{f:Addr}{fd:FuncData}{N ps:List Str}{k:Nat}{sp:Sp}(F:Fun K x qual st f fd)(S:aP N ps (aH st))(len:∀ vs H Q E,sp vs H Q E→vs.length=ps.length)
  (hbody:∀ (cdv:Value) (A:Around) (outer:List Env) (s:Shared) (H:Hp) (vs:List V) (Q:VK) (E:XK),eN k (A.deeper (envOfC qual (aH st) s.heap.objs.size f cdv))→sp vs H Q E →
   ∃ t,PSs (cxOf CX0 P w K mg base N qual (aH st) f cdv A outer s H E).nox (dW st) t∧t { nx:=fun _ H'=>Q .non H',rt:=Q } (start N vs) H):bT P w K mg base CX0 (k+1) f fd ps sp:=by
 obtain ⟨oc,od,kV,doc,pm,an,cdv,ct,osl,rfl,lk,hcd⟩:=F.ex
 refine fn_of lk hcd S len fun A outer s H vs Q E hr hsp=>?_
 obtain ⟨t,h,q⟩:=hbody cdv A outer s H vs Q E hr hsp
 exact ⟨t,h.nox,q⟩
theorem Fun.binds {x qual:Str}{st:Stmt}{f:Addr}{fd:FuncData}{ps:List Str}(F:Fun K x qual st f fd)
  (h:∀ (kV doc pm:Value) (an:Option Addr) (cdv ct:Value) (us:List Value),us.length=ps.length→bindArgs (PySem.W.fnOf x qual (jC st) (dW st) (aH st) .none kV doc pm an cdv ct) ⟨us,[]⟩=pure (ps.zip us)):Binds K fd ps []:=by
 obtain ⟨oc,od,kV,doc,pm,an,cdv,ct,osl,rfl,lk,hcd⟩:=F.ex
 exact .all (h kV doc pm an cdv ct)
theorem bB {x qual:Str}{st:Stmt}{f:Addr}{oc:Value}{od an:Option Addr}{osl:Array (Option Value)}{kV doc pm cdv ct:Value}(l:K.lookup f=some ⟨oc,od,.func (PySem.W.fnOf x qual (jC st) (dW st) (aH st) .none kV doc pm an cdv ct),osl⟩)
  (c:PySem.W.codeIn K cdv qual=true) (k:PySem.W.keepIn K (.ref f)=true):Fun K x qual st f (PySem.W.fnOf x qual (jC st) (dW st) (aH st) .none kV doc pm an cdv ct):=⟨⟨oc,od,kV,doc,pm,an,cdv,ct,osl,rfl,l,c⟩,k⟩
end
section
variable {X:Cx}
theorem pv (i:Nat){x:Str}{pos:Pos}(hN:X.N[i]?=some x:=by rfl)(hv:Vis X.env.scope x:=by first | exact Or.inl rfl | exact Or.inr (Or.inl rfl) | exact Or.inr (Or.inr rfl))(hd:(x==("__debug__" : Str))=false:=by decide)
  (hcd:(x==("__classdict__" : Str))=false:=by decide):PE X (.Name x pos) (tVar i):=pe_var hN hv hd hcd
end
end L2
namespace L2
open PySem PySem.Spec PyProof.Rows
end L2
namespace L2
open PySem PySem.Spec PyProof.Rows
def clGo (env:Env):List (Str×NameKind)→List (Str×Addr)→List (Str×Addr)
 | [],cs=>cs
 | (n,k)::r,cs=>clGo env r (if (k==NameKind.free)=true then (n,(env.cells.lookup n).getD 0)::cs else cs)
def clOf (scope:Scope)(env:Env):List (Str×Addr):=clGo env scope.names []
theorem qD {env:Env}{p:Str×Addr}:∀ (l:List (Str×NameKind)) (cs:List (Str×Addr)),p∈clGo env l cs→p∈cs∨((p.1,NameKind.free)∈l∧p.2=(env.cells.lookup p.1).getD 0)
 | [],cs,h=>.inl h
 | (n,k)::r,cs,h=>by
  rcases qD r _ h with h | ⟨h1,h2⟩
  ·by_cases hk:(k==NameKind.free)=true
   ·rw [if_pos hk] at h
    rcases List.mem_cons.mp h with rfl | h
    ·have e:k=NameKind.free:=by simpa using hk
     subst e
     exact .inr ⟨List.mem_cons_self,rfl⟩
    ·exact .inl h
   ·rw [if_neg hk] at h
    exact .inl h
  ·exact .inr ⟨List.mem_cons_of_mem _ h1,h2⟩
theorem wH {env:Env}{x:Str}:∀ (l:List (Str×NameKind)) (cs:List (Str×Addr)),((x,NameKind.free)∈l∨∃ c,(x,c)∈cs)→∃ c,(x,c)∈clGo env l cs
 | [],cs,h=>by
  rcases h with h | h
  ·exact absurd h (by simp)
  ·exact h
 | (n,k)::r,cs,h=>by
  refine wH r _ ?_
  rcases h with h | ⟨c,h⟩
  ·rcases List.mem_cons.mp h with e | h
   ·injection e with e1 e2
    subst e1;subst e2
    exact .inr ⟨_,by rw [if_pos (by rfl)];exact List.mem_cons_self⟩
   ·exact .inl h
  ·refine .inr ⟨c,?_⟩
   by_cases hk:(k==NameKind.free)=true
   ·rw [if_pos hk];exact List.mem_cons_of_mem _ h
   ·rw [if_neg hk];exact h
theorem eY {x:Str}{c:Addr}:∀ {l:List (Str×Addr)},(x,c)∈l→∃ c',l.lookup x=some c'
 | [],h=>absurd h (by simp)
 | (n,d)::r,h=>by
  by_cases e:x=n
  ·subst e
   exact ⟨d,by simp [List.lookup_cons]⟩
  ·rcases List.mem_cons.mp h with q | q
   ·injection q with q1 _
    exact absurd q1 e
   ·obtain ⟨c',h'⟩:=eY q
    refine ⟨c',?_⟩
    have e':(x==n)=false:=beq_eq_false_iff_ne.mpr e
    rw [List.lookup_cons,e']
    exact h'
theorem clos_of {scope:Scope}{env:Env}(h:∀ y∈scope.names,y.2=NameKind.free→∃ c,env.cells.lookup y.1=some c):closureFor scope env=pure (clOf scope env):=by
 unfold closureFor clOf
 have key:∀ (l:List (Str×NameKind)) (cs:List (Str×Addr)),(∀ y∈l,y.2=NameKind.free→∃ c,env.cells.lookup y.1=some c) →
   (forIn l cs (fun (x:Str×NameKind) (cs:List (Str×Addr))=>(if (x.2==NameKind.free)=true then cellOf env x.1 >>= fun c=>pure (ForInStep.yield ((x.1,c)::cs)) else pure (ForInStep.yield cs):Sem (ForInStep (List (Str×Addr))))))=pure (clGo env l cs):=by
  intro l
  induction l with
  | nil=>intro cs _;rfl
  | cons x r ih=>
   intro cs hl
   obtain ⟨n,k⟩:=x
   rw [List.forIn_cons]
   have hr:∀ y∈r,y.2=NameKind.free→∃ c,env.cells.lookup y.1=some c:=fun y hy=>hl y (List.mem_cons_of_mem _ hy)
   by_cases hk:(k==NameKind.free)=true
   ·obtain ⟨c,hc⟩:=hl (n,k) List.mem_cons_self (by simpa using hk)
    have hc':env.cells.lookup n=some c:=hc
    have e1:cellOf env n=pure c:=by unfold cellOf;rw [hc']
    simp only [hk,if_true,e1,pure_bind]
    rw [ih _ hr]
    simp only [clGo,hk,if_true,hc',Option.getD_some]
   ·simp only [hk,if_false,pure_bind,Bool.false_eq_true]
    rw [ih _ hr]
    simp only [clGo,hk,if_false,Bool.false_eq_true]
 have q:=key scope.names [] h
 simpa using q
theorem gj {y:Str}{c:Addr}:∀ {names:List (Str×NameKind)} {n:Nat} {acc:List (Str×Addr)},(y,c)∈cellsFrom n names acc↔(y,c)∈acc∨(y,c)∈cellsFrom n names []
 | [],n,acc=>by simp [cellsFrom]
 | (name,kind)::r,n,acc=>by
  unfold cellsFrom
  split
  ·rw [gj (acc:=(name,n)::acc),gj (acc:=[(name,n)])]
   simp only [List.mem_cons,List.not_mem_nil,or_false]
   exact ⟨fun h=>h.elim (fun h=>h.elim (fun h=>.inr (.inl h)) .inl) fun h=>.inr (.inr h),fun h=>h.elim (fun h=>.inl (.inr h)) fun h=>h.elim (fun h=>.inl (.inl h)) .inr⟩
  ·exact gj
theorem uq {y:Str}{c:Addr}:∀ {names:List (Str×NameKind)} {n:Nat},(y,c)∈cellsFrom n names []→(y,NameKind.cell)∈names
 | [],n,h=>by simp [cellsFrom] at h
 | (name,kind)::r,n,h=>by
  unfold cellsFrom at h
  split at h
  ·rename_i hk
   rcases gj.mp h with q | q
   ·have hk':kind=.cell:=by simpa using hk
    simp only [List.mem_cons,List.not_mem_nil,or_false,Prod.mk.injEq] at q
    rw [q.1,hk']
    exact List.mem_cons_self
   ·exact List.mem_cons_of_mem _ (uq q)
  ·exact List.mem_cons_of_mem _ (uq h)
theorem cf_has {y:Str}:∀ {names:List (Str×NameKind)} {n:Nat},(y,NameKind.cell)∈names→∃ c,(y,c)∈cellsFrom n names []
 | [],n,h=>by simp at h
 | (name,kind)::r,n,h=>by
  unfold cellsFrom
  rcases List.mem_cons.mp h with q | q
  ·cases q
   rw [if_pos (by rfl)]
   exact ⟨n,gj.mpr (.inl List.mem_cons_self)⟩
  ·split
   ·obtain ⟨c,hc⟩:=cf_has (n:=n+1) q
    exact ⟨c,gj.mpr (.inr hc)⟩
   ·exact cf_has q
theorem cf_new {h:Heap}{names:List (Str×NameKind)}{y:Str}{c:Addr}(e:(y,c)∈cellsFrom h.objs.size names []):(pushCells h names).IsCell c none∧h.objs.size≤c:=
 (cellsFrom_ok names h h.objs.size [] ⟨fun _ _ z=>by simp at z,List.Pairwise.nil⟩ (Nat.le_refl _)).empty y c e
theorem cf_apart {n:Nat}{names:List (Str×NameKind)}{y z:Str}{c:Addr}(e:(y,c)∈cellsFrom n names [])(e':(z,c)∈cellsFrom n names []):y=z:=by
 have key:∀ (k:Nat),∃ h:Heap,h.objs.size=k:=fun k=>by
  induction k with
  | zero=>exact ⟨{ (default:Heap) with objs:=#[] },rfl⟩
  | succ k ih=>
   obtain ⟨h,e⟩:=ih
   exact ⟨h.push { cls:=.type "cell",data:=.cell none },by rw [Heap.size_push,e]⟩
 obtain ⟨h,rfl⟩:=key n
 exact name_of_addr (cellsFrom_ok names h h.objs.size [] ⟨fun _ _ z=>by simp at z,List.Pairwise.nil⟩ (Nat.le_refl _)).apart e e'
theorem zZ {M:Model}{A:Around}{E:Value→Shared→Prop}{s:Shared}{scope:Scope}{globals:Addr}{closure:List (Str×Addr)}{qual:Str}{func:Option Addr}{code:Value}{ar:Env}{builtins:Addr}{Q:Env→Shared→Prop}
  (hQ:Q { scope:=scope,locals:=s.heap.objs.size,globals:=globals,cells:=cellsFrom (s.heap.objs.size+1) scope.names closure,qual:=qual,func:=func,code:=ar.code,frame:=ar.frame,builtins:=ar.builtins } { s with heap:=pushCells (s.heap.push { cls:=.type "dict",data:=.dict #[] }) scope.names }) :
  wpAny M A (newFunctionEnv scope globals closure [] qual func code (some ar) builtins) Q E s:=by
 simp only [newFunctionEnv,Option.isSome_some,if_true]
 refine wpAny_bind (wpAny_alloc ?_)
 refine wpAny_bind (wpAny_layCells _ (fun name kind cells=>by cases hkc:kind==NameKind.cell <;> simp [hkc]) _ _ _ _ ?_)
 rw [show ({ s with heap:=s.heap.push { cls:=.type "dict",data:=.dict #[] } }:Shared).heap.objs.size=s.heap.objs.size+1 from Heap.size_push ..]
 rw [List.forIn_nil]
 exact wpAny_bind (wpAny_pure (wpAny_pure hQ))
def blk (X:Cx)(scope:Scope)(N':List Str)(C:Addr)(s:Shared)(H:Hp)(ex:List Addr):Cx where
 prog:=X.prog
 w:=X.w
 K:=X.K
 mg:=X.mg
 base:=X.base
 A:=X.A
 N:=N'
 s₀:=s
 H₀:=H
 env:=compEnvC scope (cellsFrom (C+1) scope.names (clOf scope X.env)) C X.env
 outer:=X.stack
 stack:=X.stack
 ex:=ex
 fn:=fun y=>decide (scope.names.lookup y=some .cell)
 calm:=X.calm
 pn:=[]
 xe:=fun _ _=>False
structure iz (X:Cx) (scope:Scope) (x:List Str) (ix:List Nat):Prop where
 kind:scope.kind=.function
 own:∀ y∈x,scope.names.lookup y=some .local∨scope.names.lookup y=some .cell
 names:∀ y∈scope.names,scope.names.lookup y.1=some y.2
 free:∀ y∈scope.names,y.2=.free→X.env.scope.names.lookup y.1=some .cell∨X.env.scope.names.lookup y.1=some .free
 ixs:∀ i∈ix,scope.names.lookup (X.N.getD i "")=some .free
 nd:(x++ix.map fun i=>X.N.getD i "").Nodup
def vo:List Str→Bool
 | []=>true
 | x::r=>!(r.contains x)&&vo r
def blkB (sc:Scope)(N:List Str)(scope:Scope)(x:List Str)(ix:List Nat):Bool:=
 decide (scope.kind=.function)&&x.all (fun y=>decide (scope.names.lookup y=some .local)||decide (scope.names.lookup y=some .cell)) &&
 scope.names.all (fun y=>decide (scope.names.lookup y.1=some y.2)) &&
 scope.names.all (fun y=>!decide (y.2=.free)||decide (sc.names.lookup y.1=some .cell)||decide (sc.names.lookup y.1=some .free)) &&
 ix.all (fun i=>decide (scope.names.lookup (N.getD i "")=some .free))&&vo (x++ix.map fun i=>N.getD i "")
theorem rD:∀ {l:List Str},vo l=true→l.Nodup
 | [],_=>List.nodup_nil
 | x::r,h=>by
  unfold vo at h
  rw [Bool.and_eq_true] at h
  refine List.nodup_cons.mpr ⟨fun hm=>?_,rD h.2⟩
  have:r.contains x=true:=List.contains_iff_mem.mpr hm
  rw [this] at h
  exact absurd h.1 (by decide)
theorem bK {X:Cx}{scope:Scope}{x:List Str}{ix:List Nat}(h:blkB X.env.scope X.N scope x ix=true):iz X scope x ix:=by
 unfold blkB at h
 simp only [Bool.and_eq_true,List.all_eq_true,decide_eq_true_eq,Bool.or_eq_true,Bool.not_eq_true',decide_eq_false_iff_not] at h
 obtain ⟨⟨⟨⟨⟨h1,h3⟩,h4⟩,h5⟩,h6⟩,h7⟩:=h
 refine ⟨h1,fun y hy=>h3 y hy,fun y hy=>h4 y hy,fun y hy hk=>?_,fun i hi=>h6 i hi,rD h7⟩
 ·rcases h5 y hy with (q | q) | q
  ·exact absurd hk q
  ·exact .inl q
  ·exact .inr q
def blkσ (ix:List Nat)(σ : St):St:=ix.map fun i=>(σ[i]?).getD none
abbrev fY (X:Cx)(x:List Str)(ix:List Nat):List Str:=x++ix.map fun i=>X.N.getD i ""
theorem dY {scope:Scope}{env:Env}{x:Str}:∀ {names:List (Str×NameKind)} {k:NameKind},
  (names.map fun (p:Str×NameKind)=>if (p.2==NameKind.free&&env.scope.kind==.function&&env.kindOf p.1==some .cell)=true then (p.1,NameKind.cell) else (p.1,p.2)).lookup x=some k →
  names.lookup x=some k∨(k=.cell∧names.lookup x=some .free)
 | [],k,h=>by simp at h
 | (n,k')::r,k,h=>by
  rw [List.map_cons] at h
  cases hx:x==n with
  | true=>
   by_cases hc:(k'==NameKind.free&&env.scope.kind==.function&&env.kindOf n==some .cell)=true
   ·rw [if_pos hc] at h
    simp only [List.lookup_cons,hx] at h
    have hk:k'=.free:=by
     have:=(Bool.and_eq_true_iff.mp (Bool.and_eq_true_iff.mp hc).1).1
     simpa using this
    subst hk
    cases h
    exact .inr ⟨rfl,by simp [List.lookup_cons,hx]⟩
   ·rw [if_neg hc] at h
    simp only [List.lookup_cons,hx] at h
    cases h
    exact .inl (by simp [List.lookup_cons,hx])
  | false=>
   have h':(r.map fun (p:Str×NameKind)=>if (p.2==NameKind.free&&env.scope.kind==.function&&env.kindOf p.1==some .cell)=true then (p.1,NameKind.cell) else (p.1,p.2)).lookup x=some k:=by
    by_cases hc:(k'==NameKind.free&&env.scope.kind==.function&&env.kindOf n==some .cell)=true
    ·rw [if_pos hc] at h;simpa only [List.lookup_cons,hx] using h
    ·rw [if_neg hc] at h;simpa only [List.lookup_cons,hx] using h
   rcases dY (scope:=scope) (env:=env) h' with q | ⟨q1,q2⟩
   ·exact .inl (by simpa only [List.lookup_cons,hx] using q)
   ·exact .inr ⟨q1,by simpa only [List.lookup_cons,hx] using q2⟩
theorem jZ {env:Env}{x:Str}:∀ {names:List (Str×NameKind)},names.lookup x=some .free →
  (names.map fun (p:Str×NameKind)=>if (p.2==NameKind.free&&env.scope.kind==.function&&env.kindOf p.1==some .cell)=true then (p.1,NameKind.cell) else (p.1,p.2)).lookup x=some .cell ∨
  (names.map fun (p:Str×NameKind)=>if (p.2==NameKind.free&&env.scope.kind==.function&&env.kindOf p.1==some .cell)=true then (p.1,NameKind.cell) else (p.1,p.2)).lookup x=some .free
 | [],h=>by simp at h
 | (n,k')::r,h=>by
  rw [List.map_cons]
  cases hx:x==n with
  | true=>
   simp only [List.lookup_cons,hx] at h
   cases h
   by_cases hc:(NameKind.free==NameKind.free&&env.scope.kind==.function&&env.kindOf n==some .cell)=true
   ·rw [if_pos hc];exact .inl (by simp [List.lookup_cons,hx])
   ·rw [if_neg hc];exact .inr (by simp [List.lookup_cons,hx])
  | false=>
   have h':r.lookup x=some .free:=by simpa only [List.lookup_cons,hx] using h
   have ih:=jZ (env:=env) h'
   by_cases hc:(k'==NameKind.free&&env.scope.kind==.function&&env.kindOf n==some .cell)=true
   ·rw [if_pos hc];simpa only [List.lookup_cons,hx] using ih
   ·rw [if_neg hc];simpa only [List.lookup_cons,hx] using ih
theorem jM {env:Env}{x:Str}:∀ {names:List (Str×NameKind)},names.lookup x=some .cell →
  (names.map fun (p:Str×NameKind)=>if (p.2==NameKind.free&&env.scope.kind==.function&&env.kindOf p.1==some .cell)=true then (p.1,NameKind.cell) else (p.1,p.2)).lookup x=some .cell
 | [],h=>by simp at h
 | (n,k')::r,h=>by
  rw [List.map_cons]
  cases hx:x==n with
  | true=>
   simp only [List.lookup_cons,hx] at h
   cases h
   rw [if_neg (by simp)]
   simp [List.lookup_cons,hx]
  | false=>
   have ih:=jM (env:=env) (show r.lookup x=some .cell by simpa only [List.lookup_cons,hx] using h)
   split
   ·simpa only [List.lookup_cons,hx] using ih
   ·simpa only [List.lookup_cons,hx] using ih
section
variable {X:Cx}{pins:List (Addr×Obj)}{σ : St}{H:Hp}{s:Shared}{scope:Scope}{x:List Str}{ix:List Nat}{C:Addr}{fp:List Addr}
theorem own_ok (B:iz X scope x ix){y:Str}(hy:y∈x):Loc (relabel scope X.env) y∧(decide (scope.names.lookup y=some .cell)=true∨(relabel scope X.env).names.lookup y=some .local):=by
 rcases B.own y hy with q | q
 ·have:=lookup_relabel_local (env:=X.env) q
  exact ⟨.inl this,.inr this⟩
 ·exact ⟨.inr (jM (env:=X.env) q),.inl (decide_eq_true q)⟩
theorem qp (I:Inv X pins σ H s)(B:iz X scope x ix):∀ y∈scope.names,y.2=NameKind.free→∃ c,X.env.cells.lookup y.1=some c:=fun y hy hk=>I.ok.has y.1 (B.free y hy hk)
theorem cl_old (I:Inv X pins σ H s)(B:iz X scope x ix){y:Str}{c:Addr}(h:(y,c)∈clOf scope X.env):X.env.cells.lookup y=some c:=by
 rcases qD scope.names [] h with q | ⟨q1,q2⟩
 ·exact absurd q (by simp)
 ·obtain ⟨c',e⟩:=qp I B _ q1 rfl
  have e':X.env.cells.lookup y=some c':=e
  have q2':c=(X.env.cells.lookup y).getD 0:=q2
  rw [e',Option.getD_some] at q2'
  rw [e',q2']
theorem jO (I:Inv X pins σ H s)(B:iz X scope x ix){y:Str}{c:Addr}(h:(cellsFrom (C+1) scope.names (clOf scope X.env)).lookup y=some c):X.env.cells.lookup y=some c∨(y,c)∈cellsFrom (C+1) scope.names []:=
 (gj.mp (PySem.mem_of_lookup h)).imp_left (cl_old I B)
theorem Ah {n:Nat}{names:List (Str×NameKind)}{y:Str}{c:Addr}(e:(y,c)∈cellsFrom n names []):n≤c:=by
 have key:∀ (names:List (Str×NameKind)) (n:Nat),(y,c)∈cellsFrom n names []→n≤c:=by
  intro names
  induction names with
  | nil=>intro n h;simp [cellsFrom] at h
  | cons a r ih=>
   intro n h
   obtain ⟨name,kind⟩:=a
   unfold cellsFrom at h
   split at h
   ·rcases gj.mp h with q | q
    ·simp only [List.mem_cons,List.not_mem_nil,or_false,Prod.mk.injEq] at q
     exact Nat.le_of_eq q.2.symm
    ·exact Nat.le_trans (Nat.le_succ n) (ih (n+1) q)
   ·exact ih n h
 exact key names n e
theorem cl_free (B:iz X scope x ix){y:Str}{c:Addr}(hf:scope.names.lookup y=some .free)(h:(y,c)∈cellsFrom (C+1) scope.names []):False:=by
 have:=B.names _ (uq h)
 simp only at this
 rw [hf] at this
 cases this
theorem uX {y:Str}(h:scope.names.lookup y=some .free∨scope.names.lookup y=some .cell):∃ c,(cellsFrom (C+1) scope.names (clOf scope X.env)).lookup y=some c:=by
 rcases h with h | h
 ·obtain ⟨c,hc⟩:=wH (env:=X.env) scope.names [] (.inl (PySem.mem_of_lookup h))
  exact eY (gj.mpr (.inl hc))
 ·obtain ⟨c,hc⟩:=cf_has (n:=C+1) (PySem.mem_of_lookup h)
  exact eY (gj.mpr (.inr hc))
theorem blk_ok (I:Inv X pins σ H s)(B:iz X scope x ix)(hC:s.heap.objs.size≤C)(hf:∀ b∈fp,FpOk X pins H b)(ho:∀ b∈fp,∃ o,s.heap.get? b=some o) :
  (blk X scope (fY X x ix) C s H fp).Ok where
 mod:=I.ok.mod
 kind:=B.kind
 glob:=I.ok.glob
 blt:=I.ok.blt
 above:=hC
 inj:=fun y z c h1 h2=>by
  have far:∀ {y z:Str},X.env.cells.lookup y=some c→(z,c)∈cellsFrom (C+1) scope.names []→False:=fun {y z} e q=>by
   obtain ⟨v,w⟩:=I.cell y c e
   exact absurd (Nat.lt_of_lt_of_le w.lt (Nat.le_trans (Nat.le_trans hC (Nat.le_succ C)) (Ah q))) (Nat.lt_irrefl _)
  rcases jO I B h1 with q1 | q1
  ·rcases jO I B h2 with q2 | q2
   ·exact I.ok.inj y z c q1 q2
   ·exact (far q1 q2).elim
  ·rcases jO I B h2 with q2 | q2
   ·exact (far q2 q1).elim
   ·exact cf_apart q1 q2
 has:=fun y hy=>by
  have hy':(relabel scope X.env).names.lookup y=some .cell∨(relabel scope X.env).names.lookup y=some .free:=hy
  rcases hy' with q | q
  ·rcases dY (scope:=scope) (env:=X.env) q with r | ⟨_,r⟩
   ·exact uX (.inr r)
   ·exact uX (.inl r)
  ·rcases dY (scope:=scope) (env:=X.env) q with r | ⟨r,_⟩
   ·exact uX (.inl r)
   ·cases r
 cab:=fun y c hf h=>by
  have hf':scope.names.lookup y=some .cell:=of_decide_eq_true hf
  rcases gj.mp (PySem.mem_of_lookup h) with q | q
  ·rcases qD scope.names [] q with q | ⟨q1,_⟩
   ·exact absurd q (by simp)
   ·have:=B.names _ q1
    simp only at this
    rw [hf'] at this
    cases this
  ·exact Nat.le_trans (Nat.le_trans hC (Nat.le_succ C)) (Ah q)
 hd:=I.ok.hd
 qt:=I.qt0
 frames:=I.ok.frames
 stk:=.inl rfl
 exf:=fun b hb=>by
  obtain ⟨o,e⟩:=ho b hb
  refine ⟨Nat.ne_of_lt (Nat.lt_of_lt_of_le (Heap.lt_size e) hC),fun y c h=>?_⟩
  rcases jO I B h with q | q
  ·exact (hf b hb).2.2.2.2.1 y c q
  ·intro z
   rw [z] at q
   exact absurd (Nat.lt_of_lt_of_le (Heap.lt_size e) (Nat.le_trans (Nat.le_trans hC (Nat.le_succ C)) (Ah q))) (Nat.lt_irrefl _)
 bs:=I.bs
 bsz:=Nat.le_trans I.ok.bsz I.sz
 noex:=fun b o e hb=>by
  rcases (hf b hb).2.2.2.1 with q | q
  ·exact I.ok.noex b o e q
  ·exact absurd (Nat.lt_of_lt_of_le (Heap.lt_size e) (Nat.le_trans I.ok.bsz q)) (Nat.lt_irrefl _)
 exfs:=fun b hb z=>by
  obtain ⟨_,h1,h2,_⟩:=hf b hb
  rcases List.mem_cons.mp (I.stkSub b z) with e | e
  ·exact h1 e
  ·exact h2 e
 funs:=I.stack
 frf:=I.stkFree
theorem blk_inv {D:Addr}{h1:Heap}{tk:Nat}{m:Str→Option Value}(I:Inv X pins σ H s)(B:iz X scope x ix)(ok:(blk X scope (fY X x ix) C s H fp).Ok)
  (hD:D=s.heap.objs.size) (k:∀ b o,s.heap.get? b=some o→h1.get? b=some o) (hl:h1.get? D=some { cls:=.type "list",data:=.seq #[] }) (hns:h1.Ns C m) (hCD:C≠D) (hC:s.heap.objs.size≤C) (hce:∀ y c,(y,c)∈cellsFrom (C+1) scope.names []→h1.IsCell c none) :
  Inv (blk X scope (fY X x ix) C s H fp) [] (List.replicate x.length none++blkσ ix σ) (upd H D (.lst [])) { s with heap:=h1,toks:=tk } where
 ok:=ok
 os:=rfl
 bare:=I.bare
 base:=Un.laid k (by rw [hD];exact Nat.le_refl _) (I.hok.fresh (by rw [hD];exact Nat.le_refl _))
 loc:=by
  refine ⟨m,hns,fun i y v e1 e2 e3=>?_⟩
  by_cases hix:i<x.length
  ·rw [List.getElem?_append_left (by simpa using hix),List.getElem?_replicate,if_pos hix] at e2
   cases e2
  ·rw [List.getElem?_append_right (by simpa using hix),List.length_replicate] at e2
   have e1':(ix.map fun i=>X.N.getD i "")[i - x.length]?=some y:=by
    have z:(x++ix.map fun i=>X.N.getD i "")[i]?=some y:=e1
    rwa [List.getElem?_append_right (by simpa using hix)] at z
   generalize i - x.length=j at e1' e2
   unfold blkσ at e2
   rw [List.getElem?_map] at e1' e2
   cases hj:ix[j]? with
   | none=>rw [hj] at e2;cases e2
   | some i'=>
    rw [hj] at e1' e2
    simp only [Option.map_some,Option.some.injEq] at e1' e2
    have hi:σ[i']?=some (some v):=by
     cases q:σ[i']? with
     | none=>rw [q] at e2;cases e2
     | some z=>rw [q] at e2;exact congrArg some e2
    have hlt:i'<X.N.length:=by
     have:=(List.getElem?_eq_some_iff.mp hi).1
     rw [I.len] at this
     exact this
    have hn:X.N[i']?=some y:=by
     rw [List.getD_eq_getElem?_getD,List.getElem?_eq_getElem hlt,Option.getD_some] at e1'
     rw [List.getElem?_eq_getElem hlt,e1']
    have hfree:scope.names.lookup y=some .free:=by
     have:=B.ixs i' (List.mem_of_getElem? hj)
     rw [e1'] at this
     exact this
    have kx:=B.free _ (PySem.mem_of_lookup hfree) rfl
    have vis:Vis X.env.scope y:=by
     rcases kx with q | q
     ·exact .inr (.inl q)
     ·exact .inr (.inr q)
    obtain ⟨m',_,hl'⟩:=I.loc
    obtain ⟨u,r,lk⟩:=hl' i' y v hn hi vis
    refine ⟨u,r,?_⟩
    rcases lk with ⟨q,_⟩ | ⟨_,c,hc,hcell⟩
    ·have q':X.env.scope.names.lookup y=some .local:=q
     rcases kx with z | z <;> (rw [q'] at z;cases z)
    ·obtain ⟨c',hc'⟩:=uX (X:=X) (C:=C) (.inl hfree)
     have e:=(jO I B hc').resolve_right fun z=>cl_free B hfree z
     rw [hc] at e
     cases e
     refine .inr ⟨jZ (env:=X.env) hfree,c,hc',?_⟩
     obtain ⟨o,ho,hd⟩:=hcell
     exact ⟨o,k c o ho,hd⟩
 cell:=fun y c h=>by
  rcases jO I B h with q | q
  ·obtain ⟨v,o,ho,hd⟩:=I.cell y c q
   exact ⟨v,o,k c o ho,hd⟩
  ·exact ⟨none,hce y c q⟩
 free:=by
  show upd H D (.lst []) C=none
  rw [aD hCD]
  exact I.hok.fresh hC
 freeC:=fun y c h=>by
  show upd H D (.lst []) c=none
  rcases jO I B h with q | q
  ·obtain ⟨v,o,ho,hd⟩:=I.cell y c q
   rw [aD (by rw [hD];exact Nat.ne_of_lt (Heap.lt_size ho))]
   exact I.freeC y c q
  ·have g:s.heap.objs.size<c:=Nat.lt_of_lt_of_le (Nat.lt_succ_of_le hC) (Ah q)
   rw [aD (by rw [hD];exact Nat.ne_of_gt g)]
   exact I.hok.fresh (Nat.le_of_lt g)
 pin:=fun p hp=>absurd (show p∈([]:List (Addr×Obj)) from hp) (by simp)
 hok:=I.hok.laid k (by rw [hD];exact Nat.le_refl _) ⟨Nat.zero_le _,[],0,.nil,hl⟩
 len:=by
  show (List.replicate x.length none++blkσ ix σ).length=(fY X x ix).length
  simp [blkσ]
theorem blk_out {σ':St}{H':Hp}{s':Shared}{h':Heap}{p':List (Addr×Obj)}(I:Inv X pins σ H s)(hC:s.heap.objs.size≤C)(hf:∀ b∈fp,FpOk X pins H b)(J:Inv (blk X scope (fY X x ix) C s H fp) p' σ' H' s')
  (hs:Heap.SameBut C s'.heap h'):Inv X pins σ H' { s' with heap:=h' }:=by
 have I1:Inv X pins σ H' s':=I.call' (ch:=fp) J.os J.base J.hok J.bare fun b hb=>⟨(hf b hb).2.2.2.1,(hf b hb).2.1,(hf b hb).2.2.2.2.1,(hf b hb).2.2.2.2.2⟩
 refine I1.turned (it:=C) (t':=s'.toks) (fun b o hb e=>(hs.2 b hb).trans e) J.free (Nat.ne_of_gt (Nat.lt_of_lt_of_le I.lt hC)) (.inr (Nat.le_trans I.sz hC)) (fun y c e z=>?_) (fun p hp z=>?_)
 ·obtain ⟨v,q⟩:=I.cell y c e
  exact absurd (Nat.lt_of_lt_of_le q.lt (by rw [z];exact hC)) (Nat.lt_irrefl _)
 ·exact absurd (Nat.lt_of_lt_of_le (Heap.lt_size (I.pin p hp).1) (by rw [z];exact hC)) (Nat.lt_irrefl _)
end
def PIfs (X:Cx)(ifs:List Expr)(t:TT):Prop:=
 ∀ (pins:List (Addr×Obj)) (s:Shared) (σ : St) (H:Hp) (Q:Bool→Hp→Prop),Inv X pins σ H s→t σ H Q →
  wpAny (model X.prog X.w) X.A (forIn ifs true fun c r=>if r=true then do let ok ←isTrue c X.env (eval c X.env);pure (ForInStep.yield ok) else pure (ForInStep.yield r)) (TP X pins σ Q) X.xe s
def tYes:TT:=fun _ H Q=>Q true H
theorem pif_nil {X:Cx}:PIfs X [] tYes:=fun _ _ _ H _ I h=>wpAny_pure ⟨H,I,h⟩
theorem pif_one {X:Cx}{c:Expr}{t:TT}(h:PT X c t):PIfs X [c] t:=fun pins s σ H Q I hq=>by
 rw [List.forIn_cons]
 refine wpAny_bind ?_
 rw [if_pos rfl]
 refine wpAny_bind (thn (h pins s σ H Q I hq) fun b s1 q=>wpAny_pure ?_)
 exact wpAny_pure q
def wLCat (n:Nat)(own:V→Hp→List V→Prop)(ix:List Nat)(tt:TT)(te:TE)(σ : St)(Q:VK)(J:It)(H1:Hp)(D:Addr):Prop:=∃ W:Nat→Nat→List V→Hp→Prop,(∃ m,W 0 m [] (upd H1 D (.lst [])))∧∀ i m ys H,W i m ys H→H D=some (.lst ys) →
 (J.stop i H∧Q (.ref D) H)∨(J.go i H∧ys.length<sizeLine∧∀ x H',J.yld i H x H'→∃ vs,own x H' vs∧vs.length=n∧tt (vs.map some++blkσ ix σ) H' fun b H2=>
  if b=true then te (vs.map some++blkσ ix σ) H2 (fun v H3=>H3 D=some (.lst ys)∧∃ m',m'<m∧W (i+1) m' (ys++[v]) (upd H3 D (.lst (ys++[v]))))
  else H2 D=some (.lst ys)∧∃ m',m'<m∧W (i+1) m' ys H2)
def wLC (n:Nat)(own:V→Hp→List V→Prop)(ix:List Nat)(tt:TT)(te:TE)(σ : St)(Q:VK)(J:It)(H1:Hp):Prop:=∀ D,H1 D=none→wLCat n own ix tt te σ Q J H1 D
def tLC (n:Nat)(own:V→Hp→List V→Prop)(ix:List Nat)(wi:TI)(tt:TT)(te:TE):TE:=fun σ H Q=>wi σ H fun J H1=>wLC n own ix tt te σ Q J H1
def gOwn (n:Nat)(own:V→Hp→List V→Prop):TG:=fun v σ H N=>∃ vs,own v H vs∧vs.length=n∧N (vs.map some++σ.drop n) H
theorem comp_loop {P:Program}{w:World}{A:Around}{R:Result→Shared→Prop}{s:Shared}{elt target iter:Expr}{ifs:List Expr}{scope:Scope}{pos:Pos}{it acc:Value}{env:Env}(Iv:Nat→Shared→Prop)
  (turn:∀ n s,Iv n s→wpAny (model P w) A (pyNext it) (fun r s₁=>match r with
   | none=>R (.ok .next) s₁
   | some v=>wpAny (model P w) A (letOwnedTupleGo target it v) (fun _ t₁=>wpAny (model P w) A (assign target env v) (fun _ s₂=>
     wpAny (model P w) A (forIn ifs true fun c r=>if r=true then do let ok ←isTrue c env (eval c env);pure (ForInStep.yield ok) else pure (ForInStep.yield r)) (fun ok s₃=>
      if ok=true then wpAny (model P w) A (eval elt env) (fun x s₄=>
       wpAny (model P w) A (call (.builtin "list.append") [acc,x]) (fun _ s₅=>∃ m,m<n∧Iv m s₅) (notedBy (model P w) A env fun e s'=>R (.error e) s') s₄) (notedBy (model P w) A env fun e s'=>R (.error e) s') s₃
      else ∃ m,m<n∧Iv m s₃) (notedBy (model P w) A env fun e s'=>R (.error e) s') s₂) (notedBy (model P w) A env fun e s'=>R (.error e) s') t₁) (notedBy (model P w) A env fun e s'=>R (.error e) s') s₁) (notedBy (model P w) A env fun e s'=>R (.error e) s') s)
  (n:Nat) (h:Iv n s):codeAny (model P w) A (.compLoop (.ListComp elt [⟨target,iter,ifs,0⟩] scope pos) 0 it acc env) R s:=by
 refine codeAny_loop rfl Iv (fun n s hI=>?_) n h
 show wpAny _ A ((compTurn (.ListComp elt [⟨target,iter,ifs,0⟩] scope pos) 0 it acc env).onRaise (fun x=>do noteFrame x env;theTreesLotGoes x)) _ _ s
 refine wpAny_noted ?_
 rw [compTurn_list]
 refine wpAny_bind (wpAny_standAt (wpAny_bind (wpAny_mono (turn n s hI) (fun r s₁ k₁=>?_) fun _ _ z=>z)))
 cases r with
 | none=>exact wpAny_pure k₁
 | some v=>
  refine wpAny_bind (wpAny_mono k₁ (fun _ t₁ k₂=>wpAny_bind (wpAny_mono k₂ (fun _ s₂ k₃=>wpAny_bind (wpAny_mono k₃ (fun ok s₃ k₄=>?_) fun _ _ z=>z)) fun _ _ z=>z)) fun _ _ z=>z)
  cases ok with
  | false=>exact wpAny_pure ⟨rfl,k₄⟩
  | true=>exact wpAny_bind (wpAny_bind (wpAny_mono k₄ (fun x s₄ k₅=>wpAny_bind (wpAny_mono k₅ (fun _ s₅ k₆=>wpAny_pure (wpAny_pure ⟨rfl,k₆⟩)) fun _ _ z=>z)) fun _ _ z=>z))
section
variable {X:Cx}{scope:Scope}{x:List Str}{ix:List Nat}{elt iter tg:Expr}{ifs:List Expr}{px pos:Pos}{wi:TI}{tt:TT}{te:TE}{own:V→Hp→List V→Prop}
theorem lc_core {pins:List (Addr×Obj)}{σ : St}{s₂ : Shared}{H2:Hp}{it:Addr}{fp:List Addr}{tn:Nat→Heap→Prop}{J:It}{Q:VK}{E:Value→Shared→Prop}{RR:Value→Addr→Result→Shared→Prop}
  (hc:J.cm=true→X.calm=true) (B:iz X scope x ix) (hg:∀ C s H fp,PG (blk X scope (fY X x ix) C s H fp) tg (gOwn x.length own)) (ht:∀ C s H fp,PIfs (blk X scope (fY X x ix) C s H fp) ifs tt) (he:∀ C s H fp,PE (blk X scope (fY X x ix) C s H fp) elt te)
  (I2:Inv X pins σ H2 s₂) (T:Turn X.prog X.w X.K tg J fp it tn) (st2:tn 0 s₂.heap) (f2:∀ b∈fp,FpOk X pins H2 b) (hq:wLC x.length own ix tt te σ Q J H2)
  (hRR:∀ D C s' σ' H' p',s₂.heap.objs.size≤C→Inv (blk X scope (fY X x ix) C s₂ H2 fp) p' σ' H' s'→Q (.ref D) H'→RR (.ref D) C (.ok .next) s') :
  wpAny (model X.prog X.w) X.A (newList []) (fun acc s₃=>wpAny (model X.prog X.w) X.A (newFunctionEnv scope X.env.globals (clOf scope X.env) [] X.env.qual none .none (some X.env)) (fun cenv s₄=>
   codeAny (model X.prog X.w) X.A (.compStart (.ListComp elt [⟨tg,iter,ifs,0⟩] scope pos) 0 (.ref it) acc { cenv with scope:=relabel scope X.env }) (RR acc cenv.locals) s₄) E s₃) E s₂:=by
 refine wpAny_newObj_type (zZ ?_)
 dsimp only
 generalize hH2:s₂.heap.push { cls:=.type "list",dict:=none,data:=.seq ([]:List Value).toArray }=HH
 generalize hh1:pushCells (HH.push { cls:=.type "dict",data:=.dict #[] }) scope.names=h₁
 have hns₁ : h₁.Ns HH.objs.size (fun _=>none):=by
  obtain ⟨o,es,ep,ho,r⟩:=Heap.Ns.new HH (.type "dict")
  exact ⟨o,es,ep,by rw [←hh1];exact pushCells_keeps _ _ _ _ ho,r⟩
 have hkeep:∀ b o,HH.get? b=some o→h₁.get? b=some o:=fun b o e=>by rw [←hh1];exact pushCells_keeps _ _ _ _ (Heap.get?_push_of_some _ e)
 have hce:∀ y c,(y,c)∈cellsFrom (HH.objs.size+1) scope.names []→h₁.IsCell c none:=fun y c e=>by
  rw [←hh1]
  exact (cf_new (h:=HH.push { cls:=.type "dict",data:=.dict #[] }) (by rw [Heap.size_push];exact e)).1
 have hC:HH.objs.size=s₂.heap.objs.size+1:=by rw [←hH2,Heap.size_push]
 have hDC:s₂.heap.objs.size≠HH.objs.size:=by rw [hC];exact Nat.ne_of_lt (Nat.lt_succ_self _)
 have hCle:s₂.heap.objs.size≤HH.objs.size:=by rw [hC];exact Nat.le_succ _
 have old:∀ b o,s₂.heap.get? b=some o→h₁.get? b=some o:=fun b o e=>hkeep b o (hH2 ▸ Heap.get?_push_of_some _ e)
 have hacc:h₁.get? s₂.heap.objs.size=some { cls:=.type "list",data:=.seq #[] }:=hkeep _ _ (hH2 ▸ Heap.get?_push_size _ rfl)
 have hob:∀ b∈fp,∃ o,s₂.heap.get? b=some o:=fun b hb=>let ⟨o,e,_⟩:=T.obj 0 _ st2 b hb;⟨o,e⟩
 have ok:=blk_ok (C:=HH.objs.size) I2 B hCle f2 hob
 obtain ⟨W,⟨m0,w0⟩,turn⟩:=hq s₂.heap.objs.size (I2.hok.fresh (Nat.le_refl _))
 -- the iterator's records, in the block
 have stat:∀ {H':Hp},(∀ b∈fp,H' b=none)→∀ b∈fp,FpOk (blk X scope (fY X x ix) HH.objs.size s₂ H2 fp) [] H' b:=fun {H'} hn b hb=>by
  obtain ⟨o,e⟩:=hob b hb
  obtain ⟨_,g1,g2,g3,g4,g5⟩:=f2 b hb
  refine ⟨hn b hb,Nat.ne_of_lt (Nat.lt_of_lt_of_le (Heap.lt_size e) hCle),fun z=>?_,.inl hb,fun y c h=>?_,fun p hp=>absurd (show p∈([]:List (Addr×Obj)) from hp) (by simp)⟩
  ·rcases List.mem_cons.mp (I2.stkSub b z) with q | q
   ·exact g1 q
   ·exact g2 q
  ·rcases jO I2 B h with q | q
   ·exact g4 y c q
   ·intro z
    rw [z] at q
    exact absurd (Nat.lt_of_lt_of_le (Heap.lt_size e) (Nat.le_trans (Nat.le_trans hCle (Nat.le_succ _)) (Ah q))) (Nat.lt_irrefl _)
 have loop:∀ s₃ : Shared,s₃ = { s₂ with heap:=h₁ } →
   codeAny (model X.prog X.w) X.A (.compLoop (.ListComp elt [⟨tg,iter,ifs,0⟩] scope pos) 0 (.ref it) (.ref s₂.heap.objs.size) (compEnvC scope (cellsFrom (HH.objs.size+1) scope.names (clOf scope X.env)) HH.objs.size X.env))
    (RR (.ref s₂.heap.objs.size) HH.objs.size) s₃:=by
  rintro s₃ rfl
  have J0:=blk_inv (fp:=fp) (C:=HH.objs.size) (tk:=s₂.toks) I2 B ok rfl old hacc hns₁ (Ne.symm hDC) hCle hce
  have fr0:∀ b∈fp,upd H2 s₂.heap.objs.size (.lst []) b=none:=fun b hb=>by
   obtain ⟨o,e⟩:=hob b hb
   rw [aD (Nat.ne_of_lt (Heap.lt_size e))]
   exact (f2 b hb).1
  refine comp_loop (fun k s'=>∃ i ys H',Inv (blk X scope (fY X x ix) HH.objs.size s₂ H2 fp) [] (List.replicate x.length none++blkσ ix σ) H' s'∧tn i s'.heap∧(∀ b∈fp,H' b=none)∧H' s₂.heap.objs.size=some (.lst ys)∧W i k ys H') ?_ m0
   ⟨0,[],_,J0,T.keep 0 _ _ st2 (fun b _ o e=>old b o e),fr0,aL,w0⟩
  rintro n s₄ ⟨i,ys,H4,I4,st4,fr4,hD4,w4⟩
  rcases turn i n ys H4 w4 hD4 with ⟨stop,qn⟩ | ⟨go,hz,step⟩
  ·refine thn (T.done (blk X scope (fY X x ix) HH.objs.size s₂ H2 fp) rfl rfl rfl hc i [] s₄ _ H4 _ I4 (stat fr4) st4 stop) fun r s5 ⟨hr,I5⟩=>?_
   subst hr
   exact hRR _ _ s5 _ H4 [] hCle I5 qn
  ·refine thn (T.item (blk X scope (fY X x ix) HH.objs.size s₂ H2 fp) rfl rfl rfl hc i [] s₄ _ H4 _ I4 (stat fr4) st4 go) fun r s5 ⟨u,hr,h5⟩=>?_
   subst hr
   refine wpAny_mono h5 (fun _ s6 ⟨xv,H6,I6,r6,y6,st6,fr6⟩=>?_) fun _ _ z=>z
   have I6':=I6.pinned (stat fr6) (T.obj _ _ st6)
   obtain ⟨vs,hov,hvl,q7⟩:=step xv H6 y6
   have fgt:∀ {σ9:St} {H9:Hp} {s9:Shared} {p9:List (Addr×Obj)},σ9.length=x.length→Inv (blk X scope (fY X x ix) HH.objs.size s₂ H2 fp) p9 (σ9++blkσ ix σ) H9 s9→Inv (blk X scope (fY X x ix) HH.objs.size s₂ H2 fp) p9 (List.replicate x.length none++blkσ ix σ) H9 s9:=fun {σ9 H9 s9 p9} hl I9=>
    I9.weak (by simp [hl]) fun k v e=>by
     by_cases hk:k<x.length
     ·rw [List.getElem?_append_left (by simpa using hk),List.getElem?_replicate,if_pos hk] at e
      cases e
     ·rw [List.getElem?_append_right (by simpa using hk),List.length_replicate] at e
      rw [List.getElem?_append_right (by rw [hl];omega),hl]
      exact e
   refine wpAny_mono (hg _ _ _ _ _ s6 _ H6 xv u (fun σ9 H9=>σ9=vs.map some++(List.replicate x.length (none:Option V)++blkσ ix σ).drop x.length∧H9=H6) I6' r6 ⟨vs,hov,hvl,rfl,rfl⟩) (fun _ s7 ⟨σ7,H7,I7,e7,e8⟩=>?_) fun _ _ z=>z.elim
   subst e7 e8
   rw [List.drop_left' (by simp)] at I7
   have hml:(vs.map some).length=x.length:=by rw [List.length_map];exact hvl
   refine wpAny_mono (ht _ _ _ _ _ s7 _ H7 _ I7 q7) (fun b s8 ⟨H8,I8,q8⟩=>?_) fun _ _ z=>z.elim
   have pinned:∀ {H9:Hp} {s9:Shared} {σ9:St},Inv (blk X scope (fY X x ix) HH.objs.size s₂ H2 fp) ([]++qO fp s6.heap) σ9 H9 s9→tn (i+1) s9.heap∧∀ b∈fp,H9 b=none:=fun {H9 s9 σ9} I9=>by
    refine ⟨T.keep _ _ _ st6 fun b hb o e=>(I9.pin (b,o) (List.mem_append_right _ (List.mem_append_right _ (gB hb e)))).1,fun b hb=>?_⟩
    obtain ⟨o,e,d⟩:=T.obj _ _ st6 b hb
    exact (I9.pin (b,o) (List.mem_append_right _ (List.mem_append_right _ (gB hb e)))).2.1
   cases b with
   | false=>
    rw [if_neg Bool.false_ne_true] at q8 ⊢
    obtain ⟨hD8,m',hm,w8⟩:=q8
    obtain ⟨t8,f8⟩:=pinned I8
    exact ⟨m',hm,i+1,ys,H8,fgt hml I8.unpinned,t8,f8,hD8,w8⟩
   | true=>
    rw [if_pos rfl] at q8 ⊢
    refine wpAny_mono (he _ _ _ _ _ s8 _ H8 _ I8 q8) (fun u9 s9 ⟨v9,H9,I9,r9,hD9,m',hm,w9⟩=>?_) fun _ _ z=>z.elim
    refine wpAny_mono (rE (X:=blk X scope (fY X x ix) HH.objs.size s₂ H2 fp) _ s9 _ H9 (.ref s₂.heap.objs.size) [v9] _ [u9] (fun _ H'=>H'=upd H9 s₂.heap.objs.size (.lst (ys++[v9]))) I9 rfl (.cons r9 .nil) ⟨_,ys,v9,rfl,rfl,hD9,hz,rfl⟩) (fun _ s10 ⟨_,H10,I10,_,e10⟩=>?_) fun _ _ z=>z.elim
    subst e10
    obtain ⟨t10,f10⟩:=pinned I10
    exact ⟨m',hm,i+1,ys++[v9],_,fgt hml I10.unpinned,t10,f10,aL,w9⟩
 exact codeAny_compStart_list (loop _ rfl) (T.self _ 0 _ _ _ (T.keep 0 _ _ st2 (fun b _ o e=>old b o e)) (loop _ rfl))
theorem pe_lc (ix:List Nat)(hc:X.calm=true)(B:iz X scope x ix)(hg:∀ C s H fp,PG (blk X scope (fY X x ix) C s H fp) tg (gOwn x.length own))(hi:PI X tg iter wi)(ht:∀ C s H fp,PIfs (blk X scope (fY X x ix) C s H fp) ifs tt)(he:∀ C s H fp,PE (blk X scope (fY X x ix) C s H fp) elt te)
  (hs:∀ v,foldedSetIterable iter X.env v=pure v:=by intro _;rfl):PE X (.ListComp elt [⟨tg,iter,ifs,0⟩] scope pos) (tLC x.length own ix wi tt te):=by
 intro pins s σ H Q I h
 rw [eval_ListComp]
 refine wpAny_comprehension_free (use:=none) rfl hs (clos_of (qp I B)) B.kind (fun y hy hk=>by rw [B.names y hy,hk]) ?_
 refine thn (hi pins s σ H _ I h) fun v s1 h1=>thn h1 fun itv s2 h2=>?_
 obtain ⟨it,fp,tn,J,H2,e,I2,T,st2,f2,hq⟩:=h2
 subst e
 refine lc_core (RR:=fun acc C=>compPost (model X.prog X.w) X.A X.xe none (EP X pins σ Q) acc C) (fun _=>hc) B hg ht he I2 T st2 f2 hq fun D C s' σ' H' p' hC I' q'=>?_
 obtain ⟨m,hn,_⟩:=I'.loc
 exact ⟨m,hn,fun h' hs'=>⟨.ref D,H',blk_out I2 hC f2 I' hs',rfl,q'⟩⟩
theorem ps_lc (ix:List Nat){i:Nat}{y:Str}{py spos:Pos}(hN:X.N.Nodup)(hi':X.N[i]?=some y)(hy:Loc X.env.scope y)(hc:X.calm=true)(B:iz X scope x ix)(hg:∀ C s H fp,PG (blk X scope (fY X x ix) C s H fp) tg (gOwn x.length own))(hi:PI X tg iter wi)
  (ht:∀ C s H fp,PIfs (blk X scope (fY X x ix) C s H fp) ifs tt) (he:∀ C s H fp,PE (blk X scope (fY X x ix) C s H fp) elt te)
  (hsw:swapsWith (.ListComp elt [⟨tg,iter,ifs,0⟩] scope pos) (some (.Name y py)) spos.line X.env=pure true:=by rfl)
  (hf:X.fn y=true∨X.env.scope.names.lookup y=some .local:=by first | exact .inl rfl | exact .inr rfl | assumption)
  (hs:∀ v,foldedSetIterable iter X.env v=pure v:=by intro _;rfl):PS X (.Assign [.Name y py] (.ListComp elt [⟨tg,iter,ifs,0⟩] scope pos) spos) (tAsg (tLC x.length own ix wi tt te) (zJ i)):=by
 intro pins s σ H D I h
 rw [exec_Assign_Name_used _ _ _ _ hsw]
 refine wpAny_bind (wpAny_standAt (wpAny_bind ?_))
 show wpAny _ X.A (do let _ ←comprehension (.ListComp elt [⟨tg,iter,ifs,0⟩] scope pos) scope X.env _ (newList []) false (eval iter X.env) (some (assign (.Name y py) X.env))) _ _ s
 refine wpAny_bind (wpAny_mono (wpAny_comprehension_free (use:=some (assign (.Name y py) X.env)) (Q:=fun _ s'=>SP X pins D .next s') rfl hs (clos_of (qp I B)) B.kind (fun y hy hk=>by rw [B.names y hy,hk]) ?_) (fun _ s' hq=>wpAny_pure (wpAny_pure hq)) fun _ _ e=>e)
 refine thn (hi pins s σ H _ I h) fun v s1 h1=>thn h1 fun itv s2 h2=>?_
 obtain ⟨it,fp,tn,J,H2,e,I2,T,st2,f2,hq⟩:=h2
 subst e
 refine lc_core (RR:=fun acc C=>compPost (model X.prog X.w) X.A X.xe (some (assign (.Name y py) X.env)) (fun _ s'=>SP X pins D .next s') acc C) (fun _=>hc) B hg ht he I2 T st2 f2 hq fun D' C s' σ' H' p' hC I' q'=>?_
 obtain ⟨m,hn,_⟩:=I'.loc
 have I3:Inv X pins σ H' s':=blk_out (h':=s'.heap) I2 hC f2 I' (.refl ..)
 show wpAny _ X.A (assign (.Name y py) X.env (.ref D')) _ _ s'
 have cneC:∀ z c,X.env.cells.lookup z=some c→c≠C:=fun z c e q=>by
  obtain ⟨v,w⟩:=I2.cell z c e
  exact absurd (Nat.lt_of_lt_of_le w.lt (by rw [q];exact hC)) (Nat.lt_irrefl _)
 have lneC:X.env.locals≠C:=Nat.ne_of_lt (Nat.lt_of_lt_of_le I2.lt hC)
 refine wpAny_assign_Name (sG (v:=.ref D') I3 hN hi' hy rfl (fun s'' I'' hsb=>?_) hf)
 obtain ⟨a,hsb,ha⟩:=hsb
 have haC:C≠a:=by
  rcases ha with rfl | ha
  ·exact Ne.symm lneC
  ·exact Ne.symm (cneC _ _ ha)
 refine ⟨m,hn.sameBut hsb haC,fun h' hs'=>⟨_,H',?_,q'⟩⟩
 refine I''.turned (it:=C) (t':=s''.toks) (fun b o hb e=>(hs'.2 b hb).trans e) I'.free (Ne.symm lneC) (.inr (Nat.le_trans I2.sz hC)) cneC (fun p hp z=>?_)
 exact absurd (Nat.lt_of_lt_of_le (Heap.lt_size (I2.pin p hp).1) (by rw [z];exact hC)) (Nat.lt_irrefl _)
end
end L2
namespace L2
open PySem PySem.Spec PyProof.Rows
def Sm (n:Nat)(i:Int):Prop:=i.natAbs<2^n
theorem Sm.bits {n:Nat}{i:Int}(h:Sm n i):Builtin.Int.intBits i≤n:=by
 unfold Builtin.Int.intBits
 by_cases e:i=0
 ·subst e;exact Nat.zero_le _
 ·have e':(i==0)=false:=beq_eq_false_iff_ne.mpr e
  rw [e']
  have h0:i.natAbs≠0:=by omega
  have:=(Nat.log2_lt h0).mpr h
  simp only [Bool.false_eq_true,if_false]
  omega
theorem Sm.mono {m n:Nat}{i:Int}(h:Sm m i)(hmn:m≤n):Sm n i:=Nat.lt_of_lt_of_le h (Nat.pow_le_pow_right (by decide) hmn)
theorem Sm.mul {m n:Nat}{i j:Int}(h:Sm m i)(h':Sm n j):Sm (m+n) (i*j):=by
 unfold Sm at *
 rw [Int.natAbs_mul,Nat.pow_add]
 by_cases e:j.natAbs=0
 ·rw [e,Nat.mul_zero]
  exact Nat.mul_pos (Nat.pow_pos (by decide)) (Nat.pow_pos (by decide))
 ·exact Nat.lt_of_lt_of_le (Nat.mul_lt_mul_of_pos_right h (Nat.pos_of_ne_zero e)) (Nat.mul_le_mul_left _ (Nat.le_of_lt h'))
theorem Sm.add {m n:Nat}{i j:Int}(h:Sm m i)(h':Sm n j):Sm (max m n+1) (i+j):=by
 have h1:=h.mono (Nat.le_max_left m n)
 have h2:=h'.mono (Nat.le_max_right m n)
 unfold Sm at *
 rw [Nat.pow_succ]
 omega
theorem Sm.neg {n:Nat}{i:Int}(h:Sm n i):Sm n (-i):=by unfold Sm at *;rw [Int.natAbs_neg];exact h
theorem Sm.sub {m n:Nat}{i j:Int}(h:Sm m i)(h':Sm n j):Sm (max m n+1) (i - j):=by
 rw [Int.sub_eq_add_neg];exact h.add h'.neg
theorem Sm.zero {n:Nat}:Sm n 0:=Nat.pow_pos (by decide)
theorem sm_of {n:Nat}{i:Int}(h1:-(2^n:Int)<i)(h2:i<(2^n:Int)):Sm n i:=by
 unfold Sm
 have e:((2^n:Nat):Int)=(2:Int)^n:=by simp
 omega
theorem Sm.le {n:Nat}{i j:Int}(h:Sm n i)(hj:j.natAbs≤i.natAbs):Sm n j:=Nat.lt_of_le_of_lt hj h
def qb (i j:Int):Prop:=∃ m n,m≤1000000∧n≤1000000∧Sm m i∧Sm n j
theorem qb.ok {i j:Int}(h:qb i j):IntMulOk i j:=by
 obtain ⟨m,n,hm,hn,h1,h2⟩:=h
 have e:(2:Nat)^20=1048576:=by decide
 exact .of_bits (by have:=h1.bits;omega) (by have:=h2.bits;omega)
def CDivBN (_ j:Int):Prop:=j≠0∧∃ n,n≤8000∧Sm n j
theorem sm_log2 {n:Nat}{j:Int}(hn:n≤8000)(h:Sm n j):j.natAbs.log2<9000:=by
 by_cases e:j.natAbs=0
 ·rw [e];decide
 ·have:=(Nat.log2_lt e).mpr h
  omega
section
variable {X:Cx}
theorem op_mulB:OpR X (binaryOp .Mult) (rI qb fun i j=>.int (i*j)):=opI fun _ _ _ _ _ _ _ hc q=>mul_int q hc.ok
theorem zm:OpR X (binaryOp .FloorDiv) (rI CDivBN fun i j=>.int (i.fdiv j)):=opI fun i j _ _ _ _ _ hc q=>by
 obtain ⟨h1,n,hn,h2⟩:=hc
 exact floordiv_int h1 q (.inl (PyProof.noPylong_of_log2 (sm_log2 hn h2)))
theorem rG:∀ {bs:List Bool} {its:List Value} {i:Nat} {v:Value},Vals (bs.map V.bl) its→its[i]?=some v→∃ b,bs[i]?=some b∧v=.bool b
 | [],_,_,_,.nil,e=>by simp at e
 | b::bs,_,0,_,.cons r _,e=>by simp at e;subst e;exact ⟨b,rfl,r⟩
 | _::bs,_,i+1,v,.cons _ t,e=>by
  obtain ⟨b,h1,h2⟩:=rG (i:=i) (v:=v) t (by simpa using e)
  exact ⟨b,by simpa using h1,h2⟩
theorem yd:∀ (bs:List Bool),((List.range bs.length).all fun i=>(bs[i]?).getD true)=bs.all id:=fun bs=>by
 rw [Bool.eq_iff_iff,List.all_eq_true,List.all_eq_true]
 constructor
 ·intro h b hb
  obtain ⟨i,hi,rfl⟩:=List.mem_iff_getElem.mp hb
  have:=h i (List.mem_range.mpr hi)
  simpa [hi] using this
 ·intro h i hi
  have hi':=List.mem_range.mp hi
  have:=h bs[i] (List.getElem_mem hi')
  simpa [hi'] using this
theorem call_allB (hc:X.calm=true):fu X (.builtin "all") (fun xs H Q=>∃ (p:Addr) (bs:List Bool),xs=[.ref p]∧SqL X.K H p (bs.map V.bl)∧Q (.bl (bs.all id)) H):=by
 intro pins s σ H xs us Q I r h
 obtain ⟨p,bs,rfl,hS,q⟩:=h
 obtain ⟨u,rfl,ru⟩:=vals1 r
 cases ru
 obtain ⟨its,rv,pl,hz⟩:=I.list hS
 have hlen:its.length=bs.length:=by rw [←rv.length,List.length_map]
 have hl:=pl.isList
 have hlt:p<s.heap.objs.size:=by obtain ⟨_,e,_⟩:=hl;exact Heap.lt_size e
 refine call_all_walk (wpAny_pyIter_list hl ?_)
 refine ⟨s.heap.objs.size,[s.heap.objs.size,p],[s.heap.objs.size],its.toArray.size,_,_,fun i=>(bs[i]?).getD true,rfl,Walks.list (A:=X.A.in1) (I.ok.hd hc) _ p (Nat.ne_of_lt hlt) its.toArray,
  ⟨⟨_,Heap.get?_push_size _ rfl,rfl,rfl⟩,hl.push _⟩,fun i v s' Q' E' hP hQ=>?_,fun h' tk hk=>?_⟩
 ·obtain ⟨b,e,rfl⟩:=rG rv (by simpa using hP)
  simp only [e,Option.getD_some] at hQ
  exact wpAny_truthy_bool hQ
 ·have e:((List.range its.toArray.size).all fun i=>(bs[i]?).getD true)=bs.all id:=by
   rw [List.size_toArray,hlen];exact yd bs
  rw [e]
  refine ⟨.bl (bs.all id),H,I.kept (h':=h') (t':=tk) (fun b x e=>?_),rfl,q⟩
  exact hk b x (fun hm=>by rw [List.mem_singleton.mp hm] at e;exact Nat.lt_irrefl _ (Heap.lt_size e)) (Heap.get?_push_of_some _ e)
def isiV (K:PySem.W.Frag)(H:Hp):V→String→Bool→Prop
 | .int _,T,b=>(T = "int"∧b=true)∨(T = "bool"∧b=false)∨(T = "tuple"∧b=false)∨(T = "list"∧b=false)
 | .bl _,T,b=>(T = "int"∧b=true)∨(T = "bool"∧b=true)∨(T = "tuple"∧b=false)∨(T = "list"∧b=false)
 | .str _,T,b=>(T = "int"∧b=false)∨(T = "bool"∧b=false)∨(T = "tuple"∧b=false)∨(T = "list"∧b=false)
 | .non,T,b=>(T = "int"∧b=false)∨(T = "bool"∧b=false)∨(T = "tuple"∧b=false)∨(T = "list"∧b=false)
 | .ref p,T,b=>(∃ xs,SqT K H p xs∧((T = "int"∧b=false)∨(T = "bool"∧b=false)∨(T = "tuple"∧b=true)∨(T = "list"∧b=false))) ∨
   (∃ xs,SqL K H p xs∧((T = "int"∧b=false)∨(T = "bool"∧b=false)∨(T = "tuple"∧b=false)∨(T = "list"∧b=true)))
 | _,_,_=>False
theorem call_isi:fu X (.builtin "isinstance") (fun xs H Q=>∃ x T b,xs=[x,.ty T]∧isiV X.K H x T b∧Q (.bl b) H):=by
 intro pins s σ H xs us Q I r h
 obtain ⟨x,T,b,rfl,hi,q⟩:=h
 obtain ⟨u,w',rfl,rx,ru⟩:=vals2 r
 cases ru
 have k0:EP X pins σ Q (.bool b) s:=⟨.bl b,H,I,rfl,q⟩
 have k1:EP X pins σ Q (.bool b) { s with toks:=s.toks+1 }:=⟨.bl b,H,I.tok _,rfl,q⟩
 cases x with
 | int i=>
  obtain ⟨t,rfl⟩:=rx
  rcases hi with ⟨rfl,rfl⟩ | ⟨rfl,rfl⟩ | ⟨rfl,rfl⟩ | ⟨rfl,rfl⟩
  ·exact IsiPair.int_int k0
  ·exact IsiPair.int_bool k1
  ·exact IsiPair.int_tuple k1
  ·exact IsiPair.int_list k1
 | bl i=>
  cases rx
  rcases hi with ⟨rfl,rfl⟩ | ⟨rfl,rfl⟩ | ⟨rfl,rfl⟩ | ⟨rfl,rfl⟩
  ·first | exact IsiPair.bool_int k0 | exact IsiPair.bool_int k1
  ·first | exact IsiPair.bool_bool k0 | exact IsiPair.bool_bool k1
  ·exact IsiPair.bool_tuple k1
  ·exact IsiPair.bool_list k1
 | str i=>
  obtain ⟨t,rfl⟩:=rx
  rcases hi with ⟨rfl,rfl⟩ | ⟨rfl,rfl⟩ | ⟨rfl,rfl⟩ | ⟨rfl,rfl⟩
  ·exact IsiPair.str_int k1
  ·exact IsiPair.str_bool k1
  ·exact IsiPair.str_tuple k1
  ·exact IsiPair.str_list k1
 | non=>
  cases rx
  rcases hi with ⟨rfl,rfl⟩ | ⟨rfl,rfl⟩ | ⟨rfl,rfl⟩ | ⟨rfl,rfl⟩
  ·exact IsiPair.NoneType_int k1
  ·exact IsiPair.NoneType_bool k1
  ·exact IsiPair.NoneType_tuple k1
  ·exact IsiPair.NoneType_list k1
 | ref p=>
  cases rx
  rcases hi with ⟨xs,hS,hi⟩ | ⟨xs,hS,hi⟩
  ·obtain ⟨its,_,⟨o,e,c,_⟩,_⟩:=I.tuple hS
   rcases hi with ⟨rfl,rfl⟩ | ⟨rfl,rfl⟩ | ⟨rfl,rfl⟩ | ⟨rfl,rfl⟩
   ·exact IsiPair.tuple_int e c k1
   ·exact IsiPair.tuple_bool e c k1
   ·exact IsiPair.tuple_tuple e c k0
   ·exact IsiPair.tuple_list e c k1
  ·obtain ⟨its,_,pl,_⟩:=I.list hS
   obtain ⟨o,e,c,_⟩:=pl.isList
   rcases hi with ⟨rfl,rfl⟩ | ⟨rfl,rfl⟩ | ⟨rfl,rfl⟩ | ⟨rfl,rfl⟩
   ·exact IsiPair.list_int e c k1
   ·exact IsiPair.list_bool e c k1
   ·exact IsiPair.list_tuple e c k1
   ·exact IsiPair.list_list e c k0
 | _=>exact (show False from hi).elim
end
end L2
namespace L2
open PySem PySem.Spec PyProof.Rows
inductive W where
 | non | bl (b:Bool) | int (i:Int) | str (x:Str) | ty (n:String) | tup (ws:List W) | lst (ws:List W) | loc (n:Nat) | kls (ws:List W) | exc (n:Str)
 /-- an exception with attributes -/
 | exa (n:Str) (ws:List W)
inductive Cell where
 | lst (ws:List W) | obj (C:Addr) (fs:List (Str×W)) | dct (kvs:List (Key×W))
 /-- a dict whose keys are tuples of ints -/
 | dtt (kvs:List (List Int×W))
structure Gh where
 nx:Nat
 c:Nat→Option Cell
structure Mu where
 f:Nat→Option Addr
 hid:Addr→Prop
def KLst (K:PySem.W.Frag)(p:Addr)(xs:List V):Prop:=
 ∃ (o:Obj) (its:Array Value) (n:Nat),K.lookup p=some o∧o.cls=.type "list"∧o.dict=none∧o.data=.seq its n∧its.size≤sizeLine∧Vals xs its.toList
def Frz (H:Hp)(μ : Mu)(p:Addr)(xs:List V):Prop:=H p=some (.lst xs)∧(∀ n,μ.f n≠some p)∧¬ μ.hid p
def Frk (K:PySem.W.Frag)(H:Hp)(p:Addr)(xs:List V):Prop:=(∃ o,H p=some (.frz o (.lst xs)))∨KLst K p xs
theorem Frz.sq {K:PySem.W.Frag}{H:Hp}{μ : Mu}{p:Addr}{xs:List V}(h:Frz H μ p xs):SqL K H p xs:=.inl (.inl h.1)
theorem Frk.sq {K:PySem.W.Frag}{H:Hp}{p:Addr}{xs:List V}(h:Frk K H p xs):SqL K H p xs:=by
 rcases h with h | h
 ·exact .inl (.inr h)
 ·exact .inr h
def vmB:List Value:=[.type "ValueError",.type "Exception",.type "BaseException",.type "object"]
def lQ (K:PySem.W.Frag)(C:Addr)(n:Str):Bool:=PySem.W.nsIn K mainGlobals n==some (some (.ref C))&&PySem.W.typeIn K (.ref C)==some (.type "type")&&match PySem.W.clsIn K C with
 | some cd=>cd.name==n&&cd.mro.contains (.type "BaseException")
 | none=>false
def o9 (K:PySem.W.Frag)(C:Addr)(n:Str):Bool:=lQ K C n&&(match PySem.W.clsIn K C with
 | some cd=>(match cd.mro with
  | [.ref C',.ref R,a,b,c,d]=>C'==C&&[a,b,c,d]==vmB&&PySem.W.nsIn K mainGlobals "EaselError"==some (some (.ref R))&&(PySem.W.clsIn K R).any (fun c=>c.name==("EaselError" : Str))
  | _=>false)
 | none=>false)&&PySem.W.findIn K (.ref C) "__getattribute__"==some (some (.builtin "BaseException.__getattribute__"))&&PySem.W.findIn K (.ref C) "__getattr__"==some none&&PySem.W.findIn K (.ref C) "__class__"==some (some (.builtin "object.__class__"))&&PySem.W.specialIn K (.builtin "object.__class__") "__get__"==some (some (.builtin "getset_descriptor.__get__"))
 && PySem.W.takesIn K (.builtin "object.__class__")==some true
def tM (n:Str):List Str:=if n = "Apart" then ["word", "places"] else ["at"]
def xaIn (K:PySem.W.Frag)(C:Addr)(n:Str):Bool:=o9 K C n&&PySem.W.hasDictIn K C&&(tM n).all fun f=>PySem.W.findIn K (.ref C) f==some none
def Xoa (K:PySem.W.Frag)(o:Obj)(n:Str)(dd:Addr):Prop:=∃ C,o.cls=.ref C∧o.dict=some dd∧PySem.W.notCls o=true∧xaIn K C n=true
def Xob (K:PySem.W.Frag)(o:Obj)(n:Str):Prop:=∃ C,o.cls=.ref C∧o.dict=none∧PySem.W.notCls o=true∧o9 K C n=true
mutual
def Rep (K:PySem.W.Frag)(H:Hp)(μ : Mu):W→V→Prop
 | .non,v=>v=.non
 | .bl b,v=>v=.bl b
 | .int i,v=>v=.int i
 | .str x,v=>v=.str x
 | .ty n,v=>v=.ty n
 | .tup ws,v=>∃ p xs,v=.ref p∧SqT K H p xs∧aJ K H μ ws xs
 | .lst ws,v=>∃ p xs,v=.ref p∧Frz H μ p xs∧aJ K H μ ws xs
 | .kls ws,v=>∃ p xs,v=.ref p∧Frk K H p xs∧aJ K H μ ws xs
 | .loc n,v=>∃ p,v=.ref p∧μ.f n=some p
 | .exc n,v=>∃ p o u,v=.ref p∧H p=some (.frz o u)∧Xob K o n
 | .exa n ws,v=>∃ p o u dd ns xs,v=.ref p∧H p=some (.frz o u)∧Xoa K o n dd∧H dd=some (.xd (List.zip ns xs))∧ns=tM n∧ns.length=xs.length∧aJ K H μ ws xs
def aJ (K:PySem.W.Frag)(H:Hp)(μ : Mu):List W→List V→Prop
 | [],xs=>xs=[]
 | w::ws,xs=>∃ v vs,xs=v::vs∧Rep K H μ w v∧aJ K H μ ws vs
end
section
variable {K:PySem.W.Frag}{H H' H1 H2:Hp}{μ μ' μ1 μ2:Mu}{h h':Gh}{w:W}{ws:List W}{v:V}{xs:List V}
theorem aJ.len:∀ {ws:List W} {xs:List V},aJ K H μ ws xs→ws.length=xs.length
 | [],xs,h=>by
  have e:xs=[]:=by rw [aJ] at h;exact h
  rw [e];rfl
 | w::ws,xs,h=>by
  rw [aJ] at h
  obtain ⟨v,vs,e,_,h⟩:=h
  rw [e,List.length_cons,List.length_cons,aJ.len h]
theorem aJ.get:∀ {ws:List W} {xs:List V} {i:Nat} {w:W},aJ K H μ ws xs→ws[i]?=some w→∃ v,xs[i]?=some v∧Rep K H μ w v
 | [],_,_,_,_,e=>by simp at e
 | a::ws,xs,0,w,h,e=>by
  rw [aJ] at h
  obtain ⟨v,vs,e1,r,_⟩:=h
  simp at e;subst e;subst e1
  exact ⟨v,rfl,r⟩
 | a::ws,xs,i+1,w,h,e=>by
  rw [aJ] at h
  obtain ⟨v,vs,e1,_,h⟩:=h
  subst e1
  obtain ⟨u,h1,h2⟩:=aJ.get (i:=i) (w:=w) h (by simpa using e)
  exact ⟨u,by simpa using h1,h2⟩
theorem aJ.nil:aJ K H μ [] []:=by rw [aJ]
theorem aJ.cons (r:Rep K H μ w v)(h:aJ K H μ ws xs):aJ K H μ (w::ws) (v::xs):=by
 rw [aJ];exact ⟨v,xs,rfl,r,h⟩
theorem aJ.append:∀ {ws:List W} {xs:List V} {us:List W} {ys:List V},aJ K H μ ws xs→aJ K H μ us ys→aJ K H μ (ws++us) (xs++ys)
 | [],xs,us,ys,h,g=>by
  rw [aJ] at h;subst h;exact g
 | w::ws,xs,us,ys,h,g=>by
  rw [aJ] at h
  obtain ⟨v,vs,e,r,h⟩:=h
  subst e
  exact aJ.cons r (aJ.append h g)
theorem aJ.one (r:Rep K H μ w v):aJ K H μ [w] [v]:=aJ.cons r aJ.nil
theorem aJ.set (r:Rep K H μ w v):∀ {ws:List W} {xs:List V} (i:Nat),aJ K H μ ws xs→aJ K H μ (ws.set i w) (xs.set i v)
 | [],xs,i,h=>by rw [aJ] at h;subst h;exact aJ.nil
 | a::ws,xs,0,h=>by
  rw [aJ] at h
  obtain ⟨u,vs,e,_,h⟩:=h
  subst e
  exact aJ.cons r h
 | a::ws,xs,i+1,h=>by
  rw [aJ] at h
  obtain ⟨u,vs,e,q,h⟩:=h
  subst e
  exact aJ.cons q (aJ.set r i h)
theorem aJ.take:∀ {ws:List W} {xs:List V} (n:Nat),aJ K H μ ws xs→aJ K H μ (ws.take n) (xs.take n)
 | _,_,0,_=>by simp only [List.take_zero];exact aJ.nil
 | [],xs,n+1,h=>by rw [aJ] at h;subst h;exact aJ.nil
 | a::ws,xs,n+1,h=>by
  rw [aJ] at h
  obtain ⟨u,vs,e,q,h⟩:=h
  subst e
  exact aJ.cons q (aJ.take n h)
theorem aJ.drop:∀ {ws:List W} {xs:List V} (n:Nat),aJ K H μ ws xs→aJ K H μ (ws.drop n) (xs.drop n)
 | _,_,0,h=>h
 | [],xs,n+1,h=>by rw [aJ] at h;subst h;exact aJ.nil
 | a::ws,xs,n+1,h=>by
  rw [aJ] at h
  obtain ⟨u,vs,e,q,h⟩:=h
  subst e
  exact aJ.drop n h
structure Ex0 (K:PySem.W.Frag) (H:Hp) (μ : Mu) (H':Hp) (μ':Mu):Prop where
 t:∀ p xs,SqT K H p xs→SqT K H' p xs
 l:∀ p xs,Frz H μ p xs→Frz H' μ' p xs
 k:∀ p xs,Frk K H p xs→Frk K H' p xs
 m:∀ n p,μ.f n=some p→μ'.f n=some p
 x:∀ p o u,H p=some (.frz o u)→H' p=some (.frz o u)
 y:∀ p fs,H p=some (.xd fs)→H' p=some (.xd fs)
structure Ex (K:PySem.W.Frag) (H:Hp) (μ : Mu) (H':Hp) (μ':Mu):Prop extends Ex0 K H μ H' μ' where
 o:∀ p u,μ.hid p→H p=some u→μ'.hid p∧H' p=some u
mutual
theorem Rep.ex (e:Ex0 K H μ H' μ'):∀ {w:W} {v:V},Rep K H μ w v→Rep K H' μ' w v
 | .non,_,h=>by rw [Rep] at h ⊢;exact h
 | .bl _,_,h=>by rw [Rep] at h ⊢;exact h
 | .int _,_,h=>by rw [Rep] at h ⊢;exact h
 | .str _,_,h=>by rw [Rep] at h ⊢;exact h
 | .ty _,_,h=>by rw [Rep] at h ⊢;exact h
 | .tup ws,_,h=>by
  rw [Rep] at h ⊢
  obtain ⟨p,xs,e1,hs,hr⟩:=h
  exact ⟨p,xs,e1,e.t _ _ hs,aJ.ex e hr⟩
 | .lst ws,_,h=>by
  rw [Rep] at h ⊢
  obtain ⟨p,xs,e1,hs,hr⟩:=h
  exact ⟨p,xs,e1,e.l _ _ hs,aJ.ex e hr⟩
 | .kls ws,_,h=>by
  rw [Rep] at h ⊢
  obtain ⟨p,xs,e1,hs,hr⟩:=h
  exact ⟨p,xs,e1,e.k _ _ hs,aJ.ex e hr⟩
 | .loc n,_,h=>by
  rw [Rep] at h ⊢
  obtain ⟨p,e1,hm⟩:=h
  exact ⟨p,e1,e.m _ _ hm⟩
 | .exc n,_,h=>by
  rw [Rep] at h ⊢
  obtain ⟨p,o,u,e1,hm,hx⟩:=h
  exact ⟨p,o,u,e1,e.x _ _ _ hm,hx⟩
 | .exa n ws,_,h=>by
  rw [Rep] at h ⊢
  obtain ⟨p,o,u,dd,ns,xs,e1,hm,hx,hd,e2,e3,hr⟩:=h
  exact ⟨p,o,u,dd,ns,xs,e1,e.x _ _ _ hm,hx,e.y _ _ hd,e2,e3,aJ.ex e hr⟩
theorem aJ.ex (e:Ex0 K H μ H' μ'):∀ {ws:List W} {xs:List V},aJ K H μ ws xs→aJ K H' μ' ws xs
 | [],_,h=>by rw [aJ] at h ⊢;exact h
 | w::ws,_,h=>by
  rw [aJ] at h ⊢
  obtain ⟨v,vs,e1,r,h⟩:=h
  exact ⟨v,vs,e1,Rep.ex e r,aJ.ex e h⟩
end
structure Ext (K:PySem.W.Frag) (H:Hp) (μ : Mu) (H':Hp) (μ':Mu):Prop where
 r:∀ w v,Rep K H μ w v→Rep K H' μ' w v
 o:∀ p u,μ.hid p→H p=some u→μ'.hid p∧H' p=some u
theorem Ext.refl:Ext K H μ H μ:=⟨fun _ _ h=>h,fun _ _ h g=>⟨h,g⟩⟩
theorem Ext.trans (a:Ext K H μ H1 μ1)(b:Ext K H1 μ1 H2 μ2):Ext K H μ H2 μ2:=
 ⟨fun w v h=>b.r w v (a.r w v h),fun p u h g=>let ⟨h1,g1⟩:=a.o p u h g;b.o p u h1 g1⟩
theorem Ex.ext (e:Ex K H μ H' μ'):Ext K H μ H' μ':=⟨fun _ _ h=>Rep.ex e.toEx0 h,e.o⟩
theorem Ext.s (e:Ext K H μ H' μ'):∀ {ws:List W} {xs:List V},aJ K H μ ws xs→aJ K H' μ' ws xs
 | [],_,h=>by rw [aJ] at h ⊢;exact h
 | w::ws,_,h=>by
  rw [aJ] at h ⊢
  obtain ⟨v,vs,e1,r,h⟩:=h
  exact ⟨v,vs,e1,e.r _ _ r,Ext.s e h⟩
def MutO:Option HO→Prop
 | some (.lst _)=>True
 | some (.dK _)=>True
 | some (.ins _ _ _)=>True
 | some (.ext _)=>True
 | _=>False
def jW {κ : Type}(K:PySem.W.Frag)(H:Hp)(μ : Mu):List (κ×W)→List (κ×V)→Prop:=Paired fun (p:κ×W) (q:κ×V)=>p.1=q.1∧Rep K H μ p.2 q.2
def entI (x:List Int×Addr×Value):DictEntry:=⟨reduceHash (Builtin.Tuple.tupleHashOf (x.1.map hashInt)),.ref x.2.1,x.2.2⟩
def DicT (a:Addr)(xs:List (List Int×Addr×Value))(h:Heap):Prop:=xs.length≤sizeLine∧(a==sysModules)=false∧(xs.map (·.1)).Nodup∧∃ o es ep,h.get? a=some o∧o.ExactDict∧o.data=.dict es ep∧es.toList=xs.map entI
def ou (K:PySem.W.Frag)(H:Hp)(μ : Mu)(p:Addr):Cell→Prop
 | .lst ws=>∃ xs,H p=some (.lst xs)∧aJ K H μ ws xs
 | .obj C fs=>∃ dx fvs,H p=some (.ins C dx fvs)∧jW K H μ fs fvs
 | .dct kvs=>∃ kvv,H p=some (.dK kvv)∧jW K H μ kvs kvv
 | .dtt kvs=>∃ xs vs,H p=some (.ext (DicT p xs))∧kvs.map (·.1)=xs.map (·.1)∧Vals vs (xs.map (·.2.2))∧aJ K H μ (kvs.map fun x=>W.tup (x.1.map W.int)) (xs.map fun x=>V.ref x.2.1)∧aJ K H μ (kvs.map (·.2)) vs
structure Rel (K:PySem.W.Frag) (μ : Mu) (H:Hp) (h:Gh):Prop where
 inj:∀ m n p,μ.f m=some p→μ.f n=some p→m=n
 dom:∀ n p,μ.f n=some p→n<h.nx
 trk:∀ n p,μ.f n=some p→MutO (H p)
 cel:∀ n c,h.c n=some c→∃ p,μ.f n=some p∧ou K H μ p c
 hd:∀ p,μ.hid p→(∃ xs,H p=some (.lst xs))∧∀ n,μ.f n≠some p
theorem ou.ext {p:Addr}{c:Cell}(e:Ext K H μ H' μ')(hp:H' p=H p)(x:ou K H μ p c):ou K H' μ' p c:=by
 cases c with
 | lst ws=>obtain ⟨xs,a,b⟩:=x;exact ⟨xs,hp.trans a,e.s b⟩
 | obj C fs=>obtain ⟨dx,fvs,a,b⟩:=x;exact ⟨dx,fvs,hp.trans a,Paired.mapP b fun _ _ z=>⟨z.1,e.r _ _ z.2⟩⟩
 | dct kvs=>obtain ⟨kvv,a,b⟩:=x;exact ⟨kvv,hp.trans a,Paired.mapP b fun _ _ z=>⟨z.1,e.r _ _ z.2⟩⟩
 | dtt kvs=>obtain ⟨xs,vs,a,b,c,d,f⟩:=x;exact ⟨xs,vs,hp.trans a,b,c,e.s d,e.s f⟩
theorem Rd.laid {p q:Addr}{o u:HO}(hp:H p=none)(r:Rd H q u):Rd (upd H p o) q u:=by
 have ne:q≠p:=by
  rcases r with r | ⟨_,r⟩
  ·exact aM r hp
  ·exact aM r hp
 unfold Rd
 rw [aD ne]
 exact r
theorem Ex.laid {p:Addr}{o:HO}(hp:H p=none):Ex K H μ (upd H p o) μ where
 t:=fun q xs h=>by
  rcases h with h | h
  ·exact .inl (h.laid hp)
  ·exact .inr h
 l:=fun q xs h=>⟨by rw [aD (aM h.1 hp)];exact h.1,h.2⟩
 k:=fun q xs h=>by
  rcases h with ⟨o',h⟩ | h
  ·exact .inl ⟨o',by rw [aD (aM h hp)];exact h⟩
  ·exact .inr h
 m:=fun _ _ h=>h
 x:=fun q o' u e=>by rw [aD (aM e hp)];exact e
 y:=fun q fs e=>by rw [aD (aM e hp)];exact e
 o:=fun q u z e=>⟨z,by rw [aD (aM e hp)];exact e⟩
theorem Rel.laid {p:Addr}{o:HO}(R:Rel K μ H h)(hp:H p=none):Rel K μ (upd H p o) h where
 inj:=R.inj
 dom:=R.dom
 trk:=fun n q e=>by
  have:=R.trk n q e
  have ne:q≠p:=fun z=>by subst z;rw [hp] at this;exact this
  rw [aD ne];exact this
 cel:=fun n c e=>by
  obtain ⟨q,e1,x⟩:=R.cel n c e
  have:=R.trk n q e1
  have ne:q≠p:=fun z=>by subst z;rw [hp] at this;exact this
  exact ⟨q,e1,x.ext (Ex.laid hp).ext (aD ne)⟩
 hd:=fun q z=>by
  obtain ⟨⟨xs,e⟩,g⟩:=R.hd q z
  exact ⟨⟨xs,by rw [aD (aM e hp)];exact e⟩,g⟩
theorem Rep.tupNew {p:Addr}(hp:H p=none)(r:aJ K H μ ws xs):Rep K (upd H p (.tup xs)) μ (.tup ws) (.ref p):=by
 rw [Rep]
 exact ⟨p,xs,rfl,SqT.of aL,(Ex.laid hp).ext.s r⟩
theorem Rep.lstNew {p:Addr}(R:Rel K μ H h)(hp:H p=none)(r:aJ K H μ ws xs):Rep K (upd H p (.lst xs)) μ (.lst ws) (.ref p):=by
 rw [Rep]
 refine ⟨p,xs,rfl,⟨aL,fun n e=>?_,fun z=>?_⟩,(Ex.laid hp).ext.s r⟩
 ·have:=R.trk n p e
  rw [hp] at this
  exact this
 ·obtain ⟨⟨xs,e⟩,_⟩:=R.hd p z
  rw [hp] at e
  cases e
def Mu.put (μ : Mu)(n:Nat)(p:Addr):Mu:=⟨fun m=>if m=n then some p else μ.f m,μ.hid⟩
theorem Mu.put_same {n:Nat}{p:Addr}:(μ.put n p).f n=some p:=by show (if n=n then some p else μ.f n)=_;rw [if_pos rfl]
theorem Mu.put_ne {m n:Nat}{p:Addr}(e:m≠n):(μ.put n p).f m = μ.f m:=by show (if m=n then some p else μ.f m)=_;rw [if_neg e]
def Gh.new (h:Gh)(c:Cell):Gh:=⟨h.nx+1,fun m=>if m=h.nx then some c else h.c m⟩
def Gh.set (h:Gh)(n:Nat)(c:Cell):Gh:=⟨h.nx,fun m=>if m=n then some c else h.c m⟩
theorem Rel.dead (R:Rel K μ H h){n:Nat}(hn:h.nx≤n):μ.f n=none:=by
 cases e:μ.f n with
 | none=>rfl
 | some p=>exact absurd (R.dom n p e) (by omega)
theorem Ex.newCell {p:Addr}{o:HO}(R:Rel K μ H h)(hp:H p=none):Ex K H μ (upd H p o) (μ.put h.nx p) where
 t:=fun q xs z=>(Ex.laid (μ:=μ) hp).t q xs z
 l:=fun q xs z=>by
  have nq:=aM z.1 hp
  refine ⟨by rw [aD nq];exact z.1,fun n e=>?_,z.2.2⟩
  by_cases hn:n=h.nx
  ·subst hn
   rw [Mu.put_same] at e
   exact nq (Option.some.inj e).symm
  ·rw [Mu.put_ne hn] at e
   exact z.2.1 n e
 k:=fun q xs z=>(Ex.laid (μ:=μ) hp).k q xs z
 m:=fun n q e=>by
  have hn:n≠h.nx:=fun z=>by subst z;rw [R.dead (Nat.le_refl _)] at e;cases e
  rw [Mu.put_ne hn];exact e
 x:=fun q o' u e=>by rw [aD (aM e hp)];exact e
 y:=fun q fs e=>by rw [aD (aM e hp)];exact e
 o:=fun q u z e=>⟨z,by rw [aD (aM e hp)];exact e⟩
theorem Rel.newCell {p:Addr}{o:HO}{c:Cell}(R:Rel K μ H h)(hp:H p=none)(mo:MutO (some o))(ck:ou K (upd H p o) (μ.put h.nx p) p c):Rel K (μ.put h.nx p) (upd H p o) (h.new c) where
 inj:=fun m n q em en=>by
  by_cases hm:m=h.nx
  ·by_cases hn:n=h.nx
   ·rw [hm,hn]
   ·rw [hm,Mu.put_same] at em
    rw [Mu.put_ne hn] at en
    have e:p=q:=Option.some.inj em
    subst e
    have:=R.trk n _ en
    rw [hp] at this
    exact this.elim
  ·rw [Mu.put_ne hm] at em
   by_cases hn:n=h.nx
   ·rw [hn,Mu.put_same] at en
    have e:p=q:=Option.some.inj en
    subst e
    have:=R.trk m _ em
    rw [hp] at this
    exact this.elim
   ·rw [Mu.put_ne hn] at en
    exact R.inj m n q em en
 dom:=fun n q e=>by
  show n<h.nx+1
  by_cases hn:n=h.nx
  ·omega
  ·rw [Mu.put_ne hn] at e
   have:=R.dom n q e
   omega
 trk:=fun n q e=>by
  by_cases hn:n=h.nx
  ·rw [hn,Mu.put_same] at e
   have e:p=q:=Option.some.inj e
   subst e
   rw [aL];exact mo
  ·rw [Mu.put_ne hn] at e
   have:=R.trk n q e
   have ne:q≠p:=fun z=>by subst z;rw [hp] at this;exact this
   rw [aD ne];exact this
 cel:=fun n d e=>by
  have e:(if n=h.nx then some c else h.c n)=some d:=e
  by_cases hn:n=h.nx
  ·rw [if_pos hn] at e
   have e:c=d:=Option.some.inj e
   subst e
   exact ⟨p,by rw [hn,Mu.put_same],ck⟩
  ·rw [if_neg hn] at e
   obtain ⟨q,e1,x⟩:=R.cel n d e
   have:=R.trk n q e1
   have ne:q≠p:=fun z=>by subst z;rw [hp] at this;exact this
   exact ⟨q,by rw [Mu.put_ne hn];exact e1,x.ext (Ex.newCell R hp).ext (aD ne)⟩
 hd:=fun q z=>by
  obtain ⟨⟨xs,e⟩,g⟩:=R.hd q z
  have ne:=aM e hp
  refine ⟨⟨xs,by rw [aD ne];exact e⟩,fun n en=>?_⟩
  by_cases hn:n=h.nx
  ·rw [hn,Mu.put_same] at en
   exact ne (Option.some.inj en).symm
  ·rw [Mu.put_ne hn] at en
   exact g n en
theorem Rd.kept {p q:Addr}{o u:HO}(mo:MutO (H p))(r:Rd H q u)(hn:q≠p):Rd (upd H p o) q u:=by
 unfold Rd
 rw [aD hn]
 exact r
theorem Ex.write {n:Nat}{p:Addr}{o:HO}(R:Rel K μ H h)(hn:μ.f n=some p):Ex K H μ (upd H p o) μ where
 t:=fun q xs z=>by
  rcases z with z | z
  ·refine .inl (z.kept (R.trk n p hn) fun e=>?_)
   subst e
   have:=R.trk n q hn
   rcases z with r | ⟨_,r⟩ <;> rw [r] at this <;> exact this
  ·exact .inr z
 l:=fun q xs z=>⟨by rw [aD (fun e=>z.2.1 n (by rw [e];exact hn))];exact z.1,z.2⟩
 k:=fun q xs z=>by
  rcases z with ⟨o',z⟩ | z
  ·refine .inl ⟨o',?_⟩
   rw [aD (fun e=>?_)]
   ·exact z
   ·subst e
    have:=R.trk n q hn
    rw [z] at this
    exact this
  ·exact .inr z
 m:=fun _ _ e=>e
 x:=fun q o' u e=>by
  rw [aD (fun y=>?_)]
  ·exact e
  ·subst y
   have:=R.trk n q hn
   rw [e] at this
   exact this
 y:=fun q fs e=>by
  rw [aD (fun y=>?_)]
  ·exact e
  ·subst y
   have:=R.trk n q hn
   rw [e] at this
   exact this
 o:=fun q u z e=>⟨z,by rw [aD (fun y=>(R.hd q z).2 n (by rw [y];exact hn))];exact e⟩
theorem Rel.write {n:Nat}{p:Addr}{o:HO}{c:Cell}(R:Rel K μ H h)(hn:μ.f n=some p)(mo:MutO (some o))(ck:ou K (upd H p o) μ p c):Rel K μ (upd H p o) (h.set n c) where
 inj:=R.inj
 dom:=R.dom
 trk:=fun m q e=>by
  by_cases z:q=p
  ·subst z;rw [aL];exact mo
  ·rw [aD z];exact R.trk m q e
 cel:=fun m d e=>by
  have e:(if m=n then some c else h.c m)=some d:=e
  by_cases hm:m=n
  ·rw [if_pos hm] at e
   have e:c=d:=Option.some.inj e
   subst e
   exact ⟨p,by rw [hm];exact hn,ck⟩
  ·rw [if_neg hm] at e
   obtain ⟨q,e1,x⟩:=R.cel m d e
   have ne:q≠p:=fun z=>by subst z;exact hm (R.inj m n q e1 hn)
   exact ⟨q,e1,x.ext (Ex.write R hn).ext (aD ne)⟩
 hd:=fun q z=>by
  obtain ⟨⟨xs,e⟩,g⟩:=R.hd q z
  exact ⟨⟨xs,by rw [aD (fun y=>g n (by rw [y];exact hn))];exact e⟩,g⟩
mutual
def Lo (k:Nat):W→Prop
 | .tup ws=>Los k ws
 | .lst ws=>Los k ws
 | .kls ws=>Los k ws
 | .exa _ ws=>Los k ws
 | .loc n=>n<k
 | _=>True
def Los (k:Nat):List W→Prop
 | []=>True
 | w::ws=>Lo k w∧Los k ws
end
mutual
theorem Rep.lo {k:Nat}(hd:∀ n p,μ.f n=some p→n<k):∀ {w:W} {v:V},Rep K H μ w v→Lo k w
 | .non,_,_=>by rw [Lo] <;> first | trivial | (intros;contradiction)
 | .bl _,_,_=>by rw [Lo] <;> first | trivial | (intros;contradiction)
 | .int _,_,_=>by rw [Lo] <;> first | trivial | (intros;contradiction)
 | .str _,_,_=>by rw [Lo] <;> first | trivial | (intros;contradiction)
 | .ty _,_,_=>by rw [Lo] <;> first | trivial | (intros;contradiction)
 | .exc _,_,_=>by rw [Lo] <;> first | trivial | (intros;contradiction)
 | .exa _ ws,_,h=>by
  rw [Rep] at h
  obtain ⟨_,_,_,_,_,_,_,_,_,_,_,_,hr⟩:=h
  rw [Lo]
  exact aJ.lo hd hr
 | .tup ws,_,h=>by
  rw [Rep] at h
  obtain ⟨p,xs,_,_,hr⟩:=h
  rw [Lo]
  exact aJ.lo hd hr
 | .lst ws,_,h=>by
  rw [Rep] at h
  obtain ⟨p,xs,_,_,hr⟩:=h
  rw [Lo]
  exact aJ.lo hd hr
 | .kls ws,_,h=>by
  rw [Rep] at h
  obtain ⟨p,xs,_,_,hr⟩:=h
  rw [Lo]
  exact aJ.lo hd hr
 | .loc n,_,h=>by
  rw [Rep] at h
  obtain ⟨p,_,hm⟩:=h
  rw [Lo]
  exact hd n p hm
theorem aJ.lo {k:Nat}(hd:∀ n p,μ.f n=some p→n<k):∀ {ws:List W} {xs:List V},aJ K H μ ws xs→Los k ws
 | [],_,_=>by rw [Los];trivial
 | w::ws,_,h=>by
  rw [aJ] at h
  obtain ⟨v,vs,_,r,h⟩:=h
  rw [Los]
  exact ⟨Rep.lo hd r,aJ.lo hd h⟩
end
def Mu.cut (μ : Mu)(k:Nat):Mu:=⟨fun n=>if n<k then μ.f n else none,μ.hid⟩
theorem Mu.cut_some {k n:Nat}{p:Addr}(e:(μ.cut k).f n=some p):n<k∧μ.f n=some p:=by
 have e:(if n<k then μ.f n else none)=some p:=e
 by_cases hn:n<k
 ·rw [if_pos hn] at e;exact ⟨hn,e⟩
 ·rw [if_neg hn] at e;cases e
mutual
theorem Rep.cut {k:Nat}:∀ {w:W} {v:V},Rep K H μ w v→Lo k w→Rep K H (μ.cut k) w v
 | .non,_,h,_=>by rw [Rep] at h ⊢;exact h
 | .bl _,_,h,_=>by rw [Rep] at h ⊢;exact h
 | .int _,_,h,_=>by rw [Rep] at h ⊢;exact h
 | .str _,_,h,_=>by rw [Rep] at h ⊢;exact h
 | .ty _,_,h,_=>by rw [Rep] at h ⊢;exact h
 | .exc _,_,h,_=>by rw [Rep] at h ⊢;exact h
 | .exa _ ws,_,h,l=>by
  rw [Rep] at h ⊢
  rw [Lo] at l
  obtain ⟨p,o,u,dd,ns,xs,e1,hm,hx,hd,e2,e3,hr⟩:=h
  exact ⟨p,o,u,dd,ns,xs,e1,hm,hx,hd,e2,e3,aJ.cut hr l⟩
 | .tup ws,_,h,l=>by
  rw [Rep] at h ⊢
  rw [Lo] at l
  obtain ⟨p,xs,e1,hs,hr⟩:=h
  exact ⟨p,xs,e1,hs,aJ.cut hr l⟩
 | .lst ws,_,h,l=>by
  rw [Rep] at h ⊢
  rw [Lo] at l
  obtain ⟨p,xs,e1,hs,hr⟩:=h
  exact ⟨p,xs,e1,⟨hs.1,fun n e=>hs.2.1 n (Mu.cut_some e).2,hs.2.2⟩,aJ.cut hr l⟩
 | .kls ws,_,h,l=>by
  rw [Rep] at h ⊢
  rw [Lo] at l
  obtain ⟨p,xs,e1,hs,hr⟩:=h
  exact ⟨p,xs,e1,hs,aJ.cut hr l⟩
 | .loc n,_,h,l=>by
  rw [Rep] at h ⊢
  rw [Lo] at l
  obtain ⟨p,e1,hm⟩:=h
  refine ⟨p,e1,?_⟩
  show (if n<k then μ.f n else none)=some p
  rw [if_pos l]
  exact hm
theorem aJ.cut {k:Nat}:∀ {ws:List W} {xs:List V},aJ K H μ ws xs→Los k ws→aJ K H (μ.cut k) ws xs
 | [],_,h,_=>by rw [aJ] at h ⊢;exact h
 | w::ws,_,h,l=>by
  rw [aJ] at h ⊢
  rw [Los] at l
  obtain ⟨v,vs,e1,r,h⟩:=h
  exact ⟨v,vs,e1,Rep.cut r l.1,aJ.cut h l.2⟩
end
end
end L2
namespace L2
open PySem PySem.Spec PyProof.Rows
section
variable {K:PySem.W.Frag}{H H' H1 H2:Hp}{μ μ' μ1 μ2:Mu}{h h':Gh}{w:W}{ws:List W}{v:V}{xs ys:List V}{p:Addr}
def Mu.hide (μ : Mu)(p:Addr):Mu:=⟨μ.f,fun q=>q=p∨μ.hid q⟩
def Mu.unhide (μ : Mu)(p:Addr):Mu:=⟨μ.f,fun q=>q≠p∧μ.hid q⟩
structure ExtX (p:Addr) (K:PySem.W.Frag) (H:Hp) (μ : Mu) (H':Hp) (μ':Mu):Prop where
 r:∀ w v,Rep K H μ w v→Rep K H' μ' w v
 o:∀ q u,q≠p→μ.hid q→H q=some u→μ'.hid q∧H' q=some u
theorem Ext.x (a:Ext K H μ H1 μ1)(hp:¬ μ.hid p)(b:ExtX p K H1 μ1 H2 μ2):Ext K H μ H2 μ2:=
 ⟨fun w v z=>b.r w v (a.r w v z),fun q u z e=>let ⟨z1,e1⟩:=a.o q u z e;b.o q u (fun y=>hp (by rw [←y];exact z)) z1 e1⟩
theorem Ext.hide {o:HO}(hp:H p=none):Ext K H μ (upd H p o) (μ.hide p):=Ex.ext {
 t:=fun q xs z=>(Ex.laid (μ:=μ) hp).t q xs z
 l:=fun q xs z=>by
  have nq:=aM z.1 hp
  refine ⟨by rw [aD nq];exact z.1,z.2.1,fun y=>?_⟩
  rcases y with y | y
  ·exact nq y
  ·exact z.2.2 y
 k:=fun q xs z=>(Ex.laid (μ:=μ) hp).k q xs z
 m:=fun _ _ e=>e
 x:=fun q o' u e=>by rw [aD (aM e hp)];exact e
 y:=fun q fs e=>by rw [aD (aM e hp)];exact e
 o:=fun q u z e=>⟨.inr z,by rw [aD (aM e hp)];exact e⟩ }
theorem Rel.nohid (R:Rel K μ H h)(hp:H p=none):¬ μ.hid p:=fun z=>by
 obtain ⟨⟨xs,e⟩,_⟩:=R.hd p z
 rw [hp] at e;cases e
theorem Rel.hide (R:Rel K μ H h)(hp:H p=none):Rel K (μ.hide p) (upd H p (.lst xs)) h where
 inj:=R.inj
 dom:=R.dom
 trk:=(R.laid hp).trk
 cel:=fun n c e=>by
  obtain ⟨q,e1,x⟩:=R.cel n c e
  have:=R.trk n q e1
  have ne:q≠p:=fun z=>by subst z;rw [hp] at this;exact this
  exact ⟨q,e1,x.ext (Ext.hide hp) (aD ne)⟩
 hd:=fun q z=>by
  rcases z with z | z
  ·subst z
   refine ⟨⟨xs,aL⟩,fun n e=>?_⟩
   have:=R.trk n q e
   rw [hp] at this
   exact this
  ·exact (R.laid (o:=.lst xs) hp).hd q z
theorem Ex0.grow (R:Rel K μ H h)(hp:μ.hid p):Ex0 K H μ (upd H p (.lst ys)) μ where
 t:=fun q xs z=>by
  rcases z with z | z
  ·refine .inl ?_
   unfold Rd
   rw [aD (fun y=>?_)]
   ·exact z
   ·subst y
    obtain ⟨⟨xs',e⟩,_⟩:=R.hd q hp
    rcases z with r | ⟨_,r⟩ <;> rw [e] at r <;> cases r
  ·exact .inr z
 l:=fun q xs z=>⟨by rw [aD (fun y=>z.2.2 (by rw [y];exact hp))];exact z.1,z.2⟩
 k:=fun q xs z=>by
  rcases z with ⟨o',z⟩ | z
  ·refine .inl ⟨o',?_⟩
   rw [aD (fun y=>?_)]
   ·exact z
   ·subst y
    obtain ⟨⟨xs',e⟩,_⟩:=R.hd q hp
    rw [e] at z
    cases z
  ·exact .inr z
 m:=fun _ _ e=>e
 x:=fun q o' u e=>by
  rw [aD (fun y=>?_)]
  ·exact e
  ·subst y
   obtain ⟨⟨xs',e'⟩,_⟩:=R.hd q hp
   rw [e'] at e
   cases e
 y:=fun q fs e=>by
  rw [aD (fun y=>?_)]
  ·exact e
  ·subst y
   obtain ⟨⟨xs',e'⟩,_⟩:=R.hd q hp
   rw [e'] at e
   cases e
theorem ExtX.grow (R:Rel K μ H h)(hp:μ.hid p):ExtX p K H μ (upd H p (.lst ys)) μ:=
 ⟨fun _ _ z=>Rep.ex (Ex0.grow R hp) z,fun q u ne z e=>⟨z,by rw [aD ne];exact e⟩⟩
theorem Rel.grow (R:Rel K μ H h)(hp:μ.hid p):Rel K μ (upd H p (.lst ys)) h where
 inj:=R.inj
 dom:=R.dom
 trk:=fun n q e=>by
  have ne:q≠p:=fun z=>(R.hd p hp).2 n (by rw [←z];exact e)
  rw [aD ne];exact R.trk n q e
 cel:=fun n c e=>by
  obtain ⟨q,e1,x⟩:=R.cel n c e
  have ne:q≠p:=fun z=>(R.hd p hp).2 n (by rw [←z];exact e1)
  refine ⟨q,e1,?_⟩
  cases c with
  | lst ws=>obtain ⟨xs,a,b⟩:=x;exact ⟨xs,(aD ne).trans a,aJ.ex (Ex0.grow R hp) b⟩
  | obj C fs=>obtain ⟨dx,fvs,a,b⟩:=x;exact ⟨dx,fvs,(aD ne).trans a,Paired.mapP b fun _ _ z=>⟨z.1,Rep.ex (Ex0.grow R hp) z.2⟩⟩
  | dct kvs=>obtain ⟨kvv,a,b⟩:=x;exact ⟨kvv,(aD ne).trans a,Paired.mapP b fun _ _ z=>⟨z.1,Rep.ex (Ex0.grow R hp) z.2⟩⟩
  | dtt kvs=>obtain ⟨xs,vs,a,b,c,d,f⟩:=x;exact ⟨xs,vs,(aD ne).trans a,b,c,aJ.ex (Ex0.grow R hp) d,aJ.ex (Ex0.grow R hp) f⟩
 hd:=fun q z=>by
  by_cases e:q=p
  ·subst e;exact ⟨⟨ys,aL⟩,(R.hd q hp).2⟩
  ·rw [aD e];exact R.hd q z
theorem Ex0.unhide:Ex0 K H μ H (μ.unhide p) where
 t:=fun _ _ z=>z
 l:=fun q xs z=>⟨z.1,z.2.1,fun y=>z.2.2 y.2⟩
 k:=fun _ _ z=>z
 m:=fun _ _ e=>e
 x:=fun _ _ _ e=>e
 y:=fun _ _ e=>e
theorem ExtX.unhide:ExtX p K H μ H (μ.unhide p):=⟨fun _ _ z=>Rep.ex Ex0.unhide z,fun q u ne z e=>⟨⟨ne,z⟩,e⟩⟩
theorem Rel.unhide (R:Rel K μ H h):Rel K (μ.unhide p) H h where
 inj:=R.inj
 dom:=R.dom
 trk:=R.trk
 cel:=fun n c e=>by
  obtain ⟨q,e1,x⟩:=R.cel n c e
  refine ⟨q,e1,?_⟩
  cases c with
  | lst ws=>obtain ⟨xs,a,b⟩:=x;exact ⟨xs,a,aJ.ex Ex0.unhide b⟩
  | obj C fs=>obtain ⟨dx,fvs,a,b⟩:=x;exact ⟨dx,fvs,a,Paired.mapP b fun _ _ z=>⟨z.1,Rep.ex Ex0.unhide z.2⟩⟩
  | dct kvs=>obtain ⟨kvv,a,b⟩:=x;exact ⟨kvv,a,Paired.mapP b fun _ _ z=>⟨z.1,Rep.ex Ex0.unhide z.2⟩⟩
  | dtt kvs=>obtain ⟨xs,vs,a,b,c,d,f⟩:=x;exact ⟨xs,vs,a,b,c,aJ.ex Ex0.unhide d,aJ.ex Ex0.unhide f⟩
 hd:=fun q z=>R.hd q z.2
theorem Rep.built (R:Rel K μ H h)(hp:μ.hid p)(e:H p=some (.lst xs))(r:aJ K H μ ws xs):Rep K H (μ.unhide p) (.lst ws) (.ref p):=by
 rw [Rep]
 exact ⟨p,xs,rfl,⟨e,(R.hd p hp).2,fun z=>z.1 rfl⟩,aJ.ex Ex0.unhide r⟩
end
abbrev Sw:=List (Option W)
abbrev WK:=W→Gh→Prop
abbrev ME:=Sw→Gh→WK→Prop
abbrev MT:=Sw→Gh→(Bool→Gh→Prop)→Prop
abbrev MA:=Sw→Gh→(List W→Gh→Prop)→Prop
structure bF where
 nx:Sw→Gh→Prop
 rt:WK
 bk:Sw→Gh→Prop:=fun _ _=>False
 ct:Sw→Gh→Prop:=fun _ _=>False
abbrev MS:=bF→Sw→Gh→Prop
abbrev MG:=W→Sw→Gh→(Sw→Gh→Prop)→Prop
abbrev MGs:=List W→Sw→Gh→(Sw→Gh→Prop)→Prop
structure Xw where
 cls:Str
 fs:List (Str×W)
abbrev XWK:=Xw→Gh→Prop
abbrev MSp:=List W→Gh→WK→XWK→Prop
def EF:XWK:=fun _ _=>False
structure Slots (K:PySem.W.Frag) (H:Hp) (μ : Mu) (σw:Sw) (σ : St):Prop where
 len:σw.length = σ.length
 get:∀ (i:Nat) (w:W),σw[i]?=some (some w)→∃ v,σ[i]?=some (some v)∧Rep K H μ w v
def DQ (K:PySem.W.Frag)(H:Hp)(μ : Mu)(Q:WK):VK:=fun v H'=>∃ μ' w h',Ext K H μ H' μ'∧Rel K μ' H' h'∧Rep K H' μ' w v∧Q w h'
def DB (K:PySem.W.Frag)(H:Hp)(μ : Mu)(Q:Bool→Gh→Prop):Bool→Hp→Prop:=fun b H'=>∃ μ' h',Ext K H μ H' μ'∧Rel K μ' H' h'∧Q b h'
def DA (K:PySem.W.Frag)(H:Hp)(μ : Mu)(Q:List W→Gh→Prop):List V→Hp→Prop:=fun vs H'=>∃ μ' ws h',Ext K H μ H' μ'∧Rel K μ' H' h'∧aJ K H' μ' ws vs∧Q ws h'
def DN (K:PySem.W.Frag)(H:Hp)(μ : Mu)(N:Sw→Gh→Prop):St→Hp→Prop:=fun σ' H'=>∃ μ' σw' h',Ext K H μ H' μ'∧Rel K μ' H' h'∧Slots K H' μ' σw' σ'∧N σw' h'
section
variable {K:PySem.W.Frag}{H H' H1 H2:Hp}{μ μ' μ1 μ2:Mu}{h h' h1:Gh}{w:W}{v:V}{σ : St}{σw:Sw}
theorem Slots.ext (S:Slots K H μ σw σ)(e:Ext K H μ H' μ'):Slots K H' μ' σw σ:=⟨S.len,fun i w q=>let ⟨v,a,b⟩:=S.get i w q;⟨v,a,e.r _ _ b⟩⟩
theorem Slots.set (S:Slots K H μ σw σ)(r:Rep K H μ w v)(i:Nat):Slots K H μ (σw.set i (some w)) (σ.set i (some v)):=by
 refine ⟨by rw [List.length_set,List.length_set,S.len],fun j u q=>?_⟩
 rw [List.getElem?_set] at q ⊢
 by_cases hij:i=j
 ·rw [if_pos hij] at q ⊢
  by_cases hl:i < σw.length
  ·rw [if_pos hl] at q
   rw [if_pos (by rw [←S.len];exact hl)]
   have e:w=u:=by injection q with q;injection q
   subst e
   exact ⟨v,rfl,r⟩
  ·rw [if_neg hl] at q;cases q
 ·rw [if_neg hij] at q ⊢
  exact S.get j u q
theorem DQ.trans {Q:WK}(e:Ext K H μ H1 μ1)(q:DQ K H1 μ1 Q v H'):DQ K H μ Q v H':=let ⟨μ',w,h',a,b⟩:=q;⟨μ',w,h',e.trans a,b⟩
theorem DB.trans {Q:Bool→Gh→Prop}{b:Bool}(e:Ext K H μ H1 μ1)(q:DB K H1 μ1 Q b H'):DB K H μ Q b H':=let ⟨μ',h',a,b⟩:=q;⟨μ',h',e.trans a,b⟩
theorem DN.trans {N:Sw→Gh→Prop}{σ':St}(e:Ext K H μ H1 μ1)(q:DN K H1 μ1 N σ' H'):DN K H μ N σ' H':=let ⟨μ',w,h',a,b⟩:=q;⟨μ',w,h',e.trans a,b⟩
end
def tD (K:PySem.W.Frag)(m:ME):TE:=fun σ H Q=>∃ μ h σw Qw,Rel K μ H h∧Slots K H μ σw σ∧m σw h Qw∧∀ v H',DQ K H μ Qw v H'→Q v H'
def tDT (K:PySem.W.Frag)(m:MT):TT:=fun σ H Q=>∃ μ h σw Qw,Rel K μ H h∧Slots K H μ σw σ∧m σw h Qw∧∀ b H',DB K H μ Qw b H'→Q b H'
def tDA (K:PySem.W.Frag)(m:MA):TA:=fun σ H Q=>∃ μ h σw Qw,Rel K μ H h∧Slots K H μ σw σ∧m σw h Qw∧∀ vs H',DA K H μ Qw vs H'→Q vs H'
def tDG (K:PySem.W.Frag)(g:MG):TG:=fun v σ H N=>∃ μ h σw w Nw,Rel K μ H h∧Slots K H μ σw σ∧Rep K H μ w v∧g w σw h Nw∧∀ σ' H',DN K H μ Nw σ' H'→N σ' H'
def tDGs (K:PySem.W.Frag)(g:MGs):TGs:=fun vs σ H N=>∃ μ h σw ws Nw,Rel K μ H h∧Slots K H μ σw σ∧aJ K H μ ws vs∧g ws σw h Nw∧∀ σ' H',DN K H μ Nw σ' H'→N σ' H'
structure qP (K:PySem.W.Frag) (H:Hp) (μ : Mu) (Dw:bF) (D:Ends):Prop where
 nx:∀ σ' H',DN K H μ Dw.nx σ' H'→D.nx σ' H'
 rt:∀ v H',DQ K H μ Dw.rt v H'→D.rt v H'
 bk:∀ σ' H',DN K H μ Dw.bk σ' H'→D.bk σ' H'
 ct:∀ σ' H',DN K H μ Dw.ct σ' H'→D.ct σ' H'
def tDS (K:PySem.W.Frag)(m:MS):TS:=fun D σ H=>∃ μ h σw Dw,Rel K μ H h∧Slots K H μ σw σ∧m Dw σw h∧qP K H μ Dw D
theorem qP.trans {K:PySem.W.Frag}{H H1:Hp}{μ μ1:Mu}{Dw:bF}{D:Ends}(k:qP K H μ Dw D)(e:Ext K H μ H1 μ1):qP K H1 μ1 Dw D:=
 ⟨fun _ _ q=>k.nx _ _ (q.trans e),fun _ _ q=>k.rt _ _ (q.trans e),fun _ _ q=>k.bk _ _ (q.trans e),fun _ _ q=>k.ct _ _ (q.trans e)⟩
section
variable {X:Cx}{e:Expr}{es:List Expr}{st:Stmt}{sts:List Stmt}
theorem PE.of {t t':TE}(h:PE X e t)(k:∀ σ H Q,t' σ H Q→t σ H Q):PE X e t':=fun pins s σ H Q I q=>h pins s σ H Q I (k σ H Q q)
theorem PT.of {t t':TT}(h:PT X e t)(k:∀ σ H Q,t' σ H Q→t σ H Q):PT X e t':=fun pins s σ H Q I q=>h pins s σ H Q I (k σ H Q q)
theorem PW.of {t t':TT}(h:PW X e t)(k:∀ σ H Q,t' σ H Q→t σ H Q):PW X e t':=fun wh pins s σ H Q I q=>h wh pins s σ H Q I (k σ H Q q)
theorem PA.of {t t':TA}(h:PA X es t)(k:∀ σ H Q,t' σ H Q→t σ H Q):PA X es t':=fun pos pins s σ H Q I q=>h pos pins s σ H Q I (k σ H Q q)
theorem PG.of {t t':TG}(h:PG X e t)(k:∀ v σ H Q,t' v σ H Q→t v σ H Q):PG X e t':=fun pins s σ H v u Q I r q=>h pins s σ H v u Q I r (k v σ H Q q)
theorem PGs.of {t t':TGs}(h:PGs X es t)(k:∀ v σ H Q,t' v σ H Q→t v σ H Q):PGs X es t':=fun pins s σ H v u Q I r q=>h pins s σ H v u Q I r (k v σ H Q q)
theorem PS.of {t t':TS}(h:PS X st t)(k:∀ D σ H,t' D σ H→t D σ H):PS X st t':=fun pins s σ H D I q=>h pins s σ H D I (k D σ H q)
theorem PSs.of {t t':TS}(h:PSs X sts t)(k:∀ D σ H,t' D σ H→t D σ H):PSs X sts t':=fun pins s σ H D I q=>h pins s σ H D I (k D σ H q)
end
abbrev DE (X:Cx)(e:Expr)(m:ME):Prop:=PE X e (tD X.K m)
abbrev DT (X:Cx)(e:Expr)(m:MT):Prop:=PT X e (tDT X.K m)
abbrev DWt (X:Cx)(e:Expr)(m:MT):Prop:=PW X e (tDT X.K m)
abbrev DAs (X:Cx)(es:List Expr)(m:MA):Prop:=PA X es (tDA X.K m)
abbrev DG (X:Cx)(e:Expr)(m:MG):Prop:=PG X e (tDG X.K m)
abbrev DGss (X:Cx)(es:List Expr)(m:MGs):Prop:=PGs X es (tDGs X.K m)
abbrev DS (X:Cx)(st:Stmt)(m:MS):Prop:=PS X st (tDS X.K m)
abbrev DSs (X:Cx)(st:List Stmt)(m:MS):Prop:=PSs X st (tDS X.K m)
section
variable {X:Cx}{e a b c:Expr}{ma mb mc:ME}{pos:Pos}
def aC (i:Nat):ME:=fun σ h Q=>match σ[i]? with
 | some (some w)=>Q w h
 | _=>False
def mC (w:W):ME:=fun _ h Q=>Q w h
theorem dv (i:Nat)(he:PE X e (tVar i)):DE X e (aC i):=he.of fun σ H Q ⟨μ,h,σw,Qw,R,S,m,k⟩=>by
 unfold aC at m
 cases q:σw[i]? with
 | none=>rw [q] at m;exact m.elim
 | some o=>
  rw [q] at m
  cases o with
  | none=>exact m.elim
  | some w=>
   obtain ⟨v,h1,h2⟩:=S.get i w q
   exact ⟨v,h1,k _ _ ⟨μ,w,h,.refl,R,h2,m⟩⟩
theorem dc {w:W}{v:V}(he:PE X e (tC v))(r:∀ H μ,Rep X.K H μ w v):DE X e (mC w):=he.of fun σ H Q ⟨μ,h,σw,Qw,R,S,m,k⟩=>k _ _ ⟨μ,w,h,.refl,R,r H μ,m⟩
theorem aF {i:Int}{j pos}:DE X (.Constant (.int i) j pos) (mC (.int i)):=dc pe_int fun _ _=>by rw [Rep]
theorem yu {i:Bool}{j pos}:DE X (.Constant (.bool i) j pos) (mC (.bl i)):=dc pe_bl fun _ _=>by rw [Rep]
theorem d_non {j pos}:DE X (.Constant .none j pos) (mC .non):=dc pe_non fun _ _=>by rw [Rep]
theorem aU {i:Str}{j pos}:DE X (.Constant (.str i) j pos) (mC (.str i)):=dc vD fun _ _=>by rw [Rep]
abbrev M2:=W→W→Gh→WK→Prop
def mOp (r:M2)(ma mb:ME):ME:=fun σ h Q=>ma σ h fun x h1=>mb σ h1 fun y h2=>r x y h2 Q
def Sim2 (K:PySem.W.Frag)(r:R2)(mr:M2):Prop:=∀ {H:Hp} {μ : Mu} {h:Gh} {x y:V} {wx wy:W} {Qw:WK} {Q:VK},Rel K μ H h→Rep K H μ wx x→Rep K H μ wy y→mr wx wy h Qw →
 (∀ v H',DQ K H μ Qw v H'→Q v H')→r x y H Q
theorem two {K:PySem.W.Frag}{σ : St}{H:Hp}{Q:VK}{mr:M2}{R2':V→V→Hp→Prop}(h:tD K (mOp mr ma mb) σ H Q)
  (k:∀ {H2:Hp} {μ2:Mu} {h2:Gh} {x y:V} {wx wy:W} {Qw:WK},Rel K μ2 H2 h2→Rep K H2 μ2 wx x→Rep K H2 μ2 wy y→mr wx wy h2 Qw→(∀ v H',DQ K H2 μ2 Qw v H'→Q v H')→R2' x y H2) :
  tD K ma σ H fun x H1=>tD K mb σ H1 fun y H2=>R2' x y H2:=by
 obtain ⟨μ,g,σw,Qw,R,S,m,q⟩:=h
 refine ⟨μ,g,σw,_,R,S,m,fun x H1 ⟨μ1,wx,h1,e1,R1,r1,m1⟩=>?_⟩
 refine ⟨μ1,h1,σw,_,R1,S.ext e1,m1,fun y H2 ⟨μ2,wy,h2,e2,R2,r2,m2⟩=>?_⟩
 exact k R2 (e2.r _ _ r1) r2 m2 fun v H' z=>q _ _ ((z.trans e2).trans e1)
def DOp (X:Cx)(f:Value→Value→Sem Value)(mr:M2):Prop:=∃ r,OpR X f r∧Sim2 X.K r mr
theorem cF {op:Operator}{mr:M2}(ho:DOp X (binaryOp op) mr)(ha:DE X a ma)(hb:DE X b mb):DE X (.BinOp a op b pos) (mOp mr ma mb):=by
 obtain ⟨r,o,s⟩:=ho
 exact (pe_op o ha hb).of fun σ H Q h=>two h fun R r1 r2 m k=>s R r1 r2 m k
theorem d_cmp {op:CmpOp}{mr:M2}(ho:DOp X (compareOp op) mr)(ha:DE X a ma)(hb:DE X b mb)(hm:behindInMarks op b=false):DE X (.Compare a [op] [b] pos) (mOp mr ma mb):=by
 obtain ⟨r,o,s⟩:=ho
 exact (pe_cmpR o ha hb hm).of fun σ H Q h=>two h fun R r1 r2 m k=>s R r1 r2 m k
def bx (m:ME):MT:=fun σ h Q=>m σ h fun w h1=>match w with
 | .bl c=>Q c h1
 | _=>False
theorem ug {K:PySem.W.Frag}{σ : St}{H:Hp}{m:ME}{Q:Bool→Hp→Prop}(h:tDT K (bx m) σ H Q):tD K m σ H fun x H'=>∃ k,x=.bl k∧Q k H':=by
 obtain ⟨μ,g,σw,Qw,R,S,mm,q⟩:=h
 refine ⟨μ,g,σw,_,R,S,mm,fun v H' ⟨μ1,w,h1,e1,R1,r1,m1⟩=>?_⟩
 cases w with
 | bl c=>rw [Rep] at r1;exact ⟨c,r1,q _ _ ⟨μ1,h1,e1,R1,m1⟩⟩
 | _=>exact m1.elim
theorem bD {op:CmpOp}{mr:M2}(ho:DOp X (compareOp op) mr)(ha:DE X a ma)(hb:DE X b mb)(hm:behindInMarks op b=false):DT X (.Compare a [op] [b] pos) (bx (mOp mr ma mb)):=by
 obtain ⟨r,o,s⟩:=ho
 exact (pt_cmpR o ha hb hm).of fun σ H Q h=>two (ug h) fun R r1 r2 m k=>s R r1 r2 m k
def by2 (c:Bool)(a b:Prop):Prop:=match c with
 | true=>a
 | false=>b
def br (c:Bool)(a b:Prop):Prop:=(c=true→a)∧(c=false→b)
theorem br_t {c:Bool}{a b:Prop}(e:c=true)(x:a):br c a b:=⟨fun _=>x,fun z=>by rw [e] at z;cases z⟩
theorem yD {c:Bool}{a b:Prop}(e:c=false)(x:b):br c a b:=⟨fun z=>(by rw [e] at z;cases z),fun _=>x⟩
theorem br_d {c:Prop} [Decidable c] {a b:Prop} (x:c→a) (y:¬ c→b):br (decide c) a b:=⟨fun e=>x (of_decide_eq_true e),fun e=>y (of_decide_eq_false e)⟩
def mAnd (t u:MT):MT:=fun σ h Q=>t σ h fun c h1=>br c (u σ h1 Q) (Q false h1)
def mOr (t u:MT):MT:=fun σ h Q=>t σ h fun c h1=>br c (Q true h1) (u σ h1 Q)
def tH (t:MT):MT:=fun σ h Q=>t σ h fun c h1=>Q (!c) h1
variable {tA tB':MT}{rest:List Expr}
theorem dw_and1 (ha:DT X a tA):DWt X (.BoolOp .And [a] pos) tA:=pw_and1 ha
theorem gY (ha:DT X a tA):DWt X (.BoolOp .Or [a] pos) tA:=pw_or1 ha
theorem dw_and (ha:DT X a tA)(hb:DWt X (.BoolOp .And (b::rest) pos) tB'):DWt X (.BoolOp .And (a::b::rest) pos) (mAnd tA tB'):=(pw_and ha hb).of fun σ H Q ⟨μ,g,σw,Qw,R,S,m,q⟩=>by
 refine ⟨μ,g,σw,_,R,S,m,fun c H1 ⟨μ1,h1,e1,R1,m1⟩=>?_⟩
 cases c with
 | true=>
  rw [if_pos rfl]
  exact ⟨μ1,h1,σw,_,R1,S.ext e1,m1.1 rfl,fun b H' z=>q _ _ (z.trans e1)⟩
 | false=>
  rw [if_neg Bool.false_ne_true]
  exact q _ _ ⟨μ1,h1,e1,R1,m1.2 rfl⟩
theorem jJ (ha:DT X a tA)(hb:DWt X (.BoolOp .Or (b::rest) pos) tB'):DWt X (.BoolOp .Or (a::b::rest) pos) (mOr tA tB'):=(pw_or ha hb).of fun σ H Q ⟨μ,g,σw,Qw,R,S,m,q⟩=>by
 refine ⟨μ,g,σw,_,R,S,m,fun c H1 ⟨μ1,h1,e1,R1,m1⟩=>?_⟩
 cases c with
 | true=>
  rw [if_pos rfl]
  exact q _ _ ⟨μ1,h1,e1,R1,m1.1 rfl⟩
 | false=>
  rw [if_neg Bool.false_ne_true]
  exact ⟨μ1,h1,σw,_,R1,S.ext e1,m1.2 rfl,fun b H' z=>q _ _ (z.trans e1)⟩
theorem dJ (ha:DT X a tA):DT X (.UnaryOp .Not a pos) (tH tA):=(pt_not ha).of fun σ H Q ⟨μ,g,σw,Qw,R,S,m,q⟩=>
 ⟨μ,g,σw,_,R,S,m,fun c H1 ⟨μ1,h1,e1,R1,m1⟩=>q _ _ ⟨μ1,h1,e1,R1,m1⟩⟩
def rN (a b:ME):ME:=fun σ h Q=>a σ h fun x h1=>match x with
 | .bl true=>b σ h1 Q
 | .bl false=>Q (.bl false) h1
 | _=>False
def mOrV (a b:ME):ME:=fun σ h Q=>a σ h fun x h1=>match x with
 | .bl false=>b σ h1 Q
 | .bl true=>Q (.bl true) h1
 | _=>False
def mNotV (a:ME):ME:=fun σ h Q=>a σ h fun x h1=>match x with
 | .bl c=>Q (.bl (!c)) h1
 | _=>False
theorem d_one {op}(h:DE X a ma):DE X (.BoolOp op [a] pos) ma:=pe_one h
theorem yc (ha:DE X a ma)(hb:DE X (.BoolOp .And (b::rest) pos) mb):DE X (.BoolOp .And (a::b::rest) pos) (rN ma mb):=(pe_and ha hb).of fun σ H Q ⟨μ,g,σw,Qw,R,S,m,q⟩=>by
 refine ⟨μ,g,σw,_,R,S,m,fun v H1 ⟨μ1,w,h1,e1,R1,r1,m1⟩=>?_⟩
 cases w with
 | bl c=>
  rw [Rep] at r1
  refine ⟨c,r1,?_⟩
  cases c with
  | true=>rw [if_pos rfl];exact ⟨μ1,h1,σw,_,R1,S.ext e1,m1,fun b H' z=>q _ _ (z.trans e1)⟩
  | false=>rw [if_neg Bool.false_ne_true];exact q _ _ ⟨μ1,.bl false,h1,e1,R1,by rw [Rep],m1⟩
 | _=>exact m1.elim
theorem d_not (ha:DE X a ma):DE X (.UnaryOp .Not a pos) (mNotV ma):=(pe_not ha).of fun σ H Q ⟨μ,g,σw,Qw,R,S,m,q⟩=>by
 refine ⟨μ,g,σw,_,R,S,m,fun v H1 ⟨μ1,w,h1,e1,R1,r1,m1⟩=>?_⟩
 cases w with
 | bl c=>rw [Rep] at r1;exact ⟨c,r1,q _ _ ⟨μ1,.bl (!c),h1,e1,R1,by rw [Rep],m1⟩⟩
 | _=>exact m1.elim
def mIf (t:MT)(a b:ME):ME:=fun σ h Q=>t σ h fun c h1=>br c (a σ h1 Q) (b σ h1 Q)
def mUn (r:W→Gh→WK→Prop)(a:ME):ME:=fun σ h Q=>a σ h fun x h1=>r x h1 Q
def mNeg:W→Gh→WK→Prop:=fun x h Q=>match x with
 | .int i=>Q (.int (-i)) h
 | _=>False
theorem d_neg (ha:DE X a ma):DE X (.UnaryOp .USub a pos) (mUn mNeg ma):=(pe_un un_neg ha).of fun σ H Q ⟨μ,g,σw,Qw,R,S,m,q⟩=>by
 refine ⟨μ,g,σw,_,R,S,m,fun v H1 ⟨μ1,w,h1,e1,R1,r1,m1⟩=>?_⟩
 cases w with
 | int i=>rw [Rep] at r1;exact ⟨i,r1,q _ _ ⟨μ1,.int (-i),h1,e1,R1,by rw [Rep],m1⟩⟩
 | _=>exact m1.elim
def aN:MA:=fun _ h Q=>Q [] h
def aq (a:ME)(r:MA):MA:=fun σ h Q=>a σ h fun x h1=>r σ h1 fun xs h2=>Q (x::xs) h2
variable {es:List Expr}{mr:MA}
theorem au:DAs X [] aN:=qZ.of fun σ H Q ⟨μ,g,σw,Qw,R,S,m,q⟩=>q _ _ ⟨μ,[],g,.refl,R,.nil,m⟩
theorem ao (ha:DE X e ma)(hr:DAs X es mr)(hs:starEach (e::es) X.env=(false,eval e X.env)::starEach es X.env:=by rfl):DAs X (e::es) (aq ma mr):=(fV ha hr hs).of fun σ H Q ⟨μ,g,σw,Qw,R,S,m,q⟩=>by
 refine ⟨μ,g,σw,_,R,S,m,fun v H1 ⟨μ1,w,h1,e1,R1,r1,m1⟩=>?_⟩
 refine ⟨μ1,h1,σw,_,R1,S.ext e1,m1,fun vs H2 ⟨μ2,ws,h2,e2,R2,r2,m2⟩=>?_⟩
 exact q _ _ ⟨μ2,w::ws,h2,e1.trans e2,R2,.cons (e2.r _ _ r1) r2,m2⟩
def kO (n:Nat)(P:Prop):Prop:=by2 (Nat.ble n 1000) P (n≤sizeLine∧P)
theorem kO.ok {n:Nat}{P:Prop}(h:kO n P):n≤sizeLine∧P:=by
 unfold kO at h
 cases e:Nat.ble n 1000 with
 | true=>rw [e] at h;exact ⟨Nat.le_trans (Nat.le_of_ble_eq_true e) (by decide),h⟩
 | false=>rw [e] at h;exact h
theorem kO.mk {n:Nat}{P:Prop}(hn:n≤sizeLine)(h:P):kO n P:=by
 unfold kO
 cases e:Nat.ble n 1000 with
 | true=>exact h
 | false=>exact ⟨hn,h⟩
def iG (t:MA):ME:=fun σ h Q=>t σ h fun ws h1=>kO ws.length (Q (.tup ws) h1)
def yE (t:MA):ME:=fun σ h Q=>t σ h fun ws h1=>kO ws.length (Q (.lst ws) h1)
def nO (t:MA):ME:=fun σ h Q=>t σ h fun ws h1=>kO ws.length (Q (.loc h1.nx) (h1.new (.lst ws)))
theorem bA {x1}(h:DAs X es mr):DE X (.Tuple es x1 pos) (iG mr):=(pe_tup h).of fun σ H Q ⟨μ,g,σw,Qw,R,S,m,q⟩=>
 ⟨μ,g,σw,_,R,S,m,fun vs H1 ⟨μ1,ws,h1,e1,R1,r1,sz⟩=>⟨by rw [←r1.len];exact sz.ok.1,fun p hp=>q _ _ ⟨μ1,.tup ws,h1,e1.trans (Ex.laid hp).ext,R1.laid hp,.tupNew hp r1,sz.ok.2⟩⟩⟩
theorem gH (h:DAs X es mr):DE X (.List es pos) (yE mr):=(pe_lst h).of fun σ H Q ⟨μ,g,σw,Qw,R,S,m,q⟩=>
 ⟨μ,g,σw,_,R,S,m,fun vs H1 ⟨μ1,ws,h1,e1,R1,r1,sz⟩=>⟨by rw [←r1.len];exact sz.ok.1,fun p hp=>q _ _ ⟨μ1,.lst ws,h1,e1.trans (Ex.laid hp).ext,R1.laid hp,.lstNew R1 hp r1,sz.ok.2⟩⟩⟩
theorem newLst {K:PySem.W.Frag}{H:Hp}{μ : Mu}{h:Gh}{p:Addr}{ws:List W}{xs:List V}(R:Rel K μ H h)(hp:H p=none)(r:aJ K H μ ws xs) :
  Rel K (μ.put h.nx p) (upd H p (.lst xs)) (h.new (.lst ws)):=R.newCell hp trivial ⟨xs,aL,(Ex.newCell R hp).ext.s r⟩
theorem mZ (h:DAs X es mr):DE X (.List es pos) (nO mr):=(pe_lst h).of fun σ H Q ⟨μ,g,σw,Qw,R,S,m,q⟩=>
 ⟨μ,g,σw,_,R,S,m,fun vs H1 ⟨μ1,ws,h1,e1,R1,r1,sz⟩=>⟨by rw [←r1.len];exact sz.ok.1,fun p hp=>q _ _ ⟨μ1.put h1.nx p,.loc h1.nx,h1.new (.lst ws),e1.trans (Ex.newCell R1 hp).ext,newLst R1 hp r1,by rw [Rep];exact ⟨p,rfl,Mu.put_same⟩,sz.ok.2⟩⟩⟩
def lift (K:PySem.W.Frag)(ms:MSp):Sp:=fun vs H Q _=>∃ μ h ws Qw,Rel K μ H h∧aJ K H μ ws vs∧ms ws h Qw EF∧∀ v H',DQ K H μ Qw v H'→Q v H'
def bf (ms:MSp)(E:XWK)(ma:MA):ME:=fun σ h Q=>ma σ h fun ws h1=>ms ws h1 Q E
theorem call_of {K:PySem.W.Frag}{σ : St}{H:Hp}{Q:VK}{E:XK}{ms:MSp}{ma:MA}(h:tD K (bf ms EF ma) σ H Q):tCall (lift K ms) [] E (tDA K ma) σ H Q:=by
 obtain ⟨μ,g,σw,Qw,R,S,m,q⟩:=h
 refine ⟨μ,g,σw,_,R,S,m,fun vs H1 ⟨μ1,ws,h1,e1,R1,r1,m1⟩=>?_⟩
 show lift K ms (vs++[]) H1 Q E
 rw [List.append_nil]
 exact ⟨μ1,h1,ws,Qw,R1,r1,m1,fun v H' z=>q _ _ (z.trans e1)⟩
theorem aV {k:Nat}{f:Addr}{fd:FuncData}{ps:List Str}{ms:MSp}{x:Str}{p:Pos}(F:bT X.prog X.w X.K X.mg X.base CX0 k f fd ps (lift X.K ms))(hr:eN k X.A)(hg:Gl X x)(hm:X.mg x=some (.ref f))(hk:PySem.W.keepIn X.K (.ref f)=true)
  (hb:Binds X.K fd ps []) (ha:DAs X (e::es) mr) (hdb:(x==("__debug__" : Str))=false:=by decide) (he:starEach (e::es) X.env=(false,eval e X.env)::starEach es X.env:=by rfl) (hpl:(backTo pos (starEach es X.env)).any (·.1)=false:=by rfl) :
  DE X (.Call (.Name x p) (e::es) [] pos) (bf ms EF mr):=(pe_call F hr hg hm hk hb .nil zU ha hdb he hpl).of fun _ _ _ h=>call_of h
def truW (h:Gh)(w:W):Option Bool:=match w with
 | .non=>some false
 | .bl b=>some b
 | .int i=>some (i != 0)
 | .tup ws=>some (!ws.isEmpty)
 | .lst ws=>some (!ws.isEmpty)
 | .kls ws=>some (!ws.isEmpty)
 | .loc n=>(match h.c n with
  | some (.lst ws)=>some (!ws.isEmpty)
  | _=>none)
 | _=>none
def tG (m:ME):MT:=fun σ h Q=>m σ h fun w h1=>match truW h1 w with
 | some b=>Q b h1
 | none=>False
theorem aJ.emp {K:PySem.W.Frag}{H:Hp}{μ : Mu}{ws:List W}{xs:List V}(r:aJ K H μ ws xs):ws.isEmpty=xs.isEmpty:=by
 have:=r.len
 cases ws <;> cases xs <;> first | rfl | cases this
theorem dN (he:DE X e ma)(h:∀ whole,isTrue e X.env whole=(do let v ←whole;standAt e.pos;holding [v] (truthy v)):=by intro _;rfl):DT X e (tG ma):=(pt_truth he h).of fun σ H Q ⟨μ,g,σw,Qw,R,S,m,q⟩=>by
 refine ⟨μ,g,σw,_,R,S,m,fun v H1 ⟨μ1,w,h1,e1,R1,r1,m1⟩=>?_⟩
 dsimp only at m1
 split at m1
 ·rename_i b eb
  refine ⟨b,?_,q _ _ ⟨μ1,h1,e1,R1,m1⟩⟩
  cases w with
  | non=>rw [Rep] at r1;subst r1;cases eb;rfl
  | bl c=>rw [Rep] at r1;subst r1;cases eb;rfl
  | int c=>rw [Rep] at r1;subst r1;cases eb;rfl
  | tup ws=>
   rw [Rep] at r1
   obtain ⟨p,xs,ev,hs,rs⟩:=r1
   subst ev
   cases eb
   exact .inr (.inl ⟨xs,hs,by rw [rs.emp]⟩)
  | lst ws=>
   rw [Rep] at r1
   obtain ⟨p,xs,ev,hs,rs⟩:=r1
   subst ev
   cases eb
   exact .inl ⟨xs,hs.sq,by rw [rs.emp]⟩
  | kls ws=>
   rw [Rep] at r1
   obtain ⟨p,xs,ev,hs,rs⟩:=r1
   subst ev
   cases eb
   exact .inl ⟨xs,hs.sq,by rw [rs.emp]⟩
  | loc n=>
   rw [Rep] at r1
   obtain ⟨p,ev,hm⟩:=r1
   subst ev
   unfold truW at eb
   dsimp only at eb
   cases ec:h1.c n with
   | none=>rw [ec] at eb;cases eb
   | some cl=>
    rw [ec] at eb
    cases cl with
    | lst ws=>
     cases eb
     obtain ⟨p',hm',xs,hx,rs⟩:=R1.cel n _ ec
     have ep:p'=p:=by rw [hm] at hm';exact (Option.some.inj hm').symm
     subst ep
     exact .inl ⟨xs,.of hx,by rw [rs.emp]⟩
    | _=>cases eb
  | _=>cases eb
 ·exact m1.elim
abbrev MC:=List W→Gh→WK→Prop
def mCB (r:MC)(ma:MA):ME:=fun σ h Q=>ma σ h fun ws h1=>r ws h1 Q
def SimC (K:PySem.W.Frag)(r:List V→Hp→VK→Prop)(mr:MC):Prop:=∀ {H:Hp} {μ : Mu} {h:Gh} {vs:List V} {ws:List W} {Qw:WK} {Q:VK},Rel K μ H h→aJ K H μ ws vs→mr ws h Qw→(∀ v H',DQ K H μ Qw v H'→Q v H')→r vs H Q
def nP (X:Cx)(f:Value)(mr:MC):Prop:=∃ r,fu X f r∧SimC X.K r mr
theorem cb_of {K:PySem.W.Frag}{σ : St}{H:Hp}{Q:VK}{r:List V→Hp→VK→Prop}{mc:MC}{ma:MA}(s:SimC K r mc)(h:tD K (mCB mc ma) σ H Q):tCB r (tDA K ma) σ H Q:=by
 obtain ⟨μ,g,σw,Qw,R,S,m,q⟩:=h
 exact ⟨μ,g,σw,_,R,S,m,fun vs H1 ⟨μ1,ws,h1,e1,R1,r1,m1⟩=>s R1 r1 m1 fun v H' z=>q _ _ (z.trans e1)⟩
theorem aO {x:Str}{p:Pos}{id:String}{mc:MC}(hc:nP X (.builtin id) mc)(hg:Gl X x)(hm:X.mg x=none)(hv:bootBuiltins x=some (.builtin id))(ha:DAs X (e::es) mr)(hn:x ≠ "__name__":=by decide)(hdb:(x==("__debug__" : Str))=false:=by decide)
  (he:starEach (e::es) X.env=(false,eval e X.env)::starEach es X.env:=by rfl) (hpl:(backTo pos (starEach es X.env)).any (·.1)=false:=by rfl):DE X (.Call (.Name x p) (e::es) [] pos) (mCB mc mr):=by
 obtain ⟨r,c,s⟩:=hc
 exact (pO c hg hm hv ha hn hdb he hpl).of fun _ _ _ h=>cb_of s h
theorem kY {x:Str}{p:Pos}{T:String}{mc:MC}(hc:nP X (.type T) mc)(hg:Gl X x)(hm:X.mg x=none)(hv:bootBuiltins x=some (.type T))(ha:DAs X (e::es) mr)(hn:x ≠ "__name__":=by decide)(hdb:(x==("__debug__" : Str))=false:=by decide)
  (he:starEach (e::es) X.env=(false,eval e X.env)::starEach es X.env:=by rfl) (hpl:(backTo pos (starEach es X.env)).any (·.1)=false:=by rfl):DE X (.Call (.Name x p) (e::es) [] pos) (mCB mc mr):=by
 obtain ⟨r,c,s⟩:=hc
 exact (yZ c hg hm hv ha hn hdb he hpl).of fun _ _ _ h=>cb_of s h
end
end L2
namespace L2
open PySem PySem.Spec PyProof.Rows
section
variable {X:Cx}{e a b c tg:Expr}{ma mb mc:ME}{pos:Pos}{es:List Expr}
def nName (i:Nat):MG:=fun w σ h N=>N (σ.set i (some w)) h
theorem bR {i:Nat}(hg:PG X e (zJ i)):DG X e (nName i):=hg.of fun v σ H N ⟨μ,h,σw,w,Nw,R,S,r,m,k⟩=>k _ _ ⟨μ,σw.set i (some w),h,.refl,R,S.set r i,m⟩
def nNil:MGs:=fun ws σ h N=>match ws with
 | []=>N σ h
 | _=>False
def lW (g:MG)(r:MGs):MGs:=fun ws σ h N=>match ws with
 | w::ws'=>g w σ h fun σ1 h1=>r ws' σ1 h1 N
 | []=>False
theorem uL:DGss X [] nNil:=pgs_nil.of fun vs σ H N ⟨μ,h,σw,ws,Nw,R,S,r,m,k⟩=>by
 cases ws with
 | nil=>rw [aJ] at r;exact ⟨r,k _ _ ⟨μ,σw,h,.refl,R,S,m⟩⟩
 | cons w ws=>exact m.elim
theorem cR {g:MG}{u:MGs}(h1:DG X e g)(h2:DGss X es u)(hs:(assignEach (e::es) X.env).map (·.2)=assign e X.env::(assignEach es X.env).map (·.2):=by rfl):DGss X (e::es) (lW g u):=(pgs_cons h1 h2 hs).of fun vs σ H N ⟨μ,h,σw,ws,Nw,R,S,r,m,k⟩=>by
 cases ws with
 | nil=>exact m.elim
 | cons w ws=>
  rw [aJ] at r
  obtain ⟨v,vr,ev,r1,r2⟩:=r
  refine ⟨v,vr,ev,μ,h,σw,w,_,R,S,r1,m,fun σ1 H1 ⟨μ1,σw1,h1,e1,R1,S1,m1⟩=>?_⟩
  exact ⟨μ1,h1,σw1,ws,_,R1,S1,e1.s r2,m1,fun σ2 H2 z=>k _ _ (z.trans e1)⟩
def nTup (n:Nat)(g:MGs):MG:=fun w σ h N=>match w with
 | .tup ws=>by2 (Nat.beq ws.length n) (g ws σ h N) False
 | _=>False
abbrev MSet:=W→W→W→Gh→(Gh→Prop)→Prop
def SimSet (K:PySem.W.Frag)(t:TSet)(ms:MSet):Prop:=∀ {H:Hp} {μ : Mu} {h:Gh} {o i v:V} {wo wi w:W} {Nw:Gh→Prop} {N:Hp→Prop},Rel K μ H h→Rep K H μ wo o→Rep K H μ wi i→Rep K H μ w v→ms wo wi w h Nw →
 (∀ H',(∃ μ' h',Ext K H μ H' μ'∧Rel K μ' H' h'∧Nw h')→N H')→t o i v H N
def nSub (mo mi:ME)(ms:MSet):MG:=fun w σ h N=>mo σ h fun o h1=>mi σ h1 fun i h2=>ms o i w h2 fun h3=>N σ h3
theorem dg_sub {o i:Expr}{mo mi:ME}{t:TSet}{ms:MSet}(ho:DE X o mo)(hi:DE X i mi)(hs:PSet X t)(hm:SimSet X.K t ms)
  (ha:∀ v,assign (.Subscript o i pos) X.env v=(do
   let ov ←holding [v] (eval o X.env)
   let iv ←holding [v,ov] (eval i X.env)
   standAt pos
   holding [v,ov,iv] (setItem ov iv v)
   release [v,ov,iv] []):=by intro _;rfl):DG X (.Subscript o i pos) (nSub mo mi ms):=
 (pg_sub ho hi hs ha).of fun v σ H N ⟨μ,h,σw,w,Nw,R,S,r,m,k⟩=>by
  refine ⟨μ,h,σw,_,R,S,m,fun o H1 ⟨μ1,wo,h1,e1,R1,r1,m1⟩=>?_⟩
  refine ⟨μ1,h1,σw,_,R1,S.ext e1,m1,fun i H2 ⟨μ2,wi,h2,e2,R2,r2,m2⟩=>?_⟩
  refine hm R2 (e2.r _ _ r1) r2 (e2.r _ _ (e1.r _ _ r)) m2 fun H3 ⟨μ3,h3,e3,R3,m3⟩=>?_
  exact k _ _ ⟨μ3,σw,h3,(e1.trans e2).trans e3,R3,S.ext ((e1.trans e2).trans e3),m3⟩
def sSetL:MSet:=fun o i w h N=>match o,i with
 | .loc n,.int k=>(match h.c n with
  | some (.lst ws)=>(match ixN ws.length k with
   | some j=>N (h.set n (.lst (ws.set j w)))
   | none=>False)
  | _=>False)
 | _,_=>False
theorem Rel.lstAt {K:PySem.W.Frag}{μ : Mu}{H:Hp}{h:Gh}{n:Nat}{ws:List W}(R:Rel K μ H h)(e:h.c n=some (.lst ws)):∃ p xs,μ.f n=some p∧H p=some (.lst xs)∧aJ K H μ ws xs:=by
 obtain ⟨p,e1,xs,e2,r⟩:=R.cel n _ e
 exact ⟨p,xs,e1,e2,r⟩
theorem wN {K:PySem.W.Frag}:SimSet K rSetL sSetL:=by
 intro H μ h o i v wo wi w Nw N R ro ri r m k
 cases wo with
 | loc n=>
  cases wi with
  | int z=>
   rw [Rep] at ro
   rw [Rep] at ri
   obtain ⟨p,eo,hp⟩:=ro
   unfold sSetL at m
   dsimp only at m
   cases ec:h.c n with
   | none=>rw [ec] at m;exact m.elim
   | some cl=>
    rw [ec] at m
    cases cl with
    | lst ws=>
     dsimp only at m
     obtain ⟨p',xs,hp',hx,rs⟩:=R.lstAt ec
     have ep:p'=p:=by rw [hp] at hp';exact (Option.some.inj hp').symm
     subst ep
     cases ej:ixN ws.length z with
     | none=>rw [ej] at m;exact m.elim
     | some j=>
      rw [ej] at m
      refine ⟨p',xs,z,j,eo,ri,hx,by rw [←rs.len];exact ej,k _ ⟨μ,_,(Ex.write R hp).ext,R.write hp trivial ?_,m⟩⟩
      exact ⟨_,aL,aJ.set ((Ex.write R hp).ext.r _ _ r) j ((Ex.write R hp).ext.s rs)⟩
    | _=>exact m.elim
  | _=>exact m.elim
 | _=>exact m.elim
variable {st:Stmt}{rest body:List Stmt}{m1 m2:MS}{t:MT}
def cu:MS:=fun D σ h=>D.nx σ h
def bw (m u:MS):MS:=fun D σ h=>m { D with nx:=u D } σ h
theorem aZ:DSs X [] cu:=pss_nil.of fun D σ H ⟨μ,h,σw,Dw,R,S,m,k⟩=>k.nx _ _ ⟨μ,σw,h,.refl,R,S,m⟩
theorem aG (h1:DS X st m1):DSs X [st] m1:=tQ h1
theorem aB (h1:DS X st m1)(h2:DSs X rest m2):DSs X (st::rest) (bw m1 m2):=(v7 h1 h2).of fun D σ H ⟨μ,h,σw,Dw,R,S,m,k⟩=>by
 refine ⟨μ,h,σw,_,R,S,m,?_,k.rt,k.bk,k.ct⟩
 intro σ' H' ⟨μ1,σw1,h1,e1,R1,S1,m1⟩
 exact ⟨μ1,h1,σw1,Dw,R1,S1,m1,k.trans e1⟩
def fW (m:ME):MS:=fun D σ h=>m σ h fun _ h1=>D.nx σ h1
theorem iB (he:DE X e ma)(hs:swapsWith e none pos.line X.env=pure false:=by rfl):DS X (.Expr e pos) (fW ma):=(yN he hs).of fun D σ H ⟨μ,h,σw,Dw,R,S,m,k⟩=>
 ⟨μ,h,σw,_,R,S,m,fun v H1 ⟨μ1,w,h1,e1,R1,_,m1⟩=>k.nx _ _ ⟨μ1,σw,h1,e1,R1,S.ext e1,m1⟩⟩
def cN (m:ME):MS:=fun D σ h=>m σ h D.rt
theorem aR (he:DE X e ma):DS X (.Return (some e) pos) (cN ma):=(ps_ret he).of fun D σ H ⟨μ,h,σw,Dw,R,S,m,k⟩=>⟨μ,h,σw,_,R,S,m,k.rt⟩
def gG (t:MT)(a b:MS):MS:=fun D σ h=>t σ h fun c h1=>br c (a D σ h1) (b D σ h1)
theorem cM {a b:List Stmt}(hc:DT X c t)(ha:DSs X a m1)(hb:DSs X b m2):DS X (.If c a b pos) (gG t m1 m2):=(ps_if hc ha hb).of fun D σ H ⟨μ,h,σw,Dw,R,S,m,k⟩=>by
 refine ⟨μ,h,σw,_,R,S,m,fun b H1 ⟨μ1,h1,e1,R1,q⟩=>?_⟩
 cases b with
 | true=>rw [if_pos rfl];exact ⟨μ1,h1,σw,Dw,R1,S.ext e1,q.1 rfl,k.trans e1⟩
 | false=>rw [if_neg Bool.false_ne_true];exact ⟨μ1,h1,σw,Dw,R1,S.ext e1,q.2 rfl,k.trans e1⟩
def wC (x:Str)(E:XWK):MS:=fun _ _ h=>E ⟨x,[]⟩ h
theorem vN {x:Str}:DS X st (wC x EF):=ps_never.of fun _ _ _ ⟨_,_,_,_,_,_,m,_⟩=>m.elim
def cj (m:ME)(g:MG):MS:=fun D σ h=>m σ h fun w h1=>g w σ h1 D.nx
theorem asg_of {K:PySem.W.Frag}{σ : St}{H:Hp}{D:Ends}{m:ME}{g:MG}(q:tDS K (cj m g) D σ H):tAsg (tD K m) (tDG K g) D σ H:=by
 obtain ⟨μ,h,σw,Dw,R,S,m,k⟩:=q
 exact ⟨μ,h,σw,_,R,S,m,fun v H1 ⟨μ1,w,h1,e1,R1,r1,m1⟩=>⟨μ1,h1,σw,w,_,R1,S.ext e1,r1,m1,fun σ' H' z=>k.nx _ _ (z.trans e1)⟩⟩
theorem sU {g:MG}(he:DE X e ma)(hg:DG X tg g)(hs:swapsWithSole [tg] e pos.line X.env=pure false:=by rfl)(hw:swappedStores [tg] e X.env=pure none:=by rfl)
  (h1:(assignEach [tg] X.env).map (·.2)=[assign tg X.env]:=by rfl):DS X (.Assign [tg] e pos) (cj ma g):=(ps_asg he hg hs hw h1).of fun _ _ _ q=>asg_of q
theorem set_of {K:PySem.W.Frag}{σ : St}{H:Hp}{D:Ends}{m:ME}{t:TE}{i:Nat}(ht:∀ σ H Q,tD K m σ H Q→t σ H Q)(q:tDS K (cj m (nName i)) D σ H):tAsg t (zJ i) D σ H:=by
 obtain ⟨μ,h,σw,Dw,R,S,m,k⟩:=q
 exact ht _ _ _ ⟨μ,h,σw,_,R,S,m,fun v H1 ⟨μ1,w,h1,e1,R1,r1,m1⟩=>k.nx _ _ ⟨μ1,σw.set i (some w),h1,e1,R1,(S.ext e1).set r1 i,m1⟩⟩
theorem aQ {i:Nat}{x:Str}{pos':Pos}(hN:X.N.Nodup)(hi:X.N[i]?=some x)(hx:Loc X.env.scope x)(he:DE X e ma)(hs:swapsWith e (some (.Name x pos')) pos.line X.env=pure false:=by rfl)
  (hf:X.fn x=true∨X.env.scope.names.lookup x=some .local:=by first | exact .inl rfl | exact .inr rfl | assumption) :
  DS X (.Assign [.Name x pos'] e pos) (cj ma (nName i)):=(ps_set hN hi hx he hs hf).of fun _ _ _ q=>set_of (fun _ _ _ z=>z) q
def mPar (i j:Nat)(ta:MA):MS:=fun D σ h=>ta σ h fun ws h1=>match ws with
 | [v,w]=>D.nx ((σ.set i (some v)).set j (some w)) h1
 | _=>False
theorem zX {i j:Nat}{ta:MA}(hp:PS X st (tPar i j (tDA X.K ta))):DS X st (mPar i j ta):=hp.of fun D σ H ⟨μ,h,σw,Dw,R,S,m,k⟩=>by
 refine ⟨μ,h,σw,_,R,S,m,fun vs H1 ⟨μ1,ws,h1,e1,R1,r1,m1⟩=>?_⟩
 dsimp only at m1
 split at m1
 ·rename_i a b
  rw [aJ] at r1
  obtain ⟨v,vr,ev,ra,r2⟩:=r1
  rw [aJ] at r2
  obtain ⟨v',vr',ev',rb,r3⟩:=r2
  rw [aJ] at r3
  subst r3
  subst ev'
  subst ev
  exact ⟨v,v',rfl,k.nx _ _ ⟨μ1,_,h1,e1,R1,((S.ext e1).set ra i).set rb j,m1⟩⟩
 ·exact m1.elim
def wD (t:MT)(b:MS):MS:=fun D σ h=>∃ Wm:Nat→Sw→Gh→Prop,(∃ m,Wm m σ h)∧∀ m σ h,Wm m σ h →
 t σ h fun c h1=>br c (b { D with nx:=fun σ' h'=>∃ m',m'<m∧Wm m' σ' h',ct:=fun σ' h'=>∃ m',m'<m∧Wm m' σ' h',bk:=D.nx } σ h1) (D.nx σ h1)
theorem uZ {body:List Stmt}{pos:Pos}(hp:PassesOwn (model X.prog X.w) X.A X.env X.xe)(hc:DT X c t)(hb:DSs X body m1):DS X (.While c body [] pos) (wD t m1):=(ps_while hp hc hb).of fun D σ H ⟨μ,h,σw,Dw,R,S,m,k⟩=>by
 obtain ⟨Wm,⟨m0,w0⟩,turn⟩:=m
 refine ⟨fun n σ' H'=>DN X.K H μ (Wm n) σ' H',⟨m0,μ,σw,h,.refl,R,S,w0⟩,fun n σ1 H1 ⟨μ1,σw1,h1,e1,R1,S1,w1⟩=>?_⟩
 refine ⟨μ1,h1,σw1,_,R1,S1,turn n σw1 h1 w1,fun b H2 ⟨μ2,h2,e2,R2,q⟩=>?_⟩
 have e12:=e1.trans e2
 cases b with
 | true=>
  dsimp only
  rw [if_pos rfl]
  refine ⟨fun σ' H'=>∃ m',m'<n∧DN X.K H μ (Wm m') σ' H',fun _ _ z=>z,μ2,h2,σw1,_,R2,S1.ext e2,q.1 rfl,?_⟩
  have again:∀ (σ':St) (H':Hp),DN X.K H2 μ2 (fun σ' h'=>∃ m',m'<n∧Wm m' σ' h') σ' H'→∃ m',m'<n∧DN X.K H μ (Wm m') σ' H':=fun σ' H' ⟨μ3,σw3,h3,e3,R3,S3,m',hm,w3⟩=>
   ⟨m',hm,μ3,σw3,h3,e12.trans e3,R3,S3,w3⟩
  exact ⟨again,fun v H' z=>k.rt _ _ (z.trans e12),fun σ' H' z=>k.nx _ _ (z.trans e12),again⟩
 | false=>
  dsimp only
  rw [if_neg Bool.false_ne_true]
  exact k.nx _ _ ⟨μ2,σw1,h2,e12,R2,S1.ext e2,q.2 rfl⟩
structure Src where
 ws:List W
 cell:Option (Nat×List W)
def Src.chk (s:Src)(h:Gh):Prop:=match s.cell with
 | none=>True
 | some n=>h.c n.1=some (.lst n.2)
abbrev MI:=Sw→Gh→(Src→Gh→Prop)→Prop
def ItOk (K:PySem.W.Frag)(J:It)(src:Src)(H:Hp)(μ : Mu):Prop:=∀ {H2:Hp} {μ2:Mu} {h2:Gh} {i:Nat},Ext K H μ H2 μ2→Rel K μ2 H2 h2→src.chk h2 →
 (∀ w,src.ws[i]?=some w→J.go i H2∧∀ x H3,J.yld i H2 x H3→∃ μ3,Ext K H2 μ2 H3 μ3∧Rel K μ3 H3 h2∧Rep K H3 μ3 w x)∧(src.ws.length≤i→J.stop i H2)
def DI (K:PySem.W.Frag)(H:Hp)(μ : Mu)(Rw:Src→Gh→Prop):It→Hp→Prop:=fun J H'=>∃ μ' src h',Ext K H μ H' μ'∧Rel K μ' H' h'∧ItOk K J src H' μ'∧Rw src h'
def tDI (K:PySem.W.Frag)(mi:MI):TI:=fun σ H R=>∃ μ h σw Rw,Rel K μ H h∧Slots K H μ σw σ∧mi σw h Rw∧∀ J H',DI K H μ Rw J H'→R J H'
abbrev DIt (X:Cx)(tg iter:Expr)(mi:MI):Prop:=PI X tg iter (tDI X.K mi)
theorem PI.of {iter:Expr}{t t':TI}(h:PI X tg iter t)(k:∀ σ H R,t' σ H R→t σ H R):PI X tg iter t':=fun pins s σ H R I q=>h pins s σ H R I (k σ H R q)
def fB (h:Gh):W→Option (List W)
 | .lst ws=>some ws
 | .kls ws=>some ws
 | .loc n=>(match h.c n with
  | some (.lst ws)=>some ws
  | _=>none)
 | _=>none
def view (h:Gh):W→Option (List W)
 | .tup ws=>some ws
 | .lst ws=>some ws
 | .kls ws=>some ws
 | .loc n=>fB h (.loc n)
 | _=>none
def srcA (h:Gh):W→Option Src
 | .tup ws=>some ⟨ws,none⟩
 | .lst ws=>some ⟨ws,none⟩
 | .kls ws=>some ⟨ws,none⟩
 | .loc n=>(match h.c n with
  | some (.lst ws)=>some ⟨ws,some (n,ws)⟩
  | _=>none)
 | _=>none
theorem itl_frz {K:PySem.W.Frag}{H:Hp}{μ : Mu}{p:Addr}{ws:List W}(r:Rep K H μ (.lst ws) (.ref p)):ItOk K (Itl K p) ⟨ws,none⟩ H μ:=by
 intro H2 μ2 h2 i e R2 _
 have r2:=e.r _ _ r
 rw [Rep] at r2
 obtain ⟨q,xs,eq,hf,rs⟩:=r2
 cases eq
 refine ⟨fun w ew=>?_,fun hl=>⟨xs,hf.sq,by rw [←rs.len];exact hl⟩⟩
 obtain ⟨v,ev,rv⟩:=rs.get ew
 refine ⟨⟨xs,v,hf.sq,ev⟩,fun x H3 ⟨e3,y⟩=>?_⟩
 subst e3
 have:=y xs hf.sq
 rw [ev] at this
 cases this
 exact ⟨μ2,.refl,R2,rv⟩
theorem itl_kls {K:PySem.W.Frag}{H:Hp}{μ : Mu}{p:Addr}{ws:List W}(r:Rep K H μ (.kls ws) (.ref p)):ItOk K (Itl K p) ⟨ws,none⟩ H μ:=by
 intro H2 μ2 h2 i e R2 _
 have r2:=e.r _ _ r
 rw [Rep] at r2
 obtain ⟨q,xs,eq,hf,rs⟩:=r2
 cases eq
 refine ⟨fun w ew=>?_,fun hl=>⟨xs,hf.sq,by rw [←rs.len];exact hl⟩⟩
 obtain ⟨v,ev,rv⟩:=rs.get ew
 refine ⟨⟨xs,v,hf.sq,ev⟩,fun x H3 ⟨e3,y⟩=>?_⟩
 subst e3
 have:=y xs hf.sq
 rw [ev] at this
 cases this
 exact ⟨μ2,.refl,R2,rv⟩
theorem itl_cell {K:PySem.W.Frag}{H:Hp}{μ : Mu}{p:Addr}{n:Nat}{ws:List W}(r:Rep K H μ (.loc n) (.ref p)):ItOk K (Itl K p) ⟨ws,some (n,ws)⟩ H μ:=by
 intro H2 μ2 h2 i e R2 ck
 have r2:=e.r _ _ r
 rw [Rep] at r2
 obtain ⟨q,eq,hm⟩:=r2
 cases eq
 obtain ⟨p',xs,hm',hx,rs⟩:=R2.lstAt (show h2.c n=some (.lst ws) from ck)
 have ep:p'=p:=by rw [hm] at hm';exact (Option.some.inj hm').symm
 subst ep
 refine ⟨fun w ew=>?_,fun hl=>⟨xs,.of hx,by rw [←rs.len];exact hl⟩⟩
 obtain ⟨v,ev,rv⟩:=rs.get ew
 refine ⟨⟨xs,v,.of hx,ev⟩,fun x H3 ⟨e3,y⟩=>?_⟩
 subst e3
 have:=y xs (.of hx)
 rw [ev] at this
 cases this
 exact ⟨μ2,.refl,R2,rv⟩
theorem itt_tup {K:PySem.W.Frag}{H:Hp}{μ : Mu}{p:Addr}{ws:List W}(r:Rep K H μ (.tup ws) (.ref p)):ItOk K (Itt K p) ⟨ws,none⟩ H μ:=by
 intro H2 μ2 h2 i e R2 _
 have r2:=e.r _ _ r
 rw [Rep] at r2
 obtain ⟨q,xs,eq,hf,rs⟩:=r2
 cases eq
 refine ⟨fun w ew=>?_,fun hl=>⟨xs,hf,by rw [←rs.len];exact hl⟩⟩
 obtain ⟨v,ev,rv⟩:=rs.get ew
 refine ⟨⟨xs,v,hf,ev⟩,fun x H3 ⟨e3,y⟩=>?_⟩
 subst e3
 have:=y xs hf
 rw [ev] at this
 cases this
 exact ⟨μ2,.refl,R2,rv⟩
def iSeq (K:PySem.W.Frag)(tl:TE):TI:=fun σ H R=>tl σ H fun x H1=>(∃ a,x=.ref a∧(∃ xs,SqL K H1 a xs)∧R (Itl K a) H1)∨(∃ a,x=.ref a∧(∃ xs,SqT K H1 a xs)∧R (Itt K a) H1)
theorem pi_seq {l:Expr}{tl:TE}(hl:PE X l tl):PI X tg l (iSeq X.K tl):=by
 intro pins s σ H R I h
 refine thn (hl pins s σ H _ I h) fun v s1 ⟨x,H1,I1,r1,q1⟩=>?_
 rcases q1 with ⟨a,e,⟨xs,hq⟩,q⟩ | ⟨a,e,⟨xs,hq⟩,q⟩
 ·subst e
  cases r1
  obtain ⟨its,rv,p,hz⟩:=I1.list hq
  refine wpAny_pyIter_list p.isList ?_
  refine ⟨s1.heap.objs.size,[s1.heap.objs.size],_,_,H1,rfl,I1.kept (t':=s1.toks) fun b o e=>Heap.get?_push_of_some _ e,turn_list a _,⟨_,Heap.get?_push_size _ rfl,rfl,rfl⟩,fun b hb=>?_,q⟩
  have e:b=s1.heap.objs.size:=by simpa using hb
  subst e
  exact I1.fpOk (Nat.le_refl _) (I1.hok.fresh (Nat.le_refl _))
 ·subst e
  cases r1
  obtain ⟨its,rv,p,hz⟩:=I1.tuple hq
  refine wpAny_pyIter_tuple (show s1.heap.IsTuple a its.toArray from p) ?_
  refine ⟨s1.heap.objs.size,[s1.heap.objs.size],_,_,H1,rfl,I1.kept (t':=s1.toks) fun b o e=>Heap.get?_push_of_some _ e,wU a _,⟨_,Heap.get?_push_size _ rfl,rfl,rfl⟩,fun b hb=>?_,q⟩
  have e:b=s1.heap.objs.size:=by simpa using hb
  subst e
  exact I1.fpOk (Nat.le_refl _) (I1.hok.fresh (Nat.le_refl _))
def nIt (m:ME):MI:=fun σ h R=>m σ h fun w h1=>match srcA h1 w with
 | some s=>R s h1
 | none=>False
theorem fU {l:Expr}(hl:DE X l ma):DIt X tg l (nIt ma):=PI.of (pi_seq hl) fun σ H Q ⟨μ,h,σw,Rw,R,S,m,k⟩=>by
 refine ⟨μ,h,σw,_,R,S,m,fun v H1 ⟨μ1,w,h1,e1,R1,r1,m1⟩=>?_⟩
 cases w with
 | tup ws=>
  have r1':=r1
  rw [Rep] at r1
  obtain ⟨p,xs,ev,hs,_⟩:=r1
  subst ev
  exact .inr ⟨p,rfl,⟨xs,hs⟩,k _ _ ⟨μ1,⟨ws,none⟩,h1,e1,R1,itt_tup r1',m1⟩⟩
 | lst ws=>
  have r1':=r1
  rw [Rep] at r1
  obtain ⟨p,xs,ev,hs,_⟩:=r1
  subst ev
  exact .inl ⟨p,rfl,⟨xs,hs.sq⟩,k _ _ ⟨μ1,⟨ws,none⟩,h1,e1,R1,itl_frz r1',m1⟩⟩
 | kls ws=>
  have r1':=r1
  rw [Rep] at r1
  obtain ⟨p,xs,ev,hs,_⟩:=r1
  subst ev
  exact .inl ⟨p,rfl,⟨xs,hs.sq⟩,k _ _ ⟨μ1,⟨ws,none⟩,h1,e1,R1,itl_kls r1',m1⟩⟩
 | loc n=>
  have r1':=r1
  rw [Rep] at r1
  obtain ⟨p,ev,hm⟩:=r1
  subst ev
  unfold srcA at m1
  dsimp only at m1
  cases ec:h1.c n with
  | none=>rw [ec] at m1;exact m1.elim
  | some cl=>
   rw [ec] at m1
   cases cl with
   | lst ws=>
    obtain ⟨p',xs,hm',hx,rs⟩:=R1.lstAt ec
    have ep:p'=p:=by rw [hm] at hm';exact (Option.some.inj hm').symm
    subst ep
    exact .inl ⟨p',rfl,⟨xs,.of hx⟩,k _ _ ⟨μ1,⟨ws,some (n,ws)⟩,h1,e1,R1,itl_cell r1',m1⟩⟩
   | _=>exact m1.elim
 | _=>exact m1.elim
def rngW (lo:Int)(n:Nat):List W:=(List.range n).map fun (k:Nat)=>.int (lo+(k:Int))
theorem itr_ok {K:PySem.W.Frag}{H:Hp}{μ : Mu}{lo:Int}{n:Nat}:ItOk K (Itr lo n) ⟨rngW lo n,none⟩ H μ:=by
 intro H2 μ2 h2 i e R2 _
 refine ⟨fun w ew=>?_,fun hl=>?_⟩
 ·have hi:i<n:=by
   have:=(List.getElem?_eq_some_iff.mp ew).1
   simpa [rngW] using this
  have ew':w=.int (lo+(i:Int)):=by
   unfold rngW at ew
   rw [List.getElem?_map,List.getElem?_range hi] at ew
   exact (Option.some.inj ew).symm
  subst ew'
  refine ⟨hi,fun x H3 ⟨e3,y⟩=>?_⟩
  subst e3
  exact ⟨μ2,.refl,R2,by rw [Rep];exact y⟩
 ·have:n≤i:=by simpa [rngW] using hl
  exact this
def rgOk (j:Int)(P:Prop):Prop:=by2 (decide (-1000≤j)&&decide (j≤1000)) P ((-(2^62)≤j∧j<2^62)∧P)
theorem rgOk.ok {j:Int}{P:Prop}(h:rgOk j P):(-(2^62)≤j∧j<2^62)∧P:=by
 unfold rgOk at h
 cases e:(decide (-1000≤j)&&decide (j≤1000)) with
 | true=>
  rw [e] at h
  rw [Bool.and_eq_true,decide_eq_true_iff,decide_eq_true_iff] at e
  exact ⟨⟨by omega,by omega⟩,h⟩
 | false=>rw [e] at h;exact h
theorem rgOk.mk {j:Int}{P:Prop}(h1:-(2^62)≤j)(h2:j<2^62)(h:P):rgOk j P:=by
 unfold rgOk
 cases e:(decide (-1000≤j)&&decide (j≤1000)) with
 | true=>exact h
 | false=>exact ⟨⟨h1,h2⟩,h⟩
def nQ (ma:MA):MI:=fun σ h R=>ma σ h fun ws h1=>match ws with
 | [.int j]=>rgOk j (R ⟨rngW 0 j.toNat,none⟩ h1)
 | _=>False
theorem dh {a:Expr}{mr:MA}{p pos:Pos}(hg:Gl X "range")(hm:X.mg "range" = none)(ha:DAs X [a] mr)(hs:starEach [a] X.env=[(false,eval a X.env)]:=by rfl):DIt X tg (.Call (.Name "range" p) [a] [] pos) (nQ mr):=
 PI.of (pi_range1 hg hm ha hs) fun σ H Q ⟨μ,h,σw,Rw,R,S,m,k⟩=>by
  refine ⟨μ,h,σw,_,R,S,m,fun vs H1 ⟨μ1,ws,h1,e1,R1,r1,m1⟩=>?_⟩
  dsimp only at m1
  split at m1
  ·rename_i j
   rw [aJ] at r1
   obtain ⟨v,vr,ev,ra,r1⟩:=r1
   rw [aJ] at r1
   rw [Rep] at ra
   subst ev r1 ra
   exact ⟨j,rfl,m1.ok.1.1,m1.ok.1.2,k _ _ ⟨μ1,_,h1,e1,R1,itr_ok,m1.ok.2⟩⟩
  ·exact m1.elim
def Src.go (s:Src)(h:Gh)(P:Prop):Prop:=match s.cell with
 | none=>P
 | some n=>h.c n.1=some (.lst n.2)∧P
theorem Src.go_ok {s:Src}{h:Gh}{P:Prop}(x:s.go h P):s.chk h∧P:=by
 unfold Src.go at x
 unfold Src.chk
 cases e:s.cell with
 | none=>rw [e] at x;exact ⟨trivial,x⟩
 | some n=>rw [e] at x;exact x
def dZ (s:Src)(g:MG)(b:MS)(D:bF):List W→Sw→Gh→Prop
 | [],σ,h=>s.go h (D.nx σ h)
 | w::r,σ,h=>s.go h (g w σ h fun σ1 h1=>b { D with nx:=dZ s g b D r,ct:=dZ s g b D r,bk:=D.nx } σ1 h1)
def mFor (mi:MI)(g:MG)(b:MS):MS:=fun D σ h=>mi σ h fun s h1=>dZ s g b D s.ws σ h1
theorem oh {iter:Expr}{body:List Stmt}{mi:MI}{g:MG}{mb0:MS}{pos:Pos}(hp:PassesOwn (model X.prog X.w) X.A X.env X.xe)(hc:X.calm=true)(hi:DIt X tg iter mi)(hg:DG X tg g)(hb:DSs X body mb0)
  (hs:∀ x,foldedSetIterable iter X.env x=pure x:=by intro _;rfl):DS X (.For tg iter body [] pos) (mFor mi g mb0):=(ps_for hp hc hi hg hb hs).of fun D σ H ⟨μ,h,σw,Dw,R,S,m,k⟩=>by
 refine ⟨μ,h,σw,_,R,S,m,fun J H1 ⟨μ1,src,h1,e1,R1,ok,m1⟩=>?_⟩
 refine ⟨fun i n σ' H'=>n=src.ws.length - i∧i≤src.ws.length∧DN X.K H1 μ1 (dZ src g mb0 Dw (src.ws.drop i)) σ' H',⟨src.ws.length,by simp,Nat.zero_le _,μ1,σw,h1,.refl,R1,S.ext e1,by rw [List.drop_zero];exact m1⟩,?_⟩
 rintro i n σ2 H2 ⟨hn,hle,μ2,σw2,h2,e2,R2,S2,m2⟩
 by_cases hlt:i<src.ws.length
 ·rw [List.drop_eq_getElem_cons hlt] at m2
  obtain ⟨ck,m2⟩:=Src.go_ok m2
  obtain ⟨hgo,hy⟩:=(ok e2 R2 ck).1 src.ws[i] (List.getElem?_eq_getElem hlt)
  refine .inr ⟨hgo,fun σ' H'=>DN X.K H2 μ2 (dZ src g mb0 Dw (src.ws.drop (i+1))) σ' H',fun σ' H' z=>⟨src.ws.length - (i+1),by omega,rfl,hlt,z.trans e2⟩,fun x H3 y=>?_⟩
  obtain ⟨μ3,e3,R3,rx⟩:=hy x H3 y
  refine ⟨μ3,h2,σw2,src.ws[i],_,R3,S2.ext e3,rx,m2,fun σ4 H4 ⟨μ4,σw4,h4,e4,R4,S4,m4⟩=>?_⟩
  have e24:=e3.trans e4
  have e14:=(e1.trans e2).trans e24
  exact ⟨μ4,h4,σw4,_,R4,S4,m4,fun σ' H' z=>z.trans e24,fun v H' z=>k.rt _ _ (z.trans e14),fun σ' H' z=>k.nx _ _ (z.trans e14),fun σ' H' z=>z.trans e24⟩
 ·have ei:i=src.ws.length:=by omega
  subst ei
  rw [List.drop_length] at m2
  obtain ⟨ck,m2⟩:=Src.go_ok m2
  exact .inl ⟨(ok e2 R2 ck).2 (Nat.le_refl _),k.nx _ _ ⟨μ2,σw2,h2,e1.trans e2,R2,S2,m2⟩⟩
def oV (ix:List Nat)(σ : Sw):Sw:=ix.map fun i=>(σ[i]?).getD none
theorem Slots.blk {K:PySem.W.Frag}{H:Hp}{μ : Mu}{σw:Sw}{σ : St}{ix:List Nat}(S:Slots K H μ σw σ):∀ {ws:List W} {vs:List V},aJ K H μ ws vs→Slots K H μ (ws.map some++oV ix σw) (vs.map some++blkσ ix σ):=by
 intro ws vs r
 have hl:=r.len
 refine ⟨by simp [oV,blkσ,hl],fun i u q=>?_⟩
 by_cases hi:i<ws.length
 ·rw [List.getElem?_append_left (by simpa using hi),List.getElem?_map] at q
  have q':ws[i]?=some u:=by
   cases e:ws[i]? with
   | none=>rw [e] at q;cases q
   | some a=>rw [e] at q;simpa using q
  obtain ⟨v,hv,rv⟩:=r.get q'
  refine ⟨v,?_,rv⟩
  rw [List.getElem?_append_left (by rw [List.length_map];omega),List.getElem?_map,hv]
  rfl
 ·rw [List.getElem?_append_right (by simpa using hi),List.length_map] at q
  rw [List.getElem?_append_right (by rw [List.length_map];omega),List.length_map,←hl]
  generalize i - ws.length=i at q ⊢
  unfold oV at q
  unfold blkσ
  rw [List.getElem?_map] at q ⊢
  cases e:ix[i]? with
  | none=>rw [e] at q;cases q
  | some j=>
   rw [e] at q
   cases e2:σw[j]? with
   | none=>simp [e2] at q
   | some o=>
    have eo:o=some u:=by simpa [e2] using q
    subst eo
    obtain ⟨v',h1,h2⟩:=S.get j u e2
    exact ⟨v',by simp [h1],h2⟩
def yC:MT:=fun _ h Q=>Q true h
def lu (s:Src)(own:W→Option (List W))(ix:List Nat)(tt:MT)(te:ME)(σ : Sw)(Q:WK):List W→List W→Gh→Prop
 | [],acc,h=>s.go h (Q (.lst acc) h)
 | w::r,acc,h=>s.go h (match own w with
  | some vs=>tt (vs.map some++oV ix σ) h fun c h1=>by2 c (te (vs.map some++oV ix σ) h1 fun v h2=>lu s own ix tt te σ Q r (acc++[v]) h2) (lu s own ix tt te σ Q r acc h1)
  | none=>False)
def mLC (own:W→Option (List W))(ix:List Nat)(mi:MI)(tt:MT)(te:ME):ME:=fun σ h Q=>mi σ h fun s h1=>kO s.ws.length (lu s own ix tt te σ Q s.ws [] h1)
def xX (K:PySem.W.Frag)(n:Nat)(own:V→Hp→List V→Prop)(ow:W→Option (List W)):Prop:=∀ {H:Hp} {μ : Mu} {w:W} {v:V} {ws:List W},Rep K H μ w v→ow w=some ws→∃ vs,own v H vs∧vs.length=n∧aJ K H μ ws vs
def ow1 (w:W):Option (List W):=some [w]
def ov1:V→Hp→List V→Prop:=fun v _ vs=>vs=[v]
theorem j9 {K:PySem.W.Frag}:xX K 1 ov1 ow1:=by
 intro H μ w v ws r e
 cases (show some [w]=some ws from e)
 exact ⟨[v],rfl,rfl,.one r⟩
abbrev DIfs (X:Cx)(ifs:List Expr)(m:MT):Prop:=PIfs X ifs (tDT X.K m)
theorem iy:DIfs X [] yC:=fun pins s σ H Q I ⟨μ,h,σw,Qw,R,S,m,k⟩=>pif_nil pins s σ H Q I (k _ _ ⟨μ,h,.refl,R,m⟩)
theorem mq (h:DT X c t):DIfs X [c] t:=pif_one h
theorem lc_of {K:PySem.W.Frag}{σ : St}{H:Hp}{Q:VK}{n:Nat}{own:V→Hp→List V→Prop}{ow:W→Option (List W)}{ix:List Nat}{mi:MI}{tt:MT}{te:ME}(oo:xX K n own ow)(q:tD K (mLC ow ix mi tt te) σ H Q):tLC n own ix (tDI K mi) (tDT K tt) (tD K te) σ H Q:=by
 obtain ⟨μ,h,σw,Qw,R,S,m,k⟩:=q
 refine ⟨μ,h,σw,_,R,S,m,fun J H1 ⟨μ1,src,h1,e1,R1,ok,hz0⟩=>?_⟩
 obtain ⟨hz,m1⟩:=hz0.ok
 intro D hD
 have nD:=R1.nohid hD
 have hD1:Ext K H1 μ1 (upd H1 D (.lst [])) (μ1.hide D):=Ext.hide hD
 refine ⟨fun i n ys H'=>n=src.ws.length - i∧i≤src.ws.length∧ys.length≤i∧H' D=some (.lst ys)∧∃ μ' acc h',Ext K H1 μ1 H' μ'∧Rel K μ' H' h'∧μ'.hid D∧aJ K H' μ' acc ys∧lu src ow ix tt te σw Qw (src.ws.drop i) acc h',
  ⟨src.ws.length,by simp,Nat.zero_le _,Nat.le_refl _,aL,μ1.hide D,[],h1,hD1,R1.hide hD,.inl rfl,.nil,by rw [List.drop_zero];exact m1⟩,?_⟩
 rintro i n' ys H2 ⟨hn,hle,hys,hH2,μ2,acc,h2,e2,R2,hid2,ra,m2⟩ _
 by_cases hlt:i<src.ws.length
 ·rw [List.drop_eq_getElem_cons hlt] at m2
  obtain ⟨ck,m2⟩:=Src.go_ok m2
  obtain ⟨hgo,hy⟩:=(ok e2 R2 ck).1 src.ws[i] (List.getElem?_eq_getElem hlt)
  refine .inr ⟨hgo,by omega,fun x H3 y=>?_⟩
  obtain ⟨μ3,e3,R3,rx⟩:=hy x H3 y
  have e13:=e2.trans e3
  cases eo:ow src.ws[i] with
  | none=>rw [eo] at m2;exact m2.elim
  | some us=>
   rw [eo] at m2
   obtain ⟨vs,hov,hvl,rvs⟩:=oo rx eo
   have S3:=(S.ext (e1.trans e13)).blk (ix:=ix) rvs
   refine ⟨vs,hov,hvl,μ3,h2,_,_,R3,S3,m2,fun b H4 ⟨μ4,h4,e4,R4,m4⟩=>?_⟩
   have e24:=e3.trans e4
   obtain ⟨hid4,hH4⟩:=e24.o D _ hid2 hH2
   cases b with
   | false=>
    dsimp only
    rw [if_neg Bool.false_ne_true]
    exact ⟨hH4,src.ws.length - (i+1),by omega,rfl,hlt,by omega,hH4,μ4,acc,h4,e2.trans e24,R4,hid4,e24.s ra,m4⟩
   | true=>
    dsimp only
    rw [if_pos rfl]
    refine ⟨μ4,h4,_,_,R4,S3.ext e4,m4,fun v H5 ⟨μ5,w5,h5,e5,R5,r5,m5⟩=>?_⟩
    have e25:=e24.trans e5
    obtain ⟨hid5,hH5⟩:=e25.o D _ hid2 hH2
    have g:=ExtX.grow (ys:=ys++[v]) R5 hid5
    have rs:aJ K (upd H5 D (.lst (ys++[v]))) μ5 (acc++[w5]) (ys++[v]):=aJ.ex (Ex0.grow R5 hid5) (aJ.append (e25.s ra) (aJ.one r5))
    exact ⟨hH5,src.ws.length - (i+1),by omega,rfl,hlt,by rw [List.length_append];simp;omega,aL,μ5,acc++[w5],h5,(e2.trans e25).x nD g,R5.grow hid5,hid5,rs,m5⟩
 ·have ei:i=src.ws.length:=by omega
  subst ei
  rw [List.drop_length] at m2
  obtain ⟨ck,m2⟩:=Src.go_ok m2
  exact .inl ⟨(ok e2 R2 ck).2 (Nat.le_refl _),k _ _ ⟨μ2.unhide D,.lst acc,h2,e1.trans (e2.x nD .unhide),R2.unhide,Rep.built R2 hid2 hH2 ra,m2⟩⟩
variable {scope:Scope}{x:Str}{xs:List Str}{ix:List Nat}{elt iter:Expr}{ifs:List Expr}{px:Pos}{mi:MI}{tt:MT}{te:ME}
theorem j8 (B:iz X scope [x] ix)(C:Addr)(s:Shared)(H:Hp)(fp:List Addr):PG (blk X scope (fY X [x] ix) C s H fp) (.Name x px) (gOwn 1 ov1):=by
 obtain ⟨o1,o2⟩:=own_ok B (y:=x) (by simp)
 intro pins s' σ H' v u Q I r ⟨vs,hv,hl,q⟩
 cases hv
 refine bO (X:=blk X scope (fY X [x] ix) C s H fp) (i:=0) B.nd rfl o1 o2 pins s' σ H' v u Q I r ?_
 have hlen:σ.length=(fY X [x] ix).length:=I.len
 cases σ with
 | nil=>simp at hlen
 | cons o σ=>exact q
theorem d_lc {own:V→Hp→List V→Prop}{ow:W→Option (List W)}(ix:List Nat)(hc:X.calm=true)(B:iz X scope xs ix)(oo:xX X.K xs.length own ow)(hg:∀ C s H fp,PG (blk X scope (fY X xs ix) C s H fp) tg (gOwn xs.length own))(hi:DIt X tg iter mi)
  (ht:∀ C s H fp,DIfs (blk X scope (fY X xs ix) C s H fp) ifs tt) (he:∀ C s H fp,DE (blk X scope (fY X xs ix) C s H fp) elt te)
  (hs:∀ v,foldedSetIterable iter X.env v=pure v:=by intro _;rfl):DE X (.ListComp elt [⟨tg,iter,ifs,0⟩] scope pos) (mLC ow ix mi tt te):=(pe_lc ix hc B hg hi ht he hs).of fun _ _ _ q=>lc_of oo q
theorem w6 {own:V→Hp→List V→Prop}{ow:W→Option (List W)}(ix:List Nat){i:Nat}{y:Str}{py spos:Pos}(hN:X.N.Nodup)(hi':X.N[i]?=some y)(hy:Loc X.env.scope y)(hc:X.calm=true)(B:iz X scope xs ix)(oo:xX X.K xs.length own ow)
  (hg:∀ C s H fp,PG (blk X scope (fY X xs ix) C s H fp) tg (gOwn xs.length own)) (hi:DIt X tg iter mi)
  (ht:∀ C s H fp,DIfs (blk X scope (fY X xs ix) C s H fp) ifs tt) (he:∀ C s H fp,DE (blk X scope (fY X xs ix) C s H fp) elt te)
  (hsw:swapsWith (.ListComp elt [⟨tg,iter,ifs,0⟩] scope pos) (some (.Name y py)) spos.line X.env=pure true:=by rfl)
  (hf:X.fn y=true∨X.env.scope.names.lookup y=some .local:=by first | exact .inl rfl | exact .inr rfl | assumption)
  (hs:∀ v,foldedSetIterable iter X.env v=pure v:=by intro _;rfl):DS X (.Assign [.Name y py] (.ListComp elt [⟨tg,iter,ifs,0⟩] scope pos) spos) (cj (mLC ow ix mi tt te) (nName i)):=
 (ps_lc ix hN hi' hy hc B hg hi ht he hsw hf hs).of fun _ _ _ q=>set_of (fun _ _ _ z=>lc_of oo z) q
theorem cutF {κ : Type}{K:PySem.W.Frag}{H0 H:Hp}{μ0 μ : Mu}{k:Nat}(hd:∀ n p,μ0.f n=some p→n<k):∀ {fs:List (κ×W)} {f0 fv:List (κ×V)},jW K H0 μ0 fs f0→jW K H μ fs fv→jW K H (μ.cut k) fs fv
 | [],_,_,_,.nil=>.nil
 | _::_,_,_,.cons a b,.cons c d=>.cons ⟨c.1,Rep.cut c.2 (Rep.lo hd a.2)⟩ (cutF hd b d)
def uO (pure:Bool)(h:Gh)(w:W)(h':Gh)(Q:WK):Prop:=match pure with
 | false=>Q w h'
 | true=>(∀ n c,n<h.nx→h.c n=some c→h'.c n=some c)∧((Lo h.nx w∧Q w h)∨∃ n ws,w=.loc n∧h.nx≤n∧h'.c n=some (.lst ws)∧Los h.nx ws∧Q (.lst ws) h)
def mFn (n N:Nat)(pure:Bool)(body:XWK→MS):MSp:=fun ws h Q E=>by2 (Nat.beq ws.length n)
 (body E { nx:=fun _ h'=>uO pure h .non h' Q,rt:=fun w h'=>uO pure h w h' Q } (ws.map some++List.replicate (N - ws.length) none) h) False
theorem vU {n N:Nat}{pure:Bool}{body:XWK→MS}{ws:List W}{h:Gh}{Q:WK}{E:XWK}(x:mFn n N pure body ws h Q E):ws.length=n ∧
  body E { nx:=fun _ h'=>uO pure h .non h' Q,rt:=fun w h'=>uO pure h w h' Q } (ws.map some++List.replicate (N - ws.length) none) h:=by
 unfold mFn at x
 cases e:Nat.beq ws.length n with
 | true=>rw [e] at x;exact ⟨Nat.eq_of_beq_eq_true e,x⟩
 | false=>rw [e] at x;exact (show False from x).elim
theorem Rel.cut {K:PySem.W.Frag}{H H':Hp}{μ μ':Mu}{h h':Gh}(R:Rel K μ H h)(R':Rel K μ' H' h')(e:Ext K H μ H' μ')(hc:∀ n c,h.c n=some c→h'.c n=some c):Rel K (μ'.cut h.nx) H' h where
 inj:=fun m n p a b=>R'.inj m n p (Mu.cut_some a).2 (Mu.cut_some b).2
 dom:=fun n p a=>(Mu.cut_some a).1
 trk:=fun n p a=>R'.trk n p (Mu.cut_some a).2
 cel:=fun n c a=>by
  obtain ⟨p0,m0,x0⟩:=R.cel n c a
  obtain ⟨p,m,x⟩:=R'.cel n c (hc n c a)
  have hn:=R.dom n p0 m0
  refine ⟨p,by show (if n<h.nx then μ'.f n else none)=some p;rw [if_pos hn];exact m,?_⟩
  cases c with
  | lst ws=>
   obtain ⟨xs0,_,r0⟩:=x0
   obtain ⟨xs,hx,r⟩:=x
   exact ⟨xs,hx,aJ.cut r (aJ.lo R.dom r0)⟩
  | obj C fs=>
   obtain ⟨dx0,f0,_,r0⟩:=x0
   obtain ⟨dx,fv,hx,r⟩:=x
   exact ⟨dx,fv,hx,cutF R.dom r0 r⟩
  | dct kvs=>
   obtain ⟨f0,_,r0⟩:=x0
   obtain ⟨fv,hx,r⟩:=x
   exact ⟨fv,hx,cutF R.dom r0 r⟩
  | dtt kvs=>
   obtain ⟨_,_,_,_,_,d0,f0⟩:=x0
   obtain ⟨xs,vs,a,b,c,d,f⟩:=x
   exact ⟨xs,vs,a,b,c,aJ.cut d (aJ.lo R.dom d0),aJ.cut f (aJ.lo R.dom f0)⟩
 hd:=fun p z=>⟨(R'.hd p z).1,fun n a=>(R'.hd p z).2 n (Mu.cut_some a).2⟩
theorem Ext.cut {K:PySem.W.Frag}{H H':Hp}{μ μ':Mu}{h:Gh}(R:Rel K μ H h)(e:Ext K H μ H' μ'):Ext K H μ H' (μ'.cut h.nx):=
 ⟨fun w v r=>Rep.cut (e.r w v r) (Rep.lo R.dom r),fun p u z a=>e.o p u z a⟩
theorem qG {K:PySem.W.Frag}{H H':Hp}{μ μ':Mu}{h h':Gh}{w:W}{v:V}{Q:WK}{pure:Bool}(R:Rel K μ H h)(e:Ext K H μ H' μ')(R':Rel K μ' H' h')(r:Rep K H' μ' w v)(x:uO pure h w h' Q):DQ K H μ Q v H':=by
 cases pure with
 | false=>exact ⟨μ',w,h',e,R',r,x⟩
 | true=>
  obtain ⟨hc0,⟨lo,q⟩ | ⟨n,ws,ew,hn,ec,lo,q⟩⟩:=x
  all_goals have hc:∀ n c,h.c n=some c→h'.c n=some c:=fun n c a=>hc0 n c (let ⟨p,m,_⟩:=R.cel n c a;R.dom n p m) a
  ·exact ⟨μ'.cut h.nx,w,h,e.cut R,R.cut R' e hc,Rep.cut r lo,q⟩
  ·subst ew
   refine ⟨μ'.cut h.nx,.lst ws,h,e.cut R,R.cut R' e hc,?_,q⟩
   rw [Rep] at r
   rw [Rep]
   obtain ⟨p,ev,hm⟩:=r
   obtain ⟨p',xs,hm',hx,rs⟩:=R'.lstAt ec
   have ep:p'=p:=by rw [hm] at hm';exact (Option.some.inj hm').symm
   subst ep
   refine ⟨p',xs,ev,⟨hx,fun m a=>?_,fun z=>(R'.hd p' z).2 n hm⟩,aJ.cut rs lo⟩
   obtain ⟨a1,a2⟩:=Mu.cut_some a
   have:=R'.inj m n p' a2 hm
   omega
theorem lX {K:PySem.W.Frag}{H:Hp}{μ : Mu}{N:List Str}:∀ {ws:List W} {vs:List V},aJ K H μ ws vs→Slots K H μ (ws.map some++List.replicate (N.length - ws.length) none) (start N vs):=by
 intro ws vs r
 have hl:=r.len
 refine ⟨by simp [start,hl],fun i w q=>?_⟩
 by_cases hi:i<ws.length
 ·rw [List.getElem?_append_left (by simpa using hi),List.getElem?_map] at q
  have q':ws[i]?=some w:=by
   cases e:ws[i]? with
   | none=>rw [e] at q;cases q
   | some a=>rw [e] at q;simpa using q
  obtain ⟨v,hv,rv⟩:=r.get q'
  refine ⟨v,?_,rv⟩
  unfold start
  rw [List.getElem?_append_left (by rw [List.length_map];omega),List.getElem?_map,hv]
  rfl
 ·rw [List.getElem?_append_right (by simpa using hi),List.getElem?_replicate] at q
  split at q <;> cases q
theorem jB {P:Program}{w:World}{K:PySem.W.Frag}{mg:Str→Option Value}{base:Heap}{x qual:Str}{st:Stmt}{f:Addr}{fd:FuncData}{N ps:List Str}{k:Nat}{pure:Bool}{body:XWK→MS}(F:Fun K x qual st f fd)(S:aP N ps (aH st))
  (hb:∀ (cdv:Value) (A:Around) (outer:List Env) (s:Shared) (H:Hp) (E:XK),eN k (A.deeper (envOfC qual (aH st) s.heap.objs.size f cdv)) →
   DSs (cxOf CX0 P w K mg base N qual (aH st) f cdv A outer s H E).nox (dW st) (body EF)):bT P w K mg base CX0 (k+1) f fd ps (lift K (mFn ps.length N.length pure body)):=by
 refine F.ok S (fun vs H Q E ⟨μ,h,ws,Qw,R,r,m,k⟩=>by rw [←r.len];exact (vU m).1) (fun cdv A outer s H vs Q E hr ⟨μ,h,ws,Qw,R,r,m0,k⟩=>?_)
 obtain ⟨hl,m⟩:=vU m0
 refine ⟨_,hb cdv A outer s H E hr,μ,h,_,_,R,lX r,m,?_,?_,?_,?_⟩
 ·rintro σ' H' ⟨μ1,σw1,h1,e1,R1,S1,m1⟩
  exact k _ _ (qG (w:=.non) R e1 R1 (by rw [Rep]) m1)
 ·rintro v H' ⟨μ1,w1,h1,e1,R1,r1,m1⟩
  exact k _ _ (qG R e1 R1 r1 m1)
 ·rintro σ' H' ⟨μ1,σw1,h1,e1,R1,S1,m1⟩
  exact m1.elim
 ·rintro σ' H' ⟨μ1,σw1,h1,e1,R1,S1,m1⟩
  exact m1.elim
end
end L2
namespace L2
open PySem PySem.Spec PyProof.Rows
section
variable {X:Cx}{K:PySem.W.Frag}
theorem DQ.int {H:Hp}{μ : Mu}{h:Gh}{i:Int}{Q:WK}(R:Rel K μ H h)(q:Q (.int i) h):DQ K H μ Q (.int i) H:=⟨μ,.int i,h,.refl,R,by rw [Rep],q⟩
theorem DQ.bl {H:Hp}{μ : Mu}{h:Gh}{i:Bool}{Q:WK}(R:Rel K μ H h)(q:Q (.bl i) h):DQ K H μ Q (.bl i) H:=⟨μ,.bl i,h,.refl,R,by rw [Rep],q⟩
def kI (C:Int→Int→Prop)(g:Int→Int→Int):M2:=fun x y h Q=>match x,y with
 | .int i,.int j=>C i j∧Q (.int (g i j)) h
 | _,_=>False
def vO:M2:=fun x y h Q=>match x,y with
 | .int i,.int j=>Q (.int (i - j)) h
 | _,_=>False
theorem mF:DOp X (binaryOp .Sub) vO:=⟨_,op_sub,by
 intro H μ h x y wx wy Qw Q R rx ry m k
 unfold vO at m
 split at m
 ·rw [Rep] at rx ry
  exact ⟨_,_,rx,ry,k _ _ (.int R m)⟩
 ·exact m.elim⟩
def sS:M2:=fun x y h Q=>match x,y with
 | .int i,.int j=>qb i j∧Q (.int (i*j)) h
 | _,_=>False
theorem jh:DOp X (binaryOp .Mult) sS:=⟨_,op_mulB,by
 intro H μ h x y wx wy Qw Q R rx ry m k
 unfold sS at m
 split at m
 ·rw [Rep] at rx ry
  exact ⟨_,_,rx,ry,m.1,k _ _ (.int R m.2)⟩
 ·exact m.elim⟩
def kDiv:M2:=fun x y h Q=>match x,y with
 | .int i,.int j=>CDivBN i j∧Q (.int (i.fdiv j)) h
 | _,_=>False
theorem zK:DOp X (binaryOp .FloorDiv) kDiv:=⟨_,zm,by
 intro H μ h x y wx wy Qw Q R rx ry m k
 unfold kDiv at m
 split at m
 ·rw [Rep] at rx ry
  exact ⟨_,_,rx,ry,m.1,k _ _ (.int R m.2)⟩
 ·exact m.elim⟩
def yt:M2:=fun x y h Q=>match x,y with
 | .int i,.int j=>j≠0∧Q (.int (i.fmod j)) h
 | _,_=>False
theorem pD:DOp X (binaryOp .Mod) yt:=⟨_,op_modN,by
 intro H μ h x y wx wy Qw Q R rx ry m k
 unfold yt at m
 split at m
 ·rw [Rep] at rx ry
  exact ⟨_,_,rx,ry,m.1,k _ _ (.int R m.2)⟩
 ·exact m.elim⟩
def kPow:M2:=fun x y h Q=>match x,y with
 | .int i,.int j=>CPow i j∧Q (.int (i^j.toNat)) h
 | _,_=>False
theorem o_pow:DOp X (binaryOp .Pow) kPow:=⟨_,op_pow,by
 intro H μ h x y wx wy Qw Q R rx ry m k
 unfold kPow at m
 split at m
 ·rw [Rep] at rx ry
  exact ⟨_,_,rx,ry,m.1,k _ _ (.int R m.2)⟩
 ·exact m.elim⟩
def kLt:M2:=fun x y h Q=>match x,y with
 | .int i,.int j=>Q (.bl (decide (i<j))) h
 | _,_=>False
theorem o_lt:DOp X (compareOp .Lt) kLt:=⟨_,op_lt,by
 intro H μ h x y wx wy Qw Q R rx ry m k
 unfold kLt at m
 split at m
 ·rw [Rep] at rx ry
  exact ⟨_,_,rx,ry,k _ _ (.bl R m)⟩
 ·exact m.elim⟩
def kLe:M2:=fun x y h Q=>match x,y with
 | .int i,.int j=>Q (.bl (decide (i≤j))) h
 | _,_=>False
theorem o_le:DOp X (compareOp .LtE) kLe:=⟨_,op_le,by
 intro H μ h x y wx wy Qw Q R rx ry m k
 unfold kLe at m
 split at m
 ·rw [Rep] at rx ry
  exact ⟨_,_,rx,ry,k _ _ (.bl R m)⟩
 ·exact m.elim⟩
def kGt:M2:=fun x y h Q=>match x,y with
 | .int i,.int j=>Q (.bl (decide (j<i))) h
 | _,_=>False
theorem o_gt:DOp X (compareOp .Gt) kGt:=⟨_,op_gt,by
 intro H μ h x y wx wy Qw Q R rx ry m k
 unfold kGt at m
 split at m
 ·rw [Rep] at rx ry
  exact ⟨_,_,rx,ry,k _ _ (.bl R m)⟩
 ·exact m.elim⟩
theorem aJ.ne_nil {H:Hp}{μ : Mu}{ws:List W}{xs:List V}(r:aJ K H μ ws xs):xs=[]↔ws=[]:=by
 have:=r.len
 constructor
 ·intro e;subst e;exact List.eq_nil_of_length_eq_zero this
 ·intro e;subst e;exact List.eq_nil_of_length_eq_zero this.symm
def kIx:M2:=fun x y h Q=>match y with
 | .int i=>(match view h x with
  | some ws=>(match atI ws i with
   | some w=>Q w h
   | none=>False)
  | none=>False)
 | _=>False
theorem aJ.at {H:Hp}{μ : Mu}{ws:List W}{xs:List V}{i:Int}{w:W}(r:aJ K H μ ws xs)(e:atI ws i=some w):∃ v,atI xs i=some v∧Rep K H μ w v:=by
 unfold atI at e ⊢
 rw [←r.len]
 cases q:ixN ws.length i with
 | none=>rw [q] at e;cases e
 | some j=>rw [q] at e;exact r.get e
theorem cT {H:Hp}{μ : Mu}{h:Gh}{w:W}{v:V}{ws:List W}(R:Rel K μ H h)(r:Rep K H μ w v)(e:fB h w=some ws):∃ p xs,v=.ref p∧SqL K H p xs∧aJ K H μ ws xs:=by
 cases w with
 | lst us=>
  rw [Rep] at r
  obtain ⟨p,xs,ev,hs,rs⟩:=r
  cases (show some us=some ws from e)
  exact ⟨p,xs,ev,hs.sq,rs⟩
 | kls us=>
  rw [Rep] at r
  obtain ⟨p,xs,ev,hs,rs⟩:=r
  cases (show some us=some ws from e)
  exact ⟨p,xs,ev,hs.sq,rs⟩
 | loc n=>
  rw [Rep] at r
  obtain ⟨p,ev,hm⟩:=r
  unfold fB at e
  dsimp only at e
  cases ec:h.c n with
  | none=>rw [ec] at e;cases e
  | some cl=>
   rw [ec] at e
   cases cl with
   | lst us=>
    cases (show some us=some ws from e)
    obtain ⟨p',xs,hm',hx,rs⟩:=R.lstAt ec
    have ep:p'=p:=by rw [hm] at hm';exact (Option.some.inj hm').symm
    subst ep
    exact ⟨p',xs,ev,.of hx,rs⟩
   | _=>cases e
 | _=>cases e
theorem pA {H:Hp}{μ : Mu}{h:Gh}{w:W}{v:V}{ws:List W}(R:Rel K μ H h)(r:Rep K H μ w v)(e:view h w=some ws):∃ p xs,v=.ref p∧(SqL K H p xs∨SqT K H p xs)∧aJ K H μ ws xs:=by
 cases w with
 | tup us=>
  rw [Rep] at r
  obtain ⟨p,xs,ev,hs,rs⟩:=r
  cases (show some us=some ws from e)
  exact ⟨p,xs,ev,.inr hs,rs⟩
 | lst us=>
  obtain ⟨p,xs,ev,hs,rs⟩:=cT (ws:=ws) R r e
  exact ⟨p,xs,ev,.inl hs,rs⟩
 | kls us=>
  obtain ⟨p,xs,ev,hs,rs⟩:=cT (ws:=ws) R r e
  exact ⟨p,xs,ev,.inl hs,rs⟩
 | loc n=>
  obtain ⟨p,xs,ev,hs,rs⟩:=cT (ws:=ws) R r e
  exact ⟨p,xs,ev,.inl hs,rs⟩
 | _=>cases e
theorem sim_ix:Sim2 K (rIx K) kIx:=by
 intro H μ h x y wx wy Qw Q R rx ry m k
 unfold kIx at m
 split at m
 ·rename_i i
  split at m
  ·rename_i ws ev
   split at m
   ·rename_i w ew
    obtain ⟨p,xs,ex,hs,rs⟩:=pA R rx ev
    obtain ⟨v,hv,rv⟩:=rs.at ew
    rw [Rep] at ry
    have fin:=k _ _ ⟨μ,w,h,.refl,R,rv,m⟩
    rcases hs with hs | hs
    ·exact .inl ⟨p,xs,i,v,ex,ry,hs,hv,fin⟩
    ·exact .inr (.inl ⟨p,xs,i,v,ex,ry,hs,hv,fin⟩)
   ·exact m.elim
  ·exact m.elim
 ·exact m.elim
theorem bG {a b:Expr}{ma mb:ME}{pos:Pos}(ha:DE X a ma)(hb:DE X b mb)(hs:Al b):DE X (.Subscript a b pos) (mOp kIx ma mb):=(pe_ix ix_seq ha hb hs).of fun σ H Q h=>two h fun R r1 r2 m k=>sim_ix R r1 r2 m k
abbrev MO:=Sw→Gh→(Option Int→Gh→Prop)→Prop
def tDO (K:PySem.W.Frag)(m:MO):TO:=fun σ H Q=>∃ μ h σw Qw,Rel K μ H h∧Slots K H μ σw σ∧m σw h Qw∧∀ o H',(∃ μ' h',Ext K H μ H' μ'∧Rel K μ' H' h'∧Qw o h')→Q o H'
abbrev DO (X:Cx)(e:Option Expr)(m:MO):Prop:=PO X e (tDO X.K m)
theorem PO.of {e:Option Expr}{t t':TO}(h:PO X e t)(k:∀ σ H Q,t' σ H Q→t σ H Q):PO X e t':=by
 unfold PO at h ⊢
 intros
 apply h <;> first | assumption | (apply k;assumption)
def mV:MO:=fun _ h Q=>Q none h
def uF (m:ME):MO:=fun σ h Q=>m σ h fun w h1=>match w with
 | .int i=>Q (some i) h1
 | _=>False
theorem uc:DO X none mV:=PO.of po_none fun σ H Q ⟨μ,h,σw,Qw,R,S,m,k⟩=>k _ _ ⟨μ,h,.refl,R,m⟩
theorem lY {e:Expr}{ma:ME}(he:DE X e ma):DO X (some e) (uF ma):=PO.of (po_some he) fun σ H Q ⟨μ,h,σw,Qw,R,S,m,k⟩=>by
 refine ⟨μ,h,σw,_,R,S,m,fun v H1 ⟨μ1,w,h1,e1,R1,r1,m1⟩=>?_⟩
 dsimp only at m1
 split at m1
 ·rw [Rep] at r1;exact ⟨_,r1,k _ _ ⟨μ1,h1,e1,R1,m1⟩⟩
 ·exact m1.elim
def sZ (xs:List W)(lo hi:Option Int):List W:=(xs.drop (HT.sIx xs.length 0 lo)).take (HT.sIx xs.length xs.length hi - HT.sIx xs.length 0 lo)
def mSl (r:W→Option Int→Option Int→Gh→WK→Prop)(m:ME)(l u:MO):ME:=fun σ h Q=>m σ h fun x h1=>l σ h1 fun lo h2=>u σ h2 fun hi h3=>r x lo hi h3 Q
theorem aJ.cutv {H:Hp}{μ : Mu}{ws:List W}{xs:List V}(r:aJ K H μ ws xs)(lo hi:Option Int):aJ K H μ (sZ ws lo hi) (cutV xs lo hi):=by
 unfold sZ cutV
 rw [←r.len]
 exact (r.drop _).take _
end
end L2
namespace L2
open PySem PySem.Spec PyProof.Rows
mutual
def eqW:W→W→Bool
 | .non,.non=>true
 | .bl a,.bl b=>a==b
 | .bl a,.int b=>(if a then 1 else 0)==b
 | .int a,.bl b=>a==(if b then 1 else 0)
 | .int a,.int b=>a==b
 | .str a,.str b=>a==b
 | .tup a,.tup b=>iU a b
 | .lst a,.lst b=>iU a b
 | _,_=>false
def iU:List W→List W→Bool
 | [],[]=>true
 | a::as,b::bs=>eqW a b&&iU as bs
 | _,_=>false
end
def plW:Nat→W→Bool
 | _,.non=>true
 | _,.bl _=>true
 | _,.int _=>true
 | _,.str _=>true
 | n+1,.tup ws=>ws.all (plW n)
 | n+1,.lst ws=>ws.all (plW n)
 | _,_=>false
mutual
def Dt (K:PySem.W.Frag)(H:Hp):W→V→Prop
 | .non,v=>v=.non
 | .bl b,v=>v=.bl b
 | .int i,v=>v=.int i
 | .str x,v=>v=.str x
 | .tup ws,v=>∃ p xs,v=.ref p∧SqT K H p xs∧Dts K H ws xs
 | .lst ws,v=>∃ p xs,v=.ref p∧SqL K H p xs∧Dts K H ws xs
 | .ty _,_=>False
 | .kls _,_=>False
 | .loc _,_=>False
 | .exc _,_=>False
 | .exa _ _,_=>False
def Dts (K:PySem.W.Frag)(H:Hp):List W→List V→Prop
 | [],xs=>xs=[]
 | w::ws,xs=>∃ v vs,xs=v::vs∧Dt K H w v∧Dts K H ws vs
end
section
variable {X:Cx}{K:PySem.W.Frag}{H:Hp}{μ : Mu}{h:Gh}
theorem Dts.len:∀ {ws:List W} {xs:List V},Dts K H ws xs→ws.length=xs.length
 | [],xs,h=>by
  have e:xs=[]:=by rw [Dts] at h;exact h
  rw [e];rfl
 | w::ws,xs,h=>by
  rw [Dts] at h
  obtain ⟨v,vs,e,_,h⟩:=h
  rw [e,List.length_cons,List.length_cons,Dts.len h]
theorem Dts.get:∀ {ws:List W} {xs:List V} {i:Nat} {w:W},Dts K H ws xs→ws[i]?=some w→∃ v,xs[i]?=some v∧Dt K H w v
 | [],_,_,_,_,e=>by simp at e
 | a::ws,xs,0,w,h,e=>by
  rw [Dts] at h
  obtain ⟨v,vs,e1,r,_⟩:=h
  simp at e;subst e;subst e1
  exact ⟨v,rfl,r⟩
 | a::ws,xs,i+1,w,h,e=>by
  rw [Dts] at h
  obtain ⟨v,vs,e1,_,h⟩:=h
  subst e1
  obtain ⟨u,h1,h2⟩:=Dts.get (i:=i) (w:=w) h (by simpa using e)
  exact ⟨u,by simpa using h1,h2⟩
theorem wj {n:Nat}(one:∀ {w:W} {v:V},Rep K H μ w v→plW n w=true→Dt K H w v):∀ {ws:List W} {xs:List V},aJ K H μ ws xs→ws.all (plW n)=true→Dts K H ws xs
 | [],_,h,_=>by rw [aJ] at h;rw [Dts];exact h
 | w::ws,_,h,p=>by
  rw [aJ] at h
  rw [Dts]
  obtain ⟨v,vs,e,r,h⟩:=h
  rw [List.all_cons,Bool.and_eq_true] at p
  exact ⟨v,vs,e,one r p.1,wj one h p.2⟩
theorem dt_of:∀ (n:Nat) {w:W} {v:V},Rep K H μ w v→plW n w=true→Dt K H w v:=by
 intro n
 induction n with
 | zero=>
  intro w v r p
  cases w with
  | non=>rw [Rep] at r;rw [Dt];exact r
  | bl _=>rw [Rep] at r;rw [Dt];exact r
  | int _=>rw [Rep] at r;rw [Dt];exact r
  | str _=>rw [Rep] at r;rw [Dt];exact r
  | _=>simp [plW] at p
 | succ n ih=>
  intro w v r p
  cases w with
  | non=>rw [Rep] at r;rw [Dt];exact r
  | bl _=>rw [Rep] at r;rw [Dt];exact r
  | int _=>rw [Rep] at r;rw [Dt];exact r
  | str _=>rw [Rep] at r;rw [Dt];exact r
  | tup ws=>
   rw [Rep] at r;rw [Dt]
   obtain ⟨p',xs,e,hs,rs⟩:=r
   exact ⟨p',xs,e,hs,wj ih rs (by simpa [plW] using p)⟩
  | lst ws=>
   rw [Rep] at r;rw [Dt]
   obtain ⟨p',xs,e,hs,rs⟩:=r
   exact ⟨p',xs,e,hs.sq,wj ih rs (by simpa [plW] using p)⟩
  | _=>simp [plW] at p
theorem jy:∀ {a b:List W},a.length≠b.length→iU a b=false
 | [],[],h=>absurd rfl h
 | [],_::_,_=>by simp [iU]
 | _::_,[],_=>by simp [iU]
 | a::as,b::bs,h=>by
  rw [iU,jy (a:=as) (b:=bs) (by simpa using h),Bool.and_false]
def eqJW (a b:List W)(j:Nat):Bool:=eqW (a.getD j .non) (b.getD j .non)
theorem jo:∀ {a b:List W},a.length=b.length→(List.range a.length).all (eqJW a b)=iU a b
 | [],[],_=>by simp [iU]
 | [],_::_,h=>by simp at h
 | _::_,[],h=>by simp at h
 | a::as,b::bs,h=>by
  rw [iU,←jo (a:=as) (b:=bs) (by simpa using h),List.length_cons,List.range_succ_eq_map,List.all_cons,List.all_map]
  rfl
mutual
theorem pN {pins:List (Addr×Obj)}{s:Shared}{σ : St}(I:Inv X pins σ H s):∀ {w u:W} {v:V},Dt X.K H w v→Dt X.K H u v→eqW w u=true
 | .non,u,v,h,g=>by rw [Dt] at h;subst h;cases u <;> rw [Dt] at g <;> first | rfl | exact g.elim | (obtain ⟨_,_,g,_⟩:=g;cases g;done) | (cases g;done)
 | .bl b,u,v,h,g=>by rw [Dt] at h;subst h;cases u <;> rw [Dt] at g <;> first | (injection g with g;simp [eqW,g];done) | exact g.elim | (obtain ⟨_,_,g,_⟩:=g;cases g;done) | (cases g;done)
 | .int b,u,v,h,g=>by rw [Dt] at h;subst h;cases u <;> rw [Dt] at g <;> first | (injection g with g;simp [eqW,g];done) | exact g.elim | (obtain ⟨_,_,g,_⟩:=g;cases g;done) | (cases g;done)
 | .str b,u,v,h,g=>by rw [Dt] at h;subst h;cases u <;> rw [Dt] at g <;> first | (injection g with g;simp [eqW,g];done) | exact g.elim | (obtain ⟨_,_,g,_⟩:=g;cases g;done) | (cases g;done)
 | .tup ws,u,v,h,g=>by
  rw [Dt] at h
  obtain ⟨p,xs,e,hs,ds⟩:=h
  subst e
  cases u with
  | tup us=>
   rw [Dt] at g
   obtain ⟨p',xs',e',hs',ds'⟩:=g
   cases e'
   have:=I.tuple_inj hs hs'
   subst this
   rw [eqW]
   exact lV I ds ds'
  | lst us=>
   rw [Dt] at g
   obtain ⟨p',xs',e',hs',ds'⟩:=g
   cases e'
   obtain ⟨_,_,t,_⟩:=I.tuple hs
   obtain ⟨_,_,l,_⟩:=I.list hs'
   exact absurd rfl (SeqAt.ne_of_list_tuple l.isList (show s.heap.IsTuple _ _ from t))
  | ty _=>rw [Dt] at g;exact g.elim
  | loc _=>rw [Dt] at g;exact g.elim
  | kls _=>rw [Dt] at g;exact g.elim
  | _=>rw [Dt] at g;cases g
 | .lst ws,u,v,h,g=>by
  rw [Dt] at h
  obtain ⟨p,xs,e,hs,ds⟩:=h
  subst e
  cases u with
  | lst us=>
   rw [Dt] at g
   obtain ⟨p',xs',e',hs',ds'⟩:=g
   cases e'
   have:=I.list_inj hs hs'
   subst this
   rw [eqW]
   exact lV I ds ds'
  | tup us=>
   rw [Dt] at g
   obtain ⟨p',xs',e',hs',ds'⟩:=g
   cases e'
   obtain ⟨_,_,t,_⟩:=I.tuple hs'
   obtain ⟨_,_,l,_⟩:=I.list hs
   exact absurd rfl (SeqAt.ne_of_list_tuple l.isList (show s.heap.IsTuple _ _ from t))
  | ty _=>rw [Dt] at g;exact g.elim
  | loc _=>rw [Dt] at g;exact g.elim
  | kls _=>rw [Dt] at g;exact g.elim
  | _=>rw [Dt] at g;cases g
 | .ty _,_,_,h,_=>by rw [Dt] at h;exact h.elim
 | .loc _,_,_,h,_=>by rw [Dt] at h;exact h.elim
 | .exc _,_,_,h,_=>by rw [Dt] at h;exact h.elim
 | .exa _ _,_,_,h,_=>by rw [Dt] at h;exact h.elim
 | .kls _,_,_,h,_=>by rw [Dt] at h;exact h.elim
theorem lV {pins:List (Addr×Obj)}{s:Shared}{σ : St}(I:Inv X pins σ H s):∀ {ws us:List W} {vs:List V},Dts X.K H ws vs→Dts X.K H us vs→iU ws us=true
 | [],us,vs,h,g=>by
  rw [Dts] at h;subst h
  cases us with
  | nil=>rfl
  | cons _ _=>rw [Dts] at g;obtain ⟨_,_,g,_⟩:=g;cases g
 | w::ws,us,vs,h,g=>by
  rw [Dts] at h
  obtain ⟨v,vs',e,h1,h2⟩:=h
  subst e
  cases us with
  | nil=>rw [Dts] at g;cases g
  | cons u us=>
   rw [Dts] at g
   obtain ⟨v',vs'',e',g1,g2⟩:=g
   cases e'
   rw [iU,pN I h1 g1,lV I h2 g2]
   rfl
end
theorem in1_units {A:Around}:A.in1.units=A.units+1:=rfl
theorem qz {n:Nat}{ws:List W}(h:plW n (.tup ws)=true):∃ m,n=m+1∧ws.all (plW m)=true:=by
 cases n with
 | zero=>simp [plW] at h
 | succ m=>exact ⟨m,rfl,by simpa [plW] using h⟩
theorem mX {n:Nat}{ws:List W}(h:plW n (.lst ws)=true):∃ m,n=m+1∧ws.all (plW m)=true:=by
 cases n with
 | zero=>simp [plW] at h
 | succ m=>exact ⟨m,rfl,by simpa [plW] using h⟩
theorem gC {s:Shared}{A:Around}{n:Nat}{ws us:List W}{xs ys:List V}{its jts:List Value}(d1:Dts K H ws xs)(d2:Dts K H us ys)(p1:ws.all (plW n)=true)(p2:us.all (plW n)=true)(r1:Vals xs its)(r2:Vals ys jts)
  (one:∀ {w u:W} {v x:V} {a b:Value},Dt K H w v→Dt K H u x→plW n w=true→plW n u=true→RelV v a→RelV x b→SeqAt.EqAt A s a b (eqW w u)) :
  ∀ j (h1:j<its.toArray.size) (h2:j<jts.toArray.size),SeqAt.EqAt A s its.toArray[j] jts.toArray[j] (eqJW ws us j):=by
 intro j h1 h2
 have l1:j<ws.length:=by rw [d1.len,r1.length];simpa using h1
 have l2:j<us.length:=by rw [d2.len,r2.length];simpa using h2
 obtain ⟨v,ev,dv⟩:=d1.get (List.getElem?_eq_getElem l1)
 obtain ⟨x,ex,dx⟩:=d2.get (List.getElem?_eq_getElem l2)
 obtain ⟨a,ea,ra⟩:=r1.get ev
 obtain ⟨b,eb,rb⟩:=r2.get ex
 have ea':its.toArray[j]=a:=by simpa using (List.getElem?_eq_some_iff.mp ea).2
 have eb':jts.toArray[j]=b:=by simpa using (List.getElem?_eq_some_iff.mp eb).2
 have e:eqJW ws us j=eqW ws[j] us[j]:=by
  unfold eqJW
  rw [List.getD_eq_getElem?_getD,List.getD_eq_getElem?_getD,List.getElem?_eq_getElem l1,List.getElem?_eq_getElem l2]
  rfl
 rw [ea',eb',e]
 exact one dv dx (List.all_eq_true.mp p1 _ (List.getElem_mem l1)) (List.all_eq_true.mp p2 _ (List.getElem_mem l2)) ra rb
theorem size_of {ws:List W}{xs:List V}{its:List Value}(d:Dts K H ws xs)(r:Vals xs its):its.toArray.size=ws.length:=by
 rw [d.len,r.length];simp
theorem uJ {ws us:List W}:((List.range (min ws.length us.length)).all (eqJW ws us)&&ws.length==us.length)=iU ws us:=by
 by_cases e:ws.length=us.length
 ·rw [←e,Nat.min_self,jo e];simp
 ·rw [jy e]
  have e2:(ws.length==us.length)=false:=beq_eq_false_iff_ne.mpr e
  rw [e2,Bool.and_false]
inductive Kd (s:Shared):W→Value→Prop where
 | non:Kd s .non .none
 | bl (b:Bool):Kd s (.bl b) (.bool b)
 | int (i:Int) (t:Tok):Kd s (.int i) (.int i t)
 | str (x:Str) (t:Tok):Kd s (.str x) (.str x t)
 | tup (ws:List W) {p:Addr} {its:Array Value} (q:s.heap.IsTuple p its):Kd s (.tup ws) (.ref p)
 | lst (ws:List W) {p:Addr} {its:Array Value} (q:s.heap.IsList p its):Kd s (.lst ws) (.ref p)
theorem yp {pins:List (Addr×Obj)}{s:Shared}{σ : St}(I:Inv X pins σ H s){w:W}{v:V}{a:Value}(d:Dt X.K H w v)(r:RelV v a):Kd s w a:=by
 cases w with
 | non=>rw [Dt] at d;subst d;cases r;exact .non
 | bl b=>rw [Dt] at d;subst d;cases r;exact .bl b
 | int b=>rw [Dt] at d;subst d;obtain ⟨t,rfl⟩:=r;exact .int b t
 | str b=>rw [Dt] at d;subst d;obtain ⟨t,rfl⟩:=r;exact .str b t
 | tup ws=>rw [Dt] at d;obtain ⟨p,xs,e,hs,_⟩:=d;subst e;cases r;obtain ⟨its,_,q,_⟩:=I.tuple hs;exact .tup ws q
 | lst ws=>rw [Dt] at d;obtain ⟨p,xs,e,hs,_⟩:=d;subst e;cases r;obtain ⟨its,_,q,_⟩:=I.list hs;exact .lst ws q.isList
 | _=>rw [Dt] at d;exact d.elim
def yh:W→W→Bool
 | .tup _,.tup _=>true
 | .lst _,.lst _=>true
 | _,_=>false
def flt2:W→W→Bool
 | .tup _,_=>false
 | .lst _,_=>false
 | _,.tup _=>false
 | _,.lst _=>false
 | _,_=>true
theorem eq_mix {s:Shared}{A:Around}{w u:W}{a b:Value}(hu:A.units<cLine)(k1:Kd s w a)(k2:Kd s u b)(h:yh w u=false)(f:flt2 w u=false):SeqAt.EqAt A s a b (eqW w u):=by
 cases k1 with
 | non=>
  cases k2 with
  | non=>cases f
  | bl _=>cases f
  | int _ _=>cases f
  | str _ _=>cases f
  | tup _ q3=>apply SeqAt.EqAt.none_tuple <;> assumption
  | lst _ q4=>apply SeqAt.EqAt.none_list <;> assumption
 | bl _=>
  cases k2 with
  | non=>cases f
  | bl _=>cases f
  | int _ _=>cases f
  | str _ _=>cases f
  | tup _ q3=>apply SeqAt.EqAt.bool_tuple <;> assumption
  | lst _ q4=>apply SeqAt.EqAt.bool_list <;> assumption
 | int _ _=>
  cases k2 with
  | non=>cases f
  | bl _=>cases f
  | int _ _=>cases f
  | str _ _=>cases f
  | tup _ q3=>apply SeqAt.EqAt.int_tuple <;> assumption
  | lst _ q4=>apply SeqAt.EqAt.int_list <;> assumption
 | str _ _=>
  cases k2 with
  | non=>cases f
  | bl _=>cases f
  | int _ _=>cases f
  | str _ _=>cases f
  | tup _ q3=>apply SeqAt.EqAt.str_tuple <;> assumption
  | lst _ q4=>apply SeqAt.EqAt.str_list <;> assumption
 | tup _ q1=>
  cases k2 with
  | non=>apply SeqAt.EqAt.tuple_none <;> assumption
  | bl _=>apply SeqAt.EqAt.tuple_bool <;> assumption
  | int _ _=>apply SeqAt.EqAt.tuple_int <;> assumption
  | str _ _=>apply SeqAt.EqAt.tuple_str <;> assumption
  | tup _ q3=>cases h
  | lst _ q4=>apply SeqAt.EqAt.tuple_list <;> assumption
 | lst _ q2=>
  cases k2 with
  | non=>apply SeqAt.EqAt.list_none <;> assumption
  | bl _=>apply SeqAt.EqAt.list_bool <;> assumption
  | int _ _=>apply SeqAt.EqAt.list_int <;> assumption
  | str _ _=>apply SeqAt.EqAt.list_str <;> assumption
  | tup _ q3=>apply SeqAt.EqAt.list_tuple <;> assumption
  | lst _ q4=>cases h
theorem rc_mix {s:Shared}{A:Around}{w u:W}{a b:Value}(hu:A.units<cLine)(k1:Kd s w a)(k2:Kd s u b)(h:yh w u=false):SeqAt.RcAt A s a b (eqW w u):=by
 cases k1 with
 | non=>
  cases k2 with
  | non=>apply SeqAt.RcAt.none_none <;> assumption
  | bl _=>apply SeqAt.RcAt.none_bool <;> assumption
  | int _ _=>apply SeqAt.RcAt.none_int <;> assumption
  | str _ _=>apply SeqAt.RcAt.none_str <;> assumption
  | tup _ q3=>apply SeqAt.RcAt.none_tuple <;> assumption
  | lst _ q4=>apply SeqAt.RcAt.none_list <;> assumption
 | bl _=>
  cases k2 with
  | non=>apply SeqAt.RcAt.bool_none <;> assumption
  | bl _=>apply SeqAt.RcAt.bool_bool <;> assumption
  | int _ _=>apply SeqAt.RcAt.bool_int <;> assumption
  | str _ _=>apply SeqAt.RcAt.bool_str <;> assumption
  | tup _ q3=>apply SeqAt.RcAt.bool_tuple <;> assumption
  | lst _ q4=>apply SeqAt.RcAt.bool_list <;> assumption
 | int _ _=>
  cases k2 with
  | non=>apply SeqAt.RcAt.int_none <;> assumption
  | bl _=>apply SeqAt.RcAt.int_bool <;> assumption
  | int _ _=>apply SeqAt.RcAt.int_int <;> assumption
  | str _ _=>apply SeqAt.RcAt.int_str <;> assumption
  | tup _ q3=>apply SeqAt.RcAt.int_tuple <;> assumption
  | lst _ q4=>apply SeqAt.RcAt.int_list <;> assumption
 | str _ _=>
  cases k2 with
  | non=>apply SeqAt.RcAt.str_none <;> assumption
  | bl _=>apply SeqAt.RcAt.str_bool <;> assumption
  | int _ _=>apply SeqAt.RcAt.str_int <;> assumption
  | str _ _=>apply SeqAt.RcAt.str_str <;> assumption
  | tup _ q3=>apply SeqAt.RcAt.str_tuple <;> assumption
  | lst _ q4=>apply SeqAt.RcAt.str_list <;> assumption
 | tup _ q1=>
  cases k2 with
  | non=>apply SeqAt.RcAt.tuple_none <;> assumption
  | bl _=>apply SeqAt.RcAt.tuple_bool <;> assumption
  | int _ _=>apply SeqAt.RcAt.tuple_int <;> assumption
  | str _ _=>apply SeqAt.RcAt.tuple_str <;> assumption
  | tup _ q3=>cases h
  | lst _ q4=>apply SeqAt.RcAt.tuple_list <;> assumption
 | lst _ q2=>
  cases k2 with
  | non=>apply SeqAt.RcAt.list_none <;> assumption
  | bl _=>apply SeqAt.RcAt.list_bool <;> assumption
  | int _ _=>apply SeqAt.RcAt.list_int <;> assumption
  | str _ _=>apply SeqAt.RcAt.list_str <;> assumption
  | tup _ q3=>apply SeqAt.RcAt.list_tuple <;> assumption
  | lst _ q4=>cases h
theorem ne_mix {s:Shared}{A:Around}{w u:W}{a b:Value}(hu:A.units<cLine)(k1:Kd s w a)(k2:Kd s u b)(h:yh w u=false):SeqAt.RcNeAt A s a b (!eqW w u):=by
 cases k1 with
 | non=>
  cases k2 with
  | non=>apply SeqAt.RcNeAt.none_none <;> assumption
  | bl _=>apply SeqAt.RcNeAt.none_bool <;> assumption
  | int _ _=>apply SeqAt.RcNeAt.none_int <;> assumption
  | str _ _=>apply SeqAt.RcNeAt.none_str <;> assumption
  | tup _ q3=>apply SeqAt.RcNeAt.none_tuple <;> assumption
  | lst _ q4=>apply SeqAt.RcNeAt.none_list <;> assumption
 | bl _=>
  cases k2 with
  | non=>apply SeqAt.RcNeAt.bool_none <;> assumption
  | bl _=>apply SeqAt.RcNeAt.bool_bool <;> assumption
  | int _ _=>apply SeqAt.RcNeAt.bool_int <;> assumption
  | str _ _=>apply SeqAt.RcNeAt.bool_str <;> assumption
  | tup _ q3=>apply SeqAt.RcNeAt.bool_tuple <;> assumption
  | lst _ q4=>apply SeqAt.RcNeAt.bool_list <;> assumption
 | int _ _=>
  cases k2 with
  | non=>apply SeqAt.RcNeAt.int_none <;> assumption
  | bl _=>apply SeqAt.RcNeAt.int_bool <;> assumption
  | int _ _=>apply SeqAt.RcNeAt.int_int <;> assumption
  | str _ _=>apply SeqAt.RcNeAt.int_str <;> assumption
  | tup _ q3=>apply SeqAt.RcNeAt.int_tuple <;> assumption
  | lst _ q4=>apply SeqAt.RcNeAt.int_list <;> assumption
 | str _ _=>
  cases k2 with
  | non=>apply SeqAt.RcNeAt.str_none <;> assumption
  | bl _=>apply SeqAt.RcNeAt.str_bool <;> assumption
  | int _ _=>apply SeqAt.RcNeAt.str_int <;> assumption
  | str _ _=>apply SeqAt.RcNeAt.str_str <;> assumption
  | tup _ q3=>apply SeqAt.RcNeAt.str_tuple <;> assumption
  | lst _ q4=>apply SeqAt.RcNeAt.str_list <;> assumption
 | tup _ q1=>
  cases k2 with
  | non=>apply SeqAt.RcNeAt.tuple_none <;> assumption
  | bl _=>apply SeqAt.RcNeAt.tuple_bool <;> assumption
  | int _ _=>apply SeqAt.RcNeAt.tuple_int <;> assumption
  | str _ _=>apply SeqAt.RcNeAt.tuple_str <;> assumption
  | tup _ q3=>cases h
  | lst _ q4=>apply SeqAt.RcNeAt.tuple_list <;> assumption
 | lst _ q2=>
  cases k2 with
  | non=>apply SeqAt.RcNeAt.list_none <;> assumption
  | bl _=>apply SeqAt.RcNeAt.list_bool <;> assumption
  | int _ _=>apply SeqAt.RcNeAt.list_int <;> assumption
  | str _ _=>apply SeqAt.RcNeAt.list_str <;> assumption
  | tup _ q3=>apply SeqAt.RcNeAt.list_tuple <;> assumption
  | lst _ q4=>cases h
theorem eqAtW {pins:List (Addr×Obj)}{s:Shared}{σ : St}(I:Inv X pins σ H s):∀ (n:Nat) {A:Around} {w u:W} {v x:V} {a b:Value},A.units+n<cLine→Dt X.K H w v→Dt X.K H u x→plW n w=true→plW n u=true→RelV v a→RelV x b→SeqAt.EqAt A s a b (eqW w u):=by
 intro n
 induction n with
 | zero=>
  intro A w u v x a b hu dw du pw pu ra rb
  cases w <;> first | (simp [plW] at pw;done) | skip
  all_goals cases u <;> first | (simp [plW] at pu;done) | (rw [Dt] at dw;rw [Dt] at du;subst dw;subst du;exact zR ra rb rfl rfl)
 | succ n ih=>
  intro A w u v x a b hu dw du pw pu ra rb
  have hu':A.units<cLine:=by omega
  have hu1:A.in1.units+n<cLine:=by rw [in1_units];omega
  by_cases h2:yh w u=true
  ·cases w <;> cases u <;> first | (cases h2;done) | skip
   ·rename_i ws us
    have dw0:=dw;have du0:=du
    rw [Dt] at dw;obtain ⟨p1,xs1,e1,hs1,ds1⟩:=dw;subst e1;cases ra;obtain ⟨its1,rv1,pl1,hz1⟩:=I.tuple hs1;have q1:s.heap.IsTuple p1 its1.toArray:=pl1
    rw [Dt] at du;obtain ⟨p2,xs2,e2,hs2,ds2⟩:=du;subst e2;cases rb;obtain ⟨its2,rv2,pl2,hz2⟩:=I.tuple hs2;have q2:s.heap.IsTuple p2 its2.toArray:=pl2
    have pw:ws.all (plW n)=true:=by simpa [plW] using pw
    have pu:us.all (plW n)=true:=by simpa [plW] using pu
    by_cases hp:p1=p2
    ·subst hp;rw [pN I dw0 du0];exact SeqAt.EqAt.same _
    ·refine SeqAt.EqAt.of_refs hp ?_
     have z:=SeqAt.RcAt.tuples q1 q2 hu' (gC ds1 ds2 pw pu rv1 rv2 (fun a b c d e f=>ih hu1 a b c d e f))
     rw [size_of ds1 rv1,size_of ds2 rv2,uJ] at z
     rw [eqW];exact z
   ·rename_i ws us
    have dw0:=dw;have du0:=du
    rw [Dt] at dw;obtain ⟨p1,xs1,e1,hs1,ds1⟩:=dw;subst e1;cases ra;obtain ⟨its1,rv1,pl1,hz1⟩:=I.list hs1;have q1:=pl1.isList
    rw [Dt] at du;obtain ⟨p2,xs2,e2,hs2,ds2⟩:=du;subst e2;cases rb;obtain ⟨its2,rv2,pl2,hz2⟩:=I.list hs2;have q2:=pl2.isList
    have pw:ws.all (plW n)=true:=by simpa [plW] using pw
    have pu:us.all (plW n)=true:=by simpa [plW] using pu
    by_cases hp:p1=p2
    ·subst hp;rw [pN I dw0 du0];exact SeqAt.EqAt.same _
    ·refine SeqAt.EqAt.of_refs hp ?_
     rw [eqW]
     by_cases hl:ws.length=us.length
     ·have z:=SeqAt.RcAt.lists q1 q2 (by rw [size_of ds1 rv1,size_of ds2 rv2,hl]) hu' (gC ds1 ds2 pw pu rv1 rv2 (fun a b c d e f=>ih hu1 a b c d e f))
      rw [size_of ds1 rv1,jo hl] at z
      exact z
     ·rw [jy hl];exact SeqAt.RcAt.lists_lengths q1 q2 (by rw [size_of ds1 rv1,size_of ds2 rv2];simpa using hl) hu'
  ·by_cases hf:flt2 w u=true
   ·cases w <;> cases u <;> first | (cases hf;done) | (simp [plW] at pw;done) | (simp [plW] at pu;done) | (rw [Dt] at dw;rw [Dt] at du;subst dw;subst du;exact zR ra rb rfl rfl)
   ·exact eq_mix hu' (yp I dw ra) (yp I du rb) (by simpa using h2) (by simpa using hf)
theorem rcAtW {pins:List (Addr×Obj)}{s:Shared}{σ : St}(I:Inv X pins σ H s)(n:Nat){A:Around}{w u:W}{v x:V}{a b:Value}(hu:A.units+n<cLine)(dw:Dt X.K H w v)(du:Dt X.K H u x)(pw:plW n w=true)(pu:plW n u=true)(ra:RelV v a)(rb:RelV x b):SeqAt.RcAt A s a b (eqW w u):=by
 have hu':A.units<cLine:=by omega
 by_cases h2:yh w u=true
 ·cases w <;> cases u <;> first | (cases h2;done) | skip
  ·obtain ⟨m,hm,pw⟩:=qz pw
   subst hm
   obtain ⟨m',hm',pu⟩:=qz pu
   cases hm'
   have hu1:A.in1.units+m<cLine:=by rw [in1_units];omega
   rw [Dt] at dw;obtain ⟨p1,xs1,e1,hs1,ds1⟩:=dw;subst e1;cases ra;obtain ⟨its1,rv1,pl1,hz1⟩:=I.tuple hs1;have q1:s.heap.IsTuple p1 its1.toArray:=pl1
   rw [Dt] at du;obtain ⟨p2,xs2,e2,hs2,ds2⟩:=du;subst e2;cases rb;obtain ⟨its2,rv2,pl2,hz2⟩:=I.tuple hs2;have q2:s.heap.IsTuple p2 its2.toArray:=pl2
   rw [eqW]
   have z:=SeqAt.RcAt.tuples q1 q2 hu' (gC ds1 ds2 pw pu rv1 rv2 (fun a b c d e f=>eqAtW I m hu1 a b c d e f))
   rw [size_of ds1 rv1,size_of ds2 rv2,uJ] at z
   exact z
  ·rename_i ws us
   obtain ⟨m,hm,pw⟩:=mX pw
   subst hm
   obtain ⟨m',hm',pu⟩:=mX pu
   cases hm'
   have hu1:A.in1.units+m<cLine:=by rw [in1_units];omega
   rw [Dt] at dw;obtain ⟨p1,xs1,e1,hs1,ds1⟩:=dw;subst e1;cases ra;obtain ⟨its1,rv1,pl1,hz1⟩:=I.list hs1;have q1:=pl1.isList
   rw [Dt] at du;obtain ⟨p2,xs2,e2,hs2,ds2⟩:=du;subst e2;cases rb;obtain ⟨its2,rv2,pl2,hz2⟩:=I.list hs2;have q2:=pl2.isList
   rw [eqW]
   by_cases hl:ws.length=us.length
   ·have z:=SeqAt.RcAt.lists q1 q2 (by rw [size_of ds1 rv1,size_of ds2 rv2,hl]) hu' (gC ds1 ds2 pw pu rv1 rv2 (fun a b c d e f=>eqAtW I m hu1 a b c d e f))
    rw [size_of ds1 rv1,jo hl] at z
    exact z
   ·rw [jy hl];exact SeqAt.RcAt.lists_lengths q1 q2 (by rw [size_of ds1 rv1,size_of ds2 rv2];simpa using hl) hu'
 ·exact rc_mix hu' (yp I dw ra) (yp I du rb) (by simpa using h2)
theorem rcNeAtW {pins:List (Addr×Obj)}{s:Shared}{σ : St}(I:Inv X pins σ H s)(n:Nat){A:Around}{w u:W}{v x:V}{a b:Value}(hu:A.units+n<cLine)(dw:Dt X.K H w v)(du:Dt X.K H u x)(pw:plW n w=true)(pu:plW n u=true)(ra:RelV v a)(rb:RelV x b):SeqAt.RcNeAt A s a b (!eqW w u):=by
 have hu':A.units<cLine:=by omega
 by_cases h2:yh w u=true
 ·cases w <;> cases u <;> first | (cases h2;done) | skip
  ·obtain ⟨m,hm,pw⟩:=qz pw
   subst hm
   obtain ⟨m',hm',pu⟩:=qz pu
   cases hm'
   have hu1:A.in1.units+m<cLine:=by rw [in1_units];omega
   rw [Dt] at dw;obtain ⟨p1,xs1,e1,hs1,ds1⟩:=dw;subst e1;cases ra;obtain ⟨its1,rv1,pl1,hz1⟩:=I.tuple hs1;have q1:s.heap.IsTuple p1 its1.toArray:=pl1
   rw [Dt] at du;obtain ⟨p2,xs2,e2,hs2,ds2⟩:=du;subst e2;cases rb;obtain ⟨its2,rv2,pl2,hz2⟩:=I.tuple hs2;have q2:s.heap.IsTuple p2 its2.toArray:=pl2
   rw [eqW]
   have z:=SeqAt.RcNeAt.tuples q1 q2 hu' (gC ds1 ds2 pw pu rv1 rv2 (fun a b c d e f=>eqAtW I m hu1 a b c d e f))
   rw [size_of ds1 rv1,size_of ds2 rv2,uJ] at z
   exact z
  ·rename_i ws us
   obtain ⟨m,hm,pw⟩:=mX pw
   subst hm
   obtain ⟨m',hm',pu⟩:=mX pu
   cases hm'
   have hu1:A.in1.units+m<cLine:=by rw [in1_units];omega
   rw [Dt] at dw;obtain ⟨p1,xs1,e1,hs1,ds1⟩:=dw;subst e1;cases ra;obtain ⟨its1,rv1,pl1,hz1⟩:=I.list hs1;have q1:=pl1.isList
   rw [Dt] at du;obtain ⟨p2,xs2,e2,hs2,ds2⟩:=du;subst e2;cases rb;obtain ⟨its2,rv2,pl2,hz2⟩:=I.list hs2;have q2:=pl2.isList
   rw [eqW]
   by_cases hl:ws.length=us.length
   ·have z:=SeqAt.RcNeAt.lists q1 q2 (by rw [size_of ds1 rv1,size_of ds2 rv2,hl]) hu' (gC ds1 ds2 pw pu rv1 rv2 (fun a b c d e f=>eqAtW I m hu1 a b c d e f))
    rw [size_of ds1 rv1,jo hl] at z
    exact z
   ·rw [jy hl];exact SeqAt.RcNeAt.lists_lengths q1 q2 (by rw [size_of ds1 rv1,size_of ds2 rv2];simpa using hl) hu'
 ·exact ne_mix hu' (yp I dw ra) (yp I du rb) (by simpa using h2)
def datW (h:Gh):W→Option W
 | .loc n=>(match h.c n with
  | some (.lst ws)=>some (.lst ws)
  | _=>none)
 | w=>some w
theorem pH {w d:W}{v:V}{n:Nat}(R:Rel K μ H h)(r:Rep K H μ w v)(e:datW h w=some d)(p:plW n d=true):Dt K H d v:=by
 have other:datW h w=some w→Dt K H d v:=fun z=>by
  rw [z] at e;cases e;exact dt_of n r p
 cases w with
 | loc m=>
  unfold datW at e
  dsimp only at e
  cases ec:h.c m with
  | none=>rw [ec] at e;cases e
  | some cl=>
   rw [ec] at e
   cases cl with
   | lst us=>
    cases (show some (W.lst us)=some d from e)
    obtain ⟨p',xs,hm',hx,rs⟩:=R.lstAt ec
    rw [Rep] at r
    obtain ⟨q,ev,hm⟩:=r
    have ep:p'=q:=by rw [hm] at hm';exact (Option.some.inj hm').symm
    subst ep
    obtain ⟨k,rfl,p⟩:=mX p
    rw [Dt]
    exact ⟨p',xs,ev,.of hx,wj (dt_of k) rs p⟩
   | _=>cases e
 | _=>exact other rfl
def rEqD (K:PySem.W.Frag)(neg:Bool):R2:=fun x y H Q=>∃ w u,Dt K H w x∧Dt K H u y∧plW 30 w=true∧plW 30 u=true∧Q (.bl (if neg then !eqW w u else eqW w u)) H
theorem op_eqD (hu:X.A.units+30<cLine):OpR X (compareOp .Eq) (rEqD X.K false):=by
 intro pins s σ H x y v u Q I rx ry ⟨w,w',d1,d2,p1,p2,q⟩
 exact rcAtW I 30 hu d1 d2 p1 p2 rx ry X.prog X.w X.xe _ (uV I q rfl)
theorem op_neD (hu:X.A.units+30<cLine):OpR X (compareOp .NotEq) (rEqD X.K true):=by
 intro pins s σ H x y v u Q I rx ry ⟨w,w',d1,d2,p1,p2,q⟩
 exact rcNeAtW I 30 hu d1 d2 p1 p2 rx ry X.prog X.w X.xe _ (uV I q rfl)
def kEq:M2:=fun x y h Q=>match datW h x,datW h y with
 | some a,some b=>by2 (plW 30 a&&plW 30 b) (Q (.bl (eqW a b)) h) False
 | _,_=>False
def kNe:M2:=fun x y h Q=>match datW h x,datW h y with
 | some a,some b=>by2 (plW 30 a&&plW 30 b) (Q (.bl (!eqW a b)) h) False
 | _,_=>False
theorem vh (hu:X.A.units+30<cLine):DOp X (compareOp .Eq) kEq:=⟨_,op_eqD hu,by
 intro H μ h x y wx wy Qw Q R rx ry m k
 unfold kEq at m
 split at m
 ·rename_i a b ea eb
  cases hp:(plW 30 a&&plW 30 b) with
  | true=>
   rw [hp] at m
   rw [Bool.and_eq_true] at hp
   exact ⟨a,b,pH R rx ea hp.1,pH R ry eb hp.2,hp.1,hp.2,k _ _ (.bl R m)⟩
  | false=>rw [hp] at m;exact (show False from m).elim
 ·exact m.elim⟩
theorem yG (hu:X.A.units+30<cLine):DOp X (compareOp .NotEq) kNe:=⟨_,op_neD hu,by
 intro H μ h x y wx wy Qw Q R rx ry m k
 unfold kNe at m
 split at m
 ·rename_i a b ea eb
  cases hp:(plW 30 a&&plW 30 b) with
  | true=>
   rw [hp] at m
   rw [Bool.and_eq_true] at hp
   exact ⟨a,b,pH R rx ea hp.1,pH R ry eb hp.2,hp.1,hp.2,k _ _ (.bl R m)⟩
  | false=>rw [hp] at m;exact (show False from m).elim
 ·exact m.elim⟩
theorem j5 {A:Around}{k:Nat}(hr:eN k A):A.units+30<cLine:=by have:=hr.units;omega
end
end L2
namespace L2
open PySem PySem.Spec PyProof.Rows
section
variable {X:Cx}{K:PySem.W.Frag}
theorem mR {H:Hp}{μ : Mu}{w:W}{vs:List V}(r:aJ K H μ [w] vs):∃ v,vs=[v]∧Rep K H μ w v:=by
 rw [aJ] at r
 obtain ⟨v,vr,ev,ra,r⟩:=r
 rw [aJ] at r
 subst r
 exact ⟨v,ev,ra⟩
theorem reps2 {H:Hp}{μ : Mu}{w u:W}{vs:List V}(r:aJ K H μ [w,u] vs):∃ v x,vs=[v,x]∧Rep K H μ w v∧Rep K H μ u x:=by
 rw [aJ] at r
 obtain ⟨v,vr,ev,ra,r⟩:=r
 obtain ⟨x,e,rb⟩:=mR r
 subst e
 exact ⟨v,x,ev,ra,rb⟩
theorem qb.of {i j:Int}{m n:Nat}(hi:Sm m i)(hj:Sm n j)(hm:m≤1000000)(hn:n≤1000000):qb i j:=⟨m,n,hm,hn,hi,hj⟩
theorem Sm.lit {i:Int}(h:Nat.ble (i.natAbs+1) (2^64)=true):Sm 64 i:=by
 have:=Nat.le_of_ble_eq_true h
 unfold Sm
 omega
def kLen:MC:=fun ws h Q=>match ws with
 | [w]=>(match view h w with
  | some xs=>Q (.int (xs.length:Int)) h
  | none=>False)
 | _=>False
theorem cQ:nP X (.builtin "len") kLen:=⟨_,rP,by
 intro H μ h vs ws Qw Q R r m k
 unfold kLen at m
 split at m
 ·split at m
  ·rename_i w _ xs ev
   obtain ⟨v,e,rv⟩:=mR r
   obtain ⟨p,ys,ex,hs,rs⟩:=pA R rv ev
   subst e ex
   exact ⟨p,ys,rfl,hs,by rw [←rs.len];exact k _ _ (.int R m)⟩
  ·exact m.elim
 ·exact m.elim⟩
def kAbs:MC:=fun ws h Q=>match ws with
 | [.int i]=>Q (.int (if i<0 then -i else i)) h
 | _=>False
theorem c_abs:nP X (.builtin "abs") kAbs:=⟨_,call_abs,by
 intro H μ h vs ws Qw Q R r m k
 unfold kAbs at m
 split at m
 ·obtain ⟨v,e,rv⟩:=mR r
  rw [Rep] at rv
  subst e rv
  exact ⟨_,rfl,k _ _ (.int R m)⟩
 ·exact m.elim⟩
def blsW:List W→Option (List Bool)
 | []=>some []
 | .bl b::ws=>(blsW ws).map (b::·)
 | _=>none
theorem zH {H:Hp}{μ : Mu}:∀ {ws:List W} {xs:List V} {bs:List Bool},aJ K H μ ws xs→blsW ws=some bs→xs=bs.map V.bl
 | [],xs,bs,r,e=>by
  rw [aJ] at r
  cases (show some []=some bs from e)
  exact r
 | w::ws,xs,bs,r,e=>by
  rw [aJ] at r
  obtain ⟨v,vr,ev,ra,r⟩:=r
  cases w with
  | bl b=>
   rw [Rep] at ra
   rw [blsW] at e
   cases q:blsW ws with
   | none=>rw [q] at e;cases e
   | some cs=>
    rw [q] at e
    cases (show some (b::cs)=some bs from e)
    rw [ev,ra,zH r q]
    rfl
  | _=>cases e
def kAll:MC:=fun ws h Q=>match ws with
 | [w]=>(match fB h w with
  | some us=>(match blsW us with
   | some bs=>Q (.bl (bs.all id)) h
   | none=>False)
  | none=>False)
 | _=>False
theorem c_all (hc:X.calm=true):nP X (.builtin "all") kAll:=⟨_,call_allB hc,by
 intro H μ h vs ws Qw Q R r m k
 unfold kAll at m
 split at m
 ·split at m
  ·split at m
   ·rename_i w _ us ev _ bs eb
    obtain ⟨v,e,rv⟩:=mR r
    obtain ⟨p,ys,ex,hs,rs⟩:=cT R rv ev
    subst e ex
    exact ⟨p,bs,rfl,by rw [←zH rs eb];exact hs,k _ _ (.bl R m)⟩
   ·exact m.elim
  ·exact m.elim
 ·exact m.elim⟩
def isiW (h:Gh)(w:W)(T:String):Option Bool:=match w with
 | .int _=>if T = "int" then some true else if T = "bool"∨T = "tuple"∨T = "list" then some false else none
 | .bl _=>if T = "int"∨T = "bool" then some true else if T = "tuple"∨T = "list" then some false else none
 | .str _=>if T = "int"∨T = "bool"∨T = "tuple"∨T = "list" then some false else none
 | .non=>if T = "int"∨T = "bool"∨T = "tuple"∨T = "list" then some false else none
 | .tup _=>if T = "tuple" then some true else if T = "int"∨T = "bool"∨T = "list" then some false else none
 | w=>(match fB h w with
  | some _=>if T = "list" then some true else if T = "int"∨T = "bool"∨T = "tuple" then some false else none
  | none=>none)
theorem isiW_ok {H:Hp}{μ : Mu}{h:Gh}{w:W}{v:V}{T:String}{b:Bool}(R:Rel K μ H h)(r:Rep K H μ w v)(e:isiW h w T=some b):isiV K H v T b:=by
 unfold isiW at e
 split at e
 ·rw [Rep] at r;subst r
  split at e
  ·rename_i t;subst t;cases e;exact .inl ⟨rfl,rfl⟩
  ·split at e
   ·rename_i t;cases e
    rcases t with t | t | t <;> subst t
    ·exact .inr (.inl ⟨rfl,rfl⟩)
    ·exact .inr (.inr (.inl ⟨rfl,rfl⟩))
    ·exact .inr (.inr (.inr ⟨rfl,rfl⟩))
   ·cases e
 ·rw [Rep] at r;subst r
  split at e
  ·rename_i t;cases e
   rcases t with t | t <;> subst t
   ·exact .inl ⟨rfl,rfl⟩
   ·exact .inr (.inl ⟨rfl,rfl⟩)
  ·split at e
   ·rename_i t;cases e
    rcases t with t | t <;> subst t
    ·exact .inr (.inr (.inl ⟨rfl,rfl⟩))
    ·exact .inr (.inr (.inr ⟨rfl,rfl⟩))
   ·cases e
 ·rw [Rep] at r;subst r
  split at e
  ·rename_i t;cases e
   rcases t with t | t | t | t <;> subst t
   ·exact .inl ⟨rfl,rfl⟩
   ·exact .inr (.inl ⟨rfl,rfl⟩)
   ·exact .inr (.inr (.inl ⟨rfl,rfl⟩))
   ·exact .inr (.inr (.inr ⟨rfl,rfl⟩))
  ·cases e
 ·rw [Rep] at r;subst r
  split at e
  ·rename_i t;cases e
   rcases t with t | t | t | t <;> subst t
   ·exact .inl ⟨rfl,rfl⟩
   ·exact .inr (.inl ⟨rfl,rfl⟩)
   ·exact .inr (.inr (.inl ⟨rfl,rfl⟩))
   ·exact .inr (.inr (.inr ⟨rfl,rfl⟩))
  ·cases e
 ·rw [Rep] at r
  obtain ⟨p,xs,ev,hs,_⟩:=r
  subst ev
  refine .inl ⟨xs,hs,?_⟩
  split at e
  ·rename_i t;subst t;cases e;exact .inr (.inr (.inl ⟨rfl,rfl⟩))
  ·split at e
   ·rename_i t;cases e
    rcases t with t | t | t <;> subst t
    ·exact .inl ⟨rfl,rfl⟩
    ·exact .inr (.inl ⟨rfl,rfl⟩)
    ·exact .inr (.inr (.inr ⟨rfl,rfl⟩))
   ·cases e
 ·split at e
  ·rename_i ws ev
   obtain ⟨p,xs,ex,hs,_⟩:=cT R r ev
   subst ex
   refine .inr ⟨xs,hs,?_⟩
   split at e
   ·rename_i t;subst t;cases e;exact .inr (.inr (.inr ⟨rfl,rfl⟩))
   ·split at e
    ·rename_i t;cases e
     rcases t with t | t | t <;> subst t
     ·exact .inl ⟨rfl,rfl⟩
     ·exact .inr (.inl ⟨rfl,rfl⟩)
     ·exact .inr (.inr (.inl ⟨rfl,rfl⟩))
    ·cases e
  ·cases e
def yF:MC:=fun ws h Q=>match ws with
 | [w,.ty T]=>(match isiW h w T with
  | some b=>Q (.bl b) h
  | none=>False)
 | _=>False
theorem sE:nP X (.builtin "isinstance") yF:=⟨_,call_isi,by
 intro H μ h vs ws Qw Q R r m k
 unfold yF at m
 split at m
 ·split at m
  ·rename_i w T _ b eb
   obtain ⟨v,x,e,rv,rx⟩:=reps2 r
   have hi:=isiW_ok R rv eb
   rw [Rep] at rx
   subst e rx
   exact ⟨v,T,b,rfl,hi,k _ _ (.bl R m)⟩
  ·exact m.elim
 ·exact m.elim⟩
def rW:MC:=fun ws h Q=>match ws with
 | [.tup us]=>Q (.tup us) h
 | [w]=>(match fB h w with
  | some us=>Q (.tup us) h
  | none=>False)
 | _=>False
theorem c_tuple:nP X (.type "tuple") rW:=⟨_,qu,by
 intro H μ h vs ws Qw Q R r m k
 unfold rW at m
 split at m
 ·obtain ⟨v,e,rv⟩:=mR r
  have rv':=rv
  rw [Rep] at rv
  obtain ⟨p,xs,ex,hs,rs⟩:=rv
  subst e ex
  exact ⟨p,xs,rfl,.inr ⟨hs,k _ _ ⟨μ,_,h,.refl,R,rv',m⟩⟩⟩
 ·split at m
  ·rename_i w _ _ us ev
   obtain ⟨v,e,rv⟩:=mR r
   obtain ⟨p,ys,ex,hs,rs⟩:=cT R rv ev
   subst e ex
   exact ⟨p,ys,rfl,.inl ⟨hs,fun l hl=>k _ _ ⟨μ,_,h,(Ex.laid hl).ext,R.laid hl,.tupNew hl rs,m⟩⟩⟩
  ·exact m.elim
 ·exact m.elim⟩
def yj:MC:=fun ws h Q=>match ws with
 | [w]=>(match view h w with
  | some us=>Q (.lst us) h
  | none=>False)
 | _=>False
theorem c_list:nP X (.type "list") yj:=⟨_,rJ,by
 intro H μ h vs ws Qw Q R r m k
 unfold yj at m
 split at m
 ·split at m
  ·rename_i w _ xs ev
   obtain ⟨v,e,rv⟩:=mR r
   obtain ⟨p,ys,ex,hs,rs⟩:=pA R rv ev
   subst e ex
   exact ⟨p,ys,rfl,hs,fun l hl=>k _ _ ⟨μ,_,h,(Ex.laid hl).ext,R.laid hl,.lstNew R hl rs,m⟩⟩
  ·exact m.elim
 ·exact m.elim⟩
abbrev MM:=W→List W→Gh→WK→Prop
def SimM (K:PySem.W.Frag)(r:V→List V→Hp→VK→Prop)(mr:MM):Prop:=∀ {H:Hp} {μ : Mu} {h:Gh} {x:V} {vs:List V} {wx:W} {ws:List W} {Qw:WK} {Q:VK},Rel K μ H h→Rep K H μ wx x→aJ K H μ ws vs→mr wx ws h Qw→(∀ v H',DQ K H μ Qw v H'→Q v H')→r x vs H Q
def qw (h:Gh)(w:W)(P:Prop):Prop:=match w with
 | .loc n=>(match h.c n with
  | some (.lst _)=>P
  | _=>False)
 | _=>False
theorem kJ {H:Hp}{μ : Mu}{h:Gh}{w:W}{v:V}{P:Prop}(R:Rel K μ H h)(r:Rep K H μ w v)(e:qw h w P):tyV K "list" v H∧P:=by
 unfold qw at e
 split at e
 ·split at e
  ·rename_i n _ ws ec
   rw [Rep] at r
   obtain ⟨p,ev,hm⟩:=r
   obtain ⟨p',xs,hm',hx,rs⟩:=R.lstAt ec
   have ep:p'=p:=by rw [hm] at hm';exact (Option.some.inj hm').symm
   subst ep ev
   exact ⟨.inl ⟨rfl,xs,.of hx⟩,e⟩
  ·exact e.elim
 ·exact e.elim
def yr (r:MM)(mo:ME)(ma:MA):ME:=fun σ h Q=>mo σ h fun x h1=>qw h1 x (ma σ h1 fun xs h2=>r x xs h2 Q)
def mBMr0 (r:MM)(mo:ME):ME:=fun σ h Q=>mo σ h fun x h1=>qw h1 x (r x [] h1 Q)
variable {o e:Expr}{es:List Expr}{mo:ME}{ma:MA}{name:Str}{apos cpos:Pos}{id:String}{r:V→List V→Hp→VK→Prop}{mr:MM}
theorem d_bm (slot:Slot "list" name id)(hty:typeOf (.builtin id)=pure (.type "method_descriptor"))(hm:MtR X id r)(hs:SimM X.K r mr)(ho:DE X o mo)(ha:DAs X (e::es) ma)
  (hbase:attributeBase o name X.env (eval o X.env)=eval o X.env:=by rfl)
  (hfew:((backTo cpos (starEach (e::es) X.env)).all (fun x=>!x.1)&&(backToKw cpos (keywordEach [] X.env)).all (fun x=>x.1.isSome)
   && decide ((e::es).length+([]:List Keyword).length+(if ([]:List Keyword).isEmpty then 0 else 1)<30))=true:=by rfl)
  (hline:(apos.endLine==cpos.line)=true:=by rfl) (hst:starEach (e::es) X.env=(false,eval e X.env)::starEach es X.env:=by rfl) (hplain:(backTo cpos (starEach es X.env)).any (·.1)=false:=by rfl) :
  DE X (.Call (.Attribute o name apos) (e::es) [] cpos) (yr mr mo ma):=(pe_bm PySem.F.plainAttrs_list slot hty hm ho ha hbase hfew hline hst hplain).of fun σ H Q ⟨μ,h,σw,Qw,R,S,m,k⟩=>by
 refine ⟨μ,h,σw,_,R,S,m,fun v H1 ⟨μ1,w,h1,e1,R1,r1,il⟩=>⟨(kJ R1 r1 il).1,?_⟩⟩
 have m1:=(kJ R1 r1 il).2
 exact ⟨μ1,h1,σw,_,R1,S.ext e1,m1,fun vs H2 ⟨μ2,ws,h2,e2,R2,r2,m2⟩=>hs R2 (e2.r _ _ r1) r2 m2 fun v H' z=>k _ _ ((z.trans e2).trans e1)⟩
theorem d_bm0 (slot:Slot "list" name id)(hty:typeOf (.builtin id)=pure (.type "method_descriptor"))(hm:MtR X id r)(hs:SimM X.K r mr)(ho:DE X o mo)
  (hbase:attributeBase o name X.env (eval o X.env)=eval o X.env:=by rfl) (hline:(apos.endLine==cpos.line)=true:=by rfl) :
  DE X (.Call (.Attribute o name apos) [] [] cpos) (mBMr0 mr mo):=(pe_bm0 PySem.F.plainAttrs_list slot hty hm ho hbase hline).of fun σ H Q ⟨μ,h,σw,Qw,R,S,m,k⟩=>by
 refine ⟨μ,h,σw,_,R,S,m,fun v H1 ⟨μ1,w,h1,e1,R1,r1,il⟩=>⟨(kJ R1 r1 il).1,?_⟩⟩
 have m1:=(kJ R1 r1 il).2
 exact hs R1 r1 .nil m1 fun v H' z=>k _ _ (z.trans e1)
def bQ:MM:=fun x ws h Q=>match x,ws with
 | .loc n,[w]=>(match h.c n with
  | some (.lst us)=>us.length<sizeLine∧Q .non (h.set n (.lst (us++[w])))
  | _=>False)
 | _,_=>False
theorem locAt {H:Hp}{μ : Mu}{h:Gh}{n:Nat}{v:V}{us:List W}(R:Rel K μ H h)(r:Rep K H μ (.loc n) v)(ec:h.c n=some (.lst us)):∃ p xs,v=.ref p∧μ.f n=some p∧H p=some (.lst xs)∧aJ K H μ us xs:=by
 rw [Rep] at r
 obtain ⟨p,ev,hm⟩:=r
 obtain ⟨p',xs,hm',hx,rs⟩:=R.lstAt ec
 have ep:p'=p:=by rw [hm] at hm';exact (Option.some.inj hm').symm
 subst ep
 exact ⟨p',xs,ev,hm,hx,rs⟩
theorem DQ.wrote {H:Hp}{μ : Mu}{h:Gh}{n:Nat}{p:Addr}{us:List W}{xs:List V}{Q:WK}{w:W}{v:V}(R:Rel K μ H h)(hm:μ.f n=some p)(rs:aJ K H μ us xs)(rw':Rep K H μ w v)(q:Q w (h.set n (.lst us))):DQ K H μ Q v (upd H p (.lst xs)):=
 ⟨μ,w,h.set n (.lst us),(Ex.write R hm).ext,R.write hm trivial ⟨xs,aL,(Ex.write R hm).ext.s rs⟩,(Ex.write R hm).ext.r _ _ rw',q⟩
theorem s_append:SimM K zc bQ:=by
 intro H μ h x vs wx ws Qw Q R rx rs m k
 unfold bQ at m
 split at m
 ·split at m
  ·rename_i n w _ us ec
   obtain ⟨p,xs,ex,hm,hx,r1⟩:=locAt R rx ec
   obtain ⟨v,ev,rv⟩:=mR rs
   exact ⟨p,xs,v,ex,ev,hx,by rw [←r1.len];exact m.1,k _ _ (.wrote R hm (r1.append (.one rv)) (by rw [Rep]) m.2)⟩
  ·exact m.elim
 ·exact m.elim
theorem gA (ho:DE X o mo)(ha:DAs X [e] ma)
  (hbase:attributeBase o "append" X.env (eval o X.env)=eval o X.env:=by rfl)
  (hfew:((backTo cpos (starEach [e] X.env)).all (fun x=>!x.1)&&(backToKw cpos (keywordEach [] X.env)).all (fun x=>x.1.isSome)
   && decide (([e]:List Expr).length+([]:List Keyword).length+(if ([]:List Keyword).isEmpty then 0 else 1)<30))=true:=by rfl)
  (hline:(apos.endLine==cpos.line)=true:=by rfl) (hst:starEach [e] X.env=(false,eval e X.env)::starEach [] X.env:=by rfl) (hplain:(backTo cpos (starEach [] X.env)).any (·.1)=false:=by rfl) :
  DE X (.Call (.Attribute o "append" apos) [e] [] cpos) (yr bQ mo ma):=d_bm PySem.F.slot_list_append PySem.F.type_list_append rE s_append ho ha hbase hfew hline hst hplain
end
end L2
namespace L2
open PySem PySem.Spec PyProof.Rows
section
variable {X:Cx}{K:PySem.W.Frag}
theorem op_isntB:OpR X (compareOp .IsNot) (fun x y H Q=>∃ c b,x=.bl c∧y=.bl b∧Q (.bl (!(c==b))) H):=by
 intro pins s σ H x y v u Q I rx ry ⟨c,b,ex,ey,q⟩
 subst ex ey
 cases rx
 cases ry
 exact wpAny_pure (uV I q (by cases c <;> cases b <;> rfl))
def isNon:W→Bool
 | .non=>true
 | _=>false
theorem isNon_v {H:Hp}{μ : Mu}{w:W}{v:V}(r:Rep K H μ w v):decide (v=.non)=isNon w:=by
 cases w with
 | non=>rw [Rep] at r;subst r;rfl
 | bl _=>rw [Rep] at r;subst r;rfl
 | int _=>rw [Rep] at r;subst r;rfl
 | str _=>rw [Rep] at r;subst r;rfl
 | ty _=>rw [Rep] at r;subst r;rfl
 | tup _=>rw [Rep] at r;obtain ⟨_,_,e,_⟩:=r;subst e;rfl
 | lst _=>rw [Rep] at r;obtain ⟨_,_,e,_⟩:=r;subst e;rfl
 | kls _=>rw [Rep] at r;obtain ⟨_,_,e,_⟩:=r;subst e;rfl
 | loc _=>rw [Rep] at r;obtain ⟨_,e,_⟩:=r;subst e;rfl
 | exc _=>rw [Rep] at r;obtain ⟨_,_,_,e,_⟩:=r;subst e;rfl
 | exa _ _=>rw [Rep] at r;obtain ⟨_,_,_,_,_,_,e,_⟩:=r;subst e;rfl
def kIs:M2:=fun x y h Q=>match x,y with
 | .bl c,.bl b=>Q (.bl (c==b)) h
 | w,.non=>Q (.bl (isNon w)) h
 | _,_=>False
def kIsnt:M2:=fun x y h Q=>match x,y with
 | .bl c,.bl b=>Q (.bl (!(c==b))) h
 | w,.non=>Q (.bl (!isNon w)) h
 | _,_=>False
theorem o_isnt:DOp X (compareOp .IsNot) kIsnt:=⟨_,op_isntB.or op_notN,by
 intro H μ h x y wx wy Qw Q R rx ry m k
 unfold kIsnt at m
 split at m
 ·rw [Rep] at rx ry
  exact .inl ⟨_,_,rx,ry,k _ _ (.bl R m)⟩
 ·rw [←isNon_v rx] at m
  rw [Rep] at ry
  exact .inr ⟨ry,k _ _ (.bl R m)⟩
 ·exact m.elim⟩
def kAny:MC:=fun ws h Q=>match ws with
 | [w]=>(match fB h w with
  | some us=>(match blsW us with
   | some bs=>Q (.bl (bs.any id)) h
   | none=>False)
  | none=>False)
 | _=>False
def nH:W→Bool
 | .non=>true
 | .bl _=>true
 | .int _=>true
 | .str _=>true
 | _=>false
theorem flat_v {H:Hp}{μ : Mu}{w:W}{v:V}(r:Rep K H μ w v)(f:nH w=true):nG v=true:=by
 cases w <;> first | (rw [Rep] at r;subst r;rfl) | cases f
theorem flat_vs {H:Hp}{μ : Mu}:∀ {ws:List W} {vs:List V},aJ K H μ ws vs→ws.all nH=true→vs.all nG=true
 | [],_,r,_=>by rw [aJ] at r;subst r;rfl
 | w::ws,_,r,f=>by
  rw [aJ] at r
  obtain ⟨v,vs,e,r1,r2⟩:=r
  subst e
  rw [List.all_cons,Bool.and_eq_true] at f ⊢
  exact ⟨flat_v r1 f.1,flat_vs r2 f.2⟩
theorem eq_v {H:Hp}{μ : Mu}{w u:W}{v x:V}(r:Rep K H μ w v)(q:Rep K H μ u x)(f:nH w=true)(g:nH u=true):eqV v x=eqW w u:=by
 cases w <;> cases u <;> first
  | (rw [Rep] at r;rw [Rep] at q;subst r;subst q;rfl)
  | (cases f;done)
  | (cases g;done)
theorem in_vs {H:Hp}{μ : Mu}{u:W}{x:V}(q:Rep K H μ u x)(g:nH u=true):∀ {ws:List W} {vs:List V},aJ K H μ ws vs→ws.all nH=true→inV x vs=ws.any fun w=>eqW w u
 | [],_,r,_=>by rw [aJ] at r;subst r;rfl
 | w::ws,_,r,f=>by
  rw [aJ] at r
  obtain ⟨v,vs,e,r1,r2⟩:=r
  subst e
  rw [List.all_cons,Bool.and_eq_true] at f
  have:=in_vs q g r2 f.2
  unfold inV at this ⊢
  rw [List.any_cons,List.any_cons,this,eq_v r1 q f.1 g]
def kNin:M2:=fun x y h Q=>match view h y with
 | some ws=>by2 (nH x&&ws.all nH) (Q (.bl (!(ws.any fun w=>eqW w x))) h) False
 | none=>False
theorem o_nin:DOp X (compareOp .NotIn) kNin:=⟨_,rH,by
 intro H μ h x y wx wy Qw Q R rx ry m k
 unfold kNin at m
 split at m
 ·rename_i ws ev
  obtain ⟨p,xs,ey,hs,rs⟩:=pA R ry ev
  cases hp:(nH wx&&ws.all nH) with
  | true=>
   rw [hp] at m
   rw [Bool.and_eq_true] at hp
   exact ⟨p,xs,ey,hs,flat_v rx hp.1,flat_vs rs hp.2,k _ _ (by rw [if_pos rfl,in_vs rx hp.1 rs hp.2];exact .bl R m)⟩
  | false=>rw [hp] at m;exact (show False from m).elim
 ·exact m.elim⟩
theorem op_catT0:OpR X (binaryOp .Add) (fun x y H Q=>∃ a b ys,x=.ref a∧y=.ref b∧SqT X.K H a []∧SqT X.K H b ys∧Q (.ref b) H):=by
 intro pins s σ H x y v u Q I rx ry ⟨a,b,ys,ex,ey,ha,hb,q⟩
 subst ex ey
 cases rx
 cases ry
 obtain ⟨its,r1,p1,_⟩:=I.tuple ha
 obtain ⟨jts,r2,p2,_⟩:=I.tuple hb
 cases r1
 obtain ⟨⟨cls,dd,data,sl⟩,ho,hc,n,hd⟩:=id p1
 obtain ⟨⟨cls2,dd2,data2,sl2⟩,ho2,hc2,n2,hd2⟩:=id p2
 simp only at hc hd hc2 hd2
 subst hc hd hc2 hd2
 exact concat_meets ⟨_,ho,rfl⟩ ⟨_,ho2,rfl⟩ noFill_tuple_add seq_tuple_add PySem.F.slot_tuple_add PySem.F.entry_tuple_add (PySem.F.args_tuple_add_2 _ _)
  (tuple_addW0 a b _ _ n n2 dd dd2 sl sl2 (by simp)) ⟨ho,ho2,⟨.ref b,H,I,rfl,q⟩⟩
def trkL (h:Gh):W→Option (List W)
 | .lst ws=>some ws
 | .loc n=>(match h.c n with
  | some (.lst ws)=>some ws
  | _=>none)
 | _=>none
theorem yP {H:Hp}{μ : Mu}{h:Gh}{w:W}{v:V}{ws:List W}(R:Rel K μ H h)(r:Rep K H μ w v)(e:trkL h w=some ws):∃ p xs,v=.ref p∧H p=some (.lst xs)∧aJ K H μ ws xs:=by
 cases w with
 | lst us=>
  rw [Rep] at r
  obtain ⟨p,xs,ev,hs,rs⟩:=r
  cases (show some us=some ws from e)
  exact ⟨p,xs,ev,hs.1,rs⟩
 | loc n=>
  unfold trkL at e
  dsimp only at e
  cases ec:h.c n with
  | none=>rw [ec] at e;cases e
  | some cl=>
   rw [ec] at e
   cases cl with
   | lst us=>
    cases (show some us=some ws from e)
    obtain ⟨p,xs,ev,_,hx,rs⟩:=locAt R r ec
    exact ⟨p,xs,ev,hx,rs⟩
   | _=>cases e
 | _=>cases e
def gJ:M2:=fun x y h Q=>match x,y with
 | .int i,.int j=>Q (.int (i+j)) h
 | .tup [],.tup b=>Q (.tup b) h
 | .tup (a0::a),.tup b=>kO (a.length+1+b.length) (Q (.tup (a0::a++b)) h)
 | x,y=>(match trkL h x,trkL h y with
  | some a,some b=>kO (a.length+b.length) (Q (.lst (a++b)) h)
  | _,_=>False)
theorem eG:DOp X (binaryOp .Add) gJ:=⟨_,(op_add.or (op_catT0.or op_catT)).or op_cat,by
 intro H μ h x y wx wy Qw Q R rx ry m k
 unfold gJ at m
 split at m
 ·rw [Rep] at rx ry
  exact .inl (.inl ⟨_,_,rx,ry,k _ _ (.int R m)⟩)
 ·rename_i b
  have ry':=ry
  rw [Rep] at rx ry
  obtain ⟨p,xs,ex,hx,r1⟩:=rx
  obtain ⟨q,ys,ey,hy,r2⟩:=ry
  rw [aJ] at r1
  subst r1
  rw [ey] at ry'
  exact .inl (.inr (.inl ⟨p,q,ys,ex,ey,hx,hy,k _ _ ⟨μ,_,h,.refl,R,ry',m⟩⟩))
 ·rename_i a0 a b
  have rx':=rx
  rw [Rep] at rx ry
  obtain ⟨p,xs,ex,hx,r1⟩:=rx
  obtain ⟨q,ys,ey,hy,r2⟩:=ry
  have sz:=m.ok.1
  refine .inl (.inr (.inr ⟨p,q,xs,ys,ex,ey,hx,hy,fun z=>(by have:=r1.ne_nil.mp z;cases this),by rw [←r1.len,←r2.len];exact sz,fun z=>?_,fun z l hl=>?_⟩))
  ·have eb:b=[]:=r2.ne_nil.mp z
   subst eb
   refine k _ _ ⟨μ,.tup (a0::a++[]),h,.refl,R,?_,m.ok.2⟩
   rw [List.append_nil,←ex]
   exact rx'
  ·exact k _ _ ⟨μ,_,h,(Ex.laid hl).ext,R.laid hl,.tupNew hl (r1.append r2),m.ok.2⟩
 ·split at m
  ·rename_i a b ea eb
   obtain ⟨p,xs,ex,hx,r1⟩:=yP R rx ea
   obtain ⟨q,ys,ey,hy,r2⟩:=yP R ry eb
   have sz:=m.ok.1
   exact .inr ⟨p,q,xs,ys,ex,ey,hx,hy,by rw [←r1.len,←r2.len];exact sz,fun l hl=>k _ _ ⟨μ,_,h,(Ex.laid hl).ext,R.laid hl,.lstNew R hl (r1.append r2),m.ok.2⟩⟩
  ·exact m.elim⟩
variable {o e:Expr}{mo:ME}{ma:MA}{apos cpos:Pos}
end
end L2
namespace L2
open PySem PySem.Spec PyProof.Rows
def spLaw (K:PySem.W.Frag):Sp:=fun vs H Q _=>∃ (a:Addr) (ns:List Int),vs=[.ref a]∧SqL K H a (ns.map V.int)∧Only H∧ns.length≤63∧∀ H',Q (.bl true) H'
def g0:Gh:=⟨0,fun _=>none⟩
def μ0:Mu:=⟨fun _=>none,fun _=>False⟩
theorem rel0 {K:PySem.W.Frag}{H:Hp}:Rel K μ0 H g0 where
 inj:=fun m n p h=>by cases (show (none:Option Addr)=some p from h)
 dom:=fun n p h=>by cases (show (none:Option Addr)=some p from h)
 trk:=fun n p h=>by cases (show (none:Option Addr)=some p from h)
 cel:=fun n c h=>by cases (show (none:Option Cell)=some c from h)
 hd:=fun p h=>False.elim h
theorem rK {K:PySem.W.Frag}{H:Hp}{μ : Mu}:∀ ns:List Int,aJ K H μ (ns.map W.int) (ns.map V.int)
 | []=>.nil
 | n::ns=>.cons (by rw [Rep]) (rK ns)
theorem law_imp {P:Program}{w:World}{K:PySem.W.Frag}{mg:Str→Option Value}{base:Heap}{k:Nat}{f:Addr}{fd:FuncData}{ps:List Str}{ms:MSp}
  (hm:∀ ns:List Int,ns.length≤63→ms [.kls (ns.map W.int)] g0 (fun w _=>w=.bl true) EF) (F:bT P w K mg base CX0 k f fd ps (lift K ms)):bT P w K mg base CX0 k f fd ps (spLaw K):=
 F.imp fun vs H Q E ⟨a,ns,e,hS,hO,hl,q⟩=>by
  subst e
  refine ⟨μ0,g0,[.kls (ns.map W.int)],_,rel0,.one ?_,hm ns hl,fun v H' ⟨μ',w',h',_,_,r,e⟩=>?_⟩
  ·rw [Rep]
   refine ⟨a,ns.map V.int,rfl,?_,rK ns⟩
   rcases hS with (hS | hS) | hS
   ·rcases hO a with z | ⟨o,xs,z⟩ <;> rw [hS] at z <;> cases z
   ·exact .inl hS
   ·exact .inr hS
  ·subst e
   rw [Rep] at r
   subst r
   exact q H'
end L2
namespace L2
open PySem PySem.Spec PyProof.Rows
inductive Sk where
 | l | t
section
variable {P:Program}{w:World}{A:Around}{E:Value→Shared→Prop}{s:Shared}{k k1 k2:Sk}
structure Zap (z TI TO i1 i2:Addr):Prop where
 a1:TI≠z
 a2:TO≠z
 a3:i1≠z
 a4:i2≠z
 a5:TI≠TO
 a6:TI≠i1
 a7:TI≠i2
 a8:TO≠i1
 a9:TO≠i2
 b1:i1≠i2
structure Off (a z TO i1 i2:Addr):Prop where
 z:a≠z
 o:a≠TO
 i:a≠i1
 j:a≠i2
end
end L2
namespace L2
open PySem PySem.Spec PyProof.Rows
section
variable {X:Cx}{pins:List (Addr×Obj)}{σ : St}{H:Hp}{s:Shared}{h':Heap}
theorem Inv.turnedL {t':Nat}{ch:List Addr}(I:Inv X pins σ H s)(k:∀ b o,b∉ch→s.heap.get? b=some o→h'.get? b=some o)(hf:∀ b∈ch,FpOk X pins H b):Inv X pins σ H { s with heap:=h',toks:=t' }:=by
 have nit:∀ b u,H b=some u→b∉ch:=fun b u e z=>by rw [(hf b z).1] at e;cases e
 refine I.step (g':=s.gens) (d':=s.drawn) (ch:=ch) (fun b hb=>?_) (fun b o _ _ hc e _=>k b o hc e) (fun b o _ _ hc e _=>⟨o.slots,k b o hc e⟩) (fun _ _ _ _ n=>n)
  (fun b o hc e=>⟨o,k b o hc e⟩) (fun _ _ e=>e) (fun _ _ _ e=>e) (fun b ps e=>⟨#[],by rw [e];simp⟩) (fun m hm=>?_) (fun b u e=>?_) I.bare
 ·obtain ⟨_,f1,_,f3,f4,f5⟩:=hf b hb
  exact ⟨f3,f1,f4,f5⟩
 ·obtain ⟨o,es,ep,ho,r⟩:=hm
  exact ⟨o,es,ep,k _ o (fun z=>(hf _ z).2.1 rfl) ho,r⟩
 ·refine (I.hok b u e).stay (fun c v hc q=>k c v ?_ q) (fun _ q=>q) fun _ _ q=>q
  rcases hc with z | z
  ·rw [z];exact nit b u e
  ·exact nit c _ z
end
section
variable {X:Cx}{K:PySem.W.Frag}
def yH:List W→List W→List W
 | a::as,b::bs=>.tup [a,b]::yH as bs
 | _,_=>[]
def wO:W→Option (List W)
 | .tup ws=>some ws
 | .lst ws=>some ws
 | .kls ws=>some ws
 | _=>none
def zipS (h:Gh)(x y:W):Option Src:=match wO x,wO y with
 | some as,some bs=>some ⟨yH as bs,none⟩
 | none,some bs=>(match x with
  | .loc n=>(match h.c n with
   | some (.lst as)=>some ⟨yH as bs,some (n,as)⟩
   | _=>none)
  | _=>none)
 | _,_=>none
def nZip (ma:MA):MI:=fun σ h R=>ma σ h fun ws h1=>match ws with
 | [x,y]=>(match zipS h1 x y with
  | some s=>R s h1
  | none=>False)
 | _=>False
end
end L2
namespace L2
open PySem PySem.Spec PyProof.Rows
section
variable {X:Cx}{K:PySem.W.Frag}
theorem tV:∀ {ns:List Int} {its:List Value} {i:Nat} {v:Value},Vals (ns.map V.int) its→its[i]?=some v→∃ t,v=.int (ns.getD i 0) t
 | [],_,_,_,.nil,e=>by simp at e
 | n::ns,_,0,_,.cons r _,e=>by
  simp at e
  subst e
  exact r
 | _::ns,_,i+1,v,.cons _ t,e=>by
  obtain ⟨t',h⟩:=tV (i:=i) (v:=v) t (by simpa using e)
  exact ⟨t',by simpa using h⟩
def intsW:List W→Option (List Int)
 | []=>some []
 | .int i::ws=>(intsW ws).map (i::·)
 | _=>none
def kSum:MC:=fun ws h Q=>match ws with
 | [w]=>(match fB h w with
  | some us=>(match intsW us with
   | some ns=>Q (.int ns.sum) h
   | none=>False)
  | none=>False)
 | _=>False
end
end L2
namespace L2
open PySem PySem.Spec PyProof.Rows
theorem wB:Manifest.owners.lookup (String.ofList ['d','e','s','r','e','v','e','r'].reverse)=some Manifest.sig_reversed:=by kernel_rfl
theorem rv_mro:mroOf (.type "reversed")=pure [.type "reversed",.type "object"]:=by
 rw [mroOf_type]
 kernel_rfl
theorem rv_new:typeLookup (.type "reversed") "__new__" = pure (some (.builtin "reversed.__new__")):=by
 rw [typeLookup_type,builtinLookup_eq_fast]
 kernel_rfl
theorem cH:Slot "reversed" "__next__" "reversed.__next__":=
  .of (owner := "reversed") (n := "__next__")
    (by rw [typeLookup_type,builtinLookup_eq_fast]
        kernel_rfl)
    (by decide +kernel) (by decide +kernel)
    (by decide +kernel)
    (by first
        | exact .inl (by decide +kernel)
        | exact .inr (by decide +kernel))
    (by rw [isSubtype_type]
        kernel_rfl)
theorem iQ:entryFor table "reversed.__next__" = some Builtin.«reversed.__next__»:=entryFor_of_tree (by kernel_rfl)
theorem jU (a:Value):argsOk "reversed.__next__" ⟨[a],[]⟩:=by
 unfold argsOk
 rw [signature?_of (id := "reversed.__next__") (n:=['_','_','t','x','e','n','_','_']) (o:=['d','e','s','r','e','v','e','r']) (by kernel_rfl) wB]
 kernel_rfl
theorem jT:Slot "reversed" "__iter__" "reversed.__iter__":=
  .of (owner := "reversed") (n := "__iter__")
    (by rw [typeLookup_type,builtinLookup_eq_fast]
        kernel_rfl)
    (by decide +kernel) (by decide +kernel)
    (by decide +kernel)
    (by first
        | exact .inl (by decide +kernel)
        | exact .inr (by decide +kernel))
    (by rw [isSubtype_type]
        kernel_rfl)
theorem rO (a:Value):argsOk "reversed.__iter__" ⟨[a],[]⟩:=by
 unfold argsOk
 rw [signature?_of (id := "reversed.__iter__") (n:=['_','_','r','e','t','i','_','_']) (o:=['d','e','s','r','e','v','e','r']) (by kernel_rfl) wB]
 kernel_rfl
theorem pB:entryFor table "reversed.__iter__" = some Builtin.«dict_keyiterator.__iter__»:=
  entryFor_alias (id' := "dict_keyiterator.__iter__") (by kernel_rfl)
    (by first
        | rfl
        | decide +kernel
        | (unfold String.splitOn;simp +decide [String.splitOnAux]))
    (by decide +kernel) (by kernel_rfl)
theorem uD (a:Value):checkTypeCall "reversed" ⟨[a],[]⟩=pure ():=by kernel_rfl
theorem wW (a:Value):checkBuiltinCall "reversed.__new__" ⟨[.type "reversed",a],[]⟩=pure ():=by kernel_rfl
theorem rZ:entryFor table "reversed.__new__" = some Builtin.«reversed.__new__»:=entryFor_of_tree (by kernel_rfl)
theorem rv_sub:isSubtype (.type "reversed") (.type "reversed")=pure true:=by
 rw [isSubtype_type]
 kernel_rfl
theorem uh:typeLookup (.type "tuple") "__reversed__" = pure none:=by
 rw [typeLookup_type,builtinLookup_eq_fast]
 kernel_rfl
theorem ux:isSubtype (.type "tuple") (.type "dict")=pure false:=by
 rw [isSubtype_type]
 kernel_rfl
end L2
namespace L2
open PySem PySem.Spec PyProof.Rows
def rvObj (l:Addr)(i:Int):Obj:={ cls:=.type "reversed",data:=.fields #[.ref l,rawInt i] }
def zV (h:Heap)(a l:Addr)(i:Int):Prop:=∃ o,h.get? a=some o∧o.cls=.type "reversed"∧o.data=.fields #[.ref l,rawInt i]
section
variable {P:Program}{w:World}{A:Around}{E:Value→Shared→Prop}{s:Shared}
theorem zV.typeIs {a l:Addr}{i:Int}(x:zV s.heap a l i):s.TypeIs (.ref a) "reversed":=let ⟨o,g,c,_⟩:=x;⟨o,g,c⟩
theorem zV.at {h h':Heap}{a l:Addr}{i:Int}(x:zV h a l i)(e:∀ o,h.get? a=some o→h'.get? a=some o):zV h' a l i:=let ⟨o,g,r⟩:=x;⟨o,e _ g,r⟩
theorem rv_class (a:Value):Builtin.SmallTypes.newClass "reversed" ⟨[.type "reversed",a],[]⟩=pure (.type "reversed",[a]):=by
 unfold Builtin.SmallTypes.newClass
 simp only [isType,rv_sub,pure_bind,Bool.not_true,Bool.false_eq_true]
 rfl
theorem rv_init:Slot "reversed" "__init__" "object.__init__":=
  .of (owner := "object") (n := "__init__")
    (by rw [typeLookup_type,builtinLookup_eq_fast]
        kernel_rfl)
    (by decide +kernel) (by decide +kernel)
    (by decide +kernel)
    (by first
        | exact .inl (by decide +kernel)
        | exact .inr (by decide +kernel))
    (by rw [isSubtype_type]
        kernel_rfl)
theorem Ai:TypeCalled "reversed" "reversed.__new__" "object.__init__":=
  ⟨by decide +kernel,by decide +kernel,⟨_,_,rv_mro⟩,madeBy_type rv_mro rv_new (by decide +kernel),by decide +kernel,
    by rw [isSubtype_type]
       kernel_rfl,rv_init⟩
theorem rv_make (l:Addr)(xs:Array Value):Meets (Builtin.«reversed.__new__» ⟨[.type "reversed",.ref l],[]⟩) (fun _ R s=>IsTup s.heap l xs∧(xs.size:Int)<2^63 ∧
   R (.ok (.ret (.ref s.heap.objs.size))) { s with heap:=s.heap.push (rvObj l ((xs.size:Int) - 1)),toks:=s.toks+1+1 }):=by
 refine .of_wp fun prog w A R s ⟨ht,hfit,q⟩=>?_
 unfold Builtin.«reversed.__new__»
 refine wpAny_bind (wpAny_of_eq (rv_class _) ?_)
 try dsimp only
 refine wpAny_bind (wpAny_of_eq (a:=()) (by rfl) ?_)
 refine wpAny_bind (wpAny_of_eq (a:=()) (by rfl) ?_)
 try dsimp only
 refine wpAny_bind (wpAny_specialOf ht.typeIs uh ?_)
 try dsimp only
 refine wpAny_bind ?_
 refine wpAny_bind (wpAny_isInstance (U := "dict") (b:=false) ht.typeIs ux ?_)
 rw [if_neg Bool.false_ne_true]
 refine wpAny_bind (wpAny_specialOf ht.typeIs PyProof.Rows.slot_tuple_getitem.lookup ?_)
 show wpAny _ _ (if (_:Bool)=true then pure true else _) _ _ _
 rw [if_pos (by decide +kernel)]
 refine wpAny_pure ?_
 rw [if_neg (by decide)]
 refine wpAny_bind (len_tuple ht hfit ?_)
 refine wpAny_bind (wpAny_of_eq (a:=some (xs.size:Int)) (by rfl) ?_)
 try dsimp only
 refine wpAny_bind ?_
 show wpAny _ _ (newObj (.type "reversed") (.fields #[.ref l,rawInt ((xs.size:Int) - 1)])) _ _ _
 exact wpAny_newObj_type (wpAny_pure ⟨_,rfl,q⟩) (by size_fits)
theorem call_rvT {l:Addr}{xs:Array Value}{Q:Value→Shared→Prop}(ht:IsTup s.heap l xs)(hfit:(xs.size:Int)<2^63)
  (q:Q (.ref s.heap.objs.size) { s with heap:=s.heap.push (rvObj l ((xs.size:Int) - 1)),toks:=s.toks+1+1 }):wpAny (model P w) A (call (.type "reversed") [.ref l]) Q E s:=by
 refine callType_new Ai (by decide) (uD _) (wW _) (fun obj=>PySem.F.args_object_init_2 obj _) rZ (rv_make l xs) ⟨ht,hfit,?_⟩
 exact ⟨⟨_,Heap.get?_push_size _ rfl,rfl⟩,q⟩
theorem next_rvT {it l:Addr}{i:Nat}{xs:Array Value}{x:Value}{Q:Option Value→Shared→Prop}(hi:zV s.heap it l (i:Int))(ht:IsTup s.heap l xs)(hfit:(xs.size:Int)<2^63)(hx:xs[i]?=some x)
  (q:∀ h',zV h' it l ((i:Int) - 1)→Heap.SameBut it s.heap h'→Q (some x) { s with heap:=h',toks:=s.toks+1 }):wpAny (model P w) A (pyNext (.ref it)) Q E s:=by
 obtain ⟨o,go,gc,gd⟩:=id hi
 have hlt:i<xs.size:=(Array.getElem?_eq_some_iff.mp hx).1
 unfold pyNext
 refine wpAny_bind (wpAny_attempt (wpAny_callSpecial?_slot (name:=Str.ofString "__next__") hi.typeIs cH
  (wpAny_call_entry cH hi.typeIs iQ ?_ (jU _))))
 unfold Builtin.«reversed.__next__»
 refine wpAny_bind (wpAny_of_eq (a:=(Value.ref it,([]:List Value))) (by rfl) ?_)
 try dsimp only
 refine wpAny_bind (wpAny_field go gd (x:=.ref l) rfl ?_)
 refine wpAny_bind (wpAny_field go gd (x:=rawInt (i:Int)) rfl ?_)
 show wpAny _ _ (if (i:Int)<0 then _ else _) _ _ s
 rw [if_neg (by omega)]
 refine wpAny_bind (wpAny_specialOf ht.typeIs PyProof.Rows.slot_tuple_getitem.lookup ?_)
 rw [if_neg (by decide)]
 refine wpAny_bind (wpAny_mkInt ?_)
 refine wpAny_bind (wpAny_attempt (getItem_tuple (s:={ s with toks:=s.toks+1 }) ht (by omega) (by omega) (j:=i) ?_ hx ?_))
 ·have e:=seqIndex_of (k:=(i:Int)) (n:=xs.size) (by omega) (by omega)
  rw [Int.toNat_natCast] at e
  exact e
 try dsimp only
 refine wpAny_bind (wpAny_field go gd (x:=rawInt (i:Int)) rfl ?_)
 refine wpAny_bind (wpAny_setField go gd (by simp) ?_)
 refine wpAny_pure ⟨x,rfl,wpAny_pure (q _ ?_ (Heap.SameBut.update ..))⟩
 exact ⟨_,Heap.get?_update_self _ go (Obj.isFreed_of_fields (Obj.data_mapFields gd _)),(Obj.cls_mapFields ..).trans gc,by rw [Obj.data_mapFields gd];simp⟩
theorem rA {it l:Addr}{Q:Option Value→Shared→Prop}(hh:A.handled=none)(hi:zV s.heap it l (-1))
  (q:∀ h',Heap.ExtBut it s.heap h'→Q none { s with heap:=h' }):wpAny (model P w) A (pyNext (.ref it)) Q E s:=by
 obtain ⟨o,go,gc,gd⟩:=id hi
 unfold pyNext
 refine wpAny_bind (wpAny_attempt (wpAny_callSpecial?_slot (name:=Str.ofString "__next__") hi.typeIs cH
  (wpAny_call_entry cH hi.typeIs iQ ?_ (jU _))))
 unfold Builtin.«reversed.__next__»
 refine wpAny_bind (wpAny_of_eq (a:=(Value.ref it,([]:List Value))) (by rfl) ?_)
 try dsimp only
 refine wpAny_bind (wpAny_field go gd (x:=.ref l) rfl ?_)
 refine wpAny_bind (wpAny_field go gd (x:=rawInt (-1)) rfl ?_)
 show wpAny _ _ (if (-1:Int)<0 then _ else _) _ _ s
 rw [if_pos (by decide)]
 refine wpAny_bind (wpAny_rule ?_)
 refine wpAny_bind ?_
 refine wpAny_bind (wpAny_setField go gd (by simp) ?_)
 have g1:=Heap.get?_update_self (fun o=>o.mapFields fun x=>x.setIfInBounds 1 (rawInt (-1))) go (Obj.isFreed_of_fields (Obj.data_mapFields gd _))
 refine wpAny_setField g1 (Obj.data_mapFields gd _) (by simp) ?_
 refine wpAny_bind ?_
 show wpAny _ _ (newExc (.type "StopIteration") [] >>= fun e0=>raiseNew e0) _ _ _
 refine wpAny_bind ?_
 simp only [newExc,newTuple,raiseNew]
 refine wpAny_bind (wpAny_newObj_type (by
  refine wpAny_bind (m:=firstArgMember _ _) (wpAny_of_eq (a:=Value.none) (by rfl) (wpAny_newObj_type ?_ (by size_fits)))
  refine wpAny_bind (wpAny_handled (by
   first
    | rw [show A.in1.handled=none from hh]
    | rw [hh]
   refine wpAny_bind (wpAny_pure (wpAny_throw ?_))
   refine wpAny_bind (wpAny_isInstance (T := "StopIteration") (b:=true) ⟨_,Heap.get?_push_size _ rfl,rfl⟩ isSubtype_stop (wpAny_pure (q _ ?_)))
   intro b ob hb eb
   exact Heap.get?_push_of_some _ (Heap.get?_push_of_some _ ((Heap.SameBut.update ..).extBut b ob hb ((Heap.SameBut.update ..).extBut b ob hb eb))))) ) (by size_fits))
theorem vB {it l:Addr}{i:Int}{Q:Value→Shared→Prop}(hi:zV s.heap it l i)(q:Q (.ref it) s):wpAny (model P w) A (pyIter (.ref it)) Q E s:=by
 refine wpAny_pyIter_slot hi.typeIs jT (wpAny_call_entry jT hi.typeIs pB ?_ (rO _))
 show wpAny _ _ (ret (.ref it)) _ _ s
 exact wpAny_pure ⟨_,rfl, "reversed",_,hi.typeIs,cH.lookup,q⟩
end
end L2
namespace L2
open PySem PySem.Spec PyProof.Rows
def Itv (K:PySem.W.Frag)(n:Nat)(l:Addr):It:=
  ⟨fun i H=>i<n∧∃ xs x,SqT K H l xs∧xs.length=n∧xs[n - 1 - i]?=some x,
   fun i H v H'=>H'=H∧∀ xs,SqT K H l xs→xs[n - 1 - i]?=some v,
   fun i _=>n≤i,true⟩
def rvSt (n:Nat)(it l:Addr)(i:Nat)(h:Heap):Prop:=i≤n∧zV h it l ((n:Int) - 1 - (i:Int))
theorem turn_rev {P:Program}{w:World}{K:PySem.W.Frag}{tg:Expr}{n:Nat}{it l:Addr}(hne:l≠it):Turn P w K tg (Itv K n l) [it] it (rvSt n it l) where
 mem:=by simp
 obj:=fun i h st b hb=>by
  obtain ⟨_,o,g,_,d⟩:=st
  rw [List.mem_singleton] at hb
  subst hb
  exact ⟨o,g,fun v y=>by rw [d] at y;cases y⟩
 keep:=fun i h h' st k=>⟨st.1,st.2.at fun o e=>k it (by simp) o e⟩
 item:=by
  intro X hP hw hK hc i pins s σ H E I hf st hg
  subst hP hw hK
  obtain ⟨hin,xs,x,hx,hlen,ex⟩:=hg
  obtain ⟨its,r,pl,hz⟩:=I.tuple hx
  obtain ⟨u,hu,ru⟩:=r.get ex
  have hl:=r.length
  have e1:(n:Int) - 1 - (i:Int)=((n - 1 - i:Nat):Int):=by omega
  have hi:=st.2
  rw [e1] at hi
  have hn:=jR
  refine next_rvT hi pl (by simp only [List.size_toArray];omega) (x:=u) (by simpa using hu) fun h1 g1 sb=>⟨u,rfl,?_⟩
  have e2:((n - 1 - i:Nat):Int) - 1=(n:Int) - 1 - ((i+1:Nat):Int):=by omega
  rw [e2] at g1
  obtain ⟨o,go,gc,gd⟩:=id g1
  refine yM (s:={ s with heap:=h1,toks:=s.toks+1 }) go gc gd (by decide) ⟨x,H,I.turnedL (t':=s.toks+1) (ch:=[it]) (fun b o hb e=>sb.extBut b o (fun q=>hb (by simp [q])) e) hf,ru,⟨rfl,fun ys hy=>?_⟩,⟨hin,g1⟩,fun b hb=>(hf b hb).1⟩
  rw [I.tuple_inj hy hx]
  exact ex
 done:=by
  intro X hP hw hK hc i pins s σ H E I hf st hg
  subst hP hw hK
  have hi:=st.2
  have e1:(n:Int) - 1 - (i:Int) = -1:=by
   have:=st.1
   have:n≤i:=hg
   omega
  rw [e1] at hi
  exact rA (I.ok.hd (hc rfl)) hi fun h1 eb=>⟨rfl,I.turnedL (t':=s.toks) (ch:=[it]) (fun b o hb e=>eb b o (fun q=>hb (by simp [q])) e) hf⟩
 self:=fun _ _ _ _ _ st h=>vB st.2 h
section
variable {X:Cx}{K:PySem.W.Frag}
end
end L2
namespace L2
open PySem PySem.Spec PyProof.Rows
section
variable {X:Cx}
def mPar3 (i j k:Nat)(ta:MA):MS:=fun D σ h=>ta σ h fun ws h1=>match ws with
 | [a,b,c]=>D.nx (((σ.set i (some a)).set j (some b)).set k (some c)) h1
 | _=>False
end
end L2
namespace L2
open PySem PySem.Spec PyProof.Rows
def Itw (K:PySem.W.Frag)(n:Nat)(l:Addr):It:=
  ⟨fun i H=>i<n∧∃ xs x,SqL K H l xs∧xs.length=n∧xs[n - 1 - i]?=some x,
   fun i H v H'=>H'=H∧∀ xs,SqL K H l xs→xs[n - 1 - i]?=some v,
   fun i _=>n≤i,true⟩
def rwSt (n:Nat)(it l:Addr)(i:Nat)(h:Heap):Prop:=i≤n∧h.IsRevIter it l ((n:Int) - 1 - (i:Int))
theorem zf {P:Program}{w:World}{K:PySem.W.Frag}{tg:Expr}{n:Nat}{it l:Addr}(hne:l≠it):Turn P w K tg (Itw K n l) [it] it (rwSt n it l) where
 mem:=by simp
 obj:=fun i h st b hb=>by
  obtain ⟨_,o,g,_,d⟩:=st
  rw [List.mem_singleton] at hb
  subst hb
  exact ⟨o,g,fun v y=>by rw [d] at y;cases y⟩
 keep:=fun i h h' st k=>⟨st.1,st.2.at fun o e=>k it (by simp) o e⟩
 item:=by
  intro X hP hw hK hc i pins s σ H E I hf st hg
  subst hP hw hK
  obtain ⟨hin,xs,x,hx,hlen,ex⟩:=hg
  obtain ⟨its,r,pl,hz⟩:=I.list hx
  obtain ⟨u,hu,ru⟩:=r.get ex
  have hl:=r.length
  have e1:(n:Int) - 1 - (i:Int)=((n - 1 - i:Nat):Int):=by omega
  have hi:=st.2
  rw [e1] at hi
  refine wpAny_pyNext_rev_item hi pl.isList (x:=u) (by simpa using hu) fun h1 g1 sb=>⟨u,rfl,?_⟩
  have e2:((n - 1 - i:Nat):Int) - 1=(n:Int) - 1 - ((i+1:Nat):Int):=by omega
  rw [e2] at g1
  obtain ⟨o,go,gc,gd⟩:=id g1
  refine yM (s:={ s with heap:=h1 }) go gc gd (by decide) ⟨x,H,I.turnedL (t':=s.toks) (ch:=[it]) (fun b o hb e=>sb.extBut b o (fun q=>hb (by simp [q])) e) hf,ru,⟨rfl,fun ys hy=>?_⟩,⟨hin,g1⟩,fun b hb=>(hf b hb).1⟩
  rw [I.list_inj hy hx]
  exact ex
 done:=by
  intro X hP hw hK hc i pins s σ H E I hf st hg
  subst hP hw hK
  have hi:=st.2
  have e1:(n:Int) - 1 - (i:Int) = -1:=by
   have:=st.1
   have:n≤i:=hg
   omega
  rw [e1] at hi
  exact wpAny_pyNext_rev_end (I.ok.hd (hc rfl)) hi fun h1 eb=>⟨rfl,I.turnedL (t':=s.toks) (ch:=[it]) (fun b o hb e=>eb b o (fun q=>hb (by simp [q])) e) hf⟩
 self:=fun _ _ _ _ _ st h=>wpAny_pyIter_revIter st.2 h
section
variable {X:Cx}{K:PySem.W.Frag}
def iRev2 (K:PySem.W.Frag)(ta:TA):TI:=fun σ H R=>ta σ H fun vs H1=>∃ a xs,vs=[.ref a]∧((SqT K H1 a xs∧R (Itv K xs.length a) H1)∨(SqL K H1 a xs∧R (Itw K xs.length a) H1))
theorem pi_rev2 {tg e1:Expr}{ta:TA}{p pos:Pos}(hg:Gl X "reversed")(hm:X.mg "reversed" = none)(ha:PA X [e1] ta)
  (hs:starEach [e1] X.env=(false,eval e1 X.env)::starEach [] X.env:=by rfl) (hpl:(backTo pos (starEach [] X.env)).any (·.1)=false:=by rfl) :
  PI X tg (.Call (.Name "reversed" p) [e1] [] pos) (iRev2 X.K ta):=by
 intro pins s σ H R I h
 refine wpAny_Call_Name_kw (rm I hg hm boot_reversed ?_ (by decide) (by decide))
 refine PyProof.Rows.callWith_type1 (thn (ha pos pins s σ H _ I h) fun us s1 ⟨vs,H1,I1,r1,q1⟩=>?_) hs hpl
 obtain ⟨a,xs,ev,hx⟩:=q1
 subst ev
 obtain ⟨u1,eu,ru1⟩:=vals1 r1
 subst eu
 cases ru1
 rcases hx with ⟨hx,q⟩ | ⟨hx,q⟩
 ·obtain ⟨its,r,pl,hz⟩:=I1.tuple hx
  have hl:=r.length
  have hn:=jR
  refine call_rvT pl (by simp only [List.size_toArray];omega) ?_
  have gi:zV (s1.heap.push (rvObj a ((its.toArray.size:Int) - 1))) s1.heap.objs.size a ((xs.length:Int) - 1 - ((0:Nat):Int)):=by
   refine ⟨_,Heap.get?_push_size _ rfl,rfl,?_⟩
   show Data.fields #[.ref a,rawInt ((its.toArray.size:Int) - 1)]=_
   rw [List.size_toArray,←hl]
   simp
  have la:a<s1.heap.objs.size:=by obtain ⟨_,e,_⟩:=pl;exact Heap.lt_size e
  refine vB gi ?_
  refine ⟨_,[s1.heap.objs.size],_,_,H1,rfl,I1.kept (t':=s1.toks+1+1) (fun b o e=>Heap.get?_push_of_some _ e),turn_rev (Nat.ne_of_lt la),⟨Nat.zero_le _,gi⟩,fun c hc=>?_,q⟩
  rw [List.mem_singleton] at hc
  subst hc
  exact I1.fpOk (Nat.le_refl _) (I1.hok.fresh (Nat.le_refl _))
 ·obtain ⟨its,r,pl,hz⟩:=I1.list hx
  have hl:=r.length
  refine call_reversed_list pl.isList ?_
  have gi:(s1.heap.push (revObj a ((its.toArray.size:Int) - 1))).IsRevIter s1.heap.objs.size a ((xs.length:Int) - 1 - ((0:Nat):Int)):=by
   refine ⟨_,Heap.get?_push_size _ rfl,rfl,?_⟩
   show Data.fields #[.ref a,rawInt ((its.toArray.size:Int) - 1)]=_
   rw [List.size_toArray,←hl]
   simp
  have la:a<s1.heap.objs.size:=by obtain ⟨_,e,_⟩:=pl.isList;exact Heap.lt_size e
  refine wpAny_pyIter_revIter gi ?_
  refine ⟨_,[s1.heap.objs.size],_,_,H1,rfl,I1.kept (t':=s1.toks) (fun b o e=>Heap.get?_push_of_some _ e),zf (Nat.ne_of_lt la),⟨Nat.zero_le _,gi⟩,fun c hc=>?_,q⟩
  rw [List.mem_singleton] at hc
  subst hc
  exact I1.fpOk (Nat.le_refl _) (I1.hok.fresh (Nat.le_refl _))
def nRev2 (ma:MA):MI:=fun σ h R=>ma σ h fun ws h1=>match ws with
 | [.tup us]=>R ⟨us.reverse,none⟩ h1
 | [.lst us]=>R ⟨us.reverse,none⟩ h1
 | _=>False
theorem di_rev2 {tg e1:Expr}{mr:MA}{p pos:Pos}(hg:Gl X "reversed")(hm:X.mg "reversed" = none)(ha:DAs X [e1] mr)
  (hs:starEach [e1] X.env=(false,eval e1 X.env)::starEach [] X.env:=by rfl) (hpl:(backTo pos (starEach [] X.env)).any (·.1)=false:=by rfl) :
  DIt X tg (.Call (.Name "reversed" p) [e1] [] pos) (nRev2 mr):=PI.of (pi_rev2 hg hm ha hs hpl) fun σ H Q ⟨μ,h,σw,Rw,R,S,m,k⟩=>by
 refine ⟨μ,h,σw,_,R,S,m,fun vs H1 ⟨μ1,ws,h1,e1,R1,r1,m1⟩=>?_⟩
 dsimp only at m1
 split at m1
 ·rename_i us
  obtain ⟨v,ev,rv⟩:=mR r1
  have rv0:=rv
  rw [Rep] at rv
  obtain ⟨a,xs,ea,hx,rs⟩:=rv
  subst ev ea
  have hl:=rs.len
  refine ⟨a,xs,rfl,.inl ⟨hx,k _ _ ⟨μ1,⟨us.reverse,none⟩,h1,e1,R1,?_,m1⟩⟩⟩
  intro H2 μ2 h2 i e2 R2 _
  have r2:=e2.r _ _ rv0
  rw [Rep] at r2
  obtain ⟨b,ys,eb,hy,ry⟩:=r2
  cases eb
  have hl2:=ry.len
  refine ⟨fun w ew=>?_,fun hle=>?_⟩
  ·have hi:i<us.length:=by
    have:=(List.getElem?_eq_some_iff.mp ew).1
    simpa using this
   rw [List.getElem?_reverse hi] at ew
   obtain ⟨v,hv,rv⟩:=ry.get ew
   refine ⟨⟨by omega,ys,v,hy,by omega,by rw [show xs.length - 1 - i=us.length - 1 - i by omega];exact hv⟩,fun x H3 ⟨e3,y⟩=>?_⟩
   subst e3
   have:=y ys hy
   rw [show xs.length - 1 - i=us.length - 1 - i by omega,hv] at this
   cases this
   exact ⟨μ2,.refl,R2,rv⟩
  ·have:us.length≤i:=by simpa using hle
   show xs.length≤i
   omega
 ·rename_i us
  obtain ⟨v,ev,rv⟩:=mR r1
  have rv0:=rv
  rw [Rep] at rv
  obtain ⟨a,xs,ea,hx,rs⟩:=rv
  subst ev ea
  have hl:=rs.len
  refine ⟨a,xs,rfl,.inr ⟨hx.sq,k _ _ ⟨μ1,⟨us.reverse,none⟩,h1,e1,R1,?_,m1⟩⟩⟩
  intro H2 μ2 h2 i e2 R2 _
  have r2:=e2.r _ _ rv0
  rw [Rep] at r2
  obtain ⟨b,ys,eb,hy,ry⟩:=r2
  cases eb
  have hl2:=ry.len
  refine ⟨fun w ew=>?_,fun hle=>?_⟩
  ·have hi:i<us.length:=by
    have:=(List.getElem?_eq_some_iff.mp ew).1
    simpa using this
   rw [List.getElem?_reverse hi] at ew
   obtain ⟨v,hv,rv⟩:=ry.get ew
   refine ⟨⟨by omega,ys,v,hy.sq,by omega,by rw [show xs.length - 1 - i=us.length - 1 - i by omega];exact hv⟩,fun x H3 ⟨e3,y⟩=>?_⟩
   subst e3
   have:=y ys hy.sq
   rw [show xs.length - 1 - i=us.length - 1 - i by omega,hv] at this
   cases this
   exact ⟨μ2,.refl,R2,rv⟩
  ·have:us.length≤i:=by simpa using hle
   show xs.length≤i
   omega
 ·exact m1.elim
end
end L2
namespace L2
open PySem PySem.Spec PyProof.Rows
theorem repsN {K:PySem.W.Frag}{H:Hp}{μ : Mu}:aJ K H μ [] []:=by rw [aJ]
theorem gK {K:PySem.W.Frag}{H:Hp}{μ : Mu}{w:W}{v:V}{ws:List W}{vs:List V}(h:Rep K H μ w v)(t:aJ K H μ ws vs):aJ K H μ (w::ws) (v::vs):=by rw [aJ];exact ⟨v,vs,rfl,h,t⟩
theorem yw {K:PySem.W.Frag}{H:Hp}{μ : Mu}{i:Int}:Rep K H μ (.int i) (.int i):=by rw [Rep]
theorem repS {K:PySem.W.Frag}{H:Hp}{μ : Mu}{i:Str}:Rep K H μ (.str i) (.str i):=by rw [Rep]
theorem jj {K:PySem.W.Frag}{a:Addr}{od:Option Addr}{sl:Array (Option Value)}{its:Array Value}{n:Nat}{xs:List V}{ws:List W}(h:K.lookup a=some ⟨.type "tuple",od,.seq its n,sl⟩)(hz:its.size≤sizeLine)(hv:Vals xs its.toList)(hr:∀ H μ,aJ K H μ ws xs):∀ H μ,Rep K H μ (.tup ws) (.ref a):=by
 intro H μ
 rw [Rep]
 exact ⟨a,xs,rfl,.inr ⟨_,its,n,h,rfl,rfl,hz,hv⟩,hr H μ⟩
theorem yx {i:Int}{t}:RelV (.int i) (.int i t):=⟨t,rfl⟩
theorem relS {i:Str}{t}:RelV (.str i) (.str i t):=⟨t,rfl⟩
theorem relR {a:Addr}:RelV (.ref a) (.ref a):=rfl
end L2
namespace L2
open PySem PySem.Spec PyProof.Rows
section
variable {prog:Program}{w:World}{A:Around}{E:Value→Shared→Prop}{s:Shared}
theorem rQ {it t:Addr}{items:Array Value}(hne:t≠it):∀ (n i:Nat) (s:Shared) (Q:List Value→Shared→Prop),s.heap.IsListIter it t i→s.heap.IsList t items→i+n≤items.size →
  (∀ h',h'.IsListIter it t (i+n)→Heap.SameBut it s.heap h'→Q ((items.toList.drop i).take n) { s with heap:=h' })→wpAny (model prog w) A (draw (.ref it) n) Q E s
 | 0,i,s,Q,hit,_,_,hQ=>by
  show wpAny _ _ (pure []) Q E s
  exact wpAny_pure (by simpa using hQ s.heap hit (Heap.SameBut.refl ..))
 | n+1,i,s,Q,hit,ht,hle,hQ=>by
  have hlt:i<items.size:=by omega
  show wpAny _ _ (pyNext (.ref it) >>= _) Q E s
  refine wpAny_bind (wpAny_pyNext_list_item hit ht (x:=items[i]) (by simp [hlt]) fun h1 hit1 hs1=>?_)
  refine wpAny_bind (wpAny_holding (rQ hne n (i+1) _ _ hit1 (ht.at fun o e=>hs1.extBut _ o hne e) (by omega) fun h2 hit2 hs2=>wpAny_pure ?_))
  have hd:items.toList.drop i=items[i]::items.toList.drop (i+1):=by simp [List.drop_eq_getElem_cons,hlt]
  have:=hQ h2 (by rw [show i+(n+1)=i+1+n by omega];exact hit2) (hs1.trans hs2)
  rw [hd,List.take_succ_cons] at this
  exact this
theorem j7 {t:Addr}{items:Array Value}{Q:List Value→Shared→Prop}(hh:A.handled=none)(ht:s.heap.IsList t items)
  (hQ:∀ h',Heap.ExtBut s.heap.objs.size s.heap h'→Q items.toList { s with heap:=h' }):wpAny (model prog w) A (unpackItems (.ref t) items.size none) Q E s:=by
 have hlt:t≠s.heap.objs.size:=by obtain ⟨o,ho,_⟩:=ht;exact Nat.ne_of_lt (Heap.lt_size ho)
 unfold unpackItems
 refine wpAny_bind ?_
 ·unfold notIterableAtAll
  refine wpAny_bind (wpAny_specialOf ht.typeIs slot_list_iter.lookup ?_)
  refine wpAny_pure ?_
  simp only [Bool.false_eq_true,if_false]
  refine wpAny_bind (wpAny_holding (wpAny_pyIter_list ht ?_))
  refine wpAny_bind (wpAny_holding (rQ hlt items.size 0 _ _ ⟨_,Heap.get?_push_size _ rfl,rfl,rfl⟩ (ht.at fun o e=>Heap.get?_push_of_some _ e) (by omega) fun h1 hit1 hs1=>?_))
  have hall:List.take items.size (List.drop 0 items.toList)=items.toList:=by
   rw [List.drop_zero];exact List.take_of_length_le (by simp)
  rw [hall]
  rw [if_neg (by simp)]
  have ht1:h1.IsList t items:=ht.at fun o e=>hs1.extBut _ o hlt (Heap.get?_push_of_some _ e)
  refine wpAny_bind (wpAny_holding (wpAny_pyNext_list_end hh hit1 ht1 (by simp) fun h2 he2=>?_))
  simp only [Option.isSome_none,Bool.false_eq_true,if_false]
  refine wpAny_pure (hQ h2 fun b o hb e=>he2 b o hb (hs1.extBut b o hb (Heap.get?_push_of_some _ e)))
theorem jK {env:Env}{elts:List Expr}{x1}{pos:Pos}{t:Addr}{items:Array Value}{Q:Unit→Shared→Prop}(hh:A.handled=none)(ht:s.heap.IsList t items)
  (hn:(assignEach elts env).length=items.size) (hstar:(assignEach elts env).findIdx? (·.1)=none)
  (h:∀ h',Heap.ExtBut s.heap.objs.size s.heap h'→wpAny (model prog w) A (assignInOrder ((assignEach elts env).map (·.2)) items.toList) Q E { s with heap:=h' }) :
  wpAny (model prog w) A (assign (.Tuple elts x1 pos) env (.ref t)) Q E s:=by
 rw [assign_Tuple]
 refine wpAny_bind (wpAny_standAt ?_)
 unfold unpack
 rw [hn,hstar]
 exact wpAny_bind (wpAny_holding (j7 hh ht h))
end
section
variable {X:Cx}{pos:Pos}
def gTup2 (K:PySem.W.Frag)(n:Nat)(t:TGs):TG:=fun v σ H Q=>∃ a xs,v=.ref a∧(SqT K H a xs∨SqL K H a xs)∧xs.length=n∧t xs σ H Q
theorem pg_tup2 {es:List Expr}{k:Nat}{t:TGs}{n:Nat}(hc:X.calm=true)(h:PGs X es t)
  (hn:(assignEach es X.env).length=n:=by rfl) (hst:(assignEach es X.env).findIdx? (·.1)=none:=by rfl):PG X (.Tuple es k pos) (gTup2 X.K n t):=by
 intro pins s σ H v u Q I r hw
 obtain ⟨a,xs,e1,hq,hl,hw⟩:=hw
 subst e1
 cases r
 rcases hq with hq | hq
 ·obtain ⟨its,rv,ht,hz⟩:=I.tuple hq
  refine assign_Tuple_tuple (I.ok.hd hc) ht (by simp [hn,←hl,rv.length]) hst fun h' hx=>?_
  have I1:Inv X pins σ H { s with heap:=h' }:=I.kept (t':=s.toks) fun b o e=>hx b o (Nat.ne_of_lt (Heap.lt_size e)) e
  exact h pins _ σ H xs _ Q I1 (by simpa using rv) hw
 ·obtain ⟨its,rv,ht,hz⟩:=I.list hq
  refine jK (I.ok.hd hc) ht.isList (by simp [hn,←hl,rv.length]) hst fun h' hx=>?_
  have I1:Inv X pins σ H { s with heap:=h' }:=I.kept (t':=s.toks) fun b o e=>hx b o (Nat.ne_of_lt (Heap.lt_size e)) e
  exact h pins _ σ H xs _ Q I1 (by simpa using rv) hw
def qU (n:Nat)(g:MGs):MG:=fun w σ h N=>match w with
 | .tup ws=>by2 (Nat.beq ws.length n) (g ws σ h N) False
 | .lst ws=>by2 (Nat.beq ws.length n) (g ws σ h N) False
 | .loc j=>(match h.c j with
  | some (.lst ws)=>by2 (Nat.beq ws.length n) (g ws σ h N) False
  | _=>False)
 | _=>False
theorem uH {es:List Expr}{k:Nat}{g:MGs}{n:Nat}(hc:X.calm=true)(h:DGss X es g)(hn:(assignEach es X.env).length=n:=by rfl)(hst:(assignEach es X.env).findIdx? (·.1)=none:=by rfl):DG X (.Tuple es k pos) (qU n g):=
 (pg_tup2 (n:=n) hc h hn hst).of fun v σ H N ⟨μ,h,σw,w,Nw,R,S,r,m,k⟩=>by
  cases w with
  | tup ws=>
   rw [Rep] at r
   obtain ⟨p,xs,e1,hs,hr⟩:=r
   have m:by2 (Nat.beq ws.length n) (g ws σw h Nw) False:=m
   cases en:Nat.beq ws.length n with
   | true=>rw [en] at m;exact ⟨p,xs,e1,.inl hs,by rw [←hr.len];exact Nat.eq_of_beq_eq_true en,μ,h,σw,ws,Nw,R,S,hr,m,k⟩
   | false=>rw [en] at m;exact (show False from m).elim
  | lst ws=>
   rw [Rep] at r
   obtain ⟨p,xs,e1,hs,hr⟩:=r
   have m:by2 (Nat.beq ws.length n) (g ws σw h Nw) False:=m
   cases en:Nat.beq ws.length n with
   | true=>rw [en] at m;exact ⟨p,xs,e1,.inr hs.sq,by rw [←hr.len];exact Nat.eq_of_beq_eq_true en,μ,h,σw,ws,Nw,R,S,hr,m,k⟩
   | false=>rw [en] at m;exact (show False from m).elim
  | loc j=>
   have m:(match h.c j with
    | some (.lst ws)=>by2 (Nat.beq ws.length n) (g ws σw h Nw) False
    | _=>False):=m
   split at m
   ·rename_i ws ec
    obtain ⟨p,xs,e1,hs,hr⟩:=cT R r (show fB h (.loc j)=some ws by simp only [fB,ec])
    cases en:Nat.beq ws.length n with
    | true=>rw [en] at m;exact ⟨p,xs,e1,.inr hs,by rw [←hr.len];exact Nat.eq_of_beq_eq_true en,μ,h,σw,ws,Nw,R,S,hr,m,k⟩
    | false=>rw [en] at m;exact (show False from m).elim
   ·exact m.elim
  | _=>exact m.elim
end
end L2
namespace L2
open PySem PySem.Spec PyProof.Rows
section
variable {K:PySem.W.Frag}{H:Hp}{μ : Mu}{h:Gh}{p:Addr}{ws:List W}{xs:List V}
theorem Ex0.own (R:Rel K μ H h)(hp:μ.hid p):Ex0 K H μ H ((μ.unhide p).put h.nx p) where
 t:=fun _ _ z=>z
 l:=fun q ys z=>by
  refine ⟨z.1,fun m e=>?_,fun y=>z.2.2 y.2⟩
  by_cases hm:m=h.nx
  ·rw [hm,Mu.put_same] at e
   have e':p=q:=Option.some.inj e
   subst e'
   exact z.2.2 hp
  ·rw [Mu.put_ne hm] at e
   exact z.2.1 m e
 k:=fun _ _ z=>z
 m:=fun m q e=>by
  have hm:m≠h.nx:=fun y=>by rw [y,R.dead (Nat.le_refl _)] at e;cases e
  rw [Mu.put_ne hm]
  exact e
 x:=fun _ _ _ e=>e
 y:=fun _ _ e=>e
theorem ExtX.own (R:Rel K μ H h)(hp:μ.hid p):ExtX p K H μ H ((μ.unhide p).put h.nx p):=⟨fun _ _ z=>Rep.ex (Ex0.own R hp) z,fun q u ne z e=>⟨⟨ne,z⟩,e⟩⟩
theorem Rel.own (R:Rel K μ H h)(hp:μ.hid p)(e:H p=some (.lst xs))(r:aJ K H μ ws xs):Rel K ((μ.unhide p).put h.nx p) H (h.new (.lst ws)) where
 inj:=fun m n q em en=>by
  have key:∀ n,n≠h.nx→((μ.unhide p).put h.nx p).f n=some q→p=q→False:=fun n hn en e=>by
   rw [Mu.put_ne hn] at en
   subst e
   exact (R.hd p hp).2 n en
  by_cases hm:m=h.nx
  ·by_cases hn:n=h.nx
   ·rw [hm,hn]
   ·rw [hm,Mu.put_same] at em
    exact (key n hn en (Option.some.inj em)).elim
  ·by_cases hn:n=h.nx
   ·rw [hn,Mu.put_same] at en
    exact (key m hm em (Option.some.inj en)).elim
   ·rw [Mu.put_ne hm] at em
    rw [Mu.put_ne hn] at en
    exact R.inj m n q em en
 dom:=fun n q en=>by
  by_cases hn:n=h.nx
  ·rw [hn];exact Nat.lt_succ_self _
  ·rw [Mu.put_ne hn] at en
   exact Nat.lt_succ_of_lt (R.dom n q en)
 trk:=fun n q en=>by
  by_cases hn:n=h.nx
  ·rw [hn,Mu.put_same] at en
   cases en
   rw [e];trivial
  ·rw [Mu.put_ne hn] at en
   exact R.trk n q en
 cel:=fun n c en=>by
  by_cases hn:n=h.nx
  ·subst hn
   have ec:(h.new (.lst ws)).c h.nx=some (.lst ws):=by show (if h.nx=h.nx then some _ else _)=_;rw [if_pos rfl]
   rw [ec] at en
   cases en
   exact ⟨p,Mu.put_same,xs,e,aJ.ex (Ex0.own R hp) r⟩
  ·have ec:(h.new (.lst ws)).c n=h.c n:=by show (if n=h.nx then some _ else _)=_;rw [if_neg hn]
   rw [ec] at en
   obtain ⟨q,e1,x⟩:=R.cel n c en
   refine ⟨q,by rw [Mu.put_ne hn];exact e1,?_⟩
   have ex:=Ex0.own R hp
   cases c with
   | lst ws=>obtain ⟨xs,a,b⟩:=x;exact ⟨xs,a,aJ.ex ex b⟩
   | obj C fs=>obtain ⟨dx,fvs,a,b⟩:=x;exact ⟨dx,fvs,a,Paired.mapP b fun _ _ z=>⟨z.1,Rep.ex ex z.2⟩⟩
   | dct kvs=>obtain ⟨kvv,a,b⟩:=x;exact ⟨kvv,a,Paired.mapP b fun _ _ z=>⟨z.1,Rep.ex ex z.2⟩⟩
   | dtt kvs=>obtain ⟨xs,vs,a,b,c,d,f⟩:=x;exact ⟨xs,vs,a,b,c,aJ.ex ex d,aJ.ex ex f⟩
 hd:=fun q z=>by
  refine ⟨(R.hd q z.2).1,fun n en=>?_⟩
  by_cases hn:n=h.nx
  ·rw [hn,Mu.put_same] at en
   exact z.1 (Option.some.inj en).symm
  ·rw [Mu.put_ne hn] at en
   exact (R.hd q z.2).2 n en
end
def thaw (Q:WK):WK:=fun w h=>match w with
 | .lst ws=>Q (.loc h.nx) (h.new (.lst ws))
 | _=>False
def mLCM (own:W→Option (List W))(ix:List Nat)(mi:MI)(tt:MT)(te:ME):ME:=fun σ h Q=>mLC own ix mi tt te σ h (thaw Q)
section
variable {X:Cx}{tg iter elt:Expr}{ifs:List Expr}{pos:Pos}{scope:Scope}{xs:List Str}{mi:MI}{tt:MT}{te:ME}
theorem lcM_of {K:PySem.W.Frag}{σ : St}{H:Hp}{Q:VK}{n:Nat}{own:V→Hp→List V→Prop}{ow:W→Option (List W)}{ix:List Nat}{mi:MI}{tt:MT}{te:ME}(oo:xX K n own ow)(q:tD K (mLCM ow ix mi tt te) σ H Q):tLC n own ix (tDI K mi) (tDT K tt) (tD K te) σ H Q:=by
 obtain ⟨μ,h,σw,Qw0,R,S,m,k⟩:=q
 generalize hQw:thaw Qw0=Qw at *
 have m:mLC ow ix mi tt te σw h Qw:=by rw [←hQw];exact m
 refine ⟨μ,h,σw,_,R,S,m,fun J H1 ⟨μ1,src,h1,e1,R1,ok,hz0⟩=>?_⟩
 obtain ⟨hz,m1⟩:=hz0.ok
 intro D hD
 have nD:=R1.nohid hD
 have hD1:Ext K H1 μ1 (upd H1 D (.lst [])) (μ1.hide D):=Ext.hide hD
 refine ⟨fun i n ys H'=>n=src.ws.length - i∧i≤src.ws.length∧ys.length≤i∧H' D=some (.lst ys)∧∃ μ' acc h',Ext K H1 μ1 H' μ'∧Rel K μ' H' h'∧μ'.hid D∧aJ K H' μ' acc ys∧lu src ow ix tt te σw Qw (src.ws.drop i) acc h',
  ⟨src.ws.length,by simp,Nat.zero_le _,Nat.le_refl _,aL,μ1.hide D,[],h1,hD1,R1.hide hD,.inl rfl,.nil,by rw [List.drop_zero];exact m1⟩,?_⟩
 rintro i n' ys H2 ⟨hn,hle,hys,hH2,μ2,acc,h2,e2,R2,hid2,ra,m2⟩ _
 by_cases hlt:i<src.ws.length
 ·rw [List.drop_eq_getElem_cons hlt] at m2
  obtain ⟨ck,m2⟩:=Src.go_ok m2
  obtain ⟨hgo,hy⟩:=(ok e2 R2 ck).1 src.ws[i] (List.getElem?_eq_getElem hlt)
  refine .inr ⟨hgo,by omega,fun x H3 y=>?_⟩
  obtain ⟨μ3,e3,R3,rx⟩:=hy x H3 y
  have e13:=e2.trans e3
  cases eo:ow src.ws[i] with
  | none=>rw [eo] at m2;exact m2.elim
  | some us=>
   rw [eo] at m2
   obtain ⟨vs,hov,hvl,rvs⟩:=oo rx eo
   have S3:=(S.ext (e1.trans e13)).blk (ix:=ix) rvs
   refine ⟨vs,hov,hvl,μ3,h2,_,_,R3,S3,m2,fun b H4 ⟨μ4,h4,e4,R4,m4⟩=>?_⟩
   have e24:=e3.trans e4
   obtain ⟨hid4,hH4⟩:=e24.o D _ hid2 hH2
   cases b with
   | false=>
    dsimp only
    rw [if_neg Bool.false_ne_true]
    exact ⟨hH4,src.ws.length - (i+1),by omega,rfl,hlt,by omega,hH4,μ4,acc,h4,e2.trans e24,R4,hid4,e24.s ra,m4⟩
   | true=>
    dsimp only
    rw [if_pos rfl]
    refine ⟨μ4,h4,_,_,R4,S3.ext e4,m4,fun v H5 ⟨μ5,w5,h5,e5,R5,r5,m5⟩=>?_⟩
    have e25:=e24.trans e5
    obtain ⟨hid5,hH5⟩:=e25.o D _ hid2 hH2
    have g:=ExtX.grow (ys:=ys++[v]) R5 hid5
    have rs:aJ K (upd H5 D (.lst (ys++[v]))) μ5 (acc++[w5]) (ys++[v]):=aJ.ex (Ex0.grow R5 hid5) (aJ.append (e25.s ra) (aJ.one r5))
    exact ⟨hH5,src.ws.length - (i+1),by omega,rfl,hlt,by rw [List.length_append];simp;omega,aL,μ5,acc++[w5],h5,(e2.trans e25).x nD g,R5.grow hid5,hid5,rs,m5⟩
 ·have ei:i=src.ws.length:=by omega
  subst ei
  rw [List.drop_length] at m2
  obtain ⟨ck,m2⟩:=Src.go_ok m2
  have m2:Qw0 (.loc h2.nx) (h2.new (.lst acc)):=by rw [←hQw] at m2;exact m2
  exact .inl ⟨(ok e2 R2 ck).2 (Nat.le_refl _),k _ _ ⟨(μ2.unhide D).put h2.nx D,.loc h2.nx,h2.new (.lst acc),e1.trans (e2.x nD (ExtX.own R2 hid2)),R2.own hid2 hH2 ra,by rw [Rep];exact ⟨D,rfl,Mu.put_same⟩,m2⟩⟩
end
end L2
namespace L2
open PySem PySem.Spec PyProof.Rows
def isStar:Expr→Bool
 | .Starred _ _=>true
 | _=>false
theorem aj {e:Expr}{es:List Expr}{env:Env}(h:isStar e=false):starEach (e::es) env=(false,eval e env)::starEach es env:=by
 cases e <;> first | rfl | cases h
theorem j4 {e:Expr}{env:Env}(h:isStar e=false):starEach [e] env=[(false,eval e env)]:=(aj h).trans rfl
def noStar:List Expr→Bool
 | []=>true
 | e::r=>!isStar e&&noStar r
theorem aA {pos:Pos}{env:Env}:∀ {es:List Expr},noStar es=true→(backTo pos (starEach es env)).any (·.1)=false
 | [],_=>rfl
 | e::r,h=>by
  rw [noStar,Bool.and_eq_true,Bool.not_eq_true'] at h
  rw [aj h.1]
  show (false||(backTo pos (starEach r env)).any (·.1))=false
  rw [aA h.2]
  rfl
theorem xG {cpos:Pos}{e:Expr}{env:Env}(h:isStar e=false):((backTo cpos (starEach [e] env)).all (fun x=>!x.1)&&(backToKw cpos (keywordEach [] env)).all (fun x=>x.1.isSome)
   && decide (([e]:List Expr).length+([]:List Keyword).length+(if ([]:List Keyword).isEmpty then 0 else 1)<30))=true:=by
 rw [j4 h];rfl
end L2
namespace L2
open PySem PySem.Spec PyProof.Rows
section
variable {prog:Program}{w:World}{A:Around}{E:Value→Shared→Prop}{s:Shared}
open HT in
theorem iC {t sl:Addr}{items:Array Value}{vl vu:Value}{lo hi:Option Int}{Q:Value→Shared→Prop}(ht:IsTup s.heap t items)(hs:s.heap.IsSliceOf sl vl vu .none)(pl:IsPart vl lo)(pu:IsPart vu hi)
  (h0:sIx items.size 0 lo=0) (h1:sIx items.size items.size hi=items.size) (h:Q (.ref t) s):wpAny (model prog w) A (getItem (.ref t) (.ref sl)) Q E s:=by
 obtain ⟨os,hos,hcs,hds⟩:=id hs
 have hTs:s.TypeIs (.ref sl) "slice":=⟨os,hos,hcs⟩
 unfold getItem
 try with_reducible refine wpAny_holding ?_
 first | refine wpAny_bind (wpAny_pure ?_) | skip
 refine wpAny_bind (wpAny_sequenceKey ht.typeIs (by decide) ?_)
 refine wpAny_bind (wpAny_callSpecial?_slot (name:=Str.ofString "__getitem__") ht.typeIs PyProof.Rows.slot_tuple_getitem
  (wpAny_call_entry PyProof.Rows.slot_tuple_getitem ht.typeIs entry_tuple_getitem ?_ (args_tuple_getitem _ _)))
 show wpAny _ _ (Builtin.Tuple.tupleItemsOf (.ref t) >>= _) _ _ s
 refine wpAny_bind (tupleItemsOf_ ht ?_)
 refine wpAny_bind (wpAny_typeOf hTs ?_)
 rw [if_pos (by decide)]
 refine wpAny_bind (fG hs pl pu ?_)
 have hyes:((((sIx items.size 0 lo:Nat):Int)==0&&(1:Int)==1&&(sIx items.size items.size hi - sIx items.size 0 lo)==items.size)=true):=by
  rw [h0,h1]
  simp
 show wpAny _ _ (if (((sIx items.size 0 lo:Nat):Int)==0&&(1:Int)==1&&(sIx items.size items.size hi - sIx items.size 0 lo)==items.size)=true then _ else _) _ _ s
 rw [if_pos hyes]
 unfold Builtin.Tuple.tupleIsExact
 refine wpAny_bind (wpAny_bind (wpAny_typeOf ht.typeIs (wpAny_pure ?_)))
 rw [if_pos (by decide)]
 refine wpAny_bind (wpAny_rule ?_)
 first
  | exact wpAny_pure ⟨_,rfl,wpAny_pure h⟩
  | exact wpAny_bind (wpAny_pure (wpAny_pure ⟨_,rfl,wpAny_pure h⟩))
end
section
variable {X:Cx}
def rSlW (K:PySem.W.Frag):V→Option Int→Option Int→Hp→VK→Prop:=fun x lo hi H Q=>∃ a xs,x=.ref a∧SqT K H a xs ∧
 HT.sIx xs.length 0 lo=0∧HT.sIx xs.length xs.length hi=xs.length∧Q x H
theorem sl_whole:SlR X (rSlW X.K):=by
 intro pins s σ H x v vl vu lo hi sl Q I rx hs pl pu h
 obtain ⟨a,xs,rfl,hx,h0,h1,q⟩:=h
 cases rx
 obtain ⟨its,r,ht,hz⟩:=I.tuple hx
 have hlen:its.toArray.size=xs.length:=by rw [List.size_toArray];exact r.length.symm
 refine ⟨"tuple",_,PyProof.Rows.slot_tuple_getitem.lookup,ht.typeIs,?_⟩
 refine iC ht hs pl pu (by rw [hlen];exact h0) (by rw [hlen];exact h1) ?_
 exact ⟨.ref a,H,I,rfl,q⟩
def kSl2 (x:W)(lo hi:Option Int)(h:Gh)(Q:WK):Prop:=match x with
 | .tup ws=>Q (.tup (sZ ws lo hi)) h
 | x=>(match fB h x with
  | some ws=>Q (.lst (sZ ws lo hi)) h
  | none=>False)
theorem d_sl2 {e:Expr}{lo hi:Option Expr}{ma:ME}{ml mh:MO}{p2 pos:Pos}(he:DE X e ma)(hl:DO X lo ml)(hu:DO X hi mh):DE X (.Subscript e (.Slice lo hi none p2) pos) (mSl kSl2 ma ml mh):=
 (pe_slice (SlR.or (SlR.or sl_list sl_tup) sl_whole) he hl hu).of fun σ H Q ⟨μ,h,σw,Qw,R,S,m,k⟩=>by
  refine ⟨μ,h,σw,_,R,S,m,fun x H1 ⟨μ1,wx,h1,e1,R1,r1,m1⟩=>?_⟩
  refine ⟨μ1,h1,σw,_,R1,S.ext e1,m1,fun lo H2 ⟨μ2,h2,e2,R2,m2⟩=>?_⟩
  refine ⟨μ2,h2,σw,_,R2,(S.ext e1).ext e2,m2,fun hi H3 ⟨μ3,h3,e3,R3,m3⟩=>?_⟩
  have e13:=(e1.trans e2).trans e3
  have r3:=e3.r _ _ (e2.r _ _ r1)
  have oth:∀ wy,Rep X.K H3 μ3 wy x→(match fB h3 wy with
    | some ws=>Qw (.lst (sZ ws lo hi)) h3
    | none=>False)→∃ p xs,x=.ref p∧SqL X.K H3 p xs∧∀ l,H3 l=none→Q (.ref l) (upd H3 l (.lst (cutV xs lo hi))):=by
   intro wy ry my
   split at my
   ·rename_i ws ev
    obtain ⟨p,xs,ex,hs,rs⟩:=cT R3 ry ev
    exact ⟨p,xs,ex,hs,fun l hl=>k _ _ ⟨μ3,_,h3,e13.trans (Ex.laid hl).ext,R3.laid hl,.lstNew R3 hl (rs.cutv lo hi),my⟩⟩
   ·exact my.elim
  cases wx with
  | tup ws=>
   have m3:Qw (.tup (sZ ws lo hi)) h3:=m3
   have r30:=r3
   rw [Rep] at r3
   obtain ⟨p,xs,ex,hx,rs⟩:=r3
   have hl:=rs.len
   by_cases hw:HT.sIx xs.length 0 lo=0∧HT.sIx xs.length xs.length hi=xs.length
   ·have ec:sZ ws lo hi=ws:=by
     unfold sZ
     rw [hl,hw.1,hw.2,List.drop_zero,Nat.sub_zero,←hl,List.take_length]
    rw [ec] at m3
    exact .inr ⟨p,xs,ex,hx,hw.1,hw.2,k _ _ ⟨μ3,.tup ws,h3,e13,R3,r30,m3⟩⟩
   ·exact .inl (.inr ⟨p,xs,ex,hx,hw,fun q hq=>k _ _ ⟨μ3,.tup (sZ ws lo hi),h3,e13.trans (Ex.laid hq).ext,R3.laid hq,.tupNew hq (rs.cutv lo hi),m3⟩⟩)
  | _=>exact .inl (.inl (oth _ r3 m3))
end
end L2
namespace L2
open PySem PySem.Spec PyProof.Rows
section
variable {X:Cx}
def kInt:MC:=fun ws h Q=>match ws with
 | [.int i]=>Q (.int i) h
 | [.bl b]=>Q (.int (if b then 1 else 0)) h
 | _=>False
theorem oR {K:PySem.W.Frag}{H:Hp}{μ : Mu}:∀ {ns:List Int} {xs:List V},aJ K H μ (ns.map W.int) xs→xs=ns.map V.int
 | [],xs,r=>by rw [List.map_nil,aJ] at r;exact r
 | n::ns,xs,r=>by
  rw [List.map_cons,aJ] at r
  obtain ⟨v,vs,e,rv,r⟩:=r
  rw [Rep] at rv
  rw [e,rv,oR r];rfl
end
end L2
namespace L2
open PySem PySem.Spec PyProof.Rows
section
variable {X:Cx}
end
end L2
namespace L2
open PySem PySem.Spec PyProof.Rows
section
variable {X:Cx}
def mBits (mo:ME):ME:=fun σ h Q=>mo σ h fun x h1=>match x with
 | .int i=>Q (.int (Builtin.Int.intBits i:Nat)) h1
 | _=>False
theorem yU (hc:X.calm=true):fu X (.builtin "max") (fun xs H Q=>∃ (p:Addr) (ns:List Int),xs=[.ref p]∧SqL X.K H p (ns.map V.int)∧0<ns.length∧∀ M,M∈ns→(∀ a,a∈ns→a≤M)→Q (.int M) H):=by
 intro pins s σ H xs us Q I r ⟨p,ns,e,hS,hne,q⟩
 subst e
 obtain ⟨u,rfl,ru⟩:=vals1 r
 cases ru
 obtain ⟨its,rv,pl,hz⟩:=I.list hS
 have hlen:its.length=ns.length:=by rw [←rv.length,List.length_map]
 have all:AllInts its.toArray:=fun v hv=>by
  obtain ⟨i,hi,e⟩:=Array.mem_iff_getElem.mp hv
  obtain ⟨t,e2⟩:=tV (i:=i) (v:=v) rv (by rw [←e];simp at hi ⊢)
  exact ⟨_,t,e2⟩
 obtain ⟨ys,ey⟩:=all.items
 have hl:=pl.isList
 rw [ey] at hl
 have hys:ys.size=ns.length:=by
  have:=congrArg Array.size ey
  simp [intItems] at this
  omega
 have num:∀ i,i<ns.length→numAt ys i=ns.getD i 0:=fun i hi=>by
  obtain ⟨t,e2⟩:=tV (i:=i) (v:=its[i]'(by omega)) rv (List.getElem?_eq_getElem (by omega))
  have e3:(intItems ys)[i]?=some (its[i]'(by omega)):=by rw [←ey];simp
  obtain ⟨t',e4⟩:=intItems_at e3
  rw [e2] at e4
  injection e4 with e5 _
  exact e5.symm
 refine max_intList (I.ok.hd hc) hl (by omega) fun v h' tk hv hk=>?_
 obtain ⟨t,rfl⟩:=intItems_at hv
 obtain ⟨h1,h2⟩:=argBest_gt (numAt ys) (ys.size - 1)
 refine ⟨.int _,H,I.kept (h':=h') (t':=tk) hk,⟨t,rfl⟩,q _ ?_ fun a ha=>?_⟩
 ·rw [num _ (by omega),List.getD_eq_getElem?_getD,List.getElem?_eq_getElem (by omega)]
  exact List.getElem_mem _
 ·obtain ⟨j,hj,e⟩:=List.mem_iff_getElem.mp ha
  have:=h2 j (by omega)
  rw [num j hj,List.getD_eq_getElem?_getD,List.getElem?_eq_getElem hj] at this
  rw [←e]
  exact this
def kMaxA:MC:=fun ws h Q=>match ws with
 | [.int i,.int j]=>Q (.int (if j>i then j else i)) h
 | [w]=>(match fB h w with
  | some us=>∃ ns:List Int,us=ns.map W.int∧0<ns.length∧∀ M,M∈ns→(∀ a,a∈ns→a≤M)→Q (.int M) h
  | none=>False)
 | _=>False
theorem c_maxA (hc:X.calm=true):nP X (.builtin "max") kMaxA:=⟨_,fu.or (call_max2 hc) (yU hc),by
 intro H μ h vs ws Qw Q R r m k
 unfold kMaxA at m
 split at m
 ·rename_i i j
  rw [aJ] at r
  obtain ⟨v,vs',e,rv,r⟩:=r
  rw [aJ] at r
  obtain ⟨v2,vs2,e2,rv2,r⟩:=r
  rw [aJ] at r
  rw [Rep] at rv rv2
  subst e e2 rv rv2 r
  exact .inl ⟨i,j,rfl,k _ _ (.int R m)⟩
 ·split at m
  ·rename_i w us ev
   obtain ⟨v,e,rv⟩:=mR r
   obtain ⟨p,ys,ex,hs,rs⟩:=cT R rv ev
   obtain ⟨ns,eu,hne,m⟩:=m
   subst e ex
   rw [eu] at rs
   have:=oR rs
   subst this
   exact .inr ⟨p,ns,rfl,hs,hne,fun M hM ha=>k _ _ (.int R (m M hM ha))⟩
  ·exact m.elim
 ·exact m.elim⟩
end
end L2
namespace L2
open PySem PySem.Spec PyProof.Rows
def XO (h:Heap)(P:Addr→Prop)(e C:Addr)(od:Option Addr):Prop:=P e∧∃ (oe:Obj) (vs:Array Value),h.get? e=some oe∧oe.cls=.ref C∧oe.dict=od∧oe.data=.fields vs∧vs.size≤1000∧vs[2]?=some .none ∧
 (vs[1]?=some .none∨∃ (T:Addr) (oT:Obj) (ts:Array Value),vs[1]?=some (.ref T)∧T≠e∧P T∧h.get? T=some oT∧oT.data=.fields ts∧3<ts.size)
def XN (h:Heap)(P:Addr→Prop)(e C:Addr)(od:Option Addr):Prop:=P e∧∃ (oe:Obj) (vs:Array Value),h.get? e=some oe∧oe.cls=.ref C∧oe.dict=od∧oe.data=.fields vs∧vs.size≤1000∧vs[2]?=some .none ∧
 ∃ (T:Addr) (oT:Obj) (ts:Array Value),vs[1]?=some (.ref T)∧T≠e∧P T∧h.get? T=some oT∧oT.data=.fields ts∧3<ts.size
theorem XN.xo {h:Heap}{P:Addr→Prop}{e C:Addr}{od:Option Addr}(x:XN h P e C od):XO h P e C od:=by
 obtain ⟨p,oe,vs,a,b,c,d,f,g,k⟩:=x
 exact ⟨p,oe,vs,a,b,c,d,f,g,.inr k⟩
theorem XO.mono {h:Heap}{P P':Addr→Prop}{e C:Addr}{od:Option Addr}(x:XO h P e C od)(k:∀ b,P b→P' b):XO h P' e C od:=by
 obtain ⟨p,oe,vs,a,b,c,d,f,g,z⟩:=x
 refine ⟨k _ p,oe,vs,a,b,c,d,f,g,?_⟩
 rcases z with z | ⟨T,oT,ts,z1,z2,z3,z4⟩
 ·exact .inl z
 ·exact .inr ⟨T,oT,ts,z1,z2,k _ z3,z4⟩
theorem XN.mono {h:Heap}{P P':Addr→Prop}{e C:Addr}{od:Option Addr}(x:XN h P e C od)(k:∀ b,P b→P' b):XN h P' e C od:=by
 obtain ⟨p,oe,vs,a,b,c,d,f,g,T,oT,ts,z1,z2,z3,z4⟩:=x
 exact ⟨k _ p,oe,vs,a,b,c,d,f,g,T,oT,ts,z1,z2,k _ z3,z4⟩
structure Stp (P:Addr→Prop) (fs:List Addr) (h h':Heap):Prop where
 keep:∀ b o,¬ P b→b∉fs→h.get? b=some o→h'.get? b=some o
 slot:∀ b o,¬ P b→h.get? b=some o→∃ sl,h'.get? b=some { o with slots:=sl }
 there:∀ b o,h.get? b=some o→∃ o',h'.get? b=some o'
theorem Stp.refl {P:Addr→Prop}{fs:List Addr}{h:Heap}:Stp P fs h h:=⟨fun _ _ _ _ e=>e,fun _ o _ e=>⟨o.slots,e⟩,fun _ o e=>⟨o,e⟩⟩
theorem Stp.trans {P:Addr→Prop}{fs:List Addr}{h h1 h2:Heap}(a:Stp P fs h h1)(b:Stp P fs h1 h2):Stp P fs h h2:=
 ⟨fun c o n m e=>b.keep c o n m (a.keep c o n m e),fun c o n e=>let ⟨_,e1⟩:=a.slot c o n e;let ⟨sl,e2⟩:=b.slot c _ n e1;⟨sl,e2⟩,fun c o e=>let ⟨o1,e1⟩:=a.there c o e;b.there c o1 e1⟩
section
variable {M:Model}{A:Around}{E:Value→Shared→Prop}{s:Shared}{P:Addr→Prop}{e C:Addr}{od:Option Addr}
theorem zy {fl:Option Addr}{fs:List Addr}{Q:Unit→Shared→Prop}(x:XN s.heap P e C od)(h:∀ h',XN h' P e C od→Stp P fs s.heap h'→Q () { s with heap:=h' }):wpAny M A (setFlight (.ref e) fl) Q E s:=by
 obtain ⟨p,oe,vs,he,hc,hdd,hd,hz,h2,T,oT,ts,h1,hne,pT,hT,hdT,h3⟩:=x
 unfold setFlight
 refine wpAny_bind (wpAny_field he hd h1 ?_)
 rw [if_pos (show (Value.ref T != Value.none)=true from by simp)]
 refine wpAny_setField hT hdT h3 (h _ ?_ ?_)
 ·have hd3:=Obj.data_mapFields hdT (·.setIfInBounds 3 (fl.elim Value.none fun f=>rawInt f))
  refine ⟨p,oe,vs,?_,hc,hdd,hd,hz,h2,T,_,_,h1,hne,pT,Heap.get?_update_self _ hT (Obj.isFreed_of_fields hd3),hd3,by simpa using h3⟩
  rw [Heap.get?_update_other _ _ hne];exact he
 ·have ne:∀ b,¬ P b→T≠b:=fun b n q=>n (q ▸ pT)
  refine ⟨fun b o n _ q=>by rw [Heap.get?_update_other _ _ (ne b n)];exact q,fun b o n q=>⟨o.slots,by rw [Heap.get?_update_other _ _ (ne b n)];exact q⟩,fun b o q=>?_⟩
  by_cases hb:T=b
  ·subst hb
   exact ⟨_,Heap.get?_update_self _ hT (Obj.isFreed_of_fields (Obj.data_mapFields hdT _))⟩
  ·exact ⟨o,by rw [Heap.get?_update_other _ _ hb];exact q⟩
theorem wL {base:Heap}{env:Env}{outer:List Env}{L:Addr}{oe:Obj}{vs:Array Value}{head:Value}{hadNext:Bool}{Q:Unit→Shared→Prop}
  (hfr:A.frames=some (env::outer)) (hl:s.heap.FunFrames base (env::outer)) (hf:env.frame=some L) (pe:P e) (he:s.heap.get? e=some oe) (hc:oe.cls=.ref C) (hdd:oe.dict=od) (hd:oe.data=.fields vs) (hz:vs.size≤1000) (h2:vs[2]?=some .none)
  (pn:∀ b,s.heap.get? b=none→P b) (h:∀ h',XN h' P e C od→Stp P (frs (env::outer)) s.heap h'→Q () { s with heap:=h' }) :
  wpAny M A (do let a ←frameOf env;let pl ←entryPlaceOf L hadNext;let b ←EntryCells.newEntry head a .none (rawInt L) .none pl;setField (.ref e) 1 b) Q E s:=by
 have hsz:1<vs.size:=Nat.lt_trans (by decide) (Array.getElem?_eq_some_iff.mp h2).1
 have hene:e∉(env::outer).filterMap (·.frame):=fun hm=>by
  obtain ⟨_,o,ho,hnf⟩:=hl.mem hm
  rw [he] at ho;injection ho with ho;subst ho;exact hnf vs hd
 refine wpAny_bind (wpAny_frameOf_fun hfr hl hf fun h₁ hs₁=>?_)
 refine wpAny_bind (wpAny_entryPlaceOf fun pl hpl=>?_)
 unfold EntryCells.newEntry newFields
 refine wpAny_bind (wpAny_newObj_type ?_ (hpl.sizeOk5 _ _ _ _ _))
 have he₁ : h₁.get? e=some oe:=(hs₁.2.1 e hene).trans he
 have he₂:=Heap.get?_push_of_some (h:=h₁) { cls:=.type "traceback",dict:=none,data:=.fields ([head,.ref L,.none,rawInt L,.none]++(if pl.isEmpty then List.replicate 6 Value.none else pl)).toArray } he₁
 refine wpAny_setField he₂ hd hsz (h _ ?_ ?_)
 ·have hTe:h₁.objs.size≠e:=Nat.ne_of_gt (Heap.lt_size he₁)
  have hd₃:=Obj.data_mapFields hd (·.setIfInBounds 1 (Value.ref h₁.objs.size))
  refine ⟨pe,_,_,Heap.get?_update_self _ he₂ (Obj.isFreed_of_fields hd₃),by rw [Obj.cls_mapFields];exact hc,?_,hd₃,by simpa using hz,by rw [Array.getElem?_setIfInBounds_ne (by decide)];exact h2,h₁.objs.size,_,_,by simp [hsz],hTe,
   pn _ (Heap.get?_none_of_le (by rw [hs₁.1];exact Nat.le_refl _)),(Heap.get?_update_other _ _ (Ne.symm hTe)).trans (Heap.get?_push_size h₁ rfl),rfl,by simp only [List.size_toArray,List.length_append,List.length_cons,List.length_nil] <;> omega⟩
  obtain ⟨c,dd,dt,sl⟩:=oe
  cases hd
  exact hdd
 ·have ne:∀ b,¬ P b→e≠b:=fun b n q=>n (q ▸ pe)
  refine ⟨fun b o n m q=>?_,fun b o n q=>?_,fun b o q=>?_⟩
  ·rw [Heap.get?_update_other _ _ (ne b n)]
   exact Heap.get?_push_of_some _ ((hs₁.2.1 b m).trans q)
  ·obtain ⟨sl,e1⟩:=hs₁.2.2 b o q
   exact ⟨sl,by rw [Heap.get?_update_other _ _ (ne b n)];exact Heap.get?_push_of_some _ e1⟩
  ·obtain ⟨sl,e1⟩:=hs₁.2.2 b o q
   by_cases hb:e=b
   ·subst hb
    exact ⟨_,Heap.get?_update_self _ he₂ (Obj.isFreed_of_fields (Obj.data_mapFields hd _))⟩
   ·exact ⟨_,by rw [Heap.get?_update_other _ _ hb];exact Heap.get?_push_of_some _ e1⟩
theorem note_ok {base:Heap}{env:Env}{outer:List Env}{L:Addr}{Q:Unit→Shared→Prop}(hfr:A.frames=some (env::outer))(hl:s.heap.FunFrames base (env::outer))(hf:env.frame=some L)(x:XO s.heap P e C od)
  (pn:∀ b,s.heap.get? b=none→P b) (pf:∀ b∈frs (env::outer),¬ P b) (h:∀ h',XN h' P e C od→Stp P (frs (env::outer)) s.heap h'→Q () { s with heap:=h' }):wpAny M A (noteFrame (.ref e) env) Q E s:=by
 obtain ⟨p,oe,vs,he,hc,hdd,hd,hz,h2,z⟩:=x
 unfold noteFrame
 simp only [hf]
 rcases z with h1 | ⟨T,oT,ts,h1,hne,pT,hT,hdT,h3⟩
 ·refine wpAny_bind (wpAny_field he hd h1 ?_)
  rw [if_neg (by decide)]
  exact wL hfr hl hf p he hc hdd hd hz h2 pn h
 ·refine wpAny_bind (wpAny_field he hd h1 ?_)
  rw [if_pos (show (Value.ref T != Value.none)=true from by simp)]
  refine wpAny_bind (wpAny_field hT hdT (x:=ts[3]) (by simp [h3]) ?_)
  by_cases q:(ts[3]==rawInt L)=true
  ·rw [if_pos q]
   exact wpAny_pure (h s.heap ⟨p,oe,vs,he,hc,hdd,hd,hz,h2,T,oT,ts,h1,hne,pT,hT,hdT,h3⟩ .refl)
  ·rw [if_neg q]
   refine wpAny_bind (wpAny_setField hT hdT h3 ?_)
   have other:∀ b,b≠T→(s.heap.update T (Obj.mapFields (·.setIfInBounds 3 Value.none))).get? b=s.heap.get? b:=fun b hb=>Heap.get?_update_other _ _ (Ne.symm hb)
   have nT:∀ b,¬ P b→b≠T:=fun b n q=>n (q ▸ pT)
   have st:Stp P (frs (env::outer)) s.heap (s.heap.update T (Obj.mapFields (·.setIfInBounds 3 Value.none))):=by
    refine ⟨fun b o n _ q=>(other b (nT b n)).trans q,fun b o n q=>⟨o.slots,(other b (nT b n)).trans q⟩,fun b o q=>?_⟩
    by_cases hb:T=b
    ·subst hb
     exact ⟨_,Heap.get?_update_self _ hT (Obj.isFreed_of_fields (Obj.data_mapFields hdT _))⟩
    ·exact ⟨o,(other b (Ne.symm hb)).trans q⟩
   refine wL (s:={ s with heap:=s.heap.update T (Obj.mapFields (·.setIfInBounds 3 Value.none)) }) hfr (hl.of_keeps fun b o hb hnf=>⟨o,(other b fun q=>?_).trans hb,rfl⟩) hf p ((other e (Ne.symm hne)).trans he) hc hdd hd hz h2 (fun b q=>?_) fun h' x1 x2=>h h' x1 (st.trans x2)
   ·rw [q,hT] at hb;injection hb with hb;subst hb;exact hnf ts hdT
   ·by_cases hb:b=T
    ·rw [hb];exact pT
    ·exact pn b ((other b hb).symm.trans q)
end
end L2
namespace L2
open PySem PySem.Spec PyProof.Rows
theorem cU.obj {P:Program}{w:World}{H:Hp}{h:Heap}{a:Addr}{o:HO}(x:cU P w H h a o):∃ ob,h.get? a=some ob:=by
 cases o with
 | lst xs=>obtain ⟨_,_,_,_,e⟩:=x;exact ⟨_,e⟩
 | tup xs=>obtain ⟨_,_,_,ob,e,_⟩:=x;exact ⟨_,e⟩
 | dK kvs=>obtain ⟨_,_,_,_,o,_,_,e,_⟩:=x;exact ⟨_,e⟩
 | dT kvs=>obtain ⟨_,_,_,_,o,_,_,e,_⟩:=x;exact ⟨_,e⟩
 | set S n=>obtain ⟨o,_,_,_,e,_⟩:=x;exact ⟨_,e⟩
 | ins C dx fs=>obtain ⟨_,_,_,e,_⟩:=x;exact ⟨_,e⟩
 | own y=>obtain ⟨_,e⟩:=x;exact ⟨_,e⟩
 | xd fs=>obtain ⟨_,⟨_,_,_,e,_⟩,_⟩:=x;exact ⟨_,e⟩
 | rng lo hi=>obtain ⟨_,_,_,e⟩:=x;exact ⟨_,e⟩
 | frz ob u=>obtain ⟨e,_⟩:=x;exact ⟨_,e⟩
 | tbl ps=>exact ⟨_,show h.get? a=some _ from x⟩
 | met f y=>exact ⟨_,show h.get? a=some _ from x⟩
 | ext φ=>obtain ⟨_,⟨_,e⟩,_⟩:=x;exact ⟨_,e⟩
section
variable {X:Cx}{pins:List (Addr×Obj)}{σ : St}{H H':Hp}{s s':Shared}{b e C:Addr}{od:Option Addr}
structure New (X:Cx) (pins:List (Addr×Obj)) (H:Hp) (b:Addr):Prop where
 h:H b=none
 s:b∈X.ex∨X.s₀.heap.get? b=none
 l:b≠X.env.locals
 c:∀ x c,X.env.cells.lookup x=some c→c≠b
 p:∀ p∈X.pn++pins,p.1≠b
 f:b∉X.fs
theorem Inv.newOf (I:Inv X pins σ H s)(hb:s.heap.get? b=none):New X pins H b where
 h:=by
  cases q:H b with
  | none=>rfl
  | some u=>obtain ⟨ob,e⟩:=(I.hok b u q).obj;rw [hb] at e;cases e
 s:=by
  by_cases hx:b∈X.ex
  ·exact .inl hx
  ·cases q:X.s₀.heap.get? b with
   | none=>exact .inr rfl
   | some o=>obtain ⟨o',e⟩:=I.base.there b o q hx;rw [hb] at e;cases e
 l:=fun z=>by obtain ⟨m,⟨o,_,_,ho,_⟩,_⟩:=I.loc;rw [←z,hb] at ho;cases ho
 c:=fun x c e z=>by obtain ⟨v,o,ho,_⟩:=I.cell x c e;rw [z,hb] at ho;cases ho
 p:=fun p hp z=>by have ho:=(I.pin p hp).1;rw [z,hb] at ho;cases ho
 f:=fun hm=>by obtain ⟨_,o,ho,_⟩:=I.funs.mem hm;rw [hb] at ho;cases ho
open Classical in
theorem Inv.stp {h':Heap}(I:Inv X pins σ H s)(st:Stp (New X pins H) (frs X.stack) s.heap h'):Inv X pins σ H { s with heap:=h' }:=by
 have inCh:∀ b o,s.heap.get? b=some o→b∉(List.range s.heap.objs.size).filter (fun b=>decide (New X pins H b))→¬ New X pins H b:=fun b o e n z=>
  n (List.mem_filter.mpr ⟨List.mem_range.mpr (Heap.lt_size e),decide_eq_true z⟩)
 refine I.stepG (g':=s.gens) (t':=s.toks) (d':=s.drawn) (ch:=(List.range s.heap.objs.size).filter (fun b=>decide (New X pins H b))) (fun b hb=>?_) (fun b o hL hf hc e n=>?_) (fun b o _ _ hc e _=>st.slot b o (inCh b o e hc) e) (fun _ _ _ _ n=>n)
  (fun b o _ e=>st.there b o e) (fun _ _ q=>q) (fun _ _ _ q=>q) (fun _ ps q=>⟨#[],by rw [q];simp⟩) (fun m hm=>?_) (fun b u q=>?_) I.bare
 ·have z:=of_decide_eq_true (List.mem_filter.mp hb).2
  exact ⟨z.s,z.l,z.c,z.p⟩
 ·exact st.keep b o (inCh b o e hc) (fun z=>(List.mem_cons.mp (I.stkSub b z)).elim hL hf) e
 ·obtain ⟨o,es,ep,ho,r⟩:=hm
  obtain ⟨sl,q⟩:=st.slot _ o (fun z=>z.l rfl) ho
  exact ⟨_,es,ep,q,r⟩
 ·refine (I.hok b u q).stay (fun c v hc r=>?_) (fun _ q=>q) fun _ _ q=>q
  have hH:H c≠none:=by
   rcases hc with z | z
   ·rw [z,q];simp
   ·rw [z];simp
  exact st.keep c v (fun z=>hH z.h) (fun z=>hH (I.stkFree c z)) r
structure FX (X:Cx) (pins:List (Addr×Obj)) (σ : St) (H:Hp) (s:Shared) (e C:Addr) (od:Option Addr):Prop where
 inv:Inv X pins σ H s
 xo:XO s.heap (New X pins H) e C od
structure FN (X:Cx) (pins:List (Addr×Obj)) (σ : St) (H:Hp) (s:Shared) (e C:Addr) (od:Option Addr):Prop where
 inv:Inv X pins σ H s
 xn:XN s.heap (New X pins H) e C od
theorem FN.fx (F:FN X pins σ H s e C od):FX X pins σ H s e C od:=⟨F.inv,F.xn.xo⟩
def Top (X:Cx):Prop:=X.stack=X.env::X.outer∧X.env.frame=some X.env.locals
theorem FX.note {M:Model}{A:Around}{E:Value→Shared→Prop}{Q:Unit→Shared→Prop}(F:FX X pins σ H s e C od)(ht:Top X)(hA:A.frames=some X.stack)(h:∀ h',FN X pins σ H { s with heap:=h' } e C od→Q () { s with heap:=h' }) :
  wpAny M A (noteFrame (.ref e) X.env) Q E s:=by
 have hst:=F.inv.stack
 rw [ht.1] at hst hA
 refine note_ok (P:=New X pins H) hA hst ht.2 F.xo (fun b hb=>F.inv.newOf hb) (fun b hb z=>?_) fun h' x st=>h h' ⟨F.inv.stp (by rw [ht.1];exact st),x⟩
 have hb':b∈frs X.stack:=by rw [ht.1];exact hb
 rcases List.mem_cons.mp (F.inv.stkSub b hb') with q | q
 ·exact z.l q
 ·exact z.f q
theorem FN.flight {M:Model}{A:Around}{E:Value→Shared→Prop}{Q:Unit→Shared→Prop}{fl:Option Addr}(F:FN X pins σ H s e C od)(h:∀ h',FN X pins σ H { s with heap:=h' } e C od→Q () { s with heap:=h' }) :
  wpAny M A (setFlight (.ref e) fl) Q E s:=zy (fs:=frs X.stack) F.xn fun h' x st=>h h' ⟨F.inv.stp st,x⟩
def CXX (P:Program)(w:World):CXT:=fun outer H s E e s'=>∃ (a C:Addr) (od:Option Addr) (H':Hp),e=.ref a∧s'.os=s.os∧AllBare s'.gens∧Un (frs outer) [] H H' s.heap s'.heap∧HOk P w H' s'.heap ∧
 XN s'.heap (fun b=>H' b=none∧s.heap.get? b=none) a C od∧E (.ref C) od H'
theorem FX.leave {M:Model}{E':Value→Shared→Prop}{E:XK}(F:FX X pins σ H s e C od)(ht:Top X)(hx:X.ex=[])(he:E (.ref C) od H) :
  wpAny M X.A (leaving X.env (.ref e)) (fun _ s3=>CXX X.prog X.w X.outer X.H₀ X.s₀ E (.ref e) s3) E' s:=by
 unfold leaving
 refine wpAny_bind (F.note ht F.inv.ok.frames fun h1 F1=>F1.flight fun h2 F2=>?_)
 have I:=F2.inv
 refine ⟨e,C,od,H,rfl,I.os,I.bare,by have:=I.base;rw [hx] at this;exact this,I.hok,F2.xn.mono fun b z=>⟨z.h,?_⟩,he⟩
 rcases z.s with q | q
 ·rw [hx] at q;cases q
 ·exact q
theorem Inv.cxx {E:XK}{ev:Value}(I:Inv X pins σ H s)(h:CXX X.prog X.w X.stack H s E ev s'):∃ (a C:Addr) (od:Option Addr) (H':Hp),ev=.ref a∧FN X pins σ H' s' a C od∧E (.ref C) od H':=by
 obtain ⟨a,C,od,H',e1,os,bare,un,hok,x,he⟩:=h
 refine ⟨a,C,od,H',e1,⟨I.call' os un hok bare (ch:=[]) (fun b z=>absurd z (by simp)),x.mono fun b z=>?_⟩,he⟩
 have n:=I.newOf z.2
 exact ⟨z.1,n.s,n.l,n.c,n.p,n.f⟩
end
section
variable {X:Cx}{pins:List (Addr×Obj)}{σ : St}{H:Hp}{s:Shared}{C:Addr}{x:Str}{np cpos pos:Pos}{e:Expr}{es:List Expr}{t:TA}
end
end L2
namespace L2
open PySem PySem.Spec PyProof.Rows
def XDat (K:PySem.W.Frag)(H:Hp)(μ : Mu)(C:Addr)(n:Str)(od:Option Addr)(fs:List (Str×W)):Prop:=
 (od=none∧fs=[])∨∃ dd ws xs,od=some dd∧xaIn K C n=true∧fs=(tM n).zip ws∧ws.length=(tM n).length∧(tM n).length=xs.length∧H dd=some (.xd ((tM n).zip xs))∧aJ K H μ ws xs
def XT (X:Cx)(H:Hp)(μ : Mu)(Γ : St→Prop)(E:XWK):Value→Shared→Prop:=fun ev s=>∃ (a C:Addr) (n:Str) (od:Option Addr) (fs:List (Str×W)) (pins:List (Addr×Obj)) (σ : St) (H':Hp) (μ':Mu) (h':Gh),ev=.ref a∧FX X pins σ H' s a C od∧o9 X.K C n=true∧Γ σ ∧
 Ext X.K H μ H' μ'∧Rel X.K μ' H' h'∧XDat X.K H' μ' C n od fs∧E ⟨n,fs⟩ h'
theorem XT.trans {X:Cx}{H H1:Hp}{μ μ1:Mu}{Γ : St→Prop}{E:XWK}{ev:Value}{s:Shared}(x:XT X H1 μ1 Γ E ev s)(e:Ext X.K H μ H1 μ1):XT X H μ Γ E ev s:=by
 obtain ⟨a,C,n,od,fs,pins,σ,H',μ',h',h1,h2,h3,h4,h5,h6⟩:=x
 exact ⟨a,C,n,od,fs,pins,σ,H',μ',h',h1,h2,h3,h4,e.trans h5,h6⟩
def tDX (X:Cx)(Γ : St→Prop)(m:XWK→ME):TE:=fun σ H Q=>Γ σ∧∃ μ h σw Qw E,Rel X.K μ H h∧Slots X.K H μ σw σ∧m E σw h Qw∧(∀ v H',DQ X.K H μ Qw v H'→Q v H')∧∀ ev s',XT X H μ Γ E ev s'→X.xe ev s'
def tDSX (X:Cx)(Γ : St→Prop)(m:XWK→MS):TS:=fun D σ H=>Γ σ∧∃ μ h σw Dw E,Rel X.K μ H h∧Slots X.K H μ σw σ∧m E Dw σw h∧qP X.K H μ Dw D∧∀ ev s',XT X H μ Γ E ev s'→X.xe ev s'
abbrev DEx (X:Cx)(Γ : St→Prop)(e:Expr)(m:XWK→ME):Prop:=PE X e (tDX X Γ m)
abbrev DSx (X:Cx)(Γ : St→Prop)(st:Stmt)(m:XWK→MS):Prop:=PS X st (tDSX X Γ m)
abbrev DSsx (X:Cx)(Γ : St→Prop)(st:List Stmt)(m:XWK→MS):Prop:=PSs X st (tDSX X Γ m)
def pC (K:PySem.W.Frag)(ms:MSp):Sp:=fun vs H Q E=>∃ μ h ws Qw Ew,Rel K μ H h∧aJ K H μ ws vs∧ms ws h Qw Ew∧(∀ v H',DQ K H μ Qw v H'→Q v H') ∧
 ∀ (C:Addr) (n:Str) (od:Option Addr) (fs:List (Str×W)) (H':Hp),o9 K C n=true→(∃ μ' h',Ext K H μ H' μ'∧Rel K μ' H' h'∧XDat K H' μ' C n od fs∧Ew ⟨n,fs⟩ h')→E (.ref C) od H'
theorem bT.tame {P:Program}{w:World}{K:PySem.W.Frag}{mg:Str→Option Value}{base:Heap}{k:Nat}{f:Addr}{fd:FuncData}{ps:List Str}{ms:MSp}(F:bT P w K mg base (CXX P w) k f fd ps (pC K ms)):bT P w K mg base CX0 k f fd ps (lift K ms):=by
 have up:∀ vs H Q E,lift K ms vs H Q E→pC K ms vs H Q E0:=fun vs H Q E ⟨μ,h,ws,Qw,R,r,m,q⟩=>⟨μ,h,ws,Qw,EF,R,r,m,q,fun _ _ _ _ _ _ ⟨_,_,_,_,_,z⟩=>z⟩
 refine ⟨fun vs H Q E q=>F.len vs H Q E0 (up _ _ _ _ q),fun A outer s H args us vs Q E hr e0 hb hv hs=>codeAny_mono (F.run A outer s H args us vs Q E0 hr e0 hb hv (up _ _ _ _ hs)) fun r s' h=>?_⟩
 cases r with
 | error e=>obtain ⟨_,_,_,_,_,_,_,_,_,_,z⟩:=h;exact z
 | ok fl=>cases fl <;> exact h
section
variable {X:Cx}{Γ : St→Prop}{e c:Expr}{es:List Expr}{mr:MA}{pos:Pos}{st:Stmt}{rest:List Stmt}
theorem d_callX {k:Nat}{f:Addr}{fd:FuncData}{ps:List Str}{ms:MSp}{x:Str}{p:Pos}(F:bT X.prog X.w X.K X.mg X.base (CXX X.prog X.w) k f fd ps (pC X.K ms))(hr:eN k X.A)(hg:Gl X x)(hm:X.mg x=some (.ref f))(hk:PySem.W.keepIn X.K (.ref f)=true)
  (hb:Binds X.K fd ps []) (ha:DAs X (e::es) mr) (hdb:(x==("__debug__" : Str))=false:=by decide) (he:starEach (e::es) X.env=(false,eval e X.env)::starEach es X.env:=by rfl) (hpl:(backTo pos (starEach es X.env)).any (·.1)=false:=by rfl) :
  DEx X Γ (.Call (.Name x p) (e::es) [] pos) (fun E=>bf ms E mr):=by
 intro pins s σ H Q I ⟨hσ,μ,h,σw,Qw,E,R,S,m,q,kx⟩
 refine wpAny_Call_Name_kw (lH I hg hm ?_ hdb)
 refine PySem.W.callWith_K (h₀:=X.base) I.ok.mod.kin hk (thn (ha pos pins s σ H (fun vs H1=>DA X.K H μ (fun ws h1=>ms ws h1 Qw E) vs H1) I ⟨μ,h,σw,_,R,S,m,fun _ _ z=>z⟩) fun us s1 ⟨vs,H1,I1,r,μ1,ws,h1,e1,R1,r1,m1⟩=>⟨I1.kIn,?_⟩) he hpl
 have sp:pC X.K ms (vs++[]) H1 Q (fun Cv od H'=>∃ (C:Addr) (n:Str) (fs:List (Str×W)) (μ':Mu) (h':Gh),Cv=.ref C∧o9 X.K C n=true∧Ext X.K H1 μ1 H' μ'∧Rel X.K μ' H' h'∧XDat X.K H' μ' C n od fs∧E ⟨n,fs⟩ h'):=by
  rw [List.append_nil]
  exact ⟨μ1,h1,ws,Qw,E,R1,r1,m1,fun v H' z=>q _ _ (z.trans e1),fun C n od fs H' hx ⟨μ',h',z⟩=>⟨C,n,fs,μ',h',rfl,hx,z⟩⟩
 have r2:Vals (vs++[]) (us++[]):=r.append .nil
 have hl:(us++[]).length=ps.length:=by rw [←r2.length];exact F.len _ _ _ _ sp
 refine wpAny_call (codeAny_mono (F.run X.A X.stack s1 H1 ⟨us,[]⟩ (us++[]) (vs++[]) Q _ hr I1.env0 (hb s1 us I1.kIn hl) r2 sp) fun r s' hq=>?_)
 cases r with
 | error ev=>
  obtain ⟨a,C,od,H',e2,F2,C',n,fs,μ',h',e3,hx,e4,R4,k4⟩:=I1.cxx (E:=fun Cv od H'=>∃ (C:Addr) (n:Str) (fs:List (Str×W)) (μ':Mu) (h':Gh),Cv=.ref C∧o9 X.K C n=true∧Ext X.K H1 μ1 H' μ'∧Rel X.K μ' H' h'∧XDat X.K H' μ' C n od fs∧E ⟨n,fs⟩ h') hq
  cases e3
  exact kx ev s' ⟨a,C,n,od,fs,pins,σ,H',μ',h',e2,F2.fx,hx,hσ,e1.trans e4,R4,k4⟩
 | ok fl=>
  cases fl with
  | ret u=>exact I1.after hq
  | next=>exact False.elim hq
  | brk=>exact False.elim hq
  | cont=>exact False.elim hq
theorem sO {m:MS}(h:DS X st m):DSx X Γ st (fun _=>m):=h.of fun D σ H ⟨_,μ,h,σw,Dw,_,R,S,m,k,_⟩=>⟨μ,h,σw,Dw,R,S,m,k⟩
theorem dssx_nil:DSsx X Γ [] (fun _=>cu):=aZ.of fun D σ H ⟨_,μ,h,σw,Dw,_,R,S,m,k,_⟩=>⟨μ,h,σw,Dw,R,S,m,k⟩
theorem iM {m:XWK→MS}(h:DSx X Γ st m):DSsx X Γ [st] m:=tQ h
theorem fZ {m1 m2:XWK→MS}(hΓ : ∀ σ,Γ σ)(h1:DSx X Γ st m1)(h2:DSsx X Γ rest m2):DSsx X Γ (st::rest) (fun E=>bw (m1 E) (m2 E)):=(v7 h1 h2).of fun D σ H ⟨g,μ,h,σw,Dw,E,R,S,m,k,kx⟩=>by
 refine ⟨g,μ,h,σw,_,E,R,S,m,⟨?_,k.rt,k.bk,k.ct⟩,kx⟩
 intro σ' H' ⟨μ1,σw1,h1,e1,R1,S1,m1⟩
 exact ⟨hΓ _,μ1,h1,σw1,Dw,E,R1,S1,m1,k.trans e1,fun ev s' z=>kx ev s' (z.trans e1)⟩
theorem wG {ma:XWK→ME}(he:DEx X Γ e ma)(hs:swapsWith e none pos.line X.env=pure false:=by rfl):DSx X Γ (.Expr e pos) (fun E=>fW (ma E)):=(yN he hs).of fun D σ H ⟨g,μ,h,σw,Dw,E,R,S,m,k,kx⟩=>
 ⟨g,μ,h,σw,_,E,R,S,m,fun v H1 ⟨μ1,w,h1,e1,R1,_,m1⟩=>k.nx _ _ ⟨μ1,σw,h1,e1,R1,S.ext e1,m1⟩,kx⟩
theorem dsx_if {a b:List Stmt}{t:MT}{m1 m2:XWK→MS}(hc:DT X c t)(ha:DSsx X Γ a m1)(hb:DSsx X Γ b m2):DSx X Γ (.If c a b pos) (fun E=>gG t (m1 E) (m2 E)):=(ps_if hc ha hb).of fun D σ H ⟨g,μ,h,σw,Dw,E,R,S,m,k,kx⟩=>by
 refine ⟨μ,h,σw,_,R,S,m,fun b H1 ⟨μ1,h1,e1,R1,q⟩=>?_⟩
 cases b with
 | true=>rw [if_pos rfl];exact ⟨g,μ1,h1,σw,Dw,E,R1,S.ext e1,q.1 rfl,k.trans e1,fun ev s' z=>kx ev s' (z.trans e1)⟩
 | false=>rw [if_neg Bool.false_ne_true];exact ⟨g,μ1,h1,σw,Dw,E,R1,S.ext e1,q.2 rfl,k.trans e1,fun ev s' z=>kx ev s' (z.trans e1)⟩
end
theorem d_fnX {P:Program}{w:World}{K:PySem.W.Frag}{mg:Str→Option Value}{base:Heap}{x qual:Str}{st:Stmt}{f:Addr}{fd:FuncData}{N ps:List Str}{k:Nat}{pure:Bool}{body:XWK→MS}(F:Fun K x qual st f fd)(S:aP N ps (aH st))
  (hb:∀ (cdv:Value) (A:Around) (outer:List Env) (s:Shared) (H:Hp) (E:XK),eN k (A.deeper (envOfC qual (aH st) s.heap.objs.size f cdv)) →
   DSsx (cxOf (CXX P w) P w K mg base N qual (aH st) f cdv A outer s H E) (fun _=>True) (dW st) body):bT P w K mg base (CXX P w) (k+1) f fd ps (pC K (mFn ps.length N.length pure body)):=by
 obtain ⟨oc,od,kV,doc,pm,an,cdv,ct,osl,rfl,lk,hcd⟩:=F.ex
 refine fn_of lk hcd S (fun vs H Q E ⟨μ,h,ws,Qw,Ew,R,r,m,_,_⟩=>by rw [←r.len];exact (vU m).1) fun A outer s H vs Q E hr ⟨μ,h,ws,Qw,Ew,R,r,m0,k,kx⟩=>?_
 obtain ⟨hl,m⟩:=vU m0
 refine ⟨_,hb cdv A outer s H E hr,trivial,μ,h,_,_,Ew,R,lX r,m,⟨?_,?_,?_,?_⟩,?_⟩
 ·rintro σ' H' ⟨μ1,σw1,h1,e1,R1,S1,m1⟩
  exact k _ _ (qG (w:=.non) R e1 R1 (by rw [Rep]) m1)
 ·rintro v H' ⟨μ1,w1,h1,e1,R1,r1,m1⟩
  exact k _ _ (qG R e1 R1 r1 m1)
 ·rintro σ' H' ⟨μ1,σw1,h1,e1,R1,S1,m1⟩
  exact m1.elim
 ·rintro σ' H' ⟨μ1,σw1,h1,e1,R1,S1,m1⟩
  exact m1.elim
 ·rintro ev s' ⟨a,C,n,od,fs,pins,σ',H',μ',h',rfl,F',hx,_,e1,R1,m1⟩
  exact F'.leave ⟨rfl,rfl⟩ rfl (kx C n od fs H' hx ⟨μ',h',e1,R1,m1⟩)
end L2
namespace L2
open PySem PySem.Spec PyProof.Rows
abbrev Cx.tr (X:Cx)(pins:List (Addr×Obj))(xe:Value→Shared→Prop):Cx:={ X with pn:=X.pn++pins,xe:=xe }
abbrev Cx.hnd (X:Cx)(a:Addr)(o:Obj)(u:HO):Cx:={ X with A:=X.A.mark (some (.ref a)),H₀:=upd X.H₀ a (.frz o u),calm:=false }
def eE (a:Addr)(o:Obj):HO:=.ext fun h=>h.get? a=some o
section
variable {X:Cx}{pins pins':List (Addr×Obj)}{σ : St}{H:Hp}{s:Shared}{xe:Value→Shared→Prop}{a C:Addr}{o:Obj}{u:HO}
theorem Cx.Ok.tr (ok:X.Ok)(pins:List (Addr×Obj))(xe:Value→Shared→Prop):(X.tr pins xe).Ok:=
 ⟨ok.mod,ok.kind,ok.glob,ok.blt,ok.above,ok.inj,ok.has,ok.cab,ok.hd,ok.qt,ok.frames,ok.stk,ok.exf,ok.bs,ok.bsz,ok.noex,ok.exfs,ok.funs,ok.frf⟩
theorem Cx.Ok.untr (ok:(X.tr pins xe).Ok):X.Ok:=
 ⟨ok.mod,ok.kind,ok.glob,ok.blt,ok.above,ok.inj,ok.has,ok.cab,ok.hd,ok.qt,ok.frames,ok.stk,ok.exf,ok.bs,ok.bsz,ok.noex,ok.exfs,ok.funs,ok.frf⟩
theorem Inv.tr (I:Inv X pins σ H s):Inv (X.tr pins xe) [] σ H s:=⟨I.ok.tr pins xe,I.os,I.bare,I.base,I.loc,I.cell,I.free,I.freeC,fun p hp=>I.pin p (by
 have hp':p∈(X.pn++pins)++[]:=hp
 rw [List.append_nil] at hp'
 exact hp'),I.hok,I.len⟩
theorem Inv.untr (I:Inv (X.tr pins xe) pins' σ H s):Inv X pins σ H s:=⟨I.ok.untr,I.os,I.bare,I.base,I.loc,I.cell,I.free,I.freeC,fun p hp=>I.pin p (List.mem_append_left _ hp),I.hok,I.len⟩
theorem New.untr {b:Addr}(n:New (X.tr pins xe) pins' H b):New X pins H b:=⟨n.h,n.s,n.l,n.c,fun p hp=>n.p p (List.mem_append_left _ hp),n.f⟩
theorem FX.untr {e:Addr}{od:Option Addr}(F:FX (X.tr pins xe) pins' σ H s e C od):FX X pins σ H s e C od:=⟨F.inv.untr,F.xo.mono fun _ n=>n.untr⟩
theorem SP.untr {D:Ends}{f:Flow}{s':Shared}(h:SP (X.tr pins xe) [] D f s'):SP X pins D f s':=by
 cases f with
 | next=>obtain ⟨σ',H',I,q⟩:=h;exact ⟨σ',H',I.untr,q⟩
 | brk=>obtain ⟨σ',H',I,q⟩:=h;exact ⟨σ',H',I.untr,q⟩
 | cont=>obtain ⟨σ',H',I,q⟩:=h;exact ⟨σ',H',I.untr,q⟩
 | ret v=>obtain ⟨v,σ',H',I,r,q⟩:=h;exact ⟨v,σ',H',I.untr,r,q⟩
theorem Inv.hnd {vs:Array Value}(I:Inv X pins σ H s)(n:New X pins H a)(hx:X.ex=[])(ho:s.heap.get? a=some o)(hd:o.data=.fields vs)(h2:vs[2]?=some .none):Inv (X.hnd a o (eE a o)) pins σ (upd H a (.frz o (eE a o))) s:=by
 have s0:X.s₀.heap.get? a=none:=by
  rcases n.s with q | q
  ·rw [hx] at q;cases q
  ·exact q
 have ne:∀ b ob,X.s₀.heap.get? b=some ob→b≠a:=fun b ob e z=>by rw [z,s0] at e;cases e
 have nf:∀ b∈X.fs,b≠a:=fun b hb z=>n.f (by rw [←z];exact hb)
 have ok:(X.hnd a o (eE a o)).Ok:=by
  have k:=I.ok
  refine ⟨k.mod,k.kind,k.glob,k.blt,k.above,k.inj,k.has,k.cab,fun z=>(nomatch z),fun v e=>?_,k.frames,k.stk,k.exf,fun b ob e=>?_,k.bsz,k.noex,k.exfs,k.funs,fun b hb=>?_⟩
  ·have e:some (Value.ref a)=some v:=e
   cases e
   exact ⟨a,o,eE a o,vs,rfl,aL,hd,h2⟩
  ·obtain ⟨e1,e2⟩:=k.bs b ob e
   exact ⟨e1,(aD (ne b ob e1)).trans e2⟩
  ·exact (aD (nf b hb)).trans (k.frf b hb)
 have up:∀ b ob,X.s₀.heap.get? b=some ob→upd X.H₀ a (.frz o (eE a o)) b=none→X.H₀ b=none:=fun b ob e z=>by rw [aD (ne b ob e)] at z;exact z
 refine ⟨ok,I.os,I.bare,⟨fun b ob e z hf hx=>I.base.keep b ob e (up b ob e z) hf hx,fun b ob e z hf hx=>I.base.slot b ob e (up b ob e z) hf hx,fun b ob e z hx=>?_,I.base.there,fun b xs z=>?_,fun b ob v z=>?_,fun b ps z=>?_⟩,I.loc,I.cell,?_,fun x c e=>?_,fun p hp=>?_,fun b v z=>?_,I.len⟩
 ·rw [aD (ne b ob e)];exact I.base.free b ob e (up b ob e z) hx
 ·have z:upd X.H₀ a (.frz o (eE a o)) b=some (.tup xs):=z
  by_cases hb:b=a
  ·subst hb;rw [aL] at z;cases z
  ·rw [aD hb] at z ⊢;exact I.base.tups b xs z
 ·have z:upd X.H₀ a (.frz o (eE a o)) b=some (.frz ob v):=z
  by_cases hb:b=a
  ·subst hb;rw [aL] at z ⊢;exact z
  ·rw [aD hb] at z ⊢;exact I.base.frzs b ob v z
 ·have z:upd X.H₀ a (.frz o (eE a o)) b=some (.tbl ps):=z
  by_cases hb:b=a
  ·subst hb;rw [aL] at z;cases z
  ·rw [aD hb] at z ⊢;exact I.base.tbls b ps z
 ·rw [aD (Ne.symm n.l)];exact I.free
 ·rw [aD (n.c x c e)];exact I.freeC x c e
 ·obtain ⟨h1,h3,h4⟩:=I.pin p hp
  exact ⟨h1,(aD (n.p p hp)).trans h3,h4⟩
 ·by_cases hb:b=a
  ·subst hb
   rw [aL] at z
   cases z
   exact ⟨ho,ho,⟨o,ho⟩,fun h1 h2 q k=>k o q⟩
  ·rw [aD hb] at z
   exact (I.hok b v z).stay (fun _ _ _ q=>q) (fun c q=>by rw [aD (aM q n.h)];exact q) fun c xs q=>by rw [aD (aM q n.h)];exact q
theorem Inv.unhnd {σ0:St}{H0:Hp}{s0:Shared}(I0:Inv X pins σ0 H0 s0)(n:New X pins H0 a)(hx:X.ex=[])(I:Inv (X.hnd a o u) pins' σ H s):Inv X pins' σ H s:=by
 have e0:X.s₀.heap.get? a=none:=by
  rcases n.s with q | q
  ·rw [hx] at q;cases q
  ·exact q
 have ne:∀ b ob,X.s₀.heap.get? b=some ob→b≠a:=fun b ob e z=>by rw [z,e0] at e;cases e
 have up:∀ b ob,X.s₀.heap.get? b=some ob→X.H₀ b=none→(X.hnd a o u).H₀ b=none:=fun b ob e z=>(aD (ne b ob e)).trans z
 refine ⟨I0.ok,I.os,I.bare,⟨fun b ob e z hf hx=>I.base.keep b ob e (up b ob e z) hf hx,fun b ob e z hf hx=>I.base.slot b ob e (up b ob e z) hf hx,fun b ob e z hx=>I.base.free b ob e (up b ob e z) hx,I.base.there,fun b xs z=>?_,fun b ob v z=>?_,fun b ps z=>?_⟩,I.loc,I.cell,I.free,I.freeC,I.pin,I.hok,I.len⟩
 ·refine I.base.tups b xs ((aD fun hb=>?_).trans z)
  subst hb
  have:=I0.base.tups b xs z
  rw [n.h] at this;cases this
 ·refine I.base.frzs b ob v ((aD fun hb=>?_).trans z)
  subst hb
  have:=I0.base.frzs b ob v z
  rw [n.h] at this;cases this
 ·refine I.base.tbls b ps ((aD fun hb=>?_).trans z)
  subst hb
  obtain ⟨_,this⟩:=I0.base.tbls b ps z
  rw [n.h] at this;cases this
def pL (σ : St):St:=σ.map fun _=>none
theorem Inv.lost {m':Str→Option Value}{h':Heap}{t':Nat}(I:Inv X pins σ H s)(hn:h'.Ns X.env.locals m')(sb:Heap.SameBut X.env.locals s.heap h'):Inv X pins (pL σ) H { s with heap:=h',toks:=t' }:=by
 have neL:∀ b o,X.s₀.heap.get? b=some o→b≠X.env.locals:=fun b o e=>Nat.ne_of_lt (Nat.lt_of_lt_of_le (Heap.lt_size e) I.ok.above)
 have k:∀ b o,b≠X.env.locals→s.heap.get? b=some o→h'.get? b=some o:=fun b o hb e=>(sb.2 b hb).trans e
 refine ⟨I.ok,I.os,I.bare,⟨fun b o e z hf hx=>k b o (neL b o e) (I.base.keep b o e z hf hx),fun b o e z hf hx=>?_,I.base.free,fun b o e hx=>?_,I.base.tups,I.base.frzs,I.base.tbls⟩,⟨m',hn,fun i x v _ e2 _=>?_⟩,fun x c e=>?_,I.free,I.freeC,fun p hp=>?_,fun b v z=>?_,?_⟩
 ·obtain ⟨sl,e1⟩:=I.base.slot b o e z hf hx
  exact ⟨sl,k b _ (neL b o e) e1⟩
 ·obtain ⟨o',e1⟩:=I.base.there b o e hx
  exact ⟨o',k b _ (neL b o e) e1⟩
 ·unfold pL at e2
  rw [List.getElem?_map] at e2
  cases q:σ[i]? with
  | none=>rw [q] at e2;cases e2
  | some w=>rw [q] at e2;cases e2
 ·obtain ⟨v,oc,ho,hd⟩:=I.cell x c e
  exact ⟨v,oc,k c oc (I.cne x c e) ho,hd⟩
 ·obtain ⟨h1,h2,h3,h4⟩:=I.pin p hp
  exact ⟨k _ _ h3 h1,h2,h3,h4⟩
 ·have nL:∀ c w,H c=some w→c≠X.env.locals:=fun c w e q=>by rw [q,I.free] at e;cases e
  refine (I.hok b v z).stay (fun c w hc q=>k c w ?_ q) (fun _ q=>q) fun _ _ q=>q
  rcases hc with r | r
  ·rw [r];exact nL b _ z
  ·exact nL c _ r
 ·unfold pL
  rw [List.length_map];exact I.len
end
end L2
namespace L2
open PySem PySem.Spec PyProof.Rows
section
variable {prog:Program}{w:World}{A:Around}{E:Value→Shared→Prop}{s:Shared}{K:PySem.W.Frag}{x D:Addr}{ox:Obj}
theorem zG {Q:Option Value→Shared→Prop}{od:Option Obj}(X:K.In s.heap)(I:PySem.W.InstAt s.heap x ox D od)(hga:PySem.W.findIn K (.ref D) "__getattribute__" = some (some (.builtin "BaseException.__getattribute__")))(hk:PySem.W.findIn K (.ref D) "__getattr__" = some none)
  (hf:PySem.W.findObj K D od "__class__" = some (.bind (.builtin "getset_descriptor.__get__") (.builtin "object.__class__"))) (hm:PySem.W.mroIn K D (.type "object")=some true) (hB:PySem.W.mroIn K D (.type "BaseException")=some true)
  (h:Q (some (.ref D)) { s with toks:=s.toks+1 }):wpAny (model prog w) A (getAttr? (.ref x) "__class__") Q E s:=by
 obtain ⟨hh,g,d,t,os⟩:=s
 have L0:=I.type (M:=model prog w)
 have L1:=PySem.W.looks_findIn (M:=model prog w) X hga
 have L2:=PySem.W.looks_findIn (M:=model prog w) X hk
 have L3:=PySem.W.looks_find (M:=model prog w) X I hf
 have L4:=PySem.W.looks_mroIn (M:=model prog w) X hB
 unfold getAttr? getAttrBy? getAttrBy
 refine wpAny_bind (wpAny_mkText (wpAny_bind (wpAny_attempt (wpAny_holding (wpAny_bind (PySem.W.Looks.at L0 (wpAny_bind (PySem.W.Looks.at L1 ?_))))))))
 show wpAny _ _ (if (onTheHeap (Value.ref D)&&(Value.builtin "BaseException.__getattribute__"==Value.builtin "object.__getattribute__"))=true then _ else getAttrByItsOwn _ _ _ _ _ _) _ _ _
 have hx2:(Value.builtin "BaseException.__getattribute__"==Value.builtin "object.__getattribute__")=false:=by decide +kernel
 rw [hx2,Bool.and_false,if_neg Bool.false_ne_true]
 unfold getAttrByItsOwn
 refine wpAny_bind (show wpAny _ _ (typeLookup (Value.ref D) "__getattr__") _ _ _ from PySem.W.Looks.at L2 ?_)
 refine wpAny_bind (wpAny_attempt (wpAny_holding ?_))
 show wpAny _ _ (boundAndCalled _ _ _) _ _ _
 unfold boundAndCalled
 rw [PySem.F.attrBase_ValueError.ga.bind (.ref x)]
 refine wpAny_bind (wpAny_pure ?_)
 dsimp only
 refine wpAny_call (codeAny_call_builtin PySem.F.attrBase_ValueError.ga.plain F.entry_bexc_ga ?_)
 have hk:builtinKind "BaseException.__getattribute__" = some .slot:=by decide +kernel
 have hsplit:splitId "BaseException.__getattribute__" = some ("BaseException", "__getattribute__"):=by decide +kernel
 have ha:=F.args_bexc_ga (.ref x) (.str "__class__" t)
 simp only [checkBuiltinCall,hk,hsplit]
 show wpAny (model prog w) A.in1 (isInstance (Value.ref x) (Value.type "BaseException") >>= _) _ _ _
 refine wpAny_bind ?_
 unfold isInstance
 refine wpAny_bind (PySem.W.Looks.at L0 (PySem.W.Looks.at L4 ?_))
 rw [if_neg (by decide)]
 change wpAny (model prog w) A.in1 (match Manifest.signature? "BaseException.__getattribute__" with
  | some sig=>Bind.checkArgs "BaseException.__getattribute__" sig ⟨[Value.ref x,Value.str (Str.ofString "__class__") t],[]⟩
  | x=>pure ()) _ _ _
 repeat (any_goals (first | assumption | (with_reducible refine wpAny_loadPart_at I.at_ ?_;rw [I.cls]) | with_reducible refine PySem.W.Looks.at L3 ?_ | wp_step))
 refine PySem.W.class_get (s:=⟨hh,g,d,t+1,os⟩) (ox:=ox) (od:=od) X I hm ?_
 refine wpAny_pure ?_
 exact PySem.W.handed_on rfl (wpAny_pure h)
end
def isX (n d:Str):Bool:=n==d||d == "EaselError"
section
variable {K:PySem.W.Frag}{C D:Addr}{n d:Str}
theorem wZ (h:lQ K D d=true):PySem.W.nsIn K mainGlobals d=some (some (.ref D))∧PySem.W.typeIn K (.ref D)=some (.type "type")∧∃ cd,PySem.W.clsIn K D=some cd∧cd.name=d∧cd.mro.contains (.type "BaseException")=true:=by
 unfold lQ at h
 simp only [Bool.and_eq_true,beq_iff_eq] at h
 obtain ⟨⟨h1,h2⟩,h3⟩:=h
 refine ⟨h1,h2,?_⟩
 split at h3
 ·rename_i cd hc
  simp only [Bool.and_eq_true,beq_iff_eq] at h3
  exact ⟨cd,hc,h3.1,h3.2⟩
 ·cases h3
theorem zj (h:o9 K C n=true):lQ K C n=true∧(∃ cd R,PySem.W.clsIn K C=some cd∧cd.mro=.ref C::.ref R::vmB∧PySem.W.nsIn K mainGlobals "EaselError" = some (some (.ref R))∧∃ cr,PySem.W.clsIn K R=some cr∧cr.name = "EaselError") ∧
  PySem.W.findIn K (.ref C) "__getattribute__" = some (some (.builtin "BaseException.__getattribute__"))∧PySem.W.findIn K (.ref C) "__getattr__" = some none∧PySem.W.findIn K (.ref C) "__class__" = some (some (.builtin "object.__class__"))∧PySem.W.specialIn K (.builtin "object.__class__") "__get__" = some (some (.builtin "getset_descriptor.__get__"))∧PySem.W.takesIn K (.builtin "object.__class__")=some true:=by
 unfold o9 at h
 simp only [Bool.and_eq_true,beq_iff_eq] at h
 obtain ⟨⟨⟨⟨⟨⟨h1,h2⟩,h3⟩,h3'⟩,h4⟩,h5⟩,h6⟩:=h
 refine ⟨h1,?_,h3,h3',h4,h5,h6⟩
 split at h2
 ·rename_i cd hc
  split at h2
  ·rename_i C' R a b c d hm
   simp only [Bool.and_eq_true,beq_iff_eq] at h2
   obtain ⟨⟨⟨e1,e2⟩,e3⟩,e4⟩:=h2
   obtain ⟨cr,e5,e6⟩:=PySem.W.any_some e4
   exact ⟨cd,R,hc,by rw [hm,e1,←e2],e3,cr,e5,beq_iff_eq.mp e6⟩
  ·cases h2
 ·cases h2
theorem xc_mro (h:o9 K C n=true)(hd:lQ K D d=true):PySem.W.mroIn K C (.ref D)=some (isX n d):=by
 obtain ⟨hx,⟨cd,R,hc,hm,hR,cr,hcr,hnr⟩,_⟩:=zj h
 obtain ⟨n1,_,cd',hc',nm,_⟩:=wZ hx
 obtain ⟨d1,_,dd,hdd,dm,_⟩:=wZ hd
 rw [hc] at hc';cases hc'
 unfold PySem.W.mroIn
 rw [hc,Option.bind_some,hm]
 show some ((Value.ref C::Value.ref R::vmB).contains (.ref D))=some (isX n d)
 congr 1
 unfold isX
 have e1:(Value.ref C::Value.ref R::vmB).contains (.ref D)=((Value.ref D==Value.ref C)||((Value.ref D==Value.ref R)||false)):=by
  rw [List.contains_cons,List.contains_cons];rfl
 rw [e1,Bool.or_false]
 have a1:(Value.ref D==Value.ref C)=(n==d):=by
  rw [Bool.eq_iff_iff,beq_iff_eq,beq_iff_eq]
  constructor
  ·intro q
   cases q
   rw [hc] at hdd;cases hdd
   rw [←nm,←dm]
  ·intro q
   subst q
   rw [n1] at d1
   injection d1 with d1;injection d1 with d1;injection d1 with d1
   rw [d1]
 have a2:(Value.ref D==Value.ref R)=(d == "EaselError"):=by
  rw [Bool.eq_iff_iff,beq_iff_eq,beq_iff_eq]
  constructor
  ·intro q
   cases q
   rw [hcr] at hdd;cases hdd
   rw [←hnr,←dm]
  ·intro q
   subst q
   rw [hR] at d1
   injection d1 with d1;injection d1 with d1;injection d1 with d1
   rw [d1]
 rw [a1,a2]
def wA (K:PySem.W.Frag)(v:V)(f:Str→Bool):Prop:=∀ (u:Value),RelV v u→∀ (C:Addr) (n:Str),o9 K C n=true→PySem.W.kitOne K (.ref C) u=some (f n)
theorem wA.own (hd:lQ K D d=true):wA K (.ref D) (fun n=>isX n d):=by
 intro u r C n h
 cases (show u=Value.ref D from r)
 have e:=xc_mro h hd
 obtain ⟨_,ht,dd,hdd,_⟩:=wZ hd
 unfold PySem.W.kitOne
 by_cases q:(Value.ref C==Value.ref D)=true
 ·rw [if_pos q]
  have q:=beq_iff_eq.mp q
  cases q
  obtain ⟨n1,_,cd,hc,nm,_⟩:=wZ (zj h).1
  rw [hc] at hdd;cases hdd
  obtain ⟨_,_,cd',hc',dm,_⟩:=wZ hd
  rw [hc] at hc';cases hc'
  unfold isX
  rw [←nm,←dm]
  simp
 ·rw [if_neg q]
  unfold PySem.W.kitCls
  dsimp only
  rw [if_pos (by rw [hdd,ht];rfl)]
  exact e
theorem wA.val:wA K (.ty "ValueError") (fun _=>true):=by
 intro u r C n h
 cases (show u=Value.type "ValueError" from r)
 obtain ⟨_,⟨cd,R,hc,hm,_⟩,_⟩:=zj h
 unfold PySem.W.kitOne
 rw [if_neg (by intro q;cases beq_iff_eq.mp q)]
 unfold PySem.W.kitCls
 dsimp only
 rw [if_pos (by decide +kernel)]
 show PySem.W.mroIn K C (.type "ValueError")=some true
 unfold PySem.W.mroIn
 rw [hc,Option.bind_some,hm]
 rfl
theorem vC {x:Addr}{ox:Obj}(h:o9 K D n=true):PySem.W.KitX K (.ref x) (.ref D) (fun h=>∃ od,PySem.W.InstAt h x ox D od):=by
 obtain ⟨hx,⟨cd,R,hc,hm,_⟩,hg,hg',ha,hn,htk⟩:=zj h
 have hmo:PySem.W.mroIn K D (.type "object")=some true:=by
  unfold PySem.W.mroIn
  rw [hc,Option.bind_some,hm]
  rfl
 have hf:∀ od,PySem.W.findObj K D od "__class__" = some (.bind (.builtin "getset_descriptor.__get__") (.builtin "object.__class__")):=by
  intro od
  unfold PySem.W.findObj
  rw [hc,Option.bind_some,ha,Option.bind_some]
  simp [hn,htk]
 have hcl:∃ c' d' sl',K.lookup D=some ⟨c',d',.cls cd,sl'⟩:=by
  unfold PySem.W.clsIn at hc
  split at hc
  ·rename_i c' d' cd' sl' ho
   cases hc
   exact ⟨c',d',sl',ho⟩
  ·cases hc
 obtain ⟨c',d',sl',ho⟩:=hcl
 refine ⟨fun _ _ _ ⟨_,I⟩=>I.type,fun _ _ X _=>?_,fun h tp dd its n sl X htp=>?_,fun {prog w A E Q s} X ⟨od,I⟩ k=>?_⟩
 ·intro A' Q' E' s' k q
  unfold isType loadHead
  exact wpAny_bind (wpAny_loadPart (k _ _ (X _ _ ho)) (wpAny_pure q))
 ·refine Bool.eq_false_iff.mpr fun q=>?_
  have e:D=tp:=Value.ref.inj (beq_iff_eq.mp q)
  subst e
  have z:=(X _ _ ho).symm.trans htp
  cases z
 ·refine zG X I hg hg' (hf od) hmo ?_ k
  unfold PySem.W.mroIn
  rw [hc,Option.bind_some,hm]
  rfl
theorem tR {M:Model}{A:Around}{E:Value→Shared→Prop}{s:Shared}{e:Addr}{oe:Obj}{Q:Bool→Shared→Prop}(X:K.In s.heap)(he:s.heap.get? e=some oe)(hcls:oe.cls=.ref C)(h:o9 K C n=true)(hd:lQ K D d=true)(hq:Q (isX n d) s) :
  wpAny M A (excMatches (.ref e) (.ref D)) Q E s:=by
 obtain ⟨_,ht,dd,hdd,_,hB⟩:=wZ hd
 have L1:PySem.W.Looks M s.heap (typeOf (.ref D)) (.type "type"):=PySem.W.looks_typeIn X ht
 have L2:PySem.W.Looks M s.heap (isSubtype (.ref C) (.ref D)) (isX n d):=PySem.W.looks_mroIn X (xc_mro h hd)
 have L3:PySem.W.Looks M s.heap (isSubtype (.ref D) (.type "BaseException")) true:=PySem.W.looks_mroIn X (by
  unfold PySem.W.mroIn
  rw [hdd,Option.bind_some,hB,if_neg]
  intro q
  rw [List.isEmpty_iff] at q
  rw [q] at hB;cases hB)
 have hcl:∃ c' d' sl',K.lookup D=some ⟨c',d',.cls dd,sl'⟩:=by
  unfold PySem.W.clsIn at hdd
  split at hdd
  ·rename_i c' d' cd' sl' ho
   cases hdd
   exact ⟨c',d',sl',ho⟩
  ·cases hdd
 obtain ⟨c',d',sl',ho⟩:=hcl
 have L4:PySem.W.Looks M s.heap (isType (.ref D)) true:=by
  intro A' Q' E' s' k q
  unfold isType loadHead
  exact wpAny_bind (wpAny_loadPart (k _ _ (X _ _ ho)) (wpAny_pure q))
 have L5:PySem.W.Looks M s.heap (typeOf (.ref e)) (.ref C):=hcls ▸ (PySem.W.Looks.ld he).andThen .now
 have f:=tc_notTuple
 obtain ⟨hh,g,dr,tk,os⟩:=s
 unfold excMatches
 refine wpAny_bind ?_
 unfold isInstance
 refine wpAny_bind (PySem.W.Looks.at L1 ?_)
 rw [f]
 refine wpAny_pure ?_
 rw [if_neg Bool.false_ne_true]
 refine wpAny_bind (wpAny_pure ?_)
 dsimp only
 rw [List.forIn_cons]
 refine wpAny_bind (wpAny_bind ?_)
 unfold isExcClass
 refine wpAny_bind (wpAny_bind (PySem.W.Looks.at L4 ?_))
 rw [if_pos rfl]
 refine PySem.W.Looks.at L3 ?_
 rw [if_neg (by decide)]
 refine wpAny_pure ?_
 dsimp only
 rw [List.forIn_nil]
 refine wpAny_pure ?_
 refine wpAny_bind (PySem.W.Looks.at L5 ?_)
 rw [List.forIn_cons]
 refine wpAny_bind (wpAny_bind (wpAny_bind (PySem.W.Looks.at L2 ?_)))
 cases hb:isX n d with
 | true=>
  rw [hb] at hq
  rw [if_pos rfl]
  exact wpAny_pure (wpAny_pure (wpAny_pure hq))
 | false=>
  rw [hb] at hq
  rw [if_neg Bool.false_ne_true]
  refine wpAny_pure ?_
  dsimp only
  rw [List.forIn_nil]
  exact wpAny_pure (wpAny_pure hq)
end
end L2
namespace L2
open PySem PySem.Spec PyProof.Rows
theorem Ag {prog:Program}{w:World}{A:Around}{E:Value→Shared→Prop}{s:Shared}{env:Env}{K:PySem.W.Frag}{e C D:Addr}{n d y:Str}{t:Expr}{b₀ : Stmt}{suite:List Stmt}{pos:Pos}{rest:List ExceptHandler}{Q:Flow→Shared→Prop}
  (hx:o9 K C n=true) (hd:lQ K D d=true) (hi:isX n d=true)
  (h:wpAny (model prog w) (A.mark (some (.ref e))) (eval t env) (fun c s₁=>c=.ref D∧K.In s₁.heap∧(∃ oe,s₁.heap.get? e=some oe∧oe.cls=.ref C) ∧
   wpAny (model prog w) (A.mark (some (.ref e))) (setFlight (.ref e) none) (fun _ s₂=>
     wpAny (model prog w) (A.mark (some (.ref e))) (storeName env y (.ref e)) (fun _ s₃=>
      wpAny (model prog w) (A.mark (some (.ref e))) (execs (b₀::suite) env)
       (fun f s₄=>wpAny (model prog w) A (do bindName env y .none;unbindBehindTheSuite env y pos) (fun _ s₅=>Q f s₅) E s₄) (fun _ _=>False) s₃) (fun _ _=>False) s₂) (fun _ _=>False) s₁) (fun _ _=>False) s) :
  wpAny (model prog w) A (handleBy (.ref e) env (.ExceptHandler (some t) (some y) (b₀::suite) pos::rest)) Q E s:=by
 refine wpAny_handleBy_cons (codeAny_handlers_test (wpAny_mono h (fun c s₁ h₁=>?_) fun _ _ z=>z.elim)) (by intro q;cases q)
 obtain ⟨rfl,X,⟨oe,he,hcls⟩,hk⟩:=h₁
 refine tR X he hcls hx hd ?_
 rw [hi]
 exact codeAny_handlers_suite_as (wpAny_mono hk (fun _ s₂ h₂=>wpAny_mono h₂ (fun _ s₃ h₃=>wpAny_mono h₃ (fun _ _ z=>z) fun _ _ z=>z.elim) fun _ _ z=>z.elim) fun _ _ z=>z.elim)
def bF.lost (D:bF):bF:={ D with nx:=fun σ h=>D.nx (σ.map fun _=>none) h,bk:=fun σ h=>D.bk (σ.map fun _=>none) h,ct:=fun σ h=>D.ct (σ.map fun _=>none) h }
def excW (x:Xw):W:=match x.fs with
 | []=>.exc x.cls
 | f::fs=>.exa x.cls ((f::fs).map (·.2))
theorem zu {α β : Type}:∀ {l:List α} {m:List β},m.length=l.length→(l.zip m).map (·.2)=m
 | [],[],_=>rfl
 | [],_::_,h=>by cases h
 | _::_,[],h=>by cases h
 | a::l,b::m,h=>by rw [List.zip_cons_cons,List.map_cons,zu (by simpa using h)]
theorem excW_a {n:Str}{ws:List W}(h:ws.length=(tM n).length):excW ⟨n,(tM n).zip ws⟩=.exa n ws:=by
 have e:=zu h
 unfold excW
 have ne:tM n≠[]:=by unfold tM;split <;> simp
 cases q:(tM n).zip ws with
 | nil=>
  rw [q] at e
  cases ws with
  | nil=>exact absurd (List.eq_nil_of_length_eq_zero h.symm) ne
  | cons _ _=>cases e
 | cons f fs=>
  rw [q] at e
  dsimp only
  rw [e]
def mTry (i:Nat)(d:Str)(mb:XWK→MS)(mh:MS):MS:=fun D σ h=>mb (fun x h'=>by2 (isX x.cls d) (mh D.lost (σ.set i (some (excW x))) h') False) D σ h
theorem Slots.lost {K:PySem.W.Frag}{H:Hp}{μ : Mu}{σw:Sw}{σ : St}(S:Slots K H μ σw σ):Slots K H μ (σw.map fun _=>none) (pL σ):=by
 refine ⟨by unfold pL;rw [List.length_map,List.length_map,S.len],fun i w q=>?_⟩
 rw [List.getElem?_map] at q
 cases e:σw[i]? with
 | none=>rw [e] at q;cases q
 | some z=>rw [e] at q;cases q
section
variable {X:Cx}{body:List Stmt}{b₀ : Stmt}{suite:List Stmt}{y d:Str}{np hpos pos:Pos}{i:Nat}{D:Addr}{mb:XWK→MS}{mh:MS}
theorem ds_try (hN:X.N.Nodup)(hi:X.N[i]?=some y)(hy:X.env.scope.names.lookup y=some .local)(hg:Gl X d)(hm:X.mg d=some (.ref D))(hxd:lQ X.K D d=true)(ht:Top X)(hx:X.ex=[])
  (hb:∀ pins xe σ0,DSsx (X.tr pins xe) (fun σ=>σ = σ0) body mb) (hh:∀ a o u,DSs (X.hnd a o u).nox (b₀::suite) mh) (hdb:(d==("__debug__" : Str))=false:=by decide) :
  DS X (.Try body [.ExceptHandler (some (.Name d np)) (some y) (b₀::suite) hpos] [] [] pos) (mTry i d mb mh):=by
 intro pins s σ H De I ⟨μ,h,σw,Dw,R,S,m,k⟩
 refine wpAny_Try_except (thn (hb pins _ σ [] s σ H De I.tr ⟨rfl,μ,h,σw,Dw,_,R,S,m,k,fun ev s' xt=>?_⟩) fun f s' q=>?_)
 ·obtain ⟨a,C,n,od,fs,pins',σ',H',μ',h',rfl,F,hxc,rfl,e1,R1,xd,q⟩:=xt
  have F:=F.untr
  cases hix:isX n d with
  | false =>
   have q:by2 (isX n d) _ False:=q
   rw [hix] at q;exact q.elim
  | true=>
  have q:by2 (isX n d) (mh Dw.lost (σw.set i (some (excW ⟨n,fs⟩))) h') False:=q
  rw [hix] at q
  have q:mh Dw.lost (σw.set i (some (excW ⟨n,fs⟩))) h':=q
  refine F.note ht F.inv.ok.frames fun h1 F1=>F1.flight fun h2 F2=>?_
  obtain ⟨_,oe0,vs0,he0,hc0,_⟩:=F2.xn
  refine Ag hxc hxd hix ?_
  refine Calls.Name_function_global F2.inv.ok.kind hg (Calls.loadGlobal_global (by rw [F2.inv.ok.glob];exact F2.inv.mod.glob.keeps F2.inv.bk) hm ⟨rfl,F2.inv.kIn,⟨oe0,he0,hc0⟩,?_⟩) hdb
  refine F2.flight fun h3 F3=>?_
  obtain ⟨nw,oe,vs,he,hc,hdd,hdt,_,hv2,_⟩:=F3.xn
  have Ih:=F3.inv.hnd nw hx he hdt hv2
  have Hn:H' a=none:=nw.h
  refine ji (X:=X.hnd a oe (eE a oe)) (v:=.ref a) Ih hN hi (.inl hy) rfl (fun s4 I4=>?_) (.inr hy)
  have e2:Ext X.K H μ (upd H' a (.frz oe (eE a oe))) μ':=e1.trans (Ex.laid Hn).ext
  have rx:Rep X.K (upd H' a (.frz oe (eE a oe))) μ' (excW ⟨n,fs⟩) (.ref a):=by
   have nc:PySem.W.notCls oe=true:=by
    unfold PySem.W.notCls
    rw [hdt]
   rcases xd with ⟨rfl,rfl⟩ | ⟨dd,ws,xs,rfl,hxa,rfl,hl1,hl2,hdx,rs⟩
   ·show Rep X.K _ μ' (.exc n) (.ref a)
    rw [Rep]
    exact ⟨a,oe,_,rfl,aL,C,hc,hdd,nc,hxc⟩
   ·rw [excW_a hl1,Rep]
    exact ⟨a,oe,_,dd,_,xs,rfl,aL,⟨C,hc,hdd,nc,hxa⟩,by rw [aD (aM hdx Hn)];exact hdx,rfl,hl2,(Ex.laid Hn).ext.s rs⟩
  refine wpAny_mono (hh a oe (eE a oe) pins s4 _ _ ⟨fun σ5 H5=>De.nx (pL σ5) H5,De.rt,fun σ5 H5=>De.bk (pL σ5) H5,fun σ5 H5=>De.ct (pL σ5) H5⟩ (I4.wish _)
   ⟨μ',h',σw.set i (some (excW ⟨n,fs⟩)),Dw.lost,R1.laid Hn,(S.ext e2).set rx i,q,⟨?_,?_,?_,?_⟩⟩) (fun f s5 q5=>?_) fun _ _ z=>z.elim
  ·rintro σ5 H5 ⟨μ5,σw5,h5,e5,R5,S5,m5⟩
   exact k.nx _ _ ⟨μ5,_,h5,e2.trans e5,R5,S5.lost,m5⟩
  ·rintro v H5 ⟨μ5,w5,h5,e5,R5,r5,m5⟩
   exact k.rt _ _ ⟨μ5,w5,h5,e2.trans e5,R5,r5,m5⟩
  ·rintro σ5 H5 ⟨μ5,σw5,h5,e5,R5,S5,m5⟩
   exact k.bk _ _ ⟨μ5,_,h5,e2.trans e5,R5,S5.lost,m5⟩
  ·rintro σ5 H5 ⟨μ5,σw5,h5,e5,R5,S5,m5⟩
   exact k.ct _ _ ⟨μ5,_,h5,e2.trans e5,R5,S5.lost,m5⟩
  ·have gone:∀ {σ5:St} {H5:Hp} {Q5:Unit→Shared→Prop},Inv (X.hnd a oe (eE a oe)).nox pins σ5 H5 s5→(∀ s6,Inv X pins (pL σ5) H5 s6→Q5 () s6)→wpAny (model X.prog X.w) X.A (do bindName X.env y .none;unbindBehindTheSuite X.env y hpos) Q5 X.xe s5:=fun {σ5 H5 Q5} I5 h5=>by
    have I5':=I5.unwish
    obtain ⟨mm,hns,_⟩:=I5'.loc
    refine wpAny_nameGoes hy hns (by rw [show X.env.scope.kind=.function from F.inv.ok.kind];rfl) fun h6 m6 hn6 sb6=>h5 _ (F3.inv.unhnd nw hx (I5'.lost hn6 sb6))
   cases f with
   | next=>obtain ⟨σ5,H5,I5,z⟩:=q5;exact gone I5 fun s6 I6=>⟨_,H5,I6,z⟩
   | brk=>obtain ⟨σ5,H5,I5,z⟩:=q5;exact gone I5 fun s6 I6=>⟨_,H5,I6,z⟩
   | cont=>obtain ⟨σ5,H5,I5,z⟩:=q5;exact gone I5 fun s6 I6=>⟨_,H5,I6,z⟩
   | ret v=>obtain ⟨x5,σ5,H5,I5,r5,z⟩:=q5;exact gone I5 fun s6 I6=>⟨x5,_,H5,I6,r5,z⟩
 ·have q:=SP.untr q
  cases f with
  | next=>exact wpAny_execs_nil q
  | brk=>exact q
  | cont=>exact q
  | ret v=>exact q
end
theorem room_hnd {k:Nat}{A:Around}{a:Addr}(r:eN k A)(h:8≤k):eN 8 (A.mark (some (.ref a))):=⟨fun z=>absurd z (by decide),by have:=r.dp;show A.depth+_<_;omega,by have:=r.un;show A.units+_<_;omega⟩
end L2
namespace L2
open PySem PySem.Spec PyProof.Rows
section
variable {X:Cx}{a:Expr}{ma:ME}{pos p:Pos}
def mIsX (f:Str→Bool)(m:ME):ME:=fun σ h Q=>m σ h fun w h1=>match w with
 | .exc n=>Q (.bl (f n)) h1
 | .exa n _=>Q (.bl (f n)) h1
 | _=>False
def XoAny (K:PySem.W.Frag)(H:Hp)(o:Obj)(n:Str):Prop:=Xob K o n∨∃ dd fs,Xoa K o n dd∧H dd=some (.xd fs)
theorem zL {pins:List (Addr×Obj)}{σ : St}{H:Hp}{s:Shared}{q:Addr}{o:Obj}{u:HO}{n:Str}(I:Inv X pins σ H s)(e:H q=some (.frz o u))(x:XoAny X.K H o n):∃ C,o9 X.K C n=true∧∃ od,PySem.W.InstAt s.heap q o C od:=by
 rcases x with ⟨C,hc,hd,hn,hx⟩ | ⟨dd,fs,⟨C,hc,hd,hn,hx⟩,hdd⟩
 ·exact ⟨C,hx,none,(I.hok q _ e).1,hc,hn,by rw [hd];trivial⟩
 ·obtain ⟨ob,ho⟩:=(I.hok dd _ hdd).obj
  unfold xaIn at hx
  simp only [Bool.and_eq_true] at hx
  exact ⟨C,hx.1.1,some ob,(I.hok q _ e).1,hc,hn,by rw [hd];exact ho⟩
theorem call_isx {v:V}{f:Str→Bool}(hf:wA X.K v f):fu X (.builtin "isinstance") (fun xs H Q=>∃ q o u n,xs=[.ref q,v]∧H q=some (.frz o u)∧XoAny X.K H o n∧Q (.bl (f n)) H):=by
 intro pins s σ H xs us Q I r ⟨q,o,u,n,ex,eq,xo,hQ⟩
 subst ex
 obtain ⟨C,hx,J⟩:=zL I eq xo
 cases r with
 | cons r1 r2=>
  cases r2 with
  | cons r2 r3=>
   cases r3
   rename_i u1 u2
   cases (show u1=Value.ref q from r1)
   exact PySem.W.kia_one (vC hx) I.kIn J (hf u2 r2 C n hx) (fun z=>nomatch z) fun tk=>⟨.bl (f n),H,I.kept (t':=tk) fun _ _ e=>e,rfl,hQ⟩
theorem d_isx1 {b:Expr}{v:V}{f:Str→Bool}(hg:Gl X "isinstance")(hm:X.mg "isinstance" = none)(ha:DE X a ma)(hb:PE X b (tC v))(hf:wA X.K v f)(h1:starEach [a,b] X.env=(false,eval a X.env)::starEach [b] X.env:=by rfl)(h2:starEach [b] X.env=(false,eval b X.env)::starEach [] X.env:=by rfl)
  (hpl:(backTo pos (starEach [b] X.env)).any (·.1)=false:=by rfl):DE X (.Call (.Name "isinstance" p) [a,b] [] pos) (mIsX f ma):=
 (pO (call_isx hf) hg hm boot_isinstance (fV ha (fV hb qZ h2) h1) (by decide) (by decide) h1 hpl).of fun σ H Q ⟨μ,h,σw,Qw,R,S,m,k⟩=>by
  refine ⟨μ,h,σw,_,R,S,m,fun x H1 ⟨μ1,w,h1,e1,R1,r1,m1⟩=>?_⟩
  cases w with
  | exc n=>
   rw [Rep] at r1
   obtain ⟨q,o,u,ev,eq,hx⟩:=r1
   subst ev
   exact ⟨q,o,u,n,rfl,eq,.inl hx,k _ _ ⟨μ1,.bl (f n),h1,e1,R1,by rw [Rep],m1⟩⟩
  | exa n ws=>
   rw [Rep] at r1
   obtain ⟨q,o,u,dd,ns,xs,ev,eq,hx,hdd,_⟩:=r1
   subst ev
   exact ⟨q,o,u,n,rfl,eq,.inr ⟨dd,_,hx,hdd⟩,k _ _ ⟨μ1,.bl (f n),h1,e1,R1,by rw [Rep],m1⟩⟩
  | _=>exact m1.elim
inductive PCs (X:Cx):List Expr→List V→(Str→Bool)→Prop
 | nil:PCs X [] [] (fun _=>false)
 | cons {e:Expr} {es:List Expr} {v:V} {vs:List V} {f g:Str→Bool}:PE X e (tC v)→wA X.K v f→PCs X es vs g→starEach (e::es) X.env=(false,eval e X.env)::starEach es X.env→PCs X (e::es) (v::vs) (fun n=>f n||g n)
def tCs (vs:List V):TA:=fun _ H Q=>Q vs H
theorem PCs.pa {es:List Expr}{vs:List V}{f:Str→Bool}(h:PCs X es vs f):PA X es (tCs vs):=by
 induction h with
 | nil=>exact qZ
 | cons he _ _ hs ih=>exact (fV he ih hs).of fun σ H Q q=>q
theorem PCs.any {es:List Expr}{vs:List V}{f:Str→Bool}(h:PCs X es vs f):∀ {us:List Value} {C:Addr} {n:Str},Vals vs us→o9 X.K C n=true→PySem.W.kitAny X.K (.ref C) us=some (f n):=by
 induction h with
 | nil=>intro us C n r _;cases r;rfl
 | @cons e es v vs f g he hc hr hs ih=>
  intro us C n r hx
  cases r with
  | cons r1 r2=>
   unfold PySem.W.kitAny
   rw [hc _ r1 C n hx]
   show _=some (f n||g n)
   cases f n with
   | true=>rfl
   | false=>rw [Bool.false_or];exact ih r2 hx
theorem yO {vs:List V}{f:Str→Bool}(hf:∀ {us:List Value} {C:Addr} {n:Str},Vals vs us→o9 X.K C n=true→PySem.W.kitAny X.K (.ref C) us=some (f n)) :
  fu X (.builtin "isinstance") (fun xs H Q=>∃ q o u n t,xs=[.ref q,.ref t]∧H q=some (.frz o u)∧XoAny X.K H o n∧H t=some (.tup vs)∧Q (.bl (f n)) H):=by
 intro pins s σ H xs us Q I r ⟨q,o,u,n,t,ex,eq,xo,ht,hQ⟩
 subst ex
 obtain ⟨C,hx,J⟩:=zL I eq xo
 cases r with
 | cons r1 r2=>
  cases r2 with
  | cons r2 r3=>
   cases r3
   rename_i u1 u2
   cases (show u1=Value.ref q from r1)
   cases (show u2=Value.ref t from r2)
   obtain ⟨_,its,rv,⟨c,dd,dt,sl⟩,h1,h2,k,h3⟩:=(show cU X.prog X.w H s.heap t (.tup vs) from I.hok t _ ht)
   dsimp only at h2 h3
   subst h2 h3
   exact PySem.W.kia_tup (vC hx) I.kIn J h1 (hf rv hx) (fun z=>nomatch z) fun tk=>⟨.bl (f n),H,I.kept (t':=tk) fun _ _ e=>e,rfl,hQ⟩
theorem d_isxT {es:List Expr}{vs:List V}{f:Str→Bool}{x1 p1}(hg:Gl X "isinstance")(hm:X.mg "isinstance" = none)(ha:DE X a ma)(hc:PCs X es vs f)(hl:vs.length≤100)(h1:starEach [a,.Tuple es x1 p1] X.env=(false,eval a X.env)::starEach [.Tuple es x1 p1] X.env:=by rfl)
  (h2:starEach [.Tuple es x1 p1] X.env=(false,eval (.Tuple es x1 p1) X.env)::starEach [] X.env:=by rfl) (hpl:(backTo pos (starEach [.Tuple es x1 p1] X.env)).any (·.1)=false:=by rfl) :
  DE X (.Call (.Name "isinstance" p) [a,.Tuple es x1 p1] [] pos) (mIsX f ma):=
 (pO (yO hc.any) hg hm boot_isinstance (fV ha (fV (pe_tup hc.pa) qZ h2) h1) (by decide) (by decide) h1 hpl).of fun σ H Q ⟨μ,h,σw,Qw,R,S,m,k⟩=>by
  refine ⟨μ,h,σw,_,R,S,m,fun x H1 ⟨μ1,w,h1,e1,R1,r1,m1⟩=>?_⟩
  cases w with
  | exc n=>
   rw [Rep] at r1
   obtain ⟨q,o,u,ev,eq,hx⟩:=r1
   subst ev
   refine ⟨Nat.le_trans hl (by decide),fun t ht=>⟨q,o,u,n,t,rfl,?_,.inl hx,aL,k _ _ ⟨μ1,.bl (f n),h1,e1.trans (Ex.laid ht).ext,R1.laid ht,by rw [Rep],m1⟩⟩⟩
   rw [aD (aM eq ht)]
   exact eq
  | exa n ws=>
   rw [Rep] at r1
   obtain ⟨q,o,u,dd,ns,xs,ev,eq,hx,hdd,_⟩:=r1
   subst ev
   refine ⟨Nat.le_trans hl (by decide),fun t ht=>⟨q,o,u,n,t,rfl,?_,.inr ⟨dd,_,hx,by rw [aD (aM hdd ht)];exact hdd⟩,aL,k _ _ ⟨μ1,.bl (f n),h1,e1.trans (Ex.laid ht).ext,R1.laid ht,by rw [Rep],m1⟩⟩⟩
   rw [aD (aM eq ht)]
   exact eq
  | _=>exact m1.elim
end
section
variable {X:Cx}{tg elt:Expr}{ifs:List Expr}{scope:Scope}{xs:List Str}{tt:MT}{te:ME}{pos p ppos:Pos}
end
end L2
namespace L2
open PySem PySem.Spec PyProof.Rows
section
variable {prog:Program}{w:World}{A:Around}{E:Value→Shared→Prop}{s:Shared}
end
section
variable {X:Cx}
end
end L2
namespace L2
open PySem PySem.Spec PyProof.Rows
section
variable {X:Cx}{K:PySem.W.Frag}{o e:Expr}{mo:ME}{ma:MA}{apos cpos:Pos}
def oH:MM:=fun x ws h Q=>match x,ws with
 | .loc n,[]=>(match h.c n with
  | some (.lst _)=>Q .non (h.set n (.lst []))
  | _=>False)
 | _,_=>False
theorem s_clear:SimM K rClear oH:=by
 intro H μ h x vs wx ws Qw Q R rx rs m k
 unfold oH at m
 split at m
 ·split at m
  ·rename_i n _ us ec
   obtain ⟨p,xs,ex,hm,hx,r1⟩:=locAt R rx ec
   rw [aJ] at rs
   exact ⟨p,xs,ex,rs,hx,k _ _ (.wrote R hm (by rw [aJ]) (by rw [Rep]) m)⟩
  ·exact m.elim
 ·exact m.elim
theorem d_clear (ho:DE X o mo)(hbase:attributeBase o "clear" X.env (eval o X.env)=eval o X.env:=by rfl)(hline:(apos.endLine==cpos.line)=true:=by rfl) :
  DE X (.Call (.Attribute o "clear" apos) [] [] cpos) (mBMr0 oH mo):=d_bm0 PySem.F.slot_list_clear PySem.F.type_list_clear mt_clear s_clear ho hbase hline
variable {H:Hp}{pins:List (Addr×Obj)}{s:Shared}{σ : St}
mutual
theorem Dt_uniq (I:Inv X pins σ H s):∀ {w u:W} {v:V},Dt X.K H w v→Dt X.K H u v→w=u
 | .non,u,v,h,g=>by rw [Dt] at h;subst h;cases u <;> rw [Dt] at g <;> first | rfl | exact g.elim | (obtain ⟨_,_,g,_⟩:=g;cases g;done) | (cases g;done)
 | .bl b,u,v,h,g=>by rw [Dt] at h;subst h;cases u <;> rw [Dt] at g <;> first | (injection g with g;rw [g];done) | exact g.elim | (obtain ⟨_,_,g,_⟩:=g;cases g;done) | (cases g;done)
 | .int b,u,v,h,g=>by rw [Dt] at h;subst h;cases u <;> rw [Dt] at g <;> first | (injection g with g;rw [g];done) | exact g.elim | (obtain ⟨_,_,g,_⟩:=g;cases g;done) | (cases g;done)
 | .str b,u,v,h,g=>by rw [Dt] at h;subst h;cases u <;> rw [Dt] at g <;> first | (injection g with g;rw [g];done) | exact g.elim | (obtain ⟨_,_,g,_⟩:=g;cases g;done) | (cases g;done)
 | .tup ws,u,v,h,g=>by
  rw [Dt] at h
  obtain ⟨p,xs,e,hs,ds⟩:=h
  subst e
  cases u with
  | tup us=>
   rw [Dt] at g
   obtain ⟨p',xs',e',hs',ds'⟩:=g
   cases e'
   have:=I.tuple_inj hs hs'
   subst this
   rw [qH I ds ds']
  | lst us=>
   rw [Dt] at g
   obtain ⟨p',xs',e',hs',ds'⟩:=g
   cases e'
   obtain ⟨_,_,t,_⟩:=I.tuple hs
   obtain ⟨_,_,l,_⟩:=I.list hs'
   exact absurd rfl (SeqAt.ne_of_list_tuple l.isList (show s.heap.IsTuple _ _ from t))
  | ty _=>rw [Dt] at g;exact g.elim
  | loc _=>rw [Dt] at g;exact g.elim
  | kls _=>rw [Dt] at g;exact g.elim
  | exc _=>rw [Dt] at g;exact g.elim
  | exa _ _=>rw [Dt] at g;exact g.elim
  | _=>rw [Dt] at g;cases g
 | .lst ws,u,v,h,g=>by
  rw [Dt] at h
  obtain ⟨p,xs,e,hs,ds⟩:=h
  subst e
  cases u with
  | lst us=>
   rw [Dt] at g
   obtain ⟨p',xs',e',hs',ds'⟩:=g
   cases e'
   have:=I.list_inj hs hs'
   subst this
   rw [qH I ds ds']
  | tup us=>
   rw [Dt] at g
   obtain ⟨p',xs',e',hs',ds'⟩:=g
   cases e'
   obtain ⟨_,_,t,_⟩:=I.tuple hs'
   obtain ⟨_,_,l,_⟩:=I.list hs
   exact absurd rfl (SeqAt.ne_of_list_tuple l.isList (show s.heap.IsTuple _ _ from t))
  | ty _=>rw [Dt] at g;exact g.elim
  | loc _=>rw [Dt] at g;exact g.elim
  | kls _=>rw [Dt] at g;exact g.elim
  | exc _=>rw [Dt] at g;exact g.elim
  | exa _ _=>rw [Dt] at g;exact g.elim
  | _=>rw [Dt] at g;cases g
 | .ty _,_,_,h,_=>by rw [Dt] at h;exact h.elim
 | .kls _,_,_,h,_=>by rw [Dt] at h;exact h.elim
 | .loc _,_,_,h,_=>by rw [Dt] at h;exact h.elim
 | .exc _,_,_,h,_=>by rw [Dt] at h;exact h.elim
 | .exa _ _,_,_,h,_=>by rw [Dt] at h;exact h.elim
theorem qH (I:Inv X pins σ H s):∀ {ws us:List W} {vs:List V},Dts X.K H ws vs→Dts X.K H us vs→ws=us
 | [],us,vs,h,g=>by
  have e:vs=[]:=by rw [Dts] at h;exact h
  subst e
  cases us with
  | nil=>rfl
  | cons u us=>rw [Dts] at g;obtain ⟨_,_,e,_⟩:=g;cases e
 | w::ws,us,vs,h,g=>by
  rw [Dts] at h
  obtain ⟨v,vs',e,d,ds⟩:=h
  subst e
  cases us with
  | nil=>
   have e:v::vs'=[]:=by rw [Dts] at g;exact g
   cases e
  | cons u us=>
   rw [Dts] at g
   obtain ⟨v2,vs2,e2,d2,ds2⟩:=g
   cases e2
   rw [Dt_uniq I d d2,qH I ds ds2]
end
end
section
variable {X:Cx}{elt iter tg:Expr}{ifs:List Expr}{scope:Scope}{pos:Pos}{xs:List Str}{mi:MI}{tt:MT}{te:ME}
theorem d_lcM {own:V→Hp→List V→Prop}{ow:W→Option (List W)}(ix:List Nat)(hc:X.calm=true)(B:iz X scope xs ix)(oo:xX X.K xs.length own ow)(hg:∀ C s H fp,PG (blk X scope (fY X xs ix) C s H fp) tg (gOwn xs.length own))(hi:DIt X tg iter mi)
  (ht:∀ C s H fp,DIfs (blk X scope (fY X xs ix) C s H fp) ifs tt) (he:∀ C s H fp,DE (blk X scope (fY X xs ix) C s H fp) elt te)
  (hs:∀ v,foldedSetIterable iter X.env v=pure v:=by intro _;rfl):DE X (.ListComp elt [⟨tg,iter,ifs,0⟩] scope pos) (mLCM ow ix mi tt te):=(pe_lc ix hc B hg hi ht he hs).of fun _ _ _ q=>lcM_of oo q
end
end L2
namespace L2
open PySem PySem.Spec PyProof.Rows
section
variable {X:Cx}{Γ : St→Prop}{e:Expr}{es:List Expr}{pos:Pos}
variable {mr:XWK→MA}
end
end L2
namespace L2
open PySem PySem.Spec PyProof.Rows
section
variable {X:Cx}{K:PySem.W.Frag}{H:Hp}{pins:List (Addr×Obj)}{s:Shared}{σ : St}
end
end L2
namespace L2
open PySem PySem.Spec PyProof.Rows
section
variable {X:Cx}{K:PySem.W.Frag}{H:Hp}{μ : Mu}{h:Gh}
def isiS:W→Option Bool
 | .str _=>some true
 | .int _=>some false
 | .bl _=>some false
 | .non=>some false
 | .tup _=>some false
 | _=>none
def isiSV (K:PySem.W.Frag)(H:Hp):V→Bool→Prop
 | .str _,b=>b=true
 | .int _,b=>b=false
 | .bl _,b=>b=false
 | .non,b=>b=false
 | .ref p,b=>(∃ xs,SqT K H p xs)∧b=false
 | _,_=>False
theorem yQ:fu X (.builtin "isinstance") (fun xs H Q=>∃ x b,xs=[x,.ty "str"]∧isiSV X.K H x b∧Q (.bl b) H):=by
 intro pins s σ H xs us Q I r h
 obtain ⟨x,b,rfl,hi,q⟩:=h
 obtain ⟨u,w',rfl,rx,ru⟩:=vals2 r
 cases ru
 have k0:EP X pins σ Q (.bool b) s:=⟨.bl b,H,I,rfl,q⟩
 have k1:EP X pins σ Q (.bool b) { s with toks:=s.toks+1 }:=⟨.bl b,H,I.tok _,rfl,q⟩
 cases x with
 | str i=>obtain ⟨t,rfl⟩:=rx;cases hi;exact IsiPair.str_str k0
 | int i=>obtain ⟨t,rfl⟩:=rx;cases hi;exact IsiPair.int_str k1
 | bl i=>cases rx;cases hi;exact IsiPair.bool_str k1
 | non=>cases rx;cases hi;exact IsiPair.NoneType_str k1
 | ref p=>
  cases rx
  obtain ⟨⟨xs,hS⟩,e⟩:=hi
  cases e
  obtain ⟨its,_,⟨o,e,c,_⟩,_⟩:=I.tuple hS
  exact IsiPair.tuple_str e c k1
 | _=>exact (show False from hi).elim
theorem isiS_ok {w:W}{v:V}{b:Bool}(r:Rep K H μ w v)(e:isiS w=some b):isiSV K H v b:=by
 cases w <;> rw [Rep] at r <;> first | (subst r;cases e;rfl) | (cases e;done) | skip
 obtain ⟨p,xs,ev,hs,_⟩:=r
 subst ev
 cases e
 exact ⟨⟨xs,hs⟩,rfl⟩
def kIsiS:MC:=fun ws h Q=>match ws with
 | [w,.ty T]=>T = "str"∧(match isiS w with
  | some b=>Q (.bl b) h
  | none=>False)
 | _=>False
theorem c_isiS:nP X (.builtin "isinstance") kIsiS:=⟨_,yQ,by
 intro H μ h vs ws Qw Q R r m k
 unfold kIsiS at m
 split at m
 ·rename_i w T
  obtain ⟨eT,m⟩:=m
  subst eT
  split at m
  ·rename_i b eb
   obtain ⟨v,x,e,rv,rx⟩:=reps2 r
   have hi:=isiS_ok rv eb
   rw [Rep] at rx
   subst e rx
   exact ⟨v,b,rfl,hi,k _ _ (.bl R m)⟩
  ·exact m.elim
 ·exact m.elim⟩
end
end L2
namespace L2
open PySem PySem.Spec PyProof.Rows
section
variable {X:Cx}{K:PySem.W.Frag}{o e e':Expr}{mo:ME}{ma:MA}{apos cpos:Pos}
theorem few_2 {cpos:Pos}{e e':Expr}{env:Env}(h:isStar e=false)(h':isStar e'=false):((backTo cpos (starEach [e,e'] env)).all (fun x=>!x.1)&&(backToKw cpos (keywordEach [] env)).all (fun x=>x.1.isSome)
   && decide (([e,e']:List Expr).length+([]:List Keyword).length+(if ([]:List Keyword).isEmpty then 0 else 1)<30))=true:=by
 rw [aj h,aj h']
 rfl
end
end L2
namespace L2
open PySem PySem.Spec PyProof.Rows
def plL (m:Nat):List Nat:=(List.range 8).filter fun j=>m.testBit j
def rk (m j:Nat):Nat:=((List.range j).filter fun i=>m.testBit i).length
def pq (h:Int):Nat→Nat×Nat
 | 0=>(SetTable.bits h % 8,SetTable.bits h)
 | n+1=>SetTable.leap 7 (pq h n).1 (pq h n).2
def pb (h:Int)(n:Nat):SetTable.Probe:=⟨(pq h n).1,0,(pq h n).1,(pq h n).2,none⟩
theorem pq_lt (h:Int):∀ n,(pq h n).1<8
 | 0=>Nat.mod_lt _ (by decide)
 | n+1=>Nat.mod_lt _ (by decide)
theorem za (h:Int):∀ n,(pq h n).2=SetTable.bits h / 32^n
 | 0=>by simp [pq]
 | n+1=>by
  show (pq h n).2 / 32=_
  rw [za h n,Nat.div_div_eq_div_mul,Nat.pow_succ]
theorem pq_zero (h:Int)(n:Nat)(hn:13≤n):(pq h n).2=0:=by
 rw [za]
 apply Nat.div_eq_of_lt
 have h1:SetTable.bits h<2^64:=by
  unfold SetTable.bits
  have a:=Int.emod_lt_of_pos h (show (0:Int)<2^64 by decide)
  have b:=Int.emod_nonneg h (show (2^64:Int)≠0 by decide)
  omega
 have h2:32^13≤32^n:=Nat.pow_le_pow_right (by decide) hn
 have h3:(2:Nat)^64<32^13:=by decide
 omega
def lcg:Nat→Nat→Nat
 | i,0=>i
 | i,k+1=>(lcg i k*5+1) % 8
theorem pq_lcg (h:Int):∀ k,(pq h (13+k)).1=lcg (pq h 13).1 k
 | 0=>rfl
 | k+1=>by
  show ((pq h (13+k)).1*5+1+(pq h (13+k)).2 / 32) % (7+1)=_
  rw [pq_zero h _ (by omega),pq_lcg h k]
  rfl
theorem lcg_all:∀ i:Fin 8,∀ j:Fin 8,∃ k:Fin 8,lcg i k=j.val:=by decide +kernel
theorem pq_all (h:Int){j:Nat}(hj:j<8):∃ n,n<21∧(pq h n).1=j:=by
 obtain ⟨k,e⟩:=lcg_all ⟨(pq h 13).1,pq_lt h 13⟩ ⟨j,hj⟩
 exact ⟨13+k.val,by omega,by rw [pq_lcg];exact e⟩
theorem least {P:Nat→Bool}:∀ (B:Nat),(∃ n,n<B∧P n=true)→∃ N,N<B∧P N=true∧∀ n,n<N→P n=false
 | 0,⟨n,h,_⟩=>absurd h (Nat.not_lt_zero _)
 | B+1,⟨n,h,e⟩=>by
  by_cases q:∃ n,n<B∧P n=true
  ·obtain ⟨N,a,b,c⟩:=least B q
   exact ⟨N,by omega,b,c⟩
  ·refine ⟨n,h,e,fun i hi=>?_⟩
   cases r:P i with
   | false=>rfl
   | true=>exact absurd ⟨i,by omega,r⟩ q
theorem road {m:Nat}(h:Int)(hf:∃ j,j<8∧m.testBit j=false):∃ N,N<21∧m.testBit (pq h N).1=false∧∀ n,n<N→m.testBit (pq h n).1=true:=by
 obtain ⟨j,hj,e⟩:=hf
 obtain ⟨n,hn,en⟩:=pq_all h hj
 obtain ⟨N,a,b,c⟩:=least (P:=fun n=>!m.testBit (pq h n).1) 21 ⟨n,hn,by simp [en,e]⟩
 exact ⟨N,a,by simpa using b,fun n hn=>by simpa using c n hn⟩
end L2
namespace L2
open PySem PySem.Spec PyProof.Rows
section
variable {prog:Program}{w:World}{A:Around}{E:Value→Shared→Prop}{s:Shared}{m:Nat}{ka:Nat→List Int}{ad:Nat→Addr}{t:SetTable}{a b:Addr}{k:List Int}
abbrev TK (prog:Program)(w:World)(h:Heap)(k:List Int)(a:Addr):Prop:=IsTupleKey (intKind prog w) h k a
def hT (prog:Program)(w:World)(k:List Int):Int:=tupleKeyHash (intKind prog w) k
def elL (prog:Program)(w:World)(m:Nat)(ka:Nat→List Int)(ad:Nat→Addr):List (Int×Value):=(plL m).map fun j=>(hT prog w (ka j),Value.ref (ad j))
structure TTab (prog:Program) (w:World) (h:Heap) (m:Nat) (ka:Nat→List Int) (ad:Nat→Addr) (t:SetTable):Prop where
 mask:t.mask=7
 place:t.place=(plL m).toArray
 dum:t.dummies = #[]
 m8:m<256
 few:(plL m).length≤4
 key:∀ j,j∈plL m→TK prog w h (ka j) (ad j)
 way:∀ j,j∈plL m→∃ n,(pq (hT prog w (ka j)) n).1=j∧∀ i,i<n→m.testBit (pq (hT prog w (ka j)) i).1=true
def setO (es:Array (Int×Value))(ep:Nat)(t:SetTable):Obj:={ cls:=.type "set",dict:=none,data:=.set es ep t }
def TupSet (prog:Program)(w:World)(h:Heap)(a:Addr)(m:Nat)(ka:Nat→List Int)(ad:Nat→Addr):Prop:=∃ ep t,h.get? a=some (setO (elL prog w m ka ad).toArray ep t)∧TTab prog w h m ka ad t
end
end L2
namespace L2
open PySem PySem.Spec PyProof.Rows
section
variable {prog:Program}{w:World}{A:Around}{E:Value→Shared→Prop}{R:Result→Shared→Prop}
structure Bears (prog:Program) (w:World) (z:Nat) (h:Heap) (S:Addr) (seen:List (List Int)) (m:Nat) (ka:Nat→List Int) (ad:Nat→Addr):Prop where
 set:TupSet prog w h S m ka ad
 low:∀ j,j∈plL m→ad j<z
 mem:∀ k,k∈seen↔∃ j,j∈plL m∧ka j=k
 len:(plL m).length=seen.length
end
end L2
namespace L2
open PySem PySem.Spec PyProof.Rows
section
variable {prog:Program}{w:World}{A:Around}{E:Value→Shared→Prop}{s:Shared}
end
end L2
namespace L2
open PySem PySem.Spec PyProof.Rows
section
variable {X:Cx}{K:PySem.W.Frag}
end
end L2
namespace L2
open PySem PySem.Spec PyProof.Rows
section
variable {X:Cx}{K:PySem.W.Frag}
end
end L2
namespace L2
open PySem PySem.Spec PyProof.Rows
section
variable {κ : Type} [DecidableEq κ]
def yX (kvs:List (κ×V))(k:κ):Option V:=(kvs.find? fun kv=>decide (kv.1=k)).map (·.2)
def putK (kvs:List (κ×V))(k:κ)(v:V):List (κ×V):=
 if (kvs.any fun kv=>decide (kv.1=k))=true then kvs.map (fun kv=>if kv.1=k then (kv.1,v) else kv) else kvs++[(k,v)]
theorem lg {p:κ×V}{r:List (κ×V)}{k:κ}(e:p.1=k):yX (p::r) k=some p.2:=by simp [yX,List.find?_cons,e]
theorem kE {p:κ×V}{r:List (κ×V)}{k:κ}(e:¬ p.1=k):yX (p::r) k=yX r k:=by simp [yX,List.find?_cons,e]
theorem vf (k:κ):∀ kvs:List (κ×V),(kvs.any fun kv=>decide (kv.1=k))=(yX kvs k).isSome
 | []=>rfl
 | p::r=>by
  rw [List.any_cons]
  by_cases e:p.1=k
  ·simp only [lg e,decide_eq_true e,Bool.true_or,Option.isSome_some]
  ·rw [kE e,decide_eq_false e,Bool.false_or];exact vf k r
theorem uG (kvs:List (κ×V))(k:κ)(v:V):(putK kvs k v).length≤kvs.length+1:=by
 unfold putK
 split
 ·rw [List.length_map];omega
 ·rw [List.length_append,List.length_cons,List.length_nil];omega
theorem tE.isSome_eq {o:Option V}{u:Option Value}(r:tE o u):o.isSome=u.isSome:=by
 cases o with
 | none=>cases u with
  | none=>rfl
  | some _=>exact (show False from r).elim
 | some _=>cases u with
  | none=>exact (show False from r).elim
  | some _=>rfl
theorem KV.val {kvs:List (κ×V)}{vs:List (κ×Value)}(r:KV kvs vs)(k:κ):tE (yX kvs k) (valueAt vs k):=by
 unfold KV at r
 induction r with
 | nil=>exact True.intro
 | @cons p q ps qs h t ih=>
  obtain ⟨h1,h2⟩:=h
  by_cases e:p.1=k
  ·have e':q.1=k:=h1.symm.trans e
   have b:valueAt (q::qs) k=some q.2:=by simp [valueAt,List.find?_cons,e']
   rw [lg e,b];exact h2
  ·have e':¬ q.1=k:=fun z=>e (h1.trans z)
   have b:valueAt (q::qs) k=valueAt qs k:=by simp [valueAt,List.find?_cons,e']
   rw [kE e,b];exact ih
theorem KV.any {kvs:List (κ×V)}{vs:List (κ×Value)}(r:KV kvs vs)(k:κ):(kvs.any fun kv=>decide (kv.1=k))=vs.any fun kv=>decide (kv.1=k):=by
 unfold KV at r
 induction r with
 | nil=>rfl
 | cons h t ih=>rw [List.any_cons,List.any_cons,ih,h.1]
theorem KV.repl {kvs:List (κ×V)}{vs:List (κ×Value)}(r:KV kvs vs)(k:κ){y:V}{u:Value}(ry:RelV y u) :
  KV (kvs.map fun kv=>if kv.1=k then (kv.1,y) else kv) (vs.map fun kv=>if kv.1=k then (kv.1,u) else kv):=by
 unfold KV at r ⊢
 induction r with
 | nil=>exact .nil
 | @cons p q ps qs h t ih=>
  rw [List.map_cons,List.map_cons]
  refine .cons ?_ ih
  obtain ⟨h1,h2⟩:=h
  by_cases e:p.1=k
  ·rw [if_pos e,if_pos (h1.symm.trans e)];exact ⟨h1,ry⟩
  ·rw [if_neg e,if_neg (fun z=>e (h1.trans z))];exact ⟨h1,h2⟩
theorem KV.put {kvs:List (κ×V)}{vs:List (κ×Value)}(r:KV kvs vs)(k:κ){y:V}{u:Value}(ry:RelV y u):KV (putK kvs k y) (stored vs k u):=by
 unfold putK stored
 rw [r.any k]
 by_cases e:(vs.any fun kv=>decide (kv.1=k))=true
 ·rw [if_pos e,if_pos e];exact r.repl k ry
 ·rw [if_neg e,if_neg e];exact Paired.snoc r ⟨rfl,ry⟩
end
theorem Aj {P:Program}{w:World}{k:Key}{u:Value}(r:RelV (kV k) u):(bN P w).is k u=true:=by
 cases k with
 | inl i=>obtain ⟨t,e⟩:=(show ∃ t,u=Value.int i t from r);subst e;exact tZ P w i t
 | inr x=>obtain ⟨t,e⟩:=(show ∃ t,u=Value.str x t from r);subst e;exact uz P w x t
section
variable {P:Program}{w:World}{H:Hp}{h:Heap}{a:Addr}
theorem rd_of {u:HO}(ok:HOk P w H h)(e:Rd H a u):cU P w H h a u:=e.ok ok
theorem dk_rd {kvs:List (Key×V)}(ok:HOk P w H h)(e:Rd H a (.dK kvs)):kvs.length≤sizeLine∧(a==sysModules)=false∧∃ vs,KV kvs vs∧h.DictOf (bN P w) a vs:=
 show cU P w H h a (.dK kvs) from rd_of ok e
theorem dk_of {kvs:List (Key×V)}(ok:HOk P w H h)(e:H a=some (.dK kvs)):kvs.length≤sizeLine∧(a==sysModules)=false∧∃ vs,KV kvs vs∧h.DictOf (bN P w) a vs:=dk_rd ok (.inl e)
end
section
variable {X:Cx}{pins:List (Addr×Obj)}{σ : St}{H:Hp}{s:Shared}{a:Addr}{y v:V}{u r:Value}{o:Option V}{A:Around}{E:Value→Shared→Prop}
theorem Inv.big (I:Inv X pins σ H s):sysModules<s.heap.objs.size:=by
 have h:mainGlobals<s.heap.objs.size:=(I.mod.glob.keeps I.bk).lt
 exact Nat.lt_trans (by decide) h
theorem d_write {h':Heap}{t':Nat}{ob:HO}(I:Inv X pins σ H s)(mu:Mut (H a))(hs:Heap.SameBut a s.heap h')(he:∃ q,h'.get? a=some q)(new:cU X.prog X.w (upd H a ob) h' a ob) :
  Inv X pins σ (upd H a ob) { s with heap:=h',toks:=t' }:=
 I.write (x:=a) (e:=a) mu (.inl rfl) (fun b q hb z=>(hs.2 b hb).trans z) he new
theorem dk_new {P:Program}{w:World}{H':Hp}{h':Heap}{kvs:List (Key×V)}{vs:List (Key×Value)}(z:kvs.length≤sizeLine)(hd:(a==sysModules)=false)(rel:KV kvs vs)(dd:h'.DictOf (bN P w) a vs) :
  cU P w H' h' a (.dK kvs):=⟨z,hd,vs,rel,dd⟩
end
section
variable {X:Cx}{pins:List (Addr×Obj)}{σ : St}{H:Hp}{s:Shared}{a:Addr}{kvs:List (Key×V)}{k:Key}{u:Value}{A:Around}{E:Value→Shared→Prop}
end
def NoSl (i:Expr):Prop:=∀ ov iv,subscripted i false ov iv=operate [ov,iv] (getItem ov iv)
theorem subD_of {prog:Program}{w:World}{A:Around}{E:Value→Shared→Prop}{s:Shared}{env:Env}{value slice:Expr}{pos:Pos}{T id:String}{Q:Value→Shared→Prop}
  (hl:typeLookup (.type T) "__getitem__" = pure (some (.builtin id))) (hs:NoSl slice)
  (h:wpAny (model prog w) A (eval value env) (fun o s₁=>wpAny (model prog w) A (eval slice env) (fun i s₂=>s₂.TypeIs o T∧wpAny (model prog w) A (getItem o i) Q E s₂) E s₁) E s) :
  wpAny (model prog w) A (eval (.Subscript value slice pos) env) Q E s:=by
 refine Subscript_ (wpAny_mono h (fun o s₁ h₁=>wpAny_mono h₁ (fun i s₂ h₂=>?_) fun _ _ x=>x) fun _ _ x=>x)
 obtain ⟨hT,h₂⟩:=h₂
 unfold subscriptTail
 refine wpAny_bind ?_
 rw [getitemInPython_of_ne hT.not_modules]
 refine wpAny_bind (wpAny_specialOf hT hl ?_)
 have fin:wpAny (model prog w) A (subscripted slice false o i) (fun r s₃=>wpAny (model prog w) A (letTemporaryGo value o r >>= fun _=>pure r) Q E s₃) E s₂:=by
  rw [hs o i]
  exact wpAny_operating (wpAny_mono h₂ (fun r s₃ h₃=>wpAny_bind (wpAny_letTemporaryGo (wpAny_pure h₃))) fun _ _ x=>x)
 first
  | exact wpAny_pure (wpAny_bind fin)
  | exact wpAny_bind (wpAny_pure (wpAny_bind fin))
  | exact wpAny_bind fin
section
variable {X:Cx}{o i e value:Expr}{pos pos' tpos:Pos}{td ty tv:TE}
end
theorem dk_empty {P:Program}{w:World}{H:Hp}(h:Heap)(hb:sysModules<h.objs.size):cU P w H (h.push { cls:=.type "dict",data:=.dict #[] }) h.objs.size (.dK []):=
 ⟨Nat.zero_le _,beq_eq_false_iff_ne.mpr (Ne.symm (Nat.ne_of_lt hb)),[],.nil,Heap.DictOf.new h⟩
section
variable {X:Cx}{pos:Pos}
end
def qW:List (TE×TE)→St→Hp→(List (V×V)→Hp→Prop)→Prop
 | [],_,H,Q=>Q [] H
 | (tk,tv)::r,σ,H,Q=>tk σ H fun x H1=>tv σ H1 fun y H2=>qW r σ H2 fun ps H3=>Q ((x,y)::ps) H3
abbrev VV:List (V×V)→List (Value×Value)→Prop:=Paired fun p q=>RelV p.1 q.1∧RelV p.2 q.2
def PPs (X:Cx)(pos:Pos)(keys:List (Option Expr))(values:List Expr)(trs:List (TE×TE)):Prop:=
 ∀ (pins:List (Addr×Obj)) (s:Shared) (σ : St) (H:Hp) (Q:List (V×V)→Hp→Prop),Inv X pins σ H s→qW trs σ H Q →
  wpAny (model X.prog X.w) X.A (evalPairs (pairTrees keys values X.env pos)) (fun vs s'=>∃ ps H',Inv X pins σ H' s'∧VV ps vs∧Q ps H') X.xe s
theorem pps_nil {X:Cx}{pos:Pos}:PPs X pos [] [] []:=fun pins s σ H Q I h=>pairTrees_nil_walk ⟨[],H,I,.nil,h⟩
theorem pps_cons {X:Cx}{pos:Pos}{k v:Expr}{ks:List (Option Expr)}{vs:List Expr}{tk tv:TE}{trs:List (TE×TE)}(hk:PE X k tk)(hv:PE X v tv)(hr:PPs X pos ks vs trs) :
  PPs X pos (some k::ks) (v::vs) ((tk,tv)::trs):=fun pins s σ H Q I h=>
 pairTrees_cons_walk (thn (hk pins s σ H _ I h) fun u s1 ⟨x,H1,I1,rx,q1⟩=>thn (hv pins s1 σ H1 _ I1 q1) fun w2 s2 ⟨y,H2,I2,ry,q2⟩=>
  thn (hr pins s2 σ H2 _ I2 q2) fun ws s3 ⟨ps,H3,I3,rel,q3⟩=>⟨(x,y)::ps,H3,I3,.cons ⟨rx,ry⟩ rel,q3⟩)
def jr (kvs more:List (Key×V)):List (Key×V):=more.foldl (fun acc kv=>putK acc kv.1 kv.2) kvs
theorem KV.merge:∀ {more:List (Key×V)} {rs:List (Key×Value)} {kvs:List (Key×V)} {vs:List (Key×Value)},KV more rs→KV kvs vs→KV (jr kvs more) (merged vs rs):=by
 intro more rs kvs vs r
 unfold KV at r
 induction r generalizing kvs vs with
 | nil=>intro q;exact q
 | @cons p q ps qs h t ih=>
  intro r0
  have e:KV (putK kvs p.1 p.2) (stored vs q.1 q.2):=by
   have:=r0.put p.1 h.2
   rw [←h.1];exact this
  exact ih e
theorem jz:∀ (more kvs:List (Key×V)),(jr kvs more).length≤kvs.length+more.length
 | [],kvs=>by show kvs.length≤kvs.length+0;omega
 | p::r,kvs=>by
  have h1:=jz r (putK kvs p.1 p.2)
  have h2:=uG kvs p.1 p.2
  show (jr (putK kvs p.1 p.2) r).length≤_
  rw [List.length_cons];omega
theorem oA {P:Program}{w:World}:∀ {kvs:List (Key×V)} {ws:List (Value×Value)},VV (kvs.map fun kv=>(kV kv.1,kv.2)) ws→∃ rs,Carries (bN P w) ws rs∧KV kvs rs
 | [],_,r=>by rw [List.map_nil] at r;cases r;exact ⟨[],True.intro,.nil⟩
 | p::kvs,_,r=>by
  rw [List.map_cons] at r
  cases r with
  | @cons a b as bs h t=>
   obtain ⟨rs,c,q⟩:=oA (P:=P) (w:=w) t
   obtain ⟨b1,b2⟩:=b
   exact ⟨(p.1,b2)::rs,⟨Aj h.1,rfl,c⟩,.cons ⟨rfl,h.2⟩ q⟩
def tDisp (trs:List (TE×TE)):TE:=fun σ H Q=>∀ p,H p=none→qW trs σ (upd H p (.dK [])) fun ps H2=>H2 p=some (.dK [])∧∃ kvs:List (Key×V),ps=kvs.map (fun kv=>(kV kv.1,kv.2))∧kvs.length≤15∧Q (.ref p) (upd H2 p (.dK (jr [] kvs)))
theorem pe_disp {X:Cx}{pos:Pos}{keys:List (Option Expr)}{values:List Expr}{trs:List (TE×TE)}(h:PPs X pos keys values trs)(hall:keys.all (·.isSome)=true)(hl:keys.length=values.length)(h0:keys≠[])
  (h15:keys.length≤15):PE X (.Dict keys values pos) (tDisp trs):=by
 intro pins s σ H Q I q
 have hn:=I.hok.fresh (Nat.le_refl s.heap.objs.size)
 have I1:=I.laid (a:=s.heap.objs.size) (o:=.dK []) (h':=s.heap.push { cls:=.type "dict",data:=.dict #[] }) (t':=s.toks) (fun _ _ q=>Heap.get?_push_of_some _ q) (Nat.le_refl _) (dk_empty s.heap I.big)
 refine wpAny_Dict_walk (knd:=bN X.prog X.w) hall hl h0 h15 (thn (h pins _ σ _ _ I1 (q _ hn)) fun ws s2 ⟨ps,H2,I2,rel,e,kvs,ep,lk,q2⟩=>?_)
 subst ep
 obtain ⟨rs,c,rk⟩:=oA (P:=X.prog) (w:=X.w) rel
 obtain ⟨z,hd,vs0,r0,dd⟩:=dk_of I2.hok e
 cases r0
 refine ⟨rs,c,dd,fun h' dd' hs=>⟨.ref s.heap.objs.size,_,?_,rfl,q2⟩⟩
 have hz:(jr [] kvs).length≤sizeLine:=by
  have h1:=jz kvs []
  rw [List.length_nil] at h1
  rw [sizeLine_eq];omega
 have he:∃ q,h'.get? s.heap.objs.size=some q:=let ⟨q,_,_,hq,_⟩:=dd';⟨q,hq⟩
 exact d_write I2 (by rw [e];exact True.intro) hs he (dk_new hz hd (rk.merge .nil) dd')
end L2
namespace L2
open PySem PySem.Spec PyProof.Rows
def wKey:W→Option Key
 | .int i=>some (.inl i)
 | .str x=>some (.inr x)
 | _=>none
def nM (kvs:List (Key×W))(k:Key):Option W:=(kvs.find? fun kv=>decide (kv.1=k)).map (·.2)
section
variable {K:PySem.W.Frag}{H:Hp}{μ : Mu}{kvs:List (Key×W)}{kvv:List (Key×V)}{k:Key}{w:W}{v:V}
theorem wJ (r:Rep K H μ w v)(e:wKey w=some k):v=kV k:=by
 cases w with
 | int i=>rw [Rep] at r;cases e;exact r
 | str x=>rw [Rep] at r;cases e;exact r
 | _=>cases e
theorem jW.val (r:jW K H μ kvs kvv)(e:nM kvs k=some w):∃ v,yX kvv k=some v∧Rep K H μ w v:=by
 unfold jW at r
 induction r with
 | nil=>cases e
 | @cons p q ps qs h t ih=>
  by_cases z:p.1=k
  ·have e1:nM (p::ps) k=some p.2:=by simp [nM,List.find?_cons,z]
   rw [e1] at e
   cases e
   exact ⟨q.2,lg (h.1.symm.trans z),h.2⟩
  ·have e1:nM (p::ps) k=nM ps k:=by simp [nM,List.find?_cons,z]
   rw [e1] at e
   obtain ⟨v,a,b⟩:=ih e
   exact ⟨v,by rw [kE (fun y=>z (h.1.trans y))];exact a,b⟩
theorem jW.any (r:jW K H μ kvs kvv)(k:Key):(kvs.any fun kv=>decide (kv.1=k))=(kvv.any fun kv=>decide (kv.1=k)):=by
 unfold jW at r
 induction r with
 | nil=>rfl
 | @cons p q ps qs h t ih=>rw [List.any_cons,List.any_cons,ih,h.1]
end
section
variable {X:Cx}{a b:Expr}{ma mb:ME}{pos:Pos}
def kDIx:M2:=fun x y h Q=>match x,wKey y with
 | .loc n,some k=>(match h.c n with
  | some (.dct kvs)=>(match nM kvs k with
   | some w=>Q w h
   | none=>False)
  | _=>False)
 | _,_=>False
inductive DDs (X:Cx):List (Option Expr)→List Expr→List (Key×ME)→Prop
 | nil:DDs X [] [] []
 | cons {x:Str} {j pos} {v:Expr} {m:ME} {ks:List (Option Expr)} {vs:List Expr} {r:List (Key×ME)} (h:DE X v m) (t:DDs X ks vs r):DDs X (some (.Constant (.str x) j pos)::ks) (v::vs) ((.inr x,m)::r)
end
inductive TabE (w:World) (K:PySem.W.Frag):List DictEntry→List (Key×W)→Prop
 | nil:TabE w K [] []
 | cons {x:Str} {t} {v:V} {u:Value} {d:W} {es:List DictEntry} {tbl:List (Key×W)} (r:RelV v u) (q:∀ H μ,Rep K H μ d v) (h:TabE w K es tbl):TabE w K (⟨PyData.keyHash w.params x,.str x t,u⟩::es) ((.inr x,d)::tbl)
def TabK (w:World)(K:PySem.W.Frag)(a:Addr)(tbl:List (Key×W)):Prop:=(a==sysModules)=false∧(tbl.map (·.1)).Nodup∧tbl.length≤sizeLine∧∃ es n,K.lookup a=some ⟨.type "dict",none,.dict es n,#[]⟩∧TabE w K es.toList tbl
theorem TabE.pairs {P:Program}{w:World}{K:PySem.W.Frag}{es:List DictEntry}{tbl:List (Key×W)}(h:TabE w K es tbl) :
  (∀ e∈es,∃ k,(bN P w).is k e.key=true∧e.hash=(bN P w).hash k)∧∃ vs kvv,Pairs (bN P w) es vs∧KV kvv vs∧(∀ H μ,jW K H μ tbl kvv)∧vs.map (·.1)=tbl.map (·.1):=by
 induction h with
 | nil=>exact ⟨fun e z=>(nomatch z),[],[],.nil,.nil,fun _ _=>.nil,rfl⟩
 | @cons x t v u d es tbl r q h ih=>
  obtain ⟨h1,vs,kvv,h2,h3,h4,h5⟩:=ih
  have hk:(bN P w).is (.inr x) (.str x t)=true:=Aj (k:=.inr x) ⟨t,rfl⟩
  refine ⟨fun e z=>?_,(.inr x,u)::vs,(.inr x,v)::kvv,.cons hk rfl h2,.cons ⟨rfl,r⟩ h3,fun H μ=>.cons ⟨rfl,q H μ⟩ (h4 H μ),by rw [List.map_cons,List.map_cons,h5]⟩
  rcases List.mem_cons.mp z with z | z
  ·subst z;exact ⟨.inr x,hk,rfl⟩
  ·exact h1 e z
theorem TabK.dict {X:Cx}{pins:List (Addr×Obj)}{σ : St}{H:Hp}{s:Shared}{a:Addr}{tbl:List (Key×W)}(T:TabK X.w X.K a tbl)(I:Inv X pins σ H s) :
  ∃ vs kvv,s.heap.DictOf (bN X.prog X.w) a vs∧KV kvv vs∧∀ H μ,jW X.K H μ tbl kvv:=by
 obtain ⟨_,nd,_,es,n,hl,he⟩:=T
 obtain ⟨h1,vs,kvv,h2,h3,h4,h5⟩:=he.pairs (P:=X.prog)
 exact ⟨vs,kvv,⟨_,es,n,I.kIn _ _ hl,⟨rfl,rfl,rfl⟩,rfl,fun e z=>h1 e (Array.mem_toList_iff.mpr z),h2,by rw [h5];exact nd⟩,h3,h4⟩
section
variable {X:Cx}{b:Expr}{mb:ME}{pos p:Pos}{x:Str}{a:Addr}{tbl:List (Key×W)}
def mTab (tbl:List (Key×W))(mb:ME):ME:=fun σ h Q=>mb σ h fun y h1=>match wKey y with
 | some k=>(match nM tbl k with
  | some w=>Q w h1
  | none=>False)
 | none=>False
theorem d_tab (T:TabK X.w X.K a tbl)(hg:Gl X x)(hm:X.mg x=some (.ref a))(hb:DE X b mb)(hs:NoSl b)(hd:(x==("__debug__" : Str))=false:=by decide):DE X (.Subscript (.Name x p) b pos) (mTab tbl mb):=by
 intro pins s σ H Q I ⟨μ,g,σw,Qw,R,S,m,q⟩
 refine subD_of PySem.F.slot_dict_getitem.lookup hs (thn ((eU (v:=.ref a) hg hm rfl hd:PE X (.Name x p) (tC (.ref a))) pins s σ H (fun v H'=>v=.ref a∧H'=H) I ⟨rfl,rfl⟩) fun u s1 ⟨v1,H1,I1,rx,ev,eH⟩=>?_)
 subst ev eH
 obtain rfl:u=Value.ref a:=rx
 refine thn (hb pins s1 σ H1 _ I1 ⟨μ,g,σw,_,R,S,m,fun y H2 z=>z⟩) fun iv s2 ⟨y,H2,I2,ry,μ2,wy,h2,e2,R2,r2,z⟩=>?_
 obtain ⟨vs,kvv,dd,rel,rf⟩:=T.dict I2
 dsimp only at z
 split at z
 ·rename_i k ek
  split at z
  ·rename_i w ew
   cases wJ r2 ek
   obtain ⟨v,ev,rv⟩:=(rf H2 μ2).val ew
   obtain ⟨w',hw,rw'⟩:=tE.some_of (v:=v) (o:=valueAt vs k) (by rw [←ev];exact rel.val k)
   exact ⟨dd.typeIs,wpAny_getItem_of (Aj ry) dd.mapOf hw ⟨v,H2,I2.tok _,rw',q _ _ ⟨μ2,w,h2,e2,R2,rv,z⟩⟩⟩
  ·exact z.elim
 ·exact z.elim
end
end L2
namespace L2
open PySem PySem.Spec PyProof.Rows
section
variable {X:Cx}{pos p p':Pos}{x:Str}{a:Addr}{tbl:List (Key×W)}
end
end L2
namespace L2
open PySem PySem.Spec PyProof.Rows
section
variable {X:Cx}
end
end L2
namespace L2
open PySem PySem.Spec PyProof.Rows
section
variable {X:Cx}{K:PySem.W.Frag}{H:Hp}{μ : Mu}{h:Gh}
end
end L2
namespace L2
open PySem PySem.Spec PyProof.Rows
section
variable {X:Cx}{a b c:Expr}{ma mb mc:ME}{pos:Pos}
def j6 (r r':M2)(ma mb mc:ME):ME:=fun σ h Q=>ma σ h fun x h1=>mb σ h1 fun y h2=>r x y h2 fun z h3=>match z with
 | .bl true=>mc σ h3 fun u h4=>r' y u h4 Q
 | .bl false=>Q (.bl false) h3
 | _=>False
theorem vM {K:PySem.W.Frag}{σ : St}{H:Hp}{Q:VK}{r r':R2}{mr mr':M2}(s:Sim2 K r mr)(s':Sim2 K r' mr')(h:tD K (j6 mr mr' ma mb mc) σ H Q):tChain r r' (tD K ma) (tD K mb) (tD K mc) σ H Q:=by
 obtain ⟨μ,g,σw,Qw,R,S,m,q⟩:=h
 refine ⟨μ,g,σw,_,R,S,m,fun x H1 ⟨μ1,wx,h1,e1,R1,r1,m1⟩=>?_⟩
 refine ⟨μ1,h1,σw,_,R1,S.ext e1,m1,fun y H2 ⟨μ2,wy,h2,e2,R2,r2,m2⟩=>?_⟩
 refine s R2 (e2.r _ _ r1) r2 m2 fun z H3 ⟨μ3,wz,h3,e3,R3,r3,m3⟩=>?_
 cases wz with
 | bl k=>
  rw [Rep] at r3
  refine ⟨k,r3,?_⟩
  cases k with
  | true=>
   rw [if_pos rfl]
   refine ⟨μ3,h3,σw,_,R3,((S.ext e1).ext e2).ext e3,m3,fun u H4 ⟨μ4,wu,h4,e4,R4,r4,m4⟩=>?_⟩
   exact s' R4 (e4.r _ _ (e3.r _ _ r2)) r4 m4 fun v H' z=>q _ _ ((((z.trans e4).trans e3).trans e2).trans e1)
  | false=>
   rw [if_neg (by decide)]
   exact q _ _ ⟨μ3,.bl false,h3,(e1.trans e2).trans e3,R3,by rw [Rep],m3⟩
 | _=>exact (show False from m3).elim
theorem d_chain {op op':CmpOp}{mr mr':M2}(ho:DOp X (compareOp op) mr)(ho':DOp X (compareOp op') mr')(ha:DE X a ma)(hb:DE X b mb)(hc:DE X c mc)(hm:lastMarks [op,op'] [b,c]=false):DE X (.Compare a [op,op'] [b,c] pos) (j6 mr mr' ma mb mc):=by
 obtain ⟨r,o,s⟩:=ho
 obtain ⟨r',o',s'⟩:=ho'
 exact (pe_chain o o' ha hb hc hm).of fun σ H Q h=>vM s s' h
theorem vH {op op':CmpOp}{mr mr':M2}(ho:DOp X (compareOp op) mr)(ho':DOp X (compareOp op') mr')(ha:DE X a ma)(hb:DE X b mb)(hc:DE X c mc)(hm:lastMarks [op,op'] [b,c]=false):DT X (.Compare a [op,op'] [b,c] pos) (bx (j6 mr mr' ma mb mc)):=by
 obtain ⟨r,o,s⟩:=ho
 obtain ⟨r',o',s'⟩:=ho'
 exact (pt_chain o o' ha hb hc hm).of fun σ H Q h=>vM s s' (ug h)
end
end L2
namespace L2
open PySem PySem.Spec PyProof.Rows
def uo (f:Str)(w:W):List (Str×W)→List (Str×W)
 | []=>[(f,w)]
 | (g,x)::r=>if g=f then (g,w)::r else (g,x)::uo f w r
section
variable {K:PySem.W.Frag}{H:Hp}{μ : Mu}{fs:List (Str×W)}{fvs:List (Str×V)}{f:Str}{w:W}{v:V}
theorem jW.look (r:jW K H μ fs fvs)(e:fs.lookup f=some w):∃ v,fvs.lookup f=some v∧Rep K H μ w v:=by
 unfold jW at r
 induction r with
 | nil=>cases e
 | @cons p q ps qs h t ih=>
  obtain ⟨a,b⟩:=p
  obtain ⟨a',b'⟩:=q
  obtain ⟨h1,h2⟩:=h
  cases (show a=a' from h1)
  rw [List.lookup_cons] at e ⊢
  cases z:f==a with
  | true=>rw [z] at e;cases e;exact ⟨b',rfl,h2⟩
  | false=>rw [z] at e;exact ih e
theorem jW.lookN (r:jW K H μ fs fvs)(e:fs.lookup f=none):fvs.lookup f=none:=by
 unfold jW at r
 induction r with
 | nil=>rfl
 | @cons p q ps qs h t ih=>
  obtain ⟨a,b⟩:=p
  obtain ⟨a',b'⟩:=q
  obtain ⟨h1,h2⟩:=h
  cases (show a=a' from h1)
  rw [List.lookup_cons] at e ⊢
  cases z:f==a with
  | true=>rw [z] at e;cases e
  | false=>rw [z] at e;exact ih e
theorem jW.nJ (r:jW K H μ fs fvs)(rv:Rep K H μ w v):jW K H μ (uo f w fs) (L2.nJ f v fvs):=by
 unfold jW at r
 induction r with
 | nil=>exact .cons ⟨rfl,rv⟩ .nil
 | @cons p q ps qs h t ih=>
  obtain ⟨a,b⟩:=p
  obtain ⟨a',b'⟩:=q
  obtain ⟨h1,h2⟩:=h
  cases (show a=a' from h1)
  show Paired _ (if a=f then (a,w)::ps else (a,b)::uo f w ps) (if a=f then (a,v)::qs else (a,b')::L2.nJ f v qs)
  by_cases z:a=f
  ·rw [if_pos z,if_pos z];exact .cons ⟨rfl,rv⟩ t
  ·rw [if_neg z,if_neg z];exact .cons ⟨rfl,h2⟩ ih
theorem Rel.objAt {h:Gh}{n:Nat}{C:Addr}(R:Rel K μ H h)(e:h.c n=some (.obj C fs)):∃ p dx fvs,μ.f n=some p∧H p=some (.ins C dx fvs)∧jW K H μ fs fvs:=by
 obtain ⟨p,e1,dx,xs,e2,r⟩:=R.cel n _ e
 exact ⟨p,dx,xs,e1,e2,r⟩
def yR (C:Addr)(h:Gh)(w:W):Option (List (Str×W)):=match w with
 | .loc n=>(match h.c n with
  | some (.obj C' fs)=>if C'=C then some fs else none
  | _=>none)
 | _=>none
theorem lB {h:Gh}{C:Addr}(R:Rel K μ H h)(r:Rep K H μ w v)(e:yR C h w=some fs):∃ n p dx fvs,w=.loc n∧v=.ref p∧μ.f n=some p∧h.c n=some (.obj C fs)∧H p=some (.ins C dx fvs)∧jW K H μ fs fvs:=by
 unfold yR at e
 split at e
 ·rename_i n
  split at e
  ·rename_i C' fs' ec
   by_cases z:C'=C
   ·rw [if_pos z] at e
    cases e
    subst z
    obtain ⟨p,dx,fvs,hp,hx,rf⟩:=R.objAt ec
    rw [Rep] at r
    obtain ⟨p',e1,hp'⟩:=r
    have ep:p'=p:=by rw [hp] at hp';exact (Option.some.inj hp').symm
    subst ep
    exact ⟨n,p',dx,fvs,rfl,e1,hp',ec,hx,rf⟩
   ·rw [if_neg z] at e;cases e
  ·cases e
 ·cases e
end
section
variable {X:Cx}{e o value:Expr}{es:List Expr}{ma mo mv:ME}{mr:MA}{f:Str}{C:Addr}{pos pos' apos:Pos}
def zE (C:Addr)(f:Str)(ma:ME):ME:=fun σ h Q=>ma σ h fun x h1=>match yR C h1 x with
 | some fs=>(match fs.lookup f with
  | some w=>Q w h1
  | none=>False)
 | none=>False
theorem qC (c:Cls X.K C)(n:gP X.K C f)(he:DE X e ma)(hb:attributeBase e f X.env (eval e X.env)=eval e X.env:=by rfl):DE X (.Attribute e f pos) (zE C f ma):=
 (pe_fld he hb).of fun σ H Q ⟨μ,g,σw,Qw,R,S,m,q⟩=>by
  refine ⟨μ,g,σw,_,R,S,m,fun x H1 ⟨μ1,wx,h1,e1,R1,r1,m1⟩=>?_⟩
  dsimp only at m1
  split at m1
  ·rename_i fs ei
   split at m1
   ·rename_i w el
    obtain ⟨k,p,dx,fvs,ew,ev,hp,ec,hx,rf⟩:=lB R1 r1 ei
    obtain ⟨v,lv,rv⟩:=rf.look el
    exact ⟨p,C,dx,fvs,v,ev,hx,c,n,lv,q _ _ ⟨μ1,w,h1,e1,R1,rv,m1⟩⟩
   ·exact m1.elim
  ·exact m1.elim
def mFldS (C:Addr)(f:Str)(mv mo:ME):MS:=fun D σ h=>mv σ h fun y h1=>mo σ h1 fun x h2=>match x,yR C h2 x with
 | .loc n,some fs=>by2 (Nat.ble fs.length 900) (D.nx σ (h2.set n (.obj C (uo f y fs)))) False
 | _,_=>False
theorem ds_fld (c:Cls X.K C)(n:gP X.K C f)(ho:DE X o mo)(hv:DE X value mv)(hs:swapsWith value (some (.Attribute o f pos')) pos.line X.env=pure false:=by rfl):DS X (.Assign [.Attribute o f pos'] value pos) (mFldS C f mv mo):=
 fun pins s σ H D I ⟨μ,g,σw,Dw,R,S,m,k⟩=>by
  refine ps_fld ho hv hs pins s σ H D I ?_
  refine ⟨μ,g,σw,_,R,S,m,fun y H1 ⟨μ1,wy,h1,e1,R1,r1,m1⟩=>?_⟩
  refine ⟨μ1,h1,σw,_,R1,S.ext e1,m1,fun x H2 ⟨μ2,wx,h2,e2,R2,r2,m2⟩=>?_⟩
  dsimp only at m2
  split at m2
  ·rename_i j fs ei
   obtain ⟨j',p,dx,fvs,ew,ev,hp,ec,hx,rf⟩:=lB R2 r2 ei
   cases ew
   cases hb:Nat.ble fs.length 900 with
   | false=>rw [hb] at m2;exact (show False from m2).elim
   | true=>
    rw [hb] at m2
    have hl:fvs.length<1000:=by
     have h1:=Nat.le_of_ble_eq_true hb
     have h2:=Paired.length rf
     omega
    have ew:=(Ex.write (o:=.ins C dx (nJ f y fvs)) R2 hp).ext
    refine ⟨p,C,dx,fvs,ev,hx,c,n,hl,k.nx _ _ ⟨μ2,σw,_,(e1.trans e2).trans ew,R2.write (c:=.obj C (uo f wy fs)) hp trivial ⟨dx,_,aL,?_⟩,((S.ext e1).ext e2).ext ew,m2⟩⟩
    refine jW.nJ ?_ (ew.r _ _ (e2.r _ _ r1))
    exact Paired.mapP rf fun _ _ z=>⟨z.1,ew.r _ _ z.2⟩
  ·exact m2.elim
def lG (C:Addr)(m:Str)(ms:MSp)(E:XWK)(mo:ME)(mr:MA):ME:=fun σ h Q=>mo σ h fun x h1=>match yR C h1 x with
 | some fs=>(match fs.lookup m with
  | none=>mr σ h1 fun ws h2=>ms (x::ws) h2 Q E
  | some _=>False)
 | none=>False
theorem meth_of {K:PySem.W.Frag}{σ : St}{H:Hp}{Q:VK}{E:XK}{ms:MSp}{mo:ME}{mr:MA}{m:Str}(h:tD K (lG C m ms EF mo mr) σ H Q):tMeth C m (lift K ms) [] E (tD K mo) (tDA K mr) σ H Q:=by
 obtain ⟨μ,g,σw,Qw,R,S,mm,q⟩:=h
 refine ⟨μ,g,σw,_,R,S,mm,fun x H1 ⟨μ1,wx,h1,e1,R1,r1,m1⟩=>?_⟩
 dsimp only at m1
 split at m1
 ·rename_i fs ei
  split at m1
  ·rename_i el
   obtain ⟨j,p,dx,fvs,ew,ev,hp,ec,hx,rf⟩:=lB R1 r1 ei
   refine ⟨p,dx,fvs,ev,hx,rf.lookN el,μ1,h1,σw,_,R1,S.ext e1,m1,fun vs H2 ⟨μ2,ws,h2,e2,R2,r2,m2⟩=>?_⟩
   show lift K ms (x::(vs++[])) H2 Q E
   rw [List.append_nil]
   exact ⟨μ2,h2,wx::ws,Qw,R2,aJ.cons (e2.r _ _ r1) r2,m2,fun v H' z=>q _ _ ((z.trans e2).trans e1)⟩
  ·exact m1.elim
 ·exact m1.elim
theorem d_meth {pl:Sem Bool}{k:Nat}{f':Addr}{fd:FuncData}{ps:List Str}{ms:MSp}{m:Str}(he:DE X o mo)(c:Cls X.K C)(hm:Meth X.K C m f')(F:bT X.prog X.w X.K X.mg X.base CX0 k f' fd ps (lift X.K ms))(hr:eN k X.A)(hb:Binds X.K fd ps [])(ha:DAs X (e::es) mr)
  (hst:starEach (e::es) X.env=(false,eval e X.env)::starEach es X.env:=by rfl) (hpl:(backTo pos (starEach es X.env)).any (·.1)=false:=by rfl)
  (ht:eval (.Call (.Attribute o m apos) (e::es) [] pos) X.env=(do
   let ov ←eval o X.env
   standAt apos.atName
   let (f,first) ←holding [ov] (getMethod ov m pl)
   callWith pos f first (backTo pos (starEach (e::es) X.env)) (backToKw pos (keywordEach [] X.env))):=by rfl) :
  DE X (.Call (.Attribute o m apos) (e::es) [] pos) (lG C m ms EF mo mr):=(pe_meth (pl:=pl) he c hm F hr hb .nil zU ha hst hpl ht).of fun _ _ _ h=>meth_of h
theorem d_meth0 {pl:Sem Bool}{k:Nat}{f':Addr}{fd:FuncData}{ps:List Str}{ms:MSp}{m:Str}(he:DE X o mo)(c:Cls X.K C)(hm:Meth X.K C m f')(F:bT X.prog X.w X.K X.mg X.base CX0 k f' fd ps (lift X.K ms))(hr:eN k X.A)(hb:Binds X.K fd ps [])
  (ht:eval (.Call (.Attribute o m apos) [] [] pos) X.env=(do
   let ov ←eval o X.env
   standAt apos.atName
   let (f,first) ←holding [ov] (getMethod ov m pl)
   callWith pos f first (backTo pos (starEach [] X.env)) (backToKw pos (keywordEach [] X.env))):=by rfl) :
  DE X (.Call (.Attribute o m apos) [] [] pos) (lG C m ms EF mo aN):=(pe_meth0 (pl:=pl) he c hm F hr hb .nil zU ht).of fun σ H Q h=>by
 obtain ⟨μ,g,σw,Qw,R,S,mm,q⟩:=h
 refine ⟨μ,g,σw,_,R,S,mm,fun x H1 ⟨μ1,wx,h1,e1,R1,r1,m1⟩=>?_⟩
 dsimp only at m1
 split at m1
 ·rename_i fs ei
  split at m1
  ·rename_i el
   obtain ⟨j,p,dx,fvs,ew,ev,hp,ec,hx,rf⟩:=lB R1 r1 ei
   exact ⟨p,dx,fvs,ev,hx,rf.lookN el,μ1,h1,[wx],Qw,R1,aJ.cons r1 aJ.nil,m1,fun v H' z=>q _ _ (z.trans e1)⟩
  ·exact m1.elim
 ·exact m1.elim
def mMake (C:Addr)(ms:MSp)(E:XWK)(mr:MA):ME:=fun σ h Q=>mr σ h fun ws h1=>ms (.loc h1.nx::ws) (h1.new (.obj C [])) (fun v h2=>v=.non∧Q (.loc h1.nx) h2) E
theorem make_sp {K:PySem.W.Frag}{H1:Hp}{μ1:Mu}{h1:Gh}{Q:VK}{E:XK}{Qw:WK}{ms:MSp}{ws:List W}{vs:List V}{x dx:Addr}(R1:Rel K μ1 H1 h1)(r1:aJ K H1 μ1 ws vs)(m1:ms (.loc h1.nx::ws) (h1.new (.obj C [])) (fun v h2=>v=.non∧Qw (.loc h1.nx) h2) EF)
  (q:∀ v H',DQ K H1 μ1 Qw v H'→Q v H') (hx:H1 x=none) (hdx:H1 dx=none) (ne:dx≠x):lift K ms (.ref x::vs) (upd (upd H1 dx (.own x)) x (.ins C dx [])) (fun v H2=>v=.non∧Q (.ref x) H2) E:=by
 have Ra:Rel K μ1 (upd H1 dx (.own x)) h1:=R1.laid hdx
 have ea:Ext K H1 μ1 (upd H1 dx (.own x)) μ1:=(Ex.laid hdx).ext
 have hx':upd H1 dx (.own x) x=none:=by rw [aD (Ne.symm ne)];exact hx
 have Rb:Rel K (μ1.put h1.nx x) (upd (upd H1 dx (.own x)) x (.ins C dx [])) (h1.new (.obj C [])):=Ra.newCell hx' trivial ⟨dx,[],aL,.nil⟩
 have eb:=(Ex.newCell (o:=.ins C dx []) Ra hx').ext
 have rl:Rep K (upd (upd H1 dx (.own x)) x (.ins C dx [])) (μ1.put h1.nx x) (.loc h1.nx) (.ref x):=by rw [Rep];exact ⟨x,rfl,Mu.put_same⟩
 refine ⟨_,_,.loc h1.nx::ws,_,Rb,aJ.cons rl ((ea.trans eb).s r1),m1,fun v H' ⟨μ',w,h',e',R',rv,ew,z⟩=>?_⟩
 subst ew
 rw [Rep] at rv
 exact ⟨rv,q _ _ ⟨μ',.loc h1.nx,h',(ea.trans eb).trans e',R',e'.r _ _ rl,z⟩⟩
theorem d_make0 {k:Nat}{f':Addr}{fd:FuncData}{ps:List Str}{ms:MSp}{x:Str}{p:Pos}(M:Mk X.K C f')(F:bT X.prog X.w X.K X.mg X.base CX0 k f' fd ps (lift X.K ms))(hr:eN (k+1) X.A)(hg:Gl X x)(hm:X.mg x=some (.ref C))(hb:Binds X.K fd ps [])
  (hdb:(x==("__debug__" : Str))=false:=by decide):DE X (.Call (.Name x p) [] [] pos) (mMake C ms EF aN):=(pe_make0 M F hr hg hm hb .nil zU hdb).of fun σ H Q ⟨μ,g,σw,Qw,R,S,m,q⟩ y dx hy hdx ne=>
 make_sp R aJ.nil m q hy hdx ne
end
end L2
namespace L2
open PySem PySem.Spec PyProof.Rows
section
variable {prog:Program}{w:World}{A:Around}{E:Value→Shared→Prop}{s:Shared}
end
section
variable {X:Cx}
end
theorem Ae {tbl:List (Key×W)}{k:Key}:(nM tbl k).isSome=tbl.any fun kv=>decide (kv.1=k):=by
 unfold nM
 rw [Option.isSome_map,Bool.eq_iff_iff,List.find?_isSome,List.any_eq_true]
section
variable {X:Cx}{e:Expr}{me:ME}{x:Str}{a:Addr}{tbl:List (Key×W)}{p pos:Pos}
def m7 (tbl:List (Key×W))(me:ME):ME:=fun σ h Q=>me σ h fun y h1=>match wKey y with
 | some k=>Q (.bl (!(nM tbl k).isSome)) h1
 | none=>False
theorem pc_ninTab (T:TabK X.w X.K a tbl)(hg:Gl X x)(hm:X.mg x=some (.ref a))(he:DE X e me)(hd:(x==("__debug__" : Str))=false:=by decide):PC X .NotIn e (.Name x p) (tD X.K (m7 tbl me)):=by
 intro pins s σ H Q I ⟨μ,g,σw,Qw,R,S,m,q⟩
 refine thn (he pins s σ H _ I ⟨μ,g,σw,_,R,S,m,fun y H1 z=>z⟩) fun iv s1 ⟨y,H1,I1,ry,μ1,wy,h1,e1,R1,r1,z⟩=>?_
 refine thn ((eU (v:=.ref a) hg hm rfl hd:PE X (.Name x p) (tC (.ref a))) pins s1 σ H1 (fun v H'=>v=.ref a∧H'=H1) I1 ⟨rfl,rfl⟩) fun u s2 ⟨v2,H2,I2,rx,ev,eH⟩=>?_
 subst ev eH
 obtain rfl:u=Value.ref a:=rx
 obtain ⟨vs,kvv,dd,rel,rf⟩:=T.dict I2
 dsimp only at z
 split at z
 ·rename_i k ek
  cases wJ r1 ek
  refine wpAny_notIn_of (Aj ry) T.1 dd.mapOf ?_
  have ee:(valueAt vs k).isSome=(nM tbl k).isSome:=by
   rw [←(rel.val k).isSome_eq,←vf,Ae]
   exact ((rf H2 μ1).any k).symm
  rw [ee]
  exact ⟨.bl _,H2,I2.tok _,rfl,q _ _ ⟨μ1,.bl _,h1,e1,R1,by rw [Rep],z⟩⟩
 ·exact z.elim
theorem zB (T:TabK X.w X.K a tbl)(hg:Gl X x)(hm:X.mg x=some (.ref a))(he:DE X e me)(hk:behindInMarks .NotIn (.Name x p)=false)(hd:(x==("__debug__" : Str))=false:=by decide):DT X (.Compare e [.NotIn] [.Name x p] pos) (bx (m7 tbl me)):=
 (pt_cmp (pc_ninTab T hg hm he hd) hk).of fun σ H Q h=>ug h
end
end L2
namespace L2
open PySem PySem.Spec PyProof.Rows
section
variable {X:Cx}{Γ : St→Prop}{C:Addr}{o e:Expr}{es:List Expr}{mo:ME}{mr:MA}{pos apos:Pos}
theorem d_methX {pl:Sem Bool}{k:Nat}{f':Addr}{fd:FuncData}{ps:List Str}{ms:MSp}{m:Str}(he:DE X o mo)(c:Cls X.K C)(hm:Meth X.K C m f')(F:bT X.prog X.w X.K X.mg X.base (CXX X.prog X.w) k f' fd ps (pC X.K ms))(hr:eN k X.A)(hb:Binds X.K fd ps [])(ha:DAs X (e::es) mr)
  (hst:starEach (e::es) X.env=(false,eval e X.env)::starEach es X.env:=by rfl) (hpl:(backTo pos (starEach es X.env)).any (·.1)=false:=by rfl)
  (ht:eval (.Call (.Attribute o m apos) (e::es) [] pos) X.env=(do
   let ov ←eval o X.env
   standAt apos.atName
   let (f,first) ←holding [ov] (getMethod ov m pl)
   callWith pos f first (backTo pos (starEach (e::es) X.env)) (backToKw pos (keywordEach [] X.env))):=by rfl) :
  DEx X Γ (.Call (.Attribute o m apos) (e::es) [] pos) (fun E=>lG C m ms E mo mr):=by
 intro pins s σ H Q I ⟨hσ,μ,h,σw,Qw,E,R,S,mm,q,kx⟩
 refine PySem.W.methodCall_KW (pl:=pl) (thn (he pins s σ H (fun v H1=>DQ X.K H μ (fun x h1=>match yR C h1 x with
  | some fs=>(match fs.lookup m with
   | none=>mr σw h1 fun ws h2=>ms (x::ws) h2 Qw E
   | some _=>False)
  | none=>False) v H1) I ⟨μ,h,σw,_,R,S,mm,fun _ _ z=>z⟩) fun u s1 ⟨x,H1,I1,rx,μ1,wx,h1,e1,R1,r1,m1⟩=>?_) ht
 dsimp only at m1
 split at m1
 ·rename_i fs ei
  split at m1
  ·rename_i el
   obtain ⟨j,p,dx,fvs,ew,ev,hp,ec,hx,rf⟩:=lB R1 r1 ei
   subst ev
   obtain rfl:u=Value.ref p:=rx
   refine jE I1 hx c hm (rf.lookN el) ?_
   refine PySem.W.callWith_K (first:=[.ref p]) (h₀:=X.base) I.ok.mod.kin hm.kp (thn (ha pos pins s1 σ H1 (fun vs H2=>DA X.K H1 μ1 (fun ws h2=>ms (wx::ws) h2 Qw E) vs H2) I1 ⟨μ1,h1,σw,_,R1,S.ext e1,m1,fun _ _ z=>z⟩) fun us s2 ⟨vs,H2,I2,r,μ2,ws,h2,e2,R2,r2,m2⟩=>⟨I2.kIn,?_⟩) hst hpl
   have sp:pC X.K ms ((V.ref p::vs)++[]) H2 Q (fun Cv od H'=>∃ (C:Addr) (n:Str) (fs:List (Str×W)) (μ':Mu) (h':Gh),Cv=.ref C∧o9 X.K C n=true∧Ext X.K H2 μ2 H' μ'∧Rel X.K μ' H' h'∧XDat X.K H' μ' C n od fs∧E ⟨n,fs⟩ h'):=by
    rw [List.append_nil]
    exact ⟨μ2,h2,wx::ws,Qw,E,R2,aJ.cons (e2.r _ _ r1) r2,m2,fun v H' z=>q _ _ ((z.trans e2).trans e1),fun C n od fs H' hx ⟨μ',h',z⟩=>⟨C,n,fs,μ',h',rfl,hx,z⟩⟩
   have r3:Vals ((V.ref p::vs)++[]) ((Value.ref p::us)++[]):=Vals.append (show Vals (V.ref p::vs) (Value.ref p::us) from .cons rfl r) .nil
   have hl:((Value.ref p::us)++[]).length=ps.length:=by rw [←r3.length];exact F.len _ _ _ _ sp
   refine wpAny_call (codeAny_mono (F.run X.A X.stack s2 H2 ⟨Value.ref p::us,[]⟩ ((Value.ref p::us)++[]) ((V.ref p::vs)++[]) Q _ hr I2.env0 (hb s2 (Value.ref p::us) I2.kIn hl) r3 sp) fun r s' hq=>?_)
   cases r with
   | error ev=>
    obtain ⟨a,C,od,H',e2',F2,C',n,fs,μ',h',e3,hx,e4,R4,k4⟩:=I2.cxx (E:=fun Cv od H'=>∃ (C:Addr) (n:Str) (fs:List (Str×W)) (μ':Mu) (h':Gh),Cv=.ref C∧o9 X.K C n=true∧Ext X.K H2 μ2 H' μ'∧Rel X.K μ' H' h'∧XDat X.K H' μ' C n od fs∧E ⟨n,fs⟩ h') hq
    cases e3
    exact kx ev s' ⟨a,C,n,od,fs,pins,σ,H',μ',h',e2',F2.fx,hx,hσ,(e1.trans e2).trans e4,R4,k4⟩
   | ok fl=>
    cases fl with
    | ret u=>exact I2.after hq
    | next=>exact False.elim hq
    | brk=>exact False.elim hq
    | cont=>exact False.elim hq
  ·exact m1.elim
 ·exact m1.elim
end
end L2
namespace L2
open PySem PySem.Spec PyProof.Rows
section
variable {X:Cx}{pins:List (Addr×Obj)}{σ : St}{H:Hp}{s:Shared}{K:PySem.W.Frag}{μ : Mu}
end
section
variable {X:Cx}{a b o i:Expr}{ma mb:ME}{td ty:TE}{pos:Pos}
end
section
variable {prog:Program}{w:World}{A:Around}{E:Value→Shared→Prop}{s:Shared}
end
section
variable {X:Cx}
end
end L2
namespace L2
open PySem PySem.Spec PyProof.Rows
def ps (h:Int):Nat→Nat×Nat
 | 0=>(SetTable.bits h % 32,SetTable.bits h)
 | n+1=>SetTable.leap 31 (ps h n).1 (ps h n).2
def liv (o:Array (Option Nat)):List (Nat×Nat):=(List.range 32).filterMap fun j=>(o.getD j none).map (j,·)
structure Lay (o:Array (Option Nat)) (k:Nat):Prop where
 sz:o.size=32
 len:(liv o).length=k
 low:∀ p,p∈liv o→p.2<k
section
variable {prog:Program}{w:World}{A:Around}{E:Value→Shared→Prop}{s:Shared}{a:Addr}
end
end L2
namespace L2
open PySem PySem.Spec PyProof.Rows
section
variable {prog:Program}{w:World}{A:Around}{E:Value→Shared→Prop}{s:Shared}{m:Nat}{ka:Nat→List Int}{ad:Nat→Addr}{t:SetTable}{a b:Addr}{k:List Int}
end
end L2
namespace L2
open PySem PySem.Spec PyProof.Rows
section
variable {prog:Program}{w:World}{A:Around}{E:Value→Shared→Prop}{R:Result→Shared→Prop}
end
end L2
namespace L2
open PySem PySem.Spec PyProof.Rows
section
variable {prog:Program}{w:World}{A:Around}{E:Value→Shared→Prop}{s:Shared}
end
end L2
namespace L2
open PySem PySem.Spec PyProof.Rows
section
variable {X:Cx}{K:PySem.W.Frag}
end
end L2
namespace L2
open PySem PySem.Spec PyProof.Rows
section
variable {X:Cx}{K:PySem.W.Frag}{o e:Expr}{mo:ME}{apos cpos:Pos}
end
end L2
namespace L2
open PySem PySem.Spec PyProof.Rows
def vA:List Value→Bool
 | .ref _::r=>vA r
 | l=>l==[.type "ValueError",.type "Exception",.type "BaseException",.type "object"]
theorem refuse_ve (y:Value)(l:List Value):vA l=true→refuseLoop y "__setattr__" l=pure ():=by
 induction l with
 | nil=>intro e;cases e
 | cons v r ih=>
  intro e
  cases v with
  | ref c=>
   rw [refuseLoop_ref]
   exact ih e
  | _=>
   rw [eq_of_beq e]
   exact PySem.F.store_ValueError.passes y
theorem has_ve (l:List Value):vA l=true→l.contains (.type "object")=true:=by
 induction l with
 | nil=>intro e;cases e
 | cons v r ih=>
  intro e
  cases v with
  | ref c=>
   rw [List.contains_cons,ih e]
   exact Bool.or_true _
  | _=>
   rw [eq_of_beq e]
   decide +kernel
def xOver (K:PySem.W.Frag)(C:Addr):Bool:=(PySem.W.clsIn K C).any fun cd=>vA cd.mro
section
variable {prog:Program}{w:World}{A:Around}{s:Shared}{K:PySem.W.Frag}{x C:Addr}{R:Result→Shared→Prop}
set_option maxHeartbeats 4000000 in
theorem osa_x {oo:Obj}{dd:Option Obj}{nm:Str}{tok:Tok}{u:Value}(X:K.In s.heap)(I:PySem.W.InstAt s.heap x oo C dd)(hp:xOver K C=true)(ht:PySem.W.findIn K (.ref C) nm=some none)
  (h:wpAny (model prog w) A.in1 (PySem.Builtin.ObjectAttr.storeInOwnDict (.ref x) (.ref C) (.str nm tok) nm u false)
   (fun f1 s1=>match f1 with
    | .done y=>R (.ok y) s1
    | .again c1=>c1.quiet=true∧codeAny (model prog w) A c1 R s1) (fun e1 s1=>R (.error e1) s1) s) :
  codeAny (model prog w) A (.call (.builtin "object.__setattr__") ⟨[.ref x,.str nm tok,u],[]⟩) R s:=by
 obtain ⟨c0,hc,ho⟩:=PySem.W.any_some hp
 have emp:c0.mro.isEmpty=false:=by
  cases q:c0.mro with
  | nil=>rw [q] at ho;cases ho
  | cons _ _=>rfl
 have obj:PySem.W.mroIn K C (.type "object")=some true:=by
  unfold PySem.W.mroIn
  rw [hc,Option.bind_some,if_neg (by rw [emp];decide),has_ve _ ho]
 have isO:PySem.W.Looks (model prog w) s.heap (isInstance (.ref x) (.type "object")) true:=I.type.andThen (PySem.W.looks_mroIn X obj)
 refine codeAny_call_builtin PySem.F.store_object.slot.plain PySem.F.store_object.entry ?_
 refine PySem.W.check_slot (i := "object.__setattr__") (owner := "object") (n := "__setattr__") (self:=.ref x) (rest:=[.str nm tok,u]) (kw:=[]) PySem.F.store_object.kind PySem.F.store_object.split isO (PySem.F.store_object.args (.ref x) (.str nm tok) u) ?_
 have mro:PySem.W.Looks (model prog w) s.heap (mroOf (.ref C)) c0.mro:=(PySem.W.looks_clsIn X hc).andThen .now
 rw [PySem.W.osa_eq,refuse_eq]
 refine wpAny_bind (wpAny_bind (I.type.here (wpAny_bind (mro.here ?_))))
 rw [refuse_ve _ _ ho]
 refine wpAny_pure (wpAny_bind (I.type.here (wpAny_bind ((PySem.W.looks_findIn X ht).here (wpAny_bind ?_)))))
 exact wpAny_pure h
end
end L2
namespace L2
open PySem PySem.Spec PyProof.Rows
section
variable {prog:Program}{w:World}{A:Around}{E:Value→Shared→Prop}{s:Shared}{K:PySem.W.Frag}{x dx C f:Addr}{mA:Str→Option Value}{name:Str}{v:Value}
theorem set_exc {fs:Array Value}{sl:Array (Option Value)}{Q:Unit→Shared→Prop}(X:K.In s.heap)(hx:s.heap.get? x=some ⟨.ref C,none,.fields fs,sl⟩)
  (hs:PySem.W.findIn K (.ref C) "__setattr__" = some (some (.builtin "object.__setattr__"))) (hp:xOver K C=true) (ht:PySem.W.findIn K (.ref C) name=some none) (hh:PySem.W.hasDictIn K C=true)
  (h:∀ h',h'.get? x=some ⟨.ref C,some s.heap.objs.size,.fields fs,sl⟩→h'.Ns1 s.heap.objs.size (fun y=>if y=name then some v else none)→(∀ b o,b≠x→s.heap.get? b=some o→h'.get? b=some o)→Q () { s with heap:=h',toks:=s.toks+2 }) :
  wpAny (model prog w) A (setAttr (.ref x) name v) Q E s:=by
 have J:PySem.W.InstAt s.heap x ⟨.ref C,none,.fields fs,sl⟩ C none:=⟨hx,rfl,rfl,trivial⟩
 refine PySem.W.set_plain X J hs (osa_x (s:={ s with toks:=s.toks+1 }) X J hp ht ?_)
 obtain ⟨cd,hc,hd'⟩:=PySem.W.any_some hh
 refine wpAny_bind (wpAny_pure (wpAny_bind (wpAny_bind (wpAny_loadPart hx (wpAny_bind (PySem.W.Looks.here (s:={ s with toks:=s.toks+1 }) (PySem.W.looks_clsIn X hc) ?_))))))
 rw [hd']
 obtain ⟨hp',g,d,t,os⟩:=s
 refine wpAny_bind (wpAny_alloc' ?_)
 have hxl:x<hp'.objs.size:=Heap.lt_size hx
 have hx1:(hp'.push { cls:=.type "dict",data:=.dict #[] }).get? x=some ⟨.ref C,none,.fields fs,sl⟩:=Heap.get?_push_of_some _ hx
 have hD:(hp'.push { cls:=.type "dict",data:=.dict #[] }).get? hp'.objs.size=some { cls:=.type "dict",data:=.dict #[] }:=Heap.get?_push_size _ rfl
 refine wpAny_bind (wpAny_update' hx1 ?_)
 refine wpAny_pure ?_
 show wpAny _ _ (Builtin.ObjectAttr.storeInDict hp'.objs.size (Value.str name t) name v) _ _ _
 have hne:hp'.objs.size≠x:=Nat.ne_of_gt hxl
 generalize eh:(hp'.push { cls:=.type "dict",data:=.dict #[] }).update x (fun o=>{ o with dict:=some hp'.objs.size })=hu
 have hX:hu.get? x=some ⟨.ref C,some hp'.objs.size,.fields fs,sl⟩:=by rw [←eh];exact Heap.get?_update_self _ hx1 rfl
 have hN:hu.Ns1 hp'.objs.size (fun _=>none):=by
  refine ⟨{ cls:=.type "dict",data:=.dict #[] },#[],_,?_,rfl,(fun e he=>absurd he (by simp)),?_,fun _=>rfl⟩
  ·rw [←eh,Heap.get?_update_other _ _ (Ne.symm hne)];exact hD
  ·unfold UniqKeys;simp
 have kp:∀ b o,b≠x→hp'.get? b=some o→hu.get? b=some o:=fun b o hb e=>by rw [←eh,Heap.get?_update_other _ _ (Ne.symm hb)];exact Heap.get?_push_of_some _ e
 refine wpAny_bind (wpAny_pure (wpAny_bind ?_))
 refine wpAny_nsSet1 (s:=⟨hu,g,d,t+1,os⟩) hN fun h' hn2 hs2=>?_
 obtain ⟨oD,esD,epD,hoD,hdD,hcD⟩:=hn2.count (PySem.Within.cons name v (show PySem.Within (fun _=>none) [] from fun _ z=>absurd rfl z))
 refine wpAny_bind (wpAny_lookBehind hoD (by rw [hdD];exact pastItsLine_dict (Nat.le_trans hcD (by simp [sizeLine_eq]))) ?_)
 exact wpAny_pure (h h' ((hs2.2 x (Ne.symm hne)).trans hX) hn2 fun b o hb e=>by
  by_cases hbd:b=hp'.objs.size
  ·rw [hbd] at e;exact absurd (Heap.lt_size e) (Nat.lt_irrefl _)
  ·exact (hs2.2 b hbd).trans (kp b o hb e))
end
section
variable {prog:Program}{w:World}{A:Around}{E:Value→Shared→Prop}{s:Shared}{K:PySem.W.Frag}{x D:Addr}{ox:Obj}
theorem exc_attr {Q:Value→Shared→Prop}{od:Option Obj}{name:Str}{v:Value}{expr:Bool}(X:K.In s.heap)(I:PySem.W.InstAt s.heap x ox D od)(hga:PySem.W.findIn K (.ref D) "__getattribute__" = some (some (.builtin "BaseException.__getattribute__")))(hk:PySem.W.findIn K (.ref D) "__getattr__" = some none)
  (hf:PySem.W.findObj K D od name=some (.value v)) (hh:PySem.W.handedIn v=true) (hB:PySem.W.mroIn K D (.type "BaseException")=some true)
  (h:Q v { s with toks:=s.toks+1 }):wpAny (model prog w) A (getAttr (.ref x) name expr) Q E s:=by
 obtain ⟨hp,g,d,t,os⟩:=s
 have L0:=I.type (M:=model prog w)
 have L1:=PySem.W.looks_findIn (M:=model prog w) X hga
 have L2:=PySem.W.looks_findIn (M:=model prog w) X hk
 have L3:=PySem.W.looks_find (M:=model prog w) X I hf
 have L4:=PySem.W.looks_mroIn (M:=model prog w) X hB
 unfold getAttr getAttrBy
 refine wpAny_bind (wpAny_mkText (wpAny_holding (wpAny_bind (PySem.W.Looks.at L0 (wpAny_bind (PySem.W.Looks.at L1 ?_))))))
 show wpAny _ _ (if (onTheHeap (Value.ref D)&&(Value.builtin "BaseException.__getattribute__"==Value.builtin "object.__getattribute__"))=true then _ else getAttrByItsOwn _ _ _ _ _ _) _ _ _
 have hx2:(Value.builtin "BaseException.__getattribute__"==Value.builtin "object.__getattribute__")=false:=by decide +kernel
 rw [hx2,Bool.and_false,if_neg Bool.false_ne_true]
 unfold getAttrByItsOwn
 refine wpAny_bind (show wpAny _ _ (typeLookup (Value.ref D) "__getattr__") _ _ _ from PySem.W.Looks.at L2 ?_)
 refine wpAny_bind (wpAny_attempt (wpAny_holding ?_))
 unfold callGetattribute
 rw [show onTheHeap (Value.builtin "BaseException.__getattribute__")=false from rfl,Bool.and_false,if_neg Bool.false_ne_true]
 unfold boundAndCalled
 rw [PySem.F.attrBase_ValueError.ga.bind (.ref x)]
 refine wpAny_bind (wpAny_pure ?_)
 dsimp only
 refine wpAny_call (codeAny_call_builtin PySem.F.attrBase_ValueError.ga.plain F.entry_bexc_ga ?_)
 have hk:builtinKind "BaseException.__getattribute__" = some .slot:=by decide +kernel
 have hsplit:splitId "BaseException.__getattribute__" = some ("BaseException", "__getattribute__"):=by decide +kernel
 have ha:=F.args_bexc_ga (.ref x) (.str name t)
 simp only [checkBuiltinCall,hk,hsplit]
 show wpAny (model prog w) A.in1 (isInstance (Value.ref x) (Value.type "BaseException") >>= _) _ _ _
 refine wpAny_bind ?_
 unfold isInstance
 refine wpAny_bind (PySem.W.Looks.at L0 (PySem.W.Looks.at L4 ?_))
 rw [if_neg (by decide)]
 change wpAny (model prog w) A.in1 (match Manifest.signature? "BaseException.__getattribute__" with
  | some sig=>Bind.checkArgs "BaseException.__getattribute__" sig ⟨[Value.ref x,Value.str name t],[]⟩
  | x=>pure ()) _ _ _
 repeat (any_goals (first | assumption | (with_reducible refine wpAny_loadPart_at I.at_ ?_;rw [I.cls]) | with_reducible refine PySem.W.Looks.at L3 ?_ | wp_step))
 show wpAny _ _ (handedOut v) _ _ _
 rw [PySem.W.handedOut_of hh]
 exact wpAny_pure h
end
end L2
namespace L2
open PySem PySem.Spec PyProof.Rows
section
variable {prog:Program}{w:World}{A:Around}{E:Value→Shared→Prop}{h:Heap}{g:Array GenState}{d:Drawn}{t:Nat}{os:OsState}
variable {nm q:Str}{C N:Addr}{bs bm bmB:List Value}{hdct:Bool}{sn:List Str}{sub:List Value}{ab:Bool}{col:Option Bool}{dd:Option Addr}{k0 k1 k2 k3 k5:Option Value}{B newId initId:String}{K:PySem.W.Frag}{f:Addr}
abbrev exo (C:Addr)(a:Addr):Obj:={ cls:=.ref C,data:=.fields #[.ref a,.none,.none,.none,.bool false,.none] }
theorem nU (F:ExcBaseFacts B newId initId bmB)(T:OwnTail h bmB bm){mN:Str→Option Value}{rest:List Value}{Q:Fin→Shared→Prop}(X:K.In h)(hfn:PySem.W.typeIn K (.ref f)=some (.type "function"))
  (c0:h.get? C=some (excClassObj nm q C N bs bm hdct sn sub ab col dd k0 k1 k2 k3 k5 newId)) (n0:h.Ns N mN) (hi:mN "__init__" = some (.ref f))
  (hq:wpAny (model prog w) A (call (.ref f) (.ref (h.objs.size+1)::rest)) (fun r s'=>r=.none∧Q (.done (.ret (.ref (h.objs.size+1)))) s') E ⟨(h.push { cls:=.type "tuple",data:=.seq rest.toArray }).push (exo C h.objs.size),g,d,t,os⟩) (few:rest.length≤sizeLine) :
  wpAny (model prog w) A (Builtin.«type.__call__» ⟨.ref C::rest,[]⟩) Q E ⟨h,g,d,t,os⟩:=by
 have up:∀ b o,h.get? b=some o→((h.push { cls:=.type "tuple",data:=.seq rest.toArray }).push (exo C h.objs.size)).get? b=some o:=fun b o z=>Heap.get?_push_of_some _ (Heap.get?_push_of_some _ z)
 have c1:=up _ _ c0
 have n1:=n0.keeps up
 have T1:=T.keeps up
 have X1:K.In ((h.push { cls:=.type "tuple",data:=.seq rest.toArray }).push (exo C h.objs.size)):=fun a o z=>up a o (X a o z)
 have self:((h.push { cls:=.type "tuple",data:=.seq rest.toArray }).push (exo C h.objs.size)).get? (h.objs.size+1)=some (exo C h.objs.size):=by heap_get
 have own:(Value.ref C::bm).contains (.ref C)=true:=by rw [List.contains_cons];simp
 repeat (first | wp_step | (with_reducible refine wpAny_madeBy_exc c0 ?_) | (with_reducible refine wpAny_loadPart_at c0 ?_))
 refine codeAny_call_builtin_code (Code.quiet_builtin _ F.quiet) (wpAny_check_new_subT F T c0 (codeAny_exc_new_subT F T c0 ?_ few))
 show wpAny _ _ _ _ _ _
 unfold isInstance
 repeat (first | wp_step | (with_reducible refine wpAny_loadPart_at self ?_) | (with_reducible refine wpAny_isSubtype_exc c1 ?_;rw [own]))
 refine (show wpAny _ _ (typeLookup (.ref C) _) _ _ _ from wpAny_typeLookup_tail c1 n1 T1 F.mroIs F.init.lookup ?_)
 rw [hi]
 refine wpAny_holding (wpAny_bind (PySem.W.Looks.here (s:=⟨_,g,d,t,os⟩) (PySem.W.bind_fn X1 (.ref (h.objs.size+1)) hfn) ?_))
 refine wpAny_bind (wpAny_mono hq (fun r s' z=>?_) fun _ _ z=>z)
 rw [z.1]
 exact wpAny_pure (show wpAny _ _ (ret (Value.ref (h.objs.size+1))) _ _ _ from wpAny_pure z.2)
theorem pJ (F:ExcBaseFacts B newId initId bmB)(T:OwnTail h bmB bm){mN:Str→Option Value}{rest:List Value}{Q:Value→Shared→Prop}(X:K.In h)(hfn:PySem.W.typeIn K (.ref f)=some (.type "function"))
  (c0:h.get? C=some (excClassObj nm q C N bs bm hdct sn sub ab col dd k0 k1 k2 k3 k5 newId)) (n0:h.Ns N mN) (hi:mN "__init__" = some (.ref f))
  (hq:wpAny (model prog w) (A.under (.builtin "type.__call__" ⟨.ref C::rest,[]⟩)) (call (.ref f) (.ref (h.objs.size+1)::rest)) (fun r s'=>r=.none∧Q (.ref (h.objs.size+1)) s') E ⟨(h.push { cls:=.type "tuple",data:=.seq rest.toArray }).push (exo C h.objs.size),g,d,t,os⟩) (few:rest.length≤sizeLine) :
  wpAny (model prog w) A (call (.ref C) rest) Q E ⟨h,g,d,t,os⟩:=by
 have y1:Shared.TypeIs ⟨h,g,d,t,os⟩ (.ref C) "type":=⟨_,c0,rfl⟩
 have y2:=tc_bind (.ref C)
 have y3:=tc_lookup
 refine wpAny_call (codeAny_of_tree (show wpAny _ _ (callAny (.ref C) _) _ _ _ from ?_))
 repeat (any_goals (first | (with_reducible refine wpAny_loadPart_at c0 ?_) | assumption | wp_step))
 exact ⟨rfl,codeAny_call_builtin_at (Code.quiet_builtin _ (by decide +kernel)) entry_typeCall (wpAny_check_type_call_sub c0 (nU F T X hfn c0 n0 hi hq few))⟩
end
end L2
namespace L2
open PySem PySem.Spec PyProof.Rows
section
variable {prog:Program}{w:World}{M:Model}{A:Around}{E:Value→Shared→Prop}{s:Shared}{env:Env}{K:PySem.W.Frag}{f:Addr}
variable {nm q:Str}{C N:Addr}{bs bm bmB:List Value}{hdct:Bool}{sn:List Str}{sub:List Value}{ab:Bool}{col:Option Bool}{dd:Option Addr}{k0 k1 k2 k3 k5:Option Value}{B newId initId:String}
theorem nC {x:Sem Value}{Q:Flow→Shared→Prop}(hb:bm.contains (.type "BaseException")=true)(hh:A.handled=none)
  (h:wpAny M A x (fun v s₁=>∃ e t od,v=.ref e∧s₁.heap.get? C=some (excClassObj nm q C N bs bm hdct sn sub ab col dd k0 k1 k2 k3 k5 newId)∧s₁.heap.get? e=some { exo C t with dict:=od }∧E (.ref e) s₁) E s):wpAny M A (raiseStmt env (some x) none) Q E s:=by
 have isB:(Value.ref C::bm).contains (.type "BaseException")=true:=by rw [List.contains_cons,hb];simp
 unfold raiseStmt
 refine wpAny_bind (wpAny_mono h (fun v s₁ ⟨e,t,od,ev,hC,he,z⟩=>?_) fun _ _ z=>z)
 subst ev
 obtain ⟨h1,g1,d1,t1,o1⟩:=s₁
 repeat (first | wp_step | (with_reducible refine wpAny_loadPart_at he ?_) | (with_reducible refine wpAny_loadPart_at hC ?_) | (with_reducible refine wpAny_isSubtype_exc hC ?_;rw [isB]))
 exact wpAny_raiseNew_none hh z
theorem wV (F:ExcBaseFacts B newId initId bmB){mN:Str→Option Value}{x:Str}{np cpos pos:Pos}{args:List Expr}{Q:Flow→Shared→Prop}
  (hb:bm.contains (.type "BaseException")=true) (hh:A.handled=none) (hpl:(backTo cpos (starEach args env)).any (·.1)=false) (hfn:PySem.W.typeIn K (.ref f)=some (.type "function")) (hi:mN "__init__" = some (.ref f))
  (h:wpAny (model prog w) A (eval (.Name x np) env) (fun fv s₁=>fv=.ref C∧wpAny (model prog w) A (evalArgs (.ref C) true (backTo cpos (starEach args env)) [])
   (fun a s₂=>(a.kw=[]∧a.pos.length≤sizeLine∧K.In s₂.heap)∧(s₂.heap.get? C=some (excClassObj nm q C N bs bm hdct sn sub ab col dd k0 k1 k2 k3 k5 newId)∧s₂.heap.Ns N mN∧OwnTail s₂.heap bmB bm) ∧
    wpAny (model prog w) (A.under (.builtin "type.__call__" ⟨.ref C::a.pos,[]⟩)) (call (.ref f) (.ref (s₂.heap.objs.size+1)::a.pos)) (fun r s₃=>r=.none∧∃ od,s₃.heap.get? C=some (excClassObj nm q C N bs bm hdct sn sub ab col dd k0 k1 k2 k3 k5 newId)∧s₃.heap.get? (s₂.heap.objs.size+1)=some { exo C s₂.heap.objs.size with dict:=od }∧E (.ref (s₂.heap.objs.size+1)) s₃) E
     { s₂ with heap:=(s₂.heap.push { cls:=.type "tuple",data:=.seq a.pos.toArray }).push (exo C s₂.heap.objs.size) }) E s₁) E s) :
  wpAny (model prog w) A (exec (.Raise (some (.Call (.Name x np) args [] cpos)) none pos) env) Q E s:=by
 rw [arm_exec_Raise]
 refine wpAny_bind (wpAny_standAt (nC (nm:=nm) (q:=q) (C:=C) (N:=N) (bs:=bs) (bm:=bm) (hdct:=hdct) (sn:=sn) (sub:=sub) (ab:=ab) (col:=col) (dd:=dd) (k0:=k0) (k1:=k1) (k2:=k2) (k3:=k3) (k5:=k5) (newId:=newId) hb hh ?_))
 refine wpAny_bind (wpAny_mono (wpAny_Call_ofName (wpAny_mono h (fun fv s₁ ⟨ef,h₁⟩=>?_) fun _ _ z=>z)) (fun v s₃ h₃=>wpAny_bind (wpAny_standAt (wpAny_pure h₃))) fun _ _ z=>z)
 subst ef
 unfold callWith
 refine wpAny_bind (wpAny_holding (wpAny_mono h₁ (fun a s₂ ⟨⟨ek,few,X⟩,⟨hC,hn,T⟩,h₂⟩=>wpAny_bind (wpAny_standAt ?_)) fun _ _ z=>z))
 obtain ⟨ap,ak⟩:=a
 cases (show ak=[] from ek)
 obtain ⟨h2,g2,d2,t2,o2⟩:=s₂
 simp only [hpl]
 refine wpAny_bind (wpAny_keeperOf_exc hC (wpAny_bind (pJ F T X hfn hC hn hi (wpAny_mono h₂ (fun r s₃ hr=>⟨hr.1,?_⟩) fun _ _ z=>z) few)))
 obtain ⟨_,od,z1,z2,z3⟩:=hr
 exact wpAny_bind (wpAny_holding (wpAny_point (wpAny_pure ⟨_,_,od,rfl,z1,z2,z3⟩)))
end
theorem ns_some {K:PySem.W.Frag}{h:Heap}{N:Addr}{m:Str→Option Value}{n:Str}{v:Value}(X:K.In h)(G:h.Ns N m)(e:PySem.W.nsIn K N n=some (some v)):m n=some v:=by
 obtain ⟨o,es,ep,ho,hd,_,hf⟩:=G
 unfold PySem.W.nsIn at e
 split at e
 ·rename_i z
  have y:=X _ _ z
  rw [ho] at y
  cases y
  cases hd
  split at e
  ·rename_i he
   cases e
   have:=hf n
   unfold nsFind findBy at this
   rw [←Array.find?_toList,he] at this
   exact this.symm
  ·split at e <;> cases e
 ·cases e
def xJ (K:PySem.W.Frag)(C fi:Addr)(bmB:List Value)(newId:String):Bool:=match K.lookup C with
 | some ⟨.type "type",_,.cls cd,sl⟩=>(match cd.mro,sl.toList with
  | .ref C'::bm,[_,_,_,_,some (.builtin n),_]=>C'==C&&n==newId&&!cd.hasDel&&PySem.W.tailIn K bmB bm&&PySem.W.nsOkIn K cd.ns&&PySem.W.nsIn K cd.ns "__init__"==some (some (.ref fi))
  | _,_=>false)
 | _=>false
theorem exi_obj {K:PySem.W.Frag}{h:Heap}{C fi:Addr}{bm:List Value}{newId:String}(X:K.In h)(q:xJ K C fi bm newId=true) :
  ∃ (tl:List Value) (N:Addr) (nm qn:Str) (bs:List Value) (hd:Bool) (sn:List Str) (sub:List Value) (ab:Bool) (col:Option Bool) (dd:Option Addr) (k0 k1 k2 k3 k5:Option Value) (mN:Str→Option Value),
   K.lookup C=some (excClassObj nm qn C N bs tl hd sn sub ab col dd k0 k1 k2 k3 k5 newId)∧h.Ns N mN∧mN "__init__" = some (.ref fi)∧OwnTail h bm tl:=by
 unfold xJ at q
 split at q
 ·rename_i dd cd sl ho
  split at q
  ·rename_i C' bm' k0 k1 k2 k3 n k5 hm hs
   simp only [Bool.and_eq_true,beq_iff_eq,Bool.not_eq_true'] at q
   obtain ⟨⟨⟨⟨⟨rfl,rfl⟩,hdel⟩,ht⟩,hok⟩,hni⟩:=q
   obtain ⟨nm,bs,mro,ns,qn,hd,sn,sub,ab,col,del⟩:=cd
   dsimp only at hm hdel hok hni
   subst hm hdel
   have hsl:sl = #[k0,k1,k2,k3,some (.builtin n),k5]:=by
    obtain ⟨l⟩:=sl
    simp only at hs
    rw [hs]
   subst hsl
   exact ⟨bm',ns,nm,qn,bs,hd,sn,sub,ab,col,dd,k0,k1,k2,k3,k5,_,ho,.of_isNs (PySem.W.isNs_of_in X hok),ns_some X (.of_isNs (PySem.W.isNs_of_in X hok)) hni,PySem.W.tail_of_in X ht⟩
  ·cases q
 ·cases q
end L2
namespace L2
open PySem PySem.Spec PyProof.Rows
def exN (e C a:Addr):HO:=.ext fun h=>h.get? e=some (exo C a)
def exD (e C a dx:Addr):HO:=.ext fun h=>h.get? e=some { exo C a with dict:=some dx }
def xsIn (K:PySem.W.Frag)(C:Addr)(f:Str):Bool:=PySem.W.findIn K (.ref C) "__setattr__"==some (some (.builtin "object.__setattr__"))&&xOver K C&&PySem.W.findIn K (.ref C) f==some none&&PySem.W.hasDictIn K C
def sXset (C:Addr)(f:Str)(ta tv:TE):TS:=fun D σ H=>tv σ H fun y H1=>ta σ H1 fun x H2=>∃ e a,x=.ref e∧H2 e=some (exN e C a)∧∀ dx,H2 dx=none→dx≠e→D.nx σ (upd (upd H2 dx (.xd [(f,y)])) e (exD e C a dx))
section
variable {X:Cx}{o value:Expr}{f:Str}{C:Addr}{pos pos':Pos}{ta tv:TE}
theorem ps_xset (hx:xsIn X.K C f=true)(ha:PE X o ta)(hv:PE X value tv)(hs:swapsWith value (some (.Attribute o f pos')) pos.line X.env=pure false:=by rfl):PS X (.Assign [.Attribute o f pos'] value pos) (sXset C f ta tv):=by
 unfold xsIn at hx
 simp only [Bool.and_eq_true,beq_iff_eq] at hx
 obtain ⟨⟨⟨x1,x2⟩,x3⟩,x4⟩:=hx
 intro pins s σ H D I h
 refine plainObj_wpAny_Assign_Attribute (thn (hv pins s σ H _ I h) fun u s1 ⟨y,H1,I1,ry,q⟩=>thn (ha pins s1 σ H1 _ I1 q) fun ov s2 ⟨x,H2,I2,rx,e,a,ex,ee,q2⟩=>?_) hs
 subst ex
 obtain rfl:ov=Value.ref e:=rx
 have ho:s2.heap.get? e=some (exo C a):=(I2.hok e _ ee).1
 have hlt:=Heap.lt_size ho
 have ne:s2.heap.objs.size≠e:=Nat.ne_of_gt hlt
 refine set_exc I2.kIn ho x1 x2 x3 x4 fun h' hX hN kp=>⟨σ,_,?_,q2 s2.heap.objs.size (I2.hok.fresh (Nat.le_refl _)) ne⟩
 have hd:∃ od,h'.get? s2.heap.objs.size=some od:=let ⟨od,_,_,z,_⟩:=hN;⟨od,z⟩
 -- the heap but for e
 have m1:(h'.update e fun _=>exo C a).get? e=some (exo C a):=Heap.get?_update_self _ hX rfl
 have m2:∀ b,b≠e→(h'.update e fun _=>exo C a).get? b=h'.get? b:=fun b hb=>Heap.get?_update_other _ _ (Ne.symm hb)
 have Ia:Inv X pins σ (upd H2 s2.heap.objs.size (.xd [(f,y)])) { s2 with heap:=h'.update e fun _=>exo C a,toks:=s2.toks+2 }:=by
  refine I2.laid (fun b z hz=>?_) (Nat.le_refl _) ⟨_,hN.at (fun od z=>by rw [m2 _ ne];exact z),fun g=>?_⟩
  ·by_cases hb:b=e
   ·subst hb
    rw [ho] at hz
    rw [m1];exact hz
   ·rw [m2 b hb];exact kp b z hb hz
  ·show tE (List.lookup g [(f,y)]) (if g=f then some u else none)
   rw [List.lookup_cons]
   by_cases hg:g=f
   ·subst hg
    rw [if_pos rfl,beq_self_eq_true]
    exact ry
   ·rw [if_neg hg,show (g==f)=false from by simpa using hg]
    trivial
 exact Ia.write (x:=e) (e:=e) (by rw [aD (Ne.symm ne),ee];exact True.intro) (.inl rfl) (fun b z hb hz=>by rw [←m2 b hb];exact hz) ⟨_,hX⟩ ⟨hX,⟨_,hX⟩,fun h1 h2 z k=>k _ z⟩
end
def spI (C:Addr)(f:Str):Sp:=fun vs H Q _=>∃ e a v,vs=[.ref e,v]∧H e=some (exN e C a)∧∀ dx,H dx=none→dx≠e→Q .non (upd (upd H dx (.xd [(f,v)])) e (exD e C a dx))
theorem init_fn {P:Program}{w:World}{K:PySem.W.Frag}{mg:Str→Option Value}{base:Heap}{x qual:Str}{st:Stmt}{fi:Addr}{fd:FuncData}{n1 n2 f:Str}{C:Addr}{k:Nat}(F:Fun K x qual st fi fd)(S:aP [n1,n2] [n1,n2] (aH st))
  (hb:∀ (cdv:Value) (A:Around) (outer:List Env) (s:Shared) (H:Hp) (E:XK),eN k (A.deeper (envOfC qual (aH st) s.heap.objs.size fi cdv)) →
   PSs (cxOf CX0 P w K mg base [n1,n2] qual (aH st) fi cdv A outer s H E).nox (dW st) (sXset C f (tVar 0) (tVar 1))):bT P w K mg base CX0 (k+1) fi fd [n1,n2] (spI C f):=by
 refine F.ok S (fun vs H Q E ⟨e,a,v,ev,_⟩=>by rw [ev];rfl) fun cdv A outer s H vs Q E hr ⟨e,a,v,ev,he,q⟩=>?_
 subst ev
 exact ⟨_,hb cdv A outer s H E hr,v,rfl,.ref e,rfl,e,a,rfl,he,q⟩
def forget (H:Hp)(e:Addr):Hp:=fun b=>if b=e then none else H b
theorem dg {H:Hp}{e:Addr}:forget H e e=none:=by unfold forget;rw [if_pos rfl]
theorem bM {H:Hp}{e b:Addr}(h:b≠e):forget H e b=H b:=by unfold forget;rw [if_neg h]
section
variable {X:Cx}{pins:List (Addr×Obj)}{σ : St}{H:Hp}{s:Shared}{e:Addr}
theorem Inv.forget {φ : Heap→Prop}{σ0:St}{H0:Hp}{t0:Shared}(I:Inv X pins σ H s)(he:H e=some (.ext φ))(I0:Inv X pins σ0 H0 t0)(h0:H0 e=none)(s0:X.s₀.heap.get? e=none):Inv X pins σ (L2.forget H e) s:=by
 have ne:∀ b ob,X.s₀.heap.get? b=some ob→b≠e:=fun b ob z y=>by rw [y,s0] at z;cases z
 have n0:∀ b u,H0 b=some u→b≠e:=fun b u z y=>by rw [y,h0] at z;cases z
 refine ⟨I.ok,I.os,I.bare,⟨I.base.keep,I.base.slot,fun b ob z y hx=>?_,I.base.there,fun b xs z=>?_,fun b ob v z=>?_,fun b ps z=>?_⟩,I.loc,I.cell,?_,fun x c z=>?_,fun p hp=>?_,fun b v z=>?_,I.len⟩
 ·rw [bM (ne b ob z)];exact I.base.free b ob z y hx
 ·rw [bM (n0 b _ (I0.base.tups b xs z))];exact I.base.tups b xs z
 ·rw [bM (n0 b _ (I0.base.frzs b ob v z))];exact I.base.frzs b ob v z
 ·obtain ⟨_,q⟩:=I0.base.tbls b ps z
  rw [bM (n0 b _ q)];exact I.base.tbls b ps z
 ·by_cases hb:X.env.locals=e
  ·rw [hb];exact dg
  ·rw [bM hb];exact I.free
 ·by_cases hb:c=e
  ·rw [hb];exact dg
  ·rw [bM hb];exact I.freeC x c z
 ·obtain ⟨h1,h3,h4⟩:=I.pin p hp
  refine ⟨h1,?_,h4⟩
  by_cases hb:p.1=e
  ·rw [hb];exact dg
  ·rw [bM hb];exact h3
 ·by_cases hb:b=e
  ·rw [hb,dg] at z;cases z
  ·rw [bM hb] at z
   exact (I.hok b v z).stay (fun _ _ _ q=>q) (fun c q=>by rw [bM (fun y=>by rw [y,he] at q;cases q)];exact q) fun c xs q=>by rw [bM (fun y=>by rw [y,he] at q;cases q)];exact q
end
end L2
namespace L2
open PySem PySem.Spec PyProof.Rows
section
variable {X:Cx}{pins:List (Addr×Obj)}{σ : St}{H:Hp}{s:Shared}{C fi:Addr}{x f:Str}{np cpos pos:Pos}{e:Expr}{t:TA}{k:Nat}{fd:FuncData}{ps:List Str}
theorem yg {Q:Flow→Shared→Prop}{R:V→Hp→Prop}(hc:X.calm=true)(hex:X.ex=[])(hg:Gl X x)(hm:X.mg x=some (.ref C))(hq:xJ X.K C fi vmB "ValueError.__new__" = true)(hfn:PySem.W.isFn X.K (.ref fi)=true)
  (Fi:bT X.prog X.w X.K X.mg X.base CX0 k fi fd ps (spI C f)) (hr:eN (k+1) X.A) (hb:Binds X.K fd ps []) (ha:PA X [e] t) (I:Inv X pins σ H s) (h:t σ H fun vs H1=>∃ v,vs=[v]∧R v H1)
  (hx:∀ a dx H1 s' v,FX X pins σ (upd H1 dx (.xd [(f,v)])) s' a C (some dx)→H1 dx=none→R v H1→X.xe (.ref a) s')
  (hdb:(x==("__debug__" : Str))=false:=by decide) (he:starEach [e] X.env=(false,eval e X.env)::starEach [] X.env:=by rfl) :
  wpAny (model X.prog X.w) X.A (exec (.Raise (some (.Call (.Name x np) [e] [] cpos)) none pos) X.env) Q X.xe s:=by
 obtain ⟨tl,N,nm,qn,bs,hd,sn,sub,ab,col,dd,k0,k1,k2,k3,k5,mN,hC,hN,hni,T⟩:=exi_obj I.mod.kin hq
 refine wV (K:=X.K) (f:=fi) (C:=C) (nm:=nm) (q:=qn) (N:=N) (bs:=bs) (bm:=tl) (hdct:=hd) (sn:=sn) (sub:=sub) (ab:=ab) (col:=col) (dd:=dd) (k0:=k0) (k1:=k1) (k2:=k2) (k3:=k3) (k5:=k5)
  PySem.F.excBase_ValueError (mN:=mN) (T.hasType PySem.F.excBase_ValueError.hasBase) (I.ok.hd hc) (by rw [he];rfl) (beq_iff_eq.mp hfn) hni (lH I hg hm ⟨rfl,?_⟩ hdb)
 have g:=ha cpos pins s σ H _ I h
 rw [he] at g ⊢
 refine Calls.evalArgs_plain (thn g fun us s2 ⟨vs,H2,I2,r,v,ev,kk⟩=>?_)
 subst ev
 obtain ⟨u,rfl,ru⟩:=vals1 r
 refine ⟨⟨rfl,by simp [sizeLine_eq],I2.kIn⟩,⟨I2.kIn _ _ hC,hN.keeps I2.bk,T.keeps I2.bk⟩,?_⟩
 have self:((s2.heap.push { cls:=.type "tuple",data:=.seq [u].toArray }).push (exo C s2.heap.objs.size)).get? (s2.heap.objs.size+1)=some (exo C s2.heap.objs.size):=by
  have:=Heap.get?_push_size (s2.heap.push { cls:=.type "tuple",data:=.seq [u].toArray }) (o:=exo C s2.heap.objs.size) rfl
  rwa [Heap.size_push] at this
 have nw:=I2.newOf (b:=s2.heap.objs.size+1) (Heap.get?_none_of_le (Nat.le_succ _))
 have I3:Inv X pins σ (upd H2 (s2.heap.objs.size+1) (exN (s2.heap.objs.size+1) C s2.heap.objs.size)) { s2 with heap:=(s2.heap.push { cls:=.type "tuple",data:=.seq [u].toArray }).push (exo C s2.heap.objs.size),toks:=s2.toks }:=
  I2.laid (fun b z hz=>Heap.get?_push_of_some _ (Heap.get?_push_of_some _ hz)) (Nat.le_succ _) ⟨self,⟨_,self⟩,fun h1 h2 z q=>q _ z⟩
 have sp:spI C f [.ref (s2.heap.objs.size+1),v] (upd H2 (s2.heap.objs.size+1) (exN (s2.heap.objs.size+1) C s2.heap.objs.size)) (fun r H4=>r=.non∧∃ dx,H2 dx=none∧dx≠s2.heap.objs.size+1∧H4=upd (upd (upd H2 (s2.heap.objs.size+1) (exN (s2.heap.objs.size+1) C s2.heap.objs.size)) dx (.xd [(f,v)])) (s2.heap.objs.size+1) (exD (s2.heap.objs.size+1) C s2.heap.objs.size dx)) E0:=
  ⟨_,_,v,rfl,aL,fun dx h1 h2=>⟨rfl,dx,by rw [aD h2] at h1;exact h1,h2,rfl⟩⟩
 have r2:Vals [V.ref (s2.heap.objs.size+1),v] [Value.ref (s2.heap.objs.size+1),u]:=.cons rfl (.cons ru .nil)
 have hl:([Value.ref (s2.heap.objs.size+1),u]++[]).length=ps.length:=by rw [←Fi.len _ _ _ _ sp];rfl
 refine wpAny_call (codeAny_mono (Fi.run _ X.stack _ _ ⟨[Value.ref (s2.heap.objs.size+1),u],[]⟩ [Value.ref (s2.heap.objs.size+1),u] _ _ E0 (hr.make C [u] []) (I3.env0.make C [u] []) (hb _ [Value.ref (s2.heap.objs.size+1),u] I3.kIn hl) r2 sp) fun r s' hq'=>?_)
 cases r with
 | error ev=>exact zU pins σ _ _ ev s' I3 hq'
 | ok fl=>
  cases fl with
  | ret uv=>
   obtain ⟨v',H',I4,rv,ev,dx,h1,h2,eH⟩:=I3.after hq'
   subst ev eH
   have he4:=(I4.hok (s2.heap.objs.size+1) _ aL).1
   have s0:X.s₀.heap.get? (s2.heap.objs.size+1)=none:=by
    rcases nw.s with q | q
    ·rw [hex] at q;cases q
    ·exact q
   have I5:=I4.forget aL I2 nw.h s0
   have eF:forget (upd (upd (upd H2 (s2.heap.objs.size+1) (exN (s2.heap.objs.size+1) C s2.heap.objs.size)) dx (.xd [(f,v)])) (s2.heap.objs.size+1) (exD (s2.heap.objs.size+1) C s2.heap.objs.size dx)) (s2.heap.objs.size+1)=upd H2 dx (.xd [(f,v)]):=by
    funext b
    by_cases hbe:b=s2.heap.objs.size+1
    ·rw [hbe,dg,aD (Ne.symm h2)];exact nw.h.symm
    ·rw [bM hbe,aD hbe]
     by_cases hbd:b=dx
     ·rw [hbd,aL,aL]
     ·rw [aD hbd,aD hbd,aD hbe]
   rw [eF] at I5
   refine ⟨rv,some dx,I4.kIn _ _ hC,he4,hx _ dx H2 s' v ⟨I5,⟨by rw [aD (Ne.symm h2)];exact nw.h,nw.s,nw.l,nw.c,nw.p,nw.f⟩,_,_,he4,rfl,rfl,rfl,by simp,rfl,.inl rfl⟩ h1 kk⟩
  | next=>exact False.elim hq'
  | brk=>exact False.elim hq'
  | cont=>exact False.elim hq'
end
def uw (x f:Str)(ma:ME)(E:XWK):MS:=fun _ σ h=>ma σ h fun w h1=>E ⟨x,[(f,w)]⟩ h1
section
variable {X:Cx}{Γ : St→Prop}{e:Expr}{pos:Pos}{ma:ME}
theorem xH {C fi:Addr}{x f:Str}{np cpos:Pos}{k:Nat}{fd:FuncData}{ps:List Str}(hc:X.calm=true)(hex:X.ex=[])(hg:Gl X x)(hm:X.mg x=some (.ref C))(hq:xJ X.K C fi vmB "ValueError.__new__" = true)(hfn:PySem.W.isFn X.K (.ref fi)=true)
  (Fi:bT X.prog X.w X.K X.mg X.base CX0 k fi fd ps (spI C f)) (hr:eN (k+1) X.A) (hb:Binds X.K fd ps []) (hx:xaIn X.K C x=true) (hf:tM x=[f]) (ha:DE X e ma) (hdb:(x==("__debug__" : Str))=false:=by decide) (he:starEach [e] X.env=(false,eval e X.env)::starEach [] X.env:=by rfl) :
  DSx X Γ (.Raise (some (.Call (.Name x np) [e] [] cpos)) none pos) (fun E=>uw x f ma E):=by
 intro pins s σ H D I ⟨g,μ,h,σw,Dw,E,R,S,m,k,kx⟩
 have hxc:o9 X.K C x=true:=by
  have:=hx
  unfold xaIn at this
  simp only [Bool.and_eq_true] at this
  exact this.1.1
 refine yg (R:=fun v H1=>∃ μ1 w h1,Ext X.K H μ H1 μ1∧Rel X.K μ1 H1 h1∧Rep X.K H1 μ1 w v∧E ⟨x,[(f,w)]⟩ h1) hc hex hg hm hq hfn Fi hr hb (ao ha au he) I ⟨μ,h,σw,fun ws h1=>∃ w,ws=[w]∧E ⟨x,[(f,w)]⟩ h1,R,S,?_,fun vs H' ⟨μ1,ws,h1,e1,R1,r1,w,ew,m1⟩=>?_⟩ (fun a dx H1 s' v F hdx ⟨μ1,w,h1,e1,R1,r1,m1⟩=>?_) hdb he
 ·exact (show ma σw h fun w h1=>aN σw h1 fun ws h2=>∃ w',(w::ws)=[w']∧E ⟨x,[(f,w')]⟩ h2 from by
   have m:ma σw h fun w h1=>E ⟨x,[(f,w)]⟩ h1:=m
   have:(fun w h1=>E ⟨x,[(f,w)]⟩ h1)=(fun (w:W) (h1:Gh)=>aN σw h1 fun ws h2=>∃ w',(w::ws)=[w']∧E ⟨x,[(f,w')]⟩ h2):=by
    funext w h1
    apply propext
    constructor
    ·exact fun z=>⟨w,rfl,z⟩
    ·rintro ⟨w',ew,z⟩
     cases ew
     exact z
   rw [←this]
   exact m)
 ·subst ew
  rw [aJ] at r1
  obtain ⟨v,vr,ev,rv,r0⟩:=r1
  rw [aJ] at r0
  subst r0
  exact ⟨v,ev,μ1,w,h1,e1,R1,rv,m1⟩
 ·have ex:Ext X.K H1 μ1 (upd H1 dx (.xd [(f,v)])) μ1:=(Ex.laid hdx).ext
  refine kx _ s' ⟨a,C,x,some dx,[(f,w)],pins,σ,_,μ1,h1,rfl,F,hxc,g,e1.trans ex,R1.laid hdx,.inr ⟨dx,[w],[v],rfl,hx,by rw [hf];rfl,by rw [hf];rfl,by rw [hf];rfl,?_,aJ.one (ex.r _ _ r1)⟩,m1⟩
  rw [hf]
  exact aL
end
def mXFld (f:Str)(ma:ME):ME:=fun σ h Q=>ma σ h fun w h1=>match w with
 | .exa n ws=>(match ((tM n).zip ws).lookup f with
  | some v=>Q v h1
  | none=>False)
 | _=>False
theorem o8 {K:PySem.W.Frag}{H:Hp}{μ : Mu}{f:Str}{v:W}:∀ {ns:List Str} {ws:List W} {xs:List V},aJ K H μ ws xs→(ns.zip ws).lookup f=some v→∃ x,(ns.zip xs).lookup f=some x∧Rep K H μ v x
 | [],_,_,_,e=>by cases e
 | _::_,[],_,_,e=>by cases e
 | n::ns,w::ws,xs,r,e=>by
  rw [aJ] at r
  obtain ⟨u,us,rfl,ru,r⟩:=r
  rw [List.zip_cons_cons,List.lookup_cons] at e ⊢
  cases q:f==n with
  | true=>rw [q] at e;cases e;exact ⟨u,rfl,ru⟩
  | false=>rw [q] at e;exact o8 r e
theorem mem_zip {f:Str}{v:W}:∀ {ns:List Str} {ws:List W},(ns.zip ws).lookup f=some v→f∈ns
 | [],_,e=>by cases e
 | _::_,[],e=>by cases e
 | n::ns,w::ws,e=>by
  rw [List.zip_cons_cons,List.lookup_cons] at e
  cases q:f==n with
  | true=>rw [beq_iff_eq.mp q];exact List.mem_cons_self ..
  | false=>rw [q] at e;exact List.mem_cons_of_mem _ (mem_zip e)
section
variable {X:Cx}{e:Expr}{f:Str}{pos:Pos}{ma:ME}
theorem d_xfld (ha:DE X e ma)(hb:attributeBase e f X.env (eval e X.env)=eval e X.env:=by rfl):DE X (.Attribute e f pos) (mXFld f ma):=by
 intro pins s σ H Q I ⟨μ,h,σw,Qw,R,S,m,q⟩
 refine zP hb (thn (ha pins s σ H _ I ⟨μ,h,σw,_,R,S,m,fun _ _ z=>z⟩) fun u s1 ⟨x,H1,I1,rx,μ1,w,h1,e1,R1,r1,m1⟩=>?_)
 cases w with
 | exa n ws=>
  dsimp only at m1
  split at m1
  ·rename_i v el
   rw [Rep] at r1
   obtain ⟨p,o,uu,dd,ns,xs,ev,hp,⟨C,hcl,hdi,hnc,hxa⟩,hdd,en,hln,rs⟩:=r1
   subst ev en
   obtain rfl:u=Value.ref p:=rx
   obtain ⟨y,ey,ry⟩:=o8 rs el
   have hfm:=mem_zip el
   obtain ⟨mA,hns,hrel⟩:=(show cU X.prog X.w H1 s1.heap dd (.xd ((tM n).zip xs)) from I1.hok dd _ hdd)
   have ry2:=hrel f
   rw [ey] at ry2
   cases qm:mA f with
   | none=>rw [qm] at ry2;exact ry2.elim
   | some uv=>
    rw [qm] at ry2
    obtain ⟨od,hod,hl⟩:=sX hns
    have J:PySem.W.InstAt s1.heap p o C (some od):=⟨(I1.hok p _ hp).1,hcl,hnc,by rw [hdi];exact hod⟩
    unfold xaIn at hxa
    simp only [Bool.and_eq_true,List.all_eq_true,beq_iff_eq] at hxa
    obtain ⟨⟨hxc,hhd⟩,hall⟩:=hxa
    obtain ⟨_,⟨cd,Rr,hc,hmm,_⟩,hg,hg',_⟩:=zj hxc
    have hB:PySem.W.mroIn X.K C (.type "BaseException")=some true:=by
     unfold PySem.W.mroIn
     rw [hc,Option.bind_some,hmm]
     rfl
    refine exc_attr (od:=some od) I1.kIn J hg hg' (PySem.W.findObj_own hhd (hall f hfm) rfl (by rw [hl,qm])) (qR ry2) hB ?_
    exact ⟨y,H1,I1.tok _,ry2,q _ _ ⟨μ1,v,h1,e1,R1,ry,m1⟩⟩
  ·exact m1.elim
 | _=>exact m1.elim
end
end L2
namespace L2
open PySem PySem.Spec PyProof.Rows
def rGet (x:V)(vs:List V)(H:Hp)(Q:VK):Prop:=∃ a kvs k d,x=.ref a∧vs=[kV k,d]∧H a=some (.dK kvs)∧Q ((yX kvs k).getD d) H
theorem mt_get {X:Cx}:MtR X "dict.get" rGet:=by
 intro pins s σ H x xs v us Q I rx rs ⟨a,kvs,k,d,ex,exs,e,q⟩
 subst ex exs
 obtain rfl:v=Value.ref a:=rx
 obtain ⟨uk,ud,rfl,ruk,rud⟩:=vals2 rs
 obtain ⟨z,hd,vs,rel,dd⟩:=dk_of I.hok e
 refine call_meetsIn PySem.F.slot_dict_get dd.typeIs PySem.F.entry_dict_get (PySem.F.args_dict_get_3 _ _ _) (meets_dict_get_default (bN X.prog X.w) a (Aj ruk) hd ud) ⟨_,dd.mapOf,?_⟩
 refine ⟨_,H,I.tok _,?_,q⟩
 have rl:=rel.val k
 cases e1:yX kvs k with
 | none=>
  rw [e1] at rl
  cases e2:valueAt vs k with
  | none=>exact rud
  | some u=>rw [e2] at rl;exact rl.elim
 | some y=>
  rw [e1] at rl
  obtain ⟨u,e2,ru⟩:=tE.some_of rl
  rw [e2]
  exact ru
def xT (i:Nat)(a b c:Str):ME:=fun σ h Q=>match σ[i]? with
 | some (some (.str x))=>Q (.str (if a=x then b else c)) h
 | _=>False
section
variable {X:Cx}
set_option maxHeartbeats 4000000 in
theorem d_getS {i:Nat}{a b c x:Str}{ja jb jc}{pa pb pc pd np apos cpos:Pos}(hv:PE X (.Name x np) (tVar i))
  (hbase:attributeBase (.Dict [some (.Constant (.str a) ja pa)] [.Constant (.str b) jb pb] pd) "get" X.env (eval (.Dict [some (.Constant (.str a) ja pa)] [.Constant (.str b) jb pb] pd) X.env)=eval (.Dict [some (.Constant (.str a) ja pa)] [.Constant (.str b) jb pb] pd) X.env:=by rfl)
  (hfew:((backTo cpos (starEach [.Name x np,.Constant (.str c) jc pc] X.env)).all (fun x=>!x.1)&&(backToKw cpos (keywordEach [] X.env)).all (fun x=>x.1.isSome)
   && decide (([.Name x np,.Constant (.str c) jc pc]:List Expr).length+([]:List Keyword).length+(if ([]:List Keyword).isEmpty then 0 else 1)<30))=true:=by rfl)
  (hline:(apos.endLine==cpos.line)=true:=by rfl) (hst:starEach [.Name x np,.Constant (.str c) jc pc] X.env=(false,eval (.Name x np) X.env)::starEach [.Constant (.str c) jc pc] X.env:=by rfl)
  (hst2:starEach [.Constant (.str c) jc pc] X.env=(false,eval (.Constant (.str c) jc pc) X.env)::starEach [] X.env:=by rfl) (hplain:(backTo cpos (starEach [.Constant (.str c) jc pc] X.env)).any (·.1)=false:=by rfl) :
  DE X (.Call (.Attribute (.Dict [some (.Constant (.str a) ja pa)] [.Constant (.str b) jb pb] pd) "get" apos) [.Name x np,.Constant (.str c) jc pc] [] cpos) (xT i a b c):=by
 have hD:PE X (.Dict [some (.Constant (.str a) ja pa)] [.Constant (.str b) jb pb] pd) (tDisp [(tC (.str a),tC (.str b))]):=by
  have h1:PE X (.Constant (.str a) ja pa) (tC (.str a)):=vD
  have h2:PE X (.Constant (.str b) jb pb) (tC (.str b)):=vD
  refine pe_disp (pps_cons h1 h2 pps_nil) ?_ ?_ ?_ ?_
  ·simp
  ·simp
  ·simp
  ·simp
 have hA:PA X [.Name x np,.Constant (.str c) jc pc] (tCons (tVar i) (tCons (tC (.str c)) tNil)):=fV hv (fV vD qZ hst2) hst
 have hB:=pe_bm (T := "dict") (name := "get") (id := "dict.get") (apos:=apos) (cpos:=cpos) PySem.F.plainAttrs_dict PySem.F.slot_dict_get PySem.F.type_dict_get mt_get hD hA hbase hfew hline hst hplain
 refine hB.of fun σ H Q z=>?_
 obtain ⟨μ,h,σw,Qw,R,S,m,k⟩:=z
 unfold xT at m
 unfold tBM tDisp
 intro p hp
 unfold qW qW tC
 dsimp only
 split at m
 ·rename_i y ey
  obtain ⟨v,ev,rv⟩:=S.get _ _ ey
  rw [Rep] at rv
  subst rv
  refine ⟨aL,[(.inr a,.str b)],rfl,Nat.le_of_ble_eq_true rfl,.inr (.inr (.inl ⟨rfl,.inl ⟨_,aL⟩⟩)),⟨_,ev,?_⟩⟩
  refine ⟨p,_,.inr y,.str c,rfl,rfl,aL,?_⟩
  have hu:upd (upd H p (.dK [])) p (.dK (jr [] [((.inr a:Key),V.str b)]))=upd H p (.dK (jr [] [((.inr a:Key),V.str b)])):=by
   funext q
   by_cases e:q=p
   ·rw [e,aL,aL]
   ·rw [aD e,aD e,aD e]
  rw [hu]
  have ve:((yX (jr [] [((.inr a:Key),V.str b)]) (.inr y)).getD (.str c))=.str (if a=y then b else c):=by
   have e0:jr [] [((.inr a:Key),V.str b)]=[(.inr a,V.str b)]:=rfl
   rw [e0]
   by_cases z:a=y
   ·rw [if_pos z,lg (by rw [z])];rfl
   ·rw [if_neg z,kE (fun q=>z (by cases q;rfl))];rfl
  rw [ve]
  exact k _ _ ⟨μ,_,h,(Ex.laid hp).ext,R.laid hp,repS,m⟩
 ·exact m.elim
end
end L2
namespace L2
open PySem PySem.Spec PyProof.Rows
section
variable {X:Cx}{Γ : St→Prop}{tg:Expr}
theorem dsx_for {iter:Expr}{body:List Stmt}{mi:MI}{g:MG}{mb0:XWK→MS}{pos:Pos}(hp:PassesOwn (model X.prog X.w) X.A X.env X.xe)(hc:X.calm=true)(hΓ : ∀ σ,Γ σ)(hi:DIt X tg iter mi)(hg:DG X tg g)(hb:DSsx X Γ body mb0)
  (hs:∀ x,foldedSetIterable iter X.env x=pure x:=by intro _;rfl):DSx X Γ (.For tg iter body [] pos) (fun E=>mFor mi g (mb0 E)):=(ps_for hp hc hi hg hb hs).of fun D σ H ⟨_,μ,h,σw,Dw,E,R,S,m,k,kx⟩=>by
 refine ⟨μ,h,σw,_,R,S,m,fun J H1 ⟨μ1,src,h1,e1,R1,ok,m1⟩=>?_⟩
 refine ⟨fun i n σ' H'=>n=src.ws.length - i∧i≤src.ws.length∧DN X.K H1 μ1 (dZ src g (mb0 E) Dw (src.ws.drop i)) σ' H',⟨src.ws.length,by simp,Nat.zero_le _,μ1,σw,h1,.refl,R1,S.ext e1,by rw [List.drop_zero];exact m1⟩,?_⟩
 rintro i n σ2 H2 ⟨hn,hle,μ2,σw2,h2,e2,R2,S2,m2⟩
 by_cases hlt:i<src.ws.length
 ·rw [List.drop_eq_getElem_cons hlt] at m2
  obtain ⟨ck,m2⟩:=Src.go_ok m2
  obtain ⟨hgo,hy⟩:=(ok e2 R2 ck).1 src.ws[i] (List.getElem?_eq_getElem hlt)
  refine .inr ⟨hgo,fun σ' H'=>DN X.K H2 μ2 (dZ src g (mb0 E) Dw (src.ws.drop (i+1))) σ' H',fun σ' H' z=>⟨src.ws.length - (i+1),by omega,rfl,hlt,z.trans e2⟩,fun x H3 y=>?_⟩
  obtain ⟨μ3,e3,R3,rx⟩:=hy x H3 y
  refine ⟨μ3,h2,σw2,src.ws[i],_,R3,S2.ext e3,rx,m2,fun σ4 H4 ⟨μ4,σw4,h4,e4,R4,S4,m4⟩=>?_⟩
  have e24:=e3.trans e4
  have e14:=(e1.trans e2).trans e24
  exact ⟨hΓ _,μ4,h4,σw4,_,E,R4,S4,m4,⟨fun σ' H' z=>z.trans e24,fun v H' z=>k.rt _ _ (z.trans e14),fun σ' H' z=>k.nx _ _ (z.trans e14),fun σ' H' z=>z.trans e24⟩,fun ev s' z=>kx ev s' (z.trans e14)⟩
 ·have ei:i=src.ws.length:=by omega
  subst ei
  rw [List.drop_length] at m2
  obtain ⟨ck,m2⟩:=Src.go_ok m2
  exact .inl ⟨(ok e2 R2 ck).2 (Nat.le_refl _),k.nx _ _ ⟨μ2,σw2,h2,e1.trans e2,R2,S2,m2⟩⟩
end
end L2
namespace My
set_option maxHeartbeats 4000000
open PySem L2 PyProof.Rows
def cC:List (Key×W):=[(.inr "join",(.str "spot")),(.inr "meet",(.str "line"))]
def d9:W:=(.tup [(.tup [(.int 0),(.int 0),(.int 1)]),(.tup [(.int 1),(.int 0),(.int 1)]),(.tup [(.int 0),(.int 1),(.int 1)]),(.tup [(.int 1),(.int 1),(.int 1)])])
def top (i:Nat):Stmt:=PySem.Challenge.pw_easelroom_k31_steps_walked.main.body.getD i (.Pass ⟨0,0,0,0⟩)
def mtop (i j:Nat):Stmt:=match top i with
 | .ClassDef _ _ _ b _ _ _ _ _ _ _=>b.getD j (.Pass ⟨0,0,0,0⟩)
 | s=>s
abbrev gD:Stmt:=top 9
theorem lK:aP ["thing"] ["thing"] (aH gD):=⟨rfl,rfl,rfl,by decide +kernel,rfl,by decide +kernel,by decide +kernel⟩
abbrev bY:Stmt:=top 10
theorem d7:aP ["one", "other", "rest"] ["one", "other"] (aH bY):=⟨rfl,rfl,rfl,by decide +kernel,rfl,by decide +kernel,by decide +kernel⟩
abbrev jt:Stmt:=top 11
theorem oF:aP ["numbers", "found", "number"] ["numbers"] (aH jt):=⟨rfl,rfl,rfl,by decide +kernel,rfl,by decide +kernel,by decide +kernel⟩
abbrev dR:Stmt:=top 12
theorem jl:aP ["numbers", "number"] ["numbers"] (aH dR):=⟨rfl,rfl,rfl,by decide +kernel,rfl,by decide +kernel,by decide +kernel⟩
abbrev pU:Stmt:=top 13
theorem u0:aP ["numbers", "factor"] ["numbers"] (aH pU):=⟨rfl,rfl,rfl,by decide +kernel,rfl,by decide +kernel,by decide +kernel⟩
abbrev pR:Stmt:=top 16
theorem vV:aP ["one", "other"] ["one", "other"] (aH pR):=⟨rfl,rfl,rfl,by decide +kernel,rfl,by decide +kernel,by decide +kernel⟩
abbrev cP:Stmt:=top 17
theorem gW:aP ["one", "other"] ["one", "other"] (aH cP):=⟨rfl,rfl,rfl,by decide +kernel,rfl,by decide +kernel,by decide +kernel⟩
abbrev wK:Stmt:=top 18
theorem zO:aP ["one", "other"] ["one", "other"] (aH wK):=⟨rfl,rfl,rfl,by decide +kernel,rfl,by decide +kernel,by decide +kernel⟩
abbrev uW:Stmt:=top 19
theorem Ab:aP ["one", "other"] ["one", "other"] (aH uW):=⟨rfl,rfl,rfl,by decide +kernel,rfl,by decide +kernel,by decide +kernel⟩
abbrev cG:Stmt:=top 22
theorem fJ:aP ["things", "number", "kind"] ["things", "number", "kind"] (aH cG):=⟨rfl,rfl,rfl,by decide +kernel,rfl,by decide +kernel,by decide +kernel⟩
abbrev cO:Stmt:=top 23
theorem gQ:aP ["things", "step", "kind"] ["things", "step"] (aH cO):=⟨rfl,rfl,rfl,by decide +kernel,rfl,by decide +kernel,by decide +kernel⟩
abbrev jq:Stmt:=top 24
theorem nY:aP ["things", "step", "one", "other"] ["things", "step"] (aH jq):=⟨rfl,rfl,rfl,by decide +kernel,rfl,by decide +kernel,by decide +kernel⟩
abbrev dG:Stmt:=mtop 25 0
theorem je:aP ["self"] ["self"] (aH dG):=⟨rfl,rfl,rfl,by decide +kernel,rfl,by decide +kernel,by decide +kernel⟩
abbrev dI:Stmt:=mtop 25 1
theorem jd:aP ["self", "step"] ["self", "step"] (aH dI):=⟨rfl,rfl,rfl,by decide +kernel,rfl,by decide +kernel,by decide +kernel⟩
abbrev dF:Stmt:=mtop 25 2
theorem iJ:aP ["self"] ["self"] (aH dF):=⟨rfl,rfl,rfl,by decide +kernel,rfl,by decide +kernel,by decide +kernel⟩
abbrev dj:Stmt:=mtop 25 3
theorem jw:aP ["self", "i"] ["self", "i"] (aH dj):=⟨rfl,rfl,rfl,by decide +kernel,rfl,by decide +kernel,by decide +kernel⟩
abbrev dz:Stmt:=mtop 25 4
theorem jA:aP ["self", "i"] ["self", "i"] (aH dz):=⟨rfl,rfl,rfl,by decide +kernel,rfl,by decide +kernel,by decide +kernel⟩
abbrev lA:Stmt:=top 26
theorem sJ:aP ["steps", "board", "step"] ["steps"] (aH lA):=⟨rfl,rfl,rfl,by decide +kernel,rfl,by decide +kernel,by decide +kernel⟩
abbrev fC:Stmt:=top 28
theorem jX:aP ["_law_script", "_law_k"] ["_law_script", "_law_k"] (aH fC):=⟨rfl,rfl,rfl,by decide +kernel,rfl,by decide +kernel,by decide +kernel⟩
abbrev pX:Stmt:=top 29
theorem u5:aP ["_law_cell"] ["_law_cell"] (aH pX):=⟨rfl,rfl,rfl,by decide +kernel,rfl,by decide +kernel,by decide +kernel⟩
abbrev kW:Stmt:=top 30
theorem qQ:aP ["_law_bag_here", "_law_many", "_law_found"] ["_law_bag_here", "_law_many"] (aH kW):=⟨rfl,rfl,rfl,by decide +kernel,rfl,by decide +kernel,by decide +kernel⟩
abbrev iT:Stmt:=top 31
theorem oU:aP ["_law_found"] ["_law_found"] (aH iT):=⟨rfl,rfl,rfl,by decide +kernel,rfl,by decide +kernel,by decide +kernel⟩
abbrev iV:Stmt:=top 32
theorem oZ:aP ["_law_row", "_law_part", "_law_number", "_law_one", "_law_other", "_law_low"] ["_law_row"] (aH iV):=⟨rfl,rfl,rfl,by decide +kernel,rfl,by decide +kernel,by decide +kernel⟩
abbrev iW:Stmt:=top 33
theorem oE:aP ["_law_one", "_law_other", "_law_a", "_law_b", "_law_c", "_law_d", "_law_e", "_law_f"] ["_law_one", "_law_other"] (aH iW):=⟨rfl,rfl,rfl,by decide +kernel,rfl,by decide +kernel,by decide +kernel⟩
abbrev kh:Stmt:=top 34
theorem q9:aP ["_law_bag_here", "_law_things", "_law_word", "_law_wanted", "_law_numbers", "_law_k"] ["_law_bag_here", "_law_things"] (aH kh):=⟨rfl,rfl,rfl,by decide +kernel,rfl,by decide +kernel,by decide +kernel⟩
abbrev qj:Stmt:=top 35
theorem wI:aP ["_law_step_here", "_law_things", "_law_word", "_law_i", "_law_j", "_law_kinds"] ["_law_step_here", "_law_things"] (aH qj):=⟨rfl,rfl,rfl,by decide +kernel,rfl,by decide +kernel,by decide +kernel⟩
abbrev p8:Stmt:=top 36
theorem vP:aP ["_law_bag_here", "_law_things", "_law_many", "_law_spots", "_law_lines", "_law_spot", "_law_other", "_law_far", "_law_some", "_law_line"] ["_law_bag_here", "_law_things"] (aH p8):=⟨rfl,rfl,rfl,by decide +kernel,rfl,by decide +kernel,by decide +kernel⟩
abbrev kZ:Stmt:=top 37
theorem qM:aP ["_law_found", "_law_things", "_law_k"] ["_law_found", "_law_things"] (aH kZ):=⟨rfl,rfl,rfl,by decide +kernel,rfl,by decide +kernel,by decide +kernel⟩
abbrev eZ:Stmt:=top 38
theorem jV:aP ["_law_steps", "_law_place", "_law_handed", "_law_e"] ["_law_steps", "_law_place"] (aH eZ):=⟨rfl,rfl,rfl,by decide +kernel,rfl,by decide +kernel,by decide +kernel⟩
abbrev s_law:Stmt:=top 39
theorem sc_law:aP ["_law_script", "_law_things", "_law_steps", "_law_cell", "_law_step_here", "_law_due_here", "_law_handed", "_law_found", "_law_bag_here", "_law_place", "_law_bad_here"] ["_law_script"] (aH s_law):=⟨rfl,rfl,rfl,by decide +kernel,rfl,by decide +kernel,by decide +kernel⟩
abbrev dH:Stmt:=mtop 4 0
theorem qK:aP ["self", "at"] ["self", "at"] (aH dH):=⟨rfl,rfl,rfl,by decide +kernel,rfl,by decide +kernel,by decide +kernel⟩
def jG:MSp:=mFn 1 1 false fun E=>
  (cN (rN (mCB yF (aq (aC 0) (aq (mC (.ty "int")) aN))) (mNotV (mCB yF (aq (aC 0) (aq (mC (.ty "bool")) aN))))))
def gw:MSp:=jG
def iR (E:XWK):MS:=
  (cN (aC 0))
def fD:MSp:=mFn 2 3 false fun E=>
  (bw (cj (mCB kAbs (aq (aC 0) aN)) (nName 0))
  (bw (cj (mCB kAbs (aq (aC 1) aN)) (nName 1))
  (bw (wD (bx (mOp kNe (aC 1) (mC (.int 0)))) (bw (cj (mOp yt (aC 0) (aC 1)) (nName 2))
  (bw (cj (aC 1) (nName 0))
  (cj (aC 2) (nName 1)))))
  (iR E))))
def bZ:MSp:=fD
def ni (c_divisor_of_two:MSp)(E:XWK):MS:=
  (cN (aC 1))
def rz (c_divisor_of_two:MSp):MSp:=mFn 1 3 false fun E=>
  (bw (cj (mC (.int 0)) (nName 1))
  (bw (mFor (nIt (aC 0)) (nName 2) (cj (bf c_divisor_of_two E (aq (aC 2) (aq (aC 1) aN))) (nName 1)))
  (ni c_divisor_of_two E)))
def jf:MSp:=rz bZ
def gO (E:XWK):MS:=
  (cN (mC (.bl false)))
def jY:MSp:=mFn 1 2 false fun E=>
  (bw (mFor (nRev2 (aq (aC 0) aN)) (nName 1) (gG (bx (mOp kNe (aC 1) (mC (.int 0)))) (cN (mOp kLt (aC 1) (mC (.int 0)))) cu))
  (gO E))
def dU:MSp:=jY
def rF (c_divisor c_ends_below:MSp)(E:XWK):MS:=
  (cN (mCB rW (aq (mLC ow1 [1] (nIt (aC 0)) yC (mOp kDiv (aC 0) (aC 1))) aN)))
def yS (c_divisor c_ends_below:MSp)(E:XWK):MS:=
  (bw (gG (tG (bf c_ends_below E (aq (aC 0) aN))) (cj (mUn mNeg (aC 1)) (nName 1)) cu)
  (rF c_divisor c_ends_below E))
def yK (c_divisor c_ends_below:MSp):MSp:=mFn 1 2 false fun E=>
  (bw (cj (bf c_divisor E (aq (aC 0) aN)) (nName 1))
  (bw (gG (bx (mOp kEq (aC 1) (mC (.int 0)))) (wC "Nothing" E) cu)
  (yS c_divisor c_ends_below E)))
def mY:MSp:=yK jf dU
def r_cross:MSp:=mFn 2 2 false fun E=>
  (cN (iG (aq (mOp vO (mOp sS (mOp kIx (aC 0) (mC (.int 1))) (mOp kIx (aC 1) (mC (.int 2)))) (mOp sS (mOp kIx (aC 0) (mC (.int 2))) (mOp kIx (aC 1) (mC (.int 1))))) (aq (mOp vO (mOp sS (mOp kIx (aC 0) (mC (.int 2))) (mOp kIx (aC 1) (mC (.int 0)))) (mOp sS (mOp kIx (aC 0) (mC (.int 0))) (mOp kIx (aC 1) (mC (.int 2))))) (aq (mOp vO (mOp sS (mOp kIx (aC 0) (mC (.int 0))) (mOp kIx (aC 1) (mC (.int 1)))) (mOp sS (mOp kIx (aC 0) (mC (.int 1))) (mOp kIx (aC 1) (mC (.int 0))))) aN)))))
def pG:MSp:=r_cross
def m9 (c_plain c_cross:MSp)(E:XWK):MS:=
  (cN (bf c_plain E (aq (bf c_cross E (aq (aC 0) (aq (aC 1) aN))) aN)))
def jk (c_plain c_cross:MSp):MSp:=mFn 2 2 false fun E=>
  (bw (gG (bx (mOp kEq (aC 0) (aC 1))) (wC "Alike" E) cu)
  (m9 c_plain c_cross E))
def bJ:MSp:=jk mY pG
def r_join (c_plain_cross:MSp):MSp:=mFn 2 2 false fun E=>
  (cN (bf c_plain_cross E (aq (aC 0) (aq (aC 1) aN))))
def vI:MSp:=r_join bJ
def r_meet (c_plain_cross:MSp):MSp:=mFn 2 2 false fun E=>
  (cN (bf c_plain_cross E (aq (aC 0) (aq (aC 1) aN))))
def wM:MSp:=r_meet bJ
def bW (c_is_whole:MSp):MSp:=mFn 3 3 false fun E=>
  (cN (rN (bf c_is_whole E (aq (aC 1) aN)) (rN (j6 kLe kLt (mC (.int 0)) (aC 1) (mCB kLen (aq (aC 0) aN))) (mOp kEq (mOp kIx (mOp kIx (aC 0) (aC 1)) (mC (.int 0))) (aC 2)))))
def bU:MSp:=bW gw
def cX (c_is_number_of:MSp)(E:XWK):MS:=
  (cN (mOp kNe (mOp kIx (aC 0) (mOp kIx (aC 1) (mC (.int 1)))) (mOp kIx (aC 0) (mOp kIx (aC 1) (mC (.int 2))))))
def cW (c_is_number_of:MSp)(E:XWK):MS:=
  (bw (cj (mTab cC (mOp kIx (aC 1) (mC (.int 0)))) (nName 2))
  (bw (gG (mOr (tH (tG (bf c_is_number_of E (aq (aC 0) (aq (mOp kIx (aC 1) (mC (.int 1))) (aq (aC 2) aN)))))) (tH (tG (bf c_is_number_of E (aq (aC 0) (aq (mOp kIx (aC 1) (mC (.int 2))) (aq (aC 2) aN))))))) (cN (mC (.bl false))) cu)
  (cX c_is_number_of E)))
def cZ (c_is_number_of:MSp)(E:XWK):MS:=
  (bw (gG (mOr (tH (tG (mCB kIsiS (aq (mOp kIx (aC 1) (mC (.int 0))) (aq (mC (.ty "str")) aN))))) (bx (m7 cC (mOp kIx (aC 1) (mC (.int 0)))))) (cN (mC (.bl false))) cu)
  (cW c_is_number_of E))
def cB (c_is_number_of:MSp):MSp:=mFn 2 3 false fun E=>
  (bw (gG (mOr (tH (tG (mCB yF (aq (aC 1) (aq (mC (.ty "tuple")) aN))))) (bx (mOp kNe (mCB kLen (aq (aC 1) aN)) (mC (.int 3))))) (cN (mC (.bl false))) cu)
  (cZ c_is_number_of E))
def cA:MSp:=cB bU
def mG (c_join c_meet:MSp)(E:XWK):MS:=
  (cN (iG (aq (mC (.str "spot")) (aq (bf c_meet E (aq (aC 2) (aq (aC 3) aN))) aN))))
def mW (c_join c_meet:MSp):MSp:=mFn 2 4 false fun E=>
  (bw (cj (mOp kIx (mOp kIx (aC 0) (mOp kIx (aC 1) (mC (.int 1)))) (mC (.int 1))) (nName 2))
  (bw (cj (mOp kIx (mOp kIx (aC 0) (mOp kIx (aC 1) (mC (.int 2)))) (mC (.int 1))) (nName 3))
  (bw (gG (bx (mOp kEq (mOp kIx (aC 1) (mC (.int 0))) (mC (.str "join")))) (cN (iG (aq (mC (.str "line")) (aq (bf c_join E (aq (aC 2) (aq (aC 3) aN))) aN)))) cu)
  (mG c_join c_meet E))))
def jm:MSp:=mW vI wM
def fK (C_Board:Addr):MSp:=mFn 1 1 false fun E=>
  (bw (mFldS C_Board "things" (mLCM ow1 [] (nIt (mC d9)) yC (iG (aq (mC (.str "spot")) (aq (aC 0) aN)))) (aC 0))
  (mFldS C_Board "done" (nO aN) (aC 0)))
def jL (C_Board:Addr):MSp:=fK C_Board
def gZ (C_Board:Addr)(c_can_be_done c_made_by:MSp)(E:XWK):MS:=
  (bw (fW (yr bQ (zE C_Board "things" (aC 0)) (aq (bf c_made_by EF (aq (zE C_Board "things" (aC 0)) (aq (aC 1) aN))) aN)))
  (bw (fW (yr bQ (zE C_Board "done" (aC 0)) (aq (aC 1) aN)))
  (cN (mOp vO (mCB kLen (aq (zE C_Board "things" (aC 0)) aN)) (mC (.int 1))))))
def cI (C_Board:Addr)(c_can_be_done c_made_by:MSp):MSp:=mFn 2 2 false fun E=>
  (bw (gG (tH (tG (bf c_can_be_done EF (aq (zE C_Board "things" (aC 0)) (aq (aC 1) aN))))) (uw "Stuck" "at" (mCB kLen (aq (zE C_Board "done" (aC 0)) aN)) E) cu)
  (gZ C_Board c_can_be_done c_made_by E))
def dM (C_Board:Addr):MSp:=cI C_Board cA jm
def gq (C_Board:Addr):MSp:=mFn 1 1 false fun E=>
  (cN (mCB kLen (aq (zE C_Board "things" (aC 0)) aN)))
def jQ (C_Board:Addr):MSp:=gq C_Board
def gk (C_Board:Addr):MSp:=mFn 2 2 false fun E=>
  (cN (mOp kIx (mOp kIx (zE C_Board "things" (aC 0)) (aC 1)) (mC (.int 0))))
def jP (C_Board:Addr):MSp:=gk C_Board
def fP (C_Board:Addr):MSp:=mFn 2 2 false fun E=>
  (cN (mOp kIx (mOp kIx (zE C_Board "things" (aC 0)) (aC 1)) (mC (.int 1))))
def jN (C_Board:Addr):MSp:=fP C_Board
def oM (C_Board:Addr)(c_Board_init c_Board_take c_Board_many c_Board_kind c_Board_told:MSp)(E:XWK):MS:=
  (cN (mLCM ow1 [1] (nQ (aq (lG C_Board "many" c_Board_many EF (aC 1) aN) aN)) yC (iG (aq (lG C_Board "kind" c_Board_kind EF (aC 1) (aq (aC 0) aN)) (aq (lG C_Board "told" c_Board_told EF (aC 1) (aq (aC 0) aN)) aN)))))
def jg (C_Board:Addr)(c_Board_init c_Board_take c_Board_many c_Board_kind c_Board_told:MSp):MSp:=mFn 1 3 false fun E=>
  (bw (cj (mMake C_Board c_Board_init EF aN) (nName 1))
  (bw (mFor (nIt (aC 0)) (nName 2) (fW (lG C_Board "take" c_Board_take E (aC 1) (aq (aC 2) aN))))
  (oM C_Board c_Board_init c_Board_take c_Board_many c_Board_kind c_Board_told E)))
def dB (C_Board:Addr):MSp:=jg C_Board (jL C_Board) (dM C_Board) (jQ C_Board) (jP C_Board) (jN C_Board)
def pY (E:XWK):MS:=
  (cN (mC (.int 0)))
def lO:MSp:=mFn 2 2 false fun E=>
  (bw (gG (bx (mOp kLt (aC 1) (mCB kLen (aq (aC 0) aN)))) (cN (mOp kIx (aC 0) (aC 1))) cu)
  (pY E))
def eX:MSp:=lO
def qN (E:XWK):MS:=
  (cN (nO (aq (aC 0) (aq (mC (.int 7)) aN))))
def ur:MSp:=mFn 1 1 false fun E=>
  (bw (gG (bx (mOp kLt (aC 0) (mOp kPow (mC (.int 10)) (mC (.int 18))))) (cN (nO (aq (mC (.int 0)) (aq (mOp gJ (mOp yt (aC 0) (mC (.int 2147483647))) (mC (.int 7))) aN)))) cu)
  (qN E))
def lD:MSp:=ur
def xP (E:XWK):MS:=
  (bw (cj (mOp yt (mOp gJ (mOp sS (mOp kIx (aC 0) (mC (.int 1))) (mC (.int 48271))) (mC (.int 15731))) (mC (.int 2147483647))) (nSub (aC 0) (mC (.int 1)) sSetL))
  (cN (mOp yt (mOp kDiv (mOp yt (mOp sS (mOp kIx (aC 0) (mC (.int 1))) (mOp gJ (mOp kDiv (mOp kIx (aC 0) (mC (.int 1))) (mC (.int 32768))) (mC (.int 11)))) (mC (.int 2147483629))) (mC (.int 16))) (aC 1))))
def v8:MSp:=mFn 2 3 false fun E=>
  (bw (gG (bx (mOp kGt (mOp kIx (aC 0) (mC (.int 0))) (mC (.int 0)))) (bw (cj (mOp yt (mOp kIx (aC 0) (mC (.int 0))) (aC 1)) (nName 2))
  (bw (cj (mOp kDiv (mOp kIx (aC 0) (mC (.int 0))) (aC 1)) (nSub (aC 0) (mC (.int 0)) sSetL))
  (cN (aC 2)))) cu)
  (xP E))
def bC:MSp:=v8
def mQ:MSp:=mFn 1 1 false fun E=>
  (cN (rN (mCB yF (aq (aC 0) (aq (mC (.ty "int")) aN))) (mNotV (mCB yF (aq (aC 0) (aq (mC (.ty "bool")) aN))))))
def iY:MSp:=mQ
def iD (E:XWK):MS:=
  (cN (mCB rW (aq (aC 5) aN)))
def fj (E:XWK):MS:=
  (bw (cj (mLC ow1 [1] (nIt (aC 0)) yC (mOp kDiv (aC 0) (aC 1))) (nName 5))
  (bw (gG (bx (mOp kLt (mOp kIx (mLC ow1 [] (nIt (aC 5)) (bx (mOp kNe (aC 0) (mC (.int 0)))) (aC 0)) (mUn mNeg (mC (.int 1)))) (mC (.int 0)))) (cj (mLC ow1 [] (nIt (aC 5)) yC (mOp vO (mC (.int 0)) (aC 0))) (nName 5)) cu)
  (iD E)))
def sI:MSp:=mFn 1 6 false fun E=>
  (bw (cj (mC (.int 0)) (nName 1))
  (bw (mFor (nIt (aC 0)) (nName 2) (bw (cj (mCB kAbs (aq (aC 2) aN)) (nName 3))
  (bw (cj (aC 1) (nName 4))
  (bw (wD (bx (mOp kGt (aC 4) (mC (.int 0)))) (mPar 3 4 (aq (aC 4) (aq (mOp yt (aC 3) (aC 4)) aN))))
  (cj (aC 3) (nName 1))))))
  (fj E)))
def iZ:MSp:=sI
def mz:MSp:=mFn 2 8 false fun E=>
  (bw (cj (aC 0) (qU 3 (lW (nName 2) (lW (nName 3) (lW (nName 4) nNil)))))
  (bw (cj (aC 1) (qU 3 (lW (nName 5) (lW (nName 6) (lW (nName 7) nNil)))))
  (cN (iG (aq (mOp vO (mOp sS (aC 3) (aC 7)) (mOp sS (aC 4) (aC 6))) (aq (mOp vO (mOp sS (aC 4) (aC 5)) (mOp sS (aC 2) (aC 7))) (aq (mOp vO (mOp sS (aC 2) (aC 6)) (mOp sS (aC 3) (aC 5))) aN)))))))
def jx:MSp:=mz
def nW (c_l_draw:MSp)(E:XWK):MS:=
  (cN (iG (aq (aC 2) (aq (mOp kIx (aC 4) (mC (.int 0))) (aq (mOp kIx (aC 4) (mC (.int 1))) aN)))))
def qF (c_l_draw:MSp):MSp:=mFn 2 6 false fun E=>
  (bw (cj (yE (aq (mC (.str "join")) (aq (mC (.str "meet")) (aq (mC (.str "join")) (aq (mC (.str "meet")) (aq (mC (.str "join")) (aq (mC (.str "meet")) (aq (mC (.str "meet")) (aq (mOp kIx (yE (aq (mC (.str "")) (aq (mC (.str "Join")) (aq (mC (.str "line")) (aq (mC (.str "spot")) aN))))) (mOp yt (mCB kLen (aq (aC 1) aN)) (mC (.int 4)))) aN))))))))) (nName 2))
  (bw (cj (mOp kIx (aC 2) (bf c_l_draw E (aq (aC 0) (aq (mC (.int 8)) aN)))) (nName 2))
  (bw (cj (mLC ow1 [1,2] (nQ (aq (mCB kLen (aq (aC 1) aN)) aN)) (bx (mOp kEq (mOp kIx (mOp kIx (aC 1) (aC 0)) (mC (.int 0))) (xT 2 "meet" "line" "spot"))) (aC 0)) (nName 3))
  (bw (cj (nO aN) (nName 4))
  (bw (mFor (nQ (aq (mC (.int 2)) aN)) (nName 5) (gG (mOr (bx (mOp kEq (bf c_l_draw E (aq (aC 0) (aq (mC (.int 6)) aN))) (mC (.int 0)))) (bx (mOp kEq (aC 3) (yE aN)))) (fW (yr bQ (aC 4) (aq (mOp vO (bf c_l_draw E (aq (aC 0) (aq (mOp gJ (mCB kLen (aq (aC 1) aN)) (mC (.int 5))) aN))) (mC (.int 2))) aN))) (fW (yr bQ (aC 4) (aq (mOp kIx (aC 3) (bf c_l_draw E (aq (aC 0) (aq (mCB kLen (aq (aC 3) aN)) aN)))) aN)))))
  (nW c_l_draw E))))))
def lq:MSp:=qF bC
def lE (c_l_plain c_l_cross:MSp)(E:XWK):MS:=
  (cN (iG (aq (mOp kIx (aC 5) (mC (.int 1))) (aq (bf c_l_plain E (aq (bf c_l_cross E (aq (mOp kIx (mOp kIx (aC 1) (aC 3)) (mC (.int 1))) (aq (mOp kIx (mOp kIx (aC 1) (aC 4)) (mC (.int 1))) aN))) aN)) aN))))
def mH (c_l_plain c_l_cross:MSp)(E:XWK):MS:=
  (bw (gG (mOr (bx (mOp kNe (mOp kIx (mOp kIx (aC 1) (aC 3)) (mC (.int 0))) (mOp kIx (aC 5) (mC (.int 0))))) (mOr (bx (mOp kNe (mOp kIx (mOp kIx (aC 1) (aC 4)) (mC (.int 0))) (mOp kIx (aC 5) (mC (.int 0))))) (bx (mOp kEq (mOp kIx (mOp kIx (aC 1) (aC 3)) (mC (.int 1))) (mOp kIx (mOp kIx (aC 1) (aC 4)) (mC (.int 1))))))) (cN (mC .non)) cu)
  (lE c_l_plain c_l_cross E))
def rR (c_l_plain c_l_cross:MSp)(E:XWK):MS:=
  (bw (cj (yE (aq (mC (.str "spot")) (aq (mC (.str "line")) aN))) (nName 5))
  (bw (gG (bx (mOp kEq (aC 2) (mC (.str "meet")))) (cj (yE (aq (mC (.str "line")) (aq (mC (.str "spot")) aN))) (nName 5)) cu)
  (mH c_l_plain c_l_cross E)))
def uM (c_l_plain c_l_cross:MSp):MSp:=mFn 2 6 false fun E=>
  (bw (cj (aC 0) (qU 3 (lW (nName 2) (lW (nName 3) (lW (nName 4) nNil)))))
  (bw (gG (mOr (bx (mOp kNin (aC 2) (iG (aq (mC (.str "join")) (aq (mC (.str "meet")) aN))))) (mOr (tH (bx (j6 kLe kLt (mC (.int 0)) (aC 3) (mCB kLen (aq (aC 1) aN))))) (tH (bx (j6 kLe kLt (mC (.int 0)) (aC 4) (mCB kLen (aq (aC 1) aN))))))) (cN (mC .non)) cu)
  (rR c_l_plain c_l_cross E)))
def pW:MSp:=uM iZ jx
def nu (c_l_draw:MSp)(E:XWK):MS:=
  (cN (mOp kIx (aC 8) (bf c_l_draw E (aq (aC 0) (aq (mCB kLen (aq (aC 8) aN)) aN)))))
def uU (c_l_draw:MSp):MSp:=mFn 2 10 false fun E=>
  (bw (cj (mCB kLen (aq (aC 1) aN)) (nName 2))
  (bw (cj (mLC ow1 [1] (nQ (aq (aC 2) aN)) (bx (mOp kEq (mOp kIx (mOp kIx (aC 1) (aC 0)) (mC (.int 0))) (mC (.str "spot")))) (aC 0)) (nName 3))
  (bw (cj (mLC ow1 [1] (nQ (aq (aC 2) aN)) (bx (mOp kEq (mOp kIx (mOp kIx (aC 1) (aC 0)) (mC (.int 0))) (mC (.str "line")))) (aC 0)) (nName 4))
  (bw (cj (mOp kIx (aC 3) (bf c_l_draw E (aq (aC 0) (aq (mCB kLen (aq (aC 3) aN)) aN)))) (nName 5))
  (bw (cj (mOp kIx (aC 3) (bf c_l_draw E (aq (aC 0) (aq (mCB kLen (aq (aC 3) aN)) aN)))) (nName 6))
  (bw (cj (mOp gJ (aC 2) (bf c_l_draw E (aq (aC 0) (aq (mC (.int 1000)) aN)))) (nName 7))
  (bw (cj (yE (aq (iG (aq (mC (.str "joins")) (aq (aC 5) (aq (aC 6) aN)))) (aq (iG (aq (mC (.str "")) (aq (aC 5) (aq (aC 6) aN)))) (aq (iG (aq (mC (.str "join")) (aq (aC 5) (aq (aC 5) aN)))) (aq (iG (aq (mC (.str "join")) (aq (mOp vO (mUn mNeg (mC (.int 1))) (bf c_l_draw E (aq (aC 0) (aq (mC (.int 50)) aN)))) (aq (aC 5) aN)))) aN))))) (nName 8))
  (bw (cj (mOp gJ (aC 8) (yE (aq (iG (aq (mC (.str "join")) (aq (aC 5) (aq (aC 7) aN)))) (aq (iG (aq (mC (.str "meet")) (aq (aC 5) (aq (aC 6) aN)))) (aq (iG (aq (mC (.str "meet")) (aq (aC 7) (aq (aC 5) aN)))) aN))))) (nName 8))
  (bw (gG (bx (mOp kNe (aC 4) (yE aN))) (bw (cj (mOp kIx (aC 4) (bf c_l_draw E (aq (aC 0) (aq (mCB kLen (aq (aC 4) aN)) aN)))) (nName 9))
  (cj (mOp gJ (aC 8) (yE (aq (iG (aq (mC (.str "join")) (aq (aC 9) (aq (aC 5) aN)))) (aq (iG (aq (mC (.str "join")) (aq (aC 5) (aq (aC 9) aN)))) (aq (iG (aq (mC (.str "meet")) (aq (aC 9) (aq (aC 5) aN)))) (aq (iG (aq (mC (.str "meet")) (aq (aC 9) (aq (aC 9) aN)))) aN)))))) (nName 8))) cu)
  (nu c_l_draw E))))))))))
def qg:MSp:=uU bC
def oO (c_l_whole:MSp)(E:XWK):MS:=
  (cN (mC (.bl true)))
def n8 (c_l_whole:MSp)(E:XWK):MS:=
  (bw (mFor (nQ (aq (mCB kLen (aq (aC 1) aN)) aN)) (nName 2) (bw (gG (mOr (tH (tG (mCB yF (aq (mOp kIx (aC 0) (aC 2)) (aq (mC (.ty "tuple")) aN))))) (mOr (bx (mOp kNe (mOp kIx (aC 0) (aC 2)) (mOp kIx (aC 1) (aC 2)))) (tH (tG (mCB yF (aq (mOp kIx (mOp kIx (aC 0) (aC 2)) (mC (.int 1))) (aq (mC (.ty "tuple")) aN))))))) (cN (mC (.bl false))) cu)
  (gG (tH (tG (mCB kAll (aq (mLC ow1 [] (nIt (mOp kIx (mOp kIx (aC 0) (aC 2)) (mC (.int 1)))) yC (bf c_l_whole E (aq (aC 0) aN))) aN)))) (cN (mC (.bl false))) cu)))
  (oO c_l_whole E))
def pZ (c_l_whole:MSp):MSp:=mFn 2 3 false fun E=>
  (bw (gG (mOr (tH (tG (mCB yF (aq (aC 0) (aq (mC (.ty "list")) aN))))) (bx (mOp kNe (mCB kLen (aq (aC 0) aN)) (mCB kLen (aq (aC 1) aN))))) (cN (mC (.bl false))) cu)
  (n8 c_l_whole E))
def iI:MSp:=pZ iY
def pI (c_walked:MSp)(E:XWK):MS:=
  (cN (mC (.bl false)))
def iu (c_walked:MSp):MSp:=mFn 2 4 false fun E=>
  (bw (cj (mCB yj (aq (aC 0) aN)) (nName 2))
  (bw (mTry 3 "EaselError" (fun E=>(fW (bf c_walked E (aq (aC 2) aN)))) (bw (gG (mOr (tG (mIsX (fun n=>((isX n "Alike")||((isX n "Nothing")||((isX n "NoText")||((isX n "NotOnEdge")||((isX n "Tied")||false)))))) (aC 3))) (tH (tG (mIsX (fun n=>true) (aC 3))))) (cN (mC (.bl false))) cu)
  (cN (rN (mIsX (fun n=>(isX n "Stuck")) (aC 3)) (rN (mOp kEq (mXFld "at" (aC 3)) (aC 1)) (mOp kEq (aC 2) (aC 0)))))))
  (pI c_walked E)))
def eO (C_Board:Addr):MSp:=iu (dB C_Board)
def vJ (c_walked c_l_cell_at c_l_bag c_l_draw c_l_step c_l_due c_l_bad c_l_good c_l_refused:MSp)(E:XWK):MS:=
  (cN (bf c_l_good E (aq (bf c_walked E (aq (aC 6) aN)) (aq (aC 1) aN))))
def zF (c_walked c_l_cell_at c_l_bag c_l_draw c_l_step c_l_due c_l_bad c_l_good c_l_refused:MSp)(E:XWK):MS:=
  (bw (fW (mBMr0 oH (aC 7)))
  (bw (cj (bf c_l_bag E (aq (bf c_l_cell_at E (aq (aC 0) (aq (mC (.int 0)) aN))) aN)) (nName 8))
  (bw (cj (bf c_l_draw E (aq (aC 8) (aq (mOp gJ (mCB kLen (aq (aC 2) aN)) (mC (.int 1))) aN))) (nName 9))
  (bw (cj (bf c_l_bad E (aq (aC 8) (aq (mSl kSl2 (aC 1) mV (uF (mOp gJ (mC (.int 4)) (aC 9)))) aN))) (nName 10))
  (bw (gG (tH (tG (bf c_l_refused E (aq (mOp gJ (mOp gJ (mSl kSl2 (aC 2) mV (uF (aC 9))) (yE (aq (aC 10) aN))) (mSl kSl2 (aC 2) (uF (aC 9)) mV)) (aq (aC 9) aN))))) (cN (mC (.bl false))) cu)
  (vJ c_walked c_l_cell_at c_l_bag c_l_draw c_l_step c_l_due c_l_bad c_l_good c_l_refused E))))))
def uR (c_walked c_l_cell_at c_l_bag c_l_draw c_l_step c_l_due c_l_bad c_l_good c_l_refused:MSp)(E:XWK):MS:=
  (bw (cj (mCB yj (aq (aC 2) aN)) (nName 6))
  (bw (cj (bf c_walked E (aq (aC 6) aN)) (nName 7))
  (bw (gG (mOr (tH (tG (bf c_l_good E (aq (aC 7) (aq (aC 1) aN))))) (bx (mOp kNe (aC 6) (aC 2)))) (cN (mC (.bl false))) cu)
  (zF c_walked c_l_cell_at c_l_bag c_l_draw c_l_step c_l_due c_l_bad c_l_good c_l_refused E))))
def r_law (c_walked c_l_cell_at c_l_bag c_l_draw c_l_step c_l_due c_l_bad c_l_good c_l_refused:MSp):MSp:=mFn 1 11 false fun E=>
  (bw (cj (nO (aq (iG (aq (mC (.str "spot")) (aq (iG (aq (mC (.int 0)) (aq (mC (.int 0)) (aq (mC (.int 1)) aN)))) aN))) (aq (iG (aq (mC (.str "spot")) (aq (iG (aq (mC (.int 1)) (aq (mC (.int 0)) (aq (mC (.int 1)) aN)))) aN))) (aq (iG (aq (mC (.str "spot")) (aq (iG (aq (mC (.int 0)) (aq (mC (.int 1)) (aq (mC (.int 1)) aN)))) aN))) (aq (iG (aq (mC (.str "spot")) (aq (iG (aq (mC (.int 1)) (aq (mC (.int 1)) (aq (mC (.int 1)) aN)))) aN))) aN))))) (nName 1))
  (bw (cj (nO aN) (nName 2))
  (bw (mFor (nIt (mSl kSl2 (aC 0) (uF (mC (.int 1))) (uF (mC (.int 41))))) (nName 3) (bw (cj (bf c_l_step E (aq (bf c_l_bag E (aq (aC 3) aN)) (aq (aC 1) aN))) (nName 4))
  (bw (cj (bf c_l_due E (aq (aC 4) (aq (aC 1) aN))) (nName 5))
  (gG (mAnd (bx (mOp kIsnt (aC 5) (mC .non))) (bx (mOp kLt (mCB kMaxA (aq (mLC ow1 [] (nIt (mOp kIx (aC 5) (mC (.int 1)))) yC (mCB kAbs (aq (aC 0) aN))) aN)) (mOp kPow (mC (.int 10)) (mC (.int 40)))))) (bw (fW (yr bQ (aC 1) (aq (aC 5) aN)))
  (fW (yr bQ (aC 2) (aq (aC 4) aN)))) cu))))
  (uR c_walked c_l_cell_at c_l_bag c_l_draw c_l_step c_l_due c_l_bad c_l_good c_l_refused E))))
def m_law (C_Board:Addr):MSp:=r_law (dB C_Board) eX lD bC lq pW qg iI (eO C_Board)
structure Ad where
 f_is_whole:Addr
 d_is_whole:FuncData
 f_divisor_of_two:Addr
 d_divisor_of_two:FuncData
 f_divisor:Addr
 d_divisor:FuncData
 f_ends_below:Addr
 d_ends_below:FuncData
 f_plain:Addr
 d_plain:FuncData
 f_cross:Addr
 d_cross:FuncData
 f_plain_cross:Addr
 d_plain_cross:FuncData
 f_join:Addr
 d_join:FuncData
 f_meet:Addr
 d_meet:FuncData
 f_is_number_of:Addr
 d_is_number_of:FuncData
 f_can_be_done:Addr
 d_can_be_done:FuncData
 f_made_by:Addr
 d_made_by:FuncData
 f_Board_init:Addr
 d_Board_init:FuncData
 f_Board_take:Addr
 d_Board_take:FuncData
 f_Board_many:Addr
 d_Board_many:FuncData
 f_Board_kind:Addr
 d_Board_kind:FuncData
 f_Board_told:Addr
 d_Board_told:FuncData
 f_walked:Addr
 d_walked:FuncData
 f_l_cell_at:Addr
 d_l_cell_at:FuncData
 f_l_bag:Addr
 d_l_bag:FuncData
 f_l_draw:Addr
 d_l_draw:FuncData
 f_l_whole:Addr
 d_l_whole:FuncData
 f_l_plain:Addr
 d_l_plain:FuncData
 f_l_cross:Addr
 d_l_cross:FuncData
 f_l_step:Addr
 d_l_step:FuncData
 f_l_due:Addr
 d_l_due:FuncData
 f_l_bad:Addr
 d_l_bad:FuncData
 f_l_good:Addr
 d_l_good:FuncData
 f_l_refused:Addr
 d_l_refused:FuncData
 f_law:Addr
 d_law:FuncData
 a_CORNERS:Addr
 a_NEEDED:Addr
 c_Board:Addr
 x_EaselError:Addr
 x_Nothing:Addr
 x_Alike:Addr
 x_Stuck:Addr
 x_NotOnEdge:Addr
 x_Tied:Addr
 x_NoText:Addr
 f_Stuck_init:Addr
 d_Stuck_init:FuncData
structure Txt (w:World) (K:PySem.W.Frag) (mg:Str→Option Value) (t:Ad):Prop where
 F_is_whole:Fun K "is_whole" "is_whole" gD t.f_is_whole t.d_is_whole
 gw:mg "is_whole" = some (.ref t.f_is_whole)
 b_is_whole:Binds K t.d_is_whole ["thing"] []
 F_divisor_of_two:Fun K "divisor_of_two" "divisor_of_two" bY t.f_divisor_of_two t.d_divisor_of_two
 bZ:mg "divisor_of_two" = some (.ref t.f_divisor_of_two)
 b_divisor_of_two:Binds K t.d_divisor_of_two ["one", "other"] []
 F_divisor:Fun K "divisor" "divisor" jt t.f_divisor t.d_divisor
 jf:mg "divisor" = some (.ref t.f_divisor)
 b_divisor:Binds K t.d_divisor ["numbers"] []
 F_ends_below:Fun K "ends_below" "ends_below" dR t.f_ends_below t.d_ends_below
 dU:mg "ends_below" = some (.ref t.f_ends_below)
 b_ends_below:Binds K t.d_ends_below ["numbers"] []
 F_plain:Fun K "plain" "plain" pU t.f_plain t.d_plain
 mY:mg "plain" = some (.ref t.f_plain)
 b_plain:Binds K t.d_plain ["numbers"] []
 F_cross:Fun K "cross" "cross" pR t.f_cross t.d_cross
 pG:mg "cross" = some (.ref t.f_cross)
 b_cross:Binds K t.d_cross ["one", "other"] []
 F_plain_cross:Fun K "plain_cross" "plain_cross" cP t.f_plain_cross t.d_plain_cross
 bJ:mg "plain_cross" = some (.ref t.f_plain_cross)
 b_plain_cross:Binds K t.d_plain_cross ["one", "other"] []
 F_join:Fun K "join" "join" wK t.f_join t.d_join
 vI:mg "join" = some (.ref t.f_join)
 b_join:Binds K t.d_join ["one", "other"] []
 F_meet:Fun K "meet" "meet" uW t.f_meet t.d_meet
 wM:mg "meet" = some (.ref t.f_meet)
 b_meet:Binds K t.d_meet ["one", "other"] []
 F_is_number_of:Fun K "is_number_of" "is_number_of" cG t.f_is_number_of t.d_is_number_of
 bU:mg "is_number_of" = some (.ref t.f_is_number_of)
 b_is_number_of:Binds K t.d_is_number_of ["things", "number", "kind"] []
 F_can_be_done:Fun K "can_be_done" "can_be_done" cO t.f_can_be_done t.d_can_be_done
 cA:mg "can_be_done" = some (.ref t.f_can_be_done)
 b_can_be_done:Binds K t.d_can_be_done ["things", "step"] []
 F_made_by:Fun K "made_by" "made_by" jq t.f_made_by t.d_made_by
 jm:mg "made_by" = some (.ref t.f_made_by)
 b_made_by:Binds K t.d_made_by ["things", "step"] []
 F_Board_init:Fun K "__init__" "Board.__init__" dG t.f_Board_init t.d_Board_init
 b_Board_init:Binds K t.d_Board_init ["self"] []
 F_Board_take:Fun K "take" "Board.take" dI t.f_Board_take t.d_Board_take
 me_Board_take:Meth K t.c_Board "take" t.f_Board_take
 b_Board_take:Binds K t.d_Board_take ["self", "step"] []
 F_Board_many:Fun K "many" "Board.many" dF t.f_Board_many t.d_Board_many
 me_Board_many:Meth K t.c_Board "many" t.f_Board_many
 b_Board_many:Binds K t.d_Board_many ["self"] []
 F_Board_kind:Fun K "kind" "Board.kind" dj t.f_Board_kind t.d_Board_kind
 me_Board_kind:Meth K t.c_Board "kind" t.f_Board_kind
 b_Board_kind:Binds K t.d_Board_kind ["self", "i"] []
 F_Board_told:Fun K "told" "Board.told" dz t.f_Board_told t.d_Board_told
 me_Board_told:Meth K t.c_Board "told" t.f_Board_told
 b_Board_told:Binds K t.d_Board_told ["self", "i"] []
 F_walked:Fun K "walked" "walked" lA t.f_walked t.d_walked
 dB:mg "walked" = some (.ref t.f_walked)
 b_walked:Binds K t.d_walked ["steps"] []
 F_l_cell_at:Fun K "_law_cell_at" "_law_cell_at" fC t.f_l_cell_at t.d_l_cell_at
 eX:mg "_law_cell_at" = some (.ref t.f_l_cell_at)
 b_l_cell_at:Binds K t.d_l_cell_at ["_law_script", "_law_k"] []
 F_l_bag:Fun K "_law_bag" "_law_bag" pX t.f_l_bag t.d_l_bag
 lD:mg "_law_bag" = some (.ref t.f_l_bag)
 b_l_bag:Binds K t.d_l_bag ["_law_cell"] []
 F_l_draw:Fun K "_law_draw" "_law_draw" kW t.f_l_draw t.d_l_draw
 bC:mg "_law_draw" = some (.ref t.f_l_draw)
 b_l_draw:Binds K t.d_l_draw ["_law_bag_here", "_law_many"] []
 F_l_whole:Fun K "_law_whole" "_law_whole" iT t.f_l_whole t.d_l_whole
 iY:mg "_law_whole" = some (.ref t.f_l_whole)
 b_l_whole:Binds K t.d_l_whole ["_law_found"] []
 F_l_plain:Fun K "_law_plain" "_law_plain" iV t.f_l_plain t.d_l_plain
 iZ:mg "_law_plain" = some (.ref t.f_l_plain)
 b_l_plain:Binds K t.d_l_plain ["_law_row"] []
 F_l_cross:Fun K "_law_cross" "_law_cross" iW t.f_l_cross t.d_l_cross
 jx:mg "_law_cross" = some (.ref t.f_l_cross)
 b_l_cross:Binds K t.d_l_cross ["_law_one", "_law_other"] []
 F_l_step:Fun K "_law_step" "_law_step" kh t.f_l_step t.d_l_step
 lq:mg "_law_step" = some (.ref t.f_l_step)
 b_l_step:Binds K t.d_l_step ["_law_bag_here", "_law_things"] []
 F_l_due:Fun K "_law_due" "_law_due" qj t.f_l_due t.d_l_due
 pW:mg "_law_due" = some (.ref t.f_l_due)
 b_l_due:Binds K t.d_l_due ["_law_step_here", "_law_things"] []
 F_l_bad:Fun K "_law_bad" "_law_bad" p8 t.f_l_bad t.d_l_bad
 qg:mg "_law_bad" = some (.ref t.f_l_bad)
 b_l_bad:Binds K t.d_l_bad ["_law_bag_here", "_law_things"] []
 F_l_good:Fun K "_law_good" "_law_good" kZ t.f_l_good t.d_l_good
 iI:mg "_law_good" = some (.ref t.f_l_good)
 b_l_good:Binds K t.d_l_good ["_law_found", "_law_things"] []
 F_l_refused:Fun K "_law_refused" "_law_refused" eZ t.f_l_refused t.d_l_refused
 eO:mg "_law_refused" = some (.ref t.f_l_refused)
 b_l_refused:Binds K t.d_l_refused ["_law_steps", "_law_place"] []
 F_law:Fun K "law" "law" s_law t.f_law t.d_law
 m_law:mg "law" = some (.ref t.f_law)
 b_law:Binds K t.d_law ["_law_script"] []
 z_ValueError:mg "ValueError" = none
 z_abs:mg "abs" = none
 z_all:mg "all" = none
 z_bool:mg "bool" = none
 z_int:mg "int" = none
 z_isinstance:mg "isinstance" = none
 z_len:mg "len" = none
 z_list:mg "list" = none
 z_max:mg "max" = none
 z_range:mg "range" = none
 z_reversed:mg "reversed" = none
 z_str:mg "str" = none
 z_tuple:mg "tuple" = none
 g_CORNERS:mg "CORNERS" = some (.ref t.a_CORNERS)
 r_CORNERS:∀ H μ,Rep K H μ d9 (.ref t.a_CORNERS)
 g_NEEDED:mg "NEEDED" = some (.ref t.a_NEEDED)
 K_NEEDED:TabK w K t.a_NEEDED cC
 cl_Board:Cls K t.c_Board
 cm_Board:mg "Board" = some (.ref t.c_Board)
 mk_Board:Mk K t.c_Board t.f_Board_init
 na_Board_things:gP K t.c_Board "things"
 na_Board_done:gP K t.c_Board "done"
 xm_EaselError:mg "EaselError" = some (.ref t.x_EaselError)
 xd_EaselError:lQ K t.x_EaselError "EaselError" = true
 xm_Nothing:mg "Nothing" = some (.ref t.x_Nothing)
 xd_Nothing:lQ K t.x_Nothing "Nothing" = true
 xm_Alike:mg "Alike" = some (.ref t.x_Alike)
 xd_Alike:lQ K t.x_Alike "Alike" = true
 xm_Stuck:mg "Stuck" = some (.ref t.x_Stuck)
 xd_Stuck:lQ K t.x_Stuck "Stuck" = true
 xm_NotOnEdge:mg "NotOnEdge" = some (.ref t.x_NotOnEdge)
 xd_NotOnEdge:lQ K t.x_NotOnEdge "NotOnEdge" = true
 xm_Tied:mg "Tied" = some (.ref t.x_Tied)
 xd_Tied:lQ K t.x_Tied "Tied" = true
 xm_NoText:mg "NoText" = some (.ref t.x_NoText)
 xd_NoText:lQ K t.x_NoText "NoText" = true
 F_Stuck_init:Fun K "__init__" "Stuck.__init__" dH t.f_Stuck_init t.d_Stuck_init
 b_Stuck_init:Binds K t.d_Stuck_init ["self", "at"] []
 xi_Stuck:xJ K t.x_Stuck t.f_Stuck_init vmB "ValueError.__new__" = true
 xf_Stuck:PySem.W.isFn K (.ref t.f_Stuck_init)=true
 xa_Stuck:xaIn K t.x_Stuck "Stuck" = true
 xs_Stuck:xsIn K t.x_Stuck "at" = true
section
variable {P:Program}{w:World}{K:PySem.W.Frag}{mg:Str→Option Value}{base:Heap}{t:Ad}
theorem okI_Stuck (T:Txt w K mg t):bT P w K mg base CX0 1 t.f_Stuck_init t.d_Stuck_init ["self", "at"] (spI t.x_Stuck "at"):=
 init_fn (k:=0) T.F_Stuck_init qK fun cdv A outer s H E hr=>tQ (ps_xset T.xs_Stuck (pv 0) (pv 1) (by rfl))
theorem uE (T:Txt w K mg t):bT P w K mg base CX0 10 t.f_is_whole t.d_is_whole ["thing"] (lift K gw):=by
 have nd:=lK.nd
 refine jB (k:=9) T.F_is_whole lK fun cdv A outer s H E hr=>?_
 have hc:=hr.calm (by decide)
 refine aG ?_
 exact (aR (yc (aO sE (by rfl) (by exact T.z_isinstance) boot_isinstance (ao (dv 0 (pv 0)) (ao (dc (dX (v:=.ty "int") (by rfl) (by exact T.z_int) boot_int (by rfl)) (fun _ _=>by rw [Rep])) au (aj (by rfl))) (aj (by rfl))) (by decide) (by decide) (aj (by rfl)) (aA (by rfl))) (d_one (d_not (aO sE (by rfl) (by exact T.z_isinstance) boot_isinstance (ao (dv 0 (pv 0)) (ao (dc (dX (v:=.ty "bool") (by rfl) (by exact T.z_bool) boot_bool (by rfl)) (fun _ _=>by rw [Rep])) au (aj (by rfl))) (aj (by rfl))) (by decide) (by decide) (aj (by rfl)) (aA (by rfl)))))))
theorem jF (T:Txt w K mg t):bT P w K mg base CX0 10 t.f_divisor_of_two t.d_divisor_of_two ["one", "other"] (lift K bZ):=by
 have nd:=d7.nd
 refine jB (k:=9) T.F_divisor_of_two d7 fun cdv A outer s H E hr=>?_
 have hc:=hr.calm (by decide)
 refine aB ?_ ?_
 ·exact (aQ (i:=0) nd (by rfl) (by exact Or.inl rfl) (aO c_abs (by rfl) (by exact T.z_abs) boot_abs (ao (dv 0 (pv 0)) au (aj (by rfl))) (by decide) (by decide) (aj (by rfl)) (aA (by rfl))))
 refine aB ?_ ?_
 ·exact (aQ (i:=1) nd (by rfl) (by exact Or.inl rfl) (aO c_abs (by rfl) (by exact T.z_abs) boot_abs (ao (dv 1 (pv 1)) au (aj (by rfl))) (by decide) (by decide) (aj (by rfl)) (aA (by rfl))))
 refine aB ?_ ?_
 ·exact (uZ PassesOwn.never (bD (yG (j5 hr)) (dv 1 (pv 1)) aF (aY _)) (aB (aQ (i:=2) nd (by rfl) (by exact Or.inl rfl) (cF pD (dv 0 (pv 0)) (dv 1 (pv 1))))
  (aB (aQ (i:=0) nd (by rfl) (by exact Or.inl rfl) (dv 1 (pv 1)))
  (aG (aQ (i:=1) nd (by rfl) (by exact Or.inl rfl) (dv 2 (pv 2)))))))
 refine aG ?_
 exact (aR (dv 0 (pv 0)))
theorem xV (T:Txt w K mg t):bT P w K mg base CX0 11 t.f_divisor t.d_divisor ["numbers"] (lift K jf):=by
 have nd:=oF.nd
 refine jB (k:=10) T.F_divisor oF fun cdv A outer s H E hr=>?_
 have hc:=hr.calm (by decide)
 refine aB ?_ ?_
 ·exact (aQ (i:=1) nd (by rfl) (by exact Or.inl rfl) aF)
 refine aB ?_ ?_
 ·exact (oh PassesOwn.never hc (fU (dv 0 (pv 0))) (bR (bO (i:=2) nd (by rfl) (by exact Or.inl rfl))) (aG (aQ (i:=1) nd (by rfl) (by exact Or.inl rfl) (aV ((jF T).mono (by decide)) hr (by rfl) (by exact T.bZ) (by exact T.F_divisor_of_two.kp) (by exact T.b_divisor_of_two) (ao (dv 2 (pv 2)) (ao (dv 1 (pv 1)) au (aj (by rfl))) (aj (by rfl))) (by decide) (aj (by rfl)) (aA (by rfl))))))
 refine aG ?_
 exact (aR (dv 1 (pv 1)))
theorem qI (T:Txt w K mg t):bT P w K mg base CX0 10 t.f_ends_below t.d_ends_below ["numbers"] (lift K dU):=by
 have nd:=jl.nd
 refine jB (k:=9) T.F_ends_below jl fun cdv A outer s H E hr=>?_
 have hc:=hr.calm (by decide)
 refine aB ?_ ?_
 ·exact (oh PassesOwn.never hc (di_rev2 (by rfl) (by exact T.z_reversed) (ao (dv 0 (pv 0)) au (aj (by rfl))) (aj (by rfl)) (aA (by rfl))) (bR (bO (i:=1) nd (by rfl) (by exact Or.inl rfl))) (aG (cM (bD (yG (j5 hr)) (dv 1 (pv 1)) aF (aY _)) (aG (aR (d_cmp o_lt (dv 1 (pv 1)) aF (aY _)))) aZ)))
 refine aG ?_
 exact (aR yu)
theorem ok_plain (T:Txt w K mg t):bT P w K mg base CX0 12 t.f_plain t.d_plain ["numbers"] (lift K mY):=by
 have nd:=u0.nd
 refine jB (k:=11) T.F_plain u0 fun cdv A outer s H E hr=>?_
 have hc:=hr.calm (by decide)
 refine aB ?_ ?_
 ·exact (aQ (i:=1) nd (by rfl) (by exact Or.inr rfl) (aV ((xV T).mono (by decide)) hr (by rfl) (by exact T.jf) (by exact T.F_divisor.kp) (by exact T.b_divisor) (ao (dv 0 (pv 0)) au (aj (by rfl))) (by decide) (aj (by rfl)) (aA (by rfl))))
 refine aB ?_ ?_
 ·exact (cM (bD (vh (j5 hr)) (dv 1 (pv 1)) aF (aY _)) (aG vN) aZ)
 refine aB ?_ ?_
 ·exact (cM (dN (aV ((qI T).mono (by decide)) hr (by rfl) (by exact T.dU) (by exact T.F_ends_below.kp) (by exact T.b_ends_below) (ao (dv 0 (pv 0)) au (aj (by rfl))) (by decide) (aj (by rfl)) (aA (by rfl)))) (aG (aQ (i:=1) nd (by rfl) (by exact Or.inr rfl) (d_neg (dv 1 (pv 1))))) aZ)
 refine aG ?_
 exact (aR (kY c_tuple (by rfl) (by exact T.z_tuple) boot_tuple (ao (d_lc [1] hc (bK (by rfl)) j9 (j8 (bK (by rfl))) (fU (dv 0 (pv 0))) (fun _ _ _ _=>iy) (fun _ _ _ _=>(cF zK (dv 0 (pv 0)) (dv 1 (pv 1))))) au (aj (by rfl))) (by decide) (by decide) (aj (by rfl)) (aA (by rfl))))
theorem ok_cross (T:Txt w K mg t):bT P w K mg base CX0 10 t.f_cross t.d_cross ["one", "other"] (lift K pG):=by
 have nd:=vV.nd
 refine jB (k:=9) T.F_cross vV fun cdv A outer s H E hr=>?_
 have hc:=hr.calm (by decide)
 refine aG ?_
 exact (aR (bA (ao (cF mF (cF jh (bG (dv 0 (pv 0)) aF (by intro _ _;rfl)) (bG (dv 1 (pv 1)) aF (by intro _ _;rfl))) (cF jh (bG (dv 0 (pv 0)) aF (by intro _ _;rfl)) (bG (dv 1 (pv 1)) aF (by intro _ _;rfl)))) (ao (cF mF (cF jh (bG (dv 0 (pv 0)) aF (by intro _ _;rfl)) (bG (dv 1 (pv 1)) aF (by intro _ _;rfl))) (cF jh (bG (dv 0 (pv 0)) aF (by intro _ _;rfl)) (bG (dv 1 (pv 1)) aF (by intro _ _;rfl)))) (ao (cF mF (cF jh (bG (dv 0 (pv 0)) aF (by intro _ _;rfl)) (bG (dv 1 (pv 1)) aF (by intro _ _;rfl))) (cF jh (bG (dv 0 (pv 0)) aF (by intro _ _;rfl)) (bG (dv 1 (pv 1)) aF (by intro _ _;rfl)))) au (aj (by rfl))) (aj (by rfl))) (aj (by rfl)))))
theorem gR (T:Txt w K mg t):bT P w K mg base CX0 13 t.f_plain_cross t.d_plain_cross ["one", "other"] (lift K bJ):=by
 have nd:=gW.nd
 refine jB (k:=12) T.F_plain_cross gW fun cdv A outer s H E hr=>?_
 have hc:=hr.calm (by decide)
 refine aB ?_ ?_
 ·exact (cM (bD (vh (j5 hr)) (dv 0 (pv 0)) (dv 1 (pv 1)) (aY _)) (aG vN) aZ)
 refine aG ?_
 exact (aR (aV ((ok_plain T).mono (by decide)) hr (by rfl) (by exact T.mY) (by exact T.F_plain.kp) (by exact T.b_plain) (ao (aV ((ok_cross T).mono (by decide)) hr (by rfl) (by exact T.pG) (by exact T.F_cross.kp) (by exact T.b_cross) (ao (dv 0 (pv 0)) (ao (dv 1 (pv 1)) au (aj (by rfl))) (aj (by rfl))) (by decide) (aj (by rfl)) (aA (by rfl))) au (aj (by rfl))) (by decide) (aj (by rfl)) (aA (by rfl))))
theorem ok_join (T:Txt w K mg t):bT P w K mg base CX0 14 t.f_join t.d_join ["one", "other"] (lift K vI):=by
 have nd:=zO.nd
 refine jB (k:=13) T.F_join zO fun cdv A outer s H E hr=>?_
 have hc:=hr.calm (by decide)
 refine aG ?_
 exact (aR (aV ((gR T).mono (by decide)) hr (by rfl) (by exact T.bJ) (by exact T.F_plain_cross.kp) (by exact T.b_plain_cross) (ao (dv 0 (pv 0)) (ao (dv 1 (pv 1)) au (aj (by rfl))) (aj (by rfl))) (by decide) (aj (by rfl)) (aA (by rfl))))
theorem ok_meet (T:Txt w K mg t):bT P w K mg base CX0 14 t.f_meet t.d_meet ["one", "other"] (lift K wM):=by
 have nd:=Ab.nd
 refine jB (k:=13) T.F_meet Ab fun cdv A outer s H E hr=>?_
 have hc:=hr.calm (by decide)
 refine aG ?_
 exact (aR (aV ((gR T).mono (by decide)) hr (by rfl) (by exact T.bJ) (by exact T.F_plain_cross.kp) (by exact T.b_plain_cross) (ao (dv 0 (pv 0)) (ao (dv 1 (pv 1)) au (aj (by rfl))) (aj (by rfl))) (by decide) (aj (by rfl)) (aA (by rfl))))
theorem fQ (T:Txt w K mg t):bT P w K mg base CX0 11 t.f_is_number_of t.d_is_number_of ["things", "number", "kind"] (lift K bU):=by
 have nd:=fJ.nd
 refine jB (k:=10) T.F_is_number_of fJ fun cdv A outer s H E hr=>?_
 have hc:=hr.calm (by decide)
 refine aG ?_
 exact (aR (yc (aV ((uE T).mono (by decide)) hr (by rfl) (by exact T.gw) (by exact T.F_is_whole.kp) (by exact T.b_is_whole) (ao (dv 1 (pv 1)) au (aj (by rfl))) (by decide) (aj (by rfl)) (aA (by rfl))) (yc (d_chain o_le o_lt aF (dv 1 (pv 1)) (aO cQ (by rfl) (by exact T.z_len) PySem.boot_len (ao (dv 0 (pv 0)) au (aj (by rfl))) (by decide) (by decide) (aj (by rfl)) (aA (by rfl))) (by with_unfolding_all rfl)) (d_one (d_cmp (vh (j5 hr)) (bG (bG (dv 0 (pv 0)) (dv 1 (pv 1)) (by intro _ _;rfl)) aF (by intro _ _;rfl)) (dv 2 (pv 2)) (aY _))))))
theorem nF (T:Txt w K mg t):bT P w K mg base CX0 12 t.f_can_be_done t.d_can_be_done ["things", "step"] (lift K cA):=by
 have nd:=gQ.nd
 refine jB (k:=11) T.F_can_be_done gQ fun cdv A outer s H E hr=>?_
 have hc:=hr.calm (by decide)
 refine aB ?_ ?_
 ·exact (cM (jJ (dJ (dN (aO sE (by rfl) (by exact T.z_isinstance) boot_isinstance (ao (dv 1 (pv 1)) (ao (dc (dX (v:=.ty "tuple") (by rfl) (by exact T.z_tuple) boot_tuple (by rfl)) (fun _ _=>by rw [Rep])) au (aj (by rfl))) (aj (by rfl))) (by decide) (by decide) (aj (by rfl)) (aA (by rfl))))) (gY (bD (yG (j5 hr)) (aO cQ (by rfl) (by exact T.z_len) PySem.boot_len (ao (dv 1 (pv 1)) au (aj (by rfl))) (by decide) (by decide) (aj (by rfl)) (aA (by rfl))) aF (aY _)))).pt (aG (aR yu)) aZ)
 refine aB ?_ ?_
 ·exact (cM (jJ (dJ (dN (aO c_isiS (by rfl) (by exact T.z_isinstance) boot_isinstance (ao (bG (dv 1 (pv 1)) aF (by intro _ _;rfl)) (ao (dc (dX (v:=.ty "str") (by rfl) (by exact T.z_str) boot_str (by rfl)) (fun _ _=>by rw [Rep])) au (aj (by rfl))) (aj (by rfl))) (by decide) (by decide) (aj (by rfl)) (aA (by rfl))))) (gY (zB T.K_NEEDED (by rfl) T.g_NEEDED (bG (dv 1 (pv 1)) aF (by intro _ _;rfl)) (by with_unfolding_all rfl)))).pt (aG (aR yu)) aZ)
 refine aB ?_ ?_
 ·exact (aQ (i:=2) nd (by rfl) (by exact Or.inl rfl) (d_tab T.K_NEEDED (by rfl) T.g_NEEDED (bG (dv 1 (pv 1)) aF (by intro _ _;rfl)) (by intro _ _;rfl)))
 refine aB ?_ ?_
 ·exact (cM (jJ (dJ (dN (aV ((fQ T).mono (by decide)) hr (by rfl) (by exact T.bU) (by exact T.F_is_number_of.kp) (by exact T.b_is_number_of) (ao (dv 0 (pv 0)) (ao (bG (dv 1 (pv 1)) aF (by intro _ _;rfl)) (ao (dv 2 (pv 2)) au (aj (by rfl))) (aj (by rfl))) (aj (by rfl))) (by decide) (aj (by rfl)) (aA (by rfl))))) (gY (dJ (dN (aV ((fQ T).mono (by decide)) hr (by rfl) (by exact T.bU) (by exact T.F_is_number_of.kp) (by exact T.b_is_number_of) (ao (dv 0 (pv 0)) (ao (bG (dv 1 (pv 1)) aF (by intro _ _;rfl)) (ao (dv 2 (pv 2)) au (aj (by rfl))) (aj (by rfl))) (aj (by rfl))) (by decide) (aj (by rfl)) (aA (by rfl))))))).pt (aG (aR yu)) aZ)
 refine aG ?_
 exact (aR (d_cmp (yG (j5 hr)) (bG (dv 0 (pv 0)) (bG (dv 1 (pv 1)) aF (by intro _ _;rfl)) (by intro _ _;rfl)) (bG (dv 0 (pv 0)) (bG (dv 1 (pv 1)) aF (by intro _ _;rfl)) (by intro _ _;rfl)) (aY _)))
theorem wQ (T:Txt w K mg t):bT P w K mg base CX0 15 t.f_made_by t.d_made_by ["things", "step"] (lift K jm):=by
 have nd:=nY.nd
 refine jB (k:=14) T.F_made_by nY fun cdv A outer s H E hr=>?_
 have hc:=hr.calm (by decide)
 refine aB ?_ ?_
 ·exact (aQ (i:=2) nd (by rfl) (by exact Or.inl rfl) (bG (bG (dv 0 (pv 0)) (bG (dv 1 (pv 1)) aF (by intro _ _;rfl)) (by intro _ _;rfl)) aF (by intro _ _;rfl)))
 refine aB ?_ ?_
 ·exact (aQ (i:=3) nd (by rfl) (by exact Or.inl rfl) (bG (bG (dv 0 (pv 0)) (bG (dv 1 (pv 1)) aF (by intro _ _;rfl)) (by intro _ _;rfl)) aF (by intro _ _;rfl)))
 refine aB ?_ ?_
 ·exact (cM (bD (vh (j5 hr)) (bG (dv 1 (pv 1)) aF (by intro _ _;rfl)) aU (aY _)) (aG (aR (bA (ao aU (ao (aV ((ok_join T).mono (by decide)) hr (by rfl) (by exact T.vI) (by exact T.F_join.kp) (by exact T.b_join) (ao (dv 2 (pv 2)) (ao (dv 3 (pv 3)) au (aj (by rfl))) (aj (by rfl))) (by decide) (aj (by rfl)) (aA (by rfl))) au (aj (by rfl))) (aj (by rfl)))))) aZ)
 refine aG ?_
 exact (aR (bA (ao aU (ao (aV ((ok_meet T).mono (by decide)) hr (by rfl) (by exact T.wM) (by exact T.F_meet.kp) (by exact T.b_meet) (ao (dv 2 (pv 2)) (ao (dv 3 (pv 3)) au (aj (by rfl))) (aj (by rfl))) (by decide) (aj (by rfl)) (aA (by rfl))) au (aj (by rfl))) (aj (by rfl)))))
theorem qd (T:Txt w K mg t):bT P w K mg base CX0 10 t.f_Board_init t.d_Board_init ["self"] (lift K (jL t.c_Board)):=by
 have nd:=je.nd
 refine jB (k:=9) T.F_Board_init je fun cdv A outer s H E hr=>?_
 have hc:=hr.calm (by decide)
 refine aB ?_ ?_
 ·exact (ds_fld T.cl_Board T.na_Board_things (dv 0 (pv 0)) (d_lcM [] hc (bK (by rfl)) j9 (j8 (bK (by rfl))) (fU (dc (v:=.ref t.a_CORNERS) (eU (by rfl) T.g_CORNERS (by rfl)) T.r_CORNERS)) (fun _ _ _ _=>iy) (fun _ _ _ _=>(bA (ao aU (ao (dv 0 (pv 0)) au (aj (by rfl))) (aj (by rfl)))))) (by rfl))
 refine aG ?_
 exact (ds_fld T.cl_Board T.na_Board_done (dv 0 (pv 0)) (mZ au) (by rfl))
theorem nR (T:Txt w K mg t):bT P w K mg base (CXX P w) 16 t.f_Board_take t.d_Board_take ["self", "step"] (pC K (dM t.c_Board)):=by
 have nd:=jd.nd
 refine d_fnX (k:=15) T.F_Board_take jd fun cdv A outer s H E hr=>?_
 have hc:=hr.calm (by decide)
 refine fZ (fun _=>trivial) ?_ ?_
 ·exact (dsx_if (dJ (dN (aV ((nF T).mono (by decide)) hr (by rfl) (by exact T.cA) (by exact T.F_can_be_done.kp) (by exact T.b_can_be_done) (ao (qC T.cl_Board T.na_Board_things (dv 0 (pv 0)) (by rfl)) (ao (dv 1 (pv 1)) au (aj (by rfl))) (aj (by rfl))) (by decide) (aj (by rfl)) (aA (by rfl))))) (iM (xH hc (by rfl) (by rfl) T.xm_Stuck T.xi_Stuck T.xf_Stuck ((okI_Stuck T).mono (by decide)) hr (by exact T.b_Stuck_init) T.xa_Stuck (by rfl) (aO cQ (by rfl) (by exact T.z_len) PySem.boot_len (ao (qC T.cl_Board T.na_Board_done (dv 0 (pv 0)) (by rfl)) au (aj (by rfl))) (by decide) (by decide) (aj (by rfl)) (aA (by rfl))))) dssx_nil)
 refine fZ (fun _=>trivial) ?_ ?_
 ·exact (sO (iB (gA (qC T.cl_Board T.na_Board_things (dv 0 (pv 0)) (by rfl)) (ao (aV ((wQ T).mono (by decide)) hr (by rfl) (by exact T.jm) (by exact T.F_made_by.kp) (by exact T.b_made_by) (ao (qC T.cl_Board T.na_Board_things (dv 0 (pv 0)) (by rfl)) (ao (dv 1 (pv 1)) au (aj (by rfl))) (aj (by rfl))) (by decide) (aj (by rfl)) (aA (by rfl))) au (aj (by rfl))) (by rfl) (xG (by rfl)) (by rfl) (aj (by rfl)) (by rfl))))
 refine fZ (fun _=>trivial) ?_ ?_
 ·exact (sO (iB (gA (qC T.cl_Board T.na_Board_done (dv 0 (pv 0)) (by rfl)) (ao (dv 1 (pv 1)) au (aj (by rfl))) (by rfl) (xG (by rfl)) (by rfl) (aj (by rfl)) (by rfl))))
 refine iM ?_
 exact (sO (aR (cF mF (aO cQ (by rfl) (by exact T.z_len) PySem.boot_len (ao (qC T.cl_Board T.na_Board_things (dv 0 (pv 0)) (by rfl)) au (aj (by rfl))) (by decide) (by decide) (aj (by rfl)) (aA (by rfl))) aF)))
theorem qy (T:Txt w K mg t):bT P w K mg base CX0 10 t.f_Board_many t.d_Board_many ["self"] (lift K (jQ t.c_Board)):=by
 have nd:=iJ.nd
 refine jB (k:=9) T.F_Board_many iJ fun cdv A outer s H E hr=>?_
 have hc:=hr.calm (by decide)
 refine aG ?_
 exact (aR (aO cQ (by rfl) (by exact T.z_len) PySem.boot_len (ao (qC T.cl_Board T.na_Board_things (dv 0 (pv 0)) (by rfl)) au (aj (by rfl))) (by decide) (by decide) (aj (by rfl)) (aA (by rfl))))
theorem p7 (T:Txt w K mg t):bT P w K mg base CX0 10 t.f_Board_kind t.d_Board_kind ["self", "i"] (lift K (jP t.c_Board)):=by
 have nd:=jw.nd
 refine jB (k:=9) T.F_Board_kind jw fun cdv A outer s H E hr=>?_
 have hc:=hr.calm (by decide)
 refine aG ?_
 exact (aR (bG (bG (qC T.cl_Board T.na_Board_things (dv 0 (pv 0)) (by rfl)) (dv 1 (pv 1)) (by intro _ _;rfl)) aF (by intro _ _;rfl)))
theorem ql (T:Txt w K mg t):bT P w K mg base CX0 10 t.f_Board_told t.d_Board_told ["self", "i"] (lift K (jN t.c_Board)):=by
 have nd:=jA.nd
 refine jB (k:=9) T.F_Board_told jA fun cdv A outer s H E hr=>?_
 have hc:=hr.calm (by decide)
 refine aG ?_
 exact (aR (bG (bG (qC T.cl_Board T.na_Board_things (dv 0 (pv 0)) (by rfl)) (dv 1 (pv 1)) (by intro _ _;rfl)) aF (by intro _ _;rfl)))
theorem oW (T:Txt w K mg t):bT P w K mg base (CXX P w) 17 t.f_walked t.d_walked ["steps"] (pC K (dB t.c_Board)):=by
 have nd:=sJ.nd
 refine d_fnX (k:=16) T.F_walked sJ fun cdv A outer s H E hr=>?_
 have hc:=hr.calm (by decide)
 refine fZ (fun _=>trivial) ?_ ?_
 ·exact (sO (aQ (i:=1) nd (by rfl) (by exact Or.inr rfl) (d_make0 T.mk_Board ((qd T).mono (by decide)) hr (by rfl) (by exact T.cm_Board) (by exact T.b_Board_init))))
 refine fZ (fun _=>trivial) ?_ ?_
 ·exact (dsx_for PassesOwn.leaving hc (fun _=>trivial) (fU (dv 0 (pv 0))) (bR (bO (i:=2) nd (by rfl) (by exact Or.inl rfl))) (iM (wG (d_methX (dv 1 (pv 1)) T.cl_Board T.me_Board_take ((nR T).mono (by decide)) hr (by exact T.b_Board_take) (ao (dv 2 (pv 2)) au (aj (by rfl))) (aj (by rfl)) (aA (by rfl)) (by rfl)))))
 refine iM ?_
 exact (sO (aR (d_lcM [1] hc (bK (by rfl)) j9 (j8 (bK (by rfl))) (dh (by rfl) (by exact T.z_range) (ao (d_meth0 (dv 1 (pv 1)) T.cl_Board T.me_Board_many ((qy T).mono (by decide)) hr (by exact T.b_Board_many) (by rfl)) au (aj (by rfl))) (j4 (by rfl))) (fun _ _ _ _=>iy) (fun _ _ _ _=>(bA (ao (d_meth (dv 1 (pv 1)) (by exact T.cl_Board) (by exact T.me_Board_kind) ((p7 T).mono (by decide)) hr (by exact T.b_Board_kind) (ao (dv 0 (pv 0)) au (aj (by rfl))) (aj (by rfl)) (aA (by rfl)) (by rfl)) (ao (d_meth (dv 1 (pv 1)) (by exact T.cl_Board) (by exact T.me_Board_told) ((ql T).mono (by decide)) hr (by exact T.b_Board_told) (ao (dv 0 (pv 0)) au (aj (by rfl))) (aj (by rfl)) (aA (by rfl)) (by rfl)) au (aj (by rfl))) (aj (by rfl))))))))
theorem rT (T:Txt w K mg t):bT P w K mg base CX0 17 t.f_walked t.d_walked ["steps"] (lift K (dB t.c_Board)):=(oW T).tame
theorem rM (T:Txt w K mg t):bT P w K mg base CX0 10 t.f_l_cell_at t.d_l_cell_at ["_law_script", "_law_k"] (lift K eX):=by
 have nd:=jX.nd
 refine jB (k:=9) T.F_l_cell_at jX fun cdv A outer s H E hr=>?_
 have hc:=hr.calm (by decide)
 refine aB ?_ ?_
 ·exact (cM (bD o_lt (dv 1 (pv 1)) (aO cQ (by rfl) (by exact T.z_len) PySem.boot_len (ao (dv 0 (pv 0)) au (aj (by rfl))) (by decide) (by decide) (aj (by rfl)) (aA (by rfl))) (aY _)) (aG (aR (bG (dv 0 (pv 0)) (dv 1 (pv 1)) (by intro _ _;rfl)))) aZ)
 refine aG ?_
 exact (aR aF)
theorem wF (T:Txt w K mg t):bT P w K mg base CX0 10 t.f_l_bag t.d_l_bag ["_law_cell"] (lift K lD):=by
 have nd:=u5.nd
 refine jB (k:=9) T.F_l_bag u5 fun cdv A outer s H E hr=>?_
 have hc:=hr.calm (by decide)
 refine aB ?_ ?_
 ·exact (cM (bD o_lt (dv 0 (pv 0)) (cF o_pow aF aF) (aY _)) (aG (aR (mZ (ao aF (ao (cF eG (cF pD (dv 0 (pv 0)) aF) aF) au (aj (by rfl))) (aj (by rfl)))))) aZ)
 refine aG ?_
 exact (aR (mZ (ao (dv 0 (pv 0)) (ao aF au (aj (by rfl))) (aj (by rfl)))))
theorem bH (T:Txt w K mg t):bT P w K mg base CX0 10 t.f_l_draw t.d_l_draw ["_law_bag_here", "_law_many"] (lift K bC):=by
 have nd:=qQ.nd
 refine jB (k:=9) T.F_l_draw qQ fun cdv A outer s H E hr=>?_
 have hc:=hr.calm (by decide)
 refine aB ?_ ?_
 ·exact (cM (bD o_gt (bG (dv 0 (pv 0)) aF (by intro _ _;rfl)) aF (aY _)) (aB (aQ (i:=2) nd (by rfl) (by exact Or.inl rfl) (cF pD (bG (dv 0 (pv 0)) aF (by intro _ _;rfl)) (dv 1 (pv 1))))
  (aB (sU (cF zK (bG (dv 0 (pv 0)) aF (by intro _ _;rfl)) (dv 1 (pv 1))) (dg_sub (dv 0 (pv 0)) aF set_list wN))
  (aG (aR (dv 2 (pv 2)))))) aZ)
 refine aB ?_ ?_
 ·exact (sU (cF pD (cF eG (cF jh (bG (dv 0 (pv 0)) aF (by intro _ _;rfl)) aF) aF) aF) (dg_sub (dv 0 (pv 0)) aF set_list wN))
 refine aG ?_
 exact (aR (cF pD (cF zK (cF pD (cF jh (bG (dv 0 (pv 0)) aF (by intro _ _;rfl)) (cF eG (cF zK (bG (dv 0 (pv 0)) aF (by intro _ _;rfl)) aF) aF)) aF) aF) (dv 1 (pv 1))))
theorem wX (T:Txt w K mg t):bT P w K mg base CX0 10 t.f_l_whole t.d_l_whole ["_law_found"] (lift K iY):=by
 have nd:=oU.nd
 refine jB (k:=9) T.F_l_whole oU fun cdv A outer s H E hr=>?_
 have hc:=hr.calm (by decide)
 refine aG ?_
 exact (aR (yc (aO sE (by rfl) (by exact T.z_isinstance) boot_isinstance (ao (dv 0 (pv 0)) (ao (dc (dX (v:=.ty "int") (by rfl) (by exact T.z_int) boot_int (by rfl)) (fun _ _=>by rw [Rep])) au (aj (by rfl))) (aj (by rfl))) (by decide) (by decide) (aj (by rfl)) (aA (by rfl))) (d_one (d_not (aO sE (by rfl) (by exact T.z_isinstance) boot_isinstance (ao (dv 0 (pv 0)) (ao (dc (dX (v:=.ty "bool") (by rfl) (by exact T.z_bool) boot_bool (by rfl)) (fun _ _=>by rw [Rep])) au (aj (by rfl))) (aj (by rfl))) (by decide) (by decide) (aj (by rfl)) (aA (by rfl)))))))
theorem xR (T:Txt w K mg t):bT P w K mg base CX0 10 t.f_l_plain t.d_l_plain ["_law_row"] (lift K iZ):=by
 have nd:=oZ.nd
 refine jB (k:=9) T.F_l_plain oZ fun cdv A outer s H E hr=>?_
 have hc:=hr.calm (by decide)
 refine aB ?_ ?_
 ·exact (aQ (i:=1) nd (by rfl) (by exact Or.inr rfl) aF)
 refine aB ?_ ?_
 ·exact (oh PassesOwn.never hc (fU (dv 0 (pv 0))) (bR (bO (i:=2) nd (by rfl) (by exact Or.inl rfl))) (aB (aQ (i:=3) nd (by rfl) (by exact Or.inl rfl) (aO c_abs (by rfl) (by exact T.z_abs) boot_abs (ao (dv 2 (pv 2)) au (aj (by rfl))) (by decide) (by decide) (aj (by rfl)) (aA (by rfl))))
  (aB (aQ (i:=4) nd (by rfl) (by exact Or.inl rfl) (dv 1 (pv 1)))
  (aB (uZ PassesOwn.never (bD o_gt (dv 4 (pv 4)) aF (aY _)) (aG (zX (ps_par (i:=3) (j:=4) hc nd (by rfl) (by rfl) (by decide) (by rfl) (by rfl) (ao (dv 4 (pv 4)) (ao (cF pD (dv 3 (pv 3)) (dv 4 (pv 4))) au (aj (by rfl))) (aj (by rfl))) (by rfl)))))
  (aG (aQ (i:=1) nd (by rfl) (by exact Or.inr rfl) (dv 3 (pv 3))))))))
 refine aB ?_ ?_
 ·exact (w6 [1] (i:=5) nd (by rfl) (by exact Or.inl rfl) hc (bK (by rfl)) j9 (j8 (bK (by rfl))) (fU (dv 0 (pv 0))) (fun _ _ _ _=>iy) (fun _ _ _ _=>(cF zK (dv 0 (pv 0)) (dv 1 (pv 1)))))
 refine aB ?_ ?_
 ·exact (cM (bD o_lt (bG (d_lc [] hc (bK (by rfl)) j9 (j8 (bK (by rfl))) (fU (dv 5 (pv 5))) (fun _ _ _ _=>(mq (bD (yG (j5 hr)) (dv 0 (pv 0)) aF (aY _)))) (fun _ _ _ _=>(dv 0 (pv 0)))) (d_neg aF) (by intro _ _;rfl)) aF (aY _)) (aG (w6 [] (i:=5) nd (by rfl) (by exact Or.inl rfl) hc (bK (by rfl)) j9 (j8 (bK (by rfl))) (fU (dv 5 (pv 5))) (fun _ _ _ _=>iy) (fun _ _ _ _=>(cF mF aF (dv 0 (pv 0)))))) aZ)
 refine aG ?_
 exact (aR (kY c_tuple (by rfl) (by exact T.z_tuple) boot_tuple (ao (dv 5 (pv 5)) au (aj (by rfl))) (by decide) (by decide) (aj (by rfl)) (aA (by rfl))))
theorem xQ (T:Txt w K mg t):bT P w K mg base CX0 10 t.f_l_cross t.d_l_cross ["_law_one", "_law_other"] (lift K jx):=by
 have nd:=oE.nd
 refine jB (k:=9) T.F_l_cross oE fun cdv A outer s H E hr=>?_
 have hc:=hr.calm (by decide)
 refine aB ?_ ?_
 ·exact (sU (dv 0 (pv 0)) (uH hc (cR (bR (bO (i:=2) nd (by rfl) (by exact Or.inl rfl))) (cR (bR (bO (i:=3) nd (by rfl) (by exact Or.inl rfl))) (cR (bR (bO (i:=4) nd (by rfl) (by exact Or.inl rfl))) uL)))))
 refine aB ?_ ?_
 ·exact (sU (dv 1 (pv 1)) (uH hc (cR (bR (bO (i:=5) nd (by rfl) (by exact Or.inl rfl))) (cR (bR (bO (i:=6) nd (by rfl) (by exact Or.inl rfl))) (cR (bR (bO (i:=7) nd (by rfl) (by exact Or.inl rfl))) uL)))))
 refine aG ?_
 exact (aR (bA (ao (cF mF (cF jh (dv 3 (pv 3)) (dv 7 (pv 7))) (cF jh (dv 4 (pv 4)) (dv 6 (pv 6)))) (ao (cF mF (cF jh (dv 4 (pv 4)) (dv 5 (pv 5))) (cF jh (dv 2 (pv 2)) (dv 7 (pv 7)))) (ao (cF mF (cF jh (dv 2 (pv 2)) (dv 6 (pv 6))) (cF jh (dv 3 (pv 3)) (dv 5 (pv 5)))) au (aj (by rfl))) (aj (by rfl))) (aj (by rfl)))))
theorem zY (T:Txt w K mg t):bT P w K mg base CX0 11 t.f_l_step t.d_l_step ["_law_bag_here", "_law_things"] (lift K lq):=by
 have nd:=q9.nd
 refine jB (k:=10) T.F_l_step q9 fun cdv A outer s H E hr=>?_
 have hc:=hr.calm (by decide)
 refine aB ?_ ?_
 ·first
  | (with_reducible exact (aQ (hs:=by with_unfolding_all rfl) (hf:=by with_unfolding_all first | exact .inl rfl | exact .inr rfl) (i:=2) (by with_unfolding_all exact nd) (by with_unfolding_all rfl) (by with_unfolding_all exact Or.inr rfl) (gH (ao aU (ao aU (ao aU (ao aU (ao aU (ao aU (ao aU (ao (bG (gH (ao aU (ao aU (ao aU (ao aU au (aj (by with_unfolding_all rfl))) (aj (by with_unfolding_all rfl))) (aj (by with_unfolding_all rfl))) (aj (by with_unfolding_all rfl)))) (cF pD (aO cQ (by with_unfolding_all rfl) (by with_unfolding_all exact T.z_len) PySem.boot_len (ao (dv 1 (by with_unfolding_all exact pv 1)) au (aj (by with_unfolding_all rfl))) (by decide) (by decide) (aj (by with_unfolding_all rfl)) (aA (by with_unfolding_all rfl))) aF) (by with_unfolding_all (intro _ _;rfl))) au (aj (by with_unfolding_all rfl))) (aj (by with_unfolding_all rfl))) (aj (by with_unfolding_all rfl))) (aj (by with_unfolding_all rfl))) (aj (by with_unfolding_all rfl))) (aj (by with_unfolding_all rfl))) (aj (by with_unfolding_all rfl))) (aj (by with_unfolding_all rfl))))))
  | (exact (aQ (i:=2) nd (by rfl) (by exact Or.inr rfl) (gH (ao aU (ao aU (ao aU (ao aU (ao aU (ao aU (ao aU (ao (bG (gH (ao aU (ao aU (ao aU (ao aU au (aj (by rfl))) (aj (by rfl))) (aj (by rfl))) (aj (by rfl)))) (cF pD (aO cQ (by rfl) (by exact T.z_len) PySem.boot_len (ao (dv 1 (pv 1)) au (aj (by rfl))) (by decide) (by decide) (aj (by rfl)) (aA (by rfl))) aF) (by intro _ _;rfl)) au (aj (by rfl))) (aj (by rfl))) (aj (by rfl))) (aj (by rfl))) (aj (by rfl))) (aj (by rfl))) (aj (by rfl))) (aj (by rfl))))))
 refine aB ?_ ?_
 ·exact (aQ (i:=2) nd (by rfl) (by exact Or.inr rfl) (bG (dv 2 (pv 2)) (aV ((bH T).mono (by decide)) hr (by rfl) (by exact T.bC) (by exact T.F_l_draw.kp) (by exact T.b_l_draw) (ao (dv 0 (pv 0)) (ao aF au (aj (by rfl))) (aj (by rfl))) (by decide) (aj (by rfl)) (aA (by rfl))) (by intro _ _;rfl)))
 refine aB ?_ ?_
 ·first
  | (with_reducible exact (w6 (hsw:=by with_unfolding_all rfl) (hf:=by with_unfolding_all first | exact .inl rfl | exact .inr rfl) (hs:=by with_unfolding_all (intro _;rfl)) [1,2] (i:=3) (by with_unfolding_all exact nd) (by with_unfolding_all rfl) (by with_unfolding_all exact Or.inl rfl) (by with_unfolding_all exact hc) (by with_unfolding_all exact bK rfl) j9 (j8 (by with_unfolding_all exact bK rfl)) (dh (by with_unfolding_all rfl) (by with_unfolding_all exact T.z_range) (ao (aO cQ (by with_unfolding_all rfl) (by with_unfolding_all exact T.z_len) PySem.boot_len (ao (dv 1 (by with_unfolding_all exact pv 1)) au (aj (by with_unfolding_all rfl))) (by decide) (by decide) (aj (by with_unfolding_all rfl)) (aA (by with_unfolding_all rfl))) au (aj (by with_unfolding_all rfl))) (j4 (by with_unfolding_all rfl))) (fun _ _ _ _=>(mq (bD (vh (by with_unfolding_all exact j5 hr)) (bG (bG (dv 1 (by with_unfolding_all exact pv 1)) (dv 0 (by with_unfolding_all exact pv 0)) (by with_unfolding_all (intro _ _;rfl))) aF (by with_unfolding_all (intro _ _;rfl))) (d_getS (by with_unfolding_all exact pv 2) (by with_unfolding_all rfl) (few_2 (by with_unfolding_all rfl) (by with_unfolding_all rfl)) (by with_unfolding_all rfl) (aj (by with_unfolding_all rfl)) (aj (by with_unfolding_all rfl)) (aA (by with_unfolding_all rfl))) (by with_unfolding_all exact aY _)))) (fun _ _ _ _=>(dv 0 (by with_unfolding_all exact pv 0)))))
  | (exact (w6 [1,2] (i:=3) nd (by rfl) (by exact Or.inl rfl) hc (bK (by rfl)) j9 (j8 (bK (by rfl))) (dh (by rfl) (by exact T.z_range) (ao (aO cQ (by rfl) (by exact T.z_len) PySem.boot_len (ao (dv 1 (pv 1)) au (aj (by rfl))) (by decide) (by decide) (aj (by rfl)) (aA (by rfl))) au (aj (by rfl))) (j4 (by rfl))) (fun _ _ _ _=>(mq (bD (vh (j5 hr)) (bG (bG (dv 1 (pv 1)) (dv 0 (pv 0)) (by intro _ _;rfl)) aF (by intro _ _;rfl)) (d_getS (pv 2) (by rfl) (few_2 (by rfl) (by rfl)) (by rfl) (aj (by rfl)) (aj (by rfl)) (aA (by rfl))) (aY _)))) (fun _ _ _ _=>(dv 0 (pv 0)))))
 refine aB ?_ ?_
 ·exact (aQ (i:=4) nd (by rfl) (by exact Or.inl rfl) (mZ au))
 refine aB ?_ ?_
 ·exact (oh PassesOwn.never hc (dh (by rfl) (by exact T.z_range) (ao aF au (aj (by rfl))) (j4 (by rfl))) (bR (bO (i:=5) nd (by rfl) (by exact Or.inl rfl))) (aG (cM (jJ (bD (vh (j5 hr)) (aV ((bH T).mono (by decide)) hr (by rfl) (by exact T.bC) (by exact T.F_l_draw.kp) (by exact T.b_l_draw) (ao (dv 0 (pv 0)) (ao aF au (aj (by rfl))) (aj (by rfl))) (by decide) (aj (by rfl)) (aA (by rfl))) aF (aY _)) (gY (bD (vh (j5 hr)) (dv 3 (pv 3)) (gH au) (aY _)))).pt (aG (iB (gA (dv 4 (pv 4)) (ao (cF mF (aV ((bH T).mono (by decide)) hr (by rfl) (by exact T.bC) (by exact T.F_l_draw.kp) (by exact T.b_l_draw) (ao (dv 0 (pv 0)) (ao (cF eG (aO cQ (by rfl) (by exact T.z_len) PySem.boot_len (ao (dv 1 (pv 1)) au (aj (by rfl))) (by decide) (by decide) (aj (by rfl)) (aA (by rfl))) aF) au (aj (by rfl))) (aj (by rfl))) (by decide) (aj (by rfl)) (aA (by rfl))) aF) au (aj (by rfl))) (by rfl) (xG (by rfl)) (by rfl) (aj (by rfl)) (by rfl)))) (aG (iB (gA (dv 4 (pv 4)) (ao (bG (dv 3 (pv 3)) (aV ((bH T).mono (by decide)) hr (by rfl) (by exact T.bC) (by exact T.F_l_draw.kp) (by exact T.b_l_draw) (ao (dv 0 (pv 0)) (ao (aO cQ (by rfl) (by exact T.z_len) PySem.boot_len (ao (dv 3 (pv 3)) au (aj (by rfl))) (by decide) (by decide) (aj (by rfl)) (aA (by rfl))) au (aj (by rfl))) (aj (by rfl))) (by decide) (aj (by rfl)) (aA (by rfl))) (by intro _ _;rfl)) au (aj (by rfl))) (by rfl) (xG (by rfl)) (by rfl) (aj (by rfl)) (by rfl)))))))
 refine aG ?_
 exact (aR (bA (ao (dv 2 (pv 2)) (ao (bG (dv 4 (pv 4)) aF (by intro _ _;rfl)) (ao (bG (dv 4 (pv 4)) aF (by intro _ _;rfl)) au (aj (by rfl))) (aj (by rfl))) (aj (by rfl)))))
theorem ok_l_due (T:Txt w K mg t):bT P w K mg base CX0 11 t.f_l_due t.d_l_due ["_law_step_here", "_law_things"] (lift K pW):=by
 have nd:=wI.nd
 refine jB (k:=10) T.F_l_due wI fun cdv A outer s H E hr=>?_
 have hc:=hr.calm (by decide)
 refine aB ?_ ?_
 ·exact (sU (dv 0 (pv 0)) (uH hc (cR (bR (bO (i:=2) nd (by rfl) (by exact Or.inl rfl))) (cR (bR (bO (i:=3) nd (by rfl) (by exact Or.inl rfl))) (cR (bR (bO (i:=4) nd (by rfl) (by exact Or.inl rfl))) uL)))))
 refine aB ?_ ?_
 ·exact (cM (jJ (bD o_nin (dv 2 (pv 2)) (bA (ao aU (ao aU au (aj (by rfl))) (aj (by rfl)))) (by with_unfolding_all rfl)) (jJ (dJ (vH o_le o_lt aF (dv 3 (pv 3)) (aO cQ (by rfl) (by exact T.z_len) PySem.boot_len (ao (dv 1 (pv 1)) au (aj (by rfl))) (by decide) (by decide) (aj (by rfl)) (aA (by rfl))) (by with_unfolding_all rfl))) (gY (dJ (vH o_le o_lt aF (dv 4 (pv 4)) (aO cQ (by rfl) (by exact T.z_len) PySem.boot_len (ao (dv 1 (pv 1)) au (aj (by rfl))) (by decide) (by decide) (aj (by rfl)) (aA (by rfl))) (by with_unfolding_all rfl)))))).pt (aG (aR d_non)) aZ)
 refine aB ?_ ?_
 ·exact (aQ (i:=5) nd (by rfl) (by exact Or.inl rfl) (gH (ao aU (ao aU au (aj (by rfl))) (aj (by rfl)))))
 refine aB ?_ ?_
 ·exact (cM (bD (vh (j5 hr)) (dv 2 (pv 2)) aU (aY _)) (aG (aQ (i:=5) nd (by rfl) (by exact Or.inl rfl) (gH (ao aU (ao aU au (aj (by rfl))) (aj (by rfl)))))) aZ)
 refine aB ?_ ?_
 ·exact (cM (jJ (bD (yG (j5 hr)) (bG (bG (dv 1 (pv 1)) (dv 3 (pv 3)) (by intro _ _;rfl)) aF (by intro _ _;rfl)) (bG (dv 5 (pv 5)) aF (by intro _ _;rfl)) (aY _)) (jJ (bD (yG (j5 hr)) (bG (bG (dv 1 (pv 1)) (dv 4 (pv 4)) (by intro _ _;rfl)) aF (by intro _ _;rfl)) (bG (dv 5 (pv 5)) aF (by intro _ _;rfl)) (aY _)) (gY (bD (vh (j5 hr)) (bG (bG (dv 1 (pv 1)) (dv 3 (pv 3)) (by intro _ _;rfl)) aF (by intro _ _;rfl)) (bG (bG (dv 1 (pv 1)) (dv 4 (pv 4)) (by intro _ _;rfl)) aF (by intro _ _;rfl)) (aY _))))).pt (aG (aR d_non)) aZ)
 refine aG ?_
 exact (aR (bA (ao (bG (dv 5 (pv 5)) aF (by intro _ _;rfl)) (ao (aV ((xR T).mono (by decide)) hr (by rfl) (by exact T.iZ) (by exact T.F_l_plain.kp) (by exact T.b_l_plain) (ao (aV ((xQ T).mono (by decide)) hr (by rfl) (by exact T.jx) (by exact T.F_l_cross.kp) (by exact T.b_l_cross) (ao (bG (bG (dv 1 (pv 1)) (dv 3 (pv 3)) (by intro _ _;rfl)) aF (by intro _ _;rfl)) (ao (bG (bG (dv 1 (pv 1)) (dv 4 (pv 4)) (by intro _ _;rfl)) aF (by intro _ _;rfl)) au (aj (by rfl))) (aj (by rfl))) (by decide) (aj (by rfl)) (aA (by rfl))) au (aj (by rfl))) (by decide) (aj (by rfl)) (aA (by rfl))) au (aj (by rfl))) (aj (by rfl)))))
theorem ok_l_bad (T:Txt w K mg t):bT P w K mg base CX0 11 t.f_l_bad t.d_l_bad ["_law_bag_here", "_law_things"] (lift K qg):=by
 have nd:=vP.nd
 refine jB (k:=10) T.F_l_bad vP fun cdv A outer s H E hr=>?_
 have hc:=hr.calm (by decide)
 refine aB ?_ ?_
 ·exact (aQ (i:=2) nd (by rfl) (by exact Or.inl rfl) (aO cQ (by rfl) (by exact T.z_len) PySem.boot_len (ao (dv 1 (pv 1)) au (aj (by rfl))) (by decide) (by decide) (aj (by rfl)) (aA (by rfl))))
 refine aB ?_ ?_
 ·exact (w6 [1] (i:=3) nd (by rfl) (by exact Or.inl rfl) hc (bK (by rfl)) j9 (j8 (bK (by rfl))) (dh (by rfl) (by exact T.z_range) (ao (dv 2 (pv 2)) au (aj (by rfl))) (j4 (by rfl))) (fun _ _ _ _=>(mq (bD (vh (j5 hr)) (bG (bG (dv 1 (pv 1)) (dv 0 (pv 0)) (by intro _ _;rfl)) aF (by intro _ _;rfl)) aU (aY _)))) (fun _ _ _ _=>(dv 0 (pv 0))))
 refine aB ?_ ?_
 ·exact (w6 [1] (i:=4) nd (by rfl) (by exact Or.inl rfl) hc (bK (by rfl)) j9 (j8 (bK (by rfl))) (dh (by rfl) (by exact T.z_range) (ao (dv 2 (pv 2)) au (aj (by rfl))) (j4 (by rfl))) (fun _ _ _ _=>(mq (bD (vh (j5 hr)) (bG (bG (dv 1 (pv 1)) (dv 0 (pv 0)) (by intro _ _;rfl)) aF (by intro _ _;rfl)) aU (aY _)))) (fun _ _ _ _=>(dv 0 (pv 0))))
 refine aB ?_ ?_
 ·exact (aQ (i:=5) nd (by rfl) (by exact Or.inl rfl) (bG (dv 3 (pv 3)) (aV ((bH T).mono (by decide)) hr (by rfl) (by exact T.bC) (by exact T.F_l_draw.kp) (by exact T.b_l_draw) (ao (dv 0 (pv 0)) (ao (aO cQ (by rfl) (by exact T.z_len) PySem.boot_len (ao (dv 3 (pv 3)) au (aj (by rfl))) (by decide) (by decide) (aj (by rfl)) (aA (by rfl))) au (aj (by rfl))) (aj (by rfl))) (by decide) (aj (by rfl)) (aA (by rfl))) (by intro _ _;rfl)))
 refine aB ?_ ?_
 ·exact (aQ (i:=6) nd (by rfl) (by exact Or.inl rfl) (bG (dv 3 (pv 3)) (aV ((bH T).mono (by decide)) hr (by rfl) (by exact T.bC) (by exact T.F_l_draw.kp) (by exact T.b_l_draw) (ao (dv 0 (pv 0)) (ao (aO cQ (by rfl) (by exact T.z_len) PySem.boot_len (ao (dv 3 (pv 3)) au (aj (by rfl))) (by decide) (by decide) (aj (by rfl)) (aA (by rfl))) au (aj (by rfl))) (aj (by rfl))) (by decide) (aj (by rfl)) (aA (by rfl))) (by intro _ _;rfl)))
 refine aB ?_ ?_
 ·exact (aQ (i:=7) nd (by rfl) (by exact Or.inl rfl) (cF eG (dv 2 (pv 2)) (aV ((bH T).mono (by decide)) hr (by rfl) (by exact T.bC) (by exact T.F_l_draw.kp) (by exact T.b_l_draw) (ao (dv 0 (pv 0)) (ao aF au (aj (by rfl))) (aj (by rfl))) (by decide) (aj (by rfl)) (aA (by rfl)))))
 refine aB ?_ ?_
 ·first
  | (with_reducible exact (aQ (hs:=by with_unfolding_all rfl) (hf:=by with_unfolding_all first | exact .inl rfl | exact .inr rfl) (i:=8) (by with_unfolding_all exact nd) (by with_unfolding_all rfl) (by with_unfolding_all exact Or.inl rfl) (gH (ao (bA (ao aU (ao (dv 5 (by with_unfolding_all exact pv 5)) (ao (dv 6 (by with_unfolding_all exact pv 6)) au (aj (by with_unfolding_all rfl))) (aj (by with_unfolding_all rfl))) (aj (by with_unfolding_all rfl)))) (ao (bA (ao aU (ao (dv 5 (by with_unfolding_all exact pv 5)) (ao (dv 6 (by with_unfolding_all exact pv 6)) au (aj (by with_unfolding_all rfl))) (aj (by with_unfolding_all rfl))) (aj (by with_unfolding_all rfl)))) (ao (bA (ao aU (ao (dv 5 (by with_unfolding_all exact pv 5)) (ao (dv 5 (by with_unfolding_all exact pv 5)) au (aj (by with_unfolding_all rfl))) (aj (by with_unfolding_all rfl))) (aj (by with_unfolding_all rfl)))) (ao (bA (ao aU (ao (cF mF (d_neg aF) (aV (k:=10) (by with_unfolding_all exact (bH T).mono (by decide)) (by with_unfolding_all exact hr) (by with_unfolding_all rfl) (by with_unfolding_all exact T.bC) (by with_unfolding_all exact T.F_l_draw.kp) (by with_unfolding_all exact T.b_l_draw) (ao (dv 0 (by with_unfolding_all exact pv 0)) (ao aF au (aj (by with_unfolding_all rfl))) (aj (by with_unfolding_all rfl))) (by decide) (aj (by with_unfolding_all rfl)) (aA (by with_unfolding_all rfl)))) (ao (dv 5 (by with_unfolding_all exact pv 5)) au (aj (by with_unfolding_all rfl))) (aj (by with_unfolding_all rfl))) (aj (by with_unfolding_all rfl)))) au (aj (by with_unfolding_all rfl))) (aj (by with_unfolding_all rfl))) (aj (by with_unfolding_all rfl))) (aj (by with_unfolding_all rfl))))))
  | (exact (aQ (i:=8) nd (by rfl) (by exact Or.inl rfl) (gH (ao (bA (ao aU (ao (dv 5 (pv 5)) (ao (dv 6 (pv 6)) au (aj (by rfl))) (aj (by rfl))) (aj (by rfl)))) (ao (bA (ao aU (ao (dv 5 (pv 5)) (ao (dv 6 (pv 6)) au (aj (by rfl))) (aj (by rfl))) (aj (by rfl)))) (ao (bA (ao aU (ao (dv 5 (pv 5)) (ao (dv 5 (pv 5)) au (aj (by rfl))) (aj (by rfl))) (aj (by rfl)))) (ao (bA (ao aU (ao (cF mF (d_neg aF) (aV ((bH T).mono (by decide)) hr (by rfl) (by exact T.bC) (by exact T.F_l_draw.kp) (by exact T.b_l_draw) (ao (dv 0 (pv 0)) (ao aF au (aj (by rfl))) (aj (by rfl))) (by decide) (aj (by rfl)) (aA (by rfl)))) (ao (dv 5 (pv 5)) au (aj (by rfl))) (aj (by rfl))) (aj (by rfl)))) au (aj (by rfl))) (aj (by rfl))) (aj (by rfl))) (aj (by rfl))))))
 refine aB ?_ ?_
 ·first
  | (with_reducible exact (aQ (hs:=by with_unfolding_all rfl) (hf:=by with_unfolding_all first | exact .inl rfl | exact .inr rfl) (i:=8) (by with_unfolding_all exact nd) (by with_unfolding_all rfl) (by with_unfolding_all exact Or.inl rfl) (cF eG (dv 8 (by with_unfolding_all exact pv 8)) (gH (ao (bA (ao aU (ao (dv 5 (by with_unfolding_all exact pv 5)) (ao (dv 7 (by with_unfolding_all exact pv 7)) au (aj (by with_unfolding_all rfl))) (aj (by with_unfolding_all rfl))) (aj (by with_unfolding_all rfl)))) (ao (bA (ao aU (ao (dv 5 (by with_unfolding_all exact pv 5)) (ao (dv 6 (by with_unfolding_all exact pv 6)) au (aj (by with_unfolding_all rfl))) (aj (by with_unfolding_all rfl))) (aj (by with_unfolding_all rfl)))) (ao (bA (ao aU (ao (dv 7 (by with_unfolding_all exact pv 7)) (ao (dv 5 (by with_unfolding_all exact pv 5)) au (aj (by with_unfolding_all rfl))) (aj (by with_unfolding_all rfl))) (aj (by with_unfolding_all rfl)))) au (aj (by with_unfolding_all rfl))) (aj (by with_unfolding_all rfl))) (aj (by with_unfolding_all rfl)))))))
  | (exact (aQ (i:=8) nd (by rfl) (by exact Or.inl rfl) (cF eG (dv 8 (pv 8)) (gH (ao (bA (ao aU (ao (dv 5 (pv 5)) (ao (dv 7 (pv 7)) au (aj (by rfl))) (aj (by rfl))) (aj (by rfl)))) (ao (bA (ao aU (ao (dv 5 (pv 5)) (ao (dv 6 (pv 6)) au (aj (by rfl))) (aj (by rfl))) (aj (by rfl)))) (ao (bA (ao aU (ao (dv 7 (pv 7)) (ao (dv 5 (pv 5)) au (aj (by rfl))) (aj (by rfl))) (aj (by rfl)))) au (aj (by rfl))) (aj (by rfl))) (aj (by rfl)))))))
 refine aB ?_ ?_
 ·first
  | (with_reducible exact (cM (bD (yG (by with_unfolding_all exact j5 hr)) (dv 4 (by with_unfolding_all exact pv 4)) (gH au) (by with_unfolding_all exact aY _)) (aB (aQ (hs:=by with_unfolding_all rfl) (hf:=by with_unfolding_all first | exact .inl rfl | exact .inr rfl) (i:=9) (by with_unfolding_all exact nd) (by with_unfolding_all rfl) (by with_unfolding_all exact Or.inl rfl) (bG (dv 4 (by with_unfolding_all exact pv 4)) (aV (k:=10) (by with_unfolding_all exact (bH T).mono (by decide)) (by with_unfolding_all exact hr) (by with_unfolding_all rfl) (by with_unfolding_all exact T.bC) (by with_unfolding_all exact T.F_l_draw.kp) (by with_unfolding_all exact T.b_l_draw) (ao (dv 0 (by with_unfolding_all exact pv 0)) (ao (aO cQ (by with_unfolding_all rfl) (by with_unfolding_all exact T.z_len) PySem.boot_len (ao (dv 4 (by with_unfolding_all exact pv 4)) au (aj (by with_unfolding_all rfl))) (by decide) (by decide) (aj (by with_unfolding_all rfl)) (aA (by with_unfolding_all rfl))) au (aj (by with_unfolding_all rfl))) (aj (by with_unfolding_all rfl))) (by decide) (aj (by with_unfolding_all rfl)) (aA (by with_unfolding_all rfl))) (by with_unfolding_all (intro _ _;rfl))))
  (aG (aQ (hs:=by with_unfolding_all rfl) (hf:=by with_unfolding_all first | exact .inl rfl | exact .inr rfl) (i:=8) (by with_unfolding_all exact nd) (by with_unfolding_all rfl) (by with_unfolding_all exact Or.inl rfl) (cF eG (dv 8 (by with_unfolding_all exact pv 8)) (gH (ao (bA (ao aU (ao (dv 9 (by with_unfolding_all exact pv 9)) (ao (dv 5 (by with_unfolding_all exact pv 5)) au (aj (by with_unfolding_all rfl))) (aj (by with_unfolding_all rfl))) (aj (by with_unfolding_all rfl)))) (ao (bA (ao aU (ao (dv 5 (by with_unfolding_all exact pv 5)) (ao (dv 9 (by with_unfolding_all exact pv 9)) au (aj (by with_unfolding_all rfl))) (aj (by with_unfolding_all rfl))) (aj (by with_unfolding_all rfl)))) (ao (bA (ao aU (ao (dv 9 (by with_unfolding_all exact pv 9)) (ao (dv 5 (by with_unfolding_all exact pv 5)) au (aj (by with_unfolding_all rfl))) (aj (by with_unfolding_all rfl))) (aj (by with_unfolding_all rfl)))) (ao (bA (ao aU (ao (dv 9 (by with_unfolding_all exact pv 9)) (ao (dv 9 (by with_unfolding_all exact pv 9)) au (aj (by with_unfolding_all rfl))) (aj (by with_unfolding_all rfl))) (aj (by with_unfolding_all rfl)))) au (aj (by with_unfolding_all rfl))) (aj (by with_unfolding_all rfl))) (aj (by with_unfolding_all rfl))) (aj (by with_unfolding_all rfl)))))))) aZ))
  | (exact (cM (bD (yG (j5 hr)) (dv 4 (pv 4)) (gH au) (aY _)) (aB (aQ (i:=9) nd (by rfl) (by exact Or.inl rfl) (bG (dv 4 (pv 4)) (aV ((bH T).mono (by decide)) hr (by rfl) (by exact T.bC) (by exact T.F_l_draw.kp) (by exact T.b_l_draw) (ao (dv 0 (pv 0)) (ao (aO cQ (by rfl) (by exact T.z_len) PySem.boot_len (ao (dv 4 (pv 4)) au (aj (by rfl))) (by decide) (by decide) (aj (by rfl)) (aA (by rfl))) au (aj (by rfl))) (aj (by rfl))) (by decide) (aj (by rfl)) (aA (by rfl))) (by intro _ _;rfl)))
  (aG (aQ (i:=8) nd (by rfl) (by exact Or.inl rfl) (cF eG (dv 8 (pv 8)) (gH (ao (bA (ao aU (ao (dv 9 (pv 9)) (ao (dv 5 (pv 5)) au (aj (by rfl))) (aj (by rfl))) (aj (by rfl)))) (ao (bA (ao aU (ao (dv 5 (pv 5)) (ao (dv 9 (pv 9)) au (aj (by rfl))) (aj (by rfl))) (aj (by rfl)))) (ao (bA (ao aU (ao (dv 9 (pv 9)) (ao (dv 5 (pv 5)) au (aj (by rfl))) (aj (by rfl))) (aj (by rfl)))) (ao (bA (ao aU (ao (dv 9 (pv 9)) (ao (dv 9 (pv 9)) au (aj (by rfl))) (aj (by rfl))) (aj (by rfl)))) au (aj (by rfl))) (aj (by rfl))) (aj (by rfl))) (aj (by rfl)))))))) aZ))
 refine aG ?_
 exact (aR (bG (dv 8 (pv 8)) (aV ((bH T).mono (by decide)) hr (by rfl) (by exact T.bC) (by exact T.F_l_draw.kp) (by exact T.b_l_draw) (ao (dv 0 (pv 0)) (ao (aO cQ (by rfl) (by exact T.z_len) PySem.boot_len (ao (dv 8 (pv 8)) au (aj (by rfl))) (by decide) (by decide) (aj (by rfl)) (aA (by rfl))) au (aj (by rfl))) (aj (by rfl))) (by decide) (aj (by rfl)) (aA (by rfl))) (by intro _ _;rfl)))
theorem qY (T:Txt w K mg t):bT P w K mg base CX0 11 t.f_l_good t.d_l_good ["_law_found", "_law_things"] (lift K iI):=by
 have nd:=qM.nd
 refine jB (k:=10) T.F_l_good qM fun cdv A outer s H E hr=>?_
 have hc:=hr.calm (by decide)
 refine aB ?_ ?_
 ·exact (cM (jJ (dJ (dN (aO sE (by rfl) (by exact T.z_isinstance) boot_isinstance (ao (dv 0 (pv 0)) (ao (dc (dX (v:=.ty "list") (by rfl) (by exact T.z_list) boot_list (by rfl)) (fun _ _=>by rw [Rep])) au (aj (by rfl))) (aj (by rfl))) (by decide) (by decide) (aj (by rfl)) (aA (by rfl))))) (gY (bD (yG (j5 hr)) (aO cQ (by rfl) (by exact T.z_len) PySem.boot_len (ao (dv 0 (pv 0)) au (aj (by rfl))) (by decide) (by decide) (aj (by rfl)) (aA (by rfl))) (aO cQ (by rfl) (by exact T.z_len) PySem.boot_len (ao (dv 1 (pv 1)) au (aj (by rfl))) (by decide) (by decide) (aj (by rfl)) (aA (by rfl))) (aY _)))).pt (aG (aR yu)) aZ)
 refine aB ?_ ?_
 ·exact (oh PassesOwn.never hc (dh (by rfl) (by exact T.z_range) (ao (aO cQ (by rfl) (by exact T.z_len) PySem.boot_len (ao (dv 1 (pv 1)) au (aj (by rfl))) (by decide) (by decide) (aj (by rfl)) (aA (by rfl))) au (aj (by rfl))) (j4 (by rfl))) (bR (bO (i:=2) nd (by rfl) (by exact Or.inl rfl))) (aB (cM (jJ (dJ (dN (aO sE (by rfl) (by exact T.z_isinstance) boot_isinstance (ao (bG (dv 0 (pv 0)) (dv 2 (pv 2)) (by intro _ _;rfl)) (ao (dc (dX (v:=.ty "tuple") (by rfl) (by exact T.z_tuple) boot_tuple (by rfl)) (fun _ _=>by rw [Rep])) au (aj (by rfl))) (aj (by rfl))) (by decide) (by decide) (aj (by rfl)) (aA (by rfl))))) (jJ (bD (yG (j5 hr)) (bG (dv 0 (pv 0)) (dv 2 (pv 2)) (by intro _ _;rfl)) (bG (dv 1 (pv 1)) (dv 2 (pv 2)) (by intro _ _;rfl)) (aY _)) (gY (dJ (dN (aO sE (by rfl) (by exact T.z_isinstance) boot_isinstance (ao (bG (bG (dv 0 (pv 0)) (dv 2 (pv 2)) (by intro _ _;rfl)) aF (by intro _ _;rfl)) (ao (dc (dX (v:=.ty "tuple") (by rfl) (by exact T.z_tuple) boot_tuple (by rfl)) (fun _ _=>by rw [Rep])) au (aj (by rfl))) (aj (by rfl))) (by decide) (by decide) (aj (by rfl)) (aA (by rfl)))))))).pt (aG (aR yu)) aZ)
  (aG (cM (dJ (dN (aO (c_all hc) (by rfl) (by exact T.z_all) boot_all (ao (d_lc [] hc (bK (by rfl)) j9 (j8 (bK (by rfl))) (fU (bG (bG (dv 0 (pv 0)) (dv 2 (pv 2)) (by intro _ _;rfl)) aF (by intro _ _;rfl))) (fun _ _ _ _=>iy) (fun _ _ _ _=>(aV ((wX T).mono (by decide)) hr (by rfl) (by exact T.iY) (by exact T.F_l_whole.kp) (by exact T.b_l_whole) (ao (dv 0 (pv 0)) au (aj (by rfl))) (by decide) (aj (by rfl)) (aA (by rfl))))) au (aj (by rfl))) (by decide) (by decide) (aj (by rfl)) (aA (by rfl))))) (aG (aR yu)) aZ))))
 refine aG ?_
 exact (aR yu)
theorem qT (T:Txt w K mg t):bT P w K mg base CX0 18 t.f_l_refused t.d_l_refused ["_law_steps", "_law_place"] (lift K (eO t.c_Board)):=by
 have nd:=jV.nd
 refine jB (k:=17) T.F_l_refused jV fun cdv A outer s H E hr=>?_
 have hc:=hr.calm (by decide)
 refine aB ?_ ?_
 ·exact (aQ (i:=2) nd (by rfl) (by exact Or.inl rfl) (kY c_list (by rfl) (by exact T.z_list) boot_list (ao (dv 0 (pv 0)) au (aj (by rfl))) (by decide) (by decide) (aj (by rfl)) (aA (by rfl))))
 refine aB ?_ ?_
 ·exact (ds_try (i:=3) nd (by rfl) (by rfl) (by rfl) T.xm_EaselError T.xd_EaselError ⟨rfl,rfl⟩ rfl (fun pins xe σ0=>(iM (wG (d_callX ((oW T).mono (by decide)) hr (by rfl) (by exact T.dB) (by exact T.F_walked.kp) (by exact T.b_walked) (ao (dv 2 (pv 2)) au (aj (by rfl))) (by decide) (aj (by rfl)) (aA (by rfl)))))) (fun a o u=>by
  have hr:=room_hnd (a:=a) hr (by decide)
  exact (aB (cM (jJ (dN (d_isxT (by rfl) (by exact T.z_isinstance) (dv 3 (pv 3)) (PCs.cons (eU (v:=.ref t.x_Alike) (by rfl) T.xm_Alike (by rfl)) (wA.own T.xd_Alike) (PCs.cons (eU (v:=.ref t.x_Nothing) (by rfl) T.xm_Nothing (by rfl)) (wA.own T.xd_Nothing) (PCs.cons (eU (v:=.ref t.x_NoText) (by rfl) T.xm_NoText (by rfl)) (wA.own T.xd_NoText) (PCs.cons (eU (v:=.ref t.x_NotOnEdge) (by rfl) T.xm_NotOnEdge (by rfl)) (wA.own T.xd_NotOnEdge) (PCs.cons (eU (v:=.ref t.x_Tied) (by rfl) T.xm_Tied (by rfl)) (wA.own T.xd_Tied) PCs.nil (aj (by rfl))) (aj (by rfl))) (aj (by rfl))) (aj (by rfl))) (aj (by rfl))) (by exact Nat.le_of_ble_eq_true rfl) (aj (by rfl)) (aj (by rfl)) (aA (by rfl)))) (gY (dJ (dN (d_isx1 (by rfl) (by exact T.z_isinstance) (dv 3 (pv 3)) (dX (v:=.ty "ValueError") (by rfl) (by exact T.z_ValueError) PyProof.Rows.Boot.«ValueError» (by rfl)) wA.val (aj (by rfl)) (aj (by rfl)) (aA (by rfl))))))).pt (aG (aR yu)) aZ)
  (aG (aR (yc (d_isx1 (by rfl) (by exact T.z_isinstance) (dv 3 (pv 3)) (eU (v:=.ref t.x_Stuck) (by rfl) T.xm_Stuck (by rfl)) (wA.own T.xd_Stuck) (aj (by rfl)) (aj (by rfl)) (aA (by rfl))) (yc (d_cmp (vh (j5 hr)) (d_xfld (dv 3 (pv 3)) (by rfl)) (dv 1 (pv 1)) (aY _)) (d_one (d_cmp (vh (j5 hr)) (dv 2 (pv 2)) (dv 0 (pv 0)) (aY _))))))))))
 refine aG ?_
 exact (aR yu)
theorem ok_law (T:Txt w K mg t):bT P w K mg base CX0 19 t.f_law t.d_law ["_law_script"] (lift K (m_law t.c_Board)):=by
 have nd:=sc_law.nd
 refine jB (k:=18) T.F_law sc_law fun cdv A outer s H E hr=>?_
 have hc:=hr.calm (by decide)
 refine aB ?_ ?_
 ·first
  | (with_reducible exact (aQ (hs:=by with_unfolding_all rfl) (hf:=by with_unfolding_all first | exact .inl rfl | exact .inr rfl) (i:=1) (by with_unfolding_all exact nd) (by with_unfolding_all rfl) (by with_unfolding_all exact Or.inl rfl) (mZ (ao (bA (ao aU (ao (bA (ao aF (ao aF (ao aF au (aj (by with_unfolding_all rfl))) (aj (by with_unfolding_all rfl))) (aj (by with_unfolding_all rfl)))) au (aj (by with_unfolding_all rfl))) (aj (by with_unfolding_all rfl)))) (ao (bA (ao aU (ao (bA (ao aF (ao aF (ao aF au (aj (by with_unfolding_all rfl))) (aj (by with_unfolding_all rfl))) (aj (by with_unfolding_all rfl)))) au (aj (by with_unfolding_all rfl))) (aj (by with_unfolding_all rfl)))) (ao (bA (ao aU (ao (bA (ao aF (ao aF (ao aF au (aj (by with_unfolding_all rfl))) (aj (by with_unfolding_all rfl))) (aj (by with_unfolding_all rfl)))) au (aj (by with_unfolding_all rfl))) (aj (by with_unfolding_all rfl)))) (ao (bA (ao aU (ao (bA (ao aF (ao aF (ao aF au (aj (by with_unfolding_all rfl))) (aj (by with_unfolding_all rfl))) (aj (by with_unfolding_all rfl)))) au (aj (by with_unfolding_all rfl))) (aj (by with_unfolding_all rfl)))) au (aj (by with_unfolding_all rfl))) (aj (by with_unfolding_all rfl))) (aj (by with_unfolding_all rfl))) (aj (by with_unfolding_all rfl))))))
  | (exact (aQ (i:=1) nd (by rfl) (by exact Or.inl rfl) (mZ (ao (bA (ao aU (ao (bA (ao aF (ao aF (ao aF au (aj (by rfl))) (aj (by rfl))) (aj (by rfl)))) au (aj (by rfl))) (aj (by rfl)))) (ao (bA (ao aU (ao (bA (ao aF (ao aF (ao aF au (aj (by rfl))) (aj (by rfl))) (aj (by rfl)))) au (aj (by rfl))) (aj (by rfl)))) (ao (bA (ao aU (ao (bA (ao aF (ao aF (ao aF au (aj (by rfl))) (aj (by rfl))) (aj (by rfl)))) au (aj (by rfl))) (aj (by rfl)))) (ao (bA (ao aU (ao (bA (ao aF (ao aF (ao aF au (aj (by rfl))) (aj (by rfl))) (aj (by rfl)))) au (aj (by rfl))) (aj (by rfl)))) au (aj (by rfl))) (aj (by rfl))) (aj (by rfl))) (aj (by rfl))))))
 refine aB ?_ ?_
 ·exact (aQ (i:=2) nd (by rfl) (by exact Or.inl rfl) (mZ au))
 refine aB ?_ ?_
 ·exact (oh PassesOwn.never hc (fU (d_sl2 (dv 0 (pv 0)) (lY aF) (lY aF))) (bR (bO (i:=3) nd (by rfl) (by exact Or.inl rfl))) (aB (aQ (i:=4) nd (by rfl) (by exact Or.inl rfl) (aV ((zY T).mono (by decide)) hr (by rfl) (by exact T.lq) (by exact T.F_l_step.kp) (by exact T.b_l_step) (ao (aV ((wF T).mono (by decide)) hr (by rfl) (by exact T.lD) (by exact T.F_l_bag.kp) (by exact T.b_l_bag) (ao (dv 3 (pv 3)) au (aj (by rfl))) (by decide) (aj (by rfl)) (aA (by rfl))) (ao (dv 1 (pv 1)) au (aj (by rfl))) (aj (by rfl))) (by decide) (aj (by rfl)) (aA (by rfl))))
  (aB (aQ (i:=5) nd (by rfl) (by exact Or.inl rfl) (aV ((ok_l_due T).mono (by decide)) hr (by rfl) (by exact T.pW) (by exact T.F_l_due.kp) (by exact T.b_l_due) (ao (dv 4 (pv 4)) (ao (dv 1 (pv 1)) au (aj (by rfl))) (aj (by rfl))) (by decide) (aj (by rfl)) (aA (by rfl))))
  (aG (cM (dw_and (bD o_isnt (dv 5 (pv 5)) d_non (aY _)) (dw_and1 (bD o_lt (aO (c_maxA hc) (by rfl) (by exact T.z_max) boot_max (ao (d_lc [] hc (bK (by rfl)) j9 (j8 (bK (by rfl))) (fU (bG (dv 5 (pv 5)) aF (by intro _ _;rfl))) (fun _ _ _ _=>iy) (fun _ _ _ _=>(aO c_abs (by rfl) (by exact T.z_abs) boot_abs (ao (dv 0 (pv 0)) au (aj (by rfl))) (by decide) (by decide) (aj (by rfl)) (aA (by rfl))))) au (aj (by rfl))) (by decide) (by decide) (aj (by rfl)) (aA (by rfl))) (cF o_pow aF aF) (aY _)))).pt (aB (iB (gA (dv 1 (pv 1)) (ao (dv 5 (pv 5)) au (aj (by rfl))) (by rfl) (xG (by rfl)) (by rfl) (aj (by rfl)) (by rfl)))
  (aG (iB (gA (dv 2 (pv 2)) (ao (dv 4 (pv 4)) au (aj (by rfl))) (by rfl) (xG (by rfl)) (by rfl) (aj (by rfl)) (by rfl))))) aZ)))))
 refine aB ?_ ?_
 ·exact (aQ (i:=6) nd (by rfl) (by exact Or.inl rfl) (kY c_list (by rfl) (by exact T.z_list) boot_list (ao (dv 2 (pv 2)) au (aj (by rfl))) (by decide) (by decide) (aj (by rfl)) (aA (by rfl))))
 refine aB ?_ ?_
 ·exact (aQ (i:=7) nd (by rfl) (by exact Or.inl rfl) (aV ((rT T).mono (by decide)) hr (by rfl) (by exact T.dB) (by exact T.F_walked.kp) (by exact T.b_walked) (ao (dv 6 (pv 6)) au (aj (by rfl))) (by decide) (aj (by rfl)) (aA (by rfl))))
 refine aB ?_ ?_
 ·exact (cM (jJ (dJ (dN (aV ((qY T).mono (by decide)) hr (by rfl) (by exact T.iI) (by exact T.F_l_good.kp) (by exact T.b_l_good) (ao (dv 7 (pv 7)) (ao (dv 1 (pv 1)) au (aj (by rfl))) (aj (by rfl))) (by decide) (aj (by rfl)) (aA (by rfl))))) (gY (bD (yG (j5 hr)) (dv 6 (pv 6)) (dv 2 (pv 2)) (aY _)))).pt (aG (aR yu)) aZ)
 refine aB ?_ ?_
 ·exact (iB (d_clear (dv 7 (pv 7))))
 refine aB ?_ ?_
 ·exact (aQ (i:=8) nd (by rfl) (by exact Or.inl rfl) (aV ((wF T).mono (by decide)) hr (by rfl) (by exact T.lD) (by exact T.F_l_bag.kp) (by exact T.b_l_bag) (ao (aV ((rM T).mono (by decide)) hr (by rfl) (by exact T.eX) (by exact T.F_l_cell_at.kp) (by exact T.b_l_cell_at) (ao (dv 0 (pv 0)) (ao aF au (aj (by rfl))) (aj (by rfl))) (by decide) (aj (by rfl)) (aA (by rfl))) au (aj (by rfl))) (by decide) (aj (by rfl)) (aA (by rfl))))
 refine aB ?_ ?_
 ·exact (aQ (i:=9) nd (by rfl) (by exact Or.inl rfl) (aV ((bH T).mono (by decide)) hr (by rfl) (by exact T.bC) (by exact T.F_l_draw.kp) (by exact T.b_l_draw) (ao (dv 8 (pv 8)) (ao (cF eG (aO cQ (by rfl) (by exact T.z_len) PySem.boot_len (ao (dv 2 (pv 2)) au (aj (by rfl))) (by decide) (by decide) (aj (by rfl)) (aA (by rfl))) aF) au (aj (by rfl))) (aj (by rfl))) (by decide) (aj (by rfl)) (aA (by rfl))))
 refine aB ?_ ?_
 ·exact (aQ (i:=10) nd (by rfl) (by exact Or.inl rfl) (aV ((ok_l_bad T).mono (by decide)) hr (by rfl) (by exact T.qg) (by exact T.F_l_bad.kp) (by exact T.b_l_bad) (ao (dv 8 (pv 8)) (ao (d_sl2 (dv 1 (pv 1)) uc (lY (cF eG aF (dv 9 (pv 9))))) au (aj (by rfl))) (aj (by rfl))) (by decide) (aj (by rfl)) (aA (by rfl))))
 refine aB ?_ ?_
 ·exact (cM (dJ (dN (aV ((qT T).mono (by decide)) hr (by rfl) (by exact T.eO) (by exact T.F_l_refused.kp) (by exact T.b_l_refused) (ao (cF eG (cF eG (d_sl2 (dv 2 (pv 2)) uc (lY (dv 9 (pv 9)))) (gH (ao (dv 10 (pv 10)) au (aj (by rfl))))) (d_sl2 (dv 2 (pv 2)) (lY (dv 9 (pv 9))) uc)) (ao (dv 9 (pv 9)) au (aj (by rfl))) (aj (by rfl))) (by decide) (aj (by rfl)) (aA (by rfl))))) (aG (aR yu)) aZ)
 refine aG ?_
 exact (aR (aV ((qY T).mono (by decide)) hr (by rfl) (by exact T.iI) (by exact T.F_l_good.kp) (by exact T.b_l_good) (ao (aV ((rT T).mono (by decide)) hr (by rfl) (by exact T.dB) (by exact T.F_walked.kp) (by exact T.b_walked) (ao (dv 6 (pv 6)) au (aj (by rfl))) (by decide) (aj (by rfl)) (aA (by rfl))) (ao (dv 1 (pv 1)) au (aj (by rfl))) (aj (by rfl))) (by decide) (aj (by rfl)) (aA (by rfl))))
end
def fO (x:Str)(s:Stmt)(oc:Value)(od:Option Addr)(kV dc pm:Value)(an:Option Addr)(cd ct:Value)(sl:Array (Option Value)):Option Obj:=some ⟨oc,od,.func (PySem.W.fnOf x x (jC s) (dW s) (aH s) .none kV dc pm an cd ct),sl⟩
def fM (x q:Str)(s:Stmt)(oc:Value)(od:Option Addr)(kV dc pm:Value)(an:Option Addr)(cd ct:Value)(sl:Array (Option Value)):Option Obj:=some ⟨oc,od,.func (PySem.W.fnOf x q (jC s) (dW s) (aH s) .none kV dc pm an cd ct),sl⟩
def sR (f:Addr):Option (Option Value):=some (some (.ref f))
open PySem.W (nsIn codeIn keepIn) in
theorem all_mk {l:PySem.W.OpenLaw}{w:World}{K:PySem.W.Frag}{h:Heap}{mg:Str→Option Value}{fa:Addr}(hlaw:∀ (C_Board:Addr),∀ ns:List Int,ns.length≤63→m_law C_Board [.kls (ns.map W.int)] g0 (fun w _=>w=.bl true) EF)(X:K.In h)(G:h.Ns mainGlobals mg)(hfa:mg "law" = some (.ref fa))
  {f0 f1 f2 f3 f4 f5 f6 f7 f8 f9 f10 f11 f12 f13 f14 f15 f16 f17 f18 f19 f20 f21 f22 f23 f24 f25 f26 f27 f28 f29:Addr} {od0 an0 od1 an1 od2 an2 od3 an3 od4 an4 od5 an5 od6 an6 od7 an7 od8 an8 od9 an9 od10 an10 od11 an11 od12 an12 od13 an13 od14 an14 od15 an15 od16 an16 od17 an17 od18 an18 od19 an19 od20 an20 od21 an21 od22 an22 od23 an23 od24 an24 od25 an25 od26 an26 od27 an27 od28 an28 od29 an29:Option Addr} {sl0 sl1 sl2 sl3 sl4 sl5 sl6 sl7 sl8 sl9 sl10 sl11 sl12 sl13 sl14 sl15 sl16 sl17 sl18 sl19 sl20 sl21 sl22 sl23 sl24 sl25 sl26 sl27 sl28 sl29:Array (Option Value)} {oc0 kV0 dc0 pm0 cd0 ct0 oc1 kV1 dc1 pm1 cd1 ct1 oc2 kV2 dc2 pm2 cd2 ct2 oc3 kV3 dc3 pm3 cd3 ct3 oc4 kV4 dc4 pm4 cd4 ct4 oc5 kV5 dc5 pm5 cd5 ct5 oc6 kV6 dc6 pm6 cd6 ct6 oc7 kV7 dc7 pm7 cd7 ct7 oc8 kV8 dc8 pm8 cd8 ct8 oc9 kV9 dc9 pm9 cd9 ct9 oc10 kV10 dc10 pm10 cd10 ct10 oc11 kV11 dc11 pm11 cd11 ct11 oc12 kV12 dc12 pm12 cd12 ct12 oc13 kV13 dc13 pm13 cd13 ct13 oc14 kV14 dc14 pm14 cd14 ct14 oc15 kV15 dc15 pm15 cd15 ct15 oc16 kV16 dc16 pm16 cd16 ct16 oc17 kV17 dc17 pm17 cd17 ct17 oc18 kV18 dc18 pm18 cd18 ct18 oc19 kV19 dc19 pm19 cd19 ct19 oc20 kV20 dc20 pm20 cd20 ct20 oc21 kV21 dc21 pm21 cd21 ct21 oc22 kV22 dc22 pm22 cd22 ct22 oc23 kV23 dc23 pm23 cd23 ct23 oc24 kV24 dc24 pm24 cd24 ct24 oc25 kV25 dc25 pm25 cd25 ct25 oc26 kV26 dc26 pm26 cd26 ct26 oc27 kV27 dc27 pm27 cd27 ct27 oc28 kV28 dc28 pm28 cd28 ct28 oc29 kV29 dc29 pm29 cd29 ct29:Value}
  {d9:Addr} {odk_CORNERS:Option Addr} {slk_CORNERS:Array (Option Value)} {nk_CORNERS:Nat} {k_CORNERS_0:Addr} {odk_CORNERS_0:Option Addr} {slk_CORNERS_0:Array (Option Value)} {nk_CORNERS_0:Nat} {t_CORNERS_0_0:_} {t_CORNERS_0_1:_} {t_CORNERS_0_2:_} {k_CORNERS_1:Addr} {odk_CORNERS_1:Option Addr} {slk_CORNERS_1:Array (Option Value)} {nk_CORNERS_1:Nat} {t_CORNERS_1_0:_} {t_CORNERS_1_1:_} {t_CORNERS_1_2:_} {k_CORNERS_2:Addr} {odk_CORNERS_2:Option Addr} {slk_CORNERS_2:Array (Option Value)} {nk_CORNERS_2:Nat} {t_CORNERS_2_0:_} {t_CORNERS_2_1:_} {t_CORNERS_2_2:_} {k_CORNERS_3:Addr} {odk_CORNERS_3:Option Addr} {slk_CORNERS_3:Array (Option Value)} {nk_CORNERS_3:Nat} {t_CORNERS_3_0:_} {t_CORNERS_3_1:_} {t_CORNERS_3_2:_}
  {cC:Addr} {nk_NEEDED:Nat} {t_NEEDED_0:_} {qk_NEEDED_0:_} {t_NEEDED_1:_} {qk_NEEDED_1:_}
  {x_EaselError:Addr}
  {x_Nothing:Addr}
  {x_Alike:Addr}
  {x_Stuck:Addr}
  {x_NotOnEdge:Addr}
  {x_Tied:Addr}
  {x_NoText:Addr}
  {fi_Stuck:Addr} {odi_Stuck ani_Stuck:Option Addr} {sli_Stuck:Array (Option Value)} {oci_Stuck kVi_Stuck dci_Stuck pmi_Stuck cdi_Stuck cti_Stuck:Value}
  {c_Board:Addr}
  (gc_Board:nsIn K mainGlobals "Board" = sR c_Board) (pg_Board:PySem.W.plainGet K c_Board Str.empty=true) (hd_Board:PySem.W.hasDictIn K c_Board=true) (po_Board:PySem.W.plainOver K c_Board=true) (sa_Board:PySem.W.findIn K (.ref c_Board) "__setattr__" = some (some (.builtin "object.__setattr__"))) (mc_Board:PySem.W.makesIn K c_Board=true) (kc_Board:keepIn K (.ref c_Board)=true)
  (na_Board_things:PySem.W.findIn K (.ref c_Board) "things" = some none)
  (na_Board_done:PySem.W.findIn K (.ref c_Board) "done" = some none)
  (a0:nsIn K mainGlobals "is_whole" = sR f0) (l0:K.lookup f0=fO "is_whole" gD oc0 od0 kV0 dc0 pm0 an0 cd0 ct0 sl0) (c0:codeIn K cd0 "is_whole" = true) (k0:keepIn K (.ref f0)=true)
  (a1:nsIn K mainGlobals "divisor_of_two" = sR f1) (l1:K.lookup f1=fO "divisor_of_two" bY oc1 od1 kV1 dc1 pm1 an1 cd1 ct1 sl1) (c1:codeIn K cd1 "divisor_of_two" = true) (k1:keepIn K (.ref f1)=true)
  (a2:nsIn K mainGlobals "divisor" = sR f2) (l2:K.lookup f2=fO "divisor" jt oc2 od2 kV2 dc2 pm2 an2 cd2 ct2 sl2) (c2:codeIn K cd2 "divisor" = true) (k2:keepIn K (.ref f2)=true)
  (a3:nsIn K mainGlobals "ends_below" = sR f3) (l3:K.lookup f3=fO "ends_below" dR oc3 od3 kV3 dc3 pm3 an3 cd3 ct3 sl3) (c3:codeIn K cd3 "ends_below" = true) (k3:keepIn K (.ref f3)=true)
  (a4:nsIn K mainGlobals "plain" = sR f4) (l4:K.lookup f4=fO "plain" pU oc4 od4 kV4 dc4 pm4 an4 cd4 ct4 sl4) (c4:codeIn K cd4 "plain" = true) (k4:keepIn K (.ref f4)=true)
  (a5:nsIn K mainGlobals "cross" = sR f5) (l5:K.lookup f5=fO "cross" pR oc5 od5 kV5 dc5 pm5 an5 cd5 ct5 sl5) (c5:codeIn K cd5 "cross" = true) (k5:keepIn K (.ref f5)=true)
  (a6:nsIn K mainGlobals "plain_cross" = sR f6) (l6:K.lookup f6=fO "plain_cross" cP oc6 od6 kV6 dc6 pm6 an6 cd6 ct6 sl6) (c6:codeIn K cd6 "plain_cross" = true) (k6:keepIn K (.ref f6)=true)
  (a7:nsIn K mainGlobals "join" = sR f7) (l7:K.lookup f7=fO "join" wK oc7 od7 kV7 dc7 pm7 an7 cd7 ct7 sl7) (c7:codeIn K cd7 "join" = true) (k7:keepIn K (.ref f7)=true)
  (a8:nsIn K mainGlobals "meet" = sR f8) (l8:K.lookup f8=fO "meet" uW oc8 od8 kV8 dc8 pm8 an8 cd8 ct8 sl8) (c8:codeIn K cd8 "meet" = true) (k8:keepIn K (.ref f8)=true)
  (a9:nsIn K mainGlobals "is_number_of" = sR f9) (l9:K.lookup f9=fO "is_number_of" cG oc9 od9 kV9 dc9 pm9 an9 cd9 ct9 sl9) (c9:codeIn K cd9 "is_number_of" = true) (k9:keepIn K (.ref f9)=true)
  (a10:nsIn K mainGlobals "can_be_done" = sR f10) (l10:K.lookup f10=fO "can_be_done" cO oc10 od10 kV10 dc10 pm10 an10 cd10 ct10 sl10) (c10:codeIn K cd10 "can_be_done" = true) (k10:keepIn K (.ref f10)=true)
  (a11:nsIn K mainGlobals "made_by" = sR f11) (l11:K.lookup f11=fO "made_by" jq oc11 od11 kV11 dc11 pm11 an11 cd11 ct11 sl11) (c11:codeIn K cd11 "made_by" = true) (k11:keepIn K (.ref f11)=true)
  (a12:PySem.W.findIn K (.ref c_Board) "__init__" = sR f12) (l12:K.lookup f12=fM "__init__" "Board.__init__" dG oc12 od12 kV12 dc12 pm12 an12 cd12 ct12 sl12) (c12:codeIn K cd12 "Board.__init__" = true) (k12:keepIn K (.ref f12)=true) (fn12:PySem.W.isFn K (.ref f12)=true)
  (a13:PySem.W.findIn K (.ref c_Board) "take" = sR f13) (l13:K.lookup f13=fM "take" "Board.take" dI oc13 od13 kV13 dc13 pm13 an13 cd13 ct13 sl13) (c13:codeIn K cd13 "Board.take" = true) (k13:keepIn K (.ref f13)=true) (fn13:PySem.W.isFn K (.ref f13)=true)
  (a14:PySem.W.findIn K (.ref c_Board) "many" = sR f14) (l14:K.lookup f14=fM "many" "Board.many" dF oc14 od14 kV14 dc14 pm14 an14 cd14 ct14 sl14) (c14:codeIn K cd14 "Board.many" = true) (k14:keepIn K (.ref f14)=true) (fn14:PySem.W.isFn K (.ref f14)=true)
  (a15:PySem.W.findIn K (.ref c_Board) "kind" = sR f15) (l15:K.lookup f15=fM "kind" "Board.kind" dj oc15 od15 kV15 dc15 pm15 an15 cd15 ct15 sl15) (c15:codeIn K cd15 "Board.kind" = true) (k15:keepIn K (.ref f15)=true) (fn15:PySem.W.isFn K (.ref f15)=true)
  (a16:PySem.W.findIn K (.ref c_Board) "told" = sR f16) (l16:K.lookup f16=fM "told" "Board.told" dz oc16 od16 kV16 dc16 pm16 an16 cd16 ct16 sl16) (c16:codeIn K cd16 "Board.told" = true) (k16:keepIn K (.ref f16)=true) (fn16:PySem.W.isFn K (.ref f16)=true)
  (a17:nsIn K mainGlobals "walked" = sR f17) (l17:K.lookup f17=fO "walked" lA oc17 od17 kV17 dc17 pm17 an17 cd17 ct17 sl17) (c17:codeIn K cd17 "walked" = true) (k17:keepIn K (.ref f17)=true)
  (a18:nsIn K mainGlobals "_law_cell_at" = sR f18) (l18:K.lookup f18=fO "_law_cell_at" fC oc18 od18 kV18 dc18 pm18 an18 cd18 ct18 sl18) (c18:codeIn K cd18 "_law_cell_at" = true) (k18:keepIn K (.ref f18)=true)
  (a19:nsIn K mainGlobals "_law_bag" = sR f19) (l19:K.lookup f19=fO "_law_bag" pX oc19 od19 kV19 dc19 pm19 an19 cd19 ct19 sl19) (c19:codeIn K cd19 "_law_bag" = true) (k19:keepIn K (.ref f19)=true)
  (a20:nsIn K mainGlobals "_law_draw" = sR f20) (l20:K.lookup f20=fO "_law_draw" kW oc20 od20 kV20 dc20 pm20 an20 cd20 ct20 sl20) (c20:codeIn K cd20 "_law_draw" = true) (k20:keepIn K (.ref f20)=true)
  (a21:nsIn K mainGlobals "_law_whole" = sR f21) (l21:K.lookup f21=fO "_law_whole" iT oc21 od21 kV21 dc21 pm21 an21 cd21 ct21 sl21) (c21:codeIn K cd21 "_law_whole" = true) (k21:keepIn K (.ref f21)=true)
  (a22:nsIn K mainGlobals "_law_plain" = sR f22) (l22:K.lookup f22=fO "_law_plain" iV oc22 od22 kV22 dc22 pm22 an22 cd22 ct22 sl22) (c22:codeIn K cd22 "_law_plain" = true) (k22:keepIn K (.ref f22)=true)
  (a23:nsIn K mainGlobals "_law_cross" = sR f23) (l23:K.lookup f23=fO "_law_cross" iW oc23 od23 kV23 dc23 pm23 an23 cd23 ct23 sl23) (c23:codeIn K cd23 "_law_cross" = true) (k23:keepIn K (.ref f23)=true)
  (a24:nsIn K mainGlobals "_law_step" = sR f24) (l24:K.lookup f24=fO "_law_step" kh oc24 od24 kV24 dc24 pm24 an24 cd24 ct24 sl24) (c24:codeIn K cd24 "_law_step" = true) (k24:keepIn K (.ref f24)=true)
  (a25:nsIn K mainGlobals "_law_due" = sR f25) (l25:K.lookup f25=fO "_law_due" qj oc25 od25 kV25 dc25 pm25 an25 cd25 ct25 sl25) (c25:codeIn K cd25 "_law_due" = true) (k25:keepIn K (.ref f25)=true)
  (a26:nsIn K mainGlobals "_law_bad" = sR f26) (l26:K.lookup f26=fO "_law_bad" p8 oc26 od26 kV26 dc26 pm26 an26 cd26 ct26 sl26) (c26:codeIn K cd26 "_law_bad" = true) (k26:keepIn K (.ref f26)=true)
  (a27:nsIn K mainGlobals "_law_good" = sR f27) (l27:K.lookup f27=fO "_law_good" kZ oc27 od27 kV27 dc27 pm27 an27 cd27 ct27 sl27) (c27:codeIn K cd27 "_law_good" = true) (k27:keepIn K (.ref f27)=true)
  (a28:nsIn K mainGlobals "_law_refused" = sR f28) (l28:K.lookup f28=fO "_law_refused" eZ oc28 od28 kV28 dc28 pm28 an28 cd28 ct28 sl28) (c28:codeIn K cd28 "_law_refused" = true) (k28:keepIn K (.ref f28)=true)
  (a29:nsIn K mainGlobals "law" = sR f29) (l29:K.lookup f29=fO "law" s_law oc29 od29 kV29 dc29 pm29 an29 cd29 ct29 sl29) (c29:codeIn K cd29 "law" = true) (k29:keepIn K (.ref f29)=true)
  (z_ValueError:PySem.W.nsIn K mainGlobals "ValueError" = some none)
  (z_abs:PySem.W.nsIn K mainGlobals "abs" = some none)
  (z_all:PySem.W.nsIn K mainGlobals "all" = some none)
  (z_bool:PySem.W.nsIn K mainGlobals "bool" = some none)
  (z_int:PySem.W.nsIn K mainGlobals "int" = some none)
  (z_isinstance:PySem.W.nsIn K mainGlobals "isinstance" = some none)
  (z_len:PySem.W.nsIn K mainGlobals "len" = some none)
  (z_list:PySem.W.nsIn K mainGlobals "list" = some none)
  (z_max:PySem.W.nsIn K mainGlobals "max" = some none)
  (z_range:PySem.W.nsIn K mainGlobals "range" = some none)
  (z_reversed:PySem.W.nsIn K mainGlobals "reversed" = some none)
  (z_str:PySem.W.nsIn K mainGlobals "str" = some none)
  (z_tuple:PySem.W.nsIn K mainGlobals "tuple" = some none)
  (gk_CORNERS:PySem.W.nsIn K mainGlobals "CORNERS" = some (some (.ref d9)))
  (lk_CORNERS:K.lookup d9=some ⟨.type "tuple",odk_CORNERS,.seq #[(.ref k_CORNERS_0),(.ref k_CORNERS_1),(.ref k_CORNERS_2),(.ref k_CORNERS_3)] nk_CORNERS,slk_CORNERS⟩)
  (lk_CORNERS_0:K.lookup k_CORNERS_0=some ⟨.type "tuple",odk_CORNERS_0,.seq #[(.int 0 t_CORNERS_0_0),(.int 0 t_CORNERS_0_1),(.int 1 t_CORNERS_0_2)] nk_CORNERS_0,slk_CORNERS_0⟩)
  (lk_CORNERS_1:K.lookup k_CORNERS_1=some ⟨.type "tuple",odk_CORNERS_1,.seq #[(.int 1 t_CORNERS_1_0),(.int 0 t_CORNERS_1_1),(.int 1 t_CORNERS_1_2)] nk_CORNERS_1,slk_CORNERS_1⟩)
  (lk_CORNERS_2:K.lookup k_CORNERS_2=some ⟨.type "tuple",odk_CORNERS_2,.seq #[(.int 0 t_CORNERS_2_0),(.int 1 t_CORNERS_2_1),(.int 1 t_CORNERS_2_2)] nk_CORNERS_2,slk_CORNERS_2⟩)
  (lk_CORNERS_3:K.lookup k_CORNERS_3=some ⟨.type "tuple",odk_CORNERS_3,.seq #[(.int 1 t_CORNERS_3_0),(.int 1 t_CORNERS_3_1),(.int 1 t_CORNERS_3_2)] nk_CORNERS_3,slk_CORNERS_3⟩)
  (gk_NEEDED:PySem.W.nsIn K mainGlobals "NEEDED" = some (some (.ref cC))) (sk_NEEDED:(cC==sysModules)=false)
  (lk_NEEDED:K.lookup cC=some ⟨.type "dict",none,.dict #[⟨PyData.keyHash w.params "join",.str "join" qk_NEEDED_0,(.str "spot" t_NEEDED_0)⟩,⟨PyData.keyHash w.params "meet",.str "meet" qk_NEEDED_1,(.str "line" t_NEEDED_1)⟩] nk_NEEDED,#[]⟩)
  (gx_EaselError:nsIn K mainGlobals "EaselError" = sR x_EaselError) (xd_EaselError:lQ K x_EaselError "EaselError" = true)
  (gx_Nothing:nsIn K mainGlobals "Nothing" = sR x_Nothing) (xd_Nothing:lQ K x_Nothing "Nothing" = true)
  (gx_Alike:nsIn K mainGlobals "Alike" = sR x_Alike) (xd_Alike:lQ K x_Alike "Alike" = true)
  (gx_Stuck:nsIn K mainGlobals "Stuck" = sR x_Stuck) (xd_Stuck:lQ K x_Stuck "Stuck" = true)
  (gx_NotOnEdge:nsIn K mainGlobals "NotOnEdge" = sR x_NotOnEdge) (xd_NotOnEdge:lQ K x_NotOnEdge "NotOnEdge" = true)
  (gx_Tied:nsIn K mainGlobals "Tied" = sR x_Tied) (xd_Tied:lQ K x_Tied "Tied" = true)
  (gx_NoText:nsIn K mainGlobals "NoText" = sR x_NoText) (xd_NoText:lQ K x_NoText "NoText" = true)
  (ai_Stuck:PySem.W.findIn K (.ref x_Stuck) "__init__" = sR fi_Stuck) (li_Stuck:K.lookup fi_Stuck=fM "__init__" "Stuck.__init__" dH oci_Stuck odi_Stuck kVi_Stuck dci_Stuck pmi_Stuck ani_Stuck cdi_Stuck cti_Stuck sli_Stuck) (ci_Stuck:codeIn K cdi_Stuck "Stuck.__init__" = true) (ki_Stuck:keepIn K (.ref fi_Stuck)=true)
  (xi_Stuck:xJ K x_Stuck fi_Stuck vmB "ValueError.__new__" = true) (xf_Stuck:PySem.W.isFn K (.ref fi_Stuck)=true) (xa_Stuck:xaIn K x_Stuck "Stuck" = true) (xs_Stuck:xsIn K x_Stuck "at" = true)
  : ∃ fd:FuncData,(∀ (s:Shared) (v:Value),BindsTo s fd ⟨[v],[]⟩ [("_law_script",v)])∧∀ base:Heap,K.In base→base.Ns mainGlobals mg→bT l.prog w K mg base CX0 19 fa fd ["_law_script"] (spLaw K):=by
 have e:=hfa.symm.trans (PySem.W.mg_of X G a29)
 cases e
 have F0:=bB (st:=gD) l0 c0 k0
 have b0:=F0.binds (ps:=["thing"]) fun _ _ _ _ _ _ us hl=>match us,hl with | [_],_=>rfl
 have F1:=bB (st:=bY) l1 c1 k1
 have b1:=F1.binds (ps:=["one", "other"]) fun _ _ _ _ _ _ us hl=>match us,hl with | [_,_],_=>rfl
 have F2:=bB (st:=jt) l2 c2 k2
 have b2:=F2.binds (ps:=["numbers"]) fun _ _ _ _ _ _ us hl=>match us,hl with | [_],_=>rfl
 have F3:=bB (st:=dR) l3 c3 k3
 have b3:=F3.binds (ps:=["numbers"]) fun _ _ _ _ _ _ us hl=>match us,hl with | [_],_=>rfl
 have F4:=bB (st:=pU) l4 c4 k4
 have b4:=F4.binds (ps:=["numbers"]) fun _ _ _ _ _ _ us hl=>match us,hl with | [_],_=>rfl
 have F5:=bB (st:=pR) l5 c5 k5
 have b5:=F5.binds (ps:=["one", "other"]) fun _ _ _ _ _ _ us hl=>match us,hl with | [_,_],_=>rfl
 have F6:=bB (st:=cP) l6 c6 k6
 have b6:=F6.binds (ps:=["one", "other"]) fun _ _ _ _ _ _ us hl=>match us,hl with | [_,_],_=>rfl
 have F7:=bB (st:=wK) l7 c7 k7
 have b7:=F7.binds (ps:=["one", "other"]) fun _ _ _ _ _ _ us hl=>match us,hl with | [_,_],_=>rfl
 have F8:=bB (st:=uW) l8 c8 k8
 have b8:=F8.binds (ps:=["one", "other"]) fun _ _ _ _ _ _ us hl=>match us,hl with | [_,_],_=>rfl
 have F9:=bB (st:=cG) l9 c9 k9
 have b9:=F9.binds (ps:=["things", "number", "kind"]) fun _ _ _ _ _ _ us hl=>match us,hl with | [_,_,_],_=>rfl
 have F10:=bB (st:=cO) l10 c10 k10
 have b10:=F10.binds (ps:=["things", "step"]) fun _ _ _ _ _ _ us hl=>match us,hl with | [_,_],_=>rfl
 have F11:=bB (st:=jq) l11 c11 k11
 have b11:=F11.binds (ps:=["things", "step"]) fun _ _ _ _ _ _ us hl=>match us,hl with | [_,_],_=>rfl
 have F12:=bB (st:=dG) l12 c12 k12
 have b12:=F12.binds (ps:=["self"]) fun _ _ _ _ _ _ us hl=>match us,hl with | [_],_=>rfl
 have F13:=bB (st:=dI) l13 c13 k13
 have b13:=F13.binds (ps:=["self", "step"]) fun _ _ _ _ _ _ us hl=>match us,hl with | [_,_],_=>rfl
 have F14:=bB (st:=dF) l14 c14 k14
 have b14:=F14.binds (ps:=["self"]) fun _ _ _ _ _ _ us hl=>match us,hl with | [_],_=>rfl
 have F15:=bB (st:=dj) l15 c15 k15
 have b15:=F15.binds (ps:=["self", "i"]) fun _ _ _ _ _ _ us hl=>match us,hl with | [_,_],_=>rfl
 have F16:=bB (st:=dz) l16 c16 k16
 have b16:=F16.binds (ps:=["self", "i"]) fun _ _ _ _ _ _ us hl=>match us,hl with | [_,_],_=>rfl
 have F17:=bB (st:=lA) l17 c17 k17
 have b17:=F17.binds (ps:=["steps"]) fun _ _ _ _ _ _ us hl=>match us,hl with | [_],_=>rfl
 have F18:=bB (st:=fC) l18 c18 k18
 have b18:=F18.binds (ps:=["_law_script", "_law_k"]) fun _ _ _ _ _ _ us hl=>match us,hl with | [_,_],_=>rfl
 have F19:=bB (st:=pX) l19 c19 k19
 have b19:=F19.binds (ps:=["_law_cell"]) fun _ _ _ _ _ _ us hl=>match us,hl with | [_],_=>rfl
 have F20:=bB (st:=kW) l20 c20 k20
 have b20:=F20.binds (ps:=["_law_bag_here", "_law_many"]) fun _ _ _ _ _ _ us hl=>match us,hl with | [_,_],_=>rfl
 have F21:=bB (st:=iT) l21 c21 k21
 have b21:=F21.binds (ps:=["_law_found"]) fun _ _ _ _ _ _ us hl=>match us,hl with | [_],_=>rfl
 have F22:=bB (st:=iV) l22 c22 k22
 have b22:=F22.binds (ps:=["_law_row"]) fun _ _ _ _ _ _ us hl=>match us,hl with | [_],_=>rfl
 have F23:=bB (st:=iW) l23 c23 k23
 have b23:=F23.binds (ps:=["_law_one", "_law_other"]) fun _ _ _ _ _ _ us hl=>match us,hl with | [_,_],_=>rfl
 have F24:=bB (st:=kh) l24 c24 k24
 have b24:=F24.binds (ps:=["_law_bag_here", "_law_things"]) fun _ _ _ _ _ _ us hl=>match us,hl with | [_,_],_=>rfl
 have F25:=bB (st:=qj) l25 c25 k25
 have b25:=F25.binds (ps:=["_law_step_here", "_law_things"]) fun _ _ _ _ _ _ us hl=>match us,hl with | [_,_],_=>rfl
 have F26:=bB (st:=p8) l26 c26 k26
 have b26:=F26.binds (ps:=["_law_bag_here", "_law_things"]) fun _ _ _ _ _ _ us hl=>match us,hl with | [_,_],_=>rfl
 have F27:=bB (st:=kZ) l27 c27 k27
 have b27:=F27.binds (ps:=["_law_found", "_law_things"]) fun _ _ _ _ _ _ us hl=>match us,hl with | [_,_],_=>rfl
 have F28:=bB (st:=eZ) l28 c28 k28
 have b28:=F28.binds (ps:=["_law_steps", "_law_place"]) fun _ _ _ _ _ _ us hl=>match us,hl with | [_,_],_=>rfl
 have F29:=bB (st:=s_law) l29 c29 k29
 have b29:=F29.binds (ps:=["_law_script"]) fun _ _ _ _ _ _ us hl=>match us,hl with | [_],_=>rfl
 have Fi_Stuck:=bB (st:=dH) li_Stuck ci_Stuck ki_Stuck
 have bi_Stuck:=Fi_Stuck.binds (ps:=["self", "at"]) fun _ _ _ _ _ _ us hl=>match us,hl with | [_,_],_=>rfl
 have T:Txt w K mg ⟨f0,_,f1,_,f2,_,f3,_,f4,_,f5,_,f6,_,f7,_,f8,_,f9,_,f10,_,f11,_,f12,_,f13,_,f14,_,f15,_,f16,_,f17,_,f18,_,f19,_,f20,_,f21,_,f22,_,f23,_,f24,_,f25,_,f26,_,f27,_,f28,_,fa,_,d9,cC,c_Board,x_EaselError,x_Nothing,x_Alike,x_Stuck,x_NotOnEdge,x_Tied,x_NoText,fi_Stuck,_⟩:=⟨F0,PySem.W.mg_of X G a0,b0,F1,PySem.W.mg_of X G a1,b1,F2,PySem.W.mg_of X G a2,b2,F3,PySem.W.mg_of X G a3,b3,F4,PySem.W.mg_of X G a4,b4,F5,PySem.W.mg_of X G a5,b5,F6,PySem.W.mg_of X G a6,b6,F7,PySem.W.mg_of X G a7,b7,F8,PySem.W.mg_of X G a8,b8,F9,PySem.W.mg_of X G a9,b9,F10,PySem.W.mg_of X G a10,b10,F11,PySem.W.mg_of X G a11,b11,F12,b12,F13,⟨a13,fn13,k13⟩,b13,F14,⟨a14,fn14,k14⟩,b14,F15,⟨a15,fn15,k15⟩,b15,F16,⟨a16,fn16,k16⟩,b16,F17,PySem.W.mg_of X G a17,b17,F18,PySem.W.mg_of X G a18,b18,F19,PySem.W.mg_of X G a19,b19,F20,PySem.W.mg_of X G a20,b20,F21,PySem.W.mg_of X G a21,b21,F22,PySem.W.mg_of X G a22,b22,F23,PySem.W.mg_of X G a23,b23,F24,PySem.W.mg_of X G a24,b24,F25,PySem.W.mg_of X G a25,b25,F26,PySem.W.mg_of X G a26,b26,F27,PySem.W.mg_of X G a27,b27,F28,PySem.W.mg_of X G a28,b28,F29,PySem.W.mg_of X G a29,b29,PySem.W.mg_none_of X G z_ValueError,PySem.W.mg_none_of X G z_abs,PySem.W.mg_none_of X G z_all,PySem.W.mg_none_of X G z_bool,PySem.W.mg_none_of X G z_int,PySem.W.mg_none_of X G z_isinstance,PySem.W.mg_none_of X G z_len,PySem.W.mg_none_of X G z_list,PySem.W.mg_none_of X G z_max,PySem.W.mg_none_of X G z_range,PySem.W.mg_none_of X G z_reversed,PySem.W.mg_none_of X G z_str,PySem.W.mg_none_of X G z_tuple,PySem.W.mg_of X G gk_CORNERS,fun _ _=>((jj lk_CORNERS (by simp <;> decide) (.cons relR (.cons relR (.cons relR (.cons relR .nil)))) fun _ _=>(gK ((jj lk_CORNERS_0 (by simp <;> decide) (.cons yx (.cons yx (.cons yx .nil))) fun _ _=>(gK yw (gK yw (gK yw repsN)))) _ _) (gK ((jj lk_CORNERS_1 (by simp <;> decide) (.cons yx (.cons yx (.cons yx .nil))) fun _ _=>(gK yw (gK yw (gK yw repsN)))) _ _) (gK ((jj lk_CORNERS_2 (by simp <;> decide) (.cons yx (.cons yx (.cons yx .nil))) fun _ _=>(gK yw (gK yw (gK yw repsN)))) _ _) (gK ((jj lk_CORNERS_3 (by simp <;> decide) (.cons yx (.cons yx (.cons yx .nil))) fun _ _=>(gK yw (gK yw (gK yw repsN)))) _ _) repsN))))) _ _),PySem.W.mg_of X G gk_NEEDED,⟨sk_NEEDED,by decide +kernel,by decide,_,_,lk_NEEDED,(TabE.cons relS (fun _ _=>repS) (TabE.cons relS (fun _ _=>repS) TabE.nil))⟩,⟨pg_Board,hd_Board,po_Board,sa_Board⟩,PySem.W.mg_of X G gc_Board,⟨mc_Board,a12,fn12,kc_Board⟩,na_Board_things,na_Board_done,PySem.W.mg_of X G gx_EaselError,xd_EaselError,PySem.W.mg_of X G gx_Nothing,xd_Nothing,PySem.W.mg_of X G gx_Alike,xd_Alike,PySem.W.mg_of X G gx_Stuck,xd_Stuck,PySem.W.mg_of X G gx_NotOnEdge,xd_NotOnEdge,PySem.W.mg_of X G gx_Tied,xd_Tied,PySem.W.mg_of X G gx_NoText,xd_NoText,Fi_Stuck,bi_Stuck,xi_Stuck,xf_Stuck,xa_Stuck,xs_Stuck⟩
 exact ⟨_,fun s v=>.of_eq rfl,fun base _ _=>law_imp (hlaw _) (ok_law T)⟩
theorem walk {l:PySem.W.OpenLaw}{q:Program}{loose:List Str}{XP:(Str→Option Value)→Heap→Prop}{YP:World→Heap→Prop}{d:DefRec}{K:Params→PySem.W.Frag}(hn:l.most=some 63)(hdf:d.params.defaults=[])
  (hY:∀ (w:World) (h:Heap),YP w h→(K w.params).In h)
  (F:∀ (w:World) (mg:Str→Option Value) (fa:Addr) (h:Heap),(K w.params).In h→h.Ns mainGlobals mg→mg d.name=some (.ref fa) →
   ∃ fd:FuncData,(∀ (s:Shared) (u:Value),BindsTo s fd ⟨[u],[]⟩ [("_law_script",u)])∧∀ base:Heap,(K w.params).In base→base.Ns mainGlobals mg→bT l.prog w (K w.params) mg base CX0 19 fa fd ["_law_script"] (spLaw (K w.params))) :
  PySem.W.WalkO q loose XP YP l.row.toRowW d [] (fun f vs=>PySem.call f vs):=
 L2.zA (n:=63) (k:=19) (x := "_law_script") (CX:=fun _=>CX0) (sp:=fun w=>spLaw (K w.params)) hn (by decide) hdf ⟨fun _=>rfl,by decide,by decide⟩ hY F (fun _ _ a ns hl hO hS=>⟨a,ns,rfl,hS,hO,hl,fun _=>rfl⟩) fun _ _ _ _ _ z=>z
local macro_rules | `(tactic| trivial) => `(tactic| with_reducible exact Sm.lit (by decide))
local macro_rules | `(tactic| trivial) => `(tactic| with_reducible exact Sm.zero)
local macro_rules | `(tactic| trivial) => `(tactic| with_reducible exact Sm.neg (by trivial))
local macro_rules | `(tactic| trivial) => `(tactic| with_reducible exact Sm.sub (by trivial) (by trivial))
local macro_rules | `(tactic| trivial) => `(tactic| with_reducible exact Sm.add (by trivial) (by trivial))
local macro_rules | `(tactic| trivial) => `(tactic| with_reducible exact Sm.mul (by trivial) (by trivial))
local macro_rules | `(tactic| trivial) => `(tactic| with_reducible assumption)
theorem set_c (h:Gh)(n:Nat)(c:Cell):(h.set n c).c n=some c:=by show (if n=n then some c else h.c n)=some c;rw [if_pos rfl]
theorem vX {h:Gh}{n m:Nat}{c:Cell}(e:m≠n):(h.set n c).c m=h.c m:=by show (if m=n then some c else h.c m)=_;rw [if_neg e]
theorem yW (h:Gh)(c:Cell):(h.new c).c h.nx=some c:=by show (if h.nx=h.nx then some c else h.c h.nx)=some c;rw [if_pos rfl]
theorem qX {h:Gh}{m:Nat}{c:Cell}(e:m≠h.nx):(h.new c).c m=h.c m:=by show (if m=h.nx then some c else h.c m)=_;rw [if_neg e]
theorem aW {h:Gh}{n:Nat}{ws:List W}(e:h.c n=some (.lst ws)):view h (.loc n)=some ws:=by simp only [view,fB,e]
def Oth (n:Nat)(h h':Gh):Prop:=h'.nx=h.nx∧∀ m,m≠n→h'.c m=h.c m
theorem Oth.trans {n:Nat}{a b c:Gh}(x:Oth n a b)(y:Oth n b c):Oth n a c:=⟨y.1.trans x.1,fun m e=>(y.2 m e).trans (x.2 m e)⟩
theorem Oth.set {n:Nat}{h:Gh}{c:Cell}:Oth n h (h.set n c):=⟨rfl,fun _ e=>vX e⟩
theorem dO {a b:Int}(h:0<b):a.fmod b=a % b:=Int.fmod_eq_emod_of_nonneg a (Int.le_of_lt h)
theorem vK {a b:Int}(h:0<b):a.fdiv b=a / b:=Int.fdiv_eq_ediv_of_nonneg a (Int.le_of_lt h)
theorem by2_t {A B:Prop}{c:Bool}(e:c=true)(h:A):by2 c A B:=by subst e;exact h
theorem by2_f {A B:Prop}{c:Bool}(e:c=false)(h:B):by2 c A B:=by subst e;exact h
theorem g8 {ws ws0:List W}{g:MG}{b:MS}{D:bF}(I:Nat→Sw→Gh→Prop)
  (step:∀ (i:Nat) (w:W) (σ : Sw) (h:Gh) (N:Sw→Gh→Prop),(∀ σ' h',I (i+1) σ' h'→N σ' h')→ws[i]?=some w→I i σ h→g w σ h fun σ1 h1=>b { D with nx:=N,ct:=N,bk:=D.nx } σ1 h1)
  (fin:∀ σ h,I ws.length σ h→D.nx σ h):∀ {σ : Sw} {h:Gh},I 0 σ h→dZ ⟨ws0,none⟩ g b D ws σ h:=by
 induction ws generalizing I with
 | nil=>intro σ h h0;exact fin σ h h0
 | cons w ws ih=>
  intro σ h h0
  refine step 0 w σ h _ (fun σ' h' q=>?_) rfl h0
  exact ih (fun i=>I (i+1)) (fun i w σ h N hN e hi=>step (i+1) w σ h N hN (by simpa using e) hi) (fun σ h q=>fin σ h q) q
theorem vW {ws ws0:List W}{own:W→Option (List W)}{ix:List Nat}{tt:MT}{te:ME}{σ : Sw}{Q:WK}(I:Nat→List W→Gh→Prop)
  (step:∀ (i:Nat) (w:W) (acc:List W) (h:Gh) (N:List W→Gh→Prop),(∀ acc' h',I (i+1) acc' h'→N acc' h')→ws[i]?=some w→I i acc h →
   ∃ vs,own w=some vs∧tt (vs.map some++oV ix σ) h fun c h1=>by2 c (te (vs.map some++oV ix σ) h1 fun v h2=>N (acc++[v]) h2) (N acc h1))
  (fin:∀ acc h,I ws.length acc h→Q (.lst acc) h):∀ {acc:List W} {h:Gh},I 0 acc h→lu ⟨ws0,none⟩ own ix tt te σ Q ws acc h:=by
 induction ws generalizing I with
 | nil=>intro acc h h0;exact fin acc h h0
 | cons w ws ih=>
  intro acc h h0
  obtain ⟨vs,ev,q⟩:=step 0 w acc h _ (fun acc' h' q=>ih (fun i=>I (i+1)) (fun i w acc h N hN e hi=>step (i+1) w acc h N hN (by simpa using e) hi) (fun acc h q=>fin acc h q) q) rfl h0
  show (match own w with
   | some vs=>_
   | none=>False)
  rw [ev]
  exact q
theorem atI_ints {ns:List Int}{k:Int}(h0:0≤k)(h1:k<((ns.map W.int).length:Int)):atI (ns.map W.int) k=some (.int (ns.getD k.toNat 0)):=by
 have hk:k.toNat<ns.length:=by rw [List.length_map] at h1;omega
 have e:(ns.map W.int)[k.toNat]?=some (.int (ns.getD k.toNat 0)):=by
  rw [List.getElem?_map,List.getElem?_eq_getElem hk,List.getD_eq_getElem?_getD,List.getElem?_eq_getElem hk];rfl
 have:=aX e
 rwa [show ((k.toNat:Nat):Int)=k by omega] at this
def gF (f n:Int):Int:=((Int.gcd n f:Nat):Int)
def gL (ns:List Int):Int:=ns.foldl gF 0
theorem zT (ns:List Int)(n:Int):gL (ns++[n])=gF (gL ns) n:=by unfold gL;rw [List.foldl_append];rfl
theorem gF_nn (f n:Int):0≤gF f n:=Int.natCast_nonneg _
theorem gL_nn (ns:List Int):0≤gL ns:=by
 rcases List.eq_nil_or_concat ns with rfl | ⟨l,a,rfl⟩
 ·exact Int.le_refl _
 ·rw [List.concat_eq_append,zT];exact gF_nn _ _
theorem wg {x y:Int}(hx:0≤x)(hy:0<y):Int.gcd y (x.fmod y)=Int.gcd x y∧0≤x.fmod y∧x.fmod y<y:=by
 rw [Int.fmod_eq_emod_of_nonneg x (Int.le_of_lt hy)]
 refine ⟨?_,Int.emod_nonneg _ (by omega),Int.emod_lt_of_pos _ hy⟩
 obtain ⟨m,rfl⟩:=Int.eq_ofNat_of_zero_le hx
 obtain ⟨n,rfl⟩:=Int.eq_ofNat_of_zero_le (Int.le_of_lt hy)
 rw [←Int.natCast_emod,Int.gcd_natCast_natCast,Int.gcd_natCast_natCast,Nat.gcd_comm m n,Nat.gcd_rec n m,Nat.gcd_comm]
theorem abs_nn (a:Int):0≤(if a<0 then -a else a):=by split <;> omega
theorem abs_eq (a:Int):(if a<0 then -a else a)=(a.natAbs:Int):=by split <;> omega
theorem gcd_abs (a b:Int):Int.gcd (if a<0 then -a else a) (if b<0 then -b else b)=Int.gcd a b:=by
 rw [abs_eq,abs_eq];simp [Int.gcd]
theorem mO {x:Int}(h:0≤x):((Int.gcd x 0:Nat):Int)=x:=by
 rw [Int.gcd_zero_right];omega
def TwoOk (c:MSp):Prop:=∀ {h:Gh} {a b:Int} {Q:WK} {E:XWK},Q (.int (gF b a)) h→c [.int a,.int b] h Q E
theorem w_two:TwoOk fD:=by
 intro h a b Q E q
 conv=>whnf
 refine ⟨fun m σ h'=>h'=h∧∃ x y r,σ = [some (.int x),some (.int y),r]∧0≤x∧0≤y∧Int.gcd x y=Int.gcd a b∧m=y.toNat,⟨_,rfl,_,_,none,rfl,abs_nn a,abs_nn b,gcd_abs a b,rfl⟩,?_⟩
 rintro m σ h' ⟨rfl,x,y,r,rfl,x0,y0,hg,rfl⟩
 refine ⟨fun e=>?_,fun e=>?_⟩
 ·have hy:y≠0:=by simpa [eqW] using e
  obtain ⟨g1,g2,g3⟩:=wg x0 (by omega:0<y)
  conv=>whnf
  refine ⟨hy,?_⟩
  refine ⟨(x.fmod y).toNat,by omega,rfl,y,x.fmod y,_,rfl,y0,g2,g1.trans hg,rfl⟩
 ·have hy:y=0:=by simpa [eqW] using e
  subst hy
  have:gF b a=x:=by unfold gF;rw [←hg];exact mO x0
  rw [this] at q
  exact q
def Ints (w:W)(ns:List Int):Prop:=w=.lst (ns.map .int)∨w=.tup (ns.map .int)
def qL (c:MSp):Prop:=∀ {h:Gh} {w:W} {ns:List Int} {Q:WK} {E:XWK},Ints w ns→Q (.int (gL ns)) h→c [w] h Q E
theorem ints_get {ns:List Int}{i:Nat}{w:W}(e:(ns.map W.int)[i]?=some w):∃ n,ns[i]?=some n∧w=.int n:=by
 rw [List.getElem?_map] at e
 cases q:ns[i]? with
 | none=>rw [q] at e;cases e
 | some n=>rw [q] at e;exact ⟨n,rfl,(Option.some.inj e).symm⟩
theorem z6 {ns:List Int}{i:Nat}{n:Int}(e:ns[i]?=some n):gL (ns.take (i+1))=gF (gL (ns.take i)) n:=by
 rw [List.take_succ,e,←zT];rfl
theorem w_divisor {tw:MSp}(ht:TwoOk tw):qL (rz tw):=by
 intro h w ns Q E hw q
 have key:dZ ⟨ns.map .int,none⟩ (nName 2) (cj (bf tw E (aq (aC 2) (aq (aC 1) aN))) (nName 1)) { nx:=ni tw E { nx:=fun _ h'=>Q .non h',rt:=fun w h'=>Q w h' },rt:=fun w h'=>Q w h' } (ns.map .int) [some w,some (.int 0),none] h:=by
  refine g8 (fun i σ h'=>h'=h∧∃ o,σ = [some w,some (.int (gL (ns.take i))),o]) ?_ ?_ ⟨rfl,none,rfl⟩
  ·rintro i x σ h' N hN e ⟨rfl,o,rfl⟩
   obtain ⟨n,en,rfl⟩:=ints_get e
   conv=>whnf
   refine ht ?_
   refine hN _ _ ⟨rfl,some (.int n),?_⟩
   rw [z6 en]
   rfl
  ·rintro σ h' ⟨rfl,o,rfl⟩
   rw [List.length_map,List.take_length]
   exact q
 rcases hw with rfl | rfl <;> exact key
theorem gF_mul (f n k:Int)(hf:0≤f):gF (f*(k.natAbs:Int)) (n*k)=gF f n*(k.natAbs:Int):=by
 unfold gF
 rw [←Int.natCast_mul]
 congr 1
 unfold Int.gcd
 rw [Int.natAbs_mul,Int.natAbs_mul,Int.natAbs_natCast,Nat.gcd_mul_right]
theorem gL_mul (k:Int)(ns:List Int):gL (ns.map (· * k))=gL ns*(k.natAbs:Int):=by
 have:∀ (ns:List Int) (f:Int),0≤f→(ns.map (· * k)).foldl gF (f*(k.natAbs:Int))=ns.foldl gF f*(k.natAbs:Int):=by
  intro ns
  induction ns with
  | nil=>intro f _;rfl
  | cons n ns ih=>intro f hf;rw [List.map_cons,List.foldl_cons,List.foldl_cons,gF_mul f n k hf];exact ih _ (gF_nn _ _)
 have h:=this ns 0 (Int.le_refl _)
 rw [Int.zero_mul] at h
 exact h
theorem gF_sm {m:Nat}{f n:Int}(hf:Sm m f)(hn:Sm m n):Sm m (gF f n):=by
 unfold gF Sm at *
 rw [Int.natAbs_natCast]
 unfold Int.gcd
 by_cases e:n.natAbs=0
 ·rw [e,Nat.gcd_zero_left];exact hf
 ·exact Nat.lt_of_le_of_lt (Nat.gcd_le_left _ (Nat.pos_of_ne_zero e)) hn
theorem gL_sm {m:Nat}{ns:List Int}(h:∀ n∈ns,Sm m n):Sm m (gL ns):=by
 have:∀ (ns:List Int) (f:Int),Sm m f→(∀ n∈ns,Sm m n)→Sm m (ns.foldl gF f):=by
  intro ns
  induction ns with
  | nil=>intro f hf _;exact hf
  | cons n ns ih=>intro f hf h;exact ih _ (gF_sm hf (h n (by simp))) fun x hx=>h x (by simp [hx])
 exact this ns 0 Sm.zero h
def iw:List Int→Int
 | []=>0
 | n::ns=>if n=0 then iw ns else n
def cV (ns:List Int):Int:=iw ns.reverse
def PlL (ns:List Int):Prop:=gL ns=1∧0<cV ns
def NZ (ns:List Int):Prop:=∃ n∈ns,n≠0
theorem cJ {k:Int}(hk:k≠0)(x:Int):x*k=0↔x=0:=by
 rw [Int.mul_eq_zero];exact ⟨fun h=>h.elim id fun h=>absurd h hk,.inl⟩
theorem sH {k:Int}(hk:k≠0):∀ ns:List Int,iw (ns.map (· * k))=iw ns*k
 | []=>(Int.zero_mul k).symm
 | n::ns=>by
  rw [List.map_cons,iw,iw]
  by_cases h:n=0
  ·rw [if_pos h,if_pos ((cJ hk n).mpr h),sH hk ns]
  ·rw [if_neg h,if_neg (fun e=>h ((cJ hk n).mp e))]
theorem ju {k:Int}(hk:k≠0)(ns:List Int):cV (ns.map (· * k))=cV ns*k:=by
 unfold cV;rw [←List.map_reverse,sH hk]
theorem fstNZ_ne {ns:List Int}(h:NZ ns):iw ns≠0:=by
 induction ns with
 | nil=>obtain ⟨n,hn,_⟩:=h;cases hn
 | cons a ns ih=>
  rw [iw]
  by_cases e:a=0
  ·rw [if_pos e]
   refine ih ?_
   obtain ⟨n,hn,n0⟩:=h
   rcases List.mem_cons.mp hn with rfl | hn
   ·exact absurd e n0
   ·exact ⟨n,hn,n0⟩
  ·rw [if_neg e];exact e
theorem vZ {ns:List Int}(h:NZ ns):cV ns≠0:=by
 obtain ⟨n,hn,n0⟩:=h
 exact fstNZ_ne ⟨n,List.mem_reverse.mpr hn,n0⟩
theorem gF_dvd (f n:Int):gF f n ∣ f∧gF f n ∣ n:=⟨Int.gcd_dvd_right ..,Int.gcd_dvd_left ..⟩
theorem gL_dvd {ns:List Int}:∀ n∈ns,gL ns ∣ n:=by
 have:∀ (ns:List Int) (f:Int),ns.foldl gF f ∣ f∧∀ n∈ns,ns.foldl gF f ∣ n:=by
  intro ns
  induction ns with
  | nil=>intro f;exact ⟨Int.dvd_refl _,fun n hn=>absurd hn (by simp)⟩
  | cons a ns ih=>
   intro f
   obtain ⟨h1,h2⟩:=ih (gF f a)
   refine ⟨Int.dvd_trans h1 (gF_dvd f a).1,fun n hn=>?_⟩
   rcases List.mem_cons.mp hn with rfl | hn
   ·exact Int.dvd_trans h1 (gF_dvd f n).2
   ·exact h2 n hn
 exact (this ns 0).2
theorem gL_ne {ns:List Int}(h:NZ ns):0<gL ns:=by
 have h0:=gL_nn ns
 obtain ⟨n,hn,n0⟩:=h
 have hd:=gL_dvd n hn
 by_cases e:gL ns=0
 ·rw [e] at hd;exact absurd (Int.zero_dvd.mp hd) n0
 ·omega
theorem PlL.nz {ns:List Int}(h:PlL ns):NZ ns:=by
 have:∀ l:List Int,0<iw l→NZ l:=by
  intro l
  induction l with
  | nil=>intro h;exact absurd h (by decide)
  | cons a l ih=>
   intro h
   rw [iw] at h
   by_cases e:a=0
   ·rw [if_pos e] at h
    obtain ⟨n,hn,n0⟩:=ih h
    exact ⟨n,List.mem_cons_of_mem _ hn,n0⟩
   ·exact ⟨a,by simp,e⟩
 obtain ⟨n,hn,n0⟩:=this _ h.2
 exact ⟨n,List.mem_reverse.mp hn,n0⟩
theorem plainL {ns:List Int}{by':Int}(h:NZ ns)(hb:by'=if cV ns<0 then 0 - gL ns else gL ns) :
  by'≠0∧PlL (ns.map (·.fdiv by'))∧ns=(ns.map (·.fdiv by')).map (· * by'):=by
 have g0:=gL_ne h
 have hn:by'≠0:=by rw [hb];split <;> omega
 have hd:∀ t,gL ns ∣ t→by' ∣ t:=fun t ht=>by
  rw [hb]
  split
  ·rw [Int.zero_sub];exact Int.neg_dvd.mpr ht
  ·exact ht
 have e:ns=(ns.map (·.fdiv by')).map (· * by'):=by
  rw [List.map_map]
  conv=>lhs;rw [←List.map_id ns]
  refine List.map_congr_left fun n hn'=>?_
  obtain ⟨m,hm⟩:=hd n (gL_dvd n hn')
  show n=n.fdiv by'*by'
  conv=>lhs;rw [hm]
  conv=>rhs;rw [hm]
  rw [Int.mul_fdiv_cancel_left _ hn,Int.mul_comm]
 refine ⟨hn,?_,e⟩
 generalize hms:ns.map (·.fdiv by')=ms at e
 have e1:gL ns=gL ms*(by'.natAbs:Int):=by rw [e];exact gL_mul by' ms
 have e2:(by'.natAbs:Int)=gL ns:=by rw [hb];split <;> omega
 have e3:cV ns=cV ms*by':=by rw [e];exact ju hn ms
 have l0:=vZ h
 refine ⟨?_,?_⟩
 ·rw [e2] at e1
  have e1':gL ms*gL ns=1*gL ns:=by rw [←e1,Int.one_mul]
  exact Int.eq_of_mul_eq_mul_right (by omega) e1'
 ·by_cases hs:cV ns<0
  ·rw [if_pos hs] at hb
   have:by'<0:=by omega
   rw [e3] at hs
   by_cases q:0<cV ms
   ·exact q
   ·have:=Int.mul_nonneg_of_nonpos_of_nonpos (show cV ms≤0 by omega) (Int.le_of_lt this)
    omega
  ·rw [if_neg hs] at hb
   have:0<by':=by omega
   have hp:0<cV ns:=by omega
   rw [e3] at hp
   by_cases q:0<cV ms
   ·exact q
   ·have:=Int.mul_nonpos_of_nonpos_of_nonneg (show cV ms≤0 by omega) (Int.le_of_lt this)
    omega
theorem lC {k:Int}(hk:k≠0):∀ {ns ms:List Int},ns.map (· * k)=ms.map (· * k)→ns=ms
 | [],[],_=>rfl
 | [],_::_,h=>by simp at h
 | _::_,[],h=>by simp at h
 | a::ns,b::ms,h=>by
  rw [List.map_cons,List.map_cons] at h
  obtain ⟨h1,h2⟩:=List.cons.inj h
  rw [Int.eq_of_mul_eq_mul_right hk h1,lC hk h2]
theorem plL_eq {ns ms:List Int}(hn:PlL ns)(hm:PlL ms){s t:Int}(hs:s≠0)(ht:t≠0)(h:ns.map (· * s)=ms.map (· * t)):ns=ms:=by
 have e1:gL ns*(s.natAbs:Int)=gL ms*(t.natAbs:Int):=by rw [←gL_mul,←gL_mul,h]
 rw [hn.1,hm.1] at e1
 have e2:cV ns*s=cV ms*t:=by rw [←ju hs,←ju ht,h]
 have a:=hn.2
 have b:=hm.2
 have st:s=t:=by
  rcases Int.lt_or_gt_of_ne hs with s0 | s0 <;> rcases Int.lt_or_gt_of_ne ht with t0 | t0
  ·omega
  ·have x:=Int.mul_neg_of_pos_of_neg a s0
   have y:=Int.mul_pos b t0
   omega
  ·have x:=Int.mul_pos a s0
   have y:=Int.mul_neg_of_pos_of_neg b t0
   omega
  ·omega
 subst st
 exact lC hs h
def PlnL (c0:MSp):Prop:=∀ {h:Gh} {w:W} {ns:List Int} {m:Nat} {Q:WK} {E:XWK},Ints w ns→NZ ns→(∀ n∈ns,Sm m n)→m≤8000→ns.length≤1000 →
 (∀ (ms:List Int) (k:Int),k≠0→ns=ms.map (· * k)→PlL ms→(∀ n∈ms,Sm m n)→Q (.tup (ms.map .int)) h)→c0 [w] h Q E
theorem eV (a b:Int):eqW (.int a) (.int b)=(a==b):=by rw [eqW]
theorem sm_part {m:Nat}{a a' k:Int}(h:Sm m a)(e:a=a'*k)(hk:k≠0):Sm m a':=by
 refine h.le ?_
 rw [e,Int.natAbs_mul]
 exact Nat.le_mul_of_pos_right _ (by omega)
theorem sm_parts {m:Nat}{ns ms:List Int}{k:Int}(h:∀ n∈ns,Sm m n)(hk:k≠0)(e:ns=ms.map (· * k)):∀ n∈ms,Sm m n:=fun n hn=>
 sm_part (h (n*k) (by rw [e];exact List.mem_map.mpr ⟨n,hn,rfl⟩)) rfl hk
theorem last_nzL {ns:List Int}(h:NZ ns):atI ((ns.filter (·≠0)).map W.int) (-1)=some (.int (cV ns)):=by
 have key:∀ l:List Int,iw l≠0→∃ r,l.filter (·≠0)=iw l::r:=by
  intro l
  induction l with
  | nil=>intro h;exact absurd rfl h
  | cons a l ih=>
   intro h
   rw [iw] at h ⊢
   by_cases e:a=0
   ·rw [if_pos e] at h ⊢
    obtain ⟨r,hr⟩:=ih h
    exact ⟨r,by rw [List.filter_cons,if_neg (by simp [e])];exact hr⟩
   ·rw [if_neg e]
    exact ⟨_,by rw [List.filter_cons,if_pos (by simp [e])]⟩
 obtain ⟨r,hr⟩:=key ns.reverse (vZ h)
 have hf:ns.filter (·≠0)=r.reverse++[cV ns]:=by
  rw [List.filter_reverse] at hr
  have:=congrArg List.reverse hr
  rw [List.reverse_reverse,List.reverse_cons] at this
  exact this
 rw [hf,List.map_append]
 exact atI_last _ _
theorem lc_div {ix:List Nat}{σ : Sw}{h:Gh}{Q:WK}{w:W}{ns:List Int}{by':Int}{m:Nat}(hs:srcA h w=some ⟨ns.map .int,none⟩)(hb:by'≠0)(hm:m≤8000)(hs':Sm m by')(hz:ns.length≤sizeLine)(hv:σ[0]?=some (some w))(hx:oV ix σ = [some (.int by')])(k:Q (.lst ((ns.map (·.fdiv by')).map .int)) h) :
  mLC ow1 ix (nIt (aC 0)) yC (mOp kDiv (aC 0) (aC 1)) σ h Q:=by
 unfold mLC nIt aC
 rw [hv]
 dsimp only
 rw [hs]
 refine kO.mk (by rw [List.length_map];exact hz) ?_
 refine vW (fun i acc h'=>h'=h∧acc=((ns.take i).map (·.fdiv by')).map W.int) ?_ ?_ ⟨rfl,rfl⟩
 ·rintro i w acc h' N hN e ⟨rfl,rfl⟩
  obtain ⟨n,en,rfl⟩:=ints_get e
  refine ⟨[.int n],rfl,?_⟩
  rw [hx]
  refine ⟨⟨hb,m,hm,hs'⟩,?_⟩
  refine hN _ _ ⟨rfl,?_⟩
  rw [List.take_succ,en]
  simp
 ·rintro acc h' ⟨rfl,rfl⟩
  rw [List.length_map,List.take_length]
  exact k
def EndsL (c0:MSp):Prop:=∀ {h:Gh} {w:W} {ns:List Int} {Q:WK} {E:XWK},Ints w ns→Q (.bl (decide (cV ns<0))) h→c0 [w] h Q E
theorem w_endsL:EndsL jY:=by
 intro h w ns Q E hw q
 have key:∀ (l:List Int) (s:Src) (o:Option W),s.cell=none→Q (.bl (decide (iw l<0))) h→dZ s (nName 1) (gG (bx (mOp kNe (aC 1) (mC (.int 0)))) (cN (mOp kLt (aC 1) (mC (.int 0)))) cu)
   { nx:=gO E { nx:=fun _ h'=>Q .non h',rt:=fun w h'=>Q w h' },rt:=fun w h'=>Q w h' } (l.map .int) [some w,o] h:=by
  intro l
  induction l with
  | nil=>
   intro s o hs q
   obtain ⟨ws,ix⟩:=s
   cases hs
   exact q
  | cons n l ih=>
   intro s o hs q
   obtain ⟨ws,ix⟩:=s
   cases hs
   rw [iw] at q
   refine ⟨fun e=>?_,fun e=>?_⟩
   ·rw [eV] at e
    rw [if_neg (by simpa using e)] at q
    exact q
   ·rw [eV] at e
    rw [if_pos (by simpa using e)] at q
    exact ih _ _ rfl q
 have k2:=key ns.reverse ⟨(ns.map .int).reverse,none⟩ none rfl q
 rw [List.map_reverse] at k2
 rcases hw with rfl | rfl <;> exact k2
theorem w_pplainL {dv en:MSp}(hdv:qL dv)(hen:EndsL en):PlnL (yK dv en):=by
 intro h w ns m Q E hw h0 hs hm hl q
 have hg0:=gL_ne h0
 have hgs:Sm m (gL ns):=gL_sm hs
 have hz:ns.length≤sizeLine:=Nat.le_trans hl (by decide)
 have src:srcA h w=some ⟨ns.map .int,none⟩:=by rcases hw with rfl | rfl <;> rfl
 have fin:∀ by',(by'=if cV ns<0 then 0 - gL ns else gL ns)→rF dv en E { nx:=fun _ h'=>Q .non h',rt:=fun w h'=>Q w h' } [some w,some (.int by')] h:=by
  intro by' e
  obtain ⟨hn,pl,eq⟩:=plainL h0 e
  have hbs:Sm m by':=by refine hgs.le ?_;rw [e];split <;> omega
  show mLC ow1 [1] (nIt (aC 0)) yC (mOp kDiv (aC 0) (aC 1)) [some w,some (.int by')] h _
  refine lc_div (w:=w) (ns:=ns) src hn hm hbs hz rfl rfl ?_
  exact q _ by' hn eq pl (sm_parts hs hn eq)
 refine hdv hw ?_
 refine yD (by rw [eV];simp;omega) ?_
 refine hen hw ?_
 refine br_d (fun hl=>?_) (fun hl=>?_)
 ·exact fin _ (by rw [if_pos hl,Int.zero_sub])
 ·exact fin _ (by rw [if_neg hl])
abbrev Tr:=Int×Int×Int
def tl (t:Tr):List Int:=[t.1,t.2.1,t.2.2]
def tw (t:Tr):W:=.tup [.int t.1,.int t.2.1,.int t.2.2]
def Pl (t:Tr):Prop:=PlL (tl t)
def SmT (m:Nat)(t:Tr):Prop:=Sm m t.1∧Sm m t.2.1∧Sm m t.2.2
def sc (k:Int)(t:Tr):Tr:=(t.1*k,t.2.1*k,t.2.2*k)
def Par (u t:Tr):Prop:=∃ k,k≠0∧u=sc k t
def crs (p q:Tr):Tr:=(p.2.1*q.2.2 - p.2.2*q.2.1,p.2.2*q.1 - p.1*q.2.2,p.1*q.2.1 - p.2.1*q.1)
def dt3 (p q:Tr):Int:=p.1*q.1+p.2.1*q.2.1+p.2.2*q.2.2
theorem SmT.all {m:Nat}{t:Tr}(h:SmT m t):∀ n∈tl t,Sm m n:=by
 intro n hn
 simp only [tl,List.mem_cons,List.not_mem_nil,or_false] at hn
 rcases hn with rfl | rfl | rfl
 ·exact h.1
 ·exact h.2.1
 ·exact h.2.2
theorem uQ {t:Tr}:t=(0,0,0)↔t.1=0∧t.2.1=0∧t.2.2=0:=by
 obtain ⟨a,b,c⟩:=t
 simp
theorem tl_nz {t:Tr}(h:t≠(0,0,0)):NZ (tl t):=by
 by_cases a:t.1=0
 ·by_cases b:t.2.1=0
  ·by_cases c:t.2.2=0
   ·exact absurd (uQ.mpr ⟨a,b,c⟩) h
   ·exact ⟨_,by simp [tl],c⟩
  ·exact ⟨_,by simp [tl],b⟩
 ·exact ⟨_,by simp [tl],a⟩
theorem tl_map {t:Tr}{k:Int}{ms:List Int}(e:tl t=ms.map (· * k)):∃ u:Tr,ms=tl u∧t=sc k u:=by
 match ms,congrArg List.length e,e with
 | [a,b,c],_,e=>
  simp only [tl,List.map_cons,List.map_nil,List.cons.injEq,and_true] at e
  exact ⟨(a,b,c),rfl,by obtain ⟨x,y,z⟩:=t;simp only [sc];simp only at e;rw [e.1,e.2.1,e.2.2]⟩
theorem PlnL.tr {c0:MSp}(hc:PlnL c0){h:Gh}{w:W}{u:Tr}{m:Nat}{Q:WK}{E:XWK}(hw:w=tw u∨w=.lst [.int u.1,.int u.2.1,.int u.2.2])(h0:u≠(0,0,0))(hs:SmT m u)(hm:m≤8000)
  (q:∀ t:Tr,Pl t→Par u t→SmT m t→Q (tw t) h):c0 [w] h Q E:=by
 refine hc (ns:=tl u) (m:=m) ?_ (tl_nz h0) hs.all hm (show 3≤1000 by decide) fun ms k hk e pl sm=>?_
 ·rcases hw with rfl | rfl
  ·exact .inr rfl
  ·exact .inl rfl
 ·obtain ⟨t,rfl,e'⟩:=tl_map e
  exact q t pl ⟨k,hk,e'⟩ ⟨sm _ (by simp [tl]),sm _ (by simp [tl]),sm _ (by simp [tl])⟩
theorem sc_zero {k:Int}{t:Tr}(hk:k≠0):sc k t=(0,0,0)↔t=(0,0,0):=by
 rw [uQ,uQ]
 show (t.1*k=0∧t.2.1*k=0∧t.2.2*k=0)↔_
 rw [cJ hk,cJ hk,cJ hk]
theorem Pl.ne {t:Tr}(h:Pl t):t≠(0,0,0):=by
 rintro rfl
 obtain ⟨n,hn,n0⟩:=h.nz
 simp [tl] at hn
 exact n0 hn
theorem par_eq {u p q:Tr}(hp:Pl p)(hq:Pl q)(h1:Par u p)(h2:Par u q):p=q:=by
 obtain ⟨s,hs,e⟩:=h1
 obtain ⟨t,ht,e'⟩:=h2
 have h:sc s p=sc t q:=by rw [←e,←e']
 have:=plL_eq hp hq hs ht (by
  have:=congrArg tl h
  simpa [tl,sc] using this)
 obtain ⟨a,b,c⟩:=p
 obtain ⟨x,y,z⟩:=q
 simp only [tl,List.cons.injEq,and_true] at this
 rw [this.1,this.2.1,this.2.2]
theorem ray {p q:Tr}(hp:p≠(0,0,0))(h:crs p q=(0,0,0)):∃ s t:Int,s≠0∧sc s q=sc t p:=by
 obtain ⟨a,b,c⟩:=p
 obtain ⟨x,y,z⟩:=q
 have h1:b*z - c*y=0:=congrArg (·.1) h
 have h2:c*x - a*z=0:=congrArg (·.2.1) h
 have h3:a*y - b*x=0:=congrArg (·.2.2) h
 by_cases ha:a=0
 ·by_cases hb:b=0
  ·by_cases hc:c=0
   ·exact absurd (by rw [ha,hb,hc]) hp
   ·refine ⟨c,z,hc,?_⟩
    simp only [sc]
    refine Prod.ext ?_ (Prod.ext ?_ ?_) <;> simp only <;> grind
  ·refine ⟨b,y,hb,?_⟩
   simp only [sc]
   refine Prod.ext ?_ (Prod.ext ?_ ?_) <;> simp only <;> grind
 ·refine ⟨a,x,ha,?_⟩
  simp only [sc]
  refine Prod.ext ?_ (Prod.ext ?_ ?_) <;> simp only <;> grind
theorem plain_eq {p q:Tr}(hp:Pl p)(hq:Pl q)(h:crs p q=(0,0,0)):p=q:=by
 obtain ⟨s,t,hs,e⟩:=ray hp.ne h
 have ht:t≠0:=by
  rintro rfl
  have:sc s q=(0,0,0):=by rw [e];simp [sc]
  exact hq.ne ((sc_zero hs).mp this)
 exact par_eq (u:=sc t p) hp hq ⟨t,ht,rfl⟩ ⟨s,hs,e.symm⟩
theorem crs_ne {p q:Tr}(hp:Pl p)(hq:Pl q)(h:p≠q):crs p q≠(0,0,0):=fun e=>h (plain_eq hp hq e)
theorem flat {n p q r:Tr}(hn:n≠(0,0,0))(hp:dt3 n p=0)(hq:dt3 n q=0)(hr:dt3 n r=0):dt3 (crs p q) r=0:=by
 obtain ⟨n1,n2,n3⟩:=n
 obtain ⟨p1,p2,p3⟩:=p
 obtain ⟨q1,q2,q3⟩:=q
 obtain ⟨r1,r2,r3⟩:=r
 simp only [dt3,crs] at *
 generalize hd:(p2*q3 - p3*q2)*r1+(p3*q1 - p1*q3)*r2+(p1*q2 - p2*q1)*r3=d
 have e1:n1*d=0:=by grind
 have e2:n2*d=0:=by grind
 have e3:n3*d=0:=by grind
 by_cases h:d=0
 ·exact h
 ·have f:∀ x:Int,x*d=0→x=0:=fun x e=>by
   rcases Int.mul_eq_zero.mp e with e | e
   ·exact e
   ·exact absurd e h
  exact absurd (by rw [f _ e1,f _ e2,f _ e3]) hn
theorem crs_sm {m:Nat}{p q:Tr}(hp:SmT m p)(hq:SmT m q):SmT (m+m+1) (crs p q):=
 ⟨(hp.2.1.mul hq.2.2).sub (hp.2.2.mul hq.2.1) |>.mono (by omega),(hp.2.2.mul hq.1).sub (hp.1.mul hq.2.2) |>.mono (by omega),(hp.1.mul hq.2.1).sub (hp.2.1.mul hq.1) |>.mono (by omega)⟩
theorem eq_tw (p q:Tr):eqW (tw p) (tw q)=decide (p=q):=by
 obtain ⟨a,b,c⟩:=p
 obtain ⟨x,y,z⟩:=q
 unfold tw
 rw [eqW,iU,iU,iU,iU,eV,eV,eV]
 by_cases ha:a=x <;> by_cases hb:b=y <;> by_cases hc:c=z <;> simp [ha,hb,hc]
def CrsOk (c0:MSp):Prop:=∀ {h:Gh} {p q:Tr} {m:Nat} {Q:WK} {E:XWK},m≤10000→SmT m p→SmT m q→Q (tw (crs p q)) h→c0 [tw p,tw q] h Q E
theorem w_cross:CrsOk r_cross:=by
 intro h p q m Q E hm hp hq k
 obtain ⟨a,b,c⟩:=p
 obtain ⟨x,y,z⟩:=q
 obtain ⟨ha,hb,hc⟩:=hp
 obtain ⟨hx,hy,hz⟩:=hq
 simp only at ha hb hc hx hy hz
 ((conv=>whnf);repeat (refine And.intro (by exact qb.of (by trivial) (by trivial) (by omega) (by omega)) ?_;conv=>whnf))
 exact k
def JoinOk (c0:MSp):Prop:=∀ {h:Gh} {p q:Tr} {m:Nat} {Q:WK} {E:XWK},m≤3900→SmT m p→SmT m q→Pl p→Pl q→p≠q→(∀ t:Tr,Pl t→Par (crs p q) t→SmT (m+m+1) t→Q (tw t) h)→c0 [tw p,tw q] h Q E
theorem w_pcross {pl cr:MSp}(hpl:PlnL pl)(hcr:CrsOk cr):JoinOk (jk pl cr):=by
 intro h p q m Q E hm sp sq pp pq hne k
 show br (eqW (tw p) (tw q)) _ _
 rw [eq_tw]
 refine yD (decide_eq_false hne) ?_
 show cr [tw p,tw q] h _ _
 refine hcr (m:=m) (by omega) sp sq ?_
 show pl [tw (crs p q)] h _ _
 exact hpl.tr (u:=crs p q) (m:=m+m+1) (.inl rfl) (crs_ne pp pq hne) (crs_sm sp sq) (by omega) k
theorem w_join {pc:MSp}(hpc:JoinOk pc):JoinOk (r_join pc):=by
 intro h p q m Q E hm sp sq pp pq hne k
 show pc [tw p,tw q] h _ _
 exact hpc hm sp sq pp pq hne k
theorem w_meet {pc:MSp}(hpc:JoinOk pc):JoinOk (r_meet pc):=by
 intro h p q m Q E hm sp sq pp pq hne k
 show pc [tw p,tw q] h _ _
 exact hpc hm sp sq pp pq hne k
theorem lc_invS {s:Src}{ws:List W}{own:W→Option (List W)}{ix:List Nat}{tt:MT}{te:ME}{σ : Sw}{Q:WK}(I:Nat→List W→Gh→Prop)
  (go:∀ i acc h,I i acc h→∀ P:Prop,P→s.go h P)
  (step:∀ (i:Nat) (w:W) (acc:List W) (h:Gh) (N:List W→Gh→Prop),(∀ acc' h',I (i+1) acc' h'→N acc' h')→ws[i]?=some w→I i acc h →
   ∃ vs,own w=some vs∧tt (vs.map some++oV ix σ) h fun c h1=>by2 c (te (vs.map some++oV ix σ) h1 fun v h2=>N (acc++[v]) h2) (N acc h1))
  (fin:∀ acc h,I ws.length acc h→Q (.lst acc) h):∀ {acc:List W} {h:Gh},I 0 acc h→lu s own ix tt te σ Q ws acc h:=by
 induction ws generalizing I with
 | nil=>intro acc h h0;exact go 0 acc h h0 _ (fin acc h h0)
 | cons w ws ih=>
  intro acc h h0
  obtain ⟨vs,ev,q⟩:=step 0 w acc h _ (fun acc' h' q=>ih (fun i=>I (i+1)) (fun i=>go (i+1)) (fun i w acc h N hN e hi=>step (i+1) w acc h N hN (by simpa using e) hi) (fun acc h q=>fin acc h q) q) rfl h0
  refine go 0 acc h h0 _ ?_
  show (match own w with
   | some vs=>_
   | none=>False)
  rw [ev]
  exact q
theorem app_ok {h:Gh}{n:Nat}{us:List W}{w:W}{Q:WK}(e:h.c n=some (.lst us))(hz:us.length<sizeLine)(k:Q .non (h.set n (.lst (us++[w])))):bQ (.loc n) [w] h Q:=by
 show (match h.c n with
  | some (Cell.lst us)=>_
  | _=>False)
 rw [e]
 exact ⟨hz,k⟩
abbrev Mt:=Tr×Tr×Tr
def vm (M:Mt)(v:Tr):Tr:=(dt3 M.1 v,dt3 M.2.1 v,dt3 M.2.2 v)
def tr (M:Mt):Mt:=((M.1.1,M.2.1.1,M.2.2.1),(M.1.2.1,M.2.1.2.1,M.2.2.2.1),(M.1.2.2,M.2.1.2.2,M.2.2.2.2))
def mm (M N:Mt):Mt:=(vm (tr N) M.1,vm (tr N) M.2.1,vm (tr N) M.2.2)
def ml (M:Mt):List Int:=tl M.1++(tl M.2.1++tl M.2.2)
def IntsH (h:Gh)(w:W)(ns:List Int):Prop:=w=.lst (ns.map .int)∨w=.tup (ns.map .int)∨∃ n,w=.loc n∧h.c n=some (.lst (ns.map .int))
theorem IntsH.src {h:Gh}{w:W}{ns:List Int}(e:IntsH h w ns):∃ s:Src,srcA h w=some s∧s.ws=ns.map .int∧∀ h',IntsH h' w ns→∀ P:Prop,P→s.go h' P:=by
 rcases e with rfl | rfl | ⟨n,rfl,e⟩
 ·exact ⟨_,rfl,rfl,fun _ _ _ p=>p⟩
 ·exact ⟨_,rfl,rfl,fun _ _ _ p=>p⟩
 ·refine ⟨⟨ns.map .int,some (n,ns.map .int)⟩,by simp only [srcA,e],rfl,fun h' e' P p=>⟨?_,p⟩⟩
  rcases e' with e' | e' | ⟨m,e',q⟩
  ·cases e'
  ·cases e'
  ·cases e';exact q
theorem uP {i:Nat}{ix:List Nat}{tt:MT}{te:ME}{σ : Sw}{h:Gh}{Q:WK}{w:W}{ns:List Int}(hv:σ[i]?=some (some w))(e:IntsH h w ns)(hz:ns.length≤sizeLine)(I:Nat→List W→Gh→Prop)
  (go:∀ i acc h',I i acc h'→IntsH h' w ns)
  (step:∀ (i:Nat) (t:Int) (acc:List W) (h:Gh) (N:List W→Gh→Prop),(∀ acc' h',I (i+1) acc' h'→N acc' h')→ns[i]?=some t→I i acc h →
   tt (some (.int t)::oV ix σ) h fun c h1=>by2 c (te (some (.int t)::oV ix σ) h1 fun v h2=>N (acc++[v]) h2) (N acc h1))
  (fin:∀ acc h,I ns.length acc h→Q (.lst acc) h) (h0:I 0 [] h):mLC ow1 ix (nIt (aC i)) tt te σ h Q:=by
 unfold mLC nIt aC
 rw [hv]
 dsimp only
 obtain ⟨s,es,ew,hg⟩:=e.src
 rw [es]
 show kO s.ws.length (lu s ow1 ix tt te σ Q s.ws [] h)
 rw [ew]
 refine kO.mk (by rw [List.length_map];exact hz) ?_
 refine lc_invS I (fun i acc h' hi=>hg h' (go i acc h' hi)) (fun i w acc h N hN e hi=>?_) (fun acc h q=>fin acc h (by rwa [List.length_map] at q)) h0
 obtain ⟨t,et,rfl⟩:=ints_get e
 exact ⟨[.int t],rfl,step i t acc h N hN et hi⟩
def tK (Q:Bool→Gh→Prop):WK:=fun w h=>match w with
 | .bl c=>Q c h
 | _=>False
def uK (Q:Bool→Gh→Prop):WK:=fun w h=>match truW h w with
 | some b=>Q b h
 | none=>False
def aK (b:ME)(σ : Sw)(Q:WK):WK:=fun x h=>match x with
 | .bl true=>b σ h Q
 | .bl false=>Q (.bl false) h
 | _=>False
def oK (b:ME)(σ : Sw)(Q:WK):WK:=fun x h=>match x with
 | .bl false=>b σ h Q
 | .bl true=>Q (.bl true) h
 | _=>False
def nK (Q:WK):WK:=fun x h=>match x with
 | .bl c=>Q (.bl (!c)) h
 | _=>False
def iK (R:Src→Gh→Prop):WK:=fun w h=>match srcA h w with
 | some s=>R s h
 | none=>False
def xK (f:Str→Bool)(Q:WK):WK:=fun w h=>match w with
 | .exc n=>Q (.bl (f n)) h
 | .exa n _=>Q (.bl (f n)) h
 | _=>False
def pK (Q:Option Int→Gh→Prop):WK:=fun w h=>match w with
 | .int i=>Q (some i) h
 | _=>False
def forK (g:MG)(b:MS)(D:bF)(σ : Sw):Src→Gh→Prop:=fun s h=>dZ s g b D s.ws σ h
def lcK (own:W→Option (List W))(ix:List Nat)(tt:MT)(te:ME)(σ : Sw)(Q:WK):Src→Gh→Prop:=fun s h=>kO s.ws.length (lu s own ix tt te σ Q s.ws [] h)
def rgK (R:Src→Gh→Prop):List W→Gh→Prop:=fun ws h=>match ws with
 | [.int j]=>rgOk j (R ⟨rngW 0 j.toNat,none⟩ h)
 | _=>False
def zpK (R:Src→Gh→Prop):List W→Gh→Prop:=fun ws h=>match ws with
 | [x,y]=>(match zipS h x y with
  | some s=>R s h
  | none=>False)
 | _=>False
theorem cD {m u:MS}{D:bF}{σ : Sw}{h:Gh}(x:m { D with nx:=u D } σ h):bw m u D σ h:=x
theorem xg {N b c:Sw→Gh→Prop}{r:WK}{σ : Sw}{h:Gh}(x:N σ h):bF.nx ⟨N,r,b,c⟩ σ h:=x
theorem bk_s {N b c:Sw→Gh→Prop}{r:WK}{σ : Sw}{h:Gh}(x:b σ h):bF.bk ⟨N,r,b,c⟩ σ h:=x
theorem ct_s {N b c:Sw→Gh→Prop}{r:WK}{σ : Sw}{h:Gh}(x:c σ h):bF.ct ⟨N,r,b,c⟩ σ h:=x
theorem rt_s {N b c:Sw→Gh→Prop}{r:WK}{w:W}{h:Gh}(x:r w h):bF.rt ⟨N,r,b,c⟩ w h:=x
theorem lost_rt {D:bF}{w:W}{h:Gh}(x:D.rt w h):bF.rt (bF.lost D) w h:=x
theorem lost_nx {D:bF}{σ : Sw}{h:Gh}(x:D.nx (σ.map fun _=>none) h):bF.nx (bF.lost D) σ h:=x
theorem tW {D:bF}{σ : Sw}{h:Gh}(x:D.nx σ h):cu D σ h:=x
theorem lN {m:ME}{g:MG}{D:bF}{σ : Sw}{h:Gh}(x:m σ h fun w h1=>g w σ h1 D.nx):cj m g D σ h:=x
theorem fX {m:ME}{D:bF}{σ : Sw}{h:Gh}(x:m σ h fun _ h1=>D.nx σ h1):fW m D σ h:=x
theorem vR {m:ME}{D:bF}{σ : Sw}{h:Gh}(x:m σ h D.rt):cN m D σ h:=x
theorem mRaise_s {c:Str}{E:XWK}{D:bF}{σ : Sw}{h:Gh}(x:E ⟨c,[]⟩ h):wC c E D σ h:=x
theorem mJ {t:MT}{a b:MS}{D:bF}{σ : Sw}{h:Gh}(x:t σ h fun c h1=>br c (a D σ h1) (b D σ h1)):gG t a b D σ h:=x
theorem mIf_s {t:MT}{a b:ME}{Q:WK}{σ : Sw}{h:Gh}(x:t σ h fun c h1=>br c (a σ h1 Q) (b σ h1 Q)):mIf t a b σ h Q:=x
theorem mTry_s {i:Nat}{d:Str}{mb:XWK→MS}{mh:MS}{D:bF}{σ : Sw}{h:Gh}(x:mb (fun x h'=>by2 (isX x.cls d) (mh D.lost (σ.set i (some (excW x))) h') False) D σ h):mTry i d mb mh D σ h:=x
theorem cY {i:Nat}{w:W}{σ : Sw}{h:Gh}{N:Sw→Gh→Prop}(x:N (σ.set i (some w)) h):nName i w σ h N:=x
theorem nTup2_s {n:Nat}{g:MGs}{w:W}{ws:List W}{σ : Sw}{h:Gh}{N:Sw→Gh→Prop}(e:w=.tup ws)(b:Nat.beq ws.length n=true)(x:g ws σ h N):qU n g w σ h N:=by
 subst e
 unfold qU
 dsimp only
 rw [b]
 exact x
theorem nTup2_l {n:Nat}{g:MGs}{w:W}{ws:List W}{σ : Sw}{h:Gh}{N:Sw→Gh→Prop}(e:w=.lst ws)(b:Nat.beq ws.length n=true)(x:g ws σ h N):qU n g w σ h N:=by
 subst e
 unfold qU
 dsimp only
 rw [b]
 exact x
theorem nTup_s {n:Nat}{g:MGs}{w:W}{ws:List W}{σ : Sw}{h:Gh}{N:Sw→Gh→Prop}(e:w=.tup ws)(b:Nat.beq ws.length n=true)(x:g ws σ h N):nTup n g w σ h N:=by
 subst e
 unfold nTup
 dsimp only
 rw [b]
 exact x
theorem nCons_s {g:MG}{r:MGs}{w:W}{ws:List W}{σ : Sw}{h:Gh}{N:Sw→Gh→Prop}(x:g w σ h fun σ1 h1=>r ws σ1 h1 N):lW g r (w::ws) σ h N:=x
theorem nNil_s {σ : Sw}{h:Gh}{N:Sw→Gh→Prop}(x:N σ h):nNil [] σ h N:=x
theorem vq {i:Nat}{w:W}{σ : Sw}{h:Gh}{Q:WK}(e:σ[i]?=some (some w))(x:Q w h):aC i σ h Q:=by
 unfold aC
 rw [e]
 exact x
theorem mC_s {w:W}{σ : Sw}{h:Gh}{Q:WK}(x:Q w h):mC w σ h Q:=x
theorem mOp_s {r:M2}{ma mb:ME}{σ : Sw}{h:Gh}{Q:WK}(x:ma σ h fun a h1=>mb σ h1 fun b h2=>r a b h2 Q):mOp r ma mb σ h Q:=x
theorem mUn_s {r:W→Gh→WK→Prop}{ma:ME}{σ : Sw}{h:Gh}{Q:WK}(x:ma σ h fun a h1=>r a h1 Q):mUn r ma σ h Q:=x
theorem mNeg_s {i:Int}{h:Gh}{Q:WK}(x:Q (.int (-i)) h):mNeg (.int i) h Q:=x
theorem lU {a:ME}{r:MA}{σ : Sw}{h:Gh}{Q:List W→Gh→Prop}(x:a σ h fun w h1=>r σ h1 fun ws h2=>Q (w::ws) h2):aq a r σ h Q:=x
theorem mNil_s {σ : Sw}{h:Gh}{Q:List W→Gh→Prop}(x:Q [] h):aN σ h Q:=x
theorem u6 {n:Nat}{P:Prop}(e:Nat.ble n 1000=true)(x:P):kO n P:=by
 unfold kO
 rw [e]
 exact x
theorem mTup_s {t:MA}{σ : Sw}{h:Gh}{Q:WK}(x:t σ h fun ws h1=>kO ws.length (Q (.tup ws) h1)):iG t σ h Q:=x
theorem mLst_s {t:MA}{σ : Sw}{h:Gh}{Q:WK}(x:t σ h fun ws h1=>kO ws.length (Q (.lst ws) h1)):yE t σ h Q:=x
theorem mCall_s {c:MSp}{E:XWK}{ma:MA}{σ : Sw}{h:Gh}{Q:WK}(x:ma σ h fun ws h1=>c ws h1 Q E):bf c E ma σ h Q:=x
theorem mCB_s {r:MC}{ma:MA}{σ : Sw}{h:Gh}{Q:WK}(x:ma σ h fun ws h1=>r ws h1 Q):mCB r ma σ h Q:=x
theorem mTest_s {m:ME}{σ : Sw}{h:Gh}{Q:Bool→Gh→Prop}(x:m σ h (tK Q)):bx m σ h Q:=x
theorem tK_s {c:Bool}{h:Gh}{Q:Bool→Gh→Prop}(x:Q c h):tK Q (.bl c) h:=x
theorem mTru_s {m:ME}{σ : Sw}{h:Gh}{Q:Bool→Gh→Prop}(x:m σ h (uK Q)):tG m σ h Q:=x
theorem uK_s {w:W}{b:Bool}{h:Gh}{Q:Bool→Gh→Prop}(e:truW h w=some b)(x:Q b h):uK Q w h:=by
 unfold uK
 rw [e]
 exact x
theorem mNot_s {t:MT}{σ : Sw}{h:Gh}{Q:Bool→Gh→Prop}(x:t σ h fun c h1=>Q (!c) h1):tH t σ h Q:=x
theorem mAnd_s {t u:MT}{σ : Sw}{h:Gh}{Q:Bool→Gh→Prop}(x:t σ h fun c h1=>br c (u σ h1 Q) (Q false h1)):mAnd t u σ h Q:=x
theorem mOr_s {t u:MT}{σ : Sw}{h:Gh}{Q:Bool→Gh→Prop}(x:t σ h fun c h1=>br c (Q true h1) (u σ h1 Q)):mOr t u σ h Q:=x
theorem mYes_s {σ : Sw}{h:Gh}{Q:Bool→Gh→Prop}(x:Q true h):yC σ h Q:=x
theorem mAndV_s {a b:ME}{σ : Sw}{h:Gh}{Q:WK}(x:a σ h (aK b σ Q)):rN a b σ h Q:=x
theorem mOrV_s {a b:ME}{σ : Sw}{h:Gh}{Q:WK}(x:a σ h (oK b σ Q)):mOrV a b σ h Q:=x
theorem mNotV_s {a:ME}{σ : Sw}{h:Gh}{Q:WK}(x:a σ h (nK Q)):mNotV a σ h Q:=x
theorem aK_s {b:ME}{σ : Sw}{h:Gh}{Q:WK}{c:Bool}(x:br c (b σ h Q) (Q (.bl false) h)):aK b σ Q (.bl c) h:=by
 cases c with
 | true=>exact x.1 rfl
 | false=>exact x.2 rfl
theorem oK_s {b:ME}{σ : Sw}{h:Gh}{Q:WK}{c:Bool}(x:br c (Q (.bl true) h) (b σ h Q)):oK b σ Q (.bl c) h:=by
 cases c with
 | true=>exact x.1 rfl
 | false=>exact x.2 rfl
theorem nK_s {h:Gh}{Q:WK}{c:Bool}(x:Q (.bl (!c)) h):nK Q (.bl c) h:=x
theorem mIsX_s {f:Str→Bool}{m:ME}{σ : Sw}{h:Gh}{Q:WK}(x:m σ h (xK f Q)):mIsX f m σ h Q:=x
theorem xK_s {f:Str→Bool}{n:Str}{h:Gh}{Q:WK}(x:Q (.bl (f n)) h):xK f Q (.exc n) h:=x
theorem br_ts {a b:Prop}(x:a):br true a b:=br_t rfl x
theorem br_fs {a b:Prop}(x:b):br false a b:=yD rfl x
theorem br_nts {a b:Prop}(x:b):br (!true) a b:=br_fs x
theorem br_nfs {a b:Prop}(x:a):br (!false) a b:=br_ts x
theorem by2_ts {a b:Prop}(x:a):by2 true a b:=x
theorem by2_fs {a b:Prop}(x:b):by2 false a b:=x
theorem kSub_s {i j:Int}{h:Gh}{Q:WK}(x:Q (.int (i - j)) h):vO (.int i) (.int j) h Q:=x
theorem kAddA_s {i j:Int}{h:Gh}{Q:WK}(x:Q (.int (i+j)) h):gJ (.int i) (.int j) h Q:=x
theorem kMul_s {i j:Int}{h:Gh}{Q:WK}(c:qb i j)(x:Q (.int (i*j)) h):sS (.int i) (.int j) h Q:=⟨c,x⟩
theorem kMod_s {i j:Int}{h:Gh}{Q:WK}(c:j≠0)(x:Q (.int (i.fmod j)) h):yt (.int i) (.int j) h Q:=⟨c,x⟩
theorem kLt_s {i j:Int}{h:Gh}{Q:WK}(x:Q (.bl (decide (i<j))) h):kLt (.int i) (.int j) h Q:=x
theorem kGt_s {i j:Int}{h:Gh}{Q:WK}(x:Q (.bl (decide (i>j))) h):kGt (.int i) (.int j) h Q:=x
theorem kEq_i {i j:Int}{h:Gh}{Q:WK}(x:Q (.bl (decide (i=j))) h):kEq (.int i) (.int j) h Q:=by
 have e:eqW (.int i) (.int j)=decide (i=j):=eV i j
 show Q (.bl (eqW (.int i) (.int j))) h
 rw [e]
 exact x
theorem kNe_i {i j:Int}{h:Gh}{Q:WK}(x:Q (.bl (decide (i≠j))) h):kNe (.int i) (.int j) h Q:=by
 have e:(!eqW (.int i) (.int j))=decide (i≠j):=by rw [eV];by_cases z:i=j <;> simp [z]
 show Q (.bl (!eqW (.int i) (.int j))) h
 rw [e]
 exact x
theorem kEq_b {i j:Bool}{h:Gh}{Q:WK}(x:Q (.bl (decide (i=j))) h):kEq (.bl i) (.bl j) h Q:=by
 have e:eqW (.bl i) (.bl j)=decide (i=j):=by rw [eqW];cases i <;> cases j <;> rfl
 show Q (.bl (eqW (.bl i) (.bl j))) h
 rw [e]
 exact x
theorem kNe_b {i j:Bool}{h:Gh}{Q:WK}(x:Q (.bl (decide (i≠j))) h):kNe (.bl i) (.bl j) h Q:=by
 have e:(!eqW (.bl i) (.bl j))=decide (i≠j):=by rw [eqW];cases i <;> cases j <;> rfl
 show Q (.bl (!eqW (.bl i) (.bl j))) h
 rw [e]
 exact x
theorem kEq_t {p q:Tr}{h:Gh}{Q:WK}(x:Q (.bl (decide (p=q))) h):kEq (tw p) (tw q) h Q:=by
 show Q (.bl (eqW (tw p) (tw q))) h
 rw [eq_tw]
 exact x
theorem kNe_t {p q:Tr}{h:Gh}{Q:WK}(x:Q (.bl (decide (p≠q))) h):kNe (tw p) (tw q) h Q:=by
 have e:(!eqW (tw p) (tw q))=decide (p≠q):=by rw [eq_tw];by_cases z:p=q <;> simp [z]
 show Q (.bl (!eqW (tw p) (tw q))) h
 rw [e]
 exact x
theorem kEq_0 {p:Tr}{a b c:Int}{h:Gh}{Q:WK}(x:Q (.bl (decide (p=(a,b,c)))) h):kEq (tw p) (.tup [.int a,.int b,.int c]) h Q:=kEq_t (q:=(a,b,c)) x
theorem kNe_0 {p:Tr}{a b c:Int}{h:Gh}{Q:WK}(x:Q (.bl (decide (p≠(a,b,c)))) h):kNe (tw p) (.tup [.int a,.int b,.int c]) h Q:=kNe_t (q:=(a,b,c)) x
theorem bV {x w:W}{i:Int}{ws:List W}{h:Gh}{Q:WK}(e:view h x=some ws)(a:atI ws i=some w)(k:Q w h):kIx x (.int i) h Q:=by
 unfold kIx
 dsimp only
 rw [e]
 dsimp only
 rw [a]
 exact k
theorem kIsi_s {w:W}{T:String}{b:Bool}{h:Gh}{Q:WK}(e:isiW h w T=some b)(x:Q (.bl b) h):yF [w,.ty T] h Q:=by
 unfold yF
 dsimp only
 rw [e]
 exact x
theorem dD {w:W}{xs:List W}{h:Gh}{Q:WK}(e:view h w=some xs)(x:Q (.int (xs.length:Int)) h):kLen [w] h Q:=by
 unfold kLen
 dsimp only
 rw [e]
 exact x
theorem kTuple_l {us:List W}{h:Gh}{Q:WK}(x:Q (.tup us) h):rW [.lst us] h Q:=x
theorem kAny_s {w:W}{us:List W}{bs:List Bool}{h:Gh}{Q:WK}(e:fB h w=some us)(b:blsW us=some bs)(x:Q (.bl (bs.any id)) h):kAny [w] h Q:=by
 unfold kAny
 dsimp only
 rw [e]
 dsimp only
 rw [b]
 exact x
theorem kAll_s {w:W}{us:List W}{bs:List Bool}{h:Gh}{Q:WK}(e:fB h w=some us)(b:blsW us=some bs)(x:Q (.bl (bs.all id)) h):kAll [w] h Q:=by
 unfold kAll
 dsimp only
 rw [e]
 dsimp only
 rw [b]
 exact x
theorem kSum_s {w:W}{us:List W}{ns:List Int}{h:Gh}{Q:WK}(e:fB h w=some us)(b:intsW us=some ns)(x:Q (.int ns.sum) h):kSum [w] h Q:=by
 unfold kSum
 dsimp only
 rw [e]
 dsimp only
 rw [b]
 exact x
theorem kAbs_s {i:Int}{h:Gh}{Q:WK}(x:Q (.int (if i<0 then -i else i)) h):kAbs [.int i] h Q:=x
theorem kInt_b {b:Bool}{h:Gh}{Q:WK}(x:Q (.int (if b then 1 else 0)) h):kInt [.bl b] h Q:=x
theorem oG {mi:MI}{g:MG}{b:MS}{D:bF}{σ : Sw}{h:Gh}(x:mi σ h (forK g b D σ)):mFor mi g b D σ h:=x
theorem oN {ws:List W}{o:Option (Nat×List W)}{g:MG}{b:MS}{D:bF}{σ : Sw}{h:Gh}(x:dZ ⟨ws,o⟩ g b D ws σ h):forK g b D σ ⟨ws,o⟩ h:=x
theorem mForL_n {ws:List W}{g:MG}{b:MS}{D:bF}{σ : Sw}{h:Gh}(x:D.nx σ h):dZ ⟨ws,none⟩ g b D [] σ h:=x
theorem mForL_c {ws r:List W}{w:W}{g:MG}{b:MS}{D:bF}{σ : Sw}{h:Gh}(x:g w σ h fun σ1 h1=>b { D with nx:=dZ ⟨ws,none⟩ g b D r,ct:=dZ ⟨ws,none⟩ g b D r,bk:=D.nx } σ1 h1):dZ ⟨ws,none⟩ g b D (w::r) σ h:=x
theorem nIt_s {m:ME}{R:Src→Gh→Prop}{σ : Sw}{h:Gh}(x:m σ h (iK R)):nIt m σ h R:=x
theorem iK_s {w:W}{ws:List W}{o:Option (Nat×List W)}{h:Gh}{R:Src→Gh→Prop}(e:srcA h w=some ⟨ws,o⟩)(x:R ⟨ws,o⟩ h):iK R w h:=by
 unfold iK
 rw [e]
 exact x
theorem mD {ma:MA}{R:Src→Gh→Prop}{σ : Sw}{h:Gh}(x:ma σ h (rgK R)):nQ ma σ h R:=x
theorem rgK_3 {R:Src→Gh→Prop}{h:Gh}(x:R ⟨[.int 0,.int 1,.int 2],none⟩ h):rgK R [.int 3] h:=x
theorem rgK_2 {R:Src→Gh→Prop}{h:Gh}(x:R ⟨[.int 0,.int 1],none⟩ h):rgK R [.int 2] h:=x
theorem nZip_s {ma:MA}{R:Src→Gh→Prop}{σ : Sw}{h:Gh}(x:ma σ h (zpK R)):nZip ma σ h R:=x
theorem zpK_s {a b:W}{as bs:List W}{zs:List W}{R:Src→Gh→Prop}{h:Gh}(e:wO a=some as)(e':wO b=some bs)(z:yH as bs=zs)(x:R ⟨zs,none⟩ h):zpK R [a,b] h:=by
 subst z
 have es:zipS h a b=some ⟨yH as bs,none⟩:=by unfold zipS;rw [e,e']
 unfold zpK
 dsimp only
 rw [es]
 exact x
theorem zpK_c {n:Nat}{b:W}{as bs:List W}{zs:List W}{R:Src→Gh→Prop}{h:Gh}(e:h.c n=some (.lst as))(e':wO b=some bs)(z:yH as bs=zs)(x:R ⟨zs,some (n,as)⟩ h):zpK R [.loc n,b] h:=by
 subst z
 have es:zipS h (.loc n) b=some ⟨yH as bs,some (n,as)⟩:=by unfold zipS;rw [e'];dsimp only [wO];rw [e]
 unfold zpK
 dsimp only
 rw [es]
 exact x
theorem zip0 {bs:List W}:yH [] bs=[]:=by cases bs <;> rfl
theorem zip1 {a:W}{as:List W}:yH (a::as) []=[]:=rfl
theorem zipC {a b:W}{as bs l:List W}(e:yH as bs=l):yH (a::as) (b::bs)=.tup [a,b]::l:=by rw [yH,e]
theorem mLC_s {own:W→Option (List W)}{ix:List Nat}{mi:MI}{tt:MT}{te:ME}{σ : Sw}{h:Gh}{Q:WK}(x:mi σ h (lcK own ix tt te σ Q)):mLC own ix mi tt te σ h Q:=x
theorem lcK_s {ws:List W}{o:Option (Nat×List W)}{own:W→Option (List W)}{ix:List Nat}{tt:MT}{te:ME}{σ : Sw}{h:Gh}{Q:WK}(e:Nat.ble ws.length 1000=true)(x:lu ⟨ws,o⟩ own ix tt te σ Q ws [] h):lcK own ix tt te σ Q ⟨ws,o⟩ h:=u6 e x
theorem mLCL_n {ws acc:List W}{own:W→Option (List W)}{ix:List Nat}{tt:MT}{te:ME}{σ : Sw}{h:Gh}{Q:WK}(x:Q (.lst acc) h):lu ⟨ws,none⟩ own ix tt te σ Q [] acc h:=x
theorem mLCL_c {ws r acc vs:List W}{w:W}{own:W→Option (List W)}{ix:List Nat}{tt:MT}{te:ME}{σ : Sw}{h:Gh}{Q:WK}(e:own w=some vs)(x:tt (vs.map some++oV ix σ) h fun c h1=>by2 c (te (vs.map some++oV ix σ) h1 fun v h2=>lu ⟨ws,none⟩ own ix tt te σ Q r (acc++[v]) h2) (lu ⟨ws,none⟩ own ix tt te σ Q r acc h1)):lu ⟨ws,none⟩ own ix tt te σ Q (w::r) acc h:=by
 unfold lu
 show match own w with
  | some vs=>tt (vs.map some++oV ix σ) h fun c h1=>by2 c (te (vs.map some++oV ix σ) h1 fun v h2=>lu ⟨ws,none⟩ own ix tt te σ Q r (acc++[v]) h2) (lu ⟨ws,none⟩ own ix tt te σ Q r acc h1)
  | none=>False
 rw [e]
 exact x
theorem mFn_s {n N:Nat}{body:XWK→MS}{ws:List W}{h:Gh}{Q:WK}{E:XWK}(hl:Nat.beq ws.length n=true)(x:body E { nx:=fun _ h'=>Q .non h',rt:=Q } (ws.map some++List.replicate (N - ws.length) none) h):mFn n N false body ws h Q E:=by
 unfold mFn
 rw [hl]
 exact x
theorem mSl_s {r:W→Option Int→Option Int→Gh→WK→Prop}{m:ME}{l u:MO}{σ : Sw}{h:Gh}{Q:WK}(x:m σ h fun a h1=>l σ h1 fun lo h2=>u σ h2 fun hi h3=>r a lo hi h3 Q):mSl r m l u σ h Q:=x
theorem mPart_s {m:ME}{σ : Sw}{h:Gh}{Q:Option Int→Gh→Prop}(x:m σ h (pK Q)):uF m σ h Q:=x
theorem pK_s {i:Int}{h:Gh}{Q:Option Int→Gh→Prop}(x:Q (some i) h):pK Q (.int i) h:=x
def p3K (i j k:Nat)(D:bF)(σ : Sw):List W→Gh→Prop:=fun ws h=>match ws with
 | [x,y,z]=>D.nx (((σ.set i (some x)).set j (some y)).set k (some z)) h
 | _=>False
theorem mPar3_s {i j k:Nat}{ta:MA}{D:bF}{σ : Sw}{h:Gh}(x:ta σ h (p3K i j k D σ)):mPar3 i j k ta D σ h:=x
theorem br_len {xs:List W}{n:Int}{a b:Prop}(e:decide ((xs.length:Int)≠n)=false)(x:b):br (decide ((xs.length:Int)≠n)) a b:=yD e x
theorem br_nall {bs:List Bool}{a b:Prop}(e:bs.all id=true)(x:b):br (!(bs.all id)) a b:=yD (by rw [e];rfl) x
theorem by2_x {n d:Str}{a b:Prop}(e:isX n d=true)(x:a):by2 (isX n d) a b:=by2_t e x
theorem br_xt {n d:Str}{a b:Prop}(e:isX n d=true)(x:a):br (isX n d) a b:=br_t e x
theorem br_xf {n d:Str}{a b:Prop}(e:isX n d=false)(x:b):br (isX n d) a b:=yD e x
theorem setZ {α : Type}{a x:α}{l:List α}:(a::l).set 0 x=x::l:=rfl
theorem setS {α : Type}{a x:α}{l l':List α}{n:Nat}(e:l.set n x=l'):(a::l).set (n+1) x=a::l':=by rw [List.set_cons_succ,e]
theorem tU {i:Nat}{w:W}{σ σ':Sw}{h:Gh}{N:Sw→Gh→Prop}(e:σ.set i (some w) = σ')(x:N σ' h):nName i w σ h N:=by
 subst e
 exact x
theorem p3K_v {i j k:Nat}{D:bF}{σ σ1 σ2 σ3:Sw}{h:Gh}{x y z:W}(e1:σ.set i (some x) = σ1)(e2:σ1.set j (some y) = σ2)(e3:σ2.set k (some z) = σ3)(q:D.nx σ3 h):p3K i j k D σ [x,y,z] h:=by
 subst e1 e2 e3
 exact q
def ini (ws:List W)(n:Nat):Sw:=ws.map some++List.replicate (n - ws.length) none
theorem ini0:ini [] 0=[]:=rfl
theorem iniN {n:Nat}{l:Sw}(e:ini [] n=l):ini [] (n+1)=none::l:=by
 subst e
 rfl
theorem iniW {n:Nat}{w:W}{ws:List W}{l:Sw}(e:ini ws n=l):ini (w::ws) (n+1)=some w::l:=by
 subst e
 unfold ini
 rw [List.length_cons,Nat.add_sub_add_right]
 rfl
theorem mFn_v {n N:Nat}{body:XWK→MS}{ws:List W}{σ : Sw}{h:Gh}{Q:WK}{E:XWK}(hl:Nat.beq ws.length n=true)(e:ini ws N = σ)(x:body E { nx:=fun _ h'=>Q .non h',rt:=Q } σ h):mFn n N false body ws h Q E:=by
 subst e
 exact mFn_s hl x
theorem by2_h {i:Nat}{n d:Str}{fs:List (Str×W)}{mh:MS}{D:bF}{σ σ':Sw}{h:Gh}(e:isX n d=true)(s:σ.set i (some (excW ⟨n,fs⟩)) = σ')(x:mh D σ' h):by2 (isX (Xw.mk n fs).cls d) (mh D (σ.set i (some (excW (Xw.mk n fs)))) h) False:=by
 subst s
 exact by2_t e x
theorem mLCM_s {own:W→Option (List W)}{ix:List Nat}{mi:MI}{tt:MT}{te:ME}{σ : Sw}{h:Gh}{Q:WK}(x:mLC own ix mi tt te σ h (thaw Q)):mLCM own ix mi tt te σ h Q:=x
theorem thaw_g {us:List W}{h:Gh}{Q:WK}(x:∀ g:Gh,g.c h.nx=some (.lst us)→(∀ n,n≠h.nx→g.c n=h.c n)→g.nx=h.nx+1→Q (.loc h.nx) g):thaw Q (.lst us) h:=x _ (yW _ _) (fun _ e=>qX e) rfl
theorem nSub_s {mo mi:ME}{ms:MSet}{w:W}{σ : Sw}{h:Gh}{N:Sw→Gh→Prop}(x:mo σ h fun o h1=>mi σ h1 fun i h2=>ms o i w h2 fun h3=>N σ h3):nSub mo mi ms w σ h N:=x
theorem mForL_cc {ws r us:List W}{n:Nat}{w:W}{g:MG}{b:MS}{D:bF}{σ : Sw}{h:Gh}(e:h.c n=some (.lst us))(x:g w σ h fun σ1 h1=>b { D with nx:=dZ ⟨ws,some (n,us)⟩ g b D r,ct:=dZ ⟨ws,some (n,us)⟩ g b D r,bk:=D.nx } σ1 h1):dZ ⟨ws,some (n,us)⟩ g b D (w::r) σ h:=⟨e,x⟩
theorem mForL_cn {ws us:List W}{n:Nat}{g:MG}{b:MS}{D:bF}{σ : Sw}{h:Gh}(e:h.c n=some (.lst us))(x:D.nx σ h):dZ ⟨ws,some (n,us)⟩ g b D [] σ h:=⟨e,x⟩
theorem mLCL_cn {ws us acc:List W}{n:Nat}{own:W→Option (List W)}{ix:List Nat}{tt:MT}{te:ME}{σ : Sw}{h:Gh}{Q:WK}(e:h.c n=some (.lst us))(x:Q (.lst acc) h):lu ⟨ws,some (n,us)⟩ own ix tt te σ Q [] acc h:=⟨e,x⟩
theorem mLCL_cc {ws us r acc vs:List W}{n:Nat}{w:W}{own:W→Option (List W)}{ix:List Nat}{tt:MT}{te:ME}{σ : Sw}{h:Gh}{Q:WK}(ec:h.c n=some (.lst us))(e:own w=some vs)(x:tt (vs.map some++oV ix σ) h fun c h1=>by2 c (te (vs.map some++oV ix σ) h1 fun v h2=>lu ⟨ws,some (n,us)⟩ own ix tt te σ Q r (acc++[v]) h2) (lu ⟨ws,some (n,us)⟩ own ix tt te σ Q r acc h1)):lu ⟨ws,some (n,us)⟩ own ix tt te σ Q (w::r) acc h:=by
 unfold lu
 refine ⟨ec,?_⟩
 show match own w with
  | some vs=>tt (vs.map some++oV ix σ) h fun c h1=>by2 c (te (vs.map some++oV ix σ) h1 fun v h2=>lu ⟨ws,some (n,us)⟩ own ix tt te σ Q r (acc++[v]) h2) (lu ⟨ws,some (n,us)⟩ own ix tt te σ Q r acc h1)
  | none=>False
 rw [e]
 exact x
theorem iK_c {n:Nat}{ws:List W}{h:Gh}{R:Src→Gh→Prop}(e:h.c n=some (.lst ws))(x:R ⟨ws,some (n,ws)⟩ h):iK R (.loc n) h:=iK_s (by simp only [srcA,e]) x
theorem kIx_c {n:Nat}{w:W}{i:Int}{ws:List W}{h:Gh}{Q:WK}(e:h.c n=some (.lst ws))(a:atI ws i=some w)(k:Q w h):kIx (.loc n) (.int i) h Q:=bV (aW e) a k
theorem mFnT_v {n N:Nat}{body:XWK→MS}{ws:List W}{σ : Sw}{h:Gh}{Q:WK}{E:XWK}(hl:Nat.beq ws.length n=true)(e:ini ws N = σ)(x:body E { nx:=fun _ h'=>uO true h .non h' Q,rt:=fun w h'=>uO true h w h' Q } σ h):mFn n N true body ws h Q E:=by
 subst e
 unfold mFn
 rw [hl]
 exact x
theorem tO {a b:List W}{h:Gh}{Q:WK}(e:Nat.ble (a.length+b.length) 1000=true)(x:Q (.lst (a++b)) h):gJ (.lst a) (.lst b) h Q:=u6 e x
theorem kIs_b {a b:Bool}{h:Gh}{Q:WK}(x:Q (.bl (a==b)) h):kIs (.bl a) (.bl b) h Q:=x
theorem kIsnt_b {a b:Bool}{h:Gh}{Q:WK}(x:Q (.bl (!(a==b))) h):kIsnt (.bl a) (.bl b) h Q:=x
theorem kEq_s {a b:Str}{h:Gh}{Q:WK}(x:Q (.bl (decide (a=b))) h):kEq (.str a) (.str b) h Q:=by
 have e:eqW (.str a) (.str b)=decide (a=b):=by rw [eqW];by_cases z:a=b <;> simp [z]
 show Q (.bl (eqW (.str a) (.str b))) h
 rw [e]
 exact x
theorem kNe_s {a b:Str}{h:Gh}{Q:WK}(x:Q (.bl (decide (a≠b))) h):kNe (.str a) (.str b) h Q:=by
 have e:(!eqW (.str a) (.str b))=decide (a≠b):=by rw [eqW];by_cases z:a=b <;> simp [z]
 show Q (.bl (!eqW (.str a) (.str b))) h
 rw [e]
 exact x
theorem br_any {bs:List Bool}{a b:Prop}(e:bs.any id=false)(x:b):br (bs.any id) a b:=yD e x
local macro_rules | `(tactic| rfl') => `(tactic| repeat (first
 | with_reducible refine cD ?_ | with_reducible refine lN ?_ | with_reducible refine mCall_s ?_ | with_reducible refine lU ?_ | with_reducible refine mNil_s ?_
 | ((with_reducible apply vq);exact rfl) | with_reducible refine mC_s ?_ | with_reducible refine mOp_s ?_ | with_reducible refine tU (by repeat (first | with_reducible exact setZ | with_reducible apply setS)) ?_ | with_reducible refine lost_rt ?_ | with_reducible refine lost_nx ?_ | with_reducible refine xg ?_ | with_reducible refine rt_s ?_ | with_reducible refine bk_s ?_ | with_reducible refine ct_s ?_
 | with_reducible refine mJ ?_ | with_reducible refine mIf_s ?_ | with_reducible refine vR ?_ | with_reducible refine fX ?_ | with_reducible refine tW ?_ | with_reducible refine mTry_s ?_ | with_reducible refine mRaise_s ?_
 | with_reducible refine mTest_s ?_ | with_reducible refine tK_s ?_ | with_reducible refine mTru_s ?_ | ((with_reducible apply uK_s);exact rfl) | with_reducible refine mNot_s ?_ | with_reducible refine mAnd_s ?_ | with_reducible refine mOr_s ?_ | with_reducible refine mYes_s ?_
 | with_reducible refine mAndV_s ?_ | with_reducible refine mOrV_s ?_ | with_reducible refine mNotV_s ?_ | with_reducible refine aK_s ?_ | with_reducible refine oK_s ?_ | with_reducible refine nK_s ?_ | with_reducible refine mIsX_s ?_ | with_reducible refine xK_s ?_
 | with_reducible refine br_ts ?_ | with_reducible refine br_fs ?_ | with_reducible refine br_nts ?_ | with_reducible refine br_nfs ?_ | with_reducible refine by2_ts ?_ | with_reducible refine by2_fs ?_
 | with_reducible refine mTup_s ?_ | with_reducible refine mLst_s ?_ | ((with_reducible apply u6);exact rfl) | with_reducible refine mCB_s ?_ | with_reducible refine mUn_s ?_ | with_reducible refine mNeg_s ?_
 | ((with_reducible apply nTup2_s);exact rfl;exact rfl) | ((with_reducible apply nTup2_l);exact rfl;exact rfl) | ((with_reducible apply nTup_s);exact rfl;exact rfl) | with_reducible refine nCons_s ?_ | with_reducible refine nNil_s ?_
 | with_reducible refine kSub_s ?_ | with_reducible refine kAddA_s ?_ | ((with_reducible apply kMul_s);exact qb.of (by trivial) (by trivial) (by omega) (by omega)) | with_reducible refine kLt_s ?_ | with_reducible refine kGt_s ?_
 | with_reducible refine kEq_i ?_ | with_reducible refine kNe_i ?_ | with_reducible refine kEq_b ?_ | with_reducible refine kNe_b ?_ | with_reducible refine kEq_t ?_ | with_reducible refine kNe_t ?_ | with_reducible refine kEq_0 ?_ | with_reducible refine kNe_0 ?_
 | ((with_reducible apply bV);exact rfl;exact rfl) | ((with_reducible apply kIsi_s);exact rfl) | ((with_reducible apply dD);exact rfl) | with_reducible refine kTuple_l ?_ | ((with_reducible apply kAny_s);exact rfl;exact rfl) | ((with_reducible apply kAll_s);exact rfl;exact rfl) | ((with_reducible apply kSum_s);exact rfl;exact rfl) | with_reducible refine kInt_b ?_ | with_reducible refine kAbs_s ?_
 | with_reducible refine oG ?_ | with_reducible refine oN ?_ | with_reducible refine mForL_n ?_ | with_reducible refine mForL_c ?_ | with_reducible refine nIt_s ?_ | ((with_reducible apply iK_s);exact rfl) | with_reducible refine mD ?_ | with_reducible refine rgK_3 ?_ | with_reducible refine rgK_2 ?_ | with_reducible refine nZip_s ?_ | ((with_reducible apply zpK_s);exact rfl;exact rfl;(repeat (first | with_reducible exact zip0 | with_reducible exact zip1 | with_reducible apply zipC)))
 | with_reducible refine mLC_s ?_ | ((with_reducible apply lcK_s);exact rfl) | with_reducible refine mLCL_n ?_ | ((with_reducible apply mLCL_c);exact rfl) | ((with_reducible apply mFn_v);exact rfl;repeat (first | with_reducible exact ini0 | with_reducible apply iniW | with_reducible apply iniN)) | with_reducible refine mSl_s ?_ | with_reducible refine mPart_s ?_ | with_reducible refine pK_s ?_ | with_reducible refine mPar3_s ?_ | with_reducible refine p3K_v (by repeat (first | with_reducible exact setZ | with_reducible apply setS)) (by repeat (first | with_reducible exact setZ | with_reducible apply setS)) (by repeat (first | with_reducible exact setZ | with_reducible apply setS)) ?_ | ((with_reducible apply br_len);exact rfl) | ((with_reducible apply br_nall);exact rfl) | ((with_reducible apply by2_h);decide +kernel;(repeat (first | with_reducible exact setZ | with_reducible apply setS))) | ((with_reducible apply by2_x);decide +kernel) | ((with_reducible apply br_xt);decide +kernel) | ((with_reducible apply br_xf);decide +kernel) | with_reducible refine mLCM_s ?_ | with_reducible refine nSub_s ?_ | ((with_reducible apply iK_c);(with_reducible assumption)) | ((with_reducible apply mForL_cc);(with_reducible assumption)) | ((with_reducible apply mForL_cn);(with_reducible assumption)) | ((with_reducible apply mLCL_cn);(with_reducible assumption)) | ((with_reducible apply mLCL_cc);(with_reducible assumption);exact rfl) | ((with_reducible apply kIx_c);(with_reducible assumption);exact rfl) | ((with_reducible apply zpK_c);(with_reducible assumption);exact rfl;(repeat (first | with_reducible exact zip0 | with_reducible exact zip1 | with_reducible apply zipC))) | ((with_reducible apply mFnT_v);exact rfl;(repeat (first | with_reducible exact ini0 | with_reducible apply iniW | with_reducible apply iniN))) | ((with_reducible apply tO);exact rfl) | with_reducible refine kIs_b ?_ | with_reducible refine kIsnt_b ?_ | with_reducible refine kEq_s ?_ | with_reducible refine kNe_s ?_ | ((with_reducible apply br_any);decide +kernel)))
def fldK (C:Addr)(f:Str)(Q:WK):WK:=fun x h=>match yR C h x with
 | some fs=>(match fs.lookup f with
  | some w=>Q w h
  | none=>False)
 | none=>False
def metK (C:Addr)(m:Str)(ms:MSp)(E:XWK)(mr:MA)(σ : Sw)(Q:WK):WK:=fun x h=>match yR C h x with
 | some fs=>(match fs.lookup m with
  | none=>mr σ h fun ws h2=>ms (x::ws) h2 Q E
  | some _=>False)
 | none=>False
theorem gU {C:Addr}{f:Str}{ma:ME}{σ : Sw}{h:Gh}{Q:WK}(x:ma σ h (fldK C f Q)):zE C f ma σ h Q:=x
theorem mj {C:Addr}{m:Str}{ms:MSp}{E:XWK}{mo:ME}{mr:MA}{σ : Sw}{h:Gh}{Q:WK}(x:mo σ h (metK C m ms E mr σ Q)):lG C m ms E mo mr σ h Q:=x
theorem insW_g {C:Addr}{n:Nat}{fs:List (Str×W)}{h:Gh}(e:h.c n=some (.obj C fs)):yR C h (.loc n)=some fs:=by
 unfold yR
 dsimp only
 rw [e]
 exact if_pos rfl
theorem gM {C:Addr}{f:Str}{n:Nat}{fs:List (Str×W)}{w:W}{h:Gh}{Q:WK}(e:h.c n=some (.obj C fs))(l:fs.lookup f=some w)(q:Q w h):fldK C f Q (.loc n) h:=by
 unfold fldK
 rw [insW_g e]
 dsimp only
 rw [l]
 exact q
theorem sy {C:Addr}{m:Str}{ms:MSp}{E:XWK}{mr:MA}{σ : Sw}{n:Nat}{fs:List (Str×W)}{h:Gh}{Q:WK}(e:h.c n=some (.obj C fs))(l:fs.lookup m=none)(q:mr σ h fun ws h2=>ms (.loc n::ws) h2 Q E):metK C m ms E mr σ Q (.loc n) h:=by
 unfold metK
 rw [insW_g e]
 dsimp only
 rw [l]
 exact q
def chnK (r':M2)(mc:ME)(σ : Sw)(y:W)(Q:WK):WK:=fun z h3=>match z with
 | .bl true=>mc σ h3 fun u h4=>r' y u h4 Q
 | .bl false=>Q (.bl false) h3
 | _=>False
theorem z9 {r':M2}{mc:ME}{σ : Sw}{y:W}{Q:WK}{h:Gh}(x:mc σ h fun u h4=>r' y u h4 Q):chnK r' mc σ y Q (.bl true) h:=x
theorem pQ {r r':M2}{ma mb mc:ME}{σ : Sw}{h:Gh}{Q:WK}(x:ma σ h fun x h1=>mb σ h1 fun y h2=>r x y h2 (chnK r' mc σ y Q)):j6 r r' ma mb mc σ h Q:=x
theorem kLe_s {i j:Int}{h:Gh}{Q:WK}(x:Q (.bl (decide (i≤j))) h):kLe (.int i) (.int j) h Q:=x
def thW (x:Str×Tr):W:=.tup [.str x.1,tw x.2]
def stW (s:Str×Nat×Nat):W:=.tup [.str s.1,.int (s.2.1:Int),.int (s.2.2:Int)]
def need (w:Str):Str:=if w = "join" then "spot" else "line"
def made (w:Str):Str:=if w = "join" then "line" else "spot"
structure Brd (CB:Addr) (h:Gh) (n t d:Nat) (ts:List (Str×Tr)) (ds:List (Str×Nat×Nat)):Prop where
 ob:h.c n=some (.obj CB [("things",.loc t),("done",.loc d)])
 th:h.c t=some (.lst (ts.map thW))
 dn:h.c d=some (.lst (ds.map stW))
 nt:n≠t
 nd:n≠d
 td:t≠d
 nl:n<h.nx
 tl:t<h.nx
 dl:d<h.nx
theorem isw_i {i:Int}{h:Gh}{Q:WK}{E:XWK}(k:Q (.bl true) h):jG [.int i] h Q E:=by
 unfold jG
 rfl'
 exact k
def WhoI (c0:MSp):Prop:=∀ {i:Int} {h:Gh} {Q:WK} {E:XWK},Q (.bl true) h→c0 [.int i] h Q E
def NumX (c0:MSp):Prop:=∀ {h:Gh} {t i:Nat} {ts:List (Str×Tr)} {k:Str} {p:Tr} {Q:WK} {E:XWK},h.c t=some (.lst (ts.map thW))→ts[i]?=some (k,p)→Q (.bl true) h→c0 [.loc t,.int (i:Int),.str k] h Q E
theorem w_isnum {c0:MSp}(hw:WhoI c0):NumX (bW c0):=by
 intro h t i ts k p Q E ht hi q
 have hl:i<ts.length:=(List.getElem?_eq_some_iff.mp hi).1
 have hiw:(ts.map thW)[i]?=some (thW (k,p)):=by rw [List.getElem?_map,hi];rfl
 unfold bW
 rfl'
 refine hw ?_
 rfl'
 refine pQ ?_
 rfl'
 refine kLe_s ?_
 rw [decide_eq_true (Int.natCast_nonneg i)]
 refine z9 ?_
 rfl'
 refine dD (aW ht) ?_
 rfl'
 rw [List.length_map,decide_eq_true (Int.ofNat_lt.mpr hl)]
 rfl'
 refine bV (aW ht) (aX hiw) ?_
 rfl'
 show Q (.bl (decide (k=k))) h
 rw [decide_eq_true rfl]
 exact q
theorem zq {h:Gh}{s:Str}{Q:WK}(k:Q (.bl true) h):kIsiS [.str s,.ty "str"] h Q:=⟨rfl,k⟩
theorem tab_s {tbl:List (Key×W)}{x:Str}{w:W}{mb:ME}{σ : Sw}{h:Gh}{Q:WK}(e:nM tbl (.inr x)=some w)(m:∀ R:WK,R (.str x) h→mb σ h R)(k:Q w h):mTab tbl mb σ h Q:=m _ (by
 show (match nM tbl (.inr x) with
  | some w=>Q w h
  | none=>False)
 rw [e]
 exact k)
theorem ntab_s {tbl:List (Key×W)}{x:Str}{w:W}{mb:ME}{σ : Sw}{h:Gh}{Q:WK}(e:nM tbl (.inr x)=some w)(m:∀ R:WK,R (.str x) h→mb σ h R)(k:Q (.bl false) h):m7 tbl mb σ h Q:=m _ (by
 show Q (.bl (!(nM tbl (.inr x)).isSome)) h
 rw [e]
 exact k)
theorem kj {w:Str}(hw:w = "join"∨w = "meet"):nM cC (.inr w)=some (.str (need w)):=by
 rcases hw with rfl | rfl <;> rfl
theorem thW_eq {a b:Str×Tr}(h:a.2≠b.2):eqW (thW a) (thW b)=false:=by
 show (eqW (.str a.1) (.str b.1)&&(eqW (tw a.2) (tw b.2)&&true))=false
 rw [eq_tw,decide_eq_false h]
 simp
theorem kNe_th {a b:Str×Tr}{h:Gh}{Q:WK}(n:a.2≠b.2)(k:Q (.bl true) h):kNe (thW a) (thW b) h Q:=by
 show Q (.bl (!eqW (thW a) (thW b))) h
 rw [thW_eq n]
 exact k
def CanX (c0:MSp):Prop:=∀ {h:Gh} {t i j:Nat} {ts:List (Str×Tr)} {w:Str} {p q:Tr} {Q:WK} {E:XWK},h.c t=some (.lst (ts.map thW))→(w = "join"∨w = "meet")→ts[i]?=some (need w,p)→ts[j]?=some (need w,q)→p≠q→Q (.bl true) h→c0 [.loc t,stW (w,i,j)] h Q E
theorem w_can {c0:MSp}(hn:NumX c0):CanX (cB c0):=by
 intro h t i j ts w p q Q E ht hw hi hj ne k
 have hiw:(ts.map thW)[i]?=some (thW (need w,p)):=by rw [List.getElem?_map,hi];rfl
 have hjw:(ts.map thW)[j]?=some (thW (need w,q)):=by rw [List.getElem?_map,hj];rfl
 have vt:=aW ht
 unfold cB
 rfl'
 unfold cZ
 rfl'
 refine zq ?_
 rfl'
 refine ntab_s (kj hw) (fun R r=>?_) ?_
 ·rfl'
  exact r
 rfl'
 unfold cW
 refine cD (lN (tab_s (kj hw) (fun R r=>?_) ?_))
 ·rfl'
  exact r
 rfl'
 refine hn ht hi ?_
 rfl'
 refine hn ht hj ?_
 rfl'
 unfold cX
 rfl'
 refine bV vt (aX hiw) ?_
 rfl'
 refine bV vt (aX hjw) ?_
 exact kNe_th ne k
def MdX (c0:MSp):Prop:=∀ {h:Gh} {t i j m:Nat} {ts:List (Str×Tr)} {w:Str} {p q:Tr} {Q:WK} {E:XWK},h.c t=some (.lst (ts.map thW))→(w = "join"∨w = "meet")→ts[i]?=some (need w,p)→ts[j]?=some (need w,q)→p≠q→Pl p→Pl q→SmT m p→SmT m q→m≤3900 →
 (∀ u,Pl u→Par (crs p q) u→Q (thW (made w,u)) h)→c0 [.loc t,stW (w,i,j)] h Q E
theorem w_made5 {c0 c1:MSp}(hj:JoinOk c0)(hm:JoinOk c1):MdX (mW c0 c1):=by
 intro h t i j m ts w p q Q E ht hw hi hjj ne pp pq sp sq hm' k
 have hiw:(ts.map thW)[i]?=some (thW (need w,p)):=by rw [List.getElem?_map,hi];rfl
 have hjw:(ts.map thW)[j]?=some (thW (need w,q)):=by rw [List.getElem?_map,hjj];rfl
 have vt:=aW ht
 unfold mW
 rfl'
 refine bV vt (aX hiw) ?_
 rfl'
 refine bV vt (aX hjw) ?_
 rfl'
 rcases hw with rfl | rfl
 ·refine br_t (show decide (("join" : Str) = "join")=true by decide +kernel) ?_
  rfl'
  refine hj hm' sp sq pp pq ne fun u pu par _=>?_
  rfl'
  exact k u pu par
 ·refine yD (show decide (("meet" : Str) = "join")=false by decide +kernel) ?_
  rfl'
  unfold mG
  rfl'
  refine hm hm' sp sq pp pq ne fun u pu par _=>?_
  rfl'
  exact k u pu par
def z8 (CB:Addr)(c0:MSp):Prop:=∀ {h:Gh} {n t d i j m:Nat} {ts:List (Str×Tr)} {ds:List (Str×Nat×Nat)} {w:Str} {p q:Tr} {Q:WK} {E:XWK},Brd CB h n t d ts ds→ts.length≤9000→ds.length≤9000→(w = "join"∨w = "meet")→ts[i]?=some (need w,p)→ts[j]?=some (need w,q)→p≠q→Pl p→Pl q→SmT m p→SmT m q→m≤3900 →
 (∀ u h',Pl u→Par (crs p q) u→Brd CB h' n t d (ts++[(made w,u)]) (ds++[(w,i,j)])→(∀ c,c≠t→c≠d→h'.c c=h.c c)→h'.nx=h.nx→Q (.int (ts.length:Int)) h')→c0 [.loc n,stW (w,i,j)] h Q E
theorem fL {t d:Nat}:([("things",.loc t),("done",.loc d)]:List (Str×W)).lookup ("things" : Str)=some (W.loc t):=rfl
theorem look_dn {t d:Nat}:([("things",.loc t),("done",.loc d)]:List (Str×W)).lookup ("done" : Str)=some (W.loc d):=rfl
theorem app_b {h:Gh}{n:Nat}{us:List W}{w:W}{Q:WK}(e:h.c n=some (.lst us))(hz:us.length≤9000)(k:∀ g:Gh,g.c n=some (.lst (us++[w]))→(∀ m,m≠n→g.c m=h.c m)→g.nx=h.nx→Q .non g):bQ (.loc n) [w] h Q:=
 app_ok e (Nat.lt_of_le_of_lt hz (by rw [sizeLine_eq];decide)) (k _ (set_c _ _ _) (fun _ e=>vX e) rfl)
theorem oY {r:MM}{mo:ME}{ma:MA}{σ : Sw}{h:Gh}{Q:WK}(x:mo σ h fun x h1=>qw h1 x (ma σ h1 fun xs h2=>r x xs h2 Q)):yr r mo ma σ h Q:=x
theorem iH {n:Nat}{us:List W}{h:Gh}{P:Prop}(e:h.c n=some (.lst us))(p:P):qw h (.loc n) P:=by
 simp only [qw,e]
 exact p
def cor:List (Str×Tr):=[("spot",(0,0,1)),("spot",(1,0,1)),("spot",(0,1,1)),("spot",(1,1,1))]
inductive Wk:List (Str×Tr)→List (Str×Nat×Nat)→Prop
 | nil:Wk cor []
 | step {ts:List (Str×Tr)} {ds:List (Str×Nat×Nat)} {w:Str} {i j m:Nat} {p q u:Tr} (k:Wk ts ds) (hw:w = "join"∨w = "meet") (hi:ts[i]?=some (need w,p)) (hj:ts[j]?=some (need w,q)) (ne:p≠q) (pp:Pl p) (pq:Pl q) (sp:SmT m p) (sq:SmT m q) (hm:m≤3900) (pu:Pl u) (par:Par (crs p q) u):Wk (ts++[(made w,u)]) (ds++[(w,i,j)])
theorem Wk.len {ts:List (Str×Tr)}{ds:List (Str×Nat×Nat)}(k:Wk ts ds):ts.length=ds.length+4:=by
 induction k with
 | nil=>rfl
 | step k _ _ _ _ _ _ _ _ _ _ _ ih=>rw [List.length_append,List.length_append,ih];rfl
def BS (CB:Addr)(h:Gh)(n t d:Nat)(ts:List (Str×Tr))(ds:List (Str×Nat×Nat)):Prop:=Brd CB h n t d ts ds∧Wk ts ds
def ManX (CB:Addr)(c0:MSp):Prop:=∀ {h:Gh} {n t d:Nat} {ts:List (Str×Tr)} {ds:List (Str×Nat×Nat)} {Q:WK} {E:XWK},Brd CB h n t d ts ds→Q (.int (ts.length:Int)) h→c0 [.loc n] h Q E
def KinX (CB:Addr)(c0:MSp):Prop:=∀ {h:Gh} {n t d i:Nat} {ts:List (Str×Tr)} {ds:List (Str×Nat×Nat)} {k:Str} {p:Tr} {Q:WK} {E:XWK},Brd CB h n t d ts ds→ts[i]?=some (k,p)→Q (.str k) h→c0 [.loc n,.int (i:Int)] h Q E
def TolX (CB:Addr)(c0:MSp):Prop:=∀ {h:Gh} {n t d i:Nat} {ts:List (Str×Tr)} {ds:List (Str×Nat×Nat)} {k:Str} {p:Tr} {Q:WK} {E:XWK},Brd CB h n t d ts ds→ts[i]?=some (k,p)→Q (tw p) h→c0 [.loc n,.int (i:Int)] h Q E
theorem mU {ma:MA}{ws:List W}{σ : Sw}{h:Gh}{Q:WK}(hm:∀ R,ma σ h R=R ws h)(hz:Nat.ble ws.length 1000=true)(x:∀ g:Gh,g.c h.nx=some (.lst ws)→(∀ n,n≠h.nx→g.c n=h.c n)→g.nx=h.nx+1→Q (.loc h.nx) g):nO ma σ h Q:=by
 unfold nO
 rw [hm]
 exact u6 hz (x _ (yW _ _) (fun _ e=>qX e) rfl)
decreasing_by exact Nat.div_lt_self (Nat.pos_of_ne_zero h) (by decide)
def val (l:List Nat):Nat:=l.foldl (fun v b=>2*v+b) 0
theorem pl0:Pl (0,0,1):=by constructor <;> decide +kernel
theorem pl1:Pl (1,0,1):=by constructor <;> decide +kernel
theorem pl2:Pl (0,1,1):=by constructor <;> decide +kernel
theorem pl3:Pl (1,1,1):=by constructor <;> decide +kernel
theorem Wk.at {ts:List (Str×Tr)}{ds:List (Str×Nat×Nat)}{i:Nat}{x:Str×Tr}(k:Wk ts ds)(e:cor[i]?=some x):ts[i]?=some x:=by
 induction k with
 | nil=>exact e
 | step k _ _ _ _ _ _ _ _ _ _ _ ih=>rw [List.getElem?_append_left (List.getElem?_eq_some_iff.mp ih).1];exact ih
theorem lR {σ : Sw}{h:Gh}{Q:Option Int→Gh→Prop}(x:Q none h):mV σ h Q:=x
theorem uT (a b:Str):eqW (.str a) (.str b)=(a==b):=by rw [eqW]
def Bag (h:Gh)(n:Nat):Prop:=∃ a b,h.c n=some (.lst [.int a,.int b])∧0≤b∧b<4294967296
def nZ (c:MSp):Prop:=∀ {h:Gh} {n:Nat} {many:Int} {Q:WK} {E:XWK},Bag h n→0<many→Sm 128 many→(∀ d h',0≤d→d<many→Bag h' n→Oth n h h'→Q (.int d) h')→c [.loc n,.int many] h Q E
theorem Am:nZ v8:=by
 intro h n many Q E hb hm hs k
 obtain ⟨a,b,e,b0,b1⟩:=hb
 have hm0:many≠0:=by omega
 have ev:=aW e
 have bag:∀ {h':Gh} {a b:Int},h'.c n=some (.lst [.int a,.int b])→0≤b→b<4294967296→Bag h' n:=fun e h0 h1=>⟨_,_,e,h0,h1⟩
 show (match view h (.loc n) with
  | some ws=>_
  | none=>False)
 rw [ev]
 refine br_d (fun _=>?_) (fun _=>?_)
 ·show (match view h (.loc n) with
   | some ws=>_
   | none=>False)
  rw [ev]
  refine And.intro hm0 ?_
  show (match view h (.loc n) with
   | some ws=>_
   | none=>False)
  rw [ev]
  refine And.intro ⟨hm0,128,by decide,hs⟩ ?_
  show (match h.c n with
   | some (Cell.lst ws)=>_
   | _=>False)
  rw [e]
  show Q (.int (a.fmod many)) (h.set n _)
  rw [dO hm]
  exact k _ _ (Int.emod_nonneg _ hm0) (Int.emod_lt_of_pos _ hm) (bag (set_c _ _ _) b0 b1) Oth.set
 ·show (match view h (.loc n) with
   | some ws=>_
   | none=>False)
  rw [ev]
  refine And.intro (.of (m:=33) (n:=64) (sm_of (by omega) (by omega)) (.lit rfl) (by decide) (by decide)) ?_
  refine And.intro (show (2147483647:Int)≠0 by decide) ?_
  show (match h.c n with
   | some (Cell.lst ws)=>_
   | _=>False)
  rw [e]
  have c0:0≤(b*48271+15731).fmod 2147483647:=by rw [dO (by decide)];exact Int.emod_nonneg _ (by decide)
  have c1:(b*48271+15731).fmod 2147483647<2147483647:=by rw [dO (by decide)];exact Int.emod_lt_of_pos _ (by decide)
  have e2:(h.set n (.lst [.int a,.int ((b*48271+15731).fmod 2147483647)])).c n=some (.lst [.int a,.int ((b*48271+15731).fmod 2147483647)]):=set_c _ _ _
  have ev2:=aW e2
  have o2:Oth n h (h.set n (.lst [.int a,.int ((b*48271+15731).fmod 2147483647)])):=Oth.set
  show (match view (h.set n (.lst [.int a,.int ((b*48271+15731).fmod 2147483647)])) (.loc n) with
   | some ws=>_
   | none=>False)
  rw [ev2]
  show (match view (h.set n (.lst [.int a,.int ((b*48271+15731).fmod 2147483647)])) (.loc n) with
   | some ws=>_
   | none=>False)
  rw [ev2]
  generalize (b*48271+15731).fmod 2147483647=c at *
  refine And.intro ⟨by decide,64,by decide,.lit rfl⟩ ?_
  have q0:0≤c.fdiv 32768:=by rw [vK (by decide)];omega
  have q1:c.fdiv 32768<2147483647:=by rw [vK (by decide)];omega
  refine And.intro (.of (m:=31) (n:=40) (sm_of (by omega) (by omega)) (sm_of (by omega) (by omega)) (by decide) (by decide)) ?_
  refine And.intro (show (2147483629:Int)≠0 by decide) ?_
  refine And.intro ⟨by decide,64,by decide,.lit rfl⟩ ?_
  refine And.intro hm0 ?_
  show Q (.int (Int.fmod _ many)) (h.set n (.lst [.int a,.int c]))
  rw [dO hm]
  exact k _ _ (Int.emod_nonneg _ hm0) (Int.emod_lt_of_pos _ hm) (bag e2 c0 (by omega)) o2
def uI (c:MSp):Prop:=∀ {h:Gh} {ns:List Int} {k:Int} {Q:WK} {E:XWK},0≤k→Q (.int (ns.getD k.toNat 0)) h→c [.kls (ns.map .int),.int k] h Q E
theorem w_cell5:uI lO:=by
 intro h ns k Q E h0 q
 show br (decide (k<((ns.map W.int).length:Int))) _ _
 refine br_d (fun hk=>?_) (fun hk=>?_)
 ·conv=>whnf
  rw [atI_ints h0 hk]
  exact q
 ·have e:ns.getD k.toNat 0=0:=by
   rw [List.getD_eq_getElem?_getD,List.getElem?_eq_none (by rw [List.length_map] at hk;omega)];rfl
  rw [e] at q
  exact q
theorem kPow_s {i j:Int}{h:Gh}{Q:WK}(c:CPow i j)(x:Q (.int (i^j.toNat)) h):kPow (.int i) (.int j) h Q:=⟨c,x⟩
theorem mLstM_s {t:MA}{σ : Sw}{h:Gh}{Q:WK}(x:t σ h fun ws h1=>kO ws.length (Q (.loc h1.nx) (h1.new (.lst ws)))):nO t σ h Q:=x
def BagOk (c0:MSp):Prop:=∀ {h:Gh} {a:Int} {Q:WK} {E:XWK},(∀ h',Bag h' h.nx→h'.nx=h.nx+1→(∀ m,m≠h.nx→h'.c m=h.c m)→Q (.loc h.nx) h')→c0 [.int a] h Q E
theorem w_bag5:BagOk ur:=by
 intro h a Q E k
 unfold ur
 rfl'
 refine kPow_s ⟨by decide,by decide,by decide⟩ ?_
 rfl'
 refine br_d (fun _=>?_) (fun _=>?_)
 ·refine vR (mLstM_s ?_)
  rfl'
  refine kMod_s (by decide) ?_
  rfl'
  have c0:0≤a.fmod 2147483647:=by rw [dO (by decide)];exact Int.emod_nonneg _ (by decide)
  have c1:a.fmod 2147483647<2147483647:=by rw [dO (by decide)];exact Int.emod_lt_of_pos _ (by decide)
  exact k _ ⟨_,_,yW _ _,by omega,by omega⟩ rfl fun m hm=>qX hm
 ·rfl'
  unfold qN
  refine vR (mU (ws:=[.int a,.int 7]) (fun R=>rfl) rfl fun g gc go gn=>?_)
  exact k g ⟨_,_,gc,by decide,by decide⟩ gn go
def fsK (C:Addr)(f:Str)(D:bF)(σ : Sw)(y:W):WK:=fun x h2=>match x,yR C h2 x with
 | .loc n,some fs=>by2 (Nat.ble fs.length 900) (D.nx σ (h2.set n (.obj C (uo f y fs)))) False
 | _,_=>False
theorem mFldS_s {C:Addr}{f:Str}{mv mo:ME}{D:bF}{σ : Sw}{h:Gh}(x:mv σ h fun y h1=>mo σ h1 (fsK C f D σ y)):mFldS C f mv mo D σ h:=x
theorem fsK_g {C:Addr}{f:Str}{D:bF}{σ : Sw}{y:W}{n:Nat}{fs fs':List (Str×W)}{h:Gh}(e:h.c n=some (.obj C fs))(hl:Nat.ble fs.length 900=true)(p:uo f y fs=fs')(k:∀ g:Gh,g.c n=some (.obj C fs')→(∀ m,m≠n→g.c m=h.c m)→g.nx=h.nx→D.nx σ g):fsK C f D σ y (.loc n) h:=by
 unfold fsK
 rw [insW_g e]
 dsimp only
 rw [hl,p]
 exact k _ (set_c _ _ _) (fun _ e=>vX e) rfl
theorem mMake_s {C:Addr}{ms:MSp}{E:XWK}{mr:MA}{σ : Sw}{h:Gh}{Q:WK}(x:mr σ h fun ws h1=>ms (.loc h1.nx::ws) (h1.new (.obj C [])) (fun v h2=>v=.non∧Q (.loc h1.nx) h2) E):mMake C ms E mr σ h Q:=x
def BinX (CB:Addr)(c0:MSp):Prop:=∀ {h:Gh} {n:Nat} {Q:WK} {E:XWK},h.c n=some (.obj CB [])→n<h.nx→(∀ h',BS CB h' n h.nx (h.nx+1) cor []→h'.nx=h.nx+2→(∀ c,c≠n→c<h.nx→h'.c c=h.c c)→Q .non h')→c0 [.loc n] h Q E
theorem vQ (us:List W)(k:Nat):sZ us none (some (k:Int))=us.take k:=by
 unfold sZ
 rw [HT.jH,HT.vG,List.drop_zero,Nat.sub_zero]
 by_cases h:k≤us.length
 ·rw [Nat.min_eq_left h]
 ·rw [Nat.min_eq_right (by omega),List.take_length,List.take_of_length_le (by omega)]
def LpX (c0:MSp):Prop:=∀ {h:Gh} {v:Tr} {m:Nat} {Q:WK} {E:XWK},v≠(0,0,0)→SmT m v→m≤8000→(∀ u,Pl u→Par v u→Q (tw u) h)→c0 [tw v] h Q E
theorem parts_of {ns:List Int}(h0:NZ ns):∃ (us:List Int) (s:Int),(s=1∨s = -1)∧PlL us∧ns=us.map (· * (s*gL ns))∧ns.map (·.fdiv (gL ns))=us.map (· * s):=by
 have hg:=gL_ne h0
 have fd:∀ (us:List Int) (s:Int),ns=us.map (· * (s*gL ns))→ns.map (·.fdiv (gL ns))=us.map (· * s):=by
  intro us s e
  have e2:ns.map (·.fdiv (gL ns))=(us.map (· * (s*gL ns))).map (·.fdiv (gL ns)):=congrArg _ e
  rw [e2,List.map_map]
  refine List.map_congr_left fun x _=>?_
  show (x*(s*gL ns)).fdiv (gL ns)=x*s
  rw [←Int.mul_assoc]
  exact Int.mul_fdiv_cancel _ (by omega)
 by_cases hl:cV ns<0
 ·obtain ⟨_,pl,eq⟩:=plainL h0 (by':=0 - gL ns) (by rw [if_pos hl])
  have e1:ns=(ns.map (·.fdiv (0 - gL ns))).map (· * (-1*gL ns)):=by rw [show (-1*gL ns)=0 - gL ns by omega];exact eq
  exact ⟨_,-1,.inr rfl,pl,e1,fd _ _ e1⟩
 ·obtain ⟨_,pl,eq⟩:=plainL h0 (by':=gL ns) (by rw [if_neg hl])
  have e1:ns=(ns.map (·.fdiv (gL ns))).map (· * (1*gL ns)):=by rw [Int.one_mul];exact eq
  exact ⟨_,1,.inl rfl,pl,e1,fd _ _ e1⟩
theorem w_lplain2 {E:XWK}{Q:WK}{h:Gh}{v:Tr}{m:Nat}{o2 o3 o4 o5:Option W}(h0:v≠(0,0,0))(hs:SmT m v)(hm:m≤8000)(k:∀ u,Pl u→Par v u→Q (tw u) h) :
  fj E { nx:=fun _ h'=>Q .non h',rt:=fun w h'=>Q w h' } [some (tw v),some (.int (gL (tl v))),o2,o3,o4,o5] h:=by
 have nz:=tl_nz h0
 obtain ⟨us,s,hs1,pl,e1,e2⟩:=parts_of nz
 have hg0:=gL_ne nz
 have hgs:Sm m (gL (tl v)):=gL_sm hs.all
 have s0:s≠0:=by rcases hs1 with rfl | rfl <;> decide
 obtain ⟨u,rfl,eu⟩:=tl_map e1
 have fin:Q (tw u) h:=k u pl ⟨_,Int.mul_ne_zero s0 (by omega),eu⟩
 have nzm:NZ ((tl u).map (· * s)):=by
  obtain ⟨x,hx,hx0⟩:=tl_nz (Pl.ne (t:=u) pl)
  exact ⟨x*s,List.mem_map.mpr ⟨x,hx,rfl⟩,Int.mul_ne_zero hx0 s0⟩
 have hlast:cV ((tl u).map (· * s))=cV (tl u)*s:=ju s0 _
 have hpos:0<cV (tl u):=pl.2
 unfold fj
 refine cD (lN ?_)
 refine uP (w:=tw v) (ns:=tl v) rfl (.inr (.inl rfl)) (show (3:Nat)≤sizeLine by rw [sizeLine_eq];decide) (fun i acc h'=>h'=h∧acc=(((tl v).take i).map (·.fdiv (gL (tl v)))).map W.int) (fun i acc h' e=>.inr (.inl rfl)) ?_ ?_ ⟨rfl,rfl⟩
 ·rintro i x acc h' N hN et ⟨rfl,rfl⟩
  refine And.intro ⟨by omega,m,hm,hgs⟩ ?_
  refine hN _ _ ⟨rfl,?_⟩
  rw [List.take_succ,et]
  simp
 ·rintro acc h' ⟨rfl,rfl⟩
  rw [List.take_length,e2]
  refine tU (σ':=[some (tw v),some (.int (gL (tl v))),o2,o3,o4,some (.lst (((tl u).map (· * s)).map W.int))]) rfl (xg ?_)
  refine cD (mJ (mTest_s (mOp_s (mOp_s ?_))))
  refine uP (w:=.lst (((tl u).map (· * s)).map W.int)) (ns:=(tl u).map (· * s)) rfl (.inl rfl) (show (3:Nat)≤sizeLine by rw [sizeLine_eq];decide) (fun i acc h2=>h2=h'∧acc=((((tl u).map (· * s)).take i).filter (·≠0)).map W.int) (fun i acc h' e=>.inl rfl) ?_ ?_ ⟨rfl,rfl⟩
  ·rintro i x acc h2 N hN en ⟨rfl,rfl⟩
   show by2 (!eqW (.int x) (.int 0)) (N (_++[W.int x]) h2) _
   rw [eV]
   by_cases h0:x=0
   ·refine by2_f (by simp [h0]) (hN _ _ ⟨rfl,?_⟩)
    rw [List.take_succ,en]
    simp [h0]
   ·refine by2_t (by simp [h0]) (hN _ _ ⟨rfl,?_⟩)
    rw [List.take_succ,en]
    simp [h0]
  ·rintro acc h2 ⟨rfl,rfl⟩
   rw [List.take_length]
   have el:=last_nzL nzm
   generalize (((tl u).map (· * s)).filter (·≠0)).map W.int=F at el
   show (match atI F (-1) with
     | some w=>_
     | none=>False)
   rw [el,hlast]
   rcases hs1 with rfl | rfl
   ·refine yD (decide_eq_false (by omega)) ?_
    rfl'
    unfold iD
    rfl'
    have:((tl u).map (· * (1:Int))).map W.int=(tl u).map W.int:=by simp
    rw [this]
    exact fin
   ·refine br_t (decide_eq_true (by omega)) ?_
    refine lN ?_
    refine uP (w:=.lst (((tl u).map (· * -1)).map W.int)) (ns:=(tl u).map (· * -1)) rfl (.inl rfl) (show (3:Nat)≤sizeLine by rw [sizeLine_eq];decide) (fun i acc h3=>h3=h2∧acc=((((tl u).map (· * -1)).take i).map (fun x=>0 - x)).map W.int) (fun i acc h' e=>.inl rfl) ?_ ?_ ⟨rfl,rfl⟩
    ·rintro i x acc h3 N hN en ⟨rfl,rfl⟩
     refine hN _ _ ⟨rfl,?_⟩
     rw [List.take_succ,en]
     simp
    ·rintro acc h3 ⟨rfl,rfl⟩
     have e3:((((tl u).map (· * -1)).take ((tl u).map (· * -1)).length).map (fun x=>0 - x))=tl u:=by
      rw [List.take_length,List.map_map]
      have:((fun x:Int=>0 - x) ∘ (· * -1))=id:=by funext x;show 0 - x * -1=x;omega
      rw [this,List.map_id]
     rw [e3]
     refine tU (σ':=[some (tw v),some (.int (gL (tl v))),o2,o3,o4,some (.lst ((tl u).map W.int))]) rfl (xg ?_)
     unfold iD
     rfl'
     exact fin
theorem abs_gcd (n f:Int):Int.gcd (if n<0 then -n else n) f=Int.gcd n f:=by
 rw [abs_eq];simp [Int.gcd]
theorem w_lplain5:LpX sI:=by
 intro h v m Q E h0 hs hm k
 have key:∀ D:bF,D.nx=fj E { nx:=fun _ h'=>Q .non h',rt:=fun w h'=>Q w h' } →
   dZ ⟨(tl v).map .int,none⟩ (nName 2) (bw (cj (mCB kAbs (aq (aC 2) aN)) (nName 3))
    (bw (cj (aC 1) (nName 4))
    (bw (wD (bx (mOp kGt (aC 4) (mC (.int 0)))) (mPar 3 4 (aq (aC 4) (aq (mOp yt (aC 3) (aC 4)) aN))))
    (cj (aC 3) (nName 1))))) D ((tl v).map .int) [some (tw v),some (.int 0),none,none,none,none] h:=by
  intro D hD
  refine g8 (fun i σ h'=>h'=h∧∃ o p r,σ = [some (tw v),some (.int (gL ((tl v).take i))),o,p,r,none]) ?_ ?_ ⟨rfl,none,none,none,rfl⟩
  ·rintro i x σ h' N hN e ⟨rfl,o,p,r,rfl⟩
   obtain ⟨n,en,rfl⟩:=ints_get e
   have f0:=gL_nn ((tl v).take i)
   generalize hf:gL ((tl v).take i)=f at f0
   conv=>whnf
   refine ⟨fun m σ h2=>h2=h'∧∃ x y,σ = [some (tw v),some (.int f),some (.int n),some (.int x),some (.int y),none]∧0≤x∧0≤y∧Int.gcd x y=Int.gcd n f∧m=y.toNat,⟨_,rfl,_,_,rfl,abs_nn n,f0,abs_gcd n f,rfl⟩,?_⟩
   ·rintro m σ h2 ⟨rfl,x,y,rfl,x0,y0,hg,rfl⟩
    refine ⟨fun e=>?_,fun e=>?_⟩
    ·have hy:0<y:=by simpa using e
     obtain ⟨g1,g2,g3⟩:=wg x0 hy
     conv=>whnf
     refine ⟨by omega,?_⟩
     refine ⟨(x.fmod y).toNat,by omega,rfl,y,x.fmod y,rfl,y0,g2,g1.trans hg,rfl⟩
    ·have hy:y=0:=by
      have:¬ 0<y:=by simpa using e
      omega
     subst hy
     refine hN _ _ ⟨rfl,some (.int n),some (.int x),some (.int 0),?_⟩
     have:gL ((tl v).take (i+1))=x:=by rw [z6 en,hf];unfold gF;rw [←hg];exact mO x0
     rw [this]
     rfl
  ·rintro σ h' ⟨rfl,o,p,r,rfl⟩
   rw [List.length_map,List.take_length]
   rw [hD]
   exact w_lplain2 h0 hs hm k
 exact key _ rfl
theorem zp:CrsOk mz:=by
 intro h p q m Q E hm hp hq k
 obtain ⟨a,b,c⟩:=p
 obtain ⟨d,e,f⟩:=q
 obtain ⟨h1,h2,h3⟩:=hp
 obtain ⟨h4,h5,h6⟩:=hq
 simp only at h1 h2 h3 h4 h5 h6
 unfold mz
 rfl'
 exact k
theorem Wk.get {ts:List (Str×Tr)}{ds:List (Str×Nat×Nat)}(k:Wk ts ds):∀ {i:Nat} {w:Str} {a b:Nat},ds[i]?=some (w,a,b)→∃ p q u m,(w = "join"∨w = "meet")∧(ts.take (i+4))[a]?=some (need w,p)∧(ts.take (i+4))[b]?=some (need w,q)∧p≠q∧SmT m p∧SmT m q∧m≤3900∧Pl p∧Pl q∧Pl u∧Par (crs p q) u∧ts[i+4]?=some (made w,u):=by
 induction k with
 | nil=>intro i w a b e;cases e
 | @step ts ds w' a' b' m p q u k hw hi hj ne pp pq sp sq hm pu par ih=>
  intro i w a b e
  have hl:=k.len
  by_cases hd:i<ds.length
  ·rw [List.getElem?_append_left hd] at e
   obtain ⟨p1,q1,u1,m1,f1,f2,f3,f4,f5,f6,f7,f8,f9,f10,f11,f12⟩:=ih e
   refine ⟨p1,q1,u1,m1,f1,?_,?_,f4,f5,f6,f7,f8,f9,f10,f11,?_⟩
   ·rw [List.take_append_of_le_length (by omega)];exact f2
   ·rw [List.take_append_of_le_length (by omega)];exact f3
   ·rw [List.getElem?_append_left (by omega)];exact f12
  ·have hi2:i<(ds++[(w',a',b')]).length:=(List.getElem?_eq_some_iff.mp e).1
   rw [List.length_append,List.length_singleton] at hi2
   have e2:i=ds.length:=by omega
   subst e2
   rw [List.getElem?_append_right (Nat.le_refl _),Nat.sub_self] at e
   cases e
   refine ⟨p,q,u,m,hw,?_,?_,ne,sp,sq,hm,pp,pq,pu,par,?_⟩
   ·rw [←hl,List.take_append_of_le_length (Nat.le_refl _),List.take_length];exact hi
   ·rw [←hl,List.take_append_of_le_length (Nat.le_refl _),List.take_length];exact hj
   ·rw [←hl,List.getElem?_append_right (Nat.le_refl _),Nat.sub_self];rfl
theorem Wk.cor {ts:List (Str×Tr)}{ds:List (Str×Nat×Nat)}(k:Wk ts ds):ts.take 4=cor:=by
 induction k with
 | nil=>rfl
 | step k _ _ _ _ _ _ _ _ _ _ _ ih=>rw [List.take_append_of_le_length (by have:=k.len;omega)];exact ih
def rng (a m:Nat):List Nat:=List.range' a (m - a)
theorem mem_rng {a m x:Nat}:x∈rng a m↔a≤x∧x<m:=by
 unfold rng
 rw [List.mem_range'_1]
 omega
theorem rngW_rng (a m:Nat):rngW (a:Int) ((m:Int) - (a:Int)).toNat=(rng a m).map fun x:Nat=>W.int (x:Int):=by
 unfold rngW rng
 rw [List.range'_eq_map_range,List.map_map,show ((m:Int) - (a:Int)).toNat=m - a by omega]
 refine List.map_congr_left fun x _=>?_
 simp
theorem Aa (m:Nat):rngW 0 ((m:Nat):Int).toNat=(rng 0 m).map fun x:Nat=>W.int (x:Int):=by
 have:=rngW_rng 0 m
 rw [show ((m:Int) - ((0:Nat):Int)).toNat=((m:Nat):Int).toNat by omega] at this
 exact this
theorem rgK_s {R:Src→Gh→Prop}{h:Gh}{m:Nat}(h2:m≤1000)(x:R ⟨(rng 0 m).map fun x:Nat=>W.int (x:Int),none⟩ h):rgK R [.int (m:Int)] h:=by
 rw [←Aa] at x
 exact rgOk.mk (by omega) (by omega) x
theorem pF {a m i x:Nat}(e:(rng a m)[i]?=some x):x=a+i∧x<m:=by
 have hx:=mem_rng.mp (List.mem_of_getElem? e)
 unfold rng at e
 have hl:=(List.getElem?_eq_some_iff.mp e).1
 rw [List.length_range'] at hl
 rw [List.getElem?_eq_getElem (by rw [List.length_range'];exact hl),List.getElem_range'] at e
 have:=Option.some.inj e
 omega
theorem bag_of {ga gb:Gh}{b:Nat}(e:gb.c b=ga.c b)(x:Bag ga b):Bag gb b:=let ⟨p,q,e1,r⟩:=x;⟨p,q,e.trans e1,r⟩
theorem yI:WhoI mQ:=by
 intro i h Q E k
 unfold mQ
 rfl'
 exact k
theorem chnK_f {r':M2}{mc:ME}{σ : Sw}{y:W}{Q:WK}{h:Gh}(x:Q (.bl false) h):chnK r' mc σ y Q (.bl false) h:=x
theorem pl_sts (ds:List (Str×Nat×Nat)):plW 30 (.lst (ds.map stW))=true:=by
 show (ds.map stW).all (plW 29)=true
 rw [List.all_eq_true]
 intro w hw
 obtain ⟨x,_,rfl⟩:=List.mem_map.mp hw
 rfl
theorem vg:∀ ds:List (Str×Nat×Nat),iU (ds.map stW) (ds.map stW)=true
 | []=>by simp [iU]
 | (s,i,j)::ds=>by
  rw [List.map_cons,iU,vg ds]
  simp [stW,eqW,iU]
theorem kNe_st {ds:List (Str×Nat×Nat)}{h:Gh}{Q:WK}(k:Q (.bl false) h):kNe (.lst (ds.map stW)) (.lst (ds.map stW)) h Q:=by
 unfold kNe
 show by2 (plW 30 (.lst (ds.map stW))&&plW 30 (.lst (ds.map stW))) (Q (.bl (!eqW (.lst (ds.map stW)) (.lst (ds.map stW)))) h) False
 rw [pl_sts,show eqW (.lst (ds.map stW)) (.lst (ds.map stW))=true by rw [eqW,vg]]
 exact k
theorem w_take3 {CB:Addr}{c0 c1:MSp}(hc:CanX c0)(hm:MdX c1):z8 CB (cI CB c0 c1):=by
 intro h n t d i j m ts ds w p q Q E B lt ld hw hi hj ne pp pq sp sq hm' k
 unfold cI
 rfl'
 refine gU ?_
 rfl'
 refine gM B.ob fL ?_
 rfl'
 refine hc B.th hw hi hj ne ?_
 rfl'
 unfold gZ
 rfl'
 refine oY (gU ?_)
 rfl'
 refine gM B.ob fL ?_
 refine iH B.th ?_
 rfl'
 refine gU ?_
 rfl'
 refine gM B.ob fL ?_
 rfl'
 refine hm B.th hw hi hj ne pp pq sp sq hm' fun u pu par=>?_
 rfl'
 refine app_b B.th (by rw [List.length_map];exact lt) fun g gc go gn=>?_
 have gob:g.c n=some (.obj CB [("things",.loc t),("done",.loc d)]):=(go n B.nt).trans B.ob
 have gdn:g.c d=some (.lst (ds.map stW)):=(go d (Ne.symm B.td)).trans B.dn
 rfl'
 refine oY (gU ?_)
 rfl'
 refine gM gob look_dn ?_
 refine iH gdn ?_
 rfl'
 refine app_b gdn (by rw [List.length_map];exact ld) fun g2 g2c g2o g2n=>?_
 have g2ob:g2.c n=some (.obj CB [("things",.loc t),("done",.loc d)]):=(g2o n B.nd).trans gob
 have g2th:g2.c t=some (.lst (ts.map thW++[thW (made w,u)])):=(g2o t B.td).trans gc
 rfl'
 refine gU ?_
 rfl'
 refine gM g2ob fL ?_
 rfl'
 refine dD (aW g2th) ?_
 rfl'
 rw [List.length_append,List.length_map,List.length_singleton,show ((ts.length+1:Nat):Int) - 1=(ts.length:Int) by omega]
 have nx:g2.nx=h.nx:=g2n.trans gn
 refine k u g2 pu par ⟨g2ob,by rw [g2th,List.map_append];rfl,by rw [g2c,List.map_append];rfl,B.nt,B.nd,B.td,by rw [nx];exact B.nl,by rw [nx];exact B.tl,by rw [nx];exact B.dl⟩ (fun c h1 h2=>(g2o c h2).trans (go c h1)) nx
theorem w_many3 {CB:Addr}:ManX CB (gq CB):=by
 intro h n t d ts ds Q E B q
 unfold gq
 rfl'
 refine gU ?_
 rfl'
 refine gM B.ob fL ?_
 rfl'
 refine dD (aW B.th) ?_
 rw [List.length_map]
 exact q
theorem w_kind3 {CB:Addr}:KinX CB (gk CB):=by
 intro h n t d i ts ds k p Q E B hi q
 have hiw:(ts.map thW)[i]?=some (thW (k,p)):=by rw [List.getElem?_map,hi];rfl
 unfold gk
 rfl'
 refine gU ?_
 rfl'
 refine gM B.ob fL ?_
 rfl'
 refine bV (aW B.th) (aX hiw) ?_
 rfl'
 exact q
theorem w_told3 {CB:Addr}:TolX CB (fP CB):=by
 intro h n t d i ts ds k p Q E B hi q
 have hiw:(ts.map thW)[i]?=some (thW (k,p)):=by rw [List.getElem?_map,hi];rfl
 unfold fP
 rfl'
 refine gU ?_
 rfl'
 refine gM B.ob fL ?_
 rfl'
 refine bV (aW B.th) (aX hiw) ?_
 rfl'
 exact q
theorem uY {CB:Addr}:BinX CB (fK CB):=by
 intro h n Q E hn nl k
 unfold fK
 rfl'
 refine mFldS_s ?_
 rfl'
 refine thaw_g fun g gc go gn=>?_
 rfl'
 refine fsK_g ((go n (Nat.ne_of_lt nl)).trans hn) rfl rfl fun g2 g2c g2o g2n=>?_
 rfl'
 refine mFldS_s (mU (ws:=[]) (fun R=>rfl) rfl fun g3 g3c g3o g3n=>?_)
 have e3:g2.nx=h.nx+1:=g2n.trans gn
 rw [e3] at g3c g3o g3n ⊢
 have n1:n≠h.nx:=Nat.ne_of_lt nl
 have n2:n≠h.nx+1:=Nat.ne_of_lt (Nat.lt_succ_of_lt nl)
 rfl'
 refine fsK_g ((g3o n n2).trans g2c) rfl (fs':=[("things",.loc h.nx),("done",.loc (h.nx+1))]) rfl fun g4 g4c g4o g4n=>?_
 have nx4:g4.nx=h.nx+2:=g4n.trans g3n
 refine k g4 ⟨⟨g4c,?_,?_,n1,n2,Nat.ne_of_lt (Nat.lt_succ_self _),by rw [nx4];omega,by rw [nx4];omega,by rw [nx4];omega⟩,Wk.nil⟩ nx4 fun c cn cl=>?_
 ·rw [g4o _ (Ne.symm n1),g3o _ (Nat.ne_of_lt (Nat.lt_succ_self _)),g2o _ (Ne.symm n1),gc]
  rfl
 ·rw [g4o _ (Ne.symm n2),g3c]
  rfl
 ·rw [g4o c cn,g3o c (Nat.ne_of_lt (Nat.lt_succ_of_lt cl)),g2o c cn,go c (Nat.ne_of_lt cl)]
def stZ (w:Str)(i j:Int):W:=.tup [.str w,.int i,.int j]
def gT (ts:List (Str×Tr))(k:Str)(i:Int):Option Tr:=if 0≤i then (match ts[i.toNat]? with
 | some x=>if x.1=k then some x.2 else none
 | none=>none) else none
theorem qx {ts:List (Str×Tr)}{k:Str}{i:Int}{p:Tr}(e:gT ts k i=some p):∃ n:Nat,i=(n:Int)∧ts[n]?=some (k,p):=by
 unfold gT at e
 split at e
 ·rename_i h0
  split at e
  ·rename_i x ex
   split at e
   ·rename_i ek
    obtain ⟨n,rfl⟩:=Int.eq_ofNat_of_zero_le h0
    cases e
    exact ⟨n,rfl,by subst ek;exact ex⟩
   ·cases e
  ·cases e
 ·cases e
theorem rY {ts:List (Str×Tr)}{k:Str}{n:Nat}{p:Tr}(e:ts[n]?=some (k,p)):gT ts k (n:Int)=some p:=by
 unfold gT
 rw [if_pos (Int.natCast_nonneg n),Int.toNat_natCast,e]
 exact if_pos rfl
theorem gT_neg {ts:List (Str×Tr)}{k:Str}{i:Int}(h:¬ 0≤i):gT ts k i=none:=if_neg h
theorem gT_far {ts:List (Str×Tr)}{k:Str}{i:Int}(h:¬ i<(ts.length:Int)):gT ts k i=none:=by
 unfold gT
 split
 ·rw [List.getElem?_eq_none (by omega)]
 ·rfl
theorem lM {ts:List (Str×Tr)}{k k':Str}{n:Nat}{p:Tr}(e:ts[n]?=some (k',p))(ne:k'≠k):gT ts k (n:Int)=none:=by
 unfold gT
 rw [if_pos (Int.natCast_nonneg n),Int.toNat_natCast,e]
 exact if_neg ne
def nA (ts:List (Str×Tr))(w:Str)(i j:Int):Bool:=if w = "join"∨w = "meet" then (match gT ts (need w) i,gT ts (need w) j with
 | some p,some q=>decide (p≠q)
 | _,_=>false) else false
def NumG (c0:MSp):Prop:=∀ {h:Gh} {t:Nat} {i:Int} {ts:List (Str×Tr)} {k:Str} {Q:WK} {E:XWK},h.c t=some (.lst (ts.map thW))→Q (.bl (gT ts k i).isSome) h→c0 [.loc t,.int i,.str k] h Q E
theorem w_isnumG {c0:MSp}(hw:WhoI c0):NumG (bW c0):=by
 intro h t i ts k Q E ht q
 unfold bW
 rfl'
 refine hw ?_
 rfl'
 refine pQ ?_
 rfl'
 refine kLe_s ?_
 by_cases h0:0≤i
 ·rw [decide_eq_true h0]
  refine z9 ?_
  rfl'
  refine dD (aW ht) ?_
  rfl'
  rw [List.length_map]
  by_cases hl:i<(ts.length:Int)
  ·rw [decide_eq_true hl]
   obtain ⟨n,rfl⟩:=Int.eq_ofNat_of_zero_le h0
   have hn:n<ts.length:=by omega
   obtain ⟨⟨k',p⟩,ex⟩:∃ x,ts[n]?=some x:=⟨_,List.getElem?_eq_getElem hn⟩
   have hiw:(ts.map thW)[n]?=some (thW (k',p)):=by rw [List.getElem?_map,ex];rfl
   rfl'
   refine bV (aW ht) (aX hiw) ?_
   rfl'
   show Q (.bl (decide (k'=k))) h
   by_cases ek:k'=k
   ·subst ek
    rw [rY ex] at q
    rw [decide_eq_true rfl]
    exact q
   ·rw [lM ex ek] at q
    rw [decide_eq_false ek]
    exact q
  ·rw [decide_eq_false hl]
   rw [gT_far hl] at q
   rfl'
   exact q
 ·rw [decide_eq_false h0]
  rw [gT_neg h0] at q
  refine chnK_f ?_
  rfl'
  exact q
theorem need_none {w:Str}(hw:¬ (w = "join"∨w = "meet")):nM cC (.inr w)=none:=by
 unfold cC nM
 have e1:¬ ((.inr "join" : Key)=.inr w):=fun z=>hw (.inl (by cases z;rfl))
 have e2:¬ ((.inr "meet" : Key)=.inr w):=fun z=>hw (.inr (by cases z;rfl))
 rw [List.find?_cons,List.find?_cons,List.find?_nil]
 simp only [e1,e2,decide_false]
 rfl
theorem ntab_n {tbl:List (Key×W)}{x:Str}{mb:ME}{σ : Sw}{h:Gh}{Q:WK}(e:nM tbl (.inr x)=none)(m:∀ R:WK,R (.str x) h→mb σ h R)(k:Q (.bl true) h):m7 tbl mb σ h Q:=m _ (by
 show Q (.bl (!(nM tbl (.inr x)).isSome)) h
 rw [e]
 exact k)
theorem zQ {k:Str}{p q:Tr}{h:Gh}{Q:WK}(x:Q (.bl (decide (p≠q))) h):kNe (thW (k,p)) (thW (k,q)) h Q:=by
 show Q (.bl (!eqW (thW (k,p)) (thW (k,q)))) h
 have e:eqW (thW (k,p)) (thW (k,q))=decide (p=q):=by
  show (eqW (.str k) (.str k)&&(eqW (tw p) (tw q)&&true))=decide (p=q)
  rw [eq_tw,uT]
  simp
 rw [e,show (!decide (p=q))=decide (p≠q) by simp]
 exact x
def CanG (c0:MSp):Prop:=∀ {h:Gh} {t:Nat} {i j:Int} {ts:List (Str×Tr)} {w:Str} {Q:WK} {E:XWK},h.c t=some (.lst (ts.map thW))→Q (.bl (nA ts w i j)) h→c0 [.loc t,stZ w i j] h Q E
theorem w_canG {c0:MSp}(hn:NumG c0):CanG (cB c0):=by
 intro h t i j ts w Q E ht k
 have vt:=aW ht
 unfold stZ
 unfold cB
 rfl'
 unfold cZ
 rfl'
 refine zq ?_
 rfl'
 by_cases hw:w = "join"∨w = "meet"
 ·refine ntab_s (kj hw) (fun R r=>?_) ?_
  ·rfl'
   exact r
  rfl'
  unfold cW
  refine cD (lN (tab_s (kj hw) (fun R r=>?_) ?_))
  ·rfl'
   exact r
  rfl'
  refine hn ht ?_
  unfold nA at k
  rw [if_pos hw] at k
  cases e1:gT ts (need w) i with
  | none=>
   rw [e1] at k
   rw [show (none:Option Tr).isSome=false from rfl]
   rfl'
   exact k
  | some p=>
   rw [show (some p).isSome=true from rfl]
   rfl'
   refine hn ht ?_
   cases e2:gT ts (need w) j with
   | none=>
    rw [e1,e2] at k
    rw [show (none:Option Tr).isSome=false from rfl]
    rfl'
    exact k
   | some q=>
    rw [e1,e2] at k
    rw [show (some q).isSome=true from rfl]
    obtain ⟨a,rfl,ea⟩:=qx e1
    obtain ⟨b,rfl,eb⟩:=qx e2
    have hiw:(ts.map thW)[a]?=some (thW (need w,p)):=by rw [List.getElem?_map,ea];rfl
    have hjw:(ts.map thW)[b]?=some (thW (need w,q)):=by rw [List.getElem?_map,eb];rfl
    rfl'
    unfold cX
    rfl'
    refine bV vt (aX hiw) ?_
    rfl'
    refine bV vt (aX hjw) ?_
    exact zQ k
 ·refine ntab_n (need_none hw) (fun R r=>?_) ?_
  ·rfl'
   exact r
  rfl'
  unfold nA at k
  rw [if_neg hw] at k
  exact k
theorem yL {x f:Str}{ma:ME}{E:XWK}{D:bF}{σ : Sw}{h:Gh}(k:ma σ h fun w h1=>E ⟨x,[(f,w)]⟩ h1):uw x f ma E D σ h:=k
def TakR (CB:Addr)(c0:MSp):Prop:=∀ {h:Gh} {n t d:Nat} {i j:Int} {ts:List (Str×Tr)} {ds:List (Str×Nat×Nat)} {w:Str} {Q:WK} {E:XWK},Brd CB h n t d ts ds→nA ts w i j=false→E ⟨"Stuck",[("at",.int (ds.length:Int))]⟩ h→c0 [.loc n,stZ w i j] h Q E
theorem w_takeR {CB:Addr}{c0 c1:MSp}(hc:CanG c0):TakR CB (cI CB c0 c1):=by
 intro h n t d i j ts ds w Q E B hf k
 unfold cI
 rfl'
 refine gU ?_
 rfl'
 refine gM B.ob fL ?_
 rfl'
 refine hc B.th ?_
 rw [hf]
 rfl'
 refine yL ?_
 rfl'
 refine gU ?_
 rfl'
 refine gM B.ob look_dn ?_
 rfl'
 refine dD (aW B.dn) ?_
 rw [List.length_map]
 exact k
theorem xK_a' {f:Str→Bool}{n:Str}{ws:List W}{h:Gh}{Q:WK}(x:Q (.bl (f n)) h):xK f Q (.exa n ws) h:=x
theorem mXFld_s {f:Str}{ma:ME}{σ : Sw}{h:Gh}{Q:WK}{n:Str}{ws:List W}{v:W}(hm:∀ R:WK,R (.exa n ws) h→ma σ h R)(e:((tM n).zip ws).lookup f=some v)(k:Q v h):mXFld f ma σ h Q:=hm _ (by
 show (match ((tM n).zip ws).lookup f with
  | some v=>Q v h
  | none=>False)
 rw [e]
 exact k)
theorem nin_jmG {w:Str}{h:Gh}{Q:WK}(k:Q (.bl (decide (¬ (w = "join"∨w = "meet")))) h):kNin (.str w) (.tup [.str "join",.str "meet"]) h Q:=by
 show Q (.bl (!(([.str "join",.str "meet"]:List W).any fun z=>eqW z (.str w)))) h
 have e:(!(([.str "join",.str "meet"]:List W).any fun z=>eqW z (.str w)))=decide (¬ (w = "join"∨w = "meet")):=by
  rw [List.any_cons,List.any_cons,List.any_nil,uT,uT]
  by_cases h1:w = "join"
  ·subst h1;simp
  ·by_cases h2:w = "meet"
   ·subst h2;simp
   ·have n1:(("join" : Str)==w)=false:=beq_eq_false_iff_ne.mpr (Ne.symm h1)
    have n2:(("meet" : Str)==w)=false:=beq_eq_false_iff_ne.mpr (Ne.symm h2)
    rw [n1,n2]
    simp [h1,h2]
 rw [e]
 exact k
theorem vY {ma mb mc:ME}{σ : Sw}{h:Gh}{i:Int}{n:Nat}{Q:WK}(ha:∀ R:WK,R (.int 0) h→ma σ h R)(hb:∀ R:WK,R (.int i) h→mb σ h R)(hc:∀ R:WK,R (.int (n:Int)) h→mc σ h R)(k:Q (.bl (decide (0≤i∧i<(n:Int)))) h):j6 kLe kLt ma mb mc σ h Q:=by
 refine pQ (ha _ (hb _ (kLe_s ?_)))
 by_cases h0:0≤i
 ·rw [decide_eq_true h0]
  refine z9 (hc _ ?_)
  show Q (.bl (decide (i<(n:Int)))) h
  rw [show decide (i<(n:Int))=decide (0≤i∧i<(n:Int)) by simp [h0]]
  exact k
 ·rw [decide_eq_false h0]
  refine chnK_f ?_
  rw [show false=decide (0≤i∧i<(n:Int)) by simp [h0]]
  exact k
def AllQ (ts:List (Str×Tr)):Prop:=∀ x∈ts,Pl x.2∧SmT 133 x.2
def DueG (c0:MSp):Prop:=∀ {h:Gh} {t:Nat} {i j:Int} {w:Str} {ts:List (Str×Tr)} {Q:WK} {E:XWK},h.c t=some (.lst (ts.map thW))→AllQ ts→(nA ts w i j=false→Q .non h) →
 (nA ts w i j=true→∀ (a b:Nat) (p q u:Tr),(w = "join"∨w = "meet")→i=(a:Int)→j=(b:Int)→ts[a]?=some (need w,p)→ts[b]?=some (need w,q)→p≠q→Pl u→Par (crs p q) u→Q (thW (made w,u)) h)→c0 [stZ w i j,.loc t] h Q E
theorem fH {ts:List (Str×Tr)}{w:Str}{i j:Int}(h:∀ p q,(w = "join"∨w = "meet")→gT ts (need w) i=some p→gT ts (need w) j=some q→p=q):nA ts w i j=false:=by
 unfold nA
 split
 ·rename_i hw
  split
  ·rename_i p q e1 e2
   exact decide_eq_false (fun ne=>ne (h p q hw e1 e2))
  ·rfl
 ·rfl
theorem w_due3 {c0 c1:MSp}(hp:LpX c0)(hc:CrsOk c1):DueG (uM c0 c1):=by
 intro h t i j w ts Q E ht ap k0 k1
 have vt:=aW ht
 have vl:∀ R:WK,R (.int (ts.length:Int)) h→kLen [.loc t] h R:=fun R r=>dD vt (by rw [List.length_map];exact r)
 unfold stZ
 unfold uM
 rfl'
 refine nin_jmG ?_
 by_cases hw:w = "join"∨w = "meet"
 ·rw [decide_eq_false (fun z=>z hw)]
  rfl'
  refine vY (i:=i) (n:=ts.length) (fun R r=>r) (fun R r=>r) (fun R r=>vl R r) ?_
  by_cases hi:0≤i∧i<(ts.length:Int)
  ·rw [decide_eq_true hi]
   rfl'
   refine vY (i:=j) (n:=ts.length) (fun R r=>r) (fun R r=>r) (fun R r=>vl R r) ?_
   by_cases hj:0≤j∧j<(ts.length:Int)
   ·rw [decide_eq_true hj]
    obtain ⟨a,rfl⟩:=Int.eq_ofNat_of_zero_le hi.1
    obtain ⟨b,rfl⟩:=Int.eq_ofNat_of_zero_le hj.1
    obtain ⟨⟨ka,p⟩,ea⟩:∃ x,ts[a]?=some x:=⟨_,List.getElem?_eq_getElem (by omega)⟩
    obtain ⟨⟨kb,q⟩,eb⟩:∃ x,ts[b]?=some x:=⟨_,List.getElem?_eq_getElem (by omega)⟩
    have hiw:(ts.map thW)[a]?=some (thW (ka,p)):=by rw [List.getElem?_map,ea];rfl
    have hjw:(ts.map thW)[b]?=some (thW (kb,q)):=by rw [List.getElem?_map,eb];rfl
    have pp:=ap _ (List.mem_of_getElem? ea)
    have pq:=ap _ (List.mem_of_getElem? eb)
    have key:∀ (o:Option W) (D:bF),(D.rt=Q)→bw (gG (mOr (bx (mOp kNe (mOp kIx (mOp kIx (aC 1) (aC 3)) (mC (.int 0))) (mOp kIx (aC 5) (mC (.int 0))))) (mOr (bx (mOp kNe (mOp kIx (mOp kIx (aC 1) (aC 4)) (mC (.int 0))) (mOp kIx (aC 5) (mC (.int 0))))) (bx (mOp kEq (mOp kIx (mOp kIx (aC 1) (aC 3)) (mC (.int 1))) (mOp kIx (mOp kIx (aC 1) (aC 4)) (mC (.int 1))))))) (cN (mC .non)) cu) (lE c0 c1 E) D [some (.tup [.str w,.int (a:Int),.int (b:Int)]),some (.loc t),some (.str w),some (.int (a:Int)),some (.int (b:Int)),some (.lst [.str (need w),.str (made w)])] h:=by
     intro o D eD
     obtain ⟨D1,D2,D3,D4⟩:=D
     subst eD
     refine cD (mJ (mOr_s ?_))
     rfl'
     refine bV vt (aX hiw) ?_
     rfl'
     refine br_d (fun nk=>?_) (fun nk=>?_)
     ·rfl'
      refine k0 (fH fun p' q' _ e1 _=>?_)
      rw [lM ea nk] at e1
      cases e1
     ·have ek:ka=need w:=Classical.not_not.mp nk
      subst ek
      rfl'
      refine bV vt (aX hjw) ?_
      rfl'
      refine br_d (fun nk2=>?_) (fun nk2=>?_)
      ·rfl'
       refine k0 (fH fun p' q' _ _ e2=>?_)
       rw [lM eb nk2] at e2
       cases e2
      ·have ek2:kb=need w:=Classical.not_not.mp nk2
       subst ek2
       rfl'
       refine bV vt (aX hiw) ?_
       rfl'
       refine bV vt (aX hjw) ?_
       rfl'
       refine br_d (fun pe=>?_) (fun pe=>?_)
       ·rfl'
        refine k0 (fH fun p' q' _ e1 e2=>?_)
        rw [rY ea] at e1
        rw [rY eb] at e2
        cases e1
        cases e2
        exact pe
       ·rfl'
        unfold lE
        rfl'
        refine bV vt (aX hiw) ?_
        rfl'
        refine bV vt (aX hjw) ?_
        rfl'
        refine hc (m:=133) (by decide) pp.2 pq.2 ?_
        rfl'
        refine hp (m:=267) (crs_ne pp.1 pq.1 pe) (crs_sm pp.2 pq.2) (by decide) fun u pu par=>?_
        rfl'
        refine k1 ?_ a b p q u hw rfl rfl ea eb pe pu par
        unfold nA
        rw [if_pos hw,rY ea,rY eb]
        exact decide_eq_true pe
    rfl'
    unfold rR
    rfl'
    rcases hw with rfl | rfl
    ·refine yD (show decide (("join" : Str) = "meet")=false by decide +kernel) ?_
     rfl'
     unfold mH
     exact key none _ rfl
    ·refine br_t (show decide (("meet" : Str) = "meet")=true by decide +kernel) ?_
     rfl'
     unfold mH
     exact key none _ rfl
   ·rw [decide_eq_false hj]
    rfl'
    refine k0 (fH fun p q _ _ e2=>?_)
    obtain ⟨n,rfl,en⟩:=qx e2
    have:=(List.getElem?_eq_some_iff.mp en).1
    exact absurd ⟨Int.natCast_nonneg n,by omega⟩ hj
  ·rw [decide_eq_false hi]
   rfl'
   refine k0 (fH fun p q _ e1 _=>?_)
   obtain ⟨n,rfl,en⟩:=qx e1
   have:=(List.getElem?_eq_some_iff.mp en).1
   exact absurd ⟨Int.natCast_nonneg n,by omega⟩ hi
 ·rw [decide_eq_true hw]
  rfl'
  exact k0 (by unfold nA;rw [if_neg hw])
theorem mGetS_s {i:Nat}{a b c x:Str}{σ : Sw}{h:Gh}{Q:WK}(e:σ[i]?=some (some (.str x)))(k:Q (.str (if a=x then b else c)) h):xT i a b c σ h Q:=by
 unfold xT
 rw [e]
 exact k
theorem str_at {ss:List Str}{i:Int}(h0:0≤i)(h1:i<(ss.length:Int)):∃ s,atI (ss.map W.str) i=some (.str s):=by
 obtain ⟨n,rfl⟩:=Int.eq_ofNat_of_zero_le h0
 have hn:n<ss.length:=by omega
 exact ⟨ss[n],aX (by rw [List.getElem?_map,List.getElem?_eq_getElem hn];rfl)⟩
def nlW (ks:List Nat):List W:=ks.map fun x:Nat=>W.int (x:Int)
theorem nl_at {ks:List Nat}{i:Int}(h0:0≤i)(h1:i<(ks.length:Int)):∃ n:Nat,atI (nlW ks) i=some (.int (n:Int)):=by
 obtain ⟨n,rfl⟩:=Int.eq_ofNat_of_zero_le h0
 have hn:n<ks.length:=by omega
 exact ⟨ks[n],aX (by unfold nlW;rw [List.getElem?_map,List.getElem?_eq_getElem hn];rfl)⟩
theorem nl_nil {ks:List Nat}{h:Gh}{Q:WK}(hz:ks.length≤100)(k:Q (.bl (decide (ks=[]))) h):kEq (.lst (nlW ks)) (.lst []) h Q:=by
 have hp:plW 30 (.lst (nlW ks))=true:=by
  show (nlW ks).all (plW 29)=true
  rw [List.all_eq_true]
  intro w hw
  unfold nlW at hw
  obtain ⟨x,_,rfl⟩:=List.mem_map.mp hw
  rfl
 show by2 (plW 30 (.lst (nlW ks))&&plW 30 (.lst [])) (Q (.bl (eqW (.lst (nlW ks)) (.lst []))) h) False
 rw [hp]
 have e:eqW (.lst (nlW ks)) (.lst [])=decide (ks=[]):=by
  cases ks with
  | nil=>rw [eqW];rfl
  | cons a ks=>
   unfold nlW
   rw [List.map_cons,eqW]
   rw [iU] <;> simp
 rw [e]
 exact k
theorem wanted_s {b t:Nat}{ts:List (Str×Tr)}{w:Str}{h:Gh}{Q:WK}{r:List (Option W)}(ht:h.c t=some (.lst (ts.map thW)))(hl:ts.length≤100)(k:∀ ks:List Nat,ks.length≤100→Q (.lst (nlW ks)) h) :
  mLC ow1 [1,2] (nQ (aq (mCB kLen (aq (aC 1) aN)) aN)) (bx (mOp kEq (mOp kIx (mOp kIx (aC 1) (aC 0)) (mC (.int 0))) (xT 2 "meet" "line" "spot"))) (aC 0) (some (.loc b)::some (.loc t)::some (.str w)::r) h Q:=by
 refine mLC_s ?_
 rfl'
 refine dD (aW ht) ?_
 rfl'
 rw [List.length_map]
 refine rgK_s (m:=ts.length) (by omega) ?_
 refine kO.mk (by rw [List.length_map];unfold rng;rw [List.length_range'];exact Nat.le_trans (Nat.sub_le _ _) (Nat.le_trans hl (by decide))) ?_
 refine vW (fun i acc h'=>h'=h∧∃ ks:List Nat,acc=nlW ks∧ks.length≤i) ?_ ?_ ⟨rfl,[],rfl,Nat.le_refl _⟩
 ·rintro i x acc h' N hN e ⟨rfl,ks,rfl,hk⟩
  rw [List.getElem?_map] at e
  obtain ⟨m,em,rfl⟩:=Option.map_eq_some_iff.mp e
  obtain ⟨e1,e2⟩:=pF em
  obtain ⟨⟨kk,p⟩,ex⟩:∃ x,ts[m]?=some x:=⟨_,List.getElem?_eq_getElem e2⟩
  have hiw:(ts.map thW)[m]?=some (thW (kk,p)):=by rw [List.getElem?_map,ex];rfl
  refine ⟨[.int (m:Int)],rfl,?_⟩
  show bx _ [some (.int (m:Int)),some (.loc t),some (.str w)] h' _
  rfl'
  refine bV (aW ht) (aX hiw) ?_
  rfl'
  refine mGetS_s (x:=w) rfl ?_
  rfl'
  by_cases ek:kk=(if ("meet" : Str)=w then ("line" : Str) else ("spot" : Str))
  ·rw [show (decide ((kk,p).fst=if ("meet" : Str)=w then ("line" : Str) else ("spot" : Str)))=true from decide_eq_true ek]
   refine hN _ _ ⟨rfl,ks++[m],?_,by rw [List.length_append,List.length_singleton];omega⟩
   unfold nlW
   rw [List.map_append]
   rfl
  ·rw [show (decide ((kk,p).fst=if ("meet" : Str)=w then ("line" : Str) else ("spot" : Str)))=false from decide_eq_false ek]
   exact hN _ _ ⟨rfl,ks,rfl,by omega⟩
 ·rintro acc h' ⟨rfl,ks,rfl,hk⟩
  refine k ks (Nat.le_trans hk ?_)
  rw [List.length_map]
  unfold rng
  rw [List.length_range']
  omega
def StepG (c0:MSp):Prop:=∀ {h:Gh} {b t:Nat} {ts:List (Str×Tr)} {Q:WK} {E:XWK},Bag h b→h.c t=some (.lst (ts.map thW))→4≤ts.length→ts.length≤100→b≠t→b<h.nx→t<h.nx→(∀ w i j h',(∀ m,m<h.nx→m≠b→h'.c m=h.c m)→h.nx≤h'.nx→Q (stZ w i j) h')→c0 [.loc b,.loc t] h Q E
theorem w_step3 {c0:MSp}(hd:nZ c0):StepG (qF c0):=by
 intro h b t ts Q E bag ht l4 l100 bt bl tl k
 have vt:=aW ht
 have e4:∃ s:Str,atI ([.str "",.str "Join",.str "line",.str "spot"]:List W) ((ts.length:Int).fmod 4)=some (.str s):=by
  refine str_at (ss:=["", "Join", "line", "spot"]) ?_ ?_
  ·rw [dO (by decide)];exact Int.emod_nonneg _ (by decide)
  ·rw [dO (by decide)];exact Int.emod_lt_of_pos _ (by decide)
 obtain ⟨s4,e4⟩:=e4
 unfold qF
 rfl'
 refine dD vt ?_
 rfl'
 rw [List.length_map]
 refine kMod_s (by decide) ?_
 refine bV rfl e4 ?_
 rfl'
 refine hd bag (by decide) (by unfold Sm;decide) fun d1 h1 d0 d8 bag1 x1=>?_
 rfl'
 obtain ⟨w,ew⟩:=str_at (ss:=["join", "meet", "join", "meet", "join", "meet", "meet",s4]) d0 d8
 refine bV rfl ew ?_
 rfl'
 have ht1:=(x1.2 t (Ne.symm bt)).trans ht
 refine wanted_s ht1 l100 fun ks hk=>?_
 rfl'
 refine mU (ws:=[]) (fun R=>rfl) rfl fun h2 c2 o2 n2=>?_
 have bL:b≠h1.nx:=by rw [x1.1];exact Nat.ne_of_lt bl
 have tL:t≠h1.nx:=by rw [x1.1];exact Nat.ne_of_lt tl
 have bag2:Bag h2 b:=bag_of (o2 b bL) bag1
 have ht2:=(o2 t tL).trans ht1
 have oo:∀ m,m<h.nx→m≠b→h2.c m=h.c m:=fun m hm hb=>(o2 m (by rw [x1.1];exact Nat.ne_of_lt hm)).trans (x1.2 m hb)
 have nn:h.nx≤h2.nx:=by rw [n2,x1.1];exact Nat.le_succ _
 have hL:h.nx≤h1.nx:=Nat.le_of_eq x1.1.symm
 generalize h1.nx=L at *
 refine cY (xg (cD (oG (mD (lU (mC_s (mNil_s ?_)))))))
 refine rgK_s (m:=2) (by decide) (oN ?_)
 refine g8 (fun i σ h'=>∃ (ns:List Int) (a5:Option W),σ = [some (.loc b),some (.loc t),some (.str w),some (.lst (nlW ks)),some (.loc L),a5]∧Bag h' b∧h'.c L=some (.lst (ns.map W.int))∧ns.length=i∧h'.nx=h2.nx∧∀ m,m≠b→m≠L→h'.c m=h2.c m) ?_ ?_ ⟨[],none,rfl,bag2,c2,rfl,rfl,fun _ _ _=>rfl⟩
 ·rintro i x σ h3 N hN ex ⟨ns,a5,rfl,bag3,c3,hns,n3,o3⟩
  have hi2:i<2:=(List.getElem?_eq_some_iff.mp ex).1
  have ht3:=(o3 t (Ne.symm bt) tL).trans ht2
  have app:∀ {h4:Gh} {z:Int} {Q':WK},Bag h4 b→h4.c L=some (.lst (ns.map W.int))→h4.nx=h2.nx→(∀ m,m≠b→m≠L→h4.c m=h2.c m)→(∀ h5,(∃ (ns':List Int) (a5:Option W),[some (.loc b),some (.loc t),some (.str w),some (.lst (nlW ks)),some (.loc L),some x]=([some (.loc b),some (.loc t),some (.str w),some (.lst (nlW ks)),some (.loc L),a5]:Sw)∧Bag h5 b∧h5.c L=some (.lst (ns'.map W.int))∧ns'.length=i+1∧h5.nx=h2.nx∧∀ m,m≠b→m≠L→h5.c m=h2.c m)→Q' .non h5)→bQ (.loc L) [.int z] h4 Q':=by
   intro h4 z Q' bg cL nx oth kk
   refine app_b cL (by rw [List.length_map];omega) fun g gc go gn=>?_
   refine kk g ⟨ns++[z],_,rfl,bag_of (go b bL) bg,by rw [gc,List.map_append];rfl,by rw [List.length_append,List.length_singleton,hns],gn.trans nx,fun m mb mL=>(go m mL).trans (oth m mb mL)⟩
  rfl'
  refine hd bag3 (by decide) (by unfold Sm;decide) fun d2 h4 q0 q6 bag4 x4=>?_
  have c4:=(x4.2 L (Ne.symm bL)).trans c3
  have ht4:=(x4.2 t (Ne.symm bt)).trans ht3
  have o4:∀ m,m≠b→m≠L→h4.c m=h2.c m:=fun m mb mL=>(x4.2 m mb).trans (o3 m mb mL)
  have n4:=x4.1.trans n3
  rfl'
  have first:∀ D:bF,D.nx=N→fW (yr bQ (aC 4) (aq (mOp vO (bf c0 E (aq (aC 0) (aq (mOp gJ (mCB kLen (aq (aC 1) aN)) (mC (.int 5))) aN))) (mC (.int 2))) aN)) D [some (.loc b),some (.loc t),some (.str w),some (.lst (nlW ks)),some (.loc L),some x] h4:=by
   intro D eD
   refine fX (oY ?_)
   rfl'
   refine iH c4 ?_
   rfl'
   refine dD (aW ht4) ?_
   rfl'
   rw [List.length_map]
   refine hd bag4 (by omega) (by unfold Sm;omega) fun d3 h5 r0 r1 bag5 x5=>?_
   rfl'
   refine app bag5 ((x5.2 L (Ne.symm bL)).trans c4) (x5.1.trans n4) (fun m mb mL=>(x5.2 m mb).trans (o4 m mb mL)) fun h6 J=>?_
   rw [eD]
   exact hN _ _ J
  refine br_d (fun _=>?_) (fun _=>?_)
  ·rfl'
   exact first _ rfl
  ·rfl'
   refine nl_nil hk ?_
   rfl'
   refine br_d (fun _=>?_) (fun ne=>?_)
   ·rfl'
    exact first _ rfl
   ·have hk0:0<ks.length:=List.length_pos_iff.mpr ne
    refine fX (oY ?_)
    rfl'
    refine iH c4 ?_
    rfl'
    rw [show (nlW ks).length=ks.length by unfold nlW;rw [List.length_map]]
    refine hd bag4 (by omega) (by unfold Sm;omega) fun d3 h5 r0 r1 bag5 x5=>?_
    obtain ⟨z,ez⟩:=nl_at r0 r1
    rfl'
    refine bV rfl ez ?_
    rfl'
    refine app bag5 ((x5.2 L (Ne.symm bL)).trans c4) (x5.1.trans n4) (fun m mb mL=>(x5.2 m mb).trans (o4 m mb mL)) fun h6 J=>?_
    exact hN _ _ J
 ·rintro σ h3 ⟨ns,a5,rfl,bag3,c3,hns,n3,o3⟩
  match ns,hns with
  | [z1,z2],_=>
   unfold nW
   rfl'
   refine k w z1 z2 h3 (fun m hm mb=>(o3 m mb (Nat.ne_of_lt (Nat.lt_of_lt_of_le hm hL))).trans (oo m hm mb)) (by rw [n3];exact nn)
theorem take_snoc {α : Type}{l:List α}{n:Nat}{x:α}(e:l[n]?=some x):l.take n++[x]=l.take (n+1):=by
 rw [List.take_succ,e]
 rfl
def Wi (CB:Addr)(h0:Gh)(ts:List (Str×Tr))(ds:List (Str×Nat×Nat))(i:Nat)(h:Gh):Prop:=
 Brd CB h h0.nx (h0.nx+1) (h0.nx+2) (ts.take (i+4)) (ds.take i)∧h.nx=h0.nx+3∧∀ c,c<h0.nx→h.c c=h0.c c
theorem zx {CB:Addr}{c0:MSp}(ht:z8 CB c0){h0 h:Gh}{ts:List (Str×Tr)}{ds:List (Str×Nat×Nat)}{i:Nat}{s:Str×Nat×Nat}{Q:WK}{E:XWK}(K:Wk ts ds)(hl:ds.length≤100)(J:Wi CB h0 ts ds i h)(es:ds[i]?=some s)(k:∀ h',Wi CB h0 ts ds (i+1) h'→∀ w,Q w h'):c0 [.loc h0.nx,stW s] h Q E:=by
 obtain ⟨w,a,b⟩:=s
 obtain ⟨p,q,u,m,hw,ea,eb,ne,sp,sq,hm,pp,pq,pu,par,eu⟩:=K.get es
 have hln:=K.len
 refine ht J.1 (by rw [List.length_take];omega) (by rw [List.length_take];omega) hw ea eb ne pp pq sp sq hm fun u' h' pu' par' B' o nx=>?_
 have e:u'=u:=par_eq pu' pu par' par
 subst e
 refine k h' ⟨?_,nx.trans J.2.1,fun c hc=>(o c (by omega) (by omega)).trans (J.2.2 c hc)⟩ _
 rw [take_snoc eu,take_snoc es] at B'
 exact B'
theorem wi_0 {CB:Addr}{h0 h:Gh}{ts:List (Str×Tr)}{ds:List (Str×Nat×Nat)}(K:Wk ts ds)(B:Brd CB h h0.nx (h0.nx+1) (h0.nx+2) cor [])(nx:h.nx=h0.nx+3)(o:∀ c,c<h0.nx→h.c c=h0.c c):Wi CB h0 ts ds 0 h:=by
 refine ⟨?_,nx,o⟩
 rw [show ts.take (0+4)=cor from K.cor]
 exact B
def bdW (ds:List (Str×Nat×Nat))(k:Nat)(x:W):List W:=(ds.take k).map stW++[x]++(ds.drop k).map stW
theorem bd_lo {ds:List (Str×Nat×Nat)}{k i:Nat}{x:W}(hk:k≤ds.length)(h:i<k):(bdW ds k x)[i]?=(ds[i]?).map stW:=by
 unfold bdW
 have l1:(ds.take k).length=k:=by rw [List.length_take];omega
 rw [List.append_assoc,List.getElem?_append_left (by rw [List.length_map,l1];exact h),List.getElem?_map,List.getElem?_take_of_lt h]
theorem bd_at {ds:List (Str×Nat×Nat)}{k:Nat}{x:W}(hk:k≤ds.length):(bdW ds k x)[k]?=some x:=by
 unfold bdW
 have l1:(ds.take k).length=k:=by rw [List.length_take];omega
 rw [List.append_assoc,List.getElem?_append_right (by rw [List.length_map,l1];exact Nat.le_refl _),List.length_map,l1,Nat.sub_self]
 rfl
def WokX (CB:Addr)(c0:MSp):Prop:=∀ {h:Gh} {ts:List (Str×Tr)} {ds:List (Str×Nat×Nat)} {Q:WK} {E:XWK},Wk ts ds→ds.length≤90→(∀ h' L,h'.c L=some (.lst (ts.map thW))→h.nx≤L→L<h'.nx→h.nx≤h'.nx→(∀ c,c<h.nx→h'.c c=h.c c)→Q (.loc L) h')→c0 [.lst (ds.map stW)] h Q E
def WbaX (CB:Addr)(c0:MSp):Prop:=∀ {h:Gh} {ts:List (Str×Tr)} {ds:List (Str×Nat×Nat)} {k:Nat} {w:Str} {i j:Int} {Q:WK} {E:XWK},Wk ts ds→ds.length≤90→k≤ds.length→nA (ts.take (k+4)) w i j=false→(∀ h',(∀ c,c<h.nx→h'.c c=h.c c)→h.nx≤h'.nx→E ⟨"Stuck",[("at",.int (k:Int))]⟩ h')→c0 [.lst (bdW ds k (stZ w i j))] h Q E
theorem w_walkB {CB:Addr}{cin ctk cmn ckd ctl:MSp}(hi:BinX CB cin)(ht:z8 CB ctk)(hr:TakR CB ctk):WbaX CB (jg CB cin ctk cmn ckd ctl):=by
 intro h ts ds k w i j Q E K hl hk hf kx
 have hln:=K.len
 unfold jg
 rfl'
 refine mMake_s ?_
 rfl'
 refine hi (yW _ _) (Nat.lt_succ_self _) fun h1 B1 n1 o1=>⟨rfl,?_⟩
 have J:Wi CB h ts ds 0 h1:=wi_0 K B1.1 n1 fun c hc=>(o1 c (Nat.ne_of_lt hc) (Nat.lt_succ_of_lt hc)).trans (qX (Nat.ne_of_lt hc))
 refine cY (xg ?_)
 show bw _ _ _ [some (.lst (bdW ds k (stZ w i j))),some (.loc h.nx),none] h1
 refine cD (oG (nIt_s (vq rfl (iK_s rfl (oN ?_)))))
 refine g8 (fun n σ h'=>n≤k∧∃ a2,σ = [some (.lst (bdW ds k (stZ w i j))),some (.loc h.nx),a2]∧Wi CB h ts ds n h') ?_ ?_ ⟨Nat.zero_le _,none,rfl,J⟩
 ·rintro n x σ h2 N hN ex ⟨hn,a2,rfl,J2⟩
  refine cY ?_
  show fW _ _ [some (.lst (bdW ds k (stZ w i j))),some (.loc h.nx),some x] h2
  refine fX (mj ?_)
  rfl'
  refine sy J2.1.ob rfl ?_
  rfl'
  by_cases e:n=k
  ·subst e
   rw [bd_at hk] at ex
   cases ex
   refine hr J2.1 hf ?_
   have l1:(ds.take n).length=n:=by rw [List.length_take];omega
   rw [l1]
   exact kx h2 J2.2.2 (by rw [J2.2.1];omega)
  ·have hlt:n<k:=by omega
   rw [bd_lo hk hlt] at ex
   obtain ⟨s,es,rfl⟩:=Option.map_eq_some_iff.mp ex
   refine zx ht K (by omega) J2 es fun h3 J3 _=>?_
   exact hN _ _ ⟨hlt,_,rfl,J3⟩
 ·rintro σ h2 ⟨hn,_⟩
  unfold bdW at hn
  rw [List.length_append,List.length_append,List.length_map,List.length_map,List.length_take,List.length_drop,List.length_singleton] at hn
  omega
theorem w_walkG {CB:Addr}{cin ctk cmn ckd ctl:MSp}(hi:BinX CB cin)(ht:z8 CB ctk)(hm:ManX CB cmn)(hkd:KinX CB ckd)(htl:TolX CB ctl):WokX CB (jg CB cin ctk cmn ckd ctl):=by
 intro h ts ds Q E K hl k
 have hln:=K.len
 unfold jg
 rfl'
 refine mMake_s ?_
 rfl'
 refine hi (yW _ _) (Nat.lt_succ_self _) fun h1 B1 n1 o1=>⟨rfl,?_⟩
 have J:Wi CB h ts ds 0 h1:=wi_0 K B1.1 n1 fun c hc=>(o1 c (Nat.ne_of_lt hc) (Nat.lt_succ_of_lt hc)).trans (qX (Nat.ne_of_lt hc))
 refine cY (xg ?_)
 show bw _ _ _ [some (.lst (ds.map stW)),some (.loc h.nx),none] h1
 refine cD (oG (nIt_s (vq rfl (iK_s rfl (oN ?_)))))
 refine g8 (fun n σ h'=>∃ a2,σ = [some (.lst (ds.map stW)),some (.loc h.nx),a2]∧Wi CB h ts ds n h') ?_ ?_ ⟨none,rfl,J⟩
 ·rintro n x σ h2 N hN ex ⟨a2,rfl,J2⟩
  refine cY ?_
  show fW _ _ [some (.lst (ds.map stW)),some (.loc h.nx),some x] h2
  refine fX (mj ?_)
  rfl'
  refine sy J2.1.ob rfl ?_
  rfl'
  rw [List.getElem?_map] at ex
  obtain ⟨s,es,rfl⟩:=Option.map_eq_some_iff.mp ex
  refine zx ht K (by omega) J2 es fun h3 J3 _=>?_
  exact hN _ _ ⟨_,rfl,J3⟩
 ·rintro σ h2 ⟨a2,rfl,B2,n2,o2⟩
  rw [List.length_map] at B2
  rw [List.take_of_length_le (by omega),List.take_of_length_le (Nat.le_refl _)] at B2
  unfold oM
  refine xg (vR (mLCM_s (mLC_s (mD (lU (mj ?_))))))
  rfl'
  refine sy B2.ob rfl ?_
  rfl'
  refine hm B2 ?_
  rfl'
  refine rgK_s (m:=ts.length) (by omega) ?_
  refine kO.mk (by rw [List.length_map];unfold rng;rw [List.length_range'];exact Nat.le_trans (Nat.sub_le _ _) (Nat.le_trans (show ts.length≤100 by omega) (by decide))) ?_
  refine vW (fun i acc h'=>h'=h2∧acc=(ts.take i).map thW) ?_ ?_ ⟨rfl,rfl⟩
  ·rintro i x acc h' N hN e ⟨rfl,rfl⟩
   rw [List.getElem?_map] at e
   obtain ⟨m,em,rfl⟩:=Option.map_eq_some_iff.mp e
   obtain ⟨e1,e2⟩:=pF em
   obtain ⟨⟨kk,p⟩,ex⟩:∃ x,ts[m]?=some x:=⟨_,List.getElem?_eq_getElem e2⟩
   refine ⟨[.int (m:Int)],rfl,?_⟩
   refine (show by2 true (iG (aq (lG CB "kind" ckd EF (aC 1) (aq (aC 0) aN)) (aq (lG CB "told" ctl EF (aC 1) (aq (aC 0) aN)) aN)) [some (.int (m:Int)),some (.loc h.nx)] h' (fun v h2=>N ((ts.take i).map thW++[v]) h2)) (N ((ts.take i).map thW) h') from ?_)
   refine by2_t rfl ?_
   rfl'
   refine mj ?_
   rfl'
   refine sy B2.ob rfl ?_
   rfl'
   refine hkd B2 ex ?_
   rfl'
   refine mj ?_
   rfl'
   refine sy B2.ob rfl ?_
   rfl'
   refine htl B2 ex ?_
   rfl'
   refine hN _ _ ⟨rfl,?_⟩
   have em2:m=i:=by omega
   subst em2
   rw [←take_snoc ex,List.map_append]
   rfl
  ·rintro acc h' ⟨rfl,rfl⟩
   have hz:((rng 0 ts.length).map fun x:Nat=>W.int (x:Int)).length=ts.length:=by rw [List.length_map];unfold rng;rw [List.length_range'];omega
   rw [hz,List.take_of_length_le (Nat.le_refl _)]
   refine thaw_g fun g gc go gn=>?_
   refine k g _ gc (by omega) (by omega) (by omega) fun c hc=>(go c (by omega)).trans (o2 c hc)
def GoodG (c0:MSp):Prop:=∀ {h:Gh} {L T:Nat} {ts:List (Str×Tr)} {Q:WK} {E:XWK},h.c L=some (.lst (ts.map thW))→h.c T=some (.lst (ts.map thW))→ts.length≤100→Q (.bl true) h→c0 [.loc L,.loc T] h Q E
theorem w_good3 {c0:MSp}(hw:WhoI c0):GoodG (pZ c0):=by
 intro h L T ts Q E hL hT hl q
 have vL:=aW hL
 have vT:=aW hT
 unfold pZ
 rfl'
 refine kIsi_s (b:=true) (by simp only [isiW,fB,hL];rfl) ?_
 rfl'
 refine dD vL ?_
 rfl'
 refine dD vT ?_
 rfl'
 refine yD (decide_eq_false (fun z=>z rfl)) ?_
 refine tW (xg ?_)
 unfold n8
 refine cD (oG (mD (lU ?_)))
 rfl'
 refine dD vT ?_
 rfl'
 rw [List.length_map]
 refine rgK_s (m:=ts.length) (by omega) (oN ?_)
 refine g8 (fun i σ h'=>h'=h∧∃ a2,σ = [some (.loc L),some (.loc T),a2]) ?_ ?_ ⟨rfl,none,rfl⟩
 ·rintro i x σ h' N hN e ⟨rfl,a2,rfl⟩
  rw [List.getElem?_map] at e
  obtain ⟨m,em,rfl⟩:=Option.map_eq_some_iff.mp e
  obtain ⟨e1,e2⟩:=pF em
  obtain ⟨⟨kk,p1,p2,p3⟩,ex⟩:∃ x,ts[m]?=some x:=⟨_,List.getElem?_eq_getElem e2⟩
  have hiw:(ts.map thW)[m]?=some (thW (kk,(p1,p2,p3))):=by rw [List.getElem?_map,ex];rfl
  refine cY ?_
  show bw _ _ _ [some (.loc L),some (.loc T),some (.int (m:Int))] h'
  refine cD (mJ (mOr_s ?_))
  rfl'
  refine bV vL (aX hiw) ?_
  unfold thW
  rfl'
  refine bV vL (aX hiw) ?_
  rfl'
  refine bV vT (aX hiw) ?_
  refine zQ ?_
  rw [decide_eq_false (fun z=>z rfl)]
  rfl'
  refine bV vL (aX hiw) ?_
  unfold thW
  rfl'
  refine bV vL (aX hiw) ?_
  unfold thW
  rfl'
  refine hw ?_
  rfl'
  refine hw ?_
  rfl'
  refine hw ?_
  rfl'
  exact hN _ _ ⟨rfl,_,rfl⟩
 ·rintro σ h' ⟨rfl,a2,rfl⟩
  unfold oO
  rfl'
  exact q
theorem kList_l {us:List W}{h:Gh}{Q:WK}(x:Q (.lst us) h):yj [.lst us] h Q:=x
def RefB (c0:MSp):Prop:=∀ {h:Gh} {ts:List (Str×Tr)} {ds:List (Str×Nat×Nat)} {k:Nat} {w:Str} {i j:Int} {Q:WK} {E:XWK},Wk ts ds→ds.length≤90→k≤ds.length→nA (ts.take (k+4)) w i j=false→(∀ h',(∀ c,c<h.nx→h'.c c=h.c c)→h.nx≤h'.nx→Q (.bl true) h')→c0 [.lst (bdW ds k (stZ w i j)),.int (k:Int)] h Q E
theorem bd_self {ds:List (Str×Nat×Nat)}{k:Nat}{w:Str}{i j:Int}{h:Gh}{Q:WK}(q:Q (.bl true) h):kEq (.lst (bdW ds k (stZ w i j))) (.lst (bdW ds k (stZ w i j))) h Q:=by
 have pl:∀ l:List (Str×Nat×Nat),(l.map stW).all (plW 29)=true:=fun l=>by
  rw [List.all_eq_true]
  intro x hx
  obtain ⟨y,_,rfl⟩:=List.mem_map.mp hx
  rfl
 have hp:plW 30 (.lst (bdW ds k (stZ w i j)))=true:=by
  show (bdW ds k (stZ w i j)).all (plW 29)=true
  unfold bdW
  rw [List.all_append,List.all_append,pl,pl]
  rfl
 have app:∀ (a b:List W),iU a a=true→iU b b=true→iU (a++b) (a++b)=true:=by
  intro a b ha hb
  induction a with
  | nil=>exact hb
  | cons x a ih=>
   rw [iU,Bool.and_eq_true] at ha
   rw [List.cons_append,iU,Bool.and_eq_true]
   exact ⟨ha.1,ih ha.2⟩
 have he:eqW (.lst (bdW ds k (stZ w i j))) (.lst (bdW ds k (stZ w i j)))=true:=by
  rw [eqW]
  unfold bdW
  refine app _ _ (app _ _ (vg _) ?_) (vg _)
  simp [stZ,eqW,iU]
 show by2 (plW 30 (.lst (bdW ds k (stZ w i j)))&&plW 30 (.lst (bdW ds k (stZ w i j)))) (Q (.bl (eqW (.lst (bdW ds k (stZ w i j))) (.lst (bdW ds k (stZ w i j))))) h) False
 rw [hp,he]
 exact q
theorem w_refB {CB:Addr}{c0:MSp}(hr:WbaX CB c0):RefB (iu c0):=by
 intro h ts ds k w i j Q E K hl hk hf q
 unfold iu
 rfl'
 refine kList_l ?_
 refine cY (xg ?_)
 show bw _ _ _ [some (.lst (bdW ds k (stZ w i j))),some (.int (k:Int)),some (.lst (bdW ds k (stZ w i j))),none] h
 refine cD (mTry_s ?_)
 refine fX ?_
 rfl'
 refine hr K hl hk hf fun h1 o1 n1=>?_
 have q1:=q h1 o1 n1
 refine by2_t (show isX "Stuck" "EaselError" = true by decide +kernel) ?_
 have e0:excW ⟨"Stuck",[("at",.int (k:Int))]⟩=.exa "Stuck" [.int (k:Int)]:=rfl
 rw [e0]
 show bw _ _ _ [some (.lst (bdW ds k (stZ w i j))),some (.int (k:Int)),some (.lst (bdW ds k (stZ w i j))),some (.exa "Stuck" [.int (k:Int)])] h1
 refine cD (mJ (mOr_s ?_))
 rfl'
 refine xK_a' ?_
 rfl'
 refine yD (by decide +kernel) ?_
 rfl'
 refine xK_a' ?_
 rfl'
 refine xK_a' ?_
 rw [show isX "Stuck" "Stuck" = true by decide +kernel]
 rfl'
 refine mXFld_s (n := "Stuck") (ws:=[.int (k:Int)]) (v:=.int (k:Int)) (fun R r=>?_) rfl ?_
 ·rfl'
  exact r
 rfl'
 rw [decide_eq_true rfl]
 rfl'
 exact bd_self q1
theorem nl_mem {ks:List Nat}{i:Int}(h0:0≤i)(h1:i<(ks.length:Int)):∃ n,n∈ks∧atI (nlW ks) i=some (.int (n:Int)):=by
 obtain ⟨n,rfl⟩:=Int.eq_ofNat_of_zero_le h0
 have hn:n<ks.length:=by omega
 exact ⟨ks[n],List.getElem_mem hn,aX (by unfold nlW;rw [List.getElem?_map,List.getElem?_eq_getElem hn];rfl)⟩
theorem kind_s {ts:List (Str×Tr)}{K:Str}{a0:Option W}{h:Gh}{Q:WK}{r:List (Option W)}(hl:ts.length≤100)(h4:4≤ts.length)(k:∀ ks:List Nat,ks.length≤100→(∀ x∈ks,∃ p,ts[x]?=some (K,p))→((∃ p,ts[0]?=some (K,p))→ks≠[])→Q (.lst (nlW ks)) h) :
  mLC ow1 [1] (nQ (aq (aC 2) aN)) (bx (mOp kEq (mOp kIx (mOp kIx (aC 1) (aC 0)) (mC (.int 0))) (mC (.str K)))) (aC 0) (a0::some (.lst (ts.map thW))::some (.int (ts.length:Int))::r) h Q:=by
 refine mLC_s (mD (lU (vq rfl (mNil_s ?_))))
 refine rgK_s (m:=ts.length) (by omega) ?_
 have hz:((rng 0 ts.length).map fun x:Nat=>W.int (x:Int)).length=ts.length:=by rw [List.length_map];unfold rng;rw [List.length_range'];omega
 refine kO.mk (by rw [hz];exact Nat.le_trans hl (by decide)) ?_
 refine vW (fun i acc h'=>h'=h∧∃ ks:List Nat,acc=nlW ks∧ks.length≤i∧(∀ x∈ks,∃ p,ts[x]?=some (K,p))∧(0<i→(∃ p,ts[0]?=some (K,p))→ks≠[])) ?_ ?_ ⟨rfl,[],rfl,Nat.le_refl _,fun _ hx=>absurd hx List.not_mem_nil,fun z=>absurd z (Nat.lt_irrefl _)⟩
 ·rintro i x acc h' N hN e ⟨rfl,ks,rfl,hk,hm,hn⟩
  rw [List.getElem?_map] at e
  obtain ⟨m,em,rfl⟩:=Option.map_eq_some_iff.mp e
  obtain ⟨e1,e2⟩:=pF em
  obtain ⟨⟨kk,p⟩,ex⟩:∃ x,ts[m]?=some x:=⟨_,List.getElem?_eq_getElem e2⟩
  have hiw:(ts.map thW)[m]?=some (thW (kk,p)):=by rw [List.getElem?_map,ex];rfl
  refine ⟨[.int (m:Int)],rfl,?_⟩
  show bx _ [some (.int (m:Int)),some (.lst (ts.map thW))] h' _
  rfl'
  refine bV rfl (aX hiw) ?_
  rfl'
  by_cases ek:kk=K
  ·rw [show decide ((kk,p).fst=K)=true from decide_eq_true ek]
   refine hN _ _ ⟨rfl,ks++[m],?_,by rw [List.length_append,List.length_singleton];omega,fun y hy=>?_,fun _ _ z=>by simp at z⟩
   ·unfold nlW
    rw [List.map_append]
    rfl
   ·rcases List.mem_append.mp hy with hy | hy
    ·exact hm y hy
    ·rw [List.mem_singleton.mp hy]
     exact ⟨p,by rw [ex,ek]⟩
  ·rw [show decide ((kk,p).fst=K)=false from decide_eq_false ek]
   refine hN _ _ ⟨rfl,ks,rfl,by omega,hm,fun _ hp=>?_⟩
   by_cases i0:i=0
   ·obtain ⟨p',e0⟩:=hp
    have:m=0:=by omega
    subst this
    rw [ex] at e0
    cases e0
    exact absurd rfl ek
   ·exact hn (by omega) hp
 ·rintro acc h' ⟨rfl,ks,rfl,hk,hm,hn⟩
  rw [hz] at hk hn
  exact k ks (by omega) hm (hn (by omega))
def zW (s:Str×Int×Int):W:=stZ s.1 s.2.1 s.2.2
def BadG (c0:MSp):Prop:=∀ {h:Gh} {b:Nat} {ts:List (Str×Tr)} {p0:Tr} {Q:WK} {E:XWK},Bag h b→4≤ts.length→ts.length≤100→ts[0]?=some (("spot" : Str),p0)→(∀ w i j h',nA ts w i j=false→Bag h' b→Oth b h h'→Q (stZ w i j) h')→c0 [.loc b,.lst (ts.map thW)] h Q E
theorem bad9 {c0:MSp}(hd:nZ c0){E:XWK}{h h0:Gh}{b:Nat}{ts:List (Str×Tr)}{S:List (Str×Int×Int)}{Q:WK}{a1 a2 a3 a4 a5 a6 a7 a9:Option W}{D1 D3 D4:Sw→Gh→Prop}(bag:Bag h b)(o0:Oth b h0 h)(hS:S≠[])(hl:S.length≤20)(hf:∀ s∈S,nA ts s.1 s.2.1 s.2.2=false)(k:∀ w i j h',nA ts w i j=false→Bag h' b→Oth b h0 h'→Q (stZ w i j) h') :
  nu c0 E ⟨D1,Q,D3,D4⟩ [some (.loc b),a1,a2,a3,a4,a5,a6,a7,some (.lst (S.map zW)),a9] h:=by
 have hp:0<S.length:=List.length_pos_iff.mpr hS
 unfold nu
 rfl'
 rw [List.length_map]
 refine hd bag (by omega) (by unfold Sm;omega) fun d h1 d0 d1 bag1 o1=>?_
 obtain ⟨n,rfl⟩:=Int.eq_ofNat_of_zero_le d0
 have hn:n<S.length:=by omega
 rfl'
 refine bV (w:=zW S[n]) rfl (aX (by rw [List.getElem?_map,List.getElem?_eq_getElem hn];rfl)) ?_
 rfl'
 exact k _ _ _ h1 (hf _ (List.getElem_mem hn)) bag1 (o0.trans o1)
theorem can_w {ts:List (Str×Tr)}{w:Str}{i j:Int}(h1:w ≠ "join")(h2:w ≠ "meet"):nA ts w i j=false:=by
 unfold nA
 rw [if_neg (fun z=>z.elim h1 h2)]
theorem can_1 {ts:List (Str×Tr)}{w:Str}{i j:Int}(h:gT ts (need w) i=none):nA ts w i j=false:=fH fun p q _ e _=>by rw [h] at e;cases e
theorem can_2 {ts:List (Str×Tr)}{w:Str}{i j:Int}(h:gT ts (need w) j=none):nA ts w i j=false:=fH fun p q _ _ e=>by rw [h] at e;cases e
theorem can_3 {ts:List (Str×Tr)}{w:Str}{i:Int}:nA ts w i i=false:=fH fun p q _ e1 e2=>by rw [e1] at e2;cases e2;rfl
theorem nl_nilN {ks:List Nat}{h:Gh}{Q:WK}(k:Q (.bl (decide (ks≠[]))) h):kNe (.lst (nlW ks)) (.lst []) h Q:=by
 have hp:plW 30 (.lst (nlW ks))=true:=by
  show (nlW ks).all (plW 29)=true
  rw [List.all_eq_true]
  intro w hw
  unfold nlW at hw
  obtain ⟨x,_,rfl⟩:=List.mem_map.mp hw
  rfl
 show by2 (plW 30 (.lst (nlW ks))&&plW 30 (.lst [])) (Q (.bl (!eqW (.lst (nlW ks)) (.lst []))) h) False
 rw [hp]
 have e:(!eqW (.lst (nlW ks)) (.lst []))=decide (ks≠[]):=by
  cases ks with
  | nil=>rw [eqW];rfl
  | cons a ks=>
   unfold nlW
   rw [List.map_cons,eqW]
   rw [iU] <;> simp
 rw [e]
 exact k
theorem need_j:need "join" = "spot":=rfl
theorem need_m:need "meet" = "line":=by decide +kernel
theorem w_bad3 {c0:MSp}(hd:nZ c0):BadG (uU c0):=by
 intro h b ts p0 Q E bag l4 l100 e0 k
 unfold uU
 rfl'
 rw [List.length_map]
 refine kind_s l100 l4 fun ks lk mk nk=>?_
 have hk0:0<ks.length:=List.length_pos_iff.mpr (nk ⟨p0,e0⟩)
 rfl'
 refine kind_s l100 l4 fun ls ll ml _=>?_
 rfl'
 rw [show (nlW ks).length=ks.length by unfold nlW;rw [List.length_map]]
 refine hd bag (by omega) (by unfold Sm;omega) fun d1 h1 a0 a1 bag1 o1=>?_
 obtain ⟨s,ms,es⟩:=nl_mem a0 a1
 rfl'
 refine bV rfl es ?_
 rfl'
 rw [show (nlW ks).length=ks.length by unfold nlW;rw [List.length_map]]
 refine hd bag1 (by omega) (by unfold Sm;omega) fun d2 h2 b0 b1 bag2 o2=>?_
 obtain ⟨o,mo,eo⟩:=nl_mem b0 b1
 rfl'
 refine bV rfl eo ?_
 rfl'
 refine hd bag2 (by decide) (by unfold Sm;decide) fun d3 h3 c0' c1' bag3 o3=>?_
 rfl'
 refine hd bag3 (by decide) (by unfold Sm;decide) fun d4 h4 f0 f1 bag4 o4=>?_
 have o04:=((o1.trans o2).trans o3).trans o4
 rfl'
 obtain ⟨ps,es'⟩:=mk s ms
 have sl:gT ts (need "meet") (s:Int)=none:=by rw [need_m];exact lM es' (by decide +kernel)
 have far:∀ K,gT ts K ((ts.length:Int)+d3)=none:=fun K=>gT_far (by omega)
 have f7:∀ x∈([("joins",(s:Int),(o:Int)),("",(s:Int),(o:Int)),("join",(s:Int),(s:Int)),("join",-1 - d4,(s:Int)),("join",(s:Int),(ts.length:Int)+d3),("meet",(s:Int),(o:Int)),("meet",(ts.length:Int)+d3,(s:Int))]:List (Str×Int×Int)),nA ts x.1 x.2.1 x.2.2=false:=by
  intro x hx
  simp only [List.mem_cons,List.not_mem_nil,or_false] at hx
  rcases hx with rfl | rfl | rfl | rfl | rfl | rfl | rfl
  ·exact can_w (w := "joins") (by decide +kernel) (by decide +kernel)
  ·exact can_w (w := "") (by decide +kernel) (by decide +kernel)
  ·exact can_3
  ·exact can_1 (i:=-1 - d4) (gT_neg (by omega))
  ·exact can_2 (far _)
  ·exact can_1 sl
  ·exact can_1 (far _)
 refine nl_nilN ?_
 rfl'
 refine br_d (fun ne=>?_) (fun _=>?_)
 ·have hl0:0<ls.length:=List.length_pos_iff.mpr ne
  refine cD (lN ?_)
  rfl'
  rw [show (nlW ls).length=ls.length by unfold nlW;rw [List.length_map]]
  refine hd bag4 (by omega) (by unfold Sm;omega) fun d5 h5 g0 g1 bag5 o5=>?_
  obtain ⟨l,ml',el⟩:=nl_mem g0 g1
  obtain ⟨pl,el'⟩:=ml l ml'
  rfl'
  refine bV rfl el ?_
  rfl'
  have f4:∀ x∈([("join",(l:Int),(s:Int)),("join",(s:Int),(l:Int)),("meet",(l:Int),(s:Int)),("meet",(l:Int),(l:Int))]:List (Str×Int×Int)),nA ts x.1 x.2.1 x.2.2=false:=by
   have ls:gT ts (need "join") (l:Int)=none:=by rw [need_j];exact lM el' (by decide +kernel)
   intro x hx
   simp only [List.mem_cons,List.not_mem_nil,or_false] at hx
   rcases hx with rfl | rfl | rfl | rfl
   ·exact can_1 ls
   ·exact can_2 ls
   ·exact can_2 sl
   ·exact can_3
  refine bad9 (S:=([("joins",(s:Int),(o:Int)),("",(s:Int),(o:Int)),("join",(s:Int),(s:Int)),("join",-1 - d4,(s:Int)),("join",(s:Int),(ts.length:Int)+d3),("meet",(s:Int),(o:Int)),("meet",(ts.length:Int)+d3,(s:Int))]:List (Str×Int×Int))++([("join",(l:Int),(s:Int)),("join",(s:Int),(l:Int)),("meet",(l:Int),(s:Int)),("meet",(l:Int),(l:Int))]:List (Str×Int×Int))) hd bag5 (o04.trans o5) (by simp) (by simp) (fun x hx=>?_) k
  rcases List.mem_append.mp hx with hx | hx
  ·exact f7 x hx
  ·exact f4 x hx
 ·refine tW (xg ?_)
  exact bad9 (S:=[("joins",(s:Int),(o:Int)),("",(s:Int),(o:Int)),("join",(s:Int),(s:Int)),("join",-1 - d4,(s:Int)),("join",(s:Int),(ts.length:Int)+d3),("meet",(s:Int),(o:Int)),("meet",(ts.length:Int)+d3,(s:Int))]) hd bag4 o04 (by simp) (by simp) f7 k
theorem kMaxA_3 {a b c:Int}{h:Gh}{Q:WK}(k:∀ M:Int,a≤M→b≤M→c≤M→Q (.int M) h):kMaxA [.lst [.int a,.int b,.int c]] h Q:=by
 refine ⟨[a,b,c],rfl,by simp,fun M hM hA=>?_⟩
 exact k M (hA a (by simp)) (hA b (by simp)) (hA c (by simp))
theorem z7 {x M:Int}(h:(if x<0 then -x else x)≤M)(hM:M<10^40):Sm 133 x:=by
 unfold Sm
 have p:(10:Int)^40≤2^133:=by decide
 have q:((x.natAbs:Nat):Int)<2^133:=by
  have:((x.natAbs:Nat):Int)=if x<0 then -x else x:=by omega
  omega
 exact_mod_cast q
theorem cor_ap:AllQ cor:=by
 intro x hx
 unfold cor at hx
 simp only [List.mem_cons,List.not_mem_nil,or_false] at hx
 rcases hx with rfl | rfl | rfl | rfl
 ·exact ⟨pl0,(Sm.lit rfl).mono (by decide),(Sm.lit rfl).mono (by decide),(Sm.lit rfl).mono (by decide)⟩
 ·exact ⟨pl1,(Sm.lit rfl).mono (by decide),(Sm.lit rfl).mono (by decide),(Sm.lit rfl).mono (by decide)⟩
 ·exact ⟨pl2,(Sm.lit rfl).mono (by decide),(Sm.lit rfl).mono (by decide),(Sm.lit rfl).mono (by decide)⟩
 ·exact ⟨pl3,(Sm.lit rfl).mono (by decide),(Sm.lit rfl).mono (by decide),(Sm.lit rfl).mono (by decide)⟩
structure Jq (N:Nat) (ts:List (Str×Tr)) (ds:List (Str×Nat×Nat)) (h:Gh):Prop where
 th:h.c N=some (.lst (ts.map thW))
 dn:h.c (N+1)=some (.lst (ds.map stW))
 dl:N+1<h.nx
 ap:AllQ ts
 wk:Wk ts ds
theorem Jq.keep {N:Nat}{ts:List (Str×Tr)}{ds:List (Str×Nat×Nat)}{h h':Gh}(J:Jq N ts ds h)(o:∀ c,c<h.nx→h'.c c=h.c c)(nx:h.nx≤h'.nx):Jq N ts ds h':=
 ⟨(o _ (Nat.lt_of_succ_lt J.dl)).trans J.th,(o _ J.dl).trans J.dn,Nat.lt_of_lt_of_le J.dl nx,J.ap,J.wk⟩
set_option maxHeartbeats 8000000 in
theorem body31 {cbag cstep cdue:MSp}(hb:BagOk cbag)(hs:StepG cstep)(hdu:DueG cdue){E:XWK}{N:Nat}{ts:List (Str×Tr)}{ds:List (Str×Nat×Nat)}{h:Gh}{D:bF}{a0 a4 a5:Option W}{r:List (Option W)}{z:Int}(J:Jq N ts ds h)(hl:ds.length≤64)
  (k:∀ ts' ds' h' b4 b5,Jq N ts' ds' h'→ds'.length≤ds.length+1→D.nx (a0::some (.loc N)::some (.loc (N+1))::some (.int z)::b4::b5::r) h') :
  (bw (cj (bf cstep E (aq (bf cbag E (aq (aC 3) aN)) (aq (aC 1) aN))) (nName 4))
  (bw (cj (bf cdue E (aq (aC 4) (aq (aC 1) aN))) (nName 5))
  (gG (mAnd (bx (mOp kIsnt (aC 5) (mC .non))) (bx (mOp kLt (mCB kMaxA (aq (mLC ow1 [] (nIt (mOp kIx (aC 5) (mC (.int 1)))) yC (mCB kAbs (aq (aC 0) aN))) aN)) (mOp kPow (mC (.int 10)) (mC (.int 40)))))) (bw (fW (yr bQ (aC 1) (aq (aC 5) aN)))
  (fW (yr bQ (aC 2) (aq (aC 4) aN)))) cu))) D (a0::some (.loc N)::some (.loc (N+1))::some (.int z)::a4::a5::r) h:=by
 obtain ⟨D1,D2,D3,D4⟩:=D
 refine cD (lN ?_)
 rfl'
 refine hb fun h1 bag1 n1 o1=>?_
 have J1:Jq N ts ds h1:=J.keep (fun c hc=>o1 c (Nat.ne_of_lt hc)) (by rw [n1];exact Nat.le_succ _)
 rfl'
 have hln:=J.wk.len
 have tl:=Nat.lt_of_succ_lt J.dl
 refine hs bag1 J1.th (by omega) (by omega) (Nat.ne_of_gt tl) (by rw [n1];exact Nat.lt_succ_self _) (Nat.lt_of_succ_lt J1.dl) fun w i j h2 o2 n2=>?_
 have J2:Jq N ts ds h2:=J.keep (fun c hc=>(o2 c (by rw [n1];exact Nat.lt_succ_of_lt hc) (Nat.ne_of_lt hc)).trans (o1 c (Nat.ne_of_lt hc))) (Nat.le_trans (by rw [n1];exact Nat.le_succ _) n2)
 rfl'
 refine hdu J2.th J2.ap (fun cf=>?_) (fun ct a b p q u hw' ei ej ea eb ne pu par=>?_)
 ·refine cY (xg ?_)
  show gG _ _ _ _ (a0::some (.loc N)::some (.loc (N+1))::some (.int z)::some (stZ w i j)::some .non::r) h2
  refine mJ (mAnd_s ?_)
  rfl'
  refine (show br false _ _ from br_fs ?_)
  rfl'
  exact k ts ds h2 _ _ J2 (Nat.le_succ _)
 ·subst ei ej
  refine cY (xg ?_)
  show gG _ _ _ _ (a0::some (.loc N)::some (.loc (N+1))::some (.int z)::some (stZ w (a:Int) (b:Int))::some (thW (made w,u))::r) h2
  obtain ⟨u1,u2,u3⟩:=u
  refine mJ (mAnd_s ?_)
  rfl'
  refine (show br true _ _ from br_ts ?_)
  unfold thW
  rfl'
  refine kMaxA_3 fun M m1 m2 m3=>?_
  rfl'
  refine kPow_s ⟨by decide,by decide,by decide⟩ ?_
  rfl'
  refine br_d (fun lt=>?_) (fun _=>?_)
  ·have su:SmT 133 (u1,u2,u3):=⟨z7 m1 lt,z7 m2 lt,z7 m3 lt⟩
   have pp:=J.ap _ (List.mem_of_getElem? ea)
   have pq:=J.ap _ (List.mem_of_getElem? eb)
   refine cD (fX (oY ?_))
   rfl'
   refine iH J2.th ?_
   rfl'
   refine (show bQ (.loc N) [thW (made w,(u1,u2,u3))] h2 _ from ?_)
   refine app_b J2.th (by rw [List.length_map];omega) fun h4 c4 o4 n4=>?_
   have hL4:=(o4 (N+1) (by omega)).trans J2.dn
   rfl'
   refine oY ?_
   rfl'
   refine iH hL4 ?_
   rfl'
   refine (show bQ (.loc (N+1)) [stW (w,a,b)] h4 _ from ?_)
   refine app_b hL4 (by rw [List.length_map];omega) fun h5 c5 o5 n5=>?_
   have J5:Jq N (ts++[(made w,(u1,u2,u3))]) (ds++[(w,a,b)]) h5:={
    th:=by rw [o5 _ (by omega),c4,List.map_append];rfl
    dn:=by rw [c5,List.map_append];rfl
    dl:=by rw [n5,n4];exact J2.dl
    ap:=fun x hx=>by
     rcases List.mem_append.mp hx with hx | hx
     ·exact J.ap x hx
     ·rw [List.mem_singleton.mp hx]
      exact ⟨pu,su⟩
    wk:=J.wk.step (m:=133) hw' ea eb ne pp.1 pq.1 pp.2 pq.2 (by decide) pu par }
   exact k _ _ h5 _ _ J5 (by rw [List.length_append];exact Nat.le_refl _)
  ·rfl'
   exact k ts ds h2 _ _ J2 (Nat.le_succ _)
theorem cut_drop (us:List W)(k:Nat):sZ us (some (k:Int)) none=us.drop k:=by
 unfold sZ
 rw [HT.jH,HT.vG]
 by_cases h:k≤us.length
 ·rw [Nat.min_eq_left h,List.take_of_length_le (by rw [List.length_drop];exact Nat.le_refl _)]
 ·rw [Nat.min_eq_right (by omega),List.drop_length,List.drop_of_length_le (by omega)]
  simp
theorem sl_c {n:Nat}{ws:List W}{lo hi:Option Int}{h:Gh}{Q:WK}(e:h.c n=some (.lst ws))(x:Q (.lst (sZ ws lo hi)) h):kSl2 (.loc n) lo hi h Q:=by
 simp only [kSl2,fB,e]
 exact x
theorem sl_k {ws:List W}{lo hi:Option Int}{h:Gh}{Q:WK}(x:Q (.lst (sZ ws lo hi)) h):kSl2 (.kls ws) lo hi h Q:=x
theorem kNe_l1 {x:List (Str×Nat×Nat)}{b:Nat}{h:Gh}{Q:WK}(eb:h.c b=some (.lst (x.map stW)))(k:Q (.bl false) h):kNe (.lst (x.map stW)) (.loc b) h Q:=by
 have db:datW h (.loc b)=some (.lst (x.map stW)):=by simp only [datW,eb]
 unfold kNe
 rw [db]
 exact kNe_st k
theorem mBMr0_s {r:MM}{mo:ME}{σ : Sw}{h:Gh}{Q:WK}(x:mo σ h fun x h1=>qw h1 x (r x [] h1 Q)):mBMr0 r mo σ h Q:=x
theorem clr3 {h:Gh}{n:Nat}{us:List W}{Q:WK}(e:h.c n=some (.lst us))(k:∀ g:Gh,g.nx=h.nx→(∀ m,m≠n→g.c m=h.c m)→Q .non g):qw h (.loc n) (oH (.loc n) [] h Q):=by
 refine iH e ?_
 simp only [oH,e]
 exact k _ rfl fun m hm=>vX hm
theorem kList_c {n:Nat}{us:List W}{h:Gh}{Q:WK}(e:h.c n=some (.lst us))(x:Q (.lst us) h):yj [.loc n] h Q:=by
 show (match view h (.loc n) with
  | some us=>Q (.lst us) h
  | none=>False)
 rw [aW e]
 exact x
set_option maxHeartbeats 8000000 in
theorem tail31 {CB:Addr}{cwk ccl cbag cdr cst cdu cbad cgood cref:MSp}(hwk:WokX CB cwk)(hcl:uI ccl)(hb:BagOk cbag)(hd:nZ cdr)(hbd:BadG cbad)(hg:GoodG cgood)(hr:RefB cref){E:XWK}{N:Nat}{ts:List (Str×Tr)}{ds:List (Str×Nat×Nat)}{h:Gh}{ns:List Int}{a3 a4 a5 a6 a7 a8 a9 a10:Option W}(J:Jq N ts ds h)(hl:ds.length≤64) :
  uR cwk ccl cbag cdr cst cdu cbad cgood cref E { nx:=fun _ _=>W.non=.bl true,rt:=fun w _=>w=.bl true } [some (.kls (ns.map W.int)),some (.loc N),some (.loc (N+1)),a3,a4,a5,a6,a7,a8,a9,a10] h:=by
 have hln:=J.wk.len
 unfold uR
 rfl'
 refine kList_c J.dn ?_
 rfl'
 refine hwk J.wk (by omega) fun h1 L c1 L1 L2 n1 o1=>?_
 have J1:=J.keep o1 n1
 rfl'
 refine hg c1 J1.th (by omega) ?_
 rfl'
 refine kNe_l1 J1.dn ?_
 rfl'
 unfold zF
 refine cD (fX (mBMr0_s ?_))
 rfl'
 refine clr3 c1 fun h2 n2 o2=>?_
 have J2:Jq N ts ds h2:=⟨(o2 _ (by have:=J.dl;omega)).trans J1.th,(o2 _ (by have:=J.dl;omega)).trans J1.dn,by rw [n2];exact J1.dl,J.ap,J.wk⟩
 rfl'
 refine hcl (by decide) ?_
 rfl'
 refine hb fun h3 bag3 n3 o3=>?_
 have J3:Jq N ts ds h3:=J2.keep (fun c hc=>o3 c (Nat.ne_of_lt hc)) (by rw [n3];exact Nat.le_succ _)
 have bn:N+1<h2.nx:=J2.dl
 have bl3:h2.nx<h3.nx:=by rw [n3];exact Nat.lt_succ_self _
 generalize h2.nx=b at *
 rfl'
 refine dD (aW J3.dn) ?_
 rfl'
 rw [List.length_map]
 refine hd bag3 (by omega) (by unfold Sm;omega) fun d h4 d0 d1 bag4 o4=>?_
 obtain ⟨k,rfl⟩:=Int.eq_ofNat_of_zero_le d0
 have hk:k≤ds.length:=by omega
 have J4:Jq N ts ds h4:=⟨(o4.2 _ (by omega)).trans J3.th,(o4.2 _ (by omega)).trans J3.dn,by rw [o4.1];exact J3.dl,J.ap,J.wk⟩
 rfl'
 refine lR ?_
 rfl'
 refine sl_c J4.th ?_
 rw [show (4:Int)+(k:Int)=((k+4:Nat):Int) by omega,vQ,←List.map_take]
 rfl'
 have c0:(ts.take (k+4))[0]?=some (("spot" : Str),((0,0,1):Tr)):=by
  rw [List.getElem?_take_of_lt (by omega)]
  exact J.wk.at (i:=0) rfl
 refine hbd bag4 (by rw [List.length_take];omega) (by rw [List.length_take];omega) c0 fun w i j h5 hf bag5 o5=>?_
 have J5:Jq N ts ds h5:=⟨(o5.2 _ (by omega)).trans J4.th,(o5.2 _ (by omega)).trans J4.dn,by rw [o5.1];exact J4.dl,J.ap,J.wk⟩
 rfl'
 refine lR ?_
 rfl'
 refine sl_c J5.dn ?_
 rw [vQ,←List.map_take]
 rfl'
 refine tO (Nat.ble_eq.mpr (by rw [List.length_map,List.length_take,List.length_singleton];omega)) ?_
 rfl'
 refine lR ?_
 refine sl_c J5.dn ?_
 rw [cut_drop,←List.map_drop]
 refine tO (Nat.ble_eq.mpr (by rw [List.length_append,List.length_map,List.length_map,List.length_take,List.length_drop,List.length_singleton];omega)) ?_
 rfl'
 refine hr (ds:=ds) (k:=k) (w:=w) (i:=i) (j:=j) J.wk (by omega) hk hf fun h6 o6 n6=>?_
 have J6:=J5.keep o6 n6
 rfl'
 unfold vJ
 rfl'
 refine hwk J.wk (by omega) fun h7 L' c7 _ _ n7 o7=>?_
 have J7:=J6.keep o7 n7
 rfl'
 refine hg c7 J7.th (by omega) ?_
 rfl
set_option maxHeartbeats 8000000 in
theorem w_law31 {CB:Addr}{cwk ccl cbag cdr cst cdu cbad cgood cref:MSp}(hwk:WokX CB cwk)(hcl:uI ccl)(hb:BagOk cbag)(hd:nZ cdr)(hs:StepG cst)(hdu:DueG cdu)(hbd:BadG cbad)(hg:GoodG cgood)(hr:RefB cref)(ns:List Int)(hn:ns.length≤63) :
  r_law cwk ccl cbag cdr cst cdu cbad cgood cref [.kls (ns.map W.int)] g0 (fun w _=>w=.bl true) EF:=by
 unfold r_law
 rfl'
 refine mU (ws:=cor.map thW) (fun R=>rfl) rfl fun h3 c3 o3 n3=>?_
 generalize g0.nx=N at *
 rfl'
 refine mU (ws:=[]) (fun R=>rfl) rfl fun h4 c4 o4 n4=>?_
 rw [n3] at c4 o4 n4 ⊢
 have J:Jq N cor [] h4:=⟨(o4 _ (by omega)).trans c3,c4,by omega,cor_ap,Wk.nil⟩
 refine cY (xg (cD (oG (nIt_s (mSl_s ?_)))))
 rfl'
 refine sl_k ?_
 refine iK_s rfl (oN ?_)
 obtain ⟨ms,ec,hms⟩:∃ ms:List Int,sZ (ns.map W.int) (some 1) (some 41)=ms.map W.int∧ms.length≤63:=by
  have e1:=HT.jH (ns.map W.int).length 0 1
  have e2:=HT.jH (ns.map W.int).length (ns.map W.int).length 41
  refine ⟨(ns.drop (min 1 (ns.map W.int).length)).take (min 41 (ns.map W.int).length - min 1 (ns.map W.int).length),?_,?_⟩
  ·unfold sZ
   rw [show (some (1:Int))=some ((1:Nat):Int) from rfl,show (some (41:Int))=some ((41:Nat):Int) from rfl,HT.jH,HT.jH,List.map_take,List.map_drop]
  ·rw [List.length_take,List.length_drop]
   omega
 rw [ec]
 refine g8 (fun i σ h'=>∃ ts ds a3 a4 a5,σ = [some (.kls (ns.map W.int)),some (.loc N),some (.loc (N+1)),a3,a4,a5,none,none,none,none,none]∧Jq N ts ds h'∧ds.length≤i) ?_ ?_ ⟨cor,[],none,none,none,rfl,J,Nat.le_refl _⟩
 ·rintro i x σ h5 N' hN ex ⟨ts,ds,a3,a4,a5,rfl,J5,hl⟩
  have hi40:=(List.getElem?_eq_some_iff.mp ex).1
  rw [List.length_map] at hi40
  rw [List.getElem?_map] at ex
  obtain ⟨z,ez,rfl⟩:=Option.map_eq_some_iff.mp ex
  refine cY ?_
  refine body31 hb hs hdu J5 (by omega) fun ts' ds' h' b4 b5 J' hl'=>?_
  exact hN _ _ ⟨ts',ds',_,_,_,rfl,J',by omega⟩
 ·rintro σ h5 ⟨ts,ds,a3,a4,a5,rfl,J5,hl⟩
  rw [List.length_map] at hl
  exact tail31 (CB:=CB) hwk hcl hb hd hbd hg hr J5 (by omega)
theorem law_ok (C_Board:Addr)(ns:List Int)(hn:ns.length≤63):m_law C_Board [.kls (ns.map W.int)] g0 (fun w _=>w=.bl true) EF:=by
 have pl:PlnL mY:=w_pplainL (w_divisor w_two) w_endsL
 have pc:JoinOk bJ:=w_pcross pl w_cross
 have cg:CanG cA:=w_canG (w_isnumG isw_i)
 have tk:z8 C_Board (dM C_Board):=w_take3 (w_can (w_isnum isw_i)) (w_made5 (w_join pc) (w_meet pc))
 have tr:TakR C_Board (dM C_Board):=w_takeR cg
 exact w_law31 (CB:=C_Board) (w_walkG uY tk w_many3 w_kind3 w_told3) w_cell5 w_bag5 Am (w_step3 Am) (w_due3 w_lplain5 zp) (w_bad3 Am) (w_good3 yI) (w_refB (CB:=C_Board) (w_walkB uY tk tr)) ns hn
end My
def PySem.W.Fast.tw4885909874835419861:Unit:=()
def PySem.W.Fast.tw17322525918488947494:Unit:=()
def PySem.W.Fast.tw3792594387827337151:Unit:=()
def PySem.W.Fast.tw8394698502600195311:Unit:=()
def PySem.W.Fast.tw14890948692887941231:Unit:=()
def PySem.W.Fast.tw17456519956343073195:Unit:=()
def PySem.W.Fast.tw1395194789003028312:Unit:=()
def PySem.W.Fast.tw13333305537285704541:Unit:=()
def PySem.W.Fast.tw3119594945557317092:Unit:=()
def PySem.W.Fast.tw4655869396244192563:Unit:=()
def PySem.W.Fast.tw6157856192232005302:Unit:=()
def PySem.W.Fast.tw14981233537980280181:Unit:=()
def PySem.W.Fast.tw5577407139717935285:Unit:=()
def PySem.W.Fast.tw2865136895406466866:Unit:=()
def PySem.W.Fast.tw17855906557936452815:Unit:=()
def PySem.W.Fast.tw8128159270978096241:Unit:=()
def PySem.W.Fast.tw5858008447271475706:Unit:=()
def PySem.W.Fast.tw918843815551103897:Unit:=()
def PySem.W.Fast.tw9750675452280661998:Unit:=()
def PySem.W.Fast.tw12460302347233432811:Unit:=()
def PySem.W.Fast.tw12775027799160246504:Unit:=()
def PySem.W.Fast.tw2446340224854292427:Unit:=()
open PySem PySem.W PyProof.Rows
set_option maxRecDepth 100000 in
set_option maxHeartbeats 0 in
theorem PySem.Challenge.cw_easelroom_k31_steps_walked_holds : PySem.Challenge.rw_easelroom_k31_steps_walked.Holds := by
 w_on;o_law;k_head;(case hw=>w_witness2)
 k_fill
 refine My.walk (l:=PySem.Challenge.rw_easelroom_k31_steps_walked) rfl rfl (fun w h Y=>PySem.W.kIn_of Y) ?F
 case F=>
  intro w mg fa h KX G hmg
  refine' My.all_mk My.law_ok KX G hmg ?gc_Board ?pg_Board ?hd_Board ?po_Board ?sa_Board ?mc_Board ?kc_Board ?na_Board_things ?na_Board_done ?a0 ?l0 ?c0 ?k0 ?a1 ?l1 ?c1 ?k1 ?a2 ?l2 ?c2 ?k2 ?a3 ?l3 ?c3 ?k3 ?a4 ?l4 ?c4 ?k4 ?a5 ?l5 ?c5 ?k5 ?a6 ?l6 ?c6 ?k6 ?a7 ?l7 ?c7 ?k7 ?a8 ?l8 ?c8 ?k8 ?a9 ?l9 ?c9 ?k9 ?a10 ?l10 ?c10 ?k10 ?a11 ?l11 ?c11 ?k11 ?a12 ?l12 ?c12 ?k12 ?fn12 ?a13 ?l13 ?c13 ?k13 ?fn13 ?a14 ?l14 ?c14 ?k14 ?fn14 ?a15 ?l15 ?c15 ?k15 ?fn15 ?a16 ?l16 ?c16 ?k16 ?fn16 ?a17 ?l17 ?c17 ?k17 ?a18 ?l18 ?c18 ?k18 ?a19 ?l19 ?c19 ?k19 ?a20 ?l20 ?c20 ?k20 ?a21 ?l21 ?c21 ?k21 ?a22 ?l22 ?c22 ?k22 ?a23 ?l23 ?c23 ?k23 ?a24 ?l24 ?c24 ?k24 ?a25 ?l25 ?c25 ?k25 ?a26 ?l26 ?c26 ?k26 ?a27 ?l27 ?c27 ?k27 ?a28 ?l28 ?c28 ?k28 ?a29 ?l29 ?c29 ?k29 ?z_ValueError ?z_abs ?z_all ?z_bool ?z_int ?z_isinstance ?z_len ?z_list ?z_max ?z_range ?z_reversed ?z_str ?z_tuple ?gk_CORNERS ?lk_CORNERS ?lk_CORNERS_0 ?lk_CORNERS_1 ?lk_CORNERS_2 ?lk_CORNERS_3 ?gk_NEEDED ?sk_NEEDED ?lk_NEEDED ?gx_EaselError ?xd_EaselError ?gx_Nothing ?xd_Nothing ?gx_Alike ?xd_Alike ?gx_Stuck ?xd_Stuck ?gx_NotOnEdge ?xd_NotOnEdge ?gx_Tied ?xd_Tied ?gx_NoText ?xd_NoText ?ai_Stuck ?li_Stuck ?ci_Stuck ?ki_Stuck ?xi_Stuck ?xf_Stuck ?xa_Stuck ?xs_Stuck
  (case gc_Board | pg_Board | hd_Board | po_Board | sa_Board | mc_Board | kc_Board | na_Board_things | na_Board_done | a0 | l0 | c0 | k0 | a1 | l1 | c1 | k1 | a2 | l2 | c2 | k2 | a3 | l3 | c3 | k3 | a4 | l4 | c4 | k4 | a5 | l5 | c5 | k5 | a6 | l6 | c6 | k6 | a7 | l7 | c7=>k_is)
  (case k7 | a8 | l8 | c8 | k8 | a9 | l9 | c9 | k9 | a10 | l10 | c10 | k10 | a11 | l11 | c11 | k11 | a12 | l12 | c12 | k12 | fn12 | a13 | l13 | c13 | k13 | fn13 | a14 | l14 | c14 | k14 | fn14 | a15 | l15 | c15 | k15 | fn15 | a16 | l16 | c16=>k_is)
  (case k16 | fn16 | a17 | l17 | c17 | k17 | a18 | l18 | c18 | k18 | a19 | l19 | c19 | k19 | a20 | l20 | c20 | k20 | a21 | l21 | c21 | k21 | a22 | l22 | c22 | k22 | a23 | l23 | c23 | k23 | a24 | l24 | c24 | k24 | a25 | l25 | c25 | k25 | a26 | l26=>k_is)
  (case c26 | k26 | a27 | l27 | c27 | k27 | a28 | l28 | c28 | k28 | a29 | l29 | c29 | k29 | z_ValueError | z_abs | z_all | z_bool | z_int | z_isinstance | z_len | z_list | z_max | z_range | z_reversed | z_str | z_tuple | gk_CORNERS | lk_CORNERS | lk_CORNERS_0 | lk_CORNERS_1 | lk_CORNERS_2 | lk_CORNERS_3 | gk_NEEDED=>k_is)
  (case sk_NEEDED=>rfl)
  (case lk_NEEDED | gx_EaselError=>k_is)
  (case xd_EaselError=>kernel_rfl)
  (case gx_Nothing=>k_is)
  (case xd_Nothing=>kernel_rfl)
  (case gx_Alike=>k_is)
  (case xd_Alike=>kernel_rfl)
  (case gx_Stuck=>k_is)
  (case xd_Stuck=>kernel_rfl)
  (case gx_NotOnEdge=>k_is)
  (case xd_NotOnEdge=>kernel_rfl)
  (case gx_Tied=>k_is)
  (case xd_Tied=>kernel_rfl)
  (case gx_NoText=>k_is)
  (case xd_NoText=>kernel_rfl)
  (case ai_Stuck | li_Stuck | ci_Stuck | ki_Stuck=>k_is)
  (case xi_Stuck | xf_Stuck | xa_Stuck | xs_Stuck=>kernel_rfl)
