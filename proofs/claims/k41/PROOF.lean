import PyProof.Rows.All
import Wide.All
import OpenK.AllK
import Wide.FinOn
import Lean
import PyProof.EqAt
import PyProof.EqKinds
import PyProof.TupleCall
import PySem.Challenge.RW_easelroom_k41_through_five
set_option Elab.async false
set_option linter.all false
set_option maxRecDepth 100000
namespace L2
open PySem PySem.Spec PyProof.Rows
abbrev Key:=Sum Int Str
def keyIs:Key→Value→Bool
 | .inl k,v=>Value.isInt k v
 | .inr x,v=>Value.isStrOf x v
def keyH (w:World):Key→Int
 | .inl k=>hashInt k
 | .inr x=>hashStr w x
theorem bM:∀ {k:Key} {v:Value},keyIs k v=true→(∃ i t,k=Sum.inl i∧v=Value.int i t)∨(∃ x t,k=Sum.inr x∧v=Value.str x t)
 | .inl i,v,h=>by
  obtain ⟨t,e⟩:=Value.isInt_shape (k:=i) (v:=v) h
  exact .inl ⟨i,t,rfl,e⟩
 | .inr x,v,h=>by
  obtain ⟨t,e⟩:=Value.isStrOf_shape (x:=x) (v:=v) h
  exact .inr ⟨x,t,rfl,e⟩
theorem key_ll (a b:Int):decide ((Sum.inl a:Key)=Sum.inl b)=(a==b):=by
 by_cases e:a=b
 ·subst e;simp
 ·have h:¬ (Sum.inl a:Key)=Sum.inl b:=fun q=>e (Sum.inl.inj q)
  rw [decide_eq_false h]
  exact (beq_eq_false_iff_ne.mpr e).symm
theorem key_rr (a b:Str):decide ((Sum.inr a:Key)=Sum.inr b)=decide (a=b):=by
 by_cases e:a=b
 ·subst e;simp
 ·have h:¬ (Sum.inr a:Key)=Sum.inr b:=fun q=>e (Sum.inr.inj q)
  rw [decide_eq_false h,decide_eq_false e]
theorem key_lr (a:Int)(b:Str):decide ((Sum.inl a:Key)=Sum.inr b)=false:=decide_eq_false (fun q=>nomatch q)
theorem key_rl (a:Str)(b:Int):decide ((Sum.inr a:Key)=Sum.inl b)=false:=decide_eq_false (fun q=>nomatch q)
def vO (prog:Program)(w:World):PySem.KeyKind prog w Key where
 is:=keyIs
 hash:=keyH w
 inj:=fun v a b ha hb=>by
  rcases bM ha with ⟨i,t,rfl,rfl⟩ | ⟨x,t,rfl,rfl⟩
  ·rcases bM hb with ⟨j,u,rfl,e⟩ | ⟨y,u,rfl,e⟩
   ·injection e with e1 _;rw [e1]
   ·exact nomatch e
  ·rcases bM hb with ⟨j,u,rfl,e⟩ | ⟨y,u,rfl,e⟩
   ·exact nomatch e
   ·injection e with e1 _;rw [e1]
 byValue:=fun k v h=>by
  rcases bM h with ⟨i,t,rfl,rfl⟩ | ⟨x,t,rfl,rfl⟩ <;> rfl
 pyHash:=fun hv h=>by
  rcases bM hv with ⟨i,t,rfl,rfl⟩ | ⟨x,t,rfl,rfl⟩
  ·exact wpAny_pyHash_int h
  ·exact wpAny_pyHash_str h
 eqBool:=fun hu hv h=>by
  rcases bM hu with ⟨i,t,rfl,rfl⟩ | ⟨x,t,rfl,rfl⟩
  ·rcases bM hv with ⟨j,u,rfl,rfl⟩ | ⟨y,u,rfl,rfl⟩
   ·rw [key_ll] at h;exact wpAny_eqBool_int h
   ·rw [key_lr] at h;exact SeqAt.EqAt.int_str i t y u _ _ _ _ h
  ·rcases bM hv with ⟨j,u,rfl,rfl⟩ | ⟨y,u,rfl,rfl⟩
   ·rw [key_rl] at h;exact SeqAt.EqAt.str_int x t j u _ _ _ _ h
   ·rw [key_rr] at h;exact wpAny_eqBool_str h
 «strs»:=fun k x t v h=>by
  rcases bM h with ⟨i,u,rfl,e⟩ | ⟨y,u,rfl,e⟩
  ·exact nomatch e
  ·injection e with e1 _
   subst e1
   cases v <;> rfl
end L2
namespace L2
open PySem PySem.Spec PyProof.Rows
inductive V where
 | non | bl (b:Bool) | int (i:Int) | str (x:Str) | byt (b:Array UInt8) | flt (b:UInt64) | ref (a:Addr) | ty (n:String)
 deriving DecidableEq
def RelV:V→Value→Prop
 | .non,u=>u=Value.none
 | .bl b,u=>u=Value.bool b
 | .int i,u=>∃ t,u=Value.int i t
 | .str x,u=>∃ t,u=Value.str x t
 | .byt b,u=>∃ t,u=Value.bytes b t
 | .flt b,u=>∃ t,u=Value.float b t
 | .ref a,u=>u=Value.ref a
 | .ty n,u=>u=Value.type n
abbrev Vals:List V→List Value→Prop:=Paired RelV
theorem Vals.length {xs:List V}{us:List Value}(r:Vals xs us):xs.length=us.length:=Paired.length r
theorem Vals.get:∀ {xs:List V} {us:List Value} {i:Nat} {x:V},Vals xs us→xs[i]?=some x→∃ u,us[i]?=some u∧RelV x u
 | _,_,_,_,.nil,e=>by simp at e
 | _,_,0,_,.cons r _,e=>by simp at e;subst e;exact ⟨_,rfl,r⟩
 | _,_,i+1,x,.cons _ t,e=>by
  obtain ⟨u,h1,h2⟩:=Vals.get (i:=i) (x:=x) t (by simpa using e)
  exact ⟨u,by simpa using h1,h2⟩
theorem Vals.set {x:V}{u:Value}(r:RelV x u):∀ {xs:List V} {us:List Value} (i:Nat),Vals xs us→Vals (xs.set i x) (us.set i u)
 | _,_,_,.nil=>.nil
 | _,_,0,.cons _ t=>.cons r t
 | _,_,i+1,.cons q t=>.cons q (Vals.set r i t)
theorem Vals.append:∀ {xs ys:List V} {us ws:List Value},Vals xs us→Vals ys ws→Vals (xs++ys) (us++ws)
 | _,_,_,_,.nil,s=>s
 | _,_,_,_,.cons r t,s=>.cons r (Vals.append t s)
theorem Vals.take:∀ {xs:List V} {us:List Value} (n:Nat),Vals xs us→Vals (xs.take n) (us.take n)
 | _,_,0,_=>.nil
 | _,_,_+1,.nil=>.nil
 | _,_,n+1,.cons r t=>.cons r (Vals.take n t)
theorem Vals.drop:∀ {xs:List V} {us:List Value} (n:Nat),Vals xs us→Vals (xs.drop n) (us.drop n)
 | _,_,0,r=>r
 | _,_,_+1,.nil=>.nil
 | _,_,n+1,.cons _ t=>Vals.drop n t
def RelO:Option V→Option Value→Prop
 | some v,some u=>RelV v u
 | none,none=>True
 | _,_=>False
def KV {κ : Type}:List (κ×V)→List (κ×Value)→Prop:=Paired fun (p:κ×V) (q:κ×Value)=>p.1=q.1∧RelV p.2 q.2
def kV:Key→V
 | .inl i=>.int i
 | .inr x=>.str x
inductive HO where
 /-- a list -/
 | lst (xs:List V)
 /-- a tuple (never changes) -/
 | tup (xs:List V)
 /-- a dict whose keys are ints and texts; one whose keys are tuples of ints and texts (the empty one is both) -/
 | dK (kvs:List (Key×V)) | dT (kvs:List (List Key×V))
 /-- a set of ints: its members, its size -/
 | set (S:Int→Bool) (n:Nat)
 /-- an instance of the class at C, its dict at dx, its attributes -/
 | ins (C dx:Addr) (fs:List (Str×V))
 /-- the dict of the instance at x -/
 | own (x:Addr)
 /-- the dict of an exception -/
 | xd (fs:List (Str×V))
 /-- a bound method, f of x -/
 | met (f x:Addr)
 /-- a range object lo, lo + 1, .. below hi -/
 | rng (lo hi:Int)
 /-- a thing that is known to the object (the script; a dict while a loop walks it): read, never written while it is so -/
 | frz (o:Obj) (u:HO)
 /-- a code object's table -/
 | tbl (ps:Array Value)
 /-- any other thing, by what is true of its one object (a def of one's own: SetO a S n := HO.ext fun h => ..) -/
 | ext (φ : Heap→Prop)
abbrev Hp:=Addr→Option HO
def upd (H:Hp)(a:Addr)(o:HO):Hp:=fun b=>if b=a then some o else H b
theorem aR {H:Hp}{a:Addr}{o:HO}:upd H a o a=some o:=by unfold upd;rw [if_pos rfl]
theorem aG {H:Hp}{a b:Addr}{o:HO}(h:b≠a):upd H a o b=H b:=by unfold upd;rw [if_neg h]
theorem aM {H:Hp}{a b:Addr}{o:HO}(h:H a=some o)(h':H b=none):a≠b:=by
 intro e;subst e;rw [h] at h';cases h'
section
variable (P:Program)(w:World)
def fB (H:Hp)(h:Heap)(a:Addr):HO→Prop
 | .lst xs=>xs.length≤sizeLine∧∃ (its:List Value) (n:Nat),Vals xs its∧h.get? a=some { cls:=.type "list",data:=.seq its.toArray n }
 | .tup xs=>xs.length≤sizeLine∧∃ its:List Value,Vals xs its∧IsTup h a its.toArray
 | .dK kvs=>kvs.length≤sizeLine∧(a==sysModules)=false∧∃ vs,KV kvs vs∧h.DictOf (vO P w) a vs
 | .dT kvs=>kvs.length≤sizeLine∧(a==sysModules)=false∧∃ xs:List (List Key×Addr×Value),
   Paired (fun (p:List Key×V) (q:List Key×Addr×Value)=>p.1=q.1∧H q.2.1=some (.tup (p.1.map kV))∧RelV p.2 q.2.2) kvs xs ∧
   ∃ o es ep,h.get? a=some o∧o.ExactDict∧o.data=.dict es ep∧es.toList=xs.map (entryOfKey (tupleKind (vO P w)))∧(xs.map (·.1)).Nodup
 | .set S n=>h.SetOf (intKind P w) a S n
 | .ins C dx fs=>H dx=some (.own a)∧fs.length≤1000∧dx≠a∧h.get? a=some (PySem.W.instObj C dx) ∧
   ∃ mA,h.Ns1 dx mA∧(∀ f,RelO (fs.lookup f) (mA f))∧PySem.Within mA (fs.map (·.1))
 | .own _=>∃ o,h.get? a=some o
 | .xd fs=>∃ mA,h.Ns1 a mA∧∀ f,RelO (fs.lookup f) (mA f)
 | .rng lo hi=>∃ t u v,h.get? a=some { cls:=.type "range",data:=.fields #[.int lo t,.int hi u,.int 1 v] }
 | .frz o u=>h.get? a=some o∧fB H h a u
 | .tbl ps=>h.get? a=some { cls:=.none,data:=.fields ps }
 | .met f x=>h.get? a=some (PySem.W.methodObj (.ref f) (.ref x))
 | .ext φ=>φ h∧(∃ o,h.get? a=some o)∧∀ h1 h2:Heap,φ h1→(∀ o,h1.get? a=some o→h2.get? a=some o)→φ h2
def HOk (H:Hp)(h:Heap):Prop:=∀ a o,H a=some o→fB P w H h a o
end
section
variable {P:Program}{w:World}{H H':Hp}{h h':Heap}{a:Addr}{o:HO}
theorem fB.lt (x:fB P w H h a o):a<h.objs.size:=by
 cases o with
 | lst xs=>obtain ⟨_,_,_,_,e⟩:=x;exact Heap.lt_size e
 | tup xs=>obtain ⟨_,_,_,p⟩:=x;exact p.lt
 | dK kvs=>obtain ⟨_,_,_,_,o,_,_,e,_⟩:=x;exact Heap.lt_size e
 | dT kvs=>obtain ⟨_,_,_,_,o,_,_,e,_⟩:=x;exact Heap.lt_size e
 | set S n=>obtain ⟨o,_,_,_,e,_⟩:=x;exact Heap.lt_size e
 | ins C dx fs=>obtain ⟨_,_,_,e,_⟩:=x;exact Heap.lt_size e
 | own y=>obtain ⟨_,e⟩:=x;exact Heap.lt_size e
 | xd fs=>obtain ⟨_,⟨_,_,_,e,_⟩,_⟩:=x;exact Heap.lt_size e
 | rng lo hi=>obtain ⟨_,_,_,e⟩:=x;exact Heap.lt_size e
 | frz ob u=>obtain ⟨e,_⟩:=x;exact Heap.lt_size e
 | tbl ps=>exact Heap.lt_size (show h.get? a=some _ from x)
 | met f y=>exact Heap.lt_size (show h.get? a=some _ from x)
 | ext φ=>obtain ⟨_,⟨_,e⟩,_⟩:=x;exact Heap.lt_size e
theorem Paired.mapP {α β : Type}{F G:α→β→Prop}:∀ {l₁ : List α} {l₂ : List β},Paired F l₁ l₂→(∀ a b,F a b→G a b)→Paired G l₁ l₂
 | _,_,.nil,_=>.nil
 | _,_,.cons r t,f=>.cons (f _ _ r) (Paired.mapP t f)
theorem fB.stay (x:fB P w H h a o)(k:∀ b u,(b=a∨H b=some (.own a))→h.get? b=some u→h'.get? b=some u)
  (ho:∀ b,H b=some (.own a)→H' b=some (.own a)) (ht:∀ b xs,H b=some (.tup xs)→H' b=some (.tup xs)):fB P w H' h' a o:=by
 induction o with
 | lst xs=>obtain ⟨z,its,n,r,e⟩:=x;exact ⟨z,its,n,r,k _ _ (.inl rfl) e⟩
 | tup xs=>obtain ⟨z,its,r,ob,e,c⟩:=x;exact ⟨z,its,r,ob,k _ _ (.inl rfl) e,c⟩
 | dK kvs=>obtain ⟨z,y,vs,r,ob,es,ep,e,c⟩:=x;exact ⟨z,y,vs,r,ob,es,ep,k _ _ (.inl rfl) e,c⟩
 | dT kvs=>
  obtain ⟨z,y,xs,r,ob,es,ep,e,c⟩:=x
  exact ⟨z,y,xs,Paired.mapP r fun p q z=>⟨z.1,ht _ _ z.2.1,z.2.2⟩,ob,es,ep,k _ _ (.inl rfl) e,c⟩
 | set S n=>obtain ⟨ob,es,ep,t,e,c⟩:=x;exact ⟨ob,es,ep,t,k _ _ (.inl rfl) e,c⟩
 | ins C dx fs=>
  obtain ⟨d,z,ne,e,mA,⟨od,es,ep,e2,c⟩,r⟩:=x
  exact ⟨ho _ d,z,ne,k _ _ (.inl rfl) e,mA,⟨od,es,ep,k _ _ (.inr d) e2,c⟩,r⟩
 | own y=>obtain ⟨ob,e⟩:=x;exact ⟨ob,k _ _ (.inl rfl) e⟩
 | xd fs=>obtain ⟨mA,⟨od,es,ep,e,c⟩,r⟩:=x;exact ⟨mA,⟨od,es,ep,k _ _ (.inl rfl) e,c⟩,r⟩
 | rng lo hi=>obtain ⟨t,u,v,e⟩:=x;exact ⟨t,u,v,k _ _ (.inl rfl) e⟩
 | frz ob u ih=>obtain ⟨e,q⟩:=x;exact ⟨k _ _ (.inl rfl) e,ih q⟩
 | tbl ps=>
  have e:h.get? a=some { cls:=.none,data:=.fields ps }:=x
  show h'.get? a=some { cls:=.none,data:=.fields ps }
  exact k a _ (.inl rfl) e
 | met f y=>
  have e:h.get? a=some (PySem.W.methodObj (.ref f) (.ref y)):=x
  show h'.get? a=some (PySem.W.methodObj (.ref f) (.ref y))
  exact k a _ (.inl rfl) e
 | ext φ=>obtain ⟨p,⟨o,e⟩,st⟩:=x;exact ⟨st _ _ p fun o q=>k _ _ (.inl rfl) q,⟨o,k _ _ (.inl rfl) e⟩,st⟩
theorem HOk.lt (x:HOk P w H h)(e:H a=some o):a<h.objs.size:=(x a o e).lt
theorem HOk.fresh (x:HOk P w H h)(e:h.objs.size≤a):H a=none:=by
 cases q:H a with
 | none=>rfl
 | some u=>exact absurd (Nat.lt_of_lt_of_le (x.lt q) e) (Nat.lt_irrefl _)
theorem HOk.kept (x:HOk P w H h)(k:∀ b u,h.get? b=some u→h'.get? b=some u):HOk P w H h':=fun a o e=>
 (x a o e).stay (fun b u _ q=>k b u q) (fun _ q=>q) fun _ _ q=>q
theorem HOk.laid (x:HOk P w H h)(k:∀ b u,h.get? b=some u→h'.get? b=some u)(hp:h.objs.size≤a)(new:fB P w (upd H a o) h' a o):HOk P w (upd H a o) h':=fun b u e=>by
 have hn:=x.fresh hp
 by_cases hb:b=a
 ·subst hb;rw [aR] at e;cases e;exact new
 ·rw [aG hb] at e
  exact (x b u e).stay (fun c v _ q=>k c v q) (fun c q=>by rw [aG (aM q hn)];exact q) fun c xs q=>by rw [aG (aM q hn)];exact q
end
def Rd (H:Hp)(a:Addr)(u:HO):Prop:=H a=some u∨∃ o,H a=some (.frz o u)
theorem Rd.ok {P:Program}{w:World}{H:Hp}{h:Heap}{a:Addr}{u:HO}(r:Rd H a u)(x:HOk P w H h):fB P w H h a u:=by
 rcases r with r | ⟨o,r⟩
 ·exact x a u r
 ·obtain ⟨_,q⟩:=x a _ r
  exact q
def Mut:Option HO→Prop
 | some (.lst _)=>True
 | some (.dK _)=>True
 | some (.dT _)=>True
 | some (.set _ _)=>True
 | some (.ins _ _ _)=>True
 | some (.ext _)=>True
 | _=>False
section
variable {P:Program}{w:World}{H:Hp}{h h':Heap}{x e:Addr}{o':HO}
theorem HOk.write (ok:HOk P w H h)(mu:Mut (H x))(he:e=x∨H e=some (.own x))(k:∀ b u,b≠e→h.get? b=some u→h'.get? b=some u)(heo:∃ u,h'.get? e=some u)
  (new:fB P w (upd H x o') h' x o'):HOk P w (upd H x o') h':=fun b u q=>by
 have nown:∀ c y,H c=some (.own y)→c≠x:=fun c y r z=>by subst z;rw [r] at mu;exact mu
 have ntup:∀ c xs,H c=some (.tup xs)→c≠x:=fun c xs r z=>by subst z;rw [r] at mu;exact mu
 by_cases hb:b=x
 ·subst hb;rw [aR] at q;cases q;exact new
 ·rw [aG hb] at q
  by_cases hbe:b=e
  ·have q':H b=some (.own x):=by
    rcases he with z | z
    ·exact absurd (hbe.trans z) hb
    ·rw [hbe];exact z
   rw [q] at q';cases q'
   obtain ⟨v,hv⟩:=heo
   exact ⟨v,by rw [hbe];exact hv⟩
  ·refine (ok b u q).stay (fun c v hc r=>k c v ?_ r) (fun c r=>by rw [aG (nown c b r)];exact r) fun c xs r=>by rw [aG (ntup c xs r)];exact r
   rcases hc with rfl | hc
   ·exact hbe
   ·rintro rfl
    rcases he with z | z
    ·exact nown c b hc z
    ·rw [hc] at z;cases z;exact hb rfl
end
structure Un (fs ex:List Addr) (H H':Hp) (h h':Heap):Prop where
 keep:∀ b o,h.get? b=some o→H b=none→b∉fs→b∉ex→h'.get? b=some o
 slot:∀ b o,h.get? b=some o→H b=none→b∈fs→b∉ex→∃ sl,h'.get? b=some { o with slots:=sl }
 free:∀ b o,h.get? b=some o→H b=none→b∉ex→H' b=none
 there:∀ b o,h.get? b=some o→b∉ex→∃ o',h'.get? b=some o'
 tups:∀ b xs,H b=some (.tup xs)→H' b=some (.tup xs)
 frzs:∀ b o u,H b=some (.frz o u)→H' b=some (.frz o u)
 tbls:∀ b ps,H b=some (.tbl ps)→∃ more,H' b=some (.tbl (ps++more))
section
variable {fs fs' ex ex':List Addr}{H H1 H2:Hp}{h h1 h2 h':Heap}{a x e:Addr}{o:HO}
theorem Un.any (u:Un fs ex H H1 h h1){b:Addr}{ob:Obj}(q:h.get? b=some ob)(n:H b=none)(hx:b∉ex):∃ sl,h1.get? b=some { ob with slots:=sl }:=by
 by_cases hb:b∈fs
 ·exact u.slot b ob q n hb hx
 ·exact ⟨ob.slots,u.keep b ob q n hb hx⟩
theorem Un.kept (k:∀ b u,h.get? b=some u→h'.get? b=some u):Un fs ex H H h h':=
 ⟨fun b ob q _ _ _=>k b ob q,fun b ob q _ _ _=>⟨ob.slots,k b ob q⟩,fun _ _ _ n _=>n,fun b ob q _=>⟨ob,k b ob q⟩,fun _ _ q=>q,fun _ _ _ q=>q,fun _ ps q=>⟨#[],by rw [q];simp⟩⟩
theorem Un.refl:Un fs ex H H h h:=Un.kept fun _ _ q=>q
theorem Un.laid (k:∀ b u,h.get? b=some u→h'.get? b=some u)(hp:h.objs.size≤a)(hn:H a=none):Un fs ex H (upd H a o) h h' where
 keep:=fun b u q _ _ _=>k b u q
 slot:=fun b u q _ _ _=>⟨u.slots,k b u q⟩
 free:=fun b u q n _=>by rw [aG (Nat.ne_of_lt (Nat.lt_of_lt_of_le (Heap.lt_size q) hp))];exact n
 there:=fun b u q _=>⟨u,k b u q⟩
 tups:=fun b xs q=>by rw [aG (aM q hn)];exact q
 frzs:=fun b u xs q=>by rw [aG (aM q hn)];exact q
 tbls:=fun b ps q=>⟨#[],by rw [aG (aM q hn),q];simp⟩
theorem Un.write (mu:Mut (H x))(he:e=x∨H e=some (.own x))(k:∀ b u,b≠e→h.get? b=some u→h'.get? b=some u)(heo:∃ u,h'.get? e=some u):Un fs ex H (upd H x o) h h':=by
 have hx:∀ b,H b=none→b≠x:=fun b n z=>by subst z;rw [n] at mu;exact mu
 have hb:∀ b,H b=none→b≠e:=fun b n z=>by
  subst z
  rcases he with r | r
  ·exact hx b n r
  ·rw [n] at r;cases r
 have hm:∀ b u,H b=some u→¬ Mut (some u)→b≠x:=fun b u q nm z=>by subst z;rw [q] at mu;exact nm mu
 refine ⟨fun b u q n _ _=>k b u (hb b n) q,fun b u q n _ _=>⟨u.slots,k b u (hb b n) q⟩,fun b u q n _=>by rw [aG (hx b n)];exact n,fun b u q _=>?_,
  fun b xs q=>by rw [aG (hm b _ q fun z=>z)];exact q,fun b u xs q=>by rw [aG (hm b _ q fun z=>z)];exact q,fun b ps q=>⟨#[],by rw [aG (hm b _ q fun z=>z),q];simp⟩⟩
 by_cases hbe:b=e
 ·subst hbe;exact heo
 ·exact ⟨u,k b u hbe q⟩
end
def trk (h:Heap)(H:Hp):List Addr:=(List.range h.objs.size).filter fun a=>(H a).isSome
def hidT (h:Heap)(H:Hp):Heap:=PySem.W.hideAll h (trk h H)
theorem hidT_size (h:Heap)(H:Hp):(hidT h H).objs.size=h.objs.size:=PySem.W.hideAll_size _ _
theorem hidT_get {h:Heap}{H:Hp}{b:Addr}{o:Obj}(e:h.get? b=some o)(n:H b=none):(hidT h H).get? b=some o:=
 PySem.W.hideAll_get _ e fun hm=>by
  have q:(H b).isSome=true:=(List.mem_filter.mp hm).2
  rw [n] at q;simp at q
theorem of_hidT {h:Heap}{H:Hp}{b:Addr}{o:Obj}(e:(hidT h H).get? b=some o):h.get? b=some o∧H b=none:=by
 have e':h.get? b=some o:=PySem.W.of_hideAll (trk h H) e
 refine ⟨e',?_⟩
 cases q:H b with
 | none=>rfl
 | some x=>
  have hm:b∈trk h H:=List.mem_filter.mpr ⟨List.mem_range.mpr (Heap.lt_size e'),by simp [q]⟩
  have z:(hidT h H).get? b=none:=PySem.W.hideAll_none (trk h H) hm
  rw [z] at e;cases e
def allNews (g h:Heap)(L:Addr):List (Addr×Obj):=(List.range h.objs.size).filterMap fun a=>if a=L∨(g.get? a).isSome=true then none else (h.get? a).map fun o=>(a,o)
def rest (g h:Heap)(L d:Addr):List (Addr×Obj):=(allNews g h L).filter fun p=>decide (p.1≠d)
end L2
namespace L2
open PySem PySem.Spec PyProof.Rows
structure Mod (K:PySem.W.Frag) (mg:Str→Option Value) (base:Heap):Prop where
 kin:K.In base
 glob:base.Ns mainGlobals mg
 blt:∃ mb,base.Ns builtinsNs mb∧∀ x:Str,x ≠ "__name__"→mb x=bootBuiltins x
 nolimit:base.NoLimit
structure Cx where
 prog:Program
 w:World
 K:PySem.W.Frag
 mg:Str→Option Value
 base:Heap
 A:Around
 N:List Str
 s₀ : Shared
 H₀ : Hp
 env:Env
 outer:List Env
 stack:List Env
 ex:List Addr
 fn:Str→Bool
 calm:Bool
 pn:List (Addr×Obj)
 xe:Value→Shared→Prop
def frs (l:List Env):List Addr:=l.filterMap (·.frame)
abbrev Cx.fs (X:Cx):List Addr:=frs X.outer
def Vis (sc:Scope)(x:Str):Prop:=sc.names.lookup x=some .local∨sc.names.lookup x=some .cell∨sc.names.lookup x=some .free
def Loc (sc:Scope)(x:Str):Prop:=sc.names.lookup x=some .local∨sc.names.lookup x=some .cell
def Look (env:Env)(h:Heap)(m:Str→Option Value)(x:Str)(u:Value):Prop:=
 (env.kindOf x=some .local∧m x=some u)∨((env.kindOf x=some .cell∨env.kindOf x=some .free)∧∃ c,env.cells.lookup x=some c∧h.IsCell c (some u))
def Still (H:Hp)(v:Value):Prop:=∃ (a:Addr) (o:Obj) (u:HO) (vs:Array Value),v=.ref a∧H a=some (.frz o u)∧o.data=.fields vs∧vs[2]?=some .none
def Quiet (A:Around)(H:Hp):Prop:=∀ v,A.handled=some v→Still H v
structure Cx.Ok (X:Cx):Prop where
 mod:Mod X.K X.mg X.base
 kind:X.env.scope.kind=.function
 glob:X.env.globals=mainGlobals
 blt:X.env.builtins=builtinsNs
 above:X.s₀.heap.objs.size≤X.env.locals
 inj:∀ x y c,X.env.cells.lookup x=some c→X.env.cells.lookup y=some c→x=y
 has:∀ x,(X.env.kindOf x=some .cell∨X.env.kindOf x=some .free)→∃ c,X.env.cells.lookup x=some c
 cab:∀ x c,X.fn x=true→X.env.cells.lookup x=some c→X.s₀.heap.objs.size≤c
 hd:X.calm=true→X.A.handled=none
 qt:Quiet X.A X.H₀
 frames:X.A.frames=some X.stack
 stk:X.stack=X.outer∨(X.stack=X.env::X.outer∧X.env.frame=some X.env.locals)
 exf:∀ b∈X.ex,b≠X.env.locals∧∀ x c,X.env.cells.lookup x=some c→c≠b
 bs:∀ b o,X.base.get? b=some o→X.s₀.heap.get? b=some o∧X.H₀ b=none
 bsz:X.base.objs.size≤X.s₀.heap.objs.size
 noex:∀ b o,X.base.get? b=some o→b∉X.ex
 exfs:∀ b∈X.ex,b∉X.fs
 funs:X.s₀.heap.FunFrames X.base X.outer
 frf:∀ b∈X.fs,X.H₀ b=none
structure Inv (X:Cx) (pins:List (Addr×Obj)) (σ : List (Option V)) (H:Hp) (s:Shared):Prop where
 ok:X.Ok
 os:s.os=X.s₀.os
 bare:AllBare s.gens
 base:Un X.fs X.ex X.H₀ H X.s₀.heap s.heap
 loc:∃ m,s.heap.Ns X.env.locals m∧∀ (i:Nat) (x:Str) (v:V),X.N[i]?=some x→σ[i]?=some (some v)→Vis X.env.scope x→∃ u,RelV v u∧Look X.env s.heap m x u
 cell:∀ x c,X.env.cells.lookup x=some c→∃ v,s.heap.IsCell c v
 free:H X.env.locals=none
 freeC:∀ x c,X.env.cells.lookup x=some c→H c=none
 pin:∀ p∈X.pn++pins,s.heap.get? p.1=some p.2∧H p.1=none∧p.1≠X.env.locals∧p.1∉X.fs∧∀ v,p.2.data≠.cell v
 hok:HOk X.prog X.w H s.heap
 len:σ.length=X.N.length
section
variable {X:Cx}{pins:List (Addr×Obj)}{σ : List (Option V)}{H H':Hp}{s:Shared}{h':Heap}
theorem Cx.Ok.nofr (ok:X.Ok){b:Addr}{o:Obj}(e:X.base.get? b=some o):b∉X.fs:=fun hb=>by
 have:=(ok.funs.mem hb).1
 rw [e] at this;cases this
theorem Inv.bs (I:Inv X pins σ H s):∀ b o,X.base.get? b=some o→s.heap.get? b=some o∧H b=none:=fun b o e=>
 ⟨I.base.keep b o (I.ok.bs b o e).1 (I.ok.bs b o e).2 (I.ok.nofr e) (I.ok.noex b o e),I.base.free b o (I.ok.bs b o e).1 (I.ok.bs b o e).2 (I.ok.noex b o e)⟩
theorem Inv.qt0 (I:Inv X pins σ H s):Quiet X.A H:=fun v e=>let ⟨a,o,u,vs,h1,h2,h3⟩:=I.ok.qt v e;⟨a,o,u,vs,h1,I.base.frzs a o u h2,h3⟩
theorem Inv.bk (I:Inv X pins σ H s):∀ b o,X.base.get? b=some o→s.heap.get? b=some o:=fun b o e=>(I.bs b o e).1
theorem Inv.mod (I:Inv X pins σ H s):Mod X.K X.mg X.base:=I.ok.mod
theorem Inv.kIn (I:Inv X pins σ H s):X.K.In s.heap:=I.ok.mod.kin.keeps I.bk
theorem Inv.lt (I:Inv X pins σ H s):X.env.locals<s.heap.objs.size:=let ⟨_,hn,_⟩:=I.loc;hn.lt
theorem Inv.sz (I:Inv X pins σ H s):X.s₀.heap.objs.size≤s.heap.objs.size:=Nat.le_trans I.ok.above (Nat.le_of_lt I.lt)
theorem Inv.nofs (I:Inv X pins σ H s){a:Addr}(h:s.heap.objs.size≤a):a∉X.fs:=fun hb=>by
 obtain ⟨_,o,ho,_⟩:=I.ok.funs.mem hb
 exact absurd (Nat.lt_of_lt_of_le (Heap.lt_size ho) (Nat.le_trans I.sz h)) (Nat.lt_irrefl _)
theorem Inv.cne (I:Inv X pins σ H s):∀ x c,X.env.cells.lookup x=some c→c≠X.env.locals:=fun x c e z=>by
 obtain ⟨v,o,ho,hd⟩:=I.cell x c e
 obtain ⟨m,⟨o',es,ep,ho',hd',_⟩,_⟩:=I.loc
 rw [z,ho'] at ho;cases ho;rw [hd'] at hd;cases hd
theorem Inv.funs (I:Inv X pins σ H s):s.heap.FunFrames X.base X.outer:=by
 have all:∀ (l:List Env),(∀ b∈frs l,b∈X.fs)→X.s₀.heap.FunFrames X.base l→s.heap.FunFrames X.base l:=by
  intro l
  induction l with
  | nil=>intro _ _;trivial
  | cons env r ih=>
   intro hs hl
   obtain ⟨hk,⟨L,o,hf,hn,ho,hd⟩,hr⟩:=hl
   have hL:L∈X.fs:=hs L (by unfold frs;rw [List.filterMap_cons,hf];exact List.mem_cons_self)
   obtain ⟨sl,e⟩:=I.base.slot L o ho (I.ok.frf L hL) hL fun z=>I.ok.exfs L z hL
   exact ⟨hk,⟨L,_,hf,hn,e,hd⟩,ih (fun b hb=>hs b (by unfold frs;rw [List.filterMap_cons,hf];exact List.mem_cons_of_mem _ hb)) hr⟩
 exact all X.outer (fun _ hb=>hb) I.ok.funs
theorem Inv.stack (I:Inv X pins σ H s):s.heap.FunFrames X.base X.stack:=by
 rcases I.ok.stk with e | ⟨e,hf⟩
 ·rw [e];exact I.funs
 ·rw [e]
  obtain ⟨m,hn,_⟩:=I.loc
  refine .cons (by rw [I.ok.kind];decide) hf hn ?_ I.funs
  exact Heap.get?_none_of_le (Nat.le_trans I.ok.bsz I.ok.above)
theorem Inv.stkSub (I:Inv X pins σ H s):∀ b∈frs X.stack,b∈X.env.locals::X.fs:=fun b hb=>by
 rcases I.ok.stk with e | ⟨e,hf⟩
 ·rw [e] at hb;exact List.mem_cons_of_mem _ hb
 ·rw [e] at hb
  unfold frs at hb
  rw [List.filterMap_cons,hf] at hb
  exact hb
theorem Inv.stkFree (I:Inv X pins σ H s):∀ b∈frs X.stack,H b=none:=fun b hb=>by
 rcases List.mem_cons.mp (I.stkSub b hb) with e | hb
 ·rw [e];exact I.free
 ·obtain ⟨_,o,ho,_⟩:=I.ok.funs.mem hb
  exact I.base.free b o ho (I.ok.frf b hb) fun z=>I.ok.exfs b z hb
theorem Inv.stepG {g':Array GenState}{t':Nat}{d':Drawn}{ch:List Addr}(I:Inv X pins σ H s)
  (hch:∀ b∈ch,(b∈X.ex∨X.s₀.heap.get? b=none)∧b≠X.env.locals∧(∀ x c,X.env.cells.lookup x=some c→c≠b)∧∀ p∈X.pn++pins,p.1≠b)
  (keep:∀ b o,b≠X.env.locals→b∉X.fs→b∉ch→s.heap.get? b=some o→H b=none→h'.get? b=some o)
  (slot:∀ b o,b≠X.env.locals→b∈X.fs→b∉ch→s.heap.get? b=some o→H b=none→∃ sl,h'.get? b=some { o with slots:=sl }) (free:∀ b o,b∉ch→s.heap.get? b=some o→H b=none→H' b=none)
  (there:∀ b o,b∉ch→s.heap.get? b=some o→∃ o',h'.get? b=some o')
  (tups:∀ b xs,H b=some (.tup xs)→H' b=some (.tup xs)) (frzs:∀ b o u,H b=some (.frz o u)→H' b=some (.frz o u)) (tbls:∀ b ps,H b=some (.tbl ps)→∃ more,H' b=some (.tbl (ps++more)))
  (ns:∀ m,s.heap.Ns X.env.locals m→h'.Ns X.env.locals m) (hok:HOk X.prog X.w H' h') (hg:AllBare g') :
  Inv X pins σ H' { s with heap:=h',gens:=g',drawn:=d',toks:=t' }:=by
 have neL:∀ b o,X.s₀.heap.get? b=some o→b≠X.env.locals:=fun b o e=>Nat.ne_of_lt (Nat.lt_of_lt_of_le (Heap.lt_size e) I.ok.above)
 have neC:∀ b o,X.s₀.heap.get? b=some o→b∉X.ex→b∉ch:=fun b o e hx hb=>by
  rcases (hch b hb).1 with z | z
  ·exact hx z
  ·rw [z] at e;cases e
 have cellK:∀ x c,X.env.cells.lookup x=some c→∀ v,s.heap.IsCell c v→h'.IsCell c v:=fun x c e v ⟨o,ho,hd⟩=>by
  have nch:c∉ch:=fun z=>(hch c z).2.2.1 x c e rfl
  by_cases hc:c∈X.fs
  ·obtain ⟨sl,q⟩:=slot c o (I.cne x c e) hc nch ho (I.freeC x c e)
   exact ⟨_,q,hd⟩
  ·exact ⟨o,keep c o (I.cne x c e) hc nch ho (I.freeC x c e),hd⟩
 refine ⟨I.ok,I.os,hg,⟨fun b o e n hb hx=>?_,fun b o e n hb hx=>?_,fun b o e n hx=>?_,fun b o e hx=>?_,fun b xs e=>tups b xs (I.base.tups b xs e),fun b o xs e=>frzs b o xs (I.base.frzs b o xs e),fun b ps e=>?_⟩,?_,fun x c e=>?_,?_,fun x c e=>?_,fun p hp=>?_,hok,I.len⟩
 ·exact keep b o (neL b o e) hb (neC b o e hx) (I.base.keep b o e n hb hx) (I.base.free b o e n hx)
 ·obtain ⟨sl,e1⟩:=I.base.slot b o e n hb hx
  obtain ⟨sl',e2⟩:=slot b _ (neL b o e) hb (neC b o e hx) e1 (I.base.free b o e n hx)
  exact ⟨sl',e2⟩
 ·obtain ⟨o',e1⟩:=I.base.there b o e hx
  exact free b o' (neC b o e hx) e1 (I.base.free b o e n hx)
 ·obtain ⟨o',e1⟩:=I.base.there b o e hx
  exact there b o' (neC b o e hx) e1
 ·obtain ⟨m1,e1⟩:=I.base.tbls b ps e
  obtain ⟨m2,e2⟩:=tbls b _ e1
  exact ⟨m1++m2,by rw [e2,Array.append_assoc]⟩
 ·obtain ⟨m,hn,hl⟩:=I.loc
  refine ⟨m,ns m hn,fun i x v e1 e2 e3=>?_⟩
  obtain ⟨u,r,l⟩:=hl i x v e1 e2 e3
  refine ⟨u,r,?_⟩
  rcases l with l | ⟨k,c,e,z⟩
  ·exact .inl l
  ·exact .inr ⟨k,c,e,cellK x c e _ z⟩
 ·obtain ⟨v,z⟩:=I.cell x c e
  exact ⟨v,cellK x c e v z⟩
 ·obtain ⟨m,⟨o,_,_,ho,_⟩,_⟩:=I.loc
  exact free _ o (fun z=>(hch _ z).2.1 rfl) ho I.free
 ·obtain ⟨v,o,ho,hd⟩:=I.cell x c e
  exact free c o (fun z=>(hch c z).2.2.1 x c e rfl) ho (I.freeC x c e)
 ·obtain ⟨e,n,ne,nf,d⟩:=I.pin p hp
  have nch:p.1∉ch:=fun z=>(hch p.1 z).2.2.2 p hp rfl
  exact ⟨keep p.1 p.2 ne nf nch e n,free p.1 p.2 nch e n,ne,nf,d⟩
theorem Inv.step {g':Array GenState}{t':Nat}{d':Drawn}{ch:List Addr}(I:Inv X pins σ H s)
  (hch:∀ b∈ch,(b∈X.ex∨X.s₀.heap.objs.size≤b)∧b≠X.env.locals∧(∀ x c,X.env.cells.lookup x=some c→c≠b)∧∀ p∈X.pn++pins,p.1≠b)
  (keep:∀ b o,b≠X.env.locals→b∉X.fs→b∉ch→s.heap.get? b=some o→H b=none→h'.get? b=some o)
  (slot:∀ b o,b≠X.env.locals→b∈X.fs→b∉ch→s.heap.get? b=some o→H b=none→∃ sl,h'.get? b=some { o with slots:=sl }) (free:∀ b o,b∉ch→s.heap.get? b=some o→H b=none→H' b=none)
  (there:∀ b o,b∉ch→s.heap.get? b=some o→∃ o',h'.get? b=some o')
  (tups:∀ b xs,H b=some (.tup xs)→H' b=some (.tup xs)) (frzs:∀ b o u,H b=some (.frz o u)→H' b=some (.frz o u)) (tbls:∀ b ps,H b=some (.tbl ps)→∃ more,H' b=some (.tbl (ps++more)))
  (ns:∀ m,s.heap.Ns X.env.locals m→h'.Ns X.env.locals m) (hok:HOk X.prog X.w H' h') (hg:AllBare g') :
  Inv X pins σ H' { s with heap:=h',gens:=g',drawn:=d',toks:=t' }:=
 I.stepG (ch:=ch) (fun b z=>⟨(hch b z).1.imp id fun q=>Heap.get?_none_of_le q,(hch b z).2⟩) keep slot free there tups frzs tbls ns hok hg
theorem Inv.un {t':Nat}(I:Inv X pins σ H s)(u:Un X.fs [] H H' s.heap h')(hok:HOk X.prog X.w H' h'):Inv X pins σ H' { s with heap:=h',toks:=t' }:=by
 obtain ⟨m,⟨o,es,ep,ho,r⟩,_⟩:=id I.loc
 obtain ⟨sl,hL⟩:=u.any ho I.free (by simp)
 exact I.step (g':=s.gens) (d':=s.drawn) (ch:=[]) (fun _ z=>nomatch z) (fun b o _ hb _ e n=>u.keep b o e n hb (by simp)) (fun b o _ hb _ e n=>u.slot b o e n hb (by simp)) (fun b o _ e n=>u.free b o e n (by simp)) (fun b o _ e=>u.there b o e (by simp)) u.tups u.frzs u.tbls (fun m' hm=>by
  obtain ⟨o',es',ep',ho',r'⟩:=hm
  rw [ho] at ho';cases ho'
  exact ⟨_,es',ep',hL,r'⟩) hok I.bare
theorem Inv.call {g':Array GenState}{t':Nat}{d':Drawn}{ch:List Addr}(I:Inv X pins σ H s)(u:Un (frs X.stack) ch H H' s.heap h')(hok:HOk X.prog X.w H' h')(hg:AllBare g')
  (hch:∀ b∈ch,(b∈X.ex∨X.s₀.heap.objs.size≤b)∧b≠X.env.locals∧(∀ x c,X.env.cells.lookup x=some c→c≠b)∧∀ p∈X.pn++pins,p.1≠b) :
  Inv X pins σ H' { s with heap:=h',gens:=g',drawn:=d',toks:=t' }:=by
 obtain ⟨m,⟨o,es,ep,ho,r⟩,_⟩:=id I.loc
 obtain ⟨sl,hL⟩:=u.any ho I.free fun z=>(hch _ z).2.1 rfl
 exact I.step (ch:=ch) hch (fun b o hL hb hc e n=>u.keep b o e n (fun z=>(List.mem_cons.mp (I.stkSub b z)).elim hL hb) hc) (fun b o _ _ hc e n=>u.any e n hc) (fun b o hc e n=>u.free b o e n hc) (fun b o hc e=>u.there b o e hc) u.tups u.frzs u.tbls (fun m' hm=>by
  obtain ⟨o',es',ep',ho',r'⟩:=hm
  rw [ho] at ho';cases ho'
  exact ⟨_,es',ep',hL,r'⟩) hok hg
theorem Inv.turned {t':Nat}{it:Addr}(I:Inv X pins σ H s)(k:∀ b o,b≠it→s.heap.get? b=some o→h'.get? b=some o)(hn:H it=none)(hL:it≠X.env.locals)
  (h1:it∈X.ex∨X.s₀.heap.objs.size≤it) (h2:∀ x c,X.env.cells.lookup x=some c→c≠it) (h3:∀ p∈X.pn++pins,p.1≠it):Inv X pins σ H { s with heap:=h',toks:=t' }:=by
 have nit:∀ b u,H b=some u→b≠it:=fun b u e z=>by rw [z,hn] at e;cases e
 refine I.step (g':=s.gens) (d':=s.drawn) (ch:=[it]) (fun b hb=>?_) (fun b o _ _ hc e _=>k b o (fun z=>hc (by simp [z])) e) (fun b o _ _ hc e _=>⟨o.slots,k b o (fun z=>hc (by simp [z])) e⟩) (fun _ _ _ _ n=>n)
  (fun b o hc e=>⟨o,k b o (fun z=>hc (by simp [z])) e⟩) (fun _ _ e=>e) (fun _ _ _ e=>e) (fun b ps e=>⟨#[],by rw [e];simp⟩) (fun m hm=>?_) (fun b u e=>?_) I.bare
 ·have e:b=it:=by simpa using hb
  subst e
  exact ⟨h1,hL,h2,h3⟩
 ·obtain ⟨o,es,ep,ho,r⟩:=hm
  exact ⟨o,es,ep,k _ o (Ne.symm hL) ho,r⟩
 ·refine (I.hok b u e).stay (fun c v hc q=>k c v ?_ q) (fun _ q=>q) fun _ _ q=>q
  rcases hc with z | z
  ·rw [z];exact nit b u e
  ·exact nit c _ z
theorem Inv.tok (I:Inv X pins σ H s)(t:Nat):Inv X pins σ H { s with toks:=t }:=I.un (h':=s.heap) (t':=t) Un.refl I.hok
theorem Inv.kept {t':Nat}(I:Inv X pins σ H s)(k:∀ b u,s.heap.get? b=some u→h'.get? b=some u):Inv X pins σ H { s with heap:=h',toks:=t' }:=I.un (Un.kept k) (I.hok.kept k)
theorem Inv.laid {a:Addr}{o:HO}{t':Nat}(I:Inv X pins σ H s)(k:∀ b u,s.heap.get? b=some u→h'.get? b=some u)(hp:s.heap.objs.size≤a)(new:fB X.prog X.w (upd H a o) h' a o) :
  Inv X pins σ (upd H a o) { s with heap:=h',toks:=t' }:=I.un (Un.laid k hp (I.hok.fresh hp)) (I.hok.laid k hp new)
theorem Inv.write {x e:Addr}{o:HO}{t':Nat}(I:Inv X pins σ H s)(mu:Mut (H x))(he:e=x∨H e=some (.own x))(k:∀ b u,b≠e→s.heap.get? b=some u→h'.get? b=some u)(heo:∃ u,h'.get? e=some u)
  (new:fB X.prog X.w (upd H x o) h' x o):Inv X pins σ (upd H x o) { s with heap:=h',toks:=t' }:=I.un (Un.write mu he k heo) (I.hok.write mu he k heo new)
theorem Inv.weak {σ':List (Option V)}(I:Inv X pins σ H s)(hl:σ'.length = σ.length)(w:∀ (i:Nat) v,σ'[i]?=some (some v)→σ[i]?=some (some v)):Inv X pins σ' H s:=
 ⟨I.ok,I.os,I.bare,I.base,let ⟨m,hn,hl'⟩:=I.loc;⟨m,hn,fun i x v e1 e2 e3=>hl' i x v e1 (w i v e2) e3⟩,I.cell,I.free,I.freeC,I.pin,I.hok,hl.trans I.len⟩
theorem Inv.pins_of {pins':List (Addr×Obj)}(I:Inv X pins σ H s)(h:∀ p∈pins',s.heap.get? p.1=some p.2∧H p.1=none∧p.1≠X.env.locals∧p.1∉X.fs∧∀ v,p.2.data≠.cell v):Inv X pins' σ H s:=
 ⟨I.ok,I.os,I.bare,I.base,I.loc,I.cell,I.free,I.freeC,fun p hp=>(List.mem_append.mp hp).elim (fun z=>I.pin p (List.mem_append_left _ z)) (h p),I.hok,I.len⟩
theorem wX {N:List Str}(hN:N.Nodup){i j:Nat}{x:Str}(a:N[i]?=some x)(b:N[j]?=some x):i=j:=by
 obtain ⟨h1,e1⟩:=List.getElem?_eq_some_iff.mp a
 obtain ⟨h2,e2⟩:=List.getElem?_eq_some_iff.mp b
 exact (List.getElem_inj hN).mp (e1.trans e2.symm)
theorem tL {M:Model}{A:Around}{E:Value→Shared→Prop}{i:Nat}{x:Str}{v:V}{u:Value}{Q:Unit→Shared→Prop}(I:Inv X pins σ H s)(hN:X.N.Nodup)(hi:X.N[i]?=some x)(hx:Loc X.env.scope x)(r:RelV v u)
  (h:∀ s',Inv X pins (σ.set i (some v)) H s'→(∃ a,Heap.SameBut a s.heap s'.heap∧(a=X.env.locals∨X.env.cells.lookup x=some a))→Q () s') (hf:X.fn x=true∨X.env.scope.names.lookup x=some .local:=by first | exact .inl rfl | exact .inr rfl | assumption):wpAny M A (storeName X.env x u) Q E s:=by
 obtain ⟨m,hn,hl⟩:=id I.loc
 have hcls:(X.env.scope.kind==.class||(X.env.scope.kind==.module&&X.env.locals != X.env.globals))=false:=by rw [I.ok.kind];rfl
 have hiσ : i < σ.length:=by rw [I.len];exact (List.getElem?_eq_some_iff.mp hi).1
 have cne:=I.cne
 have tracked:∀ {a:Addr} {h':Heap},(∃ o,s.heap.get? a=some o∧H a=none)→Heap.SameBut a s.heap h'→HOk X.prog X.w H h':=fun {a h'} ha hs b ob e=>by
  obtain ⟨_,_,hfree⟩:=ha
  refine (I.hok b ob e).stay (fun c w' hc q=>(hs.2 c ?_).trans q) (fun _ q=>q) fun _ _ q=>q
  rintro rfl
  rcases hc with rfl | hc
  ·rw [hfree] at e;cases e
  ·rw [hfree] at hc;cases hc
 rcases hx with hk | hk
 ·refine wpAny_storeName_local hk hn (fun h' hn' hs=>?_) hcls
  obtain ⟨oL,_,_,hoL,_⟩:=id hn
  refine h _ ⟨I.ok,I.os,I.bare,⟨fun b o e n hb hx=>?_,fun b o e n hb hx=>?_,I.base.free,fun b o e hx=>?_,I.base.tups,I.base.frzs,I.base.tbls⟩,⟨_,hn',fun j y v' e1 e2 e3=>?_⟩,fun y c e=>?_,I.free,I.freeC,fun p hp=>?_,tracked ⟨oL,hoL,I.free⟩ hs,by simpa using I.len⟩ ⟨_,hs,.inl rfl⟩
  ·exact (hs.2 b (Nat.ne_of_lt (Nat.lt_of_lt_of_le (Heap.lt_size e) I.ok.above))).trans (I.base.keep b o e n hb hx)
  ·obtain ⟨sl,e1⟩:=I.base.slot b o e n hb hx
   exact ⟨sl,(hs.2 b (Nat.ne_of_lt (Nat.lt_of_lt_of_le (Heap.lt_size e) I.ok.above))).trans e1⟩
  ·obtain ⟨o',e1⟩:=I.base.there b o e hx
   exact ⟨o',(hs.2 b (Nat.ne_of_lt (Nat.lt_of_lt_of_le (Heap.lt_size e) I.ok.above))).trans e1⟩
  ·by_cases hj:j=i
   ·subst hj
    rw [hi] at e1;cases e1
    rw [List.getElem?_set_self hiσ] at e2
    cases e2
    exact ⟨u,r,.inl ⟨hk,by simp⟩⟩
   ·rw [List.getElem?_set_ne (Ne.symm hj)] at e2
    obtain ⟨u',r',q⟩:=hl j y v' e1 e2 e3
    refine ⟨u',r',?_⟩
    rcases q with ⟨k,e⟩ | ⟨k,c,e,z⟩
    ·refine .inl ⟨k,?_⟩
     have:y≠x:=fun e=>hj (wX hN e1 (e ▸ hi))
     simp [this,e]
    ·exact .inr ⟨k,c,e,z.sameBut hs (cne y c e)⟩
  ·obtain ⟨w',z⟩:=I.cell y c e
   exact ⟨w',z.sameBut hs (cne y c e)⟩
  ·obtain ⟨e,n,ne,nf,d⟩:=I.pin p hp
   exact ⟨(hs.2 p.1 ne).trans e,n,ne,nf,d⟩
 ·have hfn:X.fn x=true:=by
   rcases hf with z | z
   ·exact z
   ·rw [z] at hk;cases hk
  obtain ⟨c,hc⟩:=I.ok.has x (.inl hk)
  obtain ⟨w',z⟩:=I.cell x c hc
  refine wpAny_storeName_cell I.ok.kind hk hc z (fun h' hc' hs=>?_)
  obtain ⟨oc,hoc,hocd⟩:=id z
  refine h { s with heap:=h' } ⟨I.ok,I.os,I.bare,⟨fun b o e n hb hx=>?_,fun b o e n hb hx=>?_,I.base.free,fun b o e hx=>?_,I.base.tups,I.base.frzs,I.base.tbls⟩,⟨m,hn.sameBut hs (Ne.symm (cne x c hc)),fun j y v' e1 e2 e3=>?_⟩,fun y c' e=>?_,I.free,I.freeC,fun p hp=>?_,tracked ⟨oc,hoc,I.freeC x c hc⟩ hs,by simpa using I.len⟩ ⟨c,hs,.inr hc⟩
  ·exact (hs.2 b (Nat.ne_of_lt (Nat.lt_of_lt_of_le (Heap.lt_size e) (I.ok.cab x c hfn hc)))).trans (I.base.keep b o e n hb hx)
  ·obtain ⟨sl,e1⟩:=I.base.slot b o e n hb hx
   exact ⟨sl,(hs.2 b (Nat.ne_of_lt (Nat.lt_of_lt_of_le (Heap.lt_size e) (I.ok.cab x c hfn hc)))).trans e1⟩
  ·obtain ⟨o',e1⟩:=I.base.there b o e hx
   exact ⟨o',(hs.2 b (Nat.ne_of_lt (Nat.lt_of_lt_of_le (Heap.lt_size e) (I.ok.cab x c hfn hc)))).trans e1⟩
  ·by_cases hj:j=i
   ·subst hj
    rw [hi] at e1;cases e1
    rw [List.getElem?_set_self hiσ] at e2
    cases e2
    exact ⟨u,r,.inr ⟨.inl hk,c,hc,hc'⟩⟩
   ·rw [List.getElem?_set_ne (Ne.symm hj)] at e2
    obtain ⟨u',r',q⟩:=hl j y v' e1 e2 e3
    refine ⟨u',r',?_⟩
    rcases q with q | ⟨k,c',e,z'⟩
    ·exact .inl q
    ·refine .inr ⟨k,c',e,z'.sameBut hs ?_⟩
     rintro rfl
     exact hj (wX hN e1 (I.ok.inj _ _ _ e hc ▸ hi))
  ·by_cases hcc:c'=c
   ·subst hcc;exact ⟨_,hc'⟩
   ·obtain ⟨w2,z2⟩:=I.cell y c' e
    exact ⟨w2,z2.sameBut hs hcc⟩
  ·obtain ⟨e,n,ne,nf,d⟩:=I.pin p hp
   refine ⟨(hs.2 p.1 ?_).trans e,n,ne,nf,d⟩
   intro q
   rw [q,hoc] at e
   have q':oc=p.2:=Option.some.inj e
   exact d w' (by rw [←q'];exact hocd)
theorem qP {M:Model}{A:Around}{E:Value→Shared→Prop}{i:Nat}{x:Str}{v:V}{u:Value}{Q:Unit→Shared→Prop}(I:Inv X pins σ H s)(hN:X.N.Nodup)(hi:X.N[i]?=some x)(hx:Loc X.env.scope x)(r:RelV v u)
  (h:∀ s',Inv X pins (σ.set i (some v)) H s'→Q () s') (hf:X.fn x=true∨X.env.scope.names.lookup x=some .local:=by first | exact .inl rfl | exact .inr rfl | assumption):wpAny M A (storeName X.env x u) Q E s:=
 tL I hN hi hx r (fun s' I' _=>h s' I') hf
theorem Inv.call' {s':Shared}{ch:List Addr}(I:Inv X pins σ H s)(ho:s'.os=s.os)(u:Un (frs X.stack) ch H H' s.heap s'.heap)(hok:HOk X.prog X.w H' s'.heap)(hg:AllBare s'.gens)
  (hch:∀ b∈ch,(b∈X.ex∨X.s₀.heap.objs.size≤b)∧b≠X.env.locals∧(∀ x c,X.env.cells.lookup x=some c→c≠b)∧∀ p∈X.pn++pins,p.1≠b):Inv X pins σ H' s':=by
 obtain ⟨h',g',d',t',o'⟩:=s'
 have e:o'=s.os:=ho
 subst e
 exact I.call (g':=g') (t':=t') (d':=d') u hok hg hch
end
abbrev XK:=Value→Option Addr→Hp→Prop
abbrev St:=List (Option V)
abbrev VK:=V→Hp→Prop
abbrev TE:=St→Hp→VK→Prop
abbrev TT:=St→Hp→(Bool→Hp→Prop)→Prop
abbrev TA:=St→Hp→(List V→Hp→Prop)→Prop
structure Ends where
 nx:St→Hp→Prop
 rt:VK
 bk:St→Hp→Prop:=fun _ _=>False
 ct:St→Hp→Prop:=fun _ _=>False
abbrev TS:=Ends→St→Hp→Prop
def EP (X:Cx)(pins:List (Addr×Obj))(σ : St)(Q:VK)(u:Value)(s':Shared):Prop:=∃ v H',Inv X pins σ H' s'∧RelV v u∧Q v H'
def TP (X:Cx)(pins:List (Addr×Obj))(σ : St)(Q:Bool→Hp→Prop)(b:Bool)(s':Shared):Prop:=∃ H',Inv X pins σ H' s'∧Q b H'
def AP (X:Cx)(pins:List (Addr×Obj))(σ : St)(Q:List V→Hp→Prop)(us:List Value)(s':Shared):Prop:=∃ vs H',Inv X pins σ H' s'∧Vals vs us∧Q vs H'
def SP (X:Cx)(pins:List (Addr×Obj))(D:Ends)(f:Flow)(s':Shared):Prop:=
 match f with
 | .next=>∃ σ' H',Inv X pins σ' H' s'∧D.nx σ' H'
 | .brk=>∃ σ' H',Inv X pins σ' H' s'∧D.bk σ' H'
 | .cont=>∃ σ' H',Inv X pins σ' H' s'∧D.ct σ' H'
 | .ret u=>∃ v σ' H',Inv X pins σ' H' s'∧RelV v u∧D.rt v H'
def PE (X:Cx)(e:Expr)(t:TE):Prop:=
 ∀ (pins:List (Addr×Obj)) (s:Shared) (σ : St) (H:Hp) (Q:VK),Inv X pins σ H s→t σ H Q→wpAny (model X.prog X.w) X.A (eval e X.env) (EP X pins σ Q) X.xe s
def PT (X:Cx)(e:Expr)(t:TT):Prop:=
 ∀ (pins:List (Addr×Obj)) (s:Shared) (σ : St) (H:Hp) (Q:Bool→Hp→Prop),Inv X pins σ H s→t σ H Q→wpAny (model X.prog X.w) X.A (isTrue e X.env (eval e X.env)) (TP X pins σ Q) X.xe s
def PW (X:Cx)(e:Expr)(t:TT):Prop:=
 ∀ (whole:Sem Value) (pins:List (Addr×Obj)) (s:Shared) (σ : St) (H:Hp) (Q:Bool→Hp→Prop),Inv X pins σ H s→t σ H Q→wpAny (model X.prog X.w) X.A (isTrue e X.env whole) (TP X pins σ Q) X.xe s
theorem PW.pt {X:Cx}{e:Expr}{t:TT}(h:PW X e t):PT X e t:=h _
def PA (X:Cx)(es:List Expr)(t:TA):Prop:=
 ∀ (pos:Pos) (pins:List (Addr×Obj)) (s:Shared) (σ : St) (H:Hp) (Q:List V→Hp→Prop),Inv X pins σ H s→t σ H Q→wpAny (model X.prog X.w) X.A (spliced (backTo pos (starEach es X.env))) (AP X pins σ Q) X.xe s
def PS (X:Cx)(st:Stmt)(t:TS):Prop:=
 ∀ (pins:List (Addr×Obj)) (s:Shared) (σ : St) (H:Hp) (D:Ends),Inv X pins σ H s→t D σ H→wpAny (model X.prog X.w) X.A (exec st X.env) (SP X pins D) X.xe s
def PSs (X:Cx)(st:List Stmt)(t:TS):Prop:=
 ∀ (pins:List (Addr×Obj)) (s:Shared) (σ : St) (H:Hp) (D:Ends),Inv X pins σ H s→t D σ H→wpAny (model X.prog X.w) X.A (execs st X.env) (SP X pins D) X.xe s
theorem thn {α : Type}{t:Sem α}{Q Q':α→Shared→Prop}{M:Model}{A:Around}{E:Value→Shared→Prop}{s:Shared}(h:wpAny M A t Q E s)(hQ:∀ a s,Q a s→Q' a s):wpAny M A t Q' E s:=wpAny_mono h hQ fun _ _ x=>x
end L2
namespace L2
open PySem PySem.Spec PyProof.Rows
section
variable {X:Cx}
def tVar (i:Nat):TE:=fun σ H Q=>∃ v,σ[i]?=some (some v)∧Q v H
def tC (v:V):TE:=fun _ H Q=>Q v H
theorem pe_var {i:Nat}{x:Str}{pos:Pos}(hN:X.N[i]?=some x)(hv:Vis X.env.scope x)(hd:(x==("__debug__" : Str))=false:=by decide)(hcd:(x==("__classdict__" : Str))=false:=by decide):PE X (.Name x pos) (tVar i):=by
 intro pins s σ H Q I h
 obtain ⟨v,e,h⟩:=h
 obtain ⟨m,hn,hl⟩:=I.loc
 obtain ⟨u,r,l⟩:=hl i x v hN e hv
 have fin:EP X pins σ Q u s:=⟨v,H,I,r,h⟩
 rcases l with ⟨hk,hm⟩ | ⟨hk,c,hc,hcell⟩
 ·exact wpAny_Name (wpAny_loadName_local I.ok.kind hk hn hm fin) hd
 ·rcases hk with hk | hk
  ·exact wpAny_Name (wpAny_loadName_cell I.ok.kind hk hc hcell fin) hd
  ·exact wpAny_Name (wpAny_loadName_free I.ok.kind hk hc hcell fin hcd) hd
theorem pe_int {i j pos}:PE X (.Constant (.int i) j pos) (tC (.int i)):=fun _ _ _ H _ I h=>wpAny_Constant_int ⟨.int i,H,I.tok _,⟨_,rfl⟩,h⟩
theorem pe_bl {b j pos}:PE X (.Constant (.bool b) j pos) (tC (.bl b)):=fun _ _ _ H _ I h=>Constant_bool ⟨.bl b,H,I,rfl,h⟩
theorem pe_str {x j pos}:PE X (.Constant (.str x) j pos) (tC (.str x)):=fun _ _ _ H _ I h=>Calls.Constant_str ⟨.str x,H,I.tok _,⟨_,rfl⟩,h⟩
def Gl (X:Cx)(x:Str):Prop:=X.env.kindOf x=some .globalImplicit
theorem rK {E:Value→Shared→Prop}{pins:List (Addr×Obj)}{s:Shared}{σ : St}{H:Hp}{x:Str}{u:Value}{pos:Pos}{Q:Value→Shared→Prop}(I:Inv X pins σ H s)(hg:Gl X x)(hm:X.mg x=some u)(h:Q u s)
  (hd:(x==("__debug__" : Str))=false:=by decide):wpAny (model X.prog X.w) X.A (eval (.Name x pos) X.env) Q E s:=
 Calls.Name_function_global I.ok.kind hg (Calls.loadGlobal_global (by rw [I.ok.glob];exact I.mod.glob.keeps I.bk) hm h) hd
theorem mO {E:Value→Shared→Prop}{pins:List (Addr×Obj)}{s:Shared}{σ : St}{H:Hp}{x:Str}{u:Value}{pos:Pos}{Q:Value→Shared→Prop}(I:Inv X pins σ H s)(hg:Gl X x)(hm:X.mg x=none)(hv:bootBuiltins x=some u)(h:Q u s)
  (hn:x ≠ "__name__":=by decide) (hd:(x==("__debug__" : Str))=false:=by decide):wpAny (model X.prog X.w) X.A (eval (.Name x pos) X.env) Q E s:=by
 obtain ⟨mb,h1,h2⟩:=I.mod.blt
 exact Calls.Name_function_global I.ok.kind hg (Calls.loadGlobal_builtin (by rw [I.ok.glob];exact I.mod.glob.keeps I.bk) hm (by rw [I.ok.blt];exact h1.keeps I.bk) ((h2 x hn).trans hv) h) hd
theorem jM {x:Str}{v:V}{u:Value}{pos:Pos}(hg:Gl X x)(hm:X.mg x=some u)(r:RelV v u)(hd:(x==("__debug__" : Str))=false:=by decide):PE X (.Name x pos) (tC v):=
 fun _ _ _ H _ I h=>rK I hg hm ⟨v,H,I,r,h⟩ hd
theorem nJ {x:Str}{v:V}{u:Value}{pos:Pos}(hg:Gl X x)(hm:X.mg x=none)(hv:bootBuiltins x=some u)(r:RelV v u)(hn:x ≠ "__name__":=by decide)(hd:(x==("__debug__" : Str))=false:=by decide):PE X (.Name x pos) (tC v):=
 fun _ _ _ H _ I h=>mO I hg hm hv ⟨v,H,I,r,h⟩ hn hd
variable {a b:Expr}{ta tb:TE}{pos:Pos}
variable {tA tB':TT}{rest:List Expr}
def tAnd (t u:TT):TT:=fun σ H Q=>t σ H fun c H1=>if c=true then u σ H1 Q else Q false H1
def tOr (t u:TT):TT:=fun σ H Q=>t σ H fun c H1=>if c=true then Q true H1 else u σ H1 Q
def tNot (t:TT):TT:=fun σ H Q=>t σ H fun c H1=>Q (!c) H1
theorem pw_and1 (ha:PT X a tA):PW X (.BoolOp .And [a] pos) tA:=by
 intro wh pins s σ H Q I h
 refine isTrue_and (thn (ha pins s σ H Q I h) fun c s1 e=>?_)
 cases c with
 | true=>exact isTrue_and_nil e
 | false=>exact e
theorem pw_or1 (ha:PT X a tA):PW X (.BoolOp .Or [a] pos) tA:=by
 intro wh pins s σ H Q I h
 refine isTrue_or (thn (ha pins s σ H Q I h) fun c s1 e=>?_)
 cases c with
 | false=>exact isTrue_or_nil e
 | true=>exact e
theorem pw_and (ha:PT X a tA)(hb:PW X (.BoolOp .And (b::rest) pos) tB'):PW X (.BoolOp .And (a::b::rest) pos) (tAnd tA tB'):=by
 intro wh pins s σ H Q I h
 refine isTrue_and (thn (ha pins s σ H _ I h) fun c s1 ⟨H1,I1,q1⟩=>?_)
 cases c with
 | true=>exact hb wh pins s1 σ H1 Q I1 q1
 | false=>exact ⟨H1,I1,q1⟩
theorem pw_or (ha:PT X a tA)(hb:PW X (.BoolOp .Or (b::rest) pos) tB'):PW X (.BoolOp .Or (a::b::rest) pos) (tOr tA tB'):=by
 intro wh pins s σ H Q I h
 refine isTrue_or (thn (ha pins s σ H _ I h) fun c s1 ⟨H1,I1,q1⟩=>?_)
 cases c with
 | true=>exact ⟨H1,I1,q1⟩
 | false=>exact hb wh pins s1 σ H1 Q I1 q1
theorem pt_not (ha:PT X a tA):PT X (.UnaryOp .Not a pos) (tNot tA):=by
 intro pins s σ H Q I h
 exact isTrue_not (ha pins s σ H (fun c H1=>Q (!c) H1) I h)
def tAndV (ta tb:TE):TE:=fun σ H Q=>ta σ H fun x H1=>∃ c,x=.bl c∧if c=true then tb σ H1 Q else Q (.bl false) H1
def tNotV (ta:TE):TE:=fun σ H Q=>ta σ H fun x H1=>∃ c,x=.bl c∧Q (.bl (!c)) H1
theorem pe_one {op}{t:TE}(h:PE X a t):PE X (.BoolOp op [a] pos) t:=fun pins s σ H Q I hw=>BoolOp_one (h pins s σ H Q I hw)
theorem pe_and (ha:PE X a ta)(hb:PE X (.BoolOp .And (b::rest) pos) tb):PE X (.BoolOp .And (a::b::rest) pos) (tAndV ta tb):=by
 intro pins s σ H Q I h
 refine BoolOp_and (thn (ha pins s σ H _ I h) fun v s1 ⟨x,H1,I1,r1,q1⟩=>?_)
 obtain ⟨c,rfl,q1⟩:=q1
 cases r1
 refine wpAny_truthy_bool ?_
 cases c with
 | true=>exact hb pins s1 σ H1 Q I1 q1
 | false=>exact ⟨.bl false,H1,I1,rfl,q1⟩
theorem pe_not (ha:PE X a ta):PE X (.UnaryOp .Not a pos) (tNotV ta):=by
 intro pins s σ H Q I h
 refine UnaryOp_ (thn (ha pins s σ H _ I h) fun v s1 ⟨x,H1,I1,r1,q1⟩=>?_)
 obtain ⟨c,rfl,q1⟩:=q1
 cases r1
 exact not_of (wpAny_truthy_bool ⟨.bl (!c),H1,I1,rfl,q1⟩)
def tIf (t:TT)(ta tb:TE):TE:=fun σ H Q=>t σ H fun c H1=>if c=true then ta σ H1 Q else tb σ H1 Q
theorem pe_ifExp {c:Expr}(hc:PT X c tA)(ha:PE X a ta)(hb:PE X b tb):PE X (.IfExp c a b pos) (tIf tA ta tb):=by
 intro pins s σ H Q I h
 refine wpAny_IfExp (thn (hc pins s σ H _ I h) fun d s1 ⟨H1,I1,q1⟩=>?_)
 cases d with
 | true=>exact ha pins s1 σ H1 Q I1 q1
 | false=>exact hb pins s1 σ H1 Q I1 q1
end
end L2
namespace L2
open PySem PySem.Spec PyProof.Rows
def SqL (K:PySem.W.Frag)(H:Hp)(a:Addr)(xs:List V):Prop:=
 Rd H a (.lst xs) ∨
  ∃ (o:Obj) (its:Array Value) (n:Nat),K.lookup a=some o∧o.cls=.type "list"∧o.dict=none∧o.data=.seq its n∧its.size≤sizeLine∧Vals xs its.toList
def SqT (K:PySem.W.Frag)(H:Hp)(a:Addr)(xs:List V):Prop:=
 Rd H a (.tup xs) ∨
  ∃ (o:Obj) (its:Array Value) (n:Nat),K.lookup a=some o∧o.cls=.type "tuple"∧o.data=.seq its n∧its.size≤sizeLine∧Vals xs its.toList
def absV:Value→Option V
 | .none=>some .non
 | .bool b=>some (.bl b)
 | .int i _=>some (.int i)
 | .str x _=>some (.str x)
 | .bytes b _=>some (.byt b)
 | .float b _=>some (.flt b)
 | .ref a=>some (.ref a)
 | .type n=>some (.ty n)
 | _=>none
theorem RelV.abs {x:V}{u:Value}(r:RelV x u):absV u=some x:=by
 cases x with
 | non=>cases r;rfl
 | bl _=>cases r;rfl
 | int _=>obtain ⟨t,rfl⟩:=r;rfl
 | str _=>obtain ⟨t,rfl⟩:=r;rfl
 | byt _=>obtain ⟨t,rfl⟩:=r;rfl
 | flt _=>obtain ⟨t,rfl⟩:=r;rfl
 | ref _=>cases r;rfl
 | ty _=>cases r;rfl
theorem RelV.inj {x y:V}{u:Value}(r:RelV x u)(q:RelV y u):x=y:=Option.some.inj (r.abs.symm.trans q.abs)
theorem Vals.inj:∀ {xs ys:List V} {us:List Value},Vals xs us→Vals ys us→xs=ys
 | _,_,_,.nil,.nil=>rfl
 | _,_,_,.cons r t,.cons r' t'=>by rw [r.inj r',Vals.inj t t']
section
variable {X:Cx}{pins:List (Addr×Obj)}{σ : St}{H:Hp}{s:Shared}{a:Addr}{xs ys:List V}
theorem SqL.of {K:PySem.W.Frag}(h:H a=some (.lst xs)):SqL K H a xs:=.inl (.inl h)
theorem SqT.of {K:PySem.W.Frag}(h:H a=some (.tup xs)):SqT K H a xs:=.inl (.inl h)
theorem Inv.list (I:Inv X pins σ H s)(h:SqL X.K H a xs):∃ its:List Value,Vals xs its∧PlainL s.heap a its.toArray∧xs.length≤sizeLine:=by
 rcases h with h | ⟨o,its,n,hk,hc,hd,hs,hz,r⟩
 ·obtain ⟨z,its,n,r,e⟩:=h.ok I.hok
  exact ⟨its,r,⟨_,n,e,rfl,rfl,rfl⟩,z⟩
 ·refine ⟨its.toList,r,⟨o,n,I.kIn a o hk,hc,hd,by simpa using hs⟩,?_⟩
  have e:=r.length
  simp only [Array.length_toList] at e
  omega
theorem Inv.tuple (I:Inv X pins σ H s)(h:SqT X.K H a xs):∃ its:List Value,Vals xs its∧IsTup s.heap a its.toArray∧xs.length≤sizeLine:=by
 rcases h with h | ⟨o,its,n,hk,hc,hs,hz,r⟩
 ·obtain ⟨z,its,r,p⟩:=h.ok I.hok
  exact ⟨its,r,p,z⟩
 ·refine ⟨its.toList,r,⟨o,I.kIn a o hk,hc,n,by simpa using hs⟩,?_⟩
  have e:=r.length
  simp only [Array.length_toList] at e
  omega
theorem Inv.list_inj (I:Inv X pins σ H s)(h:SqL X.K H a xs)(h':SqL X.K H a ys):xs=ys:=by
 obtain ⟨its,r,⟨o,n,e,_,_,d⟩,_⟩:=I.list h
 obtain ⟨its',r',⟨o',n',e',_,_,d'⟩,_⟩:=I.list h'
 rw [e] at e';cases e'
 rw [d] at d'
 injection d' with d1 _
 have:its=its':=by simpa using congrArg Array.toList d1
 subst this
 exact r.inj r'
theorem Inv.tuple_inj (I:Inv X pins σ H s)(h:SqT X.K H a xs)(h':SqT X.K H a ys):xs=ys:=by
 obtain ⟨its,r,⟨o,e,_,n,d⟩,_⟩:=I.tuple h
 obtain ⟨its',r',⟨o',e',_,n',d'⟩,_⟩:=I.tuple h'
 rw [e] at e';cases e'
 rw [d] at d'
 injection d' with d1 _
 have:its=its':=by simpa using congrArg Array.toList d1
 subst this
 exact r.inj r'
end
abbrev Cx.wish (X:Cx)(E:Value→Shared→Prop):Cx:={ X with xe:=E }
abbrev Cx.nox (X:Cx):Cx:=X.wish fun _ _=>False
theorem Cx.Ok.wish {X:Cx}(ok:X.Ok)(E:Value→Shared→Prop):(X.wish E).Ok:=
 ⟨ok.mod,ok.kind,ok.glob,ok.blt,ok.above,ok.inj,ok.has,ok.cab,ok.hd,ok.qt,ok.frames,ok.stk,ok.exf,ok.bs,ok.bsz,ok.noex,ok.exfs,ok.funs,ok.frf⟩
theorem Cx.Ok.unwish {X:Cx}{E:Value→Shared→Prop}(ok:(X.wish E).Ok):X.Ok:=
 ⟨ok.mod,ok.kind,ok.glob,ok.blt,ok.above,ok.inj,ok.has,ok.cab,ok.hd,ok.qt,ok.frames,ok.stk,ok.exf,ok.bs,ok.bsz,ok.noex,ok.exfs,ok.funs,ok.frf⟩
section
variable {X:Cx}{pins:List (Addr×Obj)}{σ : St}{H:Hp}{s:Shared}{E:Value→Shared→Prop}
theorem Inv.wish (I:Inv X pins σ H s)(E:Value→Shared→Prop):Inv (X.wish E) pins σ H s:=⟨I.ok.wish E,I.os,I.bare,I.base,I.loc,I.cell,I.free,I.freeC,I.pin,I.hok,I.len⟩
theorem Inv.unwish (I:Inv (X.wish E) pins σ H s):Inv X pins σ H s:=⟨I.ok.unwish,I.os,I.bare,I.base,I.loc,I.cell,I.free,I.freeC,I.pin,I.hok,I.len⟩
theorem SP.unwish {D:Ends}{f:Flow}{s':Shared}(h:SP (X.wish E) pins D f s'):SP X pins D f s':=by
 cases f with
 | next=>obtain ⟨σ',H',I,q⟩:=h;exact ⟨σ',H',I.unwish,q⟩
 | brk=>obtain ⟨σ',H',I,q⟩:=h;exact ⟨σ',H',I.unwish,q⟩
 | cont=>obtain ⟨σ',H',I,q⟩:=h;exact ⟨σ',H',I.unwish,q⟩
 | ret u=>obtain ⟨v,σ',H',I,r,q⟩:=h;exact ⟨v,σ',H',I.unwish,r,q⟩
theorem PSs.nox {st:List Stmt}{t:TS}(h:PSs X.nox st t):PSs X st t:=fun pins s σ H D I hw=>
 wpAny_mono (h pins s σ H D (I.wish _) hw) (fun _ _ q=>q.unwish) fun _ _ z=>False.elim z
end
section
variable {X:Cx}{st:Stmt}{rest:List Stmt}{t u:TS}{e:Expr}{te:TE}{pos:Pos}
def tNext:TS:=fun D σ H=>D.nx σ H
def tSeq (t u:TS):TS:=fun D σ H=>t { D with nx:=u D } σ H
theorem pss_nil:PSs X [] tNext:=fun _ _ σ H _ I h=>wpAny_execs_nil ⟨σ,H,I,h⟩
theorem xr (h1:PS X st t)(h2:PSs X rest u):PSs X (st::rest) (tSeq t u):=by
 intro pins s σ H D I h
 refine wpAny_execs_cons (thn (h1 pins s σ H { D with nx:=u D } I h) fun f s1 q=>?_)
 cases f with
 | next=>
  obtain ⟨σ',H',I',q⟩:=q
  exact h2 pins s1 σ' H' D I' q
 | ret v=>exact q
 | brk=>exact q
 | cont=>exact q
theorem pss_one (h1:PS X st t):PSs X [st] t:=by
 intro pins s σ H D I h
 refine wpAny_execs_cons (thn (h1 pins s σ H D I h) fun f s1 q=>?_)
 cases f with
 | next=>exact wpAny_execs_nil q
 | ret v=>exact q
 | brk=>exact q
 | cont=>exact q
theorem Inv.quiet {pins:List (Addr×Obj)}{σ : St}{H:Hp}{s:Shared}(I:Inv X pins σ H s):interactive X.env=false:=by simp [interactive,I.ok.kind]
def tDrop (te:TE):TS:=fun D σ H=>te σ H fun _ H1=>D.nx σ H1
theorem ps_expr (he:PE X e te)(hs:swapsWith e none pos.line X.env=pure false:=by rfl):PS X (.Expr e pos) (tDrop te):=by
 intro pins s σ H D I h
 exact wpAny_Expr_any (thn (he pins s σ H _ I h) fun v s1 ⟨x,H1,I1,r1,q1⟩=>⟨σ,H1,I1,q1⟩) I.quiet hs
def tRet (te:TE):TS:=fun D σ H=>te σ H D.rt
theorem ps_ret (he:PE X e te):PS X (.Return (some e) pos) (tRet te):=by
 intro pins s σ H D I h
 exact wpAny_Return_some (thn (he pins s σ H _ I h) fun v s1 ⟨x,H1,I1,r1,q1⟩=>⟨x,σ,H1,I1,r1,q1⟩)
def tIfS (c:TT)(t u:TS):TS:=fun D σ H=>c σ H fun b H1=>if b=true then t D σ H1 else u D σ H1
theorem ps_if {c:Expr}{a b:List Stmt}{tc:TT}(hc:PT X c tc)(ha:PSs X a t)(hb:PSs X b u):PS X (.If c a b pos) (tIfS tc t u):=by
 intro pins s σ H D I h
 refine wpAny_If (thn (hc pins s σ H _ I h) fun d s1 ⟨H1,I1,q1⟩=>?_)
 cases d with
 | true=>exact ha pins s1 σ H1 D I1 q1
 | false=>exact hb pins s1 σ H1 D I1 q1
end
abbrev TG:=V→St→Hp→(St→Hp→Prop)→Prop
abbrev TGs:=List V→St→Hp→(St→Hp→Prop)→Prop
def PG (X:Cx)(target:Expr)(t:TG):Prop:=
 ∀ (pins:List (Addr×Obj)) (s:Shared) (σ : St) (H:Hp) (v:V) (u:Value) (Q:St→Hp→Prop),Inv X pins σ H s→RelV v u→t v σ H Q →
  wpAny (model X.prog X.w) X.A (assign target X.env u) (fun _ s'=>∃ σ' H',Inv X pins σ' H' s'∧Q σ' H') X.xe s
def PGs (X:Cx)(ts:List Expr)(t:TGs):Prop:=
 ∀ (pins:List (Addr×Obj)) (s:Shared) (σ : St) (H:Hp) (vs:List V) (us:List Value) (Q:St→Hp→Prop),Inv X pins σ H s→Vals vs us→t vs σ H Q →
  wpAny (model X.prog X.w) X.A (assignInOrder ((assignEach ts X.env).map (·.2)) us) (fun _ s'=>∃ σ' H',Inv X pins σ' H' s'∧Q σ' H') X.xe s
abbrev TSet:=V→V→V→Hp→(Hp→Prop)→Prop
def PSet (X:Cx)(t:TSet):Prop:=
 ∀ (pins:List (Addr×Obj)) (s:Shared) (σ : St) (H:Hp) (o i v:V) (ov iv u:Value) (Q:Hp→Prop),Inv X pins σ H s→RelV o ov→RelV i iv→RelV v u→t o i v H Q →
  wpAny (model X.prog X.w) X.A (setItem ov iv u) (fun _ s'=>∃ H',Inv X pins σ H' s'∧Q H') X.xe s
section
variable {X:Cx}{pos:Pos}
def gName (i:Nat):TG:=fun v σ H Q=>Q (σ.set i (some v)) H
theorem aX {i:Nat}{x:Str}(hN:X.N.Nodup)(hi:X.N[i]?=some x)(hx:Loc X.env.scope x)(hf:X.fn x=true∨X.env.scope.names.lookup x=some .local:=by first | exact .inl rfl | exact .inr rfl | assumption):PG X (.Name x pos) (gName i):=by
 intro pins s σ H v u Q I r h
 exact wpAny_assign_Name (qP I hN hi hx r (fun s' I'=>⟨_,H,I',h⟩) hf)
def gNil:TGs:=fun vs σ H Q=>vs=[]∧Q σ H
def gCons (t:TG)(u:TGs):TGs:=fun vs σ H Q=>∃ v r,vs=v::r∧t v σ H fun σ' H'=>u r σ' H' Q
theorem pgs_nil:PGs X [] gNil:=by
 intro pins s σ H vs us Q I r h
 obtain ⟨e,h⟩:=h
 subst e
 cases r
 exact assignInOrder_nil ⟨σ,H,I,h⟩
theorem qU {e:Expr}{es:List Expr}{t:TG}{u:TGs}(h1:PG X e t)(h2:PGs X es u)
  (hs:(assignEach (e::es) X.env).map (·.2)=assign e X.env::(assignEach es X.env).map (·.2):=by rfl):PGs X (e::es) (gCons t u):=by
 intro pins s σ H vs us Q I r h
 obtain ⟨v,vr,e1,h⟩:=h
 subst e1
 cases r with
 | cons r rr=>
  rw [hs]
  refine assignInOrder_cons (thn (h1 pins s σ H _ _ _ I r h) fun _ s1 ⟨σ1,H1,I1,q1⟩=>?_)
  exact h2 pins s1 σ1 H1 _ _ Q I1 rr q1
def gTup (K:PySem.W.Frag)(n:Nat)(t:TGs):TG:=fun v σ H Q=>∃ a xs,v=.ref a∧SqT K H a xs∧xs.length=n∧t xs σ H Q
theorem pg_tup {es:List Expr}{k:Nat}{t:TGs}{n:Nat}(hc:X.calm=true)(h:PGs X es t)
  (hn:(assignEach es X.env).length=n:=by rfl) (hst:(assignEach es X.env).findIdx? (·.1)=none:=by rfl):PG X (.Tuple es k pos) (gTup X.K n t):=by
 intro pins s σ H v u Q I r hw
 obtain ⟨a,xs,e1,hq,hl,hw⟩:=hw
 subst e1
 cases r
 obtain ⟨its,rv,ht,hz⟩:=I.tuple hq
 refine assign_Tuple_tuple (I.ok.hd hc) ht (by simp [hn,←hl,rv.length]) hst fun h' hx=>?_
 have I1:Inv X pins σ H { s with heap:=h' }:=I.kept (t':=s.toks) fun b o e=>hx b o (Nat.ne_of_lt (Heap.lt_size e)) e
 exact h pins _ σ H xs _ Q I1 (by simpa using rv) hw
def gSub (to ti:TE)(t:TSet):TG:=fun v σ H Q=>to σ H fun o H1=>ti σ H1 fun i H2=>t o i v H2 fun H3=>Q σ H3
theorem pg_sub {o i:Expr}{to ti:TE}{t:TSet}(ho:PE X o to)(hi:PE X i ti)(hs:PSet X t)
  (ha:∀ v,assign (.Subscript o i pos) X.env v=(do
   let ov ←holding [v] (eval o X.env)
   let iv ←holding [v,ov] (eval i X.env)
   standAt pos
   holding [v,ov,iv] (setItem ov iv v)
   release [v,ov,iv] []):=by intro _;rfl):PG X (.Subscript o i pos) (gSub to ti t):=by
 intro pins s σ H v u Q I r h
 rw [ha]
 refine wpAny_bind (wpAny_holding (thn (ho pins s σ H _ I h) fun ov s1 ⟨x,H1,I1,r1,q1⟩=>?_))
 refine wpAny_bind (wpAny_holding (thn (hi pins s1 σ H1 _ I1 q1) fun iv s2 ⟨y,H2,I2,r2,q2⟩=>?_))
 refine wpAny_bind (wpAny_standAt (wpAny_bind (wpAny_holding (thn (hs pins s2 σ H2 x y v ov iv u _ I2 r1 r2 r q2) fun _ s3 ⟨H3,I3,q3⟩=>?_))))
 exact wpAny_release ⟨σ,H3,I3,q3⟩
def tAsg (te:TE)(g:TG):TS:=fun D σ H=>te σ H fun x H1=>g x σ H1 D.nx
theorem ps_asg {tg e:Expr}{te:TE}{g:TG}(he:PE X e te)(hg:PG X tg g)(hs:swapsWithSole [tg] e pos.line X.env=pure false:=by rfl)(hw:swappedStores [tg] e X.env=pure none:=by rfl)
  (h1:(assignEach [tg] X.env).map (·.2)=[assign tg X.env]:=by rfl):PS X (.Assign [tg] e pos) (tAsg te g):=by
 intro pins s σ H D I h
 refine wpAny_Assign_stores (thn (he pins s σ H _ I h) fun v s1 ⟨x,H1,I1,r1,q1⟩=>?_) hs hw
 rw [h1]
 exact thn (hg pins s1 σ H1 x v _ I1 r1 q1) fun _ s2 q=>q
theorem ps_set {i:Nat}{x:Str}{e:Expr}{te:TE}{pos':Pos}(hN:X.N.Nodup)(hi:X.N[i]?=some x)(hx:Loc X.env.scope x)(he:PE X e te)(hs:swapsWith e (some (.Name x pos')) pos.line X.env=pure false:=by rfl)(hf:X.fn x=true∨X.env.scope.names.lookup x=some .local:=by first | exact .inl rfl | exact .inr rfl | assumption) :
  PS X (.Assign [.Name x pos'] e pos) (tAsg te (gName i)):=by
 intro pins s σ H D I h
 refine wpAny_Assign_Name (thn (he pins s σ H _ I h) fun v s1 ⟨y,H1,I1,r1,q1⟩=>?_) hs
 exact qP I1 hN hi hx r1 (fun s2 I2=>⟨_,H1,I2,q1⟩) hf
end
section
variable {X:Cx}{pos:Pos}
def tWhile (c:TT)(tb:TS):TS:=fun D σ H=>∃ W:Nat→St→Hp→Prop,(∃ m,W m σ H)∧∀ m σ H,W m σ H →
 c σ H fun b H1=>if b=true then ∃ N:St→Hp→Prop,(∀ σ' H',N σ' H'→∃ m',m'<m∧W m' σ' H')∧tb { D with nx:=N,ct:=N,bk:=D.nx } σ H1 else D.nx σ H1
theorem ps_while {c:Expr}{body:List Stmt}{tc:TT}{tb:TS}(hp:PassesOwn (model X.prog X.w) X.A X.env X.xe)(hc:PT X c tc)(hb:PSs X body tb):PS X (.While c body [] pos) (tWhile tc tb):=by
 intro pins s σ H D I h
 obtain ⟨W,⟨m0,w0⟩,turn⟩:=h
 refine wpAny_While (codeAny_whileLoop (fun n s'=>∃ σ' H',Inv X pins σ' H' s'∧W n σ' H') ?_ m0 ⟨σ,H,I,w0⟩)
 rintro n s1 ⟨σ1,H1,I1,w1⟩
 refine wpAny_passesOwn hp (thn (hc pins s1 σ1 H1 _ I1 (turn n σ1 H1 w1)) fun b s2 ⟨H2,I2,q2⟩=>?_)
 cases b with
 | true=>
  obtain ⟨N,hN,q2⟩:=q2
  rw [if_pos rfl]
  refine wpAny_passesOwn hp (thn (hb pins s2 σ1 H2 _ I2 q2) fun f s3 q3=>?_)
  cases f with
  | next=>
   obtain ⟨σ3,H3,I3,n3⟩:=q3
   obtain ⟨m',hm,w3⟩:=hN σ3 H3 n3
   exact ⟨m',hm,σ3,H3,I3,w3⟩
  | cont=>
   obtain ⟨σ3,H3,I3,n3⟩:=q3
   obtain ⟨m',hm,w3⟩:=hN σ3 H3 n3
   exact ⟨m',hm,σ3,H3,I3,w3⟩
  | brk=>exact q3
  | ret v=>exact q3
 | false=>
  rw [if_neg Bool.false_ne_true]
  exact wpAny_execs_nil ⟨σ1,H2,I2,q2⟩
end
theorem qz:entryFor table "proto.unchain" = some Builtin.«proto.unchain»:=entryFor_of_tree (by kernel_rfl)
def d8 (A:Around)(h:Heap):Prop:=∀ v,A.handled=some v→∃ (a:Addr) (o:Obj) (vs:Array Value),v=.ref a∧h.get? a=some o∧o.data=.fields vs∧vs[2]?=some .none
theorem oO {A:Around}{P:Program}{w:World}{H:Hp}{h:Heap}(q:Quiet A H)(x:HOk P w H h):d8 A h:=fun v e=>by
 obtain ⟨a,o,u,vs,h1,h2,h3,h4⟩:=q v e
 exact ⟨a,o,vs,h1,(x a _ h2).1,h3,h4⟩
theorem pR {α : Type}{prog:Program}{w:World}{A:Around}{E:Value→Shared→Prop}{s:Shared}{e:Addr}{oe:Obj}{ws:Array Value}{Q:α→Shared→Prop}(hq:d8 A s.heap)(he:s.heap.get? e=some oe)(hd:oe.data=.fields ws)(hz:2<ws.size)(hne:∀ v,A.handled=some v→v≠.ref e)
  (h:∀ h',(∀ b,b≠e→h'.get? b=s.heap.get? b)→(∃ o',h'.get? e=some o'∧o'.cls=oe.cls)→E (.ref e) { s with heap:=h' }):wpAny (model prog w) A (raiseNew (.ref e):Sem α) Q E s:=by
 unfold raiseNew
 refine wpAny_bind (wpAny_handled ?_)
 cases hh:A.handled with
 | none=>
  dsimp only
  refine wpAny_bind (wpAny_pure (wpAny_throw ?_))
  exact h s.heap (fun _ _=>rfl) ⟨oe,he,rfl⟩
 | some v=>
  obtain ⟨a,o,vs,rfl,ho,hdo,h2⟩:=hq v hh
  dsimp only
  have ne:(Value.ref a != Value.ref e)=true:=by
   have:=hne _ hh
   simp only [bne_iff_ne,ne_eq]
   exact this
  rw [if_pos ne]
  refine wpAny_bind (wpAny_holding (wpAny_runValue (codeAny_builtin qz ?_)))
  unfold Builtin.«proto.unchain»
  dsimp only
  refine wpAny_bind (wpAny_field ho hdo h2 ?_)
  rw [if_pos (show (Value.none==Value.none)=true from rfl)]
  refine wpAny_bind (wpAny_pure (wpAny_pure ?_))
  dsimp only
  refine wpAny_bind ?_
  unfold updateField
  refine wpAny_bind (wpAny_load he ?_)
  rw [hd]
  dsimp only
  rw [if_pos hz]
  refine wpAny_update he (wpAny_throw ?_)
  have hd3:=Obj.data_mapFields hd (·.setIfInBounds 2 (Value.ref a))
  exact h _ (fun b hb=>Heap.get?_update_other _ _ (Ne.symm hb)) ⟨_,Heap.get?_update_self _ he (Obj.isFreed_of_fields hd3),Obj.cls_mapFields _ _⟩
theorem range_end {prog:Program}{w:World}{A:Around}{E:Value→Shared→Prop}{s:Shared}{it:Addr}{x left step:Int}{Q:Option Value→Shared→Prop}(hh:d8 A s.heap)(hit:IsRangeIter s.heap it x left step)(hleft:left≤0)
  (hQ:∀ h',Heap.ExtBut it s.heap h'→Q none { s with heap:=h' }):wpAny (model prog w) A (pyNext (.ref it)) Q E s:=by
 have hT:s.TypeIs (.ref it) "range_iterator":=⟨_,hit,rfl⟩
 unfold pyNext
 refine wpAny_bind (wpAny_attempt (wpAny_callSpecial?_slot (name:=Str.ofString "__next__") hT F.slot_range_iterator_next
  (wpAny_call_entry F.slot_range_iterator_next hT F.entry_range_iterator_next ?_ (F.args_range_iterator_next_1 _))))
 show wpAny _ _ (field (.ref it) 0 >>= _) _ _ s
 refine wpAny_bind (wpAny_field hit rfl (x:=rawInt x) rfl ?_)
 show wpAny _ _ (field (.ref it) 1 >>= _) _ _ s
 refine wpAny_bind (wpAny_field hit rfl (x:=rawInt left) rfl ?_)
 show wpAny _ _ (field (.ref it) 2 >>= _) _ _ s
 refine wpAny_bind (wpAny_field hit rfl (x:=rawInt step) rfl ?_)
 show wpAny _ _ (if left≤0 then _ else _) _ _ s
 rw [if_pos hleft]
 refine wpAny_bind (wpAny_rule ?_)
 refine wpAny_bind ?_
 show wpAny _ _ (newExc (.type "StopIteration") [] >>= _) _ _ _
 refine wpAny_bind ?_
 simp only [newExc,newTuple]
 refine wpAny_bind (wpAny_newObj_type ?_ (by size_fits))
 refine wpAny_bind (m:=firstArgMember _ _) (wpAny_of_eq (a:=Value.none) (by first | rfl | (simp only [firstArgMember];rfl)) ?_)
 refine wpAny_newObj_type ?_ (by size_fits)
 refine pR (A:=A.in1) (fun v e=>?_) (Heap.get?_push_size _ rfl) rfl (by simp;omega) (fun v e=>?_) fun h' h1 ⟨o',h2,h3⟩=>?_
 ·obtain ⟨a,o,vs,r1,r2,r3⟩:=hh v e
  exact ⟨a,o,vs,r1,Heap.get?_push_of_some _ (Heap.get?_push_of_some _ r2),r3⟩
 ·obtain ⟨a,o,vs,r1,r2,r3⟩:=hh v e
  rw [r1]
  intro q
  have q:a=_:=Value.ref.inj q
  have:=Heap.lt_size r2
  rw [q] at this
  exact absurd this (Nat.not_lt.mpr (by simp [Heap.push]))
 refine wpAny_bind (wpAny_isInstance (T := "StopIteration") (b:=true) ⟨_,h2,h3⟩ isSubtype_stop ?_)
 refine wpAny_pure (hQ _ fun b o hb e=>?_)
 rw [h1 b ?_]
 ·exact Heap.get?_push_of_some _ (Heap.get?_push_of_some _ e)
 ·have:=Heap.lt_size e
  exact Nat.ne_of_lt (Nat.lt_of_lt_of_le this (by simp [Heap.push]))
structure It where
 go:Nat→Hp→Prop
 yld:Nat→Hp→V→Hp→Prop
 stop:Nat→Hp→Prop
 cm:Bool
def zM (X:Cx)(pins:List (Addr×Obj))(H:Hp)(b:Addr):Prop:=
 H b=none∧b≠X.env.locals∧b∉X.fs∧(b∈X.ex∨X.s₀.heap.objs.size≤b)∧(∀ x c,X.env.cells.lookup x=some c→c≠b)∧∀ p∈X.pn++pins,p.1≠b
theorem Inv.fpOk {X:Cx}{pins:List (Addr×Obj)}{σ : St}{H H':Hp}{s:Shared}{b:Addr}(I:Inv X pins σ H s)(hb:s.heap.objs.size≤b)(hn:H' b=none):zM X pins H' b:=by
 refine ⟨hn,Nat.ne_of_gt (Nat.lt_of_lt_of_le I.lt hb),I.nofs hb,.inr (Nat.le_trans I.sz hb),fun x c e z=>?_,fun p hp z=>?_⟩
 ·obtain ⟨v,q⟩:=I.cell x c e
  exact absurd (Nat.lt_of_lt_of_le q.lt (by rw [z];exact hb)) (Nat.lt_irrefl _)
 ·exact absurd (Nat.lt_of_lt_of_le (Heap.lt_size (I.pin p hp).1) (by rw [z];exact hb)) (Nat.lt_irrefl _)
structure Turn (P:Program) (w:World) (K:PySem.W.Frag) (tg:Expr) (J:It) (fp:List Addr) (it:Addr) (tn:Nat→Heap→Prop):Prop where
 mem:it∈fp
 obj:∀ i h,tn i h→∀ b∈fp,∃ o,h.get? b=some o∧∀ v,o.data≠.cell v
 keep:∀ i h h',tn i h→(∀ b∈fp,∀ o,h.get? b=some o→h'.get? b=some o)→tn i h'
 item:∀ (X:Cx),X.prog=P→X.w=w→X.K=K→(J.cm=true→X.calm=true)→∀ (i:Nat) (pins:List (Addr×Obj)) (s:Shared) (σ : St) (H:Hp) (E:Value→Shared→Prop),Inv X pins σ H s→(∀ b∈fp,zM X pins H b)→tn i s.heap→J.go i H →
  wpAny (model P w) X.A (pyNext (.ref it)) (fun r s1=>∃ u,r=some u ∧
   wpAny (model P w) X.A (letOwnedTupleGo tg (.ref it) u) (fun _ s2=>∃ x H',Inv X pins σ H' s2∧RelV x u∧J.yld i H x H'∧tn (i+1) s2.heap∧∀ b∈fp,H' b=none) E s1) E s
 done:∀ (X:Cx),X.prog=P→X.w=w→X.K=K→(J.cm=true→X.calm=true)→∀ (i:Nat) (pins:List (Addr×Obj)) (s:Shared) (σ : St) (H:Hp) (E:Value→Shared→Prop),Inv X pins σ H s→(∀ b∈fp,zM X pins H b)→tn i s.heap→J.stop i H →
  wpAny (model P w) X.A (pyNext (.ref it)) (fun r s1=>r=none∧Inv X pins σ H s1) E s
 self:∀ (A:Around) (i:Nat) (s:Shared) (Q:Value→Shared→Prop) (E:Value→Shared→Prop),tn i s.heap→Q (.ref it) s→wpAny (model P w) A (pyIter (.ref it)) Q E s
abbrev TI:=St→Hp→(It→Hp→Prop)→Prop
def PIE (X:Cx)(pins:List (Addr×Obj))(σ : St)(tg:Expr)(R:It→Hp→Prop)(itv:Value)(s2:Shared):Prop:=
 ∃ (it:Addr) (fp:List Addr) (tn:Nat→Heap→Prop) (J:It) (H':Hp),itv=.ref it∧Inv X pins σ H' s2∧Turn X.prog X.w X.K tg J fp it tn∧tn 0 s2.heap∧(∀ b∈fp,zM X pins H' b)∧R J H'
def PI (X:Cx)(tg iter:Expr)(wi:TI):Prop:=
 ∀ (pins:List (Addr×Obj)) (s:Shared) (σ : St) (H:Hp) (R:It→Hp→Prop),Inv X pins σ H s→wi σ H R →
  wpAny (model X.prog X.w) X.A (eval iter X.env) (fun v s1=>wpAny (model X.prog X.w) X.A (pyIter v) (PIE X pins σ tg R) X.xe s1) X.xe s
theorem zT {M:Model}{A:Around}{E:Value→Shared→Prop}{s:Shared}{tg:Expr}{it:Addr}{u:Value}{o:Obj}{n:String}{vs:Array Value}{Q:Unit→Shared→Prop}(ho:s.heap.get? it=some o)(hc:o.cls=.type n)(hd:o.data=.fields vs)
    (hn:["enumerate", "zip", "dict_itemiterator", "dict_reverseitemiterator", "odict_iterator", "itertools.zip_longest", "itertools.pairwise"].contains n=false) (hQ:Q () s):wpAny M A (letOwnedTupleGo tg (.ref it) u) Q E s:=by
  unfold letOwnedTupleGo
  cases tg <;> first
    | exact wpAny_pure hQ
    | (cases u <;> first
        | exact wpAny_pure hQ
        | (refine wpAny_bind (wpAny_load ho ?_)
           rw [hc,hd]
           show wpAny M A (if (["enumerate", "zip", "dict_itemiterator", "dict_reverseitemiterator", "odict_iterator", "itertools.zip_longest", "itertools.pairwise"].contains n&&vs[0]?==some (rawInt _))=true then _ else _) Q E s
           rw [if_neg (by intro h;rw [hn,Bool.false_and] at h;cases h)]
           exact wpAny_pure hQ))
def Itl (K:PySem.W.Frag)(a:Addr):It:=
 ⟨fun i H=>∃ xs x,SqL K H a xs∧xs[i]?=some x,fun i H x H'=>H'=H∧∀ xs,SqL K H a xs→xs[i]?=some x,fun i H=>∃ xs,SqL K H a xs∧xs.length≤i,true⟩
def Itt (K:PySem.W.Frag)(a:Addr):It:=
 ⟨fun i H=>∃ xs x,SqT K H a xs∧xs[i]?=some x,fun i H x H'=>H'=H∧∀ xs,SqT K H a xs→xs[i]?=some x,fun i H=>∃ xs,SqT K H a xs∧xs.length≤i,true⟩
def Itr (lo:Int)(n:Nat):It:=⟨fun i _=>i<n,fun i H x H'=>H'=H∧x=.int (lo+i),fun i _=>n≤i,false⟩
theorem turn_list {P:Program}{w:World}{K:PySem.W.Frag}{tg:Expr}(a it:Addr):Turn P w K tg (Itl K a) [it] it (fun i h=>h.IsListIter it a i) where
 mem:=by simp
 obj:=fun i h st b hb=>by
  have e:b=it:=by simpa using hb
  subst e
  obtain ⟨o,e,c,d⟩:=st
  exact ⟨o,e,fun v z=>by rw [d] at z;cases z⟩
 keep:=fun i h h' st k=>st.at fun o e=>k it (by simp) o e
 item:=by
  intro X hP hw hK hc i pins s σ H E I hf st hg
  subst hP hw hK
  obtain ⟨xs,x,hq,hx⟩:=hg
  obtain ⟨its,rv,p,hz⟩:=I.list hq
  obtain ⟨u,hu,ru⟩:=rv.get hx
  obtain ⟨f0,f1,f2,f3,f4,f5⟩:=hf it (by simp)
  refine wpAny_pyNext_list_item st p.isList (x:=u) (by simpa using hu) fun h' st' sb=>?_
  have I1:Inv X pins σ H { s with heap:=h' }:=I.turned (t':=s.toks) (fun b o hb e=>(sb.2 b hb).trans e) f0 f1 f3 f4 f5
  obtain ⟨o,e,c,d⟩:=id st'
  exact ⟨u,rfl,zT (s:={ s with heap:=h' }) e c d (by decide) ⟨x,H,I1,ru,⟨rfl,fun ys hy=>by rw [I.list_inj hy hq];exact hx⟩,st',fun b hb=>(hf b hb).1⟩⟩
 done:=by
  intro X hP hw hK hc i pins s σ H E I hf st hg
  subst hP hw hK
  obtain ⟨xs,hq,hx⟩:=hg
  obtain ⟨its,rv,p,hz⟩:=I.list hq
  obtain ⟨f0,f1,f2,f3,f4,f5⟩:=hf it (by simp)
  have hl:=rv.length
  exact wpAny_pyNext_list_end (I.ok.hd (hc rfl)) st p.isList (by simp;omega) fun h' eb=>⟨rfl,I.turned (t':=s.toks) (fun b o hb e=>eb b o hb e) f0 f1 f3 f4 f5⟩
 self:=fun _ _ _ _ _ st h=>wpAny_pyIter_listiter st h
theorem zc {P:Program}{w:World}{K:PySem.W.Frag}{tg:Expr}(a it:Addr):Turn P w K tg (Itt K a) [it] it (fun i h=>h.IsTupleIter it a i) where
 mem:=by simp
 obj:=fun i h st b hb=>by
  have e:b=it:=by simpa using hb
  subst e
  obtain ⟨o,e,c,d⟩:=st
  exact ⟨o,e,fun v z=>by rw [d] at z;cases z⟩
 keep:=fun i h h' st k=>st.at fun o e=>k it (by simp) o e
 item:=by
  intro X hP hw hK hc i pins s σ H E I hf st hg
  subst hP hw hK
  obtain ⟨xs,x,hq,hx⟩:=hg
  obtain ⟨its,rv,p,hz⟩:=I.tuple hq
  obtain ⟨u,hu,ru⟩:=rv.get hx
  obtain ⟨f0,f1,f2,f3,f4,f5⟩:=hf it (by simp)
  refine wpAny_pyNext_tuple_item st (show s.heap.IsTuple a its.toArray from p) (x:=u) (by simpa using hu) fun h' st' sb=>?_
  have I1:Inv X pins σ H { s with heap:=h' }:=I.turned (t':=s.toks) (fun b o hb e=>(sb.2 b hb).trans e) f0 f1 f3 f4 f5
  obtain ⟨o,e,c,d⟩:=id st'
  exact ⟨u,rfl,zT (s:={ s with heap:=h' }) e c d (by decide) ⟨x,H,I1,ru,⟨rfl,fun ys hy=>by rw [I.tuple_inj hy hq];exact hx⟩,st',fun b hb=>(hf b hb).1⟩⟩
 done:=by
  intro X hP hw hK hc i pins s σ H E I hf st hg
  subst hP hw hK
  obtain ⟨xs,hq,hx⟩:=hg
  obtain ⟨its,rv,p,hz⟩:=I.tuple hq
  obtain ⟨f0,f1,f2,f3,f4,f5⟩:=hf it (by simp)
  have hl:=rv.length
  exact wpAny_pyNext_tuple_end (I.ok.hd (hc rfl)) st (show s.heap.IsTuple a its.toArray from p) (by simp;omega) fun h' eb=>⟨rfl,I.turned (t':=s.toks) (fun b o hb e=>eb b o hb e) f0 f1 f3 f4 f5⟩
 self:=fun _ _ _ _ _ st h=>wpAny_pyIter_tupleiter st h
theorem zu {P:Program}{w:World}{K:PySem.W.Frag}{tg:Expr}(it:Addr)(lo:Int)(n:Nat):Turn P w K tg (Itr lo n) [it] it (fun i h=>IsRangeIter h it (lo+(i:Nat)*1) ((n:Int) - (i:Nat)) 1) where
 mem:=by simp
 obj:=fun i h st b hb=>by
  have e:b=it:=by simpa using hb
  subst e
  exact ⟨_,st,fun v z=>by
   have z':Data.fields _=Data.cell v:=z
   cases z'⟩
 keep:=fun i h h' st k=>k it (by simp) _ st
 item:=by
  intro X hP hw hK hc i pins s σ H E I hf st hg
  subst hP hw hK
  obtain ⟨f0,f1,f2,f3,f4,f5⟩:=hf it (by simp)
  refine wpAny_pyNext_range_item st (by have:i<n:=hg;omega) fun h' st' kk=>?_
  have I1:Inv X pins σ H { s with heap:=h',toks:=s.toks+1 }:=I.turned (fun b o hb e=>(kk.2 b hb).trans e) f0 f1 f3 f4 f5
  have st2:IsRangeIter h' it (lo+((i+1:Nat):Int)*1) ((n:Int) - ((i+1:Nat):Int)) 1:=by
   have e1:lo+((i+1:Nat):Int)*1=lo+((i:Nat):Int)*1+1:=by omega
   have e2:(n:Int) - ((i+1:Nat):Int)=(n:Int) - ((i:Nat):Int) - 1:=by omega
   rw [e1,e2]
   exact st'
  refine ⟨_,rfl,zT (s:={ s with heap:=h',toks:=s.toks+1 }) (n := "range_iterator") st' rfl rfl (by decide) ⟨.int (lo+i),H,I1,⟨s.toks,?_⟩,⟨rfl,rfl⟩,st2,fun b hb=>(hf b hb).1⟩⟩
  rw [Int.mul_one]
 done:=by
  intro X hP hw hK hc i pins s σ H E I hf st hg
  subst hP hw hK
  obtain ⟨f0,f1,f2,f3,f4,f5⟩:=hf it (by simp)
  exact range_end (oO I.qt0 I.hok) st (by have:n≤i:=hg;omega) fun h' eb=>⟨rfl,I.turned (t':=s.toks) (fun b o hb e=>eb b o hb e) f0 f1 f3 f4 f5⟩
 self:=fun _ _ _ _ _ st h=>wpAny_pyIter_rangeiter st h
end L2
namespace L2
open PySem PySem.Spec PyProof.Rows
section
variable {X:Cx}{tg:Expr}
theorem wz {pins:List (Addr×Obj)}{σ : St}{H:Hp}{s:Shared}{R:It→Hp→Prop}{E:Value→Shared→Prop}{lo hi:Int}{t u v:Tok}{tk:Nat}(I:Inv X pins σ H s)(h1:-(2^62)≤lo)(h2:lo<2^62)(h3:-(2^62)≤hi)(h4:hi<2^62)
  (q:R (Itr lo (hi - lo).toNat) H):wpAny (model X.prog X.w) X.A (pyIter (.ref s.heap.objs.size)) (PIE X pins σ tg R) E { s with heap:=s.heap.push { cls:=.type "range",data:=.fields #[.int lo t,.int hi u,.int 1 v] },toks:=tk }:=by
 refine wpAny_pyIter_range (IsRange.new ..) (small_one h1 h2 h3 h4) ?_
 have I1:Inv X pins σ H { s with heap:=s.heap.push { cls:=.type "range",data:=.fields #[.int lo t,.int hi u,.int 1 v] },toks:=tk }:=I.kept fun b o e=>Heap.get?_push_of_some _ e
 refine ⟨(s.heap.push { cls:=.type "range",data:=.fields #[.int lo t,.int hi u,.int 1 v] }).objs.size,[(s.heap.push { cls:=.type "range",data:=.fields #[.int lo t,.int hi u,.int 1 v] }).objs.size],_,_,H,rfl,
  I1.kept (t':=tk) fun b o e=>Heap.get?_push_of_some _ e,zu _ lo (hi - lo).toNat,?_,fun b hb=>?_,q⟩
 ·have e1:lo+((0:Nat):Int)*1=lo:=by simp
  have e2:(((hi - lo).toNat:Nat):Int) - ((0:Nat):Int)=Builtin.Range.rangeSize lo hi 1:=by rw [rangeSize_one];split <;> omega
  show IsRangeIter _ _ (lo+((0:Nat):Int)*1) ((((hi - lo).toNat:Nat):Int) - ((0:Nat):Int)) 1
  rw [e1,e2]
  exact Heap.get?_push_size _ rfl
 ·have e:b=(s.heap.push { cls:=.type "range",data:=.fields #[.int lo t,.int hi u,.int 1 v] }).objs.size:=by simpa using hb
  subst e
  exact I1.fpOk (Nat.le_refl _) (I1.hok.fresh (Nat.le_refl _))
def iRng1 (ta:TA):TI:=fun σ H R=>ta σ H fun vs H1=>∃ j:Int,vs=[.int j]∧-(2^62)≤j∧j<2^62∧R (Itr 0 j.toNat) H1
def iRng2 (ta:TA):TI:=fun σ H R=>ta σ H fun vs H1=>∃ i j:Int,vs=[.int i,.int j]∧(-(2^62)≤i∧i<2^62∧-(2^62)≤j∧j<2^62)∧R (Itr i (j - i).toNat) H1
theorem pi_range1 {a:Expr}{ta:TA}{p pos:Pos}(hg:Gl X "range")(hm:X.mg "range" = none)(ha:PA X [a] ta)(hs:starEach [a] X.env=[(false,eval a X.env)]:=by rfl):PI X tg (.Call (.Name "range" p) [a] [] pos) (iRng1 ta):=by
 intro pins s σ H R I h
 refine Call_ (mO I hg hm boot_range (PyProof.Rows.callWith_type1 (thn (ha pos pins s σ H _ I h) fun us s1 ⟨vs,H1,I1,r1,q1⟩=>?_) hs rfl))
 obtain ⟨j,e,q1,q2,q⟩:=q1
 subst e
 cases r1 with
 | cons r rr=>
  cases rr
  obtain ⟨t,rfl⟩:=r
  exact call_range_1 (wz I1 (by omega) (by omega) q1 q2 (by simpa using q))
theorem pi_range2 {a b:Expr}{ta:TA}{p pos:Pos}(hg:Gl X "range")(hm:X.mg "range" = none)(ha:PA X [a,b] ta)(hs:starEach [a,b] X.env=[(false,eval a X.env),(false,eval b X.env)]:=by rfl)(hs2:starEach [b] X.env=[(false,eval b X.env)]:=by rfl) :
  PI X tg (.Call (.Name "range" p) [a,b] [] pos) (iRng2 ta):=by
 intro pins s σ H R I h
 refine Call_ (mO I hg hm boot_range (PyProof.Rows.callWith_type1 (thn (ha pos pins s σ H _ I h) fun us s1 ⟨vs,H1,I1,r1,q1⟩=>?_) (by rw [hs,hs2]) (by rw [hs2];rfl)))
 obtain ⟨i,j,e,⟨q1,q2,q3,q4⟩,q⟩:=q1
 subst e
 cases r1 with
 | cons r rr=>
  cases rr with
  | cons r' rr=>
   cases rr
   obtain ⟨t,rfl⟩:=r
   obtain ⟨t',rfl⟩:=r'
   exact call_range_2 (wz I1 q1 q2 q3 q4 q)
def tFor (wi:TI)(g:TG)(tb:TS):TS:=fun D σ H=>wi σ H fun J H1=>∃ W:Nat→Nat→St→Hp→Prop,(∃ m,W 0 m σ H1)∧∀ i m σ H,W i m σ H →
 (J.stop i H∧D.nx σ H)∨(J.go i H∧∃ N:St→Hp→Prop,(∀ σ' H',N σ' H'→∃ m',m'<m∧W (i+1) m' σ' H')∧∀ x H',J.yld i H x H'→g x σ H' fun σ2 H2=>tb { D with nx:=N,ct:=N,bk:=D.nx } σ2 H2)
def tG (fp:List Addr)(h:Heap):List (Addr×Obj):=fp.filterMap fun b=>(h.get? b).map fun o=>(b,o)
theorem fY {fp:List Addr}{h:Heap}{b:Addr}{o:Obj}(hb:b∈fp)(e:h.get? b=some o):(b,o)∈tG fp h:=List.mem_filterMap.mpr ⟨b,hb,by rw [e];rfl⟩
theorem of_pinsAt {fp:List Addr}{h:Heap}{p:Addr×Obj}(hp:p∈tG fp h):p.1∈fp∧h.get? p.1=some p.2:=by
 obtain ⟨b,hb,e⟩:=List.mem_filterMap.mp hp
 cases q:h.get? b with
 | none=>rw [q] at e;cases e
 | some o=>
  rw [q] at e
  have e':(b,o)=p:=Option.some.inj e
  subst e'
  exact ⟨hb,q⟩
theorem Inv.pinned {pins:List (Addr×Obj)}{σ : St}{H:Hp}{s:Shared}{fp:List Addr}(I:Inv X pins σ H s)(hf:∀ b∈fp,zM X pins H b)(ho:∀ b∈fp,∃ o,s.heap.get? b=some o∧∀ v,o.data≠.cell v):Inv X (pins++tG fp s.heap) σ H s:=
 I.pins_of fun p hp=>(List.mem_append.mp hp).elim (fun z=>I.pin p (List.mem_append_right _ z)) fun z=>by
  obtain ⟨hb,e⟩:=of_pinsAt z
  obtain ⟨f0,f1,f2,_⟩:=hf p.1 hb
  obtain ⟨o,e',d⟩:=ho p.1 hb
  rw [e] at e';cases e'
  exact ⟨e,f0,f1,f2,d⟩
theorem Inv.unpinned {pins pl:List (Addr×Obj)}{σ : St}{H:Hp}{s:Shared}(I:Inv X (pins++pl) σ H s):Inv X pins σ H s:=I.pins_of fun p hp=>I.pin p (List.mem_append_right _ (List.mem_append_left _ hp))
theorem ps_for {iter:Expr}{body:List Stmt}{wi:TI}{g:TG}{tb:TS}{pos:Pos}(hp:PassesOwn (model X.prog X.w) X.A X.env X.xe)(hc:X.calm=true)(hi:PI X tg iter wi)(hg:PG X tg g)(hb:PSs X body tb)
  (hs:∀ x,foldedSetIterable iter X.env x=pure x:=by intro _;rfl):PS X (.For tg iter body [] pos) (tFor wi g tb):=by
 intro pins s σ H D I h
 refine wpAny_For (thn (hi pins s σ H _ I h) fun v s1 h1=>thn h1 fun itv s2 h2=>?_) hs
 obtain ⟨it,fp,tn,J,H2,e,I2,T,st2,f2,W,⟨m0,w0⟩,turn⟩:=h2
 subst e
 -- what stays true of the iterator's objects through the loop
 have stat:∀ {H':Hp},(∀ b∈fp,H' b=none)→∀ b∈fp,zM X pins H' b:=fun hn b hb=>⟨hn b hb,(f2 b hb).2⟩
 refine codeAny_forLoop_any (fun n s'=>∃ i σ' H',Inv X pins σ' H' s'∧tn i s'.heap∧(∀ b∈fp,H' b=none)∧W i n σ' H') ?_ m0 ⟨0,σ,H2,I2,st2,fun b hb=>(f2 b hb).1,w0⟩
 rintro n s3 ⟨i,σ3,H3,I3,st3,fr3,w3⟩
 rcases turn i n σ3 H3 w3 with ⟨stop,qn⟩ | ⟨go,N,hN,step⟩
 ·refine wpAny_passesOwn hp (thn (T.done X rfl rfl rfl (fun _=>hc) i pins s3 σ3 H3 X.xe I3 (stat fr3) st3 stop) fun r s4 ⟨hr,I4⟩=>?_)
  subst hr
  exact wpAny_execs_nil ⟨σ3,H3,I4,qn⟩
 ·refine wpAny_passesOwn hp (thn (T.item X rfl rfl rfl (fun _=>hc) i pins s3 σ3 H3 X.xe I3 (stat fr3) st3 go) fun r s4 ⟨u,hr,h4⟩=>?_)
  subst hr
  refine wpAny_passesOwn hp (thn h4 fun _ s5 ⟨x,H5,I5,r5,y5,st5,fr5⟩=>?_)
  have I5':=I5.pinned (stat fr5) (T.obj _ _ st5)
  refine wpAny_passesOwn hp (thn (hg _ s5 σ3 H5 x u _ I5' r5 (step x H5 y5)) fun _ s6 ⟨σ6,H6,I6,q6⟩=>?_)
  refine wpAny_passesOwn hp (thn (hb _ s6 σ6 H6 _ I6 q6) fun f s7 q7=>?_)
  have again:∀ {σ7:St} {H7:Hp},Inv X (pins++tG fp s5.heap) σ7 H7 s7→N σ7 H7→∃ m,m<n∧∃ i σ' H',Inv X pins σ' H' s7∧tn i s7.heap∧(∀ b∈fp,H' b=none)∧W i m σ' H':=fun {σ7 H7} I7 n7=>by
   obtain ⟨m',hm,w7⟩:=hN σ7 H7 n7
   refine ⟨m',hm,i+1,σ7,H7,I7.unpinned,T.keep _ _ _ st5 fun b hb o e=>(I7.pin (b,o) (List.mem_append_right _ (List.mem_append_right _ (fY hb e)))).1,fun b hb=>?_,w7⟩
   obtain ⟨o,e,d⟩:=T.obj _ _ st5 b hb
   exact (I7.pin (b,o) (List.mem_append_right _ (List.mem_append_right _ (fY hb e)))).2.1
  cases f with
  | next=>obtain ⟨σ7,H7,I7,n7⟩:=q7;exact again I7 n7
  | cont=>obtain ⟨σ7,H7,I7,n7⟩:=q7;exact again I7 n7
  | brk=>obtain ⟨σ7,H7,I7,q7⟩:=q7;exact ⟨σ7,H7,I7.unpinned,q7⟩
  | ret v=>obtain ⟨x7,σ7,H7,I7,r7,q7⟩:=q7;exact ⟨x7,σ7,H7,I7.unpinned,r7,q7⟩
end
end L2
namespace L2
open PySem PySem.Spec PyProof.Rows
abbrev R2:=V→V→Hp→VK→Prop
def OpR (X:Cx)(f:Value→Value→Sem Value)(r:R2):Prop:=
 ∀ (pins:List (Addr×Obj)) (s:Shared) (σ : St) (H:Hp) (x y:V) (v u:Value) (Q:VK),Inv X pins σ H s→RelV x v→RelV y u→r x y H Q →
  wpAny (model X.prog X.w) X.A (f v u) (EP X pins σ Q) X.xe s
def UnR (X:Cx)(f:Value→Sem Value)(r:V→Hp→VK→Prop):Prop:=
 ∀ (pins:List (Addr×Obj)) (s:Shared) (σ : St) (H:Hp) (x:V) (v:Value) (Q:VK),Inv X pins σ H s→RelV x v→r x H Q →
  wpAny (model X.prog X.w) X.A (f v) (EP X pins σ Q) X.xe s
def dz (X:Cx)(f:Value)(r:List V→Hp→VK→Prop):Prop:=
 ∀ (pins:List (Addr×Obj)) (s:Shared) (σ : St) (H:Hp) (xs:List V) (us:List Value) (Q:VK),Inv X pins σ H s→Vals xs us→r xs H Q →
  wpAny (model X.prog X.w) X.A (call f us) (EP X pins σ Q) X.xe s
def TruR (X:Cx)(r:V→Hp→(Bool→Hp→Prop)→Prop):Prop:=
 ∀ (pins:List (Addr×Obj)) (s:Shared) (σ : St) (H:Hp) (x:V) (v:Value) (Q:Bool→Hp→Prop),Inv X pins σ H s→RelV x v→r x H Q →
  wpAny (model X.prog X.w) X.A (truthy v) (TP X pins σ Q) X.xe s
def tOp (r:R2)(ta tb:TE):TE:=fun σ H Q=>ta σ H fun x H1=>tb σ H1 fun y H2=>r x y H2 Q
def tUn (r:V→Hp→VK→Prop)(ta:TE):TE:=fun σ H Q=>ta σ H fun x H1=>r x H1 Q
def rI (C:Int→Int→Prop)(g:Int→Int→V):R2:=fun x y H Q=>∃ i j,x=.int i∧y=.int j∧C i j∧Q (g i j) H
def rI0 (g:Int→Int→V):R2:=fun x y H Q=>∃ i j,x=.int i∧y=.int j∧Q (g i j) H
def rU (g:Int→V):V→Hp→VK→Prop:=fun x H Q=>∃ i,x=.int i∧Q (g i) H
section
variable {X:Cx}{a b c:Expr}{ta tb tc:TE}{pos:Pos}
theorem binT (ha:PE X a ta)(hb:PE X b tb){pins:List (Addr×Obj)}{s:Shared}{σ : St}{H:Hp}{R:V→V→Hp→Prop}(I:Inv X pins σ H s)
  (h:ta σ H fun x H1=>tb σ H1 fun y H2=>R x y H2) {Q:Value→Shared→Prop} {f:Value→Value→Sem Value}
  (hf:∀ v u s2 x y H2,Inv X pins σ H2 s2→RelV x v→RelV y u→R x y H2→wpAny (model X.prog X.w) X.A (f v u) Q X.xe s2) :
  wpAny (model X.prog X.w) X.A (eval a X.env) (fun v s₁=>wpAny (model X.prog X.w) X.A (eval b X.env) (fun u s₂=>wpAny (model X.prog X.w) X.A (f v u) Q X.xe s₂) X.xe s₁) X.xe s:=by
 refine thn (ha pins s σ H _ I h) fun v s1 ⟨x,H1,I1,r1,q1⟩=>?_
 refine thn (hb pins s1 σ H1 _ I1 q1) fun u s2 ⟨y,H2,I2,r2,q2⟩=>?_
 exact hf v u s2 x y H2 I2 r1 r2 q2
theorem pe_op {op:Operator}{r:R2}(ho:OpR X (binaryOp op) r)(ha:PE X a ta)(hb:PE X b tb):PE X (.BinOp a op b pos) (tOp r ta tb):=by
 intro pins s σ H Q I h
 exact wpAny_BinOp (binT ha hb I h fun v u s2 x y H2 I2 rx ry q=>ho pins s2 σ H2 x y v u Q I2 rx ry q)
theorem pe_un {op:UnaryOp}{r:V→Hp→VK→Prop}(ho:UnR X (unaryOp op) r)(ha:PE X a ta):PE X (.UnaryOp op a pos) (tUn r ta):=by
 intro pins s σ H Q I h
 exact UnaryOp_ (thn (ha pins s σ H _ I h) fun v s1 ⟨x,H1,I1,r1,q1⟩=>ho pins s1 σ H1 x v Q I1 r1 q1)
theorem opI {f:Value→Value→Sem Value}{C:Int→Int→Prop}{g:Int→Int→Int}
  (rule:∀ (i j:Int) (t u:Tok) (s:Shared) (Q:Value→Shared→Prop) (E:Value→Shared→Prop),C i j→Q (.int (g i j) s.toks) { s with toks:=s.toks+1 }→wpAny (model X.prog X.w) X.A (f (.int i t) (.int j u)) Q E s) :
  OpR X f (rI C fun i j=>.int (g i j)):=by
 intro pins s σ H x y v u Q I rx ry h
 obtain ⟨i,j,rfl,rfl,hc,q⟩:=h
 obtain ⟨t,rfl⟩:=rx
 obtain ⟨t',rfl⟩:=ry
 exact rule i j t t' s _ _ hc ⟨.int (g i j),H,I.tok _,⟨_,rfl⟩,q⟩
theorem opI0 {f:Value→Value→Sem Value}{g:Int→Int→Int}
  (rule:∀ (i j:Int) (t u:Tok) (s:Shared) (Q:Value→Shared→Prop) (E:Value→Shared→Prop),Q (.int (g i j) s.toks) { s with toks:=s.toks+1 }→wpAny (model X.prog X.w) X.A (f (.int i t) (.int j u)) Q E s) :
  OpR X f (rI0 fun i j=>.int (g i j)):=by
 intro pins s σ H x y v u Q I rx ry h
 obtain ⟨i,j,rfl,rfl,q⟩:=h
 obtain ⟨t,rfl⟩:=rx
 obtain ⟨t',rfl⟩:=ry
 exact rule i j t t' s _ _ ⟨.int (g i j),H,I.tok _,⟨_,rfl⟩,q⟩
theorem opB0 {f:Value→Value→Sem Value}{g:Int→Int→Bool}
  (rule:∀ (i j:Int) (t u:Tok) (s:Shared) (Q:Value→Shared→Prop) (E:Value→Shared→Prop),Q (.bool (g i j)) s→wpAny (model X.prog X.w) X.A (f (.int i t) (.int j u)) Q E s) :
  OpR X f (rI0 fun i j=>.bl (g i j)):=by
 intro pins s σ H x y v u Q I rx ry h
 obtain ⟨i,j,rfl,rfl,q⟩:=h
 obtain ⟨t,rfl⟩:=rx
 obtain ⟨t',rfl⟩:=ry
 exact rule i j t t' s _ _ ⟨.bl (g i j),H,I,rfl,q⟩
def CPow (i j:Int):Prop:=0≤j∧j≤1000000∧i.natAbs<2^64
theorem op_add:OpR X (binaryOp .Add) (rI0 fun i j=>.int (i+j)):=opI0 fun _ _ _ _ _ _ _ q=>add_int q
theorem op_sub:OpR X (binaryOp .Sub) (rI0 fun i j=>.int (i - j)):=opI0 fun _ _ _ _ _ _ _ q=>sub_int q
theorem op_modN:OpR X (binaryOp .Mod) (rI (fun _ j=>j≠0) fun i j=>.int (i.fmod j)):=opI fun _ _ _ _ _ _ _ hc q=>mod_int' hc q
theorem op_pow:OpR X (binaryOp .Pow) (rI CPow fun i j=>.int (i^j.toNat)):=opI fun _ _ _ _ _ _ _ hc q=>pow_int_small hc.1 hc.2.1 hc.2.2 q
theorem unI {f:Value→Sem Value}{g:Int→Int}
  (rule:∀ (i:Int) (t:Tok) (s:Shared) (Q:Value→Shared→Prop) (E:Value→Shared→Prop),Q (.int (g i) s.toks) { s with toks:=s.toks+1 }→wpAny (model X.prog X.w) X.A (f (.int i t)) Q E s) :
  UnR X f (rU fun i=>.int (g i)):=by
 intro pins s σ H x v Q I rx h
 obtain ⟨i,rfl,q⟩:=h
 obtain ⟨t,rfl⟩:=rx
 exact rule i t s _ _ ⟨.int (g i),H,I.tok _,⟨_,rfl⟩,q⟩
theorem un_neg:UnR X (unaryOp .USub) (rU fun i=>.int (-i)):=unI fun _ _ _ _ _ q=>neg_int q
end
section
variable {X:Cx}{a b c:Expr}{ta tb tc:TE}{pos:Pos}
theorem fin_bl {pins:List (Addr×Obj)}{σ : St}{H:Hp}{s:Shared}{Q:VK}{k k':Bool}(I:Inv X pins σ H s)(q:Q (.bl k) H)(e:k=k'):EP X pins σ Q (.bool k') s:=by
 subst e
 exact ⟨.bl k,H,I,rfl,q⟩
theorem op_lt:OpR X (compareOp .Lt) (rI0 fun i j=>.bl (decide (i<j))):=opB0 fun _ _ _ _ _ _ _ q=>lt_int q
theorem op_gt:OpR X (compareOp .Gt) (rI0 fun i j=>.bl (decide (j<i))):=opB0 fun _ _ _ _ _ _ _ q=>gt_int q
theorem OpR.or {f:Value→Value→Sem Value}{r r':R2}(h:OpR X f r)(h':OpR X f r'):OpR X f (fun x y H Q=>r x y H Q∨r' x y H Q):=by
 intro pins s σ H x y v u Q I rx ry q
 rcases q with q | q
 ·exact h pins s σ H x y v u Q I rx ry q
 ·exact h' pins s σ H x y v u Q I rx ry q
theorem aW (b:Expr){op:CmpOp}(h:op≠.In:=by decide)(h2:op≠.NotIn:=by decide):behindInMarks op b=false:=by
 have e1:(op==CmpOp.In)=false:=by cases op <;> first | rfl | exact absurd rfl h
 have e2:(op==CmpOp.NotIn)=false:=by cases op <;> first | rfl | exact absurd rfl h2
 cases b <;> simp [behindInMarks,e1,e2]
theorem pe_cmpR {op:CmpOp}{r:R2}(ho:OpR X (compareOp op) r)(ha:PE X a ta)(hb:PE X b tb)(hm:behindInMarks op b=false):PE X (.Compare a [op] [b] pos) (tOp r ta tb):=by
 intro pins s σ H Q I h
 exact wpAny_Compare1 (binT ha hb I h fun v u s2 x y H2 I2 rx ry q=>ho pins s2 σ H2 x y v u Q I2 rx ry q) hm
def tTest (t:TE):TT:=fun σ H Q=>t σ H fun x H'=>∃ k,x=.bl k∧Q k H'
theorem pt_cmpR {op:CmpOp}{r:R2}(ho:OpR X (compareOp op) r)(ha:PE X a ta)(hb:PE X b tb)(hm:behindInMarks op b=false):PT X (.Compare a [op] [b] pos) (tTest (tOp r ta tb)):=by
 intro pins s σ H Q I h
 refine wpAny_isTrue_Compare1 (thn (ha pins s σ H _ I h) fun v s1 ⟨x,H1,I1,r1,q1⟩=>thn (hb pins s1 σ H1 _ I1 q1) fun u s2 ⟨y,H2,I2,r2,q2⟩=>
  thn (ho pins s2 σ H2 x y v u _ I2 r1 r2 q2) fun c s3 ⟨z,H3,I3,r3,k,e,q3⟩=>?_) hm
 subst e
 cases r3
 exact wpAny_truthy_bool ⟨H3,I3,q3⟩
def TruV (K:PySem.W.Frag)(x:V)(H:Hp)(k:Bool):Prop:=
 match x with
 | .non=>k=false
 | .bl b=>k=b
 | .int i=>k=(i != 0)
 | .str y=>y.length≤sizeLine∧k=((y.length:Int) != 0)
 | .byt y=>y.size≤sizeLine∧k=((y.size:Int) != 0)
 | .ref p=>(∃ xs,SqL K H p xs∧k = !xs.isEmpty)∨(∃ xs,SqT K H p xs∧k = !xs.isEmpty)∨∃ kvs,H p=some (.dK kvs)∧k = !kvs.isEmpty
 | _=>False
theorem zx {κ : Type}{kvs:List (κ×V)}{vs:List (κ×Value)}(r:KV kvs vs):(!vs.isEmpty) = !kvs.isEmpty:=by
 cases r <;> rfl
theorem pU {xs:List V}{its:List Value}(r:Vals xs its):(!its.toArray.isEmpty) = !xs.isEmpty:=by
 cases r <;> simp
theorem jU:(sizeLine:Nat)<2^63:=by rw [sizeLine_eq];decide
theorem tru_ok:TruR X (fun x H Q=>∃ k,TruV X.K x H k∧Q k H):=by
 intro pins s σ H x v Q I rx h
 obtain ⟨k,e,q⟩:=h
 have hl:=jU
 have hs:sizeLine=16777216:=sizeLine_eq
 cases x with
 | non=>
  cases rx
  have e':k=false:=e
  subst e'
  exact truthy_none ⟨H,I,q⟩
 | bl b=>
  cases rx
  have e':k=b:=e
  subst e'
  exact wpAny_truthy_bool ⟨H,I,q⟩
 | int i=>
  obtain ⟨t,rfl⟩:=rx
  have e':k=(i != 0):=e
  subst e'
  exact PySem.P.truthy_int ⟨H,I,q⟩
 | str y=>
  obtain ⟨t,rfl⟩:=rx
  obtain ⟨hy,e'⟩:y.length≤sizeLine∧k=((y.length:Int) != 0):=e
  subst e'
  exact PySem.P.truthy_str (by omega) ⟨H,I.tok _,q⟩
 | byt y=>
  obtain ⟨t,rfl⟩:=rx
  obtain ⟨hy,e'⟩:y.size≤sizeLine∧k=((y.size:Int) != 0):=e
  subst e'
  exact PySem.W.truthy_bytes (by omega) ⟨H,I.tok _,q⟩
 | ref p=>
  cases rx
  have e':(∃ xs,SqL X.K H p xs∧k = !xs.isEmpty)∨(∃ xs,SqT X.K H p xs∧k = !xs.isEmpty)∨∃ kvs,H p=some (.dK kvs)∧k = !kvs.isEmpty:=e
  rcases e' with ⟨xs,hx,e'⟩ | ⟨xs,hx,e'⟩ | ⟨kvs,hx,e'⟩
  ·subst e'
   obtain ⟨its,r,pl,hz⟩:=I.list hx
   have hlen:=r.length
   exact wpAny_truthy_list pl.isList (by simp only [List.size_toArray];omega) ⟨H,I.tok _,by rw [pU r];exact q⟩
  ·subst e'
   obtain ⟨its,r,pl,hz⟩:=I.tuple hx
   have hlen:=r.length
   exact truthy_tuple pl (by simp only [List.size_toArray];omega) ⟨H,I.tok _,by rw [pU r];exact q⟩
  ·subst e'
   obtain ⟨hz,hS,vs,r,m⟩:kvs.length≤sizeLine∧(p==sysModules)=false∧∃ vs,KV kvs vs∧s.heap.DictOf (vO X.prog X.w) p vs:=I.hok p _ hx
   have hlen:kvs.length=vs.length:=Paired.length r
   exact wpAny_truthy_dict hS m (by omega) ⟨H,I.tok _,by rw [zx r];exact q⟩
 | _=>exact (show False from e).elim
theorem pt_truth (ha:PE X a ta)(he:∀ whole,isTrue a X.env whole=(do let v ←whole;standAt a.pos;holding [v] (truthy v))) :
  PT X a (fun σ H Q=>ta σ H fun x H'=>∃ k,TruV X.K x H' k∧Q k H'):=by
 intro pins s σ H Q I h
 exact isTrue_plain (thn (ha pins s σ H _ I h) fun v s1 ⟨x,H1,I1,r1,q1⟩=>tru_ok pins s1 σ H1 x v Q I1 r1 q1) (he _)
theorem vals1 {x:V}{us:List Value}(r:Vals [x] us):∃ u,us=[u]∧RelV x u:=by
 cases r with
 | cons r1 r2=>cases r2;exact ⟨_,rfl,r1⟩
theorem vals2 {x y:V}{us:List Value}(r:Vals [x,y] us):∃ u w',us=[u,w']∧RelV x u∧RelV y w':=by
 cases r with
 | cons r1 r2=>
  cases r2 with
  | cons r3 r4=>cases r4;exact ⟨_,_,rfl,r1,r3⟩
theorem call_abs:dz X (.builtin "abs") (fun xs H Q=>∃ i,xs=[.int i]∧Q (.int (if i<0 then -i else i)) H):=by
 intro pins s σ H xs us Q I r h
 obtain ⟨i,rfl,q⟩:=h
 obtain ⟨u,rfl,t,rfl⟩:=vals1 r
 exact call_abs_int fun u tk=>⟨.int (if i<0 then -i else i),H,I.tok _,⟨_,rfl⟩,q⟩
theorem call_max2 (hc:X.calm=true):dz X (.builtin "max") (fun xs H Q=>∃ i j,xs=[.int i,.int j]∧Q (.int (if j>i then j else i)) H):=by
 intro pins s σ H xs us Q I r h
 obtain ⟨i,j,rfl,q⟩:=h
 obtain ⟨u,w',rfl,⟨t,rfl⟩,⟨t',rfl⟩⟩:=vals2 r
 refine max_two_ints (I.ok.hd hc) fun h' tk k=>⟨_,H,I.kept k,?_,q⟩
 by_cases hj:j>i
 ·rw [if_pos hj,if_pos hj];exact ⟨_,rfl⟩
 ·rw [if_neg hj,if_neg hj];exact ⟨_,rfl⟩
theorem call_int1:dz X (.type "int") (fun xs H Q=>(∃ i,xs=[.int i]∧Q (.int i) H)∨∃ k,xs=[.bl k]∧Q (.int (if k then 1 else 0)) H):=by
 intro pins s σ H xs us Q I r h
 rcases h with ⟨i,rfl,q⟩ | ⟨k,rfl,q⟩
 ·obtain ⟨u,rfl,t,rfl⟩:=vals1 r
  exact call_int_int ⟨.int i,H,I,⟨_,rfl⟩,q⟩
 ·obtain ⟨u,rfl,r1⟩:=vals1 r
  cases r1
  exact call_int_bool ⟨.int (if k then 1 else 0),H,I.tok _,⟨_,rfl⟩,q⟩
end
end L2
namespace L2
open PySem PySem.Spec PyProof.Rows
structure ObjM (h:Heap) (x dx C:Addr) (mA:Str→Option Value):Prop where
 obj:h.get? x=some (PySem.W.instObj C dx)
 ns:h.Ns1 dx mA
 ne:dx≠x
section
variable {prog:Program}{w:World}{A:Around}{E:Value→Shared→Prop}{s:Shared}{K:PySem.W.Frag}{x dx C f:Addr}{mA:Str→Option Value}{name:Str}{v:Value}
end
section
variable {P:Program}{w:World}{H H':Hp}{h h':Heap}{a C dx:Addr}{fs fs':List (Str×V)}
end
structure Cls (K:PySem.W.Frag) (C:Addr):Prop where
 pg:PySem.W.plainGet K C Str.empty=true
 hd:PySem.W.hasDictIn K C=true
 po:PySem.W.plainOver K C=true
 sa:PySem.W.findIn K (.ref C) "__setattr__" = some (some (.builtin "object.__setattr__"))
structure Con (K:PySem.W.Frag) (C:Addr) (f:Str) (v:V) (u:Value):Prop where
 at_:PySem.W.findIn K (.ref C) f=some (some u)
 rel:RelV v u
 get:PySem.W.specialIn K u "__get__" = some none
 cp:PySem.W.copiedNames.contains f=false
structure Meth (K:PySem.W.Frag) (C:Addr) (m:Str) (f:Addr):Prop where
 at_:PySem.W.findIn K (.ref C) m=some (some (.ref f))
 fn:PySem.W.isFn K (.ref f)=true
 kp:PySem.W.keepIn K (.ref f)=true
section
variable {X:Cx}{pins:List (Addr×Obj)}{σ : St}{H:Hp}{s:Shared}{a C dx:Addr}{fs:List (Str×V)}{f:Str}{v:V}{A:Around}{E:Value→Shared→Prop}
end
section
variable {X:Cx}{o e value:Expr}{f:Str}{pos pos' tpos:Pos}{ta tv:TE}
end
section
variable {X:Cx}{pins:List (Addr×Obj)}{σ : St}{H:Hp}{s:Shared}{A:Around}{E:Value→Shared→Prop}{Q:Value→Shared→Prop}{c:Value}{b:Bool}
inductive TyOf (K:PySem.W.Frag) (H:Hp):V→Value→Prop where
 | non:TyOf K H .non (.type "NoneType")
 | bl (x:Bool):TyOf K H (.bl x) (.type "bool")
 | int (i:Int):TyOf K H (.int i) (.type "int")
 | str (x:Str):TyOf K H (.str x) (.type "str")
 | flt (x:UInt64):TyOf K H (.flt x) (.type "float")
 | lst {a:Addr} {xs:List V} (e:H a=some (.lst xs)):TyOf K H (.ref a) (.type "list")
 | frz {a:Addr} {o:Obj} {xs:List V} (e:H a=some (.frz o (.lst xs))):TyOf K H (.ref a) (.type "list")
 | tup {a:Addr} {xs:List V} (e:H a=some (.tup xs)):TyOf K H (.ref a) (.type "tuple")
 | dK {a:Addr} {kvs:List (Key×V)} (e:H a=some (.dK kvs)):TyOf K H (.ref a) (.type "dict")
 | dT {a:Addr} {kvs:List (List Key×V)} (e:H a=some (.dT kvs)):TyOf K H (.ref a) (.type "dict")
 | ins {a C dx:Addr} {fs:List (Str×V)} (e:H a=some (.ins C dx fs)) (cl:Cls K C) (ha:PySem.W.findIn K (.ref C) "__class__" = some (some (.builtin "object.__class__")))
   (hn:PySem.W.specialIn K (.builtin "object.__class__") "__get__" = some (some (.builtin "getset_descriptor.__get__"))) (htk:PySem.W.takesIn K (.builtin "object.__class__")=some true)
   (hm:PySem.W.mroIn K C (.type "object")=some true):TyOf K H (.ref a) (.ref C)
end
end L2
namespace L2
open PySem PySem.Spec PyProof.Rows
structure kj (k:Nat) (A:Around):Prop where
 hd:9≤k→A.handled=none
 dp:A.depth+3*k+5<recursionLimit
 un:A.units+16*k+200<cLine
theorem kj.mono {j k:Nat}{A:Around}(r:kj k A)(h:j≤k):kj j A:=⟨fun z=>r.hd (Nat.le_trans z h),by have:=r.dp;omega,by have:=r.un;omega⟩
theorem kj.deeper {k:Nat}{A:Around}(r:kj (k+1) A)(env:Env):kj k (A.deeper env):=
 ⟨fun z=>r.hd (Nat.le_succ_of_le z),by have:=r.dp;show A.depth+1+3*k+5<_;omega,by have:=r.un;show A.units+3+16*k+200<_;omega⟩
theorem kj.calm {k:Nat}{A:Around}(r:kj k A)(h:9≤k):A.handled.isNone=true:=by rw [r.hd h];rfl
theorem kj.depth {k:Nat}{A:Around}(r:kj k A):A.depth<recursionLimit:=by have:=r.dp;omega
theorem kj.units {k:Nat}{A:Around}(r:kj k A):A.units+64<cLine:=by have:=r.un;omega
def tNil:TA:=fun _ H Q=>Q [] H
def tCons (ta:TE)(tr:TA):TA:=fun σ H Q=>ta σ H fun x H1=>tr σ H1 fun xs H2=>Q (x::xs) H2
section
variable {X:Cx}{e:Expr}{es:List Expr}{te:TE}{t:TA}{pos:Pos}
theorem wH:PA X [] tNil:=fun _ _ _ _ H Q I h=>Calls.spliced_nil ⟨[],H,I,.nil,h⟩
theorem mD (ha:PE X e te)(hr:PA X es t)(hs:starEach (e::es) X.env=(false,eval e X.env)::starEach es X.env:=by rfl):PA X (e::es) (tCons te t):=by
 intro pos pins s σ H Q I h
 rw [hs]
 show wpAny _ _ (spliced ((false,eval e X.env)::backTo pos (starEach es X.env))) _ _ s
 refine Calls.spliced_cons (thn (ha pins s σ H _ I h) fun u s1 ⟨x,H1,I1,r1,q1⟩=>?_)
 exact thn (hr pos pins s1 σ H1 _ I1 q1) fun us s2 ⟨xs,H2,I2,r2,q2⟩=>⟨x::xs,H2,I2,.cons r1 r2,q2⟩
def tTup (t:TA):TE:=fun σ H Q=>t σ H fun xs H1=>xs.length≤sizeLine∧∀ p,H1 p=none→Q (.ref p) (upd H1 p (.tup xs))
def tLst (t:TA):TE:=fun σ H Q=>t σ H fun xs H1=>xs.length≤sizeLine∧∀ p,H1 p=none→Q (.ref p) (upd H1 p (.lst xs))
theorem pe_tup {x1}(h:PA X es t):PE X (.Tuple es x1 pos) (tTup t):=by
 intro pins s σ H Q I hq
 refine wpAny_Tuple_spliced (thn (h pos pins s σ H _ I hq) fun us s1 ⟨xs,H1,I1,r,z,q⟩=>⟨by rw [←r.length];exact z,?_⟩)
 have hf:H1 s1.heap.objs.size=none:=I1.hok.fresh (Nat.le_refl _)
 refine ⟨.ref s1.heap.objs.size,upd H1 s1.heap.objs.size (.tup xs),I1.laid (t':=s1.toks) (fun b u e=>Heap.get?_push_of_some _ e) (Nat.le_refl _) ?_,rfl,q _ hf⟩
 exact ⟨z,us,r,⟨_,Heap.get?_push_size _ rfl,rfl,_,rfl⟩⟩
theorem pe_lst (h:PA X es t):PE X (.List es pos) (tLst t):=by
 intro pins s σ H Q I hq
 refine wpAny_List_spliced (thn (h pos pins s σ H _ I hq) fun us s1 ⟨xs,H1,I1,r,z,q⟩=>⟨by rw [←r.length];exact z,?_⟩)
 have hf:H1 s1.heap.objs.size=none:=I1.hok.fresh (Nat.le_refl _)
 refine ⟨.ref s1.heap.objs.size,upd H1 s1.heap.objs.size (.lst xs),I1.laid (t':=s1.toks) (fun b u e=>Heap.get?_push_of_some _ e) (Nat.le_refl _) ?_,rfl,q _ hf⟩
 exact ⟨z,us,0,r,Heap.get?_push_size _ rfl⟩
end
abbrev Sp:=List V→Hp→VK→XK→Prop
abbrev CXT:=List Env→Hp→Shared→XK→Value→Shared→Prop
structure Env0 (P:Program) (w:World) (K:PySem.W.Frag) (mg:Str→Option Value) (base:Heap) (A:Around) (outer:List Env) (s:Shared) (H:Hp):Prop where
 frames:A.frames=some outer
 mod:Mod K mg base
 bs:∀ b o,base.get? b=some o→s.heap.get? b=some o∧H b=none
 bsz:base.objs.size≤s.heap.objs.size
 funs:s.heap.FunFrames base outer
 frf:∀ b∈frs outer,H b=none
 hok:HOk P w H s.heap
 bare:AllBare s.gens
 qt:Quiet A H
def CE (outer:List Env)(P:Program)(w:World)(H:Hp)(s:Shared)(Q:VK)(u:Value)(s':Shared):Prop:=
 ∃ v H',s'.os=s.os∧AllBare s'.gens∧Un (frs outer) [] H H' s.heap s'.heap∧HOk P w H' s'.heap∧RelV v u∧Q v H'
def CR (CX:CXT)(outer:List Env)(P:Program)(w:World)(H:Hp)(s:Shared)(Q:VK)(E:XK)(r:Result)(s':Shared):Prop:=
 match r with
 | .ok (.ret u)=>CE outer P w H s Q u s'
 | .ok _=>False
 | .error e=>CX outer H s E e s'
structure cB (P:Program) (w:World) (K:PySem.W.Frag) (mg:Str→Option Value) (base:Heap) (CX:CXT) (k:Nat) (f:Addr) (fd:FuncData) (ps:List Str) (sp:Sp):Prop where
 len:∀ vs H Q E,sp vs H Q E→vs.length=ps.length
 run:∀ (A:Around) (outer:List Env) (s:Shared) (H:Hp) (args:Args) (us:List Value) (vs:List V) (Q:VK) (E:XK),kj k A→Env0 P w K mg base A outer s H→BindsTo s fd args (ps.zip us)→Vals vs us→sp vs H Q E →
  codeAny (model P w) A (.call (.ref f) args) (CR CX outer P w H s Q E) s
theorem cB.mono {P:Program}{w:World}{K:PySem.W.Frag}{mg:Str→Option Value}{base:Heap}{CX:CXT}{j k:Nat}{f:Addr}{fd:FuncData}{ps:List Str}{sp:Sp}(F:cB P w K mg base CX j f fd ps sp)(h:j≤k) :
  cB P w K mg base CX k f fd ps sp:=⟨F.len,fun A outer s H args us vs Q E hr=>F.run A outer s H args us vs Q E (hr.mono h)⟩
theorem cB.imp {P:Program}{w:World}{K:PySem.W.Frag}{mg:Str→Option Value}{base:Heap}{CX:CXT}{k:Nat}{f:Addr}{fd:FuncData}{ps:List Str}{sp sp':Sp}(F:cB P w K mg base CX k f fd ps sp)
  (h:∀ vs H Q E,sp' vs H Q E→sp vs H Q E):cB P w K mg base CX k f fd ps sp':=
 ⟨fun vs H Q E q=>F.len vs H Q E (h _ _ _ _ q),fun A outer s H args us vs Q E hr he hb hv hs=>F.run A outer s H args us vs Q E hr he hb hv (h _ _ _ _ hs)⟩
section
variable {X:Cx}{pins:List (Addr×Obj)}{σ : St}{H:Hp}{s s':Shared}
theorem Inv.env0 (I:Inv X pins σ H s):Env0 X.prog X.w X.K X.mg X.base X.A X.stack s H:=
 ⟨I.ok.frames,I.ok.mod,I.bs,Nat.le_trans I.ok.bsz I.sz,I.stack,I.stkFree,I.hok,I.bare,I.qt0⟩
theorem Inv.after {Q:VK}{u:Value}(I:Inv X pins σ H s)(h:CE X.stack X.prog X.w H s Q u s'):EP X pins σ Q u s':=by
 obtain ⟨v,H',os,bare,un,hok,r,q⟩:=h
 obtain ⟨hh,g,d,t,os'⟩:=s'
 obtain rfl:os'=s.os:=os
 exact ⟨v,H',I.call (h':=hh) (g':=g) (d':=d) (t':=t) (ch:=[]) un hok bare (fun b z=>absurd z (by simp)),r,q⟩
end
def tCall (sp:Sp)(dvs:List V)(E:XK)(t:TA):TE:=fun σ H Q=>t σ H fun vs H1=>sp (vs++dvs) H1 Q E
def Binds (K:PySem.W.Frag)(fd:FuncData)(ps:List Str)(ds:List Value):Prop:=
 ∀ (s:Shared) (us:List Value),K.In s.heap→(us++ds).length=ps.length→BindsTo s fd ⟨us,[]⟩ (ps.zip (us++ds))
theorem Binds.all {K:PySem.W.Frag}{fd:FuncData}{ps:List Str}(h:∀ us:List Value,us.length=ps.length→bindArgs fd ⟨us,[]⟩=pure (ps.zip us)):Binds K fd ps []:=fun s us _ hl=>by
 rw [List.append_nil] at hl ⊢
 exact .of_eq (h us hl)
def Passes (CX:CXT)(X:Cx)(E:XK):Prop:=∀ (pins:List (Addr×Obj)) (σ : St) (H:Hp) (s:Shared) (e:Value) (s':Shared),Inv X pins σ H s→CX X.stack H s E e s'→X.xe e s'
section
variable {X:Cx}{CX:CXT}{k:Nat}{f C:Addr}{fd:FuncData}{ps:List Str}{sp:Sp}{dvs:List V}{ds:List Value}{E:XK}{x m:Str}{p pos apos:Pos}{e o:Expr}{es:List Expr}{ta:TE}{t:TA}
theorem run_fn {pins:List (Addr×Obj)}{σ : St}{H:Hp}{s:Shared}{Q:VK}{us:List Value}{vs:List V}(F:cB X.prog X.w X.K X.mg X.base CX k f fd ps sp)(hr:kj k X.A)(hb:Binds X.K fd ps ds)(hd:Vals dvs ds)(hx:Passes CX X E)
  (I:Inv X pins σ H s) (r:Vals vs us) (h:sp (vs++dvs) H Q E):wpAny (model X.prog X.w) X.A (call (.ref f) us) (EP X pins σ Q) X.xe s:=by
 have r2:Vals (vs++dvs) (us++ds):=r.append hd
 have hl:(us++ds).length=ps.length:=by rw [←r2.length];exact F.len _ _ _ _ h
 refine wpAny_call (codeAny_mono (F.run X.A X.stack s H ⟨us,[]⟩ (us++ds) (vs++dvs) Q E hr I.env0 (hb s us I.kIn hl) r2 h) fun r s' hq=>?_)
 cases r with
 | error e=>exact hx pins σ H s e s' I hq
 | ok fl=>
  cases fl with
  | ret u=>exact I.after hq
  | next=>exact False.elim hq
  | brk=>exact False.elim hq
  | cont=>exact False.elim hq
theorem pe_call (F:cB X.prog X.w X.K X.mg X.base CX k f fd ps sp)(hr:kj k X.A)(hg:Gl X x)(hm:X.mg x=some (.ref f))(hk:PySem.W.keepIn X.K (.ref f)=true)(hb:Binds X.K fd ps ds)(hd:Vals dvs ds)(hx:Passes CX X E)
  (ha:PA X (e::es) t) (hdb:(x==("__debug__" : Str))=false:=by decide) (he:starEach (e::es) X.env=(false,eval e X.env)::starEach es X.env:=by rfl) (hpl:(backTo pos (starEach es X.env)).any (·.1)=false:=by rfl) :
  PE X (.Call (.Name x p) (e::es) [] pos) (tCall sp dvs E t):=by
 intro pins s σ H Q I h
 refine wpAny_Call_Name_kw (rK I hg hm ?_ hdb)
 refine PySem.W.callWith_K (h₀:=X.base) I.ok.mod.kin hk (thn (ha pos pins s σ H _ I h) fun us s1 ⟨vs,H1,I1,r,q⟩=>⟨I1.kIn,?_⟩) he hpl
 exact run_fn F hr hb hd hx I1 r q
structure Mk (K:PySem.W.Frag) (C f:Addr):Prop where
 makes:PySem.W.makesIn K C=true
 init:PySem.W.findIn K (.ref C) "__init__" = some (some (.ref f))
 fn:PySem.W.isFn K (.ref f)=true
 kp:PySem.W.keepIn K (.ref C)=true
end
section
variable {X:Cx}{CX:CXT}{k:Nat}{f C:Addr}{fd:FuncData}{ps ks:List Str}{sp:Sp}{E:XK}{x m:Str}{p pos apos kpos:Pos}{e o:Expr}{es:List Expr}{kws:List Keyword}{te ta:TE}{t tk:TA}{nm:Option Str}
structure KBinds (K:PySem.W.Frag) (fd:FuncData) (ps ks:List Str) (g:List Value→List Value→List Value) (gV:List V→List V→List V):Prop where
 to:∀ (s:Shared) (us ws:List Value),K.In s.heap→(g us ws).length=ps.length→BindsTo s fd ⟨us,ks.zip ws⟩ (ps.zip (g us ws))
 rel:∀ {vs:List V} {us:List Value} {zs:List V} {ws:List Value},Vals vs us→Vals zs ws→Vals (gV vs zs) (g us ws)
variable {g:List Value→List Value→List Value}{gV:List V→List V→List V}
end
structure aL (N P:List Str) (sc:Scope):Prop where
 kind:sc.kind=.function
 co:sc.isCoroutine=false
 gen:sc.isGenerator=false
 nd:N.Nodup
 pre:N.take P.length=P
 par:∀ x∈P,sc.names.lookup x=some .local∨sc.names.lookup x=some .cell
 nofree:∀ y∈sc.names,y.2≠.free
theorem ud {kindOf:Str→Option NameKind}{x:Str}:∀ {binds:List (Str×Value)} {m:Str→Option Value},(∀ v,(x,v)∉binds)→bindL kindOf binds m x=m x
 | [],_,_=>rfl
 | (n,v)::r,m,h=>by
  unfold bindL
  rw [ud fun w hw=>h w (List.mem_cons_of_mem _ hw)]
  split
  ·have:x≠n:=by rintro rfl;exact h v List.mem_cons_self
   simp [this]
  ·rfl
theorem uH {kindOf:Str→Option NameKind}{x:Str}:∀ {binds:List (Str×Value)} {m:Str→Option Value},(∀ v,(x,v)∉binds)→bindC kindOf binds m x=m x
 | [],_,_=>rfl
 | (n,v)::r,m,h=>by
  unfold bindC
  rw [uH fun w hw=>h w (List.mem_cons_of_mem _ hw)]
  split
  ·rfl
  ·have:x≠n:=by rintro rfl;exact h v List.mem_cons_self
   simp [this]
theorem rR {kindOf:Str→Option NameKind}{x:Str}{v:Value}:∀ {P:List Str} {vs:List Value} {i:Nat} {m:Str→Option Value},P.Nodup→P[i]?=some x→vs[i]?=some v→kindOf x=some .local →
  bindL kindOf (P.zip vs) m x=some v
 | [],_,_,_,_,h,_,_=>by simp at h
 | _::_,[],_,_,_,_,h,_=>by simp at h
 | p::P,w::vs,0,m,nd,h1,h2,hk=>by
  simp at h1 h2;subst h1;subst h2
  show bindL kindOf ((p,w)::P.zip vs) m p=_
  unfold bindL
  rw [ud fun v hv=>(List.nodup_cons.mp nd).1 (List.of_mem_zip hv).1,if_pos hk]
  simp
 | p::P,w::vs,i+1,m,nd,h1,h2,hk=>by
  show bindL kindOf ((p,w)::P.zip vs) m x=_
  unfold bindL
  exact rR (i:=i) (List.nodup_cons.mp nd).2 (by simpa using h1) (by simpa using h2) hk
theorem uy {kindOf:Str→Option NameKind}{x:Str}{v:Value}:∀ {P:List Str} {vs:List Value} {i:Nat} {m:Str→Option Value},P.Nodup→P[i]?=some x→vs[i]?=some v→kindOf x≠some .local →
  bindC kindOf (P.zip vs) m x=some v
 | [],_,_,_,_,h,_,_=>by simp at h
 | _::_,[],_,_,_,_,h,_=>by simp at h
 | p::P,w::vs,0,m,nd,h1,h2,hk=>by
  simp at h1 h2;subst h1;subst h2
  show bindC kindOf ((p,w)::P.zip vs) m p=_
  unfold bindC
  rw [uH fun v hv=>(List.nodup_cons.mp nd).1 (List.of_mem_zip hv).1,if_neg hk]
  simp
 | p::P,w::vs,i+1,m,nd,h1,h2,hk=>by
  show bindC kindOf ((p,w)::P.zip vs) m x=_
  unfold bindC
  exact uy (i:=i) (List.nodup_cons.mp nd).2 (by simpa using h1) (by simpa using h2) hk
def start (N:List Str)(vs:List V):St:=vs.map some++List.replicate (N.length - vs.length) none
def cxOf (CX:CXT)(P:Program)(w:World)(K:PySem.W.Frag)(mg:Str→Option Value)(base:Heap)(N:List Str)(qual:Str)(scope:Scope)(f:Addr)(cd:Value)(A:Around)(outer:List Env)(s:Shared)(H:Hp)(E:XK):Cx where
 prog:=P
 w:=w
 K:=K
 mg:=mg
 base:=base
 A:=A.deeper (envOfC qual scope s.heap.objs.size f cd)
 N:=N
 s₀:=s
 H₀:=H
 env:=envOfC qual scope s.heap.objs.size f cd
 outer:=outer
 stack:=envOfC qual scope s.heap.objs.size f cd::outer
 ex:=[]
 calm:=A.handled.isNone
 fn:=fun _=>true
 pn:=[]
 xe:=fun e s'=>wpAny (model P w) (A.deeper (envOfC qual scope s.heap.objs.size f cd)) (leaving (envOfC qual scope s.heap.objs.size f cd) e) (fun _ s''=>CX outer H s E e s'') (fun e' s''=>CX outer H s E e' s'') s'
theorem wO {sc:Scope}{n:Nat}{x:Str}(h:sc.names.lookup x=some .cell):∃ c,(cellsFrom n sc.names []).lookup x=some c:=by
 have q:=PySem.W.cellsFrom_some sc.names n [] (.inl h)
 exact Option.isSome_iff_exists.mp q
theorem inv_start {CX:CXT}{P:Program}{w:World}{K:PySem.W.Frag}{mg:Str→Option Value}{base:Heap}{N ps:List Str}{qual:Str}{scope:Scope}{f:Addr}{cd:Value}{A:Around}{outer:List Env}{s s1:Shared}{H:Hp}{E:XK}{us:List Value}{vs:List V}
  (S:aL N ps scope) (e0:Env0 P w K mg base A outer s H) (hl:vs.length=ps.length) (r:Vals vs us)
  (x:InCallC s s.heap.objs.size (bindL (envOfC qual scope s.heap.objs.size f cd).kindOf (ps.zip us) fun _=>none) (cellsFrom (s.heap.objs.size+1) scope.names []) (bindC (envOfC qual scope s.heap.objs.size f cd).kindOf (ps.zip us) fun _=>none) s1) :
  Inv (cxOf CX P w K mg base N qual scope f cd A outer s H E) [] (start N vs) H s1:=by
 have hpl:ps.length≤N.length:=by have:=congrArg List.length S.pre;rw [List.length_take] at this;omega
 obtain ⟨h1,tk,rfl,hk⟩:=x.done
 have noA:∀ b:Addr,b∉(cxOf CX P w K mg base N qual scope f cd A outer s H E).ex:=fun b z=>absurd (show b∈([]:List Addr) from z) (by simp)
 refine ⟨⟨e0.mod,S.kind,rfl,rfl,Nat.le_refl _,fun y z c h1 h2=>?_,fun y hy=>?_,fun y c _ h=>?_,fun z=>Option.isNone_iff_eq_none.mp (show A.handled.isNone=true from z),e0.qt,Around.frames_deeper e0.frames,.inr ⟨rfl,rfl⟩,fun b z=>absurd z (noA b),e0.bs,e0.bsz,fun b _ _=>noA b,fun b z=>absurd z (noA b),e0.funs,e0.frf⟩,
  rfl,e0.bare,Un.kept hk,⟨_,x.toInCall.ns,fun i y v h1 h2 h3=>?_⟩,fun y c h=>⟨_,x.cell y c h⟩,e0.hok.fresh (Nat.le_refl _),fun y c h=>?_,fun p hp=>absurd (show p∈([]:List (Addr×Obj)) from hp) (by simp),e0.hok.kept hk,?_⟩
 ·exact name_of_addr x.apart (PySem.mem_of_lookup h1) (PySem.mem_of_lookup h2)
 ·have hy:scope.names.lookup y=some .cell∨scope.names.lookup y=some .free:=hy
  rcases hy with hy | hy
  ·exact wO hy
  ·exact absurd rfl (S.nofree _ (PySem.mem_of_lookup hy))
 ·exact Nat.le_of_lt (x.above y c (PySem.mem_of_lookup h))
 ·have hi:i<vs.length:=by
   unfold start at h2
   by_cases hi:i<vs.length
   ·exact hi
   ·rw [List.getElem?_append_right (by simpa using hi)] at h2
    rw [List.getElem?_replicate] at h2
    split at h2 <;> cases h2
  have ha:vs[i]?=some v:=by
   unfold start at h2
   rw [List.getElem?_append_left (by simpa using hi),List.getElem?_map] at h2
   cases e:vs[i]? with
   | none=>rw [e] at h2;cases h2
   | some a=>rw [e] at h2;cases h2;rfl
  obtain ⟨u,hu,rv⟩:=r.get ha
  have hp:ps[i]?=some y:=by
   rw [←S.pre,List.getElem?_take_of_lt (by omega)];exact h1
  have ndP:ps.Nodup:=by rw [←S.pre];exact S.nd.sublist (List.take_sublist _ _)
  refine ⟨u,rv,?_⟩
  rcases S.par y (List.mem_of_getElem? hp) with k | k
  ·exact .inl ⟨k,rR ndP hp hu k⟩
  ·obtain ⟨c,e⟩:=wO (n:=s.heap.objs.size+1) k
   refine .inr ⟨.inl k,c,e,?_⟩
   have q:=x.cell y c e
   rw [uy ndP hp hu (by show scope.names.lookup y≠_;rw [k];decide)] at q
   exact q
 ·exact e0.hok.fresh (Nat.le_of_lt (x.above y c (PySem.mem_of_lookup h)))
 ·unfold start
  show _=N.length
  rw [List.length_append,List.length_map,List.length_replicate]
  omega
theorem fn_of {CX:CXT}{P:Program}{w:World}{K:PySem.W.Frag}{mg:Str→Option Value}{base:Heap}{k:Nat}{f:Addr}{name qual:Str}{params:Arguments}{body:List Stmt}{scope:Scope}{dV kV doc pm cdv ct oc:Value}{an od:Option Addr}
  {osl:Array (Option Value)} {N ps:List Str} {sp:Sp} (lk:K.lookup f=some ⟨oc,od,.func (PySem.W.fnOf name qual params body scope dV kV doc pm an cdv ct),osl⟩) (hcd:PySem.W.codeIn K cdv qual=true) (S:aL N ps scope)
  (len:∀ vs H Q E,sp vs H Q E→vs.length=ps.length)
  (hbody:∀ (A:Around) (outer:List Env) (s:Shared) (H:Hp) (vs:List V) (Q:VK) (E:XK),kj k (A.deeper (envOfC qual scope s.heap.objs.size f cdv))→sp vs H Q E →
   ∃ t,PSs (cxOf CX P w K mg base N qual scope f cdv A outer s H E) body t∧t { nx:=fun _ H'=>Q .non H',rt:=Q } (start N vs) H) :
  cB P w K mg base CX (k+1) f (PySem.W.fnOf name qual params body scope dV kV doc pm an cdv ct) ps sp:=by
 refine ⟨len,fun A outer s H args us vs Q E hr e0 hb r hsp=>?_⟩
 have hl:=len _ _ _ _ hsp
 have KX:K.In s.heap:=e0.mod.kin.keeps fun b o e=>(e0.bs b o e).1
 have lim:s.heap.NoLimit:=e0.mod.nolimit.keeps fun b o e=>(e0.bs b o e).1
 have hkind:∀ y∈ps.zip us,scope.names.lookup y.1=some .local∨(scope.names.lookup y.1=some .cell∧((cellsFrom (s.heap.objs.size+1) scope.names []).lookup y.1).isSome=true):=fun ⟨n,v⟩ hy=>by
  rcases S.par n (List.of_mem_zip hy).1 with q | q
  ·exact .inl q
  ·exact .inr ⟨q,PySem.W.cellsFrom_some _ _ _ (.inl q)⟩
 refine codeAny_call_function hr.depth (KX _ _ lk) rfl S.co S.gen rfl (PySem.W.codeRec_of KX hcd) (hb _ _ _ _ ?_)
 refine wpAny_newFunctionEnv_cells S.kind hkind fun env he s1 x=>?_
 subst he
 refine ⟨lim.keeps x.toInCall.keep,codeAny_func ?_⟩
 obtain ⟨t,ht,hq⟩:=hbody A outer s H vs Q E (hr.deeper _) hsp
 have I:Inv (cxOf CX P w K mg base N qual scope f cdv A outer s H E) [] (start N vs) H s1:=inv_start S e0 hl r x
 refine wpAny_mono (ht [] s1 (start N vs) H _ I hq) (fun fl s' hs=>?_) fun e s' hs=>hs
 have fin:∀ {σ':St} {H':Hp} {v:V} {u:Value},Inv (cxOf CX P w K mg base N qual scope f cdv A outer s H E) [] σ' H' s'→RelV v u→Q v H'→CE outer P w H s Q u s':=
  fun {σ' H' v u} J rv q=>⟨v,H',J.os,J.bare,J.base,J.hok,rv,q⟩
 cases fl with
 | ret u=>
  obtain ⟨v,σ',H',J,rv,q⟩:=hs
  exact fin J rv q
 | next=>
  obtain ⟨σ',H',J,q⟩:=hs
  exact fin (v:=V.non) (u:=Value.none) J rfl q
 | brk=>
  obtain ⟨_,_,_,q⟩:=hs
  exact False.elim q
 | cont=>
  obtain ⟨_,_,_,q⟩:=hs
  exact False.elim q
end L2
namespace L2
open PySem PySem.Spec PyProof.Rows
section
variable {X:Cx}{x:Str}{p pos:Pos}{e:Expr}{es:List Expr}{t:TA}{id T:String}{r:List V→Hp→VK→Prop}
def tCB (r:List V→Hp→VK→Prop)(t:TA):TE:=fun σ H Q=>t σ H fun vs H1=>r vs H1 Q
theorem rJ (hc:dz X (.builtin id) r)(hg:Gl X x)(hm:X.mg x=none)(hv:bootBuiltins x=some (.builtin id))(ha:PA X (e::es) t)(hn:x ≠ "__name__":=by decide)(hdb:(x==("__debug__" : Str))=false:=by decide)
  (he:starEach (e::es) X.env=(false,eval e X.env)::starEach es X.env:=by rfl) (hpl:(backTo pos (starEach es X.env)).any (·.1)=false:=by rfl):PE X (.Call (.Name x p) (e::es) [] pos) (tCB r t):=by
 intro pins s σ H Q I h
 refine wpAny_Call_Name_kw (mO I hg hm hv ?_ hn hdb)
 exact PyProof.Rows.callWith_builtin1 (thn (ha pos pins s σ H _ I h) fun us s1 ⟨vs,H1,I1,r1,q1⟩=>hc pins s1 σ H1 vs us Q I1 r1 q1) he hpl
theorem tB (hc:dz X (.type T) r)(hg:Gl X x)(hm:X.mg x=none)(hv:bootBuiltins x=some (.type T))(ha:PA X (e::es) t)(hn:x ≠ "__name__":=by decide)(hdb:(x==("__debug__" : Str))=false:=by decide)
  (he:starEach (e::es) X.env=(false,eval e X.env)::starEach es X.env:=by rfl) (hpl:(backTo pos (starEach es X.env)).any (·.1)=false:=by rfl):PE X (.Call (.Name x p) (e::es) [] pos) (tCB r t):=by
 intro pins s σ H Q I h
 refine wpAny_Call_Name_kw (mO I hg hm hv ?_ hn hdb)
 exact PyProof.Rows.callWith_type1 (thn (ha pos pins s σ H _ I h) fun us s1 ⟨vs,H1,I1,r1,q1⟩=>hc pins s1 σ H1 vs us Q I1 r1 q1) he hpl
end
end L2
namespace HT
open PySem PyProof.Rows
section
open PySem.SeqAt
open PySem.AutoSeq1 (wpAny_loadPart')
open PySem.MeetsSeq PySem.MeetsSeq2 PySem.MeetsSeq3
end
section
variable {prog:Program}{w:World}{A:Around}{E:Value→Shared→Prop}{s:Shared}
theorem cat_tup {t b:Addr}{vs ws:List Value}{Q:Value→Shared→Prop}(ht:IsTup s.heap t vs.toArray)(hb:IsTup s.heap b ws.toArray)(hv:vs≠[])
  (h1:ws=[]→Q (.ref t) s) (h2:ws≠[]→Q (.ref s.heap.objs.size) { s with heap:=s.heap.push { cls:=.type "tuple",data:=.seq (vs++ws).toArray } })
  (hsz:vs.length+ws.length≤sizeLine):wpAny (model prog w) A (binaryOp .Add (.ref t) (.ref b)) Q E s:=by
 obtain ⟨⟨cls,dd,data,sl⟩,ho,hc,n,hd⟩:=id ht
 obtain ⟨⟨cls2,dd2,data2,sl2⟩,ho2,hc2,n2,hd2⟩:=id hb
 simp only at hc hd hc2 hd2
 subst hc hd hc2 hd2
 have e:vs.toArray++ws.toArray=(vs++ws).toArray:=by simp
 by_cases hw:ws=[]
 ·exact concat_meets ⟨_,ho,rfl⟩ ⟨_,ho2,rfl⟩ noFill_tuple_add seq_tuple_add PySem.F.slot_tuple_add PySem.F.entry_tuple_add (PySem.F.args_tuple_add_2 _ _)
   (tuple_addW1 t b vs.toArray ws.toArray n n2 dd dd2 sl sl2 (by simpa using hv) (by simp [hw])) ⟨ho,ho2,h1 hw⟩
 ·refine concat_meets ⟨_,ho,rfl⟩ ⟨_,ho2,rfl⟩ noFill_tuple_add seq_tuple_add PySem.F.slot_tuple_add PySem.F.entry_tuple_add (PySem.F.args_tuple_add_2 _ _)
   (tuple_addW2 t b vs.toArray ws.toArray n n2 dd dd2 sl sl2 (by simpa using hv) (by simpa using hw) (by rw [List.size_toArray,List.size_toArray];exact hsz)) ⟨ho,ho2,?_⟩
  rw [e]
  exact h2 hw
def sIx (n d:Nat):Option Int→Nat
 | none=>d
 | some v=>if v<0 then (v+(n:Int)).toNat else min v.toNat n
theorem sIx_le (n d:Nat)(hd:d≤n)(o:Option Int):sIx n d o≤n:=by
 cases o with
 | none=>exact hd
 | some v=>
  show (if v<0 then (v+(n:Int)).toNat else min v.toNat n)≤n
  by_cases hv:v<0
  ·rw [if_pos hv];omega
  ·rw [if_neg hv];exact Nat.min_le_right _ _
theorem clip_eq (v:Int)(n d:Nat):(if v<0 then max (v+(n:Int)) 0 else min v (n:Int))=((sIx n d (some v):Nat):Int):=by
 show (if v<0 then max (v+(n:Int)) 0 else min v (n:Int))=(((if v<0 then (v+(n:Int)).toNat else min v.toNat n):Nat):Int)
 by_cases hv:v<0
 ·simp only [if_pos hv];omega
 ·simp only [if_neg hv];omega
theorem zG (lo hi:Option Int)(n:Nat):Builtin.Slice.sliceAdjust lo hi 1 (n:Int)=(((sIx n 0 lo:Nat):Int),((sIx n n hi:Nat):Int)):=by
 have h1:¬ ((1:Int)<0):=by omega
 unfold Builtin.Slice.sliceAdjust
 simp only [h1,if_false]
 refine Prod.ext ?_ ?_
 ·cases lo with
  | none=>rfl
  | some v=>exact clip_eq v n 0
 ·cases hi with
  | none=>rfl
  | some v=>exact clip_eq v n n
theorem yM (i j:Nat):Builtin.Slice.slicePlaces (i:Int) (j:Int) 1=j - i:=by
 unfold Builtin.Slice.slicePlaces
 have h1:(1:Int)>0:=by omega
 simp only [h1,if_true,Int.ediv_one]
 split <;> omega
theorem pQ {v:Value}{o:Option Int}{Q:Option Int→Shared→Prop}(p:IsPart v o)(h:Q o s):wpAny (model prog w) A (Builtin.Slice.slicePartIndex v) Q E s:=by
 cases p with
 | none=>exact slicePart_none h
 | int i t=>exact slicePart_int h
theorem eX {sl:Addr}{vl vu:Value}{lo hi:Option Int}{n:Nat}{Q:Int×Int×Nat→Shared→Prop}(hs:s.heap.IsSliceOf sl vl vu .none)(pl:IsPart vl lo)(pu:IsPart vu hi)
  (h:Q (((sIx n 0 lo:Nat):Int),1,sIx n n hi - sIx n 0 lo) s):wpAny (model prog w) A (Builtin.Slice.sliceApplied (.ref sl) (pure (n:Int))) Q E s:=by
 obtain ⟨os,hos,hcs,hds⟩:=id hs
 unfold Builtin.Slice.sliceApplied Builtin.Slice.sliceFields
 refine wpAny_bind (wpAny_bind (wpAny_field hos hds (x:=vl) rfl (wpAny_bind (wpAny_field hos hds (x:=vu) rfl (wpAny_bind (wpAny_field hos hds (x:=.none) rfl (wpAny_pure ?_)))))))
 refine wpAny_bind (slicePart_none ?_)
 show wpAny _ _ (if ((1:Int)==0)=true then _ else _) _ _ s
 rw [if_neg (by decide)]
 refine wpAny_bind (pQ pl (wpAny_bind (pQ pu (wpAny_bind (wpAny_pure ?_)))))
 show wpAny _ _ (match Builtin.Slice.sliceAdjust lo hi 1 (n:Int) with | (lo,hi)=>pure (lo,(1:Int),Builtin.Slice.slicePlaces lo hi 1)) _ _ s
 rw [zG lo hi n]
 show wpAny _ _ (pure (((sIx n 0 lo:Nat):Int),(1:Int),Builtin.Slice.slicePlaces ((sIx n 0 lo:Nat):Int) ((sIx n n hi:Nat):Int) 1)) _ _ s
 rw [yM]
 exact wpAny_pure h
theorem pick_gen (xs:Array Value)(i k:Nat):((List.range k).filterMap fun (m:Nat)=>xs[((i:Int)+(m:Int)*1).toNat]?).toArray=((xs.toList.drop i).take k).toArray:=by
 have e:(fun (m:Nat)=>xs[((i:Int)+(m:Int)*1).toNat]?)=fun m=>xs[i+m]?:=by
  funext m
  have:((i:Int)+(m:Int)*1).toNat=i+m:=by omega
  rw [this]
 rw [e]
 have:=pick_run xs i k
 rw [List.filterMap_map] at this
 have e2:((fun x=>xs[x]?) ∘ fun x=>i+x)=fun m=>xs[i+m]?:=rfl
 rw [e2] at this
 rw [this]
theorem jC {t sl:Addr}{items:Array Value}{vl vu:Value}{lo hi:Option Int}{Q:Value→Shared→Prop}(ht:IsTup s.heap t items)(hs:s.heap.IsSliceOf sl vl vu .none)(pl:IsPart vl lo)(pu:IsPart vu hi)
  (hw:¬ (sIx items.size 0 lo=0∧sIx items.size items.size hi=items.size))
  (h:Q (.ref s.heap.objs.size) { s with heap:=s.heap.push { cls:=.type "tuple",data:=.seq ((items.toList.drop (sIx items.size 0 lo)).take (sIx items.size items.size hi - sIx items.size 0 lo)).toArray } })
  (hsz:items.size≤sizeLine):wpAny (model prog w) A (getItem (.ref t) (.ref sl)) Q E s:=by
 have htake:sizeOk (.seq ((items.toList.drop (sIx items.size 0 lo)).take (sIx items.size items.size hi - sIx items.size 0 lo)).toArray):=by
  show ((items.toList.drop (sIx items.size 0 lo)).take (sIx items.size items.size hi - sIx items.size 0 lo)).toArray.size≤sizeLine
  rw [List.size_toArray,List.length_take,List.length_drop,Array.length_toList]
  omega
 have hj:sIx items.size items.size hi≤items.size:=sIx_le _ _ (Nat.le_refl _) hi
 obtain ⟨os,hos,hcs,hds⟩:=id hs
 have hTs:s.TypeIs (.ref sl) "slice":=⟨os,hos,hcs⟩
 unfold getItem
 try with_reducible refine wpAny_holding ?_
 first | refine wpAny_bind (wpAny_pure ?_) | skip
 refine wpAny_bind (wpAny_sequenceKey ht.typeIs (by decide) ?_)
 refine wpAny_bind (wpAny_callSpecial?_slot (name:=Str.ofString "__getitem__") ht.typeIs PyProof.Rows.slot_tuple_getitem
  (wpAny_call_entry PyProof.Rows.slot_tuple_getitem ht.typeIs entry_tuple_getitem ?_ (args_tuple_getitem _ _)))
 show wpAny _ _ (Builtin.Tuple.tupleItemsOf (.ref t) >>= _) _ _ s
 refine wpAny_bind (tupleItemsOf_ ht ?_)
 refine wpAny_bind (wpAny_typeOf hTs ?_)
 rw [if_pos (by decide)]
 refine wpAny_bind (eX hs pl pu ?_)
 have hno:¬ ((((sIx items.size 0 lo:Nat):Int)==0&&(1:Int)==1&&(sIx items.size items.size hi - sIx items.size 0 lo)==items.size)=true):=by
  intro q
  rw [Bool.and_eq_true,Bool.and_eq_true] at q
  have q1:((sIx items.size 0 lo:Nat):Int)=0:=eq_of_beq q.1.1
  have q2:sIx items.size items.size hi - sIx items.size 0 lo=items.size:=eq_of_beq q.2
  exact hw ⟨by omega,by omega⟩
 show wpAny _ _ (if (((sIx items.size 0 lo:Nat):Int)==0&&(1:Int)==1&&(sIx items.size items.size hi - sIx items.size 0 lo)==items.size)=true then _ else _) _ _ s
 rw [if_neg hno,pick_gen]
 first
  | exact wpAny_bind (m:=Builtin.Tuple.tupleExact _) (wpAny_newObj_type (wpAny_pure ⟨_,rfl,wpAny_pure h⟩) htake)
  | exact wpAny_bind (m:=Builtin.Tuple.tupleExact _) (wpAny_newObj_type (wpAny_bind (wpAny_pure (wpAny_pure ⟨_,rfl,wpAny_pure h⟩))) htake)
  | exact wpAny_bind (wpAny_bind (m:=Builtin.Tuple.tupleExact _) (wpAny_newObj_type (wpAny_pure (wpAny_pure ⟨_,rfl,wpAny_pure h⟩)) htake))
  | exact wpAny_bind (wpAny_bind (m:=Builtin.Tuple.tupleExact _) (wpAny_newObj_type (wpAny_pure ⟨_,rfl,wpAny_pure h⟩) htake))
end
end HT
namespace L2
open PySem PySem.Spec PyProof.Rows
abbrev TO:=St→Hp→(Option Int→Hp→Prop)→Prop
def PO (X:Cx)(e:Option Expr)(t:TO):Prop:=
 ∀ (pins:List (Addr×Obj)) (s:Shared) (σ : St) (H:Hp) (Q:Option Int→Hp→Prop),Inv X pins σ H s→t σ H Q →
  wpAny (model X.prog X.w) X.A (evalPart e X.env) (fun u s'=>∃ o H',Inv X pins σ H' s'∧IsPart u o∧Q o H') X.xe s
def tNoPart:TO:=fun _ H Q=>Q none H
def tPart (t:TE):TO:=fun σ H Q=>t σ H fun x H1=>∃ i,x=.int i∧Q (some i) H1
section
variable {X:Cx}{e:Expr}{te:TE}{lo hi:Option Expr}{tl th:TO}{pos p2:Pos}
theorem po_none:PO X none tNoPart:=by
 intro pins s σ H Q I h
 rw [evalPart_none]
 exact wpAny_pure ⟨none,H,I,.none,h⟩
theorem po_some (h:PE X e te):PO X (some e) (tPart te):=by
 intro pins s σ H Q I hw
 rw [evalPart_some]
 refine thn (h pins s σ H _ I hw) fun u s1 ⟨x,H1,I1,r1,q1⟩=>?_
 obtain ⟨i,rfl,q⟩:=q1
 obtain ⟨t,rfl⟩:=r1
 exact ⟨some i,H1,I1,.int i t,q⟩
def SlR (X:Cx)(r:V→Option Int→Option Int→Hp→VK→Prop):Prop:=
 ∀ (pins:List (Addr×Obj)) (s:Shared) (σ : St) (H:Hp) (x:V) (v vl vu:Value) (lo hi:Option Int) (sl:Addr) (Q:VK),Inv X pins σ H s→RelV x v→s.heap.IsSliceOf sl vl vu .none→IsPart vl lo→IsPart vu hi→r x lo hi H Q →
  ∃ T id,typeLookup (.type T) "__getitem__" = pure (some (.builtin id))∧s.TypeIs v T∧wpAny (model X.prog X.w) X.A (getItem v (.ref sl)) (EP X pins σ Q) X.xe s
theorem SlR.or {r r':V→Option Int→Option Int→Hp→VK→Prop}(h:SlR X r)(h':SlR X r'):SlR X (fun x lo hi H Q=>r x lo hi H Q∨r' x lo hi H Q):=by
 intro pins s σ H x v vl vu lo hi sl Q I rx hs pl pu q
 rcases q with q | q
 ·exact h pins s σ H x v vl vu lo hi sl Q I rx hs pl pu q
 ·exact h' pins s σ H x v vl vu lo hi sl Q I rx hs pl pu q
def tSl (r:V→Option Int→Option Int→Hp→VK→Prop)(te:TE)(tl th:TO):TE:=fun σ H Q=>te σ H fun x H1=>tl σ H1 fun l H2=>th σ H2 fun u H3=>r x l u H3 Q
theorem pe_slice {r:V→Option Int→Option Int→Hp→VK→Prop}(hr:SlR X r)(he:PE X e te)(hl:PO X lo tl)(hu:PO X hi th):PE X (.Subscript e (.Slice lo hi none p2) pos) (tSl r te tl th):=by
 intro pins s σ H Q I h
 refine Subscript_ (thn (he pins s σ H _ I h) fun v s1 ⟨x,H1,I1,r1,q1⟩=>?_)
 refine wpAny_Slice (thn (hl pins s1 σ H1 _ I1 q1) fun vl s2 ⟨l,H2,I2,pl,q2⟩=>thn (hu pins s2 σ H2 _ I2 q2) fun vu s3 ⟨u,H3,I3,pu,q3⟩=>?_)
 rw [evalPart_none]
 refine wpAny_pure ?_
 have I4:Inv X pins σ H3 { s3 with heap:=s3.heap.push { cls:=.type "slice",data:=.fields #[vl,vu,.none] } }:=I3.kept (t':=s3.toks) fun b ob q=>Heap.get?_push_of_some _ q
 obtain ⟨T,id,hT,ht,hg⟩:=hr pins { s3 with heap:=s3.heap.push { cls:=.type "slice",data:=.fields #[vl,vu,.none] } } σ H3 x v vl vu l u s3.heap.objs.size Q I4 r1 (Heap.IsSliceOf.new ..) pl pu q3
 show wpAny (model X.prog X.w) X.A (subscriptTail e (.Slice lo hi none p2) v (.ref s3.heap.objs.size)) (EP X pins σ Q) X.xe { s3 with heap:=s3.heap.push { cls:=.type "slice",data:=.fields #[vl,vu,.none] } }
 exact tail_any (ops:=[.ref s3.heap.objs.size,v]) ht hT hg (by with_unfolding_all rfl)
def cutV (xs:List V)(lo hi:Option Int):List V:=(xs.drop (HT.sIx xs.length 0 lo)).take (HT.sIx xs.length xs.length hi - HT.sIx xs.length 0 lo)
theorem nC (xs:List V)(lo hi:Option Int):(cutV xs lo hi).length≤xs.length:=by
 unfold cutV
 rw [List.length_take,List.length_drop]
 omega
def rSlT (K:PySem.W.Frag):V→Option Int→Option Int→Hp→VK→Prop:=fun x lo hi H Q=>∃ a xs,x=.ref a∧SqT K H a xs ∧
 ¬ (HT.sIx xs.length 0 lo=0∧HT.sIx xs.length xs.length hi=xs.length)∧∀ p,H p=none→Q (.ref p) (upd H p (.tup (cutV xs lo hi)))
theorem sl_tup:SlR X (rSlT X.K):=by
 intro pins s σ H x v vl vu lo hi sl Q I rx hs pl pu h
 obtain ⟨a,xs,rfl,hx,hw,q⟩:=h
 cases rx
 obtain ⟨its,r,ht,hz⟩:=I.tuple hx
 have hlen:its.toArray.size=xs.length:=by rw [List.size_toArray];exact r.length.symm
 refine ⟨"tuple",_,PyProof.Rows.slot_tuple_getitem.lookup,ht.typeIs,?_⟩
 refine HT.jC ht hs pl pu (by rw [hlen];exact hw) ?_ (by rw [hlen];exact hz)
 rw [hlen]
 refine ⟨.ref s.heap.objs.size,_,I.laid (t':=s.toks) (o:=.tup (cutV xs lo hi)) (fun b ob q=>Heap.get?_push_of_some _ q) (Nat.le_refl _) ?_,rfl,q _ (I.hok.fresh (Nat.le_refl _))⟩
 exact ⟨Nat.le_trans (nC xs lo hi) hz,_,(r.drop (HT.sIx xs.length 0 lo)).take (HT.sIx xs.length xs.length hi - HT.sIx xs.length 0 lo),IsTup.new _ _⟩
def rCatT (K:PySem.W.Frag):R2:=fun x y H Q=>∃ a b xs ys,x=.ref a∧y=.ref b∧SqT K H a xs∧SqT K H b ys∧xs≠[]∧xs.length+ys.length≤sizeLine ∧
 (ys=[]→Q (.ref a) H)∧(ys≠[]→∀ p,H p=none→Q (.ref p) (upd H p (.tup (xs++ys))))
theorem Vals.nil_iff {xs:List V}{us:List Value}(r:Vals xs us):us=[]↔xs=[]:=by
 cases r with
 | nil=>simp
 | cons _ _=>simp
theorem op_catT:OpR X (binaryOp .Add) (rCatT X.K):=by
 intro pins s σ H x y v u Q I rx ry h
 obtain ⟨a,b,xs,ys,rfl,rfl,ha,hb,hx,hz,q1,q2⟩:=h
 cases rx
 cases ry
 obtain ⟨its,r1,p1,_⟩:=I.tuple ha
 obtain ⟨its2,r2,p2,_⟩:=I.tuple hb
 refine HT.cat_tup p1 p2 (fun z=>hx (r1.nil_iff.mp z)) (fun z=>⟨.ref a,H,I,rfl,q1 (r2.nil_iff.mp z)⟩) (fun z=>?_) (by rw [←r1.length,←r2.length];exact hz)
 refine ⟨.ref s.heap.objs.size,_,I.laid (t':=s.toks) (o:=.tup (xs++ys)) (fun b ob q=>Heap.get?_push_of_some _ q) (Nat.le_refl _) ?_,rfl,q2 (fun w=>z (r2.nil_iff.mpr w)) _ (I.hok.fresh (Nat.le_refl _))⟩
 exact ⟨by rw [List.length_append];exact hz,_,r1.append r2,IsTup.new _ _⟩
end
end L2
namespace L2
open PySem PySem.Spec PyProof.Rows
def ixN (n:Nat)(i:Int):Option Nat:=if 0≤i then (if i<n then some i.toNat else none) else if -(n:Int)≤i then some (i+n).toNat else none
def atI {α : Type}(xs:List α)(i:Int):Option α:=(ixN xs.length i).bind fun j=>xs[j]?
theorem ixN_seq {n:Nat}{i:Int}{j:Nat}(h:ixN n i=some j):seqIndex? i n=some j∧j<n∧-(n:Int)≤i∧i<n:=by
 unfold ixN at h
 by_cases h0:0≤i
 ·rw [if_pos h0] at h
  by_cases h1:i<n
  ·rw [if_pos h1] at h
   have e:i.toNat=j:=Option.some.inj h
   exact ⟨by rw [seqIndex_of h0 h1,e],by omega,by omega,h1⟩
  ·rw [if_neg h1] at h;cases h
 ·rw [if_neg h0] at h
  by_cases h1:-(n:Int)≤i
  ·rw [if_pos h1] at h
   have e:(i+n).toNat=j:=Option.some.inj h
   exact ⟨by rw [seqIndex_neg (by omega) h1,e],by omega,h1,by omega⟩
  ·rw [if_neg h1] at h;cases h
theorem uY {α : Type}{xs:List α}{i:Int}{v:α}(h:atI xs i=some v):∃ j,seqIndex? i xs.length=some j∧xs[j]?=some v∧j<xs.length∧-(xs.length:Int)≤i∧i<xs.length:=by
 unfold atI at h
 cases e:ixN xs.length i with
 | none=>rw [e] at h;cases h
 | some j=>
  rw [e] at h
  obtain ⟨h1,h2,h3,h4⟩:=ixN_seq e
  exact ⟨j,h1,h,h2,h3,h4⟩
theorem qT {α : Type}{xs:List α}{j:Nat}{v:α}(h:xs[j]?=some v):atI xs (j:Int)=some v:=by
 have hj:j<xs.length:=(List.getElem?_eq_some_iff.mp h).1
 have e:ixN xs.length (j:Int)=some j:=by
  unfold ixN
  rw [if_pos (by omega),if_pos (by omega)];simp
 unfold atI;rw [e];exact h
theorem atI_last {α : Type}(xs:List α)(v:α):atI (xs++[v]) (-1)=some v:=by
 have hl:(xs++[v]).length=xs.length+1:=by simp
 have e:ixN (xs++[v]).length (-1)=some xs.length:=by
  unfold ixN
  rw [hl,if_neg (by decide),if_pos (by omega)]
  congr 1
  omega
 unfold atI
 rw [e]
 show (xs++[v])[xs.length]?=some v
 simp
def PlainIx (b:Expr):Prop:=∀ o i,subscripted b false o i=operate [o,i] (getItem o i)
def IxR (X:Cx)(r:R2):Prop:=
 ∀ (value slice:Expr) (pins:List (Addr×Obj)) (s:Shared) (σ : St) (H:Hp) (x y:V) (v u:Value) (Q:VK),Inv X pins σ H s→RelV x v→RelV y u→r x y H Q →
  subscripted slice false v u=operate [v,u] (getItem v u)→wpAny (model X.prog X.w) X.A (subscriptTail value slice v u) (EP X pins σ Q) X.xe s
def MtR (X:Cx)(id:String)(r:V→List V→Hp→VK→Prop):Prop:=
 ∀ (pins:List (Addr×Obj)) (s:Shared) (σ : St) (H:Hp) (x:V) (xs:List V) (v:Value) (us:List Value) (Q:VK),Inv X pins σ H s→RelV x v→Vals xs us→r x xs H Q →
  wpAny (model X.prog X.w) X.A (call (.builtin id) (v::us)) (EP X pins σ Q) X.xe s
section
variable {X:Cx}{a b:Expr}{ta tb:TE}{pos:Pos}
theorem IxR.or {r r':R2}(h:IxR X r)(h':IxR X r'):IxR X (fun x y H Q=>r x y H Q∨r' x y H Q):=by
 intro value slice pins s σ H x y v u Q I rx ry q hs
 rcases q with q | q
 ·exact h value slice pins s σ H x y v u Q I rx ry q hs
 ·exact h' value slice pins s σ H x y v u Q I rx ry q hs
theorem pe_ix {r:R2}(hr:IxR X r)(ha:PE X a ta)(hb:PE X b tb)(hs:PlainIx b):PE X (.Subscript a b pos) (tOp r ta tb):=by
 intro pins s σ H Q I h
 exact Subscript_ (binT ha hb I h fun v u s2 x y H2 I2 rx ry q=>hr a b pins s2 σ H2 x y v u Q I2 rx ry q (hs _ _))
def rIxL (K:PySem.W.Frag):R2:=fun x y H Q=>∃ p xs i v,x=.ref p∧y=.int i∧SqL K H p xs∧atI xs i=some v∧Q v H
def rIxT (K:PySem.W.Frag):R2:=fun x y H Q=>∃ p xs i v,x=.ref p∧y=.int i∧SqT K H p xs∧atI xs i=some v∧Q v H
def rIxS:R2:=fun x y H Q=>∃ z i c,x=.str z∧y=.int i∧z.length≤sizeLine∧atI z.cps.toList i=some c∧Q (.str ⟨#[c]⟩) H
theorem ix_list:IxR X (rIxL X.K):=by
 intro value slice pins s σ H x y v u Q I rx ry h hs
 obtain ⟨p,xs,i,z,rfl,rfl,hq,he,q⟩:=h
 cases rx
 obtain ⟨t,rfl⟩:=ry
 obtain ⟨its,r,pl,hz⟩:=I.list hq
 obtain ⟨j,h1,h2,h3,h4,h5⟩:=uY he
 obtain ⟨w,ew,rw'⟩:=r.get h2
 have hl:=r.length
 have hn:=jU
 have fin:EP X pins σ Q w s:=⟨z,H,I,rw',q⟩
 by_cases h0:0≤i
 ·have hj:i.toNat=j:=by
   rw [seqIndex_of h0 h5] at h1
   exact Option.some.inj h1
  exact item_listR pl.isList h0 (by omega) (by rw [hj];simpa using ew) fin hs
 ·have hj:(i+(its.toArray.size:Int)).toNat=j:=by
   rw [seqIndex_neg (by omega) h4] at h1
   rw [List.size_toArray,←hl]
   exact Option.some.inj h1
  exact subscriptTail_builtinR (x:=w) pl.isList.typeIs slot_list_getitem.lookup
   (wpAny_getItem_list_neg (Q:=fun r s'=>r=w∧EP X pins σ Q r s') pl.isList (by omega) (by rw [List.size_toArray] <;> omega) (by omega) (by rw [hj];simpa using ew) ⟨rfl,fin⟩) hs
theorem ix_tup:IxR X (rIxT X.K):=by
 intro value slice pins s σ H x y v u Q I rx ry h hs
 obtain ⟨p,xs,i,z,rfl,rfl,hq,he,q⟩:=h
 cases rx
 obtain ⟨t,rfl⟩:=ry
 obtain ⟨its,r,pl,hz⟩:=I.tuple hq
 obtain ⟨j,h1,h2,h3,h4,h5⟩:=uY he
 obtain ⟨w,ew,rw'⟩:=r.get h2
 have hl:=r.length
 have hn:=jU
 have fin:EP X pins σ Q w s:=⟨z,H,I,rw',q⟩
 exact subscriptTail_builtinR (x:=w) pl.typeIs slot_tuple_getitem.lookup
  (getItem_tuple (j:=j) (Q:=fun r s'=>r=w∧EP X pins σ Q r s') pl (by omega) (by omega) (by rw [List.size_toArray,←hl];exact h1) (by simpa using ew) ⟨rfl,fin⟩) hs
theorem ix_str:IxR X rIxS:=by
 intro value slice pins s σ H x y v u Q I rx ry h hs
 obtain ⟨z,i,c,rfl,rfl,hz,he,q⟩:=h
 obtain ⟨t,rfl⟩:=rx
 obtain ⟨t',rfl⟩:=ry
 obtain ⟨j,h1,h2,h3,h4,h5⟩:=uY he
 have hl:z.cps.toList.length=z.length:=by simp [Str.length]
 rw [hl] at h1 h4 h5
 have hn:=jU
 exact tail_any (typeIs_str s z t) slot_str_getitem.lookup (getItem_str (c:=c) (by
  have e1:decide (i < -(2^63:Int))=false:=decide_eq_false (by omega)
  have e2:decide (i≥2^63)=false:=decide_eq_false (by omega)
  rw [e1,e2,Bool.or_false]) (by rw [h1];simpa using h2) ⟨.str ⟨#[c]⟩,H,I.tok _,⟨_,rfl⟩,q⟩) hs
def rIx (K:PySem.W.Frag):R2:=fun x y H Q=>rIxL K x y H Q∨rIxT K x y H Q∨rIxS x y H Q
theorem ix_seq:IxR X (rIx X.K):=ix_list.or (ix_tup.or ix_str)
theorem yU (its:List Value)(n j:Nat)(u:Value):Obj.mapSeq (·.setIfInBounds j u) { cls:=.type "list",data:=.seq its.toArray n } = { cls:=.type "list",data:=.seq (its.set j u).toArray n }:=by
 simp [Obj.mapSeq]
theorem Inv.lst {pins:List (Addr×Obj)}{σ : St}{H:Hp}{s:Shared}{p:Addr}{xs:List V}(I:Inv X pins σ H s)(h:H p=some (.lst xs)) :
  ∃ (its:List Value) (n:Nat),Vals xs its∧s.heap.get? p=some { cls:=.type "list",data:=.seq its.toArray n }∧xs.length≤sizeLine:=by
 obtain ⟨z,its,n,r,e⟩:=I.hok p _ h
 exact ⟨its,n,r,e,z⟩
theorem Inv.lstUpd {pins:List (Addr×Obj)}{σ : St}{H:Hp}{s:Shared}{p:Addr}{xs ys:List V}{its its':List Value}{n n':Nat}{f:Obj→Obj}(I:Inv X pins σ H s)(h:H p=some (.lst xs))
  (ho:s.heap.get? p=some { cls:=.type "list",data:=.seq its.toArray n }) (hf:f { cls:=.type "list",data:=.seq its.toArray n } = { cls:=.type "list",data:=.seq its'.toArray n' }) (r:Vals ys its') (hz:ys.length≤sizeLine) (t:Nat) :
  Inv X pins σ (upd H p (.lst ys)) { s with heap:=s.heap.update p f,toks:=t }:=by
 have e:(s.heap.update p f).get? p=some { cls:=.type "list",data:=.seq its'.toArray n' }:=by
  rw [Heap.get?_update_self f ho (by rw [hf] <;> rfl),hf]
 refine I.write (x:=p) (e:=p) (by rw [h];trivial) (.inl rfl) (fun b u hb q=>(Heap.get?_update_other _ _ (Ne.symm hb)).trans q) ⟨_,e⟩ ?_
 exact ⟨hz,its',n',r,e⟩
def rSetL:V→V→V→Hp→(Hp→Prop)→Prop:=fun o i v H Q=>∃ p xs k j,o=.ref p∧i=.int k∧H p=some (.lst xs)∧ixN xs.length k=some j∧Q (upd H p (.lst (xs.set j v)))
theorem set_list:PSet X rSetL:=by
 intro pins s σ H o i v ov iv u Q I ro ri rv h
 obtain ⟨p,xs,k,j,rfl,rfl,hp,hj,q⟩:=h
 cases ro
 obtain ⟨t,rfl⟩:=ri
 obtain ⟨its,n,r,ho,hz⟩:=I.lst hp
 obtain ⟨h1,h2,h3,h4⟩:=ixN_seq hj
 have hl:=r.length
 have hn:=jU
 have I':Inv X pins σ (upd H p (.lst (xs.set j v))) { s with heap:=s.heap.update p (Obj.mapSeq (·.setIfInBounds j u)) }:=
  I.lstUpd hp ho (yU its n j u) (r.set rv j) (by rw [List.length_set];exact hz) s.toks
 by_cases h0:0≤k
 ·have hk:k.toNat=j:=by
   rw [seqIndex_of h0 h4] at h1
   exact Option.some.inj h1
  exact PySem.W.ki_setAt ho h0 (by omega) (by rw [List.size_toArray,←hl];exact h4) (by rw [hk];exact ⟨_,I',q⟩)
 ·have hk:(k+(its.toArray.size:Int)).toNat=j:=by
   rw [seqIndex_neg (by omega) h3] at h1
   rw [List.size_toArray,←hl]
   exact Option.some.inj h1
  exact PySem.W.ki_setBack ho (by omega) (by rw [List.size_toArray,←hl];exact h3) (by omega) (by rw [hk];exact ⟨_,I',q⟩)
theorem uo (lo hi:Option Int)(n:Nat):(sliceBounds lo hi none n).1=((HT.sIx n 0 lo:Nat):Int)∧(sliceBounds lo hi none n).2.1=((HT.sIx n n hi:Nat):Int)∧(sliceBounds lo hi none n).2.2=1:=by
 refine ⟨?_,?_,rfl⟩
 ·cases lo with
  | none=>simp [sliceBounds,HT.sIx]
  | some i=>
   simp only [sliceBounds,HT.sIx,Option.getD_none,show (1:Int)>0 by decide,if_true]
   by_cases h:i<0
   ·simp only [h,if_true] <;> omega
   ·simp only [h,if_false] <;> omega
 ·cases hi with
  | none=>simp [sliceBounds,HT.sIx]
  | some i=>
   simp only [sliceBounds,HT.sIx,Option.getD_none,show (1:Int)>0 by decide,if_true]
   by_cases h:i<0
   ·simp only [h,if_true] <;> omega
   ·simp only [h,if_false] <;> omega
theorem qX (its:List Value)(lo hi:Option Int):slicePick its.toArray lo hi none=((its.drop (HT.sIx its.length 0 lo)).take (HT.sIx its.length its.length hi - HT.sIx its.length 0 lo)).toArray:=by
 obtain ⟨h1,h2,h3⟩:=uo lo hi its.toArray.size
 unfold slicePick
 rw [h1,h2,h3]
 simp only [sliceRange_one,pick_run,List.size_toArray] <;> rfl
def rSlL (K:PySem.W.Frag):V→Option Int→Option Int→Hp→VK→Prop:=fun x lo hi H Q=>∃ a xs,x=.ref a∧SqL K H a xs∧∀ p,H p=none→Q (.ref p) (upd H p (.lst (cutV xs lo hi)))
theorem sl_list:SlR X (rSlL X.K):=by
 intro pins s σ H x v vl vu lo hi sl Q I rx hs pl pu h
 obtain ⟨a,xs,rfl,hx,q⟩:=h
 cases rx
 obtain ⟨its,r,ht,hz⟩:=I.list hx
 have hlen:=r.length
 refine ⟨"list",_,slot_list_getitem.lookup,ht.isList.typeIs,?_⟩
 refine wpAny_getItem_list_slice ht.isList hs pl pu .none (by simp) ?_ (by rw [List.size_toArray] <;> omega)
 rw [qX,←hlen]
 refine ⟨.ref s.heap.objs.size,_,I.laid (t':=s.toks) (o:=.lst (cutV xs lo hi)) (fun b ob q=>Heap.get?_push_of_some _ q) (Nat.le_refl _) ?_,rfl,q _ (I.hok.fresh (Nat.le_refl _))⟩
 exact ⟨Nat.le_trans (nC xs lo hi) hz,_,0,(r.drop (HT.sIx xs.length 0 lo)).take (HT.sIx xs.length xs.length hi - HT.sIx xs.length 0 lo),Heap.get?_push_size _ rfl⟩
def oA:V→Bool
 | .non=>true
 | .bl _=>true
 | .int _=>true
 | .str _=>true
 | _=>false
def eqV:V→V→Bool
 | .non,.non=>true
 | .bl a,.bl b=>a==b
 | .bl a,.int b=>(if a then 1 else 0)==b
 | .int a,.bl b=>a==(if b then 1 else 0)
 | .int a,.int b=>a==b
 | .str a,.str b=>a==b
 | _,_=>false
theorem eqAt_V {A:Around}{s:Shared}{y x:V}{u v:Value}(ry:RelV y u)(rx:RelV x v)(fy:oA y=true)(fx:oA x=true):SeqAt.EqAt A s u v (eqV y x):=by
 cases y with
 | non=>
  cases ry
  cases x with
  | non=>cases rx;exact SeqAt.EqAt.same _
  | bl b=>cases rx;exact SeqAt.EqAt.none_bool b
  | int b=>obtain ⟨t,rfl⟩:=rx;exact SeqAt.EqAt.none_int b t
  | str b=>obtain ⟨t,rfl⟩:=rx;exact SeqAt.EqAt.none_str b t
  | _=>exact absurd (show false=true from fx) Bool.false_ne_true
 | bl a=>
  cases ry
  cases x with
  | non=>cases rx;exact SeqAt.EqAt.bool_none a
  | bl b=>cases rx;exact SeqAt.EqAt.bool_bool a b
  | int b=>obtain ⟨t,rfl⟩:=rx;exact SeqAt.EqAt.bool_int a b t
  | str b=>obtain ⟨t,rfl⟩:=rx;exact SeqAt.EqAt.bool_str a b t
  | _=>exact absurd (show false=true from fx) Bool.false_ne_true
 | int a=>
  obtain ⟨t',rfl⟩:=ry
  cases x with
  | non=>cases rx;exact SeqAt.EqAt.int_none a t'
  | bl b=>cases rx;exact SeqAt.EqAt.int_bool a t' b
  | int b=>obtain ⟨t,rfl⟩:=rx;exact SeqAt.EqAt.int_int a t' b t
  | str b=>obtain ⟨t,rfl⟩:=rx;exact SeqAt.EqAt.int_str a t' b t
  | _=>exact absurd (show false=true from fx) Bool.false_ne_true
 | str a=>
  obtain ⟨t',rfl⟩:=ry
  cases x with
  | non=>cases rx;exact SeqAt.EqAt.str_none a t'
  | bl b=>cases rx;exact SeqAt.EqAt.str_bool a t' b
  | int b=>obtain ⟨t,rfl⟩:=rx;exact SeqAt.EqAt.str_int a t' b t
  | str b=>obtain ⟨t,rfl⟩:=rx;exact SeqAt.EqAt.str_str a t' b t
  | _=>exact absurd (show false=true from fx) Bool.false_ne_true
 | _=>exact absurd (show false=true from fy) Bool.false_ne_true
def eqU (x:V)(u:Value):Bool:=match u with
 | .none=>eqV .non x
 | .bool b=>eqV (.bl b) x
 | .int i _=>eqV (.int i) x
 | .str z _=>eqV (.str z) x
 | _=>false
theorem eqU_of {x y:V}{u:Value}(r:RelV y u)(f:oA y=true):eqU x u=eqV y x:=by
 cases y with
 | non=>cases r;rfl
 | bl b=>cases r;rfl
 | int i=>obtain ⟨t,rfl⟩:=r;rfl
 | str z=>obtain ⟨t,rfl⟩:=r;rfl
 | _=>exact absurd (show false=true from f) Bool.false_ne_true
theorem nH {x:V}:∀ {xs:List V} {us:List Value},Vals xs us→xs.all oA=true→us.any (eqU x)=xs.any fun y=>eqV y x
 | _,_,.nil,_=>rfl
 | y::xs,u::us,.cons r t,f=>by
  rw [List.all_cons,Bool.and_eq_true] at f
  rw [List.any_cons,List.any_cons,eqU_of r f.1,nH t f.2]
theorem iB {A:Around}{s:Shared}{x:V}{v:Value}(rx:RelV x v)(fx:oA x=true):∀ {xs:List V} {us:List Value},Vals xs us→xs.all oA=true→∀ u∈us,SeqAt.EqAt A s u v (eqU x u)
 | _,_,.nil,_=>fun u hu=>by cases hu
 | y::xs,u::us,.cons r t,f=>fun u' hu=>by
  rw [List.all_cons,Bool.and_eq_true] at f
  rcases List.mem_cons.mp hu with rfl | hu
  ·rw [eqU_of r f.1];exact eqAt_V r rx f.1 fx
  ·exact iB rx fx t f.2 u' hu
def inV (x:V)(xs:List V):Bool:=xs.any fun y=>eqV y x
def rIn (K:PySem.W.Frag)(neg:Bool):R2:=fun x y H Q=>∃ p xs,y=.ref p∧(SqL K H p xs∨SqT K H p xs)∧oA x=true∧xs.all oA=true∧Q (.bl (if neg then !inV x xs else inV x xs)) H
theorem op_in_seq:OpR X (compareOp .In) (rIn X.K false):=by
 intro pins s σ H x y v u Q I rx ry h
 obtain ⟨p,xs,rfl,hq,fx,fs,q⟩:=h
 cases ry
 rcases hq with hq | hq
 ·obtain ⟨its,r,pl,hz⟩:=I.list hq
  refine SeqAt.in_listAt (eqU x) pl.isList (fun w hw=>iB rx fx r fs w (by simpa using hw)) ⟨.bl _,H,I,rfl,?_⟩
  rw [show its.toArray.any (eqU x)=its.any (eqU x) by simp,nH r fs]
  exact q
 ·obtain ⟨its,r,pl,hz⟩:=I.tuple hq
  refine SeqAt.in_tupleAt (eqU x) pl (fun w hw=>iB rx fx r fs w (by simpa using hw)) ⟨.bl _,H,I,rfl,?_⟩
  rw [show its.toArray.any (eqU x)=its.any (eqU x) by simp,nH r fs]
  exact q
theorem sy:OpR X (compareOp .NotIn) (rIn X.K true):=by
 intro pins s σ H x y v u Q I rx ry h
 obtain ⟨p,xs,rfl,hq,fx,fs,q⟩:=h
 cases ry
 rcases hq with hq | hq
 ·obtain ⟨its,r,pl,hz⟩:=I.list hq
  refine SeqAt.notIn_listAt (eqU x) pl.isList (fun w hw=>iB rx fx r fs w (by simpa using hw)) ⟨.bl _,H,I,rfl,?_⟩
  rw [show its.toArray.any (eqU x)=its.any (eqU x) by simp,nH r fs]
  exact q
 ·obtain ⟨its,r,pl,hz⟩:=I.tuple hq
  refine SeqAt.notIn_tupleAt (eqU x) pl (fun w hw=>iB rx fx r fs w (by simpa using hw)) ⟨.bl _,H,I,rfl,?_⟩
  rw [show its.toArray.any (eqU x)=its.any (eqU x) by simp,nH r fs]
  exact q
theorem rN:dz X (.builtin "len") (fun xs H Q=>∃ p ys,xs=[.ref p]∧(SqL X.K H p ys∨SqT X.K H p ys)∧Q (.int ys.length) H):=by
 intro pins s σ H xs us Q I r h
 obtain ⟨p,ys,rfl,hq,q⟩:=h
 obtain ⟨u,rfl,rx⟩:=vals1 r
 cases rx
 have hn:=jU
 rcases hq with hq | hq
 ·obtain ⟨its,r',pl,hz⟩:=I.list hq
  have hlen:=r'.length
  exact Calls.call_len_list pl.isList (by simp only [List.size_toArray] <;> omega) ⟨.int ys.length,H,I.tok _,⟨s.toks+1,by rw [List.size_toArray,hlen]⟩,q⟩
 ·obtain ⟨its,r',pl,hz⟩:=I.tuple hq
  have hlen:=r'.length
  exact len_tuple pl (by simp only [List.size_toArray] <;> omega) ⟨.int ys.length,H,I.tok _,⟨s.toks+1,by rw [List.size_toArray,hlen]⟩,q⟩
theorem dz.or {f:Value}{r r':List V→Hp→VK→Prop}(h:dz X f r)(h':dz X f r'):dz X f (fun xs H Q=>r xs H Q∨r' xs H Q):=by
 intro pins s σ H xs us Q I rs q
 rcases q with q | q
 ·exact h pins s σ H xs us Q I rs q
 ·exact h' pins s σ H xs us Q I rs q
theorem jT:dz X (.type "list") (fun xs H Q=>∃ p ys,xs=[.ref p]∧(SqL X.K H p ys∨SqT X.K H p ys)∧∀ l,H l=none→Q (.ref l) (upd H l (.lst ys))):=by
 intro pins s σ H xs us Q I r h
 obtain ⟨p,ys,rfl,hq,q⟩:=h
 obtain ⟨u,rfl,rx⟩:=vals1 r
 cases rx
 have fin:∀ (its:List Value),Vals ys its→ys.length≤sizeLine→∀ (h':Heap) (c':Nat),(∀ b o',s.heap.get? b=some o'→h'.get? b=some o') →
   h'.get? s.heap.objs.size=some { cls:=.type "list",dict:=none,data:=.seq its.toArray c',slots:=#[] }→EP X pins σ Q (.ref s.heap.objs.size) { s with heap:=h' }:=fun its r' hz h' c' kp e=>
  ⟨.ref s.heap.objs.size,_,I.laid (t':=s.toks) kp (Nat.le_refl _) (show fB X.prog X.w _ h' _ (.lst ys) from ⟨hz,its,c',r',e⟩),rfl,q _ (I.hok.fresh (Nat.le_refl _))⟩
 rcases hq with hq | hq
 ·obtain ⟨its,r',pl,hz⟩:=I.list hq
  have hlen:=r'.length
  obtain ⟨o,ho,hc,n,hd⟩:=pl.isList
  exact call_list_seq p (.inl rfl) ho hc hd (fun h' c' kp e=>fin its r' hz h' c' kp e) (by simp only [List.size_toArray] <;> omega)
 ·obtain ⟨its,r',pl,hz⟩:=I.tuple hq
  have hlen:=r'.length
  obtain ⟨o,ho,hc,n,hd⟩:=pl
  exact call_list_seq p (.inr rfl) ho hc hd (fun h' c' kp e=>fin its r' hz h' c' kp e) (by simp only [List.size_toArray] <;> omega)
theorem rB:dz X (.type "tuple") (fun xs H Q=>∃ p ys,xs=[.ref p]∧((SqL X.K H p ys∧∀ l,H l=none→Q (.ref l) (upd H l (.tup ys)))∨(SqT X.K H p ys∧Q (.ref p) H))):=by
 intro pins s σ H xs us Q I r h
 obtain ⟨p,ys,rfl,h⟩:=h
 obtain ⟨u,rfl,rx⟩:=vals1 r
 cases rx
 rcases h with ⟨hq,q⟩ | ⟨hq,q⟩
 ·obtain ⟨its,r',pl,hz⟩:=I.list hq
  have hlen:=r'.length
  refine call_tuple_list pl.isList (fun h' kp=>?_) (by simp only [List.size_toArray] <;> omega)
  have I1:Inv X pins σ H { s with heap:=h' }:=I.kept (t':=s.toks) kp
  have I2:Inv X pins σ (upd H h'.objs.size (.tup ys)) { s with heap:=h'.push { cls:=.type "tuple",data:=.seq its.toArray } }:=
   I1.laid (t':=s.toks) (fun b o e=>Heap.get?_push_of_some _ e) (Nat.le_refl _) (show fB X.prog X.w _ _ _ (.tup ys) from ⟨hz,its,r',IsTup.new _ _⟩)
  exact ⟨.ref h'.objs.size,_,I2,rfl,q _ (I1.hok.fresh (Nat.le_refl _))⟩
 ·obtain ⟨its,r',pl,hz⟩:=I.tuple hq
  exact call_tuple_same pl ⟨.ref p,H,I,rfl,q⟩
def tyV (K:PySem.W.Frag)(T:String)(x:V)(H:Hp):Prop:=match x with
 | .str _=>T = "str"
 | .int _=>T = "int"
 | .ref p=>(T = "list"∧∃ xs,SqL K H p xs)∨(T = "tuple"∧∃ o,K.lookup p=some o∧o.cls=.type "tuple"∧o.dict=none) ∨
   (T = "dict"∧((∃ kvs,H p=some (.dK kvs))∨∃ kvs,H p=some (.dT kvs)))∨(T = "set"∧∃ S n,H p=some (.set S n))
 | _=>False
theorem tyV_is {pins:List (Addr×Obj)}{σ : St}{H:Hp}{s:Shared}{T:String}{x:V}{v:Value}(I:Inv X pins σ H s)(r:RelV x v)(ty:tyV X.K T x H) :
  s.TypeIs v T∧∀ a,v=.ref a→∃ ob,s.heap.get? a=some ob∧ob.dict=none:=by
 cases x with
 | str z=>
  obtain ⟨t,rfl⟩:=r
  cases (show T = "str" from ty)
  exact ⟨typeIs_str s z t,fun _ e=>nomatch e⟩
 | int i=>
  obtain ⟨t,rfl⟩:=r
  cases (show T = "int" from ty)
  exact ⟨typeIs_int s i t,fun _ e=>nomatch e⟩
 | ref p=>
  cases r
  rcases ty with ⟨rfl,xs,hq⟩ | ⟨rfl,o,hk,hc,hd⟩ | ⟨rfl,hk⟩ | ⟨rfl,S,n,hk⟩
  ·obtain ⟨its,_,pl,_⟩:=I.list hq
   refine ⟨pl.isList.typeIs,fun a e=>?_⟩
   cases e
   obtain ⟨o,n,e,c,hd,_⟩:=pl
   exact ⟨o,e,hd⟩
  ·refine ⟨⟨o,I.kIn p o hk,hc⟩,fun a e=>?_⟩
   cases e
   exact ⟨o,I.kIn _ o hk,hd⟩
  ·have z:∃ o,s.heap.get? p=some o∧o.ExactDict:=by
    rcases hk with ⟨kvs,hk⟩ | ⟨kvs,hk⟩
    ·obtain ⟨_,_,_,_,o,_,_,e,ex,_⟩:=I.hok p _ hk
     exact ⟨o,e,ex⟩
    ·obtain ⟨_,_,_,_,o,_,_,e,ex,_⟩:=I.hok p _ hk
     exact ⟨o,e,ex⟩
   obtain ⟨o,e,ex⟩:=z
   refine ⟨⟨o,e,ex.1⟩,fun a e2=>?_⟩
   cases e2
   exact ⟨o,e,ex.2.1⟩
  ·obtain ⟨o,_,_,_,e,ex,_⟩:=I.hok p _ hk
   refine ⟨⟨o,e,ex.1⟩,fun a e2=>?_⟩
   cases e2
   exact ⟨o,e,ex.2.1⟩
 | _=>exact False.elim ty
def tBM0 (K:PySem.W.Frag)(T:String)(r:V→List V→Hp→VK→Prop)(to:TE):TE:=fun σ H Q=>to σ H fun x H1=>tyV K T x H1∧r x [] H1 Q
def tBM (K:PySem.W.Frag)(T:String)(r:V→List V→Hp→VK→Prop)(to:TE)(t:TA):TE:=fun σ H Q=>to σ H fun x H1=>tyV K T x H1∧t σ H1 fun xs H2=>r x xs H2 Q
variable {o e:Expr}{es:List Expr}{to:TE}{t:TA}{name:Str}{apos cpos:Pos}{T id:String}{r:V→List V→Hp→VK→Prop}
theorem pe_bm0 (pa:PlainAttrs T)(slot:Slot T name id)(hty:typeOf (.builtin id)=pure (.type "method_descriptor"))(hm:MtR X id r)(ho:PE X o to)
  (hbase:attributeBase o name X.env (eval o X.env)=eval o X.env:=by rfl) (hline:(apos.endLine==cpos.line)=true:=by rfl):PE X (.Call (.Attribute o name apos) [] [] cpos) (tBM0 X.K T r to):=by
 intro pins s σ H Q I h
 refine wpAny_Call_method0_late hbase hline (thn (ho pins s σ H _ I h) fun v s1 ⟨x,H1,I1,r1,ty,q1⟩=>?_)
 obtain ⟨h1,h2⟩:=tyV_is I1 r1 ty
 exact ⟨T,id,pa,slot,hty,h1,h2,Calls.callWith_builtin rfl (PySem.evalArgs_none (hm pins s1 σ H1 x [] v [] Q I1 r1 .nil q1))⟩
theorem pe_bm (pa:PlainAttrs T)(slot:Slot T name id)(hty:typeOf (.builtin id)=pure (.type "method_descriptor"))(hm:MtR X id r)(ho:PE X o to)(ha:PA X (e::es) t)
  (hbase:attributeBase o name X.env (eval o X.env)=eval o X.env:=by rfl)
  (hfew:((backTo cpos (starEach (e::es) X.env)).all (fun x=>!x.1)&&(backToKw cpos (keywordEach [] X.env)).all (fun x=>x.1.isSome)
   && decide ((e::es).length+([]:List Keyword).length+(if ([]:List Keyword).isEmpty then 0 else 1)<30))=true:=by rfl)
  (hline:(apos.endLine==cpos.line)=true:=by rfl) (hs:starEach (e::es) X.env=(false,eval e X.env)::starEach es X.env:=by rfl) (hplain:(backTo cpos (starEach es X.env)).any (·.1)=false:=by rfl) :
  PE X (.Call (.Attribute o name apos) (e::es) [] cpos) (tBM X.K T r to t):=by
 intro pins s σ H Q I h
 refine wpAny_Call_method_late hbase hfew hline rfl (thn (ho pins s σ H _ I h) fun v s1 ⟨x,H1,I1,r1,ty,q1⟩=>?_)
 obtain ⟨h1,h2⟩:=tyV_is I1 r1 ty
 refine ⟨T,id,pa,slot,hty,h1,h2,?_⟩
 have hA:=ha cpos pins s1 σ H1 _ I1 q1
 rw [hs] at hA ⊢
 refine Calls.callWith_builtin (by show (false||(backTo cpos (starEach es X.env)).any (·.1))=false;rw [hplain] <;> rfl) (Calls.evalArgs_plain ?_)
 exact thn hA fun us s2 ⟨vs,H2,I2,r2,q2⟩=>hm pins s2 σ H2 x vs v us Q I2 r1 r2 q2
/- xs.append(e), list.index on a module's tuple .. are MtR facts of 06m -/
end
end L2
namespace L2
open PySem PySem.Spec PyProof.Rows
def MtM (X:Cx)(id:String)(r:V→List V→Hp→VK→Prop):Prop:=
 ∀ (pins:List (Addr×Obj)) (s:Shared) (σ : St) (H:Hp) (x:V) (xs:List V) (v:Value) (us:List Value) (Q:VK),Inv X pins σ H s→RelV x v→Vals xs us→r x xs H Q →
  wpAny (model X.prog X.w) X.A (call (.builtin id) (v::us)) (EP X pins σ Q) X.xe s
theorem Vals.one:∀ {x:V} {us:List Value},Vals [x] us→∃ u,us=[u]∧RelV x u
 | _,_,.cons r .nil=>⟨_,rfl,r⟩
theorem Vals.zero:∀ {us:List Value},Vals [] us→us=[]
 | _,.nil=>rfl
theorem Vals.reverse {xs:List V}{us:List Value}(h:Vals xs us):Vals xs.reverse us.reverse:=by
 induction h with
 | nil=>exact .nil
 | cons r t ih=>rw [List.reverse_cons,List.reverse_cons];exact Vals.append ih (.cons r .nil)
section
variable {X:Cx}{pins:List (Addr×Obj)}{σ : St}{H:Hp}{s:Shared}{l b:Addr}{xs ys zs:List V}
theorem Inv.lset {its its':List Value}{n:Nat}{f:Array Value→Array Value}{t':Nat}(I:Inv X pins σ H s)(hH:H l=some (.lst xs))
  (e:s.heap.get? l=some { cls:=.type "list",data:=.seq its.toArray n }) (hf:f its.toArray=its'.toArray) (hv:Vals ys its') (hz:ys.length≤sizeLine) :
  Inv X pins σ (upd H l (.lst ys)) { s with heap:=s.heap.update l (Obj.mapSeq f),toks:=t' }:=by
 have q:=PySem.IsL.update e f
 rw [hf] at q
 refine I.write (x:=l) (e:=l) (by rw [hH];exact trivial) (.inl rfl) (fun b' u hb hu=>(Heap.get?_update_other s.heap (Obj.mapSeq f) (Ne.symm hb)).trans hu) ⟨_,q⟩ ?_
 exact ⟨hz,its',_,hv,q⟩
theorem Inv.lnew {its:List Value}{t':Nat}(I:Inv X pins σ H s)(hv:Vals ys its)(hz:ys.length≤sizeLine) :
  Inv X pins σ (upd H s.heap.objs.size (.lst ys)) { s with heap:=s.heap.push { cls:=.type "list",data:=.seq its.toArray },toks:=t' }:=
 I.laid (fun _ _ q=>Heap.get?_push_of_some _ q) (Nat.le_refl _) ⟨hz,its,0,hv,Heap.get?_push_size _ rfl⟩
theorem Inv.fresh (I:Inv X pins σ H s):H s.heap.objs.size=none:=I.hok.fresh (Nat.le_refl _)
theorem Inv.lstM (I:Inv X pins σ H s)(hH:H l=some (.lst xs)):xs.length≤sizeLine∧∃ (its:List Value) (n:Nat),Vals xs its∧xs.length=its.length∧s.heap.get? l=some { cls:=.type "list",data:=.seq its.toArray n }:=by
 obtain ⟨z,its,n,r,e⟩:=I.hok l _ hH
 exact ⟨z,its,n,r,r.length,e⟩
theorem notLongL {n:Nat}(h:n≤sizeLine):Builtin.List.listTooLong n=false:=by
 unfold Builtin.List.listTooLong
 exact decide_eq_false (by omega)
end
section
variable {X:Cx}
def rAppend:V→List V→Hp→VK→Prop:=fun x vs H Q=>∃ l xs y,x=.ref l∧vs=[y]∧H l=some (.lst xs)∧xs.length<sizeLine∧Q .non (upd H l (.lst (xs++[y])))
theorem tU:MtM X "list.append" rAppend:=by
 intro pins s σ H x vs v us Q I rx rv h
 obtain ⟨l,xs,y,rfl,rfl,hH,hz,q⟩:=h
 cases rx
 obtain ⟨u,rfl,ru⟩:=rv.one
 obtain ⟨z,its,n,r,hl,e⟩:=I.lstM hH
 refine call_meets F.slot_list_append ⟨_,e,rfl⟩ F.entry_list_append (F.args_list_append_2 _ _) (PySem.list_append l its.toArray n u (by rw [List.size_toArray];omega)) ⟨e,?_⟩
 refine ⟨.non,_,I.lset (its':=its++[u]) hH e (by simp) (r.append (.cons ru .nil)) ?_,rfl,q⟩
 rw [List.length_append,List.length_singleton]
 omega
def rExtend:V→List V→Hp→VK→Prop:=fun x vs H Q=>∃ l b xs zs,x=.ref l∧vs=[.ref b]∧H l=some (.lst xs)∧H b=some (.lst zs)∧xs.length+zs.length≤sizeLine∧Q .non (upd H l (.lst (xs++zs)))
theorem mt_extend:MtM X "list.extend" rExtend:=by
 intro pins s σ H x vs v us Q I rx rv h
 obtain ⟨l,b,xs,zs,rfl,rfl,hH,hB,hz,q⟩:=h
 cases rx
 obtain ⟨u,rfl,ru⟩:=rv.one
 cases ru
 obtain ⟨z,its,n,r,hl,e⟩:=I.lstM hH
 obtain ⟨z2,its2,n2,r2,hl2,e2⟩:=I.lstM hB
 have hsz:its.toArray.size+its2.toArray.size≤sizeLine:=by rw [List.size_toArray,List.size_toArray];omega
 have hlong:¬ (!its.toArray.isEmpty&&Builtin.List.listTooLong (its.toArray.size+its2.toArray.size))=true:=by
  rw [notLongL hsz,Bool.and_false]
  exact Bool.false_ne_true
 refine call_meets F.slot_list_extend ⟨_,e,rfl⟩ F.entry_list_extend (F.args_list_extend_2 _ _)
  (AutoSeq1.list_extend_list_list_0 l its.toArray n b its2.toArray n2 hlong (by rw [List.size_toArray];omega) (by omega)) ⟨e,e2,?_⟩
 refine ⟨.non,_,I.lset (its':=its++its2) hH e (by simp) (r.append r2) ?_,rfl,q⟩
 rw [List.length_append]
 omega
def wB:V→List V→Hp→VK→Prop:=fun x vs H Q=>∃ l xs,x=.ref l∧vs=[]∧H l=some (.lst xs)∧Q .non (upd H l (.lst xs.reverse))
theorem yX:MtM X "list.reverse" wB:=by
 intro pins s σ H x vs v us Q I rx rv h
 obtain ⟨l,xs,rfl,rfl,hH,q⟩:=h
 cases rx
 have hus:=rv.zero
 subst hus
 obtain ⟨z,its,n,r,hl,e⟩:=I.lstM hH
 refine call_meets F.slot_list_reverse ⟨_,e,rfl⟩ F.entry_list_reverse (F.args_list_reverse_1 _) (AutoSeq1.list_reverse_list_0 l its.toArray n (by rw [List.size_toArray];omega)) ⟨e,?_⟩
 refine ⟨.non,_,I.lset (its':=its.reverse) hH e (by simp) r.reverse ?_,rfl,q⟩
 rw [List.length_reverse]
 omega
def rCat:R2:=fun x y H Q=>∃ l b xs zs,x=.ref l∧y=.ref b∧H l=some (.lst xs)∧H b=some (.lst zs)∧xs.length+zs.length≤sizeLine∧∀ p,H p=none→Q (.ref p) (upd H p (.lst (xs++zs)))
theorem op_cat:OpR X (binaryOp .Add) rCat:=by
 intro pins s σ H x y v u Q I rx ry h
 obtain ⟨l,b,xs,zs,rfl,rfl,hH,hB,hz,q⟩:=h
 cases rx
 cases ry
 obtain ⟨z,its,n,r,hl,e⟩:=I.lstM hH
 obtain ⟨z2,its2,n2,r2,hl2,e2⟩:=I.lstM hB
 refine PySem.P.add_list e e2 ?_ (by rw [List.size_toArray,List.size_toArray];omega)
 have ea:its.toArray++its2.toArray=(its++its2).toArray:=by simp
 rw [ea]
 exact ⟨.ref _,_,I.lnew (t':=s.toks) (r.append r2) (by rw [List.length_append];omega),rfl,q _ I.fresh⟩
end
section
variable {prog:Program}{w:World}{A:Around}{E:Value→Shared→Prop}{s:Shared}
end
section
variable {X:Cx}
end
end L2
namespace Att
open PySem PySem.W PySem.Calls PyProof.Rows
theorem m9 {P:Params}{h:Heap}:∀ (ns:List Int) (vs:List Value),WellAll P h vs (ns.map WData.int)→IntsAre vs ns:=by
 intro ns
 induction ns with
 | nil=>
  intro vs w
  rw [List.map_nil] at w
  cases w
  exact .nil
 | cons n ns ih=>
  intro vs w
  rw [List.map_cons] at w
  cases w with
  | cons a b=>
   cases a
   exact .cons _ _ (ih _ b)
theorem zP {l:OpenLaw}{n:Nat}(hn:l.most=some n){P:Params}{h:Heap}{args:List WData}{vals:List Value}
  (hpre:l.row.toRowW.claim.pre args=true) (hwl:WellAll P h vals args) :
  ∃ a vs ns,vals=[Value.ref a]∧args=[WData.list (ns.map WData.int)]∧h.get? a=some { cls:=.type "list",data:=.seq vs.toArray }∧IntsAre vs ns∧ns.length≤n:=by
 have hsh:WShape.hasAll [] args [.list .int]=true:=(pre_splitW hpre).1
 have hc:l.pre.holds [] { args:=args }=true:=(pre_splitW hpre).2
 obtain ⟨d,r,rfl,h1,h2⟩:=hasAllW_cons hsh
 obtain rfl:=hasAllW_nil h2
 obtain ⟨xs,rfl,h3⟩:=hasW_list h1
 obtain ⟨ns,rfl⟩:=items_int h3
 have hlen:ns.length≤n:=by
  unfold OpenLaw.pre at hc
  have h4:(WTm.not (.lt (.lit (.int (n:Int))) (.len (.arg 0)))).holds [] { args:=[.list (ns.map .int)] }=true:=by
   have h4:=(holds_andW hc).1
   rw [hn] at h4
   exact h4
  have h5:=condW_of h4 (w_not (w_lt w_lit (w_len_list (w_arg rfl))))
  rw [List.length_map] at h5
  refine Nat.le_of_not_lt fun q=>?_
  have q':(n:Int)<((ns.length:Nat):Int):=by omega
  first
   | (rw [decide_eq_true q'] at h5;exact absurd h5 (by decide))
   | (simp at h5;omega)
 cases hwl with
 | cons w1 w2=>
  cases w2
  cases w1 with
  | list ho hall=>exact ⟨_,_,ns,rfl,rfl,ho,m9 ns _ hall,hlen⟩
theorem zZ (l:OpenLaw)(args:List WData):l.row.toRowW.claim.post args (.bool true) args=true:=
 postW_of (r:=l.row.toRowW) (X:=(true==true))
  (show WShape.has [] (.bool true) .bool=true by first | rfl | decide | simp [WShape.has,WShape.arms,WShape.armsAll])
  (show (WTm.eq .res (.lit (.bool true))).value [] { args:=args,res:=some (.bool true),after:=args }=some (.bool (true==true)) from w_eq_bool (w_res rfl) w_lit) rfl
theorem uW {l:OpenLaw}{n:Nat}{q:Program}{loose:List Str}{XP:(Str→Option Value)→Heap→Prop}{YP:World→Heap→Prop}{d:DefRec}
  (hn:l.most=some n) (hdf:d.params.defaults=[])
  (call:∀ (w:World) (s₀ s₁ : Shared) (mg mb:Str→Option Value) (fa:Addr) (o:Obj) (pm cd doc:Value) (a:Addr) (vs:List Value) (ns:List Int),
   Ground q loose [] XP w s₀ mg mb s₁.heap→YP w s₁.heap →
   s₁.heap.get? fa=some o→o.data=.func (docDef d.name d.params d.body d.scope pm cd doc)→s₁.heap.CodeRec cd d.name→mg d.name=some (.ref fa) →
   s₁.heap.get? a=some { cls:=.type "list",data:=.seq vs.toArray }→IntsAre vs ns→ns.length≤n→s₁.gens = #[] →
   codeAny (model l.prog w) callerA (.call (.ref fa) ⟨[.ref a],[]⟩) (fun r s'=>r=.ok (.ret (.bool true))∧OldK s₁.heap s'.heap∧s'.os=s₁.os∧AllBare s'.gens) s₁) :
  WalkO q loose XP YP l.row.toRowW d [] (fun f vs=>PySem.call f vs):=by
 intro w s₀ s₁ mg mb G Y fa o pm cd doc dV kV ho hd hcd hD hmg hg args vals as hpre hlay hrd hwl hlo
 obtain rfl:dV=.none:=Dflts.none hD hdf
 obtain rfl:kV=.none:=Dflts.noKw hD
 obtain ⟨a,vs,ns,rfl,rfl,hobj,hints,hlen⟩:=zP hn hpre hwl
 refine enter_call (codeAny_mono (call w s₀ s₁ mg mb fa o pm cd doc a vs ns G Y ho (fd_plain hd) hcd hmg hobj hints hlen hg) fun r s' hq=>?_)
 obtain ⟨rfl,h2,h3,h4⟩:=hq
 exact ⟨.inl ⟨.bool true,.bool true,[],rfl,fun _=>rfl,.bool true,zZ l _,fun _=>⟨List.Pairwise.nil,fun _ hm=>(nomatch hm)⟩⟩,h2,h3,h4⟩
section
variable {prog:Program}{w:World}{A:Around}{E:Value→Shared→Prop}{s:Shared}{K:Frag}
def ledger (h:Heap)(L d:Addr):List (Addr×Obj):=(List.range h.objs.size).filterMap fun a=>if a=L∨a=d then none else (h.get? a).map fun o=>(a,o)
end
end Att
namespace L2
open PySem PySem.Spec PyProof.Rows
theorem uP:∀ {vs:List Value} {ns:List Int},IntsAre vs ns→Vals (ns.map V.int) vs
 | _,_,.nil=>.nil
 | _,_,.cons n t h=>.cons ⟨t,rfl⟩ (uP h)
def Only (H:Hp):Prop:=∀ b,H b=none∨∃ o xs,H b=some (.frz o (.lst xs))
theorem law_call {P:Program}{w:World}{K:PySem.W.Frag}{mg mb:Str→Option Value}{CX:CXT}{k:Nat}{fa a:Addr}{fd:FuncData}{x:Str}{sp:Sp}{s₁ : Shared}{vs:List Value}{ns:List Int}
  (KX:K.In s₁.heap) (hns:s₁.heap.Ns mainGlobals mg) (hb:s₁.heap.Ns builtinsNs mb) (hbb:∀ x:Str,x ≠ "__name__"→mb x=bootBuiltins x) (hlim:s₁.heap.NoLimit) (hg:s₁.gens = #[])
  (ha:s₁.heap.get? a=some { cls:=.type "list",data:=.seq vs.toArray }) (hi:IntsAre vs ns) (hl:ns.length≤sizeLine) (hr:kj k callerA)
  (F:∀ base:Heap,K.In base→base.Ns mainGlobals mg→cB P w K mg base CX k fa fd [x] sp) (hbind:∀ (s:Shared) (u:Value),BindsTo s fd ⟨[u],[]⟩ [(x,u)])
  (hsp:∀ H:Hp,Only H→SqL K H a (ns.map V.int)→sp [.ref a] H (fun v _=>v=.bl true) fun _ _ _=>False)
  (hCX:∀ H e s',CX [] H s₁ (fun _ _ _=>False) e s'→False) :
  codeAny (model P w) callerA (.call (.ref fa) ⟨[.ref a],[]⟩) (fun r s'=>r=.ok (.ret (.bool true))∧OldK s₁.heap s'.heap∧s'.os=s₁.os∧AllBare s'.gens) s₁:=by
 have rv:=uP hi
 have lenV:=hi.length
 -- from an abstract heap in which nothing but the script may be tracked
 have core:∀ H:Hp,Only H→SqL K H a (ns.map V.int)→HOk P w H s₁.heap→(∀ b,H b≠none→b=a)→(H a≠none→K.lookup a=none) →
   codeAny (model P w) callerA (.call (.ref fa) ⟨[.ref a],[]⟩) (fun r s'=>r=.ok (.ret (.bool true))∧OldK s₁.heap s'.heap∧s'.os=s₁.os∧AllBare s'.gens) s₁:=by
  intro H hO hS hok hA hK
  have base_of:∀ {b:Addr} {o:Obj},s₁.heap.get? b=some o→H b=none→(hidT s₁.heap H).get? b=some o:=fun e n=>hidT_get e n
  have noA:∀ {b:Addr} {o:Obj} {es:Array DictEntry} {ep:Nat},s₁.heap.get? b=some o→o.data=.dict es ep→H b=none:=fun {b o es ep} e d=>by
   cases q:H b with
   | none=>rfl
   | some u=>
    have e':b=a:=hA b (by rw [q];simp)
    subst e'
    rw [ha] at e;cases e
    have d':Data.seq vs.toArray _=Data.dict es ep:=d
    cases d'
  have nsK:∀ {b:Addr} {m:Str→Option Value},s₁.heap.Ns b m→(hidT s₁.heap H).Ns b m:=fun {b m} ⟨o,es,ep,e,d,r⟩=>⟨o,es,ep,base_of e (noA e d),d,r⟩
  have hKb:K.In (hidT s₁.heap H):=fun b o e=>base_of (KX b o e) (by
   cases q:H b with
   | none=>rfl
   | some u=>
    have e':b=a:=hA b (by rw [q];simp)
    subst e'
    rw [hK (by rw [q];simp)] at e;cases e)
  have hM:Mod K mg (hidT s₁.heap H):=⟨hKb,nsK hns,⟨mb,nsK hb,hbb⟩,let ⟨mc,h1,h2⟩:=hlim;⟨mc,nsK h1,h2⟩⟩
  have e0:Env0 P w K mg (hidT s₁.heap H) callerA [] s₁ H:=⟨rfl,hM,fun b o e=>of_hidT e,Nat.le_of_eq (hidT_size _ _),trivial,fun b hb=>absurd (show b∈([]:List Addr) from hb) (by simp),hok,.of_eq hg,fun v e=>(nomatch e)⟩
  refine codeAny_mono ((F _ hKb (nsK hns)).run callerA [] s₁ H ⟨[.ref a],[]⟩ [.ref a] [.ref a] _ _ hr e0 (hbind s₁ (.ref a)) (.cons rfl .nil) (hsp H hO hS)) fun r s' h=>?_
  cases r with
  | error e=>exact (hCX H e s' h).elim
  | ok fl=>
   cases fl with
   | next=>exact False.elim h
   | brk=>exact False.elim h
   | cont=>exact False.elim h
   | ret u=>
    obtain ⟨v,H',os,bare,un,hok',r',q⟩:=h
    have q':v=.bl true:=q
    subst q'
    obtain rfl:u=Value.bool true:=r'
    refine ⟨rfl,OldK.of_keep fun b o e=>?_,os,bare⟩
    cases q:H b with
    | none=>exact un.keep b o e q (by intro z;exact absurd (show b∈([]:List Addr) from z) (by simp)) (by simp)
    | some u=>
     rcases hO b with z | ⟨ob,xs,z⟩
     ·rw [q] at z;cases z
     ·have z2:=un.frzs b ob _ z
      obtain ⟨e1,_⟩:=hok b _ z
      obtain ⟨e2,_⟩:=hok' b _ z2
      rw [e] at e1;cases e1
      exact e2
 cases hk:K.lookup a with
 | some o=>
  -- the script is one of the module's own objects
  have e:=KX a o hk
  rw [ha] at e
  cases e
  refine core (fun _=>none) (fun _=>.inl rfl) (.inr ⟨_,vs.toArray,_,hk,rfl,rfl,rfl,by rw [List.size_toArray,lenV];exact hl,by simpa using rv⟩) (fun b u z=>by have z':(none:Option HO)=some u:=z;cases z') (fun b z=>absurd rfl z) fun z=>absurd rfl z
 | none=>
  refine core (fun b=>if b=a then some (.frz { cls:=.type "list",data:=.seq vs.toArray } (.lst (ns.map V.int))) else none) (fun b=>?_) (.inl (.inr ⟨{ cls:=.type "list",data:=.seq vs.toArray },if_pos rfl⟩)) (fun b u z=>?_) (fun b z=>?_) fun _=>hk
  ·by_cases hb:b=a
   ·exact .inr ⟨_,_,if_pos hb⟩
   ·exact .inl (if_neg hb)
  ·by_cases hb:b=a
   ·have z':=(if_pos hb).symm.trans z
    cases z'
    subst hb
    exact ⟨ha,by rw [List.length_map];exact hl,vs,_,rv,ha⟩
   ·have z':=(if_neg hb).symm.trans z
    cases z'
  ·by_cases hb:b=a
   ·exact hb
   ·exact absurd (if_neg hb) z
end L2
namespace L2
open PySem PySem.Spec PyProof.Rows
theorem walk_of {l:PySem.W.OpenLaw}{n k:Nat}{q:Program}{loose:List Str}{XP:(Str→Option Value)→Heap→Prop}{YP:World→Heap→Prop}{d:DefRec}{K:Params→PySem.W.Frag}{CX:World→CXT}{sp:World→Sp}{x:Str}
  (hn:l.most=some n) (hn2:n≤sizeLine) (hdf:d.params.defaults=[]) (hr:kj k callerA)
  (hY:∀ (w:World) (h:Heap),YP w h→(K w.params).In h)
  (F:∀ (w:World) (mg:Str→Option Value) (fa:Addr) (h:Heap),(K w.params).In h→h.Ns mainGlobals mg→mg d.name=some (.ref fa) →
   ∃ fd:FuncData,(∀ (s:Shared) (u:Value),BindsTo s fd ⟨[u],[]⟩ [(x,u)]) ∧
    ∀ base:Heap,(K w.params).In base→base.Ns mainGlobals mg→cB l.prog w (K w.params) mg base (CX w) k fa fd [x] (sp w))
  (hsp:∀ (w:World) (H:Hp) (a:Addr) (ns:List Int),ns.length≤n→Only H→SqL (K w.params) H a (ns.map V.int)→sp w [.ref a] H (fun v _=>v=.bl true) fun _ _ _=>False)
  (hCX:∀ (w:World) (H:Hp) (s:Shared) (e:Value) (s':Shared),CX w [] H s (fun _ _ _=>False) e s'→False) :
  PySem.W.WalkO q loose XP YP l.row.toRowW d [] (fun f vs=>PySem.call f vs):=by
 refine Att.uW hn hdf fun w s₀ s₁ mg mb fa o pm cd doc a vs ns G Y ho hd hcd hmg hobj hints hlen hg=>?_
 have KX:=hY w _ Y
 obtain ⟨fd,hb,hF⟩:=F w mg fa _ KX G.T.g hmg
 exact law_call KX G.T.g G.T.b G.T.builtins G.T.nolimit hg hobj hints (Nat.le_trans hlen hn2) hr hF hb (fun H hO hS=>hsp w H a ns hlen hO hS) fun H e s'=>hCX w H s₁ e s'
end L2
/- THE LAST THEOREM (shape; LID, My.* are yours):
   My.Adr: a structure of the addresses that your layer names (classes,functions);My.Txt K t: a structure (Prop) of the equations over K;
   My.txt_mk:{K} {implicit addresses ..} (e1:nsIn K mainGlobals "law" = some (some (.ref f))) (e2:K.lookup f=some ⟨oc,od,.func (fnOf "law" "law" params body scope dV kV doc pm an cdv ct),sl⟩) (e3:codeIn K cdv "law" = true) .. : ∃ t,My.Txt K t
set_option maxRecDepth 100000 in
set_option maxHeartbeats 0 in
theorem PySem.Challenge.cw_LID_holds : PySem.Challenge.rw_LID.Holds := by
 w_on;o_law;k_head;(case hw=>w_witness2)
 k_fill
 refine L2.walk_of (l:=PySem.Challenge.rw_LID) (n:=63) (k:=40) (x := "script") (CX:=fun w=>..) (sp:=fun _=>My.sp_law) rfl (by decide) rfl ⟨rfl,by decide,by decide⟩ (fun w h Y=>PySem.W.kIn_of Y) ?F ?S ?C
 case F=>
  intro w mg fa h KX G hmg
  have T:∃ t,My.Txt (L2.KOf KX) t:=by
   dsimp only [L2.KOf]                          -- K must stand as «<heap const> w.params» for k_is
   refine' My.txt_mk ?e1 ?e2 ?e3 ..
   (case e1=>PySem.W.k_is)                    -- in the order: a name -> its address -> its object -> its parts
   (case e2=>PySem.W.k_is)
   ..
  obtain ⟨t,T⟩:=T
  have e0:=hmg.symm.trans (PySem.W.mg_of KX G T.law)
  cases e0                                       -- fa is the law's own address
  exact ⟨_,fun s u=>.of_eq rfl,fun base kb nb=>My.law_fn T kb nb⟩     -- if «.of_eq rfl» comes too early: refine' ⟨_,?b,fun base kb nb=>My.law_fn T kb nb⟩;exact fun s u=>.of_eq rfl
 case S=>exact fun w H a ns hl hO hS=>..
 case C=>exact ..
(the tactic k_is has no namespace: write k_is) -/
namespace L2
open PySem PySem.Spec PyProof.Rows
def lK (s:Stmt):Arguments:=match s with
 | .FunctionDef _ a _ _ _ _ _ _ _ _=>a
 | _=>{ posonlyargs:=[],args:=[],vararg:=none,kwonlyargs:=[],kw_defaults:=[],kwarg:=none,defaults:=[] }
def fM (s:Stmt):List Stmt:=match s with
 | .FunctionDef _ _ b _ _ _ _ _ _ _=>b
 | _=>[]
def aF (s:Stmt):Scope:=match s with
 | .FunctionDef _ _ _ _ _ _ sc _ _ _=>sc
 | _=>{ kind:=.function,names:=[],isGenerator:=false,isCoroutine:=false }
abbrev CX0:CXT:=fun _ _ _ _ _ _=>False
abbrev E0:XK:=fun _ _ _=>False
theorem pass0 {X:Cx}:Passes CX0 X E0:=fun _ _ _ _ _ _ _ h=>h.elim
structure Fun (K:PySem.W.Frag) (x qual:Str) (st:Stmt) (f:Addr) (fd:FuncData):Prop where
 ex:∃ (oc:Value) (od:Option Addr) (kV doc pm:Value) (an:Option Addr) (cdv ct:Value) (osl:Array (Option Value)),
  fd=PySem.W.fnOf x qual (lK st) (fM st) (aF st) .none kV doc pm an cdv ct∧K.lookup f=some ⟨oc,od,.func fd,osl⟩∧PySem.W.codeIn K cdv qual=true
 kp:PySem.W.keepIn K (.ref f)=true
section
variable {P:Program}{w:World}{K:PySem.W.Frag}{mg:Str→Option Value}{base:Heap}
theorem Fun.ok {x qual:Str}{st:Stmt}{f:Addr}{fd:FuncData}{N ps:List Str}{k:Nat}{sp:Sp}(F:Fun K x qual st f fd)(S:aL N ps (aF st))(len:∀ vs H Q E,sp vs H Q E→vs.length=ps.length)
  (hbody:∀ (cdv:Value) (A:Around) (outer:List Env) (s:Shared) (H:Hp) (vs:List V) (Q:VK) (E:XK),kj k (A.deeper (envOfC qual (aF st) s.heap.objs.size f cdv))→sp vs H Q E →
   ∃ t,PSs (cxOf CX0 P w K mg base N qual (aF st) f cdv A outer s H E).nox (fM st) t∧t { nx:=fun _ H'=>Q .non H',rt:=Q } (start N vs) H):cB P w K mg base CX0 (k+1) f fd ps sp:=by
 obtain ⟨oc,od,kV,doc,pm,an,cdv,ct,osl,rfl,lk,hcd⟩:=F.ex
 refine fn_of lk hcd S len fun A outer s H vs Q E hr hsp=>?_
 obtain ⟨t,h,q⟩:=hbody cdv A outer s H vs Q E hr hsp
 exact ⟨t,h.nox,q⟩
theorem Fun.binds {x qual:Str}{st:Stmt}{f:Addr}{fd:FuncData}{ps:List Str}(F:Fun K x qual st f fd)
  (h:∀ (kV doc pm:Value) (an:Option Addr) (cdv ct:Value) (us:List Value),us.length=ps.length→bindArgs (PySem.W.fnOf x qual (lK st) (fM st) (aF st) .none kV doc pm an cdv ct) ⟨us,[]⟩=pure (ps.zip us)):Binds K fd ps []:=by
 obtain ⟨oc,od,kV,doc,pm,an,cdv,ct,osl,rfl,lk,hcd⟩:=F.ex
 exact .all (h kV doc pm an cdv ct)
theorem bC {x qual:Str}{st:Stmt}{f:Addr}{oc:Value}{od an:Option Addr}{osl:Array (Option Value)}{kV doc pm cdv ct:Value}(l:K.lookup f=some ⟨oc,od,.func (PySem.W.fnOf x qual (lK st) (fM st) (aF st) .none kV doc pm an cdv ct),osl⟩)
  (c:PySem.W.codeIn K cdv qual=true) (k:PySem.W.keepIn K (.ref f)=true):Fun K x qual st f (PySem.W.fnOf x qual (lK st) (fM st) (aF st) .none kV doc pm an cdv ct):=⟨⟨oc,od,kV,doc,pm,an,cdv,ct,osl,rfl,l,c⟩,k⟩
end
section
variable {X:Cx}
theorem pv (i:Nat){x:Str}{pos:Pos}(hN:X.N[i]?=some x:=by rfl)(hv:Vis X.env.scope x:=by first | exact Or.inl rfl | exact Or.inr (Or.inl rfl) | exact Or.inr (Or.inr rfl))(hd:(x==("__debug__" : Str))=false:=by decide)
  (hcd:(x==("__classdict__" : Str))=false:=by decide):PE X (.Name x pos) (tVar i):=pe_var hN hv hd hcd
end
end L2
namespace L2
open PySem PySem.Spec PyProof.Rows
end L2
namespace L2
open PySem PySem.Spec PyProof.Rows
def clGo (env:Env):List (Str×NameKind)→List (Str×Addr)→List (Str×Addr)
 | [],cs=>cs
 | (n,k)::r,cs=>clGo env r (if (k==NameKind.free)=true then (n,(env.cells.lookup n).getD 0)::cs else cs)
def clOf (scope:Scope)(env:Env):List (Str×Addr):=clGo env scope.names []
theorem qN {env:Env}{p:Str×Addr}:∀ (l:List (Str×NameKind)) (cs:List (Str×Addr)),p∈clGo env l cs→p∈cs∨((p.1,NameKind.free)∈l∧p.2=(env.cells.lookup p.1).getD 0)
 | [],cs,h=>.inl h
 | (n,k)::r,cs,h=>by
  rcases qN r _ h with h | ⟨h1,h2⟩
  ·by_cases hk:(k==NameKind.free)=true
   ·rw [if_pos hk] at h
    rcases List.mem_cons.mp h with rfl | h
    ·have e:k=NameKind.free:=by simpa using hk
     subst e
     exact .inr ⟨List.mem_cons_self,rfl⟩
    ·exact .inl h
   ·rw [if_neg hk] at h
    exact .inl h
  ·exact .inr ⟨List.mem_cons_of_mem _ h1,h2⟩
theorem xY {env:Env}{x:Str}:∀ (l:List (Str×NameKind)) (cs:List (Str×Addr)),((x,NameKind.free)∈l∨∃ c,(x,c)∈cs)→∃ c,(x,c)∈clGo env l cs
 | [],cs,h=>by
  rcases h with h | h
  ·exact absurd h (by simp)
  ·exact h
 | (n,k)::r,cs,h=>by
  refine xY r _ ?_
  rcases h with h | ⟨c,h⟩
  ·rcases List.mem_cons.mp h with e | h
   ·injection e with e1 e2
    subst e1;subst e2
    exact .inr ⟨_,by rw [if_pos (by rfl)];exact List.mem_cons_self⟩
   ·exact .inl h
  ·refine .inr ⟨c,?_⟩
   by_cases hk:(k==NameKind.free)=true
   ·rw [if_pos hk];exact List.mem_cons_of_mem _ h
   ·rw [if_neg hk];exact h
theorem eG {x:Str}{c:Addr}:∀ {l:List (Str×Addr)},(x,c)∈l→∃ c',l.lookup x=some c'
 | [],h=>absurd h (by simp)
 | (n,d)::r,h=>by
  by_cases e:x=n
  ·subst e
   exact ⟨d,by simp [List.lookup_cons]⟩
  ·rcases List.mem_cons.mp h with q | q
   ·injection q with q1 _
    exact absurd q1 e
   ·obtain ⟨c',h'⟩:=eG q
    refine ⟨c',?_⟩
    have e':(x==n)=false:=beq_eq_false_iff_ne.mpr e
    rw [List.lookup_cons,e']
    exact h'
theorem clos_of {scope:Scope}{env:Env}(h:∀ y∈scope.names,y.2=NameKind.free→∃ c,env.cells.lookup y.1=some c):closureFor scope env=pure (clOf scope env):=by
 unfold closureFor clOf
 have key:∀ (l:List (Str×NameKind)) (cs:List (Str×Addr)),(∀ y∈l,y.2=NameKind.free→∃ c,env.cells.lookup y.1=some c) →
   (forIn l cs (fun (x:Str×NameKind) (cs:List (Str×Addr))=>(if (x.2==NameKind.free)=true then cellOf env x.1 >>= fun c=>pure (ForInStep.yield ((x.1,c)::cs)) else pure (ForInStep.yield cs):Sem (ForInStep (List (Str×Addr))))))=pure (clGo env l cs):=by
  intro l
  induction l with
  | nil=>intro cs _;rfl
  | cons x r ih=>
   intro cs hl
   obtain ⟨n,k⟩:=x
   rw [List.forIn_cons]
   have hr:∀ y∈r,y.2=NameKind.free→∃ c,env.cells.lookup y.1=some c:=fun y hy=>hl y (List.mem_cons_of_mem _ hy)
   by_cases hk:(k==NameKind.free)=true
   ·obtain ⟨c,hc⟩:=hl (n,k) List.mem_cons_self (by simpa using hk)
    have hc':env.cells.lookup n=some c:=hc
    have e1:cellOf env n=pure c:=by unfold cellOf;rw [hc']
    simp only [hk,if_true,e1,pure_bind]
    rw [ih _ hr]
    simp only [clGo,hk,if_true,hc',Option.getD_some]
   ·simp only [hk,if_false,pure_bind,Bool.false_eq_true]
    rw [ih _ hr]
    simp only [clGo,hk,if_false,Bool.false_eq_true]
 have q:=key scope.names [] h
 simpa using q
theorem fG {y:Str}{c:Addr}:∀ {names:List (Str×NameKind)} {n:Nat} {acc:List (Str×Addr)},(y,c)∈cellsFrom n names acc↔(y,c)∈acc∨(y,c)∈cellsFrom n names []
 | [],n,acc=>by simp [cellsFrom]
 | (name,kind)::r,n,acc=>by
  unfold cellsFrom
  split
  ·rw [fG (acc:=(name,n)::acc),fG (acc:=[(name,n)])]
   simp only [List.mem_cons,List.not_mem_nil,or_false]
   exact ⟨fun h=>h.elim (fun h=>h.elim (fun h=>.inr (.inl h)) .inl) fun h=>.inr (.inr h),fun h=>h.elim (fun h=>.inl (.inr h)) fun h=>h.elim (fun h=>.inl (.inl h)) .inr⟩
  ·exact fG
theorem vY {y:Str}{c:Addr}:∀ {names:List (Str×NameKind)} {n:Nat},(y,c)∈cellsFrom n names []→(y,NameKind.cell)∈names
 | [],n,h=>by simp [cellsFrom] at h
 | (name,kind)::r,n,h=>by
  unfold cellsFrom at h
  split at h
  ·rename_i hk
   rcases fG.mp h with q | q
   ·have hk':kind=.cell:=by simpa using hk
    simp only [List.mem_cons,List.not_mem_nil,or_false,Prod.mk.injEq] at q
    rw [q.1,hk']
    exact List.mem_cons_self
   ·exact List.mem_cons_of_mem _ (vY q)
  ·exact List.mem_cons_of_mem _ (vY h)
theorem cf_has {y:Str}:∀ {names:List (Str×NameKind)} {n:Nat},(y,NameKind.cell)∈names→∃ c,(y,c)∈cellsFrom n names []
 | [],n,h=>by simp at h
 | (name,kind)::r,n,h=>by
  unfold cellsFrom
  rcases List.mem_cons.mp h with q | q
  ·cases q
   rw [if_pos (by rfl)]
   exact ⟨n,fG.mpr (.inl List.mem_cons_self)⟩
  ·split
   ·obtain ⟨c,hc⟩:=cf_has (n:=n+1) q
    exact ⟨c,fG.mpr (.inr hc)⟩
   ·exact cf_has q
theorem cf_new {h:Heap}{names:List (Str×NameKind)}{y:Str}{c:Addr}(e:(y,c)∈cellsFrom h.objs.size names []):(pushCells h names).IsCell c none∧h.objs.size≤c:=
 (cellsFrom_ok names h h.objs.size [] ⟨fun _ _ z=>by simp at z,List.Pairwise.nil⟩ (Nat.le_refl _)).empty y c e
theorem cf_apart {n:Nat}{names:List (Str×NameKind)}{y z:Str}{c:Addr}(e:(y,c)∈cellsFrom n names [])(e':(z,c)∈cellsFrom n names []):y=z:=by
 have key:∀ (k:Nat),∃ h:Heap,h.objs.size=k:=fun k=>by
  induction k with
  | zero=>exact ⟨{ (default:Heap) with objs:=#[] },rfl⟩
  | succ k ih=>
   obtain ⟨h,e⟩:=ih
   exact ⟨h.push { cls:=.type "cell",data:=.cell none },by rw [Heap.size_push,e]⟩
 obtain ⟨h,rfl⟩:=key n
 exact name_of_addr (cellsFrom_ok names h h.objs.size [] ⟨fun _ _ z=>by simp at z,List.Pairwise.nil⟩ (Nat.le_refl _)).apart e e'
theorem nfe_cells {M:Model}{A:Around}{E:Value→Shared→Prop}{s:Shared}{scope:Scope}{globals:Addr}{closure:List (Str×Addr)}{qual:Str}{func:Option Addr}{code:Value}{ar:Env}{builtins:Addr}{Q:Env→Shared→Prop}
  (hQ:Q { scope:=scope,locals:=s.heap.objs.size,globals:=globals,cells:=cellsFrom (s.heap.objs.size+1) scope.names closure,qual:=qual,func:=func,code:=ar.code,frame:=ar.frame,builtins:=ar.builtins } { s with heap:=pushCells (s.heap.push { cls:=.type "dict",data:=.dict #[] }) scope.names }) :
  wpAny M A (newFunctionEnv scope globals closure [] qual func code (some ar) builtins) Q E s:=by
 simp only [newFunctionEnv,Option.isSome_some,if_true]
 refine wpAny_bind (wpAny_alloc ?_)
 refine wpAny_bind (wpAny_layCells _ (fun name kind cells=>by cases hkc:kind==NameKind.cell <;> simp [hkc]) _ _ _ _ ?_)
 rw [show ({ s with heap:=s.heap.push { cls:=.type "dict",data:=.dict #[] } }:Shared).heap.objs.size=s.heap.objs.size+1 from Heap.size_push ..]
 rw [List.forIn_nil]
 exact wpAny_bind (wpAny_pure (wpAny_pure hQ))
def blk (X:Cx)(scope:Scope)(N':List Str)(C:Addr)(s:Shared)(H:Hp)(ex:List Addr):Cx where
 prog:=X.prog
 w:=X.w
 K:=X.K
 mg:=X.mg
 base:=X.base
 A:=X.A
 N:=N'
 s₀:=s
 H₀:=H
 env:=compEnvC scope (cellsFrom (C+1) scope.names (clOf scope X.env)) C X.env
 outer:=X.stack
 stack:=X.stack
 ex:=ex
 fn:=fun y=>decide (scope.names.lookup y=some .cell)
 calm:=X.calm
 pn:=[]
 xe:=fun _ _=>False
structure gB (X:Cx) (scope:Scope) (x:List Str) (ix:List Nat):Prop where
 kind:scope.kind=.function
 own:∀ y∈x,scope.names.lookup y=some .local∨scope.names.lookup y=some .cell
 names:∀ y∈scope.names,scope.names.lookup y.1=some y.2
 free:∀ y∈scope.names,y.2=.free→X.env.scope.names.lookup y.1=some .cell∨X.env.scope.names.lookup y.1=some .free
 ixs:∀ i∈ix,scope.names.lookup (X.N.getD i "")=some .free
 nd:(x++ix.map fun i=>X.N.getD i "").Nodup
def xH:List Str→Bool
 | []=>true
 | x::r=>!(r.contains x)&&xH r
def blkB (sc:Scope)(N:List Str)(scope:Scope)(x:List Str)(ix:List Nat):Bool:=
 decide (scope.kind=.function)&&x.all (fun y=>decide (scope.names.lookup y=some .local)||decide (scope.names.lookup y=some .cell)) &&
 scope.names.all (fun y=>decide (scope.names.lookup y.1=some y.2)) &&
 scope.names.all (fun y=>!decide (y.2=.free)||decide (sc.names.lookup y.1=some .cell)||decide (sc.names.lookup y.1=some .free)) &&
 ix.all (fun i=>decide (scope.names.lookup (N.getD i "")=some .free))&&xH (x++ix.map fun i=>N.getD i "")
theorem tZ:∀ {l:List Str},xH l=true→l.Nodup
 | [],_=>List.nodup_nil
 | x::r,h=>by
  unfold xH at h
  rw [Bool.and_eq_true] at h
  refine List.nodup_cons.mpr ⟨fun hm=>?_,tZ h.2⟩
  have:r.contains x=true:=List.contains_iff_mem.mpr hm
  rw [this] at h
  exact absurd h.1 (by decide)
theorem bw {X:Cx}{scope:Scope}{x:List Str}{ix:List Nat}(h:blkB X.env.scope X.N scope x ix=true):gB X scope x ix:=by
 unfold blkB at h
 simp only [Bool.and_eq_true,List.all_eq_true,decide_eq_true_eq,Bool.or_eq_true,Bool.not_eq_true',decide_eq_false_iff_not] at h
 obtain ⟨⟨⟨⟨⟨h1,h3⟩,h4⟩,h5⟩,h6⟩,h7⟩:=h
 refine ⟨h1,fun y hy=>h3 y hy,fun y hy=>h4 y hy,fun y hy hk=>?_,fun i hi=>h6 i hi,tZ h7⟩
 ·rcases h5 y hy with (q | q) | q
  ·exact absurd hk q
  ·exact .inl q
  ·exact .inr q
def blkσ (ix:List Nat)(σ : St):St:=ix.map fun i=>(σ[i]?).getD none
abbrev eV (X:Cx)(x:List Str)(ix:List Nat):List Str:=x++ix.map fun i=>X.N.getD i ""
theorem dI {scope:Scope}{env:Env}{x:Str}:∀ {names:List (Str×NameKind)} {k:NameKind},
  (names.map fun (p:Str×NameKind)=>if (p.2==NameKind.free&&env.scope.kind==.function&&env.kindOf p.1==some .cell)=true then (p.1,NameKind.cell) else (p.1,p.2)).lookup x=some k →
  names.lookup x=some k∨(k=.cell∧names.lookup x=some .free)
 | [],k,h=>by simp at h
 | (n,k')::r,k,h=>by
  rw [List.map_cons] at h
  cases hx:x==n with
  | true=>
   by_cases hc:(k'==NameKind.free&&env.scope.kind==.function&&env.kindOf n==some .cell)=true
   ·rw [if_pos hc] at h
    simp only [List.lookup_cons,hx] at h
    have hk:k'=.free:=by
     have:=(Bool.and_eq_true_iff.mp (Bool.and_eq_true_iff.mp hc).1).1
     simpa using this
    subst hk
    cases h
    exact .inr ⟨rfl,by simp [List.lookup_cons,hx]⟩
   ·rw [if_neg hc] at h
    simp only [List.lookup_cons,hx] at h
    cases h
    exact .inl (by simp [List.lookup_cons,hx])
  | false=>
   have h':(r.map fun (p:Str×NameKind)=>if (p.2==NameKind.free&&env.scope.kind==.function&&env.kindOf p.1==some .cell)=true then (p.1,NameKind.cell) else (p.1,p.2)).lookup x=some k:=by
    by_cases hc:(k'==NameKind.free&&env.scope.kind==.function&&env.kindOf n==some .cell)=true
    ·rw [if_pos hc] at h;simpa only [List.lookup_cons,hx] using h
    ·rw [if_neg hc] at h;simpa only [List.lookup_cons,hx] using h
   rcases dI (scope:=scope) (env:=env) h' with q | ⟨q1,q2⟩
   ·exact .inl (by simpa only [List.lookup_cons,hx] using q)
   ·exact .inr ⟨q1,by simpa only [List.lookup_cons,hx] using q2⟩
theorem jW {env:Env}{x:Str}:∀ {names:List (Str×NameKind)},names.lookup x=some .free →
  (names.map fun (p:Str×NameKind)=>if (p.2==NameKind.free&&env.scope.kind==.function&&env.kindOf p.1==some .cell)=true then (p.1,NameKind.cell) else (p.1,p.2)).lookup x=some .cell ∨
  (names.map fun (p:Str×NameKind)=>if (p.2==NameKind.free&&env.scope.kind==.function&&env.kindOf p.1==some .cell)=true then (p.1,NameKind.cell) else (p.1,p.2)).lookup x=some .free
 | [],h=>by simp at h
 | (n,k')::r,h=>by
  rw [List.map_cons]
  cases hx:x==n with
  | true=>
   simp only [List.lookup_cons,hx] at h
   cases h
   by_cases hc:(NameKind.free==NameKind.free&&env.scope.kind==.function&&env.kindOf n==some .cell)=true
   ·rw [if_pos hc];exact .inl (by simp [List.lookup_cons,hx])
   ·rw [if_neg hc];exact .inr (by simp [List.lookup_cons,hx])
  | false=>
   have h':r.lookup x=some .free:=by simpa only [List.lookup_cons,hx] using h
   have ih:=jW (env:=env) h'
   by_cases hc:(k'==NameKind.free&&env.scope.kind==.function&&env.kindOf n==some .cell)=true
   ·rw [if_pos hc];simpa only [List.lookup_cons,hx] using ih
   ·rw [if_neg hc];simpa only [List.lookup_cons,hx] using ih
theorem j6 {env:Env}{x:Str}:∀ {names:List (Str×NameKind)},names.lookup x=some .cell →
  (names.map fun (p:Str×NameKind)=>if (p.2==NameKind.free&&env.scope.kind==.function&&env.kindOf p.1==some .cell)=true then (p.1,NameKind.cell) else (p.1,p.2)).lookup x=some .cell
 | [],h=>by simp at h
 | (n,k')::r,h=>by
  rw [List.map_cons]
  cases hx:x==n with
  | true=>
   simp only [List.lookup_cons,hx] at h
   cases h
   rw [if_neg (by simp)]
   simp [List.lookup_cons,hx]
  | false=>
   have ih:=j6 (env:=env) (show r.lookup x=some .cell by simpa only [List.lookup_cons,hx] using h)
   split
   ·simpa only [List.lookup_cons,hx] using ih
   ·simpa only [List.lookup_cons,hx] using ih
section
variable {X:Cx}{pins:List (Addr×Obj)}{σ : St}{H:Hp}{s:Shared}{scope:Scope}{x:List Str}{ix:List Nat}{C:Addr}{fp:List Addr}
theorem own_ok (B:gB X scope x ix){y:Str}(hy:y∈x):Loc (relabel scope X.env) y∧(decide (scope.names.lookup y=some .cell)=true∨(relabel scope X.env).names.lookup y=some .local):=by
 rcases B.own y hy with q | q
 ·have:=lookup_relabel_local (env:=X.env) q
  exact ⟨.inl this,.inr this⟩
 ·exact ⟨.inr (j6 (env:=X.env) q),.inl (decide_eq_true q)⟩
theorem pZ (I:Inv X pins σ H s)(B:gB X scope x ix):∀ y∈scope.names,y.2=NameKind.free→∃ c,X.env.cells.lookup y.1=some c:=fun y hy hk=>I.ok.has y.1 (B.free y hy hk)
theorem cl_old (I:Inv X pins σ H s)(B:gB X scope x ix){y:Str}{c:Addr}(h:(y,c)∈clOf scope X.env):X.env.cells.lookup y=some c:=by
 rcases qN scope.names [] h with q | ⟨q1,q2⟩
 ·exact absurd q (by simp)
 ·obtain ⟨c',e⟩:=pZ I B _ q1 rfl
  have e':X.env.cells.lookup y=some c':=e
  have q2':c=(X.env.cells.lookup y).getD 0:=q2
  rw [e',Option.getD_some] at q2'
  rw [e',q2']
theorem jY (I:Inv X pins σ H s)(B:gB X scope x ix){y:Str}{c:Addr}(h:(cellsFrom (C+1) scope.names (clOf scope X.env)).lookup y=some c):X.env.cells.lookup y=some c∨(y,c)∈cellsFrom (C+1) scope.names []:=
 (fG.mp (PySem.mem_of_lookup h)).imp_left (cl_old I B)
theorem cf_ge {n:Nat}{names:List (Str×NameKind)}{y:Str}{c:Addr}(e:(y,c)∈cellsFrom n names []):n≤c:=by
 have key:∀ (names:List (Str×NameKind)) (n:Nat),(y,c)∈cellsFrom n names []→n≤c:=by
  intro names
  induction names with
  | nil=>intro n h;simp [cellsFrom] at h
  | cons a r ih=>
   intro n h
   obtain ⟨name,kind⟩:=a
   unfold cellsFrom at h
   split at h
   ·rcases fG.mp h with q | q
    ·simp only [List.mem_cons,List.not_mem_nil,or_false,Prod.mk.injEq] at q
     exact Nat.le_of_eq q.2.symm
    ·exact Nat.le_trans (Nat.le_succ n) (ih (n+1) q)
   ·exact ih n h
 exact key names n e
theorem cl_free (B:gB X scope x ix){y:Str}{c:Addr}(hf:scope.names.lookup y=some .free)(h:(y,c)∈cellsFrom (C+1) scope.names []):False:=by
 have:=B.names _ (vY h)
 simp only at this
 rw [hf] at this
 cases this
theorem yu {y:Str}(h:scope.names.lookup y=some .free∨scope.names.lookup y=some .cell):∃ c,(cellsFrom (C+1) scope.names (clOf scope X.env)).lookup y=some c:=by
 rcases h with h | h
 ·obtain ⟨c,hc⟩:=xY (env:=X.env) scope.names [] (.inl (PySem.mem_of_lookup h))
  exact eG (fG.mpr (.inl hc))
 ·obtain ⟨c,hc⟩:=cf_has (n:=C+1) (PySem.mem_of_lookup h)
  exact eG (fG.mpr (.inr hc))
theorem blk_ok (I:Inv X pins σ H s)(B:gB X scope x ix)(hC:s.heap.objs.size≤C)(hf:∀ b∈fp,zM X pins H b)(ho:∀ b∈fp,∃ o,s.heap.get? b=some o) :
  (blk X scope (eV X x ix) C s H fp).Ok where
 mod:=I.ok.mod
 kind:=B.kind
 glob:=I.ok.glob
 blt:=I.ok.blt
 above:=hC
 inj:=fun y z c h1 h2=>by
  have far:∀ {y z:Str},X.env.cells.lookup y=some c→(z,c)∈cellsFrom (C+1) scope.names []→False:=fun {y z} e q=>by
   obtain ⟨v,w⟩:=I.cell y c e
   exact absurd (Nat.lt_of_lt_of_le w.lt (Nat.le_trans (Nat.le_trans hC (Nat.le_succ C)) (cf_ge q))) (Nat.lt_irrefl _)
  rcases jY I B h1 with q1 | q1
  ·rcases jY I B h2 with q2 | q2
   ·exact I.ok.inj y z c q1 q2
   ·exact (far q1 q2).elim
  ·rcases jY I B h2 with q2 | q2
   ·exact (far q2 q1).elim
   ·exact cf_apart q1 q2
 has:=fun y hy=>by
  have hy':(relabel scope X.env).names.lookup y=some .cell∨(relabel scope X.env).names.lookup y=some .free:=hy
  rcases hy' with q | q
  ·rcases dI (scope:=scope) (env:=X.env) q with r | ⟨_,r⟩
   ·exact yu (.inr r)
   ·exact yu (.inl r)
  ·rcases dI (scope:=scope) (env:=X.env) q with r | ⟨r,_⟩
   ·exact yu (.inl r)
   ·cases r
 cab:=fun y c hf h=>by
  have hf':scope.names.lookup y=some .cell:=of_decide_eq_true hf
  rcases fG.mp (PySem.mem_of_lookup h) with q | q
  ·rcases qN scope.names [] q with q | ⟨q1,_⟩
   ·exact absurd q (by simp)
   ·have:=B.names _ q1
    simp only at this
    rw [hf'] at this
    cases this
  ·exact Nat.le_trans (Nat.le_trans hC (Nat.le_succ C)) (cf_ge q)
 hd:=I.ok.hd
 qt:=I.qt0
 frames:=I.ok.frames
 stk:=.inl rfl
 exf:=fun b hb=>by
  obtain ⟨o,e⟩:=ho b hb
  refine ⟨Nat.ne_of_lt (Nat.lt_of_lt_of_le (Heap.lt_size e) hC),fun y c h=>?_⟩
  rcases jY I B h with q | q
  ·exact (hf b hb).2.2.2.2.1 y c q
  ·intro z
   rw [z] at q
   exact absurd (Nat.lt_of_lt_of_le (Heap.lt_size e) (Nat.le_trans (Nat.le_trans hC (Nat.le_succ C)) (cf_ge q))) (Nat.lt_irrefl _)
 bs:=I.bs
 bsz:=Nat.le_trans I.ok.bsz I.sz
 noex:=fun b o e hb=>by
  rcases (hf b hb).2.2.2.1 with q | q
  ·exact I.ok.noex b o e q
  ·exact absurd (Nat.lt_of_lt_of_le (Heap.lt_size e) (Nat.le_trans I.ok.bsz q)) (Nat.lt_irrefl _)
 exfs:=fun b hb z=>by
  obtain ⟨_,h1,h2,_⟩:=hf b hb
  rcases List.mem_cons.mp (I.stkSub b z) with e | e
  ·exact h1 e
  ·exact h2 e
 funs:=I.stack
 frf:=I.stkFree
theorem blk_inv {D:Addr}{h1:Heap}{tk:Nat}{m:Str→Option Value}(I:Inv X pins σ H s)(B:gB X scope x ix)(ok:(blk X scope (eV X x ix) C s H fp).Ok)
  (hD:D=s.heap.objs.size) (k:∀ b o,s.heap.get? b=some o→h1.get? b=some o) (hl:h1.get? D=some { cls:=.type "list",data:=.seq #[] }) (hns:h1.Ns C m) (hCD:C≠D) (hC:s.heap.objs.size≤C) (hce:∀ y c,(y,c)∈cellsFrom (C+1) scope.names []→h1.IsCell c none) :
  Inv (blk X scope (eV X x ix) C s H fp) [] (List.replicate x.length none++blkσ ix σ) (upd H D (.lst [])) { s with heap:=h1,toks:=tk } where
 ok:=ok
 os:=rfl
 bare:=I.bare
 base:=Un.laid k (by rw [hD];exact Nat.le_refl _) (I.hok.fresh (by rw [hD];exact Nat.le_refl _))
 loc:=by
  refine ⟨m,hns,fun i y v e1 e2 e3=>?_⟩
  by_cases hix:i<x.length
  ·rw [List.getElem?_append_left (by simpa using hix),List.getElem?_replicate,if_pos hix] at e2
   cases e2
  ·rw [List.getElem?_append_right (by simpa using hix),List.length_replicate] at e2
   have e1':(ix.map fun i=>X.N.getD i "")[i - x.length]?=some y:=by
    have z:(x++ix.map fun i=>X.N.getD i "")[i]?=some y:=e1
    rwa [List.getElem?_append_right (by simpa using hix)] at z
   generalize i - x.length=j at e1' e2
   unfold blkσ at e2
   rw [List.getElem?_map] at e1' e2
   cases hj:ix[j]? with
   | none=>rw [hj] at e2;cases e2
   | some i'=>
    rw [hj] at e1' e2
    simp only [Option.map_some,Option.some.injEq] at e1' e2
    have hi:σ[i']?=some (some v):=by
     cases q:σ[i']? with
     | none=>rw [q] at e2;cases e2
     | some z=>rw [q] at e2;exact congrArg some e2
    have hlt:i'<X.N.length:=by
     have:=(List.getElem?_eq_some_iff.mp hi).1
     rw [I.len] at this
     exact this
    have hn:X.N[i']?=some y:=by
     rw [List.getD_eq_getElem?_getD,List.getElem?_eq_getElem hlt,Option.getD_some] at e1'
     rw [List.getElem?_eq_getElem hlt,e1']
    have hfree:scope.names.lookup y=some .free:=by
     have:=B.ixs i' (List.mem_of_getElem? hj)
     rw [e1'] at this
     exact this
    have kx:=B.free _ (PySem.mem_of_lookup hfree) rfl
    have vis:Vis X.env.scope y:=by
     rcases kx with q | q
     ·exact .inr (.inl q)
     ·exact .inr (.inr q)
    obtain ⟨m',_,hl'⟩:=I.loc
    obtain ⟨u,r,lk⟩:=hl' i' y v hn hi vis
    refine ⟨u,r,?_⟩
    rcases lk with ⟨q,_⟩ | ⟨_,c,hc,hcell⟩
    ·have q':X.env.scope.names.lookup y=some .local:=q
     rcases kx with z | z <;> (rw [q'] at z;cases z)
    ·obtain ⟨c',hc'⟩:=yu (X:=X) (C:=C) (.inl hfree)
     have e:=(jY I B hc').resolve_right fun z=>cl_free B hfree z
     rw [hc] at e
     cases e
     refine .inr ⟨jW (env:=X.env) hfree,c,hc',?_⟩
     obtain ⟨o,ho,hd⟩:=hcell
     exact ⟨o,k c o ho,hd⟩
 cell:=fun y c h=>by
  rcases jY I B h with q | q
  ·obtain ⟨v,o,ho,hd⟩:=I.cell y c q
   exact ⟨v,o,k c o ho,hd⟩
  ·exact ⟨none,hce y c q⟩
 free:=by
  show upd H D (.lst []) C=none
  rw [aG hCD]
  exact I.hok.fresh hC
 freeC:=fun y c h=>by
  show upd H D (.lst []) c=none
  rcases jY I B h with q | q
  ·obtain ⟨v,o,ho,hd⟩:=I.cell y c q
   rw [aG (by rw [hD];exact Nat.ne_of_lt (Heap.lt_size ho))]
   exact I.freeC y c q
  ·have g:s.heap.objs.size<c:=Nat.lt_of_lt_of_le (Nat.lt_succ_of_le hC) (cf_ge q)
   rw [aG (by rw [hD];exact Nat.ne_of_gt g)]
   exact I.hok.fresh (Nat.le_of_lt g)
 pin:=fun p hp=>absurd (show p∈([]:List (Addr×Obj)) from hp) (by simp)
 hok:=I.hok.laid k (by rw [hD];exact Nat.le_refl _) ⟨Nat.zero_le _,[],0,.nil,hl⟩
 len:=by
  show (List.replicate x.length none++blkσ ix σ).length=(eV X x ix).length
  simp [blkσ]
theorem blk_out {σ':St}{H':Hp}{s':Shared}{h':Heap}{p':List (Addr×Obj)}(I:Inv X pins σ H s)(hC:s.heap.objs.size≤C)(hf:∀ b∈fp,zM X pins H b)(J:Inv (blk X scope (eV X x ix) C s H fp) p' σ' H' s')
  (hs:Heap.SameBut C s'.heap h'):Inv X pins σ H' { s' with heap:=h' }:=by
 have I1:Inv X pins σ H' s':=I.call' (ch:=fp) J.os J.base J.hok J.bare fun b hb=>⟨(hf b hb).2.2.2.1,(hf b hb).2.1,(hf b hb).2.2.2.2.1,(hf b hb).2.2.2.2.2⟩
 refine I1.turned (it:=C) (t':=s'.toks) (fun b o hb e=>(hs.2 b hb).trans e) J.free (Nat.ne_of_gt (Nat.lt_of_lt_of_le I.lt hC)) (.inr (Nat.le_trans I.sz hC)) (fun y c e z=>?_) (fun p hp z=>?_)
 ·obtain ⟨v,q⟩:=I.cell y c e
  exact absurd (Nat.lt_of_lt_of_le q.lt (by rw [z];exact hC)) (Nat.lt_irrefl _)
 ·exact absurd (Nat.lt_of_lt_of_le (Heap.lt_size (I.pin p hp).1) (by rw [z];exact hC)) (Nat.lt_irrefl _)
end
def PIfs (X:Cx)(ifs:List Expr)(t:TT):Prop:=
 ∀ (pins:List (Addr×Obj)) (s:Shared) (σ : St) (H:Hp) (Q:Bool→Hp→Prop),Inv X pins σ H s→t σ H Q →
  wpAny (model X.prog X.w) X.A (forIn ifs true fun c r=>if r=true then do let ok ←isTrue c X.env (eval c X.env);pure (ForInStep.yield ok) else pure (ForInStep.yield r)) (TP X pins σ Q) X.xe s
def tYes:TT:=fun _ H Q=>Q true H
theorem pif_nil {X:Cx}:PIfs X [] tYes:=fun _ _ _ H _ I h=>wpAny_pure ⟨H,I,h⟩
theorem pif_one {X:Cx}{c:Expr}{t:TT}(h:PT X c t):PIfs X [c] t:=fun pins s σ H Q I hq=>by
 rw [List.forIn_cons]
 refine wpAny_bind ?_
 rw [if_pos rfl]
 refine wpAny_bind (thn (h pins s σ H Q I hq) fun b s1 q=>wpAny_pure ?_)
 exact wpAny_pure q
def wLCat (n:Nat)(own:V→Hp→List V→Prop)(ix:List Nat)(tt:TT)(te:TE)(σ : St)(Q:VK)(J:It)(H1:Hp)(D:Addr):Prop:=∃ W:Nat→Nat→List V→Hp→Prop,(∃ m,W 0 m [] (upd H1 D (.lst [])))∧∀ i m ys H,W i m ys H→H D=some (.lst ys) →
 (J.stop i H∧Q (.ref D) H)∨(J.go i H∧ys.length<sizeLine∧∀ x H',J.yld i H x H'→∃ vs,own x H' vs∧vs.length=n∧tt (vs.map some++blkσ ix σ) H' fun b H2=>
  if b=true then te (vs.map some++blkσ ix σ) H2 (fun v H3=>H3 D=some (.lst ys)∧∃ m',m'<m∧W (i+1) m' (ys++[v]) (upd H3 D (.lst (ys++[v]))))
  else H2 D=some (.lst ys)∧∃ m',m'<m∧W (i+1) m' ys H2)
def wLC (n:Nat)(own:V→Hp→List V→Prop)(ix:List Nat)(tt:TT)(te:TE)(σ : St)(Q:VK)(J:It)(H1:Hp):Prop:=∀ D,H1 D=none→wLCat n own ix tt te σ Q J H1 D
def tLC (n:Nat)(own:V→Hp→List V→Prop)(ix:List Nat)(wi:TI)(tt:TT)(te:TE):TE:=fun σ H Q=>wi σ H fun J H1=>wLC n own ix tt te σ Q J H1
def gOwn (n:Nat)(own:V→Hp→List V→Prop):TG:=fun v σ H N=>∃ vs,own v H vs∧vs.length=n∧N (vs.map some++σ.drop n) H
theorem comp_loop {P:Program}{w:World}{A:Around}{R:Result→Shared→Prop}{s:Shared}{elt target iter:Expr}{ifs:List Expr}{scope:Scope}{pos:Pos}{it acc:Value}{env:Env}(Iv:Nat→Shared→Prop)
  (turn:∀ n s,Iv n s→wpAny (model P w) A (pyNext it) (fun r s₁=>match r with
   | none=>R (.ok .next) s₁
   | some v=>wpAny (model P w) A (letOwnedTupleGo target it v) (fun _ t₁=>wpAny (model P w) A (assign target env v) (fun _ s₂=>
     wpAny (model P w) A (forIn ifs true fun c r=>if r=true then do let ok ←isTrue c env (eval c env);pure (ForInStep.yield ok) else pure (ForInStep.yield r)) (fun ok s₃=>
      if ok=true then wpAny (model P w) A (eval elt env) (fun x s₄=>
       wpAny (model P w) A (call (.builtin "list.append") [acc,x]) (fun _ s₅=>∃ m,m<n∧Iv m s₅) (notedBy (model P w) A env fun e s'=>R (.error e) s') s₄) (notedBy (model P w) A env fun e s'=>R (.error e) s') s₃
      else ∃ m,m<n∧Iv m s₃) (notedBy (model P w) A env fun e s'=>R (.error e) s') s₂) (notedBy (model P w) A env fun e s'=>R (.error e) s') t₁) (notedBy (model P w) A env fun e s'=>R (.error e) s') s₁) (notedBy (model P w) A env fun e s'=>R (.error e) s') s)
  (n:Nat) (h:Iv n s):codeAny (model P w) A (.compLoop (.ListComp elt [⟨target,iter,ifs,0⟩] scope pos) 0 it acc env) R s:=by
 refine codeAny_loop rfl Iv (fun n s hI=>?_) n h
 show wpAny _ A ((compTurn (.ListComp elt [⟨target,iter,ifs,0⟩] scope pos) 0 it acc env).onRaise (fun x=>do noteFrame x env;theTreesLotGoes x)) _ _ s
 refine wpAny_noted ?_
 rw [compTurn_list]
 refine wpAny_bind (wpAny_standAt (wpAny_bind (wpAny_mono (turn n s hI) (fun r s₁ k₁=>?_) fun _ _ z=>z)))
 cases r with
 | none=>exact wpAny_pure k₁
 | some v=>
  refine wpAny_bind (wpAny_mono k₁ (fun _ t₁ k₂=>wpAny_bind (wpAny_mono k₂ (fun _ s₂ k₃=>wpAny_bind (wpAny_mono k₃ (fun ok s₃ k₄=>?_) fun _ _ z=>z)) fun _ _ z=>z)) fun _ _ z=>z)
  cases ok with
  | false=>exact wpAny_pure ⟨rfl,k₄⟩
  | true=>exact wpAny_bind (wpAny_bind (wpAny_mono k₄ (fun x s₄ k₅=>wpAny_bind (wpAny_mono k₅ (fun _ s₅ k₆=>wpAny_pure (wpAny_pure ⟨rfl,k₆⟩)) fun _ _ z=>z)) fun _ _ z=>z))
section
variable {X:Cx}{scope:Scope}{x:List Str}{ix:List Nat}{elt iter tg:Expr}{ifs:List Expr}{px pos:Pos}{wi:TI}{tt:TT}{te:TE}{own:V→Hp→List V→Prop}
theorem lc_core {pins:List (Addr×Obj)}{σ : St}{s₂ : Shared}{H2:Hp}{it:Addr}{fp:List Addr}{tn:Nat→Heap→Prop}{J:It}{Q:VK}{E:Value→Shared→Prop}{RR:Value→Addr→Result→Shared→Prop}
  (hc:J.cm=true→X.calm=true) (B:gB X scope x ix) (hg:∀ C s H fp,PG (blk X scope (eV X x ix) C s H fp) tg (gOwn x.length own)) (ht:∀ C s H fp,PIfs (blk X scope (eV X x ix) C s H fp) ifs tt) (he:∀ C s H fp,PE (blk X scope (eV X x ix) C s H fp) elt te)
  (I2:Inv X pins σ H2 s₂) (T:Turn X.prog X.w X.K tg J fp it tn) (st2:tn 0 s₂.heap) (f2:∀ b∈fp,zM X pins H2 b) (hq:wLC x.length own ix tt te σ Q J H2)
  (hRR:∀ D C s' σ' H' p',s₂.heap.objs.size≤C→Inv (blk X scope (eV X x ix) C s₂ H2 fp) p' σ' H' s'→Q (.ref D) H'→RR (.ref D) C (.ok .next) s') :
  wpAny (model X.prog X.w) X.A (newList []) (fun acc s₃=>wpAny (model X.prog X.w) X.A (newFunctionEnv scope X.env.globals (clOf scope X.env) [] X.env.qual none .none (some X.env)) (fun cenv s₄=>
   codeAny (model X.prog X.w) X.A (.compStart (.ListComp elt [⟨tg,iter,ifs,0⟩] scope pos) 0 (.ref it) acc { cenv with scope:=relabel scope X.env }) (RR acc cenv.locals) s₄) E s₃) E s₂:=by
 refine wpAny_newObj_type (nfe_cells ?_)
 dsimp only
 generalize hH2:s₂.heap.push { cls:=.type "list",dict:=none,data:=.seq ([]:List Value).toArray }=HH
 generalize hh1:pushCells (HH.push { cls:=.type "dict",data:=.dict #[] }) scope.names=h₁
 have hns₁ : h₁.Ns HH.objs.size (fun _=>none):=by
  obtain ⟨o,es,ep,ho,r⟩:=Heap.Ns.new HH (.type "dict")
  exact ⟨o,es,ep,by rw [←hh1];exact pushCells_keeps _ _ _ _ ho,r⟩
 have hkeep:∀ b o,HH.get? b=some o→h₁.get? b=some o:=fun b o e=>by rw [←hh1];exact pushCells_keeps _ _ _ _ (Heap.get?_push_of_some _ e)
 have hce:∀ y c,(y,c)∈cellsFrom (HH.objs.size+1) scope.names []→h₁.IsCell c none:=fun y c e=>by
  rw [←hh1]
  exact (cf_new (h:=HH.push { cls:=.type "dict",data:=.dict #[] }) (by rw [Heap.size_push];exact e)).1
 have hC:HH.objs.size=s₂.heap.objs.size+1:=by rw [←hH2,Heap.size_push]
 have hDC:s₂.heap.objs.size≠HH.objs.size:=by rw [hC];exact Nat.ne_of_lt (Nat.lt_succ_self _)
 have hCle:s₂.heap.objs.size≤HH.objs.size:=by rw [hC];exact Nat.le_succ _
 have old:∀ b o,s₂.heap.get? b=some o→h₁.get? b=some o:=fun b o e=>hkeep b o (hH2 ▸ Heap.get?_push_of_some _ e)
 have hacc:h₁.get? s₂.heap.objs.size=some { cls:=.type "list",data:=.seq #[] }:=hkeep _ _ (hH2 ▸ Heap.get?_push_size _ rfl)
 have hob:∀ b∈fp,∃ o,s₂.heap.get? b=some o:=fun b hb=>let ⟨o,e,_⟩:=T.obj 0 _ st2 b hb;⟨o,e⟩
 have ok:=blk_ok (C:=HH.objs.size) I2 B hCle f2 hob
 obtain ⟨W,⟨m0,w0⟩,turn⟩:=hq s₂.heap.objs.size (I2.hok.fresh (Nat.le_refl _))
 -- the iterator's records, in the block
 have stat:∀ {H':Hp},(∀ b∈fp,H' b=none)→∀ b∈fp,zM (blk X scope (eV X x ix) HH.objs.size s₂ H2 fp) [] H' b:=fun {H'} hn b hb=>by
  obtain ⟨o,e⟩:=hob b hb
  obtain ⟨_,g1,g2,g3,g4,g5⟩:=f2 b hb
  refine ⟨hn b hb,Nat.ne_of_lt (Nat.lt_of_lt_of_le (Heap.lt_size e) hCle),fun z=>?_,.inl hb,fun y c h=>?_,fun p hp=>absurd (show p∈([]:List (Addr×Obj)) from hp) (by simp)⟩
  ·rcases List.mem_cons.mp (I2.stkSub b z) with q | q
   ·exact g1 q
   ·exact g2 q
  ·rcases jY I2 B h with q | q
   ·exact g4 y c q
   ·intro z
    rw [z] at q
    exact absurd (Nat.lt_of_lt_of_le (Heap.lt_size e) (Nat.le_trans (Nat.le_trans hCle (Nat.le_succ _)) (cf_ge q))) (Nat.lt_irrefl _)
 have loop:∀ s₃ : Shared,s₃ = { s₂ with heap:=h₁ } →
   codeAny (model X.prog X.w) X.A (.compLoop (.ListComp elt [⟨tg,iter,ifs,0⟩] scope pos) 0 (.ref it) (.ref s₂.heap.objs.size) (compEnvC scope (cellsFrom (HH.objs.size+1) scope.names (clOf scope X.env)) HH.objs.size X.env))
    (RR (.ref s₂.heap.objs.size) HH.objs.size) s₃:=by
  rintro s₃ rfl
  have J0:=blk_inv (fp:=fp) (C:=HH.objs.size) (tk:=s₂.toks) I2 B ok rfl old hacc hns₁ (Ne.symm hDC) hCle hce
  have fr0:∀ b∈fp,upd H2 s₂.heap.objs.size (.lst []) b=none:=fun b hb=>by
   obtain ⟨o,e⟩:=hob b hb
   rw [aG (Nat.ne_of_lt (Heap.lt_size e))]
   exact (f2 b hb).1
  refine comp_loop (fun k s'=>∃ i ys H',Inv (blk X scope (eV X x ix) HH.objs.size s₂ H2 fp) [] (List.replicate x.length none++blkσ ix σ) H' s'∧tn i s'.heap∧(∀ b∈fp,H' b=none)∧H' s₂.heap.objs.size=some (.lst ys)∧W i k ys H') ?_ m0
   ⟨0,[],_,J0,T.keep 0 _ _ st2 (fun b _ o e=>old b o e),fr0,aR,w0⟩
  rintro n s₄ ⟨i,ys,H4,I4,st4,fr4,hD4,w4⟩
  rcases turn i n ys H4 w4 hD4 with ⟨stop,qn⟩ | ⟨go,hz,step⟩
  ·refine thn (T.done (blk X scope (eV X x ix) HH.objs.size s₂ H2 fp) rfl rfl rfl hc i [] s₄ _ H4 _ I4 (stat fr4) st4 stop) fun r s5 ⟨hr,I5⟩=>?_
   subst hr
   exact hRR _ _ s5 _ H4 [] hCle I5 qn
  ·refine thn (T.item (blk X scope (eV X x ix) HH.objs.size s₂ H2 fp) rfl rfl rfl hc i [] s₄ _ H4 _ I4 (stat fr4) st4 go) fun r s5 ⟨u,hr,h5⟩=>?_
   subst hr
   refine wpAny_mono h5 (fun _ s6 ⟨xv,H6,I6,r6,y6,st6,fr6⟩=>?_) fun _ _ z=>z
   have I6':=I6.pinned (stat fr6) (T.obj _ _ st6)
   obtain ⟨vs,hov,hvl,q7⟩:=step xv H6 y6
   have fgt:∀ {σ9:St} {H9:Hp} {s9:Shared} {p9:List (Addr×Obj)},σ9.length=x.length→Inv (blk X scope (eV X x ix) HH.objs.size s₂ H2 fp) p9 (σ9++blkσ ix σ) H9 s9→Inv (blk X scope (eV X x ix) HH.objs.size s₂ H2 fp) p9 (List.replicate x.length none++blkσ ix σ) H9 s9:=fun {σ9 H9 s9 p9} hl I9=>
    I9.weak (by simp [hl]) fun k v e=>by
     by_cases hk:k<x.length
     ·rw [List.getElem?_append_left (by simpa using hk),List.getElem?_replicate,if_pos hk] at e
      cases e
     ·rw [List.getElem?_append_right (by simpa using hk),List.length_replicate] at e
      rw [List.getElem?_append_right (by rw [hl];omega),hl]
      exact e
   refine wpAny_mono (hg _ _ _ _ _ s6 _ H6 xv u (fun σ9 H9=>σ9=vs.map some++(List.replicate x.length (none:Option V)++blkσ ix σ).drop x.length∧H9=H6) I6' r6 ⟨vs,hov,hvl,rfl,rfl⟩) (fun _ s7 ⟨σ7,H7,I7,e7,e8⟩=>?_) fun _ _ z=>z.elim
   subst e7 e8
   rw [List.drop_left' (by simp)] at I7
   have hml:(vs.map some).length=x.length:=by rw [List.length_map];exact hvl
   refine wpAny_mono (ht _ _ _ _ _ s7 _ H7 _ I7 q7) (fun b s8 ⟨H8,I8,q8⟩=>?_) fun _ _ z=>z.elim
   have pinned:∀ {H9:Hp} {s9:Shared} {σ9:St},Inv (blk X scope (eV X x ix) HH.objs.size s₂ H2 fp) ([]++tG fp s6.heap) σ9 H9 s9→tn (i+1) s9.heap∧∀ b∈fp,H9 b=none:=fun {H9 s9 σ9} I9=>by
    refine ⟨T.keep _ _ _ st6 fun b hb o e=>(I9.pin (b,o) (List.mem_append_right _ (List.mem_append_right _ (fY hb e)))).1,fun b hb=>?_⟩
    obtain ⟨o,e,d⟩:=T.obj _ _ st6 b hb
    exact (I9.pin (b,o) (List.mem_append_right _ (List.mem_append_right _ (fY hb e)))).2.1
   cases b with
   | false=>
    rw [if_neg Bool.false_ne_true] at q8 ⊢
    obtain ⟨hD8,m',hm,w8⟩:=q8
    obtain ⟨t8,f8⟩:=pinned I8
    exact ⟨m',hm,i+1,ys,H8,fgt hml I8.unpinned,t8,f8,hD8,w8⟩
   | true=>
    rw [if_pos rfl] at q8 ⊢
    refine wpAny_mono (he _ _ _ _ _ s8 _ H8 _ I8 q8) (fun u9 s9 ⟨v9,H9,I9,r9,hD9,m',hm,w9⟩=>?_) fun _ _ z=>z.elim
    refine wpAny_mono (tU (X:=blk X scope (eV X x ix) HH.objs.size s₂ H2 fp) _ s9 _ H9 (.ref s₂.heap.objs.size) [v9] _ [u9] (fun _ H'=>H'=upd H9 s₂.heap.objs.size (.lst (ys++[v9]))) I9 rfl (.cons r9 .nil) ⟨_,ys,v9,rfl,rfl,hD9,hz,rfl⟩) (fun _ s10 ⟨_,H10,I10,_,e10⟩=>?_) fun _ _ z=>z.elim
    subst e10
    obtain ⟨t10,f10⟩:=pinned I10
    exact ⟨m',hm,i+1,ys++[v9],_,fgt hml I10.unpinned,t10,f10,aR,w9⟩
 exact codeAny_compStart_list (loop _ rfl) (T.self _ 0 _ _ _ (T.keep 0 _ _ st2 (fun b _ o e=>old b o e)) (loop _ rfl))
theorem pe_lc (ix:List Nat)(hc:X.calm=true)(B:gB X scope x ix)(hg:∀ C s H fp,PG (blk X scope (eV X x ix) C s H fp) tg (gOwn x.length own))(hi:PI X tg iter wi)(ht:∀ C s H fp,PIfs (blk X scope (eV X x ix) C s H fp) ifs tt)(he:∀ C s H fp,PE (blk X scope (eV X x ix) C s H fp) elt te)
  (hs:∀ v,foldedSetIterable iter X.env v=pure v:=by intro _;rfl):PE X (.ListComp elt [⟨tg,iter,ifs,0⟩] scope pos) (tLC x.length own ix wi tt te):=by
 intro pins s σ H Q I h
 rw [eval_ListComp]
 refine wpAny_comprehension_free (use:=none) rfl hs (clos_of (pZ I B)) B.kind (fun y hy hk=>by rw [B.names y hy,hk]) ?_
 refine thn (hi pins s σ H _ I h) fun v s1 h1=>thn h1 fun itv s2 h2=>?_
 obtain ⟨it,fp,tn,J,H2,e,I2,T,st2,f2,hq⟩:=h2
 subst e
 refine lc_core (RR:=fun acc C=>compPost (model X.prog X.w) X.A X.xe none (EP X pins σ Q) acc C) (fun _=>hc) B hg ht he I2 T st2 f2 hq fun D C s' σ' H' p' hC I' q'=>?_
 obtain ⟨m,hn,_⟩:=I'.loc
 exact ⟨m,hn,fun h' hs'=>⟨.ref D,H',blk_out I2 hC f2 I' hs',rfl,q'⟩⟩
theorem ps_lc (ix:List Nat){i:Nat}{y:Str}{py spos:Pos}(hN:X.N.Nodup)(hi':X.N[i]?=some y)(hy:Loc X.env.scope y)(hc:X.calm=true)(B:gB X scope x ix)(hg:∀ C s H fp,PG (blk X scope (eV X x ix) C s H fp) tg (gOwn x.length own))(hi:PI X tg iter wi)
  (ht:∀ C s H fp,PIfs (blk X scope (eV X x ix) C s H fp) ifs tt) (he:∀ C s H fp,PE (blk X scope (eV X x ix) C s H fp) elt te)
  (hsw:swapsWith (.ListComp elt [⟨tg,iter,ifs,0⟩] scope pos) (some (.Name y py)) spos.line X.env=pure true:=by rfl)
  (hf:X.fn y=true∨X.env.scope.names.lookup y=some .local:=by first | exact .inl rfl | exact .inr rfl | assumption)
  (hs:∀ v,foldedSetIterable iter X.env v=pure v:=by intro _;rfl):PS X (.Assign [.Name y py] (.ListComp elt [⟨tg,iter,ifs,0⟩] scope pos) spos) (tAsg (tLC x.length own ix wi tt te) (gName i)):=by
 intro pins s σ H D I h
 rw [exec_Assign_Name_used _ _ _ _ hsw]
 refine wpAny_bind (wpAny_standAt (wpAny_bind ?_))
 show wpAny _ X.A (do let _ ←comprehension (.ListComp elt [⟨tg,iter,ifs,0⟩] scope pos) scope X.env _ (newList []) false (eval iter X.env) (some (assign (.Name y py) X.env))) _ _ s
 refine wpAny_bind (wpAny_mono (wpAny_comprehension_free (use:=some (assign (.Name y py) X.env)) (Q:=fun _ s'=>SP X pins D .next s') rfl hs (clos_of (pZ I B)) B.kind (fun y hy hk=>by rw [B.names y hy,hk]) ?_) (fun _ s' hq=>wpAny_pure (wpAny_pure hq)) fun _ _ e=>e)
 refine thn (hi pins s σ H _ I h) fun v s1 h1=>thn h1 fun itv s2 h2=>?_
 obtain ⟨it,fp,tn,J,H2,e,I2,T,st2,f2,hq⟩:=h2
 subst e
 refine lc_core (RR:=fun acc C=>compPost (model X.prog X.w) X.A X.xe (some (assign (.Name y py) X.env)) (fun _ s'=>SP X pins D .next s') acc C) (fun _=>hc) B hg ht he I2 T st2 f2 hq fun D' C s' σ' H' p' hC I' q'=>?_
 obtain ⟨m,hn,_⟩:=I'.loc
 have I3:Inv X pins σ H' s':=blk_out (h':=s'.heap) I2 hC f2 I' (.refl ..)
 show wpAny _ X.A (assign (.Name y py) X.env (.ref D')) _ _ s'
 have cneC:∀ z c,X.env.cells.lookup z=some c→c≠C:=fun z c e q=>by
  obtain ⟨v,w⟩:=I2.cell z c e
  exact absurd (Nat.lt_of_lt_of_le w.lt (by rw [q];exact hC)) (Nat.lt_irrefl _)
 have lneC:X.env.locals≠C:=Nat.ne_of_lt (Nat.lt_of_lt_of_le I2.lt hC)
 refine wpAny_assign_Name (tL (v:=.ref D') I3 hN hi' hy rfl (fun s'' I'' hsb=>?_) hf)
 obtain ⟨a,hsb,ha⟩:=hsb
 have haC:C≠a:=by
  rcases ha with rfl | ha
  ·exact Ne.symm lneC
  ·exact Ne.symm (cneC _ _ ha)
 refine ⟨m,hn.sameBut hsb haC,fun h' hs'=>⟨_,H',?_,q'⟩⟩
 refine I''.turned (it:=C) (t':=s''.toks) (fun b o hb e=>(hs'.2 b hb).trans e) I'.free (Ne.symm lneC) (.inr (Nat.le_trans I2.sz hC)) cneC (fun p hp z=>?_)
 exact absurd (Nat.lt_of_lt_of_le (Heap.lt_size (I2.pin p hp).1) (by rw [z];exact hC)) (Nat.lt_irrefl _)
end
end L2
namespace L2
open PySem PySem.Spec PyProof.Rows
def Sm (n:Nat)(i:Int):Prop:=i.natAbs<2^n
theorem Sm.bits {n:Nat}{i:Int}(h:Sm n i):Builtin.Int.intBits i≤n:=by
 unfold Builtin.Int.intBits
 by_cases e:i=0
 ·subst e;exact Nat.zero_le _
 ·have e':(i==0)=false:=beq_eq_false_iff_ne.mpr e
  rw [e']
  have h0:i.natAbs≠0:=by omega
  have:=(Nat.log2_lt h0).mpr h
  simp only [Bool.false_eq_true,if_false]
  omega
theorem Sm.mono {m n:Nat}{i:Int}(h:Sm m i)(hmn:m≤n):Sm n i:=Nat.lt_of_lt_of_le h (Nat.pow_le_pow_right (by decide) hmn)
theorem Sm.mul {m n:Nat}{i j:Int}(h:Sm m i)(h':Sm n j):Sm (m+n) (i*j):=by
 unfold Sm at *
 rw [Int.natAbs_mul,Nat.pow_add]
 by_cases e:j.natAbs=0
 ·rw [e,Nat.mul_zero]
  exact Nat.mul_pos (Nat.pow_pos (by decide)) (Nat.pow_pos (by decide))
 ·exact Nat.lt_of_lt_of_le (Nat.mul_lt_mul_of_pos_right h (Nat.pos_of_ne_zero e)) (Nat.mul_le_mul_left _ (Nat.le_of_lt h'))
theorem Sm.add {m n:Nat}{i j:Int}(h:Sm m i)(h':Sm n j):Sm (max m n+1) (i+j):=by
 have h1:=h.mono (Nat.le_max_left m n)
 have h2:=h'.mono (Nat.le_max_right m n)
 unfold Sm at *
 rw [Nat.pow_succ]
 omega
theorem Sm.neg {n:Nat}{i:Int}(h:Sm n i):Sm n (-i):=by unfold Sm at *;rw [Int.natAbs_neg];exact h
theorem Sm.sub {m n:Nat}{i j:Int}(h:Sm m i)(h':Sm n j):Sm (max m n+1) (i - j):=by
 rw [Int.sub_eq_add_neg];exact h.add h'.neg
theorem Sm.zero {n:Nat}:Sm n 0:=Nat.pow_pos (by decide)
theorem iT {n:Nat}{i:Int}(h1:-(2^n:Int)<i)(h2:i<(2^n:Int)):Sm n i:=by
 unfold Sm
 have e:((2^n:Nat):Int)=(2:Int)^n:=by simp
 omega
theorem Sm.le {n:Nat}{i j:Int}(h:Sm n i)(hj:j.natAbs≤i.natAbs):Sm n j:=Nat.lt_of_le_of_lt hj h
def eH (i j:Int):Prop:=∃ m n,m≤1000000∧n≤1000000∧Sm m i∧Sm n j
theorem eH.ok {i j:Int}(h:eH i j):IntMulOk i j:=by
 obtain ⟨m,n,hm,hn,h1,h2⟩:=h
 have e:(2:Nat)^20=1048576:=by decide
 exact .of_bits (by have:=h1.bits;omega) (by have:=h2.bits;omega)
def CDivBN (_ j:Int):Prop:=j≠0∧∃ n,n≤8000∧Sm n j
theorem sm_log2 {n:Nat}{j:Int}(hn:n≤8000)(h:Sm n j):j.natAbs.log2<9000:=by
 by_cases e:j.natAbs=0
 ·rw [e];decide
 ·have:=(Nat.log2_lt e).mpr h
  omega
section
variable {X:Cx}
theorem op_mulB:OpR X (binaryOp .Mult) (rI eH fun i j=>.int (i*j)):=opI fun _ _ _ _ _ _ _ hc q=>mul_int q hc.ok
theorem z9:OpR X (binaryOp .FloorDiv) (rI CDivBN fun i j=>.int (i.fdiv j)):=opI fun i j _ _ _ _ _ hc q=>by
 obtain ⟨h1,n,hn,h2⟩:=hc
 exact floordiv_int h1 q (.inl (PyProof.noPylong_of_log2 (sm_log2 hn h2)))
theorem jo:∀ {bs:List Bool} {its:List Value} {i:Nat} {v:Value},Vals (bs.map V.bl) its→its[i]?=some v→∃ b,bs[i]?=some b∧v=.bool b
 | [],_,_,_,.nil,e=>by simp at e
 | b::bs,_,0,_,.cons r _,e=>by simp at e;subst e;exact ⟨b,rfl,r⟩
 | _::bs,_,i+1,v,.cons _ t,e=>by
  obtain ⟨b,h1,h2⟩:=jo (i:=i) (v:=v) t (by simpa using e)
  exact ⟨b,by simpa using h1,h2⟩
theorem yQ:∀ (bs:List Bool),((List.range bs.length).all fun i=>(bs[i]?).getD true)=bs.all id:=fun bs=>by
 rw [Bool.eq_iff_iff,List.all_eq_true,List.all_eq_true]
 constructor
 ·intro h b hb
  obtain ⟨i,hi,rfl⟩:=List.mem_iff_getElem.mp hb
  have:=h i (List.mem_range.mpr hi)
  simpa [hi] using this
 ·intro h i hi
  have hi':=List.mem_range.mp hi
  have:=h bs[i] (List.getElem_mem hi')
  simpa [hi'] using this
theorem call_allB (hc:X.calm=true):dz X (.builtin "all") (fun xs H Q=>∃ (p:Addr) (bs:List Bool),xs=[.ref p]∧SqL X.K H p (bs.map V.bl)∧Q (.bl (bs.all id)) H):=by
 intro pins s σ H xs us Q I r h
 obtain ⟨p,bs,rfl,hS,q⟩:=h
 obtain ⟨u,rfl,ru⟩:=vals1 r
 cases ru
 obtain ⟨its,rv,pl,hz⟩:=I.list hS
 have hlen:its.length=bs.length:=by rw [←rv.length,List.length_map]
 have hl:=pl.isList
 have hlt:p<s.heap.objs.size:=by obtain ⟨_,e,_⟩:=hl;exact Heap.lt_size e
 refine call_all_walk (wpAny_pyIter_list hl ?_)
 refine ⟨s.heap.objs.size,[s.heap.objs.size,p],[s.heap.objs.size],its.toArray.size,_,_,fun i=>(bs[i]?).getD true,rfl,Walks.list (A:=X.A.in1) (I.ok.hd hc) _ p (Nat.ne_of_lt hlt) its.toArray,
  ⟨⟨_,Heap.get?_push_size _ rfl,rfl,rfl⟩,hl.push _⟩,fun i v s' Q' E' hP hQ=>?_,fun h' tk hk=>?_⟩
 ·obtain ⟨b,e,rfl⟩:=jo rv (by simpa using hP)
  simp only [e,Option.getD_some] at hQ
  exact wpAny_truthy_bool hQ
 ·have e:((List.range its.toArray.size).all fun i=>(bs[i]?).getD true)=bs.all id:=by
   rw [List.size_toArray,hlen];exact yQ bs
  rw [e]
  refine ⟨.bl (bs.all id),H,I.kept (h':=h') (t':=tk) (fun b x e=>?_),rfl,q⟩
  exact hk b x (fun hm=>by rw [List.mem_singleton.mp hm] at e;exact Nat.lt_irrefl _ (Heap.lt_size e)) (Heap.get?_push_of_some _ e)
def isiV (K:PySem.W.Frag)(H:Hp):V→String→Bool→Prop
 | .int _,T,b=>(T = "int"∧b=true)∨(T = "bool"∧b=false)∨(T = "tuple"∧b=false)∨(T = "list"∧b=false)
 | .bl _,T,b=>(T = "int"∧b=true)∨(T = "bool"∧b=true)∨(T = "tuple"∧b=false)∨(T = "list"∧b=false)
 | .str _,T,b=>(T = "int"∧b=false)∨(T = "bool"∧b=false)∨(T = "tuple"∧b=false)∨(T = "list"∧b=false)
 | .non,T,b=>(T = "int"∧b=false)∨(T = "bool"∧b=false)∨(T = "tuple"∧b=false)∨(T = "list"∧b=false)
 | .ref p,T,b=>(∃ xs,SqT K H p xs∧((T = "int"∧b=false)∨(T = "bool"∧b=false)∨(T = "tuple"∧b=true)∨(T = "list"∧b=false))) ∨
   (∃ xs,SqL K H p xs∧((T = "int"∧b=false)∨(T = "bool"∧b=false)∨(T = "tuple"∧b=false)∨(T = "list"∧b=true)))
 | _,_,_=>False
theorem call_isi:dz X (.builtin "isinstance") (fun xs H Q=>∃ x T b,xs=[x,.ty T]∧isiV X.K H x T b∧Q (.bl b) H):=by
 intro pins s σ H xs us Q I r h
 obtain ⟨x,T,b,rfl,hi,q⟩:=h
 obtain ⟨u,w',rfl,rx,ru⟩:=vals2 r
 cases ru
 have k0:EP X pins σ Q (.bool b) s:=⟨.bl b,H,I,rfl,q⟩
 have k1:EP X pins σ Q (.bool b) { s with toks:=s.toks+1 }:=⟨.bl b,H,I.tok _,rfl,q⟩
 cases x with
 | int i=>
  obtain ⟨t,rfl⟩:=rx
  rcases hi with ⟨rfl,rfl⟩ | ⟨rfl,rfl⟩ | ⟨rfl,rfl⟩ | ⟨rfl,rfl⟩
  ·exact IsiPair.int_int k0
  ·exact IsiPair.int_bool k1
  ·exact IsiPair.int_tuple k1
  ·exact IsiPair.int_list k1
 | bl i=>
  cases rx
  rcases hi with ⟨rfl,rfl⟩ | ⟨rfl,rfl⟩ | ⟨rfl,rfl⟩ | ⟨rfl,rfl⟩
  ·first | exact IsiPair.bool_int k0 | exact IsiPair.bool_int k1
  ·first | exact IsiPair.bool_bool k0 | exact IsiPair.bool_bool k1
  ·exact IsiPair.bool_tuple k1
  ·exact IsiPair.bool_list k1
 | str i=>
  obtain ⟨t,rfl⟩:=rx
  rcases hi with ⟨rfl,rfl⟩ | ⟨rfl,rfl⟩ | ⟨rfl,rfl⟩ | ⟨rfl,rfl⟩
  ·exact IsiPair.str_int k1
  ·exact IsiPair.str_bool k1
  ·exact IsiPair.str_tuple k1
  ·exact IsiPair.str_list k1
 | non=>
  cases rx
  rcases hi with ⟨rfl,rfl⟩ | ⟨rfl,rfl⟩ | ⟨rfl,rfl⟩ | ⟨rfl,rfl⟩
  ·exact IsiPair.NoneType_int k1
  ·exact IsiPair.NoneType_bool k1
  ·exact IsiPair.NoneType_tuple k1
  ·exact IsiPair.NoneType_list k1
 | ref p=>
  cases rx
  rcases hi with ⟨xs,hS,hi⟩ | ⟨xs,hS,hi⟩
  ·obtain ⟨its,_,⟨o,e,c,_⟩,_⟩:=I.tuple hS
   rcases hi with ⟨rfl,rfl⟩ | ⟨rfl,rfl⟩ | ⟨rfl,rfl⟩ | ⟨rfl,rfl⟩
   ·exact IsiPair.tuple_int e c k1
   ·exact IsiPair.tuple_bool e c k1
   ·exact IsiPair.tuple_tuple e c k0
   ·exact IsiPair.tuple_list e c k1
  ·obtain ⟨its,_,pl,_⟩:=I.list hS
   obtain ⟨o,e,c,_⟩:=pl.isList
   rcases hi with ⟨rfl,rfl⟩ | ⟨rfl,rfl⟩ | ⟨rfl,rfl⟩ | ⟨rfl,rfl⟩
   ·exact IsiPair.list_int e c k1
   ·exact IsiPair.list_bool e c k1
   ·exact IsiPair.list_tuple e c k1
   ·exact IsiPair.list_list e c k0
 | _=>exact (show False from hi).elim
end
end L2
namespace L2
open PySem PySem.Spec PyProof.Rows
inductive W where
 | non | bl (b:Bool) | int (i:Int) | str (x:Str) | ty (n:String) | tup (ws:List W) | lst (ws:List W) | loc (n:Nat) | kls (ws:List W) | exc (n:Str)
inductive Cell where
 | lst (ws:List W) | obj (C:Addr) (fs:List (Str×W)) | dct (kvs:List (Key×W))
 /-- a dict whose keys are tuples of ints -/
 | dtt (kvs:List (List Int×W))
structure Gh where
 nx:Nat
 c:Nat→Option Cell
structure Mu where
 f:Nat→Option Addr
 hid:Addr→Prop
def KLst (K:PySem.W.Frag)(p:Addr)(xs:List V):Prop:=
 ∃ (o:Obj) (its:Array Value) (n:Nat),K.lookup p=some o∧o.cls=.type "list"∧o.dict=none∧o.data=.seq its n∧its.size≤sizeLine∧Vals xs its.toList
def Frz (H:Hp)(μ : Mu)(p:Addr)(xs:List V):Prop:=H p=some (.lst xs)∧(∀ n,μ.f n≠some p)∧¬ μ.hid p
def Frk (K:PySem.W.Frag)(H:Hp)(p:Addr)(xs:List V):Prop:=(∃ o,H p=some (.frz o (.lst xs)))∨KLst K p xs
theorem Frz.sq {K:PySem.W.Frag}{H:Hp}{μ : Mu}{p:Addr}{xs:List V}(h:Frz H μ p xs):SqL K H p xs:=.inl (.inl h.1)
theorem Frk.sq {K:PySem.W.Frag}{H:Hp}{p:Addr}{xs:List V}(h:Frk K H p xs):SqL K H p xs:=by
 rcases h with h | h
 ·exact .inl (.inr h)
 ·exact .inr h
def vmB:List Value:=[.type "ValueError",.type "Exception",.type "BaseException",.type "object"]
def lV (K:PySem.W.Frag)(C:Addr)(n:Str):Bool:=PySem.W.nsIn K mainGlobals n==some (some (.ref C))&&PySem.W.typeIn K (.ref C)==some (.type "type")&&match PySem.W.clsIn K C with
 | some cd=>cd.name==n&&cd.mro.contains (.type "BaseException")
 | none=>false
def qJ (K:PySem.W.Frag)(C:Addr)(n:Str):Bool:=lV K C n&&(match PySem.W.clsIn K C with
 | some cd=>(match cd.mro with
  | [.ref C',.ref R,a,b,c,d]=>C'==C&&[a,b,c,d]==vmB&&PySem.W.nsIn K mainGlobals "EaselError"==some (some (.ref R))&&(PySem.W.clsIn K R).any (fun c=>c.name==("EaselError" : Str))
  | _=>false)
 | none=>false)&&PySem.W.findIn K (.ref C) "__getattribute__"==some (some (.builtin "BaseException.__getattribute__"))&&PySem.W.findIn K (.ref C) "__getattr__"==some none&&PySem.W.findIn K (.ref C) "__class__"==some (some (.builtin "object.__class__"))&&PySem.W.specialIn K (.builtin "object.__class__") "__get__"==some (some (.builtin "getset_descriptor.__get__"))
 && PySem.W.takesIn K (.builtin "object.__class__")==some true
def Xob (K:PySem.W.Frag)(o:Obj)(n:Str):Prop:=∃ C,o.cls=.ref C∧o.dict=none∧PySem.W.notCls o=true∧qJ K C n=true
mutual
def Rep (K:PySem.W.Frag)(H:Hp)(μ : Mu):W→V→Prop
 | .non,v=>v=.non
 | .bl b,v=>v=.bl b
 | .int i,v=>v=.int i
 | .str x,v=>v=.str x
 | .ty n,v=>v=.ty n
 | .tup ws,v=>∃ p xs,v=.ref p∧SqT K H p xs∧aH K H μ ws xs
 | .lst ws,v=>∃ p xs,v=.ref p∧Frz H μ p xs∧aH K H μ ws xs
 | .kls ws,v=>∃ p xs,v=.ref p∧Frk K H p xs∧aH K H μ ws xs
 | .loc n,v=>∃ p,v=.ref p∧μ.f n=some p
 | .exc n,v=>∃ p o u,v=.ref p∧H p=some (.frz o u)∧Xob K o n
def aH (K:PySem.W.Frag)(H:Hp)(μ : Mu):List W→List V→Prop
 | [],xs=>xs=[]
 | w::ws,xs=>∃ v vs,xs=v::vs∧Rep K H μ w v∧aH K H μ ws vs
end
section
variable {K:PySem.W.Frag}{H H' H1 H2:Hp}{μ μ' μ1 μ2:Mu}{h h':Gh}{w:W}{ws:List W}{v:V}{xs:List V}
theorem aH.len:∀ {ws:List W} {xs:List V},aH K H μ ws xs→ws.length=xs.length
 | [],xs,h=>by
  have e:xs=[]:=by rw [aH] at h;exact h
  rw [e];rfl
 | w::ws,xs,h=>by
  rw [aH] at h
  obtain ⟨v,vs,e,_,h⟩:=h
  rw [e,List.length_cons,List.length_cons,aH.len h]
theorem aH.get:∀ {ws:List W} {xs:List V} {i:Nat} {w:W},aH K H μ ws xs→ws[i]?=some w→∃ v,xs[i]?=some v∧Rep K H μ w v
 | [],_,_,_,_,e=>by simp at e
 | a::ws,xs,0,w,h,e=>by
  rw [aH] at h
  obtain ⟨v,vs,e1,r,_⟩:=h
  simp at e;subst e;subst e1
  exact ⟨v,rfl,r⟩
 | a::ws,xs,i+1,w,h,e=>by
  rw [aH] at h
  obtain ⟨v,vs,e1,_,h⟩:=h
  subst e1
  obtain ⟨u,h1,h2⟩:=aH.get (i:=i) (w:=w) h (by simpa using e)
  exact ⟨u,by simpa using h1,h2⟩
theorem aH.nil:aH K H μ [] []:=by rw [aH]
theorem aH.cons (r:Rep K H μ w v)(h:aH K H μ ws xs):aH K H μ (w::ws) (v::xs):=by
 rw [aH];exact ⟨v,xs,rfl,r,h⟩
theorem aH.append:∀ {ws:List W} {xs:List V} {us:List W} {ys:List V},aH K H μ ws xs→aH K H μ us ys→aH K H μ (ws++us) (xs++ys)
 | [],xs,us,ys,h,g=>by
  rw [aH] at h;subst h;exact g
 | w::ws,xs,us,ys,h,g=>by
  rw [aH] at h
  obtain ⟨v,vs,e,r,h⟩:=h
  subst e
  exact aH.cons r (aH.append h g)
theorem aH.one (r:Rep K H μ w v):aH K H μ [w] [v]:=aH.cons r aH.nil
theorem aH.set (r:Rep K H μ w v):∀ {ws:List W} {xs:List V} (i:Nat),aH K H μ ws xs→aH K H μ (ws.set i w) (xs.set i v)
 | [],xs,i,h=>by rw [aH] at h;subst h;exact aH.nil
 | a::ws,xs,0,h=>by
  rw [aH] at h
  obtain ⟨u,vs,e,_,h⟩:=h
  subst e
  exact aH.cons r h
 | a::ws,xs,i+1,h=>by
  rw [aH] at h
  obtain ⟨u,vs,e,q,h⟩:=h
  subst e
  exact aH.cons q (aH.set r i h)
theorem aH.take:∀ {ws:List W} {xs:List V} (n:Nat),aH K H μ ws xs→aH K H μ (ws.take n) (xs.take n)
 | _,_,0,_=>by simp only [List.take_zero];exact aH.nil
 | [],xs,n+1,h=>by rw [aH] at h;subst h;exact aH.nil
 | a::ws,xs,n+1,h=>by
  rw [aH] at h
  obtain ⟨u,vs,e,q,h⟩:=h
  subst e
  exact aH.cons q (aH.take n h)
theorem aH.drop:∀ {ws:List W} {xs:List V} (n:Nat),aH K H μ ws xs→aH K H μ (ws.drop n) (xs.drop n)
 | _,_,0,h=>h
 | [],xs,n+1,h=>by rw [aH] at h;subst h;exact aH.nil
 | a::ws,xs,n+1,h=>by
  rw [aH] at h
  obtain ⟨u,vs,e,q,h⟩:=h
  subst e
  exact aH.drop n h
structure Ex0 (K:PySem.W.Frag) (H:Hp) (μ : Mu) (H':Hp) (μ':Mu):Prop where
 t:∀ p xs,SqT K H p xs→SqT K H' p xs
 l:∀ p xs,Frz H μ p xs→Frz H' μ' p xs
 k:∀ p xs,Frk K H p xs→Frk K H' p xs
 m:∀ n p,μ.f n=some p→μ'.f n=some p
 x:∀ p o u,H p=some (.frz o u)→H' p=some (.frz o u)
structure Ex (K:PySem.W.Frag) (H:Hp) (μ : Mu) (H':Hp) (μ':Mu):Prop extends Ex0 K H μ H' μ' where
 o:∀ p u,μ.hid p→H p=some u→μ'.hid p∧H' p=some u
mutual
theorem Rep.ex (e:Ex0 K H μ H' μ'):∀ {w:W} {v:V},Rep K H μ w v→Rep K H' μ' w v
 | .non,_,h=>by rw [Rep] at h ⊢;exact h
 | .bl _,_,h=>by rw [Rep] at h ⊢;exact h
 | .int _,_,h=>by rw [Rep] at h ⊢;exact h
 | .str _,_,h=>by rw [Rep] at h ⊢;exact h
 | .ty _,_,h=>by rw [Rep] at h ⊢;exact h
 | .tup ws,_,h=>by
  rw [Rep] at h ⊢
  obtain ⟨p,xs,e1,hs,hr⟩:=h
  exact ⟨p,xs,e1,e.t _ _ hs,aH.ex e hr⟩
 | .lst ws,_,h=>by
  rw [Rep] at h ⊢
  obtain ⟨p,xs,e1,hs,hr⟩:=h
  exact ⟨p,xs,e1,e.l _ _ hs,aH.ex e hr⟩
 | .kls ws,_,h=>by
  rw [Rep] at h ⊢
  obtain ⟨p,xs,e1,hs,hr⟩:=h
  exact ⟨p,xs,e1,e.k _ _ hs,aH.ex e hr⟩
 | .loc n,_,h=>by
  rw [Rep] at h ⊢
  obtain ⟨p,e1,hm⟩:=h
  exact ⟨p,e1,e.m _ _ hm⟩
 | .exc n,_,h=>by
  rw [Rep] at h ⊢
  obtain ⟨p,o,u,e1,hm,hx⟩:=h
  exact ⟨p,o,u,e1,e.x _ _ _ hm,hx⟩
theorem aH.ex (e:Ex0 K H μ H' μ'):∀ {ws:List W} {xs:List V},aH K H μ ws xs→aH K H' μ' ws xs
 | [],_,h=>by rw [aH] at h ⊢;exact h
 | w::ws,_,h=>by
  rw [aH] at h ⊢
  obtain ⟨v,vs,e1,r,h⟩:=h
  exact ⟨v,vs,e1,Rep.ex e r,aH.ex e h⟩
end
structure Ext (K:PySem.W.Frag) (H:Hp) (μ : Mu) (H':Hp) (μ':Mu):Prop where
 r:∀ w v,Rep K H μ w v→Rep K H' μ' w v
 o:∀ p u,μ.hid p→H p=some u→μ'.hid p∧H' p=some u
theorem Ext.refl:Ext K H μ H μ:=⟨fun _ _ h=>h,fun _ _ h g=>⟨h,g⟩⟩
theorem Ext.trans (a:Ext K H μ H1 μ1)(b:Ext K H1 μ1 H2 μ2):Ext K H μ H2 μ2:=
 ⟨fun w v h=>b.r w v (a.r w v h),fun p u h g=>let ⟨h1,g1⟩:=a.o p u h g;b.o p u h1 g1⟩
theorem Ex.ext (e:Ex K H μ H' μ'):Ext K H μ H' μ':=⟨fun _ _ h=>Rep.ex e.toEx0 h,e.o⟩
theorem Ext.s (e:Ext K H μ H' μ'):∀ {ws:List W} {xs:List V},aH K H μ ws xs→aH K H' μ' ws xs
 | [],_,h=>by rw [aH] at h ⊢;exact h
 | w::ws,_,h=>by
  rw [aH] at h ⊢
  obtain ⟨v,vs,e1,r,h⟩:=h
  exact ⟨v,vs,e1,e.r _ _ r,Ext.s e h⟩
def MutO:Option HO→Prop
 | some (.lst _)=>True
 | some (.dK _)=>True
 | some (.ins _ _ _)=>True
 | some (.ext _)=>True
 | _=>False
def RepF {κ : Type}(K:PySem.W.Frag)(H:Hp)(μ : Mu):List (κ×W)→List (κ×V)→Prop:=Paired fun (p:κ×W) (q:κ×V)=>p.1=q.1∧Rep K H μ p.2 q.2
def entI (x:List Int×Addr×Value):DictEntry:=⟨reduceHash (Builtin.Tuple.tupleHashOf (x.1.map hashInt)),.ref x.2.1,x.2.2⟩
def DicT (a:Addr)(xs:List (List Int×Addr×Value))(h:Heap):Prop:=xs.length≤sizeLine∧(a==sysModules)=false∧(xs.map (·.1)).Nodup∧∃ o es ep,h.get? a=some o∧o.ExactDict∧o.data=.dict es ep∧es.toList=xs.map entI
def oG (K:PySem.W.Frag)(H:Hp)(μ : Mu)(p:Addr):Cell→Prop
 | .lst ws=>∃ xs,H p=some (.lst xs)∧aH K H μ ws xs
 | .obj C fs=>∃ dx fvs,H p=some (.ins C dx fvs)∧RepF K H μ fs fvs
 | .dct kvs=>∃ kvv,H p=some (.dK kvv)∧RepF K H μ kvs kvv
 | .dtt kvs=>∃ xs vs,H p=some (.ext (DicT p xs))∧kvs.map (·.1)=xs.map (·.1)∧Vals vs (xs.map (·.2.2))∧aH K H μ (kvs.map fun x=>W.tup (x.1.map W.int)) (xs.map fun x=>V.ref x.2.1)∧aH K H μ (kvs.map (·.2)) vs
structure Rel (K:PySem.W.Frag) (μ : Mu) (H:Hp) (h:Gh):Prop where
 inj:∀ m n p,μ.f m=some p→μ.f n=some p→m=n
 dom:∀ n p,μ.f n=some p→n<h.nx
 trk:∀ n p,μ.f n=some p→MutO (H p)
 cel:∀ n c,h.c n=some c→∃ p,μ.f n=some p∧oG K H μ p c
 hd:∀ p,μ.hid p→(∃ xs,H p=some (.lst xs))∧∀ n,μ.f n≠some p
theorem oG.ext {p:Addr}{c:Cell}(e:Ext K H μ H' μ')(hp:H' p=H p)(x:oG K H μ p c):oG K H' μ' p c:=by
 cases c with
 | lst ws=>obtain ⟨xs,a,b⟩:=x;exact ⟨xs,hp.trans a,e.s b⟩
 | obj C fs=>obtain ⟨dx,fvs,a,b⟩:=x;exact ⟨dx,fvs,hp.trans a,Paired.mapP b fun _ _ z=>⟨z.1,e.r _ _ z.2⟩⟩
 | dct kvs=>obtain ⟨kvv,a,b⟩:=x;exact ⟨kvv,hp.trans a,Paired.mapP b fun _ _ z=>⟨z.1,e.r _ _ z.2⟩⟩
 | dtt kvs=>obtain ⟨xs,vs,a,b,c,d,f⟩:=x;exact ⟨xs,vs,hp.trans a,b,c,e.s d,e.s f⟩
theorem Rd.laid {p q:Addr}{o u:HO}(hp:H p=none)(r:Rd H q u):Rd (upd H p o) q u:=by
 have ne:q≠p:=by
  rcases r with r | ⟨_,r⟩
  ·exact aM r hp
  ·exact aM r hp
 unfold Rd
 rw [aG ne]
 exact r
theorem Ex.laid {p:Addr}{o:HO}(hp:H p=none):Ex K H μ (upd H p o) μ where
 t:=fun q xs h=>by
  rcases h with h | h
  ·exact .inl (h.laid hp)
  ·exact .inr h
 l:=fun q xs h=>⟨by rw [aG (aM h.1 hp)];exact h.1,h.2⟩
 k:=fun q xs h=>by
  rcases h with ⟨o',h⟩ | h
  ·exact .inl ⟨o',by rw [aG (aM h hp)];exact h⟩
  ·exact .inr h
 m:=fun _ _ h=>h
 x:=fun q o' u e=>by rw [aG (aM e hp)];exact e
 o:=fun q u z e=>⟨z,by rw [aG (aM e hp)];exact e⟩
theorem Rel.laid {p:Addr}{o:HO}(R:Rel K μ H h)(hp:H p=none):Rel K μ (upd H p o) h where
 inj:=R.inj
 dom:=R.dom
 trk:=fun n q e=>by
  have:=R.trk n q e
  have ne:q≠p:=fun z=>by subst z;rw [hp] at this;exact this
  rw [aG ne];exact this
 cel:=fun n c e=>by
  obtain ⟨q,e1,x⟩:=R.cel n c e
  have:=R.trk n q e1
  have ne:q≠p:=fun z=>by subst z;rw [hp] at this;exact this
  exact ⟨q,e1,x.ext (Ex.laid hp).ext (aG ne)⟩
 hd:=fun q z=>by
  obtain ⟨⟨xs,e⟩,g⟩:=R.hd q z
  exact ⟨⟨xs,by rw [aG (aM e hp)];exact e⟩,g⟩
theorem Rep.tupNew {p:Addr}(hp:H p=none)(r:aH K H μ ws xs):Rep K (upd H p (.tup xs)) μ (.tup ws) (.ref p):=by
 rw [Rep]
 exact ⟨p,xs,rfl,SqT.of aR,(Ex.laid hp).ext.s r⟩
theorem Rep.lstNew {p:Addr}(R:Rel K μ H h)(hp:H p=none)(r:aH K H μ ws xs):Rep K (upd H p (.lst xs)) μ (.lst ws) (.ref p):=by
 rw [Rep]
 refine ⟨p,xs,rfl,⟨aR,fun n e=>?_,fun z=>?_⟩,(Ex.laid hp).ext.s r⟩
 ·have:=R.trk n p e
  rw [hp] at this
  exact this
 ·obtain ⟨⟨xs,e⟩,_⟩:=R.hd p z
  rw [hp] at e
  cases e
def Mu.put (μ : Mu)(n:Nat)(p:Addr):Mu:=⟨fun m=>if m=n then some p else μ.f m,μ.hid⟩
theorem Mu.put_same {n:Nat}{p:Addr}:(μ.put n p).f n=some p:=by show (if n=n then some p else μ.f n)=_;rw [if_pos rfl]
theorem Mu.put_ne {m n:Nat}{p:Addr}(e:m≠n):(μ.put n p).f m = μ.f m:=by show (if m=n then some p else μ.f m)=_;rw [if_neg e]
def Gh.new (h:Gh)(c:Cell):Gh:=⟨h.nx+1,fun m=>if m=h.nx then some c else h.c m⟩
def Gh.set (h:Gh)(n:Nat)(c:Cell):Gh:=⟨h.nx,fun m=>if m=n then some c else h.c m⟩
theorem Rel.dead (R:Rel K μ H h){n:Nat}(hn:h.nx≤n):μ.f n=none:=by
 cases e:μ.f n with
 | none=>rfl
 | some p=>exact absurd (R.dom n p e) (by omega)
theorem Ex.newCell {p:Addr}{o:HO}(R:Rel K μ H h)(hp:H p=none):Ex K H μ (upd H p o) (μ.put h.nx p) where
 t:=fun q xs z=>(Ex.laid (μ:=μ) hp).t q xs z
 l:=fun q xs z=>by
  have nq:=aM z.1 hp
  refine ⟨by rw [aG nq];exact z.1,fun n e=>?_,z.2.2⟩
  by_cases hn:n=h.nx
  ·subst hn
   rw [Mu.put_same] at e
   exact nq (Option.some.inj e).symm
  ·rw [Mu.put_ne hn] at e
   exact z.2.1 n e
 k:=fun q xs z=>(Ex.laid (μ:=μ) hp).k q xs z
 m:=fun n q e=>by
  have hn:n≠h.nx:=fun z=>by subst z;rw [R.dead (Nat.le_refl _)] at e;cases e
  rw [Mu.put_ne hn];exact e
 x:=fun q o' u e=>by rw [aG (aM e hp)];exact e
 o:=fun q u z e=>⟨z,by rw [aG (aM e hp)];exact e⟩
theorem Rel.newCell {p:Addr}{o:HO}{c:Cell}(R:Rel K μ H h)(hp:H p=none)(mo:MutO (some o))(ck:oG K (upd H p o) (μ.put h.nx p) p c):Rel K (μ.put h.nx p) (upd H p o) (h.new c) where
 inj:=fun m n q em en=>by
  by_cases hm:m=h.nx
  ·by_cases hn:n=h.nx
   ·rw [hm,hn]
   ·rw [hm,Mu.put_same] at em
    rw [Mu.put_ne hn] at en
    have e:p=q:=Option.some.inj em
    subst e
    have:=R.trk n _ en
    rw [hp] at this
    exact this.elim
  ·rw [Mu.put_ne hm] at em
   by_cases hn:n=h.nx
   ·rw [hn,Mu.put_same] at en
    have e:p=q:=Option.some.inj en
    subst e
    have:=R.trk m _ em
    rw [hp] at this
    exact this.elim
   ·rw [Mu.put_ne hn] at en
    exact R.inj m n q em en
 dom:=fun n q e=>by
  show n<h.nx+1
  by_cases hn:n=h.nx
  ·omega
  ·rw [Mu.put_ne hn] at e
   have:=R.dom n q e
   omega
 trk:=fun n q e=>by
  by_cases hn:n=h.nx
  ·rw [hn,Mu.put_same] at e
   have e:p=q:=Option.some.inj e
   subst e
   rw [aR];exact mo
  ·rw [Mu.put_ne hn] at e
   have:=R.trk n q e
   have ne:q≠p:=fun z=>by subst z;rw [hp] at this;exact this
   rw [aG ne];exact this
 cel:=fun n d e=>by
  have e:(if n=h.nx then some c else h.c n)=some d:=e
  by_cases hn:n=h.nx
  ·rw [if_pos hn] at e
   have e:c=d:=Option.some.inj e
   subst e
   exact ⟨p,by rw [hn,Mu.put_same],ck⟩
  ·rw [if_neg hn] at e
   obtain ⟨q,e1,x⟩:=R.cel n d e
   have:=R.trk n q e1
   have ne:q≠p:=fun z=>by subst z;rw [hp] at this;exact this
   exact ⟨q,by rw [Mu.put_ne hn];exact e1,x.ext (Ex.newCell R hp).ext (aG ne)⟩
 hd:=fun q z=>by
  obtain ⟨⟨xs,e⟩,g⟩:=R.hd q z
  have ne:=aM e hp
  refine ⟨⟨xs,by rw [aG ne];exact e⟩,fun n en=>?_⟩
  by_cases hn:n=h.nx
  ·rw [hn,Mu.put_same] at en
   exact ne (Option.some.inj en).symm
  ·rw [Mu.put_ne hn] at en
   exact g n en
theorem Rd.kept {p q:Addr}{o u:HO}(mo:MutO (H p))(r:Rd H q u)(hn:q≠p):Rd (upd H p o) q u:=by
 unfold Rd
 rw [aG hn]
 exact r
theorem Ex.write {n:Nat}{p:Addr}{o:HO}(R:Rel K μ H h)(hn:μ.f n=some p):Ex K H μ (upd H p o) μ where
 t:=fun q xs z=>by
  rcases z with z | z
  ·refine .inl (z.kept (R.trk n p hn) fun e=>?_)
   subst e
   have:=R.trk n q hn
   rcases z with r | ⟨_,r⟩ <;> rw [r] at this <;> exact this
  ·exact .inr z
 l:=fun q xs z=>⟨by rw [aG (fun e=>z.2.1 n (by rw [e];exact hn))];exact z.1,z.2⟩
 k:=fun q xs z=>by
  rcases z with ⟨o',z⟩ | z
  ·refine .inl ⟨o',?_⟩
   rw [aG (fun e=>?_)]
   ·exact z
   ·subst e
    have:=R.trk n q hn
    rw [z] at this
    exact this
  ·exact .inr z
 m:=fun _ _ e=>e
 x:=fun q o' u e=>by
  rw [aG (fun y=>?_)]
  ·exact e
  ·subst y
   have:=R.trk n q hn
   rw [e] at this
   exact this
 o:=fun q u z e=>⟨z,by rw [aG (fun y=>(R.hd q z).2 n (by rw [y];exact hn))];exact e⟩
theorem Rel.write {n:Nat}{p:Addr}{o:HO}{c:Cell}(R:Rel K μ H h)(hn:μ.f n=some p)(mo:MutO (some o))(ck:oG K (upd H p o) μ p c):Rel K μ (upd H p o) (h.set n c) where
 inj:=R.inj
 dom:=R.dom
 trk:=fun m q e=>by
  by_cases z:q=p
  ·subst z;rw [aR];exact mo
  ·rw [aG z];exact R.trk m q e
 cel:=fun m d e=>by
  have e:(if m=n then some c else h.c m)=some d:=e
  by_cases hm:m=n
  ·rw [if_pos hm] at e
   have e:c=d:=Option.some.inj e
   subst e
   exact ⟨p,by rw [hm];exact hn,ck⟩
  ·rw [if_neg hm] at e
   obtain ⟨q,e1,x⟩:=R.cel m d e
   have ne:q≠p:=fun z=>by subst z;exact hm (R.inj m n q e1 hn)
   exact ⟨q,e1,x.ext (Ex.write R hn).ext (aG ne)⟩
 hd:=fun q z=>by
  obtain ⟨⟨xs,e⟩,g⟩:=R.hd q z
  exact ⟨⟨xs,by rw [aG (fun y=>g n (by rw [y];exact hn))];exact e⟩,g⟩
mutual
def Lo (k:Nat):W→Prop
 | .tup ws=>Los k ws
 | .lst ws=>Los k ws
 | .kls ws=>Los k ws
 | .loc n=>n<k
 | _=>True
def Los (k:Nat):List W→Prop
 | []=>True
 | w::ws=>Lo k w∧Los k ws
end
mutual
theorem Rep.lo {k:Nat}(hd:∀ n p,μ.f n=some p→n<k):∀ {w:W} {v:V},Rep K H μ w v→Lo k w
 | .non,_,_=>by rw [Lo] <;> first | trivial | (intros;contradiction)
 | .bl _,_,_=>by rw [Lo] <;> first | trivial | (intros;contradiction)
 | .int _,_,_=>by rw [Lo] <;> first | trivial | (intros;contradiction)
 | .str _,_,_=>by rw [Lo] <;> first | trivial | (intros;contradiction)
 | .ty _,_,_=>by rw [Lo] <;> first | trivial | (intros;contradiction)
 | .exc _,_,_=>by rw [Lo] <;> first | trivial | (intros;contradiction)
 | .tup ws,_,h=>by
  rw [Rep] at h
  obtain ⟨p,xs,_,_,hr⟩:=h
  rw [Lo]
  exact aH.lo hd hr
 | .lst ws,_,h=>by
  rw [Rep] at h
  obtain ⟨p,xs,_,_,hr⟩:=h
  rw [Lo]
  exact aH.lo hd hr
 | .kls ws,_,h=>by
  rw [Rep] at h
  obtain ⟨p,xs,_,_,hr⟩:=h
  rw [Lo]
  exact aH.lo hd hr
 | .loc n,_,h=>by
  rw [Rep] at h
  obtain ⟨p,_,hm⟩:=h
  rw [Lo]
  exact hd n p hm
theorem aH.lo {k:Nat}(hd:∀ n p,μ.f n=some p→n<k):∀ {ws:List W} {xs:List V},aH K H μ ws xs→Los k ws
 | [],_,_=>by rw [Los];trivial
 | w::ws,_,h=>by
  rw [aH] at h
  obtain ⟨v,vs,_,r,h⟩:=h
  rw [Los]
  exact ⟨Rep.lo hd r,aH.lo hd h⟩
end
def Mu.cut (μ : Mu)(k:Nat):Mu:=⟨fun n=>if n<k then μ.f n else none,μ.hid⟩
theorem Mu.cut_some {k n:Nat}{p:Addr}(e:(μ.cut k).f n=some p):n<k∧μ.f n=some p:=by
 have e:(if n<k then μ.f n else none)=some p:=e
 by_cases hn:n<k
 ·rw [if_pos hn] at e;exact ⟨hn,e⟩
 ·rw [if_neg hn] at e;cases e
mutual
theorem Rep.cut {k:Nat}:∀ {w:W} {v:V},Rep K H μ w v→Lo k w→Rep K H (μ.cut k) w v
 | .non,_,h,_=>by rw [Rep] at h ⊢;exact h
 | .bl _,_,h,_=>by rw [Rep] at h ⊢;exact h
 | .int _,_,h,_=>by rw [Rep] at h ⊢;exact h
 | .str _,_,h,_=>by rw [Rep] at h ⊢;exact h
 | .ty _,_,h,_=>by rw [Rep] at h ⊢;exact h
 | .exc _,_,h,_=>by rw [Rep] at h ⊢;exact h
 | .tup ws,_,h,l=>by
  rw [Rep] at h ⊢
  rw [Lo] at l
  obtain ⟨p,xs,e1,hs,hr⟩:=h
  exact ⟨p,xs,e1,hs,aH.cut hr l⟩
 | .lst ws,_,h,l=>by
  rw [Rep] at h ⊢
  rw [Lo] at l
  obtain ⟨p,xs,e1,hs,hr⟩:=h
  exact ⟨p,xs,e1,⟨hs.1,fun n e=>hs.2.1 n (Mu.cut_some e).2,hs.2.2⟩,aH.cut hr l⟩
 | .kls ws,_,h,l=>by
  rw [Rep] at h ⊢
  rw [Lo] at l
  obtain ⟨p,xs,e1,hs,hr⟩:=h
  exact ⟨p,xs,e1,hs,aH.cut hr l⟩
 | .loc n,_,h,l=>by
  rw [Rep] at h ⊢
  rw [Lo] at l
  obtain ⟨p,e1,hm⟩:=h
  refine ⟨p,e1,?_⟩
  show (if n<k then μ.f n else none)=some p
  rw [if_pos l]
  exact hm
theorem aH.cut {k:Nat}:∀ {ws:List W} {xs:List V},aH K H μ ws xs→Los k ws→aH K H (μ.cut k) ws xs
 | [],_,h,_=>by rw [aH] at h ⊢;exact h
 | w::ws,_,h,l=>by
  rw [aH] at h ⊢
  rw [Los] at l
  obtain ⟨v,vs,e1,r,h⟩:=h
  exact ⟨v,vs,e1,Rep.cut r l.1,aH.cut h l.2⟩
end
end
end L2
namespace L2
open PySem PySem.Spec PyProof.Rows
section
variable {K:PySem.W.Frag}{H H' H1 H2:Hp}{μ μ' μ1 μ2:Mu}{h h':Gh}{w:W}{ws:List W}{v:V}{xs ys:List V}{p:Addr}
def Mu.hide (μ : Mu)(p:Addr):Mu:=⟨μ.f,fun q=>q=p∨μ.hid q⟩
def Mu.unhide (μ : Mu)(p:Addr):Mu:=⟨μ.f,fun q=>q≠p∧μ.hid q⟩
structure ExtX (p:Addr) (K:PySem.W.Frag) (H:Hp) (μ : Mu) (H':Hp) (μ':Mu):Prop where
 r:∀ w v,Rep K H μ w v→Rep K H' μ' w v
 o:∀ q u,q≠p→μ.hid q→H q=some u→μ'.hid q∧H' q=some u
theorem Ext.x (a:Ext K H μ H1 μ1)(hp:¬ μ.hid p)(b:ExtX p K H1 μ1 H2 μ2):Ext K H μ H2 μ2:=
 ⟨fun w v z=>b.r w v (a.r w v z),fun q u z e=>let ⟨z1,e1⟩:=a.o q u z e;b.o q u (fun y=>hp (by rw [←y];exact z)) z1 e1⟩
theorem Ext.hide {o:HO}(hp:H p=none):Ext K H μ (upd H p o) (μ.hide p):=Ex.ext {
 t:=fun q xs z=>(Ex.laid (μ:=μ) hp).t q xs z
 l:=fun q xs z=>by
  have nq:=aM z.1 hp
  refine ⟨by rw [aG nq];exact z.1,z.2.1,fun y=>?_⟩
  rcases y with y | y
  ·exact nq y
  ·exact z.2.2 y
 k:=fun q xs z=>(Ex.laid (μ:=μ) hp).k q xs z
 m:=fun _ _ e=>e
 x:=fun q o' u e=>by rw [aG (aM e hp)];exact e
 o:=fun q u z e=>⟨.inr z,by rw [aG (aM e hp)];exact e⟩ }
theorem Rel.nohid (R:Rel K μ H h)(hp:H p=none):¬ μ.hid p:=fun z=>by
 obtain ⟨⟨xs,e⟩,_⟩:=R.hd p z
 rw [hp] at e;cases e
theorem Rel.hide (R:Rel K μ H h)(hp:H p=none):Rel K (μ.hide p) (upd H p (.lst xs)) h where
 inj:=R.inj
 dom:=R.dom
 trk:=(R.laid hp).trk
 cel:=fun n c e=>by
  obtain ⟨q,e1,x⟩:=R.cel n c e
  have:=R.trk n q e1
  have ne:q≠p:=fun z=>by subst z;rw [hp] at this;exact this
  exact ⟨q,e1,x.ext (Ext.hide hp) (aG ne)⟩
 hd:=fun q z=>by
  rcases z with z | z
  ·subst z
   refine ⟨⟨xs,aR⟩,fun n e=>?_⟩
   have:=R.trk n q e
   rw [hp] at this
   exact this
  ·exact (R.laid (o:=.lst xs) hp).hd q z
theorem Ex0.grow (R:Rel K μ H h)(hp:μ.hid p):Ex0 K H μ (upd H p (.lst ys)) μ where
 t:=fun q xs z=>by
  rcases z with z | z
  ·refine .inl ?_
   unfold Rd
   rw [aG (fun y=>?_)]
   ·exact z
   ·subst y
    obtain ⟨⟨xs',e⟩,_⟩:=R.hd q hp
    rcases z with r | ⟨_,r⟩ <;> rw [e] at r <;> cases r
  ·exact .inr z
 l:=fun q xs z=>⟨by rw [aG (fun y=>z.2.2 (by rw [y];exact hp))];exact z.1,z.2⟩
 k:=fun q xs z=>by
  rcases z with ⟨o',z⟩ | z
  ·refine .inl ⟨o',?_⟩
   rw [aG (fun y=>?_)]
   ·exact z
   ·subst y
    obtain ⟨⟨xs',e⟩,_⟩:=R.hd q hp
    rw [e] at z
    cases z
  ·exact .inr z
 m:=fun _ _ e=>e
 x:=fun q o' u e=>by
  rw [aG (fun y=>?_)]
  ·exact e
  ·subst y
   obtain ⟨⟨xs',e'⟩,_⟩:=R.hd q hp
   rw [e'] at e
   cases e
theorem ExtX.grow (R:Rel K μ H h)(hp:μ.hid p):ExtX p K H μ (upd H p (.lst ys)) μ:=
 ⟨fun _ _ z=>Rep.ex (Ex0.grow R hp) z,fun q u ne z e=>⟨z,by rw [aG ne];exact e⟩⟩
theorem Rel.grow (R:Rel K μ H h)(hp:μ.hid p):Rel K μ (upd H p (.lst ys)) h where
 inj:=R.inj
 dom:=R.dom
 trk:=fun n q e=>by
  have ne:q≠p:=fun z=>(R.hd p hp).2 n (by rw [←z];exact e)
  rw [aG ne];exact R.trk n q e
 cel:=fun n c e=>by
  obtain ⟨q,e1,x⟩:=R.cel n c e
  have ne:q≠p:=fun z=>(R.hd p hp).2 n (by rw [←z];exact e1)
  refine ⟨q,e1,?_⟩
  cases c with
  | lst ws=>obtain ⟨xs,a,b⟩:=x;exact ⟨xs,(aG ne).trans a,aH.ex (Ex0.grow R hp) b⟩
  | obj C fs=>obtain ⟨dx,fvs,a,b⟩:=x;exact ⟨dx,fvs,(aG ne).trans a,Paired.mapP b fun _ _ z=>⟨z.1,Rep.ex (Ex0.grow R hp) z.2⟩⟩
  | dct kvs=>obtain ⟨kvv,a,b⟩:=x;exact ⟨kvv,(aG ne).trans a,Paired.mapP b fun _ _ z=>⟨z.1,Rep.ex (Ex0.grow R hp) z.2⟩⟩
  | dtt kvs=>obtain ⟨xs,vs,a,b,c,d,f⟩:=x;exact ⟨xs,vs,(aG ne).trans a,b,c,aH.ex (Ex0.grow R hp) d,aH.ex (Ex0.grow R hp) f⟩
 hd:=fun q z=>by
  by_cases e:q=p
  ·subst e;exact ⟨⟨ys,aR⟩,(R.hd q hp).2⟩
  ·rw [aG e];exact R.hd q z
theorem Ex0.unhide:Ex0 K H μ H (μ.unhide p) where
 t:=fun _ _ z=>z
 l:=fun q xs z=>⟨z.1,z.2.1,fun y=>z.2.2 y.2⟩
 k:=fun _ _ z=>z
 m:=fun _ _ e=>e
 x:=fun _ _ _ e=>e
theorem ExtX.unhide:ExtX p K H μ H (μ.unhide p):=⟨fun _ _ z=>Rep.ex Ex0.unhide z,fun q u ne z e=>⟨⟨ne,z⟩,e⟩⟩
theorem Rel.unhide (R:Rel K μ H h):Rel K (μ.unhide p) H h where
 inj:=R.inj
 dom:=R.dom
 trk:=R.trk
 cel:=fun n c e=>by
  obtain ⟨q,e1,x⟩:=R.cel n c e
  refine ⟨q,e1,?_⟩
  cases c with
  | lst ws=>obtain ⟨xs,a,b⟩:=x;exact ⟨xs,a,aH.ex Ex0.unhide b⟩
  | obj C fs=>obtain ⟨dx,fvs,a,b⟩:=x;exact ⟨dx,fvs,a,Paired.mapP b fun _ _ z=>⟨z.1,Rep.ex Ex0.unhide z.2⟩⟩
  | dct kvs=>obtain ⟨kvv,a,b⟩:=x;exact ⟨kvv,a,Paired.mapP b fun _ _ z=>⟨z.1,Rep.ex Ex0.unhide z.2⟩⟩
  | dtt kvs=>obtain ⟨xs,vs,a,b,c,d,f⟩:=x;exact ⟨xs,vs,a,b,c,aH.ex Ex0.unhide d,aH.ex Ex0.unhide f⟩
 hd:=fun q z=>R.hd q z.2
theorem Rep.built (R:Rel K μ H h)(hp:μ.hid p)(e:H p=some (.lst xs))(r:aH K H μ ws xs):Rep K H (μ.unhide p) (.lst ws) (.ref p):=by
 rw [Rep]
 exact ⟨p,xs,rfl,⟨e,(R.hd p hp).2,fun z=>z.1 rfl⟩,aH.ex Ex0.unhide r⟩
end
abbrev Sw:=List (Option W)
abbrev WK:=W→Gh→Prop
abbrev ME:=Sw→Gh→WK→Prop
abbrev MT:=Sw→Gh→(Bool→Gh→Prop)→Prop
abbrev MA:=Sw→Gh→(List W→Gh→Prop)→Prop
structure bH where
 nx:Sw→Gh→Prop
 rt:WK
 bk:Sw→Gh→Prop:=fun _ _=>False
 ct:Sw→Gh→Prop:=fun _ _=>False
abbrev MS:=bH→Sw→Gh→Prop
abbrev MG:=W→Sw→Gh→(Sw→Gh→Prop)→Prop
abbrev MGs:=List W→Sw→Gh→(Sw→Gh→Prop)→Prop
structure Xw where
 cls:Str
 fs:List (Str×W)
abbrev XWK:=Xw→Gh→Prop
abbrev MSp:=List W→Gh→WK→XWK→Prop
def EF:XWK:=fun _ _=>False
structure Slots (K:PySem.W.Frag) (H:Hp) (μ : Mu) (σw:Sw) (σ : St):Prop where
 len:σw.length = σ.length
 get:∀ (i:Nat) (w:W),σw[i]?=some (some w)→∃ v,σ[i]?=some (some v)∧Rep K H μ w v
def DQ (K:PySem.W.Frag)(H:Hp)(μ : Mu)(Q:WK):VK:=fun v H'=>∃ μ' w h',Ext K H μ H' μ'∧Rel K μ' H' h'∧Rep K H' μ' w v∧Q w h'
def DB (K:PySem.W.Frag)(H:Hp)(μ : Mu)(Q:Bool→Gh→Prop):Bool→Hp→Prop:=fun b H'=>∃ μ' h',Ext K H μ H' μ'∧Rel K μ' H' h'∧Q b h'
def DA (K:PySem.W.Frag)(H:Hp)(μ : Mu)(Q:List W→Gh→Prop):List V→Hp→Prop:=fun vs H'=>∃ μ' ws h',Ext K H μ H' μ'∧Rel K μ' H' h'∧aH K H' μ' ws vs∧Q ws h'
def DN (K:PySem.W.Frag)(H:Hp)(μ : Mu)(N:Sw→Gh→Prop):St→Hp→Prop:=fun σ' H'=>∃ μ' σw' h',Ext K H μ H' μ'∧Rel K μ' H' h'∧Slots K H' μ' σw' σ'∧N σw' h'
section
variable {K:PySem.W.Frag}{H H' H1 H2:Hp}{μ μ' μ1 μ2:Mu}{h h' h1:Gh}{w:W}{v:V}{σ : St}{σw:Sw}
theorem Slots.ext (S:Slots K H μ σw σ)(e:Ext K H μ H' μ'):Slots K H' μ' σw σ:=⟨S.len,fun i w q=>let ⟨v,a,b⟩:=S.get i w q;⟨v,a,e.r _ _ b⟩⟩
theorem Slots.set (S:Slots K H μ σw σ)(r:Rep K H μ w v)(i:Nat):Slots K H μ (σw.set i (some w)) (σ.set i (some v)):=by
 refine ⟨by rw [List.length_set,List.length_set,S.len],fun j u q=>?_⟩
 rw [List.getElem?_set] at q ⊢
 by_cases hij:i=j
 ·rw [if_pos hij] at q ⊢
  by_cases hl:i < σw.length
  ·rw [if_pos hl] at q
   rw [if_pos (by rw [←S.len];exact hl)]
   have e:w=u:=by injection q with q;injection q
   subst e
   exact ⟨v,rfl,r⟩
  ·rw [if_neg hl] at q;cases q
 ·rw [if_neg hij] at q ⊢
  exact S.get j u q
theorem DQ.trans {Q:WK}(e:Ext K H μ H1 μ1)(q:DQ K H1 μ1 Q v H'):DQ K H μ Q v H':=let ⟨μ',w,h',a,b⟩:=q;⟨μ',w,h',e.trans a,b⟩
theorem DB.trans {Q:Bool→Gh→Prop}{b:Bool}(e:Ext K H μ H1 μ1)(q:DB K H1 μ1 Q b H'):DB K H μ Q b H':=let ⟨μ',h',a,b⟩:=q;⟨μ',h',e.trans a,b⟩
theorem DN.trans {N:Sw→Gh→Prop}{σ':St}(e:Ext K H μ H1 μ1)(q:DN K H1 μ1 N σ' H'):DN K H μ N σ' H':=let ⟨μ',w,h',a,b⟩:=q;⟨μ',w,h',e.trans a,b⟩
end
def tD (K:PySem.W.Frag)(m:ME):TE:=fun σ H Q=>∃ μ h σw Qw,Rel K μ H h∧Slots K H μ σw σ∧m σw h Qw∧∀ v H',DQ K H μ Qw v H'→Q v H'
def tDT (K:PySem.W.Frag)(m:MT):TT:=fun σ H Q=>∃ μ h σw Qw,Rel K μ H h∧Slots K H μ σw σ∧m σw h Qw∧∀ b H',DB K H μ Qw b H'→Q b H'
def tDA (K:PySem.W.Frag)(m:MA):TA:=fun σ H Q=>∃ μ h σw Qw,Rel K μ H h∧Slots K H μ σw σ∧m σw h Qw∧∀ vs H',DA K H μ Qw vs H'→Q vs H'
def tDG (K:PySem.W.Frag)(g:MG):TG:=fun v σ H N=>∃ μ h σw w Nw,Rel K μ H h∧Slots K H μ σw σ∧Rep K H μ w v∧g w σw h Nw∧∀ σ' H',DN K H μ Nw σ' H'→N σ' H'
def tDGs (K:PySem.W.Frag)(g:MGs):TGs:=fun vs σ H N=>∃ μ h σw ws Nw,Rel K μ H h∧Slots K H μ σw σ∧aH K H μ ws vs∧g ws σw h Nw∧∀ σ' H',DN K H μ Nw σ' H'→N σ' H'
structure tR (K:PySem.W.Frag) (H:Hp) (μ : Mu) (Dw:bH) (D:Ends):Prop where
 nx:∀ σ' H',DN K H μ Dw.nx σ' H'→D.nx σ' H'
 rt:∀ v H',DQ K H μ Dw.rt v H'→D.rt v H'
 bk:∀ σ' H',DN K H μ Dw.bk σ' H'→D.bk σ' H'
 ct:∀ σ' H',DN K H μ Dw.ct σ' H'→D.ct σ' H'
def tDS (K:PySem.W.Frag)(m:MS):TS:=fun D σ H=>∃ μ h σw Dw,Rel K μ H h∧Slots K H μ σw σ∧m Dw σw h∧tR K H μ Dw D
theorem tR.trans {K:PySem.W.Frag}{H H1:Hp}{μ μ1:Mu}{Dw:bH}{D:Ends}(k:tR K H μ Dw D)(e:Ext K H μ H1 μ1):tR K H1 μ1 Dw D:=
 ⟨fun _ _ q=>k.nx _ _ (q.trans e),fun _ _ q=>k.rt _ _ (q.trans e),fun _ _ q=>k.bk _ _ (q.trans e),fun _ _ q=>k.ct _ _ (q.trans e)⟩
section
variable {X:Cx}{e:Expr}{es:List Expr}{st:Stmt}{sts:List Stmt}
theorem PE.of {t t':TE}(h:PE X e t)(k:∀ σ H Q,t' σ H Q→t σ H Q):PE X e t':=fun pins s σ H Q I q=>h pins s σ H Q I (k σ H Q q)
theorem PT.of {t t':TT}(h:PT X e t)(k:∀ σ H Q,t' σ H Q→t σ H Q):PT X e t':=fun pins s σ H Q I q=>h pins s σ H Q I (k σ H Q q)
theorem PW.of {t t':TT}(h:PW X e t)(k:∀ σ H Q,t' σ H Q→t σ H Q):PW X e t':=fun wh pins s σ H Q I q=>h wh pins s σ H Q I (k σ H Q q)
theorem PA.of {t t':TA}(h:PA X es t)(k:∀ σ H Q,t' σ H Q→t σ H Q):PA X es t':=fun pos pins s σ H Q I q=>h pos pins s σ H Q I (k σ H Q q)
theorem PG.of {t t':TG}(h:PG X e t)(k:∀ v σ H Q,t' v σ H Q→t v σ H Q):PG X e t':=fun pins s σ H v u Q I r q=>h pins s σ H v u Q I r (k v σ H Q q)
theorem PGs.of {t t':TGs}(h:PGs X es t)(k:∀ v σ H Q,t' v σ H Q→t v σ H Q):PGs X es t':=fun pins s σ H v u Q I r q=>h pins s σ H v u Q I r (k v σ H Q q)
theorem PS.of {t t':TS}(h:PS X st t)(k:∀ D σ H,t' D σ H→t D σ H):PS X st t':=fun pins s σ H D I q=>h pins s σ H D I (k D σ H q)
theorem PSs.of {t t':TS}(h:PSs X sts t)(k:∀ D σ H,t' D σ H→t D σ H):PSs X sts t':=fun pins s σ H D I q=>h pins s σ H D I (k D σ H q)
end
abbrev DE (X:Cx)(e:Expr)(m:ME):Prop:=PE X e (tD X.K m)
abbrev DT (X:Cx)(e:Expr)(m:MT):Prop:=PT X e (tDT X.K m)
abbrev DWt (X:Cx)(e:Expr)(m:MT):Prop:=PW X e (tDT X.K m)
abbrev DAs (X:Cx)(es:List Expr)(m:MA):Prop:=PA X es (tDA X.K m)
abbrev DG (X:Cx)(e:Expr)(m:MG):Prop:=PG X e (tDG X.K m)
abbrev DGss (X:Cx)(es:List Expr)(m:MGs):Prop:=PGs X es (tDGs X.K m)
abbrev DS (X:Cx)(st:Stmt)(m:MS):Prop:=PS X st (tDS X.K m)
abbrev DSs (X:Cx)(st:List Stmt)(m:MS):Prop:=PSs X st (tDS X.K m)
section
variable {X:Cx}{e a b c:Expr}{ma mb mc:ME}{pos:Pos}
def ao (i:Nat):ME:=fun σ h Q=>match σ[i]? with
 | some (some w)=>Q w h
 | _=>False
def mC (w:W):ME:=fun _ h Q=>Q w h
theorem dv (i:Nat)(he:PE X e (tVar i)):DE X e (ao i):=he.of fun σ H Q ⟨μ,h,σw,Qw,R,S,m,k⟩=>by
 unfold ao at m
 cases q:σw[i]? with
 | none=>rw [q] at m;exact m.elim
 | some o=>
  rw [q] at m
  cases o with
  | none=>exact m.elim
  | some w=>
   obtain ⟨v,h1,h2⟩:=S.get i w q
   exact ⟨v,h1,k _ _ ⟨μ,w,h,.refl,R,h2,m⟩⟩
theorem dc {w:W}{v:V}(he:PE X e (tC v))(r:∀ H μ,Rep X.K H μ w v):DE X e (mC w):=he.of fun σ H Q ⟨μ,h,σw,Qw,R,S,m,k⟩=>k _ _ ⟨μ,w,h,.refl,R,r H μ,m⟩
theorem aC {i:Int}{j pos}:DE X (.Constant (.int i) j pos) (mC (.int i)):=dc pe_int fun _ _=>by rw [Rep]
theorem d_bl {i:Bool}{j pos}:DE X (.Constant (.bool i) j pos) (mC (.bl i)):=dc pe_bl fun _ _=>by rw [Rep]
theorem pY {i:Str}{j pos}:DE X (.Constant (.str i) j pos) (mC (.str i)):=dc pe_str fun _ _=>by rw [Rep]
abbrev M2:=W→W→Gh→WK→Prop
def mOp (r:M2)(ma mb:ME):ME:=fun σ h Q=>ma σ h fun x h1=>mb σ h1 fun y h2=>r x y h2 Q
def Sim2 (K:PySem.W.Frag)(r:R2)(mr:M2):Prop:=∀ {H:Hp} {μ : Mu} {h:Gh} {x y:V} {wx wy:W} {Qw:WK} {Q:VK},Rel K μ H h→Rep K H μ wx x→Rep K H μ wy y→mr wx wy h Qw →
 (∀ v H',DQ K H μ Qw v H'→Q v H')→r x y H Q
theorem two {K:PySem.W.Frag}{σ : St}{H:Hp}{Q:VK}{mr:M2}{R2':V→V→Hp→Prop}(h:tD K (mOp mr ma mb) σ H Q)
  (k:∀ {H2:Hp} {μ2:Mu} {h2:Gh} {x y:V} {wx wy:W} {Qw:WK},Rel K μ2 H2 h2→Rep K H2 μ2 wx x→Rep K H2 μ2 wy y→mr wx wy h2 Qw→(∀ v H',DQ K H2 μ2 Qw v H'→Q v H')→R2' x y H2) :
  tD K ma σ H fun x H1=>tD K mb σ H1 fun y H2=>R2' x y H2:=by
 obtain ⟨μ,g,σw,Qw,R,S,m,q⟩:=h
 refine ⟨μ,g,σw,_,R,S,m,fun x H1 ⟨μ1,wx,h1,e1,R1,r1,m1⟩=>?_⟩
 refine ⟨μ1,h1,σw,_,R1,S.ext e1,m1,fun y H2 ⟨μ2,wy,h2,e2,R2,r2,m2⟩=>?_⟩
 exact k R2 (e2.r _ _ r1) r2 m2 fun v H' z=>q _ _ ((z.trans e2).trans e1)
def DOp (X:Cx)(f:Value→Value→Sem Value)(mr:M2):Prop:=∃ r,OpR X f r∧Sim2 X.K r mr
theorem aV {op:Operator}{mr:M2}(ho:DOp X (binaryOp op) mr)(ha:DE X a ma)(hb:DE X b mb):DE X (.BinOp a op b pos) (mOp mr ma mb):=by
 obtain ⟨r,o,s⟩:=ho
 exact (pe_op o ha hb).of fun σ H Q h=>two h fun R r1 r2 m k=>s R r1 r2 m k
theorem wj {op:CmpOp}{mr:M2}(ho:DOp X (compareOp op) mr)(ha:DE X a ma)(hb:DE X b mb)(hm:behindInMarks op b=false):DE X (.Compare a [op] [b] pos) (mOp mr ma mb):=by
 obtain ⟨r,o,s⟩:=ho
 exact (pe_cmpR o ha hb hm).of fun σ H Q h=>two h fun R r1 r2 m k=>s R r1 r2 m k
def aY (m:ME):MT:=fun σ h Q=>m σ h fun w h1=>match w with
 | .bl c=>Q c h1
 | _=>False
theorem test_of {K:PySem.W.Frag}{σ : St}{H:Hp}{m:ME}{Q:Bool→Hp→Prop}(h:tDT K (aY m) σ H Q):tD K m σ H fun x H'=>∃ k,x=.bl k∧Q k H':=by
 obtain ⟨μ,g,σw,Qw,R,S,mm,q⟩:=h
 refine ⟨μ,g,σw,_,R,S,mm,fun v H' ⟨μ1,w,h1,e1,R1,r1,m1⟩=>?_⟩
 cases w with
 | bl c=>rw [Rep] at r1;exact ⟨c,r1,q _ _ ⟨μ1,h1,e1,R1,m1⟩⟩
 | _=>exact m1.elim
theorem bD {op:CmpOp}{mr:M2}(ho:DOp X (compareOp op) mr)(ha:DE X a ma)(hb:DE X b mb)(hm:behindInMarks op b=false):DT X (.Compare a [op] [b] pos) (aY (mOp mr ma mb)):=by
 obtain ⟨r,o,s⟩:=ho
 exact (pt_cmpR o ha hb hm).of fun σ H Q h=>two (test_of h) fun R r1 r2 m k=>s R r1 r2 m k
def by2 (c:Bool)(a b:Prop):Prop:=match c with
 | true=>a
 | false=>b
def br (c:Bool)(a b:Prop):Prop:=(c=true→a)∧(c=false→b)
theorem br_t {c:Bool}{a b:Prop}(e:c=true)(x:a):br c a b:=⟨fun _=>x,fun z=>by rw [e] at z;cases z⟩
theorem yH {c:Bool}{a b:Prop}(e:c=false)(x:b):br c a b:=⟨fun z=>(by rw [e] at z;cases z),fun _=>x⟩
theorem zK {c:Prop} [Decidable c] {a b:Prop} (x:c→a) (y:¬ c→b):br (decide c) a b:=⟨fun e=>x (of_decide_eq_true e),fun e=>y (of_decide_eq_false e)⟩
def mAnd (t u:MT):MT:=fun σ h Q=>t σ h fun c h1=>br c (u σ h1 Q) (Q false h1)
def mOr (t u:MT):MT:=fun σ h Q=>t σ h fun c h1=>br c (Q true h1) (u σ h1 Q)
def mNot (t:MT):MT:=fun σ h Q=>t σ h fun c h1=>Q (!c) h1
variable {tA tB':MT}{rest:List Expr}
theorem dw_and1 (ha:DT X a tA):DWt X (.BoolOp .And [a] pos) tA:=pw_and1 ha
theorem tM (ha:DT X a tA):DWt X (.BoolOp .Or [a] pos) tA:=pw_or1 ha
theorem dw_and (ha:DT X a tA)(hb:DWt X (.BoolOp .And (b::rest) pos) tB'):DWt X (.BoolOp .And (a::b::rest) pos) (mAnd tA tB'):=(pw_and ha hb).of fun σ H Q ⟨μ,g,σw,Qw,R,S,m,q⟩=>by
 refine ⟨μ,g,σw,_,R,S,m,fun c H1 ⟨μ1,h1,e1,R1,m1⟩=>?_⟩
 cases c with
 | true=>
  rw [if_pos rfl]
  exact ⟨μ1,h1,σw,_,R1,S.ext e1,m1.1 rfl,fun b H' z=>q _ _ (z.trans e1)⟩
 | false=>
  rw [if_neg Bool.false_ne_true]
  exact q _ _ ⟨μ1,h1,e1,R1,m1.2 rfl⟩
theorem dw_or (ha:DT X a tA)(hb:DWt X (.BoolOp .Or (b::rest) pos) tB'):DWt X (.BoolOp .Or (a::b::rest) pos) (mOr tA tB'):=(pw_or ha hb).of fun σ H Q ⟨μ,g,σw,Qw,R,S,m,q⟩=>by
 refine ⟨μ,g,σw,_,R,S,m,fun c H1 ⟨μ1,h1,e1,R1,m1⟩=>?_⟩
 cases c with
 | true=>
  rw [if_pos rfl]
  exact q _ _ ⟨μ1,h1,e1,R1,m1.1 rfl⟩
 | false=>
  rw [if_neg Bool.false_ne_true]
  exact ⟨μ1,h1,σw,_,R1,S.ext e1,m1.2 rfl,fun b H' z=>q _ _ (z.trans e1)⟩
theorem xM (ha:DT X a tA):DT X (.UnaryOp .Not a pos) (mNot tA):=(pt_not ha).of fun σ H Q ⟨μ,g,σw,Qw,R,S,m,q⟩=>
 ⟨μ,g,σw,_,R,S,m,fun c H1 ⟨μ1,h1,e1,R1,m1⟩=>q _ _ ⟨μ1,h1,e1,R1,m1⟩⟩
def mAndV (a b:ME):ME:=fun σ h Q=>a σ h fun x h1=>match x with
 | .bl true=>b σ h1 Q
 | .bl false=>Q (.bl false) h1
 | _=>False
def mOrV (a b:ME):ME:=fun σ h Q=>a σ h fun x h1=>match x with
 | .bl false=>b σ h1 Q
 | .bl true=>Q (.bl true) h1
 | _=>False
def mNotV (a:ME):ME:=fun σ h Q=>a σ h fun x h1=>match x with
 | .bl c=>Q (.bl (!c)) h1
 | _=>False
theorem d_one {op}(h:DE X a ma):DE X (.BoolOp op [a] pos) ma:=pe_one h
theorem d_and (ha:DE X a ma)(hb:DE X (.BoolOp .And (b::rest) pos) mb):DE X (.BoolOp .And (a::b::rest) pos) (mAndV ma mb):=(pe_and ha hb).of fun σ H Q ⟨μ,g,σw,Qw,R,S,m,q⟩=>by
 refine ⟨μ,g,σw,_,R,S,m,fun v H1 ⟨μ1,w,h1,e1,R1,r1,m1⟩=>?_⟩
 cases w with
 | bl c=>
  rw [Rep] at r1
  refine ⟨c,r1,?_⟩
  cases c with
  | true=>rw [if_pos rfl];exact ⟨μ1,h1,σw,_,R1,S.ext e1,m1,fun b H' z=>q _ _ (z.trans e1)⟩
  | false=>rw [if_neg Bool.false_ne_true];exact q _ _ ⟨μ1,.bl false,h1,e1,R1,by rw [Rep],m1⟩
 | _=>exact m1.elim
theorem d_not (ha:DE X a ma):DE X (.UnaryOp .Not a pos) (mNotV ma):=(pe_not ha).of fun σ H Q ⟨μ,g,σw,Qw,R,S,m,q⟩=>by
 refine ⟨μ,g,σw,_,R,S,m,fun v H1 ⟨μ1,w,h1,e1,R1,r1,m1⟩=>?_⟩
 cases w with
 | bl c=>rw [Rep] at r1;exact ⟨c,r1,q _ _ ⟨μ1,.bl (!c),h1,e1,R1,by rw [Rep],m1⟩⟩
 | _=>exact m1.elim
def mIf (t:MT)(a b:ME):ME:=fun σ h Q=>t σ h fun c h1=>br c (a σ h1 Q) (b σ h1 Q)
theorem d_if (hc:DT X c tA)(ha:DE X a ma)(hb:DE X b mb):DE X (.IfExp c a b pos) (mIf tA ma mb):=(pe_ifExp hc ha hb).of fun σ H Q ⟨μ,g,σw,Qw,R,S,m,q⟩=>by
 refine ⟨μ,g,σw,_,R,S,m,fun c H1 ⟨μ1,h1,e1,R1,m1⟩=>?_⟩
 cases c with
 | true=>
  rw [if_pos rfl]
  exact ⟨μ1,h1,σw,_,R1,S.ext e1,m1.1 rfl,fun b H' z=>q _ _ (z.trans e1)⟩
 | false=>
  rw [if_neg Bool.false_ne_true]
  exact ⟨μ1,h1,σw,_,R1,S.ext e1,m1.2 rfl,fun b H' z=>q _ _ (z.trans e1)⟩
def mUn (r:W→Gh→WK→Prop)(a:ME):ME:=fun σ h Q=>a σ h fun x h1=>r x h1 Q
def mNeg:W→Gh→WK→Prop:=fun x h Q=>match x with
 | .int i=>Q (.int (-i)) h
 | _=>False
theorem d_neg (ha:DE X a ma):DE X (.UnaryOp .USub a pos) (mUn mNeg ma):=(pe_un un_neg ha).of fun σ H Q ⟨μ,g,σw,Qw,R,S,m,q⟩=>by
 refine ⟨μ,g,σw,_,R,S,m,fun v H1 ⟨μ1,w,h1,e1,R1,r1,m1⟩=>?_⟩
 cases w with
 | int i=>rw [Rep] at r1;exact ⟨i,r1,q _ _ ⟨μ1,.int (-i),h1,e1,R1,by rw [Rep],m1⟩⟩
 | _=>exact m1.elim
def aO:MA:=fun _ h Q=>Q [] h
def aq (a:ME)(r:MA):MA:=fun σ h Q=>a σ h fun x h1=>r σ h1 fun xs h2=>Q (x::xs) h2
variable {es:List Expr}{mr:MA}
theorem aB:DAs X [] aO:=wH.of fun σ H Q ⟨μ,g,σw,Qw,R,S,m,q⟩=>q _ _ ⟨μ,[],g,.refl,R,.nil,m⟩
theorem ak (ha:DE X e ma)(hr:DAs X es mr)(hs:starEach (e::es) X.env=(false,eval e X.env)::starEach es X.env:=by rfl):DAs X (e::es) (aq ma mr):=(mD ha hr hs).of fun σ H Q ⟨μ,g,σw,Qw,R,S,m,q⟩=>by
 refine ⟨μ,g,σw,_,R,S,m,fun v H1 ⟨μ1,w,h1,e1,R1,r1,m1⟩=>?_⟩
 refine ⟨μ1,h1,σw,_,R1,S.ext e1,m1,fun vs H2 ⟨μ2,ws,h2,e2,R2,r2,m2⟩=>?_⟩
 exact q _ _ ⟨μ2,w::ws,h2,e1.trans e2,R2,.cons (e2.r _ _ r1) r2,m2⟩
def gH (n:Nat)(P:Prop):Prop:=by2 (Nat.ble n 1000) P (n≤sizeLine∧P)
theorem gH.ok {n:Nat}{P:Prop}(h:gH n P):n≤sizeLine∧P:=by
 unfold gH at h
 cases e:Nat.ble n 1000 with
 | true=>rw [e] at h;exact ⟨Nat.le_trans (Nat.le_of_ble_eq_true e) (by decide),h⟩
 | false=>rw [e] at h;exact h
theorem gH.mk {n:Nat}{P:Prop}(hn:n≤sizeLine)(h:P):gH n P:=by
 unfold gH
 cases e:Nat.ble n 1000 with
 | true=>exact h
 | false=>exact ⟨hn,h⟩
def ux (t:MA):ME:=fun σ h Q=>t σ h fun ws h1=>gH ws.length (Q (.tup ws) h1)
def mLst (t:MA):ME:=fun σ h Q=>t σ h fun ws h1=>gH ws.length (Q (.lst ws) h1)
def sH (t:MA):ME:=fun σ h Q=>t σ h fun ws h1=>gH ws.length (Q (.loc h1.nx) (h1.new (.lst ws)))
theorem qO {x1}(h:DAs X es mr):DE X (.Tuple es x1 pos) (ux mr):=(pe_tup h).of fun σ H Q ⟨μ,g,σw,Qw,R,S,m,q⟩=>
 ⟨μ,g,σw,_,R,S,m,fun vs H1 ⟨μ1,ws,h1,e1,R1,r1,sz⟩=>⟨by rw [←r1.len];exact sz.ok.1,fun p hp=>q _ _ ⟨μ1,.tup ws,h1,e1.trans (Ex.laid hp).ext,R1.laid hp,.tupNew hp r1,sz.ok.2⟩⟩⟩
theorem zB (h:DAs X es mr):DE X (.List es pos) (mLst mr):=(pe_lst h).of fun σ H Q ⟨μ,g,σw,Qw,R,S,m,q⟩=>
 ⟨μ,g,σw,_,R,S,m,fun vs H1 ⟨μ1,ws,h1,e1,R1,r1,sz⟩=>⟨by rw [←r1.len];exact sz.ok.1,fun p hp=>q _ _ ⟨μ1,.lst ws,h1,e1.trans (Ex.laid hp).ext,R1.laid hp,.lstNew R1 hp r1,sz.ok.2⟩⟩⟩
theorem newLst {K:PySem.W.Frag}{H:Hp}{μ : Mu}{h:Gh}{p:Addr}{ws:List W}{xs:List V}(R:Rel K μ H h)(hp:H p=none)(r:aH K H μ ws xs) :
  Rel K (μ.put h.nx p) (upd H p (.lst xs)) (h.new (.lst ws)):=R.newCell hp trivial ⟨xs,aR,(Ex.newCell R hp).ext.s r⟩
theorem wU (h:DAs X es mr):DE X (.List es pos) (sH mr):=(pe_lst h).of fun σ H Q ⟨μ,g,σw,Qw,R,S,m,q⟩=>
 ⟨μ,g,σw,_,R,S,m,fun vs H1 ⟨μ1,ws,h1,e1,R1,r1,sz⟩=>⟨by rw [←r1.len];exact sz.ok.1,fun p hp=>q _ _ ⟨μ1.put h1.nx p,.loc h1.nx,h1.new (.lst ws),e1.trans (Ex.newCell R1 hp).ext,newLst R1 hp r1,by rw [Rep];exact ⟨p,rfl,Mu.put_same⟩,sz.ok.2⟩⟩⟩
def lift (K:PySem.W.Frag)(ms:MSp):Sp:=fun vs H Q _=>∃ μ h ws Qw,Rel K μ H h∧aH K H μ ws vs∧ms ws h Qw EF∧∀ v H',DQ K H μ Qw v H'→Q v H'
def aU (ms:MSp)(E:XWK)(ma:MA):ME:=fun σ h Q=>ma σ h fun ws h1=>ms ws h1 Q E
theorem call_of {K:PySem.W.Frag}{σ : St}{H:Hp}{Q:VK}{E:XK}{ms:MSp}{ma:MA}(h:tD K (aU ms EF ma) σ H Q):tCall (lift K ms) [] E (tDA K ma) σ H Q:=by
 obtain ⟨μ,g,σw,Qw,R,S,m,q⟩:=h
 refine ⟨μ,g,σw,_,R,S,m,fun vs H1 ⟨μ1,ws,h1,e1,R1,r1,m1⟩=>?_⟩
 show lift K ms (vs++[]) H1 Q E
 rw [List.append_nil]
 exact ⟨μ1,h1,ws,Qw,R1,r1,m1,fun v H' z=>q _ _ (z.trans e1)⟩
theorem aP {k:Nat}{f:Addr}{fd:FuncData}{ps:List Str}{ms:MSp}{x:Str}{p:Pos}(F:cB X.prog X.w X.K X.mg X.base CX0 k f fd ps (lift X.K ms))(hr:kj k X.A)(hg:Gl X x)(hm:X.mg x=some (.ref f))(hk:PySem.W.keepIn X.K (.ref f)=true)
  (hb:Binds X.K fd ps []) (ha:DAs X (e::es) mr) (hdb:(x==("__debug__" : Str))=false:=by decide) (he:starEach (e::es) X.env=(false,eval e X.env)::starEach es X.env:=by rfl) (hpl:(backTo pos (starEach es X.env)).any (·.1)=false:=by rfl) :
  DE X (.Call (.Name x p) (e::es) [] pos) (aU ms EF mr):=(pe_call F hr hg hm hk hb .nil pass0 ha hdb he hpl).of fun _ _ _ h=>call_of h
def truW (h:Gh)(w:W):Option Bool:=match w with
 | .non=>some false
 | .bl b=>some b
 | .int i=>some (i != 0)
 | .tup ws=>some (!ws.isEmpty)
 | .lst ws=>some (!ws.isEmpty)
 | .kls ws=>some (!ws.isEmpty)
 | .loc n=>(match h.c n with
  | some (.lst ws)=>some (!ws.isEmpty)
  | _=>none)
 | _=>none
def mTru (m:ME):MT:=fun σ h Q=>m σ h fun w h1=>match truW h1 w with
 | some b=>Q b h1
 | none=>False
theorem aH.emp {K:PySem.W.Frag}{H:Hp}{μ : Mu}{ws:List W}{xs:List V}(r:aH K H μ ws xs):ws.isEmpty=xs.isEmpty:=by
 have:=r.len
 cases ws <;> cases xs <;> first | rfl | cases this
theorem iI (he:DE X e ma)(h:∀ whole,isTrue e X.env whole=(do let v ←whole;standAt e.pos;holding [v] (truthy v)):=by intro _;rfl):DT X e (mTru ma):=(pt_truth he h).of fun σ H Q ⟨μ,g,σw,Qw,R,S,m,q⟩=>by
 refine ⟨μ,g,σw,_,R,S,m,fun v H1 ⟨μ1,w,h1,e1,R1,r1,m1⟩=>?_⟩
 dsimp only at m1
 split at m1
 ·rename_i b eb
  refine ⟨b,?_,q _ _ ⟨μ1,h1,e1,R1,m1⟩⟩
  cases w with
  | non=>rw [Rep] at r1;subst r1;cases eb;rfl
  | bl c=>rw [Rep] at r1;subst r1;cases eb;rfl
  | int c=>rw [Rep] at r1;subst r1;cases eb;rfl
  | tup ws=>
   rw [Rep] at r1
   obtain ⟨p,xs,ev,hs,rs⟩:=r1
   subst ev
   cases eb
   exact .inr (.inl ⟨xs,hs,by rw [rs.emp]⟩)
  | lst ws=>
   rw [Rep] at r1
   obtain ⟨p,xs,ev,hs,rs⟩:=r1
   subst ev
   cases eb
   exact .inl ⟨xs,hs.sq,by rw [rs.emp]⟩
  | kls ws=>
   rw [Rep] at r1
   obtain ⟨p,xs,ev,hs,rs⟩:=r1
   subst ev
   cases eb
   exact .inl ⟨xs,hs.sq,by rw [rs.emp]⟩
  | loc n=>
   rw [Rep] at r1
   obtain ⟨p,ev,hm⟩:=r1
   subst ev
   unfold truW at eb
   dsimp only at eb
   cases ec:h1.c n with
   | none=>rw [ec] at eb;cases eb
   | some cl=>
    rw [ec] at eb
    cases cl with
    | lst ws=>
     cases eb
     obtain ⟨p',hm',xs,hx,rs⟩:=R1.cel n _ ec
     have ep:p'=p:=by rw [hm] at hm';exact (Option.some.inj hm').symm
     subst ep
     exact .inl ⟨xs,.of hx,by rw [rs.emp]⟩
    | _=>cases eb
  | _=>cases eb
 ·exact m1.elim
abbrev MC:=List W→Gh→WK→Prop
def mCB (r:MC)(ma:MA):ME:=fun σ h Q=>ma σ h fun ws h1=>r ws h1 Q
def SimC (K:PySem.W.Frag)(r:List V→Hp→VK→Prop)(mr:MC):Prop:=∀ {H:Hp} {μ : Mu} {h:Gh} {vs:List V} {ws:List W} {Qw:WK} {Q:VK},Rel K μ H h→aH K H μ ws vs→mr ws h Qw→(∀ v H',DQ K H μ Qw v H'→Q v H')→r vs H Q
def jr (X:Cx)(f:Value)(mr:MC):Prop:=∃ r,dz X f r∧SimC X.K r mr
theorem cb_of {K:PySem.W.Frag}{σ : St}{H:Hp}{Q:VK}{r:List V→Hp→VK→Prop}{mc:MC}{ma:MA}(s:SimC K r mc)(h:tD K (mCB mc ma) σ H Q):tCB r (tDA K ma) σ H Q:=by
 obtain ⟨μ,g,σw,Qw,R,S,m,q⟩:=h
 exact ⟨μ,g,σw,_,R,S,m,fun vs H1 ⟨μ1,ws,h1,e1,R1,r1,m1⟩=>s R1 r1 m1 fun v H' z=>q _ _ (z.trans e1)⟩
theorem bJ {x:Str}{p:Pos}{id:String}{mc:MC}(hc:jr X (.builtin id) mc)(hg:Gl X x)(hm:X.mg x=none)(hv:bootBuiltins x=some (.builtin id))(ha:DAs X (e::es) mr)(hn:x ≠ "__name__":=by decide)(hdb:(x==("__debug__" : Str))=false:=by decide)
  (he:starEach (e::es) X.env=(false,eval e X.env)::starEach es X.env:=by rfl) (hpl:(backTo pos (starEach es X.env)).any (·.1)=false:=by rfl):DE X (.Call (.Name x p) (e::es) [] pos) (mCB mc mr):=by
 obtain ⟨r,c,s⟩:=hc
 exact (rJ c hg hm hv ha hn hdb he hpl).of fun _ _ _ h=>cb_of s h
theorem iz {x:Str}{p:Pos}{T:String}{mc:MC}(hc:jr X (.type T) mc)(hg:Gl X x)(hm:X.mg x=none)(hv:bootBuiltins x=some (.type T))(ha:DAs X (e::es) mr)(hn:x ≠ "__name__":=by decide)(hdb:(x==("__debug__" : Str))=false:=by decide)
  (he:starEach (e::es) X.env=(false,eval e X.env)::starEach es X.env:=by rfl) (hpl:(backTo pos (starEach es X.env)).any (·.1)=false:=by rfl):DE X (.Call (.Name x p) (e::es) [] pos) (mCB mc mr):=by
 obtain ⟨r,c,s⟩:=hc
 exact (tB c hg hm hv ha hn hdb he hpl).of fun _ _ _ h=>cb_of s h
end
end L2
namespace L2
open PySem PySem.Spec PyProof.Rows
section
variable {X:Cx}{e a b c tg:Expr}{ma mb mc:ME}{pos:Pos}{es:List Expr}
def nName (i:Nat):MG:=fun w σ h N=>N (σ.set i (some w)) h
theorem bF {i:Nat}(hg:PG X e (gName i)):DG X e (nName i):=hg.of fun v σ H N ⟨μ,h,σw,w,Nw,R,S,r,m,k⟩=>k _ _ ⟨μ,σw.set i (some w),h,.refl,R,S.set r i,m⟩
def nNil:MGs:=fun ws σ h N=>match ws with
 | []=>N σ h
 | _=>False
def fL (g:MG)(r:MGs):MGs:=fun ws σ h N=>match ws with
 | w::ws'=>g w σ h fun σ1 h1=>r ws' σ1 h1 N
 | []=>False
theorem qQ:DGss X [] nNil:=pgs_nil.of fun vs σ H N ⟨μ,h,σw,ws,Nw,R,S,r,m,k⟩=>by
 cases ws with
 | nil=>rw [aH] at r;exact ⟨r,k _ _ ⟨μ,σw,h,.refl,R,S,m⟩⟩
 | cons w ws=>exact m.elim
theorem bV {g:MG}{u:MGs}(h1:DG X e g)(h2:DGss X es u)(hs:(assignEach (e::es) X.env).map (·.2)=assign e X.env::(assignEach es X.env).map (·.2):=by rfl):DGss X (e::es) (fL g u):=(qU h1 h2 hs).of fun vs σ H N ⟨μ,h,σw,ws,Nw,R,S,r,m,k⟩=>by
 cases ws with
 | nil=>exact m.elim
 | cons w ws=>
  rw [aH] at r
  obtain ⟨v,vr,ev,r1,r2⟩:=r
  refine ⟨v,vr,ev,μ,h,σw,w,_,R,S,r1,m,fun σ1 H1 ⟨μ1,σw1,h1,e1,R1,S1,m1⟩=>?_⟩
  exact ⟨μ1,h1,σw1,ws,_,R1,S1,e1.s r2,m1,fun σ2 H2 z=>k _ _ (z.trans e1)⟩
def nTup (n:Nat)(g:MGs):MG:=fun w σ h N=>match w with
 | .tup ws=>by2 (Nat.beq ws.length n) (g ws σ h N) False
 | _=>False
abbrev MSet:=W→W→W→Gh→(Gh→Prop)→Prop
def SimSet (K:PySem.W.Frag)(t:TSet)(ms:MSet):Prop:=∀ {H:Hp} {μ : Mu} {h:Gh} {o i v:V} {wo wi w:W} {Nw:Gh→Prop} {N:Hp→Prop},Rel K μ H h→Rep K H μ wo o→Rep K H μ wi i→Rep K H μ w v→ms wo wi w h Nw →
 (∀ H',(∃ μ' h',Ext K H μ H' μ'∧Rel K μ' H' h'∧Nw h')→N H')→t o i v H N
def nSub (mo mi:ME)(ms:MSet):MG:=fun w σ h N=>mo σ h fun o h1=>mi σ h1 fun i h2=>ms o i w h2 fun h3=>N σ h3
theorem dg_sub {o i:Expr}{mo mi:ME}{t:TSet}{ms:MSet}(ho:DE X o mo)(hi:DE X i mi)(hs:PSet X t)(hm:SimSet X.K t ms)
  (ha:∀ v,assign (.Subscript o i pos) X.env v=(do
   let ov ←holding [v] (eval o X.env)
   let iv ←holding [v,ov] (eval i X.env)
   standAt pos
   holding [v,ov,iv] (setItem ov iv v)
   release [v,ov,iv] []):=by intro _;rfl):DG X (.Subscript o i pos) (nSub mo mi ms):=
 (pg_sub ho hi hs ha).of fun v σ H N ⟨μ,h,σw,w,Nw,R,S,r,m,k⟩=>by
  refine ⟨μ,h,σw,_,R,S,m,fun o H1 ⟨μ1,wo,h1,e1,R1,r1,m1⟩=>?_⟩
  refine ⟨μ1,h1,σw,_,R1,S.ext e1,m1,fun i H2 ⟨μ2,wi,h2,e2,R2,r2,m2⟩=>?_⟩
  refine hm R2 (e2.r _ _ r1) r2 (e2.r _ _ (e1.r _ _ r)) m2 fun H3 ⟨μ3,h3,e3,R3,m3⟩=>?_
  exact k _ _ ⟨μ3,σw,h3,(e1.trans e2).trans e3,R3,S.ext ((e1.trans e2).trans e3),m3⟩
def sSetL:MSet:=fun o i w h N=>match o,i with
 | .loc n,.int k=>(match h.c n with
  | some (.lst ws)=>(match ixN ws.length k with
   | some j=>N (h.set n (.lst (ws.set j w)))
   | none=>False)
  | _=>False)
 | _,_=>False
theorem Rel.lstAt {K:PySem.W.Frag}{μ : Mu}{H:Hp}{h:Gh}{n:Nat}{ws:List W}(R:Rel K μ H h)(e:h.c n=some (.lst ws)):∃ p xs,μ.f n=some p∧H p=some (.lst xs)∧aH K H μ ws xs:=by
 obtain ⟨p,e1,xs,e2,r⟩:=R.cel n _ e
 exact ⟨p,xs,e1,e2,r⟩
theorem sim_setL {K:PySem.W.Frag}:SimSet K rSetL sSetL:=by
 intro H μ h o i v wo wi w Nw N R ro ri r m k
 cases wo with
 | loc n=>
  cases wi with
  | int z=>
   rw [Rep] at ro
   rw [Rep] at ri
   obtain ⟨p,eo,hp⟩:=ro
   unfold sSetL at m
   dsimp only at m
   cases ec:h.c n with
   | none=>rw [ec] at m;exact m.elim
   | some cl=>
    rw [ec] at m
    cases cl with
    | lst ws=>
     dsimp only at m
     obtain ⟨p',xs,hp',hx,rs⟩:=R.lstAt ec
     have ep:p'=p:=by rw [hp] at hp';exact (Option.some.inj hp').symm
     subst ep
     cases ej:ixN ws.length z with
     | none=>rw [ej] at m;exact m.elim
     | some j=>
      rw [ej] at m
      refine ⟨p',xs,z,j,eo,ri,hx,by rw [←rs.len];exact ej,k _ ⟨μ,_,(Ex.write R hp).ext,R.write hp trivial ?_,m⟩⟩
      exact ⟨_,aR,aH.set ((Ex.write R hp).ext.r _ _ r) j ((Ex.write R hp).ext.s rs)⟩
    | _=>exact m.elim
  | _=>exact m.elim
 | _=>exact m.elim
variable {st:Stmt}{rest body:List Stmt}{m1 m2:MS}{t:MT}
def bN:MS:=fun D σ h=>D.nx σ h
def bA (m u:MS):MS:=fun D σ h=>m { D with nx:=u D } σ h
theorem bB:DSs X [] bN:=pss_nil.of fun D σ H ⟨μ,h,σw,Dw,R,S,m,k⟩=>k.nx _ _ ⟨μ,σw,h,.refl,R,S,m⟩
theorem aD (h1:DS X st m1):DSs X [st] m1:=pss_one h1
theorem aA (h1:DS X st m1)(h2:DSs X rest m2):DSs X (st::rest) (bA m1 m2):=(xr h1 h2).of fun D σ H ⟨μ,h,σw,Dw,R,S,m,k⟩=>by
 refine ⟨μ,h,σw,_,R,S,m,?_,k.rt,k.bk,k.ct⟩
 intro σ' H' ⟨μ1,σw1,h1,e1,R1,S1,m1⟩
 exact ⟨μ1,h1,σw1,Dw,R1,S1,m1,k.trans e1⟩
def gC (m:ME):MS:=fun D σ h=>m σ h fun _ h1=>D.nx σ h1
theorem jL (he:DE X e ma)(hs:swapsWith e none pos.line X.env=pure false:=by rfl):DS X (.Expr e pos) (gC ma):=(ps_expr he hs).of fun D σ H ⟨μ,h,σw,Dw,R,S,m,k⟩=>
 ⟨μ,h,σw,_,R,S,m,fun v H1 ⟨μ1,w,h1,e1,R1,_,m1⟩=>k.nx _ _ ⟨μ1,σw,h1,e1,R1,S.ext e1,m1⟩⟩
def cu (m:ME):MS:=fun D σ h=>m σ h D.rt
theorem aN (he:DE X e ma):DS X (.Return (some e) pos) (cu ma):=(ps_ret he).of fun D σ H ⟨μ,h,σw,Dw,R,S,m,k⟩=>⟨μ,h,σw,_,R,S,m,k.rt⟩
def dX (t:MT)(a b:MS):MS:=fun D σ h=>t σ h fun c h1=>br c (a D σ h1) (b D σ h1)
theorem cQ {a b:List Stmt}(hc:DT X c t)(ha:DSs X a m1)(hb:DSs X b m2):DS X (.If c a b pos) (dX t m1 m2):=(ps_if hc ha hb).of fun D σ H ⟨μ,h,σw,Dw,R,S,m,k⟩=>by
 refine ⟨μ,h,σw,_,R,S,m,fun b H1 ⟨μ1,h1,e1,R1,q⟩=>?_⟩
 cases b with
 | true=>rw [if_pos rfl];exact ⟨μ1,h1,σw,Dw,R1,S.ext e1,q.1 rfl,k.trans e1⟩
 | false=>rw [if_neg Bool.false_ne_true];exact ⟨μ1,h1,σw,Dw,R1,S.ext e1,q.2 rfl,k.trans e1⟩
def tQ (x:Str)(E:XWK):MS:=fun _ _ h=>E ⟨x,[]⟩ h
def bK (m:ME)(g:MG):MS:=fun D σ h=>m σ h fun w h1=>g w σ h1 D.nx
theorem asg_of {K:PySem.W.Frag}{σ : St}{H:Hp}{D:Ends}{m:ME}{g:MG}(q:tDS K (bK m g) D σ H):tAsg (tD K m) (tDG K g) D σ H:=by
 obtain ⟨μ,h,σw,Dw,R,S,m,k⟩:=q
 exact ⟨μ,h,σw,_,R,S,m,fun v H1 ⟨μ1,w,h1,e1,R1,r1,m1⟩=>⟨μ1,h1,σw,w,_,R1,S.ext e1,r1,m1,fun σ' H' z=>k.nx _ _ (z.trans e1)⟩⟩
theorem yC {g:MG}(he:DE X e ma)(hg:DG X tg g)(hs:swapsWithSole [tg] e pos.line X.env=pure false:=by rfl)(hw:swappedStores [tg] e X.env=pure none:=by rfl)
  (h1:(assignEach [tg] X.env).map (·.2)=[assign tg X.env]:=by rfl):DS X (.Assign [tg] e pos) (bK ma g):=(ps_asg he hg hs hw h1).of fun _ _ _ q=>asg_of q
theorem zV {K:PySem.W.Frag}{σ : St}{H:Hp}{D:Ends}{m:ME}{t:TE}{i:Nat}(ht:∀ σ H Q,tD K m σ H Q→t σ H Q)(q:tDS K (bK m (nName i)) D σ H):tAsg t (gName i) D σ H:=by
 obtain ⟨μ,h,σw,Dw,R,S,m,k⟩:=q
 exact ht _ _ _ ⟨μ,h,σw,_,R,S,m,fun v H1 ⟨μ1,w,h1,e1,R1,r1,m1⟩=>k.nx _ _ ⟨μ1,σw.set i (some w),h1,e1,R1,(S.ext e1).set r1 i,m1⟩⟩
theorem aJ {i:Nat}{x:Str}{pos':Pos}(hN:X.N.Nodup)(hi:X.N[i]?=some x)(hx:Loc X.env.scope x)(he:DE X e ma)(hs:swapsWith e (some (.Name x pos')) pos.line X.env=pure false:=by rfl)
  (hf:X.fn x=true∨X.env.scope.names.lookup x=some .local:=by first | exact .inl rfl | exact .inr rfl | assumption) :
  DS X (.Assign [.Name x pos'] e pos) (bK ma (nName i)):=(ps_set hN hi hx he hs hf).of fun _ _ _ q=>zV (fun _ _ _ z=>z) q
def mPar (i j:Nat)(ta:MA):MS:=fun D σ h=>ta σ h fun ws h1=>match ws with
 | [v,w]=>D.nx ((σ.set i (some v)).set j (some w)) h1
 | _=>False
def wK (t:MT)(b:MS):MS:=fun D σ h=>∃ Wm:Nat→Sw→Gh→Prop,(∃ m,Wm m σ h)∧∀ m σ h,Wm m σ h →
 t σ h fun c h1=>br c (b { D with nx:=fun σ' h'=>∃ m',m'<m∧Wm m' σ' h',ct:=fun σ' h'=>∃ m',m'<m∧Wm m' σ' h',bk:=D.nx } σ h1) (D.nx σ h1)
theorem yj {body:List Stmt}{pos:Pos}(hp:PassesOwn (model X.prog X.w) X.A X.env X.xe)(hc:DT X c t)(hb:DSs X body m1):DS X (.While c body [] pos) (wK t m1):=(ps_while hp hc hb).of fun D σ H ⟨μ,h,σw,Dw,R,S,m,k⟩=>by
 obtain ⟨Wm,⟨m0,w0⟩,turn⟩:=m
 refine ⟨fun n σ' H'=>DN X.K H μ (Wm n) σ' H',⟨m0,μ,σw,h,.refl,R,S,w0⟩,fun n σ1 H1 ⟨μ1,σw1,h1,e1,R1,S1,w1⟩=>?_⟩
 refine ⟨μ1,h1,σw1,_,R1,S1,turn n σw1 h1 w1,fun b H2 ⟨μ2,h2,e2,R2,q⟩=>?_⟩
 have e12:=e1.trans e2
 cases b with
 | true=>
  dsimp only
  rw [if_pos rfl]
  refine ⟨fun σ' H'=>∃ m',m'<n∧DN X.K H μ (Wm m') σ' H',fun _ _ z=>z,μ2,h2,σw1,_,R2,S1.ext e2,q.1 rfl,?_⟩
  have again:∀ (σ':St) (H':Hp),DN X.K H2 μ2 (fun σ' h'=>∃ m',m'<n∧Wm m' σ' h') σ' H'→∃ m',m'<n∧DN X.K H μ (Wm m') σ' H':=fun σ' H' ⟨μ3,σw3,h3,e3,R3,S3,m',hm,w3⟩=>
   ⟨m',hm,μ3,σw3,h3,e12.trans e3,R3,S3,w3⟩
  exact ⟨again,fun v H' z=>k.rt _ _ (z.trans e12),fun σ' H' z=>k.nx _ _ (z.trans e12),again⟩
 | false=>
  dsimp only
  rw [if_neg Bool.false_ne_true]
  exact k.nx _ _ ⟨μ2,σw1,h2,e12,R2,S1.ext e2,q.2 rfl⟩
structure Src where
 ws:List W
 cell:Option (Nat×List W)
def Src.chk (s:Src)(h:Gh):Prop:=match s.cell with
 | none=>True
 | some n=>h.c n.1=some (.lst n.2)
abbrev MI:=Sw→Gh→(Src→Gh→Prop)→Prop
def ItOk (K:PySem.W.Frag)(J:It)(src:Src)(H:Hp)(μ : Mu):Prop:=∀ {H2:Hp} {μ2:Mu} {h2:Gh} {i:Nat},Ext K H μ H2 μ2→Rel K μ2 H2 h2→src.chk h2 →
 (∀ w,src.ws[i]?=some w→J.go i H2∧∀ x H3,J.yld i H2 x H3→∃ μ3,Ext K H2 μ2 H3 μ3∧Rel K μ3 H3 h2∧Rep K H3 μ3 w x)∧(src.ws.length≤i→J.stop i H2)
def DI (K:PySem.W.Frag)(H:Hp)(μ : Mu)(Rw:Src→Gh→Prop):It→Hp→Prop:=fun J H'=>∃ μ' src h',Ext K H μ H' μ'∧Rel K μ' H' h'∧ItOk K J src H' μ'∧Rw src h'
def tDI (K:PySem.W.Frag)(mi:MI):TI:=fun σ H R=>∃ μ h σw Rw,Rel K μ H h∧Slots K H μ σw σ∧mi σw h Rw∧∀ J H',DI K H μ Rw J H'→R J H'
abbrev DIt (X:Cx)(tg iter:Expr)(mi:MI):Prop:=PI X tg iter (tDI X.K mi)
theorem PI.of {iter:Expr}{t t':TI}(h:PI X tg iter t)(k:∀ σ H R,t' σ H R→t σ H R):PI X tg iter t':=fun pins s σ H R I q=>h pins s σ H R I (k σ H R q)
def cX (h:Gh):W→Option (List W)
 | .lst ws=>some ws
 | .kls ws=>some ws
 | .loc n=>(match h.c n with
  | some (.lst ws)=>some ws
  | _=>none)
 | _=>none
def view (h:Gh):W→Option (List W)
 | .tup ws=>some ws
 | .lst ws=>some ws
 | .kls ws=>some ws
 | .loc n=>cX h (.loc n)
 | _=>none
def sY (h:Gh):W→Option Src
 | .tup ws=>some ⟨ws,none⟩
 | .lst ws=>some ⟨ws,none⟩
 | .kls ws=>some ⟨ws,none⟩
 | .loc n=>(match h.c n with
  | some (.lst ws)=>some ⟨ws,some (n,ws)⟩
  | _=>none)
 | _=>none
theorem itl_frz {K:PySem.W.Frag}{H:Hp}{μ : Mu}{p:Addr}{ws:List W}(r:Rep K H μ (.lst ws) (.ref p)):ItOk K (Itl K p) ⟨ws,none⟩ H μ:=by
 intro H2 μ2 h2 i e R2 _
 have r2:=e.r _ _ r
 rw [Rep] at r2
 obtain ⟨q,xs,eq,hf,rs⟩:=r2
 cases eq
 refine ⟨fun w ew=>?_,fun hl=>⟨xs,hf.sq,by rw [←rs.len];exact hl⟩⟩
 obtain ⟨v,ev,rv⟩:=rs.get ew
 refine ⟨⟨xs,v,hf.sq,ev⟩,fun x H3 ⟨e3,y⟩=>?_⟩
 subst e3
 have:=y xs hf.sq
 rw [ev] at this
 cases this
 exact ⟨μ2,.refl,R2,rv⟩
theorem itl_kls {K:PySem.W.Frag}{H:Hp}{μ : Mu}{p:Addr}{ws:List W}(r:Rep K H μ (.kls ws) (.ref p)):ItOk K (Itl K p) ⟨ws,none⟩ H μ:=by
 intro H2 μ2 h2 i e R2 _
 have r2:=e.r _ _ r
 rw [Rep] at r2
 obtain ⟨q,xs,eq,hf,rs⟩:=r2
 cases eq
 refine ⟨fun w ew=>?_,fun hl=>⟨xs,hf.sq,by rw [←rs.len];exact hl⟩⟩
 obtain ⟨v,ev,rv⟩:=rs.get ew
 refine ⟨⟨xs,v,hf.sq,ev⟩,fun x H3 ⟨e3,y⟩=>?_⟩
 subst e3
 have:=y xs hf.sq
 rw [ev] at this
 cases this
 exact ⟨μ2,.refl,R2,rv⟩
theorem itl_cell {K:PySem.W.Frag}{H:Hp}{μ : Mu}{p:Addr}{n:Nat}{ws:List W}(r:Rep K H μ (.loc n) (.ref p)):ItOk K (Itl K p) ⟨ws,some (n,ws)⟩ H μ:=by
 intro H2 μ2 h2 i e R2 ck
 have r2:=e.r _ _ r
 rw [Rep] at r2
 obtain ⟨q,eq,hm⟩:=r2
 cases eq
 obtain ⟨p',xs,hm',hx,rs⟩:=R2.lstAt (show h2.c n=some (.lst ws) from ck)
 have ep:p'=p:=by rw [hm] at hm';exact (Option.some.inj hm').symm
 subst ep
 refine ⟨fun w ew=>?_,fun hl=>⟨xs,.of hx,by rw [←rs.len];exact hl⟩⟩
 obtain ⟨v,ev,rv⟩:=rs.get ew
 refine ⟨⟨xs,v,.of hx,ev⟩,fun x H3 ⟨e3,y⟩=>?_⟩
 subst e3
 have:=y xs (.of hx)
 rw [ev] at this
 cases this
 exact ⟨μ2,.refl,R2,rv⟩
theorem itt_tup {K:PySem.W.Frag}{H:Hp}{μ : Mu}{p:Addr}{ws:List W}(r:Rep K H μ (.tup ws) (.ref p)):ItOk K (Itt K p) ⟨ws,none⟩ H μ:=by
 intro H2 μ2 h2 i e R2 _
 have r2:=e.r _ _ r
 rw [Rep] at r2
 obtain ⟨q,xs,eq,hf,rs⟩:=r2
 cases eq
 refine ⟨fun w ew=>?_,fun hl=>⟨xs,hf,by rw [←rs.len];exact hl⟩⟩
 obtain ⟨v,ev,rv⟩:=rs.get ew
 refine ⟨⟨xs,v,hf,ev⟩,fun x H3 ⟨e3,y⟩=>?_⟩
 subst e3
 have:=y xs hf
 rw [ev] at this
 cases this
 exact ⟨μ2,.refl,R2,rv⟩
def iSeq (K:PySem.W.Frag)(tl:TE):TI:=fun σ H R=>tl σ H fun x H1=>(∃ a,x=.ref a∧(∃ xs,SqL K H1 a xs)∧R (Itl K a) H1)∨(∃ a,x=.ref a∧(∃ xs,SqT K H1 a xs)∧R (Itt K a) H1)
theorem pi_seq {l:Expr}{tl:TE}(hl:PE X l tl):PI X tg l (iSeq X.K tl):=by
 intro pins s σ H R I h
 refine thn (hl pins s σ H _ I h) fun v s1 ⟨x,H1,I1,r1,q1⟩=>?_
 rcases q1 with ⟨a,e,⟨xs,hq⟩,q⟩ | ⟨a,e,⟨xs,hq⟩,q⟩
 ·subst e
  cases r1
  obtain ⟨its,rv,p,hz⟩:=I1.list hq
  refine wpAny_pyIter_list p.isList ?_
  refine ⟨s1.heap.objs.size,[s1.heap.objs.size],_,_,H1,rfl,I1.kept (t':=s1.toks) fun b o e=>Heap.get?_push_of_some _ e,turn_list a _,⟨_,Heap.get?_push_size _ rfl,rfl,rfl⟩,fun b hb=>?_,q⟩
  have e:b=s1.heap.objs.size:=by simpa using hb
  subst e
  exact I1.fpOk (Nat.le_refl _) (I1.hok.fresh (Nat.le_refl _))
 ·subst e
  cases r1
  obtain ⟨its,rv,p,hz⟩:=I1.tuple hq
  refine wpAny_pyIter_tuple (show s1.heap.IsTuple a its.toArray from p) ?_
  refine ⟨s1.heap.objs.size,[s1.heap.objs.size],_,_,H1,rfl,I1.kept (t':=s1.toks) fun b o e=>Heap.get?_push_of_some _ e,zc a _,⟨_,Heap.get?_push_size _ rfl,rfl,rfl⟩,fun b hb=>?_,q⟩
  have e:b=s1.heap.objs.size:=by simpa using hb
  subst e
  exact I1.fpOk (Nat.le_refl _) (I1.hok.fresh (Nat.le_refl _))
def nIt (m:ME):MI:=fun σ h R=>m σ h fun w h1=>match sY h1 w with
 | some s=>R s h1
 | none=>False
theorem cM {l:Expr}(hl:DE X l ma):DIt X tg l (nIt ma):=PI.of (pi_seq hl) fun σ H Q ⟨μ,h,σw,Rw,R,S,m,k⟩=>by
 refine ⟨μ,h,σw,_,R,S,m,fun v H1 ⟨μ1,w,h1,e1,R1,r1,m1⟩=>?_⟩
 cases w with
 | tup ws=>
  have r1':=r1
  rw [Rep] at r1
  obtain ⟨p,xs,ev,hs,_⟩:=r1
  subst ev
  exact .inr ⟨p,rfl,⟨xs,hs⟩,k _ _ ⟨μ1,⟨ws,none⟩,h1,e1,R1,itt_tup r1',m1⟩⟩
 | lst ws=>
  have r1':=r1
  rw [Rep] at r1
  obtain ⟨p,xs,ev,hs,_⟩:=r1
  subst ev
  exact .inl ⟨p,rfl,⟨xs,hs.sq⟩,k _ _ ⟨μ1,⟨ws,none⟩,h1,e1,R1,itl_frz r1',m1⟩⟩
 | kls ws=>
  have r1':=r1
  rw [Rep] at r1
  obtain ⟨p,xs,ev,hs,_⟩:=r1
  subst ev
  exact .inl ⟨p,rfl,⟨xs,hs.sq⟩,k _ _ ⟨μ1,⟨ws,none⟩,h1,e1,R1,itl_kls r1',m1⟩⟩
 | loc n=>
  have r1':=r1
  rw [Rep] at r1
  obtain ⟨p,ev,hm⟩:=r1
  subst ev
  unfold sY at m1
  dsimp only at m1
  cases ec:h1.c n with
  | none=>rw [ec] at m1;exact m1.elim
  | some cl=>
   rw [ec] at m1
   cases cl with
   | lst ws=>
    obtain ⟨p',xs,hm',hx,rs⟩:=R1.lstAt ec
    have ep:p'=p:=by rw [hm] at hm';exact (Option.some.inj hm').symm
    subst ep
    exact .inl ⟨p',rfl,⟨xs,.of hx⟩,k _ _ ⟨μ1,⟨ws,some (n,ws)⟩,h1,e1,R1,itl_cell r1',m1⟩⟩
   | _=>exact m1.elim
 | _=>exact m1.elim
def uT (lo:Int)(n:Nat):List W:=(List.range n).map fun (k:Nat)=>.int (lo+(k:Int))
theorem itr_ok {K:PySem.W.Frag}{H:Hp}{μ : Mu}{lo:Int}{n:Nat}:ItOk K (Itr lo n) ⟨uT lo n,none⟩ H μ:=by
 intro H2 μ2 h2 i e R2 _
 refine ⟨fun w ew=>?_,fun hl=>?_⟩
 ·have hi:i<n:=by
   have:=(List.getElem?_eq_some_iff.mp ew).1
   simpa [uT] using this
  have ew':w=.int (lo+(i:Int)):=by
   unfold uT at ew
   rw [List.getElem?_map,List.getElem?_range hi] at ew
   exact (Option.some.inj ew).symm
  subst ew'
  refine ⟨hi,fun x H3 ⟨e3,y⟩=>?_⟩
  subst e3
  exact ⟨μ2,.refl,R2,by rw [Rep];exact y⟩
 ·have:n≤i:=by simpa [uT] using hl
  exact this
def uR (j:Int)(P:Prop):Prop:=by2 (decide (-1000≤j)&&decide (j≤1000)) P ((-(2^62)≤j∧j<2^62)∧P)
theorem uR.ok {j:Int}{P:Prop}(h:uR j P):(-(2^62)≤j∧j<2^62)∧P:=by
 unfold uR at h
 cases e:(decide (-1000≤j)&&decide (j≤1000)) with
 | true=>
  rw [e] at h
  rw [Bool.and_eq_true,decide_eq_true_iff,decide_eq_true_iff] at e
  exact ⟨⟨by omega,by omega⟩,h⟩
 | false=>rw [e] at h;exact h
theorem uR.mk {j:Int}{P:Prop}(h1:-(2^62)≤j)(h2:j<2^62)(h:P):uR j P:=by
 unfold uR
 cases e:(decide (-1000≤j)&&decide (j≤1000)) with
 | true=>exact h
 | false=>exact ⟨⟨h1,h2⟩,h⟩
def gY (ma:MA):MI:=fun σ h R=>ma σ h fun ws h1=>match ws with
 | [.int j]=>uR j (R ⟨uT 0 j.toNat,none⟩ h1)
 | _=>False
def nRng2 (ma:MA):MI:=fun σ h R=>ma σ h fun ws h1=>match ws with
 | [.int i,.int j]=>uR i (uR j (R ⟨uT i (j - i).toNat,none⟩ h1))
 | _=>False
theorem cP {a:Expr}{mr:MA}{p pos:Pos}(hg:Gl X "range")(hm:X.mg "range" = none)(ha:DAs X [a] mr)(hs:starEach [a] X.env=[(false,eval a X.env)]:=by rfl):DIt X tg (.Call (.Name "range" p) [a] [] pos) (gY mr):=
 PI.of (pi_range1 hg hm ha hs) fun σ H Q ⟨μ,h,σw,Rw,R,S,m,k⟩=>by
  refine ⟨μ,h,σw,_,R,S,m,fun vs H1 ⟨μ1,ws,h1,e1,R1,r1,m1⟩=>?_⟩
  dsimp only at m1
  split at m1
  ·rename_i j
   rw [aH] at r1
   obtain ⟨v,vr,ev,ra,r1⟩:=r1
   rw [aH] at r1
   rw [Rep] at ra
   subst ev r1 ra
   exact ⟨j,rfl,m1.ok.1.1,m1.ok.1.2,k _ _ ⟨μ1,_,h1,e1,R1,itr_ok,m1.ok.2⟩⟩
  ·exact m1.elim
theorem di_range2 {a b:Expr}{mr:MA}{p pos:Pos}(hg:Gl X "range")(hm:X.mg "range" = none)(ha:DAs X [a,b] mr)(hs:starEach [a,b] X.env=[(false,eval a X.env),(false,eval b X.env)]:=by rfl)(hs2:starEach [b] X.env=[(false,eval b X.env)]:=by rfl) :
  DIt X tg (.Call (.Name "range" p) [a,b] [] pos) (nRng2 mr):=
 PI.of (pi_range2 hg hm ha hs hs2) fun σ H Q ⟨μ,h,σw,Rw,R,S,m,k⟩=>by
  refine ⟨μ,h,σw,_,R,S,m,fun vs H1 ⟨μ1,ws,h1,e1,R1,r1,m1⟩=>?_⟩
  dsimp only at m1
  split at m1
  ·rename_i i j
   rw [aH] at r1
   obtain ⟨v,vr,ev,ra,r1⟩:=r1
   rw [aH] at r1
   obtain ⟨v',vr',ev',rb,r1⟩:=r1
   rw [aH] at r1
   rw [Rep] at ra rb
   subst ev ev' r1 ra rb
   exact ⟨i,j,rfl,⟨m1.ok.1.1,m1.ok.1.2,m1.ok.2.ok.1.1,m1.ok.2.ok.1.2⟩,k _ _ ⟨μ1,_,h1,e1,R1,itr_ok,m1.ok.2.ok.2⟩⟩
  ·exact m1.elim
def Src.go (s:Src)(h:Gh)(P:Prop):Prop:=match s.cell with
 | none=>P
 | some n=>h.c n.1=some (.lst n.2)∧P
theorem Src.go_ok {s:Src}{h:Gh}{P:Prop}(x:s.go h P):s.chk h∧P:=by
 unfold Src.go at x
 unfold Src.chk
 cases e:s.cell with
 | none=>rw [e] at x;exact ⟨trivial,x⟩
 | some n=>rw [e] at x;exact x
def cR (s:Src)(g:MG)(b:MS)(D:bH):List W→Sw→Gh→Prop
 | [],σ,h=>s.go h (D.nx σ h)
 | w::r,σ,h=>s.go h (g w σ h fun σ1 h1=>b { D with nx:=cR s g b D r,ct:=cR s g b D r,bk:=D.nx } σ1 h1)
def kW (mi:MI)(g:MG)(b:MS):MS:=fun D σ h=>mi σ h fun s h1=>cR s g b D s.ws σ h1
theorem dN {iter:Expr}{body:List Stmt}{mi:MI}{g:MG}{mb0:MS}{pos:Pos}(hp:PassesOwn (model X.prog X.w) X.A X.env X.xe)(hc:X.calm=true)(hi:DIt X tg iter mi)(hg:DG X tg g)(hb:DSs X body mb0)
  (hs:∀ x,foldedSetIterable iter X.env x=pure x:=by intro _;rfl):DS X (.For tg iter body [] pos) (kW mi g mb0):=(ps_for hp hc hi hg hb hs).of fun D σ H ⟨μ,h,σw,Dw,R,S,m,k⟩=>by
 refine ⟨μ,h,σw,_,R,S,m,fun J H1 ⟨μ1,src,h1,e1,R1,ok,m1⟩=>?_⟩
 refine ⟨fun i n σ' H'=>n=src.ws.length - i∧i≤src.ws.length∧DN X.K H1 μ1 (cR src g mb0 Dw (src.ws.drop i)) σ' H',⟨src.ws.length,by simp,Nat.zero_le _,μ1,σw,h1,.refl,R1,S.ext e1,by rw [List.drop_zero];exact m1⟩,?_⟩
 rintro i n σ2 H2 ⟨hn,hle,μ2,σw2,h2,e2,R2,S2,m2⟩
 by_cases hlt:i<src.ws.length
 ·rw [List.drop_eq_getElem_cons hlt] at m2
  obtain ⟨ck,m2⟩:=Src.go_ok m2
  obtain ⟨hgo,hy⟩:=(ok e2 R2 ck).1 src.ws[i] (List.getElem?_eq_getElem hlt)
  refine .inr ⟨hgo,fun σ' H'=>DN X.K H2 μ2 (cR src g mb0 Dw (src.ws.drop (i+1))) σ' H',fun σ' H' z=>⟨src.ws.length - (i+1),by omega,rfl,hlt,z.trans e2⟩,fun x H3 y=>?_⟩
  obtain ⟨μ3,e3,R3,rx⟩:=hy x H3 y
  refine ⟨μ3,h2,σw2,src.ws[i],_,R3,S2.ext e3,rx,m2,fun σ4 H4 ⟨μ4,σw4,h4,e4,R4,S4,m4⟩=>?_⟩
  have e24:=e3.trans e4
  have e14:=(e1.trans e2).trans e24
  exact ⟨μ4,h4,σw4,_,R4,S4,m4,fun σ' H' z=>z.trans e24,fun v H' z=>k.rt _ _ (z.trans e14),fun σ' H' z=>k.nx _ _ (z.trans e14),fun σ' H' z=>z.trans e24⟩
 ·have ei:i=src.ws.length:=by omega
  subst ei
  rw [List.drop_length] at m2
  obtain ⟨ck,m2⟩:=Src.go_ok m2
  exact .inl ⟨(ok e2 R2 ck).2 (Nat.le_refl _),k.nx _ _ ⟨μ2,σw2,h2,e1.trans e2,R2,S2,m2⟩⟩
def mG (ix:List Nat)(σ : Sw):Sw:=ix.map fun i=>(σ[i]?).getD none
theorem Slots.blk {K:PySem.W.Frag}{H:Hp}{μ : Mu}{σw:Sw}{σ : St}{ix:List Nat}(S:Slots K H μ σw σ):∀ {ws:List W} {vs:List V},aH K H μ ws vs→Slots K H μ (ws.map some++mG ix σw) (vs.map some++blkσ ix σ):=by
 intro ws vs r
 have hl:=r.len
 refine ⟨by simp [mG,blkσ,hl],fun i u q=>?_⟩
 by_cases hi:i<ws.length
 ·rw [List.getElem?_append_left (by simpa using hi),List.getElem?_map] at q
  have q':ws[i]?=some u:=by
   cases e:ws[i]? with
   | none=>rw [e] at q;cases q
   | some a=>rw [e] at q;simpa using q
  obtain ⟨v,hv,rv⟩:=r.get q'
  refine ⟨v,?_,rv⟩
  rw [List.getElem?_append_left (by rw [List.length_map];omega),List.getElem?_map,hv]
  rfl
 ·rw [List.getElem?_append_right (by simpa using hi),List.length_map] at q
  rw [List.getElem?_append_right (by rw [List.length_map];omega),List.length_map,←hl]
  generalize i - ws.length=i at q ⊢
  unfold mG at q
  unfold blkσ
  rw [List.getElem?_map] at q ⊢
  cases e:ix[i]? with
  | none=>rw [e] at q;cases q
  | some j=>
   rw [e] at q
   cases e2:σw[j]? with
   | none=>simp [e2] at q
   | some o=>
    have eo:o=some u:=by simpa [e2] using q
    subst eo
    obtain ⟨v',h1,h2⟩:=S.get j u e2
    exact ⟨v',by simp [h1],h2⟩
def kh:MT:=fun _ h Q=>Q true h
def jP (s:Src)(own:W→Option (List W))(ix:List Nat)(tt:MT)(te:ME)(σ : Sw)(Q:WK):List W→List W→Gh→Prop
 | [],acc,h=>s.go h (Q (.lst acc) h)
 | w::r,acc,h=>s.go h (match own w with
  | some vs=>tt (vs.map some++mG ix σ) h fun c h1=>by2 c (te (vs.map some++mG ix σ) h1 fun v h2=>jP s own ix tt te σ Q r (acc++[v]) h2) (jP s own ix tt te σ Q r acc h1)
  | none=>False)
def mLC (own:W→Option (List W))(ix:List Nat)(mi:MI)(tt:MT)(te:ME):ME:=fun σ h Q=>mi σ h fun s h1=>gH s.ws.length (jP s own ix tt te σ Q s.ws [] h1)
def v8 (K:PySem.W.Frag)(n:Nat)(own:V→Hp→List V→Prop)(ow:W→Option (List W)):Prop:=∀ {H:Hp} {μ : Mu} {w:W} {v:V} {ws:List W},Rep K H μ w v→ow w=some ws→∃ vs,own v H vs∧vs.length=n∧aH K H μ ws vs
def ow1 (w:W):Option (List W):=some [w]
def owT (n:Nat)(w:W):Option (List W):=match w with
 | .tup ws=>(match Nat.beq ws.length n with
  | true=>some ws
  | false=>none)
 | _=>none
def ov1:V→Hp→List V→Prop:=fun v _ vs=>vs=[v]
def ovT (K:PySem.W.Frag):V→Hp→List V→Prop:=fun v H vs=>∃ a,v=.ref a∧SqT K H a vs
theorem ju {K:PySem.W.Frag}:v8 K 1 ov1 ow1:=by
 intro H μ w v ws r e
 cases (show some [w]=some ws from e)
 exact ⟨[v],rfl,rfl,.one r⟩
theorem own_T {K:PySem.W.Frag}{n:Nat}:v8 K n (ovT K) (owT n):=by
 intro H μ w v ws r e
 cases w with
 | tup us=>
  unfold owT at e
  dsimp only at e
  cases en:Nat.beq us.length n with
  | false=>rw [en] at e;cases e
  | true=>
   rw [en] at e
   cases (show some us=some ws from e)
   rw [Rep] at r
   obtain ⟨p,xs,ev,hs,rs⟩:=r
   exact ⟨xs,⟨p,ev,hs⟩,by rw [←rs.len];exact Nat.eq_of_beq_eq_true en,rs⟩
 | _=>cases e
abbrev DIfs (X:Cx)(ifs:List Expr)(m:MT):Prop:=PIfs X ifs (tDT X.K m)
theorem cF:DIfs X [] kh:=fun pins s σ H Q I ⟨μ,h,σw,Qw,R,S,m,k⟩=>pif_nil pins s σ H Q I (k _ _ ⟨μ,h,.refl,R,m⟩)
theorem p7 (h:DT X c t):DIfs X [c] t:=pif_one h
theorem lc_of {K:PySem.W.Frag}{σ : St}{H:Hp}{Q:VK}{n:Nat}{own:V→Hp→List V→Prop}{ow:W→Option (List W)}{ix:List Nat}{mi:MI}{tt:MT}{te:ME}(oo:v8 K n own ow)(q:tD K (mLC ow ix mi tt te) σ H Q):tLC n own ix (tDI K mi) (tDT K tt) (tD K te) σ H Q:=by
 obtain ⟨μ,h,σw,Qw,R,S,m,k⟩:=q
 refine ⟨μ,h,σw,_,R,S,m,fun J H1 ⟨μ1,src,h1,e1,R1,ok,hz0⟩=>?_⟩
 obtain ⟨hz,m1⟩:=hz0.ok
 intro D hD
 have nD:=R1.nohid hD
 have hD1:Ext K H1 μ1 (upd H1 D (.lst [])) (μ1.hide D):=Ext.hide hD
 refine ⟨fun i n ys H'=>n=src.ws.length - i∧i≤src.ws.length∧ys.length≤i∧H' D=some (.lst ys)∧∃ μ' acc h',Ext K H1 μ1 H' μ'∧Rel K μ' H' h'∧μ'.hid D∧aH K H' μ' acc ys∧jP src ow ix tt te σw Qw (src.ws.drop i) acc h',
  ⟨src.ws.length,by simp,Nat.zero_le _,Nat.le_refl _,aR,μ1.hide D,[],h1,hD1,R1.hide hD,.inl rfl,.nil,by rw [List.drop_zero];exact m1⟩,?_⟩
 rintro i n' ys H2 ⟨hn,hle,hys,hH2,μ2,acc,h2,e2,R2,hid2,ra,m2⟩ _
 by_cases hlt:i<src.ws.length
 ·rw [List.drop_eq_getElem_cons hlt] at m2
  obtain ⟨ck,m2⟩:=Src.go_ok m2
  obtain ⟨hgo,hy⟩:=(ok e2 R2 ck).1 src.ws[i] (List.getElem?_eq_getElem hlt)
  refine .inr ⟨hgo,by omega,fun x H3 y=>?_⟩
  obtain ⟨μ3,e3,R3,rx⟩:=hy x H3 y
  have e13:=e2.trans e3
  cases eo:ow src.ws[i] with
  | none=>rw [eo] at m2;exact m2.elim
  | some us=>
   rw [eo] at m2
   obtain ⟨vs,hov,hvl,rvs⟩:=oo rx eo
   have S3:=(S.ext (e1.trans e13)).blk (ix:=ix) rvs
   refine ⟨vs,hov,hvl,μ3,h2,_,_,R3,S3,m2,fun b H4 ⟨μ4,h4,e4,R4,m4⟩=>?_⟩
   have e24:=e3.trans e4
   obtain ⟨hid4,hH4⟩:=e24.o D _ hid2 hH2
   cases b with
   | false=>
    dsimp only
    rw [if_neg Bool.false_ne_true]
    exact ⟨hH4,src.ws.length - (i+1),by omega,rfl,hlt,by omega,hH4,μ4,acc,h4,e2.trans e24,R4,hid4,e24.s ra,m4⟩
   | true=>
    dsimp only
    rw [if_pos rfl]
    refine ⟨μ4,h4,_,_,R4,S3.ext e4,m4,fun v H5 ⟨μ5,w5,h5,e5,R5,r5,m5⟩=>?_⟩
    have e25:=e24.trans e5
    obtain ⟨hid5,hH5⟩:=e25.o D _ hid2 hH2
    have g:=ExtX.grow (ys:=ys++[v]) R5 hid5
    have rs:aH K (upd H5 D (.lst (ys++[v]))) μ5 (acc++[w5]) (ys++[v]):=aH.ex (Ex0.grow R5 hid5) (aH.append (e25.s ra) (aH.one r5))
    exact ⟨hH5,src.ws.length - (i+1),by omega,rfl,hlt,by rw [List.length_append];simp;omega,aR,μ5,acc++[w5],h5,(e2.trans e25).x nD g,R5.grow hid5,hid5,rs,m5⟩
 ·have ei:i=src.ws.length:=by omega
  subst ei
  rw [List.drop_length] at m2
  obtain ⟨ck,m2⟩:=Src.go_ok m2
  exact .inl ⟨(ok e2 R2 ck).2 (Nat.le_refl _),k _ _ ⟨μ2.unhide D,.lst acc,h2,e1.trans (e2.x nD .unhide),R2.unhide,Rep.built R2 hid2 hH2 ra,m2⟩⟩
variable {scope:Scope}{x:Str}{xs:List Str}{ix:List Nat}{elt iter:Expr}{ifs:List Expr}{px:Pos}{mi:MI}{tt:MT}{te:ME}
theorem iJ (B:gB X scope [x] ix)(C:Addr)(s:Shared)(H:Hp)(fp:List Addr):PG (blk X scope (eV X [x] ix) C s H fp) (.Name x px) (gOwn 1 ov1):=by
 obtain ⟨o1,o2⟩:=own_ok B (y:=x) (by simp)
 intro pins s' σ H' v u Q I r ⟨vs,hv,hl,q⟩
 cases hv
 refine aX (X:=blk X scope (eV X [x] ix) C s H fp) (i:=0) B.nd rfl o1 o2 pins s' σ H' v u Q I r ?_
 have hlen:σ.length=(eV X [x] ix).length:=I.len
 cases σ with
 | nil=>simp at hlen
 | cons o σ=>exact q
theorem pgo_2 {y:Str}{py pt:Pos}{kt:Nat}(hc:X.calm=true)(B:gB X scope [x,y] ix)(C:Addr)(s:Shared)(H:Hp)(fp:List Addr)
  (h1:∀ env,(assignEach [.Name x px,.Name y py] env).map (·.2)=assign (.Name x px) env::(assignEach [.Name y py] env).map (·.2):=by intro _;rfl)
  (h2:∀ env,(assignEach [.Name y py] env).map (·.2)=assign (.Name y py) env::(assignEach [] env).map (·.2):=by intro _;rfl)
  (h3:∀ env,(assignEach [.Name x px,.Name y py] env).length=2:=by intro _;rfl) (h4:∀ env,(assignEach [.Name x px,.Name y py] env).findIdx? (·.1)=none:=by intro _;rfl) :
  PG (blk X scope (eV X [x,y] ix) C s H fp) (.Tuple [.Name x px,.Name y py] kt pt) (gOwn 2 (ovT X.K)):=by
 obtain ⟨o1,u1⟩:=own_ok B (y:=x) (by simp)
 obtain ⟨o2,u2⟩:=own_ok B (y:=y) (by simp)
 intro pins s' σ H' v u Q I r ⟨vs,⟨a,ea,ha⟩,hl,q⟩
 have hlen:σ.length=(eV X [x,y] ix).length:=I.len
 refine pg_tup (X:=blk X scope (eV X [x,y] ix) C s H fp) (n:=2) hc (qU (aX (i:=0) B.nd rfl o1 u1) (qU (aX (i:=1) B.nd rfl o2 u2) pgs_nil (h2 _)) (h1 _)) (h3 _) (h4 _) pins s' σ H' v u Q I r ?_
 refine ⟨a,vs,ea,ha,hl,?_⟩
 match vs,hl,q with
 | [v1,v2],_,q=>
  match σ,hlen,q with
  | [],hlen,_=>simp at hlen
  | [_],hlen,_=>simp at hlen
  | _::_::σ,_,q=>exact ⟨v1,[v2],rfl,v2,[],rfl,rfl,q⟩
theorem xJ {own:V→Hp→List V→Prop}{ow:W→Option (List W)}(ix:List Nat)(hc:X.calm=true)(B:gB X scope xs ix)(oo:v8 X.K xs.length own ow)(hg:∀ C s H fp,PG (blk X scope (eV X xs ix) C s H fp) tg (gOwn xs.length own))(hi:DIt X tg iter mi)
  (ht:∀ C s H fp,DIfs (blk X scope (eV X xs ix) C s H fp) ifs tt) (he:∀ C s H fp,DE (blk X scope (eV X xs ix) C s H fp) elt te)
  (hs:∀ v,foldedSetIterable iter X.env v=pure v:=by intro _;rfl):DE X (.ListComp elt [⟨tg,iter,ifs,0⟩] scope pos) (mLC ow ix mi tt te):=(pe_lc ix hc B hg hi ht he hs).of fun _ _ _ q=>lc_of oo q
theorem ds_lc {own:V→Hp→List V→Prop}{ow:W→Option (List W)}(ix:List Nat){i:Nat}{y:Str}{py spos:Pos}(hN:X.N.Nodup)(hi':X.N[i]?=some y)(hy:Loc X.env.scope y)(hc:X.calm=true)(B:gB X scope xs ix)(oo:v8 X.K xs.length own ow)
  (hg:∀ C s H fp,PG (blk X scope (eV X xs ix) C s H fp) tg (gOwn xs.length own)) (hi:DIt X tg iter mi)
  (ht:∀ C s H fp,DIfs (blk X scope (eV X xs ix) C s H fp) ifs tt) (he:∀ C s H fp,DE (blk X scope (eV X xs ix) C s H fp) elt te)
  (hsw:swapsWith (.ListComp elt [⟨tg,iter,ifs,0⟩] scope pos) (some (.Name y py)) spos.line X.env=pure true:=by rfl)
  (hf:X.fn y=true∨X.env.scope.names.lookup y=some .local:=by first | exact .inl rfl | exact .inr rfl | assumption)
  (hs:∀ v,foldedSetIterable iter X.env v=pure v:=by intro _;rfl):DS X (.Assign [.Name y py] (.ListComp elt [⟨tg,iter,ifs,0⟩] scope pos) spos) (bK (mLC ow ix mi tt te) (nName i)):=
 (ps_lc ix hN hi' hy hc B hg hi ht he hsw hf hs).of fun _ _ _ q=>zV (fun _ _ _ z=>lc_of oo z) q
theorem cutF {κ : Type}{K:PySem.W.Frag}{H0 H:Hp}{μ0 μ : Mu}{k:Nat}(hd:∀ n p,μ0.f n=some p→n<k):∀ {fs:List (κ×W)} {f0 fv:List (κ×V)},RepF K H0 μ0 fs f0→RepF K H μ fs fv→RepF K H (μ.cut k) fs fv
 | [],_,_,_,.nil=>.nil
 | _::_,_,_,.cons a b,.cons c d=>.cons ⟨c.1,Rep.cut c.2 (Rep.lo hd a.2)⟩ (cutF hd b d)
def jQ (pure:Bool)(h:Gh)(w:W)(h':Gh)(Q:WK):Prop:=match pure with
 | false=>Q w h'
 | true=>(∀ n c,n<h.nx→h.c n=some c→h'.c n=some c)∧((Lo h.nx w∧Q w h)∨∃ n ws,w=.loc n∧h.nx≤n∧h'.c n=some (.lst ws)∧Los h.nx ws∧Q (.lst ws) h)
def mFn (n N:Nat)(pure:Bool)(body:XWK→MS):MSp:=fun ws h Q E=>by2 (Nat.beq ws.length n)
 (body E { nx:=fun _ h'=>jQ pure h .non h' Q,rt:=fun w h'=>jQ pure h w h' Q } (ws.map some++List.replicate (N - ws.length) none) h) False
theorem xX {n N:Nat}{pure:Bool}{body:XWK→MS}{ws:List W}{h:Gh}{Q:WK}{E:XWK}(x:mFn n N pure body ws h Q E):ws.length=n ∧
  body E { nx:=fun _ h'=>jQ pure h .non h' Q,rt:=fun w h'=>jQ pure h w h' Q } (ws.map some++List.replicate (N - ws.length) none) h:=by
 unfold mFn at x
 cases e:Nat.beq ws.length n with
 | true=>rw [e] at x;exact ⟨Nat.eq_of_beq_eq_true e,x⟩
 | false=>rw [e] at x;exact (show False from x).elim
theorem Rel.cut {K:PySem.W.Frag}{H H':Hp}{μ μ':Mu}{h h':Gh}(R:Rel K μ H h)(R':Rel K μ' H' h')(e:Ext K H μ H' μ')(hc:∀ n c,h.c n=some c→h'.c n=some c):Rel K (μ'.cut h.nx) H' h where
 inj:=fun m n p a b=>R'.inj m n p (Mu.cut_some a).2 (Mu.cut_some b).2
 dom:=fun n p a=>(Mu.cut_some a).1
 trk:=fun n p a=>R'.trk n p (Mu.cut_some a).2
 cel:=fun n c a=>by
  obtain ⟨p0,m0,x0⟩:=R.cel n c a
  obtain ⟨p,m,x⟩:=R'.cel n c (hc n c a)
  have hn:=R.dom n p0 m0
  refine ⟨p,by show (if n<h.nx then μ'.f n else none)=some p;rw [if_pos hn];exact m,?_⟩
  cases c with
  | lst ws=>
   obtain ⟨xs0,_,r0⟩:=x0
   obtain ⟨xs,hx,r⟩:=x
   exact ⟨xs,hx,aH.cut r (aH.lo R.dom r0)⟩
  | obj C fs=>
   obtain ⟨dx0,f0,_,r0⟩:=x0
   obtain ⟨dx,fv,hx,r⟩:=x
   exact ⟨dx,fv,hx,cutF R.dom r0 r⟩
  | dct kvs=>
   obtain ⟨f0,_,r0⟩:=x0
   obtain ⟨fv,hx,r⟩:=x
   exact ⟨fv,hx,cutF R.dom r0 r⟩
  | dtt kvs=>
   obtain ⟨_,_,_,_,_,d0,f0⟩:=x0
   obtain ⟨xs,vs,a,b,c,d,f⟩:=x
   exact ⟨xs,vs,a,b,c,aH.cut d (aH.lo R.dom d0),aH.cut f (aH.lo R.dom f0)⟩
 hd:=fun p z=>⟨(R'.hd p z).1,fun n a=>(R'.hd p z).2 n (Mu.cut_some a).2⟩
theorem Ext.cut {K:PySem.W.Frag}{H H':Hp}{μ μ':Mu}{h:Gh}(R:Rel K μ H h)(e:Ext K H μ H' μ'):Ext K H μ H' (μ'.cut h.nx):=
 ⟨fun w v r=>Rep.cut (e.r w v r) (Rep.lo R.dom r),fun p u z a=>e.o p u z a⟩
theorem qw {K:PySem.W.Frag}{H H':Hp}{μ μ':Mu}{h h':Gh}{w:W}{v:V}{Q:WK}{pure:Bool}(R:Rel K μ H h)(e:Ext K H μ H' μ')(R':Rel K μ' H' h')(r:Rep K H' μ' w v)(x:jQ pure h w h' Q):DQ K H μ Q v H':=by
 cases pure with
 | false=>exact ⟨μ',w,h',e,R',r,x⟩
 | true=>
  obtain ⟨hc0,⟨lo,q⟩ | ⟨n,ws,ew,hn,ec,lo,q⟩⟩:=x
  all_goals have hc:∀ n c,h.c n=some c→h'.c n=some c:=fun n c a=>hc0 n c (let ⟨p,m,_⟩:=R.cel n c a;R.dom n p m) a
  ·exact ⟨μ'.cut h.nx,w,h,e.cut R,R.cut R' e hc,Rep.cut r lo,q⟩
  ·subst ew
   refine ⟨μ'.cut h.nx,.lst ws,h,e.cut R,R.cut R' e hc,?_,q⟩
   rw [Rep] at r
   rw [Rep]
   obtain ⟨p,ev,hm⟩:=r
   obtain ⟨p',xs,hm',hx,rs⟩:=R'.lstAt ec
   have ep:p'=p:=by rw [hm] at hm';exact (Option.some.inj hm').symm
   subst ep
   refine ⟨p',xs,ev,⟨hx,fun m a=>?_,fun z=>(R'.hd p' z).2 n hm⟩,aH.cut rs lo⟩
   obtain ⟨a1,a2⟩:=Mu.cut_some a
   have:=R'.inj m n p' a2 hm
   omega
theorem mz {K:PySem.W.Frag}{H:Hp}{μ : Mu}{N:List Str}:∀ {ws:List W} {vs:List V},aH K H μ ws vs→Slots K H μ (ws.map some++List.replicate (N.length - ws.length) none) (start N vs):=by
 intro ws vs r
 have hl:=r.len
 refine ⟨by simp [start,hl],fun i w q=>?_⟩
 by_cases hi:i<ws.length
 ·rw [List.getElem?_append_left (by simpa using hi),List.getElem?_map] at q
  have q':ws[i]?=some w:=by
   cases e:ws[i]? with
   | none=>rw [e] at q;cases q
   | some a=>rw [e] at q;simpa using q
  obtain ⟨v,hv,rv⟩:=r.get q'
  refine ⟨v,?_,rv⟩
  unfold start
  rw [List.getElem?_append_left (by rw [List.length_map];omega),List.getElem?_map,hv]
  rfl
 ·rw [List.getElem?_append_right (by simpa using hi),List.getElem?_replicate] at q
  split at q <;> cases q
theorem gW {P:Program}{w:World}{K:PySem.W.Frag}{mg:Str→Option Value}{base:Heap}{x qual:Str}{st:Stmt}{f:Addr}{fd:FuncData}{N ps:List Str}{k:Nat}{pure:Bool}{body:XWK→MS}(F:Fun K x qual st f fd)(S:aL N ps (aF st))
  (hb:∀ (cdv:Value) (A:Around) (outer:List Env) (s:Shared) (H:Hp) (E:XK),kj k (A.deeper (envOfC qual (aF st) s.heap.objs.size f cdv)) →
   DSs (cxOf CX0 P w K mg base N qual (aF st) f cdv A outer s H E).nox (fM st) (body EF)):cB P w K mg base CX0 (k+1) f fd ps (lift K (mFn ps.length N.length pure body)):=by
 refine F.ok S (fun vs H Q E ⟨μ,h,ws,Qw,R,r,m,k⟩=>by rw [←r.len];exact (xX m).1) (fun cdv A outer s H vs Q E hr ⟨μ,h,ws,Qw,R,r,m0,k⟩=>?_)
 obtain ⟨hl,m⟩:=xX m0
 refine ⟨_,hb cdv A outer s H E hr,μ,h,_,_,R,mz r,m,?_,?_,?_,?_⟩
 ·rintro σ' H' ⟨μ1,σw1,h1,e1,R1,S1,m1⟩
  exact k _ _ (qw (w:=.non) R e1 R1 (by rw [Rep]) m1)
 ·rintro v H' ⟨μ1,w1,h1,e1,R1,r1,m1⟩
  exact k _ _ (qw R e1 R1 r1 m1)
 ·rintro σ' H' ⟨μ1,σw1,h1,e1,R1,S1,m1⟩
  exact m1.elim
 ·rintro σ' H' ⟨μ1,σw1,h1,e1,R1,S1,m1⟩
  exact m1.elim
end
end L2
namespace L2
open PySem PySem.Spec PyProof.Rows
section
variable {X:Cx}{K:PySem.W.Frag}
theorem DQ.int {H:Hp}{μ : Mu}{h:Gh}{i:Int}{Q:WK}(R:Rel K μ H h)(q:Q (.int i) h):DQ K H μ Q (.int i) H:=⟨μ,.int i,h,.refl,R,by rw [Rep],q⟩
theorem DQ.bl {H:Hp}{μ : Mu}{h:Gh}{i:Bool}{Q:WK}(R:Rel K μ H h)(q:Q (.bl i) h):DQ K H μ Q (.bl i) H:=⟨μ,.bl i,h,.refl,R,by rw [Rep],q⟩
def kI (C:Int→Int→Prop)(g:Int→Int→Int):M2:=fun x y h Q=>match x,y with
 | .int i,.int j=>C i j∧Q (.int (g i j)) h
 | _,_=>False
def nU:M2:=fun x y h Q=>match x,y with
 | .int i,.int j=>Q (.int (i - j)) h
 | _,_=>False
theorem gA:DOp X (binaryOp .Sub) nU:=⟨_,op_sub,by
 intro H μ h x y wx wy Qw Q R rx ry m k
 unfold nU at m
 split at m
 ·rw [Rep] at rx ry
  exact ⟨_,_,rx,ry,k _ _ (.int R m)⟩
 ·exact m.elim⟩
def bY:M2:=fun x y h Q=>match x,y with
 | .int i,.int j=>eH i j∧Q (.int (i*j)) h
 | _,_=>False
theorem aZ:DOp X (binaryOp .Mult) bY:=⟨_,op_mulB,by
 intro H μ h x y wx wy Qw Q R rx ry m k
 unfold bY at m
 split at m
 ·rw [Rep] at rx ry
  exact ⟨_,_,rx,ry,m.1,k _ _ (.int R m.2)⟩
 ·exact m.elim⟩
def kDiv:M2:=fun x y h Q=>match x,y with
 | .int i,.int j=>CDivBN i j∧Q (.int (i.fdiv j)) h
 | _,_=>False
theorem o_div:DOp X (binaryOp .FloorDiv) kDiv:=⟨_,z9,by
 intro H μ h x y wx wy Qw Q R rx ry m k
 unfold kDiv at m
 split at m
 ·rw [Rep] at rx ry
  exact ⟨_,_,rx,ry,m.1,k _ _ (.int R m.2)⟩
 ·exact m.elim⟩
def gZ:M2:=fun x y h Q=>match x,y with
 | .int i,.int j=>j≠0∧Q (.int (i.fmod j)) h
 | _,_=>False
theorem dD:DOp X (binaryOp .Mod) gZ:=⟨_,op_modN,by
 intro H μ h x y wx wy Qw Q R rx ry m k
 unfold gZ at m
 split at m
 ·rw [Rep] at rx ry
  exact ⟨_,_,rx,ry,m.1,k _ _ (.int R m.2)⟩
 ·exact m.elim⟩
def kPow:M2:=fun x y h Q=>match x,y with
 | .int i,.int j=>CPow i j∧Q (.int (i^j.toNat)) h
 | _,_=>False
theorem vL:DOp X (binaryOp .Pow) kPow:=⟨_,op_pow,by
 intro H μ h x y wx wy Qw Q R rx ry m k
 unfold kPow at m
 split at m
 ·rw [Rep] at rx ry
  exact ⟨_,_,rx,ry,m.1,k _ _ (.int R m.2)⟩
 ·exact m.elim⟩
def kLt:M2:=fun x y h Q=>match x,y with
 | .int i,.int j=>Q (.bl (decide (i<j))) h
 | _,_=>False
theorem o_lt:DOp X (compareOp .Lt) kLt:=⟨_,op_lt,by
 intro H μ h x y wx wy Qw Q R rx ry m k
 unfold kLt at m
 split at m
 ·rw [Rep] at rx ry
  exact ⟨_,_,rx,ry,k _ _ (.bl R m)⟩
 ·exact m.elim⟩
def kGt:M2:=fun x y h Q=>match x,y with
 | .int i,.int j=>Q (.bl (decide (j<i))) h
 | _,_=>False
theorem o_gt:DOp X (compareOp .Gt) kGt:=⟨_,op_gt,by
 intro H μ h x y wx wy Qw Q R rx ry m k
 unfold kGt at m
 split at m
 ·rw [Rep] at rx ry
  exact ⟨_,_,rx,ry,k _ _ (.bl R m)⟩
 ·exact m.elim⟩
theorem aH.ne_nil {H:Hp}{μ : Mu}{ws:List W}{xs:List V}(r:aH K H μ ws xs):xs=[]↔ws=[]:=by
 have:=r.len
 constructor
 ·intro e;subst e;exact List.eq_nil_of_length_eq_zero this
 ·intro e;subst e;exact List.eq_nil_of_length_eq_zero this.symm
def kIx:M2:=fun x y h Q=>match y with
 | .int i=>(match view h x with
  | some ws=>(match atI ws i with
   | some w=>Q w h
   | none=>False)
  | none=>False)
 | _=>False
theorem aH.at {H:Hp}{μ : Mu}{ws:List W}{xs:List V}{i:Int}{w:W}(r:aH K H μ ws xs)(e:atI ws i=some w):∃ v,atI xs i=some v∧Rep K H μ w v:=by
 unfold atI at e ⊢
 rw [←r.len]
 cases q:ixN ws.length i with
 | none=>rw [q] at e;cases e
 | some j=>rw [q] at e;exact r.get e
theorem bR {H:Hp}{μ : Mu}{h:Gh}{w:W}{v:V}{ws:List W}(R:Rel K μ H h)(r:Rep K H μ w v)(e:cX h w=some ws):∃ p xs,v=.ref p∧SqL K H p xs∧aH K H μ ws xs:=by
 cases w with
 | lst us=>
  rw [Rep] at r
  obtain ⟨p,xs,ev,hs,rs⟩:=r
  cases (show some us=some ws from e)
  exact ⟨p,xs,ev,hs.sq,rs⟩
 | kls us=>
  rw [Rep] at r
  obtain ⟨p,xs,ev,hs,rs⟩:=r
  cases (show some us=some ws from e)
  exact ⟨p,xs,ev,hs.sq,rs⟩
 | loc n=>
  rw [Rep] at r
  obtain ⟨p,ev,hm⟩:=r
  unfold cX at e
  dsimp only at e
  cases ec:h.c n with
  | none=>rw [ec] at e;cases e
  | some cl=>
   rw [ec] at e
   cases cl with
   | lst us=>
    cases (show some us=some ws from e)
    obtain ⟨p',xs,hm',hx,rs⟩:=R.lstAt ec
    have ep:p'=p:=by rw [hm] at hm';exact (Option.some.inj hm').symm
    subst ep
    exact ⟨p',xs,ev,.of hx,rs⟩
   | _=>cases e
 | _=>cases e
theorem jy {H:Hp}{μ : Mu}{h:Gh}{w:W}{v:V}{ws:List W}(R:Rel K μ H h)(r:Rep K H μ w v)(e:view h w=some ws):∃ p xs,v=.ref p∧(SqL K H p xs∨SqT K H p xs)∧aH K H μ ws xs:=by
 cases w with
 | tup us=>
  rw [Rep] at r
  obtain ⟨p,xs,ev,hs,rs⟩:=r
  cases (show some us=some ws from e)
  exact ⟨p,xs,ev,.inr hs,rs⟩
 | lst us=>
  obtain ⟨p,xs,ev,hs,rs⟩:=bR (ws:=ws) R r e
  exact ⟨p,xs,ev,.inl hs,rs⟩
 | kls us=>
  obtain ⟨p,xs,ev,hs,rs⟩:=bR (ws:=ws) R r e
  exact ⟨p,xs,ev,.inl hs,rs⟩
 | loc n=>
  obtain ⟨p,xs,ev,hs,rs⟩:=bR (ws:=ws) R r e
  exact ⟨p,xs,ev,.inl hs,rs⟩
 | _=>cases e
theorem sim_ix:Sim2 K (rIx K) kIx:=by
 intro H μ h x y wx wy Qw Q R rx ry m k
 unfold kIx at m
 split at m
 ·rename_i i
  split at m
  ·rename_i ws ev
   split at m
   ·rename_i w ew
    obtain ⟨p,xs,ex,hs,rs⟩:=jy R rx ev
    obtain ⟨v,hv,rv⟩:=rs.at ew
    rw [Rep] at ry
    have fin:=k _ _ ⟨μ,w,h,.refl,R,rv,m⟩
    rcases hs with hs | hs
    ·exact .inl ⟨p,xs,i,v,ex,ry,hs,hv,fin⟩
    ·exact .inr (.inl ⟨p,xs,i,v,ex,ry,hs,hv,fin⟩)
   ·exact m.elim
  ·exact m.elim
 ·exact m.elim
theorem bL {a b:Expr}{ma mb:ME}{pos:Pos}(ha:DE X a ma)(hb:DE X b mb)(hs:PlainIx b):DE X (.Subscript a b pos) (mOp kIx ma mb):=(pe_ix ix_seq ha hb hs).of fun σ H Q h=>two h fun R r1 r2 m k=>sim_ix R r1 r2 m k
abbrev MO:=Sw→Gh→(Option Int→Gh→Prop)→Prop
def tDO (K:PySem.W.Frag)(m:MO):TO:=fun σ H Q=>∃ μ h σw Qw,Rel K μ H h∧Slots K H μ σw σ∧m σw h Qw∧∀ o H',(∃ μ' h',Ext K H μ H' μ'∧Rel K μ' H' h'∧Qw o h')→Q o H'
abbrev DO (X:Cx)(e:Option Expr)(m:MO):Prop:=PO X e (tDO X.K m)
theorem PO.of {e:Option Expr}{t t':TO}(h:PO X e t)(k:∀ σ H Q,t' σ H Q→t σ H Q):PO X e t':=by
 unfold PO at h ⊢
 intros
 apply h <;> first | assumption | (apply k;assumption)
def jE:MO:=fun _ h Q=>Q none h
def iD (m:ME):MO:=fun σ h Q=>m σ h fun w h1=>match w with
 | .int i=>Q (some i) h1
 | _=>False
theorem vA:DO X none jE:=PO.of po_none fun σ H Q ⟨μ,h,σw,Qw,R,S,m,k⟩=>k _ _ ⟨μ,h,.refl,R,m⟩
theorem dh {e:Expr}{ma:ME}(he:DE X e ma):DO X (some e) (iD ma):=PO.of (po_some he) fun σ H Q ⟨μ,h,σw,Qw,R,S,m,k⟩=>by
 refine ⟨μ,h,σw,_,R,S,m,fun v H1 ⟨μ1,w,h1,e1,R1,r1,m1⟩=>?_⟩
 dsimp only at m1
 split at m1
 ·rw [Rep] at r1;exact ⟨_,r1,k _ _ ⟨μ1,h1,e1,R1,m1⟩⟩
 ·exact m1.elim
def cutW (xs:List W)(lo hi:Option Int):List W:=(xs.drop (HT.sIx xs.length 0 lo)).take (HT.sIx xs.length xs.length hi - HT.sIx xs.length 0 lo)
def mSl (r:W→Option Int→Option Int→Gh→WK→Prop)(m:ME)(l u:MO):ME:=fun σ h Q=>m σ h fun x h1=>l σ h1 fun lo h2=>u σ h2 fun hi h3=>r x lo hi h3 Q
theorem aH.cutv {H:Hp}{μ : Mu}{ws:List W}{xs:List V}(r:aH K H μ ws xs)(lo hi:Option Int):aH K H μ (cutW ws lo hi) (cutV xs lo hi):=by
 unfold cutW cutV
 rw [←r.len]
 exact (r.drop _).take _
end
end L2
namespace L2
open PySem PySem.Spec PyProof.Rows
mutual
def eqW:W→W→Bool
 | .non,.non=>true
 | .bl a,.bl b=>a==b
 | .bl a,.int b=>(if a then 1 else 0)==b
 | .int a,.bl b=>a==(if b then 1 else 0)
 | .int a,.int b=>a==b
 | .str a,.str b=>a==b
 | .tup a,.tup b=>pL a b
 | .lst a,.lst b=>pL a b
 | _,_=>false
def pL:List W→List W→Bool
 | [],[]=>true
 | a::as,b::bs=>eqW a b&&pL as bs
 | _,_=>false
end
def plW:Nat→W→Bool
 | _,.non=>true
 | _,.bl _=>true
 | _,.int _=>true
 | _,.str _=>true
 | n+1,.tup ws=>ws.all (plW n)
 | n+1,.lst ws=>ws.all (plW n)
 | _,_=>false
mutual
def Dt (K:PySem.W.Frag)(H:Hp):W→V→Prop
 | .non,v=>v=.non
 | .bl b,v=>v=.bl b
 | .int i,v=>v=.int i
 | .str x,v=>v=.str x
 | .tup ws,v=>∃ p xs,v=.ref p∧SqT K H p xs∧Dts K H ws xs
 | .lst ws,v=>∃ p xs,v=.ref p∧SqL K H p xs∧Dts K H ws xs
 | .ty _,_=>False
 | .kls _,_=>False
 | .loc _,_=>False
 | .exc _,_=>False
def Dts (K:PySem.W.Frag)(H:Hp):List W→List V→Prop
 | [],xs=>xs=[]
 | w::ws,xs=>∃ v vs,xs=v::vs∧Dt K H w v∧Dts K H ws vs
end
section
variable {X:Cx}{K:PySem.W.Frag}{H:Hp}{μ : Mu}{h:Gh}
theorem Dts.len:∀ {ws:List W} {xs:List V},Dts K H ws xs→ws.length=xs.length
 | [],xs,h=>by
  have e:xs=[]:=by rw [Dts] at h;exact h
  rw [e];rfl
 | w::ws,xs,h=>by
  rw [Dts] at h
  obtain ⟨v,vs,e,_,h⟩:=h
  rw [e,List.length_cons,List.length_cons,Dts.len h]
theorem Dts.get:∀ {ws:List W} {xs:List V} {i:Nat} {w:W},Dts K H ws xs→ws[i]?=some w→∃ v,xs[i]?=some v∧Dt K H w v
 | [],_,_,_,_,e=>by simp at e
 | a::ws,xs,0,w,h,e=>by
  rw [Dts] at h
  obtain ⟨v,vs,e1,r,_⟩:=h
  simp at e;subst e;subst e1
  exact ⟨v,rfl,r⟩
 | a::ws,xs,i+1,w,h,e=>by
  rw [Dts] at h
  obtain ⟨v,vs,e1,_,h⟩:=h
  subst e1
  obtain ⟨u,h1,h2⟩:=Dts.get (i:=i) (w:=w) h (by simpa using e)
  exact ⟨u,by simpa using h1,h2⟩
theorem uh {n:Nat}(one:∀ {w:W} {v:V},Rep K H μ w v→plW n w=true→Dt K H w v):∀ {ws:List W} {xs:List V},aH K H μ ws xs→ws.all (plW n)=true→Dts K H ws xs
 | [],_,h,_=>by rw [aH] at h;rw [Dts];exact h
 | w::ws,_,h,p=>by
  rw [aH] at h
  rw [Dts]
  obtain ⟨v,vs,e,r,h⟩:=h
  rw [List.all_cons,Bool.and_eq_true] at p
  exact ⟨v,vs,e,one r p.1,uh one h p.2⟩
theorem dt_of:∀ (n:Nat) {w:W} {v:V},Rep K H μ w v→plW n w=true→Dt K H w v:=by
 intro n
 induction n with
 | zero=>
  intro w v r p
  cases w with
  | non=>rw [Rep] at r;rw [Dt];exact r
  | bl _=>rw [Rep] at r;rw [Dt];exact r
  | int _=>rw [Rep] at r;rw [Dt];exact r
  | str _=>rw [Rep] at r;rw [Dt];exact r
  | _=>simp [plW] at p
 | succ n ih=>
  intro w v r p
  cases w with
  | non=>rw [Rep] at r;rw [Dt];exact r
  | bl _=>rw [Rep] at r;rw [Dt];exact r
  | int _=>rw [Rep] at r;rw [Dt];exact r
  | str _=>rw [Rep] at r;rw [Dt];exact r
  | tup ws=>
   rw [Rep] at r;rw [Dt]
   obtain ⟨p',xs,e,hs,rs⟩:=r
   exact ⟨p',xs,e,hs,uh ih rs (by simpa [plW] using p)⟩
  | lst ws=>
   rw [Rep] at r;rw [Dt]
   obtain ⟨p',xs,e,hs,rs⟩:=r
   exact ⟨p',xs,e,hs.sq,uh ih rs (by simpa [plW] using p)⟩
  | _=>simp [plW] at p
theorem jf:∀ {a b:List W},a.length≠b.length→pL a b=false
 | [],[],h=>absurd rfl h
 | [],_::_,_=>by simp [pL]
 | _::_,[],_=>by simp [pL]
 | a::as,b::bs,h=>by
  rw [pL,jf (a:=as) (b:=bs) (by simpa using h),Bool.and_false]
def eqJW (a b:List W)(j:Nat):Bool:=eqW (a.getD j .non) (b.getD j .non)
theorem iG:∀ {a b:List W},a.length=b.length→(List.range a.length).all (eqJW a b)=pL a b
 | [],[],_=>by simp [pL]
 | [],_::_,h=>by simp at h
 | _::_,[],h=>by simp at h
 | a::as,b::bs,h=>by
  rw [pL,←iG (a:=as) (b:=bs) (by simpa using h),List.length_cons,List.range_succ_eq_map,List.all_cons,List.all_map]
  rfl
mutual
theorem qW {pins:List (Addr×Obj)}{s:Shared}{σ : St}(I:Inv X pins σ H s):∀ {w u:W} {v:V},Dt X.K H w v→Dt X.K H u v→eqW w u=true
 | .non,u,v,h,g=>by rw [Dt] at h;subst h;cases u <;> rw [Dt] at g <;> first | rfl | exact g.elim | (obtain ⟨_,_,g,_⟩:=g;cases g;done) | (cases g;done)
 | .bl b,u,v,h,g=>by rw [Dt] at h;subst h;cases u <;> rw [Dt] at g <;> first | (injection g with g;simp [eqW,g];done) | exact g.elim | (obtain ⟨_,_,g,_⟩:=g;cases g;done) | (cases g;done)
 | .int b,u,v,h,g=>by rw [Dt] at h;subst h;cases u <;> rw [Dt] at g <;> first | (injection g with g;simp [eqW,g];done) | exact g.elim | (obtain ⟨_,_,g,_⟩:=g;cases g;done) | (cases g;done)
 | .str b,u,v,h,g=>by rw [Dt] at h;subst h;cases u <;> rw [Dt] at g <;> first | (injection g with g;simp [eqW,g];done) | exact g.elim | (obtain ⟨_,_,g,_⟩:=g;cases g;done) | (cases g;done)
 | .tup ws,u,v,h,g=>by
  rw [Dt] at h
  obtain ⟨p,xs,e,hs,ds⟩:=h
  subst e
  cases u with
  | tup us=>
   rw [Dt] at g
   obtain ⟨p',xs',e',hs',ds'⟩:=g
   cases e'
   have:=I.tuple_inj hs hs'
   subst this
   rw [eqW]
   exact mV I ds ds'
  | lst us=>
   rw [Dt] at g
   obtain ⟨p',xs',e',hs',ds'⟩:=g
   cases e'
   obtain ⟨_,_,t,_⟩:=I.tuple hs
   obtain ⟨_,_,l,_⟩:=I.list hs'
   exact absurd rfl (SeqAt.ne_of_list_tuple l.isList (show s.heap.IsTuple _ _ from t))
  | ty _=>rw [Dt] at g;exact g.elim
  | loc _=>rw [Dt] at g;exact g.elim
  | kls _=>rw [Dt] at g;exact g.elim
  | _=>rw [Dt] at g;cases g
 | .lst ws,u,v,h,g=>by
  rw [Dt] at h
  obtain ⟨p,xs,e,hs,ds⟩:=h
  subst e
  cases u with
  | lst us=>
   rw [Dt] at g
   obtain ⟨p',xs',e',hs',ds'⟩:=g
   cases e'
   have:=I.list_inj hs hs'
   subst this
   rw [eqW]
   exact mV I ds ds'
  | tup us=>
   rw [Dt] at g
   obtain ⟨p',xs',e',hs',ds'⟩:=g
   cases e'
   obtain ⟨_,_,t,_⟩:=I.tuple hs'
   obtain ⟨_,_,l,_⟩:=I.list hs
   exact absurd rfl (SeqAt.ne_of_list_tuple l.isList (show s.heap.IsTuple _ _ from t))
  | ty _=>rw [Dt] at g;exact g.elim
  | loc _=>rw [Dt] at g;exact g.elim
  | kls _=>rw [Dt] at g;exact g.elim
  | _=>rw [Dt] at g;cases g
 | .ty _,_,_,h,_=>by rw [Dt] at h;exact h.elim
 | .loc _,_,_,h,_=>by rw [Dt] at h;exact h.elim
 | .exc _,_,_,h,_=>by rw [Dt] at h;exact h.elim
 | .kls _,_,_,h,_=>by rw [Dt] at h;exact h.elim
theorem mV {pins:List (Addr×Obj)}{s:Shared}{σ : St}(I:Inv X pins σ H s):∀ {ws us:List W} {vs:List V},Dts X.K H ws vs→Dts X.K H us vs→pL ws us=true
 | [],us,vs,h,g=>by
  rw [Dts] at h;subst h
  cases us with
  | nil=>rfl
  | cons _ _=>rw [Dts] at g;obtain ⟨_,_,g,_⟩:=g;cases g
 | w::ws,us,vs,h,g=>by
  rw [Dts] at h
  obtain ⟨v,vs',e,h1,h2⟩:=h
  subst e
  cases us with
  | nil=>rw [Dts] at g;cases g
  | cons u us=>
   rw [Dts] at g
   obtain ⟨v',vs'',e',g1,g2⟩:=g
   cases e'
   rw [pL,qW I h1 g1,mV I h2 g2]
   rfl
end
theorem in1_units {A:Around}:A.in1.units=A.units+1:=rfl
theorem qu {n:Nat}{ws:List W}(h:plW n (.tup ws)=true):∃ m,n=m+1∧ws.all (plW m)=true:=by
 cases n with
 | zero=>simp [plW] at h
 | succ m=>exact ⟨m,rfl,by simpa [plW] using h⟩
theorem lZ {n:Nat}{ws:List W}(h:plW n (.lst ws)=true):∃ m,n=m+1∧ws.all (plW m)=true:=by
 cases n with
 | zero=>simp [plW] at h
 | succ m=>exact ⟨m,rfl,by simpa [plW] using h⟩
theorem fU {s:Shared}{A:Around}{n:Nat}{ws us:List W}{xs ys:List V}{its jts:List Value}(d1:Dts K H ws xs)(d2:Dts K H us ys)(p1:ws.all (plW n)=true)(p2:us.all (plW n)=true)(r1:Vals xs its)(r2:Vals ys jts)
  (one:∀ {w u:W} {v x:V} {a b:Value},Dt K H w v→Dt K H u x→plW n w=true→plW n u=true→RelV v a→RelV x b→SeqAt.EqAt A s a b (eqW w u)) :
  ∀ j (h1:j<its.toArray.size) (h2:j<jts.toArray.size),SeqAt.EqAt A s its.toArray[j] jts.toArray[j] (eqJW ws us j):=by
 intro j h1 h2
 have l1:j<ws.length:=by rw [d1.len,r1.length];simpa using h1
 have l2:j<us.length:=by rw [d2.len,r2.length];simpa using h2
 obtain ⟨v,ev,dv⟩:=d1.get (List.getElem?_eq_getElem l1)
 obtain ⟨x,ex,dx⟩:=d2.get (List.getElem?_eq_getElem l2)
 obtain ⟨a,ea,ra⟩:=r1.get ev
 obtain ⟨b,eb,rb⟩:=r2.get ex
 have ea':its.toArray[j]=a:=by simpa using (List.getElem?_eq_some_iff.mp ea).2
 have eb':jts.toArray[j]=b:=by simpa using (List.getElem?_eq_some_iff.mp eb).2
 have e:eqJW ws us j=eqW ws[j] us[j]:=by
  unfold eqJW
  rw [List.getD_eq_getElem?_getD,List.getD_eq_getElem?_getD,List.getElem?_eq_getElem l1,List.getElem?_eq_getElem l2]
  rfl
 rw [ea',eb',e]
 exact one dv dx (List.all_eq_true.mp p1 _ (List.getElem_mem l1)) (List.all_eq_true.mp p2 _ (List.getElem_mem l2)) ra rb
theorem size_of {ws:List W}{xs:List V}{its:List Value}(d:Dts K H ws xs)(r:Vals xs its):its.toArray.size=ws.length:=by
 rw [d.len,r.length];simp
theorem vX {ws us:List W}:((List.range (min ws.length us.length)).all (eqJW ws us)&&ws.length==us.length)=pL ws us:=by
 by_cases e:ws.length=us.length
 ·rw [←e,Nat.min_self,iG e];simp
 ·rw [jf e]
  have e2:(ws.length==us.length)=false:=beq_eq_false_iff_ne.mpr e
  rw [e2,Bool.and_false]
inductive Kd (s:Shared):W→Value→Prop where
 | non:Kd s .non .none
 | bl (b:Bool):Kd s (.bl b) (.bool b)
 | int (i:Int) (t:Tok):Kd s (.int i) (.int i t)
 | str (x:Str) (t:Tok):Kd s (.str x) (.str x t)
 | tup (ws:List W) {p:Addr} {its:Array Value} (q:s.heap.IsTuple p its):Kd s (.tup ws) (.ref p)
 | lst (ws:List W) {p:Addr} {its:Array Value} (q:s.heap.IsList p its):Kd s (.lst ws) (.ref p)
theorem zA {pins:List (Addr×Obj)}{s:Shared}{σ : St}(I:Inv X pins σ H s){w:W}{v:V}{a:Value}(d:Dt X.K H w v)(r:RelV v a):Kd s w a:=by
 cases w with
 | non=>rw [Dt] at d;subst d;cases r;exact .non
 | bl b=>rw [Dt] at d;subst d;cases r;exact .bl b
 | int b=>rw [Dt] at d;subst d;obtain ⟨t,rfl⟩:=r;exact .int b t
 | str b=>rw [Dt] at d;subst d;obtain ⟨t,rfl⟩:=r;exact .str b t
 | tup ws=>rw [Dt] at d;obtain ⟨p,xs,e,hs,_⟩:=d;subst e;cases r;obtain ⟨its,_,q,_⟩:=I.tuple hs;exact .tup ws q
 | lst ws=>rw [Dt] at d;obtain ⟨p,xs,e,hs,_⟩:=d;subst e;cases r;obtain ⟨its,_,q,_⟩:=I.list hs;exact .lst ws q.isList
 | _=>rw [Dt] at d;exact d.elim
def yL:W→W→Bool
 | .tup _,.tup _=>true
 | .lst _,.lst _=>true
 | _,_=>false
def flt2:W→W→Bool
 | .tup _,_=>false
 | .lst _,_=>false
 | _,.tup _=>false
 | _,.lst _=>false
 | _,_=>true
theorem eq_mix {s:Shared}{A:Around}{w u:W}{a b:Value}(hu:A.units<cLine)(k1:Kd s w a)(k2:Kd s u b)(h:yL w u=false)(f:flt2 w u=false):SeqAt.EqAt A s a b (eqW w u):=by
 cases k1 with
 | non=>
  cases k2 with
  | non=>cases f
  | bl _=>cases f
  | int _ _=>cases f
  | str _ _=>cases f
  | tup _ q3=>apply SeqAt.EqAt.none_tuple <;> assumption
  | lst _ q4=>apply SeqAt.EqAt.none_list <;> assumption
 | bl _=>
  cases k2 with
  | non=>cases f
  | bl _=>cases f
  | int _ _=>cases f
  | str _ _=>cases f
  | tup _ q3=>apply SeqAt.EqAt.bool_tuple <;> assumption
  | lst _ q4=>apply SeqAt.EqAt.bool_list <;> assumption
 | int _ _=>
  cases k2 with
  | non=>cases f
  | bl _=>cases f
  | int _ _=>cases f
  | str _ _=>cases f
  | tup _ q3=>apply SeqAt.EqAt.int_tuple <;> assumption
  | lst _ q4=>apply SeqAt.EqAt.int_list <;> assumption
 | str _ _=>
  cases k2 with
  | non=>cases f
  | bl _=>cases f
  | int _ _=>cases f
  | str _ _=>cases f
  | tup _ q3=>apply SeqAt.EqAt.str_tuple <;> assumption
  | lst _ q4=>apply SeqAt.EqAt.str_list <;> assumption
 | tup _ q1=>
  cases k2 with
  | non=>apply SeqAt.EqAt.tuple_none <;> assumption
  | bl _=>apply SeqAt.EqAt.tuple_bool <;> assumption
  | int _ _=>apply SeqAt.EqAt.tuple_int <;> assumption
  | str _ _=>apply SeqAt.EqAt.tuple_str <;> assumption
  | tup _ q3=>cases h
  | lst _ q4=>apply SeqAt.EqAt.tuple_list <;> assumption
 | lst _ q2=>
  cases k2 with
  | non=>apply SeqAt.EqAt.list_none <;> assumption
  | bl _=>apply SeqAt.EqAt.list_bool <;> assumption
  | int _ _=>apply SeqAt.EqAt.list_int <;> assumption
  | str _ _=>apply SeqAt.EqAt.list_str <;> assumption
  | tup _ q3=>apply SeqAt.EqAt.list_tuple <;> assumption
  | lst _ q4=>cases h
theorem rc_mix {s:Shared}{A:Around}{w u:W}{a b:Value}(hu:A.units<cLine)(k1:Kd s w a)(k2:Kd s u b)(h:yL w u=false):SeqAt.RcAt A s a b (eqW w u):=by
 cases k1 with
 | non=>
  cases k2 with
  | non=>apply SeqAt.RcAt.none_none <;> assumption
  | bl _=>apply SeqAt.RcAt.none_bool <;> assumption
  | int _ _=>apply SeqAt.RcAt.none_int <;> assumption
  | str _ _=>apply SeqAt.RcAt.none_str <;> assumption
  | tup _ q3=>apply SeqAt.RcAt.none_tuple <;> assumption
  | lst _ q4=>apply SeqAt.RcAt.none_list <;> assumption
 | bl _=>
  cases k2 with
  | non=>apply SeqAt.RcAt.bool_none <;> assumption
  | bl _=>apply SeqAt.RcAt.bool_bool <;> assumption
  | int _ _=>apply SeqAt.RcAt.bool_int <;> assumption
  | str _ _=>apply SeqAt.RcAt.bool_str <;> assumption
  | tup _ q3=>apply SeqAt.RcAt.bool_tuple <;> assumption
  | lst _ q4=>apply SeqAt.RcAt.bool_list <;> assumption
 | int _ _=>
  cases k2 with
  | non=>apply SeqAt.RcAt.int_none <;> assumption
  | bl _=>apply SeqAt.RcAt.int_bool <;> assumption
  | int _ _=>apply SeqAt.RcAt.int_int <;> assumption
  | str _ _=>apply SeqAt.RcAt.int_str <;> assumption
  | tup _ q3=>apply SeqAt.RcAt.int_tuple <;> assumption
  | lst _ q4=>apply SeqAt.RcAt.int_list <;> assumption
 | str _ _=>
  cases k2 with
  | non=>apply SeqAt.RcAt.str_none <;> assumption
  | bl _=>apply SeqAt.RcAt.str_bool <;> assumption
  | int _ _=>apply SeqAt.RcAt.str_int <;> assumption
  | str _ _=>apply SeqAt.RcAt.str_str <;> assumption
  | tup _ q3=>apply SeqAt.RcAt.str_tuple <;> assumption
  | lst _ q4=>apply SeqAt.RcAt.str_list <;> assumption
 | tup _ q1=>
  cases k2 with
  | non=>apply SeqAt.RcAt.tuple_none <;> assumption
  | bl _=>apply SeqAt.RcAt.tuple_bool <;> assumption
  | int _ _=>apply SeqAt.RcAt.tuple_int <;> assumption
  | str _ _=>apply SeqAt.RcAt.tuple_str <;> assumption
  | tup _ q3=>cases h
  | lst _ q4=>apply SeqAt.RcAt.tuple_list <;> assumption
 | lst _ q2=>
  cases k2 with
  | non=>apply SeqAt.RcAt.list_none <;> assumption
  | bl _=>apply SeqAt.RcAt.list_bool <;> assumption
  | int _ _=>apply SeqAt.RcAt.list_int <;> assumption
  | str _ _=>apply SeqAt.RcAt.list_str <;> assumption
  | tup _ q3=>apply SeqAt.RcAt.list_tuple <;> assumption
  | lst _ q4=>cases h
theorem ne_mix {s:Shared}{A:Around}{w u:W}{a b:Value}(hu:A.units<cLine)(k1:Kd s w a)(k2:Kd s u b)(h:yL w u=false):SeqAt.RcNeAt A s a b (!eqW w u):=by
 cases k1 with
 | non=>
  cases k2 with
  | non=>apply SeqAt.RcNeAt.none_none <;> assumption
  | bl _=>apply SeqAt.RcNeAt.none_bool <;> assumption
  | int _ _=>apply SeqAt.RcNeAt.none_int <;> assumption
  | str _ _=>apply SeqAt.RcNeAt.none_str <;> assumption
  | tup _ q3=>apply SeqAt.RcNeAt.none_tuple <;> assumption
  | lst _ q4=>apply SeqAt.RcNeAt.none_list <;> assumption
 | bl _=>
  cases k2 with
  | non=>apply SeqAt.RcNeAt.bool_none <;> assumption
  | bl _=>apply SeqAt.RcNeAt.bool_bool <;> assumption
  | int _ _=>apply SeqAt.RcNeAt.bool_int <;> assumption
  | str _ _=>apply SeqAt.RcNeAt.bool_str <;> assumption
  | tup _ q3=>apply SeqAt.RcNeAt.bool_tuple <;> assumption
  | lst _ q4=>apply SeqAt.RcNeAt.bool_list <;> assumption
 | int _ _=>
  cases k2 with
  | non=>apply SeqAt.RcNeAt.int_none <;> assumption
  | bl _=>apply SeqAt.RcNeAt.int_bool <;> assumption
  | int _ _=>apply SeqAt.RcNeAt.int_int <;> assumption
  | str _ _=>apply SeqAt.RcNeAt.int_str <;> assumption
  | tup _ q3=>apply SeqAt.RcNeAt.int_tuple <;> assumption
  | lst _ q4=>apply SeqAt.RcNeAt.int_list <;> assumption
 | str _ _=>
  cases k2 with
  | non=>apply SeqAt.RcNeAt.str_none <;> assumption
  | bl _=>apply SeqAt.RcNeAt.str_bool <;> assumption
  | int _ _=>apply SeqAt.RcNeAt.str_int <;> assumption
  | str _ _=>apply SeqAt.RcNeAt.str_str <;> assumption
  | tup _ q3=>apply SeqAt.RcNeAt.str_tuple <;> assumption
  | lst _ q4=>apply SeqAt.RcNeAt.str_list <;> assumption
 | tup _ q1=>
  cases k2 with
  | non=>apply SeqAt.RcNeAt.tuple_none <;> assumption
  | bl _=>apply SeqAt.RcNeAt.tuple_bool <;> assumption
  | int _ _=>apply SeqAt.RcNeAt.tuple_int <;> assumption
  | str _ _=>apply SeqAt.RcNeAt.tuple_str <;> assumption
  | tup _ q3=>cases h
  | lst _ q4=>apply SeqAt.RcNeAt.tuple_list <;> assumption
 | lst _ q2=>
  cases k2 with
  | non=>apply SeqAt.RcNeAt.list_none <;> assumption
  | bl _=>apply SeqAt.RcNeAt.list_bool <;> assumption
  | int _ _=>apply SeqAt.RcNeAt.list_int <;> assumption
  | str _ _=>apply SeqAt.RcNeAt.list_str <;> assumption
  | tup _ q3=>apply SeqAt.RcNeAt.list_tuple <;> assumption
  | lst _ q4=>cases h
theorem eqAtW {pins:List (Addr×Obj)}{s:Shared}{σ : St}(I:Inv X pins σ H s):∀ (n:Nat) {A:Around} {w u:W} {v x:V} {a b:Value},A.units+n<cLine→Dt X.K H w v→Dt X.K H u x→plW n w=true→plW n u=true→RelV v a→RelV x b→SeqAt.EqAt A s a b (eqW w u):=by
 intro n
 induction n with
 | zero=>
  intro A w u v x a b hu dw du pw pu ra rb
  cases w <;> first | (simp [plW] at pw;done) | skip
  all_goals cases u <;> first | (simp [plW] at pu;done) | (rw [Dt] at dw;rw [Dt] at du;subst dw;subst du;exact eqAt_V ra rb rfl rfl)
 | succ n ih=>
  intro A w u v x a b hu dw du pw pu ra rb
  have hu':A.units<cLine:=by omega
  have hu1:A.in1.units+n<cLine:=by rw [in1_units];omega
  by_cases h2:yL w u=true
  ·cases w <;> cases u <;> first | (cases h2;done) | skip
   ·rename_i ws us
    have dw0:=dw;have du0:=du
    rw [Dt] at dw;obtain ⟨p1,xs1,e1,hs1,ds1⟩:=dw;subst e1;cases ra;obtain ⟨its1,rv1,pl1,hz1⟩:=I.tuple hs1;have q1:s.heap.IsTuple p1 its1.toArray:=pl1
    rw [Dt] at du;obtain ⟨p2,xs2,e2,hs2,ds2⟩:=du;subst e2;cases rb;obtain ⟨its2,rv2,pl2,hz2⟩:=I.tuple hs2;have q2:s.heap.IsTuple p2 its2.toArray:=pl2
    have pw:ws.all (plW n)=true:=by simpa [plW] using pw
    have pu:us.all (plW n)=true:=by simpa [plW] using pu
    by_cases hp:p1=p2
    ·subst hp;rw [qW I dw0 du0];exact SeqAt.EqAt.same _
    ·refine SeqAt.EqAt.of_refs hp ?_
     have z:=SeqAt.RcAt.tuples q1 q2 hu' (fU ds1 ds2 pw pu rv1 rv2 (fun a b c d e f=>ih hu1 a b c d e f))
     rw [size_of ds1 rv1,size_of ds2 rv2,vX] at z
     rw [eqW];exact z
   ·rename_i ws us
    have dw0:=dw;have du0:=du
    rw [Dt] at dw;obtain ⟨p1,xs1,e1,hs1,ds1⟩:=dw;subst e1;cases ra;obtain ⟨its1,rv1,pl1,hz1⟩:=I.list hs1;have q1:=pl1.isList
    rw [Dt] at du;obtain ⟨p2,xs2,e2,hs2,ds2⟩:=du;subst e2;cases rb;obtain ⟨its2,rv2,pl2,hz2⟩:=I.list hs2;have q2:=pl2.isList
    have pw:ws.all (plW n)=true:=by simpa [plW] using pw
    have pu:us.all (plW n)=true:=by simpa [plW] using pu
    by_cases hp:p1=p2
    ·subst hp;rw [qW I dw0 du0];exact SeqAt.EqAt.same _
    ·refine SeqAt.EqAt.of_refs hp ?_
     rw [eqW]
     by_cases hl:ws.length=us.length
     ·have z:=SeqAt.RcAt.lists q1 q2 (by rw [size_of ds1 rv1,size_of ds2 rv2,hl]) hu' (fU ds1 ds2 pw pu rv1 rv2 (fun a b c d e f=>ih hu1 a b c d e f))
      rw [size_of ds1 rv1,iG hl] at z
      exact z
     ·rw [jf hl];exact SeqAt.RcAt.lists_lengths q1 q2 (by rw [size_of ds1 rv1,size_of ds2 rv2];simpa using hl) hu'
  ·by_cases hf:flt2 w u=true
   ·cases w <;> cases u <;> first | (cases hf;done) | (simp [plW] at pw;done) | (simp [plW] at pu;done) | (rw [Dt] at dw;rw [Dt] at du;subst dw;subst du;exact eqAt_V ra rb rfl rfl)
   ·exact eq_mix hu' (zA I dw ra) (zA I du rb) (by simpa using h2) (by simpa using hf)
theorem rcAtW {pins:List (Addr×Obj)}{s:Shared}{σ : St}(I:Inv X pins σ H s)(n:Nat){A:Around}{w u:W}{v x:V}{a b:Value}(hu:A.units+n<cLine)(dw:Dt X.K H w v)(du:Dt X.K H u x)(pw:plW n w=true)(pu:plW n u=true)(ra:RelV v a)(rb:RelV x b):SeqAt.RcAt A s a b (eqW w u):=by
 have hu':A.units<cLine:=by omega
 by_cases h2:yL w u=true
 ·cases w <;> cases u <;> first | (cases h2;done) | skip
  ·obtain ⟨m,hm,pw⟩:=qu pw
   subst hm
   obtain ⟨m',hm',pu⟩:=qu pu
   cases hm'
   have hu1:A.in1.units+m<cLine:=by rw [in1_units];omega
   rw [Dt] at dw;obtain ⟨p1,xs1,e1,hs1,ds1⟩:=dw;subst e1;cases ra;obtain ⟨its1,rv1,pl1,hz1⟩:=I.tuple hs1;have q1:s.heap.IsTuple p1 its1.toArray:=pl1
   rw [Dt] at du;obtain ⟨p2,xs2,e2,hs2,ds2⟩:=du;subst e2;cases rb;obtain ⟨its2,rv2,pl2,hz2⟩:=I.tuple hs2;have q2:s.heap.IsTuple p2 its2.toArray:=pl2
   rw [eqW]
   have z:=SeqAt.RcAt.tuples q1 q2 hu' (fU ds1 ds2 pw pu rv1 rv2 (fun a b c d e f=>eqAtW I m hu1 a b c d e f))
   rw [size_of ds1 rv1,size_of ds2 rv2,vX] at z
   exact z
  ·rename_i ws us
   obtain ⟨m,hm,pw⟩:=lZ pw
   subst hm
   obtain ⟨m',hm',pu⟩:=lZ pu
   cases hm'
   have hu1:A.in1.units+m<cLine:=by rw [in1_units];omega
   rw [Dt] at dw;obtain ⟨p1,xs1,e1,hs1,ds1⟩:=dw;subst e1;cases ra;obtain ⟨its1,rv1,pl1,hz1⟩:=I.list hs1;have q1:=pl1.isList
   rw [Dt] at du;obtain ⟨p2,xs2,e2,hs2,ds2⟩:=du;subst e2;cases rb;obtain ⟨its2,rv2,pl2,hz2⟩:=I.list hs2;have q2:=pl2.isList
   rw [eqW]
   by_cases hl:ws.length=us.length
   ·have z:=SeqAt.RcAt.lists q1 q2 (by rw [size_of ds1 rv1,size_of ds2 rv2,hl]) hu' (fU ds1 ds2 pw pu rv1 rv2 (fun a b c d e f=>eqAtW I m hu1 a b c d e f))
    rw [size_of ds1 rv1,iG hl] at z
    exact z
   ·rw [jf hl];exact SeqAt.RcAt.lists_lengths q1 q2 (by rw [size_of ds1 rv1,size_of ds2 rv2];simpa using hl) hu'
 ·exact rc_mix hu' (zA I dw ra) (zA I du rb) (by simpa using h2)
theorem rcNeAtW {pins:List (Addr×Obj)}{s:Shared}{σ : St}(I:Inv X pins σ H s)(n:Nat){A:Around}{w u:W}{v x:V}{a b:Value}(hu:A.units+n<cLine)(dw:Dt X.K H w v)(du:Dt X.K H u x)(pw:plW n w=true)(pu:plW n u=true)(ra:RelV v a)(rb:RelV x b):SeqAt.RcNeAt A s a b (!eqW w u):=by
 have hu':A.units<cLine:=by omega
 by_cases h2:yL w u=true
 ·cases w <;> cases u <;> first | (cases h2;done) | skip
  ·obtain ⟨m,hm,pw⟩:=qu pw
   subst hm
   obtain ⟨m',hm',pu⟩:=qu pu
   cases hm'
   have hu1:A.in1.units+m<cLine:=by rw [in1_units];omega
   rw [Dt] at dw;obtain ⟨p1,xs1,e1,hs1,ds1⟩:=dw;subst e1;cases ra;obtain ⟨its1,rv1,pl1,hz1⟩:=I.tuple hs1;have q1:s.heap.IsTuple p1 its1.toArray:=pl1
   rw [Dt] at du;obtain ⟨p2,xs2,e2,hs2,ds2⟩:=du;subst e2;cases rb;obtain ⟨its2,rv2,pl2,hz2⟩:=I.tuple hs2;have q2:s.heap.IsTuple p2 its2.toArray:=pl2
   rw [eqW]
   have z:=SeqAt.RcNeAt.tuples q1 q2 hu' (fU ds1 ds2 pw pu rv1 rv2 (fun a b c d e f=>eqAtW I m hu1 a b c d e f))
   rw [size_of ds1 rv1,size_of ds2 rv2,vX] at z
   exact z
  ·rename_i ws us
   obtain ⟨m,hm,pw⟩:=lZ pw
   subst hm
   obtain ⟨m',hm',pu⟩:=lZ pu
   cases hm'
   have hu1:A.in1.units+m<cLine:=by rw [in1_units];omega
   rw [Dt] at dw;obtain ⟨p1,xs1,e1,hs1,ds1⟩:=dw;subst e1;cases ra;obtain ⟨its1,rv1,pl1,hz1⟩:=I.list hs1;have q1:=pl1.isList
   rw [Dt] at du;obtain ⟨p2,xs2,e2,hs2,ds2⟩:=du;subst e2;cases rb;obtain ⟨its2,rv2,pl2,hz2⟩:=I.list hs2;have q2:=pl2.isList
   rw [eqW]
   by_cases hl:ws.length=us.length
   ·have z:=SeqAt.RcNeAt.lists q1 q2 (by rw [size_of ds1 rv1,size_of ds2 rv2,hl]) hu' (fU ds1 ds2 pw pu rv1 rv2 (fun a b c d e f=>eqAtW I m hu1 a b c d e f))
    rw [size_of ds1 rv1,iG hl] at z
    exact z
   ·rw [jf hl];exact SeqAt.RcNeAt.lists_lengths q1 q2 (by rw [size_of ds1 rv1,size_of ds2 rv2];simpa using hl) hu'
 ·exact ne_mix hu' (zA I dw ra) (zA I du rb) (by simpa using h2)
def datW (h:Gh):W→Option W
 | .loc n=>(match h.c n with
  | some (.lst ws)=>some (.lst ws)
  | _=>none)
 | w=>some w
theorem qH {w d:W}{v:V}{n:Nat}(R:Rel K μ H h)(r:Rep K H μ w v)(e:datW h w=some d)(p:plW n d=true):Dt K H d v:=by
 have other:datW h w=some w→Dt K H d v:=fun z=>by
  rw [z] at e;cases e;exact dt_of n r p
 cases w with
 | loc m=>
  unfold datW at e
  dsimp only at e
  cases ec:h.c m with
  | none=>rw [ec] at e;cases e
  | some cl=>
   rw [ec] at e
   cases cl with
   | lst us=>
    cases (show some (W.lst us)=some d from e)
    obtain ⟨p',xs,hm',hx,rs⟩:=R.lstAt ec
    rw [Rep] at r
    obtain ⟨q,ev,hm⟩:=r
    have ep:p'=q:=by rw [hm] at hm';exact (Option.some.inj hm').symm
    subst ep
    obtain ⟨k,rfl,p⟩:=lZ p
    rw [Dt]
    exact ⟨p',xs,ev,.of hx,uh (dt_of k) rs p⟩
   | _=>cases e
 | _=>exact other rfl
def rEqD (K:PySem.W.Frag)(neg:Bool):R2:=fun x y H Q=>∃ w u,Dt K H w x∧Dt K H u y∧plW 30 w=true∧plW 30 u=true∧Q (.bl (if neg then !eqW w u else eqW w u)) H
theorem op_eqD (hu:X.A.units+30<cLine):OpR X (compareOp .Eq) (rEqD X.K false):=by
 intro pins s σ H x y v u Q I rx ry ⟨w,w',d1,d2,p1,p2,q⟩
 exact rcAtW I 30 hu d1 d2 p1 p2 rx ry X.prog X.w X.xe _ (fin_bl I q rfl)
theorem op_neD (hu:X.A.units+30<cLine):OpR X (compareOp .NotEq) (rEqD X.K true):=by
 intro pins s σ H x y v u Q I rx ry ⟨w,w',d1,d2,p1,p2,q⟩
 exact rcNeAtW I 30 hu d1 d2 p1 p2 rx ry X.prog X.w X.xe _ (fin_bl I q rfl)
def kEq:M2:=fun x y h Q=>match datW h x,datW h y with
 | some a,some b=>by2 (plW 30 a&&plW 30 b) (Q (.bl (eqW a b)) h) False
 | _,_=>False
def kNe:M2:=fun x y h Q=>match datW h x,datW h y with
 | some a,some b=>by2 (plW 30 a&&plW 30 b) (Q (.bl (!eqW a b)) h) False
 | _,_=>False
theorem zN (hu:X.A.units+30<cLine):DOp X (compareOp .Eq) kEq:=⟨_,op_eqD hu,by
 intro H μ h x y wx wy Qw Q R rx ry m k
 unfold kEq at m
 split at m
 ·rename_i a b ea eb
  cases hp:(plW 30 a&&plW 30 b) with
  | true=>
   rw [hp] at m
   rw [Bool.and_eq_true] at hp
   exact ⟨a,b,qH R rx ea hp.1,qH R ry eb hp.2,hp.1,hp.2,k _ _ (.bl R m)⟩
  | false=>rw [hp] at m;exact (show False from m).elim
 ·exact m.elim⟩
theorem yg (hu:X.A.units+30<cLine):DOp X (compareOp .NotEq) kNe:=⟨_,op_neD hu,by
 intro H μ h x y wx wy Qw Q R rx ry m k
 unfold kNe at m
 split at m
 ·rename_i a b ea eb
  cases hp:(plW 30 a&&plW 30 b) with
  | true=>
   rw [hp] at m
   rw [Bool.and_eq_true] at hp
   exact ⟨a,b,qH R rx ea hp.1,qH R ry eb hp.2,hp.1,hp.2,k _ _ (.bl R m)⟩
  | false=>rw [hp] at m;exact (show False from m).elim
 ·exact m.elim⟩
theorem jx {A:Around}{k:Nat}(hr:kj k A):A.units+30<cLine:=by have:=hr.units;omega
end
end L2
namespace L2
open PySem PySem.Spec PyProof.Rows
section
variable {X:Cx}{K:PySem.W.Frag}
theorem eZ {H:Hp}{μ : Mu}{w:W}{vs:List V}(r:aH K H μ [w] vs):∃ v,vs=[v]∧Rep K H μ w v:=by
 rw [aH] at r
 obtain ⟨v,vr,ev,ra,r⟩:=r
 rw [aH] at r
 subst r
 exact ⟨v,ev,ra⟩
theorem reps2 {H:Hp}{μ : Mu}{w u:W}{vs:List V}(r:aH K H μ [w,u] vs):∃ v x,vs=[v,x]∧Rep K H μ w v∧Rep K H μ u x:=by
 rw [aH] at r
 obtain ⟨v,vr,ev,ra,r⟩:=r
 obtain ⟨x,e,rb⟩:=eZ r
 subst e
 exact ⟨v,x,ev,ra,rb⟩
theorem eH.of {i j:Int}{m n:Nat}(hi:Sm m i)(hj:Sm n j)(hm:m≤1000000)(hn:n≤1000000):eH i j:=⟨m,n,hm,hn,hi,hj⟩
theorem Sm.lit {i:Int}(h:Nat.ble (i.natAbs+1) (2^64)=true):Sm 64 i:=by
 have:=Nat.le_of_ble_eq_true h
 unfold Sm
 omega
def kLen:MC:=fun ws h Q=>match ws with
 | [w]=>(match view h w with
  | some xs=>Q (.int (xs.length:Int)) h
  | none=>False)
 | _=>False
theorem c_len:jr X (.builtin "len") kLen:=⟨_,rN,by
 intro H μ h vs ws Qw Q R r m k
 unfold kLen at m
 split at m
 ·split at m
  ·rename_i w _ xs ev
   obtain ⟨v,e,rv⟩:=eZ r
   obtain ⟨p,ys,ex,hs,rs⟩:=jy R rv ev
   subst e ex
   exact ⟨p,ys,rfl,hs,by rw [←rs.len];exact k _ _ (.int R m)⟩
  ·exact m.elim
 ·exact m.elim⟩
def kAbs:MC:=fun ws h Q=>match ws with
 | [.int i]=>Q (.int (if i<0 then -i else i)) h
 | _=>False
theorem c_abs:jr X (.builtin "abs") kAbs:=⟨_,call_abs,by
 intro H μ h vs ws Qw Q R r m k
 unfold kAbs at m
 split at m
 ·obtain ⟨v,e,rv⟩:=eZ r
  rw [Rep] at rv
  subst e rv
  exact ⟨_,rfl,k _ _ (.int R m)⟩
 ·exact m.elim⟩
def blsW:List W→Option (List Bool)
 | []=>some []
 | .bl b::ws=>(blsW ws).map (b::·)
 | _=>none
theorem qZ {H:Hp}{μ : Mu}:∀ {ws:List W} {xs:List V} {bs:List Bool},aH K H μ ws xs→blsW ws=some bs→xs=bs.map V.bl
 | [],xs,bs,r,e=>by
  rw [aH] at r
  cases (show some []=some bs from e)
  exact r
 | w::ws,xs,bs,r,e=>by
  rw [aH] at r
  obtain ⟨v,vr,ev,ra,r⟩:=r
  cases w with
  | bl b=>
   rw [Rep] at ra
   rw [blsW] at e
   cases q:blsW ws with
   | none=>rw [q] at e;cases e
   | some cs=>
    rw [q] at e
    cases (show some (b::cs)=some bs from e)
    rw [ev,ra,qZ r q]
    rfl
  | _=>cases e
def kAll:MC:=fun ws h Q=>match ws with
 | [w]=>(match cX h w with
  | some us=>(match blsW us with
   | some bs=>Q (.bl (bs.all id)) h
   | none=>False)
  | none=>False)
 | _=>False
theorem c_all (hc:X.calm=true):jr X (.builtin "all") kAll:=⟨_,call_allB hc,by
 intro H μ h vs ws Qw Q R r m k
 unfold kAll at m
 split at m
 ·split at m
  ·split at m
   ·rename_i w _ us ev _ bs eb
    obtain ⟨v,e,rv⟩:=eZ r
    obtain ⟨p,ys,ex,hs,rs⟩:=bR R rv ev
    subst e ex
    exact ⟨p,bs,rfl,by rw [←qZ rs eb];exact hs,k _ _ (.bl R m)⟩
   ·exact m.elim
  ·exact m.elim
 ·exact m.elim⟩
def isiW (h:Gh)(w:W)(T:String):Option Bool:=match w with
 | .int _=>if T = "int" then some true else if T = "bool"∨T = "tuple"∨T = "list" then some false else none
 | .bl _=>if T = "int"∨T = "bool" then some true else if T = "tuple"∨T = "list" then some false else none
 | .str _=>if T = "int"∨T = "bool"∨T = "tuple"∨T = "list" then some false else none
 | .non=>if T = "int"∨T = "bool"∨T = "tuple"∨T = "list" then some false else none
 | .tup _=>if T = "tuple" then some true else if T = "int"∨T = "bool"∨T = "list" then some false else none
 | w=>(match cX h w with
  | some _=>if T = "list" then some true else if T = "int"∨T = "bool"∨T = "tuple" then some false else none
  | none=>none)
theorem isiW_ok {H:Hp}{μ : Mu}{h:Gh}{w:W}{v:V}{T:String}{b:Bool}(R:Rel K μ H h)(r:Rep K H μ w v)(e:isiW h w T=some b):isiV K H v T b:=by
 unfold isiW at e
 split at e
 ·rw [Rep] at r;subst r
  split at e
  ·rename_i t;subst t;cases e;exact .inl ⟨rfl,rfl⟩
  ·split at e
   ·rename_i t;cases e
    rcases t with t | t | t <;> subst t
    ·exact .inr (.inl ⟨rfl,rfl⟩)
    ·exact .inr (.inr (.inl ⟨rfl,rfl⟩))
    ·exact .inr (.inr (.inr ⟨rfl,rfl⟩))
   ·cases e
 ·rw [Rep] at r;subst r
  split at e
  ·rename_i t;cases e
   rcases t with t | t <;> subst t
   ·exact .inl ⟨rfl,rfl⟩
   ·exact .inr (.inl ⟨rfl,rfl⟩)
  ·split at e
   ·rename_i t;cases e
    rcases t with t | t <;> subst t
    ·exact .inr (.inr (.inl ⟨rfl,rfl⟩))
    ·exact .inr (.inr (.inr ⟨rfl,rfl⟩))
   ·cases e
 ·rw [Rep] at r;subst r
  split at e
  ·rename_i t;cases e
   rcases t with t | t | t | t <;> subst t
   ·exact .inl ⟨rfl,rfl⟩
   ·exact .inr (.inl ⟨rfl,rfl⟩)
   ·exact .inr (.inr (.inl ⟨rfl,rfl⟩))
   ·exact .inr (.inr (.inr ⟨rfl,rfl⟩))
  ·cases e
 ·rw [Rep] at r;subst r
  split at e
  ·rename_i t;cases e
   rcases t with t | t | t | t <;> subst t
   ·exact .inl ⟨rfl,rfl⟩
   ·exact .inr (.inl ⟨rfl,rfl⟩)
   ·exact .inr (.inr (.inl ⟨rfl,rfl⟩))
   ·exact .inr (.inr (.inr ⟨rfl,rfl⟩))
  ·cases e
 ·rw [Rep] at r
  obtain ⟨p,xs,ev,hs,_⟩:=r
  subst ev
  refine .inl ⟨xs,hs,?_⟩
  split at e
  ·rename_i t;subst t;cases e;exact .inr (.inr (.inl ⟨rfl,rfl⟩))
  ·split at e
   ·rename_i t;cases e
    rcases t with t | t | t <;> subst t
    ·exact .inl ⟨rfl,rfl⟩
    ·exact .inr (.inl ⟨rfl,rfl⟩)
    ·exact .inr (.inr (.inr ⟨rfl,rfl⟩))
   ·cases e
 ·split at e
  ·rename_i ws ev
   obtain ⟨p,xs,ex,hs,_⟩:=bR R r ev
   subst ex
   refine .inr ⟨xs,hs,?_⟩
   split at e
   ·rename_i t;subst t;cases e;exact .inr (.inr (.inr ⟨rfl,rfl⟩))
   ·split at e
    ·rename_i t;cases e
     rcases t with t | t | t <;> subst t
     ·exact .inl ⟨rfl,rfl⟩
     ·exact .inr (.inl ⟨rfl,rfl⟩)
     ·exact .inr (.inr (.inl ⟨rfl,rfl⟩))
    ·cases e
  ·cases e
def kIsi:MC:=fun ws h Q=>match ws with
 | [w,.ty T]=>(match isiW h w T with
  | some b=>Q (.bl b) h
  | none=>False)
 | _=>False
theorem c_isi:jr X (.builtin "isinstance") kIsi:=⟨_,call_isi,by
 intro H μ h vs ws Qw Q R r m k
 unfold kIsi at m
 split at m
 ·split at m
  ·rename_i w T _ b eb
   obtain ⟨v,x,e,rv,rx⟩:=reps2 r
   have hi:=isiW_ok R rv eb
   rw [Rep] at rx
   subst e rx
   exact ⟨v,T,b,rfl,hi,k _ _ (.bl R m)⟩
  ·exact m.elim
 ·exact m.elim⟩
def rQ:MC:=fun ws h Q=>match ws with
 | [.tup us]=>Q (.tup us) h
 | [w]=>(match cX h w with
  | some us=>Q (.tup us) h
  | none=>False)
 | _=>False
theorem c_tuple:jr X (.type "tuple") rQ:=⟨_,rB,by
 intro H μ h vs ws Qw Q R r m k
 unfold rQ at m
 split at m
 ·obtain ⟨v,e,rv⟩:=eZ r
  have rv':=rv
  rw [Rep] at rv
  obtain ⟨p,xs,ex,hs,rs⟩:=rv
  subst e ex
  exact ⟨p,xs,rfl,.inr ⟨hs,k _ _ ⟨μ,_,h,.refl,R,rv',m⟩⟩⟩
 ·split at m
  ·rename_i w _ _ us ev
   obtain ⟨v,e,rv⟩:=eZ r
   obtain ⟨p,ys,ex,hs,rs⟩:=bR R rv ev
   subst e ex
   exact ⟨p,ys,rfl,.inl ⟨hs,fun l hl=>k _ _ ⟨μ,_,h,(Ex.laid hl).ext,R.laid hl,.tupNew hl rs,m⟩⟩⟩
  ·exact m.elim
 ·exact m.elim⟩
def kList:MC:=fun ws h Q=>match ws with
 | [w]=>(match view h w with
  | some us=>Q (.lst us) h
  | none=>False)
 | _=>False
def wM:MC:=fun ws h Q=>match ws with
 | [w]=>(match view h w with
  | some us=>Q (.loc h.nx) (h.new (.lst us))
  | none=>False)
 | _=>False
theorem c_list:jr X (.type "list") kList:=⟨_,jT,by
 intro H μ h vs ws Qw Q R r m k
 unfold kList at m
 split at m
 ·split at m
  ·rename_i w _ xs ev
   obtain ⟨v,e,rv⟩:=eZ r
   obtain ⟨p,ys,ex,hs,rs⟩:=jy R rv ev
   subst e ex
   exact ⟨p,ys,rfl,hs,fun l hl=>k _ _ ⟨μ,_,h,(Ex.laid hl).ext,R.laid hl,.lstNew R hl rs,m⟩⟩
  ·exact m.elim
 ·exact m.elim⟩
theorem c_listM:jr X (.type "list") wM:=⟨_,jT,by
 intro H μ h vs ws Qw Q R r m k
 unfold wM at m
 split at m
 ·split at m
  ·rename_i w _ xs ev
   obtain ⟨v,e,rv⟩:=eZ r
   obtain ⟨p,ys,ex,hs,rs⟩:=jy R rv ev
   subst e ex
   exact ⟨p,ys,rfl,hs,fun l hl=>k _ _ ⟨μ.put h.nx l,.loc h.nx,h.new (.lst xs),(Ex.newCell R hl).ext,newLst R hl rs,by rw [Rep];exact ⟨l,rfl,Mu.put_same⟩,m⟩⟩
  ·exact m.elim
 ·exact m.elim⟩
abbrev MM:=W→List W→Gh→WK→Prop
def SimM (K:PySem.W.Frag)(r:V→List V→Hp→VK→Prop)(mr:MM):Prop:=∀ {H:Hp} {μ : Mu} {h:Gh} {x:V} {vs:List V} {wx:W} {ws:List W} {Qw:WK} {Q:VK},Rel K μ H h→Rep K H μ wx x→aH K H μ ws vs→mr wx ws h Qw→(∀ v H',DQ K H μ Qw v H'→Q v H')→r x vs H Q
def nZ (h:Gh)(w:W)(P:Prop):Prop:=match w with
 | .loc n=>(match h.c n with
  | some (.lst _)=>P
  | _=>False)
 | _=>False
theorem lE {H:Hp}{μ : Mu}{h:Gh}{w:W}{v:V}{P:Prop}(R:Rel K μ H h)(r:Rep K H μ w v)(e:nZ h w P):tyV K "list" v H∧P:=by
 unfold nZ at e
 split at e
 ·split at e
  ·rename_i n _ ws ec
   rw [Rep] at r
   obtain ⟨p,ev,hm⟩:=r
   obtain ⟨p',xs,hm',hx,rs⟩:=R.lstAt ec
   have ep:p'=p:=by rw [hm] at hm';exact (Option.some.inj hm').symm
   subst ep ev
   exact ⟨.inl ⟨rfl,xs,.of hx⟩,e⟩
  ·exact e.elim
 ·exact e.elim
def u0 (r:MM)(mo:ME)(ma:MA):ME:=fun σ h Q=>mo σ h fun x h1=>nZ h1 x (ma σ h1 fun xs h2=>r x xs h2 Q)
def mBMr0 (r:MM)(mo:ME):ME:=fun σ h Q=>mo σ h fun x h1=>nZ h1 x (r x [] h1 Q)
variable {o e:Expr}{es:List Expr}{mo:ME}{ma:MA}{name:Str}{apos cpos:Pos}{id:String}{r:V→List V→Hp→VK→Prop}{mr:MM}
theorem d_bm (slot:Slot "list" name id)(hty:typeOf (.builtin id)=pure (.type "method_descriptor"))(hm:MtR X id r)(hs:SimM X.K r mr)(ho:DE X o mo)(ha:DAs X (e::es) ma)
  (hbase:attributeBase o name X.env (eval o X.env)=eval o X.env:=by rfl)
  (hfew:((backTo cpos (starEach (e::es) X.env)).all (fun x=>!x.1)&&(backToKw cpos (keywordEach [] X.env)).all (fun x=>x.1.isSome)
   && decide ((e::es).length+([]:List Keyword).length+(if ([]:List Keyword).isEmpty then 0 else 1)<30))=true:=by rfl)
  (hline:(apos.endLine==cpos.line)=true:=by rfl) (hst:starEach (e::es) X.env=(false,eval e X.env)::starEach es X.env:=by rfl) (hplain:(backTo cpos (starEach es X.env)).any (·.1)=false:=by rfl) :
  DE X (.Call (.Attribute o name apos) (e::es) [] cpos) (u0 mr mo ma):=(pe_bm PySem.F.plainAttrs_list slot hty hm ho ha hbase hfew hline hst hplain).of fun σ H Q ⟨μ,h,σw,Qw,R,S,m,k⟩=>by
 refine ⟨μ,h,σw,_,R,S,m,fun v H1 ⟨μ1,w,h1,e1,R1,r1,il⟩=>⟨(lE R1 r1 il).1,?_⟩⟩
 have m1:=(lE R1 r1 il).2
 exact ⟨μ1,h1,σw,_,R1,S.ext e1,m1,fun vs H2 ⟨μ2,ws,h2,e2,R2,r2,m2⟩=>hs R2 (e2.r _ _ r1) r2 m2 fun v H' z=>k _ _ ((z.trans e2).trans e1)⟩
theorem d_bm0 (slot:Slot "list" name id)(hty:typeOf (.builtin id)=pure (.type "method_descriptor"))(hm:MtR X id r)(hs:SimM X.K r mr)(ho:DE X o mo)
  (hbase:attributeBase o name X.env (eval o X.env)=eval o X.env:=by rfl) (hline:(apos.endLine==cpos.line)=true:=by rfl) :
  DE X (.Call (.Attribute o name apos) [] [] cpos) (mBMr0 mr mo):=(pe_bm0 PySem.F.plainAttrs_list slot hty hm ho hbase hline).of fun σ H Q ⟨μ,h,σw,Qw,R,S,m,k⟩=>by
 refine ⟨μ,h,σw,_,R,S,m,fun v H1 ⟨μ1,w,h1,e1,R1,r1,il⟩=>⟨(lE R1 r1 il).1,?_⟩⟩
 have m1:=(lE R1 r1 il).2
 exact hs R1 r1 .nil m1 fun v H' z=>k _ _ (z.trans e1)
def cj:MM:=fun x ws h Q=>match x,ws with
 | .loc n,[w]=>(match h.c n with
  | some (.lst us)=>us.length<sizeLine∧Q .non (h.set n (.lst (us++[w])))
  | _=>False)
 | _,_=>False
theorem locAt {H:Hp}{μ : Mu}{h:Gh}{n:Nat}{v:V}{us:List W}(R:Rel K μ H h)(r:Rep K H μ (.loc n) v)(ec:h.c n=some (.lst us)):∃ p xs,v=.ref p∧μ.f n=some p∧H p=some (.lst xs)∧aH K H μ us xs:=by
 rw [Rep] at r
 obtain ⟨p,ev,hm⟩:=r
 obtain ⟨p',xs,hm',hx,rs⟩:=R.lstAt ec
 have ep:p'=p:=by rw [hm] at hm';exact (Option.some.inj hm').symm
 subst ep
 exact ⟨p',xs,ev,hm,hx,rs⟩
theorem DQ.wrote {H:Hp}{μ : Mu}{h:Gh}{n:Nat}{p:Addr}{us:List W}{xs:List V}{Q:WK}{w:W}{v:V}(R:Rel K μ H h)(hm:μ.f n=some p)(rs:aH K H μ us xs)(rw':Rep K H μ w v)(q:Q w (h.set n (.lst us))):DQ K H μ Q v (upd H p (.lst xs)):=
 ⟨μ,w,h.set n (.lst us),(Ex.write R hm).ext,R.write hm trivial ⟨xs,aR,(Ex.write R hm).ext.s rs⟩,(Ex.write R hm).ext.r _ _ rw',q⟩
theorem s_append:SimM K rAppend cj:=by
 intro H μ h x vs wx ws Qw Q R rx rs m k
 unfold cj at m
 split at m
 ·split at m
  ·rename_i n w _ us ec
   obtain ⟨p,xs,ex,hm,hx,r1⟩:=locAt R rx ec
   obtain ⟨v,ev,rv⟩:=eZ rs
   exact ⟨p,xs,v,ex,ev,hx,by rw [←r1.len];exact m.1,k _ _ (.wrote R hm (r1.append (.one rv)) (by rw [Rep]) m.2)⟩
  ·exact m.elim
 ·exact m.elim
theorem lA (ho:DE X o mo)(ha:DAs X [e] ma)
  (hbase:attributeBase o "append" X.env (eval o X.env)=eval o X.env:=by rfl)
  (hfew:((backTo cpos (starEach [e] X.env)).all (fun x=>!x.1)&&(backToKw cpos (keywordEach [] X.env)).all (fun x=>x.1.isSome)
   && decide (([e]:List Expr).length+([]:List Keyword).length+(if ([]:List Keyword).isEmpty then 0 else 1)<30))=true:=by rfl)
  (hline:(apos.endLine==cpos.line)=true:=by rfl) (hst:starEach [e] X.env=(false,eval e X.env)::starEach [] X.env:=by rfl) (hplain:(backTo cpos (starEach [] X.env)).any (·.1)=false:=by rfl) :
  DE X (.Call (.Attribute o "append" apos) [e] [] cpos) (u0 cj mo ma):=d_bm PySem.F.slot_list_append PySem.F.type_list_append tU s_append ho ha hbase hfew hline hst hplain
end
end L2
namespace L2
open PySem PySem.Spec PyProof.Rows
section
variable {X:Cx}{K:PySem.W.Frag}
def isNon:W→Bool
 | .non=>true
 | _=>false
def kIs:M2:=fun x y h Q=>match x,y with
 | .bl c,.bl b=>Q (.bl (c==b)) h
 | w,.non=>Q (.bl (isNon w)) h
 | _,_=>False
def kIsnt:M2:=fun x y h Q=>match x,y with
 | .bl c,.bl b=>Q (.bl (!(c==b))) h
 | w,.non=>Q (.bl (!isNon w)) h
 | _,_=>False
theorem oJ (bs:List Bool):((List.range bs.length).any fun i=>(bs[i]?).getD true)=bs.any id:=by
 rw [Bool.eq_iff_iff,List.any_eq_true,List.any_eq_true]
 constructor
 ·rintro ⟨i,hi,e⟩
  have hi':=List.mem_range.mp hi
  exact ⟨bs[i],List.getElem_mem hi',by simpa [hi'] using e⟩
 ·rintro ⟨b,hb,e⟩
  obtain ⟨i,hi,rfl⟩:=List.mem_iff_getElem.mp hb
  exact ⟨i,List.mem_range.mpr hi,by simpa [hi] using e⟩
theorem call_anyB (hc:X.calm=true):dz X (.builtin "any") (fun xs H Q=>∃ (p:Addr) (bs:List Bool),xs=[.ref p]∧SqL X.K H p (bs.map V.bl)∧Q (.bl (bs.any id)) H):=by
 intro pins s σ H xs us Q I r ⟨p,bs,e,hS,q⟩
 subst e
 obtain ⟨u,rfl,ru⟩:=vals1 r
 cases ru
 obtain ⟨its,rv,pl,hz⟩:=I.list hS
 have hlen:its.length=bs.length:=by rw [←rv.length,List.length_map]
 have hl:=pl.isList
 have hlt:p<s.heap.objs.size:=by obtain ⟨_,e,_⟩:=hl;exact Heap.lt_size e
 refine call_any_walk (wpAny_pyIter_list hl ?_)
 refine ⟨s.heap.objs.size,[s.heap.objs.size,p],[s.heap.objs.size],its.toArray.size,_,_,fun i=>(bs[i]?).getD true,rfl,Walks.list (A:=X.A.in1) (I.ok.hd hc) _ p (Nat.ne_of_lt hlt) its.toArray,
  ⟨⟨_,Heap.get?_push_size _ rfl,rfl,rfl⟩,hl.push _⟩,fun i v s' Q' E' hP hQ=>?_,fun h' tk hk=>?_⟩
 ·obtain ⟨b,e,rfl⟩:=jo rv (by simpa using hP)
  simp only [e,Option.getD_some] at hQ
  exact wpAny_truthy_bool hQ
 ·have e:((List.range its.toArray.size).any fun i=>(bs[i]?).getD true)=bs.any id:=by
   rw [List.size_toArray,hlen];exact oJ bs
  rw [e]
  refine ⟨.bl (bs.any id),H,I.kept (h':=h') (t':=tk) (fun b x e=>?_),rfl,q⟩
  exact hk b x (fun hm=>by rw [List.mem_singleton.mp hm] at e;exact Nat.lt_irrefl _ (Heap.lt_size e)) (Heap.get?_push_of_some _ e)
def kAny:MC:=fun ws h Q=>match ws with
 | [w]=>(match cX h w with
  | some us=>(match blsW us with
   | some bs=>Q (.bl (bs.any id)) h
   | none=>False)
  | none=>False)
 | _=>False
theorem c_any (hc:X.calm=true):jr X (.builtin "any") kAny:=⟨_,call_anyB hc,by
 intro H μ h vs ws Qw Q R r m k
 unfold kAny at m
 split at m
 ·split at m
  ·split at m
   ·rename_i w _ us ev _ bs eb
    obtain ⟨v,e,rv⟩:=eZ r
    obtain ⟨p,ys,ex,hs,rs⟩:=bR R rv ev
    subst e ex
    exact ⟨p,bs,rfl,by rw [←qZ rs eb];exact hs,k _ _ (.bl R m)⟩
   ·exact m.elim
  ·exact m.elim
 ·exact m.elim⟩
def fC:W→Bool
 | .non=>true
 | .bl _=>true
 | .int _=>true
 | .str _=>true
 | _=>false
theorem flat_v {H:Hp}{μ : Mu}{w:W}{v:V}(r:Rep K H μ w v)(f:fC w=true):oA v=true:=by
 cases w <;> first | (rw [Rep] at r;subst r;rfl) | cases f
theorem vp {H:Hp}{μ : Mu}:∀ {ws:List W} {vs:List V},aH K H μ ws vs→ws.all fC=true→vs.all oA=true
 | [],_,r,_=>by rw [aH] at r;subst r;rfl
 | w::ws,_,r,f=>by
  rw [aH] at r
  obtain ⟨v,vs,e,r1,r2⟩:=r
  subst e
  rw [List.all_cons,Bool.and_eq_true] at f ⊢
  exact ⟨flat_v r1 f.1,vp r2 f.2⟩
theorem eq_v {H:Hp}{μ : Mu}{w u:W}{v x:V}(r:Rep K H μ w v)(q:Rep K H μ u x)(f:fC w=true)(g:fC u=true):eqV v x=eqW w u:=by
 cases w <;> cases u <;> first
  | (rw [Rep] at r;rw [Rep] at q;subst r;subst q;rfl)
  | (cases f;done)
  | (cases g;done)
theorem in_vs {H:Hp}{μ : Mu}{u:W}{x:V}(q:Rep K H μ u x)(g:fC u=true):∀ {ws:List W} {vs:List V},aH K H μ ws vs→ws.all fC=true→inV x vs=ws.any fun w=>eqW w u
 | [],_,r,_=>by rw [aH] at r;subst r;rfl
 | w::ws,_,r,f=>by
  rw [aH] at r
  obtain ⟨v,vs,e,r1,r2⟩:=r
  subst e
  rw [List.all_cons,Bool.and_eq_true] at f
  have:=in_vs q g r2 f.2
  unfold inV at this ⊢
  rw [List.any_cons,List.any_cons,this,eq_v r1 q f.1 g]
def kIn:M2:=fun x y h Q=>match view h y with
 | some ws=>by2 (fC x&&ws.all fC) (Q (.bl (ws.any fun w=>eqW w x)) h) False
 | none=>False
def kNin:M2:=fun x y h Q=>match view h y with
 | some ws=>by2 (fC x&&ws.all fC) (Q (.bl (!(ws.any fun w=>eqW w x))) h) False
 | none=>False
theorem o_in:DOp X (compareOp .In) kIn:=⟨_,op_in_seq,by
 intro H μ h x y wx wy Qw Q R rx ry m k
 unfold kIn at m
 split at m
 ·rename_i ws ev
  obtain ⟨p,xs,ey,hs,rs⟩:=jy R ry ev
  cases hp:(fC wx&&ws.all fC) with
  | true=>
   rw [hp] at m
   rw [Bool.and_eq_true] at hp
   exact ⟨p,xs,ey,hs,flat_v rx hp.1,vp rs hp.2,k _ _ (by rw [if_neg Bool.false_ne_true,in_vs rx hp.1 rs hp.2];exact .bl R m)⟩
  | false=>rw [hp] at m;exact (show False from m).elim
 ·exact m.elim⟩
theorem o_nin:DOp X (compareOp .NotIn) kNin:=⟨_,sy,by
 intro H μ h x y wx wy Qw Q R rx ry m k
 unfold kNin at m
 split at m
 ·rename_i ws ev
  obtain ⟨p,xs,ey,hs,rs⟩:=jy R ry ev
  cases hp:(fC wx&&ws.all fC) with
  | true=>
   rw [hp] at m
   rw [Bool.and_eq_true] at hp
   exact ⟨p,xs,ey,hs,flat_v rx hp.1,vp rs hp.2,k _ _ (by rw [if_pos rfl,in_vs rx hp.1 rs hp.2];exact .bl R m)⟩
  | false=>rw [hp] at m;exact (show False from m).elim
 ·exact m.elim⟩
theorem op_catT0:OpR X (binaryOp .Add) (fun x y H Q=>∃ a b ys,x=.ref a∧y=.ref b∧SqT X.K H a []∧SqT X.K H b ys∧Q (.ref b) H):=by
 intro pins s σ H x y v u Q I rx ry ⟨a,b,ys,ex,ey,ha,hb,q⟩
 subst ex ey
 cases rx
 cases ry
 obtain ⟨its,r1,p1,_⟩:=I.tuple ha
 obtain ⟨jts,r2,p2,_⟩:=I.tuple hb
 cases r1
 obtain ⟨⟨cls,dd,data,sl⟩,ho,hc,n,hd⟩:=id p1
 obtain ⟨⟨cls2,dd2,data2,sl2⟩,ho2,hc2,n2,hd2⟩:=id p2
 simp only at hc hd hc2 hd2
 subst hc hd hc2 hd2
 exact concat_meets ⟨_,ho,rfl⟩ ⟨_,ho2,rfl⟩ noFill_tuple_add seq_tuple_add PySem.F.slot_tuple_add PySem.F.entry_tuple_add (PySem.F.args_tuple_add_2 _ _)
  (tuple_addW0 a b _ _ n n2 dd dd2 sl sl2 (by simp)) ⟨ho,ho2,⟨.ref b,H,I,rfl,q⟩⟩
def trkL (h:Gh):W→Option (List W)
 | .lst ws=>some ws
 | .loc n=>(match h.c n with
  | some (.lst ws)=>some ws
  | _=>none)
 | _=>none
theorem vg {H:Hp}{μ : Mu}{h:Gh}{w:W}{v:V}{ws:List W}(R:Rel K μ H h)(r:Rep K H μ w v)(e:trkL h w=some ws):∃ p xs,v=.ref p∧H p=some (.lst xs)∧aH K H μ ws xs:=by
 cases w with
 | lst us=>
  rw [Rep] at r
  obtain ⟨p,xs,ev,hs,rs⟩:=r
  cases (show some us=some ws from e)
  exact ⟨p,xs,ev,hs.1,rs⟩
 | loc n=>
  unfold trkL at e
  dsimp only at e
  cases ec:h.c n with
  | none=>rw [ec] at e;cases e
  | some cl=>
   rw [ec] at e
   cases cl with
   | lst us=>
    cases (show some us=some ws from e)
    obtain ⟨p,xs,ev,_,hx,rs⟩:=locAt R r ec
    exact ⟨p,xs,ev,hx,rs⟩
   | _=>cases e
 | _=>cases e
def cJ:M2:=fun x y h Q=>match x,y with
 | .int i,.int j=>Q (.int (i+j)) h
 | .tup [],.tup b=>Q (.tup b) h
 | .tup (a0::a),.tup b=>gH (a.length+1+b.length) (Q (.tup (a0::a++b)) h)
 | x,y=>(match trkL h x,trkL h y with
  | some a,some b=>gH (a.length+b.length) (Q (.lst (a++b)) h)
  | _,_=>False)
theorem cC:DOp X (binaryOp .Add) cJ:=⟨_,(op_add.or (op_catT0.or op_catT)).or op_cat,by
 intro H μ h x y wx wy Qw Q R rx ry m k
 unfold cJ at m
 split at m
 ·rw [Rep] at rx ry
  exact .inl (.inl ⟨_,_,rx,ry,k _ _ (.int R m)⟩)
 ·rename_i b
  have ry':=ry
  rw [Rep] at rx ry
  obtain ⟨p,xs,ex,hx,r1⟩:=rx
  obtain ⟨q,ys,ey,hy,r2⟩:=ry
  rw [aH] at r1
  subst r1
  rw [ey] at ry'
  exact .inl (.inr (.inl ⟨p,q,ys,ex,ey,hx,hy,k _ _ ⟨μ,_,h,.refl,R,ry',m⟩⟩))
 ·rename_i a0 a b
  have rx':=rx
  rw [Rep] at rx ry
  obtain ⟨p,xs,ex,hx,r1⟩:=rx
  obtain ⟨q,ys,ey,hy,r2⟩:=ry
  have sz:=m.ok.1
  refine .inl (.inr (.inr ⟨p,q,xs,ys,ex,ey,hx,hy,fun z=>(by have:=r1.ne_nil.mp z;cases this),by rw [←r1.len,←r2.len];exact sz,fun z=>?_,fun z l hl=>?_⟩))
  ·have eb:b=[]:=r2.ne_nil.mp z
   subst eb
   refine k _ _ ⟨μ,.tup (a0::a++[]),h,.refl,R,?_,m.ok.2⟩
   rw [List.append_nil,←ex]
   exact rx'
  ·exact k _ _ ⟨μ,_,h,(Ex.laid hl).ext,R.laid hl,.tupNew hl (r1.append r2),m.ok.2⟩
 ·split at m
  ·rename_i a b ea eb
   obtain ⟨p,xs,ex,hx,r1⟩:=vg R rx ea
   obtain ⟨q,ys,ey,hy,r2⟩:=vg R ry eb
   have sz:=m.ok.1
   exact .inr ⟨p,q,xs,ys,ex,ey,hx,hy,by rw [←r1.len,←r2.len];exact sz,fun l hl=>k _ _ ⟨μ,_,h,(Ex.laid hl).ext,R.laid hl,.lstNew R hl (r1.append r2),m.ok.2⟩⟩
  ·exact m.elim⟩
def fJ:MM:=fun x ws h Q=>match x,ws with
 | .loc n,[w]=>(match h.c n,trkL h w with
  | some (.lst us),some zs=>gH (us.length+zs.length) (Q .non (h.set n (.lst (us++zs))))
  | _,_=>False)
 | _,_=>False
theorem s_extend:SimM K rExtend fJ:=by
 intro H μ h x vs wx ws Qw Q R rx rs m k
 unfold fJ at m
 split at m
 ·split at m
  ·rename_i n w _ _ us zs ec ez
   obtain ⟨p,xs,ex,hm,hx,r1⟩:=locAt R rx ec
   obtain ⟨v,ev,rv⟩:=eZ rs
   obtain ⟨q,ys,ey,hy,r2⟩:=vg R rv ez
   subst ey
   have sz:=m.ok.1
   exact ⟨p,q,xs,ys,ex,ev,hx,hy,by rw [←r1.len,←r2.len];exact sz,k _ _ (.wrote R hm (r1.append r2) (by rw [Rep]) m.ok.2)⟩
  ·exact m.elim
 ·exact m.elim
variable {o e:Expr}{mo:ME}{ma:MA}{apos cpos:Pos}
theorem d_extend (ho:DE X o mo)(ha:DAs X [e] ma)
  (hbase:attributeBase o "extend" X.env (eval o X.env)=eval o X.env:=by rfl)
  (hfew:((backTo cpos (starEach [e] X.env)).all (fun x=>!x.1)&&(backToKw cpos (keywordEach [] X.env)).all (fun x=>x.1.isSome)
   && decide (([e]:List Expr).length+([]:List Keyword).length+(if ([]:List Keyword).isEmpty then 0 else 1)<30))=true:=by rfl)
  (hline:(apos.endLine==cpos.line)=true:=by rfl) (hst:starEach [e] X.env=(false,eval e X.env)::starEach [] X.env:=by rfl) (hplain:(backTo cpos (starEach [] X.env)).any (·.1)=false:=by rfl) :
  DE X (.Call (.Attribute o "extend" apos) [e] [] cpos) (u0 fJ mo ma):=d_bm PySem.F.slot_list_extend PySem.F.type_list_extend mt_extend s_extend ho ha hbase hfew hline hst hplain
end
end L2
namespace L2
open PySem PySem.Spec PyProof.Rows
def spLaw (K:PySem.W.Frag):Sp:=fun vs H Q _=>∃ (a:Addr) (ns:List Int),vs=[.ref a]∧SqL K H a (ns.map V.int)∧Only H∧ns.length≤63∧∀ H',Q (.bl true) H'
def g0:Gh:=⟨0,fun _=>none⟩
def μ0:Mu:=⟨fun _=>none,fun _=>False⟩
theorem rel0 {K:PySem.W.Frag}{H:Hp}:Rel K μ0 H g0 where
 inj:=fun m n p h=>by cases (show (none:Option Addr)=some p from h)
 dom:=fun n p h=>by cases (show (none:Option Addr)=some p from h)
 trk:=fun n p h=>by cases (show (none:Option Addr)=some p from h)
 cel:=fun n c h=>by cases (show (none:Option Cell)=some c from h)
 hd:=fun p h=>False.elim h
theorem sO {K:PySem.W.Frag}{H:Hp}{μ : Mu}:∀ ns:List Int,aH K H μ (ns.map W.int) (ns.map V.int)
 | []=>.nil
 | n::ns=>.cons (by rw [Rep]) (sO ns)
theorem law_imp {P:Program}{w:World}{K:PySem.W.Frag}{mg:Str→Option Value}{base:Heap}{k:Nat}{f:Addr}{fd:FuncData}{ps:List Str}{ms:MSp}
  (hm:∀ ns:List Int,ns.length≤63→ms [.kls (ns.map W.int)] g0 (fun w _=>w=.bl true) EF) (F:cB P w K mg base CX0 k f fd ps (lift K ms)):cB P w K mg base CX0 k f fd ps (spLaw K):=
 F.imp fun vs H Q E ⟨a,ns,e,hS,hO,hl,q⟩=>by
  subst e
  refine ⟨μ0,g0,[.kls (ns.map W.int)],_,rel0,.one ?_,hm ns hl,fun v H' ⟨μ',w',h',_,_,r,e⟩=>?_⟩
  ·rw [Rep]
   refine ⟨a,ns.map V.int,rfl,?_,sO ns⟩
   rcases hS with (hS | hS) | hS
   ·rcases hO a with z | ⟨o,xs,z⟩ <;> rw [hS] at z <;> cases z
   ·exact .inl hS
   ·exact .inr hS
  ·subst e
   rw [Rep] at r
   subst r
   exact q H'
end L2
namespace L2
open PySem PySem.Spec PyProof.Rows
inductive Sk where
 | l | t
def Sk.sq (k:Sk)(h:Heap)(a:Addr)(its:Array Value):Prop:=match k with
 | .l=>h.IsList a its
 | .t=>h.IsTuple a its
def Sk.it (k:Sk)(h:Heap)(i a:Addr)(n:Nat):Prop:=match k with
 | .l=>h.IsListIter i a n
 | .t=>h.IsTupleIter i a n
def Sk.nm:Sk→String
 | .l => "list_iterator"
 | .t => "tuple_iterator"
section
variable {P:Program}{w:World}{A:Around}{E:Value→Shared→Prop}{s:Shared}{k k1 k2:Sk}
theorem Sk.it_at {h h':Heap}{i a:Addr}{n:Nat}(x:k.it h i a n)(e:∀ o,h.get? i=some o→h'.get? i=some o):k.it h' i a n:=by
 cases k with
 | l=>obtain ⟨o,ho,r⟩:=x;exact ⟨o,e o ho,r⟩
 | t=>obtain ⟨o,ho,r⟩:=x;exact ⟨o,e o ho,r⟩
theorem Sk.sq_at {h h':Heap}{a:Addr}{its:Array Value}(x:k.sq h a its)(e:∀ o,h.get? a=some o→h'.get? a=some o):k.sq h' a its:=by
 cases k with
 | l=>obtain ⟨o,ho,r⟩:=x;exact ⟨o,e o ho,r⟩
 | t=>obtain ⟨o,ho,r⟩:=x;exact ⟨o,e o ho,r⟩
theorem Sk.it_obj {h:Heap}{i a:Addr}{n:Nat}(x:k.it h i a n):∃ o,h.get? i=some o∧o.cls=.type k.nm∧o.data=.fields #[.ref a,.int n 0]:=by
 cases k with
 | l=>exact x
 | t=>exact x
theorem next_tup {it t:Addr}{i:Nat}{its:Array Value}{x:Value}{Q:Value→Shared→Prop}(hi:s.heap.IsTupleIter it t i)(ht:s.heap.IsTuple t its)(hx:its[i]?=some x)
  (q:∀ h',h'.IsTupleIter it t (i+1)→Heap.SameBut it s.heap h'→Q x { s with heap:=h' }):wpAny (model P w) A (Builtin.SmallTypes.nextOf (.ref it)) Q E s:=by
 obtain ⟨o,go,gc,gd⟩:=id hi
 obtain ⟨ol,gol,_,nl,gdl⟩:=ht
 unfold Builtin.SmallTypes.nextOf
 refine wpAny_bind (wpAny_callSpecial?_slot (name:=Str.ofString "__next__") hi.typeIs PySem.F.slot_tuple_iterator_next
  (wpAny_call_entry PySem.F.slot_tuple_iterator_next hi.typeIs PySem.F.entry_tuple_iterator_next ?_ (PySem.F.args_tuple_iterator_next_1 _)))
 show wpAny _ _ (field (.ref it) 0 >>= _) _ _ s
 refine wpAny_bind (wpAny_field go gd (x:=.ref t) rfl ?_)
 show wpAny _ _ (if (Value.ref t==Value.none)=true then _ else _) _ _ s
 rw [if_neg (by exact Bool.false_ne_true)]
 show wpAny _ _ (field (.ref it) 1 >>= _) _ _ s
 refine wpAny_bind (wpAny_field go gd (x:=.int i 0) rfl ?_)
 show wpAny _ _ (seqItems? (.ref t) >>= _) _ _ s
 refine wpAny_bind (wpAny_seqItems gol gdl ?_)
 simp only [Int.toNat_natCast,hx]
 refine wpAny_bind (wpAny_setField go gd (by simp) (wpAny_pure ⟨x,rfl,wpAny_pure (q _ ?_ (Heap.SameBut.update ..))⟩))
 exact ⟨_,Heap.get?_update_self _ go (Obj.isFreed_of_fields (Obj.data_mapFields gd _)),(Obj.cls_mapFields ..).trans gc,by rw [Obj.data_mapFields gd];simp [rawInt]⟩
theorem tO {it t:Addr}{i:Nat}{its:Array Value}{Q:Value→Shared→Prop}(hh:A.handled=none)(hi:s.heap.IsTupleIter it t i)(ht:s.heap.IsTuple t its)(hx:its[i]?=none)
  (q:∀ h' e,Heap.ExtBut it s.heap h'→(∃ o,h'.get? e=some o∧o.cls=.type "StopIteration")→E (.ref e) { s with heap:=h' }):wpAny (model P w) A (Builtin.SmallTypes.nextOf (.ref it)) Q E s:=by
 obtain ⟨o,go,gc,gd⟩:=id hi
 obtain ⟨ol,gol,_,nl,gdl⟩:=ht
 unfold Builtin.SmallTypes.nextOf
 refine wpAny_bind (wpAny_callSpecial?_slot (name:=Str.ofString "__next__") hi.typeIs PySem.F.slot_tuple_iterator_next
  (wpAny_call_entry PySem.F.slot_tuple_iterator_next hi.typeIs PySem.F.entry_tuple_iterator_next ?_ (PySem.F.args_tuple_iterator_next_1 _)))
 show wpAny _ _ (field (.ref it) 0 >>= _) _ _ s
 refine wpAny_bind (wpAny_field go gd (x:=.ref t) rfl ?_)
 show wpAny _ _ (if (Value.ref t==Value.none)=true then _ else _) _ _ s
 rw [if_neg (by exact Bool.false_ne_true)]
 show wpAny _ _ (field (.ref it) 1 >>= _) _ _ s
 refine wpAny_bind (wpAny_field go gd (x:=.int i 0) rfl ?_)
 show wpAny _ _ (seqItems? (.ref t) >>= _) _ _ s
 refine wpAny_bind (wpAny_seqItems gol gdl ?_)
 simp only [Int.toNat_natCast,hx]
 refine wpAny_bind (wpAny_rule (wpAny_bind (wpAny_setField go gd (by simp) ?_)))
 show wpAny _ _ (newExc (.type "StopIteration") [] >>= _) _ _ _
 refine wpAny_bind ?_
 simp only [newExc,newTuple]
 refine wpAny_bind (wpAny_newObj_type ?_ (by size_fits))
 refine wpAny_bind (m:=firstArgMember _ _) (wpAny_of_eq (a:=Value.none) (by first | rfl | (simp only [firstArgMember];rfl)) ?_)
 refine wpAny_newObj_type ?_ (by size_fits)
 simp only [raiseNew]
 refine wpAny_bind (wpAny_handled ?_)
 first | rw [show A.in1.handled=none from hh] | rw [hh]
 refine wpAny_bind (wpAny_pure (wpAny_throw ?_))
 exact q _ _ (((Heap.SameBut.update ..).extBut.push _).push _) ⟨_,Heap.get?_push_size _ rfl,rfl⟩
theorem Sk.next {it a:Addr}{i:Nat}{its:Array Value}{x:Value}{Q:Value→Shared→Prop}(hi:k.it s.heap it a i)(hs:k.sq s.heap a its)(hx:its[i]?=some x)
  (q:∀ h',k.it h' it a (i+1)→Heap.SameBut it s.heap h'→Q x { s with heap:=h' }):wpAny (model P w) A (Builtin.SmallTypes.nextOf (.ref it)) Q E s:=by
 cases k with
 | l=>exact wpAny_nextOf_list_item hi hs hx q
 | t=>exact next_tup hi hs hx q
theorem Sk.stop {it a:Addr}{i:Nat}{its:Array Value}{Q:Value→Shared→Prop}(hh:A.handled=none)(hi:k.it s.heap it a i)(hs:k.sq s.heap a its)(hx:its[i]?=none)
  (q:∀ h' e,Heap.ExtBut it s.heap h'→(∃ o,h'.get? e=some o∧o.cls=.type "StopIteration")→E (.ref e) { s with heap:=h' }):wpAny (model P w) A (Builtin.SmallTypes.nextOf (.ref it)) Q E s:=by
 cases k with
 | l=>exact wpAny_nextOf_list_end hh hi hs hx q
 | t=>exact tO hh hi hs hx q
theorem Sk.iter {a:Addr}{its:Array Value}{Q:Value→Shared→Prop}(hs:k.sq s.heap a its)
  (q:Q (.ref s.heap.objs.size) { s with heap:=s.heap.push { cls:=.type k.nm,data:=.fields #[.ref a,.int 0 0] } }):wpAny (model P w) A (pyIter (.ref a)) Q E s:=by
 cases k with
 | l=>exact wpAny_pyIter_list hs q
 | t=>exact wpAny_pyIter_tuple hs q
structure Zap (z TI TO i1 i2:Addr):Prop where
 a1:TI≠z
 a2:TO≠z
 a3:i1≠z
 a4:i2≠z
 a5:TI≠TO
 a6:TI≠i1
 a7:TI≠i2
 a8:TO≠i1
 a9:TO≠i2
 b1:i1≠i2
structure Off (a z TO i1 i2:Addr):Prop where
 z:a≠z
 o:a≠TO
 i:a≠i1
 j:a≠i2
theorem zip_item {z TI TO i1 i2 l1 l2:Addr}{n1 n2:Nat}{xs ys:Array Value}{x y a b:Value}{Q:Option Value→Shared→Prop}(D:Zap z TI TO i1 i2)(o1:Off l1 z TO i1 i2)(o2:Off l2 z TO i1 i2)
  (gz:IsZip s.heap z TI TO .none) (gI:IsPair s.heap TI (.ref i1) (.ref i2)) (gO:IsPair s.heap TO a b) (g1:k1.it s.heap i1 l1 n1) (g2:k2.it s.heap i2 l2 n2) (gx:k1.sq s.heap l1 xs) (gy:k2.sq s.heap l2 ys)
  (hx:xs[n1]?=some x) (hy:ys[n2]?=some y)
  (q:∀ h',IsZip h' z TI TO (rawInt s.heap.objs.size)→IsPair h' TO x y→k1.it h' i1 l1 (n1+1)→k2.it h' i2 l2 (n2+1)→IsPair h' s.heap.objs.size x y→h'.objs.size=s.heap.objs.size+1 →
   (∀ c o,c≠z→c≠TO→c≠i1→c≠i2→s.heap.get? c=some o→h'.get? c=some o)→Q (some (.ref s.heap.objs.size)) { s with heap:=h' }) :
  wpAny (model P w) A (pyNext (.ref z)) Q E s:=by
 have gT:s.TypeIs (.ref z) "zip":=⟨_,gz,rfl⟩
 unfold pyNext
 refine wpAny_bind (wpAny_attempt (wpAny_callSpecial?_slot (name:=Str.ofString "__next__") gT PySem.F.slot_zip_next (wpAny_call_entry PySem.F.slot_zip_next gT PySem.F.entry_zip_next ?_ (PySem.F.args_zip_next_1 _))))
 show wpAny _ _ (field (.ref z) 2 >>= _) _ _ _
 refine wpAny_bind (wpAny_field gz rfl (x:=.bool false) rfl ?_)
 show wpAny _ _ (field (.ref z) 3 >>= _) _ _ _
 refine wpAny_bind (wpAny_field gz rfl (x:=.ref TI) rfl ?_)
 refine wpAny_bind (wpAny_seqItems gI rfl ?_)
 show wpAny _ _ (Builtin.SmallTypes.ownedTupleIsFree (.ref z) >>= _) _ _ _
 refine wpAny_bind ?_
 unfold Builtin.SmallTypes.ownedTupleIsFree
 refine wpAny_bind (wpAny_field gz rfl (x:=.none) rfl (wpAny_pure ?_))
 simp only [if_true]
 refine wpAny_bind (wpAny_rule ?_)
 refine wpAny_bind (wpAny_field gz rfl (x:=.ref TO) rfl ?_)
 refine wpAny_bind (wpAny_setField_rec gz (by simp) fun h₁ z₁ s₁=>?_)
 replace z₁ : IsZip h₁ z TI TO .ellipsis:=z₁
 refine wpAny_bind ?_
 simp only [List.zipIdx_cons,List.zipIdx_nil,List.forIn_cons,List.forIn_nil]
 -- the first one
 refine wpAny_bind (wpAny_bind (wpAny_onRaise ?_))
 show wpAny _ _ (Builtin.SmallTypes.nextOf (.ref i1) >>= _) _ _ _
 refine wpAny_bind (Sk.next (k:=k1) (s:={ s with heap:=h₁ }) (Sk.it_at g1 fun o e=>s₁.extBut _ o D.a3 e) (Sk.sq_at gx fun o e=>s₁.extBut _ o o1.z e) hx fun h₂ g1₂ s₂=>wpAny_pure ?_)
 have gO₂ : IsPair h₂ TO a b:=s₂.extBut _ _ D.a8 (s₁.extBut _ _ D.a2 gO)
 refine wpAny_bind (wpAny_seqItems gO₂ rfl ?_)
 refine wpAny_bind (wpAny_updateSeq_pair gO₂ fun h₃ gO₃ s₃=>?_)
 replace gO₃ : IsPair h₃ TO x b:=gO₃
 refine wpAny_bind (wpAny_letGo (wpAny_pure ?_))
 -- the second one
 refine wpAny_bind (wpAny_bind (wpAny_onRaise ?_))
 show wpAny _ _ (Builtin.SmallTypes.nextOf (.ref i2) >>= _) _ _ _
 refine wpAny_bind (Sk.next (k:=k2) (s:={ s with heap:=h₃ }) (Sk.it_at g2 fun o e=>s₃.extBut _ o D.a9.symm (s₂.extBut _ o D.b1.symm (s₁.extBut _ o D.a4 e)))
  (Sk.sq_at gy fun o e=>s₃.extBut _ o o2.o (s₂.extBut _ o o2.i (s₁.extBut _ o o2.z e))) hy fun h₄ g2₄ s₄=>wpAny_pure ?_)
 have gO₄ : IsPair h₄ TO x b:=s₄.extBut _ _ D.a9 gO₃
 refine wpAny_bind (wpAny_seqItems gO₄ rfl ?_)
 refine wpAny_bind (wpAny_updateSeq_pair gO₄ fun h₅ gO₅ s₅=>?_)
 replace gO₅ : IsPair h₅ TO x y:=gO₅
 refine wpAny_bind (wpAny_letGo (wpAny_pure (wpAny_pure ?_)))
 -- the pair is handed out
 refine wpAny_bind (wpAny_seqItems gO₅ rfl ?_)
 refine wpAny_bind (wpAny_newTuple ?_)
 have size:h₅.objs.size=s.heap.objs.size:=by rw [s₅.1,s₄.1,s₃.1,s₂.1,s₁.1]
 have z₅ : IsZip h₅ z TI TO .ellipsis:=s₅.extBut _ _ D.a2.symm (s₄.extBut _ _ D.a4.symm (s₃.extBut _ _ D.a2.symm (s₂.extBut _ _ D.a3.symm z₁)))
 have all₅ : ∀ c o,c≠z→c≠TO→c≠i1→c≠i2→s.heap.get? c=some o→h₅.get? c=some o:=fun c o c1 c2 c3 c4 e=>s₅.extBut _ _ c2 (s₄.extBut _ _ c4 (s₃.extBut _ _ c2 (s₂.extBut _ _ c3 (s₁.extBut _ _ c1 e))))
 have g1₅ : k1.it h₅ i1 l1 (n1+1):=Sk.it_at g1₂ fun o e=>s₅.extBut _ o D.a8.symm (s₄.extBut _ o D.b1 (s₃.extBut _ o D.a8.symm e))
 have g2₅ : k2.it h₅ i2 l2 (n2+1):=Sk.it_at g2₄ fun o e=>s₅.extBut _ o D.a9.symm e
 have zlt:z<h₅.objs.size:=Heap.lt_size z₅
 show wpAny _ _ (Builtin.SmallTypes.ownedTupleHandOut (.ref z) (.ref h₅.objs.size) >>= _) _ _ _
 refine wpAny_bind ?_
 unfold Builtin.SmallTypes.ownedTupleHandOut
 have z₆ : IsZip (h₅.push { cls:=.type "tuple",data:=.seq #[x,y] }) z TI TO .ellipsis:=Heap.get?_push_of_some _ z₅
 refine wpAny_bind (wpAny_setField_rec z₆ (by simp) fun h₇ z₇ s₇=>?_)
 replace z₇ : IsZip h₇ z TI TO (rawInt h₅.objs.size):=z₇
 refine wpAny_setField_rec z₇ (by simp) fun h₈ z₈ s₈=>?_
 replace z₈ : IsZip h₈ z TI TO (rawInt h₅.objs.size):=z₈
 have up:∀ c o,c≠z→h₅.get? c=some o→h₈.get? c=some o:=fun c o c1 e=>s₈.extBut _ _ c1 (s₇.extBut _ _ c1 (Heap.get?_push_of_some _ e))
 have T₈ : IsPair h₈ h₅.objs.size x y:=s₈.extBut _ _ (Nat.ne_of_gt zlt) (s₇.extBut _ _ (Nat.ne_of_gt zlt) (Heap.get?_push_size _ rfl))
 have size8:h₈.objs.size=h₅.objs.size+1:=by rw [s₈.1,s₇.1,Heap.size_push]
 rw [size] at z₈ T₈ size8
 refine wpAny_pure ⟨_,rfl,wpAny_pure ?_⟩
 show Q (some (.ref h₅.objs.size)) _
 rw [size]
 exact q h₈ z₈ (up _ _ D.a2 gO₅) (Sk.it_at g1₅ fun o e=>up _ o D.a3 e) (Sk.it_at g2₅ fun o e=>up _ o D.a4 e) T₈ size8 fun c o c1 c2 c3 c4 e=>up c o c1 (all₅ c o c1 c2 c3 c4 e)
theorem zip_stop {z TI TO i1 i2 l1 l2:Addr}{n1 n2:Nat}{xs ys:Array Value}{a b:Value}{Q:Option Value→Shared→Prop}(hh:A.handled=none)(D:Zap z TI TO i1 i2)(o1:Off l1 z TO i1 i2)(o2:Off l2 z TO i1 i2)
  (gz:IsZip s.heap z TI TO .none) (gI:IsPair s.heap TI (.ref i1) (.ref i2)) (gO:IsPair s.heap TO a b) (g1:k1.it s.heap i1 l1 n1) (g2:k2.it s.heap i2 l2 n2) (gx:k1.sq s.heap l1 xs) (gy:k2.sq s.heap l2 ys)
  (hend:xs[n1]?=none∨ys[n2]?=none)
  (q:∀ h',(∀ c o,c≠z→c≠TO→c≠i1→c≠i2→s.heap.get? c=some o→h'.get? c=some o)→Q none { s with heap:=h' }):wpAny (model P w) A (pyNext (.ref z)) Q E s:=by
 have gT:s.TypeIs (.ref z) "zip":=⟨_,gz,rfl⟩
 have fin:∀ (h':Heap) (e:Addr),(∀ c o,c≠z→c≠TO→c≠i1→c≠i2→s.heap.get? c=some o→h'.get? c=some o)→(∃ o,h'.get? e=some o∧o.cls=.type "StopIteration") →
   wpAny (model P w) A (do if ←isInstance (.ref e) (.type "StopIteration") then pure none else throw (.ref e)) Q E { s with heap:=h' }:=fun h' e all ⟨o,ho,hc⟩=>
  wpAny_bind (wpAny_isInstance (T := "StopIteration") (b:=true) ⟨o,ho,hc⟩ isSubtype_stop (wpAny_pure (q _ all)))
 unfold pyNext
 refine wpAny_bind (wpAny_attempt (wpAny_callSpecial?_slot (name:=Str.ofString "__next__") gT PySem.F.slot_zip_next (wpAny_call_entry PySem.F.slot_zip_next gT PySem.F.entry_zip_next ?_ (PySem.F.args_zip_next_1 _))))
 show wpAny _ _ (field (.ref z) 2 >>= _) _ _ _
 refine wpAny_bind (wpAny_field gz rfl (x:=.bool false) rfl ?_)
 show wpAny _ _ (field (.ref z) 3 >>= _) _ _ _
 refine wpAny_bind (wpAny_field gz rfl (x:=.ref TI) rfl ?_)
 refine wpAny_bind (wpAny_seqItems gI rfl ?_)
 show wpAny _ _ (Builtin.SmallTypes.ownedTupleIsFree (.ref z) >>= _) _ _ _
 refine wpAny_bind ?_
 unfold Builtin.SmallTypes.ownedTupleIsFree
 refine wpAny_bind (wpAny_field gz rfl (x:=.none) rfl (wpAny_pure ?_))
 simp only [if_true]
 refine wpAny_bind (wpAny_rule ?_)
 refine wpAny_bind (wpAny_field gz rfl (x:=.ref TO) rfl ?_)
 refine wpAny_bind (wpAny_setField_rec gz (by simp) fun h₁ z₁ s₁=>?_)
 replace z₁ : IsZip h₁ z TI TO .ellipsis:=z₁
 refine wpAny_bind ?_
 simp only [List.zipIdx_cons,List.zipIdx_nil,List.forIn_cons,List.forIn_nil]
 refine wpAny_bind (wpAny_bind (wpAny_onRaise ?_))
 show wpAny _ _ (Builtin.SmallTypes.nextOf (.ref i1) >>= _) _ _ _
 have g1₁ : k1.it h₁ i1 l1 n1:=Sk.it_at g1 fun o e=>s₁.extBut _ o D.a3 e
 have gx₁ : k1.sq h₁ l1 xs:=Sk.sq_at gx fun o e=>s₁.extBut _ o o1.z e
 cases hx:xs[n1]? with
 | none=>
  refine wpAny_bind (Sk.stop (k:=k1) (s:={ s with heap:=h₁ }) hh g1₁ gx₁ hx fun h₂ e s₂ he=>?_)
  obtain ⟨oe,hoe,hce⟩:=he
  have z₂ : IsZip h₂ z TI TO .ellipsis:=s₂ _ _ D.a3.symm z₁
  have ez:e≠z:=fun y=>by subst y;rw [z₂] at hoe;cases hoe;simp at hce
  refine wpAny_setField_rec z₂ (by simp) fun h₃ _ s₃=>fin h₃ e (fun c o c1 _ c3 _ y=>s₃.extBut _ _ c1 (s₂ _ _ c3 (s₁.extBut _ _ c1 y))) ⟨oe,s₃.extBut _ _ ez hoe,hce⟩
 | some x=>
  have hy:ys[n2]?=none:=by
   rcases hend with h | h
   ·rw [hx] at h;cases h
   ·exact h
  refine wpAny_bind (Sk.next (k:=k1) (s:={ s with heap:=h₁ }) g1₁ gx₁ hx fun h₂ g1₂ s₂=>wpAny_pure ?_)
  have gO₂ : IsPair h₂ TO a b:=s₂.extBut _ _ D.a8 (s₁.extBut _ _ D.a2 gO)
  refine wpAny_bind (wpAny_seqItems gO₂ rfl ?_)
  refine wpAny_bind (wpAny_updateSeq_pair gO₂ fun h₃ gO₃ s₃=>?_)
  refine wpAny_bind (wpAny_letGo (wpAny_pure ?_))
  refine wpAny_bind (wpAny_bind (wpAny_onRaise ?_))
  show wpAny _ _ (Builtin.SmallTypes.nextOf (.ref i2) >>= _) _ _ _
  refine wpAny_bind (Sk.stop (k:=k2) (s:={ s with heap:=h₃ }) hh (Sk.it_at g2 fun o e=>s₃.extBut _ o D.a9.symm (s₂.extBut _ o D.b1.symm (s₁.extBut _ o D.a4 e)))
   (Sk.sq_at gy fun o e=>s₃.extBut _ o o2.o (s₂.extBut _ o o2.i (s₁.extBut _ o o2.z e))) hy fun h₄ e s₄ he=>?_)
  obtain ⟨oe,hoe,hce⟩:=he
  have z₄ : IsZip h₄ z TI TO .ellipsis:=s₄ _ _ D.a4.symm (s₃.extBut _ _ D.a2.symm (s₂.extBut _ _ D.a3.symm z₁))
  have ez:e≠z:=fun y=>by subst y;rw [z₄] at hoe;cases hoe;simp at hce
  refine wpAny_setField_rec z₄ (by simp) fun h₅ _ s₅=>fin h₅ e (fun c o c1 c2 c3 c4 y=>s₅.extBut _ _ c1 (s₄ _ _ c4 (s₃.extBut _ _ c2 (s₂.extBut _ _ c3 (s₁.extBut _ _ c1 y))))) ⟨oe,s₅.extBut _ _ ez hoe,hce⟩
abbrev zh1 (k1:Sk)(h:Heap)(l1:Addr):Heap:=h.push { cls:=.type k1.nm,data:=.fields #[.ref l1,.int 0 0] }
abbrev zh2 (k1 k2:Sk)(h:Heap)(l1 l2:Addr):Heap:=(zh1 k1 h l1).push { cls:=.type k2.nm,data:=.fields #[.ref l2,.int 0 0] }
abbrev zh3 (k1 k2:Sk)(h:Heap)(l1 l2:Addr):Heap:=(zh2 k1 k2 h l1 l2).push { cls:=.type "tuple",data:=.seq #[.ref h.objs.size,.ref (zh1 k1 h l1).objs.size] }
abbrev zh4 (k1 k2:Sk)(h:Heap)(l1 l2:Addr):Heap:=(zh3 k1 k2 h l1 l2).push { cls:=.type "tuple",data:=.seq #[.none,.none] }
abbrev zh5 (k1 k2:Sk)(h:Heap)(l1 l2:Addr):Heap:=(zh4 k1 k2 h l1 l2).push { cls:=.type "zip",data:=.fields #[.none,.bool false,.bool false,.ref (zh2 k1 k2 h l1 l2).objs.size,.ref (zh3 k1 k2 h l1 l2).objs.size] }
theorem zip_new (l1 l2:Addr)(xs ys:Array Value):Meets (Builtin.«zip.__new__» ⟨[.type "zip",.ref l1,.ref l2],[]⟩) (fun _ R s=>k1.sq s.heap l1 xs∧k2.sq s.heap l2 ys ∧
   R (.ok (.ret (.ref (zh4 k1 k2 s.heap l1 l2).objs.size))) { s with heap:=zh5 k1 k2 s.heap l1 l2 }):=
 .of_wp fun prog w A R s h=>by
  obtain ⟨hp,g,d,tk,os⟩:=s;obtain ⟨gl1,gl2,h⟩:=h
  have hsub:=sub_zip
  have L1:k1.sq (Shared.heap ⟨hp,g,d,tk,os⟩) l1 xs:=gl1
  have L2':k2.sq (Shared.heap ⟨hp.push { cls:=.type k1.nm,data:=.fields #[.ref l1,.int 0 0] },g,d,tk,os⟩) l2 ys:=Sk.sq_at gl2 fun o e=>Heap.get?_push_of_some _ e
  wp_walk using Sk.iter L1,Sk.iter L2'
  exact ⟨_,rfl,h⟩
theorem call_zip {l1 l2:Addr}{xs ys:Array Value}{Q:Value→Shared→Prop}(gl1:k1.sq s.heap l1 xs)(gl2:k2.sq s.heap l2 ys)
  (q:∀ h',IsZip h' (s.heap.objs.size+4) (s.heap.objs.size+2) (s.heap.objs.size+3) .none→IsPair h' (s.heap.objs.size+2) (.ref s.heap.objs.size) (.ref (s.heap.objs.size+1)) →
   IsPair h' (s.heap.objs.size+3) .none .none→k1.it h' s.heap.objs.size l1 0→k2.it h' (s.heap.objs.size+1) l2 0→h'.objs.size=s.heap.objs.size+5 →
   (∀ c o,s.heap.get? c=some o→h'.get? c=some o)→Q (.ref (s.heap.objs.size+4)) { s with heap:=h' }):wpAny (model P w) A (call (.type "zip") [.ref l1,.ref l2]) Q E s:=by
 refine callType_new PySem.F.called_zip (by decide) (PySem.F.typeCall_zip_2 _ _) (PySem.F.newCall_zip_2 _ _) (fun obj=>PySem.F.args_object_init_3 obj _ _) PySem.F.entry_zip_new (zip_new (k1:=k1) (k2:=k2) l1 l2 xs ys) ⟨gl1,gl2,?_⟩
 have e1:(zh1 k1 s.heap l1).objs.size=s.heap.objs.size+1:=Heap.size_push ..
 have e2:(zh2 k1 k2 s.heap l1 l2).objs.size=s.heap.objs.size+2:=by rw [Heap.size_push,e1]
 have e3:(zh3 k1 k2 s.heap l1 l2).objs.size=s.heap.objs.size+3:=by rw [Heap.size_push,e2]
 have e4:(zh4 k1 k2 s.heap l1 l2).objs.size=s.heap.objs.size+4:=by rw [Heap.size_push,e3]
 have e5:(zh5 k1 k2 s.heap l1 l2).objs.size=s.heap.objs.size+5:=by rw [Heap.size_push,e4]
 have f5:(zh5 k1 k2 s.heap l1 l2).get? (zh4 k1 k2 s.heap l1 l2).objs.size=some _:=Heap.get?_push_size _ rfl
 have f4:(zh5 k1 k2 s.heap l1 l2).get? (zh3 k1 k2 s.heap l1 l2).objs.size=some _:=Heap.get?_push_of_some _ (Heap.get?_push_size _ rfl)
 have f3:(zh5 k1 k2 s.heap l1 l2).get? (zh2 k1 k2 s.heap l1 l2).objs.size=some _:=Heap.get?_push_of_some _ (Heap.get?_push_of_some _ (Heap.get?_push_size _ rfl))
 have f2:(zh5 k1 k2 s.heap l1 l2).get? (zh1 k1 s.heap l1).objs.size=some _:=Heap.get?_push_of_some _ (Heap.get?_push_of_some _ (Heap.get?_push_of_some _ (Heap.get?_push_size _ rfl)))
 have f1:(zh5 k1 k2 s.heap l1 l2).get? s.heap.objs.size=some _:=Heap.get?_push_of_some _ (Heap.get?_push_of_some _ (Heap.get?_push_of_some _ (Heap.get?_push_of_some _ (Heap.get?_push_size _ rfl))))
 show _∧_
 rw [e2,e3,e4] at f5
 rw [e1,e2] at f3
 rw [e3] at f4
 rw [e1] at f2
 rw [e4]
 refine ⟨⟨_,f5,rfl⟩,q _ f5 f3 f4 ?_ ?_ e5 fun c o x=>Heap.get?_push_of_some _ (Heap.get?_push_of_some _ (Heap.get?_push_of_some _ (Heap.get?_push_of_some _ (Heap.get?_push_of_some _ x))))⟩
 ·cases k1 with
  | l=>exact ⟨_,f1,rfl,rfl⟩
  | t=>exact ⟨_,f1,rfl,rfl⟩
 ·cases k2 with
  | l=>exact ⟨_,f2,rfl,rfl⟩
  | t=>exact ⟨_,f2,rfl,rfl⟩
end
end L2
namespace L2
open PySem PySem.Spec PyProof.Rows
section
variable {X:Cx}{pins:List (Addr×Obj)}{σ : St}{H:Hp}{s:Shared}{h':Heap}
theorem Inv.turnedL {t':Nat}{ch:List Addr}(I:Inv X pins σ H s)(k:∀ b o,b∉ch→s.heap.get? b=some o→h'.get? b=some o)(hf:∀ b∈ch,zM X pins H b):Inv X pins σ H { s with heap:=h',toks:=t' }:=by
 have nit:∀ b u,H b=some u→b∉ch:=fun b u e z=>by rw [(hf b z).1] at e;cases e
 refine I.step (g':=s.gens) (d':=s.drawn) (ch:=ch) (fun b hb=>?_) (fun b o _ _ hc e _=>k b o hc e) (fun b o _ _ hc e _=>⟨o.slots,k b o hc e⟩) (fun _ _ _ _ n=>n)
  (fun b o hc e=>⟨o,k b o hc e⟩) (fun _ _ e=>e) (fun _ _ _ e=>e) (fun b ps e=>⟨#[],by rw [e];simp⟩) (fun m hm=>?_) (fun b u e=>?_) I.bare
 ·obtain ⟨_,f1,_,f3,f4,f5⟩:=hf b hb
  exact ⟨f3,f1,f4,f5⟩
 ·obtain ⟨o,es,ep,ho,r⟩:=hm
  exact ⟨o,es,ep,k _ o (fun z=>(hf _ z).2.1 rfl) ho,r⟩
 ·refine (I.hok b u e).stay (fun c v hc q=>k c v ?_ q) (fun _ q=>q) fun _ _ q=>q
  rcases hc with z | z
  ·rw [z];exact nit b u e
  ·exact nit c _ z
end
def Sk.v (k:Sk)(K:PySem.W.Frag)(H:Hp)(a:Addr)(xs:List V):Prop:=match k with
 | .l=>SqL K H a xs
 | .t=>SqT K H a xs
theorem Inv.sk {X:Cx}{pins:List (Addr×Obj)}{σ : St}{H:Hp}{s:Shared}{k:Sk}{a:Addr}{xs:List V}(I:Inv X pins σ H s)(h:k.v X.K H a xs):∃ its:List Value,Vals xs its∧k.sq s.heap a its.toArray:=by
 cases k with
 | l=>obtain ⟨its,r,p,_⟩:=I.list h;exact ⟨its,r,p.isList⟩
 | t=>obtain ⟨its,r,p,_⟩:=I.tuple h;exact ⟨its,r,p⟩
theorem Inv.sk_inj {X:Cx}{pins:List (Addr×Obj)}{σ : St}{H:Hp}{s:Shared}{k:Sk}{a:Addr}{xs ys:List V}(I:Inv X pins σ H s)(h:k.v X.K H a xs)(g:k.v X.K H a ys):xs=ys:=by
 cases k with
 | l=>exact I.list_inj h g
 | t=>exact I.tuple_inj h g
def Itz (K:PySem.W.Frag)(k1 k2:Sk)(l1 l2:Addr):It:=
  ⟨fun i H=>∃ xs ys x y,k1.v K H l1 xs∧k2.v K H l2 ys∧xs[i]?=some x∧ys[i]?=some y,
   fun i H v H'=>∃ p x y,H p=none∧v=.ref p∧H'=upd H p (.tup [x,y])∧(∀ xs,k1.v K H l1 xs→xs[i]?=some x)∧∀ ys,k2.v K H l2 ys→ys[i]?=some y,
   fun i H=>∃ xs ys,k1.v K H l1 xs∧k2.v K H l2 ys∧(xs.length≤i∨ys.length≤i),true⟩
def zipSt (k1 k2:Sk)(z TI TO i1 i2 l1 l2:Addr)(n:Nat)(h:Heap):Prop:=IsZip h z TI TO .none∧IsPair h TI (.ref i1) (.ref i2)∧(∃ a b,IsPair h TO a b)∧k1.it h i1 l1 n∧k2.it h i2 l2 n
theorem turn_zip {P:Program}{w:World}{K:PySem.W.Frag}{elts:List Expr}{kt:Nat}{pos:Pos}{k1 k2:Sk}{z TI TO i1 i2 l1 l2:Addr}(D:Zap z TI TO i1 i2)(o1:Off l1 z TO i1 i2)(o2:Off l2 z TO i1 i2) :
  Turn P w K (.Tuple elts kt pos) (Itz K k1 k2 l1 l2) [z,TI,TO,i1,i2] z (zipSt k1 k2 z TI TO i1 i2 l1 l2) where
 mem:=by simp
 obj:=fun i h st b hb=>by
  obtain ⟨gz,gI,⟨a,b',gO⟩,g1,g2⟩:=st
  simp only [List.mem_cons,List.not_mem_nil,or_false] at hb
  rcases hb with rfl | rfl | rfl | rfl | rfl
  ·exact ⟨_,gz,fun v y=>by cases y⟩
  ·exact ⟨_,gI,fun v y=>by cases y⟩
  ·exact ⟨_,gO,fun v y=>by cases y⟩
  ·obtain ⟨o,e,_,d⟩:=Sk.it_obj g1;exact ⟨o,e,fun v y=>by rw [d] at y;cases y⟩
  ·obtain ⟨o,e,_,d⟩:=Sk.it_obj g2;exact ⟨o,e,fun v y=>by rw [d] at y;cases y⟩
 keep:=fun i h h' st k=>by
  obtain ⟨gz,gI,⟨a,b,gO⟩,g1,g2⟩:=st
  exact ⟨k z (by simp) _ gz,k TI (by simp) _ gI,⟨a,b,k TO (by simp) _ gO⟩,Sk.it_at g1 fun o e=>k i1 (by simp) o e,Sk.it_at g2 fun o e=>k i2 (by simp) o e⟩
 item:=by
  intro X hP hw hK hc i pins s σ H E I hf st hg
  subst hP hw hK
  obtain ⟨gz,gI,⟨a,b,gO⟩,g1,g2⟩:=st
  obtain ⟨xs,ys,x,y,hx,hy,ex,ey⟩:=hg
  obtain ⟨its,r1,p1⟩:=I.sk hx
  obtain ⟨jts,r2,p2⟩:=I.sk hy
  obtain ⟨u,hu,ru⟩:=r1.get ex
  obtain ⟨v,hv,rv⟩:=r2.get ey
  refine zip_item D o1 o2 gz gI gO g1 g2 p1 p2 (x:=u) (y:=v) (by simpa using hu) (by simpa using hv) fun h1 z1 O1 g1' g2' T1 size1 all1=>⟨_,rfl,?_⟩
  have pz:s.heap.objs.size≠z:=Nat.ne_of_gt (Heap.lt_size gz)
  have lt:∀ b∈[z,TI,TO,i1,i2],s.heap.objs.size≠b:=fun b hb=>by
   simp only [List.mem_cons,List.not_mem_nil,or_false] at hb
   rcases hb with rfl | rfl | rfl | rfl | rfl
   ·exact pz
   ·exact Nat.ne_of_gt (Heap.lt_size gI)
   ·exact Nat.ne_of_gt (Heap.lt_size gO)
   ·obtain ⟨o,e,_⟩:=Sk.it_obj g1;exact Nat.ne_of_gt (Heap.lt_size e)
   ·obtain ⟨o,e,_⟩:=Sk.it_obj g2;exact Nat.ne_of_gt (Heap.lt_size e)
  have all:∀ c o,c∉[z,TI,TO,i1,i2]→s.heap.get? c=some o→h1.get? c=some o:=fun c o hc e=>
   all1 c o (fun q=>hc (by simp [q])) (fun q=>hc (by simp [q])) (fun q=>hc (by simp [q])) (fun q=>hc (by simp [q])) e
  refine wpAny_letOwnedTupleGo_zip (s:={ s with heap:=h1 }) z1 fun h2 z2 sb=>?_
  have fr:H s.heap.objs.size=none:=I.hok.fresh (Nat.le_refl _)
  have I1:Inv X pins σ (upd H s.heap.objs.size (.tup [x,y])) { s with heap:=s.heap.push { cls:=.type "tuple",data:=.seq #[u,v] } }:=
   I.laid (t':=s.toks) (fun b o e=>Heap.get?_push_of_some _ e) (Nat.le_refl _) ⟨(by show 2≤sizeLine;decide),[u,v],.cons ru (.cons rv .nil),⟨_,Heap.get?_push_size _ rfl,rfl,_,rfl⟩⟩
  have hf1:∀ b∈[z,TI,TO,i1,i2],zM X pins (upd H s.heap.objs.size (.tup [x,y])) b:=fun b hb=>⟨by rw [aG (Ne.symm (lt b hb))];exact (hf b hb).1,(hf b hb).2⟩
  have I2:Inv X pins σ (upd H s.heap.objs.size (.tup [x,y])) { s with heap:=h2 }:=by
   refine Inv.turnedL (s:={ s with heap:=s.heap.push { cls:=.type "tuple",data:=.seq #[u,v] } }) (h':=h2) (t':=s.toks) (ch:=[z,TI,TO,i1,i2]) I1 (fun b o hb e=>?_) hf1
   have bz:b≠z:=fun q=>hb (by simp [q])
   rcases Heap.get?_push_cases e with ⟨rfl,rfl⟩ | e'
   ·exact sb.extBut _ _ bz T1
   ·exact sb.extBut _ _ bz (all b o hb e')
  refine ⟨.ref s.heap.objs.size,_,I2,rfl,⟨s.heap.objs.size,x,y,fr,rfl,rfl,fun xs' q=>by rw [I.sk_inj q hx];exact ex,fun ys' q=>by rw [I.sk_inj q hy];exact ey⟩,?_,fun b hb=>(hf1 b hb).1⟩
  exact ⟨z2,sb.extBut _ _ D.a1 (all1 _ _ D.a1 D.a5 D.a6 D.a7 gI),⟨u,v,sb.extBut _ _ D.a2 O1⟩,Sk.it_at g1' fun o e=>sb.extBut _ o D.a3 e,Sk.it_at g2' fun o e=>sb.extBut _ o D.a4 e⟩
 done:=by
  intro X hP hw hK hc i pins s σ H E I hf st hg
  subst hP hw hK
  obtain ⟨gz,gI,⟨a,b,gO⟩,g1,g2⟩:=st
  obtain ⟨xs,ys,hx,hy,hend⟩:=hg
  obtain ⟨its,r1,p1⟩:=I.sk hx
  obtain ⟨jts,r2,p2⟩:=I.sk hy
  have l1:=r1.length
  have l2:=r2.length
  refine zip_stop (I.ok.hd (hc rfl)) D o1 o2 gz gI gO g1 g2 p1 p2 (hend.imp (fun q=>by simp;omega) fun q=>by simp;omega) fun h1 all1=>⟨rfl,I.turnedL (t':=s.toks) (ch:=[z,TI,TO,i1,i2]) (fun c o hc e=>?_) hf⟩
  exact all1 c o (fun q=>hc (by simp [q])) (fun q=>hc (by simp [q])) (fun q=>hc (by simp [q])) (fun q=>hc (by simp [q])) e
 self:=fun _ _ _ _ _ st h=>wpAny_pyIter_zip st.1 h
section
variable {X:Cx}{K:PySem.W.Frag}
def sqk (K:PySem.W.Frag)(H:Hp)(x:V)(k:Sk)(a:Addr):Prop:=x=.ref a∧∃ xs,k.v K H a xs
def iZip (K:PySem.W.Frag)(ta:TA):TI:=fun σ H R=>ta σ H fun vs H1=>∃ x y k1 k2 a b,vs=[x,y]∧sqk K H1 x k1 a∧sqk K H1 y k2 b∧R (Itz K k1 k2 a b) H1
theorem Sk.sq_lt {k:Sk}{h:Heap}{a:Addr}{its:Array Value}(x:k.sq h a its):a<h.objs.size:=by
 cases k with
 | l=>obtain ⟨o,e,_⟩:=x;exact Heap.lt_size e
 | t=>obtain ⟨o,e,_⟩:=x;exact Heap.lt_size e
theorem jq {a b:Nat}(h:a≠b):(show Addr from a)≠(show Addr from b):=h
theorem zap_of (n:Nat):Zap (n+4) (n+2) (n+3) n (n+1) where
 a1:=jq (show n+2≠n+4 by omega)
 a2:=jq (show n+3≠n+4 by omega)
 a3:=jq (show n≠n+4 by omega)
 a4:=jq (show n+1≠n+4 by omega)
 a5:=jq (show n+2≠n+3 by omega)
 a6:=jq (show n+2≠n by omega)
 a7:=jq (show n+2≠n+1 by omega)
 a8:=jq (show n+3≠n by omega)
 a9:=jq (show n+3≠n+1 by omega)
 b1:=jq (show n≠n+1 by omega)
theorem jV {a n:Nat}(h:a<n):Off a (n+4) (n+3) n (n+1) where
 z:=jq (show a≠n+4 by omega)
 o:=jq (show a≠n+3 by omega)
 i:=jq (show a≠n by omega)
 j:=jq (show a≠n+1 by omega)
theorem ge_of {n c:Nat}(h:c∈([n+4,n+2,n+3,n,n+1]:List Nat)):n≤c:=by
 simp only [List.mem_cons,List.not_mem_nil,or_false] at h
 omega
theorem pi_zip {e1 e2:Expr}{ta:TA}{p pos tpos:Pos}{elts:List Expr}{kt:Nat}(hg:Gl X "zip")(hm:X.mg "zip" = none)(ha:PA X [e1,e2] ta)
  (hs:starEach [e1,e2] X.env=(false,eval e1 X.env)::starEach [e2] X.env:=by rfl) (hpl:(backTo pos (starEach [e2] X.env)).any (·.1)=false:=by rfl) :
  PI X (.Tuple elts kt tpos) (.Call (.Name "zip" p) [e1,e2] [] pos) (iZip X.K ta):=by
 intro pins s σ H R I h
 refine wpAny_Call_Name_kw (mO I hg hm boot_zip ?_ (by decide) (by decide))
 refine PyProof.Rows.callWith_type1 (thn (ha pos pins s σ H _ I h) fun us s1 ⟨vs,H1,I1,r1,q1⟩=>?_) hs hpl
 obtain ⟨x,y,k1,k2,a,b,ev,⟨ex,xs,hx⟩,⟨ey,ys,hy⟩,q⟩:=q1
 subst ev ex ey
 obtain ⟨u1,u2,eu,ru1,ru2⟩:=vals2 r1
 subst eu
 cases ru1
 cases ru2
 obtain ⟨its,r1,p1⟩:=I1.sk hx
 obtain ⟨jts,r2,p2⟩:=I1.sk hy
 have la:=Sk.sq_lt p1
 have lb:=Sk.sq_lt p2
 refine call_zip p1 p2 fun h' gz gI gO g1 g2 size all=>?_
 refine wpAny_pyIter_zip gz ?_
 have I2:Inv X pins σ H1 { s1 with heap:=h' }:=I1.kept (t':=s1.toks) all
 generalize hn:s1.heap.objs.size=n at gz gI gO g1 g2 size la lb ⊢
 refine ⟨n+4,[n+4,n+2,n+3,n,n+1],_,_,H1,rfl,I2,turn_zip (zap_of n) (jV la) (jV lb),⟨gz,gI,⟨_,_,gO⟩,g1,g2⟩,fun c hc=>?_,q⟩
 have hc':n≤c:=ge_of hc
 exact I1.fpOk (by rw [hn];exact hc') (I1.hok.fresh (by rw [hn];exact hc'))
def nQ:List W→List W→List W
 | a::as,b::bs=>.tup [a,b]::nQ as bs
 | _,_=>[]
theorem wZ:∀ {as bs:List W} {i:Nat} {w:W},(nQ as bs)[i]?=some w→∃ a b,as[i]?=some a∧bs[i]?=some b∧w=.tup [a,b]
 | [],_,_,_,e=>by simp [nQ] at e
 | _::_,[],_,_,e=>by simp [nQ] at e
 | a::as,b::bs,0,w,e=>by
  have e:some (W.tup [a,b])=some w:=e
  exact ⟨a,b,rfl,rfl,(Option.some.inj e).symm⟩
 | a::as,b::bs,i+1,w,e=>by
  obtain ⟨x,y,h1,h2,h3⟩:=wZ (as:=as) (bs:=bs) (i:=i) (w:=w) (by simpa [nQ] using e)
  exact ⟨x,y,by simpa using h1,by simpa using h2,h3⟩
theorem xP:∀ {as bs:List W},(nQ as bs).length=min as.length bs.length
 | [],bs=>by simp [nQ]
 | _::_,[]=>by simp [nQ]
 | a::as,b::bs=>by rw [nQ,List.length_cons,xP,List.length_cons,List.length_cons];omega
def oh:W→Option (List W)
 | .tup ws=>some ws
 | .lst ws=>some ws
 | .kls ws=>some ws
 | _=>none
theorem yc {H:Hp}{μ : Mu}{w:W}{v:V}{ws:List W}(r:Rep K H μ w v)(e:oh w=some ws):∃ k a,v=.ref a∧∀ {H2:Hp} {μ2:Mu},Ext K H μ H2 μ2→∃ xs,Sk.v k K H2 a xs∧aH K H2 μ2 ws xs:=by
 cases w with
 | tup us=>
  cases (show some us=some ws from e)
  have r0:=r
  rw [Rep] at r
  obtain ⟨p,xs,ev,hs,rs⟩:=r
  subst ev
  refine ⟨.t,p,rfl,fun {H2 μ2} x=>?_⟩
  have r2:=x.r _ _ r0
  rw [Rep] at r2
  obtain ⟨q,ys,ev,hs,rs⟩:=r2
  cases ev
  exact ⟨ys,hs,rs⟩
 | lst us=>
  cases (show some us=some ws from e)
  have r0:=r
  rw [Rep] at r
  obtain ⟨p,xs,ev,hs,rs⟩:=r
  subst ev
  refine ⟨.l,p,rfl,fun {H2 μ2} x=>?_⟩
  have r2:=x.r _ _ r0
  rw [Rep] at r2
  obtain ⟨q,ys,ev,hs,rs⟩:=r2
  cases ev
  exact ⟨ys,hs.sq,rs⟩
 | kls us=>
  cases (show some us=some ws from e)
  have r0:=r
  rw [Rep] at r
  obtain ⟨p,xs,ev,hs,rs⟩:=r
  subst ev
  refine ⟨.l,p,rfl,fun {H2 μ2} x=>?_⟩
  have r2:=x.r _ _ r0
  rw [Rep] at r2
  obtain ⟨q,ys,ev,hs,rs⟩:=r2
  cases ev
  exact ⟨ys,hs.sq,rs⟩
 | _=>cases e
def zipS (h:Gh)(x y:W):Option Src:=match oh x,oh y with
 | some as,some bs=>some ⟨nQ as bs,none⟩
 | none,some bs=>(match x with
  | .loc n=>(match h.c n with
   | some (.lst as)=>some ⟨nQ as bs,some (n,as)⟩
   | _=>none)
  | _=>none)
 | _,_=>none
theorem stay_at {H:Hp}{μ : Mu}{h:Gh}{w:W}{v:V}{ws:List W}{o:Option (Nat×List W)}(R:Rel K μ H h)(r:Rep K H μ w v)(e:(oh w=some ws∧o=none)∨∃ n,w=.loc n∧h.c n=some (.lst ws)∧o=some (n,ws)) :
  ∃ k a,v=.ref a∧∀ {H2:Hp} {μ2:Mu} {h2:Gh},Ext K H μ H2 μ2→Rel K μ2 H2 h2→Src.chk ⟨ws,o⟩ h2→∃ xs,Sk.v k K H2 a xs∧aH K H2 μ2 ws xs:=by
 rcases e with ⟨e,rfl⟩ | ⟨n,rfl,ec,rfl⟩
 ·obtain ⟨k,a,ev,f⟩:=yc r e
  exact ⟨k,a,ev,fun x _ _=>f x⟩
 ·have r0:=r
  rw [Rep] at r
  obtain ⟨p,ev,hm⟩:=r
  subst ev
  refine ⟨.l,p,rfl,fun {H2 μ2 h2} x R2 ck=>?_⟩
  have r2:=x.r _ _ r0
  rw [Rep] at r2
  obtain ⟨q,eq,hm2⟩:=r2
  cases eq
  obtain ⟨p',xs,hm',hx,rs⟩:=R2.lstAt (show h2.c n=some (.lst ws) from ck)
  have ep:p'=p:=by rw [hm2] at hm';exact (Option.some.inj hm').symm
  subst ep
  exact ⟨xs,.of hx,rs⟩
theorem zipS_ok {h:Gh}{x y:W}{s:Src}(e:zipS h x y=some s):∃ as bs o,s=⟨nQ as bs,o⟩∧((oh x=some as∧o=none)∨∃ n,x=.loc n∧h.c n=some (.lst as)∧o=some (n,as))∧oh y=some bs:=by
 unfold zipS at e
 split at e
 ·rename_i as bs ea eb
  exact ⟨as,bs,none,(Option.some.inj e).symm,.inl ⟨ea,rfl⟩,eb⟩
 ·rename_i bs ea eb
  split at e
  ·split at e
   ·rename_i n _ as ec
    exact ⟨as,bs,_,(Option.some.inj e).symm,.inr ⟨n,rfl,ec,rfl⟩,eb⟩
   ·cases e
  ·cases e
 ·cases e
def nZip (ma:MA):MI:=fun σ h R=>ma σ h fun ws h1=>match ws with
 | [x,y]=>(match zipS h1 x y with
  | some s=>R s h1
  | none=>False)
 | _=>False
theorem di_zip {e1 e2:Expr}{mr:MA}{p pos tpos:Pos}{elts:List Expr}{kt:Nat}(hg:Gl X "zip")(hm:X.mg "zip" = none)(ha:DAs X [e1,e2] mr)
  (hs:starEach [e1,e2] X.env=(false,eval e1 X.env)::starEach [e2] X.env:=by rfl) (hpl:(backTo pos (starEach [e2] X.env)).any (·.1)=false:=by rfl) :
  DIt X (.Tuple elts kt tpos) (.Call (.Name "zip" p) [e1,e2] [] pos) (nZip mr):=PI.of (pi_zip hg hm ha hs hpl) fun σ H Q ⟨μ,h,σw,Rw,R,S,m,k⟩=>by
 refine ⟨μ,h,σw,_,R,S,m,fun vs H1 ⟨μ1,ws,h1,e1,R1,r1,m1⟩=>?_⟩
 dsimp only at m1
 split at m1
 ·split at m1
  ·rename_i x y _ s es
   obtain ⟨as,bs,o,rfl,ea,eb⟩:=zipS_ok es
   obtain ⟨v,u,ev,rv,ru⟩:=reps2 r1
   obtain ⟨ka,a,e3,fa⟩:=stay_at R1 rv ea
   obtain ⟨kb,b,e4,fb⟩:=yc ru eb
   have ck1:Src.chk ⟨as,o⟩ h1:=by
    rcases ea with ⟨_,rfl⟩ | ⟨n,_,ec,rfl⟩
    ·exact trivial
    ·exact ec
   obtain ⟨xs,hxs,_⟩:=fa .refl R1 ck1
   obtain ⟨ys,hys,_⟩:=fb .refl
   refine ⟨v,u,ka,kb,a,b,ev,⟨e3,xs,hxs⟩,⟨e4,ys,hys⟩,k _ _ ⟨μ1,⟨nQ as bs,o⟩,h1,e1,R1,?_,m1⟩⟩
   intro H2 μ2 h2 i e2 R2 ck
   obtain ⟨xs2,hxs2,rxs⟩:=fa e2 R2 ck
   obtain ⟨ys2,hys2,rys⟩:=fb e2
   refine ⟨fun w ew=>?_,fun hl=>⟨xs2,ys2,hxs2,hys2,?_⟩⟩
   ·obtain ⟨p1,p2,ep1,ep2,rfl⟩:=wZ ew
    obtain ⟨q1,eq1,rq1⟩:=rxs.get ep1
    obtain ⟨q2,eq2,rq2⟩:=rys.get ep2
    refine ⟨⟨xs2,ys2,q1,q2,hxs2,hys2,eq1,eq2⟩,fun x' H3 ⟨pa,x1,x2,hp,ex',eH3,f1,f2⟩=>?_⟩
    have g1:=f1 xs2 hxs2
    have g2:=f2 ys2 hys2
    rw [eq1] at g1
    rw [eq2] at g2
    cases g1
    cases g2
    subst ex' eH3
    exact ⟨μ2,(Ex.laid hp).ext,R2.laid hp,.tupNew hp (.cons rq1 (.one rq2))⟩
   ·have l1:=rxs.len
    have l2:=rys.len
    have:min as.length bs.length≤i:=by rw [←xP];exact hl
    omega
  ·exact m1.elim
 ·exact m1.elim
end
end L2
namespace L2
open PySem PySem.Spec PyProof.Rows
section
variable {X:Cx}{K:PySem.W.Frag}
theorem qm:∀ {ns:List Int} {its:List Value} {i:Nat} {v:Value},Vals (ns.map V.int) its→its[i]?=some v→∃ t,v=.int (ns.getD i 0) t
 | [],_,_,_,.nil,e=>by simp at e
 | n::ns,_,0,_,.cons r _,e=>by
  simp at e
  subst e
  exact r
 | _::ns,_,i+1,v,.cons _ t,e=>by
  obtain ⟨t',h⟩:=qm (i:=i) (v:=v) t (by simpa using e)
  exact ⟨t',by simpa using h⟩
theorem lQ (ns:List Int):∀ k,k≤ns.length→preSum (fun i=>ns.getD i 0) k=(ns.take k).sum
 | 0,_=>by simp [preSum]
 | k+1,h=>by
  rw [preSum,lQ ns k (by omega),List.take_succ,List.sum_append,List.getElem?_eq_getElem (by omega),List.getD_eq_getElem?_getD,List.getElem?_eq_getElem (by omega)]
  show _=_+(ns[k]+0)
  rw [Int.add_zero]
  rfl
theorem call_sumI (hc:X.calm=true):dz X (.builtin "sum") (fun xs H Q=>∃ (p:Addr) (ns:List Int),xs=[.ref p]∧SqL X.K H p (ns.map V.int)∧Q (.int ns.sum) H):=by
 intro pins s σ H xs us Q I r ⟨p,ns,e,hS,q⟩
 subst e
 obtain ⟨u,rfl,ru⟩:=vals1 r
 cases ru
 obtain ⟨its,rv,pl,hz⟩:=I.list hS
 have hlen:its.length=ns.length:=by rw [←rv.length,List.length_map]
 have hl:=pl.isList
 have hlt:p<s.heap.objs.size:=by obtain ⟨_,e,_⟩:=hl;exact Heap.lt_size e
 refine call_sum_walkAnyS (wpAny_pyIter_list hl ?_)
 refine ⟨s.heap.objs.size,[s.heap.objs.size,p],[s.heap.objs.size],_,its.toArray.size,_,_,fun i=>ns.getD i 0,rfl,(Walks.list (A:=X.A.in1) (I.ok.hd hc) _ p (Nat.ne_of_lt hlt) its.toArray).toS,
  ⟨⟨_,Heap.get?_push_size _ rfl,rfl,rfl⟩,hl.push _⟩,fun b hb=>?_,fun i v hP=>qm rv (by simpa using hP),fun s' t' hm=>?_⟩
 ·rw [Heap.size_push]
  simp only [List.mem_cons,List.not_mem_nil,or_false] at hb
  rcases hb with rfl | rfl
  ·exact Nat.lt_succ_self _
  ·exact Nat.lt_succ_of_lt hlt
 ·have e:preSum (fun i=>ns.getD i 0) its.toArray.size=ns.sum:=by rw [List.size_toArray,hlen,lQ ns _ (Nat.le_refl _),List.take_length]
  rw [e]
  obtain ⟨hh,gg,dd,tt,oo⟩:=s'
  have hg:gg=s.gens:=hm.gens
  have hd:dd=s.drawn:=hm.drawn
  have ho:oo=s.os:=hm.os
  subst hg hd ho
  refine ⟨.int ns.sum,H,I.kept (h':=hh) (t':=tt) (fun b x e=>?_),⟨t',rfl⟩,q⟩
  exact hm.heap b x (fun hm=>by rw [List.mem_singleton.mp hm] at e;exact Nat.lt_irrefl _ (Heap.lt_size e)) (Heap.get?_push_of_some _ e)
def yR:List W→Option (List Int)
 | []=>some []
 | .int i::ws=>(yR ws).map (i::·)
 | _=>none
theorem yD {H:Hp}{μ : Mu}:∀ {ws:List W} {xs:List V} {ns:List Int},aH K H μ ws xs→yR ws=some ns→xs=ns.map V.int
 | [],xs,ns,r,e=>by
  rw [aH] at r
  cases (show some []=some ns from e)
  exact r
 | w::ws,xs,ns,r,e=>by
  rw [aH] at r
  obtain ⟨v,vr,ev,ra,r⟩:=r
  cases w with
  | int b=>
   rw [Rep] at ra
   rw [yR] at e
   cases q:yR ws with
   | none=>rw [q] at e;cases e
   | some cs=>
    rw [q] at e
    cases (show some (b::cs)=some ns from e)
    rw [ev,ra,yD r q]
    rfl
  | _=>cases e
def kSum:MC:=fun ws h Q=>match ws with
 | [w]=>(match cX h w with
  | some us=>(match yR us with
   | some ns=>Q (.int ns.sum) h
   | none=>False)
  | none=>False)
 | _=>False
theorem c_sum (hc:X.calm=true):jr X (.builtin "sum") kSum:=⟨_,call_sumI hc,by
 intro H μ h vs ws Qw Q R r m k
 unfold kSum at m
 split at m
 ·split at m
  ·split at m
   ·rename_i w _ us ev _ ns eb
    obtain ⟨v,e,rv⟩:=eZ r
    obtain ⟨p,ys,ex,hs,rs⟩:=bR R rv ev
    subst e ex
    exact ⟨p,ns,rfl,by rw [←yD rs eb];exact hs,k _ _ (.int R m)⟩
   ·exact m.elim
  ·exact m.elim
 ·exact m.elim⟩
end
end L2
namespace L2
open PySem PySem.Spec PyProof.Rows
theorem wC:Manifest.owners.lookup (String.ofList ['d','e','s','r','e','v','e','r'].reverse)=some Manifest.sig_reversed:=by kernel_rfl
theorem rv_mro:mroOf (.type "reversed")=pure [.type "reversed",.type "object"]:=by
 rw [mroOf_type]
 kernel_rfl
theorem rv_new:typeLookup (.type "reversed") "__new__" = pure (some (.builtin "reversed.__new__")):=by
 rw [typeLookup_type,builtinLookup_eq_fast]
 kernel_rfl
theorem cI:Slot "reversed" "__next__" "reversed.__next__":=
  .of (owner := "reversed") (n := "__next__")
    (by rw [typeLookup_type,builtinLookup_eq_fast]
        kernel_rfl)
    (by decide +kernel) (by decide +kernel)
    (by decide +kernel)
    (by first
        | exact .inl (by decide +kernel)
        | exact .inr (by decide +kernel))
    (by rw [isSubtype_type]
        kernel_rfl)
theorem iy:entryFor table "reversed.__next__" = some Builtin.«reversed.__next__»:=entryFor_of_tree (by kernel_rfl)
theorem jX (a:Value):argsOk "reversed.__next__" ⟨[a],[]⟩:=by
 unfold argsOk
 rw [signature?_of (id := "reversed.__next__") (n:=['_','_','t','x','e','n','_','_']) (o:=['d','e','s','r','e','v','e','r']) (by kernel_rfl) wC]
 kernel_rfl
theorem j9:Slot "reversed" "__iter__" "reversed.__iter__":=
  .of (owner := "reversed") (n := "__iter__")
    (by rw [typeLookup_type,builtinLookup_eq_fast]
        kernel_rfl)
    (by decide +kernel) (by decide +kernel)
    (by decide +kernel)
    (by first
        | exact .inl (by decide +kernel)
        | exact .inr (by decide +kernel))
    (by rw [isSubtype_type]
        kernel_rfl)
theorem sU (a:Value):argsOk "reversed.__iter__" ⟨[a],[]⟩:=by
 unfold argsOk
 rw [signature?_of (id := "reversed.__iter__") (n:=['_','_','r','e','t','i','_','_']) (o:=['d','e','s','r','e','v','e','r']) (by kernel_rfl) wC]
 kernel_rfl
theorem rM:entryFor table "reversed.__iter__" = some Builtin.«dict_keyiterator.__iter__»:=
  entryFor_alias (id' := "dict_keyiterator.__iter__") (by kernel_rfl)
    (by first
        | rfl
        | decide +kernel
        | (unfold String.splitOn;simp +decide [String.splitOnAux]))
    (by decide +kernel) (by kernel_rfl)
theorem vH (a:Value):checkTypeCall "reversed" ⟨[a],[]⟩=pure ():=by kernel_rfl
theorem yS (a:Value):checkBuiltinCall "reversed.__new__" ⟨[.type "reversed",a],[]⟩=pure ():=by kernel_rfl
theorem uQ:entryFor table "reversed.__new__" = some Builtin.«reversed.__new__»:=entryFor_of_tree (by kernel_rfl)
theorem rv_sub:isSubtype (.type "reversed") (.type "reversed")=pure true:=by
 rw [isSubtype_type]
 kernel_rfl
theorem vW:typeLookup (.type "tuple") "__reversed__" = pure none:=by
 rw [typeLookup_type,builtinLookup_eq_fast]
 kernel_rfl
theorem vK:isSubtype (.type "tuple") (.type "dict")=pure false:=by
 rw [isSubtype_type]
 kernel_rfl
end L2
namespace L2
open PySem PySem.Spec PyProof.Rows
def rvObj (l:Addr)(i:Int):Obj:={ cls:=.type "reversed",data:=.fields #[.ref l,rawInt i] }
def RvAt (h:Heap)(a l:Addr)(i:Int):Prop:=∃ o,h.get? a=some o∧o.cls=.type "reversed"∧o.data=.fields #[.ref l,rawInt i]
section
variable {P:Program}{w:World}{A:Around}{E:Value→Shared→Prop}{s:Shared}
theorem RvAt.typeIs {a l:Addr}{i:Int}(x:RvAt s.heap a l i):s.TypeIs (.ref a) "reversed":=let ⟨o,g,c,_⟩:=x;⟨o,g,c⟩
theorem RvAt.at {h h':Heap}{a l:Addr}{i:Int}(x:RvAt h a l i)(e:∀ o,h.get? a=some o→h'.get? a=some o):RvAt h' a l i:=let ⟨o,g,r⟩:=x;⟨o,e _ g,r⟩
theorem rv_class (a:Value):Builtin.SmallTypes.newClass "reversed" ⟨[.type "reversed",a],[]⟩=pure (.type "reversed",[a]):=by
 unfold Builtin.SmallTypes.newClass
 simp only [isType,rv_sub,pure_bind,Bool.not_true,Bool.false_eq_true]
 rfl
theorem rv_init:Slot "reversed" "__init__" "object.__init__":=
  .of (owner := "object") (n := "__init__")
    (by rw [typeLookup_type,builtinLookup_eq_fast]
        kernel_rfl)
    (by decide +kernel) (by decide +kernel)
    (by decide +kernel)
    (by first
        | exact .inl (by decide +kernel)
        | exact .inr (by decide +kernel))
    (by rw [isSubtype_type]
        kernel_rfl)
theorem rv_called:TypeCalled "reversed" "reversed.__new__" "object.__init__":=
  ⟨by decide +kernel,by decide +kernel,⟨_,_,rv_mro⟩,madeBy_type rv_mro rv_new (by decide +kernel),by decide +kernel,
    by rw [isSubtype_type]
       kernel_rfl,rv_init⟩
theorem rv_make (l:Addr)(xs:Array Value):Meets (Builtin.«reversed.__new__» ⟨[.type "reversed",.ref l],[]⟩) (fun _ R s=>IsTup s.heap l xs∧(xs.size:Int)<2^63 ∧
   R (.ok (.ret (.ref s.heap.objs.size))) { s with heap:=s.heap.push (rvObj l ((xs.size:Int) - 1)),toks:=s.toks+1+1 }):=by
 refine .of_wp fun prog w A R s ⟨ht,hfit,q⟩=>?_
 unfold Builtin.«reversed.__new__»
 refine wpAny_bind (wpAny_of_eq (rv_class _) ?_)
 try dsimp only
 refine wpAny_bind (wpAny_of_eq (a:=()) (by rfl) ?_)
 refine wpAny_bind (wpAny_of_eq (a:=()) (by rfl) ?_)
 try dsimp only
 refine wpAny_bind (wpAny_specialOf ht.typeIs vW ?_)
 try dsimp only
 refine wpAny_bind ?_
 refine wpAny_bind (wpAny_isInstance (U := "dict") (b:=false) ht.typeIs vK ?_)
 rw [if_neg Bool.false_ne_true]
 refine wpAny_bind (wpAny_specialOf ht.typeIs PyProof.Rows.slot_tuple_getitem.lookup ?_)
 show wpAny _ _ (if (_:Bool)=true then pure true else _) _ _ _
 rw [if_pos (by decide +kernel)]
 refine wpAny_pure ?_
 rw [if_neg (by decide)]
 refine wpAny_bind (len_tuple ht hfit ?_)
 refine wpAny_bind (wpAny_of_eq (a:=some (xs.size:Int)) (by rfl) ?_)
 try dsimp only
 refine wpAny_bind ?_
 show wpAny _ _ (newObj (.type "reversed") (.fields #[.ref l,rawInt ((xs.size:Int) - 1)])) _ _ _
 exact wpAny_newObj_type (wpAny_pure ⟨_,rfl,q⟩) (by size_fits)
theorem call_rvT {l:Addr}{xs:Array Value}{Q:Value→Shared→Prop}(ht:IsTup s.heap l xs)(hfit:(xs.size:Int)<2^63)
  (q:Q (.ref s.heap.objs.size) { s with heap:=s.heap.push (rvObj l ((xs.size:Int) - 1)),toks:=s.toks+1+1 }):wpAny (model P w) A (call (.type "reversed") [.ref l]) Q E s:=by
 refine callType_new rv_called (by decide) (vH _) (yS _) (fun obj=>PySem.F.args_object_init_2 obj _) uQ (rv_make l xs) ⟨ht,hfit,?_⟩
 exact ⟨⟨_,Heap.get?_push_size _ rfl,rfl⟩,q⟩
theorem next_rvT {it l:Addr}{i:Nat}{xs:Array Value}{x:Value}{Q:Option Value→Shared→Prop}(hi:RvAt s.heap it l (i:Int))(ht:IsTup s.heap l xs)(hfit:(xs.size:Int)<2^63)(hx:xs[i]?=some x)
  (q:∀ h',RvAt h' it l ((i:Int) - 1)→Heap.SameBut it s.heap h'→Q (some x) { s with heap:=h',toks:=s.toks+1 }):wpAny (model P w) A (pyNext (.ref it)) Q E s:=by
 obtain ⟨o,go,gc,gd⟩:=id hi
 have hlt:i<xs.size:=(Array.getElem?_eq_some_iff.mp hx).1
 unfold pyNext
 refine wpAny_bind (wpAny_attempt (wpAny_callSpecial?_slot (name:=Str.ofString "__next__") hi.typeIs cI
  (wpAny_call_entry cI hi.typeIs iy ?_ (jX _))))
 unfold Builtin.«reversed.__next__»
 refine wpAny_bind (wpAny_of_eq (a:=(Value.ref it,([]:List Value))) (by rfl) ?_)
 try dsimp only
 refine wpAny_bind (wpAny_field go gd (x:=.ref l) rfl ?_)
 refine wpAny_bind (wpAny_field go gd (x:=rawInt (i:Int)) rfl ?_)
 show wpAny _ _ (if (i:Int)<0 then _ else _) _ _ s
 rw [if_neg (by omega)]
 refine wpAny_bind (wpAny_specialOf ht.typeIs PyProof.Rows.slot_tuple_getitem.lookup ?_)
 rw [if_neg (by decide)]
 refine wpAny_bind (wpAny_mkInt ?_)
 refine wpAny_bind (wpAny_attempt (getItem_tuple (s:={ s with toks:=s.toks+1 }) ht (by omega) (by omega) (j:=i) ?_ hx ?_))
 ·have e:=seqIndex_of (k:=(i:Int)) (n:=xs.size) (by omega) (by omega)
  rw [Int.toNat_natCast] at e
  exact e
 try dsimp only
 refine wpAny_bind (wpAny_field go gd (x:=rawInt (i:Int)) rfl ?_)
 refine wpAny_bind (wpAny_setField go gd (by simp) ?_)
 refine wpAny_pure ⟨x,rfl,wpAny_pure (q _ ?_ (Heap.SameBut.update ..))⟩
 exact ⟨_,Heap.get?_update_self _ go (Obj.isFreed_of_fields (Obj.data_mapFields gd _)),(Obj.cls_mapFields ..).trans gc,by rw [Obj.data_mapFields gd];simp⟩
theorem rW {it l:Addr}{Q:Option Value→Shared→Prop}(hh:A.handled=none)(hi:RvAt s.heap it l (-1))
  (q:∀ h',Heap.ExtBut it s.heap h'→Q none { s with heap:=h' }):wpAny (model P w) A (pyNext (.ref it)) Q E s:=by
 obtain ⟨o,go,gc,gd⟩:=id hi
 unfold pyNext
 refine wpAny_bind (wpAny_attempt (wpAny_callSpecial?_slot (name:=Str.ofString "__next__") hi.typeIs cI
  (wpAny_call_entry cI hi.typeIs iy ?_ (jX _))))
 unfold Builtin.«reversed.__next__»
 refine wpAny_bind (wpAny_of_eq (a:=(Value.ref it,([]:List Value))) (by rfl) ?_)
 try dsimp only
 refine wpAny_bind (wpAny_field go gd (x:=.ref l) rfl ?_)
 refine wpAny_bind (wpAny_field go gd (x:=rawInt (-1)) rfl ?_)
 show wpAny _ _ (if (-1:Int)<0 then _ else _) _ _ s
 rw [if_pos (by decide)]
 refine wpAny_bind (wpAny_rule ?_)
 refine wpAny_bind ?_
 refine wpAny_bind (wpAny_setField go gd (by simp) ?_)
 have g1:=Heap.get?_update_self (fun o=>o.mapFields fun x=>x.setIfInBounds 1 (rawInt (-1))) go (Obj.isFreed_of_fields (Obj.data_mapFields gd _))
 refine wpAny_setField g1 (Obj.data_mapFields gd _) (by simp) ?_
 refine wpAny_bind ?_
 show wpAny _ _ (newExc (.type "StopIteration") [] >>= fun e0=>raiseNew e0) _ _ _
 refine wpAny_bind ?_
 simp only [newExc,newTuple,raiseNew]
 refine wpAny_bind (wpAny_newObj_type (by
  refine wpAny_bind (m:=firstArgMember _ _) (wpAny_of_eq (a:=Value.none) (by rfl) (wpAny_newObj_type ?_ (by size_fits)))
  refine wpAny_bind (wpAny_handled (by
   first
    | rw [show A.in1.handled=none from hh]
    | rw [hh]
   refine wpAny_bind (wpAny_pure (wpAny_throw ?_))
   refine wpAny_bind (wpAny_isInstance (T := "StopIteration") (b:=true) ⟨_,Heap.get?_push_size _ rfl,rfl⟩ isSubtype_stop (wpAny_pure (q _ ?_)))
   intro b ob hb eb
   exact Heap.get?_push_of_some _ (Heap.get?_push_of_some _ ((Heap.SameBut.update ..).extBut b ob hb ((Heap.SameBut.update ..).extBut b ob hb eb))))) ) (by size_fits))
theorem yr {it l:Addr}{i:Int}{Q:Value→Shared→Prop}(hi:RvAt s.heap it l i)(q:Q (.ref it) s):wpAny (model P w) A (pyIter (.ref it)) Q E s:=by
 refine wpAny_pyIter_slot hi.typeIs j9 (wpAny_call_entry j9 hi.typeIs rM ?_ (sU _))
 show wpAny _ _ (ret (.ref it)) _ _ s
 exact wpAny_pure ⟨_,rfl, "reversed",_,hi.typeIs,cI.lookup,q⟩
end
end L2
namespace L2
open PySem PySem.Spec PyProof.Rows
def Itv (K:PySem.W.Frag)(n:Nat)(l:Addr):It:=
  ⟨fun i H=>i<n∧∃ xs x,SqT K H l xs∧xs.length=n∧xs[n - 1 - i]?=some x,
   fun i H v H'=>H'=H∧∀ xs,SqT K H l xs→xs[n - 1 - i]?=some v,
   fun i _=>n≤i,true⟩
def rvSt (n:Nat)(it l:Addr)(i:Nat)(h:Heap):Prop:=i≤n∧RvAt h it l ((n:Int) - 1 - (i:Int))
theorem turn_rev {P:Program}{w:World}{K:PySem.W.Frag}{tg:Expr}{n:Nat}{it l:Addr}(hne:l≠it):Turn P w K tg (Itv K n l) [it] it (rvSt n it l) where
 mem:=by simp
 obj:=fun i h st b hb=>by
  obtain ⟨_,o,g,_,d⟩:=st
  rw [List.mem_singleton] at hb
  subst hb
  exact ⟨o,g,fun v y=>by rw [d] at y;cases y⟩
 keep:=fun i h h' st k=>⟨st.1,st.2.at fun o e=>k it (by simp) o e⟩
 item:=by
  intro X hP hw hK hc i pins s σ H E I hf st hg
  subst hP hw hK
  obtain ⟨hin,xs,x,hx,hlen,ex⟩:=hg
  obtain ⟨its,r,pl,hz⟩:=I.tuple hx
  obtain ⟨u,hu,ru⟩:=r.get ex
  have hl:=r.length
  have e1:(n:Int) - 1 - (i:Int)=((n - 1 - i:Nat):Int):=by omega
  have hi:=st.2
  rw [e1] at hi
  have hn:=jU
  refine next_rvT hi pl (by simp only [List.size_toArray];omega) (x:=u) (by simpa using hu) fun h1 g1 sb=>⟨u,rfl,?_⟩
  have e2:((n - 1 - i:Nat):Int) - 1=(n:Int) - 1 - ((i+1:Nat):Int):=by omega
  rw [e2] at g1
  obtain ⟨o,go,gc,gd⟩:=id g1
  refine zT (s:={ s with heap:=h1,toks:=s.toks+1 }) go gc gd (by decide) ⟨x,H,I.turnedL (t':=s.toks+1) (ch:=[it]) (fun b o hb e=>sb.extBut b o (fun q=>hb (by simp [q])) e) hf,ru,⟨rfl,fun ys hy=>?_⟩,⟨hin,g1⟩,fun b hb=>(hf b hb).1⟩
  rw [I.tuple_inj hy hx]
  exact ex
 done:=by
  intro X hP hw hK hc i pins s σ H E I hf st hg
  subst hP hw hK
  have hi:=st.2
  have e1:(n:Int) - 1 - (i:Int) = -1:=by
   have:=st.1
   have:n≤i:=hg
   omega
  rw [e1] at hi
  exact rW (I.ok.hd (hc rfl)) hi fun h1 eb=>⟨rfl,I.turnedL (t':=s.toks) (ch:=[it]) (fun b o hb e=>eb b o (fun q=>hb (by simp [q])) e) hf⟩
 self:=fun _ _ _ _ _ st h=>yr st.2 h
section
variable {X:Cx}{K:PySem.W.Frag}
end
end L2
namespace L2
open PySem PySem.Spec PyProof.Rows
section
variable {X:Cx}
def mPar3 (i j k:Nat)(ta:MA):MS:=fun D σ h=>ta σ h fun ws h1=>match ws with
 | [a,b,c]=>D.nx (((σ.set i (some a)).set j (some b)).set k (some c)) h1
 | _=>False
end
end L2
namespace L2
open PySem PySem.Spec PyProof.Rows
def Itw (K:PySem.W.Frag)(n:Nat)(l:Addr):It:=
  ⟨fun i H=>i<n∧∃ xs x,SqL K H l xs∧xs.length=n∧xs[n - 1 - i]?=some x,
   fun i H v H'=>H'=H∧∀ xs,SqL K H l xs→xs[n - 1 - i]?=some v,
   fun i _=>n≤i,true⟩
def rwSt (n:Nat)(it l:Addr)(i:Nat)(h:Heap):Prop:=i≤n∧h.IsRevIter it l ((n:Int) - 1 - (i:Int))
theorem turn_revL {P:Program}{w:World}{K:PySem.W.Frag}{tg:Expr}{n:Nat}{it l:Addr}(hne:l≠it):Turn P w K tg (Itw K n l) [it] it (rwSt n it l) where
 mem:=by simp
 obj:=fun i h st b hb=>by
  obtain ⟨_,o,g,_,d⟩:=st
  rw [List.mem_singleton] at hb
  subst hb
  exact ⟨o,g,fun v y=>by rw [d] at y;cases y⟩
 keep:=fun i h h' st k=>⟨st.1,st.2.at fun o e=>k it (by simp) o e⟩
 item:=by
  intro X hP hw hK hc i pins s σ H E I hf st hg
  subst hP hw hK
  obtain ⟨hin,xs,x,hx,hlen,ex⟩:=hg
  obtain ⟨its,r,pl,hz⟩:=I.list hx
  obtain ⟨u,hu,ru⟩:=r.get ex
  have hl:=r.length
  have e1:(n:Int) - 1 - (i:Int)=((n - 1 - i:Nat):Int):=by omega
  have hi:=st.2
  rw [e1] at hi
  refine wpAny_pyNext_rev_item hi pl.isList (x:=u) (by simpa using hu) fun h1 g1 sb=>⟨u,rfl,?_⟩
  have e2:((n - 1 - i:Nat):Int) - 1=(n:Int) - 1 - ((i+1:Nat):Int):=by omega
  rw [e2] at g1
  obtain ⟨o,go,gc,gd⟩:=id g1
  refine zT (s:={ s with heap:=h1 }) go gc gd (by decide) ⟨x,H,I.turnedL (t':=s.toks) (ch:=[it]) (fun b o hb e=>sb.extBut b o (fun q=>hb (by simp [q])) e) hf,ru,⟨rfl,fun ys hy=>?_⟩,⟨hin,g1⟩,fun b hb=>(hf b hb).1⟩
  rw [I.list_inj hy hx]
  exact ex
 done:=by
  intro X hP hw hK hc i pins s σ H E I hf st hg
  subst hP hw hK
  have hi:=st.2
  have e1:(n:Int) - 1 - (i:Int) = -1:=by
   have:=st.1
   have:n≤i:=hg
   omega
  rw [e1] at hi
  exact wpAny_pyNext_rev_end (I.ok.hd (hc rfl)) hi fun h1 eb=>⟨rfl,I.turnedL (t':=s.toks) (ch:=[it]) (fun b o hb e=>eb b o (fun q=>hb (by simp [q])) e) hf⟩
 self:=fun _ _ _ _ _ st h=>wpAny_pyIter_revIter st.2 h
section
variable {X:Cx}{K:PySem.W.Frag}
def iRev2 (K:PySem.W.Frag)(ta:TA):TI:=fun σ H R=>ta σ H fun vs H1=>∃ a xs,vs=[.ref a]∧((SqT K H1 a xs∧R (Itv K xs.length a) H1)∨(SqL K H1 a xs∧R (Itw K xs.length a) H1))
theorem pi_rev2 {tg e1:Expr}{ta:TA}{p pos:Pos}(hg:Gl X "reversed")(hm:X.mg "reversed" = none)(ha:PA X [e1] ta)
  (hs:starEach [e1] X.env=(false,eval e1 X.env)::starEach [] X.env:=by rfl) (hpl:(backTo pos (starEach [] X.env)).any (·.1)=false:=by rfl) :
  PI X tg (.Call (.Name "reversed" p) [e1] [] pos) (iRev2 X.K ta):=by
 intro pins s σ H R I h
 refine wpAny_Call_Name_kw (mO I hg hm boot_reversed ?_ (by decide) (by decide))
 refine PyProof.Rows.callWith_type1 (thn (ha pos pins s σ H _ I h) fun us s1 ⟨vs,H1,I1,r1,q1⟩=>?_) hs hpl
 obtain ⟨a,xs,ev,hx⟩:=q1
 subst ev
 obtain ⟨u1,eu,ru1⟩:=vals1 r1
 subst eu
 cases ru1
 rcases hx with ⟨hx,q⟩ | ⟨hx,q⟩
 ·obtain ⟨its,r,pl,hz⟩:=I1.tuple hx
  have hl:=r.length
  have hn:=jU
  refine call_rvT pl (by simp only [List.size_toArray];omega) ?_
  have gi:RvAt (s1.heap.push (rvObj a ((its.toArray.size:Int) - 1))) s1.heap.objs.size a ((xs.length:Int) - 1 - ((0:Nat):Int)):=by
   refine ⟨_,Heap.get?_push_size _ rfl,rfl,?_⟩
   show Data.fields #[.ref a,rawInt ((its.toArray.size:Int) - 1)]=_
   rw [List.size_toArray,←hl]
   simp
  have la:a<s1.heap.objs.size:=by obtain ⟨_,e,_⟩:=pl;exact Heap.lt_size e
  refine yr gi ?_
  refine ⟨_,[s1.heap.objs.size],_,_,H1,rfl,I1.kept (t':=s1.toks+1+1) (fun b o e=>Heap.get?_push_of_some _ e),turn_rev (Nat.ne_of_lt la),⟨Nat.zero_le _,gi⟩,fun c hc=>?_,q⟩
  rw [List.mem_singleton] at hc
  subst hc
  exact I1.fpOk (Nat.le_refl _) (I1.hok.fresh (Nat.le_refl _))
 ·obtain ⟨its,r,pl,hz⟩:=I1.list hx
  have hl:=r.length
  refine call_reversed_list pl.isList ?_
  have gi:(s1.heap.push (revObj a ((its.toArray.size:Int) - 1))).IsRevIter s1.heap.objs.size a ((xs.length:Int) - 1 - ((0:Nat):Int)):=by
   refine ⟨_,Heap.get?_push_size _ rfl,rfl,?_⟩
   show Data.fields #[.ref a,rawInt ((its.toArray.size:Int) - 1)]=_
   rw [List.size_toArray,←hl]
   simp
  have la:a<s1.heap.objs.size:=by obtain ⟨_,e,_⟩:=pl.isList;exact Heap.lt_size e
  refine wpAny_pyIter_revIter gi ?_
  refine ⟨_,[s1.heap.objs.size],_,_,H1,rfl,I1.kept (t':=s1.toks) (fun b o e=>Heap.get?_push_of_some _ e),turn_revL (Nat.ne_of_lt la),⟨Nat.zero_le _,gi⟩,fun c hc=>?_,q⟩
  rw [List.mem_singleton] at hc
  subst hc
  exact I1.fpOk (Nat.le_refl _) (I1.hok.fresh (Nat.le_refl _))
def nRev2 (ma:MA):MI:=fun σ h R=>ma σ h fun ws h1=>match ws with
 | [.tup us]=>R ⟨us.reverse,none⟩ h1
 | [.lst us]=>R ⟨us.reverse,none⟩ h1
 | _=>False
theorem di_rev2 {tg e1:Expr}{mr:MA}{p pos:Pos}(hg:Gl X "reversed")(hm:X.mg "reversed" = none)(ha:DAs X [e1] mr)
  (hs:starEach [e1] X.env=(false,eval e1 X.env)::starEach [] X.env:=by rfl) (hpl:(backTo pos (starEach [] X.env)).any (·.1)=false:=by rfl) :
  DIt X tg (.Call (.Name "reversed" p) [e1] [] pos) (nRev2 mr):=PI.of (pi_rev2 hg hm ha hs hpl) fun σ H Q ⟨μ,h,σw,Rw,R,S,m,k⟩=>by
 refine ⟨μ,h,σw,_,R,S,m,fun vs H1 ⟨μ1,ws,h1,e1,R1,r1,m1⟩=>?_⟩
 dsimp only at m1
 split at m1
 ·rename_i us
  obtain ⟨v,ev,rv⟩:=eZ r1
  have rv0:=rv
  rw [Rep] at rv
  obtain ⟨a,xs,ea,hx,rs⟩:=rv
  subst ev ea
  have hl:=rs.len
  refine ⟨a,xs,rfl,.inl ⟨hx,k _ _ ⟨μ1,⟨us.reverse,none⟩,h1,e1,R1,?_,m1⟩⟩⟩
  intro H2 μ2 h2 i e2 R2 _
  have r2:=e2.r _ _ rv0
  rw [Rep] at r2
  obtain ⟨b,ys,eb,hy,ry⟩:=r2
  cases eb
  have hl2:=ry.len
  refine ⟨fun w ew=>?_,fun hle=>?_⟩
  ·have hi:i<us.length:=by
    have:=(List.getElem?_eq_some_iff.mp ew).1
    simpa using this
   rw [List.getElem?_reverse hi] at ew
   obtain ⟨v,hv,rv⟩:=ry.get ew
   refine ⟨⟨by omega,ys,v,hy,by omega,by rw [show xs.length - 1 - i=us.length - 1 - i by omega];exact hv⟩,fun x H3 ⟨e3,y⟩=>?_⟩
   subst e3
   have:=y ys hy
   rw [show xs.length - 1 - i=us.length - 1 - i by omega,hv] at this
   cases this
   exact ⟨μ2,.refl,R2,rv⟩
  ·have:us.length≤i:=by simpa using hle
   show xs.length≤i
   omega
 ·rename_i us
  obtain ⟨v,ev,rv⟩:=eZ r1
  have rv0:=rv
  rw [Rep] at rv
  obtain ⟨a,xs,ea,hx,rs⟩:=rv
  subst ev ea
  have hl:=rs.len
  refine ⟨a,xs,rfl,.inr ⟨hx.sq,k _ _ ⟨μ1,⟨us.reverse,none⟩,h1,e1,R1,?_,m1⟩⟩⟩
  intro H2 μ2 h2 i e2 R2 _
  have r2:=e2.r _ _ rv0
  rw [Rep] at r2
  obtain ⟨b,ys,eb,hy,ry⟩:=r2
  cases eb
  have hl2:=ry.len
  refine ⟨fun w ew=>?_,fun hle=>?_⟩
  ·have hi:i<us.length:=by
    have:=(List.getElem?_eq_some_iff.mp ew).1
    simpa using this
   rw [List.getElem?_reverse hi] at ew
   obtain ⟨v,hv,rv⟩:=ry.get ew
   refine ⟨⟨by omega,ys,v,hy.sq,by omega,by rw [show xs.length - 1 - i=us.length - 1 - i by omega];exact hv⟩,fun x H3 ⟨e3,y⟩=>?_⟩
   subst e3
   have:=y ys hy.sq
   rw [show xs.length - 1 - i=us.length - 1 - i by omega,hv] at this
   cases this
   exact ⟨μ2,.refl,R2,rv⟩
  ·have:us.length≤i:=by simpa using hle
   show xs.length≤i
   omega
 ·exact m1.elim
end
end L2
namespace L2
open PySem PySem.Spec PyProof.Rows
end L2
namespace L2
open PySem PySem.Spec PyProof.Rows
section
variable {prog:Program}{w:World}{A:Around}{E:Value→Shared→Prop}{s:Shared}
theorem sI {it t:Addr}{items:Array Value}(hne:t≠it):∀ (n i:Nat) (s:Shared) (Q:List Value→Shared→Prop),s.heap.IsListIter it t i→s.heap.IsList t items→i+n≤items.size →
  (∀ h',h'.IsListIter it t (i+n)→Heap.SameBut it s.heap h'→Q ((items.toList.drop i).take n) { s with heap:=h' })→wpAny (model prog w) A (draw (.ref it) n) Q E s
 | 0,i,s,Q,hit,_,_,hQ=>by
  show wpAny _ _ (pure []) Q E s
  exact wpAny_pure (by simpa using hQ s.heap hit (Heap.SameBut.refl ..))
 | n+1,i,s,Q,hit,ht,hle,hQ=>by
  have hlt:i<items.size:=by omega
  show wpAny _ _ (pyNext (.ref it) >>= _) Q E s
  refine wpAny_bind (wpAny_pyNext_list_item hit ht (x:=items[i]) (by simp [hlt]) fun h1 hit1 hs1=>?_)
  refine wpAny_bind (wpAny_holding (sI hne n (i+1) _ _ hit1 (ht.at fun o e=>hs1.extBut _ o hne e) (by omega) fun h2 hit2 hs2=>wpAny_pure ?_))
  have hd:items.toList.drop i=items[i]::items.toList.drop (i+1):=by simp [List.drop_eq_getElem_cons,hlt]
  have:=hQ h2 (by rw [show i+(n+1)=i+1+n by omega];exact hit2) (hs1.trans hs2)
  rw [hd,List.take_succ_cons] at this
  exact this
theorem kJ {t:Addr}{items:Array Value}{Q:List Value→Shared→Prop}(hh:A.handled=none)(ht:s.heap.IsList t items)
  (hQ:∀ h',Heap.ExtBut s.heap.objs.size s.heap h'→Q items.toList { s with heap:=h' }):wpAny (model prog w) A (unpackItems (.ref t) items.size none) Q E s:=by
 have hlt:t≠s.heap.objs.size:=by obtain ⟨o,ho,_⟩:=ht;exact Nat.ne_of_lt (Heap.lt_size ho)
 unfold unpackItems
 refine wpAny_bind ?_
 ·unfold notIterableAtAll
  refine wpAny_bind (wpAny_specialOf ht.typeIs slot_list_iter.lookup ?_)
  refine wpAny_pure ?_
  simp only [Bool.false_eq_true,if_false]
  refine wpAny_bind (wpAny_holding (wpAny_pyIter_list ht ?_))
  refine wpAny_bind (wpAny_holding (sI hlt items.size 0 _ _ ⟨_,Heap.get?_push_size _ rfl,rfl,rfl⟩ (ht.at fun o e=>Heap.get?_push_of_some _ e) (by omega) fun h1 hit1 hs1=>?_))
  have hall:List.take items.size (List.drop 0 items.toList)=items.toList:=by
   rw [List.drop_zero];exact List.take_of_length_le (by simp)
  rw [hall]
  rw [if_neg (by simp)]
  have ht1:h1.IsList t items:=ht.at fun o e=>hs1.extBut _ o hlt (Heap.get?_push_of_some _ e)
  refine wpAny_bind (wpAny_holding (wpAny_pyNext_list_end hh hit1 ht1 (by simp) fun h2 he2=>?_))
  simp only [Option.isSome_none,Bool.false_eq_true,if_false]
  refine wpAny_pure (hQ h2 fun b o hb e=>he2 b o hb (hs1.extBut b o hb (Heap.get?_push_of_some _ e)))
theorem jB {env:Env}{elts:List Expr}{x1}{pos:Pos}{t:Addr}{items:Array Value}{Q:Unit→Shared→Prop}(hh:A.handled=none)(ht:s.heap.IsList t items)
  (hn:(assignEach elts env).length=items.size) (hstar:(assignEach elts env).findIdx? (·.1)=none)
  (h:∀ h',Heap.ExtBut s.heap.objs.size s.heap h'→wpAny (model prog w) A (assignInOrder ((assignEach elts env).map (·.2)) items.toList) Q E { s with heap:=h' }) :
  wpAny (model prog w) A (assign (.Tuple elts x1 pos) env (.ref t)) Q E s:=by
 rw [assign_Tuple]
 refine wpAny_bind (wpAny_standAt ?_)
 unfold unpack
 rw [hn,hstar]
 exact wpAny_bind (wpAny_holding (kJ hh ht h))
end
section
variable {X:Cx}{pos:Pos}
def gTup2 (K:PySem.W.Frag)(n:Nat)(t:TGs):TG:=fun v σ H Q=>∃ a xs,v=.ref a∧(SqT K H a xs∨SqL K H a xs)∧xs.length=n∧t xs σ H Q
theorem pg_tup2 {es:List Expr}{k:Nat}{t:TGs}{n:Nat}(hc:X.calm=true)(h:PGs X es t)
  (hn:(assignEach es X.env).length=n:=by rfl) (hst:(assignEach es X.env).findIdx? (·.1)=none:=by rfl):PG X (.Tuple es k pos) (gTup2 X.K n t):=by
 intro pins s σ H v u Q I r hw
 obtain ⟨a,xs,e1,hq,hl,hw⟩:=hw
 subst e1
 cases r
 rcases hq with hq | hq
 ·obtain ⟨its,rv,ht,hz⟩:=I.tuple hq
  refine assign_Tuple_tuple (I.ok.hd hc) ht (by simp [hn,←hl,rv.length]) hst fun h' hx=>?_
  have I1:Inv X pins σ H { s with heap:=h' }:=I.kept (t':=s.toks) fun b o e=>hx b o (Nat.ne_of_lt (Heap.lt_size e)) e
  exact h pins _ σ H xs _ Q I1 (by simpa using rv) hw
 ·obtain ⟨its,rv,ht,hz⟩:=I.list hq
  refine jB (I.ok.hd hc) ht.isList (by simp [hn,←hl,rv.length]) hst fun h' hx=>?_
  have I1:Inv X pins σ H { s with heap:=h' }:=I.kept (t':=s.toks) fun b o e=>hx b o (Nat.ne_of_lt (Heap.lt_size e)) e
  exact h pins _ σ H xs _ Q I1 (by simpa using rv) hw
def nY (n:Nat)(g:MGs):MG:=fun w σ h N=>match w with
 | .tup ws=>by2 (Nat.beq ws.length n) (g ws σ h N) False
 | .lst ws=>by2 (Nat.beq ws.length n) (g ws σ h N) False
 | .loc j=>(match h.c j with
  | some (.lst ws)=>by2 (Nat.beq ws.length n) (g ws σ h N) False
  | _=>False)
 | _=>False
theorem qY {es:List Expr}{k:Nat}{g:MGs}{n:Nat}(hc:X.calm=true)(h:DGss X es g)(hn:(assignEach es X.env).length=n:=by rfl)(hst:(assignEach es X.env).findIdx? (·.1)=none:=by rfl):DG X (.Tuple es k pos) (nY n g):=
 (pg_tup2 (n:=n) hc h hn hst).of fun v σ H N ⟨μ,h,σw,w,Nw,R,S,r,m,k⟩=>by
  cases w with
  | tup ws=>
   rw [Rep] at r
   obtain ⟨p,xs,e1,hs,hr⟩:=r
   have m:by2 (Nat.beq ws.length n) (g ws σw h Nw) False:=m
   cases en:Nat.beq ws.length n with
   | true=>rw [en] at m;exact ⟨p,xs,e1,.inl hs,by rw [←hr.len];exact Nat.eq_of_beq_eq_true en,μ,h,σw,ws,Nw,R,S,hr,m,k⟩
   | false=>rw [en] at m;exact (show False from m).elim
  | lst ws=>
   rw [Rep] at r
   obtain ⟨p,xs,e1,hs,hr⟩:=r
   have m:by2 (Nat.beq ws.length n) (g ws σw h Nw) False:=m
   cases en:Nat.beq ws.length n with
   | true=>rw [en] at m;exact ⟨p,xs,e1,.inr hs.sq,by rw [←hr.len];exact Nat.eq_of_beq_eq_true en,μ,h,σw,ws,Nw,R,S,hr,m,k⟩
   | false=>rw [en] at m;exact (show False from m).elim
  | loc j=>
   have m:(match h.c j with
    | some (.lst ws)=>by2 (Nat.beq ws.length n) (g ws σw h Nw) False
    | _=>False):=m
   split at m
   ·rename_i ws ec
    obtain ⟨p,xs,e1,hs,hr⟩:=bR R r (show cX h (.loc j)=some ws by simp only [cX,ec])
    cases en:Nat.beq ws.length n with
    | true=>rw [en] at m;exact ⟨p,xs,e1,.inr hs,by rw [←hr.len];exact Nat.eq_of_beq_eq_true en,μ,h,σw,ws,Nw,R,S,hr,m,k⟩
    | false=>rw [en] at m;exact (show False from m).elim
   ·exact m.elim
  | _=>exact m.elim
end
end L2
namespace L2
open PySem PySem.Spec PyProof.Rows
section
variable {K:PySem.W.Frag}{H:Hp}{μ : Mu}{h:Gh}{p:Addr}{ws:List W}{xs:List V}
theorem Ex0.own (R:Rel K μ H h)(hp:μ.hid p):Ex0 K H μ H ((μ.unhide p).put h.nx p) where
 t:=fun _ _ z=>z
 l:=fun q ys z=>by
  refine ⟨z.1,fun m e=>?_,fun y=>z.2.2 y.2⟩
  by_cases hm:m=h.nx
  ·rw [hm,Mu.put_same] at e
   have e':p=q:=Option.some.inj e
   subst e'
   exact z.2.2 hp
  ·rw [Mu.put_ne hm] at e
   exact z.2.1 m e
 k:=fun _ _ z=>z
 m:=fun m q e=>by
  have hm:m≠h.nx:=fun y=>by rw [y,R.dead (Nat.le_refl _)] at e;cases e
  rw [Mu.put_ne hm]
  exact e
 x:=fun _ _ _ e=>e
theorem ExtX.own (R:Rel K μ H h)(hp:μ.hid p):ExtX p K H μ H ((μ.unhide p).put h.nx p):=⟨fun _ _ z=>Rep.ex (Ex0.own R hp) z,fun q u ne z e=>⟨⟨ne,z⟩,e⟩⟩
theorem Rel.own (R:Rel K μ H h)(hp:μ.hid p)(e:H p=some (.lst xs))(r:aH K H μ ws xs):Rel K ((μ.unhide p).put h.nx p) H (h.new (.lst ws)) where
 inj:=fun m n q em en=>by
  have key:∀ n,n≠h.nx→((μ.unhide p).put h.nx p).f n=some q→p=q→False:=fun n hn en e=>by
   rw [Mu.put_ne hn] at en
   subst e
   exact (R.hd p hp).2 n en
  by_cases hm:m=h.nx
  ·by_cases hn:n=h.nx
   ·rw [hm,hn]
   ·rw [hm,Mu.put_same] at em
    exact (key n hn en (Option.some.inj em)).elim
  ·by_cases hn:n=h.nx
   ·rw [hn,Mu.put_same] at en
    exact (key m hm em (Option.some.inj en)).elim
   ·rw [Mu.put_ne hm] at em
    rw [Mu.put_ne hn] at en
    exact R.inj m n q em en
 dom:=fun n q en=>by
  by_cases hn:n=h.nx
  ·rw [hn];exact Nat.lt_succ_self _
  ·rw [Mu.put_ne hn] at en
   exact Nat.lt_succ_of_lt (R.dom n q en)
 trk:=fun n q en=>by
  by_cases hn:n=h.nx
  ·rw [hn,Mu.put_same] at en
   cases en
   rw [e];trivial
  ·rw [Mu.put_ne hn] at en
   exact R.trk n q en
 cel:=fun n c en=>by
  by_cases hn:n=h.nx
  ·subst hn
   have ec:(h.new (.lst ws)).c h.nx=some (.lst ws):=by show (if h.nx=h.nx then some _ else _)=_;rw [if_pos rfl]
   rw [ec] at en
   cases en
   exact ⟨p,Mu.put_same,xs,e,aH.ex (Ex0.own R hp) r⟩
  ·have ec:(h.new (.lst ws)).c n=h.c n:=by show (if n=h.nx then some _ else _)=_;rw [if_neg hn]
   rw [ec] at en
   obtain ⟨q,e1,x⟩:=R.cel n c en
   refine ⟨q,by rw [Mu.put_ne hn];exact e1,?_⟩
   have ex:=Ex0.own R hp
   cases c with
   | lst ws=>obtain ⟨xs,a,b⟩:=x;exact ⟨xs,a,aH.ex ex b⟩
   | obj C fs=>obtain ⟨dx,fvs,a,b⟩:=x;exact ⟨dx,fvs,a,Paired.mapP b fun _ _ z=>⟨z.1,Rep.ex ex z.2⟩⟩
   | dct kvs=>obtain ⟨kvv,a,b⟩:=x;exact ⟨kvv,a,Paired.mapP b fun _ _ z=>⟨z.1,Rep.ex ex z.2⟩⟩
   | dtt kvs=>obtain ⟨xs,vs,a,b,c,d,f⟩:=x;exact ⟨xs,vs,a,b,c,aH.ex ex d,aH.ex ex f⟩
 hd:=fun q z=>by
  refine ⟨(R.hd q z.2).1,fun n en=>?_⟩
  by_cases hn:n=h.nx
  ·rw [hn,Mu.put_same] at en
   exact z.1 (Option.some.inj en).symm
  ·rw [Mu.put_ne hn] at en
   exact (R.hd q z.2).2 n en
end
def thaw (Q:WK):WK:=fun w h=>match w with
 | .lst ws=>Q (.loc h.nx) (h.new (.lst ws))
 | _=>False
def mLCM (own:W→Option (List W))(ix:List Nat)(mi:MI)(tt:MT)(te:ME):ME:=fun σ h Q=>mLC own ix mi tt te σ h (thaw Q)
section
variable {X:Cx}{tg iter elt:Expr}{ifs:List Expr}{pos:Pos}{scope:Scope}{xs:List Str}{mi:MI}{tt:MT}{te:ME}
theorem lcM_of {K:PySem.W.Frag}{σ : St}{H:Hp}{Q:VK}{n:Nat}{own:V→Hp→List V→Prop}{ow:W→Option (List W)}{ix:List Nat}{mi:MI}{tt:MT}{te:ME}(oo:v8 K n own ow)(q:tD K (mLCM ow ix mi tt te) σ H Q):tLC n own ix (tDI K mi) (tDT K tt) (tD K te) σ H Q:=by
 obtain ⟨μ,h,σw,Qw0,R,S,m,k⟩:=q
 generalize hQw:thaw Qw0=Qw at *
 have m:mLC ow ix mi tt te σw h Qw:=by rw [←hQw];exact m
 refine ⟨μ,h,σw,_,R,S,m,fun J H1 ⟨μ1,src,h1,e1,R1,ok,hz0⟩=>?_⟩
 obtain ⟨hz,m1⟩:=hz0.ok
 intro D hD
 have nD:=R1.nohid hD
 have hD1:Ext K H1 μ1 (upd H1 D (.lst [])) (μ1.hide D):=Ext.hide hD
 refine ⟨fun i n ys H'=>n=src.ws.length - i∧i≤src.ws.length∧ys.length≤i∧H' D=some (.lst ys)∧∃ μ' acc h',Ext K H1 μ1 H' μ'∧Rel K μ' H' h'∧μ'.hid D∧aH K H' μ' acc ys∧jP src ow ix tt te σw Qw (src.ws.drop i) acc h',
  ⟨src.ws.length,by simp,Nat.zero_le _,Nat.le_refl _,aR,μ1.hide D,[],h1,hD1,R1.hide hD,.inl rfl,.nil,by rw [List.drop_zero];exact m1⟩,?_⟩
 rintro i n' ys H2 ⟨hn,hle,hys,hH2,μ2,acc,h2,e2,R2,hid2,ra,m2⟩ _
 by_cases hlt:i<src.ws.length
 ·rw [List.drop_eq_getElem_cons hlt] at m2
  obtain ⟨ck,m2⟩:=Src.go_ok m2
  obtain ⟨hgo,hy⟩:=(ok e2 R2 ck).1 src.ws[i] (List.getElem?_eq_getElem hlt)
  refine .inr ⟨hgo,by omega,fun x H3 y=>?_⟩
  obtain ⟨μ3,e3,R3,rx⟩:=hy x H3 y
  have e13:=e2.trans e3
  cases eo:ow src.ws[i] with
  | none=>rw [eo] at m2;exact m2.elim
  | some us=>
   rw [eo] at m2
   obtain ⟨vs,hov,hvl,rvs⟩:=oo rx eo
   have S3:=(S.ext (e1.trans e13)).blk (ix:=ix) rvs
   refine ⟨vs,hov,hvl,μ3,h2,_,_,R3,S3,m2,fun b H4 ⟨μ4,h4,e4,R4,m4⟩=>?_⟩
   have e24:=e3.trans e4
   obtain ⟨hid4,hH4⟩:=e24.o D _ hid2 hH2
   cases b with
   | false=>
    dsimp only
    rw [if_neg Bool.false_ne_true]
    exact ⟨hH4,src.ws.length - (i+1),by omega,rfl,hlt,by omega,hH4,μ4,acc,h4,e2.trans e24,R4,hid4,e24.s ra,m4⟩
   | true=>
    dsimp only
    rw [if_pos rfl]
    refine ⟨μ4,h4,_,_,R4,S3.ext e4,m4,fun v H5 ⟨μ5,w5,h5,e5,R5,r5,m5⟩=>?_⟩
    have e25:=e24.trans e5
    obtain ⟨hid5,hH5⟩:=e25.o D _ hid2 hH2
    have g:=ExtX.grow (ys:=ys++[v]) R5 hid5
    have rs:aH K (upd H5 D (.lst (ys++[v]))) μ5 (acc++[w5]) (ys++[v]):=aH.ex (Ex0.grow R5 hid5) (aH.append (e25.s ra) (aH.one r5))
    exact ⟨hH5,src.ws.length - (i+1),by omega,rfl,hlt,by rw [List.length_append];simp;omega,aR,μ5,acc++[w5],h5,(e2.trans e25).x nD g,R5.grow hid5,hid5,rs,m5⟩
 ·have ei:i=src.ws.length:=by omega
  subst ei
  rw [List.drop_length] at m2
  obtain ⟨ck,m2⟩:=Src.go_ok m2
  have m2:Qw0 (.loc h2.nx) (h2.new (.lst acc)):=by rw [←hQw] at m2;exact m2
  exact .inl ⟨(ok e2 R2 ck).2 (Nat.le_refl _),k _ _ ⟨(μ2.unhide D).put h2.nx D,.loc h2.nx,h2.new (.lst acc),e1.trans (e2.x nD (ExtX.own R2 hid2)),R2.own hid2 hH2 ra,by rw [Rep];exact ⟨D,rfl,Mu.put_same⟩,m2⟩⟩
theorem ds_lcM {own:V→Hp→List V→Prop}{ow:W→Option (List W)}(ix:List Nat){i:Nat}{y:Str}{py spos:Pos}(hN:X.N.Nodup)(hi':X.N[i]?=some y)(hy:Loc X.env.scope y)(hc:X.calm=true)(B:gB X scope xs ix)(oo:v8 X.K xs.length own ow)
  (hg:∀ C s H fp,PG (blk X scope (eV X xs ix) C s H fp) tg (gOwn xs.length own)) (hi:DIt X tg iter mi)
  (ht:∀ C s H fp,DIfs (blk X scope (eV X xs ix) C s H fp) ifs tt) (he:∀ C s H fp,DE (blk X scope (eV X xs ix) C s H fp) elt te)
  (hsw:swapsWith (.ListComp elt [⟨tg,iter,ifs,0⟩] scope pos) (some (.Name y py)) spos.line X.env=pure true:=by rfl)
  (hf:X.fn y=true∨X.env.scope.names.lookup y=some .local:=by first | exact .inl rfl | exact .inr rfl | assumption)
  (hs:∀ v,foldedSetIterable iter X.env v=pure v:=by intro _;rfl):DS X (.Assign [.Name y py] (.ListComp elt [⟨tg,iter,ifs,0⟩] scope pos) spos) (bK (mLCM ow ix mi tt te) (nName i)):=
 (ps_lc ix hN hi' hy hc B hg hi ht he hsw hf hs).of fun _ _ _ q=>zV (fun _ _ _ z=>lcM_of oo z) q
end
end L2
namespace L2
open PySem PySem.Spec PyProof.Rows
def isStar:Expr→Bool
 | .Starred _ _=>true
 | _=>false
theorem aj {e:Expr}{es:List Expr}{env:Env}(h:isStar e=false):starEach (e::es) env=(false,eval e env)::starEach es env:=by
 cases e <;> first | rfl | cases h
theorem iV {e:Expr}{env:Env}(h:isStar e=false):starEach [e] env=[(false,eval e env)]:=(aj h).trans rfl
def noStar:List Expr→Bool
 | []=>true
 | e::r=>!isStar e&&noStar r
theorem au {pos:Pos}{env:Env}:∀ {es:List Expr},noStar es=true→(backTo pos (starEach es env)).any (·.1)=false
 | [],_=>rfl
 | e::r,h=>by
  rw [noStar,Bool.and_eq_true,Bool.not_eq_true'] at h
  rw [aj h.1]
  show (false||(backTo pos (starEach r env)).any (·.1))=false
  rw [au h.2]
  rfl
theorem few_1 {cpos:Pos}{e:Expr}{env:Env}(h:isStar e=false):((backTo cpos (starEach [e] env)).all (fun x=>!x.1)&&(backToKw cpos (keywordEach [] env)).all (fun x=>x.1.isSome)
   && decide (([e]:List Expr).length+([]:List Keyword).length+(if ([]:List Keyword).isEmpty then 0 else 1)<30))=true:=by
 rw [iV h];rfl
end L2
namespace L2
open PySem PySem.Spec PyProof.Rows
section
variable {prog:Program}{w:World}{A:Around}{E:Value→Shared→Prop}{s:Shared}
open HT in
theorem gK {t sl:Addr}{items:Array Value}{vl vu:Value}{lo hi:Option Int}{Q:Value→Shared→Prop}(ht:IsTup s.heap t items)(hs:s.heap.IsSliceOf sl vl vu .none)(pl:IsPart vl lo)(pu:IsPart vu hi)
  (h0:sIx items.size 0 lo=0) (h1:sIx items.size items.size hi=items.size) (h:Q (.ref t) s):wpAny (model prog w) A (getItem (.ref t) (.ref sl)) Q E s:=by
 obtain ⟨os,hos,hcs,hds⟩:=id hs
 have hTs:s.TypeIs (.ref sl) "slice":=⟨os,hos,hcs⟩
 unfold getItem
 try with_reducible refine wpAny_holding ?_
 first | refine wpAny_bind (wpAny_pure ?_) | skip
 refine wpAny_bind (wpAny_sequenceKey ht.typeIs (by decide) ?_)
 refine wpAny_bind (wpAny_callSpecial?_slot (name:=Str.ofString "__getitem__") ht.typeIs PyProof.Rows.slot_tuple_getitem
  (wpAny_call_entry PyProof.Rows.slot_tuple_getitem ht.typeIs entry_tuple_getitem ?_ (args_tuple_getitem _ _)))
 show wpAny _ _ (Builtin.Tuple.tupleItemsOf (.ref t) >>= _) _ _ s
 refine wpAny_bind (tupleItemsOf_ ht ?_)
 refine wpAny_bind (wpAny_typeOf hTs ?_)
 rw [if_pos (by decide)]
 refine wpAny_bind (eX hs pl pu ?_)
 have hyes:((((sIx items.size 0 lo:Nat):Int)==0&&(1:Int)==1&&(sIx items.size items.size hi - sIx items.size 0 lo)==items.size)=true):=by
  rw [h0,h1]
  simp
 show wpAny _ _ (if (((sIx items.size 0 lo:Nat):Int)==0&&(1:Int)==1&&(sIx items.size items.size hi - sIx items.size 0 lo)==items.size)=true then _ else _) _ _ s
 rw [if_pos hyes]
 unfold Builtin.Tuple.tupleIsExact
 refine wpAny_bind (wpAny_bind (wpAny_typeOf ht.typeIs (wpAny_pure ?_)))
 rw [if_pos (by decide)]
 refine wpAny_bind (wpAny_rule ?_)
 first
  | exact wpAny_pure ⟨_,rfl,wpAny_pure h⟩
  | exact wpAny_bind (wpAny_pure (wpAny_pure ⟨_,rfl,wpAny_pure h⟩))
end
section
variable {X:Cx}
def rSlW (K:PySem.W.Frag):V→Option Int→Option Int→Hp→VK→Prop:=fun x lo hi H Q=>∃ a xs,x=.ref a∧SqT K H a xs ∧
 HT.sIx xs.length 0 lo=0∧HT.sIx xs.length xs.length hi=xs.length∧Q x H
theorem sl_whole:SlR X (rSlW X.K):=by
 intro pins s σ H x v vl vu lo hi sl Q I rx hs pl pu h
 obtain ⟨a,xs,rfl,hx,h0,h1,q⟩:=h
 cases rx
 obtain ⟨its,r,ht,hz⟩:=I.tuple hx
 have hlen:its.toArray.size=xs.length:=by rw [List.size_toArray];exact r.length.symm
 refine ⟨"tuple",_,PyProof.Rows.slot_tuple_getitem.lookup,ht.typeIs,?_⟩
 refine gK ht hs pl pu (by rw [hlen];exact h0) (by rw [hlen];exact h1) ?_
 exact ⟨.ref a,H,I,rfl,q⟩
def kSl2 (x:W)(lo hi:Option Int)(h:Gh)(Q:WK):Prop:=match x with
 | .tup ws=>Q (.tup (cutW ws lo hi)) h
 | x=>(match cX h x with
  | some ws=>Q (.lst (cutW ws lo hi)) h
  | none=>False)
theorem vd {e:Expr}{lo hi:Option Expr}{ma:ME}{ml mh:MO}{p2 pos:Pos}(he:DE X e ma)(hl:DO X lo ml)(hu:DO X hi mh):DE X (.Subscript e (.Slice lo hi none p2) pos) (mSl kSl2 ma ml mh):=
 (pe_slice (SlR.or (SlR.or sl_list sl_tup) sl_whole) he hl hu).of fun σ H Q ⟨μ,h,σw,Qw,R,S,m,k⟩=>by
  refine ⟨μ,h,σw,_,R,S,m,fun x H1 ⟨μ1,wx,h1,e1,R1,r1,m1⟩=>?_⟩
  refine ⟨μ1,h1,σw,_,R1,S.ext e1,m1,fun lo H2 ⟨μ2,h2,e2,R2,m2⟩=>?_⟩
  refine ⟨μ2,h2,σw,_,R2,(S.ext e1).ext e2,m2,fun hi H3 ⟨μ3,h3,e3,R3,m3⟩=>?_⟩
  have e13:=(e1.trans e2).trans e3
  have r3:=e3.r _ _ (e2.r _ _ r1)
  have oth:∀ wy,Rep X.K H3 μ3 wy x→(match cX h3 wy with
    | some ws=>Qw (.lst (cutW ws lo hi)) h3
    | none=>False)→∃ p xs,x=.ref p∧SqL X.K H3 p xs∧∀ l,H3 l=none→Q (.ref l) (upd H3 l (.lst (cutV xs lo hi))):=by
   intro wy ry my
   split at my
   ·rename_i ws ev
    obtain ⟨p,xs,ex,hs,rs⟩:=bR R3 ry ev
    exact ⟨p,xs,ex,hs,fun l hl=>k _ _ ⟨μ3,_,h3,e13.trans (Ex.laid hl).ext,R3.laid hl,.lstNew R3 hl (rs.cutv lo hi),my⟩⟩
   ·exact my.elim
  cases wx with
  | tup ws=>
   have m3:Qw (.tup (cutW ws lo hi)) h3:=m3
   have r30:=r3
   rw [Rep] at r3
   obtain ⟨p,xs,ex,hx,rs⟩:=r3
   have hl:=rs.len
   by_cases hw:HT.sIx xs.length 0 lo=0∧HT.sIx xs.length xs.length hi=xs.length
   ·have ec:cutW ws lo hi=ws:=by
     unfold cutW
     rw [hl,hw.1,hw.2,List.drop_zero,Nat.sub_zero,←hl,List.take_length]
    rw [ec] at m3
    exact .inr ⟨p,xs,ex,hx,hw.1,hw.2,k _ _ ⟨μ3,.tup ws,h3,e13,R3,r30,m3⟩⟩
   ·exact .inl (.inr ⟨p,xs,ex,hx,hw,fun q hq=>k _ _ ⟨μ3,.tup (cutW ws lo hi),h3,e13.trans (Ex.laid hq).ext,R3.laid hq,.tupNew hq (rs.cutv lo hi),m3⟩⟩)
  | _=>exact .inl (.inl (oth _ r3 m3))
end
end L2
namespace L2
open PySem PySem.Spec PyProof.Rows
section
variable {X:Cx}
def kInt:MC:=fun ws h Q=>match ws with
 | [.int i]=>Q (.int i) h
 | [.bl b]=>Q (.int (if b then 1 else 0)) h
 | _=>False
theorem c_int:jr X (.type "int") kInt:=⟨_,call_int1,by
 intro H μ h vs ws Qw Q R r m k
 unfold kInt at m
 split at m
 ·obtain ⟨v,e,rv⟩:=eZ r
  rw [Rep] at rv
  subst e rv
  exact .inl ⟨_,rfl,k _ _ (.int R m)⟩
 ·obtain ⟨v,e,rv⟩:=eZ r
  rw [Rep] at rv
  subst e rv
  exact .inr ⟨_,rfl,k _ _ (.int R m)⟩
 ·exact m.elim⟩
theorem oY {K:PySem.W.Frag}{H:Hp}{μ : Mu}:∀ {ns:List Int} {xs:List V},aH K H μ (ns.map W.int) xs→xs=ns.map V.int
 | [],xs,r=>by rw [List.map_nil,aH] at r;exact r
 | n::ns,xs,r=>by
  rw [List.map_cons,aH] at r
  obtain ⟨v,vs,e,rv,r⟩:=r
  rw [Rep] at rv
  rw [e,rv,oY r];rfl
end
end L2
namespace L2
open PySem PySem.Spec PyProof.Rows
section
variable {X:Cx}
end
end L2
namespace L2
open PySem PySem.Spec PyProof.Rows
section
variable {X:Cx}
def rBits:V→List V→Hp→VK→Prop:=fun x vs H Q=>∃ i:Int,x=.int i∧vs=[]∧Q (.int (Builtin.Int.intBits i:Nat)) H
theorem mt_bits:MtR X "int.bit_length" rBits:=by
 intro pins s σ H x vs v us Q I rx rv h
 obtain ⟨i,rfl,rfl,q⟩:=h
 obtain ⟨t,rfl⟩:=rx
 have hus:=rv.zero
 subst hus
 exact call_int_bit_length ⟨.int (Builtin.Int.intBits i:Nat),H,I.tok _,⟨_,rfl⟩,q⟩
def mBits (mo:ME):ME:=fun σ h Q=>mo σ h fun x h1=>match x with
 | .int i=>Q (.int (Builtin.Int.intBits i:Nat)) h1
 | _=>False
theorem d_bits {o:Expr}{mo:ME}{apos cpos:Pos}(ho:DE X o mo)(hbase:attributeBase o "bit_length" X.env (eval o X.env)=eval o X.env:=by rfl)(hline:(apos.endLine==cpos.line)=true:=by rfl) :
  DE X (.Call (.Attribute o "bit_length" apos) [] [] cpos) (mBits mo):=(pe_bm0 PySem.F.plainAttrs_int slot_int_bit_length type_int_bit_length mt_bits ho hbase hline).of fun σ H Q ⟨μ,h,σw,Qw,R,S,m,k⟩=>by
 refine ⟨μ,h,σw,_,R,S,m,fun v H1 ⟨μ1,w,h1,e1,R1,r1,m1⟩=>?_⟩
 cases w with
 | int i=>
  rw [Rep] at r1
  subst r1
  have z:DQ X.K H1 μ1 Qw (.int (Builtin.Int.intBits i:Nat)) H1:=.int R1 m1
  exact ⟨rfl,i,rfl,rfl,k _ _ (z.trans e1)⟩
 | _=>exact (show False from m1).elim
theorem call_max1 (hc:X.calm=true):dz X (.builtin "max") (fun xs H Q=>∃ (p:Addr) (ns:List Int),xs=[.ref p]∧SqL X.K H p (ns.map V.int)∧0<ns.length∧∀ M,M∈ns→(∀ a,a∈ns→a≤M)→Q (.int M) H):=by
 intro pins s σ H xs us Q I r ⟨p,ns,e,hS,hne,q⟩
 subst e
 obtain ⟨u,rfl,ru⟩:=vals1 r
 cases ru
 obtain ⟨its,rv,pl,hz⟩:=I.list hS
 have hlen:its.length=ns.length:=by rw [←rv.length,List.length_map]
 have all:AllInts its.toArray:=fun v hv=>by
  obtain ⟨i,hi,e⟩:=Array.mem_iff_getElem.mp hv
  obtain ⟨t,e2⟩:=qm (i:=i) (v:=v) rv (by rw [←e];simp at hi ⊢)
  exact ⟨_,t,e2⟩
 obtain ⟨ys,ey⟩:=all.items
 have hl:=pl.isList
 rw [ey] at hl
 have hys:ys.size=ns.length:=by
  have:=congrArg Array.size ey
  simp [intItems] at this
  omega
 have num:∀ i,i<ns.length→numAt ys i=ns.getD i 0:=fun i hi=>by
  obtain ⟨t,e2⟩:=qm (i:=i) (v:=its[i]'(by omega)) rv (List.getElem?_eq_getElem (by omega))
  have e3:(intItems ys)[i]?=some (its[i]'(by omega)):=by rw [←ey];simp
  obtain ⟨t',e4⟩:=intItems_at e3
  rw [e2] at e4
  injection e4 with e5 _
  exact e5.symm
 refine max_intList (I.ok.hd hc) hl (by omega) fun v h' tk hv hk=>?_
 obtain ⟨t,rfl⟩:=intItems_at hv
 obtain ⟨h1,h2⟩:=argBest_gt (numAt ys) (ys.size - 1)
 refine ⟨.int _,H,I.kept (h':=h') (t':=tk) hk,⟨t,rfl⟩,q _ ?_ fun a ha=>?_⟩
 ·rw [num _ (by omega),List.getD_eq_getElem?_getD,List.getElem?_eq_getElem (by omega)]
  exact List.getElem_mem _
 ·obtain ⟨j,hj,e⟩:=List.mem_iff_getElem.mp ha
  have:=h2 j (by omega)
  rw [num j hj,List.getD_eq_getElem?_getD,List.getElem?_eq_getElem hj] at this
  rw [←e]
  exact this
def kMaxA:MC:=fun ws h Q=>match ws with
 | [.int i,.int j]=>Q (.int (if j>i then j else i)) h
 | [w]=>(match cX h w with
  | some us=>∃ ns:List Int,us=ns.map W.int∧0<ns.length∧∀ M,M∈ns→(∀ a,a∈ns→a≤M)→Q (.int M) h
  | none=>False)
 | _=>False
theorem c_maxA (hc:X.calm=true):jr X (.builtin "max") kMaxA:=⟨_,dz.or (call_max2 hc) (call_max1 hc),by
 intro H μ h vs ws Qw Q R r m k
 unfold kMaxA at m
 split at m
 ·rename_i i j
  rw [aH] at r
  obtain ⟨v,vs',e,rv,r⟩:=r
  rw [aH] at r
  obtain ⟨v2,vs2,e2,rv2,r⟩:=r
  rw [aH] at r
  rw [Rep] at rv rv2
  subst e e2 rv rv2 r
  exact .inl ⟨i,j,rfl,k _ _ (.int R m)⟩
 ·split at m
  ·rename_i w us ev
   obtain ⟨v,e,rv⟩:=eZ r
   obtain ⟨p,ys,ex,hs,rs⟩:=bR R rv ev
   obtain ⟨ns,eu,hne,m⟩:=m
   subst e ex
   rw [eu] at rs
   have:=oY rs
   subst this
   exact .inr ⟨p,ns,rfl,hs,hne,fun M hM ha=>k _ _ (.int R (m M hM ha))⟩
  ·exact m.elim
 ·exact m.elim⟩
end
end L2
namespace L2
open PySem PySem.Spec PyProof.Rows
def XO (h:Heap)(P:Addr→Prop)(e C:Addr):Prop:=P e∧∃ (oe:Obj) (vs:Array Value),h.get? e=some oe∧oe.cls=.ref C∧oe.dict=none∧oe.data=.fields vs∧vs.size≤1000∧vs[2]?=some .none ∧
 (vs[1]?=some .none∨∃ (T:Addr) (oT:Obj) (ts:Array Value),vs[1]?=some (.ref T)∧T≠e∧P T∧h.get? T=some oT∧oT.data=.fields ts∧3<ts.size)
def XN (h:Heap)(P:Addr→Prop)(e C:Addr):Prop:=P e∧∃ (oe:Obj) (vs:Array Value),h.get? e=some oe∧oe.cls=.ref C∧oe.dict=none∧oe.data=.fields vs∧vs.size≤1000∧vs[2]?=some .none ∧
 ∃ (T:Addr) (oT:Obj) (ts:Array Value),vs[1]?=some (.ref T)∧T≠e∧P T∧h.get? T=some oT∧oT.data=.fields ts∧3<ts.size
theorem XN.xo {h:Heap}{P:Addr→Prop}{e C:Addr}(x:XN h P e C):XO h P e C:=by
 obtain ⟨p,oe,vs,a,b,c,d,f,g,k⟩:=x
 exact ⟨p,oe,vs,a,b,c,d,f,g,.inr k⟩
theorem XO.mono {h:Heap}{P P':Addr→Prop}{e C:Addr}(x:XO h P e C)(k:∀ b,P b→P' b):XO h P' e C:=by
 obtain ⟨p,oe,vs,a,b,c,d,f,g,z⟩:=x
 refine ⟨k _ p,oe,vs,a,b,c,d,f,g,?_⟩
 rcases z with z | ⟨T,oT,ts,z1,z2,z3,z4⟩
 ·exact .inl z
 ·exact .inr ⟨T,oT,ts,z1,z2,k _ z3,z4⟩
theorem XN.mono {h:Heap}{P P':Addr→Prop}{e C:Addr}(x:XN h P e C)(k:∀ b,P b→P' b):XN h P' e C:=by
 obtain ⟨p,oe,vs,a,b,c,d,f,g,T,oT,ts,z1,z2,z3,z4⟩:=x
 exact ⟨k _ p,oe,vs,a,b,c,d,f,g,T,oT,ts,z1,z2,k _ z3,z4⟩
structure Stp (P:Addr→Prop) (fs:List Addr) (h h':Heap):Prop where
 keep:∀ b o,¬ P b→b∉fs→h.get? b=some o→h'.get? b=some o
 slot:∀ b o,¬ P b→h.get? b=some o→∃ sl,h'.get? b=some { o with slots:=sl }
 there:∀ b o,h.get? b=some o→∃ o',h'.get? b=some o'
theorem Stp.refl {P:Addr→Prop}{fs:List Addr}{h:Heap}:Stp P fs h h:=⟨fun _ _ _ _ e=>e,fun _ o _ e=>⟨o.slots,e⟩,fun _ o e=>⟨o,e⟩⟩
theorem Stp.trans {P:Addr→Prop}{fs:List Addr}{h h1 h2:Heap}(a:Stp P fs h h1)(b:Stp P fs h1 h2):Stp P fs h h2:=
 ⟨fun c o n m e=>b.keep c o n m (a.keep c o n m e),fun c o n e=>let ⟨_,e1⟩:=a.slot c o n e;let ⟨sl,e2⟩:=b.slot c _ n e1;⟨sl,e2⟩,fun c o e=>let ⟨o1,e1⟩:=a.there c o e;b.there c o1 e1⟩
section
variable {M:Model}{A:Around}{E:Value→Shared→Prop}{s:Shared}{P:Addr→Prop}{e C:Addr}
theorem zX {fl:Option Addr}{fs:List Addr}{Q:Unit→Shared→Prop}(x:XN s.heap P e C)(h:∀ h',XN h' P e C→Stp P fs s.heap h'→Q () { s with heap:=h' }):wpAny M A (setFlight (.ref e) fl) Q E s:=by
 obtain ⟨p,oe,vs,he,hc,hdd,hd,hz,h2,T,oT,ts,h1,hne,pT,hT,hdT,h3⟩:=x
 unfold setFlight
 refine wpAny_bind (wpAny_field he hd h1 ?_)
 rw [if_pos (show (Value.ref T != Value.none)=true from by simp)]
 refine wpAny_setField hT hdT h3 (h _ ?_ ?_)
 ·have hd3:=Obj.data_mapFields hdT (·.setIfInBounds 3 (fl.elim Value.none fun f=>rawInt f))
  refine ⟨p,oe,vs,?_,hc,hdd,hd,hz,h2,T,_,_,h1,hne,pT,Heap.get?_update_self _ hT (Obj.isFreed_of_fields hd3),hd3,by simpa using h3⟩
  rw [Heap.get?_update_other _ _ hne];exact he
 ·have ne:∀ b,¬ P b→T≠b:=fun b n q=>n (q ▸ pT)
  refine ⟨fun b o n _ q=>by rw [Heap.get?_update_other _ _ (ne b n)];exact q,fun b o n q=>⟨o.slots,by rw [Heap.get?_update_other _ _ (ne b n)];exact q⟩,fun b o q=>?_⟩
  by_cases hb:T=b
  ·subst hb
   exact ⟨_,Heap.get?_update_self _ hT (Obj.isFreed_of_fields (Obj.data_mapFields hdT _))⟩
  ·exact ⟨o,by rw [Heap.get?_update_other _ _ hb];exact q⟩
theorem xZ {base:Heap}{env:Env}{outer:List Env}{L:Addr}{oe:Obj}{vs:Array Value}{head:Value}{hadNext:Bool}{Q:Unit→Shared→Prop}
  (hfr:A.frames=some (env::outer)) (hl:s.heap.FunFrames base (env::outer)) (hf:env.frame=some L) (pe:P e) (he:s.heap.get? e=some oe) (hc:oe.cls=.ref C) (hdd:oe.dict=none) (hd:oe.data=.fields vs) (hz:vs.size≤1000) (h2:vs[2]?=some .none)
  (pn:∀ b,s.heap.get? b=none→P b) (h:∀ h',XN h' P e C→Stp P (frs (env::outer)) s.heap h'→Q () { s with heap:=h' }) :
  wpAny M A (do let a ←frameOf env;let pl ←entryPlaceOf L hadNext;let b ←EntryCells.newEntry head a .none (rawInt L) .none pl;setField (.ref e) 1 b) Q E s:=by
 have hsz:1<vs.size:=Nat.lt_trans (by decide) (Array.getElem?_eq_some_iff.mp h2).1
 have hene:e∉(env::outer).filterMap (·.frame):=fun hm=>by
  obtain ⟨_,o,ho,hnf⟩:=hl.mem hm
  rw [he] at ho;injection ho with ho;subst ho;exact hnf vs hd
 refine wpAny_bind (wpAny_frameOf_fun hfr hl hf fun h₁ hs₁=>?_)
 refine wpAny_bind (wpAny_entryPlaceOf fun pl hpl=>?_)
 unfold EntryCells.newEntry newFields
 refine wpAny_bind (wpAny_newObj_type ?_ (hpl.sizeOk5 _ _ _ _ _))
 have he₁ : h₁.get? e=some oe:=(hs₁.2.1 e hene).trans he
 have he₂:=Heap.get?_push_of_some (h:=h₁) { cls:=.type "traceback",dict:=none,data:=.fields ([head,.ref L,.none,rawInt L,.none]++(if pl.isEmpty then List.replicate 6 Value.none else pl)).toArray } he₁
 refine wpAny_setField he₂ hd hsz (h _ ?_ ?_)
 ·have hTe:h₁.objs.size≠e:=Nat.ne_of_gt (Heap.lt_size he₁)
  have hd₃:=Obj.data_mapFields hd (·.setIfInBounds 1 (Value.ref h₁.objs.size))
  refine ⟨pe,_,_,Heap.get?_update_self _ he₂ (Obj.isFreed_of_fields hd₃),by rw [Obj.cls_mapFields];exact hc,?_,hd₃,by simpa using hz,by rw [Array.getElem?_setIfInBounds_ne (by decide)];exact h2,h₁.objs.size,_,_,by simp [hsz],hTe,
   pn _ (Heap.get?_none_of_le (by rw [hs₁.1];exact Nat.le_refl _)),(Heap.get?_update_other _ _ (Ne.symm hTe)).trans (Heap.get?_push_size h₁ rfl),rfl,by simp only [List.size_toArray,List.length_append,List.length_cons,List.length_nil] <;> omega⟩
  obtain ⟨c,dd,dt,sl⟩:=oe
  cases hd
  exact hdd
 ·have ne:∀ b,¬ P b→e≠b:=fun b n q=>n (q ▸ pe)
  refine ⟨fun b o n m q=>?_,fun b o n q=>?_,fun b o q=>?_⟩
  ·rw [Heap.get?_update_other _ _ (ne b n)]
   exact Heap.get?_push_of_some _ ((hs₁.2.1 b m).trans q)
  ·obtain ⟨sl,e1⟩:=hs₁.2.2 b o q
   exact ⟨sl,by rw [Heap.get?_update_other _ _ (ne b n)];exact Heap.get?_push_of_some _ e1⟩
  ·obtain ⟨sl,e1⟩:=hs₁.2.2 b o q
   by_cases hb:e=b
   ·subst hb
    exact ⟨_,Heap.get?_update_self _ he₂ (Obj.isFreed_of_fields (Obj.data_mapFields hd _))⟩
   ·exact ⟨_,by rw [Heap.get?_update_other _ _ hb];exact Heap.get?_push_of_some _ e1⟩
theorem note_ok {base:Heap}{env:Env}{outer:List Env}{L:Addr}{Q:Unit→Shared→Prop}(hfr:A.frames=some (env::outer))(hl:s.heap.FunFrames base (env::outer))(hf:env.frame=some L)(x:XO s.heap P e C)
  (pn:∀ b,s.heap.get? b=none→P b) (pf:∀ b∈frs (env::outer),¬ P b) (h:∀ h',XN h' P e C→Stp P (frs (env::outer)) s.heap h'→Q () { s with heap:=h' }):wpAny M A (noteFrame (.ref e) env) Q E s:=by
 obtain ⟨p,oe,vs,he,hc,hdd,hd,hz,h2,z⟩:=x
 unfold noteFrame
 simp only [hf]
 rcases z with h1 | ⟨T,oT,ts,h1,hne,pT,hT,hdT,h3⟩
 ·refine wpAny_bind (wpAny_field he hd h1 ?_)
  rw [if_neg (by decide)]
  exact xZ hfr hl hf p he hc hdd hd hz h2 pn h
 ·refine wpAny_bind (wpAny_field he hd h1 ?_)
  rw [if_pos (show (Value.ref T != Value.none)=true from by simp)]
  refine wpAny_bind (wpAny_field hT hdT (x:=ts[3]) (by simp [h3]) ?_)
  by_cases q:(ts[3]==rawInt L)=true
  ·rw [if_pos q]
   exact wpAny_pure (h s.heap ⟨p,oe,vs,he,hc,hdd,hd,hz,h2,T,oT,ts,h1,hne,pT,hT,hdT,h3⟩ .refl)
  ·rw [if_neg q]
   refine wpAny_bind (wpAny_setField hT hdT h3 ?_)
   have other:∀ b,b≠T→(s.heap.update T (Obj.mapFields (·.setIfInBounds 3 Value.none))).get? b=s.heap.get? b:=fun b hb=>Heap.get?_update_other _ _ (Ne.symm hb)
   have nT:∀ b,¬ P b→b≠T:=fun b n q=>n (q ▸ pT)
   have st:Stp P (frs (env::outer)) s.heap (s.heap.update T (Obj.mapFields (·.setIfInBounds 3 Value.none))):=by
    refine ⟨fun b o n _ q=>(other b (nT b n)).trans q,fun b o n q=>⟨o.slots,(other b (nT b n)).trans q⟩,fun b o q=>?_⟩
    by_cases hb:T=b
    ·subst hb
     exact ⟨_,Heap.get?_update_self _ hT (Obj.isFreed_of_fields (Obj.data_mapFields hdT _))⟩
    ·exact ⟨o,(other b (Ne.symm hb)).trans q⟩
   refine xZ (s:={ s with heap:=s.heap.update T (Obj.mapFields (·.setIfInBounds 3 Value.none)) }) hfr (hl.of_keeps fun b o hb hnf=>⟨o,(other b fun q=>?_).trans hb,rfl⟩) hf p ((other e (Ne.symm hne)).trans he) hc hdd hd hz h2 (fun b q=>?_) fun h' x1 x2=>h h' x1 (st.trans x2)
   ·rw [q,hT] at hb;injection hb with hb;subst hb;exact hnf ts hdT
   ·by_cases hb:b=T
    ·rw [hb];exact pT
    ·exact pn b ((other b hb).symm.trans q)
end
end L2
namespace L2
open PySem PySem.Spec PyProof.Rows
theorem fB.obj {P:Program}{w:World}{H:Hp}{h:Heap}{a:Addr}{o:HO}(x:fB P w H h a o):∃ ob,h.get? a=some ob:=by
 cases o with
 | lst xs=>obtain ⟨_,_,_,_,e⟩:=x;exact ⟨_,e⟩
 | tup xs=>obtain ⟨_,_,_,ob,e,_⟩:=x;exact ⟨_,e⟩
 | dK kvs=>obtain ⟨_,_,_,_,o,_,_,e,_⟩:=x;exact ⟨_,e⟩
 | dT kvs=>obtain ⟨_,_,_,_,o,_,_,e,_⟩:=x;exact ⟨_,e⟩
 | set S n=>obtain ⟨o,_,_,_,e,_⟩:=x;exact ⟨_,e⟩
 | ins C dx fs=>obtain ⟨_,_,_,e,_⟩:=x;exact ⟨_,e⟩
 | own y=>obtain ⟨_,e⟩:=x;exact ⟨_,e⟩
 | xd fs=>obtain ⟨_,⟨_,_,_,e,_⟩,_⟩:=x;exact ⟨_,e⟩
 | rng lo hi=>obtain ⟨_,_,_,e⟩:=x;exact ⟨_,e⟩
 | frz ob u=>obtain ⟨e,_⟩:=x;exact ⟨_,e⟩
 | tbl ps=>exact ⟨_,show h.get? a=some _ from x⟩
 | met f y=>exact ⟨_,show h.get? a=some _ from x⟩
 | ext φ=>obtain ⟨_,⟨_,e⟩,_⟩:=x;exact ⟨_,e⟩
section
variable {X:Cx}{pins:List (Addr×Obj)}{σ : St}{H H':Hp}{s s':Shared}{b e C:Addr}
structure New (X:Cx) (pins:List (Addr×Obj)) (H:Hp) (b:Addr):Prop where
 h:H b=none
 s:b∈X.ex∨X.s₀.heap.get? b=none
 l:b≠X.env.locals
 c:∀ x c,X.env.cells.lookup x=some c→c≠b
 p:∀ p∈X.pn++pins,p.1≠b
 f:b∉X.fs
theorem Inv.newOf (I:Inv X pins σ H s)(hb:s.heap.get? b=none):New X pins H b where
 h:=by
  cases q:H b with
  | none=>rfl
  | some u=>obtain ⟨ob,e⟩:=(I.hok b u q).obj;rw [hb] at e;cases e
 s:=by
  by_cases hx:b∈X.ex
  ·exact .inl hx
  ·cases q:X.s₀.heap.get? b with
   | none=>exact .inr rfl
   | some o=>obtain ⟨o',e⟩:=I.base.there b o q hx;rw [hb] at e;cases e
 l:=fun z=>by obtain ⟨m,⟨o,_,_,ho,_⟩,_⟩:=I.loc;rw [←z,hb] at ho;cases ho
 c:=fun x c e z=>by obtain ⟨v,o,ho,_⟩:=I.cell x c e;rw [z,hb] at ho;cases ho
 p:=fun p hp z=>by have ho:=(I.pin p hp).1;rw [z,hb] at ho;cases ho
 f:=fun hm=>by obtain ⟨_,o,ho,_⟩:=I.funs.mem hm;rw [hb] at ho;cases ho
open Classical in
theorem Inv.stp {h':Heap}(I:Inv X pins σ H s)(st:Stp (New X pins H) (frs X.stack) s.heap h'):Inv X pins σ H { s with heap:=h' }:=by
 have inCh:∀ b o,s.heap.get? b=some o→b∉(List.range s.heap.objs.size).filter (fun b=>decide (New X pins H b))→¬ New X pins H b:=fun b o e n z=>
  n (List.mem_filter.mpr ⟨List.mem_range.mpr (Heap.lt_size e),decide_eq_true z⟩)
 refine I.stepG (g':=s.gens) (t':=s.toks) (d':=s.drawn) (ch:=(List.range s.heap.objs.size).filter (fun b=>decide (New X pins H b))) (fun b hb=>?_) (fun b o hL hf hc e n=>?_) (fun b o _ _ hc e _=>st.slot b o (inCh b o e hc) e) (fun _ _ _ _ n=>n)
  (fun b o _ e=>st.there b o e) (fun _ _ q=>q) (fun _ _ _ q=>q) (fun _ ps q=>⟨#[],by rw [q];simp⟩) (fun m hm=>?_) (fun b u q=>?_) I.bare
 ·have z:=of_decide_eq_true (List.mem_filter.mp hb).2
  exact ⟨z.s,z.l,z.c,z.p⟩
 ·exact st.keep b o (inCh b o e hc) (fun z=>(List.mem_cons.mp (I.stkSub b z)).elim hL hf) e
 ·obtain ⟨o,es,ep,ho,r⟩:=hm
  obtain ⟨sl,q⟩:=st.slot _ o (fun z=>z.l rfl) ho
  exact ⟨_,es,ep,q,r⟩
 ·refine (I.hok b u q).stay (fun c v hc r=>?_) (fun _ q=>q) fun _ _ q=>q
  have hH:H c≠none:=by
   rcases hc with z | z
   ·rw [z,q];simp
   ·rw [z];simp
  exact st.keep c v (fun z=>hH z.h) (fun z=>hH (I.stkFree c z)) r
structure FX (X:Cx) (pins:List (Addr×Obj)) (σ : St) (H:Hp) (s:Shared) (e C:Addr):Prop where
 inv:Inv X pins σ H s
 xo:XO s.heap (New X pins H) e C
structure FN (X:Cx) (pins:List (Addr×Obj)) (σ : St) (H:Hp) (s:Shared) (e C:Addr):Prop where
 inv:Inv X pins σ H s
 xn:XN s.heap (New X pins H) e C
theorem FN.fx (F:FN X pins σ H s e C):FX X pins σ H s e C:=⟨F.inv,F.xn.xo⟩
def Top (X:Cx):Prop:=X.stack=X.env::X.outer∧X.env.frame=some X.env.locals
theorem FX.note {M:Model}{A:Around}{E:Value→Shared→Prop}{Q:Unit→Shared→Prop}(F:FX X pins σ H s e C)(ht:Top X)(hA:A.frames=some X.stack)(h:∀ h',FN X pins σ H { s with heap:=h' } e C→Q () { s with heap:=h' }) :
  wpAny M A (noteFrame (.ref e) X.env) Q E s:=by
 have hst:=F.inv.stack
 rw [ht.1] at hst hA
 refine note_ok (P:=New X pins H) hA hst ht.2 F.xo (fun b hb=>F.inv.newOf hb) (fun b hb z=>?_) fun h' x st=>h h' ⟨F.inv.stp (by rw [ht.1];exact st),x⟩
 have hb':b∈frs X.stack:=by rw [ht.1];exact hb
 rcases List.mem_cons.mp (F.inv.stkSub b hb') with q | q
 ·exact z.l q
 ·exact z.f q
theorem FN.flight {M:Model}{A:Around}{E:Value→Shared→Prop}{Q:Unit→Shared→Prop}{fl:Option Addr}(F:FN X pins σ H s e C)(h:∀ h',FN X pins σ H { s with heap:=h' } e C→Q () { s with heap:=h' }) :
  wpAny M A (setFlight (.ref e) fl) Q E s:=zX (fs:=frs X.stack) F.xn fun h' x st=>h h' ⟨F.inv.stp st,x⟩
def CXX (P:Program)(w:World):CXT:=fun outer H s E e s'=>∃ (a C:Addr) (H':Hp),e=.ref a∧s'.os=s.os∧AllBare s'.gens∧Un (frs outer) [] H H' s.heap s'.heap∧HOk P w H' s'.heap ∧
 XN s'.heap (fun b=>H' b=none∧s.heap.get? b=none) a C∧E (.ref C) none H'
theorem FX.leave {M:Model}{E':Value→Shared→Prop}{E:XK}(F:FX X pins σ H s e C)(ht:Top X)(hx:X.ex=[])(he:E (.ref C) none H) :
  wpAny M X.A (leaving X.env (.ref e)) (fun _ s3=>CXX X.prog X.w X.outer X.H₀ X.s₀ E (.ref e) s3) E' s:=by
 unfold leaving
 refine wpAny_bind (F.note ht F.inv.ok.frames fun h1 F1=>F1.flight fun h2 F2=>?_)
 have I:=F2.inv
 refine ⟨e,C,H,rfl,I.os,I.bare,by have:=I.base;rw [hx] at this;exact this,I.hok,F2.xn.mono fun b z=>⟨z.h,?_⟩,he⟩
 rcases z.s with q | q
 ·rw [hx] at q;cases q
 ·exact q
theorem Inv.cxx {E:XK}{ev:Value}(I:Inv X pins σ H s)(h:CXX X.prog X.w X.stack H s E ev s'):∃ (a C:Addr) (H':Hp),ev=.ref a∧FN X pins σ H' s' a C∧E (.ref C) none H':=by
 obtain ⟨a,C,H',e1,os,bare,un,hok,x,he⟩:=h
 refine ⟨a,C,H',e1,⟨I.call' os un hok bare (ch:=[]) (fun b z=>absurd z (by simp)),x.mono fun b z=>?_⟩,he⟩
 have n:=I.newOf z.2
 exact ⟨z.1,n.s,n.l,n.c,n.p,n.f⟩
end
theorem exc_obj {K:PySem.W.Frag}{h:Heap}{C:Addr}{bm:List Value}{newId:String}(X:K.In h)(q:PySem.W.excIn K C bm newId=true) :
  ∃ (tl:List Value) (N:Addr) (nm qn:Str) (bs:List Value) (hd:Bool) (sn:List Str) (sub:List Value) (ab:Bool) (col:Option Bool) (dd:Option Addr) (k0 k1 k2 k3 k5:Option Value) (mN:Str→Option Value),
   K.lookup C=some (excClassObj nm qn C N bs tl hd sn sub ab col dd k0 k1 k2 k3 k5 newId)∧h.Ns N mN∧mN "__init__" = none∧OwnTail h bm tl:=by
 unfold PySem.W.excIn at q
 split at q
 ·rename_i dd cd sl ho
  split at q
  ·rename_i C' bm' k0 k1 k2 k3 n k5 hm hs
   simp only [Bool.and_eq_true,beq_iff_eq,Bool.not_eq_true'] at q
   obtain ⟨⟨⟨⟨⟨rfl,rfl⟩,hdel⟩,ht⟩,hok⟩,hni⟩:=q
   obtain ⟨nm,bs,mro,ns,qn,hd,sn,sub,ab,col,del⟩:=cd
   dsimp only at hm hdel hok hni
   subst hm hdel
   have hsl:sl = #[k0,k1,k2,k3,some (.builtin n),k5]:=by
    obtain ⟨l⟩:=sl
    simp only at hs
    rw [hs]
   subst hsl
   exact ⟨bm',ns,nm,qn,bs,hd,sn,sub,ab,col,dd,k0,k1,k2,k3,k5,_,ho,.of_isNs (PySem.W.isNs_of_in X hok),PySem.W.nsMap_none_of_in X hok hni,PySem.W.tail_of_in X ht⟩
  ·cases q
 ·cases q
section
variable {X:Cx}{pins:List (Addr×Obj)}{σ : St}{H:Hp}{s:Shared}{C:Addr}{x:Str}{np cpos pos:Pos}{e:Expr}{es:List Expr}{t:TA}
theorem za {Q:Flow→Shared→Prop}{R:Hp→Prop}(hc:X.calm=true)(hg:Gl X x)(hm:X.mg x=some (.ref C))(hq:PySem.W.excIn X.K C vmB "ValueError.__new__" = true)(ha:PA X (e::es) t)
  (I:Inv X pins σ H s) (h:t σ H fun vs H1=>vs.length≤sizeLine∧R H1) (hx:∀ a H1 s',FX X pins σ H1 s' a C→R H1→X.xe (.ref a) s')
  (hdb:(x==("__debug__" : Str))=false:=by decide) (he:starEach (e::es) X.env=(false,eval e X.env)::starEach es X.env:=by rfl) (hpl:(backTo cpos (starEach es X.env)).any (·.1)=false:=by rfl) :
  wpAny (model X.prog X.w) X.A (exec (.Raise (some (.Call (.Name x np) (e::es) [] cpos)) none pos) X.env) Q X.xe s:=by
 obtain ⟨tl,N,nm,qn,bs,hd,sn,sub,ab,col,dd,k0,k1,k2,k3,k5,mN,hC,hN,hni,T⟩:=exc_obj I.mod.kin hq
 refine wpAny_Raise_call_subT (C:=C) (nm:=nm) (q:=qn) (N:=N) (bs:=bs) (bm:=tl) (hdct:=hd) (sn:=sn) (sub:=sub) (ab:=ab) (col:=col) (dd:=dd) (k0:=k0) (k1:=k1) (k2:=k2) (k3:=k3) (k5:=k5)
  PySem.F.excBase_ValueError (mN:=mN) (T.hasType PySem.F.excBase_ValueError.hasBase) (I.ok.hd hc) (by rw [he];show (false||(backTo cpos (starEach es X.env)).any (·.1))=false;rw [hpl];rfl) hni (rK I hg hm ⟨rfl,?_⟩ hdb)
 have g:=ha cpos pins s σ H _ I h
 rw [he] at g ⊢
 refine Calls.evalArgs_plain (thn g fun us s2 ⟨vs,H2,I2,r,z,k⟩=>⟨rfl,?_,I2.kIn _ _ hC,hN.keeps I2.bk,T.keeps I2.bk,fun h' a M=>hx a H2 _ ⟨I2.kept (t':=s2.toks) M.keeps,?_⟩ k⟩)
 ·show us.length≤sizeLine
  rw [←r.length];exact z
 ·obtain ⟨tt,h1,h2,h3⟩:=M.there
  exact ⟨I2.newOf M.new,_,_,h1,rfl,rfl,rfl,by simp,rfl,.inl rfl⟩
end
end L2
namespace L2
open PySem PySem.Spec PyProof.Rows
def XT (X:Cx)(H:Hp)(μ : Mu)(Γ : St→Prop)(E:XWK):Value→Shared→Prop:=fun ev s=>∃ (a C:Addr) (n:Str) (pins:List (Addr×Obj)) (σ : St) (H':Hp) (μ':Mu) (h':Gh),ev=.ref a∧FX X pins σ H' s a C∧qJ X.K C n=true∧Γ σ ∧
 Ext X.K H μ H' μ'∧Rel X.K μ' H' h'∧E ⟨n,[]⟩ h'
theorem XT.trans {X:Cx}{H H1:Hp}{μ μ1:Mu}{Γ : St→Prop}{E:XWK}{ev:Value}{s:Shared}(x:XT X H1 μ1 Γ E ev s)(e:Ext X.K H μ H1 μ1):XT X H μ Γ E ev s:=by
 obtain ⟨a,C,n,pins,σ,H',μ',h',h1,h2,h3,h4,h5,h6⟩:=x
 exact ⟨a,C,n,pins,σ,H',μ',h',h1,h2,h3,h4,e.trans h5,h6⟩
def tDX (X:Cx)(Γ : St→Prop)(m:XWK→ME):TE:=fun σ H Q=>Γ σ∧∃ μ h σw Qw E,Rel X.K μ H h∧Slots X.K H μ σw σ∧m E σw h Qw∧(∀ v H',DQ X.K H μ Qw v H'→Q v H')∧∀ ev s',XT X H μ Γ E ev s'→X.xe ev s'
def tDSX (X:Cx)(Γ : St→Prop)(m:XWK→MS):TS:=fun D σ H=>Γ σ∧∃ μ h σw Dw E,Rel X.K μ H h∧Slots X.K H μ σw σ∧m E Dw σw h∧tR X.K H μ Dw D∧∀ ev s',XT X H μ Γ E ev s'→X.xe ev s'
abbrev DEx (X:Cx)(Γ : St→Prop)(e:Expr)(m:XWK→ME):Prop:=PE X e (tDX X Γ m)
abbrev DSx (X:Cx)(Γ : St→Prop)(st:Stmt)(m:XWK→MS):Prop:=PS X st (tDSX X Γ m)
abbrev DSsx (X:Cx)(Γ : St→Prop)(st:List Stmt)(m:XWK→MS):Prop:=PSs X st (tDSX X Γ m)
def uX (K:PySem.W.Frag)(ms:MSp):Sp:=fun vs H Q E=>∃ μ h ws Qw Ew,Rel K μ H h∧aH K H μ ws vs∧ms ws h Qw Ew∧(∀ v H',DQ K H μ Qw v H'→Q v H') ∧
 ∀ (C:Addr) (n:Str) (H':Hp),qJ K C n=true→(∃ μ' h',Ext K H μ H' μ'∧Rel K μ' H' h'∧Ew ⟨n,[]⟩ h')→E (.ref C) none H'
theorem cB.tame {P:Program}{w:World}{K:PySem.W.Frag}{mg:Str→Option Value}{base:Heap}{k:Nat}{f:Addr}{fd:FuncData}{ps:List Str}{ms:MSp}(F:cB P w K mg base (CXX P w) k f fd ps (uX K ms)):cB P w K mg base CX0 k f fd ps (lift K ms):=by
 have up:∀ vs H Q E,lift K ms vs H Q E→uX K ms vs H Q E0:=fun vs H Q E ⟨μ,h,ws,Qw,R,r,m,q⟩=>⟨μ,h,ws,Qw,EF,R,r,m,q,fun _ _ _ _ ⟨_,_,_,_,z⟩=>z⟩
 refine ⟨fun vs H Q E q=>F.len vs H Q E0 (up _ _ _ _ q),fun A outer s H args us vs Q E hr e0 hb hv hs=>codeAny_mono (F.run A outer s H args us vs Q E0 hr e0 hb hv (up _ _ _ _ hs)) fun r s' h=>?_⟩
 cases r with
 | error e=>obtain ⟨_,_,_,_,_,_,_,_,_,z⟩:=h;exact z
 | ok fl=>cases fl <;> exact h
section
variable {X:Cx}{Γ : St→Prop}{e c:Expr}{es:List Expr}{mr:MA}{pos:Pos}{st:Stmt}{rest:List Stmt}
theorem zQ {k:Nat}{f:Addr}{fd:FuncData}{ps:List Str}{ms:MSp}{x:Str}{p:Pos}(F:cB X.prog X.w X.K X.mg X.base (CXX X.prog X.w) k f fd ps (uX X.K ms))(hr:kj k X.A)(hg:Gl X x)(hm:X.mg x=some (.ref f))(hk:PySem.W.keepIn X.K (.ref f)=true)
  (hb:Binds X.K fd ps []) (ha:DAs X (e::es) mr) (hdb:(x==("__debug__" : Str))=false:=by decide) (he:starEach (e::es) X.env=(false,eval e X.env)::starEach es X.env:=by rfl) (hpl:(backTo pos (starEach es X.env)).any (·.1)=false:=by rfl) :
  DEx X Γ (.Call (.Name x p) (e::es) [] pos) (fun E=>aU ms E mr):=by
 intro pins s σ H Q I ⟨hσ,μ,h,σw,Qw,E,R,S,m,q,kx⟩
 refine wpAny_Call_Name_kw (rK I hg hm ?_ hdb)
 refine PySem.W.callWith_K (h₀:=X.base) I.ok.mod.kin hk (thn (ha pos pins s σ H (fun vs H1=>DA X.K H μ (fun ws h1=>ms ws h1 Qw E) vs H1) I ⟨μ,h,σw,_,R,S,m,fun _ _ z=>z⟩) fun us s1 ⟨vs,H1,I1,r,μ1,ws,h1,e1,R1,r1,m1⟩=>⟨I1.kIn,?_⟩) he hpl
 have sp:uX X.K ms (vs++[]) H1 Q (fun Cv _ H'=>∃ (C:Addr) (n:Str) (μ':Mu) (h':Gh),Cv=.ref C∧qJ X.K C n=true∧Ext X.K H1 μ1 H' μ'∧Rel X.K μ' H' h'∧E ⟨n,[]⟩ h'):=by
  rw [List.append_nil]
  exact ⟨μ1,h1,ws,Qw,E,R1,r1,m1,fun v H' z=>q _ _ (z.trans e1),fun C n H' hx ⟨μ',h',z⟩=>⟨C,n,μ',h',rfl,hx,z⟩⟩
 have r2:Vals (vs++[]) (us++[]):=r.append .nil
 have hl:(us++[]).length=ps.length:=by rw [←r2.length];exact F.len _ _ _ _ sp
 refine wpAny_call (codeAny_mono (F.run X.A X.stack s1 H1 ⟨us,[]⟩ (us++[]) (vs++[]) Q _ hr I1.env0 (hb s1 us I1.kIn hl) r2 sp) fun r s' hq=>?_)
 cases r with
 | error ev=>
  obtain ⟨a,C,H',e2,F2,C',n,μ',h',e3,hx,e4,R4,k4⟩:=I1.cxx (E:=fun Cv _ H'=>∃ (C:Addr) (n:Str) (μ':Mu) (h':Gh),Cv=.ref C∧qJ X.K C n=true∧Ext X.K H1 μ1 H' μ'∧Rel X.K μ' H' h'∧E ⟨n,[]⟩ h') hq
  cases e3
  exact kx ev s' ⟨a,C,n,pins,σ,H',μ',h',e2,F2.fx,hx,hσ,e1.trans e4,R4,k4⟩
 | ok fl=>
  cases fl with
  | ret u=>exact I1.after hq
  | next=>exact False.elim hq
  | brk=>exact False.elim hq
  | cont=>exact False.elim hq
theorem dsx_of {m:MS}(h:DS X st m):DSx X Γ st (fun _=>m):=h.of fun D σ H ⟨_,μ,h,σw,Dw,_,R,S,m,k,_⟩=>⟨μ,h,σw,Dw,R,S,m,k⟩
theorem rE:DSsx X Γ [] (fun _=>bN):=bB.of fun D σ H ⟨_,μ,h,σw,Dw,_,R,S,m,k,_⟩=>⟨μ,h,σw,Dw,R,S,m,k⟩
theorem fX {m:XWK→MS}(h:DSx X Γ st m):DSsx X Γ [st] m:=pss_one h
theorem fD {m1 m2:XWK→MS}(hΓ : ∀ σ,Γ σ)(h1:DSx X Γ st m1)(h2:DSsx X Γ rest m2):DSsx X Γ (st::rest) (fun E=>bA (m1 E) (m2 E)):=(xr h1 h2).of fun D σ H ⟨g,μ,h,σw,Dw,E,R,S,m,k,kx⟩=>by
 refine ⟨g,μ,h,σw,_,E,R,S,m,⟨?_,k.rt,k.bk,k.ct⟩,kx⟩
 intro σ' H' ⟨μ1,σw1,h1,e1,R1,S1,m1⟩
 exact ⟨hΓ _,μ1,h1,σw1,Dw,E,R1,S1,m1,k.trans e1,fun ev s' z=>kx ev s' (z.trans e1)⟩
theorem dsx_expr {ma:XWK→ME}(he:DEx X Γ e ma)(hs:swapsWith e none pos.line X.env=pure false:=by rfl):DSx X Γ (.Expr e pos) (fun E=>gC (ma E)):=(ps_expr he hs).of fun D σ H ⟨g,μ,h,σw,Dw,E,R,S,m,k,kx⟩=>
 ⟨g,μ,h,σw,_,E,R,S,m,fun v H1 ⟨μ1,w,h1,e1,R1,_,m1⟩=>k.nx _ _ ⟨μ1,σw,h1,e1,R1,S.ext e1,m1⟩,kx⟩
theorem dsx_ret {ma:XWK→ME}(he:DEx X Γ e ma):DSx X Γ (.Return (some e) pos) (fun E=>cu (ma E)):=(ps_ret he).of fun D σ H ⟨g,μ,h,σw,Dw,E,R,S,m,k,kx⟩=>⟨g,μ,h,σw,_,E,R,S,m,k.rt,kx⟩
theorem dsx_if {a b:List Stmt}{t:MT}{m1 m2:XWK→MS}(hc:DT X c t)(ha:DSsx X Γ a m1)(hb:DSsx X Γ b m2):DSx X Γ (.If c a b pos) (fun E=>dX t (m1 E) (m2 E)):=(ps_if hc ha hb).of fun D σ H ⟨g,μ,h,σw,Dw,E,R,S,m,k,kx⟩=>by
 refine ⟨μ,h,σw,_,R,S,m,fun b H1 ⟨μ1,h1,e1,R1,q⟩=>?_⟩
 cases b with
 | true=>rw [if_pos rfl];exact ⟨g,μ1,h1,σw,Dw,E,R1,S.ext e1,q.1 rfl,k.trans e1,fun ev s' z=>kx ev s' (z.trans e1)⟩
 | false=>rw [if_neg Bool.false_ne_true];exact ⟨g,μ1,h1,σw,Dw,E,R1,S.ext e1,q.2 rfl,k.trans e1,fun ev s' z=>kx ev s' (z.trans e1)⟩
theorem nG {C:Addr}{x v:Str}{j}{np cpos p1:Pos}(hc:X.calm=true)(hg:Gl X x)(hm:X.mg x=some (.ref C))(hq:PySem.W.excIn X.K C vmB "ValueError.__new__" = true)(hx:qJ X.K C x=true)(hdb:(x==("__debug__" : Str))=false:=by decide) :
  DSx X Γ (.Raise (some (.Call (.Name x np) [.Constant (.str v) j p1] [] cpos)) none pos) (fun E=>tQ x E):=by
 intro pins s σ H D I ⟨g,μ,h,σw,Dw,E,R,S,m,k,kx⟩
 refine za (R:=fun H1=>∃ μ1 h1,Ext X.K H μ H1 μ1∧Rel X.K μ1 H1 h1∧E ⟨x,[]⟩ h1) hc hg hm hq (ak pY aB rfl) I ⟨μ,h,σw,fun ws h1=>ws.length=1∧E ⟨x,[]⟩ h1,R,S,⟨rfl,m⟩,fun vs H' ⟨μ1,ws,h1,e1,R1,r1,l1,m1⟩=>⟨by rw [←r1.len,l1];decide,μ1,h1,e1,R1,m1⟩⟩ (fun a H1 s' F ⟨μ1,h1,e1,R1,m1⟩=>?_) hdb rfl rfl
 exact kx _ s' ⟨a,C,x,pins,σ,H1,μ1,h1,rfl,F,hx,g,e1,R1,m1⟩
end
theorem d_fnX {P:Program}{w:World}{K:PySem.W.Frag}{mg:Str→Option Value}{base:Heap}{x qual:Str}{st:Stmt}{f:Addr}{fd:FuncData}{N ps:List Str}{k:Nat}{pure:Bool}{body:XWK→MS}(F:Fun K x qual st f fd)(S:aL N ps (aF st))
  (hb:∀ (cdv:Value) (A:Around) (outer:List Env) (s:Shared) (H:Hp) (E:XK),kj k (A.deeper (envOfC qual (aF st) s.heap.objs.size f cdv)) →
   DSsx (cxOf (CXX P w) P w K mg base N qual (aF st) f cdv A outer s H E) (fun _=>True) (fM st) body):cB P w K mg base (CXX P w) (k+1) f fd ps (uX K (mFn ps.length N.length pure body)):=by
 obtain ⟨oc,od,kV,doc,pm,an,cdv,ct,osl,rfl,lk,hcd⟩:=F.ex
 refine fn_of lk hcd S (fun vs H Q E ⟨μ,h,ws,Qw,Ew,R,r,m,_,_⟩=>by rw [←r.len];exact (xX m).1) fun A outer s H vs Q E hr ⟨μ,h,ws,Qw,Ew,R,r,m0,k,kx⟩=>?_
 obtain ⟨hl,m⟩:=xX m0
 refine ⟨_,hb cdv A outer s H E hr,trivial,μ,h,_,_,Ew,R,mz r,m,⟨?_,?_,?_,?_⟩,?_⟩
 ·rintro σ' H' ⟨μ1,σw1,h1,e1,R1,S1,m1⟩
  exact k _ _ (qw (w:=.non) R e1 R1 (by rw [Rep]) m1)
 ·rintro v H' ⟨μ1,w1,h1,e1,R1,r1,m1⟩
  exact k _ _ (qw R e1 R1 r1 m1)
 ·rintro σ' H' ⟨μ1,σw1,h1,e1,R1,S1,m1⟩
  exact m1.elim
 ·rintro σ' H' ⟨μ1,σw1,h1,e1,R1,S1,m1⟩
  exact m1.elim
 ·rintro ev s' ⟨a,C,n,pins,σ',H',μ',h',rfl,F',hx,_,e1,R1,m1⟩
  exact F'.leave ⟨rfl,rfl⟩ rfl (kx C n H' hx ⟨μ',h',e1,R1,m1⟩)
end L2
namespace L2
open PySem PySem.Spec PyProof.Rows
abbrev Cx.tr (X:Cx)(pins:List (Addr×Obj))(xe:Value→Shared→Prop):Cx:={ X with pn:=X.pn++pins,xe:=xe }
abbrev Cx.hnd (X:Cx)(a:Addr)(o:Obj)(u:HO):Cx:={ X with A:=X.A.mark (some (.ref a)),H₀:=upd X.H₀ a (.frz o u),calm:=false }
def dW (a:Addr)(o:Obj):HO:=.ext fun h=>h.get? a=some o
section
variable {X:Cx}{pins pins':List (Addr×Obj)}{σ : St}{H:Hp}{s:Shared}{xe:Value→Shared→Prop}{a C:Addr}{o:Obj}{u:HO}
theorem Cx.Ok.tr (ok:X.Ok)(pins:List (Addr×Obj))(xe:Value→Shared→Prop):(X.tr pins xe).Ok:=
 ⟨ok.mod,ok.kind,ok.glob,ok.blt,ok.above,ok.inj,ok.has,ok.cab,ok.hd,ok.qt,ok.frames,ok.stk,ok.exf,ok.bs,ok.bsz,ok.noex,ok.exfs,ok.funs,ok.frf⟩
theorem Cx.Ok.untr (ok:(X.tr pins xe).Ok):X.Ok:=
 ⟨ok.mod,ok.kind,ok.glob,ok.blt,ok.above,ok.inj,ok.has,ok.cab,ok.hd,ok.qt,ok.frames,ok.stk,ok.exf,ok.bs,ok.bsz,ok.noex,ok.exfs,ok.funs,ok.frf⟩
theorem Inv.tr (I:Inv X pins σ H s):Inv (X.tr pins xe) [] σ H s:=⟨I.ok.tr pins xe,I.os,I.bare,I.base,I.loc,I.cell,I.free,I.freeC,fun p hp=>I.pin p (by
 have hp':p∈(X.pn++pins)++[]:=hp
 rw [List.append_nil] at hp'
 exact hp'),I.hok,I.len⟩
theorem Inv.untr (I:Inv (X.tr pins xe) pins' σ H s):Inv X pins σ H s:=⟨I.ok.untr,I.os,I.bare,I.base,I.loc,I.cell,I.free,I.freeC,fun p hp=>I.pin p (List.mem_append_left _ hp),I.hok,I.len⟩
theorem New.untr {b:Addr}(n:New (X.tr pins xe) pins' H b):New X pins H b:=⟨n.h,n.s,n.l,n.c,fun p hp=>n.p p (List.mem_append_left _ hp),n.f⟩
theorem FX.untr {e:Addr}(F:FX (X.tr pins xe) pins' σ H s e C):FX X pins σ H s e C:=⟨F.inv.untr,F.xo.mono fun _ n=>n.untr⟩
theorem SP.untr {D:Ends}{f:Flow}{s':Shared}(h:SP (X.tr pins xe) [] D f s'):SP X pins D f s':=by
 cases f with
 | next=>obtain ⟨σ',H',I,q⟩:=h;exact ⟨σ',H',I.untr,q⟩
 | brk=>obtain ⟨σ',H',I,q⟩:=h;exact ⟨σ',H',I.untr,q⟩
 | cont=>obtain ⟨σ',H',I,q⟩:=h;exact ⟨σ',H',I.untr,q⟩
 | ret v=>obtain ⟨v,σ',H',I,r,q⟩:=h;exact ⟨v,σ',H',I.untr,r,q⟩
theorem Inv.hnd {vs:Array Value}(I:Inv X pins σ H s)(n:New X pins H a)(hx:X.ex=[])(ho:s.heap.get? a=some o)(hd:o.data=.fields vs)(h2:vs[2]?=some .none):Inv (X.hnd a o (dW a o)) pins σ (upd H a (.frz o (dW a o))) s:=by
 have s0:X.s₀.heap.get? a=none:=by
  rcases n.s with q | q
  ·rw [hx] at q;cases q
  ·exact q
 have ne:∀ b ob,X.s₀.heap.get? b=some ob→b≠a:=fun b ob e z=>by rw [z,s0] at e;cases e
 have nf:∀ b∈X.fs,b≠a:=fun b hb z=>n.f (by rw [←z];exact hb)
 have ok:(X.hnd a o (dW a o)).Ok:=by
  have k:=I.ok
  refine ⟨k.mod,k.kind,k.glob,k.blt,k.above,k.inj,k.has,k.cab,fun z=>(nomatch z),fun v e=>?_,k.frames,k.stk,k.exf,fun b ob e=>?_,k.bsz,k.noex,k.exfs,k.funs,fun b hb=>?_⟩
  ·have e:some (Value.ref a)=some v:=e
   cases e
   exact ⟨a,o,dW a o,vs,rfl,aR,hd,h2⟩
  ·obtain ⟨e1,e2⟩:=k.bs b ob e
   exact ⟨e1,(aG (ne b ob e1)).trans e2⟩
  ·exact (aG (nf b hb)).trans (k.frf b hb)
 have up:∀ b ob,X.s₀.heap.get? b=some ob→upd X.H₀ a (.frz o (dW a o)) b=none→X.H₀ b=none:=fun b ob e z=>by rw [aG (ne b ob e)] at z;exact z
 refine ⟨ok,I.os,I.bare,⟨fun b ob e z hf hx=>I.base.keep b ob e (up b ob e z) hf hx,fun b ob e z hf hx=>I.base.slot b ob e (up b ob e z) hf hx,fun b ob e z hx=>?_,I.base.there,fun b xs z=>?_,fun b ob v z=>?_,fun b ps z=>?_⟩,I.loc,I.cell,?_,fun x c e=>?_,fun p hp=>?_,fun b v z=>?_,I.len⟩
 ·rw [aG (ne b ob e)];exact I.base.free b ob e (up b ob e z) hx
 ·have z:upd X.H₀ a (.frz o (dW a o)) b=some (.tup xs):=z
  by_cases hb:b=a
  ·subst hb;rw [aR] at z;cases z
  ·rw [aG hb] at z ⊢;exact I.base.tups b xs z
 ·have z:upd X.H₀ a (.frz o (dW a o)) b=some (.frz ob v):=z
  by_cases hb:b=a
  ·subst hb;rw [aR] at z ⊢;exact z
  ·rw [aG hb] at z ⊢;exact I.base.frzs b ob v z
 ·have z:upd X.H₀ a (.frz o (dW a o)) b=some (.tbl ps):=z
  by_cases hb:b=a
  ·subst hb;rw [aR] at z;cases z
  ·rw [aG hb] at z ⊢;exact I.base.tbls b ps z
 ·rw [aG (Ne.symm n.l)];exact I.free
 ·rw [aG (n.c x c e)];exact I.freeC x c e
 ·obtain ⟨h1,h3,h4⟩:=I.pin p hp
  exact ⟨h1,(aG (n.p p hp)).trans h3,h4⟩
 ·by_cases hb:b=a
  ·subst hb
   rw [aR] at z
   cases z
   exact ⟨ho,ho,⟨o,ho⟩,fun h1 h2 q k=>k o q⟩
  ·rw [aG hb] at z
   exact (I.hok b v z).stay (fun _ _ _ q=>q) (fun c q=>by rw [aG (aM q n.h)];exact q) fun c xs q=>by rw [aG (aM q n.h)];exact q
theorem Inv.unhnd {σ0:St}{H0:Hp}{s0:Shared}(I0:Inv X pins σ0 H0 s0)(n:New X pins H0 a)(hx:X.ex=[])(I:Inv (X.hnd a o u) pins' σ H s):Inv X pins' σ H s:=by
 have e0:X.s₀.heap.get? a=none:=by
  rcases n.s with q | q
  ·rw [hx] at q;cases q
  ·exact q
 have ne:∀ b ob,X.s₀.heap.get? b=some ob→b≠a:=fun b ob e z=>by rw [z,e0] at e;cases e
 have up:∀ b ob,X.s₀.heap.get? b=some ob→X.H₀ b=none→(X.hnd a o u).H₀ b=none:=fun b ob e z=>(aG (ne b ob e)).trans z
 refine ⟨I0.ok,I.os,I.bare,⟨fun b ob e z hf hx=>I.base.keep b ob e (up b ob e z) hf hx,fun b ob e z hf hx=>I.base.slot b ob e (up b ob e z) hf hx,fun b ob e z hx=>I.base.free b ob e (up b ob e z) hx,I.base.there,fun b xs z=>?_,fun b ob v z=>?_,fun b ps z=>?_⟩,I.loc,I.cell,I.free,I.freeC,I.pin,I.hok,I.len⟩
 ·refine I.base.tups b xs ((aG fun hb=>?_).trans z)
  subst hb
  have:=I0.base.tups b xs z
  rw [n.h] at this;cases this
 ·refine I.base.frzs b ob v ((aG fun hb=>?_).trans z)
  subst hb
  have:=I0.base.frzs b ob v z
  rw [n.h] at this;cases this
 ·refine I.base.tbls b ps ((aG fun hb=>?_).trans z)
  subst hb
  obtain ⟨_,this⟩:=I0.base.tbls b ps z
  rw [n.h] at this;cases this
def rD (σ : St):St:=σ.map fun _=>none
theorem Inv.lost {m':Str→Option Value}{h':Heap}{t':Nat}(I:Inv X pins σ H s)(hn:h'.Ns X.env.locals m')(sb:Heap.SameBut X.env.locals s.heap h'):Inv X pins (rD σ) H { s with heap:=h',toks:=t' }:=by
 have neL:∀ b o,X.s₀.heap.get? b=some o→b≠X.env.locals:=fun b o e=>Nat.ne_of_lt (Nat.lt_of_lt_of_le (Heap.lt_size e) I.ok.above)
 have k:∀ b o,b≠X.env.locals→s.heap.get? b=some o→h'.get? b=some o:=fun b o hb e=>(sb.2 b hb).trans e
 refine ⟨I.ok,I.os,I.bare,⟨fun b o e z hf hx=>k b o (neL b o e) (I.base.keep b o e z hf hx),fun b o e z hf hx=>?_,I.base.free,fun b o e hx=>?_,I.base.tups,I.base.frzs,I.base.tbls⟩,⟨m',hn,fun i x v _ e2 _=>?_⟩,fun x c e=>?_,I.free,I.freeC,fun p hp=>?_,fun b v z=>?_,?_⟩
 ·obtain ⟨sl,e1⟩:=I.base.slot b o e z hf hx
  exact ⟨sl,k b _ (neL b o e) e1⟩
 ·obtain ⟨o',e1⟩:=I.base.there b o e hx
  exact ⟨o',k b _ (neL b o e) e1⟩
 ·unfold rD at e2
  rw [List.getElem?_map] at e2
  cases q:σ[i]? with
  | none=>rw [q] at e2;cases e2
  | some w=>rw [q] at e2;cases e2
 ·obtain ⟨v,oc,ho,hd⟩:=I.cell x c e
  exact ⟨v,oc,k c oc (I.cne x c e) ho,hd⟩
 ·obtain ⟨h1,h2,h3,h4⟩:=I.pin p hp
  exact ⟨k _ _ h3 h1,h2,h3,h4⟩
 ·have nL:∀ c w,H c=some w→c≠X.env.locals:=fun c w e q=>by rw [q,I.free] at e;cases e
  refine (I.hok b v z).stay (fun c w hc q=>k c w ?_ q) (fun _ q=>q) fun _ _ q=>q
  rcases hc with r | r
  ·rw [r];exact nL b _ z
  ·exact nL c _ r
 ·unfold rD
  rw [List.length_map];exact I.len
end
end L2
namespace L2
open PySem PySem.Spec PyProof.Rows
section
variable {prog:Program}{w:World}{A:Around}{E:Value→Shared→Prop}{s:Shared}{K:PySem.W.Frag}{x D:Addr}{ox:Obj}
theorem exc_class {Q:Option Value→Shared→Prop}(X:K.In s.heap)(I:PySem.W.InstAt s.heap x ox D none)(hga:PySem.W.findIn K (.ref D) "__getattribute__" = some (some (.builtin "BaseException.__getattribute__")))(hk:PySem.W.findIn K (.ref D) "__getattr__" = some none)
  (hf:PySem.W.findObj K D none "__class__" = some (.bind (.builtin "getset_descriptor.__get__") (.builtin "object.__class__"))) (hm:PySem.W.mroIn K D (.type "object")=some true) (hB:PySem.W.mroIn K D (.type "BaseException")=some true)
  (h:Q (some (.ref D)) { s with toks:=s.toks+1 }):wpAny (model prog w) A (getAttr? (.ref x) "__class__") Q E s:=by
 obtain ⟨hh,g,d,t,os⟩:=s
 have L0:=I.type (M:=model prog w)
 have L1:=PySem.W.looks_findIn (M:=model prog w) X hga
 have L2:=PySem.W.looks_findIn (M:=model prog w) X hk
 have L3:=PySem.W.looks_find (M:=model prog w) X I hf
 have L4:=PySem.W.looks_mroIn (M:=model prog w) X hB
 unfold getAttr? getAttrBy? getAttrBy
 refine wpAny_bind (wpAny_mkText (wpAny_bind (wpAny_attempt (wpAny_holding (wpAny_bind (PySem.W.Looks.at L0 (wpAny_bind (PySem.W.Looks.at L1 ?_))))))))
 show wpAny _ _ (if (onTheHeap (Value.ref D)&&(Value.builtin "BaseException.__getattribute__"==Value.builtin "object.__getattribute__"))=true then _ else getAttrByItsOwn _ _ _ _ _ _) _ _ _
 have hx2:(Value.builtin "BaseException.__getattribute__"==Value.builtin "object.__getattribute__")=false:=by decide +kernel
 rw [hx2,Bool.and_false,if_neg Bool.false_ne_true]
 unfold getAttrByItsOwn
 refine wpAny_bind (show wpAny _ _ (typeLookup (Value.ref D) "__getattr__") _ _ _ from PySem.W.Looks.at L2 ?_)
 refine wpAny_bind (wpAny_attempt (wpAny_holding ?_))
 show wpAny _ _ (boundAndCalled _ _ _) _ _ _
 unfold boundAndCalled
 rw [PySem.F.attrBase_ValueError.ga.bind (.ref x)]
 refine wpAny_bind (wpAny_pure ?_)
 dsimp only
 refine wpAny_call (codeAny_call_builtin PySem.F.attrBase_ValueError.ga.plain F.entry_bexc_ga ?_)
 have hk:builtinKind "BaseException.__getattribute__" = some .slot:=by decide +kernel
 have hsplit:splitId "BaseException.__getattribute__" = some ("BaseException", "__getattribute__"):=by decide +kernel
 have ha:=F.args_bexc_ga (.ref x) (.str "__class__" t)
 simp only [checkBuiltinCall,hk,hsplit]
 show wpAny (model prog w) A.in1 (isInstance (Value.ref x) (Value.type "BaseException") >>= _) _ _ _
 refine wpAny_bind ?_
 unfold isInstance
 refine wpAny_bind (PySem.W.Looks.at L0 (PySem.W.Looks.at L4 ?_))
 rw [if_neg (by decide)]
 change wpAny (model prog w) A.in1 (match Manifest.signature? "BaseException.__getattribute__" with
  | some sig=>Bind.checkArgs "BaseException.__getattribute__" sig ⟨[Value.ref x,Value.str (Str.ofString "__class__") t],[]⟩
  | x=>pure ()) _ _ _
 repeat (any_goals (first | assumption | (with_reducible refine wpAny_loadPart_at I.at_ ?_;rw [I.cls]) | with_reducible refine PySem.W.Looks.at L3 ?_ | wp_step))
 refine PySem.W.class_get (s:=⟨hh,g,d,t+1,os⟩) (ox:=ox) (od:=none) X I hm ?_
 refine wpAny_pure ?_
 exact PySem.W.handed_on rfl (wpAny_pure h)
end
def isX (n d:Str):Bool:=n==d||d == "EaselError"
section
variable {K:PySem.W.Frag}{C D:Addr}{n d:Str}
theorem yP (h:lV K D d=true):PySem.W.nsIn K mainGlobals d=some (some (.ref D))∧PySem.W.typeIn K (.ref D)=some (.type "type")∧∃ cd,PySem.W.clsIn K D=some cd∧cd.name=d∧cd.mro.contains (.type "BaseException")=true:=by
 unfold lV at h
 simp only [Bool.and_eq_true,beq_iff_eq] at h
 obtain ⟨⟨h1,h2⟩,h3⟩:=h
 refine ⟨h1,h2,?_⟩
 split at h3
 ·rename_i cd hc
  simp only [Bool.and_eq_true,beq_iff_eq] at h3
  exact ⟨cd,hc,h3.1,h3.2⟩
 ·cases h3
theorem xc_of (h:qJ K C n=true):lV K C n=true∧(∃ cd R,PySem.W.clsIn K C=some cd∧cd.mro=.ref C::.ref R::vmB∧PySem.W.nsIn K mainGlobals "EaselError" = some (some (.ref R))∧∃ cr,PySem.W.clsIn K R=some cr∧cr.name = "EaselError") ∧
  PySem.W.findIn K (.ref C) "__getattribute__" = some (some (.builtin "BaseException.__getattribute__"))∧PySem.W.findIn K (.ref C) "__getattr__" = some none∧PySem.W.findIn K (.ref C) "__class__" = some (some (.builtin "object.__class__"))∧PySem.W.specialIn K (.builtin "object.__class__") "__get__" = some (some (.builtin "getset_descriptor.__get__"))∧PySem.W.takesIn K (.builtin "object.__class__")=some true:=by
 unfold qJ at h
 simp only [Bool.and_eq_true,beq_iff_eq] at h
 obtain ⟨⟨⟨⟨⟨⟨h1,h2⟩,h3⟩,h3'⟩,h4⟩,h5⟩,h6⟩:=h
 refine ⟨h1,?_,h3,h3',h4,h5,h6⟩
 split at h2
 ·rename_i cd hc
  split at h2
  ·rename_i C' R a b c d hm
   simp only [Bool.and_eq_true,beq_iff_eq] at h2
   obtain ⟨⟨⟨e1,e2⟩,e3⟩,e4⟩:=h2
   obtain ⟨cr,e5,e6⟩:=PySem.W.any_some e4
   exact ⟨cd,R,hc,by rw [hm,e1,←e2],e3,cr,e5,beq_iff_eq.mp e6⟩
  ·cases h2
 ·cases h2
theorem xc_mro (h:qJ K C n=true)(hd:lV K D d=true):PySem.W.mroIn K C (.ref D)=some (isX n d):=by
 obtain ⟨hx,⟨cd,R,hc,hm,hR,cr,hcr,hnr⟩,_⟩:=xc_of h
 obtain ⟨n1,_,cd',hc',nm,_⟩:=yP hx
 obtain ⟨d1,_,dd,hdd,dm,_⟩:=yP hd
 rw [hc] at hc';cases hc'
 unfold PySem.W.mroIn
 rw [hc,Option.bind_some,hm]
 show some ((Value.ref C::Value.ref R::vmB).contains (.ref D))=some (isX n d)
 congr 1
 unfold isX
 have e1:(Value.ref C::Value.ref R::vmB).contains (.ref D)=((Value.ref D==Value.ref C)||((Value.ref D==Value.ref R)||false)):=by
  rw [List.contains_cons,List.contains_cons];rfl
 rw [e1,Bool.or_false]
 have a1:(Value.ref D==Value.ref C)=(n==d):=by
  rw [Bool.eq_iff_iff,beq_iff_eq,beq_iff_eq]
  constructor
  ·intro q
   cases q
   rw [hc] at hdd;cases hdd
   rw [←nm,←dm]
  ·intro q
   subst q
   rw [n1] at d1
   injection d1 with d1;injection d1 with d1;injection d1 with d1
   rw [d1]
 have a2:(Value.ref D==Value.ref R)=(d == "EaselError"):=by
  rw [Bool.eq_iff_iff,beq_iff_eq,beq_iff_eq]
  constructor
  ·intro q
   cases q
   rw [hcr] at hdd;cases hdd
   rw [←hnr,←dm]
  ·intro q
   subst q
   rw [hR] at d1
   injection d1 with d1;injection d1 with d1;injection d1 with d1
   rw [d1]
 rw [a1,a2]
def yw (K:PySem.W.Frag)(v:V)(f:Str→Bool):Prop:=∀ (u:Value),RelV v u→∀ (C:Addr) (n:Str),qJ K C n=true→PySem.W.kitOne K (.ref C) u=some (f n)
theorem yw.own (hd:lV K D d=true):yw K (.ref D) (fun n=>isX n d):=by
 intro u r C n h
 cases (show u=Value.ref D from r)
 have e:=xc_mro h hd
 obtain ⟨_,ht,dd,hdd,_⟩:=yP hd
 unfold PySem.W.kitOne
 by_cases q:(Value.ref C==Value.ref D)=true
 ·rw [if_pos q]
  have q:=beq_iff_eq.mp q
  cases q
  obtain ⟨n1,_,cd,hc,nm,_⟩:=yP (xc_of h).1
  rw [hc] at hdd;cases hdd
  obtain ⟨_,_,cd',hc',dm,_⟩:=yP hd
  rw [hc] at hc';cases hc'
  unfold isX
  rw [←nm,←dm]
  simp
 ·rw [if_neg q]
  unfold PySem.W.kitCls
  dsimp only
  rw [if_pos (by rw [hdd,ht];rfl)]
  exact e
theorem yw.val:yw K (.ty "ValueError") (fun _=>true):=by
 intro u r C n h
 cases (show u=Value.type "ValueError" from r)
 obtain ⟨_,⟨cd,R,hc,hm,_⟩,_⟩:=xc_of h
 unfold PySem.W.kitOne
 rw [if_neg (by intro q;cases beq_iff_eq.mp q)]
 unfold PySem.W.kitCls
 dsimp only
 rw [if_pos (by decide +kernel)]
 show PySem.W.mroIn K C (.type "ValueError")=some true
 unfold PySem.W.mroIn
 rw [hc,Option.bind_some,hm]
 rfl
theorem kitx_exc {x:Addr}{ox:Obj}(h:qJ K D n=true):PySem.W.KitX K (.ref x) (.ref D) (fun h=>PySem.W.InstAt h x ox D none):=by
 obtain ⟨hx,⟨cd,R,hc,hm,_⟩,hg,hg',ha,hn,htk⟩:=xc_of h
 have hmo:PySem.W.mroIn K D (.type "object")=some true:=by
  unfold PySem.W.mroIn
  rw [hc,Option.bind_some,hm]
  rfl
 have hf:PySem.W.findObj K D none "__class__" = some (.bind (.builtin "getset_descriptor.__get__") (.builtin "object.__class__")):=by
  unfold PySem.W.findObj
  rw [hc,Option.bind_some,ha,Option.bind_some]
  simp [hn,htk]
 have hcl:∃ c' d' sl',K.lookup D=some ⟨c',d',.cls cd,sl'⟩:=by
  unfold PySem.W.clsIn at hc
  split at hc
  ·rename_i c' d' cd' sl' ho
   cases hc
   exact ⟨c',d',sl',ho⟩
  ·cases hc
 obtain ⟨c',d',sl',ho⟩:=hcl
 refine ⟨fun _ _ _ I=>I.type,fun _ _ X _=>?_,fun h tp dd its n sl X htp=>?_,fun {prog w A E Q s} X I k=>?_⟩
 ·intro A' Q' E' s' k q
  unfold isType loadHead
  exact wpAny_bind (wpAny_loadPart (k _ _ (X _ _ ho)) (wpAny_pure q))
 ·refine Bool.eq_false_iff.mpr fun q=>?_
  have e:D=tp:=Value.ref.inj (beq_iff_eq.mp q)
  subst e
  have z:=(X _ _ ho).symm.trans htp
  cases z
 ·refine exc_class X I hg hg' hf hmo ?_ k
  unfold PySem.W.mroIn
  rw [hc,Option.bind_some,hm]
  rfl
theorem vD {M:Model}{A:Around}{E:Value→Shared→Prop}{s:Shared}{e:Addr}{oe:Obj}{Q:Bool→Shared→Prop}(X:K.In s.heap)(he:s.heap.get? e=some oe)(hcls:oe.cls=.ref C)(h:qJ K C n=true)(hd:lV K D d=true)(hq:Q (isX n d) s) :
  wpAny M A (excMatches (.ref e) (.ref D)) Q E s:=by
 obtain ⟨_,ht,dd,hdd,_,hB⟩:=yP hd
 have L1:PySem.W.Looks M s.heap (typeOf (.ref D)) (.type "type"):=PySem.W.looks_typeIn X ht
 have L2:PySem.W.Looks M s.heap (isSubtype (.ref C) (.ref D)) (isX n d):=PySem.W.looks_mroIn X (xc_mro h hd)
 have L3:PySem.W.Looks M s.heap (isSubtype (.ref D) (.type "BaseException")) true:=PySem.W.looks_mroIn X (by
  unfold PySem.W.mroIn
  rw [hdd,Option.bind_some,hB,if_neg]
  intro q
  rw [List.isEmpty_iff] at q
  rw [q] at hB;cases hB)
 have hcl:∃ c' d' sl',K.lookup D=some ⟨c',d',.cls dd,sl'⟩:=by
  unfold PySem.W.clsIn at hdd
  split at hdd
  ·rename_i c' d' cd' sl' ho
   cases hdd
   exact ⟨c',d',sl',ho⟩
  ·cases hdd
 obtain ⟨c',d',sl',ho⟩:=hcl
 have L4:PySem.W.Looks M s.heap (isType (.ref D)) true:=by
  intro A' Q' E' s' k q
  unfold isType loadHead
  exact wpAny_bind (wpAny_loadPart (k _ _ (X _ _ ho)) (wpAny_pure q))
 have L5:PySem.W.Looks M s.heap (typeOf (.ref e)) (.ref C):=hcls ▸ (PySem.W.Looks.ld he).andThen .now
 have f:=tc_notTuple
 obtain ⟨hh,g,dr,tk,os⟩:=s
 unfold excMatches
 refine wpAny_bind ?_
 unfold isInstance
 refine wpAny_bind (PySem.W.Looks.at L1 ?_)
 rw [f]
 refine wpAny_pure ?_
 rw [if_neg Bool.false_ne_true]
 refine wpAny_bind (wpAny_pure ?_)
 dsimp only
 rw [List.forIn_cons]
 refine wpAny_bind (wpAny_bind ?_)
 unfold isExcClass
 refine wpAny_bind (wpAny_bind (PySem.W.Looks.at L4 ?_))
 rw [if_pos rfl]
 refine PySem.W.Looks.at L3 ?_
 rw [if_neg (by decide)]
 refine wpAny_pure ?_
 dsimp only
 rw [List.forIn_nil]
 refine wpAny_pure ?_
 refine wpAny_bind (PySem.W.Looks.at L5 ?_)
 rw [List.forIn_cons]
 refine wpAny_bind (wpAny_bind (wpAny_bind (PySem.W.Looks.at L2 ?_)))
 cases hb:isX n d with
 | true=>
  rw [hb] at hq
  rw [if_pos rfl]
  exact wpAny_pure (wpAny_pure (wpAny_pure hq))
 | false=>
  rw [hb] at hq
  rw [if_neg Bool.false_ne_true]
  refine wpAny_pure ?_
  dsimp only
  rw [List.forIn_nil]
  exact wpAny_pure (wpAny_pure hq)
end
end L2
namespace L2
open PySem PySem.Spec PyProof.Rows
theorem handle_as {prog:Program}{w:World}{A:Around}{E:Value→Shared→Prop}{s:Shared}{env:Env}{K:PySem.W.Frag}{e C D:Addr}{n d y:Str}{t:Expr}{b₀ : Stmt}{suite:List Stmt}{pos:Pos}{rest:List ExceptHandler}{Q:Flow→Shared→Prop}
  (hx:qJ K C n=true) (hd:lV K D d=true) (hi:isX n d=true)
  (h:wpAny (model prog w) (A.mark (some (.ref e))) (eval t env) (fun c s₁=>c=.ref D∧K.In s₁.heap∧(∃ oe,s₁.heap.get? e=some oe∧oe.cls=.ref C) ∧
   wpAny (model prog w) (A.mark (some (.ref e))) (setFlight (.ref e) none) (fun _ s₂=>
     wpAny (model prog w) (A.mark (some (.ref e))) (storeName env y (.ref e)) (fun _ s₃=>
      wpAny (model prog w) (A.mark (some (.ref e))) (execs (b₀::suite) env)
       (fun f s₄=>wpAny (model prog w) A (do bindName env y .none;unbindBehindTheSuite env y pos) (fun _ s₅=>Q f s₅) E s₄) (fun _ _=>False) s₃) (fun _ _=>False) s₂) (fun _ _=>False) s₁) (fun _ _=>False) s) :
  wpAny (model prog w) A (handleBy (.ref e) env (.ExceptHandler (some t) (some y) (b₀::suite) pos::rest)) Q E s:=by
 refine wpAny_handleBy_cons (codeAny_handlers_test (wpAny_mono h (fun c s₁ h₁=>?_) fun _ _ z=>z.elim)) (by intro q;cases q)
 obtain ⟨rfl,X,⟨oe,he,hcls⟩,hk⟩:=h₁
 refine vD X he hcls hx hd ?_
 rw [hi]
 exact codeAny_handlers_suite_as (wpAny_mono hk (fun _ s₂ h₂=>wpAny_mono h₂ (fun _ s₃ h₃=>wpAny_mono h₃ (fun _ _ z=>z) fun _ _ z=>z.elim) fun _ _ z=>z.elim) fun _ _ z=>z.elim)
def bH.lost (D:bH):bH:={ D with nx:=fun σ h=>D.nx (σ.map fun _=>none) h,bk:=fun σ h=>D.bk (σ.map fun _=>none) h,ct:=fun σ h=>D.ct (σ.map fun _=>none) h }
def mTry (i:Nat)(d:Str)(mb:XWK→MS)(mh:MS):MS:=fun D σ h=>mb (fun x h'=>by2 (isX x.cls d) (mh D.lost (σ.set i (some (.exc x.cls))) h') False) D σ h
theorem Slots.lost {K:PySem.W.Frag}{H:Hp}{μ : Mu}{σw:Sw}{σ : St}(S:Slots K H μ σw σ):Slots K H μ (σw.map fun _=>none) (rD σ):=by
 refine ⟨by unfold rD;rw [List.length_map,List.length_map,S.len],fun i w q=>?_⟩
 rw [List.getElem?_map] at q
 cases e:σw[i]? with
 | none=>rw [e] at q;cases q
 | some z=>rw [e] at q;cases q
section
variable {X:Cx}{body:List Stmt}{b₀ : Stmt}{suite:List Stmt}{y d:Str}{np hpos pos:Pos}{i:Nat}{D:Addr}{mb:XWK→MS}{mh:MS}
theorem ds_try (hN:X.N.Nodup)(hi:X.N[i]?=some y)(hy:X.env.scope.names.lookup y=some .local)(hg:Gl X d)(hm:X.mg d=some (.ref D))(hxd:lV X.K D d=true)(ht:Top X)(hx:X.ex=[])
  (hb:∀ pins xe σ0,DSsx (X.tr pins xe) (fun σ=>σ = σ0) body mb) (hh:∀ a o u,DSs (X.hnd a o u).nox (b₀::suite) mh) (hdb:(d==("__debug__" : Str))=false:=by decide) :
  DS X (.Try body [.ExceptHandler (some (.Name d np)) (some y) (b₀::suite) hpos] [] [] pos) (mTry i d mb mh):=by
 intro pins s σ H De I ⟨μ,h,σw,Dw,R,S,m,k⟩
 refine wpAny_Try_except (thn (hb pins _ σ [] s σ H De I.tr ⟨rfl,μ,h,σw,Dw,_,R,S,m,k,fun ev s' xt=>?_⟩) fun f s' q=>?_)
 ·obtain ⟨a,C,n,pins',σ',H',μ',h',rfl,F,hxc,rfl,e1,R1,q⟩:=xt
  have F:=F.untr
  cases hix:isX n d with
  | false =>
   have q:by2 (isX n d) _ False:=q
   rw [hix] at q;exact q.elim
  | true=>
  have q:by2 (isX n d) (mh Dw.lost (σw.set i (some (.exc n))) h') False:=q
  rw [hix] at q
  have q:mh Dw.lost (σw.set i (some (.exc n))) h':=q
  refine F.note ht F.inv.ok.frames fun h1 F1=>F1.flight fun h2 F2=>?_
  obtain ⟨_,oe0,vs0,he0,hc0,_⟩:=F2.xn
  refine handle_as hxc hxd hix ?_
  refine Calls.Name_function_global F2.inv.ok.kind hg (Calls.loadGlobal_global (by rw [F2.inv.ok.glob];exact F2.inv.mod.glob.keeps F2.inv.bk) hm ⟨rfl,F2.inv.kIn,⟨oe0,he0,hc0⟩,?_⟩) hdb
  refine F2.flight fun h3 F3=>?_
  obtain ⟨nw,oe,vs,he,hc,hdd,hdt,_,hv2,_⟩:=F3.xn
  have Ih:=F3.inv.hnd nw hx he hdt hv2
  have Hn:H' a=none:=nw.h
  refine qP (X:=X.hnd a oe (dW a oe)) (v:=.ref a) Ih hN hi (.inl hy) rfl (fun s4 I4=>?_) (.inr hy)
  have e2:Ext X.K H μ (upd H' a (.frz oe (dW a oe))) μ':=e1.trans (Ex.laid Hn).ext
  have rx:Rep X.K (upd H' a (.frz oe (dW a oe))) μ' (.exc n) (.ref a):=by
   rw [Rep]
   refine ⟨a,oe,_,rfl,aR,C,hc,hdd,?_,hxc⟩
   unfold PySem.W.notCls
   rw [hdt]
  refine wpAny_mono (hh a oe (dW a oe) pins s4 _ _ ⟨fun σ5 H5=>De.nx (rD σ5) H5,De.rt,fun σ5 H5=>De.bk (rD σ5) H5,fun σ5 H5=>De.ct (rD σ5) H5⟩ (I4.wish _)
   ⟨μ',h',σw.set i (some (.exc n)),Dw.lost,R1.laid Hn,(S.ext e2).set rx i,q,⟨?_,?_,?_,?_⟩⟩) (fun f s5 q5=>?_) fun _ _ z=>z.elim
  ·rintro σ5 H5 ⟨μ5,σw5,h5,e5,R5,S5,m5⟩
   exact k.nx _ _ ⟨μ5,_,h5,e2.trans e5,R5,S5.lost,m5⟩
  ·rintro v H5 ⟨μ5,w5,h5,e5,R5,r5,m5⟩
   exact k.rt _ _ ⟨μ5,w5,h5,e2.trans e5,R5,r5,m5⟩
  ·rintro σ5 H5 ⟨μ5,σw5,h5,e5,R5,S5,m5⟩
   exact k.bk _ _ ⟨μ5,_,h5,e2.trans e5,R5,S5.lost,m5⟩
  ·rintro σ5 H5 ⟨μ5,σw5,h5,e5,R5,S5,m5⟩
   exact k.ct _ _ ⟨μ5,_,h5,e2.trans e5,R5,S5.lost,m5⟩
  ·have gone:∀ {σ5:St} {H5:Hp} {Q5:Unit→Shared→Prop},Inv (X.hnd a oe (dW a oe)).nox pins σ5 H5 s5→(∀ s6,Inv X pins (rD σ5) H5 s6→Q5 () s6)→wpAny (model X.prog X.w) X.A (do bindName X.env y .none;unbindBehindTheSuite X.env y hpos) Q5 X.xe s5:=fun {σ5 H5 Q5} I5 h5=>by
    have I5':=I5.unwish
    obtain ⟨mm,hns,_⟩:=I5'.loc
    refine wpAny_nameGoes hy hns (by rw [show X.env.scope.kind=.function from F.inv.ok.kind];rfl) fun h6 m6 hn6 sb6=>h5 _ (F3.inv.unhnd nw hx (I5'.lost hn6 sb6))
   cases f with
   | next=>obtain ⟨σ5,H5,I5,z⟩:=q5;exact gone I5 fun s6 I6=>⟨_,H5,I6,z⟩
   | brk=>obtain ⟨σ5,H5,I5,z⟩:=q5;exact gone I5 fun s6 I6=>⟨_,H5,I6,z⟩
   | cont=>obtain ⟨σ5,H5,I5,z⟩:=q5;exact gone I5 fun s6 I6=>⟨_,H5,I6,z⟩
   | ret v=>obtain ⟨x5,σ5,H5,I5,r5,z⟩:=q5;exact gone I5 fun s6 I6=>⟨x5,_,H5,I6,r5,z⟩
 ·have q:=SP.untr q
  cases f with
  | next=>exact wpAny_execs_nil q
  | brk=>exact q
  | cont=>exact q
  | ret v=>exact q
end
theorem room_hnd {k:Nat}{A:Around}{a:Addr}(r:kj k A)(h:8≤k):kj 8 (A.mark (some (.ref a))):=⟨fun z=>absurd z (by decide),by have:=r.dp;show A.depth+_<_;omega,by have:=r.un;show A.units+_<_;omega⟩
end L2
namespace L2
open PySem PySem.Spec PyProof.Rows
section
variable {X:Cx}{a:Expr}{ma:ME}{pos p:Pos}
def mIsX (f:Str→Bool)(m:ME):ME:=fun σ h Q=>m σ h fun w h1=>match w with
 | .exc n=>Q (.bl (f n)) h1
 | _=>False
theorem inst_of {pins:List (Addr×Obj)}{σ : St}{H:Hp}{s:Shared}{q:Addr}{o:Obj}{u:HO}{C:Addr}(I:Inv X pins σ H s)(e:H q=some (.frz o u))(hc:o.cls=.ref C)(hd:o.dict=none)(hn:PySem.W.notCls o=true):PySem.W.InstAt s.heap q o C none:=
 ⟨(I.hok q _ e).1,hc,hn,by rw [hd];trivial⟩
theorem call_isx {v:V}{f:Str→Bool}(hf:yw X.K v f):dz X (.builtin "isinstance") (fun xs H Q=>∃ q o u n,xs=[.ref q,v]∧H q=some (.frz o u)∧Xob X.K o n∧Q (.bl (f n)) H):=by
 intro pins s σ H xs us Q I r ⟨q,o,u,n,ex,eq,⟨C,hc,hd,hn,hx⟩,hQ⟩
 subst ex
 cases r with
 | cons r1 r2=>
  cases r2 with
  | cons r2 r3=>
   cases r3
   rename_i u1 u2
   cases (show u1=Value.ref q from r1)
   exact PySem.W.kia_one (kitx_exc hx) I.kIn (inst_of I eq hc hd hn) (hf u2 r2 C n hx) (fun z=>nomatch z) fun tk=>⟨.bl (f n),H,I.kept (t':=tk) fun _ _ e=>e,rfl,hQ⟩
theorem mZ {b:Expr}{v:V}{f:Str→Bool}(hg:Gl X "isinstance")(hm:X.mg "isinstance" = none)(ha:DE X a ma)(hb:PE X b (tC v))(hf:yw X.K v f)(h1:starEach [a,b] X.env=(false,eval a X.env)::starEach [b] X.env:=by rfl)(h2:starEach [b] X.env=(false,eval b X.env)::starEach [] X.env:=by rfl)
  (hpl:(backTo pos (starEach [b] X.env)).any (·.1)=false:=by rfl):DE X (.Call (.Name "isinstance" p) [a,b] [] pos) (mIsX f ma):=
 (rJ (call_isx hf) hg hm boot_isinstance (mD ha (mD hb wH h2) h1) (by decide) (by decide) h1 hpl).of fun σ H Q ⟨μ,h,σw,Qw,R,S,m,k⟩=>by
  refine ⟨μ,h,σw,_,R,S,m,fun x H1 ⟨μ1,w,h1,e1,R1,r1,m1⟩=>?_⟩
  cases w with
  | exc n=>
   rw [Rep] at r1
   obtain ⟨q,o,u,ev,eq,hx⟩:=r1
   subst ev
   exact ⟨q,o,u,n,rfl,eq,hx,k _ _ ⟨μ1,.bl (f n),h1,e1,R1,by rw [Rep],m1⟩⟩
  | _=>exact m1.elim
inductive PCs (X:Cx):List Expr→List V→(Str→Bool)→Prop
 | nil:PCs X [] [] (fun _=>false)
 | cons {e:Expr} {es:List Expr} {v:V} {vs:List V} {f g:Str→Bool}:PE X e (tC v)→yw X.K v f→PCs X es vs g→starEach (e::es) X.env=(false,eval e X.env)::starEach es X.env→PCs X (e::es) (v::vs) (fun n=>f n||g n)
end
section
variable {X:Cx}{tg elt:Expr}{ifs:List Expr}{scope:Scope}{xs:List Str}{tt:MT}{te:ME}{pos p ppos:Pos}
end
end L2
namespace L2
open PySem PySem.Spec PyProof.Rows
theorem d8.keep {A:Around}{h h':Heap}(q:d8 A h)(k:∀ a o,A.handled=some (.ref a)→h.get? a=some o→h'.get? a=some o):d8 A h':=fun v e=>by
 obtain ⟨a,o,vs,h1,h2,h3⟩:=q v e
 subst h1
 exact ⟨a,o,vs,rfl,k a o e h2,h3⟩
section
variable {prog:Program}{w:World}{A:Around}{E:Value→Shared→Prop}{s:Shared}
theorem list_endQ {it l:Addr}{i:Nat}{items}{Q:Option Value→Shared→Prop}(hh:d8 A s.heap)(hne:A.handled≠some (.ref it))
  (hit:s.heap.IsListIter it l i) (hl:s.heap.IsList l items) (hx:items[i]?=none)
  (hQ:∀ h',Heap.ExtBut it s.heap h'→Q none { s with heap:=h' }):wpAny (model prog w) A (pyNext (.ref it)) Q E s:=by
 obtain ⟨o,ho,hc,hd⟩:=id hit
 obtain ⟨ol,hol,_,nl,hdl⟩:=hl
 unfold pyNext
 refine wpAny_bind (wpAny_attempt (wpAny_callSpecial?_slot (name:=Str.ofString "__next__") hit.typeIs slot_listiter_next
  (wpAny_call_entry slot_listiter_next hit.typeIs entry_listiter_next ?_ (args_listiter_next _))))
 show wpAny _ _ (field (.ref it) 0 >>= _) _ _ s
 refine wpAny_bind (wpAny_field ho hd (x:=.ref l) rfl ?_)
 show wpAny _ _ (if (Value.ref l==Value.none)=true then _ else _) _ _ s
 rw [if_neg (show ¬ ((Value.ref l==Value.none)=true) from Bool.false_ne_true)]
 show wpAny _ _ (field (.ref it) 1 >>= _) _ _ s
 refine wpAny_bind (wpAny_field ho hd (x:=.int i 0) rfl ?_)
 show wpAny _ _ (seqItems? (.ref l) >>= _) _ _ s
 refine wpAny_bind (wpAny_seqItems hol hdl ?_)
 simp only [Int.toNat_natCast,hx]
 refine wpAny_bind (wpAny_rule (wpAny_bind (wpAny_setField ho hd (by simp) ?_)))
 show wpAny _ _ (newExc (.type "StopIteration") [] >>= _) _ _ _
 refine wpAny_bind ?_
 simp only [newExc,newTuple]
 refine wpAny_bind (wpAny_newObj_type ?_ (by size_fits))
 refine wpAny_bind (m:=firstArgMember _ _) (wpAny_of_eq (a:=Value.none) (by first | rfl | (simp only [firstArgMember];rfl)) ?_)
 refine wpAny_newObj_type ?_ (by size_fits)
 have up:∀ a o,A.handled=some (.ref a)→s.heap.get? a=some o→(s.heap.update it (Obj.mapFields (·.setIfInBounds 0 Value.none))).get? a=some o:=fun a o e q=>by
  rw [Heap.get?_update_other _ _ (fun z=>hne (by rw [z];exact e))];exact q
 refine pR (A:=A.in1) (fun v e=>?_) (Heap.get?_push_size _ rfl) rfl (by simp;omega) (fun v e=>?_) fun h' h1 ⟨o',h2,h3⟩=>?_
 ·obtain ⟨a,o,vs,r1,r2,r3⟩:=hh v e
  subst r1
  exact ⟨a,o,vs,rfl,Heap.get?_push_of_some _ (Heap.get?_push_of_some _ (up a o e r2)),r3⟩
 ·obtain ⟨a,o,vs,r1,r2,r3⟩:=hh v e
  rw [r1]
  intro q
  have q:a=_:=Value.ref.inj q
  have:=Heap.lt_size r2
  rw [q] at this
  exact absurd this (Nat.not_lt.mpr (by simp [Heap.push]))
 refine wpAny_bind (wpAny_isInstance (T := "StopIteration") (b:=true) ⟨_,h2,h3⟩ isSubtype_stop ?_)
 refine wpAny_pure (hQ _ fun b o hb e=>?_)
 have e':(s.heap.update it (Obj.mapFields (·.setIfInBounds 0 Value.none))).get? b=some o:=by rw [Heap.get?_update_other _ _ (Ne.symm hb)];exact e
 rw [h1 b ?_]
 ·exact Heap.get?_push_of_some _ (Heap.get?_push_of_some _ e')
 ·have:=Heap.lt_size e
  exact Nat.ne_of_lt (Nat.lt_of_lt_of_le this (by simp [Heap.push]))
def hdA (A:Around):List Addr:=match A.handled with
 | some (.ref a)=>[a]
 | _=>[]
theorem mem_hdA {A:Around}{a:Addr}(h:A.handled=some (.ref a)):a∈hdA A:=by unfold hdA;rw [h];simp
theorem vB (I ax:Addr)(hne:ax≠I)(hI:A.handled≠some (.ref I))(items:Array Value) :
  Walks prog w A I (I::ax::hdA A) [I] items.size (fun i v=>items[i]?=some v) (fun i h=>h.IsListIter I ax i∧h.IsList ax items∧d8 A h) where
 sub:=fun b hb=>by simp at hb;simp [hb]
 frame:=fun _ _ _ st hk=>⟨st.1.at fun o e=>hk I (by simp) o e,st.2.1.at fun o e=>hk ax (by simp) o e,st.2.2.keep fun a o e q=>hk a (by simp [mem_hdA e]) o q⟩
 item:=fun i s Q E hi st hQ=>by
  refine wpAny_pyNext_list_item st.1 st.2.1 (x:=items[i]) (by simp [hi]) fun h' hit' hs'=>?_
  exact hQ _ h' s.toks (by simp [hi]) ⟨hit',st.2.1.extBut hs'.extBut hne,st.2.2.keep fun a o e q=>hs'.extBut a o (fun z=>hI (by rw [←z];exact e)) q⟩ fun b o hb e=>hs'.extBut b o (fun h=>hb (by simp [h])) e
 done:=fun s Q E st hQ=>list_endQ st.2.2 hI st.1 st.2.1 (by simp) fun h' he'=>hQ h' s.toks fun b o hb e=>he' b o (fun h=>hb (by simp [h])) e
 self:=fun _ _ _ _ st hQ=>wpAny_pyIter_listiter st.1 hQ
end
section
variable {X:Cx}
theorem call_anyQ:dz X (.builtin "any") (fun xs H Q=>∃ (p:Addr) (bs:List Bool),xs=[.ref p]∧SqL X.K H p (bs.map V.bl)∧Q (.bl (bs.any id)) H):=by
 intro pins s σ H xs us Q I r ⟨p,bs,e,hS,q⟩
 subst e
 obtain ⟨u,rfl,ru⟩:=vals1 r
 cases ru
 obtain ⟨its,rv,pl,hz⟩:=I.list hS
 have hlen:its.length=bs.length:=by rw [←rv.length,List.length_map]
 have hl:=pl.isList
 have hlt:p<s.heap.objs.size:=by obtain ⟨_,e,_⟩:=hl;exact Heap.lt_size e
 have hq:d8 X.A.in1 s.heap:=oO I.qt0 I.hok
 refine call_any_walk (wpAny_pyIter_list hl ?_)
 refine ⟨s.heap.objs.size,_,[s.heap.objs.size],its.toArray.size,_,_,fun i=>(bs[i]?).getD true,rfl,vB (A:=X.A.in1) _ p (Nat.ne_of_lt hlt) (fun z=>?_) its.toArray,
  ⟨⟨_,Heap.get?_push_size _ rfl,rfl,rfl⟩,hl.push _,hq.keep fun a o _ e=>Heap.get?_push_of_some _ e⟩,fun i v s' Q' E' hP hQ=>?_,fun h' tk hk=>?_⟩
 ·obtain ⟨a,o,vs,h1,h2,_⟩:=hq _ z
  have h1:s.heap.objs.size=a:=Value.ref.inj h1
  have:=Heap.lt_size h2
  rw [←h1] at this
  exact Nat.lt_irrefl _ this
 ·obtain ⟨b,e,rfl⟩:=jo rv (by simpa using hP)
  simp only [e,Option.getD_some] at hQ
  exact wpAny_truthy_bool hQ
 ·have e:((List.range its.toArray.size).any fun i=>(bs[i]?).getD true)=bs.any id:=by
   rw [List.size_toArray,hlen];exact oJ bs
  rw [e]
  refine ⟨.bl (bs.any id),H,I.kept (h':=h') (t':=tk) (fun b x e=>?_),rfl,q⟩
  exact hk b x (fun hm=>by rw [List.mem_singleton.mp hm] at e;exact Nat.lt_irrefl _ (Heap.lt_size e)) (Heap.get?_push_of_some _ e)
theorem c_anyQ:jr X (.builtin "any") kAny:=⟨_,call_anyQ,by
 intro H μ h vs ws Qw Q R r m k
 unfold kAny at m
 split at m
 ·split at m
  ·split at m
   ·rename_i w _ us ev _ bs eb
    obtain ⟨v,e,rv⟩:=eZ r
    obtain ⟨p,ys,ex,hs,rs⟩:=bR R rv ev
    subst e ex
    exact ⟨p,bs,rfl,by rw [←qZ rs eb];exact hs,k _ _ (.bl R m)⟩
   ·exact m.elim
  ·exact m.elim
 ·exact m.elim⟩
end
end L2
namespace L2
open PySem PySem.Spec PyProof.Rows
section
variable {X:Cx}{K:PySem.W.Frag}{o e:Expr}{mo:ME}{ma:MA}{apos cpos:Pos}
variable {H:Hp}{pins:List (Addr×Obj)}{s:Shared}{σ : St}
mutual
theorem Dt_uniq (I:Inv X pins σ H s):∀ {w u:W} {v:V},Dt X.K H w v→Dt X.K H u v→w=u
 | .non,u,v,h,g=>by rw [Dt] at h;subst h;cases u <;> rw [Dt] at g <;> first | rfl | exact g.elim | (obtain ⟨_,_,g,_⟩:=g;cases g;done) | (cases g;done)
 | .bl b,u,v,h,g=>by rw [Dt] at h;subst h;cases u <;> rw [Dt] at g <;> first | (injection g with g;rw [g];done) | exact g.elim | (obtain ⟨_,_,g,_⟩:=g;cases g;done) | (cases g;done)
 | .int b,u,v,h,g=>by rw [Dt] at h;subst h;cases u <;> rw [Dt] at g <;> first | (injection g with g;rw [g];done) | exact g.elim | (obtain ⟨_,_,g,_⟩:=g;cases g;done) | (cases g;done)
 | .str b,u,v,h,g=>by rw [Dt] at h;subst h;cases u <;> rw [Dt] at g <;> first | (injection g with g;rw [g];done) | exact g.elim | (obtain ⟨_,_,g,_⟩:=g;cases g;done) | (cases g;done)
 | .tup ws,u,v,h,g=>by
  rw [Dt] at h
  obtain ⟨p,xs,e,hs,ds⟩:=h
  subst e
  cases u with
  | tup us=>
   rw [Dt] at g
   obtain ⟨p',xs',e',hs',ds'⟩:=g
   cases e'
   have:=I.tuple_inj hs hs'
   subst this
   rw [qC I ds ds']
  | lst us=>
   rw [Dt] at g
   obtain ⟨p',xs',e',hs',ds'⟩:=g
   cases e'
   obtain ⟨_,_,t,_⟩:=I.tuple hs
   obtain ⟨_,_,l,_⟩:=I.list hs'
   exact absurd rfl (SeqAt.ne_of_list_tuple l.isList (show s.heap.IsTuple _ _ from t))
  | ty _=>rw [Dt] at g;exact g.elim
  | loc _=>rw [Dt] at g;exact g.elim
  | kls _=>rw [Dt] at g;exact g.elim
  | exc _=>rw [Dt] at g;exact g.elim
  | _=>rw [Dt] at g;cases g
 | .lst ws,u,v,h,g=>by
  rw [Dt] at h
  obtain ⟨p,xs,e,hs,ds⟩:=h
  subst e
  cases u with
  | lst us=>
   rw [Dt] at g
   obtain ⟨p',xs',e',hs',ds'⟩:=g
   cases e'
   have:=I.list_inj hs hs'
   subst this
   rw [qC I ds ds']
  | tup us=>
   rw [Dt] at g
   obtain ⟨p',xs',e',hs',ds'⟩:=g
   cases e'
   obtain ⟨_,_,t,_⟩:=I.tuple hs'
   obtain ⟨_,_,l,_⟩:=I.list hs
   exact absurd rfl (SeqAt.ne_of_list_tuple l.isList (show s.heap.IsTuple _ _ from t))
  | ty _=>rw [Dt] at g;exact g.elim
  | loc _=>rw [Dt] at g;exact g.elim
  | kls _=>rw [Dt] at g;exact g.elim
  | exc _=>rw [Dt] at g;exact g.elim
  | _=>rw [Dt] at g;cases g
 | .ty _,_,_,h,_=>by rw [Dt] at h;exact h.elim
 | .kls _,_,_,h,_=>by rw [Dt] at h;exact h.elim
 | .loc _,_,_,h,_=>by rw [Dt] at h;exact h.elim
 | .exc _,_,_,h,_=>by rw [Dt] at h;exact h.elim
theorem qC (I:Inv X pins σ H s):∀ {ws us:List W} {vs:List V},Dts X.K H ws vs→Dts X.K H us vs→ws=us
 | [],us,vs,h,g=>by
  have e:vs=[]:=by rw [Dts] at h;exact h
  subst e
  cases us with
  | nil=>rfl
  | cons u us=>rw [Dts] at g;obtain ⟨_,_,e,_⟩:=g;cases e
 | w::ws,us,vs,h,g=>by
  rw [Dts] at h
  obtain ⟨v,vs',e,d,ds⟩:=h
  subst e
  cases us with
  | nil=>
   have e:v::vs'=[]:=by rw [Dts] at g;exact g
   cases e
  | cons u us=>
   rw [Dts] at g
   obtain ⟨v2,vs2,e2,d2,ds2⟩:=g
   cases e2
   rw [Dt_uniq I d d2,qC I ds ds2]
end
theorem wF:∀ {us:List W} {xs:List V} {its:List Value},Dts X.K H us xs→Vals xs its→∀ a u,(a,u)∈its.zip us→∃ v,RelV v a∧Dt X.K H u v∧u∈us
 | [],_,its,_,_,a,u,m=>by rw [List.zip_nil_right] at m;exact absurd m (by simp)
 | w::us,xs,its,d,r,a,u,m=>by
  rw [Dts] at d
  obtain ⟨v,vs,e,d1,ds⟩:=d
  subst e
  cases r with
  | cons r1 rs=>
   rw [List.zip_cons_cons] at m
   rcases List.mem_cons.mp m with m | m
   ·cases m
    exact ⟨v,r1,d1,List.mem_cons_self⟩
   ·obtain ⟨v',q1,q2,q3⟩:=wF ds rs a u m
    exact ⟨v',q1,q2,List.mem_cons_of_mem _ q3⟩
theorem oZ {α β : Type}:∀ {xs:List α} {ys:List β},xs.length=ys.length→∀ a∈xs,∃ b,(a,b)∈xs.zip ys
 | [],_,_,a,m=>absurd m (by simp)
 | _::_,[],h,_,_=>by cases h
 | x::xs,y::ys,h,a,m=>by
  rw [List.zip_cons_cons]
  rcases List.mem_cons.mp m with rfl | m
  ·exact ⟨y,List.mem_cons_self⟩
  ·obtain ⟨b,q⟩:=oZ (Nat.succ.inj h) a m
   exact ⟨b,List.mem_cons_of_mem _ q⟩
def kCount:MM:=fun x ws h Q=>match ws with
 | [w]=>(match cX h x with
  | some us=>by2 (plW 20 w&&us.all (plW 20)) (Q (.int (us.countP fun u=>eqW u w)) h) False
  | none=>False)
 | _=>False
end
section
variable {X:Cx}{elt iter tg:Expr}{ifs:List Expr}{scope:Scope}{pos:Pos}{xs:List Str}{mi:MI}{tt:MT}{te:ME}
end
end L2
namespace L2
open PySem PySem.Spec PyProof.Rows
section
variable {X:Cx}{Γ : St→Prop}{e:Expr}{es:List Expr}{pos:Pos}
variable {mr:XWK→MA}
end
end L2
namespace L2
open PySem PySem.Spec PyProof.Rows
section
variable {X:Cx}{K:PySem.W.Frag}{H:Hp}{pins:List (Addr×Obj)}{s:Shared}{σ : St}
theorem any_zip {α β : Type}{p:α→Bool}{q:β→Bool}:∀ {xs:List α} {ys:List β},xs.length=ys.length→(∀ a b,(a,b)∈xs.zip ys→p a=q b)→xs.any p=ys.any q
 | [],[],_,_=>rfl
 | [],_::_,h,_=>by cases h
 | _::_,[],h,_=>by cases h
 | a::xs,b::ys,h,e=>by
  rw [List.any_cons,List.any_cons,any_zip (Nat.succ.inj h) fun a' b' m=>e a' b' (by rw [List.zip_cons_cons];exact List.mem_cons_of_mem _ m),e a b (by rw [List.zip_cons_cons];exact List.mem_cons_self)]
theorem deep_ev (I:Inv X pins σ H s){us:List W}{xs:List V}{its:List Value}{w:W}{y:V}{b:Value}(hd:Dts X.K H us xs)(r:Vals xs its)(hw:Dt X.K H w y)(rb:RelV y b)(pl1:us.all (plW 20)=true)(pl2:plW 20 w=true){A:Around}(hu:A.units+20<cLine) :
  ∃ ev:Value→Bool,(∀ a,a∈its→SeqAt.EqAt A s a b (ev a))∧its.any ev=us.any (fun u=>eqW u w):=by
 have hl:its.length=us.length:=by rw [←r.length,hd.len]
 let ev:Value→Bool:=fun a=>@decide (∃ u,(a,u)∈its.zip us∧eqW u w=true) (Classical.propDecidable _)
 have hev:∀ a u,(a,u)∈its.zip us→ev a=eqW u w:=by
  intro a u m
  cases c:eqW u w with
  | true=>exact (@decide_eq_true_iff _ (Classical.propDecidable _)).mpr ⟨u,m,c⟩
  | false=>
   refine (@decide_eq_false_iff_not _ (Classical.propDecidable _)).mpr fun ⟨u2,m2,c2⟩=>?_
   obtain ⟨v1,r1,d1,_⟩:=wF hd r a u m
   obtain ⟨v2,r2,d2,_⟩:=wF hd r a u2 m2
   have ev:v1=v2:=r1.inj r2
   subst ev
   rw [Dt_uniq I d1 d2,c2] at c
   cases c
 refine ⟨ev,fun a ha=>?_,any_zip hl hev⟩
 obtain ⟨u,m⟩:=oZ hl a ha
 obtain ⟨v,r1,d1,mu⟩:=wF hd r a u m
 rw [hev a u m]
 exact eqAtW I 20 hu d1 hw (List.all_eq_true.mp pl1 u mu) pl2 r1 rb
def rInD (K:PySem.W.Frag)(neg:Bool):R2:=fun x y H Q=>∃ p xs us w,y=.ref p∧SqL K H p xs∧Dts K H us xs∧Dt K H w x∧us.all (plW 20)=true∧plW 20 w=true∧Q (.bl (if neg then !(us.any fun u=>eqW u w) else us.any fun u=>eqW u w)) H
theorem op_inD (hu:X.A.units+30<cLine):OpR X (compareOp .In) (rInD X.K false):=by
 intro pins s σ H x y v u Q I rx ry h
 obtain ⟨p,xs,us,w,rfl,hq,hd,hw,p1,p2,q⟩:=h
 cases ry
 obtain ⟨its,r,pl,hz⟩:=I.list hq
 obtain ⟨ev,he,ea⟩:=deep_ev I hd r hw rx p1 p2 (A:=X.A.in1) (by show X.A.units+1+20<cLine;omega)
 refine SeqAt.in_listAt ev pl.isList (fun w hw=>he w (by simpa using hw)) ⟨.bl _,H,I,rfl,?_⟩
 rw [show its.toArray.any ev=its.any ev by simp,ea]
 exact q
def kInD:M2:=fun x y h Q=>match cX h y with
 | some us=>by2 (plW 20 x&&us.all (plW 20)) (Q (.bl (us.any fun u=>eqW u x)) h) False
 | none=>False
theorem o_inD (hu:X.A.units+30<cLine):DOp X (compareOp .In) kInD:=⟨_,op_inD hu,by
 intro H μ h x y wx wy Qw Q R rx ry m k
 unfold kInD at m
 split at m
 ·rename_i us eu
  obtain ⟨p,xs,ex,hs,rr⟩:=bR R ry eu
  cases c:(plW 20 wx&&us.all (plW 20)) with
  | true=>
   rw [c] at m
   rw [Bool.and_eq_true] at c
   exact ⟨p,xs,us,wx,ex,hs,uh (dt_of 20) rr c.2,dt_of 20 rx c.1,c.2,c.1,k _ _ (.bl R m)⟩
  | false=>rw [c] at m;exact (show False from m).elim
 ·exact m.elim⟩
end
end L2
namespace L2
open PySem PySem.Spec PyProof.Rows
section
variable {X:Cx}{K:PySem.W.Frag}{H:Hp}{μ : Mu}{h:Gh}
end
end L2
namespace L2
open PySem PySem.Spec PyProof.Rows
section
variable {X:Cx}{K:PySem.W.Frag}{o e e':Expr}{mo:ME}{ma:MA}{apos cpos:Pos}
end
end L2
namespace L2
open PySem PySem.Spec PyProof.Rows
def plL (m:Nat):List Nat:=(List.range 8).filter fun j=>m.testBit j
def rk (m j:Nat):Nat:=((List.range j).filter fun i=>m.testBit i).length
theorem kZ:∀ m:Fin 256,∀ j:Fin 8,SetTable.below (plL m).toArray j=rk m j∧(plL m)[rk m j]?=(if m.val.testBit j then some j.val else (plL m)[rk m j]?)∧(m.val.testBit j=false→(plL m)[rk m j]?≠some j.val):=by decide +kernel
theorem qM:∀ m:Fin 256,∀ j:Fin 8,m.val.testBit j=false→(plL m).take (rk m j)++j.val::(plL m).drop (rk m j)=plL (m.val ||| 2^j.val)∧m.val ||| 2^j.val<256:=by decide +kernel
theorem dU {m j:Nat}:j∈plL m↔j<8∧m.testBit j=true:=by unfold plL;simp
theorem vM {t:SetTable}{m j:Nat}(hp:t.place=(plL m).toArray)(hd:t.dummies = #[])(hm:m<256)(hj:j<8):t.slot j=if m.testBit j then .live (rk m j) else .empty:=by
 obtain ⟨a,b,c⟩:=kZ ⟨m,hm⟩ ⟨j,hj⟩
 dsimp only at a b c
 unfold SetTable.slot
 dsimp only
 rw [hp,hd,a]
 cases e:m.testBit j with
 | true=>
  rw [e] at b
  rw [if_pos rfl] at b
  rw [if_pos rfl,if_pos (by simp [b])]
 | false=>
  rw [if_neg Bool.false_ne_true,if_neg (by simpa using c e),if_neg (by simp [SetTable.has])]
theorem pl_at {m j:Nat}(hm:m<256)(h:j∈plL m):(plL m)[rk m j]?=some j:=by
 obtain ⟨hj,e⟩:=dU.mp h
 have b:=(kZ ⟨m,hm⟩ ⟨j,hj⟩).2.1
 dsimp only at b
 rw [e,if_pos rfl] at b
 exact b
def pq (h:Int):Nat→Nat×Nat
 | 0=>(SetTable.bits h % 8,SetTable.bits h)
 | n+1=>SetTable.leap 7 (pq h n).1 (pq h n).2
def pb (h:Int)(n:Nat):SetTable.Probe:=⟨(pq h n).1,0,(pq h n).1,(pq h n).2,none⟩
theorem qK (h:Int):∀ n,(pq h n).1<8
 | 0=>Nat.mod_lt _ (by decide)
 | n+1=>Nat.mod_lt _ (by decide)
theorem runEnd7 (i:Nat):SetTable.runEnd 7 i - i=0:=by
 unfold SetTable.runEnd
 rw [if_neg (by omega)]
 omega
theorem wQ {t:SetTable}(hm:t.mask=7)(h:Int):t.probeStart h=pb h 0:=by
 unfold SetTable.probeStart pb pq
 rw [hm]
 simp only [runEnd7]
theorem pb_next {t:SetTable}(hm:t.mask=7)(h:Int)(n:Nat):t.advance (pb h n)=pb h (n+1):=by
 unfold SetTable.advance pb
 rw [hm]
 simp only [runEnd7,Nat.lt_irrefl,if_false,gt_iff_lt]
 rfl
theorem pq_pert (h:Int):∀ n,(pq h n).2=SetTable.bits h / 32^n
 | 0=>by simp [pq]
 | n+1=>by
  show (pq h n).2 / 32=_
  rw [pq_pert h n,Nat.div_div_eq_div_mul,Nat.pow_succ]
theorem pq_zero (h:Int)(n:Nat)(hn:13≤n):(pq h n).2=0:=by
 rw [pq_pert]
 apply Nat.div_eq_of_lt
 have h1:SetTable.bits h<2^64:=by
  unfold SetTable.bits
  have a:=Int.emod_lt_of_pos h (show (0:Int)<2^64 by decide)
  have b:=Int.emod_nonneg h (show (2^64:Int)≠0 by decide)
  omega
 have h2:32^13≤32^n:=Nat.pow_le_pow_right (by decide) hn
 have h3:(2:Nat)^64<32^13:=by decide
 omega
def lcg:Nat→Nat→Nat
 | i,0=>i
 | i,k+1=>(lcg i k*5+1) % 8
theorem pq_lcg (h:Int):∀ k,(pq h (13+k)).1=lcg (pq h 13).1 k
 | 0=>rfl
 | k+1=>by
  show ((pq h (13+k)).1*5+1+(pq h (13+k)).2 / 32) % (7+1)=_
  rw [pq_zero h _ (by omega),pq_lcg h k]
  rfl
theorem lcg_all:∀ i:Fin 8,∀ j:Fin 8,∃ k:Fin 8,lcg i k=j.val:=by decide +kernel
theorem pq_all (h:Int){j:Nat}(hj:j<8):∃ n,n<21∧(pq h n).1=j:=by
 obtain ⟨k,e⟩:=lcg_all ⟨(pq h 13).1,qK h 13⟩ ⟨j,hj⟩
 exact ⟨13+k.val,by omega,by rw [pq_lcg];exact e⟩
theorem least {P:Nat→Bool}:∀ (B:Nat),(∃ n,n<B∧P n=true)→∃ N,N<B∧P N=true∧∀ n,n<N→P n=false
 | 0,⟨n,h,_⟩=>absurd h (Nat.not_lt_zero _)
 | B+1,⟨n,h,e⟩=>by
  by_cases q:∃ n,n<B∧P n=true
  ·obtain ⟨N,a,b,c⟩:=least B q
   exact ⟨N,by omega,b,c⟩
  ·refine ⟨n,h,e,fun i hi=>?_⟩
   cases r:P i with
   | false=>rfl
   | true=>exact absurd ⟨i,by omega,r⟩ q
theorem road {m:Nat}(h:Int)(hf:∃ j,j<8∧m.testBit j=false):∃ N,N<21∧m.testBit (pq h N).1=false∧∀ n,n<N→m.testBit (pq h n).1=true:=by
 obtain ⟨j,hj,e⟩:=hf
 obtain ⟨n,hn,en⟩:=pq_all h hj
 obtain ⟨N,a,b,c⟩:=least (P:=fun n=>!m.testBit (pq h n).1) 21 ⟨n,hn,by simp [en,e]⟩
 exact ⟨N,a,by simpa using b,fun n hn=>by simpa using c n hn⟩
theorem xV:∀ m:Fin 256,(plL m).length<8→∃ j:Fin 8,m.val.testBit j=false:=by decide +kernel
theorem qG:∀ m:Fin 256,∀ j:Fin 8,m.val.testBit j=false→(plL (m.val ||| 2^j.val)).length=(plL m).length+1:=by decide +kernel
theorem wW:∀ m:Fin 256,∀ j i:Fin 8,(m.val ||| 2^j.val).testBit i=(m.val.testBit i||decide (i.val=j.val)):=by decide +kernel
theorem xO {t:SetTable}{m:Nat}(hm:t.mask=7)(hp:t.place=(plL m).toArray)(hd:t.dummies = #[])(h8:m<256)(hashAt:Nat→Int)(h:Int):∀ (d n fuel:Nat),d<fuel→m.testBit (pq h (n+d)).1=false→(∀ i,i<d→m.testBit (pq h (n+i)).1=true) →
  ((∀ i,i<d→hashAt (rk m (pq h (n+i)).1)≠h)∧SetTable.probe.go t hashAt h fuel (pb h n)=some (.empty (pq h (n+d)).1 none)) ∨
  ∃ i,i<d∧hashAt (rk m (pq h (n+i)).1)=h∧(∀ j,j<i→hashAt (rk m (pq h (n+j)).1)≠h)∧SetTable.probe.go t hashAt h fuel (pb h n)=some (.candidate (pq h (n+i)).1 (rk m (pq h (n+i)).1) (pb h (n+i+1)))
 | _,_,0,hf,_,_=>absurd hf (Nat.not_lt_zero _)
 | 0,n,fuel+1,_,e,_=>by
  refine .inl ⟨fun i hi=>absurd hi (Nat.not_lt_zero _),?_⟩
  unfold SetTable.probe.go
  have:t.slot (pb h n).j=.empty:=by
   show t.slot (pq h n).1=_
   rw [vM hp hd h8 (qK h n),show m.testBit (pq h n).1=false from e]
   rfl
  rw [this]
  rfl
 | d+1,n,fuel+1,hf,e,l=>by
  have e0:m.testBit (pq h n).1=true:=l 0 (by omega)
  have hs:t.slot (pb h n).j=.live (rk m (pq h n).1):=by
   show t.slot (pq h n).1=_
   rw [vM hp hd h8 (qK h n),e0]
   rfl
  unfold SetTable.probe.go
  rw [hs]
  dsimp only
  by_cases q:hashAt (rk m (pq h n).1)=h
  ·refine .inr ⟨0,by omega,q,fun j hj=>absurd hj (Nat.not_lt_zero _),?_⟩
   rw [if_pos (by simp [q]),pb_next hm]
   rfl
  ·rw [if_neg (by simp [q]),pb_next hm]
   have hsh:∀ i,n+1+i=n+(i+1):=fun i=>by omega
   rcases xO hm hp hd h8 hashAt h d (n+1) fuel (by omega) (by rw [hsh];exact e) (fun i hi=>by rw [hsh];exact l (i+1) (by omega)) with ⟨a,b⟩ | ⟨i,hi,a,b,c⟩
   ·refine .inl ⟨fun i hi=>?_,by rw [b,hsh]⟩
    cases i with
    | zero=>exact q
    | succ i=>have:=a i (by omega);rw [hsh] at this;exact this
   ·refine .inr ⟨i+1,by omega,by rw [←hsh];exact a,fun j hj=>?_,by rw [c,hsh]⟩
    cases j with
    | zero=>exact q
    | succ j=>have:=b j (by omega);rw [hsh] at this;exact this
end L2
namespace L2
open PySem PySem.Spec PyProof.Rows
section
variable {prog:Program}{w:World}{A:Around}{E:Value→Shared→Prop}{s:Shared}{m:Nat}{ka:Nat→List Int}{ad:Nat→Addr}{t:SetTable}{a b:Addr}{k:List Int}
abbrev TK (prog:Program)(w:World)(h:Heap)(k:List Int)(a:Addr):Prop:=IsTupleKey (intKind prog w) h k a
def hT (prog:Program)(w:World)(k:List Int):Int:=tupleKeyHash (intKind prog w) k
def elL (prog:Program)(w:World)(m:Nat)(ka:Nat→List Int)(ad:Nat→Addr):List (Int×Value):=(plL m).map fun j=>(hT prog w (ka j),Value.ref (ad j))
structure TTab (prog:Program) (w:World) (h:Heap) (m:Nat) (ka:Nat→List Int) (ad:Nat→Addr) (t:SetTable):Prop where
 mask:t.mask=7
 place:t.place=(plL m).toArray
 dum:t.dummies = #[]
 m8:m<256
 few:(plL m).length≤4
 key:∀ j,j∈plL m→TK prog w h (ka j) (ad j)
 way:∀ j,j∈plL m→∃ n,(pq (hT prog w (ka j)) n).1=j∧∀ i,i<n→m.testBit (pq (hT prog w (ka j)) i).1=true
theorem TTab.fits {h:Heap}(T:TTab prog w h m ka ad t):t.fits (elL prog w m ka ad).toArray.size=true:=by
 unfold SetTable.fits SetTable.fill elL
 rw [T.place,T.dum,T.mask]
 have:=T.few
 simp
 omega
theorem TTab.at {h:Heap}(T:TTab prog w h m ka ad t){j:Nat}(hj:j∈plL m):(elL prog w m ka ad).toArray[rk m j]?=some (hT prog w (ka j),Value.ref (ad j)):=by
 have:=pl_at T.m8 hj
 simp [elL,this]
theorem sV {d:Nat}{Q:Bool→Shared→Prop}(hk:TK prog w s.heap k b)(h:Q false s):wpAny (model prog w) A (ofAClassStatement (d+1) (.ref b)) Q E s:=by
 have hTy:=hk.typeIs
 obtain ⟨o,items,n,ho,_,hd,hi⟩:=hk
 unfold ofAClassStatement
 refine wpAny_bind (wpAny_typeOf hTy ?_)
 dsimp only
 refine wpAny_bind ?_
 refine wpAny_pure ?_
 simp only [Bool.not_true,Bool.false_eq_true,if_false]
 refine wpAny_bind (wpAny_seqItems ho hd ?_)
 dsimp only
 refine wpAny_bind ?_
 rw [←Array.forIn_toList]
 refine wpAny_forIn_list _ (fun rest r s'=>r.1=none∧s'=s∧∀ v∈rest,carriedByValue v=true) _ ?_ ?_ _ _ ⟨rfl,rfl,hi.byValue⟩
 ·rintro v rest r s' ⟨hr,rfl,hall⟩
  have hv:=hall v List.mem_cons_self
  have e:ofAClassStatement d v=pure false:=by
   cases v with
   | ref a=>simp [carriedByValue] at hv
   | _=>unfold ofAClassStatement;rfl
  rw [e]
  refine wpAny_bind (wpAny_pure ?_)
  simp only [Bool.false_eq_true,if_false]
  exact wpAny_pure ⟨rfl,rfl,fun u hu'=>hall u (List.mem_cons_of_mem _ hu')⟩
 ·rintro ⟨r1,r2⟩ s' ⟨hr,rfl,_⟩
  simp only at hr
  subst hr
  exact wpAny_pure h
theorem uO {d:Nat}{Q:Bool→Shared→Prop}(hk:TK prog w s.heap k b)(h:Q true s):wpAny (model prog w) A (hashByValue (d+1) (.ref b)) Q E s:=by
 have hTy:=hk.typeIs
 obtain ⟨o,items,n,ho,_,hd,hi⟩:=hk
 unfold hashByValue
 refine wpAny_bind (wpAny_specialOf hTy F.slot_tuple_hash.lookup ?_)
 dsimp only
 refine wpAny_bind (wpAny_seqItems ho hd ?_)
 refine wpAny_bind ?_
 show wpAny _ _ (forIn items _ _) _ _ s
 rw [←Array.forIn_toList]
 refine wpAny_forIn_list _ (fun rest r s'=>r.1=none∧s'=s∧∃ ks,ItemsAre (intKind prog w) ks rest) _ ?_ ?_ _ _ ⟨rfl,rfl,k,hi⟩
 ·rintro v rest r s' ⟨hr,rfl,ks,hall⟩
  cases hall with
  | @cons k0 _ ks' _ h1 h2=>
   have e:hashByValue d v=pure true:=by
    obtain ⟨tk,rfl⟩:=Value.isInt_shape h1
    cases d <;> rfl
   rw [e]
   refine wpAny_bind (wpAny_pure ?_)
   simp only [Bool.not_true,Bool.false_eq_true,if_false]
   exact wpAny_pure ⟨rfl,rfl,ks',h2⟩
 ·rintro ⟨r1,r2⟩ s' ⟨hr,rfl,_⟩
  simp only at hr
  subst hr
  exact wpAny_pure h
theorem yK {l:List Value}{Q:Bool→Shared→Prop}(hk:TK prog w s.heap k b)(hl:∀ y∈l,∃ c k',y=.ref c∧TK prog w s.heap k' c)(h:Q false s):wpAny (model prog w) A (searchCouldBeSeen (.ref b) l) Q E s:=by
 unfold searchCouldBeSeen
 refine wpAny_bind ?_
 refine wpAny_forIn_list _ (fun rest r s'=>r.1=none∧s'=s∧∀ y∈rest,∃ c k',y=.ref c∧TK prog w s.heap k' c) _ ?_ ?_ _ _ ⟨rfl,rfl,hl⟩
 ·rintro v rest r s' ⟨hr,rfl,hall⟩
  obtain ⟨c,k',rfl,hc⟩:=hall v List.mem_cons_self
  have tl:∀ y∈rest,∃ c k',y=.ref c∧TK prog w s'.heap k' c:=fun u hu'=>hall u (List.mem_cons_of_mem _ hu')
  dsimp only
  split
  ·exact wpAny_pure ⟨rfl,rfl,tl⟩
  ·refine wpAny_bind (wpAny_eqIsQuiet_tuple hk ?_)
   simp only [Bool.not_true,Bool.false_eq_true,if_false]
   refine wpAny_bind (wpAny_eqIsQuiet_tuple hc ?_)
   simp only [Bool.not_true,Bool.false_eq_true,if_false]
   refine wpAny_bind (sV hk ?_)
   simp only [Bool.false_eq_true,if_false]
   refine wpAny_bind (sV hc ?_)
   simp only [Bool.false_eq_true,if_false]
   exact wpAny_pure ⟨rfl,rfl,tl⟩
 ·rintro ⟨r1,r2⟩ s' ⟨hr,rfl,_⟩
  simp only at hr
  subst hr
  exact wpAny_pure h
theorem fu {o:Obj}{ep:Nat}{h:Int}{Q:SetFound→Shared→Prop}(hh:h=hT prog w k)(hu:A.units<cLine)(ho:s.heap.get? a=some o)(hd:o.data=.set (elL prog w m ka ad).toArray ep t)(T:TTab prog w s.heap m ka ad t)(hk:TK prog w s.heap k b){N:Nat}(hN:m.testBit (pq h N).1=false)(hl:∀ n,n<N→m.testBit (pq h n).1=true)
  (yes:(∃ j,j∈plL m∧ka j=k)→Q (.there none) s) (no:(∀ n,n<N→ka (pq h n).1≠k)→Q (.free (pq h N).1 false) s) :
  ∀ (fuel n:Nat) (st:Option SetTable.Probe),st.getD (t.probeStart h)=pb h n→n≤N→N - n<fuel→N<200→(∀ i,i<n→ka (pq h i).1≠k)→wpAny (model prog w) A (setSearchFrom a (.ref b) h true fuel st) Q E s
 | 0,_,_,_,_,hf,_,_=>absurd hf (Nat.not_lt_zero _)
 | fuel+1,n,st,es,hn,hf,h2,hb=>by
  unfold setSearchFrom
  refine wpAny_bind (wpAny_setState_of ho hd T.fits ?_)
  dsimp only
  have hg:t.gaveWay=false:=by unfold SetTable.gaveWay;rw [T.mask];rfl
  rw [hg]
  simp only [Bool.false_eq_true,if_false]
  rw [es]
  have hm:∀ i,i<N→(pq h i).1∈plL m:=fun i hi=>dU.mpr ⟨qK h i,hl i hi⟩
  have hx:∀ i,i<N→((((elL prog w m ka ad).toArray[rk m (pq h i).1]?).map (·.1)).getD 0)=hT prog w (ka (pq h i).1):=fun i hi=>by rw [T.at (hm i hi)];rfl
  have e200:10*SetTable.turns t.mask=220:=by rw [T.mask];rfl
  have go:=xO T.mask T.place T.dum T.m8 (fun i=>(((elL prog w m ka ad).toArray[i]?).map (·.1)).getD 0) h (N - n) n 220 (by omega) (by rw [show n+(N - n)=N by omega];exact hN) (fun i hi=>hl _ (by omega))
  generalize hP:t.probe _ h (pb h n)=P
  rcases go with ⟨hno,e⟩ | ⟨i,hi,hc,hbef,e⟩
  ·have e':t.probe (fun i=>(((elL prog w m ka ad).toArray[i]?).map (·.1)).getD 0) h (pb h n)=some (.empty (pq h N).1 none):=by
    unfold SetTable.probe
    rw [e200,e,show n+(N - n)=N by omega]
   have eP:P=some (.empty (pq h N).1 none):=hP.symm.trans e'
   subst eP
   dsimp only
   refine wpAny_pure (no fun i hi z=>?_)
   by_cases q:i<n
   ·exact hb i q z
   ·refine hno (i - n) (by omega) ?_
    rw [show n+(i - n)=i by omega,hx i hi,z,hh]
  ·have e':t.probe (fun i=>(((elL prog w m ka ad).toArray[i]?).map (·.1)).getD 0) h (pb h n)=some (.candidate (pq h (n+i)).1 (rk m (pq h (n+i)).1) (pb h (n+i+1))):=by
    unfold SetTable.probe
    rw [e200,e]
   have eP:P=_:=hP.symm.trans e'
   subst eP
   have hj:=hm (n+i) (by omega)
   have hkj:=T.key _ hj
   dsimp only
   rw [T.at hj]
   dsimp only
   have hsl:t.slot (pq h (n+i)).1=.live (rk m (pq h (n+i)).1):=by rw [vM T.place T.dum T.m8 (qK h _),(dU.mp hj).2,if_pos rfl]
   have hsame:t.sameMemory t.moves t.mask=some true:=by unfold SetTable.sameMemory;rw [if_pos (by simp)]
   have hel:∀ y∈List.map (fun x=>x.snd) (Array.filter (fun x=>x.fst==h) (elL prog w m ka ad).toArray).toList,∃ c k',y=.ref c∧TK prog w s.heap k' c:=by
    intro y hy
    obtain ⟨p,hp,rfl⟩:=List.mem_map.mp hy
    have hp':p∈elL prog w m ka ad:=by
     have:=(Array.mem_filter.mp (Array.mem_toList_iff.mp hp)).1
     simpa using this
    obtain ⟨j,hj',rfl⟩:=List.mem_map.mp hp'
    exact ⟨_,_,rfl,T.key j hj'⟩
   split
   all_goals try (refine wpAny_bind (yK hk hel ?_);simp only [Bool.false_eq_true,if_false])
   all_goals
    refine wpAny_bind (wpAny_holding (wpAny_eqBool_tuple hu hkj hk ?_))
    refine wpAny_bind (wpAny_setState_of ho hd T.fits ?_)
    dsimp only
    rw [Bool.true_and]
    by_cases q:ka (pq h (n+i)).1=k
    ·rw [if_pos (decide_eq_true q)]
     exact wpAny_pure (yes ⟨_,hj,q⟩)
    ·rw [if_neg (by rw [decide_eq_false q];exact Bool.false_ne_true),hsame]
     dsimp only
     rw [if_pos rfl,hsl]
     dsimp only
     rw [T.at hj]
     dsimp only
     refine wpAny_bind (wpAny_isSame_ref_self ?_)
     rw [if_pos rfl]
     refine wpAny_bind (wpAny_pure ?_)
     dsimp only
     rw [if_neg (by rw [decide_eq_false q];exact Bool.false_ne_true)]
     refine fu hh hu ho hd T hk hN hl yes no fuel (n+i+1) _ rfl (by omega) (by omega) h2 fun j hj' z=>?_
     by_cases r:j<n
     ·exact hb j r z
     ·by_cases r2:j=n+i
      ·rw [r2] at z;exact q z
      ·refine hbef (j - n) (by omega) ?_
       rw [show n+(j - n)=j by omega,hx j (by omega),z,hh]
def setO (es:Array (Int×Value))(ep:Nat)(t:SetTable):Obj:={ cls:=.type "set",dict:=none,data:=.set es ep t }
def mW (prog:Program)(w:World)(h:Heap)(a:Addr)(m:Nat)(ka:Nat→List Int)(ad:Nat→Addr):Prop:=∃ ep t,h.get? a=some (setO (elL prog w m ka ad).toArray ep t)∧TTab prog w h m ka ad t
theorem TK.ne {h:Heap}{es:Array (Int×Value)}{ep:Nat}(hk:TK prog w h k b)(ho:h.get? a=some (setO es ep t)):b≠a:=by
 rintro rfl
 obtain ⟨o,_,_,e,hc,_⟩:=hk
 rw [ho] at e
 cases e
 exact absurd (show Value.type "set" = Value.type "tuple" from hc) (by decide)
theorem TK.same {h h':Heap}{es:Array (Int×Value)}{ep:Nat}(hk:TK prog w h k b)(ho:h.get? a=some (setO es ep t))(hs:Heap.SameBut a h h'):TK prog w h' k b:=by
 have ne:=TK.ne hk ho
 obtain ⟨o,i,n,e,r⟩:=hk
 exact ⟨o,i,n,(hs.2 b ne).trans e,r⟩
theorem el_put {j:Nat}(m8:m<256)(hj:j<8)(hb:m.testBit j=false):SetTable.insertAt (elL prog w m ka ad).toArray (rk m j) (hT prog w k,Value.ref b)=(elL prog w (m ||| 2^j) (fun i=>if i=j then k else ka i) (fun i=>if i=j then b else ad i)).toArray:=by
 have e:=(qM ⟨m,m8⟩ ⟨j,hj⟩ hb).1
 dsimp only at e
 apply Array.ext'
 rw [SetTable.toList_insertAt]
 unfold elL
 rw [←e]
 simp only [List.map_append,List.map_cons,if_pos,List.map_take,List.map_drop]
 have hne:∀ i∈plL m,i≠j:=fun i hi z=>by rw [z] at hi;rw [(dU.mp hi).2] at hb;cases hb
 have em:(plL m).map (fun i=>(hT prog w (if i=j then k else ka i),Value.ref (if i=j then b else ad i)))=(plL m).map fun i=>(hT prog w (ka i),Value.ref (ad i)):=List.map_congr_left fun i hi=>by rw [if_neg (hne i hi),if_neg (hne i hi)]
 rw [em]
theorem zy {Q:Bool→Shared→Prop}(hu:A.units<cLine)(S:mW prog w s.heap a m ka ad)(hk:TK prog w s.heap k b)(h3:(plL m).length≤3)
  (yes:(∃ j,j∈plL m∧ka j=k)→∀ tk,Q false { s with toks:=tk })
  (no:(∀ j,j∈plL m→ka j≠k)→∀ h' j tk,Heap.SameBut a s.heap h'→j<8→m.testBit j=false→mW prog w h' a (m ||| 2^j) (fun i=>if i=j then k else ka i) (fun i=>if i=j then b else ad i)→Q true { s with heap:=h',toks:=tk }) :
  wpAny (model prog w) A (setAdd a (.ref b)) Q E s:=by
 obtain ⟨ep,t,ho,T⟩:=S
 unfold setAdd
 refine wpAny_holding (wpAny_bind (wpAny_pyHash_tuple hu hk ?_))
 unfold setAddHashed
 refine wpAny_holding ?_
 generalize hs1:({ s with toks:=s.toks+(k.length+1) }:Shared)=s1
 have eh:s1.heap=s.heap:=by rw [←hs1]
 have ho1:s1.heap.get? a=some (setO (elL prog w m ka ad).toArray ep t):=by rw [eh];exact ho
 have T1:TTab prog w s1.heap m ka ad t:=by rw [eh];exact T
 have hk1:TK prog w s1.heap k b:=by rw [eh];exact hk
 unfold setAddHashedIn
 refine wpAny_bind (wpAny_setState_of ho1 rfl T1.fits ?_)
 dsimp only
 have hby:byScan (.ref b) (elL prog w m ka ad).toArray=false:=rfl
 rw [hby]
 simp only [Bool.false_eq_true,if_false]
 obtain ⟨j0,hj0⟩:=xV ⟨m,T.m8⟩ (by show (plL m).length<8;omega)
 obtain ⟨N,hN,hN0,hN1⟩:=road (m:=m) (tupleKeyHash (intKind prog w) k) ⟨j0.val,j0.isLt,hj0⟩
 unfold setSearch
 refine wpAny_bind (fu (h:=tupleKeyHash (intKind prog w) k) rfl hu ho1 rfl T1 hk1 hN0 hN1 (fun y=>?_) (fun n=>?_) 100000 0 none (by rw [Option.getD_none];exact wQ T.mask _) (by omega) (by omega) (by omega) fun i hi=>absurd hi (Nat.not_lt_zero _))
 ·dsimp only
  rw [←hs1]
  exact wpAny_pure (yes y _)
 ·dsimp only
  have hnew:∀ j,j∈plL m→ka j≠k:=fun j hj z=>by
   obtain ⟨i,e,l⟩:=T.way j hj
   have eh:hT prog w (ka j)=tupleKeyHash (intKind prog w) k:=by rw [z];rfl
   rw [eh] at e l
   rcases Nat.lt_trichotomy i N with q | q | q
   ·exact n i q (by rw [e];exact z)
   ·rw [q] at e
    rw [e,(dU.mp hj).2] at hN0
    cases hN0
   ·rw [l N q] at hN0
    cases hN0
  refine wpAny_bind (wpAny_setState_of ho1 rfl T1.fits ?_)
  have hj8:=qK (tupleKeyHash (intKind prog w) k) N
  generalize hjj:(pq (tupleKeyHash (intKind prog w) k) N).fst=j at hN0 hj8 ⊢
  have hput:t.put j=({ t with place:=(plL (m ||| 2^j)).toArray },rk m j):=by
   unfold SetTable.put
   have e1:=(kZ ⟨m,T.m8⟩ ⟨j,hj8⟩).1
   have e2:=(qM ⟨m,T.m8⟩ ⟨j,hj8⟩ hN0).1
   dsimp only at e1 e2
   have e3:SetTable.insertAt (plL m).toArray (rk m j) j=(plL (m ||| 2^j)).toArray:=by
    apply Array.ext'
    rw [SetTable.toList_insertAt,e2]
   rw [T.place,T.dum,e1]
   dsimp only
   rw [e3,if_neg (by simp [SetTable.has])]
  have hfull:({ t with place:=(plL (m ||| 2^j)).toArray }:SetTable).tooFull=false:=by
   have e:=qG ⟨m,T.m8⟩ ⟨j,hj8⟩ hN0
   dsimp only at e
   unfold SetTable.tooFull SetTable.fill
   rw [T.mask,T.dum]
   simp only [List.size_toArray,e]
   simp
   omega
  rw [hput]
  dsimp only
  have key:∀ {R:Unit→Shared→Prop},(∀ h',Heap.SameBut a s.heap h'→mW prog w h' a (m ||| 2^j) (fun i=>if i=j then k else ka i) (fun i=>if i=j then b else ad i)→R () { s1 with heap:=h' })→wpAny (model prog w) A (storeSet a (SetTable.insertAt (elL prog w m ka ad).toArray (rk m j) (tupleKeyHash (intKind prog w) k,Value.ref b)) { t with place:=(plL (m ||| 2^j)).toArray }) R E s1:=by
   intro R hR
   have e:=qG ⟨m,T.m8⟩ ⟨j,hj8⟩ hN0
   dsimp only at e
   have ee:=el_put (prog:=prog) (w:=w) (ka:=ka) (ad:=ad) (k:=k) (b:=b) T.m8 hj8 hN0
   unfold hT at ee
   rw [ee]
   refine wpAny_storeSet_of ho1 rfl (hR _ ?_ ?_) ?_
   ·rw [eh];exact Heap.SameBut.update ..
   ·have hsb:Heap.SameBut a s1.heap (s1.heap.update a (Obj.putSet (elL prog w (m ||| 2^j) (fun i=>if i=j then k else ka i) (fun i=>if i=j then b else ad i)).toArray { t with place:=(plL (m ||| 2^j)).toArray })):=Heap.SameBut.update ..
    refine ⟨ep+1,{ t with place:=(plL (m ||| 2^j)).toArray },?_,⟨T.mask,rfl,T.dum,(qM ⟨m,T.m8⟩ ⟨j,hj8⟩ hN0).2,by rw [e];omega,fun i hi=>?_,fun i hi=>?_⟩⟩
    ·have:=Heap.get?_update_self (Obj.putSet (elL prog w (m ||| 2^j) (fun i=>if i=j then k else ka i) (fun i=>if i=j then b else ad i)).toArray { t with place:=(plL (m ||| 2^j)).toArray }) ho1 (by rw [putSet_of _ _ rfl];rfl)
     rw [putSet_of _ _ rfl] at this
     exact this
    ·obtain ⟨hi8,hib⟩:=dU.mp hi
     have o:=wW ⟨m,T.m8⟩ ⟨j,hj8⟩ ⟨i,hi8⟩
     dsimp only at o
     by_cases z:i=j
     ·simp only [if_pos z]
      exact TK.same hk1 ho1 hsb
     ·simp only [if_neg z]
      refine TK.same (T1.key i (dU.mpr ⟨hi8,?_⟩)) ho1 hsb
      rw [hib,decide_eq_false z,Bool.or_false] at o
      exact o.symm
    ·obtain ⟨hi8,hib⟩:=dU.mp hi
     have up:∀ n,n<8→m.testBit n=true→(m ||| 2^j).testBit n=true:=fun n hn hb=>by
      have:=wW ⟨m,T.m8⟩ ⟨j,hj8⟩ ⟨n,hn⟩
      dsimp only at this
      rw [this,hb];rfl
     have o:=wW ⟨m,T.m8⟩ ⟨j,hj8⟩ ⟨i,hi8⟩
     dsimp only at o
     by_cases z:i=j
     ·simp only [if_pos z]
      exact ⟨N,by rw [z];exact hjj,fun n hn=>up _ (qK _ _) (hN1 n hn)⟩
     ·simp only [if_neg z]
      rw [hib,decide_eq_false z,Bool.or_false] at o
      obtain ⟨n,e1,e2⟩:=T.way i (dU.mpr ⟨hi8,o.symm⟩)
      exact ⟨n,e1,fun i hi=>up _ (qK _ _) (e2 i hi)⟩
   ·have e9:(elL prog w (m ||| 2^j) (fun i=>if i=j then k else ka i) (fun i=>if i=j then b else ad i)).toArray.size=(plL m).length+1:=by
     unfold elL
     rw [List.size_toArray,List.length_map,e]
    rw [e9,sizeLine_eq]
    omega
  have fin:∀ h',Heap.SameBut a s.heap h'→mW prog w h' a (m ||| 2^j) (fun i=>if i=j then k else ka i) (fun i=>if i=j then b else ad i)→Q true { s1 with heap:=h' }:=fun h' hsb hS=>by
   rw [←hs1]
   exact no hnew h' j _ hsb hj8 hN0 hS
  split
  ·refine wpAny_bind (uO hk1 ?_)
   rw [if_pos rfl,hfull]
   refine wpAny_bind (key fun h' hsb hS=>?_)
   exact wpAny_pure (fin h' hsb hS)
  ·refine wpAny_bind (wpAny_pure ?_)
   rw [if_pos rfl,hfull]
   refine wpAny_bind (key fun h' hsb hS=>?_)
   exact wpAny_pure (fin h' hsb hS)
end
end L2
namespace L2
open PySem PySem.Spec PyProof.Rows
def dd1 (acc:List (List Int))(k:List Int):List (List Int):=if k∈acc then acc else acc++[k]
def ddl (l:List (List Int)):List (List Int):=l.foldl dd1 []
theorem fZ:∀ (l acc:List (List Int)),(l.foldl dd1 acc).length≤acc.length+l.length
 | [],acc=>by simp
 | k::r,acc=>by
  have:=fZ r (dd1 acc k)
  rw [List.foldl_cons]
  unfold dd1 at this ⊢
  split at this <;> simp_all <;> omega
section
variable {prog:Program}{w:World}{A:Around}{E:Value→Shared→Prop}{R:Result→Shared→Prop}
structure yN (prog:Program) (w:World) (z:Nat) (h:Heap) (S:Addr) (seen:List (List Int)) (m:Nat) (ka:Nat→List Int) (ad:Nat→Addr):Prop where
 set:mW prog w h S m ka ad
 low:∀ j,j∈plL m→ad j<z
 mem:∀ k,k∈seen↔∃ j,j∈plL m∧ka j=k
 len:(plL m).length=seen.length
theorem yN.keep {z:Nat}{h h':Heap}{S:Addr}{seen:List (List Int)}{m:Nat}{ka:Nat→List Int}{ad:Nat→Addr}(B:yN prog w z h S seen m ka ad)(hS:∀ o,h.get? S=some o→h'.get? S=some o)(hl:∀ b o,b<z→h.get? b=some o→h'.get? b=some o):yN prog w z h' S seen m ka ad:=by
 obtain ⟨⟨ep,t,ho,T⟩,low,mem,len⟩:=B
 refine ⟨⟨ep,t,hS _ ho,T.mask,T.place,T.dum,T.m8,T.few,fun j hj=>?_,T.way⟩,low,mem,len⟩
 obtain ⟨o,i,n,e,r⟩:=T.key j hj
 exact ⟨o,i,n,hl _ _ (low j hj) e,r⟩
end
end L2
namespace L2
open PySem PySem.Spec PyProof.Rows
section
variable {prog:Program}{w:World}{A:Around}{E:Value→Shared→Prop}{s:Shared}
abbrev nilO (led:Bool):Obj:={ cls:=.type "set",dict:=none,data:=.set #[] 0 (.fresh 0 0 led) }
theorem nil_tset {h:Heap}{a:Addr}{led:Bool}(ho:h.get? a=some (nilO led)):mW prog w h a 0 (fun _=>[]) (fun _=>0):=
 ⟨0,.fresh 0 0 led,ho,rfl,rfl,rfl,by decide,by decide,fun j hj=>absurd hj (by simp [plL]),fun j hj=>absurd hj (by simp [plL])⟩
end
end L2
namespace L2
open PySem PySem.Spec PyProof.Rows
section
variable {X:Cx}{K:PySem.W.Frag}
def TupsV (K:PySem.W.Frag)(H:Hp):List V→List (List Int)→Prop:=Paired fun v k=>∃ b,v=.ref b∧SqT K H b (k.map V.int)
def SetH (a:Addr)(n:Nat):HO:=.ext fun h=>∃ es ep t,h.get? a=some (setO es ep t)∧t.fits es.size=true∧es.size=n
theorem yh {prog:Program}{w:World}:∀ {k:List Int} {us:List Value},Vals (k.map V.int) us→ItemsAre (intKind prog w) k us
 | [],_,.nil=>.nil
 | i::k,_,.cons r t=>by
  obtain ⟨tk,rfl⟩:=r
  exact .cons (intKind_is _ _ _ _) (yh t)
theorem sZ {α β : Type}{F:α→β→Prop}:∀ {l:List α} {k:List β} {j:Nat} {x:α},Paired F l k→l[j]?=some x→∃ y,k[j]?=some y∧F x y
 | _,_,_,_,.nil,e=>by simp at e
 | _,_,0,_,.cons r _,e=>by simp at e;subst e;exact ⟨_,rfl,r⟩
 | _,_,j+1,x,.cons _ t,e=>by
  obtain ⟨y,a,b⟩:=sZ (j:=j) (x:=x) t (by simpa using e)
  exact ⟨y,by simpa using a,b⟩
theorem vals_back {xs:List V}{us:List Value}(r:Vals xs us){j:Nat}{u:Value}(e:us[j]?=some u):∃ x,xs[j]?=some x∧RelV x u:=by
 have hl:=r.length
 have hj:=(List.getElem?_eq_some_iff.mp e).1
 have hj':j<xs.length:=by omega
 obtain ⟨y,a,b⟩:=Vals.get r (List.getElem?_eq_getElem hj')
 rw [e] at a
 cases a
 exact ⟨_,List.getElem?_eq_getElem hj',b⟩
theorem call_lenS:dz X (.builtin "len") (fun xs H Q=>∃ (a:Addr) (n:Nat),xs=[.ref a]∧H a=some (SetH a n)∧n≤1000∧Q (.int n) H):=by
 intro pins s σ H xs us Q I r h
 obtain ⟨a,n,rfl,hq,hn,q⟩:=h
 obtain ⟨u,rfl,rx⟩:=vals1 r
 cases rx
 obtain ⟨⟨es,ep,t,ho,hf,e⟩,_⟩:=I.hok a _ hq
 exact call_len_set ho ⟨rfl,rfl,rfl⟩ rfl hf (by omega) ⟨.int n,H,I.tok _,⟨_,by rw [e]⟩,q⟩
def zj:List W→Option (List Int)
 | []=>some []
 | .int i::r=>(zj r).map (i::·)
 | _=>none
def sG:List W→Option (List (List Int))
 | []=>some []
 | .tup ws::r=>(match zj ws,sG r with
  | some k,some l=>some (k::l)
  | _,_=>none)
 | _=>none
theorem xU {H:Hp}{μ : Mu}:∀ {ws:List W} {xs:List V} {k:List Int},aH K H μ ws xs→zj ws=some k→xs=k.map V.int
 | [],xs,k,r,e=>by
  rw [aH] at r
  cases (show some []=some k from e)
  exact r
 | w::ws,xs,k,r,e=>by
  rw [aH] at r
  obtain ⟨v,vr,ev,ra,r⟩:=r
  cases w with
  | int b=>
   rw [Rep] at ra
   rw [zj] at e
   cases q:zj ws with
   | none=>rw [q] at e;cases e
   | some cs=>
    rw [q] at e
    cases (show some (b::cs)=some k from e)
    rw [ev,ra,xU r q]
    rfl
  | _=>cases e
theorem xW {H:Hp}{μ : Mu}:∀ {ws:List W} {xs:List V} {kss:List (List Int)},aH K H μ ws xs→sG ws=some kss→TupsV K H xs kss
 | [],xs,k,r,e=>by
  rw [aH] at r
  cases (show some []=some k from e)
  rw [r]
  exact .nil
 | w::ws,xs,kss,r,e=>by
  rw [aH] at r
  obtain ⟨v,vr,ev,ra,r⟩:=r
  cases w with
  | tup us=>
   rw [Rep] at ra
   obtain ⟨p,ys,e1,hs,rs⟩:=ra
   rw [sG] at e
   cases q:zj us with
   | none=>rw [q] at e;cases e
   | some k=>
    cases q2:sG ws with
    | none=>rw [q,q2] at e;cases e
    | some l=>
     rw [q,q2] at e
     cases (show some (k::l)=some kss from e)
     rw [ev]
     exact .cons ⟨p,e1,by rw [←xU rs q];exact hs⟩ (xW r q2)
  | _=>cases e
end
end L2
namespace L2
open PySem PySem.Spec PyProof.Rows
section
variable {X:Cx}{K:PySem.W.Frag}
end
end L2
namespace L2
open PySem PySem.Spec PyProof.Rows
section
variable {κ : Type} [DecidableEq κ]
end
section
variable {P:Program}{w:World}{H:Hp}{h:Heap}{a:Addr}
end
section
variable {X:Cx}{pins:List (Addr×Obj)}{σ : St}{H:Hp}{s:Shared}{a:Addr}{y v:V}{u r:Value}{o:Option V}{A:Around}{E:Value→Shared→Prop}
end
section
variable {X:Cx}{pins:List (Addr×Obj)}{σ : St}{H:Hp}{s:Shared}{a:Addr}{kvs:List (Key×V)}{k:Key}{u:Value}{A:Around}{E:Value→Shared→Prop}
end
section
variable {X:Cx}{o i e value:Expr}{pos pos' tpos:Pos}{td ty tv:TE}
end
section
variable {X:Cx}{pos:Pos}
end
end L2
namespace L2
open PySem PySem.Spec PyProof.Rows
section
variable {K:PySem.W.Frag}{H:Hp}{μ : Mu}{kvs:List (Key×W)}{kvv:List (Key×V)}{k:Key}{w:W}{v:V}
end
section
variable {X:Cx}{a b:Expr}{ma mb:ME}{pos:Pos}
inductive DDs (X:Cx):List (Option Expr)→List Expr→List (Key×ME)→Prop
 | nil:DDs X [] [] []
 | cons {x:Str} {j pos} {v:Expr} {m:ME} {ks:List (Option Expr)} {vs:List Expr} {r:List (Key×ME)} (h:DE X v m) (t:DDs X ks vs r):DDs X (some (.Constant (.str x) j pos)::ks) (v::vs) ((.inr x,m)::r)
end
inductive TabE (w:World) (K:PySem.W.Frag):List DictEntry→List (Key×W)→Prop
 | nil:TabE w K [] []
 | cons {x:Str} {t} {v:V} {u:Value} {d:W} {es:List DictEntry} {tbl:List (Key×W)} (r:RelV v u) (q:∀ H μ,Rep K H μ d v) (h:TabE w K es tbl):TabE w K (⟨PyData.keyHash w.params x,.str x t,u⟩::es) ((.inr x,d)::tbl)
section
variable {X:Cx}{b:Expr}{mb:ME}{pos p:Pos}{x:Str}{a:Addr}{tbl:List (Key×W)}
end
end L2
namespace L2
open PySem PySem.Spec PyProof.Rows
section
variable {X:Cx}{pos p p':Pos}{x:Str}{a:Addr}{tbl:List (Key×W)}
end
end L2
namespace L2
open PySem PySem.Spec PyProof.Rows
section
variable {X:Cx}
end
end L2
namespace L2
open PySem PySem.Spec PyProof.Rows
section
variable {X:Cx}{K:PySem.W.Frag}{H:Hp}{μ : Mu}{h:Gh}
end
end L2
namespace L2
open PySem PySem.Spec PyProof.Rows
section
variable {X:Cx}{a b c:Expr}{ma mb mc:ME}{pos:Pos}
end
end L2
namespace L2
open PySem PySem.Spec PyProof.Rows
section
variable {K:PySem.W.Frag}{H:Hp}{μ : Mu}{fs:List (Str×W)}{fvs:List (Str×V)}{f:Str}{w:W}{v:V}
end
section
variable {X:Cx}{e o value:Expr}{es:List Expr}{ma mo mv:ME}{mr:MA}{f:Str}{C:Addr}{pos pos' apos:Pos}
end
end L2
namespace L2
open PySem PySem.Spec PyProof.Rows
section
variable {prog:Program}{w:World}{A:Around}{E:Value→Shared→Prop}{s:Shared}
end
section
variable {X:Cx}
end
section
variable {X:Cx}{e:Expr}{me:ME}{x:Str}{a:Addr}{tbl:List (Key×W)}{p pos:Pos}
end
end L2
namespace L2
open PySem PySem.Spec PyProof.Rows
section
variable {X:Cx}{Γ : St→Prop}{C:Addr}{o e:Expr}{es:List Expr}{mo:ME}{mr:MA}{pos apos:Pos}
end
end L2
namespace L2
open PySem PySem.Spec PyProof.Rows
section
variable {X:Cx}{pins:List (Addr×Obj)}{σ : St}{H:Hp}{s:Shared}{K:PySem.W.Frag}{μ : Mu}
end
section
variable {X:Cx}{a b o i:Expr}{ma mb:ME}{td ty:TE}{pos:Pos}
end
section
variable {prog:Program}{w:World}{A:Around}{E:Value→Shared→Prop}{s:Shared}
end
section
variable {X:Cx}
end
end L2
namespace L2
open PySem PySem.Spec PyProof.Rows
def reo (es:Array (Int×Value))(laid:Option (SetTable×Array Nat)):Sem (Array (Int×Value)×SetTable):=do
 let some (t,order):=laid | unsupported "internal:set-table-without-room"
 let es':=order.filterMap (es[·]?)
 if es'.size != es.size then unsupported "internal:set-table-lost-an-element"
 pure (es',t)
theorem relay_eq (a:Addr)(wanted:Nat):setRelay a wanted=(do
 let (es,_,t) ←setState a
 if SetTable.sizeAbove wanted>sizeLine then unsupported "set:memory"
 let (es,t) ←reo es (t.relaid (es.map (·.1)) wanted)
 storeSet a es t):=rfl
def ps (h:Int):Nat→Nat×Nat
 | 0=>(SetTable.bits h % 32,SetTable.bits h)
 | n+1=>SetTable.leap 31 (ps h n).1 (ps h n).2
theorem ps_lt (h:Int):∀ n,(ps h n).1<32
 | 0=>Nat.mod_lt _ (by decide)
 | n+1=>Nat.mod_lt _ (by decide)
theorem ps_pert (h:Int):∀ n,(ps h n).2=SetTable.bits h / 32^n
 | 0=>by simp [ps]
 | n+1=>by
  show (ps h n).2 / 32=_
  rw [ps_pert h n,Nat.div_div_eq_div_mul,Nat.pow_succ]
theorem ps_zero (h:Int)(n:Nat)(hn:13≤n):(ps h n).2=0:=by
 rw [ps_pert]
 apply Nat.div_eq_of_lt
 have h1:SetTable.bits h<2^64:=by
  unfold SetTable.bits
  have a:=Int.emod_lt_of_pos h (show (0:Int)<2^64 by decide)
  have b:=Int.emod_nonneg h (show (2^64:Int)≠0 by decide)
  omega
 have h2:32^13≤32^n:=Nat.pow_le_pow_right (by decide) hn
 have h3:(2:Nat)^64<32^13:=by decide
 omega
def lcs:Nat→Nat→Nat
 | i,0=>i
 | i,k+1=>(lcs i k*5+1) % 32
theorem ps_lcs (h:Int):∀ k,(ps h (13+k)).1=lcs (ps h 13).1 k
 | 0=>rfl
 | k+1=>by
  show ((ps h (13+k)).1*5+1+(ps h (13+k)).2 / 32) % (31+1)=_
  rw [ps_zero h _ (by omega),ps_lcs h k]
  rfl
theorem lcs_all:∀ i:Fin 32,∀ j:Fin 32,∃ k:Fin 32,lcs i k=j.val:=by decide +kernel
theorem ps_all (h:Int){j:Nat}(hj:j<32):∃ n,n<45∧(ps h n).1=j:=by
 obtain ⟨k,e⟩:=lcs_all ⟨(ps h 13).1,ps_lt h 13⟩ ⟨j,hj⟩
 exact ⟨13+k.val,by omega,by rw [ps_lcs];exact e⟩
theorem run_lt {i:Nat}(h:i<32):i≤SetTable.runEnd 31 i∧SetTable.runEnd 31 i<32:=by
 unfold SetTable.runEnd
 split <;> omega
theorem free_go (owner:Array (Option Nat))(h:Int):∀ (d n fuel:Nat),d<fuel→owner.getD (ps h (n+d)).1 (some 0)=none→∃ j,j<32∧owner.getD j (some 0)=none∧SetTable.layClean.free 31 owner fuel (ps h n).1 (ps h n).2=some j
 | _,_,0,hf,_=>absurd hf (Nat.not_lt_zero _)
 | d,n,fuel+1,hf,e=>by
  unfold SetTable.layClean.free
  have hl:=run_lt (ps_lt h n)
  cases q:(List.range (SetTable.runEnd 31 (ps h n).1+1 - (ps h n).1)).find? fun k=>(owner.getD ((ps h n).1+k) (some 0)).isNone with
  | some k=>
   have h1:=List.find?_some q
   have h2:=List.mem_range.mp (List.mem_of_find?_eq_some q)
   exact ⟨(ps h n).1+k,by omega,by simpa using h1,rfl⟩
  | none=>
   cases d with
   | zero=>
    rw [List.find?_eq_none] at q
    refine absurd ?_ (q 0 (List.mem_range.mpr (by omega)))
    rw [Nat.add_zero] at e ⊢
    rw [e]
    rfl
   | succ d=>
    dsimp only
    exact free_go owner h d (n+1) fuel (by omega) (by rw [show n+1+d=n+(d+1) by omega];exact e)
theorem free_ok {owner:Array (Option Nat)}(h:Int){j:Nat}(hj:j<32)(e:owner.getD j (some 0)=none):∃ j,j<32∧owner.getD j (some 0)=none∧SetTable.layClean.free 31 owner (SetTable.turns 31) (SetTable.bits h % (31+1)) (SetTable.bits h)=some j:=by
 obtain ⟨n,hn,en⟩:=ps_all h hj
 have:=free_go owner h n 0 46 (by omega) (by rw [Nat.zero_add,en];exact e)
 exact this
def liv (o:Array (Option Nat)):List (Nat×Nat):=(List.range 32).filterMap fun j=>(o.getD j none).map (j,·)
theorem fm_upd {f g:Nat→Option (Nat×Nat)}{j:Nat}(hf:f j=none)(hg:(g j).isSome=true)(he:∀ i,i≠j→g i=f i):∀ l:List Nat,l.Nodup→(l.filterMap g).length=(l.filterMap f).length+(if j∈l then 1 else 0)
 | [],_=>by simp
 | a::l,hn=>by
  rw [List.nodup_cons] at hn
  have ih:=fm_upd hf hg he l hn.2
  by_cases z:a=j
  ·subst z
   rw [if_neg hn.1] at ih
   rw [if_pos (List.mem_cons_self ..)]
   obtain ⟨y,ey⟩:=Option.isSome_iff_exists.mp hg
   rw [List.filterMap_cons_some ey,List.filterMap_cons_none hf,List.length_cons,ih]
  ·have e1:(if j∈a::l then 1 else 0)=(if j∈l then 1 else 0):=by
    simp only [List.mem_cons,show ¬ j=a from fun q=>z q.symm,false_or]
   rw [e1]
   cases q:f a with
   | none=>rw [List.filterMap_cons_none (by rw [he a z,q]),List.filterMap_cons_none q];exact ih
   | some y=>rw [List.filterMap_cons_some (by rw [he a z,q]),List.filterMap_cons_some q,List.length_cons,List.length_cons,ih];omega
theorem fm_map {f:Nat→Option (Nat×Nat)}{g:Nat→Nat×Nat}:∀ l:List Nat,(∀ j∈l,f j=some (g j))→l.filterMap f=l.map g
 | [],_=>rfl
 | a::l,h=>by rw [List.filterMap_cons_some (h a (List.mem_cons_self ..)),List.map_cons,fm_map l fun j hj=>h j (List.mem_cons_of_mem _ hj)]
structure Lay (o:Array (Option Nat)) (k:Nat):Prop where
 sz:o.size=32
 len:(liv o).length=k
 low:∀ p,p∈liv o→p.2<k
theorem Lay.room {o:Array (Option Nat)}{k:Nat}(L:Lay o k)(hk:k<32):∃ j,j<32∧o.getD j (some 0)=none:=by
 apply Classical.byContradiction
 intro hn
 have all:∀ j,j<32→∃ v,o.getD j none=some v:=fun j hj=>by
  cases q:o.getD j none with
  | some v=>exact ⟨v,rfl⟩
  | none=>
   refine absurd ⟨j,hj,?_⟩ hn
   have hs:j<o.size:=by rw [L.sz];exact hj
   simp only [Array.getD,hs,dite_true] at q ⊢
   exact q
 have e:liv o=(List.range 32).map fun j=>(j,(o.getD j none).getD 0):=by
  unfold liv
  refine fm_map _ fun j hj=>?_
  obtain ⟨v,ev⟩:=all j (List.mem_range.mp hj)
  rw [ev]
  rfl
 have:=L.len
 rw [e,List.length_map,List.length_range] at this
 omega
theorem Lay.put {o:Array (Option Nat)}{k j:Nat}(L:Lay o k)(hj:j<32)(e:o.getD j (some 0)=none):Lay (o.setIfInBounds j (some k)) (k+1):=by
 have hs:j<o.size:=by rw [L.sz];exact hj
 have e0:o.getD j none=none:=by
  simp only [Array.getD,hs,dite_true] at e ⊢
  exact e
 have e1:(o.setIfInBounds j (some k)).getD j none=some k:=by
  simp [Array.getD,hs]
 have e2:∀ i,i≠j→(o.setIfInBounds j (some k)).getD i none=o.getD i none:=fun i hi=>by
  rw [Array.getD_eq_getD_getElem?,Array.getD_eq_getD_getElem?,Array.getElem?_setIfInBounds_ne (Ne.symm hi)]
 refine ⟨by rw [Array.size_setIfInBounds];exact L.sz,?_,?_⟩
 ·have:=fm_upd (f:=fun i=>(o.getD i none).map (i,·)) (g:=fun i=>((o.setIfInBounds j (some k)).getD i none).map (i,·)) (j:=j) (by rw [e0];rfl) (by rw [e1];rfl) (fun i hi=>by rw [e2 i hi]) (List.range 32) List.nodup_range
  rw [if_pos (List.mem_range.mpr hj)] at this
  have l:=L.len
  unfold liv at l ⊢
  omega
 ·intro p hp
  obtain ⟨i,hi,ep⟩:=List.mem_filterMap.mp hp
  by_cases z:i=j
  ·rw [z,e1] at ep
   cases ep
   exact Nat.lt_succ_self _
  ·rw [e2 i z] at ep
   have:=L.low p (List.mem_filterMap.mpr ⟨i,hi,ep⟩)
   omega
theorem wY:∀ (hs:List Int) (o:Array (Option Nat)) (k:Nat),Lay o k→k+hs.length<32→∃ o',Lay o' (k+hs.length)∧hs.foldl (fun (acc:Option (Array (Option Nat)×Nat)) h=>do
  let (owner,k) ←acc
  let j ←SetTable.layClean.free 31 owner (SetTable.turns 31) (SetTable.bits h % (31+1)) (SetTable.bits h)
  pure (owner.setIfInBounds j (some k),k+1)) (some (o,k))=some (o',k+hs.length)
 | [],o,k,L,_=>⟨o,L,rfl⟩
 | h::hs,o,k,L,hl=>by
  rw [List.length_cons] at hl
  obtain ⟨j0,hj0,e0⟩:=L.room (by omega)
  obtain ⟨j,hj,e,ef⟩:=free_ok h hj0 e0
  obtain ⟨o',L',e'⟩:=wY hs _ _ (L.put hj e) (by omega)
  refine ⟨o',by rw [List.length_cons,show k+(hs.length+1)=k+1+hs.length by omega];exact L',?_⟩
  rw [List.foldl_cons,List.length_cons,show k+(hs.length+1)=k+1+hs.length by omega,←e']
  congr 1
  show ((SetTable.layClean.free 31 o (SetTable.turns 31) (SetTable.bits h % (31+1)) (SetTable.bits h)).bind fun j=>some (o.setIfInBounds j (some k),k+1))=_
  rw [ef]
  rfl
theorem lay0:Lay (Array.replicate 32 none) 0:=⟨by simp,by decide +kernel,fun p hp=>by
 have:liv (Array.replicate 32 none)=[]:=by decide +kernel
 rw [this] at hp
 cases hp⟩
theorem laid_ok (f mv:Nat)(led pl:Bool)(hs:Array Int)(h:hs.size<32):∃ t idx,SetTable.laid 31 f mv led pl hs=some (t,idx)∧t.place.size=hs.size∧t.dummies = #[]∧t.mask=31∧idx.size=hs.size∧∀ i,i∈idx→i<hs.size:=by
 obtain ⟨o,L,e⟩:=wY hs.toList (Array.replicate (31+1) none) 0 lay0 (by simpa using h)
 have ec:SetTable.layClean 31 hs=some o:=by
  unfold SetTable.layClean
  rw [←Array.foldl_toList,e]
  rfl
 have hlen:(0+hs.toList.length)=hs.size:=by simp
 rw [hlen] at L
 refine ⟨_,_,by unfold SetTable.laid;rw [ec];rfl,?_,rfl,rfl,?_,?_⟩
 ·show (((List.range (31+1)).filterMap fun j=>(o.getD j none).map (j,·)).map (·.1)).toArray.size=_
  rw [List.size_toArray,List.length_map]
  exact L.len
 ·show (((List.range (31+1)).filterMap fun j=>(o.getD j none).map (j,·)).map (·.2)).toArray.size=_
  rw [List.size_toArray,List.length_map]
  exact L.len
 ·intro i hi
  have hi:i∈((liv o).map (·.2)).toArray:=hi
  rw [List.mem_toArray] at hi
  obtain ⟨p,hp,rfl⟩:=List.mem_map.mp hi
  exact L.low p hp
def yI (h:Heap)(a:Addr)(n:Nat):Prop:=∃ es ep t,h.get? a=some (setO es ep t)∧t.fits es.size=true∧es.size=n
theorem fm_size {α : Type}(es:Array α)(idx:Array Nat)(h:∀ i,i∈idx→i<es.size):(idx.filterMap (es[·]?)).size=idx.size:=by
 have:(idx.filterMap (es[·]?)).toList.length=idx.toList.length:=by
  rw [Array.toList_filterMap]
  have:∀ l:List Nat,(∀ i∈l,i<es.size)→(l.filterMap (es[·]?)).length=l.length:=by
   intro l
   induction l with
   | nil=>intro _;rfl
   | cons a l ih=>
    intro hl
    have ha:=hl a (List.mem_cons_self ..)
    rw [List.filterMap_cons_some (Array.getElem?_eq_getElem ha),List.length_cons,List.length_cons,ih fun i hi=>hl i (List.mem_cons_of_mem _ hi)]
  exact this _ fun i hi=>h i (by simpa using hi)
 rw [Array.length_toList,Array.length_toList] at this
 exact this
section
variable {prog:Program}{w:World}{A:Around}{E:Value→Shared→Prop}{s:Shared}{a:Addr}
theorem vC {es:Array (Int×Value)}{ep:Nat}{t:SetTable}{Q:Unit→Shared→Prop}(ho:s.heap.get? a=some (setO es ep t))(hf:t.fits es.size=true)(h5:es.size<32)
  (h:∀ h',Heap.SameBut a s.heap h'→yI h' a es.size→Q () { s with heap:=h' }):wpAny (model prog w) A (setRelay a 20) Q E s:=by
 rw [relay_eq]
 refine wpAny_bind (wpAny_setState_of ho rfl hf ?_)
 dsimp only
 have e32:SetTable.sizeAbove 20=32:=by decide +kernel
 rw [e32,if_neg (by rw [sizeLine_eq];decide)]
 obtain ⟨t',idx,el,h1,h2,h3,h4,h6⟩:=laid_ok t.finger (t.movedTo 31) t.led t.plain (es.map (·.1)) (by simpa using h5)
 have er:t.relaid (es.map (·.1)) 20=some (t',idx):=by
  unfold SetTable.relaid
  rw [e32]
  exact el
 rw [er]
 have hs:(idx.filterMap (es[·]?)).size=es.size:=by
  rw [fm_size es idx (fun i hi=>by have:=h6 i hi;simpa using this),h4]
  simp
 have ereo:reo es (some (t',idx))=pure (idx.filterMap (es[·]?),t'):=by
  unfold reo
  dsimp only
  rw [hs]
  simp
 rw [ereo]
 refine wpAny_bind (wpAny_pure ?_)
 dsimp only
 refine wpAny_storeSet_of ho rfl (h _ (Heap.SameBut.update ..) ?_) (by rw [hs,sizeLine_eq];omega)
 refine ⟨idx.filterMap (es[·]?),ep+1,t',?_,?_,hs⟩
 ·have:=Heap.get?_update_self (Obj.putSet (idx.filterMap (es[·]?)) t') ho (by rw [putSet_of _ _ rfl];rfl)
  rw [putSet_of _ _ rfl] at this
  exact this
 ·unfold SetTable.fits SetTable.fill
  rw [h1,h2,h3,hs]
  simp
  omega
end
end L2
namespace L2
open PySem PySem.Spec PyProof.Rows
section
variable {prog:Program}{w:World}{A:Around}{E:Value→Shared→Prop}{s:Shared}{m:Nat}{ka:Nat→List Int}{ad:Nat→Addr}{t:SetTable}{a b:Addr}{k:List Int}
theorem vJ {Q:Bool→Shared→Prop}(hu:A.units<cLine)(S:mW prog w s.heap a m ka ad)(hk:TK prog w s.heap k b)(h3:(plL m).length=4)
  (yes:(∃ j,j∈plL m∧ka j=k)→∀ tk,Q false { s with toks:=tk })
  (no:(∀ j,j∈plL m→ka j≠k)→∀ h' tk,Heap.SameBut a s.heap h'→yI h' a 5→Q true { s with heap:=h',toks:=tk }) :
  wpAny (model prog w) A (setAdd a (.ref b)) Q E s:=by
 obtain ⟨ep,t,ho,T⟩:=S
 unfold setAdd
 refine wpAny_holding (wpAny_bind (wpAny_pyHash_tuple hu hk ?_))
 unfold setAddHashed
 refine wpAny_holding ?_
 generalize hs1:({ s with toks:=s.toks+(k.length+1) }:Shared)=s1
 have eh:s1.heap=s.heap:=by rw [←hs1]
 have ho1:s1.heap.get? a=some (setO (elL prog w m ka ad).toArray ep t):=by rw [eh];exact ho
 have T1:TTab prog w s1.heap m ka ad t:=by rw [eh];exact T
 have hk1:TK prog w s1.heap k b:=by rw [eh];exact hk
 unfold setAddHashedIn
 refine wpAny_bind (wpAny_setState_of ho1 rfl T1.fits ?_)
 dsimp only
 have hby:byScan (.ref b) (elL prog w m ka ad).toArray=false:=rfl
 rw [hby]
 simp only [Bool.false_eq_true,if_false]
 obtain ⟨j0,hj0⟩:=xV ⟨m,T.m8⟩ (by show (plL m).length<8;omega)
 obtain ⟨N,hN,hN0,hN1⟩:=road (m:=m) (tupleKeyHash (intKind prog w) k) ⟨j0.val,j0.isLt,hj0⟩
 unfold setSearch
 refine wpAny_bind (fu (h:=tupleKeyHash (intKind prog w) k) rfl hu ho1 rfl T1 hk1 hN0 hN1 (fun y=>?_) (fun n=>?_) 100000 0 none (by rw [Option.getD_none];exact wQ T.mask _) (by omega) (by omega) (by omega) fun i hi=>absurd hi (Nat.not_lt_zero _))
 ·dsimp only
  rw [←hs1]
  exact wpAny_pure (yes y _)
 ·dsimp only
  have hnew:∀ j,j∈plL m→ka j≠k:=fun j hj z=>by
   obtain ⟨i,e,l⟩:=T.way j hj
   have eh:hT prog w (ka j)=tupleKeyHash (intKind prog w) k:=by rw [z];rfl
   rw [eh] at e l
   rcases Nat.lt_trichotomy i N with q | q | q
   ·exact n i q (by rw [e];exact z)
   ·rw [q] at e
    rw [e,(dU.mp hj).2] at hN0
    cases hN0
   ·rw [l N q] at hN0
    cases hN0
  refine wpAny_bind (wpAny_setState_of ho1 rfl T1.fits ?_)
  have hj8:=qK (tupleKeyHash (intKind prog w) k) N
  generalize hjj:(pq (tupleKeyHash (intKind prog w) k) N).fst=j at hN0 hj8 ⊢
  have hput:t.put j=({ t with place:=(plL (m ||| 2^j)).toArray },rk m j):=by
   unfold SetTable.put
   have e1:=(kZ ⟨m,T.m8⟩ ⟨j,hj8⟩).1
   have e2:=(qM ⟨m,T.m8⟩ ⟨j,hj8⟩ hN0).1
   dsimp only at e1 e2
   have e3:SetTable.insertAt (plL m).toArray (rk m j) j=(plL (m ||| 2^j)).toArray:=by
    apply Array.ext'
    rw [SetTable.toList_insertAt,e2]
   rw [T.place,T.dum,e1]
   dsimp only
   rw [e3,if_neg (by simp [SetTable.has])]
  have e:=qG ⟨m,T.m8⟩ ⟨j,hj8⟩ hN0
  dsimp only at e
  have hfull:({ t with place:=(plL (m ||| 2^j)).toArray }:SetTable).tooFull=true:=by
   unfold SetTable.tooFull SetTable.fill
   rw [T.mask,T.dum]
   simp only [List.size_toArray,e,h3]
   decide
  rw [hput]
  dsimp only
  have es5:(elL prog w m ka ad).toArray.size+1=5:=by
   unfold elL
   rw [List.size_toArray,List.length_map,h3]
  have e5:(SetTable.insertAt (elL prog w m ka ad).toArray (rk m j) (tupleKeyHash (intKind prog w) k,Value.ref b)).size=5:=by
   have ee:=el_put (prog:=prog) (w:=w) (ka:=ka) (ad:=ad) (k:=k) (b:=b) T.m8 hj8 hN0
   unfold hT at ee
   rw [ee]
   unfold elL
   rw [List.size_toArray,List.length_map,e,h3]
  have hg:SetTable.grown 5=20:=by decide
  have key:∀ {R:Unit→Shared→Prop},(∀ h',Heap.SameBut a s.heap h'→h'.get? a=some (setO (SetTable.insertAt (elL prog w m ka ad).toArray (rk m j) (tupleKeyHash (intKind prog w) k,Value.ref b)) (ep+1) { t with place:=(plL (m ||| 2^j)).toArray })→R () { s1 with heap:=h' })→wpAny (model prog w) A (storeSet a (SetTable.insertAt (elL prog w m ka ad).toArray (rk m j) (tupleKeyHash (intKind prog w) k,Value.ref b)) { t with place:=(plL (m ||| 2^j)).toArray }) R E s1:=by
   intro R hR
   refine wpAny_storeSet_of ho1 rfl (hR _ (by rw [eh];exact Heap.SameBut.update ..) ?_) (by rw [e5,sizeLine_eq];decide)
   have:=Heap.get?_update_self (Obj.putSet (SetTable.insertAt (elL prog w m ka ad).toArray (rk m j) (tupleKeyHash (intKind prog w) k,Value.ref b)) { t with place:=(plL (m ||| 2^j)).toArray }) ho1 (by rw [putSet_of _ _ rfl];rfl)
   rw [putSet_of _ _ rfl] at this
   exact this
  have fits5:({ t with place:=(plL (m ||| 2^j)).toArray }:SetTable).fits (SetTable.insertAt (elL prog w m ka ad).toArray (rk m j) (tupleKeyHash (intKind prog w) k,Value.ref b)).size=true:=by
   rw [e5]
   unfold SetTable.fits SetTable.fill
   rw [T.mask,T.dum]
   simp only [List.size_toArray,e,h3]
   decide
  have fin:∀ h1,Heap.SameBut a s.heap h1→h1.get? a=some (setO (SetTable.insertAt (elL prog w m ka ad).toArray (rk m j) (tupleKeyHash (intKind prog w) k,Value.ref b)) (ep+1) { t with place:=(plL (m ||| 2^j)).toArray })→wpAny (model prog w) A (setRelay a 20) (fun _ s'=>Q true s') E { s1 with heap:=h1 }:=fun h1 hsb hS=>by
   refine vC (s:={ s1 with heap:=h1 }) hS fits5 (by rw [e5];decide) fun h' hsb' hn=>?_
   rw [e5] at hn
   rw [←hs1]
   exact no hnew h' _ (hsb.trans hsb') hn
  split
  ·refine wpAny_bind (uO hk1 ?_)
   rw [if_pos rfl,hfull]
   refine wpAny_bind (key fun h' hsb hS=>?_)
   rw [es5,hg]
   refine wpAny_bind (wpAny_mono (fin h' hsb hS) (fun _ s' z=>wpAny_pure z) fun _ _ z=>z)
  ·refine wpAny_bind (wpAny_pure ?_)
   rw [if_pos rfl,hfull]
   refine wpAny_bind (key fun h' hsb hS=>?_)
   rw [es5,hg]
   refine wpAny_bind (wpAny_mono (fin h' hsb hS) (fun _ s' z=>wpAny_pure z) fun _ _ z=>z)
end
end L2
namespace L2
open PySem PySem.Spec PyProof.Rows
section
variable {prog:Program}{w:World}{A:Around}{E:Value→Shared→Prop}{R:Result→Shared→Prop}
theorem yI.of {z:Nat}{h:Heap}{S:Addr}{seen:List (List Int)}{m:Nat}{ka:Nat→List Int}{ad:Nat→Addr}(B:yN prog w z h S seen m ka ad):yI h S seen.length:=by
 obtain ⟨⟨ep,t,ho,T⟩,_,_,len⟩:=B
 exact ⟨_,ep,t,ho,T.fits,by unfold elL;rw [List.size_toArray,List.length_map,len]⟩
theorem qp {l I S:Addr}{items:Array Value}{i n:Nat}{s:Shared}(hh:A.in1.handled=none)(hne:l≠I)(hIS:I≠S)(ei:i=items.size)(st:s.heap.IsListIter I l i∧s.heap.IsList l items)(B:yI s.heap S n)
  (hR:∀ h' tk,yI h' S n→(∀ b o,b≠S→b≠I→s.heap.get? b=some o→h'.get? b=some o)→R (.ok (.ret .none)) { s with heap:=h',toks:=tk }) :
  codeAny (model prog w) A (.builtin "set.update.loop" ⟨[.ref S,.ref I],[]⟩) R s:=by
 have W:=(Walks.list (prog:=prog) (w:=w) hh I l hne items).toS
 subst ei
 refine codeAny_builtin F.entry_set_update_loop ?_
 rw [Around.under_plainId F.plain_set_update_loop _]
 show wpAny _ A.in1 (pyNext (.ref I) >>= _) _ _ s
 refine wpAny_bind (W.done s _ _ st fun s' hm=>?_)
 obtain ⟨h',g',d',tk',os'⟩:=s'
 obtain ⟨eh,eg,ed,eo,_⟩:=hm
 simp only at eg ed eo
 subst eg;subst ed;subst eo
 have hk:∀ b o,b≠I→s.heap.get? b=some o→h'.get? b=some o:=fun b o hb e=>eh b o (by simpa using hb) e
 obtain ⟨es,ep,t,ho,q⟩:=B
 exact wpAny_pure (hR h' tk' ⟨es,ep,t,hk S _ (Ne.symm hIS) ho,q⟩ fun b o _ hb e=>hk b o hb e)
theorem lX {l I S:Addr}{z:Nat}{items:Array Value}{kss:List (List Int)}(hh:A.in1.handled=none)(hu:A.in1.units<cLine)(hne:l≠I)(hlS:l≠S)(hIS:I≠S)(hzS:z≤S)(hzI:z≤I)(h4:kss.length≤5)(hn:items.size=kss.length) :
  ∀ (rest:List (List Int)) (i:Nat) (s:Shared) (seen:List (List Int)) (m:Nat) (ka:Nat→List Int) (ad:Nat→Addr),i+rest.length=kss.length→seen.length≤i →
   (∀ j v,items[i+j]?=some v→∃ b k,v=.ref b∧rest[j]?=some k∧b<z∧TK prog w s.heap k b)→(s.heap.IsListIter I l i∧s.heap.IsList l items)→yN prog w z s.heap S seen m ka ad →
   (∀ h' tk,yI h' S (rest.foldl dd1 seen).length→(∀ b o,b≠S→b≠I→s.heap.get? b=some o→h'.get? b=some o)→R (.ok (.ret .none)) { s with heap:=h',toks:=tk }) →
   codeAny (model prog w) A (.builtin "set.update.loop" ⟨[.ref S,.ref I],[]⟩) R s
 | [],i,s,seen,m,ka,ad,hi,_,_,st,B,hR=>by
  refine qp hh hne hIS (by rw [hn];simpa using hi) st (yI.of B) fun h' tk hN kp=>hR h' tk hN kp
 | k0::rest,i,s,seen,m,ka,ad,hi,hsl,hit,st,B,hR=>by
  have W:=(Walks.list (prog:=prog) (w:=w) hh I l hne items).toS
  rw [List.length_cons] at hi
  refine codeAny_builtin F.entry_set_update_loop ?_
  rw [Around.under_plainId F.plain_set_update_loop _]
  show wpAny _ A.in1 (pyNext (.ref I) >>= _) _ _ s
  refine wpAny_bind (W.item i s _ _ (by omega) st fun v s' hv st' hm=>?_)
  obtain ⟨b,k,rfl,ek,hb,hk⟩:=hit 0 v hv
  simp only [List.getElem?_cons_zero,Option.some.injEq] at ek
  subst ek
  obtain ⟨h1,g',d',tk',os'⟩:=s'
  obtain ⟨eh,eg,ed,eo,_⟩:=hm
  simp only at eg ed eo
  subst eg;subst ed;subst eo
  have hk1:∀ b o,b≠I→s.heap.get? b=some o→h1.get? b=some o:=fun b o hb e=>eh b o (by simpa using hb) e
  have up:∀ {k b},b<z→TK prog w s.heap k b→TK prog w h1 k b:=fun {k b} hb ⟨o,i,n,e,r⟩=>⟨o,i,n,hk1 b o (Nat.ne_of_lt (Nat.lt_of_lt_of_le hb hzI)) e,r⟩
  have B1:=B.keep (h':=h1) (fun o e=>hk1 S o (Ne.symm hIS) e) fun b o hb e=>hk1 b o (Nat.ne_of_lt (Nat.lt_of_lt_of_le hb hzI)) e
  by_cases hlen:(plL m).length≤3
  rotate_left
  ·have h4':(plL m).length=4:=by rw [B.len] at hlen ⊢;omega
   have hr:rest=[]:=List.eq_nil_of_length_eq_zero (by rw [B.len] at hlen;omega)
   subst hr
   show wpAny _ A.in1 (holding [Value.ref b] (setAdd S (.ref b)) >>= _) _ _ _
   refine wpAny_bind (wpAny_holding (vJ (s:={ s with heap:=h1,toks:=tk' }) hu B1.set (up hb hk) h4' (fun y tk=>?_) fun n h2 tk hs hN=>?_))
   ·refine wpAny_pure ⟨plainId_quiet F.plain_set_update_loop _,?_⟩
    have e:dd1 seen k0=seen:=by unfold dd1;rw [if_pos ((B.mem k0).mpr y)]
    refine qp (i:=i+1) (s:={ s with heap:=h1,toks:=tk }) hh hne hIS (by rw [hn,←hi];rfl) st' (yI.of B1) fun h' tk' hN kp=>?_
    refine hR h' tk' (by rw [List.foldl_cons,e];exact hN) fun b o q1 q2 e=>kp b o q1 q2 (hk1 b o q2 e)
   ·refine wpAny_pure ⟨plainId_quiet F.plain_set_update_loop _,?_⟩
    have nm:¬ k0∈seen:=fun hm=>by
     obtain ⟨j,hj,e⟩:=(B.mem k0).mp hm
     exact n j hj e
    have e:dd1 seen k0=seen++[k0]:=by unfold dd1;rw [if_neg nm]
    have k2:∀ b o,b≠S→h1.get? b=some o→h2.get? b=some o:=fun b o hb e=>(hs.2 b hb).trans e
    have l5:(seen++[k0]).length=5:=by rw [List.length_append,←B.len,h4'];rfl
    refine qp (i:=i+1) (s:={ s with heap:=h2,toks:=tk }) hh hne hIS (by rw [hn,←hi];rfl) ?_ hN fun h' tk' hN' kp=>?_
    ·exact (W.frame _ { s with heap:=h1,toks:=tk' } h2 tk' st' (Nat.le_refl _) fun b hb o e=>k2 b o (by
      simp only [List.mem_cons,List.not_mem_nil,or_false] at hb
      rcases hb with rfl | rfl
      ·exact hIS
      ·exact hlS) e)
    ·refine hR h' tk' (by rw [List.foldl_cons,e];show yI h' S (seen++[k0]).length;rw [l5];exact hN') fun b o q1 q2 e=>kp b o q1 q2 (k2 b o q1 (hk1 b o q2 e))
  show wpAny _ A.in1 (holding [Value.ref b] (setAdd S (.ref b)) >>= _) _ _ _
  refine wpAny_bind (wpAny_holding (zy (s:={ s with heap:=h1,toks:=tk' }) hu B1.set (up hb hk) hlen (fun y tk=>?_) fun n h2 j tk hs hj8 hjb hS=>?_))
  ·refine wpAny_pure ⟨plainId_quiet F.plain_set_update_loop _,?_⟩
   have e:dd1 seen k0=seen:=by unfold dd1;rw [if_pos ((B.mem k0).mpr y)]
   refine lX hh hu hne hlS hIS hzS hzI h4 hn rest (i+1) { s with heap:=h1,toks:=tk } seen m ka ad (by omega) (by omega) (fun j v hv=>?_) st' B1 fun h' tk' B' kp=>?_
   ·obtain ⟨b',k',e1,e2,e3,e4⟩:=hit (j+1) v (by rw [←hv];congr 1;omega)
    exact ⟨b',k',e1,by simpa using e2,e3,up e3 e4⟩
   ·refine hR h' tk' (by rw [List.foldl_cons,e];exact B') fun b o h1 h2 e=>kp b o h1 h2 (hk1 b o h2 e)
  ·refine wpAny_pure ⟨plainId_quiet F.plain_set_update_loop _,?_⟩
   have nm:¬ k0∈seen:=fun hm=>by
    obtain ⟨j,hj,e⟩:=(B.mem k0).mp hm
    exact n j hj e
   have e:dd1 seen k0=seen++[k0]:=by unfold dd1;rw [if_neg nm]
   obtain ⟨ep,t,ho,T⟩:=id B1.set
   have m8:=T.m8
   have hor:∀ i,i<8→(m ||| 2^j).testBit i=(m.testBit i||decide (i=j)):=fun i hi=>wW ⟨m,m8⟩ ⟨j,hj8⟩ ⟨i,hi⟩
   have hmem:∀ i,i∈plL (m ||| 2^j)↔i∈plL m∨i=j:=fun i=>by
    rw [dU,dU]
    constructor
    ·rintro ⟨h8,hb⟩
     rw [hor i h8,Bool.or_eq_true,decide_eq_true_eq] at hb
     exact hb.elim (fun q=>.inl ⟨h8,q⟩) .inr
    ·rintro (⟨h8,hb⟩ | rfl)
     ·exact ⟨h8,by rw [hor i h8,hb];rfl⟩
     ·exact ⟨hj8,by rw [hor i hj8,decide_eq_true rfl,Bool.or_true]⟩
   have nj:∀ i,i∈plL m→i≠j:=fun i hi z=>by rw [z] at hi;rw [(dU.mp hi).2] at hjb;cases hjb
   have B2:yN prog w z h2 S (seen++[k0]) (m ||| 2^j) (fun i=>if i=j then k0 else ka i) (fun i=>if i=j then b else ad i):=by
    refine ⟨hS,fun i hi=>?_,fun k=>?_,?_⟩
    ·rcases (hmem i).mp hi with q | q
     ·simp only [if_neg (nj i q)];exact B.low i q
     ·simp only [if_pos q];exact hb
    ·rw [List.mem_append,List.mem_singleton,B.mem k]
     constructor
     ·rintro (⟨i,hi,e⟩ | rfl)
      ·exact ⟨i,(hmem i).mpr (.inl hi),by simp only [if_neg (nj i hi)];exact e⟩
      ·exact ⟨j,(hmem j).mpr (.inr rfl),by simp⟩
     ·rintro ⟨i,hi,e⟩
      rcases (hmem i).mp hi with q | q
      ·simp only [if_neg (nj i q)] at e;exact .inl ⟨i,q,e⟩
      ·simp only [if_pos q] at e;exact .inr e.symm
    ·have:=qG ⟨m,m8⟩ ⟨j,hj8⟩ hjb
     dsimp only at this
     rw [this,B.len,List.length_append];rfl
   have k2:∀ b o,b≠S→h1.get? b=some o→h2.get? b=some o:=fun b o hb e=>(hs.2 b hb).trans e
   refine lX hh hu hne hlS hIS hzS hzI h4 hn rest (i+1) { s with heap:=h2,toks:=tk } (seen++[k0]) _ _ _ (by omega) (by rw [List.length_append,List.length_singleton];omega) (fun j v hv=>?_) ?_ B2 fun h' tk' B' kp=>?_
   ·obtain ⟨b',k',e1,e2,e3,e4⟩:=hit (j+1) v (by rw [←hv];congr 1;omega)
    obtain ⟨o,i,n,e,r⟩:=up e3 e4
    exact ⟨b',k',e1,by simpa using e2,e3,o,i,n,k2 b' o (Nat.ne_of_lt (Nat.lt_of_lt_of_le e3 hzS)) e,r⟩
   ·exact (W.frame _ { s with heap:=h1,toks:=tk' } h2 tk' st' (Nat.le_refl _) fun b hb o e=>k2 b o (by
     simp only [List.mem_cons,List.not_mem_nil,or_false] at hb
     rcases hb with rfl | rfl
     ·exact hIS
     ·exact hlS) e)
   ·refine hR h' tk' (by rw [List.foldl_cons,e];exact B') fun b o q1 q2 e=>kp b o q1 q2 (k2 b o q1 (hk1 b o q2 e))
end
end L2
namespace L2
open PySem PySem.Spec PyProof.Rows
section
variable {prog:Program}{w:World}{A:Around}{E:Value→Shared→Prop}{s:Shared}
theorem init_tup5 {l S:Addr}{z:Nat}{items:Array Value}{kss:List (List Int)}{led:Bool}{Q:Value→Shared→Prop}(hh:A.handled=none)(hu:A.units+5<cLine)(h4:kss.length≤5)(hn:items.size=kss.length)(hz:z≤S)(hS:s.heap.get? S=some (nilO led))(hl:s.heap.IsList l items)(hlz:l<z)
  (hit:∀ (j:Nat) (v:Value),items[j]?=some v→∃ b k,v=.ref b∧kss[j]?=some k∧b<z∧TK prog w s.heap k b)
  (h:∀ (h':Heap) (tk:Nat),yI h' S (ddl kss).length→(∀ b o,b≠S→s.heap.get? b=some o→h'.get? b=some o)→Q Value.none { s with heap:=h',toks:=tk }) :
  codeAny (model prog w) A (.call (.builtin "set.__init__") ⟨[.ref S,.ref l],[]⟩) (wants Q E) s:=by
 have ht:s.TypeIs (.ref S) "set":=⟨_,hS,rfl⟩
 refine codeAny_call_builtin F.called_set.init.plain F.entry_set_init (check_set_init_1 ht ?_)
 obtain ⟨ol,hol,hcl,nl,hdl⟩:=id hl
 obtain ⟨ocls,odict,odata,oslots⟩:=ol
 simp only at hcl hdl
 subst hcl;subst hdl
 have q1:=F.sub_list_set
 have q2:=F.sub_list_frozenset
 have q3:(Value.type "list"==Value.type "dict")=false:=by decide
 unfold Builtin.«set.__init__» noKeywords Builtin.Frozenset.updateFrom
 generalize hPI:pyIter=PI
 wp_walk
 subst hPI
 refine wpAny_pyIter_list hl ?_
 refine wpAny_bind (wpAny_runValue ?_)
 have hlt:l≠s.heap.objs.size:=Nat.ne_of_lt (Heap.lt_size hol)
 have hSI:s.heap.objs.size≠S:=Ne.symm (Nat.ne_of_lt (Heap.lt_size hS))
 have hS':=Heap.get?_push_of_some { cls:=.type "list_iterator",data:=.fields #[.ref l,.int 0 0] } hS
 have hkeep:∀ b o,s.heap.get? b=some o→(s.heap.push { cls:=.type "list_iterator",data:=.fields #[.ref l,.int 0 0] }).get? b=some o:=fun b o e=>Heap.get?_push_of_some _ e
 have hSz:=Heap.lt_size hS
 refine lX (l:=l) (I:=s.heap.objs.size) (z:=z) (kss:=kss) (by simp [hh]) (by simp;omega) hlt (fun e=>?_) hSI hz (Nat.le_trans hz (Nat.le_of_lt hSz)) h4 hn kss 0 _ [] 0 _ _ (by simp) (by simp) (fun j v hv=>?_) ⟨⟨_,Heap.get?_push_size _ rfl,rfl,rfl⟩,hl.push _⟩ ⟨nil_tset hS',fun j hj=>absurd hj (by simp [plL]),fun k=>by simp [plL],by simp [plL]⟩ fun h' tk B kp=>?_
 ·rw [e] at hlz;exact absurd (Nat.lt_of_lt_of_le hlz hz) (Nat.lt_irrefl _)
 ·obtain ⟨b,k,e1,e2,e3,o,i,n,e4,r⟩:=hit j v (by rw [←hv];congr 1;omega)
  exact ⟨b,k,e1,e2,e3,o,i,n,hkeep b o e4,r⟩
 ·refine wpAny_pure (wpAny_pure ?_)
  exact h h' tk B fun b o hb e=>kp b o hb (Nat.ne_of_lt (Heap.lt_size e)) (hkeep b o e)
set_option maxRecDepth 100000 in
set_option maxHeartbeats 3000000 in
theorem zm {l:Addr}{items:Array Value}{kss:List (List Int)}{Q:Value→Shared→Prop}(hh:A.handled=none)(hu:A.units+10<cLine)(h4:kss.length≤5)(hn:items.size=kss.length)(hl:s.heap.IsList l items)
  (hit:∀ (j:Nat) (v:Value),items[j]?=some v→∃ b k,v=.ref b∧kss[j]?=some k∧TK prog w s.heap k b)
  (h:∀ (h':Heap) (tk:Nat),yI h' s.heap.objs.size (ddl kss).length→(∀ b o,s.heap.get? b=some o→h'.get? b=some o)→Q (.ref s.heap.objs.size) { s with heap:=h',toks:=tk }) :
  wpAny (model prog w) A (call (.type "set") [.ref l]) Q E s:=by
 obtain ⟨c,tl,hmro⟩:=F.called_set.mro
 have hmade:=F.called_set.made
 have hsub:=F.called_set.sub
 have g1:=F.called_set.notType
 have g2:=F.called_set.canCreate
 have g3:=F.typeCall_set_1 (.ref l)
 refine wpAny_call (codeAny_of_tree ?_)
 show wpAny _ _ (callAny (.type "set") _) _ _ _
 refine wpAny_pure ⟨Code.quiet_builtin _ (by decide +kernel),codeAny_builtin F.entry_type_call ?_⟩
 rw [Around.under_plain (weight_type_call_type "set" [.ref l] []) rfl]
 repeat (any_goals (first | assumption | wp_step))
 refine codeAny_mono (code_set_new_1 (.ref l) (E:=E) (Q₁:=fun u s1=>∃ led:Bool,u=.ref s.heap.objs.size∧s1 = { s with heap:=s.heap.push (nilO led) }) fun led=>⟨led,rfl,rfl⟩) fun r s1 hr=>?_
 cases r with
 | error e=>exact hr
 | ok fl=>
  cases fl with
  | ret u=>
   obtain ⟨led,rfl,rfl⟩:=hr
   have hS:(s.heap.push (nilO led)).get? s.heap.objs.size=some (nilO led):=Heap.get?_push_size _ rfl
   have ht:Shared.TypeIs { s with heap:=s.heap.push (nilO led) } (.ref s.heap.objs.size) "set":=⟨_,hS,rfl⟩
   have b1:=F.called_set.init.lookup
   have b2:=F.called_set.init.bind (.ref s.heap.objs.size)
   repeat (any_goals (first | assumption | wp_step))
   have hk:∀ b o,s.heap.get? b=some o→(s.heap.push (nilO led)).get? b=some o:=fun b o e=>Heap.get?_push_of_some _ e
   obtain ⟨ol,hol,r1⟩:=id hl
   refine codeAny_mono (init_tup5 (E:=E) (s:={ s with heap:=s.heap.push (nilO led) }) (z:=s.heap.objs.size) (kss:=kss) (Q:=fun r s2=>r=.none∧∃ h' tk,s2 = { s with heap:=h',toks:=tk }∧yI h' s.heap.objs.size (ddl kss).length∧∀ b o,s.heap.get? b=some o→h'.get? b=some o) (by simp [hh]) (by simp;omega) h4 hn (Nat.le_refl _) hS ⟨ol,hk l ol hol,r1⟩ (Heap.lt_size hol) (fun j v hv=>?_) fun h' tk B kp=>⟨rfl,h',tk,rfl,B,fun b o e=>kp b o (Nat.ne_of_lt (Heap.lt_size e)) (hk b o e)⟩) fun r2 s2 hr2=>?_
   ·obtain ⟨b,k,e1,e2,o,i,n,e3,r⟩:=hit j v hv
    exact ⟨b,k,e1,e2,Heap.lt_size e3,o,i,n,hk b o e3,r⟩
   ·cases r2 with
    | error e=>exact hr2
    | ok f2=>
     cases f2 with
     | ret r=>
      obtain ⟨rfl,h',tk,rfl,B,kp⟩:=hr2
      repeat (any_goals (first | assumption | wp_step))
      exact h h' tk B kp
     | _=>exact hr2.elim
  | _=>exact hr.elim
end
end L2
namespace L2
open PySem PySem.Spec PyProof.Rows
section
variable {X:Cx}{K:PySem.W.Frag}
theorem zf (hc:X.calm=true)(hu:X.A.units+30<cLine):dz X (.type "set") (fun xs H Q=>∃ p ys kss,xs=[.ref p]∧SqL X.K H p ys∧TupsV X.K H ys kss∧kss.length≤5∧∀ l,H l=none→Q (.ref l) (upd H l (SetH l (ddl kss).length))):=by
 intro pins s σ H xs us Q I r h
 obtain ⟨p,ys,kss,rfl,hq,ht,h4,q⟩:=h
 obtain ⟨u,rfl,rx⟩:=vals1 r
 cases rx
 obtain ⟨its,r',pl,hz⟩:=I.list hq
 have e1:ys.length=its.length:=r'.length
 have e2:ys.length=kss.length:=Paired.length ht
 refine zm (kss:=kss) (I.ok.hd hc) (by omega) h4 (by rw [List.size_toArray];omega) pl.isList (fun j v hv=>?_) fun h' tk B kp=>?_
 ·rw [List.getElem?_toArray] at hv
  obtain ⟨x,ex,rx⟩:=vals_back r' hv
  obtain ⟨k,ek,b,rfl,hb⟩:=sZ ht ex
  cases rx
  obtain ⟨its2,r2,⟨o,ho,hcl,n,hd⟩,_⟩:=I.tuple hb
  exact ⟨b,k,rfl,ek,o,_,_,ho,hcl,hd,yh r2⟩
 ·obtain ⟨es,ep,t,ho,hf,hn⟩:=B
  exact ⟨.ref s.heap.objs.size,_,I.laid (t':=tk) kp (Nat.le_refl _) (show fB X.prog X.w _ h' _ (SetH s.heap.objs.size (ddl kss).length) from ⟨⟨es,ep,t,ho,hf,hn⟩,⟨_,ho⟩,fun h1 h2 ⟨es,ep,t,a,b,c⟩ k=>⟨es,ep,t,k _ a,b,c⟩⟩),rfl,q _ (I.hok.fresh (Nat.le_refl _))⟩
def iH:MC:=fun ws h Q=>match ws with
 | [w]=>(match cX h w with
  | some us=>(match sG us with
   | some kss=>kss.length≤5∧Q (.int (ddl kss).length) h
   | none=>False)
  | none=>False)
 | _=>False
theorem d_lenset5 {e:Expr}{ma:ME}{p1 p2 q1 q2:Pos}(hc:X.calm=true)(hu:X.A.units+30<cLine)(hgl:Gl X "len")(hml:X.mg "len" = none)(hgs:Gl X "set")(hms:X.mg "set" = none)(ha:DE X e ma)
  (s1:starEach [e] X.env=(false,eval e X.env)::starEach [] X.env) (s2:starEach [Expr.Call (.Name "set" p2) [e] [] q2] X.env=(false,eval (Expr.Call (.Name "set" p2) [e] [] q2) X.env)::starEach [] X.env) :
  DE X (.Call (.Name "len" p1) [.Call (.Name "set" p2) [e] [] q2] [] q1) (mCB iH (aq ma aO)):=
 (rJ call_lenS hgl hml PySem.boot_len (mD (tB (zf hc hu) hgs hms (by rfl) (mD ha wH s1) (by decide) (by decide) s1) wH s2) (by decide) (by decide) s2).of fun σ H Q ⟨μ,g,σw,Qw,R,S,m,q⟩=>by
  refine ⟨μ,g,σw,_,R,S,m,fun v H1 ⟨μ1,w,h1,e1,R1,r1,m1⟩=>?_⟩
  have m1:iH [w] h1 Qw:=m1
  unfold iH at m1
  dsimp only at m1
  split at m1
  ·rename_i us ev
   split at m1
   ·rename_i kss ek
    obtain ⟨p,ys,ex,hs,rs⟩:=bR R1 r1 ev
    subst ex
    refine ⟨p,ys,kss,rfl,hs,xW rs ek,m1.1,fun l hl=>?_⟩
    have hle:=fZ kss []
    refine ⟨l,(ddl kss).length,rfl,aR,?_,q _ _ ⟨μ1,.int (ddl kss).length,h1,e1.trans (Ex.laid hl).ext,R1.laid hl,by rw [Rep],m1.2⟩⟩
    have:=m1.1
    unfold ddl
    simp only [List.length_nil] at hle
    omega
   ·exact m1.elim
  ·exact m1.elim
end
end L2
namespace L2
open PySem PySem.Spec PyProof.Rows
section
variable {X:Cx}{K:PySem.W.Frag}{o e:Expr}{mo:ME}{apos cpos:Pos}
def fP:MM:=fun x ws h Q=>match x,ws with
 | .loc n,[]=>(match h.c n with
  | some (.lst us)=>Q .non (h.set n (.lst us.reverse))
  | _=>False)
 | _,_=>False
theorem aH.rev {H:Hp}{μ : Mu}:∀ {ws:List W} {xs:List V},aH K H μ ws xs→aH K H μ ws.reverse xs.reverse
 | [],xs,h=>by rw [aH] at h;subst h;exact aH.nil
 | w::ws,xs,h=>by
  rw [aH] at h
  obtain ⟨v,vs,e,r,h⟩:=h
  subst e
  rw [List.reverse_cons,List.reverse_cons]
  exact aH.append (aH.rev h) (aH.one r)
theorem s_reverse:SimM K wB fP:=by
 intro H μ h x vs wx ws Qw Q R rx rs m k
 unfold fP at m
 split at m
 ·split at m
  ·rename_i n _ us ec
   obtain ⟨p,xs,ex,hm,hx,r1⟩:=locAt R rx ec
   rw [aH] at rs
   exact ⟨p,xs,ex,rs,hx,k _ _ (.wrote R hm (aH.rev r1) (by rw [Rep]) m)⟩
  ·exact m.elim
 ·exact m.elim
theorem d_reverse (ho:DE X o mo)(hbase:attributeBase o "reverse" X.env (eval o X.env)=eval o X.env:=by rfl)(hline:(apos.endLine==cpos.line)=true:=by rfl) :
  DE X (.Call (.Attribute o "reverse" apos) [] [] cpos) (mBMr0 fP mo):=d_bm0 PySem.F.slot_list_reverse PySem.F.type_list_reverse yX s_reverse ho hbase hline
end
end L2
namespace My
set_option maxHeartbeats 4000000
open PySem L2 PyProof.Rows
def top (i:Nat):Stmt:=PySem.Challenge.pw_easelroom_k41_through_five.main.body.getD i (.Pass ⟨0,0,0,0⟩)
abbrev bZ:Stmt:=top 9
theorem dO:aL ["one", "other", "rest"] ["one", "other"] (aF bZ):=⟨rfl,rfl,rfl,by decide +kernel,rfl,by decide +kernel,by decide +kernel⟩
abbrev jk:Stmt:=top 10
theorem pJ:aL ["numbers", "found", "number"] ["numbers"] (aF jk):=⟨rfl,rfl,rfl,by decide +kernel,rfl,by decide +kernel,by decide +kernel⟩
abbrev dF:Stmt:=top 11
theorem jd:aL ["numbers", "number"] ["numbers"] (aF dF):=⟨rfl,rfl,rfl,by decide +kernel,rfl,by decide +kernel,by decide +kernel⟩
abbrev qL:Stmt:=top 12
theorem w6:aL ["numbers", "factor"] ["numbers"] (aF qL):=⟨rfl,rfl,rfl,by decide +kernel,rfl,by decide +kernel,by decide +kernel⟩
abbrev s_dot:Stmt:=top 14
theorem sc_dot:aL ["one", "other"] ["one", "other"] (aF s_dot):=⟨rfl,rfl,rfl,by decide +kernel,rfl,by decide +kernel,by decide +kernel⟩
abbrev p8:Stmt:=top 15
theorem xq:aL ["one", "other"] ["one", "other"] (aF p8):=⟨rfl,rfl,rfl,by decide +kernel,rfl,by decide +kernel,by decide +kernel⟩
abbrev wR:Stmt:=top 16
theorem sc_turn:aL ["one", "other", "third"] ["one", "other", "third"] (aF wR):=⟨rfl,rfl,rfl,by decide +kernel,rfl,by decide +kernel,by decide +kernel⟩
abbrev d9:Stmt:=top 17
theorem j4:aL ["rows", "unlike", "shared"] ["rows"] (aF d9):=⟨rfl,rfl,rfl,by decide +kernel,rfl,by decide +kernel,by decide +kernel⟩
abbrev iY:Stmt:=top 18
theorem oU:aL ["spots"] ["spots"] (aF iY):=⟨rfl,rfl,rfl,by decide +kernel,rfl,by decide +kernel,by decide +kernel⟩
abbrev lG:Stmt:=top 20
theorem rZ:aL ["many", "size", "found", "taken", "longer", "places", "first"] ["many", "size"] (aF lG):=⟨rfl,rfl,rfl,by decide +kernel,rfl,by decide +kernel,by decide +kernel⟩
abbrev lq:Stmt:=top 21
theorem uf:aL ["things", "places"] ["things", "places"] (aF lq):=⟨rfl,rfl,rfl,by decide +kernel,rfl,by decide +kernel,by decide +kernel⟩
abbrev dZ:Stmt:=top 22
theorem jR:aL ["things"] ["things"] (aF dZ):=⟨rfl,rfl,rfl,by decide +kernel,rfl,by decide +kernel,by decide +kernel⟩
abbrev cU:Stmt:=top 23
theorem gG:aL ["spots", "size"] ["spots", "size"] (aF cU):=⟨rfl,rfl,rfl,by decide +kernel,rfl,by decide +kernel,by decide +kernel⟩
abbrev iC:Stmt:=top 25
theorem pO:aL ["table"] ["table"] (aF iC):=⟨rfl,rfl,rfl,by decide +kernel,rfl,by decide +kernel,by decide +kernel⟩
abbrev iR:Stmt:=top 26
theorem pW:aL ["numbers", "rows"] ["numbers"] (aF iR):=⟨rfl,rfl,rfl,by decide +kernel,rfl,by decide +kernel,by decide +kernel⟩
abbrev gn:Stmt:=top 28
theorem m7:aL ["line", "other"] ["line", "other"] (aF gn):=⟨rfl,rfl,rfl,by decide +kernel,rfl,by decide +kernel,by decide +kernel⟩
abbrev fQ:Stmt:=top 29
theorem mU:aL ["curve"] ["curve"] (aF fQ):=⟨rfl,rfl,rfl,by decide +kernel,rfl,by decide +kernel,by decide +kernel⟩
abbrev gj:Stmt:=top 30
theorem ni:aL ["curve"] ["curve"] (aF gj):=⟨rfl,rfl,rfl,by decide +kernel,rfl,by decide +kernel,by decide +kernel⟩
abbrev q9:Stmt:=top 31
theorem wI:aL ["spots", "first", "second", "third", "last", "more", "less"] ["spots"] (aF q9):=⟨rfl,rfl,rfl,by decide +kernel,rfl,by decide +kernel,by decide +kernel⟩
abbrev iw:Stmt:=top 32
theorem oF:aL ["spots"] ["spots"] (aF iw):=⟨rfl,rfl,rfl,by decide +kernel,rfl,by decide +kernel,by decide +kernel⟩
abbrev lC:Stmt:=top 34
theorem rT:aL ["_law_script", "_law_k"] ["_law_script", "_law_k"] (aF lC):=⟨rfl,rfl,rfl,by decide +kernel,rfl,by decide +kernel,by decide +kernel⟩
abbrev jl:Stmt:=top 35
theorem pX:aL ["_law_script", "_law_k", "_law_many", "_law_left", "_law_free", "_law_seed", "_law_found", "_law_j", "_law_near"] ["_law_script", "_law_k", "_law_many"] (aF jl):=⟨rfl,rfl,rfl,by decide +kernel,rfl,by decide +kernel,by decide +kernel⟩
abbrev fW:Stmt:=top 36
theorem mY:aL ["_law_x", "_law_rest"] ["_law_x"] (aF fW):=⟨rfl,rfl,rfl,by decide +kernel,rfl,by decide +kernel,by decide +kernel⟩
abbrev dY:Stmt:=top 37
theorem j7:aL ["_law_row", "_law_by", "_law_number_here", "_law_other", "_law_rest"] ["_law_row"] (aF dY):=⟨rfl,rfl,rfl,by decide +kernel,rfl,by decide +kernel,by decide +kernel⟩
abbrev iu:Stmt:=top 38
theorem oM:aL ["_law_row", "_law_by"] ["_law_row"] (aF iu):=⟨rfl,rfl,rfl,by decide +kernel,rfl,by decide +kernel,by decide +kernel⟩
abbrev jt:Stmt:=top 39
theorem pF:aL ["_law_numbers", "_law_row"] ["_law_numbers"] (aF jt):=⟨rfl,rfl,rfl,by decide +kernel,rfl,by decide +kernel,by decide +kernel⟩
abbrev iW:Stmt:=top 40
theorem pI:aL ["_law_script", "_law_spots_here", "_law_k", "_law_x", "_law_spot", "_law_one", "_law_other", "_law_left", "_law_right", "_law_row"] ["_law_script"] (aF iW):=⟨rfl,rfl,rfl,by decide +kernel,rfl,by decide +kernel,by decide +kernel⟩
abbrev lu:Stmt:=top 41
theorem rO:aL ["_law_one", "_law_other", "_law_third", "_law_a", "_law_b", "_law_c", "_law_d", "_law_e", "_law_f", "_law_g", "_law_h", "_law_i", "_law_found"] ["_law_one", "_law_other", "_law_third"] (aF lu):=⟨rfl,rfl,rfl,by decide +kernel,rfl,by decide +kernel,by decide +kernel⟩
abbrev jh:Stmt:=top 42
theorem pD:aL ["_law_spots_here", "_law_found", "_law_k", "_law_j", "_law_i"] ["_law_spots_here"] (aF jh):=⟨rfl,rfl,rfl,by decide +kernel,rfl,by decide +kernel,by decide +kernel⟩
abbrev qy:Stmt:=top 43
theorem yq:aL ["_law_spots_here", "_law_k", "_law_lined_here", "_law_out"] ["_law_spots_here"] (aF qy):=⟨rfl,rfl,rfl,by decide +kernel,rfl,by decide +kernel,by decide +kernel⟩
abbrev eN:Stmt:=top 44
theorem j5:aL ["_law_spots_here", "_law_others", "_law_e"] ["_law_spots_here"] (aF eN):=⟨rfl,rfl,rfl,by decide +kernel,rfl,by decide +kernel,by decide +kernel⟩
abbrev kY:Stmt:=top 45
theorem uM:aL ["_law_curve", "_law_spots_here", "_law_x", "_law_y", "_law_z", "_law_squares"] ["_law_curve", "_law_spots_here"] (aF kY):=⟨rfl,rfl,rfl,by decide +kernel,rfl,by decide +kernel,by decide +kernel⟩
abbrev s_law:Stmt:=top 46
theorem sc_law:aL ["_law_script", "_law_spots_here", "_law_due_here", "_law_handed", "_law_curve", "_law_first", "_law_truth"] ["_law_script"] (aF s_law):=⟨rfl,rfl,rfl,by decide +kernel,rfl,by decide +kernel,by decide +kernel⟩
def ji (E:XWK):MS:=
  (cu (ao 0))
def eY:MSp:=mFn 2 3 false fun E=>
  (bA (bK (mCB kAbs (aq (ao 0) aO)) (nName 0))
  (bA (bK (mCB kAbs (aq (ao 1) aO)) (nName 1))
  (bA (wK (aY (mOp kNe (ao 1) (mC (.int 0)))) (bA (bK (mOp gZ (ao 0) (ao 1)) (nName 2))
  (bA (bK (ao 1) (nName 0))
  (bK (ao 2) (nName 1)))))
  (ji E))))
def bW:MSp:=eY
def nA (c_divisor_of_two:MSp)(E:XWK):MS:=
  (cu (ao 1))
def sW (c_divisor_of_two:MSp):MSp:=mFn 1 3 false fun E=>
  (bA (bK (mC (.int 0)) (nName 1))
  (bA (kW (nIt (ao 0)) (nName 2) (bK (aU c_divisor_of_two E (aq (ao 2) (aq (ao 1) aO))) (nName 1)))
  (nA c_divisor_of_two E)))
def iU:MSp:=sW bW
def gJ (E:XWK):MS:=
  (cu (mC (.bl false)))
def kE:MSp:=mFn 1 2 false fun E=>
  (bA (kW (nRev2 (aq (ao 0) aO)) (nName 1) (dX (aY (mOp kNe (ao 1) (mC (.int 0)))) (cu (mOp kLt (ao 1) (mC (.int 0)))) bN))
  (gJ E))
def dG:MSp:=kE
def tY (c_divisor c_ends_below:MSp)(E:XWK):MS:=
  (cu (mCB rQ (aq (mLC ow1 [1] (nIt (ao 0)) kh (mOp kDiv (ao 0) (ao 1))) aO)))
def t_plain_2 (c_divisor c_ends_below:MSp)(E:XWK):MS:=
  (bA (dX (mTru (aU c_ends_below EF (aq (ao 0) aO))) (bK (mUn mNeg (ao 1)) (nName 1)) bN)
  (tY c_divisor c_ends_below E))
def r_plain (c_divisor c_ends_below:MSp):MSp:=mFn 1 2 false fun E=>
  (bA (bK (aU c_divisor EF (aq (ao 0) aO)) (nName 1))
  (bA (dX (aY (mOp kEq (ao 1) (mC (.int 0)))) (tQ "Nothing" E) bN)
  (t_plain_2 c_divisor c_ends_below E)))
def nP:MSp:=r_plain iU dG
def r_dot:MSp:=mFn 2 2 false fun E=>
  (cu (mOp cJ (mOp cJ (mOp bY (mOp kIx (ao 0) (mC (.int 0))) (mOp kIx (ao 1) (mC (.int 0)))) (mOp bY (mOp kIx (ao 0) (mC (.int 1))) (mOp kIx (ao 1) (mC (.int 1))))) (mOp bY (mOp kIx (ao 0) (mC (.int 2))) (mOp kIx (ao 1) (mC (.int 2))))))
def lU:MSp:=r_dot
def vR:MSp:=mFn 2 2 false fun E=>
  (cu (ux (aq (mOp nU (mOp bY (mOp kIx (ao 0) (mC (.int 1))) (mOp kIx (ao 1) (mC (.int 2)))) (mOp bY (mOp kIx (ao 0) (mC (.int 2))) (mOp kIx (ao 1) (mC (.int 1))))) (aq (mOp nU (mOp bY (mOp kIx (ao 0) (mC (.int 2))) (mOp kIx (ao 1) (mC (.int 0)))) (mOp bY (mOp kIx (ao 0) (mC (.int 0))) (mOp kIx (ao 1) (mC (.int 2))))) (aq (mOp nU (mOp bY (mOp kIx (ao 0) (mC (.int 0))) (mOp kIx (ao 1) (mC (.int 1)))) (mOp bY (mOp kIx (ao 0) (mC (.int 1))) (mOp kIx (ao 1) (mC (.int 0))))) aO)))))
def dg:MSp:=vR
def r_turn (c_dot c_cross:MSp):MSp:=mFn 3 3 false fun E=>
  (cu (aU c_dot E (aq (aU c_cross E (aq (ao 0) (aq (ao 1) aO))) (aq (ao 2) aO))))
def xu:MSp:=r_turn lU dg
def qd (c_dot c_cross:MSp)(E:XWK):MS:=
  (bA (bK (aU c_cross E (aq (mOp kIx (ao 0) (mC (.int 0))) (aq (mOp kIx (ao 1) (mC (.int 0))) aO))) (nName 2))
  (cu (mCB kAll (aq (mLC ow1 [2] (nIt (ao 1)) kh (mOp kEq (aU c_dot E (aq (ao 1) (aq (ao 0) aO))) (mC (.int 0)))) aO))))
def mQ (c_dot c_cross:MSp):MSp:=mFn 1 3 false fun E=>
  (bA (bK (mLC ow1 [0] (nIt (ao 0)) (aY (mOp kNe (ao 0) (mOp kIx (ao 1) (mC (.int 0))))) (ao 0)) (nName 1))
  (bA (dX (mNot (mTru (ao 1))) (cu (mC (.bl true))) bN)
  (qd c_dot c_cross E)))
def d7:MSp:=mQ lU dg
def ug (c_share_one:MSp):MSp:=mFn 1 1 false fun E=>
  (cu (aU c_share_one E (aq (ao 0) aO)))
def fK:MSp:=ug d7
def oR (E:XWK):MS:=
  (cu (ao 2))
def qF:MSp:=mFn 2 7 true fun E=>
  (bA (bK (mLst (aq (ux aO) aO)) (nName 2))
  (bA (kW (gY (aq (ao 1) aO)) (nName 3) (bA (bK (sH aO) (nName 4))
  (bA (kW (nIt (ao 2)) (nName 5) (bA (bK (mIf (aY (mOp kGt (ao 3) (mC (.int 0)))) (mOp cJ (mOp kIx (ao 5) (mOp nU (ao 3) (mC (.int 1)))) (mC (.int 1))) (mC (.int 0))) (nName 6))
  (gC (u0 fJ (ao 4) (aq (mLC ow1 [5] (nRng2 (aq (ao 6) (aq (ao 0) aO))) kh (mOp cJ (ao 1) (ux (aq (ao 0) aO)))) aO)))))
  (bK (ao 4) (nName 2)))))
  (oR E)))
def lg:MSp:=qF
def rz:MSp:=mFn 2 2 false fun E=>
  (cu (mLC ow1 [0] (nIt (ao 1)) kh (mOp kIx (ao 1) (ao 0))))
def lD:MSp:=rz
def gP:MSp:=mFn 1 1 false fun E=>
  (cu (mOp kLt (mCB iH (aq (ao 0) aO)) (mCB kLen (aq (ao 0) aO))))
def eO:MSp:=gP
def eE (c_on_line c_rising c_picked:MSp):MSp:=mFn 2 2 false fun E=>
  (cu (mCB kAny (aq (mLC ow1 [0] (nIt (aU c_rising E (aq (mCB kLen (aq (ao 0) aO)) (aq (ao 1) aO)))) kh (aU c_on_line E (aq (aU c_picked E (aq (ao 1) (aq (ao 0) aO))) aO))) aO)))
def cY:MSp:=eE fK lg lD
def tX:MSp:=mFn 1 1 false fun E=>
  (cu (mLst (aq (mSl kSl2 (ao 0) (iD (mC (.int 0))) (iD (mC (.int 3)))) (aq (mSl kSl2 (ao 0) (iD (mC (.int 3))) (iD (mC (.int 6)))) (aq (mSl kSl2 (ao 0) (iD (mC (.int 6))) (iD (mC (.int 9)))) aO)))))
def iZ:MSp:=tX
def sJ (c_turn c_rows_of:MSp):MSp:=mFn 1 2 false fun E=>
  (bA (bK (aU c_rows_of E (aq (ao 0) aO)) (nName 1))
  (cu (aU c_turn E (aq (mOp kIx (ao 1) (mC (.int 0))) (aq (mOp kIx (ao 1) (mC (.int 1))) (aq (mOp kIx (ao 1) (mC (.int 2))) aO))))))
def jm:MSp:=sJ xu iZ
def jN:MSp:=mFn 2 2 false fun E=>
  (cu (ux (aq (mOp bY (mOp kIx (ao 0) (mC (.int 0))) (mOp kIx (ao 1) (mC (.int 0)))) (aq (mOp cJ (mOp bY (mOp kIx (ao 0) (mC (.int 0))) (mOp kIx (ao 1) (mC (.int 1)))) (mOp bY (mOp kIx (ao 0) (mC (.int 1))) (mOp kIx (ao 1) (mC (.int 0))))) (aq (mOp bY (mOp kIx (ao 0) (mC (.int 1))) (mOp kIx (ao 1) (mC (.int 1)))) (aq (mOp cJ (mOp bY (mOp kIx (ao 0) (mC (.int 0))) (mOp kIx (ao 1) (mC (.int 2)))) (mOp bY (mOp kIx (ao 0) (mC (.int 2))) (mOp kIx (ao 1) (mC (.int 0))))) (aq (mOp cJ (mOp bY (mOp kIx (ao 0) (mC (.int 1))) (mOp kIx (ao 1) (mC (.int 2)))) (mOp bY (mOp kIx (ao 0) (mC (.int 2))) (mOp kIx (ao 1) (mC (.int 1))))) (aq (mOp bY (mOp kIx (ao 0) (mC (.int 2))) (mOp kIx (ao 1) (mC (.int 2)))) aO))))))))
def dR:MSp:=jN
def oH:MSp:=mFn 1 1 false fun E=>
  (cu (ux (aq (mOp bY (mC (.int 2)) (mOp kIx (ao 0) (mC (.int 0)))) (aq (mOp kIx (ao 0) (mC (.int 1))) (aq (mOp kIx (ao 0) (mC (.int 3))) (aq (mOp kIx (ao 0) (mC (.int 1))) (aq (mOp bY (mC (.int 2)) (mOp kIx (ao 0) (mC (.int 2)))) (aq (mOp kIx (ao 0) (mC (.int 4))) (aq (mOp kIx (ao 0) (mC (.int 3))) (aq (mOp kIx (ao 0) (mC (.int 4))) (aq (mOp bY (mC (.int 2)) (mOp kIx (ao 0) (mC (.int 5)))) aO)))))))))))
def gw:MSp:=oH
def jH (c_size_of c_table_of:MSp):MSp:=mFn 1 1 false fun E=>
  (cu (mOp kNe (aU c_size_of E (aq (aU c_table_of E (aq (ao 0) aO)) aO)) (mC (.int 0))))
def cZ:MSp:=jH jm gw
def uV (c_dot c_cross c_together:MSp):MSp:=mFn 1 7 false fun E=>
  (bA (bK (aU c_cross E (aq (mOp kIx (ao 0) (mC (.int 0))) (aq (mOp kIx (ao 0) (mC (.int 1))) aO))) (nName 1))
  (bA (bK (aU c_cross E (aq (mOp kIx (ao 0) (mC (.int 2))) (aq (mOp kIx (ao 0) (mC (.int 3))) aO))) (nName 2))
  (bA (bK (aU c_cross E (aq (mOp kIx (ao 0) (mC (.int 0))) (aq (mOp kIx (ao 0) (mC (.int 2))) aO))) (nName 3))
  (bA (bK (aU c_cross E (aq (mOp kIx (ao 0) (mC (.int 1))) (aq (mOp kIx (ao 0) (mC (.int 3))) aO))) (nName 4))
  (bA (bK (mOp bY (aU c_dot E (aq (ao 1) (aq (mOp kIx (ao 0) (mC (.int 4))) aO))) (aU c_dot E (aq (ao 2) (aq (mOp kIx (ao 0) (mC (.int 4))) aO)))) (nName 5))
  (bA (bK (mOp bY (aU c_dot E (aq (ao 3) (aq (mOp kIx (ao 0) (mC (.int 4))) aO))) (aU c_dot E (aq (ao 4) (aq (mOp kIx (ao 0) (mC (.int 4))) aO)))) (nName 6))
  (cu (mLC (owT 2) [5,6] (nZip (aq (aU c_together E (aq (ao 3) (aq (ao 4) aO))) (aq (aU c_together E (aq (ao 1) (aq (ao 2) aO))) aO))) kh (mOp nU (mOp bY (ao 2) (ao 0)) (mOp bY (ao 3) (ao 1)))))))))))
def qj:MSp:=uV lU dg dR
def nO (c_plain c_has_alike c_has_on_line c_mixed:MSp)(E:XWK):MS:=
  (cu (aU c_plain E (aq (aU c_mixed EF (aq (ao 0) aO)) aO)))
def mR (c_plain c_has_alike c_has_on_line c_mixed:MSp)(E:XWK):MS:=
  (bA (dX (mTru (aU c_has_on_line EF (aq (ao 0) (aq (mC (.int 4)) aO)))) (tQ "FourOnLine" E) bN)
  (nO c_plain c_has_alike c_has_on_line c_mixed E))
def mH (c_plain c_has_alike c_has_on_line c_mixed:MSp):MSp:=mFn 1 1 false fun E=>
  (bA (dX (mTru (aU c_has_alike EF (aq (ao 0) aO))) (tQ "Alike" E) bN)
  (mR c_plain c_has_alike c_has_on_line c_mixed E))
def bT:MSp:=mH nP eO cY qj
def zq (E:XWK):MS:=
  (cu (mC (.int 0)))
def wL:MSp:=mFn 2 2 false fun E=>
  (bA (dX (aY (mOp kLt (ao 1) (mCB kLen (aq (ao 0) aO)))) (cu (mOp kIx (ao 0) (ao 1))) bN)
  (zq E))
def dH:MSp:=wL
def vP (c_l_cell:MSp)(E:XWK):MS:=
  (cu (ao 6))
def sE (c_l_cell:MSp):MSp:=mFn 3 9 true fun E=>
  (bA (bK (aU c_l_cell E (aq (ao 0) (aq (ao 1) aO))) (nName 3))
  (bA (bK (mOp kGt (mBits (ao 3)) (mOp bY (mC (.int 107)) (ao 2))) (nName 4))
  (bA (bK (mOp gZ (mOp cJ (mOp cJ (ao 3) (mOp bY (mC (.int 7919)) (ao 1))) (mC (.int 11))) (mC (.int 4294967291))) (nName 5))
  (bA (bK (sH aO) (nName 6))
  (bA (kW (gY (aq (ao 2) aO)) (nName 7) (dX (mTru (ao 4)) (bA (gC (u0 cj (ao 6) (aq (mOp gZ (ao 3) (mOp kPow (mC (.int 10)) (mC (.int 32)))) aO)))
  (bK (mOp kDiv (ao 3) (mOp kPow (mC (.int 10)) (mC (.int 32)))) (nName 3))) (bA (bK (mOp gZ (mOp cJ (mOp cJ (mOp bY (ao 5) (mC (.int 69069))) (mC (.int 362437))) (mOp bY (ao 7) (ao 7))) (mC (.int 4294967291))) (nName 5))
  (bA (bK (mOp gZ (mOp bY (ao 5) (mOp cJ (mOp cJ (mOp kDiv (ao 5) (mC (.int 4096))) (ao 7)) (mC (.int 1)))) (mC (.int 999999999989))) (nName 8))
  (gC (u0 cj (ao 6) (aq (mOp gZ (mOp bY (mOp bY (ao 8) (mOp cJ (ao 8) (mC (.int 7)))) (mOp cJ (ao 5) (mC (.int 1)))) (mOp kPow (mC (.int 10)) (mC (.int 32)))) aO)))))))
  (vP c_l_cell E))))))
def jj:MSp:=sE dH
def uz (E:XWK):MS:=
  (cu (mOp nU (mOp gZ (ao 1) (mOp bY (mC (.int 2)) (mOp kPow (mC (.int 10)) (mC (.int 30))))) (mOp kPow (mC (.int 10)) (mC (.int 30)))))
def sS (E:XWK):MS:=
  (bA (dX (aY (mOp kEq (mOp gZ (ao 0) (mC (.int 4))) (mC (.int 2)))) (cu (mOp nU (mOp gZ (ao 1) (mOp bY (mC (.int 2)) (mOp kPow (mC (.int 10)) (mC (.int 9))))) (mOp kPow (mC (.int 10)) (mC (.int 9))))) bN)
  (uz E))
def sX (E:XWK):MS:=
  (bA (dX (aY (mOp kEq (mOp gZ (ao 0) (mC (.int 4))) (mC (.int 1)))) (cu (mOp nU (mOp gZ (ao 1) (mC (.int 41))) (mC (.int 20)))) bN)
  (sS E))
def pG:MSp:=mFn 1 2 false fun E=>
  (bA (bK (mOp kDiv (ao 0) (mC (.int 4))) (nName 1))
  (bA (dX (aY (mOp kEq (mOp gZ (ao 0) (mC (.int 4))) (mC (.int 0)))) (cu (mOp nU (mOp gZ (ao 1) (mC (.int 5))) (mC (.int 2)))) bN)
  (sX E)))
def gq:MSp:=pG
def eF (E:XWK):MS:=
  (cu (ao 1))
def nu:MSp:=mFn 1 5 false fun E=>
  (bA (bK (mC (.int 0)) (nName 1))
  (bA (kW (nIt (ao 0)) (nName 2) (bA (bK (mCB kAbs (aq (ao 2) aO)) (nName 3))
  (wK (aY (mOp kGt (ao 3) (mC (.int 0)))) (bA (bK (mOp gZ (ao 1) (ao 3)) (nName 4))
  (bA (bK (ao 3) (nName 1))
  (bK (ao 4) (nName 3)))))))
  (eF E)))
def cG:MSp:=nu
def mj (c_l_divisor:MSp)(E:XWK):MS:=
  (cu (mCB rQ (aq (mLC ow1 [1] (nIt (ao 0)) kh (mOp kDiv (ao 0) (ao 1))) aO)))
def rY (c_l_divisor:MSp):MSp:=mFn 1 2 false fun E=>
  (bA (bK (aU c_l_divisor E (aq (ao 0) aO)) (nName 1))
  (bA (dX (aY (mOp kLt (mOp kIx (mLC ow1 [] (nIt (ao 0)) (aY (mOp kNe (ao 0) (mC (.int 0)))) (ao 0)) (mUn mNeg (mC (.int 1)))) (mC (.int 0)))) (bK (mOp nU (mC (.int 0)) (ao 1)) (nName 1)) bN)
  (mj c_l_divisor E)))
def cO:MSp:=rY cG
def gR (c_l_number c_l_plain:MSp)(E:XWK):MS:=
  (cu (aU c_l_plain E (aq (ao 1) aO)))
def lO (c_l_number c_l_plain:MSp):MSp:=mFn 1 2 true fun E=>
  (bA (bK (mLCM ow1 [] (nIt (ao 0)) kh (aU c_l_number E (aq (ao 0) aO))) (nName 1))
  (bA (dX (aY (mOp kEq (mCB kMaxA (aq (mLC ow1 [] (nIt (ao 1)) kh (mCB kAbs (aq (ao 0) aO))) aO)) (mC (.int 0)))) (bK (mC (.int 1)) (nSub (ao 1) (mUn mNeg (mC (.int 1))) sSetL)) bN)
  (gR c_l_number c_l_plain E)))
def g8:MSp:=lO gq cO
def gM (c_l_draws c_l_plain c_l_fresh:MSp)(E:XWK):MS:=
  (cu (ao 1))
def lW (c_l_draws c_l_plain c_l_fresh:MSp):MSp:=mFn 1 10 true fun E=>
  (bA (bK (sH aO) (nName 1))
  (bA (kW (gY (aq (mC (.int 5)) aO)) (nName 2) (bA (bK (aU c_l_draws E (aq (ao 0) (aq (ao 2) (aq (mC (.int 8)) aO)))) (nName 3))
  (bA (bK (aU c_l_fresh E (aq (mSl kSl2 (ao 3) (iD (mC (.int 1))) (iD (mC (.int 4)))) aO)) (nName 4))
  (bA (dX (mAnd (aY (mOp kEq (mOp gZ (mOp kIx (ao 3) (mC (.int 0))) (mC (.int 8))) (mC (.int 1)))) (aY (mOp kGt (ao 2) (mC (.int 0))))) (bK (mOp kIx (ao 1) (mOp gZ (mOp kIx (ao 3) (mC (.int 4))) (ao 2))) (nName 4)) bN)
  (bA (dX (mAnd (aY (mOp kIn (mOp gZ (mOp kIx (ao 3) (mC (.int 0))) (mC (.int 8))) (ux (aq (mC (.int 2)) (aq (mC (.int 3)) aO))))) (aY (mOp kGt (ao 2) (mC (.int 1))))) (bA (bK (mOp kIx (ao 1) (mOp gZ (mOp kIx (ao 3) (mC (.int 4))) (ao 2))) (nName 5))
  (bA (bK (mOp kIx (ao 1) (mOp gZ (mOp kIx (ao 3) (mC (.int 5))) (ao 2))) (nName 6))
  (bA (bK (mOp nU (mOp gZ (mOp kIx (ao 3) (mC (.int 6))) (mC (.int 7))) (mC (.int 3))) (nName 7))
  (bA (bK (mOp nU (mOp gZ (mOp kIx (ao 3) (mC (.int 7))) (mC (.int 7))) (mC (.int 3))) (nName 8))
  (bA (bK (mLC (owT 2) [7,8] (nZip (aq (ao 5) (aq (ao 6) aO))) kh (mOp cJ (mOp bY (ao 2) (ao 0)) (mOp bY (ao 3) (ao 1)))) (nName 9))
  (dX (aY (mOp kGt (mCB kMaxA (aq (mLC ow1 [] (nIt (ao 9)) kh (mCB kAbs (aq (ao 0) aO))) aO)) (mC (.int 0)))) (bK (aU c_l_plain E (aq (ao 9) aO)) (nName 4)) bN)))))) bN)
  (gC (u0 cj (ao 1) (aq (ao 4) aO))))))))
  (gM c_l_draws c_l_plain c_l_fresh E)))
def dJ:MSp:=lW jj cO g8
def qR:MSp:=mFn 3 13 false fun E=>
  (bA (bK (ao 0) (nY 3 (fL (nName 3) (fL (nName 4) (fL (nName 5) nNil)))))
  (bA (bK (ao 1) (nY 3 (fL (nName 6) (fL (nName 7) (fL (nName 8) nNil)))))
  (bA (bK (ao 2) (nY 3 (fL (nName 9) (fL (nName 10) (fL (nName 11) nNil)))))
  (bA (bK (mOp bY (ao 3) (mOp nU (mOp bY (ao 7) (ao 11)) (mOp bY (ao 8) (ao 10)))) (nName 12))
  (cu (mOp cJ (mOp nU (ao 12) (mOp bY (ao 4) (mOp nU (mOp bY (ao 6) (ao 11)) (mOp bY (ao 8) (ao 9))))) (mOp bY (ao 5) (mOp nU (mOp bY (ao 6) (ao 10)) (mOp bY (ao 7) (ao 9))))))))))
def lF:MSp:=qR
def lY (c_l_turn:MSp)(E:XWK):MS:=
  (cu (ao 1))
def lN (c_l_turn:MSp):MSp:=mFn 1 5 true fun E=>
  (bA (bK (sH aO) (nName 1))
  (bA (kW (gY (aq (mC (.int 5)) aO)) (nName 2) (kW (gY (aq (ao 2) aO)) (nName 3) (kW (gY (aq (ao 3) aO)) (nName 4) (dX (aY (mOp kEq (aU c_l_turn E (aq (mOp kIx (ao 0) (ao 4)) (aq (mOp kIx (ao 0) (ao 3)) (aq (mOp kIx (ao 0) (ao 2)) aO)))) (mC (.int 0)))) (gC (u0 cj (ao 1) (aq (ux (aq (ao 4) (aq (ao 3) (aq (ao 2) aO)))) aO))) bN))))
  (lY c_l_turn E)))
def cL:MSp:=lN lF
def tW (c_l_lined:MSp)(E:XWK):MS:=
  (cu (mC (.str "curve")))
def uD (c_l_lined:MSp)(E:XWK):MS:=
  (bA (bK (aU c_l_lined E (aq (ao 0) aO)) (nName 2))
  (bA (kW (gY (aq (mC (.int 5)) aO)) (nName 3) (dX (aY (mOp kEq (mCB kLen (aq (mLC ow1 [3] (nIt (ao 2)) (aY (mOp kNin (ao 1) (ao 0))) (ao 0)) aO)) (mC (.int 4)))) (cu (mC (.str "four"))) bN))
  (tW c_l_lined E)))
def uZ (c_l_lined:MSp):MSp:=mFn 1 4 false fun E=>
  (bA (kW (gY (aq (mC (.int 5)) aO)) (nName 1) (dX (aY (mOp kInD (mOp kIx (ao 0) (ao 1)) (mSl kSl2 (ao 0) jE (iD (ao 1))))) (cu (mC (.str "alike"))) bN))
  (uD c_l_lined E))
def jG:MSp:=uZ cL
def jc (c_through:MSp)(E:XWK):MS:=
  (cu (mC (.str "curve")))
def gQ (c_through:MSp):MSp:=mFn 1 3 false fun E=>
  (bA (mTry 2 "EaselError" (fun E=>(gC (aU c_through E (aq (ao 0) aO)))) (bA (bK (mLst (aq (mIsX (fun n=>(isX n "Knot")) (ao 2)) (aq (mIsX (fun n=>(isX n "NotOn")) (ao 2)) (aq (mIsX (fun n=>(isX n "ThreeOnLine")) (ao 2)) (aq (mNotV (mIsX (fun n=>true) (ao 2))) aO))))) (nName 1))
  (bA (dX (mOr (mTru (mCB kAny (aq (ao 1) aO))) (aY (mOp kEq (mIsX (fun n=>(isX n "Alike")) (ao 2)) (mIsX (fun n=>(isX n "FourOnLine")) (ao 2))))) (cu (mC (.str "other"))) bN)
  (cu (mOp kIx (mLst (aq (mC (.str "four")) (aq (mC (.str "alike")) aO))) (mCB kInt (aq (mIsX (fun n=>(isX n "Alike")) (ao 2)) aO)))))))
  (jc c_through E))
def cD:MSp:=gQ bT
def pA (c_l_divisor:MSp)(E:XWK):MS:=
  (cu (mC (.bl true)))
def jz (c_l_divisor:MSp)(E:XWK):MS:=
  (bA (kW (nIt (ao 1)) (nY 3 (fL (nName 2) (fL (nName 3) (fL (nName 4) nNil)))) (bA (bK (ux (aq (mOp bY (ao 2) (ao 2)) (aq (mOp bY (ao 2) (ao 3)) (aq (mOp bY (ao 3) (ao 3)) (aq (mOp bY (ao 2) (ao 4)) (aq (mOp bY (ao 3) (ao 4)) (aq (mOp bY (ao 4) (ao 4)) aO))))))) (nName 5))
  (dX (aY (mOp kNe (mCB kSum (aq (mLC (owT 2) [] (nZip (aq (ao 0) (aq (ao 5) aO))) kh (mOp bY (ao 0) (ao 1))) aO)) (mC (.int 0)))) (cu (mC (.bl false))) bN)))
  (pA c_l_divisor E))
def jO (c_l_divisor:MSp)(E:XWK):MS:=
  (bA (dX (mOr (aY (mOp kNe (aU c_l_divisor E (aq (ao 0) aO)) (mC (.int 1)))) (aY (mOp kLt (mOp kIx (mLC ow1 [] (nIt (ao 0)) (aY (mOp kNe (ao 0) (mC (.int 0)))) (ao 0)) (mUn mNeg (mC (.int 1)))) (mC (.int 0))))) (cu (mC (.bl false))) bN)
  (jz c_l_divisor E))
def oV (c_l_divisor:MSp)(E:XWK):MS:=
  (bA (dX (mNot (mTru (mCB kAll (aq (mLC ow1 [] (nIt (ao 0)) kh (mAndV (mCB kIsi (aq (ao 0) (aq (mC (.ty "int")) aO))) (mNotV (mCB kIsi (aq (ao 0) (aq (mC (.ty "bool")) aO)))))) aO)))) (cu (mC (.bl false))) bN)
  (jO c_l_divisor E))
def qD (c_l_divisor:MSp):MSp:=mFn 2 6 false fun E=>
  (bA (dX (mOr (mNot (mTru (mCB kIsi (aq (ao 0) (aq (mC (.ty "tuple")) aO))))) (aY (mOp kNe (mCB kLen (aq (ao 0) aO)) (mC (.int 6))))) (cu (mC (.bl false))) bN)
  (oV c_l_divisor E))
def gb:MSp:=qD cG
def rG (c_is_round c_through c_l_cell c_l_spots c_l_lined c_l_due c_l_refused c_l_goes:MSp)(E:XWK):MS:=
  (bA (bK (aU c_is_round E (aq (ao 4) aO)) (nName 6))
  (cu (mAndV (mCB kIsi (aq (ao 6) (aq (mC (.ty "bool")) aO))) (mOp kEq (ao 6) (mOp kEq (aU c_l_lined E (aq (ao 1) aO)) (mLst aO))))))
def t_law_7 (c_is_round c_through c_l_cell c_l_spots c_l_lined c_l_due c_l_refused c_l_goes:MSp)(E:XWK):MS:=
  (bA (gC (mBMr0 fP (ao 3)))
  (bA (bK (mOp gZ (aU c_l_cell E (aq (ao 0) (aq (mC (.int 5)) aO))) (mC (.int 5))) (nName 5))
  (bA (dX (mOr (aY (mOp kNe (aU c_through E (aq (ao 3) aO)) (ao 4))) (aY (mOp kNe (aU c_through E (aq (mOp cJ (mSl kSl2 (ao 1) (iD (ao 5)) jE) (mSl kSl2 (ao 1) jE (iD (ao 5)))) aO)) (ao 4)))) (cu (mC (.bl false))) bN)
  (rG c_is_round c_through c_l_cell c_l_spots c_l_lined c_l_due c_l_refused c_l_goes E))))
def t_law_4 (c_is_round c_through c_l_cell c_l_spots c_l_lined c_l_due c_l_refused c_l_goes:MSp)(E:XWK):MS:=
  (bA (bK (mCB wM (aq (ao 1) aO)) (nName 3))
  (bA (bK (aU c_through E (aq (ao 3) aO)) (nName 4))
  (bA (dX (mOr (aY (mOp kNe (ao 3) (ao 1))) (mNot (mTru (aU c_l_goes E (aq (ao 4) (aq (ao 1) aO)))))) (cu (mC (.bl false))) bN)
  (t_law_7 c_is_round c_through c_l_cell c_l_spots c_l_lined c_l_due c_l_refused c_l_goes E))))
def Aa (c_is_round c_through c_l_cell c_l_spots c_l_lined c_l_due c_l_refused c_l_goes:MSp)(E:XWK):MS:=
  (bA (dX (aY (mOp kNe (ao 2) (mC (.str "curve")))) (cu (mC (.bl true))) bN)
  (t_law_4 c_is_round c_through c_l_cell c_l_spots c_l_lined c_l_due c_l_refused c_l_goes E))
def r_law (c_is_round c_through c_l_cell c_l_spots c_l_lined c_l_due c_l_refused c_l_goes:MSp):MSp:=mFn 1 7 false fun E=>
  (bA (bK (aU c_l_spots E (aq (ao 0) aO)) (nName 1))
  (bA (bK (aU c_l_due E (aq (ao 1) aO)) (nName 2))
  (bA (dX (aY (mOp kNe (aU c_l_refused E (aq (mCB kList (aq (ao 1) aO)) aO)) (ao 2))) (cu (mC (.bl false))) bN)
  (Aa c_is_round c_through c_l_cell c_l_spots c_l_lined c_l_due c_l_refused c_l_goes E))))
def m_law:MSp:=r_law cZ bT dH dJ cL jG cD gb
structure Ad where
 f_divisor_of_two:Addr
 d_divisor_of_two:FuncData
 f_divisor:Addr
 d_divisor:FuncData
 f_ends_below:Addr
 d_ends_below:FuncData
 f_plain:Addr
 d_plain:FuncData
 f_dot:Addr
 d_dot:FuncData
 f_cross:Addr
 d_cross:FuncData
 f_turn:Addr
 d_turn:FuncData
 f_share_one:Addr
 d_share_one:FuncData
 f_on_line:Addr
 d_on_line:FuncData
 f_rising:Addr
 d_rising:FuncData
 f_picked:Addr
 d_picked:FuncData
 f_has_alike:Addr
 d_has_alike:FuncData
 f_has_on_line:Addr
 d_has_on_line:FuncData
 f_rows_of:Addr
 d_rows_of:FuncData
 f_size_of:Addr
 d_size_of:FuncData
 f_together:Addr
 d_together:FuncData
 f_table_of:Addr
 d_table_of:FuncData
 f_is_round:Addr
 d_is_round:FuncData
 f_mixed:Addr
 d_mixed:FuncData
 f_through:Addr
 d_through:FuncData
 f_l_cell:Addr
 d_l_cell:FuncData
 f_l_draws:Addr
 d_l_draws:FuncData
 f_l_number:Addr
 d_l_number:FuncData
 f_l_divisor:Addr
 d_l_divisor:FuncData
 f_l_plain:Addr
 d_l_plain:FuncData
 f_l_fresh:Addr
 d_l_fresh:FuncData
 f_l_spots:Addr
 d_l_spots:FuncData
 f_l_turn:Addr
 d_l_turn:FuncData
 f_l_lined:Addr
 d_l_lined:FuncData
 f_l_due:Addr
 d_l_due:FuncData
 f_l_refused:Addr
 d_l_refused:FuncData
 f_l_goes:Addr
 d_l_goes:FuncData
 f_law:Addr
 d_law:FuncData
 x_EaselError:Addr
 x_Nothing:Addr
 x_Alike:Addr
 x_FourOnLine:Addr
 x_ThreeOnLine:Addr
 x_Knot:Addr
 x_NotOn:Addr
structure Txt (K:PySem.W.Frag) (mg:Str→Option Value) (t:Ad):Prop where
 F_divisor_of_two:Fun K "divisor_of_two" "divisor_of_two" bZ t.f_divisor_of_two t.d_divisor_of_two
 bW:mg "divisor_of_two" = some (.ref t.f_divisor_of_two)
 b_divisor_of_two:Binds K t.d_divisor_of_two ["one", "other"] []
 F_divisor:Fun K "divisor" "divisor" jk t.f_divisor t.d_divisor
 iU:mg "divisor" = some (.ref t.f_divisor)
 b_divisor:Binds K t.d_divisor ["numbers"] []
 F_ends_below:Fun K "ends_below" "ends_below" dF t.f_ends_below t.d_ends_below
 dG:mg "ends_below" = some (.ref t.f_ends_below)
 b_ends_below:Binds K t.d_ends_below ["numbers"] []
 F_plain:Fun K "plain" "plain" qL t.f_plain t.d_plain
 nP:mg "plain" = some (.ref t.f_plain)
 b_plain:Binds K t.d_plain ["numbers"] []
 F_dot:Fun K "dot" "dot" s_dot t.f_dot t.d_dot
 lU:mg "dot" = some (.ref t.f_dot)
 b_dot:Binds K t.d_dot ["one", "other"] []
 F_cross:Fun K "cross" "cross" p8 t.f_cross t.d_cross
 dg:mg "cross" = some (.ref t.f_cross)
 b_cross:Binds K t.d_cross ["one", "other"] []
 F_turn:Fun K "turn" "turn" wR t.f_turn t.d_turn
 xu:mg "turn" = some (.ref t.f_turn)
 b_turn:Binds K t.d_turn ["one", "other", "third"] []
 F_share_one:Fun K "share_one" "share_one" d9 t.f_share_one t.d_share_one
 d7:mg "share_one" = some (.ref t.f_share_one)
 b_share_one:Binds K t.d_share_one ["rows"] []
 F_on_line:Fun K "on_line" "on_line" iY t.f_on_line t.d_on_line
 fK:mg "on_line" = some (.ref t.f_on_line)
 b_on_line:Binds K t.d_on_line ["spots"] []
 F_rising:Fun K "rising" "rising" lG t.f_rising t.d_rising
 lg:mg "rising" = some (.ref t.f_rising)
 b_rising:Binds K t.d_rising ["many", "size"] []
 F_picked:Fun K "picked" "picked" lq t.f_picked t.d_picked
 lD:mg "picked" = some (.ref t.f_picked)
 b_picked:Binds K t.d_picked ["things", "places"] []
 F_has_alike:Fun K "has_alike" "has_alike" dZ t.f_has_alike t.d_has_alike
 eO:mg "has_alike" = some (.ref t.f_has_alike)
 b_has_alike:Binds K t.d_has_alike ["things"] []
 F_has_on_line:Fun K "has_on_line" "has_on_line" cU t.f_has_on_line t.d_has_on_line
 cY:mg "has_on_line" = some (.ref t.f_has_on_line)
 b_has_on_line:Binds K t.d_has_on_line ["spots", "size"] []
 F_rows_of:Fun K "rows_of" "rows_of" iC t.f_rows_of t.d_rows_of
 iZ:mg "rows_of" = some (.ref t.f_rows_of)
 b_rows_of:Binds K t.d_rows_of ["table"] []
 F_size_of:Fun K "size_of" "size_of" iR t.f_size_of t.d_size_of
 jm:mg "size_of" = some (.ref t.f_size_of)
 b_size_of:Binds K t.d_size_of ["numbers"] []
 F_together:Fun K "together" "together" gn t.f_together t.d_together
 dR:mg "together" = some (.ref t.f_together)
 b_together:Binds K t.d_together ["line", "other"] []
 F_table_of:Fun K "table_of" "table_of" fQ t.f_table_of t.d_table_of
 gw:mg "table_of" = some (.ref t.f_table_of)
 b_table_of:Binds K t.d_table_of ["curve"] []
 F_is_round:Fun K "is_round" "is_round" gj t.f_is_round t.d_is_round
 cZ:mg "is_round" = some (.ref t.f_is_round)
 b_is_round:Binds K t.d_is_round ["curve"] []
 F_mixed:Fun K "mixed" "mixed" q9 t.f_mixed t.d_mixed
 qj:mg "mixed" = some (.ref t.f_mixed)
 b_mixed:Binds K t.d_mixed ["spots"] []
 F_through:Fun K "through" "through" iw t.f_through t.d_through
 bT:mg "through" = some (.ref t.f_through)
 b_through:Binds K t.d_through ["spots"] []
 F_l_cell:Fun K "_law_cell" "_law_cell" lC t.f_l_cell t.d_l_cell
 dH:mg "_law_cell" = some (.ref t.f_l_cell)
 b_l_cell:Binds K t.d_l_cell ["_law_script", "_law_k"] []
 F_l_draws:Fun K "_law_draws" "_law_draws" jl t.f_l_draws t.d_l_draws
 jj:mg "_law_draws" = some (.ref t.f_l_draws)
 b_l_draws:Binds K t.d_l_draws ["_law_script", "_law_k", "_law_many"] []
 F_l_number:Fun K "_law_number" "_law_number" fW t.f_l_number t.d_l_number
 gq:mg "_law_number" = some (.ref t.f_l_number)
 b_l_number:Binds K t.d_l_number ["_law_x"] []
 F_l_divisor:Fun K "_law_divisor" "_law_divisor" dY t.f_l_divisor t.d_l_divisor
 cG:mg "_law_divisor" = some (.ref t.f_l_divisor)
 b_l_divisor:Binds K t.d_l_divisor ["_law_row"] []
 F_l_plain:Fun K "_law_plain" "_law_plain" iu t.f_l_plain t.d_l_plain
 cO:mg "_law_plain" = some (.ref t.f_l_plain)
 b_l_plain:Binds K t.d_l_plain ["_law_row"] []
 F_l_fresh:Fun K "_law_fresh" "_law_fresh" jt t.f_l_fresh t.d_l_fresh
 g8:mg "_law_fresh" = some (.ref t.f_l_fresh)
 b_l_fresh:Binds K t.d_l_fresh ["_law_numbers"] []
 F_l_spots:Fun K "_law_spots" "_law_spots" iW t.f_l_spots t.d_l_spots
 dJ:mg "_law_spots" = some (.ref t.f_l_spots)
 b_l_spots:Binds K t.d_l_spots ["_law_script"] []
 F_l_turn:Fun K "_law_turn" "_law_turn" lu t.f_l_turn t.d_l_turn
 lF:mg "_law_turn" = some (.ref t.f_l_turn)
 b_l_turn:Binds K t.d_l_turn ["_law_one", "_law_other", "_law_third"] []
 F_l_lined:Fun K "_law_lined" "_law_lined" jh t.f_l_lined t.d_l_lined
 cL:mg "_law_lined" = some (.ref t.f_l_lined)
 b_l_lined:Binds K t.d_l_lined ["_law_spots_here"] []
 F_l_due:Fun K "_law_due" "_law_due" qy t.f_l_due t.d_l_due
 jG:mg "_law_due" = some (.ref t.f_l_due)
 b_l_due:Binds K t.d_l_due ["_law_spots_here"] []
 F_l_refused:Fun K "_law_refused" "_law_refused" eN t.f_l_refused t.d_l_refused
 cD:mg "_law_refused" = some (.ref t.f_l_refused)
 b_l_refused:Binds K t.d_l_refused ["_law_spots_here"] []
 F_l_goes:Fun K "_law_goes" "_law_goes" kY t.f_l_goes t.d_l_goes
 gb:mg "_law_goes" = some (.ref t.f_l_goes)
 b_l_goes:Binds K t.d_l_goes ["_law_curve", "_law_spots_here"] []
 F_law:Fun K "law" "law" s_law t.f_law t.d_law
 m_law:mg "law" = some (.ref t.f_law)
 b_law:Binds K t.d_law ["_law_script"] []
 z_ValueError:mg "ValueError" = none
 z_abs:mg "abs" = none
 z_all:mg "all" = none
 z_any:mg "any" = none
 z_bool:mg "bool" = none
 z_int:mg "int" = none
 z_isinstance:mg "isinstance" = none
 z_len:mg "len" = none
 z_list:mg "list" = none
 z_max:mg "max" = none
 z_range:mg "range" = none
 z_reversed:mg "reversed" = none
 z_set:mg "set" = none
 z_sum:mg "sum" = none
 z_tuple:mg "tuple" = none
 z_zip:mg "zip" = none
 xm_EaselError:mg "EaselError" = some (.ref t.x_EaselError)
 xd_EaselError:lV K t.x_EaselError "EaselError" = true
 xm_Nothing:mg "Nothing" = some (.ref t.x_Nothing)
 xd_Nothing:lV K t.x_Nothing "Nothing" = true
 xc_Nothing:qJ K t.x_Nothing "Nothing" = true
 xq_Nothing:PySem.W.excIn K t.x_Nothing vmB "ValueError.__new__" = true
 xm_Alike:mg "Alike" = some (.ref t.x_Alike)
 xd_Alike:lV K t.x_Alike "Alike" = true
 xc_Alike:qJ K t.x_Alike "Alike" = true
 xq_Alike:PySem.W.excIn K t.x_Alike vmB "ValueError.__new__" = true
 xm_FourOnLine:mg "FourOnLine" = some (.ref t.x_FourOnLine)
 xd_FourOnLine:lV K t.x_FourOnLine "FourOnLine" = true
 xc_FourOnLine:qJ K t.x_FourOnLine "FourOnLine" = true
 xq_FourOnLine:PySem.W.excIn K t.x_FourOnLine vmB "ValueError.__new__" = true
 xm_ThreeOnLine:mg "ThreeOnLine" = some (.ref t.x_ThreeOnLine)
 xd_ThreeOnLine:lV K t.x_ThreeOnLine "ThreeOnLine" = true
 xm_Knot:mg "Knot" = some (.ref t.x_Knot)
 xd_Knot:lV K t.x_Knot "Knot" = true
 xm_NotOn:mg "NotOn" = some (.ref t.x_NotOn)
 xd_NotOn:lV K t.x_NotOn "NotOn" = true
section
variable {P:Program}{w:World}{K:PySem.W.Frag}{mg:Str→Option Value}{base:Heap}{t:Ad}
theorem jD (T:Txt K mg t):cB P w K mg base CX0 10 t.f_divisor_of_two t.d_divisor_of_two ["one", "other"] (lift K bW):=by
 have nd:=dO.nd
 refine gW (k:=9) T.F_divisor_of_two dO fun cdv A outer s H E hr=>?_
 have hc:=hr.calm (by decide)
 refine aA ?_ ?_
 ·exact (aJ (i:=0) nd (by rfl) (by exact Or.inl rfl) (bJ c_abs (by rfl) (by exact T.z_abs) boot_abs (ak (dv 0 (pv 0)) aB (aj (by rfl))) (by decide) (by decide) (aj (by rfl)) (au (by rfl))))
 refine aA ?_ ?_
 ·exact (aJ (i:=1) nd (by rfl) (by exact Or.inl rfl) (bJ c_abs (by rfl) (by exact T.z_abs) boot_abs (ak (dv 1 (pv 1)) aB (aj (by rfl))) (by decide) (by decide) (aj (by rfl)) (au (by rfl))))
 refine aA ?_ ?_
 ·exact (yj PassesOwn.never (bD (yg (jx hr)) (dv 1 (pv 1)) aC (aW _)) (aA (aJ (i:=2) nd (by rfl) (by exact Or.inl rfl) (aV dD (dv 0 (pv 0)) (dv 1 (pv 1))))
  (aA (aJ (i:=0) nd (by rfl) (by exact Or.inl rfl) (dv 1 (pv 1)))
  (aD (aJ (i:=1) nd (by rfl) (by exact Or.inl rfl) (dv 2 (pv 2)))))))
 refine aD ?_
 exact (aN (dv 0 (pv 0)))
theorem zE (T:Txt K mg t):cB P w K mg base CX0 11 t.f_divisor t.d_divisor ["numbers"] (lift K iU):=by
 have nd:=pJ.nd
 refine gW (k:=10) T.F_divisor pJ fun cdv A outer s H E hr=>?_
 have hc:=hr.calm (by decide)
 refine aA ?_ ?_
 ·exact (aJ (i:=1) nd (by rfl) (by exact Or.inl rfl) aC)
 refine aA ?_ ?_
 ·exact (dN PassesOwn.never hc (cM (dv 0 (pv 0))) (bF (aX (i:=2) nd (by rfl) (by exact Or.inl rfl))) (aD (aJ (i:=1) nd (by rfl) (by exact Or.inl rfl) (aP ((jD T).mono (by decide)) hr (by rfl) (by exact T.bW) (by exact T.F_divisor_of_two.kp) (by exact T.b_divisor_of_two) (ak (dv 2 (pv 2)) (ak (dv 1 (pv 1)) aB (aj (by rfl))) (aj (by rfl))) (by decide) (aj (by rfl)) (au (by rfl))))))
 refine aD ?_
 exact (aN (dv 1 (pv 1)))
theorem rH (T:Txt K mg t):cB P w K mg base CX0 10 t.f_ends_below t.d_ends_below ["numbers"] (lift K dG):=by
 have nd:=jd.nd
 refine gW (k:=9) T.F_ends_below jd fun cdv A outer s H E hr=>?_
 have hc:=hr.calm (by decide)
 refine aA ?_ ?_
 ·exact (dN PassesOwn.never hc (di_rev2 (by rfl) (by exact T.z_reversed) (ak (dv 0 (pv 0)) aB (aj (by rfl))) (aj (by rfl)) (au (by rfl))) (bF (aX (i:=1) nd (by rfl) (by exact Or.inl rfl))) (aD (cQ (bD (yg (jx hr)) (dv 1 (pv 1)) aC (aW _)) (aD (aN (wj o_lt (dv 1 (pv 1)) aC (aW _)))) bB)))
 refine aD ?_
 exact (aN d_bl)
theorem Ab (T:Txt K mg t):cB P w K mg base (CXX P w) 12 t.f_plain t.d_plain ["numbers"] (uX K nP):=by
 have nd:=w6.nd
 refine d_fnX (k:=11) T.F_plain w6 fun cdv A outer s H E hr=>?_
 have hc:=hr.calm (by decide)
 refine fD (fun _=>trivial) ?_ ?_
 ·exact (dsx_of (aJ (i:=1) nd (by rfl) (by exact Or.inr rfl) (aP ((zE T).mono (by decide)) hr (by rfl) (by exact T.iU) (by exact T.F_divisor.kp) (by exact T.b_divisor) (ak (dv 0 (pv 0)) aB (aj (by rfl))) (by decide) (aj (by rfl)) (au (by rfl)))))
 refine fD (fun _=>trivial) ?_ ?_
 ·exact (dsx_if (bD (zN (jx hr)) (dv 1 (pv 1)) aC (aW _)) (fX (nG hc (by rfl) T.xm_Nothing T.xq_Nothing T.xc_Nothing)) rE)
 refine fD (fun _=>trivial) ?_ ?_
 ·exact (dsx_of (cQ (iI (aP ((rH T).mono (by decide)) hr (by rfl) (by exact T.dG) (by exact T.F_ends_below.kp) (by exact T.b_ends_below) (ak (dv 0 (pv 0)) aB (aj (by rfl))) (by decide) (aj (by rfl)) (au (by rfl)))) (aD (aJ (i:=1) nd (by rfl) (by exact Or.inr rfl) (d_neg (dv 1 (pv 1))))) bB))
 refine fX ?_
 exact (dsx_of (aN (iz c_tuple (by rfl) (by exact T.z_tuple) boot_tuple (ak (xJ [1] hc (bw (by rfl)) ju (iJ (bw (by rfl))) (cM (dv 0 (pv 0))) (fun _ _ _ _=>cF) (fun _ _ _ _=>(aV o_div (dv 0 (pv 0)) (dv 1 (pv 1))))) aB (aj (by rfl))) (by decide) (by decide) (aj (by rfl)) (au (by rfl)))))
theorem oW (T:Txt K mg t):cB P w K mg base CX0 10 t.f_dot t.d_dot ["one", "other"] (lift K lU):=by
 have nd:=sc_dot.nd
 refine gW (k:=9) T.F_dot sc_dot fun cdv A outer s H E hr=>?_
 have hc:=hr.calm (by decide)
 refine aD ?_
 exact (aN (aV cC (aV cC (aV aZ (bL (dv 0 (pv 0)) aC (by intro _ _;rfl)) (bL (dv 1 (pv 1)) aC (by intro _ _;rfl))) (aV aZ (bL (dv 0 (pv 0)) aC (by intro _ _;rfl)) (bL (dv 1 (pv 1)) aC (by intro _ _;rfl)))) (aV aZ (bL (dv 0 (pv 0)) aC (by intro _ _;rfl)) (bL (dv 1 (pv 1)) aC (by intro _ _;rfl)))))
theorem gk (T:Txt K mg t):cB P w K mg base CX0 10 t.f_cross t.d_cross ["one", "other"] (lift K dg):=by
 have nd:=xq.nd
 refine gW (k:=9) T.F_cross xq fun cdv A outer s H E hr=>?_
 have hc:=hr.calm (by decide)
 refine aD ?_
 exact (aN (qO (ak (aV gA (aV aZ (bL (dv 0 (pv 0)) aC (by intro _ _;rfl)) (bL (dv 1 (pv 1)) aC (by intro _ _;rfl))) (aV aZ (bL (dv 0 (pv 0)) aC (by intro _ _;rfl)) (bL (dv 1 (pv 1)) aC (by intro _ _;rfl)))) (ak (aV gA (aV aZ (bL (dv 0 (pv 0)) aC (by intro _ _;rfl)) (bL (dv 1 (pv 1)) aC (by intro _ _;rfl))) (aV aZ (bL (dv 0 (pv 0)) aC (by intro _ _;rfl)) (bL (dv 1 (pv 1)) aC (by intro _ _;rfl)))) (ak (aV gA (aV aZ (bL (dv 0 (pv 0)) aC (by intro _ _;rfl)) (bL (dv 1 (pv 1)) aC (by intro _ _;rfl))) (aV aZ (bL (dv 0 (pv 0)) aC (by intro _ _;rfl)) (bL (dv 1 (pv 1)) aC (by intro _ _;rfl)))) aB (aj (by rfl))) (aj (by rfl))) (aj (by rfl)))))
theorem ok_turn (T:Txt K mg t):cB P w K mg base CX0 11 t.f_turn t.d_turn ["one", "other", "third"] (lift K xu):=by
 have nd:=sc_turn.nd
 refine gW (k:=10) T.F_turn sc_turn fun cdv A outer s H E hr=>?_
 have hc:=hr.calm (by decide)
 refine aD ?_
 exact (aN (aP ((oW T).mono (by decide)) hr (by rfl) (by exact T.lU) (by exact T.F_dot.kp) (by exact T.b_dot) (ak (aP ((gk T).mono (by decide)) hr (by rfl) (by exact T.dg) (by exact T.F_cross.kp) (by exact T.b_cross) (ak (dv 0 (pv 0)) (ak (dv 1 (pv 1)) aB (aj (by rfl))) (aj (by rfl))) (by decide) (aj (by rfl)) (au (by rfl))) (ak (dv 2 (pv 2)) aB (aj (by rfl))) (aj (by rfl))) (by decide) (aj (by rfl)) (au (by rfl))))
theorem uI (T:Txt K mg t):cB P w K mg base CX0 11 t.f_share_one t.d_share_one ["rows"] (lift K d7):=by
 have nd:=j4.nd
 refine gW (k:=10) T.F_share_one j4 fun cdv A outer s H E hr=>?_
 have hc:=hr.calm (by decide)
 refine aA ?_ ?_
 ·exact (ds_lc [0] (i:=1) nd (by rfl) (by exact Or.inl rfl) hc (bw (by rfl)) ju (iJ (bw (by rfl))) (cM (dv 0 (pv 0))) (fun _ _ _ _=>(p7 (bD (yg (jx hr)) (dv 0 (pv 0)) (bL (dv 1 (pv 1)) aC (by intro _ _;rfl)) (aW _)))) (fun _ _ _ _=>(dv 0 (pv 0))))
 refine aA ?_ ?_
 ·exact (cQ (xM (iI (dv 1 (pv 1)))) (aD (aN d_bl)) bB)
 refine aA ?_ ?_
 ·exact (aJ (i:=2) nd (by rfl) (by exact Or.inr rfl) (aP ((gk T).mono (by decide)) hr (by rfl) (by exact T.dg) (by exact T.F_cross.kp) (by exact T.b_cross) (ak (bL (dv 0 (pv 0)) aC (by intro _ _;rfl)) (ak (bL (dv 1 (pv 1)) aC (by intro _ _;rfl)) aB (aj (by rfl))) (aj (by rfl))) (by decide) (aj (by rfl)) (au (by rfl))))
 refine aD ?_
 exact (aN (bJ (c_all hc) (by rfl) (by exact T.z_all) boot_all (ak (xJ [2] hc (bw (by rfl)) ju (iJ (bw (by rfl))) (cM (dv 1 (pv 1))) (fun _ _ _ _=>cF) (fun _ _ _ _=>(wj (zN (jx hr)) (aP ((oW T).mono (by decide)) hr (by rfl) (by exact T.lU) (by exact T.F_dot.kp) (by exact T.b_dot) (ak (dv 1 (pv 1)) (ak (dv 0 (pv 0)) aB (aj (by rfl))) (aj (by rfl))) (by decide) (aj (by rfl)) (au (by rfl))) aC (aW _)))) aB (aj (by rfl))) (by decide) (by decide) (aj (by rfl)) (au (by rfl))))
theorem zH (T:Txt K mg t):cB P w K mg base CX0 12 t.f_on_line t.d_on_line ["spots"] (lift K fK):=by
 have nd:=oU.nd
 refine gW (k:=11) T.F_on_line oU fun cdv A outer s H E hr=>?_
 have hc:=hr.calm (by decide)
 refine aD ?_
 exact (aN (aP ((uI T).mono (by decide)) hr (by rfl) (by exact T.d7) (by exact T.F_share_one.kp) (by exact T.b_share_one) (ak (dv 0 (pv 0)) aB (aj (by rfl))) (by decide) (aj (by rfl)) (au (by rfl))))
theorem ok_rising (T:Txt K mg t):cB P w K mg base CX0 10 t.f_rising t.d_rising ["many", "size"] (lift K lg):=by
 have nd:=rZ.nd
 refine gW (k:=9) T.F_rising rZ fun cdv A outer s H E hr=>?_
 have hc:=hr.calm (by decide)
 refine aA ?_ ?_
 ·first
  | (with_reducible exact (aJ (hs:=by with_unfolding_all rfl) (hf:=by with_unfolding_all first | exact .inl rfl | exact .inr rfl) (i:=2) (by with_unfolding_all exact nd) (by with_unfolding_all rfl) (by with_unfolding_all exact Or.inl rfl) (zB (ak (qO aB) aB (aj (by with_unfolding_all rfl))))))
  | (exact (aJ (i:=2) nd (by rfl) (by exact Or.inl rfl) (zB (ak (qO aB) aB (aj (by rfl))))))
 refine aA ?_ ?_
 ·exact (dN PassesOwn.never hc (cP (by rfl) (by exact T.z_range) (ak (dv 1 (pv 1)) aB (aj (by rfl))) (iV (by rfl))) (bF (aX (i:=3) nd (by rfl) (by exact Or.inl rfl))) (aA (aJ (i:=4) nd (by rfl) (by exact Or.inl rfl) (wU aB))
  (aA (dN PassesOwn.never hc (cM (dv 2 (pv 2))) (bF (aX (i:=5) nd (by rfl) (by exact Or.inr rfl))) (aA (aJ (i:=6) nd (by rfl) (by exact Or.inl rfl) (d_if (bD o_gt (dv 3 (pv 3)) aC (aW _)) (aV cC (bL (dv 5 (pv 5)) (aV gA (dv 3 (pv 3)) aC) (by intro _ _;rfl)) aC) aC))
  (aD (jL (d_extend (dv 4 (pv 4)) (ak (xJ [5] hc (bw (by rfl)) ju (iJ (bw (by rfl))) (di_range2 (by rfl) (by exact T.z_range) (ak (dv 6 (pv 6)) (ak (dv 0 (pv 0)) aB (aj (by rfl))) (aj (by rfl)))) (fun _ _ _ _=>cF) (fun _ _ _ _=>(aV cC (dv 1 (pv 1)) (qO (ak (dv 0 (pv 0)) aB (aj (by rfl))))))) aB (aj (by rfl))) (by rfl) (few_1 (by rfl)) (by rfl) (aj (by rfl)) (by rfl))))))
  (aD (aJ (i:=2) nd (by rfl) (by exact Or.inl rfl) (dv 4 (pv 4)))))))
 refine aD ?_
 exact (aN (dv 2 (pv 2)))
theorem ok_picked (T:Txt K mg t):cB P w K mg base CX0 10 t.f_picked t.d_picked ["things", "places"] (lift K lD):=by
 have nd:=uf.nd
 refine gW (k:=9) T.F_picked uf fun cdv A outer s H E hr=>?_
 have hc:=hr.calm (by decide)
 refine aD ?_
 exact (aN (xJ [0] hc (bw (by rfl)) ju (iJ (bw (by rfl))) (cM (dv 1 (pv 1))) (fun _ _ _ _=>cF) (fun _ _ _ _=>(bL (dv 1 (pv 1)) (dv 0 (pv 0)) (by intro _ _;rfl)))))
theorem tV (T:Txt K mg t):cB P w K mg base CX0 10 t.f_has_alike t.d_has_alike ["things"] (lift K eO):=by
 have nd:=jR.nd
 refine gW (k:=9) T.F_has_alike jR fun cdv A outer s H E hr=>?_
 have hc:=hr.calm (by decide)
 refine aD ?_
 exact (aN (wj o_lt (d_lenset5 hc (jx hr) (by rfl) (by exact T.z_len) (by rfl) (by exact T.z_set) (dv 0 (pv 0)) (aj (by rfl)) (aj (by rfl))) (bJ c_len (by rfl) (by exact T.z_len) PySem.boot_len (ak (dv 0 (pv 0)) aB (aj (by rfl))) (by decide) (by decide) (aj (by rfl)) (au (by rfl))) (aW _)))
theorem ou (T:Txt K mg t):cB P w K mg base CX0 13 t.f_has_on_line t.d_has_on_line ["spots", "size"] (lift K cY):=by
 have nd:=gG.nd
 refine gW (k:=12) T.F_has_on_line gG fun cdv A outer s H E hr=>?_
 have hc:=hr.calm (by decide)
 refine aD ?_
 exact (aN (bJ (c_any hc) (by rfl) (by exact T.z_any) boot_any (ak (xJ [0] hc (bw (by rfl)) ju (iJ (bw (by rfl))) (cM (aP ((ok_rising T).mono (by decide)) hr (by rfl) (by exact T.lg) (by exact T.F_rising.kp) (by exact T.b_rising) (ak (bJ c_len (by rfl) (by exact T.z_len) PySem.boot_len (ak (dv 0 (pv 0)) aB (aj (by rfl))) (by decide) (by decide) (aj (by rfl)) (au (by rfl))) (ak (dv 1 (pv 1)) aB (aj (by rfl))) (aj (by rfl))) (by decide) (aj (by rfl)) (au (by rfl)))) (fun _ _ _ _=>cF) (fun _ _ _ _=>(aP ((zH T).mono (by decide)) hr (by rfl) (by exact T.fK) (by exact T.F_on_line.kp) (by exact T.b_on_line) (ak (aP ((ok_picked T).mono (by decide)) hr (by rfl) (by exact T.lD) (by exact T.F_picked.kp) (by exact T.b_picked) (ak (dv 1 (pv 1)) (ak (dv 0 (pv 0)) aB (aj (by rfl))) (aj (by rfl))) (by decide) (aj (by rfl)) (au (by rfl))) aB (aj (by rfl))) (by decide) (aj (by rfl)) (au (by rfl))))) aB (aj (by rfl))) (by decide) (by decide) (aj (by rfl)) (au (by rfl))))
theorem zJ (T:Txt K mg t):cB P w K mg base CX0 10 t.f_rows_of t.d_rows_of ["table"] (lift K iZ):=by
 have nd:=pO.nd
 refine gW (k:=9) T.F_rows_of pO fun cdv A outer s H E hr=>?_
 have hc:=hr.calm (by decide)
 refine aD ?_
 exact (aN (zB (ak (vd (dv 0 (pv 0)) (dh aC) (dh aC)) (ak (vd (dv 0 (pv 0)) (dh aC) (dh aC)) (ak (vd (dv 0 (pv 0)) (dh aC) (dh aC)) aB (aj (by rfl))) (aj (by rfl))) (aj (by rfl)))))
theorem yZ (T:Txt K mg t):cB P w K mg base CX0 12 t.f_size_of t.d_size_of ["numbers"] (lift K jm):=by
 have nd:=pW.nd
 refine gW (k:=11) T.F_size_of pW fun cdv A outer s H E hr=>?_
 have hc:=hr.calm (by decide)
 refine aA ?_ ?_
 ·exact (aJ (i:=1) nd (by rfl) (by exact Or.inl rfl) (aP ((zJ T).mono (by decide)) hr (by rfl) (by exact T.iZ) (by exact T.F_rows_of.kp) (by exact T.b_rows_of) (ak (dv 0 (pv 0)) aB (aj (by rfl))) (by decide) (aj (by rfl)) (au (by rfl))))
 refine aD ?_
 exact (aN (aP ((ok_turn T).mono (by decide)) hr (by rfl) (by exact T.xu) (by exact T.F_turn.kp) (by exact T.b_turn) (ak (bL (dv 1 (pv 1)) aC (by intro _ _;rfl)) (ak (bL (dv 1 (pv 1)) aC (by intro _ _;rfl)) (ak (bL (dv 1 (pv 1)) aC (by intro _ _;rfl)) aB (aj (by rfl))) (aj (by rfl))) (aj (by rfl))) (by decide) (aj (by rfl)) (au (by rfl))))
theorem mL (T:Txt K mg t):cB P w K mg base CX0 10 t.f_together t.d_together ["line", "other"] (lift K dR):=by
 have nd:=m7.nd
 refine gW (k:=9) T.F_together m7 fun cdv A outer s H E hr=>?_
 have hc:=hr.calm (by decide)
 refine aD ?_
 exact (aN (qO (ak (aV aZ (bL (dv 0 (pv 0)) aC (by intro _ _;rfl)) (bL (dv 1 (pv 1)) aC (by intro _ _;rfl))) (ak (aV cC (aV aZ (bL (dv 0 (pv 0)) aC (by intro _ _;rfl)) (bL (dv 1 (pv 1)) aC (by intro _ _;rfl))) (aV aZ (bL (dv 0 (pv 0)) aC (by intro _ _;rfl)) (bL (dv 1 (pv 1)) aC (by intro _ _;rfl)))) (ak (aV aZ (bL (dv 0 (pv 0)) aC (by intro _ _;rfl)) (bL (dv 1 (pv 1)) aC (by intro _ _;rfl))) (ak (aV cC (aV aZ (bL (dv 0 (pv 0)) aC (by intro _ _;rfl)) (bL (dv 1 (pv 1)) aC (by intro _ _;rfl))) (aV aZ (bL (dv 0 (pv 0)) aC (by intro _ _;rfl)) (bL (dv 1 (pv 1)) aC (by intro _ _;rfl)))) (ak (aV cC (aV aZ (bL (dv 0 (pv 0)) aC (by intro _ _;rfl)) (bL (dv 1 (pv 1)) aC (by intro _ _;rfl))) (aV aZ (bL (dv 0 (pv 0)) aC (by intro _ _;rfl)) (bL (dv 1 (pv 1)) aC (by intro _ _;rfl)))) (ak (aV aZ (bL (dv 0 (pv 0)) aC (by intro _ _;rfl)) (bL (dv 1 (pv 1)) aC (by intro _ _;rfl))) aB (aj (by rfl))) (aj (by rfl))) (aj (by rfl))) (aj (by rfl))) (aj (by rfl))) (aj (by rfl)))))
theorem uU (T:Txt K mg t):cB P w K mg base CX0 10 t.f_table_of t.d_table_of ["curve"] (lift K gw):=by
 have nd:=mU.nd
 refine gW (k:=9) T.F_table_of mU fun cdv A outer s H E hr=>?_
 have hc:=hr.calm (by decide)
 refine aD ?_
 exact (aN (qO (ak (aV aZ aC (bL (dv 0 (pv 0)) aC (by intro _ _;rfl))) (ak (bL (dv 0 (pv 0)) aC (by intro _ _;rfl)) (ak (bL (dv 0 (pv 0)) aC (by intro _ _;rfl)) (ak (bL (dv 0 (pv 0)) aC (by intro _ _;rfl)) (ak (aV aZ aC (bL (dv 0 (pv 0)) aC (by intro _ _;rfl))) (ak (bL (dv 0 (pv 0)) aC (by intro _ _;rfl)) (ak (bL (dv 0 (pv 0)) aC (by intro _ _;rfl)) (ak (bL (dv 0 (pv 0)) aC (by intro _ _;rfl)) (ak (aV aZ aC (bL (dv 0 (pv 0)) aC (by intro _ _;rfl))) aB (aj (by rfl))) (aj (by rfl))) (aj (by rfl))) (aj (by rfl))) (aj (by rfl))) (aj (by rfl))) (aj (by rfl))) (aj (by rfl))) (aj (by rfl)))))
theorem vQ (T:Txt K mg t):cB P w K mg base CX0 13 t.f_is_round t.d_is_round ["curve"] (lift K cZ):=by
 have nd:=ni.nd
 refine gW (k:=12) T.F_is_round ni fun cdv A outer s H E hr=>?_
 have hc:=hr.calm (by decide)
 refine aD ?_
 exact (aN (wj (yg (jx hr)) (aP ((yZ T).mono (by decide)) hr (by rfl) (by exact T.jm) (by exact T.F_size_of.kp) (by exact T.b_size_of) (ak (aP ((uU T).mono (by decide)) hr (by rfl) (by exact T.gw) (by exact T.F_table_of.kp) (by exact T.b_table_of) (ak (dv 0 (pv 0)) aB (aj (by rfl))) (by decide) (aj (by rfl)) (au (by rfl))) aB (aj (by rfl))) (by decide) (aj (by rfl)) (au (by rfl))) aC (aW _)))
theorem ok_mixed (T:Txt K mg t):cB P w K mg base CX0 11 t.f_mixed t.d_mixed ["spots"] (lift K qj):=by
 have nd:=wI.nd
 refine gW (k:=10) T.F_mixed wI fun cdv A outer s H E hr=>?_
 have hc:=hr.calm (by decide)
 refine aA ?_ ?_
 ·exact (aJ (i:=1) nd (by rfl) (by exact Or.inl rfl) (aP ((gk T).mono (by decide)) hr (by rfl) (by exact T.dg) (by exact T.F_cross.kp) (by exact T.b_cross) (ak (bL (dv 0 (pv 0)) aC (by intro _ _;rfl)) (ak (bL (dv 0 (pv 0)) aC (by intro _ _;rfl)) aB (aj (by rfl))) (aj (by rfl))) (by decide) (aj (by rfl)) (au (by rfl))))
 refine aA ?_ ?_
 ·exact (aJ (i:=2) nd (by rfl) (by exact Or.inl rfl) (aP ((gk T).mono (by decide)) hr (by rfl) (by exact T.dg) (by exact T.F_cross.kp) (by exact T.b_cross) (ak (bL (dv 0 (pv 0)) aC (by intro _ _;rfl)) (ak (bL (dv 0 (pv 0)) aC (by intro _ _;rfl)) aB (aj (by rfl))) (aj (by rfl))) (by decide) (aj (by rfl)) (au (by rfl))))
 refine aA ?_ ?_
 ·exact (aJ (i:=3) nd (by rfl) (by exact Or.inl rfl) (aP ((gk T).mono (by decide)) hr (by rfl) (by exact T.dg) (by exact T.F_cross.kp) (by exact T.b_cross) (ak (bL (dv 0 (pv 0)) aC (by intro _ _;rfl)) (ak (bL (dv 0 (pv 0)) aC (by intro _ _;rfl)) aB (aj (by rfl))) (aj (by rfl))) (by decide) (aj (by rfl)) (au (by rfl))))
 refine aA ?_ ?_
 ·exact (aJ (i:=4) nd (by rfl) (by exact Or.inl rfl) (aP ((gk T).mono (by decide)) hr (by rfl) (by exact T.dg) (by exact T.F_cross.kp) (by exact T.b_cross) (ak (bL (dv 0 (pv 0)) aC (by intro _ _;rfl)) (ak (bL (dv 0 (pv 0)) aC (by intro _ _;rfl)) aB (aj (by rfl))) (aj (by rfl))) (by decide) (aj (by rfl)) (au (by rfl))))
 refine aA ?_ ?_
 ·exact (aJ (i:=5) nd (by rfl) (by exact Or.inr rfl) (aV aZ (aP ((oW T).mono (by decide)) hr (by rfl) (by exact T.lU) (by exact T.F_dot.kp) (by exact T.b_dot) (ak (dv 1 (pv 1)) (ak (bL (dv 0 (pv 0)) aC (by intro _ _;rfl)) aB (aj (by rfl))) (aj (by rfl))) (by decide) (aj (by rfl)) (au (by rfl))) (aP ((oW T).mono (by decide)) hr (by rfl) (by exact T.lU) (by exact T.F_dot.kp) (by exact T.b_dot) (ak (dv 2 (pv 2)) (ak (bL (dv 0 (pv 0)) aC (by intro _ _;rfl)) aB (aj (by rfl))) (aj (by rfl))) (by decide) (aj (by rfl)) (au (by rfl)))))
 refine aA ?_ ?_
 ·exact (aJ (i:=6) nd (by rfl) (by exact Or.inr rfl) (aV aZ (aP ((oW T).mono (by decide)) hr (by rfl) (by exact T.lU) (by exact T.F_dot.kp) (by exact T.b_dot) (ak (dv 3 (pv 3)) (ak (bL (dv 0 (pv 0)) aC (by intro _ _;rfl)) aB (aj (by rfl))) (aj (by rfl))) (by decide) (aj (by rfl)) (au (by rfl))) (aP ((oW T).mono (by decide)) hr (by rfl) (by exact T.lU) (by exact T.F_dot.kp) (by exact T.b_dot) (ak (dv 4 (pv 4)) (ak (bL (dv 0 (pv 0)) aC (by intro _ _;rfl)) aB (aj (by rfl))) (aj (by rfl))) (by decide) (aj (by rfl)) (au (by rfl)))))
 refine aD ?_
 exact (aN (xJ [5,6] hc (bw (by rfl)) own_T (pgo_2 hc (bw (by rfl))) (di_zip (by rfl) (by exact T.z_zip) (ak (aP ((mL T).mono (by decide)) hr (by rfl) (by exact T.dR) (by exact T.F_together.kp) (by exact T.b_together) (ak (dv 3 (pv 3)) (ak (dv 4 (pv 4)) aB (aj (by rfl))) (aj (by rfl))) (by decide) (aj (by rfl)) (au (by rfl))) (ak (aP ((mL T).mono (by decide)) hr (by rfl) (by exact T.dR) (by exact T.F_together.kp) (by exact T.b_together) (ak (dv 1 (pv 1)) (ak (dv 2 (pv 2)) aB (aj (by rfl))) (aj (by rfl))) (by decide) (aj (by rfl)) (au (by rfl))) aB (aj (by rfl))) (aj (by rfl))) (aj (by rfl)) (au (by rfl))) (fun _ _ _ _=>cF) (fun _ _ _ _=>(aV gA (aV aZ (dv 2 (pv 2)) (dv 0 (pv 0))) (aV aZ (dv 3 (pv 3)) (dv 1 (pv 1)))))))
theorem mX (T:Txt K mg t):cB P w K mg base (CXX P w) 14 t.f_through t.d_through ["spots"] (uX K bT):=by
 have nd:=oF.nd
 refine d_fnX (k:=13) T.F_through oF fun cdv A outer s H E hr=>?_
 have hc:=hr.calm (by decide)
 refine fD (fun _=>trivial) ?_ ?_
 ·exact (dsx_if (iI (aP ((tV T).mono (by decide)) hr (by rfl) (by exact T.eO) (by exact T.F_has_alike.kp) (by exact T.b_has_alike) (ak (dv 0 (pv 0)) aB (aj (by rfl))) (by decide) (aj (by rfl)) (au (by rfl)))) (fX (nG hc (by rfl) T.xm_Alike T.xq_Alike T.xc_Alike)) rE)
 refine fD (fun _=>trivial) ?_ ?_
 ·exact (dsx_if (iI (aP ((ou T).mono (by decide)) hr (by rfl) (by exact T.cY) (by exact T.F_has_on_line.kp) (by exact T.b_has_on_line) (ak (dv 0 (pv 0)) (ak aC aB (aj (by rfl))) (aj (by rfl))) (by decide) (aj (by rfl)) (au (by rfl)))) (fX (nG hc (by rfl) T.xm_FourOnLine T.xq_FourOnLine T.xc_FourOnLine)) rE)
 refine fX ?_
 exact (dsx_ret (zQ ((Ab T).mono (by decide)) hr (by rfl) (by exact T.nP) (by exact T.F_plain.kp) (by exact T.b_plain) (ak (aP ((ok_mixed T).mono (by decide)) hr (by rfl) (by exact T.qj) (by exact T.F_mixed.kp) (by exact T.b_mixed) (ak (dv 0 (pv 0)) aB (aj (by rfl))) (by decide) (aj (by rfl)) (au (by rfl))) aB (aj (by rfl))) (by decide) (aj (by rfl)) (au (by rfl))))
theorem jJ (T:Txt K mg t):cB P w K mg base CX0 14 t.f_through t.d_through ["spots"] (lift K bT):=(mX T).tame
theorem uJ (T:Txt K mg t):cB P w K mg base CX0 10 t.f_l_cell t.d_l_cell ["_law_script", "_law_k"] (lift K dH):=by
 have nd:=rT.nd
 refine gW (k:=9) T.F_l_cell rT fun cdv A outer s H E hr=>?_
 have hc:=hr.calm (by decide)
 refine aA ?_ ?_
 ·exact (cQ (bD o_lt (dv 1 (pv 1)) (bJ c_len (by rfl) (by exact T.z_len) PySem.boot_len (ak (dv 0 (pv 0)) aB (aj (by rfl))) (by decide) (by decide) (aj (by rfl)) (au (by rfl))) (aW _)) (aD (aN (bL (dv 0 (pv 0)) (dv 1 (pv 1)) (by intro _ _;rfl)))) bB)
 refine aD ?_
 exact (aN aC)
theorem yV (T:Txt K mg t):cB P w K mg base CX0 11 t.f_l_draws t.d_l_draws ["_law_script", "_law_k", "_law_many"] (lift K jj):=by
 have nd:=pX.nd
 refine gW (k:=10) T.F_l_draws pX fun cdv A outer s H E hr=>?_
 have hc:=hr.calm (by decide)
 refine aA ?_ ?_
 ·exact (aJ (i:=3) nd (by rfl) (by exact Or.inl rfl) (aP ((uJ T).mono (by decide)) hr (by rfl) (by exact T.dH) (by exact T.F_l_cell.kp) (by exact T.b_l_cell) (ak (dv 0 (pv 0)) (ak (dv 1 (pv 1)) aB (aj (by rfl))) (aj (by rfl))) (by decide) (aj (by rfl)) (au (by rfl))))
 refine aA ?_ ?_
 ·exact (aJ (i:=4) nd (by rfl) (by exact Or.inl rfl) (wj o_gt (d_bits (dv 3 (pv 3))) (aV aZ aC (dv 2 (pv 2))) (aW _)))
 refine aA ?_ ?_
 ·exact (aJ (i:=5) nd (by rfl) (by exact Or.inl rfl) (aV dD (aV cC (aV cC (dv 3 (pv 3)) (aV aZ aC (dv 1 (pv 1)))) aC) aC))
 refine aA ?_ ?_
 ·exact (aJ (i:=6) nd (by rfl) (by exact Or.inl rfl) (wU aB))
 refine aA ?_ ?_
 ·exact (dN PassesOwn.never hc (cP (by rfl) (by exact T.z_range) (ak (dv 2 (pv 2)) aB (aj (by rfl))) (iV (by rfl))) (bF (aX (i:=7) nd (by rfl) (by exact Or.inl rfl))) (aD (cQ (iI (dv 4 (pv 4))) (aA (jL (lA (dv 6 (pv 6)) (ak (aV dD (dv 3 (pv 3)) (aV vL aC aC)) aB (aj (by rfl))) (by rfl) (few_1 (by rfl)) (by rfl) (aj (by rfl)) (by rfl)))
  (aD (aJ (i:=3) nd (by rfl) (by exact Or.inl rfl) (aV o_div (dv 3 (pv 3)) (aV vL aC aC))))) (aA (aJ (i:=5) nd (by rfl) (by exact Or.inl rfl) (aV dD (aV cC (aV cC (aV aZ (dv 5 (pv 5)) aC) aC) (aV aZ (dv 7 (pv 7)) (dv 7 (pv 7)))) aC))
  (aA (aJ (i:=8) nd (by rfl) (by exact Or.inl rfl) (aV dD (aV aZ (dv 5 (pv 5)) (aV cC (aV cC (aV o_div (dv 5 (pv 5)) aC) (dv 7 (pv 7))) aC)) aC))
  (aD (jL (lA (dv 6 (pv 6)) (ak (aV dD (aV aZ (aV aZ (dv 8 (pv 8)) (aV cC (dv 8 (pv 8)) aC)) (aV cC (dv 5 (pv 5)) aC)) (aV vL aC aC)) aB (aj (by rfl))) (by rfl) (few_1 (by rfl)) (by rfl) (aj (by rfl)) (by rfl)))))))))
 refine aD ?_
 exact (aN (dv 6 (pv 6)))
theorem vN (T:Txt K mg t):cB P w K mg base CX0 10 t.f_l_number t.d_l_number ["_law_x"] (lift K gq):=by
 have nd:=mY.nd
 refine gW (k:=9) T.F_l_number mY fun cdv A outer s H E hr=>?_
 have hc:=hr.calm (by decide)
 refine aA ?_ ?_
 ·exact (aJ (i:=1) nd (by rfl) (by exact Or.inl rfl) (aV o_div (dv 0 (pv 0)) aC))
 refine aA ?_ ?_
 ·exact (cQ (bD (zN (jx hr)) (aV dD (dv 0 (pv 0)) aC) aC (aW _)) (aD (aN (aV gA (aV dD (dv 1 (pv 1)) aC) aC))) bB)
 refine aA ?_ ?_
 ·exact (cQ (bD (zN (jx hr)) (aV dD (dv 0 (pv 0)) aC) aC (aW _)) (aD (aN (aV gA (aV dD (dv 1 (pv 1)) aC) aC))) bB)
 refine aA ?_ ?_
 ·exact (cQ (bD (zN (jx hr)) (aV dD (dv 0 (pv 0)) aC) aC (aW _)) (aD (aN (aV gA (aV dD (dv 1 (pv 1)) (aV aZ aC (aV vL aC aC))) (aV vL aC aC)))) bB)
 refine aD ?_
 exact (aN (aV gA (aV dD (dv 1 (pv 1)) (aV aZ aC (aV vL aC aC))) (aV vL aC aC)))
theorem j8 (T:Txt K mg t):cB P w K mg base CX0 10 t.f_l_divisor t.d_l_divisor ["_law_row"] (lift K cG):=by
 have nd:=j7.nd
 refine gW (k:=9) T.F_l_divisor j7 fun cdv A outer s H E hr=>?_
 have hc:=hr.calm (by decide)
 refine aA ?_ ?_
 ·exact (aJ (i:=1) nd (by rfl) (by exact Or.inl rfl) aC)
 refine aA ?_ ?_
 ·exact (dN PassesOwn.never hc (cM (dv 0 (pv 0))) (bF (aX (i:=2) nd (by rfl) (by exact Or.inl rfl))) (aA (aJ (i:=3) nd (by rfl) (by exact Or.inl rfl) (bJ c_abs (by rfl) (by exact T.z_abs) boot_abs (ak (dv 2 (pv 2)) aB (aj (by rfl))) (by decide) (by decide) (aj (by rfl)) (au (by rfl))))
  (aD (yj PassesOwn.never (bD o_gt (dv 3 (pv 3)) aC (aW _)) (aA (aJ (i:=4) nd (by rfl) (by exact Or.inl rfl) (aV dD (dv 1 (pv 1)) (dv 3 (pv 3))))
  (aA (aJ (i:=1) nd (by rfl) (by exact Or.inl rfl) (dv 3 (pv 3)))
  (aD (aJ (i:=3) nd (by rfl) (by exact Or.inl rfl) (dv 4 (pv 4))))))))))
 refine aD ?_
 exact (aN (dv 1 (pv 1)))
theorem pB (T:Txt K mg t):cB P w K mg base CX0 11 t.f_l_plain t.d_l_plain ["_law_row"] (lift K cO):=by
 have nd:=oM.nd
 refine gW (k:=10) T.F_l_plain oM fun cdv A outer s H E hr=>?_
 have hc:=hr.calm (by decide)
 refine aA ?_ ?_
 ·exact (aJ (i:=1) nd (by rfl) (by exact Or.inr rfl) (aP ((j8 T).mono (by decide)) hr (by rfl) (by exact T.cG) (by exact T.F_l_divisor.kp) (by exact T.b_l_divisor) (ak (dv 0 (pv 0)) aB (aj (by rfl))) (by decide) (aj (by rfl)) (au (by rfl))))
 refine aA ?_ ?_
 ·exact (cQ (bD o_lt (bL (xJ [] hc (bw (by rfl)) ju (iJ (bw (by rfl))) (cM (dv 0 (pv 0))) (fun _ _ _ _=>(p7 (bD (yg (jx hr)) (dv 0 (pv 0)) aC (aW _)))) (fun _ _ _ _=>(dv 0 (pv 0)))) (d_neg aC) (by intro _ _;rfl)) aC (aW _)) (aD (aJ (i:=1) nd (by rfl) (by exact Or.inr rfl) (aV gA aC (dv 1 (pv 1))))) bB)
 refine aD ?_
 exact (aN (iz c_tuple (by rfl) (by exact T.z_tuple) boot_tuple (ak (xJ [1] hc (bw (by rfl)) ju (iJ (bw (by rfl))) (cM (dv 0 (pv 0))) (fun _ _ _ _=>cF) (fun _ _ _ _=>(aV o_div (dv 0 (pv 0)) (dv 1 (pv 1))))) aB (aj (by rfl))) (by decide) (by decide) (aj (by rfl)) (au (by rfl))))
theorem zF (T:Txt K mg t):cB P w K mg base CX0 12 t.f_l_fresh t.d_l_fresh ["_law_numbers"] (lift K g8):=by
 have nd:=pF.nd
 refine gW (k:=11) T.F_l_fresh pF fun cdv A outer s H E hr=>?_
 have hc:=hr.calm (by decide)
 refine aA ?_ ?_
 ·exact (ds_lcM [] (i:=1) nd (by rfl) (by exact Or.inl rfl) hc (bw (by rfl)) ju (iJ (bw (by rfl))) (cM (dv 0 (pv 0))) (fun _ _ _ _=>cF) (fun _ _ _ _=>(aP ((vN T).mono (by decide)) hr (by rfl) (by exact T.gq) (by exact T.F_l_number.kp) (by exact T.b_l_number) (ak (dv 0 (pv 0)) aB (aj (by rfl))) (by decide) (aj (by rfl)) (au (by rfl)))))
 refine aA ?_ ?_
 ·exact (cQ (bD (zN (jx hr)) (bJ (c_maxA hc) (by rfl) (by exact T.z_max) boot_max (ak (xJ [] hc (bw (by rfl)) ju (iJ (bw (by rfl))) (cM (dv 1 (pv 1))) (fun _ _ _ _=>cF) (fun _ _ _ _=>(bJ c_abs (by rfl) (by exact T.z_abs) boot_abs (ak (dv 0 (pv 0)) aB (aj (by rfl))) (by decide) (by decide) (aj (by rfl)) (au (by rfl))))) aB (aj (by rfl))) (by decide) (by decide) (aj (by rfl)) (au (by rfl))) aC (aW _)) (aD (yC aC (dg_sub (dv 1 (pv 1)) (d_neg aC) set_list sim_setL))) bB)
 refine aD ?_
 exact (aN (aP ((pB T).mono (by decide)) hr (by rfl) (by exact T.cO) (by exact T.F_l_plain.kp) (by exact T.b_l_plain) (ak (dv 1 (pv 1)) aB (aj (by rfl))) (by decide) (aj (by rfl)) (au (by rfl))))
theorem zL (T:Txt K mg t):cB P w K mg base CX0 13 t.f_l_spots t.d_l_spots ["_law_script"] (lift K dJ):=by
 have nd:=pI.nd
 refine gW (k:=12) T.F_l_spots pI fun cdv A outer s H E hr=>?_
 have hc:=hr.calm (by decide)
 refine aA ?_ ?_
 ·exact (aJ (i:=1) nd (by rfl) (by exact Or.inl rfl) (wU aB))
 refine aA ?_ ?_
 ·exact (dN PassesOwn.never hc (cP (by rfl) (by exact T.z_range) (ak aC aB (aj (by rfl))) (iV (by rfl))) (bF (aX (i:=2) nd (by rfl) (by exact Or.inl rfl))) (aA (aJ (i:=3) nd (by rfl) (by exact Or.inl rfl) (aP ((yV T).mono (by decide)) hr (by rfl) (by exact T.jj) (by exact T.F_l_draws.kp) (by exact T.b_l_draws) (ak (dv 0 (pv 0)) (ak (dv 2 (pv 2)) (ak aC aB (aj (by rfl))) (aj (by rfl))) (aj (by rfl))) (by decide) (aj (by rfl)) (au (by rfl))))
  (aA (aJ (i:=4) nd (by rfl) (by exact Or.inl rfl) (aP ((zF T).mono (by decide)) hr (by rfl) (by exact T.g8) (by exact T.F_l_fresh.kp) (by exact T.b_l_fresh) (ak (vd (dv 3 (pv 3)) (dh aC) (dh aC)) aB (aj (by rfl))) (by decide) (aj (by rfl)) (au (by rfl))))
  (aA (cQ (dw_and (bD (zN (jx hr)) (aV dD (bL (dv 3 (pv 3)) aC (by intro _ _;rfl)) aC) aC (aW _)) (dw_and1 (bD o_gt (dv 2 (pv 2)) aC (aW _)))).pt (aD (aJ (i:=4) nd (by rfl) (by exact Or.inl rfl) (bL (dv 1 (pv 1)) (aV dD (bL (dv 3 (pv 3)) aC (by intro _ _;rfl)) (dv 2 (pv 2))) (by intro _ _;rfl)))) bB)
  (aA (cQ (dw_and (bD o_in (aV dD (bL (dv 3 (pv 3)) aC (by intro _ _;rfl)) aC) (qO (ak aC (ak aC aB (aj (by rfl))) (aj (by rfl)))) (by with_unfolding_all rfl)) (dw_and1 (bD o_gt (dv 2 (pv 2)) aC (aW _)))).pt (aA (aJ (i:=5) nd (by rfl) (by exact Or.inl rfl) (bL (dv 1 (pv 1)) (aV dD (bL (dv 3 (pv 3)) aC (by intro _ _;rfl)) (dv 2 (pv 2))) (by intro _ _;rfl)))
  (aA (aJ (i:=6) nd (by rfl) (by exact Or.inl rfl) (bL (dv 1 (pv 1)) (aV dD (bL (dv 3 (pv 3)) aC (by intro _ _;rfl)) (dv 2 (pv 2))) (by intro _ _;rfl)))
  (aA (aJ (i:=7) nd (by rfl) (by exact Or.inr rfl) (aV gA (aV dD (bL (dv 3 (pv 3)) aC (by intro _ _;rfl)) aC) aC))
  (aA (aJ (i:=8) nd (by rfl) (by exact Or.inr rfl) (aV gA (aV dD (bL (dv 3 (pv 3)) aC (by intro _ _;rfl)) aC) aC))
  (aA (ds_lc [7,8] (i:=9) nd (by rfl) (by exact Or.inl rfl) hc (bw (by rfl)) own_T (pgo_2 hc (bw (by rfl))) (di_zip (by rfl) (by exact T.z_zip) (ak (dv 5 (pv 5)) (ak (dv 6 (pv 6)) aB (aj (by rfl))) (aj (by rfl))) (aj (by rfl)) (au (by rfl))) (fun _ _ _ _=>cF) (fun _ _ _ _=>(aV cC (aV aZ (dv 2 (pv 2)) (dv 0 (pv 0))) (aV aZ (dv 3 (pv 3)) (dv 1 (pv 1))))))
  (aD (cQ (bD o_gt (bJ (c_maxA hc) (by rfl) (by exact T.z_max) boot_max (ak (xJ [] hc (bw (by rfl)) ju (iJ (bw (by rfl))) (cM (dv 9 (pv 9))) (fun _ _ _ _=>cF) (fun _ _ _ _=>(bJ c_abs (by rfl) (by exact T.z_abs) boot_abs (ak (dv 0 (pv 0)) aB (aj (by rfl))) (by decide) (by decide) (aj (by rfl)) (au (by rfl))))) aB (aj (by rfl))) (by decide) (by decide) (aj (by rfl)) (au (by rfl))) aC (aW _)) (aD (aJ (i:=4) nd (by rfl) (by exact Or.inl rfl) (aP ((pB T).mono (by decide)) hr (by rfl) (by exact T.cO) (by exact T.F_l_plain.kp) (by exact T.b_l_plain) (ak (dv 9 (pv 9)) aB (aj (by rfl))) (by decide) (aj (by rfl)) (au (by rfl))))) bB))))))) bB)
  (aD (jL (lA (dv 1 (pv 1)) (ak (dv 4 (pv 4)) aB (aj (by rfl))) (by rfl) (few_1 (by rfl)) (by rfl) (aj (by rfl)) (by rfl)))))))))
 refine aD ?_
 exact (aN (dv 1 (pv 1)))
theorem ok_l_turn (T:Txt K mg t):cB P w K mg base CX0 10 t.f_l_turn t.d_l_turn ["_law_one", "_law_other", "_law_third"] (lift K lF):=by
 have nd:=rO.nd
 refine gW (k:=9) T.F_l_turn rO fun cdv A outer s H E hr=>?_
 have hc:=hr.calm (by decide)
 refine aA ?_ ?_
 ·exact (yC (dv 0 (pv 0)) (qY hc (bV (bF (aX (i:=3) nd (by rfl) (by exact Or.inl rfl))) (bV (bF (aX (i:=4) nd (by rfl) (by exact Or.inl rfl))) (bV (bF (aX (i:=5) nd (by rfl) (by exact Or.inl rfl))) qQ)))))
 refine aA ?_ ?_
 ·exact (yC (dv 1 (pv 1)) (qY hc (bV (bF (aX (i:=6) nd (by rfl) (by exact Or.inl rfl))) (bV (bF (aX (i:=7) nd (by rfl) (by exact Or.inl rfl))) (bV (bF (aX (i:=8) nd (by rfl) (by exact Or.inl rfl))) qQ)))))
 refine aA ?_ ?_
 ·exact (yC (dv 2 (pv 2)) (qY hc (bV (bF (aX (i:=9) nd (by rfl) (by exact Or.inl rfl))) (bV (bF (aX (i:=10) nd (by rfl) (by exact Or.inl rfl))) (bV (bF (aX (i:=11) nd (by rfl) (by exact Or.inl rfl))) qQ)))))
 refine aA ?_ ?_
 ·exact (aJ (i:=12) nd (by rfl) (by exact Or.inl rfl) (aV aZ (dv 3 (pv 3)) (aV gA (aV aZ (dv 7 (pv 7)) (dv 11 (pv 11))) (aV aZ (dv 8 (pv 8)) (dv 10 (pv 10))))))
 refine aD ?_
 exact (aN (aV cC (aV gA (dv 12 (pv 12)) (aV aZ (dv 4 (pv 4)) (aV gA (aV aZ (dv 6 (pv 6)) (dv 11 (pv 11))) (aV aZ (dv 8 (pv 8)) (dv 9 (pv 9)))))) (aV aZ (dv 5 (pv 5)) (aV gA (aV aZ (dv 6 (pv 6)) (dv 10 (pv 10))) (aV aZ (dv 7 (pv 7)) (dv 9 (pv 9)))))))
theorem oN (T:Txt K mg t):cB P w K mg base CX0 11 t.f_l_lined t.d_l_lined ["_law_spots_here"] (lift K cL):=by
 have nd:=pD.nd
 refine gW (k:=10) T.F_l_lined pD fun cdv A outer s H E hr=>?_
 have hc:=hr.calm (by decide)
 refine aA ?_ ?_
 ·exact (aJ (i:=1) nd (by rfl) (by exact Or.inl rfl) (wU aB))
 refine aA ?_ ?_
 ·exact (dN PassesOwn.never hc (cP (by rfl) (by exact T.z_range) (ak aC aB (aj (by rfl))) (iV (by rfl))) (bF (aX (i:=2) nd (by rfl) (by exact Or.inl rfl))) (aD (dN PassesOwn.never hc (cP (by rfl) (by exact T.z_range) (ak (dv 2 (pv 2)) aB (aj (by rfl))) (iV (by rfl))) (bF (aX (i:=3) nd (by rfl) (by exact Or.inl rfl))) (aD (dN PassesOwn.never hc (cP (by rfl) (by exact T.z_range) (ak (dv 3 (pv 3)) aB (aj (by rfl))) (iV (by rfl))) (bF (aX (i:=4) nd (by rfl) (by exact Or.inl rfl))) (aD (cQ (bD (zN (jx hr)) (aP ((ok_l_turn T).mono (by decide)) hr (by rfl) (by exact T.lF) (by exact T.F_l_turn.kp) (by exact T.b_l_turn) (ak (bL (dv 0 (pv 0)) (dv 4 (pv 4)) (by intro _ _;rfl)) (ak (bL (dv 0 (pv 0)) (dv 3 (pv 3)) (by intro _ _;rfl)) (ak (bL (dv 0 (pv 0)) (dv 2 (pv 2)) (by intro _ _;rfl)) aB (aj (by rfl))) (aj (by rfl))) (aj (by rfl))) (by decide) (aj (by rfl)) (au (by rfl))) aC (aW _)) (aD (jL (lA (dv 1 (pv 1)) (ak (qO (ak (dv 4 (pv 4)) (ak (dv 3 (pv 3)) (ak (dv 2 (pv 2)) aB (aj (by rfl))) (aj (by rfl))) (aj (by rfl)))) aB (aj (by rfl))) (by rfl) (few_1 (by rfl)) (by rfl) (aj (by rfl)) (by rfl)))) bB)))))))
 refine aD ?_
 exact (aN (dv 1 (pv 1)))
theorem ok_l_due (T:Txt K mg t):cB P w K mg base CX0 12 t.f_l_due t.d_l_due ["_law_spots_here"] (lift K jG):=by
 have nd:=yq.nd
 refine gW (k:=11) T.F_l_due yq fun cdv A outer s H E hr=>?_
 have hc:=hr.calm (by decide)
 refine aA ?_ ?_
 ·exact (dN PassesOwn.never hc (cP (by rfl) (by exact T.z_range) (ak aC aB (aj (by rfl))) (iV (by rfl))) (bF (aX (i:=1) nd (by rfl) (by exact Or.inl rfl))) (aD (cQ (bD (o_inD (jx hr)) (bL (dv 0 (pv 0)) (dv 1 (pv 1)) (by intro _ _;rfl)) (vd (dv 0 (pv 0)) vA (dh (dv 1 (pv 1)))) (by with_unfolding_all rfl)) (aD (aN pY)) bB)))
 refine aA ?_ ?_
 ·exact (aJ (i:=2) nd (by rfl) (by exact Or.inl rfl) (aP ((oN T).mono (by decide)) hr (by rfl) (by exact T.cL) (by exact T.F_l_lined.kp) (by exact T.b_l_lined) (ak (dv 0 (pv 0)) aB (aj (by rfl))) (by decide) (aj (by rfl)) (au (by rfl))))
 refine aA ?_ ?_
 ·exact (dN PassesOwn.never hc (cP (by rfl) (by exact T.z_range) (ak aC aB (aj (by rfl))) (iV (by rfl))) (bF (aX (i:=3) nd (by rfl) (by exact Or.inr rfl))) (aD (cQ (bD (zN (jx hr)) (bJ c_len (by rfl) (by exact T.z_len) PySem.boot_len (ak (xJ [3] hc (bw (by rfl)) ju (iJ (bw (by rfl))) (cM (dv 2 (pv 2))) (fun _ _ _ _=>(p7 (bD o_nin (dv 1 (pv 1)) (dv 0 (pv 0)) (by with_unfolding_all rfl)))) (fun _ _ _ _=>(dv 0 (pv 0)))) aB (aj (by rfl))) (by decide) (by decide) (aj (by rfl)) (au (by rfl))) aC (aW _)) (aD (aN pY)) bB)))
 refine aD ?_
 exact (aN pY)
theorem uF (T:Txt K mg t):cB P w K mg base CX0 15 t.f_l_refused t.d_l_refused ["_law_spots_here"] (lift K cD):=by
 have nd:=j5.nd
 refine gW (k:=14) T.F_l_refused j5 fun cdv A outer s H E hr=>?_
 have hc:=hr.calm (by decide)
 refine aA ?_ ?_
 ·exact (ds_try (i:=2) nd (by rfl) (by rfl) (by rfl) T.xm_EaselError T.xd_EaselError ⟨rfl,rfl⟩ rfl (fun pins xe σ0=>(fX (dsx_expr (zQ ((mX T).mono (by decide)) hr (by rfl) (by exact T.bT) (by exact T.F_through.kp) (by exact T.b_through) (ak (dv 0 (pv 0)) aB (aj (by rfl))) (by decide) (aj (by rfl)) (au (by rfl)))))) (fun a o u=>by
  have hr:=room_hnd (a:=a) hr (by decide)
  exact (aA (aJ (i:=1) nd (by rfl) (by exact Or.inl rfl) (zB (ak (mZ (by rfl) (by exact T.z_isinstance) (dv 2 (pv 2)) (jM (v:=.ref t.x_Knot) (by rfl) T.xm_Knot (by rfl)) (yw.own T.xd_Knot) (aj (by rfl)) (aj (by rfl)) (au (by rfl))) (ak (mZ (by rfl) (by exact T.z_isinstance) (dv 2 (pv 2)) (jM (v:=.ref t.x_NotOn) (by rfl) T.xm_NotOn (by rfl)) (yw.own T.xd_NotOn) (aj (by rfl)) (aj (by rfl)) (au (by rfl))) (ak (mZ (by rfl) (by exact T.z_isinstance) (dv 2 (pv 2)) (jM (v:=.ref t.x_ThreeOnLine) (by rfl) T.xm_ThreeOnLine (by rfl)) (yw.own T.xd_ThreeOnLine) (aj (by rfl)) (aj (by rfl)) (au (by rfl))) (ak (d_not (mZ (by rfl) (by exact T.z_isinstance) (dv 2 (pv 2)) (nJ (v:=.ty "ValueError") (by rfl) (by exact T.z_ValueError) PyProof.Rows.Boot.«ValueError» (by rfl)) yw.val (aj (by rfl)) (aj (by rfl)) (au (by rfl)))) aB (aj (by rfl))) (aj (by rfl))) (aj (by rfl))) (aj (by rfl)))))
  (aA (cQ (dw_or (iI (bJ c_anyQ (by rfl) (by exact T.z_any) boot_any (ak (dv 1 (pv 1)) aB (aj (by rfl))) (by decide) (by decide) (aj (by rfl)) (au (by rfl)))) (tM (bD (zN (jx hr)) (mZ (by rfl) (by exact T.z_isinstance) (dv 2 (pv 2)) (jM (v:=.ref t.x_Alike) (by rfl) T.xm_Alike (by rfl)) (yw.own T.xd_Alike) (aj (by rfl)) (aj (by rfl)) (au (by rfl))) (mZ (by rfl) (by exact T.z_isinstance) (dv 2 (pv 2)) (jM (v:=.ref t.x_FourOnLine) (by rfl) T.xm_FourOnLine (by rfl)) (yw.own T.xd_FourOnLine) (aj (by rfl)) (aj (by rfl)) (au (by rfl))) (aW _)))).pt (aD (aN pY)) bB)
  (aD (aN (bL (zB (ak pY (ak pY aB (aj (by rfl))) (aj (by rfl)))) (iz c_int (by rfl) (by exact T.z_int) boot_int (ak (mZ (by rfl) (by exact T.z_isinstance) (dv 2 (pv 2)) (jM (v:=.ref t.x_Alike) (by rfl) T.xm_Alike (by rfl)) (yw.own T.xd_Alike) (aj (by rfl)) (aj (by rfl)) (au (by rfl))) aB (aj (by rfl))) (by decide) (by decide) (aj (by rfl)) (au (by rfl))) (by intro _ _;rfl))))))))
 refine aD ?_
 exact (aN pY)
theorem ok_l_goes (T:Txt K mg t):cB P w K mg base CX0 11 t.f_l_goes t.d_l_goes ["_law_curve", "_law_spots_here"] (lift K gb):=by
 have nd:=uM.nd
 refine gW (k:=10) T.F_l_goes uM fun cdv A outer s H E hr=>?_
 have hc:=hr.calm (by decide)
 refine aA ?_ ?_
 ·exact (cQ (dw_or (xM (iI (bJ c_isi (by rfl) (by exact T.z_isinstance) boot_isinstance (ak (dv 0 (pv 0)) (ak (dc (nJ (v:=.ty "tuple") (by rfl) (by exact T.z_tuple) boot_tuple (by rfl)) (fun _ _=>by rw [Rep])) aB (aj (by rfl))) (aj (by rfl))) (by decide) (by decide) (aj (by rfl)) (au (by rfl))))) (tM (bD (yg (jx hr)) (bJ c_len (by rfl) (by exact T.z_len) PySem.boot_len (ak (dv 0 (pv 0)) aB (aj (by rfl))) (by decide) (by decide) (aj (by rfl)) (au (by rfl))) aC (aW _)))).pt (aD (aN d_bl)) bB)
 refine aA ?_ ?_
 ·exact (cQ (xM (iI (bJ (c_all hc) (by rfl) (by exact T.z_all) boot_all (ak (xJ [] hc (bw (by rfl)) ju (iJ (bw (by rfl))) (cM (dv 0 (pv 0))) (fun _ _ _ _=>cF) (fun _ _ _ _=>(d_and (bJ c_isi (by rfl) (by exact T.z_isinstance) boot_isinstance (ak (dv 0 (pv 0)) (ak (dc (nJ (v:=.ty "int") (by rfl) (by exact T.z_int) boot_int (by rfl)) (fun _ _=>by rw [Rep])) aB (aj (by rfl))) (aj (by rfl))) (by decide) (by decide) (aj (by rfl)) (au (by rfl))) (d_one (d_not (bJ c_isi (by rfl) (by exact T.z_isinstance) boot_isinstance (ak (dv 0 (pv 0)) (ak (dc (nJ (v:=.ty "bool") (by rfl) (by exact T.z_bool) boot_bool (by rfl)) (fun _ _=>by rw [Rep])) aB (aj (by rfl))) (aj (by rfl))) (by decide) (by decide) (aj (by rfl)) (au (by rfl)))))))) aB (aj (by rfl))) (by decide) (by decide) (aj (by rfl)) (au (by rfl))))) (aD (aN d_bl)) bB)
 refine aA ?_ ?_
 ·exact (cQ (dw_or (bD (yg (jx hr)) (aP ((j8 T).mono (by decide)) hr (by rfl) (by exact T.cG) (by exact T.F_l_divisor.kp) (by exact T.b_l_divisor) (ak (dv 0 (pv 0)) aB (aj (by rfl))) (by decide) (aj (by rfl)) (au (by rfl))) aC (aW _)) (tM (bD o_lt (bL (xJ [] hc (bw (by rfl)) ju (iJ (bw (by rfl))) (cM (dv 0 (pv 0))) (fun _ _ _ _=>(p7 (bD (yg (jx hr)) (dv 0 (pv 0)) aC (aW _)))) (fun _ _ _ _=>(dv 0 (pv 0)))) (d_neg aC) (by intro _ _;rfl)) aC (aW _)))).pt (aD (aN d_bl)) bB)
 refine aA ?_ ?_
 ·exact (dN PassesOwn.never hc (cM (dv 1 (pv 1))) (qY hc (bV (bF (aX (i:=2) nd (by rfl) (by exact Or.inl rfl))) (bV (bF (aX (i:=3) nd (by rfl) (by exact Or.inl rfl))) (bV (bF (aX (i:=4) nd (by rfl) (by exact Or.inl rfl))) qQ)))) (aA (aJ (i:=5) nd (by rfl) (by exact Or.inl rfl) (qO (ak (aV aZ (dv 2 (pv 2)) (dv 2 (pv 2))) (ak (aV aZ (dv 2 (pv 2)) (dv 3 (pv 3))) (ak (aV aZ (dv 3 (pv 3)) (dv 3 (pv 3))) (ak (aV aZ (dv 2 (pv 2)) (dv 4 (pv 4))) (ak (aV aZ (dv 3 (pv 3)) (dv 4 (pv 4))) (ak (aV aZ (dv 4 (pv 4)) (dv 4 (pv 4))) aB (aj (by rfl))) (aj (by rfl))) (aj (by rfl))) (aj (by rfl))) (aj (by rfl))) (aj (by rfl)))))
  (aD (cQ (bD (yg (jx hr)) (bJ (c_sum hc) (by rfl) (by exact T.z_sum) boot_sum (ak (xJ [] hc (bw (by rfl)) own_T (pgo_2 hc (bw (by rfl))) (di_zip (by rfl) (by exact T.z_zip) (ak (dv 0 (pv 0)) (ak (dv 5 (pv 5)) aB (aj (by rfl))) (aj (by rfl))) (aj (by rfl)) (au (by rfl))) (fun _ _ _ _=>cF) (fun _ _ _ _=>(aV aZ (dv 0 (pv 0)) (dv 1 (pv 1))))) aB (aj (by rfl))) (by decide) (by decide) (aj (by rfl)) (au (by rfl))) aC (aW _)) (aD (aN d_bl)) bB))))
 refine aD ?_
 exact (aN d_bl)
theorem ok_law (T:Txt K mg t):cB P w K mg base CX0 16 t.f_law t.d_law ["_law_script"] (lift K m_law):=by
 have nd:=sc_law.nd
 refine gW (k:=15) T.F_law sc_law fun cdv A outer s H E hr=>?_
 have hc:=hr.calm (by decide)
 refine aA ?_ ?_
 ·exact (aJ (i:=1) nd (by rfl) (by exact Or.inl rfl) (aP ((zL T).mono (by decide)) hr (by rfl) (by exact T.dJ) (by exact T.F_l_spots.kp) (by exact T.b_l_spots) (ak (dv 0 (pv 0)) aB (aj (by rfl))) (by decide) (aj (by rfl)) (au (by rfl))))
 refine aA ?_ ?_
 ·exact (aJ (i:=2) nd (by rfl) (by exact Or.inl rfl) (aP ((ok_l_due T).mono (by decide)) hr (by rfl) (by exact T.jG) (by exact T.F_l_due.kp) (by exact T.b_l_due) (ak (dv 1 (pv 1)) aB (aj (by rfl))) (by decide) (aj (by rfl)) (au (by rfl))))
 refine aA ?_ ?_
 ·exact (cQ (bD (yg (jx hr)) (aP ((uF T).mono (by decide)) hr (by rfl) (by exact T.cD) (by exact T.F_l_refused.kp) (by exact T.b_l_refused) (ak (iz c_list (by rfl) (by exact T.z_list) boot_list (ak (dv 1 (pv 1)) aB (aj (by rfl))) (by decide) (by decide) (aj (by rfl)) (au (by rfl))) aB (aj (by rfl))) (by decide) (aj (by rfl)) (au (by rfl))) (dv 2 (pv 2)) (aW _)) (aD (aN d_bl)) bB)
 refine aA ?_ ?_
 ·exact (cQ (bD (yg (jx hr)) (dv 2 (pv 2)) pY (aW _)) (aD (aN d_bl)) bB)
 refine aA ?_ ?_
 ·exact (aJ (i:=3) nd (by rfl) (by exact Or.inl rfl) (iz c_listM (by rfl) (by exact T.z_list) boot_list (ak (dv 1 (pv 1)) aB (aj (by rfl))) (by decide) (by decide) (aj (by rfl)) (au (by rfl))))
 refine aA ?_ ?_
 ·exact (aJ (i:=4) nd (by rfl) (by exact Or.inl rfl) (aP ((jJ T).mono (by decide)) hr (by rfl) (by exact T.bT) (by exact T.F_through.kp) (by exact T.b_through) (ak (dv 3 (pv 3)) aB (aj (by rfl))) (by decide) (aj (by rfl)) (au (by rfl))))
 refine aA ?_ ?_
 ·exact (cQ (dw_or (bD (yg (jx hr)) (dv 3 (pv 3)) (dv 1 (pv 1)) (aW _)) (tM (xM (iI (aP ((ok_l_goes T).mono (by decide)) hr (by rfl) (by exact T.gb) (by exact T.F_l_goes.kp) (by exact T.b_l_goes) (ak (dv 4 (pv 4)) (ak (dv 1 (pv 1)) aB (aj (by rfl))) (aj (by rfl))) (by decide) (aj (by rfl)) (au (by rfl))))))).pt (aD (aN d_bl)) bB)
 refine aA ?_ ?_
 ·exact (jL (d_reverse (dv 3 (pv 3))))
 refine aA ?_ ?_
 ·exact (aJ (i:=5) nd (by rfl) (by exact Or.inl rfl) (aV dD (aP ((uJ T).mono (by decide)) hr (by rfl) (by exact T.dH) (by exact T.F_l_cell.kp) (by exact T.b_l_cell) (ak (dv 0 (pv 0)) (ak aC aB (aj (by rfl))) (aj (by rfl))) (by decide) (aj (by rfl)) (au (by rfl))) aC))
 refine aA ?_ ?_
 ·exact (cQ (dw_or (bD (yg (jx hr)) (aP ((jJ T).mono (by decide)) hr (by rfl) (by exact T.bT) (by exact T.F_through.kp) (by exact T.b_through) (ak (dv 3 (pv 3)) aB (aj (by rfl))) (by decide) (aj (by rfl)) (au (by rfl))) (dv 4 (pv 4)) (aW _)) (tM (bD (yg (jx hr)) (aP ((jJ T).mono (by decide)) hr (by rfl) (by exact T.bT) (by exact T.F_through.kp) (by exact T.b_through) (ak (aV cC (vd (dv 1 (pv 1)) (dh (dv 5 (pv 5))) vA) (vd (dv 1 (pv 1)) vA (dh (dv 5 (pv 5))))) aB (aj (by rfl))) (by decide) (aj (by rfl)) (au (by rfl))) (dv 4 (pv 4)) (aW _)))).pt (aD (aN d_bl)) bB)
 refine aA ?_ ?_
 ·exact (aJ (i:=6) nd (by rfl) (by exact Or.inl rfl) (aP ((vQ T).mono (by decide)) hr (by rfl) (by exact T.cZ) (by exact T.F_is_round.kp) (by exact T.b_is_round) (ak (dv 4 (pv 4)) aB (aj (by rfl))) (by decide) (aj (by rfl)) (au (by rfl))))
 refine aD ?_
 exact (aN (d_and (bJ c_isi (by rfl) (by exact T.z_isinstance) boot_isinstance (ak (dv 6 (pv 6)) (ak (dc (nJ (v:=.ty "bool") (by rfl) (by exact T.z_bool) boot_bool (by rfl)) (fun _ _=>by rw [Rep])) aB (aj (by rfl))) (aj (by rfl))) (by decide) (by decide) (aj (by rfl)) (au (by rfl))) (d_one (wj (zN (jx hr)) (dv 6 (pv 6)) (wj (zN (jx hr)) (aP ((oN T).mono (by decide)) hr (by rfl) (by exact T.cL) (by exact T.F_l_lined.kp) (by exact T.b_l_lined) (ak (dv 1 (pv 1)) aB (aj (by rfl))) (by decide) (aj (by rfl)) (au (by rfl))) (zB aB) (aW _)) (aW _)))))
end
def fO (x:Str)(s:Stmt)(oc:Value)(od:Option Addr)(kV dc pm:Value)(an:Option Addr)(cd ct:Value)(sl:Array (Option Value)):Option Obj:=some ⟨oc,od,.func (PySem.W.fnOf x x (lK s) (fM s) (aF s) .none kV dc pm an cd ct),sl⟩
def sR (f:Addr):Option (Option Value):=some (some (.ref f))
open PySem.W (nsIn codeIn keepIn) in
theorem all_mk {l:PySem.W.OpenLaw}{w:World}{K:PySem.W.Frag}{h:Heap}{mg:Str→Option Value}{fa:Addr}(hlaw:∀ ns:List Int,ns.length≤63→m_law [.kls (ns.map W.int)] g0 (fun w _=>w=.bl true) EF)(X:K.In h)(G:h.Ns mainGlobals mg)(hfa:mg "law" = some (.ref fa))
  {f0 f1 f2 f3 f4 f5 f6 f7 f8 f9 f10 f11 f12 f13 f14 f15 f16 f17 f18 f19 f20 f21 f22 f23 f24 f25 f26 f27 f28 f29 f30 f31 f32:Addr} {od0 an0 od1 an1 od2 an2 od3 an3 od4 an4 od5 an5 od6 an6 od7 an7 od8 an8 od9 an9 od10 an10 od11 an11 od12 an12 od13 an13 od14 an14 od15 an15 od16 an16 od17 an17 od18 an18 od19 an19 od20 an20 od21 an21 od22 an22 od23 an23 od24 an24 od25 an25 od26 an26 od27 an27 od28 an28 od29 an29 od30 an30 od31 an31 od32 an32:Option Addr} {sl0 sl1 sl2 sl3 sl4 sl5 sl6 sl7 sl8 sl9 sl10 sl11 sl12 sl13 sl14 sl15 sl16 sl17 sl18 sl19 sl20 sl21 sl22 sl23 sl24 sl25 sl26 sl27 sl28 sl29 sl30 sl31 sl32:Array (Option Value)} {oc0 kV0 dc0 pm0 cd0 ct0 oc1 kV1 dc1 pm1 cd1 ct1 oc2 kV2 dc2 pm2 cd2 ct2 oc3 kV3 dc3 pm3 cd3 ct3 oc4 kV4 dc4 pm4 cd4 ct4 oc5 kV5 dc5 pm5 cd5 ct5 oc6 kV6 dc6 pm6 cd6 ct6 oc7 kV7 dc7 pm7 cd7 ct7 oc8 kV8 dc8 pm8 cd8 ct8 oc9 kV9 dc9 pm9 cd9 ct9 oc10 kV10 dc10 pm10 cd10 ct10 oc11 kV11 dc11 pm11 cd11 ct11 oc12 kV12 dc12 pm12 cd12 ct12 oc13 kV13 dc13 pm13 cd13 ct13 oc14 kV14 dc14 pm14 cd14 ct14 oc15 kV15 dc15 pm15 cd15 ct15 oc16 kV16 dc16 pm16 cd16 ct16 oc17 kV17 dc17 pm17 cd17 ct17 oc18 kV18 dc18 pm18 cd18 ct18 oc19 kV19 dc19 pm19 cd19 ct19 oc20 kV20 dc20 pm20 cd20 ct20 oc21 kV21 dc21 pm21 cd21 ct21 oc22 kV22 dc22 pm22 cd22 ct22 oc23 kV23 dc23 pm23 cd23 ct23 oc24 kV24 dc24 pm24 cd24 ct24 oc25 kV25 dc25 pm25 cd25 ct25 oc26 kV26 dc26 pm26 cd26 ct26 oc27 kV27 dc27 pm27 cd27 ct27 oc28 kV28 dc28 pm28 cd28 ct28 oc29 kV29 dc29 pm29 cd29 ct29 oc30 kV30 dc30 pm30 cd30 ct30 oc31 kV31 dc31 pm31 cd31 ct31 oc32 kV32 dc32 pm32 cd32 ct32:Value}
  {x_EaselError:Addr}
  {x_Nothing:Addr}
  {x_Alike:Addr}
  {x_FourOnLine:Addr}
  {x_ThreeOnLine:Addr}
  {x_Knot:Addr}
  {x_NotOn:Addr}
  (a0:nsIn K mainGlobals "divisor_of_two" = sR f0) (l0:K.lookup f0=fO "divisor_of_two" bZ oc0 od0 kV0 dc0 pm0 an0 cd0 ct0 sl0) (c0:codeIn K cd0 "divisor_of_two" = true) (k0:keepIn K (.ref f0)=true)
  (a1:nsIn K mainGlobals "divisor" = sR f1) (l1:K.lookup f1=fO "divisor" jk oc1 od1 kV1 dc1 pm1 an1 cd1 ct1 sl1) (c1:codeIn K cd1 "divisor" = true) (k1:keepIn K (.ref f1)=true)
  (a2:nsIn K mainGlobals "ends_below" = sR f2) (l2:K.lookup f2=fO "ends_below" dF oc2 od2 kV2 dc2 pm2 an2 cd2 ct2 sl2) (c2:codeIn K cd2 "ends_below" = true) (k2:keepIn K (.ref f2)=true)
  (a3:nsIn K mainGlobals "plain" = sR f3) (l3:K.lookup f3=fO "plain" qL oc3 od3 kV3 dc3 pm3 an3 cd3 ct3 sl3) (c3:codeIn K cd3 "plain" = true) (k3:keepIn K (.ref f3)=true)
  (a4:nsIn K mainGlobals "dot" = sR f4) (l4:K.lookup f4=fO "dot" s_dot oc4 od4 kV4 dc4 pm4 an4 cd4 ct4 sl4) (c4:codeIn K cd4 "dot" = true) (k4:keepIn K (.ref f4)=true)
  (a5:nsIn K mainGlobals "cross" = sR f5) (l5:K.lookup f5=fO "cross" p8 oc5 od5 kV5 dc5 pm5 an5 cd5 ct5 sl5) (c5:codeIn K cd5 "cross" = true) (k5:keepIn K (.ref f5)=true)
  (a6:nsIn K mainGlobals "turn" = sR f6) (l6:K.lookup f6=fO "turn" wR oc6 od6 kV6 dc6 pm6 an6 cd6 ct6 sl6) (c6:codeIn K cd6 "turn" = true) (k6:keepIn K (.ref f6)=true)
  (a7:nsIn K mainGlobals "share_one" = sR f7) (l7:K.lookup f7=fO "share_one" d9 oc7 od7 kV7 dc7 pm7 an7 cd7 ct7 sl7) (c7:codeIn K cd7 "share_one" = true) (k7:keepIn K (.ref f7)=true)
  (a8:nsIn K mainGlobals "on_line" = sR f8) (l8:K.lookup f8=fO "on_line" iY oc8 od8 kV8 dc8 pm8 an8 cd8 ct8 sl8) (c8:codeIn K cd8 "on_line" = true) (k8:keepIn K (.ref f8)=true)
  (a9:nsIn K mainGlobals "rising" = sR f9) (l9:K.lookup f9=fO "rising" lG oc9 od9 kV9 dc9 pm9 an9 cd9 ct9 sl9) (c9:codeIn K cd9 "rising" = true) (k9:keepIn K (.ref f9)=true)
  (a10:nsIn K mainGlobals "picked" = sR f10) (l10:K.lookup f10=fO "picked" lq oc10 od10 kV10 dc10 pm10 an10 cd10 ct10 sl10) (c10:codeIn K cd10 "picked" = true) (k10:keepIn K (.ref f10)=true)
  (a11:nsIn K mainGlobals "has_alike" = sR f11) (l11:K.lookup f11=fO "has_alike" dZ oc11 od11 kV11 dc11 pm11 an11 cd11 ct11 sl11) (c11:codeIn K cd11 "has_alike" = true) (k11:keepIn K (.ref f11)=true)
  (a12:nsIn K mainGlobals "has_on_line" = sR f12) (l12:K.lookup f12=fO "has_on_line" cU oc12 od12 kV12 dc12 pm12 an12 cd12 ct12 sl12) (c12:codeIn K cd12 "has_on_line" = true) (k12:keepIn K (.ref f12)=true)
  (a13:nsIn K mainGlobals "rows_of" = sR f13) (l13:K.lookup f13=fO "rows_of" iC oc13 od13 kV13 dc13 pm13 an13 cd13 ct13 sl13) (c13:codeIn K cd13 "rows_of" = true) (k13:keepIn K (.ref f13)=true)
  (a14:nsIn K mainGlobals "size_of" = sR f14) (l14:K.lookup f14=fO "size_of" iR oc14 od14 kV14 dc14 pm14 an14 cd14 ct14 sl14) (c14:codeIn K cd14 "size_of" = true) (k14:keepIn K (.ref f14)=true)
  (a15:nsIn K mainGlobals "together" = sR f15) (l15:K.lookup f15=fO "together" gn oc15 od15 kV15 dc15 pm15 an15 cd15 ct15 sl15) (c15:codeIn K cd15 "together" = true) (k15:keepIn K (.ref f15)=true)
  (a16:nsIn K mainGlobals "table_of" = sR f16) (l16:K.lookup f16=fO "table_of" fQ oc16 od16 kV16 dc16 pm16 an16 cd16 ct16 sl16) (c16:codeIn K cd16 "table_of" = true) (k16:keepIn K (.ref f16)=true)
  (a17:nsIn K mainGlobals "is_round" = sR f17) (l17:K.lookup f17=fO "is_round" gj oc17 od17 kV17 dc17 pm17 an17 cd17 ct17 sl17) (c17:codeIn K cd17 "is_round" = true) (k17:keepIn K (.ref f17)=true)
  (a18:nsIn K mainGlobals "mixed" = sR f18) (l18:K.lookup f18=fO "mixed" q9 oc18 od18 kV18 dc18 pm18 an18 cd18 ct18 sl18) (c18:codeIn K cd18 "mixed" = true) (k18:keepIn K (.ref f18)=true)
  (a19:nsIn K mainGlobals "through" = sR f19) (l19:K.lookup f19=fO "through" iw oc19 od19 kV19 dc19 pm19 an19 cd19 ct19 sl19) (c19:codeIn K cd19 "through" = true) (k19:keepIn K (.ref f19)=true)
  (a20:nsIn K mainGlobals "_law_cell" = sR f20) (l20:K.lookup f20=fO "_law_cell" lC oc20 od20 kV20 dc20 pm20 an20 cd20 ct20 sl20) (c20:codeIn K cd20 "_law_cell" = true) (k20:keepIn K (.ref f20)=true)
  (a21:nsIn K mainGlobals "_law_draws" = sR f21) (l21:K.lookup f21=fO "_law_draws" jl oc21 od21 kV21 dc21 pm21 an21 cd21 ct21 sl21) (c21:codeIn K cd21 "_law_draws" = true) (k21:keepIn K (.ref f21)=true)
  (a22:nsIn K mainGlobals "_law_number" = sR f22) (l22:K.lookup f22=fO "_law_number" fW oc22 od22 kV22 dc22 pm22 an22 cd22 ct22 sl22) (c22:codeIn K cd22 "_law_number" = true) (k22:keepIn K (.ref f22)=true)
  (a23:nsIn K mainGlobals "_law_divisor" = sR f23) (l23:K.lookup f23=fO "_law_divisor" dY oc23 od23 kV23 dc23 pm23 an23 cd23 ct23 sl23) (c23:codeIn K cd23 "_law_divisor" = true) (k23:keepIn K (.ref f23)=true)
  (a24:nsIn K mainGlobals "_law_plain" = sR f24) (l24:K.lookup f24=fO "_law_plain" iu oc24 od24 kV24 dc24 pm24 an24 cd24 ct24 sl24) (c24:codeIn K cd24 "_law_plain" = true) (k24:keepIn K (.ref f24)=true)
  (a25:nsIn K mainGlobals "_law_fresh" = sR f25) (l25:K.lookup f25=fO "_law_fresh" jt oc25 od25 kV25 dc25 pm25 an25 cd25 ct25 sl25) (c25:codeIn K cd25 "_law_fresh" = true) (k25:keepIn K (.ref f25)=true)
  (a26:nsIn K mainGlobals "_law_spots" = sR f26) (l26:K.lookup f26=fO "_law_spots" iW oc26 od26 kV26 dc26 pm26 an26 cd26 ct26 sl26) (c26:codeIn K cd26 "_law_spots" = true) (k26:keepIn K (.ref f26)=true)
  (a27:nsIn K mainGlobals "_law_turn" = sR f27) (l27:K.lookup f27=fO "_law_turn" lu oc27 od27 kV27 dc27 pm27 an27 cd27 ct27 sl27) (c27:codeIn K cd27 "_law_turn" = true) (k27:keepIn K (.ref f27)=true)
  (a28:nsIn K mainGlobals "_law_lined" = sR f28) (l28:K.lookup f28=fO "_law_lined" jh oc28 od28 kV28 dc28 pm28 an28 cd28 ct28 sl28) (c28:codeIn K cd28 "_law_lined" = true) (k28:keepIn K (.ref f28)=true)
  (a29:nsIn K mainGlobals "_law_due" = sR f29) (l29:K.lookup f29=fO "_law_due" qy oc29 od29 kV29 dc29 pm29 an29 cd29 ct29 sl29) (c29:codeIn K cd29 "_law_due" = true) (k29:keepIn K (.ref f29)=true)
  (a30:nsIn K mainGlobals "_law_refused" = sR f30) (l30:K.lookup f30=fO "_law_refused" eN oc30 od30 kV30 dc30 pm30 an30 cd30 ct30 sl30) (c30:codeIn K cd30 "_law_refused" = true) (k30:keepIn K (.ref f30)=true)
  (a31:nsIn K mainGlobals "_law_goes" = sR f31) (l31:K.lookup f31=fO "_law_goes" kY oc31 od31 kV31 dc31 pm31 an31 cd31 ct31 sl31) (c31:codeIn K cd31 "_law_goes" = true) (k31:keepIn K (.ref f31)=true)
  (a32:nsIn K mainGlobals "law" = sR f32) (l32:K.lookup f32=fO "law" s_law oc32 od32 kV32 dc32 pm32 an32 cd32 ct32 sl32) (c32:codeIn K cd32 "law" = true) (k32:keepIn K (.ref f32)=true)
  (z_ValueError:PySem.W.nsIn K mainGlobals "ValueError" = some none)
  (z_abs:PySem.W.nsIn K mainGlobals "abs" = some none)
  (z_all:PySem.W.nsIn K mainGlobals "all" = some none)
  (z_any:PySem.W.nsIn K mainGlobals "any" = some none)
  (z_bool:PySem.W.nsIn K mainGlobals "bool" = some none)
  (z_int:PySem.W.nsIn K mainGlobals "int" = some none)
  (z_isinstance:PySem.W.nsIn K mainGlobals "isinstance" = some none)
  (z_len:PySem.W.nsIn K mainGlobals "len" = some none)
  (z_list:PySem.W.nsIn K mainGlobals "list" = some none)
  (z_max:PySem.W.nsIn K mainGlobals "max" = some none)
  (z_range:PySem.W.nsIn K mainGlobals "range" = some none)
  (z_reversed:PySem.W.nsIn K mainGlobals "reversed" = some none)
  (z_set:PySem.W.nsIn K mainGlobals "set" = some none)
  (z_sum:PySem.W.nsIn K mainGlobals "sum" = some none)
  (z_tuple:PySem.W.nsIn K mainGlobals "tuple" = some none)
  (z_zip:PySem.W.nsIn K mainGlobals "zip" = some none)
  (gx_EaselError:nsIn K mainGlobals "EaselError" = sR x_EaselError) (xd_EaselError:lV K x_EaselError "EaselError" = true)
  (gx_Nothing:nsIn K mainGlobals "Nothing" = sR x_Nothing) (xd_Nothing:lV K x_Nothing "Nothing" = true)
  (xc_Nothing:qJ K x_Nothing "Nothing" = true) (xq_Nothing:PySem.W.excIn K x_Nothing vmB "ValueError.__new__" = true)
  (gx_Alike:nsIn K mainGlobals "Alike" = sR x_Alike) (xd_Alike:lV K x_Alike "Alike" = true)
  (xc_Alike:qJ K x_Alike "Alike" = true) (xq_Alike:PySem.W.excIn K x_Alike vmB "ValueError.__new__" = true)
  (gx_FourOnLine:nsIn K mainGlobals "FourOnLine" = sR x_FourOnLine) (xd_FourOnLine:lV K x_FourOnLine "FourOnLine" = true)
  (xc_FourOnLine:qJ K x_FourOnLine "FourOnLine" = true) (xq_FourOnLine:PySem.W.excIn K x_FourOnLine vmB "ValueError.__new__" = true)
  (gx_ThreeOnLine:nsIn K mainGlobals "ThreeOnLine" = sR x_ThreeOnLine) (xd_ThreeOnLine:lV K x_ThreeOnLine "ThreeOnLine" = true)
  (gx_Knot:nsIn K mainGlobals "Knot" = sR x_Knot) (xd_Knot:lV K x_Knot "Knot" = true)
  (gx_NotOn:nsIn K mainGlobals "NotOn" = sR x_NotOn) (xd_NotOn:lV K x_NotOn "NotOn" = true)
  : ∃ fd:FuncData,(∀ (s:Shared) (v:Value),BindsTo s fd ⟨[v],[]⟩ [("_law_script",v)])∧∀ base:Heap,K.In base→base.Ns mainGlobals mg→cB l.prog w K mg base CX0 16 fa fd ["_law_script"] (spLaw K):=by
 have e:=hfa.symm.trans (PySem.W.mg_of X G a32)
 cases e
 have F0:=bC (st:=bZ) l0 c0 k0
 have b0:=F0.binds (ps:=["one", "other"]) fun _ _ _ _ _ _ us hl=>match us,hl with | [_,_],_=>rfl
 have F1:=bC (st:=jk) l1 c1 k1
 have b1:=F1.binds (ps:=["numbers"]) fun _ _ _ _ _ _ us hl=>match us,hl with | [_],_=>rfl
 have F2:=bC (st:=dF) l2 c2 k2
 have b2:=F2.binds (ps:=["numbers"]) fun _ _ _ _ _ _ us hl=>match us,hl with | [_],_=>rfl
 have F3:=bC (st:=qL) l3 c3 k3
 have b3:=F3.binds (ps:=["numbers"]) fun _ _ _ _ _ _ us hl=>match us,hl with | [_],_=>rfl
 have F4:=bC (st:=s_dot) l4 c4 k4
 have b4:=F4.binds (ps:=["one", "other"]) fun _ _ _ _ _ _ us hl=>match us,hl with | [_,_],_=>rfl
 have F5:=bC (st:=p8) l5 c5 k5
 have b5:=F5.binds (ps:=["one", "other"]) fun _ _ _ _ _ _ us hl=>match us,hl with | [_,_],_=>rfl
 have F6:=bC (st:=wR) l6 c6 k6
 have b6:=F6.binds (ps:=["one", "other", "third"]) fun _ _ _ _ _ _ us hl=>match us,hl with | [_,_,_],_=>rfl
 have F7:=bC (st:=d9) l7 c7 k7
 have b7:=F7.binds (ps:=["rows"]) fun _ _ _ _ _ _ us hl=>match us,hl with | [_],_=>rfl
 have F8:=bC (st:=iY) l8 c8 k8
 have b8:=F8.binds (ps:=["spots"]) fun _ _ _ _ _ _ us hl=>match us,hl with | [_],_=>rfl
 have F9:=bC (st:=lG) l9 c9 k9
 have b9:=F9.binds (ps:=["many", "size"]) fun _ _ _ _ _ _ us hl=>match us,hl with | [_,_],_=>rfl
 have F10:=bC (st:=lq) l10 c10 k10
 have b10:=F10.binds (ps:=["things", "places"]) fun _ _ _ _ _ _ us hl=>match us,hl with | [_,_],_=>rfl
 have F11:=bC (st:=dZ) l11 c11 k11
 have b11:=F11.binds (ps:=["things"]) fun _ _ _ _ _ _ us hl=>match us,hl with | [_],_=>rfl
 have F12:=bC (st:=cU) l12 c12 k12
 have b12:=F12.binds (ps:=["spots", "size"]) fun _ _ _ _ _ _ us hl=>match us,hl with | [_,_],_=>rfl
 have F13:=bC (st:=iC) l13 c13 k13
 have b13:=F13.binds (ps:=["table"]) fun _ _ _ _ _ _ us hl=>match us,hl with | [_],_=>rfl
 have F14:=bC (st:=iR) l14 c14 k14
 have b14:=F14.binds (ps:=["numbers"]) fun _ _ _ _ _ _ us hl=>match us,hl with | [_],_=>rfl
 have F15:=bC (st:=gn) l15 c15 k15
 have b15:=F15.binds (ps:=["line", "other"]) fun _ _ _ _ _ _ us hl=>match us,hl with | [_,_],_=>rfl
 have F16:=bC (st:=fQ) l16 c16 k16
 have b16:=F16.binds (ps:=["curve"]) fun _ _ _ _ _ _ us hl=>match us,hl with | [_],_=>rfl
 have F17:=bC (st:=gj) l17 c17 k17
 have b17:=F17.binds (ps:=["curve"]) fun _ _ _ _ _ _ us hl=>match us,hl with | [_],_=>rfl
 have F18:=bC (st:=q9) l18 c18 k18
 have b18:=F18.binds (ps:=["spots"]) fun _ _ _ _ _ _ us hl=>match us,hl with | [_],_=>rfl
 have F19:=bC (st:=iw) l19 c19 k19
 have b19:=F19.binds (ps:=["spots"]) fun _ _ _ _ _ _ us hl=>match us,hl with | [_],_=>rfl
 have F20:=bC (st:=lC) l20 c20 k20
 have b20:=F20.binds (ps:=["_law_script", "_law_k"]) fun _ _ _ _ _ _ us hl=>match us,hl with | [_,_],_=>rfl
 have F21:=bC (st:=jl) l21 c21 k21
 have b21:=F21.binds (ps:=["_law_script", "_law_k", "_law_many"]) fun _ _ _ _ _ _ us hl=>match us,hl with | [_,_,_],_=>rfl
 have F22:=bC (st:=fW) l22 c22 k22
 have b22:=F22.binds (ps:=["_law_x"]) fun _ _ _ _ _ _ us hl=>match us,hl with | [_],_=>rfl
 have F23:=bC (st:=dY) l23 c23 k23
 have b23:=F23.binds (ps:=["_law_row"]) fun _ _ _ _ _ _ us hl=>match us,hl with | [_],_=>rfl
 have F24:=bC (st:=iu) l24 c24 k24
 have b24:=F24.binds (ps:=["_law_row"]) fun _ _ _ _ _ _ us hl=>match us,hl with | [_],_=>rfl
 have F25:=bC (st:=jt) l25 c25 k25
 have b25:=F25.binds (ps:=["_law_numbers"]) fun _ _ _ _ _ _ us hl=>match us,hl with | [_],_=>rfl
 have F26:=bC (st:=iW) l26 c26 k26
 have b26:=F26.binds (ps:=["_law_script"]) fun _ _ _ _ _ _ us hl=>match us,hl with | [_],_=>rfl
 have F27:=bC (st:=lu) l27 c27 k27
 have b27:=F27.binds (ps:=["_law_one", "_law_other", "_law_third"]) fun _ _ _ _ _ _ us hl=>match us,hl with | [_,_,_],_=>rfl
 have F28:=bC (st:=jh) l28 c28 k28
 have b28:=F28.binds (ps:=["_law_spots_here"]) fun _ _ _ _ _ _ us hl=>match us,hl with | [_],_=>rfl
 have F29:=bC (st:=qy) l29 c29 k29
 have b29:=F29.binds (ps:=["_law_spots_here"]) fun _ _ _ _ _ _ us hl=>match us,hl with | [_],_=>rfl
 have F30:=bC (st:=eN) l30 c30 k30
 have b30:=F30.binds (ps:=["_law_spots_here"]) fun _ _ _ _ _ _ us hl=>match us,hl with | [_],_=>rfl
 have F31:=bC (st:=kY) l31 c31 k31
 have b31:=F31.binds (ps:=["_law_curve", "_law_spots_here"]) fun _ _ _ _ _ _ us hl=>match us,hl with | [_,_],_=>rfl
 have F32:=bC (st:=s_law) l32 c32 k32
 have b32:=F32.binds (ps:=["_law_script"]) fun _ _ _ _ _ _ us hl=>match us,hl with | [_],_=>rfl
 have T:Txt K mg ⟨f0,_,f1,_,f2,_,f3,_,f4,_,f5,_,f6,_,f7,_,f8,_,f9,_,f10,_,f11,_,f12,_,f13,_,f14,_,f15,_,f16,_,f17,_,f18,_,f19,_,f20,_,f21,_,f22,_,f23,_,f24,_,f25,_,f26,_,f27,_,f28,_,f29,_,f30,_,f31,_,fa,_,x_EaselError,x_Nothing,x_Alike,x_FourOnLine,x_ThreeOnLine,x_Knot,x_NotOn⟩:=⟨F0,PySem.W.mg_of X G a0,b0,F1,PySem.W.mg_of X G a1,b1,F2,PySem.W.mg_of X G a2,b2,F3,PySem.W.mg_of X G a3,b3,F4,PySem.W.mg_of X G a4,b4,F5,PySem.W.mg_of X G a5,b5,F6,PySem.W.mg_of X G a6,b6,F7,PySem.W.mg_of X G a7,b7,F8,PySem.W.mg_of X G a8,b8,F9,PySem.W.mg_of X G a9,b9,F10,PySem.W.mg_of X G a10,b10,F11,PySem.W.mg_of X G a11,b11,F12,PySem.W.mg_of X G a12,b12,F13,PySem.W.mg_of X G a13,b13,F14,PySem.W.mg_of X G a14,b14,F15,PySem.W.mg_of X G a15,b15,F16,PySem.W.mg_of X G a16,b16,F17,PySem.W.mg_of X G a17,b17,F18,PySem.W.mg_of X G a18,b18,F19,PySem.W.mg_of X G a19,b19,F20,PySem.W.mg_of X G a20,b20,F21,PySem.W.mg_of X G a21,b21,F22,PySem.W.mg_of X G a22,b22,F23,PySem.W.mg_of X G a23,b23,F24,PySem.W.mg_of X G a24,b24,F25,PySem.W.mg_of X G a25,b25,F26,PySem.W.mg_of X G a26,b26,F27,PySem.W.mg_of X G a27,b27,F28,PySem.W.mg_of X G a28,b28,F29,PySem.W.mg_of X G a29,b29,F30,PySem.W.mg_of X G a30,b30,F31,PySem.W.mg_of X G a31,b31,F32,PySem.W.mg_of X G a32,b32,PySem.W.mg_none_of X G z_ValueError,PySem.W.mg_none_of X G z_abs,PySem.W.mg_none_of X G z_all,PySem.W.mg_none_of X G z_any,PySem.W.mg_none_of X G z_bool,PySem.W.mg_none_of X G z_int,PySem.W.mg_none_of X G z_isinstance,PySem.W.mg_none_of X G z_len,PySem.W.mg_none_of X G z_list,PySem.W.mg_none_of X G z_max,PySem.W.mg_none_of X G z_range,PySem.W.mg_none_of X G z_reversed,PySem.W.mg_none_of X G z_set,PySem.W.mg_none_of X G z_sum,PySem.W.mg_none_of X G z_tuple,PySem.W.mg_none_of X G z_zip,PySem.W.mg_of X G gx_EaselError,xd_EaselError,PySem.W.mg_of X G gx_Nothing,xd_Nothing,xc_Nothing,xq_Nothing,PySem.W.mg_of X G gx_Alike,xd_Alike,xc_Alike,xq_Alike,PySem.W.mg_of X G gx_FourOnLine,xd_FourOnLine,xc_FourOnLine,xq_FourOnLine,PySem.W.mg_of X G gx_ThreeOnLine,xd_ThreeOnLine,PySem.W.mg_of X G gx_Knot,xd_Knot,PySem.W.mg_of X G gx_NotOn,xd_NotOn⟩
 exact ⟨_,fun s v=>.of_eq rfl,fun base _ _=>law_imp hlaw (ok_law T)⟩
theorem walk {l:PySem.W.OpenLaw}{q:Program}{loose:List Str}{XP:(Str→Option Value)→Heap→Prop}{YP:World→Heap→Prop}{d:DefRec}{K:Params→PySem.W.Frag}(hn:l.most=some 63)(hdf:d.params.defaults=[])
  (hY:∀ (w:World) (h:Heap),YP w h→(K w.params).In h)
  (F:∀ (w:World) (mg:Str→Option Value) (fa:Addr) (h:Heap),(K w.params).In h→h.Ns mainGlobals mg→mg d.name=some (.ref fa) →
   ∃ fd:FuncData,(∀ (s:Shared) (u:Value),BindsTo s fd ⟨[u],[]⟩ [("_law_script",u)])∧∀ base:Heap,(K w.params).In base→base.Ns mainGlobals mg→cB l.prog w (K w.params) mg base CX0 16 fa fd ["_law_script"] (spLaw (K w.params))) :
  PySem.W.WalkO q loose XP YP l.row.toRowW d [] (fun f vs=>PySem.call f vs):=
 L2.walk_of (n:=63) (k:=16) (x := "_law_script") (CX:=fun _=>CX0) (sp:=fun w=>spLaw (K w.params)) hn (by decide) hdf ⟨fun _=>rfl,by decide,by decide⟩ hY F (fun _ _ a ns hl hO hS=>⟨a,ns,rfl,hS,hO,hl,fun _=>rfl⟩) fun _ _ _ _ _ z=>z
local macro_rules | `(tactic| trivial) => `(tactic| with_reducible exact Sm.lit (by decide))
local macro_rules | `(tactic| trivial) => `(tactic| with_reducible exact Sm.zero)
local macro_rules | `(tactic| trivial) => `(tactic| with_reducible exact Sm.neg (by trivial))
local macro_rules | `(tactic| trivial) => `(tactic| with_reducible exact Sm.sub (by trivial) (by trivial))
local macro_rules | `(tactic| trivial) => `(tactic| with_reducible exact Sm.add (by trivial) (by trivial))
local macro_rules | `(tactic| trivial) => `(tactic| with_reducible exact Sm.mul (by trivial) (by trivial))
local macro_rules | `(tactic| trivial) => `(tactic| with_reducible assumption)
theorem set_c (h:Gh)(n:Nat)(c:Cell):(h.set n c).c n=some c:=by show (if n=n then some c else h.c n)=some c;rw [if_pos rfl]
theorem uE {h:Gh}{n m:Nat}{c:Cell}(e:m≠n):(h.set n c).c m=h.c m:=by show (if m=n then some c else h.c m)=_;rw [if_neg e]
theorem new_c (h:Gh)(c:Cell):(h.new c).c h.nx=some c:=by show (if h.nx=h.nx then some c else h.c h.nx)=some c;rw [if_pos rfl]
theorem wA {h:Gh}{m:Nat}{c:Cell}(e:m≠h.nx):(h.new c).c m=h.c m:=by show (if m=h.nx then some c else h.c m)=_;rw [if_neg e]
theorem wV {h:Gh}{n:Nat}{ws:List W}(e:h.c n=some (.lst ws)):view h (.loc n)=some ws:=by simp only [view,cX,e]
theorem fmod_pos {a b:Int}(h:0<b):a.fmod b=a % b:=Int.fmod_eq_emod_of_nonneg a (Int.le_of_lt h)
theorem yp {a b:Int}(h:0<b):a.fdiv b=a / b:=Int.fdiv_eq_ediv_of_nonneg a (Int.le_of_lt h)
theorem yO {A B:Prop}{c:Bool}(e:c=true)(h:A):by2 c A B:=by subst e;exact h
theorem by2_f {A B:Prop}{c:Bool}(e:c=false)(h:B):by2 c A B:=by subst e;exact h
theorem jA {ws ws0:List W}{g:MG}{b:MS}{D:bH}(I:Nat→Sw→Gh→Prop)
  (step:∀ (i:Nat) (w:W) (σ : Sw) (h:Gh) (N:Sw→Gh→Prop),(∀ σ' h',I (i+1) σ' h'→N σ' h')→ws[i]?=some w→I i σ h→g w σ h fun σ1 h1=>b { D with nx:=N,ct:=N,bk:=D.nx } σ1 h1)
  (fin:∀ σ h,I ws.length σ h→D.nx σ h):∀ {σ : Sw} {h:Gh},I 0 σ h→cR ⟨ws0,none⟩ g b D ws σ h:=by
 induction ws generalizing I with
 | nil=>intro σ h h0;exact fin σ h h0
 | cons w ws ih=>
  intro σ h h0
  refine step 0 w σ h _ (fun σ' h' q=>?_) rfl h0
  exact ih (fun i=>I (i+1)) (fun i w σ h N hN e hi=>step (i+1) w σ h N hN (by simpa using e) hi) (fun σ h q=>fin σ h q) q
theorem o9 {ws ws0:List W}{own:W→Option (List W)}{ix:List Nat}{tt:MT}{te:ME}{σ : Sw}{Q:WK}(I:Nat→List W→Gh→Prop)
  (step:∀ (i:Nat) (w:W) (acc:List W) (h:Gh) (N:List W→Gh→Prop),(∀ acc' h',I (i+1) acc' h'→N acc' h')→ws[i]?=some w→I i acc h →
   ∃ vs,own w=some vs∧tt (vs.map some++mG ix σ) h fun c h1=>by2 c (te (vs.map some++mG ix σ) h1 fun v h2=>N (acc++[v]) h2) (N acc h1))
  (fin:∀ acc h,I ws.length acc h→Q (.lst acc) h):∀ {acc:List W} {h:Gh},I 0 acc h→jP ⟨ws0,none⟩ own ix tt te σ Q ws acc h:=by
 induction ws generalizing I with
 | nil=>intro acc h h0;exact fin acc h h0
 | cons w ws ih=>
  intro acc h h0
  obtain ⟨vs,ev,q⟩:=step 0 w acc h _ (fun acc' h' q=>ih (fun i=>I (i+1)) (fun i w acc h N hN e hi=>step (i+1) w acc h N hN (by simpa using e) hi) (fun acc h q=>fin acc h q) q) rfl h0
  show (match own w with
   | some vs=>_
   | none=>False)
  rw [ev]
  exact q
theorem rngW_get {lo:Int}{n i:Nat}{w:W}(e:(uT lo n)[i]?=some w):i<n∧w=.int (lo+(i:Int)):=by
 have hi:i<n:=by
  have:=(List.getElem?_eq_some_iff.mp e).1
  simpa [uT] using this
 unfold uT at e
 rw [List.getElem?_map,List.getElem?_range hi] at e
 exact ⟨hi,(Option.some.inj e).symm⟩
theorem rngW_len {lo:Int}{n:Nat}:(uT lo n).length=n:=by simp [uT]
theorem for_rng {ma:MA}{j:Int}{g:MG}{b:MS}{D:bH}{σ : Sw}{h:Gh}(hm:∀ R,ma σ h R=R [.int j] h)(h1:-(2^62)≤j)(h2:j<2^62)(I:Nat→Sw→Gh→Prop)
  (step:∀ (i:Nat) (σ : Sw) (h:Gh) (N:Sw→Gh→Prop),(∀ σ' h',I (i+1) σ' h'→N σ' h')→i<j.toNat→I i σ h→g (.int (i:Int)) σ h fun σ1 h1=>b { D with nx:=N,ct:=N,bk:=D.nx } σ1 h1)
  (fin:∀ σ h,I j.toNat σ h→D.nx σ h) (h0:I 0 σ h):kW (gY ma) g b D σ h:=by
 unfold kW gY
 rw [hm]
 refine uR.mk h1 h2 ?_
 refine jA I (fun i w σ h N hN e hi=>?_) (fun σ h q=>fin σ h (by rw [rngW_len] at q;exact q)) h0
 obtain ⟨hlt,rfl⟩:=rngW_get e
 rw [Int.zero_add]
 exact step i σ h N hN hlt hi
theorem atI_ints {ns:List Int}{k:Int}(h0:0≤k)(h1:k<((ns.map W.int).length:Int)):atI (ns.map W.int) k=some (.int (ns.getD k.toNat 0)):=by
 have hk:k.toNat<ns.length:=by rw [List.length_map] at h1;omega
 have e:(ns.map W.int)[k.toNat]?=some (.int (ns.getD k.toNat 0)):=by
  rw [List.getElem?_map,List.getElem?_eq_getElem hk,List.getD_eq_getElem?_getD,List.getElem?_eq_getElem hk];rfl
 have:=qT e
 rwa [show ((k.toNat:Nat):Int)=k by omega] at this
def gF (f n:Int):Int:=((Int.gcd n f:Nat):Int)
def gL (ns:List Int):Int:=ns.foldl gF 0
theorem gL_snoc (ns:List Int)(n:Int):gL (ns++[n])=gF (gL ns) n:=by unfold gL;rw [List.foldl_append];rfl
theorem gF_nn (f n:Int):0≤gF f n:=Int.natCast_nonneg _
theorem gL_nn (ns:List Int):0≤gL ns:=by
 rcases List.eq_nil_or_concat ns with rfl | ⟨l,a,rfl⟩
 ·exact Int.le_refl _
 ·rw [List.concat_eq_append,gL_snoc];exact gF_nn _ _
theorem wu {x y:Int}(hx:0≤x)(hy:0<y):Int.gcd y (x.fmod y)=Int.gcd x y∧0≤x.fmod y∧x.fmod y<y:=by
 rw [Int.fmod_eq_emod_of_nonneg x (Int.le_of_lt hy)]
 refine ⟨?_,Int.emod_nonneg _ (by omega),Int.emod_lt_of_pos _ hy⟩
 obtain ⟨m,rfl⟩:=Int.eq_ofNat_of_zero_le hx
 obtain ⟨n,rfl⟩:=Int.eq_ofNat_of_zero_le (Int.le_of_lt hy)
 rw [←Int.natCast_emod,Int.gcd_natCast_natCast,Int.gcd_natCast_natCast,Nat.gcd_comm m n,Nat.gcd_rec n m,Nat.gcd_comm]
theorem abs_nn (a:Int):0≤(if a<0 then -a else a):=by split <;> omega
theorem abs_eq (a:Int):(if a<0 then -a else a)=(a.natAbs:Int):=by split <;> omega
theorem gcd_abs (a b:Int):Int.gcd (if a<0 then -a else a) (if b<0 then -b else b)=Int.gcd a b:=by
 rw [abs_eq,abs_eq];simp [Int.gcd]
theorem lM {x:Int}(h:0≤x):((Int.gcd x 0:Nat):Int)=x:=by
 rw [Int.gcd_zero_right];omega
def TwoOk (c:MSp):Prop:=∀ {h:Gh} {a b:Int} {Q:WK} {E:XWK},Q (.int (gF b a)) h→c [.int a,.int b] h Q E
theorem w_two:TwoOk eY:=by
 intro h a b Q E q
 conv=>whnf
 refine ⟨fun m σ h'=>h'=h∧∃ x y r,σ = [some (.int x),some (.int y),r]∧0≤x∧0≤y∧Int.gcd x y=Int.gcd a b∧m=y.toNat,⟨_,rfl,_,_,none,rfl,abs_nn a,abs_nn b,gcd_abs a b,rfl⟩,?_⟩
 rintro m σ h' ⟨rfl,x,y,r,rfl,x0,y0,hg,rfl⟩
 refine ⟨fun e=>?_,fun e=>?_⟩
 ·have hy:y≠0:=by simpa [eqW] using e
  obtain ⟨g1,g2,g3⟩:=wu x0 (by omega:0<y)
  conv=>whnf
  refine ⟨hy,?_⟩
  refine ⟨(x.fmod y).toNat,by omega,rfl,y,x.fmod y,_,rfl,y0,g2,g1.trans hg,rfl⟩
 ·have hy:y=0:=by simpa [eqW] using e
  subst hy
  have:gF b a=x:=by unfold gF;rw [←hg];exact lM x0
  rw [this] at q
  exact q
def Ints (w:W)(ns:List Int):Prop:=w=.lst (ns.map .int)∨w=.tup (ns.map .int)
def tH (c:MSp):Prop:=∀ {h:Gh} {w:W} {ns:List Int} {Q:WK} {E:XWK},Ints w ns→Q (.int (gL ns)) h→c [w] h Q E
theorem ints_get {ns:List Int}{i:Nat}{w:W}(e:(ns.map W.int)[i]?=some w):∃ n,ns[i]?=some n∧w=.int n:=by
 rw [List.getElem?_map] at e
 cases q:ns[i]? with
 | none=>rw [q] at e;cases e
 | some n=>rw [q] at e;exact ⟨n,rfl,(Option.some.inj e).symm⟩
theorem gL_take {ns:List Int}{i:Nat}{n:Int}(e:ns[i]?=some n):gL (ns.take (i+1))=gF (gL (ns.take i)) n:=by
 rw [List.take_succ,e,←gL_snoc];rfl
theorem w_divisor {tw:MSp}(ht:TwoOk tw):tH (sW tw):=by
 intro h w ns Q E hw q
 have key:cR ⟨ns.map .int,none⟩ (nName 2) (bK (aU tw E (aq (ao 2) (aq (ao 1) aO))) (nName 1)) { nx:=nA tw E { nx:=fun _ h'=>Q .non h',rt:=fun w h'=>Q w h' },rt:=fun w h'=>Q w h' } (ns.map .int) [some w,some (.int 0),none] h:=by
  refine jA (fun i σ h'=>h'=h∧∃ o,σ = [some w,some (.int (gL (ns.take i))),o]) ?_ ?_ ⟨rfl,none,rfl⟩
  ·rintro i x σ h' N hN e ⟨rfl,o,rfl⟩
   obtain ⟨n,en,rfl⟩:=ints_get e
   conv=>whnf
   refine ht ?_
   refine hN _ _ ⟨rfl,some (.int n),?_⟩
   rw [gL_take en]
   rfl
  ·rintro σ h' ⟨rfl,o,rfl⟩
   rw [List.length_map,List.take_length]
   exact q
 rcases hw with rfl | rfl <;> exact key
theorem gF_mul (f n k:Int)(hf:0≤f):gF (f*(k.natAbs:Int)) (n*k)=gF f n*(k.natAbs:Int):=by
 unfold gF
 rw [←Int.natCast_mul]
 congr 1
 unfold Int.gcd
 rw [Int.natAbs_mul,Int.natAbs_mul,Int.natAbs_natCast,Nat.gcd_mul_right]
theorem gL_mul (k:Int)(ns:List Int):gL (ns.map (· * k))=gL ns*(k.natAbs:Int):=by
 have:∀ (ns:List Int) (f:Int),0≤f→(ns.map (· * k)).foldl gF (f*(k.natAbs:Int))=ns.foldl gF f*(k.natAbs:Int):=by
  intro ns
  induction ns with
  | nil=>intro f _;rfl
  | cons n ns ih=>intro f hf;rw [List.map_cons,List.foldl_cons,List.foldl_cons,gF_mul f n k hf];exact ih _ (gF_nn _ _)
 have h:=this ns 0 (Int.le_refl _)
 rw [Int.zero_mul] at h
 exact h
theorem gF_sm {m:Nat}{f n:Int}(hf:Sm m f)(hn:Sm m n):Sm m (gF f n):=by
 unfold gF Sm at *
 rw [Int.natAbs_natCast]
 unfold Int.gcd
 by_cases e:n.natAbs=0
 ·rw [e,Nat.gcd_zero_left];exact hf
 ·exact Nat.lt_of_le_of_lt (Nat.gcd_le_left _ (Nat.pos_of_ne_zero e)) hn
theorem gL_sm {m:Nat}{ns:List Int}(h:∀ n∈ns,Sm m n):Sm m (gL ns):=by
 have:∀ (ns:List Int) (f:Int),Sm m f→(∀ n∈ns,Sm m n)→Sm m (ns.foldl gF f):=by
  intro ns
  induction ns with
  | nil=>intro f hf _;exact hf
  | cons n ns ih=>intro f hf h;exact ih _ (gF_sm hf (h n (by simp))) fun x hx=>h x (by simp [hx])
 exact this ns 0 Sm.zero h
def gU:List Int→Int
 | []=>0
 | n::ns=>if n=0 then gU ns else n
def dB (ns:List Int):Int:=gU ns.reverse
def PlL (ns:List Int):Prop:=gL ns=1∧0<dB ns
def NZ (ns:List Int):Prop:=∃ n∈ns,n≠0
theorem cg {k:Int}(hk:k≠0)(x:Int):x*k=0↔x=0:=by
 rw [Int.mul_eq_zero];exact ⟨fun h=>h.elim id fun h=>absurd h hk,.inl⟩
theorem ur {k:Int}(hk:k≠0):∀ ns:List Int,gU (ns.map (· * k))=gU ns*k
 | []=>(Int.zero_mul k).symm
 | n::ns=>by
  rw [List.map_cons,gU,gU]
  by_cases h:n=0
  ·rw [if_pos h,if_pos ((cg hk n).mpr h),ur hk ns]
  ·rw [if_neg h,if_neg (fun e=>h ((cg hk n).mp e))]
theorem mq {k:Int}(hk:k≠0)(ns:List Int):dB (ns.map (· * k))=dB ns*k:=by
 unfold dB;rw [←List.map_reverse,ur hk]
theorem fstNZ_ne {ns:List Int}(h:NZ ns):gU ns≠0:=by
 induction ns with
 | nil=>obtain ⟨n,hn,_⟩:=h;cases hn
 | cons a ns ih=>
  rw [gU]
  by_cases e:a=0
  ·rw [if_pos e]
   refine ih ?_
   obtain ⟨n,hn,n0⟩:=h
   rcases List.mem_cons.mp hn with rfl | hn
   ·exact absurd e n0
   ·exact ⟨n,hn,n0⟩
  ·rw [if_neg e];exact e
theorem yx {ns:List Int}(h:NZ ns):dB ns≠0:=by
 obtain ⟨n,hn,n0⟩:=h
 exact fstNZ_ne ⟨n,List.mem_reverse.mpr hn,n0⟩
theorem gF_dvd (f n:Int):gF f n ∣ f∧gF f n ∣ n:=⟨Int.gcd_dvd_right ..,Int.gcd_dvd_left ..⟩
theorem gL_dvd {ns:List Int}:∀ n∈ns,gL ns ∣ n:=by
 have:∀ (ns:List Int) (f:Int),ns.foldl gF f ∣ f∧∀ n∈ns,ns.foldl gF f ∣ n:=by
  intro ns
  induction ns with
  | nil=>intro f;exact ⟨Int.dvd_refl _,fun n hn=>absurd hn (by simp)⟩
  | cons a ns ih=>
   intro f
   obtain ⟨h1,h2⟩:=ih (gF f a)
   refine ⟨Int.dvd_trans h1 (gF_dvd f a).1,fun n hn=>?_⟩
   rcases List.mem_cons.mp hn with rfl | hn
   ·exact Int.dvd_trans h1 (gF_dvd f n).2
   ·exact h2 n hn
 exact (this ns 0).2
theorem gL_ne {ns:List Int}(h:NZ ns):0<gL ns:=by
 have h0:=gL_nn ns
 obtain ⟨n,hn,n0⟩:=h
 have hd:=gL_dvd n hn
 by_cases e:gL ns=0
 ·rw [e] at hd;exact absurd (Int.zero_dvd.mp hd) n0
 ·omega
theorem PlL.nz {ns:List Int}(h:PlL ns):NZ ns:=by
 have:∀ l:List Int,0<gU l→NZ l:=by
  intro l
  induction l with
  | nil=>intro h;exact absurd h (by decide)
  | cons a l ih=>
   intro h
   rw [gU] at h
   by_cases e:a=0
   ·rw [if_pos e] at h
    obtain ⟨n,hn,n0⟩:=ih h
    exact ⟨n,List.mem_cons_of_mem _ hn,n0⟩
   ·exact ⟨a,by simp,e⟩
 obtain ⟨n,hn,n0⟩:=this _ h.2
 exact ⟨n,List.mem_reverse.mp hn,n0⟩
theorem plainL {ns:List Int}{by':Int}(h:NZ ns)(hb:by'=if dB ns<0 then 0 - gL ns else gL ns) :
  by'≠0∧PlL (ns.map (·.fdiv by'))∧ns=(ns.map (·.fdiv by')).map (· * by'):=by
 have g0:=gL_ne h
 have hn:by'≠0:=by rw [hb];split <;> omega
 have hd:∀ t,gL ns ∣ t→by' ∣ t:=fun t ht=>by
  rw [hb]
  split
  ·rw [Int.zero_sub];exact Int.neg_dvd.mpr ht
  ·exact ht
 have e:ns=(ns.map (·.fdiv by')).map (· * by'):=by
  rw [List.map_map]
  conv=>lhs;rw [←List.map_id ns]
  refine List.map_congr_left fun n hn'=>?_
  obtain ⟨m,hm⟩:=hd n (gL_dvd n hn')
  show n=n.fdiv by'*by'
  conv=>lhs;rw [hm]
  conv=>rhs;rw [hm]
  rw [Int.mul_fdiv_cancel_left _ hn,Int.mul_comm]
 refine ⟨hn,?_,e⟩
 generalize hms:ns.map (·.fdiv by')=ms at e
 have e1:gL ns=gL ms*(by'.natAbs:Int):=by rw [e];exact gL_mul by' ms
 have e2:(by'.natAbs:Int)=gL ns:=by rw [hb];split <;> omega
 have e3:dB ns=dB ms*by':=by rw [e];exact mq hn ms
 have l0:=yx h
 refine ⟨?_,?_⟩
 ·rw [e2] at e1
  have e1':gL ms*gL ns=1*gL ns:=by rw [←e1,Int.one_mul]
  exact Int.eq_of_mul_eq_mul_right (by omega) e1'
 ·by_cases hs:dB ns<0
  ·rw [if_pos hs] at hb
   have:by'<0:=by omega
   rw [e3] at hs
   by_cases q:0<dB ms
   ·exact q
   ·have:=Int.mul_nonneg_of_nonpos_of_nonpos (show dB ms≤0 by omega) (Int.le_of_lt this)
    omega
  ·rw [if_neg hs] at hb
   have:0<by':=by omega
   have hp:0<dB ns:=by omega
   rw [e3] at hp
   by_cases q:0<dB ms
   ·exact q
   ·have:=Int.mul_nonpos_of_nonpos_of_nonneg (show dB ms≤0 by omega) (Int.le_of_lt this)
    omega
theorem lJ {k:Int}(hk:k≠0):∀ {ns ms:List Int},ns.map (· * k)=ms.map (· * k)→ns=ms
 | [],[],_=>rfl
 | [],_::_,h=>by simp at h
 | _::_,[],h=>by simp at h
 | a::ns,b::ms,h=>by
  rw [List.map_cons,List.map_cons] at h
  obtain ⟨h1,h2⟩:=List.cons.inj h
  rw [Int.eq_of_mul_eq_mul_right hk h1,lJ hk h2]
theorem plL_eq {ns ms:List Int}(hn:PlL ns)(hm:PlL ms){s t:Int}(hs:s≠0)(ht:t≠0)(h:ns.map (· * s)=ms.map (· * t)):ns=ms:=by
 have e1:gL ns*(s.natAbs:Int)=gL ms*(t.natAbs:Int):=by rw [←gL_mul,←gL_mul,h]
 rw [hn.1,hm.1] at e1
 have e2:dB ns*s=dB ms*t:=by rw [←mq hs,←mq ht,h]
 have a:=hn.2
 have b:=hm.2
 have st:s=t:=by
  rcases Int.lt_or_gt_of_ne hs with s0 | s0 <;> rcases Int.lt_or_gt_of_ne ht with t0 | t0
  ·omega
  ·have x:=Int.mul_neg_of_pos_of_neg a s0
   have y:=Int.mul_pos b t0
   omega
  ·have x:=Int.mul_pos a s0
   have y:=Int.mul_neg_of_pos_of_neg b t0
   omega
  ·omega
 subst st
 exact lJ hs h
def PlnL (c0:MSp):Prop:=∀ {h:Gh} {w:W} {ns:List Int} {m:Nat} {Q:WK} {E:XWK},Ints w ns→NZ ns→(∀ n∈ns,Sm m n)→m≤8000→ns.length≤1000 →
 (∀ (ms:List Int) (k:Int),k≠0→ns=ms.map (· * k)→PlL ms→(∀ n∈ms,Sm m n)→Q (.tup (ms.map .int)) h)→c0 [w] h Q E
theorem cH (a b:Int):eqW (.int a) (.int b)=(a==b):=by rw [eqW]
theorem sm_part {m:Nat}{a a' k:Int}(h:Sm m a)(e:a=a'*k)(hk:k≠0):Sm m a':=by
 refine h.le ?_
 rw [e,Int.natAbs_mul]
 exact Nat.le_mul_of_pos_right _ (by omega)
theorem wk {m:Nat}{ns ms:List Int}{k:Int}(h:∀ n∈ns,Sm m n)(hk:k≠0)(e:ns=ms.map (· * k)):∀ n∈ms,Sm m n:=fun n hn=>
 sm_part (h (n*k) (by rw [e];exact List.mem_map.mpr ⟨n,hn,rfl⟩)) rfl hk
theorem yd {ns:List Int}(h:NZ ns):atI ((ns.filter (·≠0)).map W.int) (-1)=some (.int (dB ns)):=by
 have key:∀ l:List Int,gU l≠0→∃ r,l.filter (·≠0)=gU l::r:=by
  intro l
  induction l with
  | nil=>intro h;exact absurd rfl h
  | cons a l ih=>
   intro h
   rw [gU] at h ⊢
   by_cases e:a=0
   ·rw [if_pos e] at h ⊢
    obtain ⟨r,hr⟩:=ih h
    exact ⟨r,by rw [List.filter_cons,if_neg (by simp [e])];exact hr⟩
   ·rw [if_neg e]
    exact ⟨_,by rw [List.filter_cons,if_pos (by simp [e])]⟩
 obtain ⟨r,hr⟩:=key ns.reverse (yx h)
 have hf:ns.filter (·≠0)=r.reverse++[dB ns]:=by
  rw [List.filter_reverse] at hr
  have:=congrArg List.reverse hr
  rw [List.reverse_reverse,List.reverse_cons] at this
  exact this
 rw [hf,List.map_append]
 exact atI_last _ _
theorem lc_div {ix:List Nat}{σ : Sw}{h:Gh}{Q:WK}{w:W}{ns:List Int}{by':Int}{m:Nat}(hs:sY h w=some ⟨ns.map .int,none⟩)(hb:by'≠0)(hm:m≤8000)(hs':Sm m by')(hz:ns.length≤sizeLine)(hv:σ[0]?=some (some w))(hx:mG ix σ = [some (.int by')])(k:Q (.lst ((ns.map (·.fdiv by')).map .int)) h) :
  mLC ow1 ix (nIt (ao 0)) kh (mOp kDiv (ao 0) (ao 1)) σ h Q:=by
 unfold mLC nIt ao
 rw [hv]
 dsimp only
 rw [hs]
 refine gH.mk (by rw [List.length_map];exact hz) ?_
 refine o9 (fun i acc h'=>h'=h∧acc=((ns.take i).map (·.fdiv by')).map W.int) ?_ ?_ ⟨rfl,rfl⟩
 ·rintro i w acc h' N hN e ⟨rfl,rfl⟩
  obtain ⟨n,en,rfl⟩:=ints_get e
  refine ⟨[.int n],rfl,?_⟩
  rw [hx]
  refine ⟨⟨hb,m,hm,hs'⟩,?_⟩
  refine hN _ _ ⟨rfl,?_⟩
  rw [List.take_succ,en]
  simp
 ·rintro acc h' ⟨rfl,rfl⟩
  rw [List.length_map,List.take_length]
  exact k
def EndsL (c0:MSp):Prop:=∀ {h:Gh} {w:W} {ns:List Int} {Q:WK} {E:XWK},Ints w ns→Q (.bl (decide (dB ns<0))) h→c0 [w] h Q E
theorem w_endsL:EndsL kE:=by
 intro h w ns Q E hw q
 have key:∀ (l:List Int) (s:Src) (o:Option W),s.cell=none→Q (.bl (decide (gU l<0))) h→cR s (nName 1) (dX (aY (mOp kNe (ao 1) (mC (.int 0)))) (cu (mOp kLt (ao 1) (mC (.int 0)))) bN)
   { nx:=gJ E { nx:=fun _ h'=>Q .non h',rt:=fun w h'=>Q w h' },rt:=fun w h'=>Q w h' } (l.map .int) [some w,o] h:=by
  intro l
  induction l with
  | nil=>
   intro s o hs q
   obtain ⟨ws,ix⟩:=s
   cases hs
   exact q
  | cons n l ih=>
   intro s o hs q
   obtain ⟨ws,ix⟩:=s
   cases hs
   rw [gU] at q
   refine ⟨fun e=>?_,fun e=>?_⟩
   ·rw [cH] at e
    rw [if_neg (by simpa using e)] at q
    exact q
   ·rw [cH] at e
    rw [if_pos (by simpa using e)] at q
    exact ih _ _ rfl q
 have k2:=key ns.reverse ⟨(ns.map .int).reverse,none⟩ none rfl q
 rw [List.map_reverse] at k2
 rcases hw with rfl | rfl <;> exact k2
theorem w_pplainL {dv en:MSp}(hdv:tH dv)(hen:EndsL en):PlnL (r_plain dv en):=by
 intro h w ns m Q E hw h0 hs hm hl q
 have hg0:=gL_ne h0
 have hgs:Sm m (gL ns):=gL_sm hs
 have hz:ns.length≤sizeLine:=Nat.le_trans hl (by decide)
 have src:sY h w=some ⟨ns.map .int,none⟩:=by rcases hw with rfl | rfl <;> rfl
 have fin:∀ by',(by'=if dB ns<0 then 0 - gL ns else gL ns)→tY dv en E { nx:=fun _ h'=>Q .non h',rt:=fun w h'=>Q w h' } [some w,some (.int by')] h:=by
  intro by' e
  obtain ⟨hn,pl,eq⟩:=plainL h0 e
  have hbs:Sm m by':=by refine hgs.le ?_;rw [e];split <;> omega
  show mLC ow1 [1] (nIt (ao 0)) kh (mOp kDiv (ao 0) (ao 1)) [some w,some (.int by')] h _
  refine lc_div (w:=w) (ns:=ns) src hn hm hbs hz rfl rfl ?_
  exact q _ by' hn eq pl (wk hs hn eq)
 refine hdv hw ?_
 refine yH (by rw [cH];simp;omega) ?_
 refine hen hw ?_
 refine zK (fun hl=>?_) (fun hl=>?_)
 ·exact fin _ (by rw [if_pos hl,Int.zero_sub])
 ·exact fin _ (by rw [if_neg hl])
abbrev Tr:=Int×Int×Int
def tl (t:Tr):List Int:=[t.1,t.2.1,t.2.2]
def tw (t:Tr):W:=.tup [.int t.1,.int t.2.1,.int t.2.2]
def Pl (t:Tr):Prop:=PlL (tl t)
def SmT (m:Nat)(t:Tr):Prop:=Sm m t.1∧Sm m t.2.1∧Sm m t.2.2
def sc (k:Int)(t:Tr):Tr:=(t.1*k,t.2.1*k,t.2.2*k)
def Par (u t:Tr):Prop:=∃ k,k≠0∧u=sc k t
def crs (p q:Tr):Tr:=(p.2.1*q.2.2 - p.2.2*q.2.1,p.2.2*q.1 - p.1*q.2.2,p.1*q.2.1 - p.2.1*q.1)
def dt3 (p q:Tr):Int:=p.1*q.1+p.2.1*q.2.1+p.2.2*q.2.2
theorem SmT.mono {m n:Nat}{t:Tr}(h:SmT m t)(e:m≤n):SmT n t:=⟨h.1.mono e,h.2.1.mono e,h.2.2.mono e⟩
theorem SmT.all {m:Nat}{t:Tr}(h:SmT m t):∀ n∈tl t,Sm m n:=by
 intro n hn
 simp only [tl,List.mem_cons,List.not_mem_nil,or_false] at hn
 rcases hn with rfl | rfl | rfl
 ·exact h.1
 ·exact h.2.1
 ·exact h.2.2
theorem vh {t:Tr}:t=(0,0,0)↔t.1=0∧t.2.1=0∧t.2.2=0:=by
 obtain ⟨a,b,c⟩:=t
 simp
theorem tl_nz {t:Tr}(h:t≠(0,0,0)):NZ (tl t):=by
 by_cases a:t.1=0
 ·by_cases b:t.2.1=0
  ·by_cases c:t.2.2=0
   ·exact absurd (vh.mpr ⟨a,b,c⟩) h
   ·exact ⟨_,by simp [tl],c⟩
  ·exact ⟨_,by simp [tl],b⟩
 ·exact ⟨_,by simp [tl],a⟩
theorem tl_map {t:Tr}{k:Int}{ms:List Int}(e:tl t=ms.map (· * k)):∃ u:Tr,ms=tl u∧t=sc k u:=by
 match ms,congrArg List.length e,e with
 | [a,b,c],_,e=>
  simp only [tl,List.map_cons,List.map_nil,List.cons.injEq,and_true] at e
  exact ⟨(a,b,c),rfl,by obtain ⟨x,y,z⟩:=t;simp only [sc];simp only at e;rw [e.1,e.2.1,e.2.2]⟩
theorem PlnL.tr {c0:MSp}(hc:PlnL c0){h:Gh}{w:W}{u:Tr}{m:Nat}{Q:WK}{E:XWK}(hw:w=tw u∨w=.lst [.int u.1,.int u.2.1,.int u.2.2])(h0:u≠(0,0,0))(hs:SmT m u)(hm:m≤8000)
  (q:∀ t:Tr,Pl t→Par u t→SmT m t→Q (tw t) h):c0 [w] h Q E:=by
 refine hc (ns:=tl u) (m:=m) ?_ (tl_nz h0) hs.all hm (show 3≤1000 by decide) fun ms k hk e pl sm=>?_
 ·rcases hw with rfl | rfl
  ·exact .inr rfl
  ·exact .inl rfl
 ·obtain ⟨t,rfl,e'⟩:=tl_map e
  exact q t pl ⟨k,hk,e'⟩ ⟨sm _ (by simp [tl]),sm _ (by simp [tl]),sm _ (by simp [tl])⟩
theorem sc_zero {k:Int}{t:Tr}(hk:k≠0):sc k t=(0,0,0)↔t=(0,0,0):=by
 rw [vh,vh]
 show (t.1*k=0∧t.2.1*k=0∧t.2.2*k=0)↔_
 rw [cg hk,cg hk,cg hk]
theorem Pl.ne {t:Tr}(h:Pl t):t≠(0,0,0):=by
 rintro rfl
 obtain ⟨n,hn,n0⟩:=h.nz
 simp [tl] at hn
 exact n0 hn
theorem par_eq {u p q:Tr}(hp:Pl p)(hq:Pl q)(h1:Par u p)(h2:Par u q):p=q:=by
 obtain ⟨s,hs,e⟩:=h1
 obtain ⟨t,ht,e'⟩:=h2
 have h:sc s p=sc t q:=by rw [←e,←e']
 have:=plL_eq hp hq hs ht (by
  have:=congrArg tl h
  simpa [tl,sc] using this)
 obtain ⟨a,b,c⟩:=p
 obtain ⟨x,y,z⟩:=q
 simp only [tl,List.cons.injEq,and_true] at this
 rw [this.1,this.2.1,this.2.2]
theorem ray {p q:Tr}(hp:p≠(0,0,0))(h:crs p q=(0,0,0)):∃ s t:Int,s≠0∧sc s q=sc t p:=by
 obtain ⟨a,b,c⟩:=p
 obtain ⟨x,y,z⟩:=q
 have h1:b*z - c*y=0:=congrArg (·.1) h
 have h2:c*x - a*z=0:=congrArg (·.2.1) h
 have h3:a*y - b*x=0:=congrArg (·.2.2) h
 by_cases ha:a=0
 ·by_cases hb:b=0
  ·by_cases hc:c=0
   ·exact absurd (by rw [ha,hb,hc]) hp
   ·refine ⟨c,z,hc,?_⟩
    simp only [sc]
    refine Prod.ext ?_ (Prod.ext ?_ ?_) <;> simp only <;> grind
  ·refine ⟨b,y,hb,?_⟩
   simp only [sc]
   refine Prod.ext ?_ (Prod.ext ?_ ?_) <;> simp only <;> grind
 ·refine ⟨a,x,ha,?_⟩
  simp only [sc]
  refine Prod.ext ?_ (Prod.ext ?_ ?_) <;> simp only <;> grind
theorem plain_eq {p q:Tr}(hp:Pl p)(hq:Pl q)(h:crs p q=(0,0,0)):p=q:=by
 obtain ⟨s,t,hs,e⟩:=ray hp.ne h
 have ht:t≠0:=by
  rintro rfl
  have:sc s q=(0,0,0):=by rw [e];simp [sc]
  exact hq.ne ((sc_zero hs).mp this)
 exact par_eq (u:=sc t p) hp hq ⟨t,ht,rfl⟩ ⟨s,hs,e.symm⟩
theorem crs_ne {p q:Tr}(hp:Pl p)(hq:Pl q)(h:p≠q):crs p q≠(0,0,0):=fun e=>h (plain_eq hp hq e)
theorem flat {n p q r:Tr}(hn:n≠(0,0,0))(hp:dt3 n p=0)(hq:dt3 n q=0)(hr:dt3 n r=0):dt3 (crs p q) r=0:=by
 obtain ⟨n1,n2,n3⟩:=n
 obtain ⟨p1,p2,p3⟩:=p
 obtain ⟨q1,q2,q3⟩:=q
 obtain ⟨r1,r2,r3⟩:=r
 simp only [dt3,crs] at *
 generalize hd:(p2*q3 - p3*q2)*r1+(p3*q1 - p1*q3)*r2+(p1*q2 - p2*q1)*r3=d
 have e1:n1*d=0:=by grind
 have e2:n2*d=0:=by grind
 have e3:n3*d=0:=by grind
 by_cases h:d=0
 ·exact h
 ·have f:∀ x:Int,x*d=0→x=0:=fun x e=>by
   rcases Int.mul_eq_zero.mp e with e | e
   ·exact e
   ·exact absurd e h
  exact absurd (by rw [f _ e1,f _ e2,f _ e3]) hn
theorem cW (p q:Tr):dt3 p q=dt3 q p:=by simp only [dt3,Int.mul_comm]
theorem wN (k:Int)(p q:Tr):dt3 (sc k p) q=dt3 p q*k:=by simp only [dt3,sc];grind
theorem dt3_scr (k:Int)(p q:Tr):dt3 p (sc k q)=dt3 p q*k:=by simp only [dt3,sc];grind
theorem crs_sc (k l:Int)(p q:Tr):crs (sc k p) (sc l q)=sc (k*l) (crs p q):=by
 simp only [crs,sc]
 refine Prod.ext ?_ (Prod.ext ?_ ?_) <;> simp only <;> grind
theorem yt (p q:Tr):dt3 (crs p q) p=0:=by simp only [dt3,crs];grind
theorem yE (p q:Tr):dt3 (crs p q) q=0:=by simp only [dt3,crs];grind
theorem gD {m:Nat}{p q:Tr}(hp:SmT m p)(hq:SmT m q):SmT (m+m+1) (crs p q):=
 ⟨(hp.2.1.mul hq.2.2).sub (hp.2.2.mul hq.2.1) |>.mono (by omega),(hp.2.2.mul hq.1).sub (hp.1.mul hq.2.2) |>.mono (by omega),(hp.1.mul hq.2.1).sub (hp.2.1.mul hq.1) |>.mono (by omega)⟩
theorem yW (p q:Tr):eqW (tw p) (tw q)=decide (p=q):=by
 obtain ⟨a,b,c⟩:=p
 obtain ⟨x,y,z⟩:=q
 unfold tw
 rw [eqW,pL,pL,pL,pL,cH,cH,cH]
 by_cases ha:a=x <;> by_cases hb:b=y <;> by_cases hc:c=z <;> simp [ha,hb,hc]
def CrsOk (c0:MSp):Prop:=∀ {h:Gh} {p q:Tr} {m:Nat} {Q:WK} {E:XWK},m≤10000→SmT m p→SmT m q→Q (tw (crs p q)) h→c0 [tw p,tw q] h Q E
def DotOk (c0:MSp):Prop:=∀ {h:Gh} {p q:Tr} {m:Nat} {Q:WK} {E:XWK},m≤10000→SmT m p→SmT m q→Q (.int (dt3 p q)) h→c0 [tw p,tw q] h Q E
theorem zO {h:Gh}{n:Nat}{ws:List W}(e:h.c n=some (.lst ws)):cX h (.loc n)=some ws:=by simp only [cX,e]
theorem w_cross:CrsOk vR:=by
 intro h p q m Q E hm hp hq k
 obtain ⟨a,b,c⟩:=p
 obtain ⟨x,y,z⟩:=q
 obtain ⟨ha,hb,hc⟩:=hp
 obtain ⟨hx,hy,hz⟩:=hq
 simp only at ha hb hc hx hy hz
 ((conv=>whnf);repeat (refine And.intro (by exact eH.of (by trivial) (by trivial) (by omega) (by omega)) ?_;conv=>whnf))
 exact k
theorem w_dot:DotOk r_dot:=by
 intro h p q m Q E hm hp hq k
 obtain ⟨a,b,c⟩:=p
 obtain ⟨x,y,z⟩:=q
 obtain ⟨ha,hb,hc⟩:=hp
 obtain ⟨hx,hy,hz⟩:=hq
 simp only at ha hb hc hx hy hz
 ((conv=>whnf);repeat (refine And.intro (by exact eH.of (by trivial) (by trivial) (by omega) (by omega)) ?_;conv=>whnf))
 exact k
def AllP (ts:List Tr):Prop:=∀ p∈ts,∀ q∈ts,∀ r∈ts,dt3 (crs q r) p=0
def Z3 (ts:List Tr)(a b c:Nat):Prop:=∀ p q r,ts[a]?=some p→ts[b]?=some q→ts[c]?=some r→dt3 (crs q r) p=0
open Classical in
noncomputable def cV (ts:List Tr):Bool:=decide (AllP ts)
open Classical in
theorem lR {ts:List Tr}(h:AllP ts):cV ts=true:=by unfold cV;exact decide_eq_true h
open Classical in
theorem flatB_f {ts:List Tr}(h:¬ AllP ts):cV ts=false:=by unfold cV;exact decide_eq_false h
theorem vI (p q r:Tr):dt3 (crs q r) p=dt3 (crs r p) q:=by simp only [dt3,crs];grind
theorem det_swap (p q r:Tr):dt3 (crs q r) p = - dt3 (crs r q) p:=by simp only [dt3,crs];grind
theorem jg (p q:Tr):dt3 (crs q q) p=0:=by simp only [dt3,crs];grind
theorem uN {ts:List Tr}(H:∀ k j i,k<j→j<i→Z3 ts k j i):AllP ts:=by
 intro p hp q hq r hr
 obtain ⟨a,ea⟩:=List.getElem?_of_mem hp
 obtain ⟨b,eb⟩:=List.getElem?_of_mem hq
 obtain ⟨c,ec⟩:=List.getElem?_of_mem hr
 have rot:∀ {p q r:Tr},dt3 (crs q r) p=0→dt3 (crs r p) q=0:=fun {p q r} h=>by rw [←vI];exact h
 have sw:∀ {p q r:Tr},dt3 (crs q r) p=0→dt3 (crs r q) p=0:=fun {p q r} h=>by rw [det_swap,h];rfl
 have ab:a=b→p=q:=fun e=>by subst e;rw [ea] at eb;exact Option.some.inj eb
 have bc:b=c→q=r:=fun e=>by subst e;rw [eb] at ec;exact Option.some.inj ec
 have ac:a=c→p=r:=fun e=>by subst e;rw [ea] at ec;exact Option.some.inj ec
 by_cases h1:a=b
 ·rw [ab h1];exact rot (jg r q)
 by_cases h2:b=c
 ·rw [bc h2];exact jg p r
 by_cases h3:a=c
 ·rw [ac h3];exact rot (rot (jg q r))
 by_cases l1:a<b
 ·by_cases l2:b<c
  ·exact H a b c l1 l2 _ _ _ ea eb ec
  ·by_cases l3:a<c
   ·exact sw (H a c b l3 (by omega) _ _ _ ea ec eb)
   ·exact rot (H c a b (by omega) l1 _ _ _ ec ea eb)
 ·by_cases l2:b<c
  ·by_cases l3:a<c
   ·exact sw (rot (H b a c (by omega) l3 _ _ _ eb ea ec))
   ·exact rot (rot (H b c a l2 (by omega) _ _ _ eb ec ea))
  ·exact sw (rot (rot (H c b a (by omega) (by omega) _ _ _ ec eb ea)))
theorem all_two (ts:List Tr)(h:ts.length≤2):AllP ts:=by
 refine uN fun k j i h1 h2 p q r _ _ e=>?_
 have:=(List.getElem?_eq_some_iff.mp e).1
 omega
theorem share_iff {ts:List Tr}{t0 u:Tr}(h0:t0∈ts)(hu:u∈ts)(hne:u≠t0)(hp:∀ t∈ts,Pl t):(∀ t∈ts,t≠t0→dt3 (crs t0 u) t=0)↔AllP ts:=by
 refine ⟨fun H=>?_,fun H t ht _=>H t ht t0 h0 u hu⟩
 have hn:=crs_ne (hp _ h0) (hp _ hu) (Ne.symm hne)
 have H':∀ t∈ts,dt3 (crs t0 u) t=0:=fun t ht=>by
  by_cases e:t=t0
  ·subst e
   rw [vI,vI];exact jg _ _
  ·exact H t ht e
 intro p hp q hq r hr
 exact flat hn (H' q hq) (H' r hr) (H' p hp)
theorem all_same {ts:List Tr}{t0:Tr}(H:∀ t∈ts,t=t0):AllP ts:=by
 intro p hp q hq r hr
 rw [H q hq,H r hr]
 exact jg _ _
theorem tw_get {ts:List Tr}{i:Nat}{w:W}(e:(ts.map tw)[i]?=some w):∃ t,ts[i]?=some t∧w=tw t:=by
 rw [List.getElem?_map] at e
 cases q:ts[i]? with
 | none=>rw [q] at e;cases e
 | some n=>rw [q] at e;exact ⟨n,rfl,(Option.some.inj e).symm⟩
theorem eqs_tw:∀ ts:List Tr,pL (ts.map tw) (ts.map tw)=true
 | []=>rfl
 | t::ts=>by rw [List.map_cons,pL,eqs_tw ts,yW,Bool.and_true,decide_eq_true rfl]
theorem pl_tw (n:Nat)(t:Tr):plW (n+1) (tw t)=true:=by cases n <;> rfl
theorem pls_tw (n:Nat)(ts:List Tr):plW (n+2) (.lst (ts.map tw))=true:=by
 show (ts.map tw).all (plW (n+1))=true
 rw [List.all_eq_true]
 intro w hw
 obtain ⟨t,_,rfl⟩:=List.mem_map.mp hw
 exact pl_tw n t
theorem vG:∀ bs:List Bool,blsW (bs.map W.bl)=some bs
 | []=>rfl
 | b::bs=>by rw [List.map_cons,blsW,vG bs];rfl
theorem z8 {s:Src}{ws:List W}{own:W→Option (List W)}{ix:List Nat}{tt:MT}{te:ME}{σ : Sw}{Q:WK}(I:Nat→List W→Gh→Prop)
  (go:∀ i acc h,I i acc h→∀ P:Prop,P→s.go h P)
  (step:∀ (i:Nat) (w:W) (acc:List W) (h:Gh) (N:List W→Gh→Prop),(∀ acc' h',I (i+1) acc' h'→N acc' h')→ws[i]?=some w→I i acc h →
   ∃ vs,own w=some vs∧tt (vs.map some++mG ix σ) h fun c h1=>by2 c (te (vs.map some++mG ix σ) h1 fun v h2=>N (acc++[v]) h2) (N acc h1))
  (fin:∀ acc h,I ws.length acc h→Q (.lst acc) h):∀ {acc:List W} {h:Gh},I 0 acc h→jP s own ix tt te σ Q ws acc h:=by
 induction ws generalizing I with
 | nil=>intro acc h h0;exact go 0 acc h h0 _ (fin acc h h0)
 | cons w ws ih=>
  intro acc h h0
  obtain ⟨vs,ev,q⟩:=step 0 w acc h _ (fun acc' h' q=>ih (fun i=>I (i+1)) (fun i=>go (i+1)) (fun i w acc h N hN e hi=>step (i+1) w acc h N hN (by simpa using e) hi) (fun acc h q=>fin acc h q) q) rfl h0
  refine go 0 acc h h0 _ ?_
  show (match own w with
   | some vs=>_
   | none=>False)
  rw [ev]
  exact q
theorem w_lcS {own:W→Option (List W)}{i:Nat}{ix:List Nat}{te:ME}{σ : Sw}{h:Gh}{Q:WK}{w:W}{ws:List W}(hv:σ[i]?=some (some w))(hs:sY h w=some ⟨ws,none⟩)(hz:ws.length≤sizeLine)(k:jP ⟨ws,none⟩ own ix kh te σ Q ws [] h):mLC own ix (nIt (ao i)) kh te σ h Q:=by
 unfold mLC nIt ao
 rw [hv]
 dsimp only
 rw [hs]
 exact gH.mk hz k
def kO (h:Gh)(w:W)(ts:List Tr):Prop:=w=.lst (ts.map tw)∨∃ n,w=.loc n∧h.c n=some (.lst (ts.map tw))
theorem kO.src {h:Gh}{w:W}{ts:List Tr}(e:kO h w ts):view h w=some (ts.map tw)∧∃ s:Src,sY h w=some s∧s.ws=ts.map tw∧∀ P:Prop,P→s.go h P:=by
 rcases e with rfl | ⟨n,rfl,e⟩
 ·exact ⟨rfl,_,rfl,rfl,fun _ p=>p⟩
 ·refine ⟨wV e,⟨ts.map tw,some (n,ts.map tw)⟩,by simp only [sY,e],rfl,fun P p=>⟨e,p⟩⟩
theorem vf (t0:Tr)(r:List Tr):atI ((t0::r).map tw) 0=some (tw t0):=qT (j:=0) rfl
theorem lc_unlike {h:Gh}{w:W}{t0:Tr}{r:List Tr}{o1 o2:Option W}{Q:WK}(e:kO h w (t0::r))(hl:(t0::r).length≤1000)(q:Q (.lst (((t0::r).filter (·≠t0)).map tw)) h) :
  mLC ow1 [0] (nIt (ao 0)) (aY (mOp kNe (ao 0) (mOp kIx (ao 1) (mC (.int 0))))) (ao 0) [some w,o1,o2] h Q:=by
 obtain ⟨ev,s,es,ew,go⟩:=e.src
 generalize hts:t0::r=ts at *
 have a0:atI (ts.map tw) 0=some (tw t0):=by rw [←hts];exact vf _ _
 show (match sY h w with
  | some s=>_
  | none=>False)
 rw [es]
 show gH s.ws.length (jP s _ _ _ _ _ _ s.ws [] h)
 rw [ew]
 refine gH.mk (by rw [List.length_map];exact Nat.le_trans hl (by decide)) ?_
 refine z8 (fun i acc h'=>h'=h∧acc=((ts.take i).filter (·≠t0)).map tw) ?_ ?_ ?_ ⟨rfl,rfl⟩
 ·rintro i acc h' ⟨rfl,_⟩
  exact go
 ·rintro i w2 acc h' N hN e2 ⟨rfl,rfl⟩
  obtain ⟨t,et,rfl⟩:=tw_get e2
  refine ⟨[tw t],rfl,?_⟩
  show (match view h' w with
   | some ws=>(match atI ws 0 with
    | some w=>_
    | none=>False)
   | none=>False)
  rw [ev]
  dsimp only
  rw [a0]
  show by2 (plW 30 (tw t)&&plW 30 (tw t0)) (by2 (!eqW (tw t) (tw t0)) (N (_++[tw t]) h') _) False
  rw [pl_tw 29,pl_tw 29,yW]
  show by2 (!decide (t=t0)) _ _
  by_cases h0:t=t0
  ·refine by2_f (by simp [h0]) (hN _ _ ⟨rfl,?_⟩)
   rw [List.take_succ,et]
   simp [h0]
  ·refine yO (by simp [h0]) (hN _ _ ⟨rfl,?_⟩)
   rw [List.take_succ,et]
   simp [h0]
 ·rintro acc h' ⟨rfl,rfl⟩
  rw [List.length_map,List.take_length]
  exact q
def lH (c0:MSp):Prop:=∀ {h:Gh} {w:W} {ts:List Tr} {M:Nat} {Q:WK} {E:XWK},kO h w ts→ts.length≤1000→M≤4000→(∀ t∈ts,Pl t∧SmT M t)→Q (.bl (cV ts)) h→c0 [w] h Q E
theorem w_share {dot cr:MSp}(hdot:DotOk dot)(hcr:CrsOk cr):lH (mQ dot cr):=by
 intro h w ts M Q E e hl hM hs q
 show mLC ow1 [0] (nIt (ao 0)) (aY (mOp kNe (ao 0) (mOp kIx (ao 1) (mC (.int 0))))) (ao 0) [some w,none,none] h _
 match ts,e,hl,hs,q with
 | [],e,hl,hs,q=>
  obtain ⟨ev,s,es,ew,go⟩:=e.src
  rw [lR (all_two [] (by decide))] at q
  show (match sY h w with
   | some s=>_
   | none=>False)
  rw [es]
  show gH s.ws.length (jP s _ _ _ _ _ _ s.ws [] h)
  rw [ew]
  show s.go h _
  refine go _ ?_
  exact br_t rfl q
 | t0::r,e,hl,hs,q=>
  refine lc_unlike e hl ?_
  generalize hts:t0::r=ts at *
  have m0:t0∈ts:=by rw [←hts];simp
  have hus:∀ t,t∈ts.filter (·≠t0)↔t∈ts∧t≠t0:=fun t=>by rw [List.mem_filter];simp
  have hlu:(ts.filter (·≠t0)).length≤ts.length:=List.length_filter_le ..
  generalize ts.filter (·≠t0)=us at hus hlu
  match us,hus,hlu with
  | [],hus,_=>
   rw [lR (all_same (t0:=t0) fun t ht=>by
    by_cases e:t=t0
    ·exact e
    ·exact absurd ((hus t).mpr ⟨ht,e⟩) (by simp))] at q
   exact br_t rfl q
  | u::us,hus,hlu=>
   have hu:=(hus u).mp (by simp)
   refine yH rfl ?_
   obtain ⟨ev,s,es,ew,go⟩:=e.src
   show (match view h w with
    | some ws=>(match atI ws 0 with
     | some w=>_
     | none=>False)
    | none=>False)
   rw [ev]
   dsimp only
   rw [show atI (ts.map tw) 0=some (tw t0) by rw [←hts];exact vf _ _]
   show (match atI ((u::us).map tw) 0 with
    | some w=>_
    | none=>False)
   rw [vf]
   show cr [tw t0,tw u] h _ _
   refine hcr (m:=M) (by omega) (hs _ m0).2 (hs _ hu.1).2 ?_
   have sc:=gD (hs _ m0).2 (hs _ hu.1).2
   have it:=share_iff (u:=u) m0 hu.1 hu.2 fun t ht=>(hs t ht).1
   generalize crs t0 u=n at sc it
   generalize hvs:u::us=vs at *
   show mLC ow1 [2] (nIt (ao 1)) kh (mOp kEq (aU dot E (aq (ao 1) (aq (ao 0) aO))) (mC (.int 0))) [some w,some (.lst (vs.map tw)),some (tw n)] h _
   refine w_lcS (w:=.lst (vs.map tw)) (ws:=vs.map tw) rfl rfl (by rw [List.length_map];exact Nat.le_trans (Nat.le_trans hlu hl) (by decide)) ?_
   refine o9 (fun i acc h'=>h'=h∧acc=((vs.take i).map fun t=>dt3 n t==0).map W.bl) ?_ ?_ ⟨rfl,rfl⟩
   ·rintro i w2 acc h' N hN e2 ⟨rfl,rfl⟩
    obtain ⟨t,et,rfl⟩:=tw_get e2
    have mt:=(hus t).mp (List.mem_of_getElem? et)
    refine ⟨[tw t],rfl,?_⟩
    show dot [tw n,tw t] h' _ _
    refine hdot (m:=M+M+1) (by omega) sc ((hs t mt.1).2.mono (by omega)) ?_
    show N (_++[W.bl (eqW (.int (dt3 n t)) (.int 0))]) h'
    rw [cH]
    refine hN _ _ ⟨rfl,?_⟩
    rw [List.take_succ,et]
    simp
   ·rintro acc h' ⟨rfl,rfl⟩
    rw [List.length_map,List.take_length]
    show (match blsW ((vs.map fun t=>dt3 n t==0).map W.bl) with
     | some bs=>Q (.bl (bs.all id)) h'
     | none=>False)
    rw [vG]
    have ef:(vs.map fun t=>dt3 n t==0).all id=cV ts:=by
     by_cases H:AllP ts
     ·rw [lR H,List.all_eq_true]
      intro b hb
      obtain ⟨t,ht,rfl⟩:=List.mem_map.mp hb
      have:=it.mpr H t ((hus t).mp ht).1 ((hus t).mp ht).2
      simp [this]
     ·rw [flatB_f H]
      refine Bool.eq_false_iff.mpr fun hb=>H (it.mp fun t ht hne=>?_)
      rw [List.all_eq_true] at hb
      have:=hb _ (List.mem_map.mpr ⟨t,(hus t).mpr ⟨ht,hne⟩,rfl⟩)
      simpa using this
    dsimp only
    rw [ef]
    exact q
theorem zU {sh:MSp}(hsh:lH sh):lH (ug sh):=by
 intro h w ts M Q E e hl hM hs q
 show sh [w] h _ _
 exact hsh e hl hM hs q
theorem wJ {s:Src}{ws:List W}{g:MG}{b:MS}{D:bH}(I:Nat→Sw→Gh→Prop)(go:∀ i σ h,I i σ h→∀ P:Prop,P→s.go h P)
  (step:∀ (i:Nat) (w:W) (σ : Sw) (h:Gh) (N:Sw→Gh→Prop),(∀ σ' h',I (i+1) σ' h'→N σ' h')→ws[i]?=some w→I i σ h→g w σ h fun σ1 h1=>b { D with nx:=N,ct:=N,bk:=D.nx } σ1 h1)
  (fin:∀ σ h,I ws.length σ h→D.nx σ h):∀ {σ : Sw} {h:Gh},I 0 σ h→cR s g b D ws σ h:=by
 induction ws generalizing I with
 | nil=>intro σ h h0;exact go 0 σ h h0 _ (fin σ h h0)
 | cons w ws ih=>
  intro σ h h0
  refine go 0 σ h h0 _ ?_
  refine step 0 w σ h _ (fun σ' h' q=>?_) rfl h0
  exact ih (fun i=>I (i+1)) (fun i=>go (i+1)) (fun i w σ h N hN e hi=>step (i+1) w σ h N hN (by simpa using e) hi) (fun σ h q=>fin σ h q) q
theorem app_ok {h:Gh}{n:Nat}{us:List W}{w:W}{Q:WK}(e:h.c n=some (.lst us))(hz:us.length<sizeLine)(k:Q .non (h.set n (.lst (us++[w])))):cj (.loc n) [w] h Q:=by
 show (match h.c n with
  | some (Cell.lst us)=>_
  | _=>False)
 rw [e]
 exact ⟨hz,k⟩
theorem ext_ok {h:Gh}{n:Nat}{us zs:List W}{Q:WK}(e:h.c n=some (.lst us))(hz:us.length+zs.length≤sizeLine)(k:Q .non (h.set n (.lst (us++zs)))):fJ (.loc n) [.lst zs] h Q:=by
 dsimp only [fJ]
 rw [e]
 exact gH.mk hz k
abbrev Mt:=Tr×Tr×Tr
def vm (M:Mt)(v:Tr):Tr:=(dt3 M.1 v,dt3 M.2.1 v,dt3 M.2.2 v)
def tr (M:Mt):Mt:=((M.1.1,M.2.1.1,M.2.2.1),(M.1.2.1,M.2.1.2.1,M.2.2.2.1),(M.1.2.2,M.2.1.2.2,M.2.2.2.2))
def mm (M N:Mt):Mt:=(vm (tr N) M.1,vm (tr N) M.2.1,vm (tr N) M.2.2)
def cof (M:Mt):Mt:=(crs M.2.1 M.2.2,crs M.2.2 M.1,crs M.1 M.2.1)
def adj (M:Mt):Mt:=tr (cof M)
def det (M:Mt):Int:=dt3 (crs M.1 M.2.1) M.2.2
def sM (k:Int)(M:Mt):Mt:=(sc k M.1,sc k M.2.1,sc k M.2.2)
def idM:Mt:=((1,0,0),(0,1,0),(0,0,1))
theorem tr3 {p q:Tr}(h1:p.1=q.1)(h2:p.2.1=q.2.1)(h3:p.2.2=q.2.2):p=q:=Prod.ext h1 (Prod.ext h2 h3)
theorem mt3 {M N:Mt}(h1:M.1=N.1)(h2:M.2.1=N.2.1)(h3:M.2.2=N.2.2):M=N:=Prod.ext h1 (Prod.ext h2 h3)
theorem wD (x:Tr)(N:Mt)(v:Tr):dt3 (vm (tr N) x) v=dt3 x (vm N v):=by
 simp only [dt3,vm,tr]
 grind
theorem vm_mm (M N:Mt)(v:Tr):vm (mm M N) v=vm M (vm N v):=by
 simp only [mm]
 exact tr3 (wD _ _ _) (wD _ _ _) (wD _ _ _)
theorem sM_vm (M:Mt)(k:Int)(v:Tr):vm (sM k M) v=sc k (vm M v):=tr3 (wN _ _ _) (wN _ _ _) (wN _ _ _)
theorem id_vm (v:Tr):vm idM v=v:=by
 obtain ⟨a,b,c⟩:=v
 simp [vm,idM,dt3]
theorem adj_mm (M:Mt):mm (adj M) M=sM (det M) idM:=by
 obtain ⟨⟨a,b,c⟩,⟨d,e,f⟩,⟨g,h,i⟩⟩:=M
 simp only [mm,vm,adj,tr,cof,det,sM,idM,sc,dt3,crs]
 refine mt3 (tr3 ?_ ?_ ?_) (tr3 ?_ ?_ ?_) (tr3 ?_ ?_ ?_) <;> simp only <;> grind
theorem crs_vm (M:Mt)(p q:Tr):crs (vm M p) (vm M q)=vm (cof M) (crs p q):=by
 obtain ⟨⟨a,b,c⟩,⟨d,e,f⟩,⟨g,h,i⟩⟩:=M
 obtain ⟨p1,p2,p3⟩:=p
 obtain ⟨q1,q2,q3⟩:=q
 simp only [vm,cof,dt3,crs]
 refine tr3 ?_ ?_ ?_ <;> simp only <;> grind
theorem dt3_cof (M:Mt)(x v:Tr):dt3 (vm (cof M) x) (vm M v)=det M*dt3 x v:=by
 show dt3 (vm (tr (adj M)) x) (vm M v)=_
 rw [wD,←vm_mm,adj_mm,sM_vm,id_vm,dt3_scr,Int.mul_comm]
theorem det_vm (M:Mt)(p q r:Tr):dt3 (crs (vm M p) (vm M q)) (vm M r)=det M*dt3 (crs p q) r:=by rw [crs_vm,dt3_cof]
theorem det_sM (k:Int)(M:Mt):det (sM k M)=det M*(k*k*k):=by
 simp only [det,sM]
 rw [crs_sc,wN,dt3_scr]
 grind
theorem det_sM_ne {k:Int}{M:Mt}(hk:k≠0):det (sM k M)≠0↔det M≠0:=by
 rw [det_sM]
 have:k*k*k≠0:=fun h=>(Int.mul_eq_zero.mp h).elim (fun h=>(Int.mul_eq_zero.mp h).elim hk hk) hk
 rw [ne_eq,cg this]
def ml (M:Mt):List Int:=tl M.1++(tl M.2.1++tl M.2.2)
def mw (M:Mt):W:=.tup [.int M.1.1,.int M.1.2.1,.int M.1.2.2,.int M.2.1.1,.int M.2.1.2.1,.int M.2.1.2.2,.int M.2.2.1,.int M.2.2.2.1,.int M.2.2.2.2]
def mwl (M:Mt):W:=.lst [.int M.1.1,.int M.1.2.1,.int M.1.2.2,.int M.2.1.1,.int M.2.1.2.1,.int M.2.1.2.2,.int M.2.2.1,.int M.2.2.2.1,.int M.2.2.2.2]
def SmM (m:Nat)(M:Mt):Prop:=SmT m M.1∧SmT m M.2.1∧SmT m M.2.2
theorem yF {m n:Nat}{p q:Tr}(hp:SmT m p)(hq:SmT n q):Sm (m+n+2) (dt3 p q):=
 ((hp.1.mul hq.1).add (hp.2.1.mul hq.2.1)).add (hp.2.2.mul hq.2.2) |>.mono (by omega)
def oE (h:Gh)(w:W)(ns:List Int):Prop:=w=.lst (ns.map .int)∨w=.tup (ns.map .int)∨∃ n,w=.loc n∧h.c n=some (.lst (ns.map .int))
theorem oE.src {h:Gh}{w:W}{ns:List Int}(e:oE h w ns):∃ s:Src,sY h w=some s∧s.ws=ns.map .int∧∀ h',oE h' w ns→∀ P:Prop,P→s.go h' P:=by
 rcases e with rfl | rfl | ⟨n,rfl,e⟩
 ·exact ⟨_,rfl,rfl,fun _ _ _ p=>p⟩
 ·exact ⟨_,rfl,rfl,fun _ _ _ p=>p⟩
 ·refine ⟨⟨ns.map .int,some (n,ns.map .int)⟩,by simp only [sY,e],rfl,fun h' e' P p=>⟨?_,p⟩⟩
  rcases e' with e' | e' | ⟨m,e',q⟩
  ·cases e'
  ·cases e'
  ·cases e';exact q
theorem for_ints {i:Nat}{g:MG}{b:MS}{D:bH}{σ : Sw}{h:Gh}{w:W}{ns:List Int}(hv:σ[i]?=some (some w))(e:oE h w ns)(I:Nat→Sw→Gh→Prop)
  (go:∀ i σ h',I i σ h'→oE h' w ns)
  (step:∀ (i:Nat) (t:Int) (σ : Sw) (h:Gh) (N:Sw→Gh→Prop),(∀ σ' h',I (i+1) σ' h'→N σ' h')→ns[i]?=some t→I i σ h→g (.int t) σ h fun σ1 h1=>b { D with nx:=N,ct:=N,bk:=D.nx } σ1 h1)
  (fin:∀ σ h,I ns.length σ h→D.nx σ h) (h0:I 0 σ h):kW (nIt (ao i)) g b D σ h:=by
 unfold kW nIt ao
 rw [hv]
 dsimp only
 obtain ⟨s,es,ew,hg⟩:=e.src
 rw [es]
 show cR s g b D s.ws σ h
 rw [ew]
 refine wJ I (fun i σ h' hi=>hg h' (go i σ h' hi)) (fun i w σ h N hN e hi=>?_) (fun σ h q=>fin σ h (by rwa [List.length_map] at q)) h0
 obtain ⟨t,et,rfl⟩:=ints_get e
 exact step i t σ h N hN et hi
theorem vZ {i:Nat}{ix:List Nat}{tt:MT}{te:ME}{σ : Sw}{h:Gh}{Q:WK}{w:W}{ns:List Int}(hv:σ[i]?=some (some w))(e:oE h w ns)(hz:ns.length≤sizeLine)(I:Nat→List W→Gh→Prop)
  (go:∀ i acc h',I i acc h'→oE h' w ns)
  (step:∀ (i:Nat) (t:Int) (acc:List W) (h:Gh) (N:List W→Gh→Prop),(∀ acc' h',I (i+1) acc' h'→N acc' h')→ns[i]?=some t→I i acc h →
   tt (some (.int t)::mG ix σ) h fun c h1=>by2 c (te (some (.int t)::mG ix σ) h1 fun v h2=>N (acc++[v]) h2) (N acc h1))
  (fin:∀ acc h,I ns.length acc h→Q (.lst acc) h) (h0:I 0 [] h):mLC ow1 ix (nIt (ao i)) tt te σ h Q:=by
 unfold mLC nIt ao
 rw [hv]
 dsimp only
 obtain ⟨s,es,ew,hg⟩:=e.src
 rw [es]
 show gH s.ws.length (jP s ow1 ix tt te σ Q s.ws [] h)
 rw [ew]
 refine gH.mk (by rw [List.length_map];exact hz) ?_
 refine z8 I (fun i acc h' hi=>hg h' (go i acc h' hi)) (fun i w acc h N hN e hi=>?_) (fun acc h q=>fin acc h (by rwa [List.length_map] at q)) h0
 obtain ⟨t,et,rfl⟩:=ints_get e
 exact ⟨[.int t],rfl,step i t acc h N hN et hi⟩
def qx (c:MSp):Prop:=∀ {h:Gh} {w:W} {ns:List Int} {Q:WK} {E:XWK},oE h w ns→Q (.int (gL ns)) h→c [w] h Q E
def PlnH (c0:MSp):Prop:=∀ {h:Gh} {w:W} {ns:List Int} {m:Nat} {Q:WK} {E:XWK},oE h w ns→NZ ns→(∀ n∈ns,Sm m n)→m≤8000→ns.length≤1000 →
 (∀ (ms:List Int) (k:Int),k≠0→ns=ms.map (· * k)→PlL ms→(∀ n∈ms,Sm m n)→Q (.tup (ms.map .int)) h)→c0 [w] h Q E
theorem z7 {ld:MSp}(hld:qx ld):PlnH (rY ld):=by
 intro h w ns m Q E hw h0 hs hm hl q
 have hg0:=gL_ne h0
 have hgs:Sm m (gL ns):=gL_sm hs
 have hz:ns.length≤sizeLine:=Nat.le_trans hl (by decide)
 have fin:∀ by',(by'=if dB ns<0 then 0 - gL ns else gL ns)→mj ld E { nx:=fun _ h'=>Q .non h',rt:=fun w h'=>Q w h' } [some w,some (.int by')] h:=by
  intro by' e
  obtain ⟨hn,pl,eq⟩:=plainL h0 e
  have hbs:Sm m by':=by refine hgs.le ?_;rw [e];split <;> omega
  show mLC ow1 [1] (nIt (ao 0)) kh (mOp kDiv (ao 0) (ao 1)) [some w,some (.int by')] h _
  refine vZ (w:=w) (ns:=ns) rfl hw hz (fun i acc h'=>h'=h∧acc=((ns.take i).map (·.fdiv by')).map W.int) (fun i acc h' e=>by rw [e.1];exact hw) ?_ ?_ ⟨rfl,rfl⟩
  ·rintro i t acc h' N hN et ⟨rfl,rfl⟩
   refine And.intro ⟨hn,m,hm,hbs⟩ ?_
   refine hN _ _ ⟨rfl,?_⟩
   rw [List.take_succ,et]
   simp
  ·rintro acc h' ⟨rfl,rfl⟩
   rw [List.take_length]
   exact q _ by' hn eq pl (wk hs hn eq)
 refine hld hw ?_
 show mLC ow1 [] (nIt (ao 0)) (aY (mOp kNe (ao 0) (mC (.int 0)))) (ao 0) [some w,some (.int (gL ns))] h _
 refine vZ (w:=w) (ns:=ns) rfl hw hz (fun i acc h'=>h'=h∧acc=((ns.take i).filter (·≠0)).map W.int) (fun i acc h' e=>by rw [e.1];exact hw) ?_ ?_ ⟨rfl,rfl⟩
 ·rintro i n acc h' N hN en ⟨rfl,rfl⟩
  show by2 (!eqW (.int n) (.int 0)) (N (_++[W.int n]) h') _
  rw [cH]
  by_cases h0:n=0
  ·refine by2_f (by simp [h0]) (hN _ _ ⟨rfl,?_⟩)
   rw [List.take_succ,en]
   simp [h0]
  ·refine yO (by simp [h0]) (hN _ _ ⟨rfl,?_⟩)
   rw [List.take_succ,en]
   simp [h0]
 ·rintro acc h' ⟨rfl,rfl⟩
  rw [List.take_length]
  have el:=yd h0
  generalize (ns.filter (·≠0)).map W.int=F at el
  show (match atI F (-1) with
    | some w=>_
    | none=>False)
  rw [el]
  refine zK (fun hl=>?_) (fun hl=>?_)
  ·exact fin _ (by rw [if_pos hl])
  ·exact fin _ (by rw [if_neg hl])
def lw (t:Tr):W:=.lst [.int t.1,.int t.2.1,.int t.2.2]
def rwB (b:Bool)(t:Tr):W:=if b then tw t else lw t
def MwB (b:Bool)(M:Mt):W:=if b then mw M else mwl M
def CrsG (c0:MSp):Prop:=∀ {h:Gh} {p q:Tr} {m:Nat} {Q:WK} {E:XWK} (b b':Bool),m≤10000→SmT m p→SmT m q→Q (tw (crs p q)) h→c0 [rwB b p,rwB b' q] h Q E
def DotG (c0:MSp):Prop:=∀ {h:Gh} {p q:Tr} {m:Nat} {Q:WK} {E:XWK} (b b':Bool),m≤10000→SmT m p→SmT m q→Q (.int (dt3 p q)) h→c0 [rwB b p,rwB b' q] h Q E
theorem w_crossG:CrsG vR:=by
 intro h p q m Q E b b' hm hp hq k
 obtain ⟨x,y,z⟩:=q
 obtain ⟨a,b2,c⟩:=p
 obtain ⟨ha,hb,hc⟩:=hp
 obtain ⟨hx,hy,hz⟩:=hq
 simp only at ha hb hc hx hy hz
 cases b <;> cases b'
 ·((conv=>whnf);repeat (refine And.intro (by exact eH.of (by trivial) (by trivial) (by omega) (by omega)) ?_;conv=>whnf))
  exact k
 ·((conv=>whnf);repeat (refine And.intro (by exact eH.of (by trivial) (by trivial) (by omega) (by omega)) ?_;conv=>whnf))
  exact k
 ·((conv=>whnf);repeat (refine And.intro (by exact eH.of (by trivial) (by trivial) (by omega) (by omega)) ?_;conv=>whnf))
  exact k
 ·((conv=>whnf);repeat (refine And.intro (by exact eH.of (by trivial) (by trivial) (by omega) (by omega)) ?_;conv=>whnf))
  exact k
theorem w_dotG:DotG r_dot:=by
 intro h p q m Q E b b' hm hp hq k
 obtain ⟨x,y,z⟩:=q
 obtain ⟨a,b2,c⟩:=p
 obtain ⟨ha,hb,hc⟩:=hp
 obtain ⟨hx,hy,hz⟩:=hq
 simp only at ha hb hc hx hy hz
 cases b <;> cases b'
 ·((conv=>whnf);repeat (refine And.intro (by exact eH.of (by trivial) (by trivial) (by omega) (by omega)) ?_;conv=>whnf))
  exact k
 ·((conv=>whnf);repeat (refine And.intro (by exact eH.of (by trivial) (by trivial) (by omega) (by omega)) ?_;conv=>whnf))
  exact k
 ·((conv=>whnf);repeat (refine And.intro (by exact eH.of (by trivial) (by trivial) (by omega) (by omega)) ?_;conv=>whnf))
  exact k
 ·((conv=>whnf);repeat (refine And.intro (by exact eH.of (by trivial) (by trivial) (by omega) (by omega)) ?_;conv=>whnf))
  exact k
def RowsOk (c0:MSp):Prop:=∀ {h:Gh} {M:Mt} {Q:WK} {E:XWK} (b:Bool),Q (.lst [rwB b M.1,rwB b M.2.1,rwB b M.2.2]) h→c0 [MwB b M] h Q E
theorem w_rows:RowsOk tX:=by
  intro h M Q E b k
  cases b
  · exact k
  · first
    | exact k
    | (refine And.intro (by decide:¬ ((0:Nat)=0∧(3:Nat)=9)) (And.intro (by decide:¬ ((3:Nat)=0∧(6:Nat)=9)) (And.intro (by decide:¬ ((6:Nat)=0∧(9:Nat)=9)) ?_))
       exact k)
def SizeOk (c0:MSp):Prop:=∀ {h:Gh} {M:Mt} {m:Nat} {Q:WK} {E:XWK} (b:Bool),m≤4000→SmM m M→Q (.int (det M)) h→c0 [MwB b M] h Q E
def TurnG (c0:MSp):Prop:=∀ {h:Gh} {p q r:Tr} {m:Nat} {Q:WK} {E:XWK} (b:Bool),m≤4000→SmT m p→SmT m q→SmT m r→Q (.int (dt3 (crs p q) r)) h→c0 [rwB b p,rwB b q,rwB b r] h Q E
theorem w_turnG {dt cr:MSp}(hdt:DotG dt)(hcr:CrsG cr):TurnG (r_turn dt cr):=by
 intro h p q r m Q E b hm hp hq hr k
 show cr [rwB b p,rwB b q] h _ _
 refine hcr (m:=m) b b (by omega) hp hq ?_
 show dt [rwB true (crs p q),rwB b r] h _ _
 exact hdt (m:=m+m+1) true b (by omega) (gD hp hq) (hr.mono (by omega)) k
theorem w_size {tu ro:MSp}(htu:TurnG tu)(hro:RowsOk ro):SizeOk (sJ tu ro):=by
 intro h M m Q E b hm hs k
 show ro [MwB b M] h _ _
 refine hro b ?_
 show tu [rwB b M.1,rwB b M.2.1,rwB b M.2.2] h _ _
 exact htu b hm hs.1 hs.2.1 hs.2.2 k
theorem c32:(10:Int)^(32:Int).toNat=100000000000000000000000000000000:=by decide
theorem c30:(10:Int)^(30:Int).toNat=1000000000000000000000000000000:=by decide
theorem c9:(10:Int)^(9:Int).toNat=1000000000:=by decide
def qI (c:MSp):Prop:=∀ {h:Gh} {ns:List Int} {k:Int} {Q:WK} {E:XWK},0≤k→Q (.int (ns.getD k.toNat 0)) h→c [.kls (ns.map .int),.int k] h Q E
theorem w_cell:qI wL:=by
 intro h ns k Q E h0 q
 show br (decide (k<((ns.map W.int).length:Int))) _ _
 refine zK (fun hk=>?_) (fun hk=>?_)
 ·conv=>whnf
  rw [atI_ints h0 hk]
  exact q
 ·have e:ns.getD k.toNat 0=0:=by
   rw [List.getD_eq_getElem?_getD,List.getElem?_eq_none (by rw [List.length_map] at hk;omega)];rfl
  rw [e] at q
  exact q
theorem dj (a:Int){b:Int}(h:0<b):0≤a.fmod b∧a.fmod b<b:=by
 rw [fmod_pos h];exact ⟨Int.emod_nonneg _ (by omega),Int.emod_lt_of_pos _ h⟩
def DrawsOk (c:MSp):Prop:=∀ {h:Gh} {ns:List Int} {k many:Int} {Q:WK} {E:XWK},0≤k→k≤1000→0≤many→many≤1000 →
 (∀ xs:List Int,(xs.length:Int)=many→Q (.lst (xs.map .int)) h)→c [.kls (ns.map .int),.int k,.int many] h Q E
theorem w_draws {cl:MSp}(hcl:qI cl):DrawsOk (sE cl):=by
 intro h ns k many Q E k0 k1 m0 m1 q
 show cl [.kls (ns.map .int),.int k] h _ _
 refine hcl k0 ?_
 generalize ns.getD k.toNat 0=left
 have p62:(2:Int)^62=4611686018427387904:=by decide
 refine And.intro (.of (m:=64) (n:=10) (.lit rfl) (iT (by omega) (by omega)) (by decide) (by decide)) ?_
 refine And.intro (.of (m:=64) (n:=10) (.lit rfl) (iT (by omega) (by omega)) (by decide) (by decide)) ?_
 refine And.intro (show (4294967291:Int)≠0 by decide) ?_
 generalize decide (107*many<(Builtin.Int.intBits left:Nat))=free
 obtain ⟨s0,s1⟩:=dj (left+7919*k+11) (b:=4294967291) (by decide)
 generalize (left+7919*k+11).fmod 4294967291=seed at *
 dsimp only [nName,bA,bK,sH,aO]
 refine gH.mk (by decide) ?_
 have f32:(10:Int)^(32:Int).toNat≠0:=by rw [c32];decide
 have s32:Sm 8000 ((10:Int)^(32:Int).toNat):=by rw [c32];unfold Sm;decide +kernel
 refine for_rng (j:=many) (fun _=>rfl) (by omega) (by omega) (fun i σ h'=>∃ (xs:List Int) (left seed:Int) (o7 o8:Option W),xs.length=i∧0≤seed∧seed<4294967291∧h'.c h.nx=some (.lst (xs.map .int))∧(∀ n,n≠h.nx→h'.c n=h.c n) ∧
  σ = [some (.kls (ns.map .int)),some (.int k),some (.int many),some (.int left),some (.bl free),some (.int seed),some (.loc h.nx),o7,o8]) ?_ ?_ ⟨[],left,seed,none,none,rfl,s0,s1,new_c _ _,fun n hn=>wA hn,rfl⟩
 ·rintro i σ h' N hN hi ⟨xs,left,seed,o7,o8,hl,s0,s1,hc,ho,rfl⟩
  have hi:(i:Int)<many:=by omega
  have sz:(xs.map W.int).length<sizeLine:=by rw [List.length_map,hl];exact Nat.lt_of_lt_of_le (show i<1000 by omega) (by decide)
  have app:∀ (x:Int) (left' seed':Int) (o7 o8:Option W),0≤seed'→seed'<4294967291→N [some (.kls (ns.map .int)),some (.int k),some (.int many),some (.int left'),some (.bl free),some (.int seed'),some (.loc h.nx),o7,o8] (h'.set h.nx (.lst (xs.map .int++[.int x]))):=by
   intro x left' seed' o7 o8 h0 h1
   refine hN _ _ ⟨xs++[x],left',seed',o7,o8,by simp [hl],h0,h1,by rw [set_c];simp,fun n hn=>by rw [uE hn];exact ho n hn,rfl⟩
  refine ⟨fun _=>?_,fun _=>?_⟩
  ·show (match h'.c h.nx with
    | some (Cell.lst us)=>_
    | _=>False)
   rw [hc]
   refine And.intro ⟨by decide,by decide,by decide⟩ (And.intro f32 ?_)
   show (match h'.c h.nx with
    | some (Cell.lst us)=>_
    | _=>False)
   rw [hc]
   refine And.intro sz ?_
   refine And.intro ⟨by decide,by decide,by decide⟩ (And.intro ⟨f32,8000,by decide,s32⟩ ?_)
   exact app _ _ _ _ _ s0 s1
  ·refine And.intro (.of (m:=32) (n:=64) (iT (by omega) (by omega)) (.lit rfl) (by decide) (by decide)) ?_
   refine And.intro (.of (m:=10) (n:=10) (iT (by omega) (by omega)) (iT (by omega) (by omega)) (by decide) (by decide)) ?_
   refine And.intro (show (4294967291:Int)≠0 by decide) ?_
   obtain ⟨t0,t1⟩:=dj (seed*69069+362437+(i:Int)*(i:Int)) (b:=4294967291) (by decide)
   generalize (seed*69069+362437+(i:Int)*(i:Int)).fmod 4294967291=sd at *
   refine And.intro ⟨by decide,64,by decide,.lit rfl⟩ ?_
   have d0:0≤sd.fdiv 4096:=by rw [yp (by decide)];omega
   have d1:sd.fdiv 4096<4294967291:=by rw [yp (by decide)];omega
   refine And.intro (.of (m:=32) (n:=40) (iT (by omega) (by omega)) (iT (by omega) (by omega)) (by decide) (by decide)) ?_
   refine And.intro (show (999999999989:Int)≠0 by decide) ?_
   obtain ⟨n0,n1⟩:=dj (sd*(sd.fdiv 4096+(i:Int)+1)) (b:=999999999989) (by decide)
   generalize (sd*(sd.fdiv 4096+(i:Int)+1)).fmod 999999999989=nr at *
   show (match h'.c h.nx with
    | some (Cell.lst us)=>_
    | _=>False)
   rw [hc]
   have sn:Sm 41 nr:=iT (by omega) (by omega)
   have sn7:Sm 41 (nr+7):=iT (by omega) (by omega)
   refine And.intro (.of sn sn7 (by decide) (by decide)) ?_
   refine And.intro (.of (n:=33) (sn.mul sn7) (iT (by omega) (by omega)) (by decide) (by decide)) ?_
   refine And.intro ⟨by decide,by decide,by decide⟩ (And.intro f32 ?_)
   show (match h'.c h.nx with
    | some (Cell.lst us)=>_
    | _=>False)
   rw [hc]
   exact And.intro sz (app _ _ _ _ _ t0 t1)
 ·rintro σ h' ⟨xs,left,seed,o7,o8,hl,s0,s1,hc,ho,rfl⟩
  refine ⟨fun n c hn e=>by rw [ho n (by omega)];exact e,.inr ⟨h.nx,_,rfl,Nat.le_refl _,hc,?_,q xs (by omega)⟩⟩
  have:∀ ys:List Int,Los h.nx (ys.map W.int):=fun ys=>by
   induction ys with
   | nil=>exact trivial
   | cons y ys ih=>exact ⟨trivial,ih⟩
  exact this xs
def NumOk4 (c:MSp):Prop:=∀ {h:Gh} {x:Int} {Q:WK} {E:XWK},(∀ y,Sm 101 y→Q (.int y) h)→c [.int x] h Q E
theorem w_num4:NumOk4 pG:=by
 intro h x Q E q
 have d4:CDivBN x 4:=⟨by decide,64,by decide,.lit rfl⟩
 have n4:(4:Int)≠0:=by decide
 refine And.intro d4 ?_
 refine And.intro n4 ?_
 refine ⟨fun _=>?_,fun _=>?_⟩
 ·refine And.intro (show (5:Int)≠0 by decide) ?_
  obtain ⟨a,b⟩:=dj (x.fdiv 4) (b:=5) (by decide)
  exact q _ ((iT (n:=10) (by omega) (by omega)).mono (by decide))
 refine And.intro n4 ?_
 refine ⟨fun _=>?_,fun _=>?_⟩
 ·refine And.intro (show (41:Int)≠0 by decide) ?_
  obtain ⟨a,b⟩:=dj (x.fdiv 4) (b:=41) (by decide)
  exact q _ ((iT (n:=10) (by omega) (by omega)).mono (by decide))
 refine And.intro n4 ?_
 refine ⟨fun _=>?_,fun _=>?_⟩
 ·refine And.intro ⟨by decide,by decide,by decide⟩ (And.intro (.of (m:=64) (n:=64) (.lit rfl) (.lit rfl) (by decide) (by decide)) (And.intro (by rw [c9];decide) (And.intro ⟨by decide,by decide,by decide⟩ ?_)))
  refine q _ ?_
  rw [c9]
  obtain ⟨a,b⟩:=dj (x.fdiv 4) (b:=2*1000000000) (by decide)
  exact (iT (n:=40) (by omega) (by omega)).mono (by decide)
 ·have s30:Sm 100 ((10:Int)^(30:Int).toNat):=by rw [c30];unfold Sm;decide +kernel
  refine And.intro ⟨by decide,by decide,by decide⟩ (And.intro (.of (m:=64) (n:=100) (.lit rfl) s30 (by decide) (by decide)) (And.intro (by rw [c30];decide) (And.intro ⟨by decide,by decide,by decide⟩ ?_)))
  refine q _ ?_
  rw [c30]
  obtain ⟨a,b⟩:=dj (x.fdiv 4) (b:=2*1000000000000000000000000000000) (by decide)
  exact iT (by omega) (by omega)
def tK (Q:Bool→Gh→Prop):WK:=fun w h=>match w with
 | .bl c=>Q c h
 | _=>False
def uK (Q:Bool→Gh→Prop):WK:=fun w h=>match truW h w with
 | some b=>Q b h
 | none=>False
def aK (b:ME)(σ : Sw)(Q:WK):WK:=fun x h=>match x with
 | .bl true=>b σ h Q
 | .bl false=>Q (.bl false) h
 | _=>False
def oK (b:ME)(σ : Sw)(Q:WK):WK:=fun x h=>match x with
 | .bl false=>b σ h Q
 | .bl true=>Q (.bl true) h
 | _=>False
def nK (Q:WK):WK:=fun x h=>match x with
 | .bl c=>Q (.bl (!c)) h
 | _=>False
def iK (R:Src→Gh→Prop):WK:=fun w h=>match sY h w with
 | some s=>R s h
 | none=>False
def xK (f:Str→Bool)(Q:WK):WK:=fun w h=>match w with
 | .exc n=>Q (.bl (f n)) h
 | _=>False
def pK (Q:Option Int→Gh→Prop):WK:=fun w h=>match w with
 | .int i=>Q (some i) h
 | _=>False
def forK (g:MG)(b:MS)(D:bH)(σ : Sw):Src→Gh→Prop:=fun s h=>cR s g b D s.ws σ h
def lcK (own:W→Option (List W))(ix:List Nat)(tt:MT)(te:ME)(σ : Sw)(Q:WK):Src→Gh→Prop:=fun s h=>gH s.ws.length (jP s own ix tt te σ Q s.ws [] h)
def rgK (R:Src→Gh→Prop):List W→Gh→Prop:=fun ws h=>match ws with
 | [.int j]=>uR j (R ⟨uT 0 j.toNat,none⟩ h)
 | _=>False
def zpK (R:Src→Gh→Prop):List W→Gh→Prop:=fun ws h=>match ws with
 | [x,y]=>(match zipS h x y with
  | some s=>R s h
  | none=>False)
 | _=>False
theorem dM {m u:MS}{D:bH}{σ : Sw}{h:Gh}(x:m { D with nx:=u D } σ h):bA m u D σ h:=x
theorem pP {N b c:Sw→Gh→Prop}{r:WK}{σ : Sw}{h:Gh}(x:N σ h):bH.nx ⟨N,r,b,c⟩ σ h:=x
theorem bk_s {N b c:Sw→Gh→Prop}{r:WK}{σ : Sw}{h:Gh}(x:b σ h):bH.bk ⟨N,r,b,c⟩ σ h:=x
theorem ct_s {N b c:Sw→Gh→Prop}{r:WK}{σ : Sw}{h:Gh}(x:c σ h):bH.ct ⟨N,r,b,c⟩ σ h:=x
theorem rt_s {N b c:Sw→Gh→Prop}{r:WK}{w:W}{h:Gh}(x:r w h):bH.rt ⟨N,r,b,c⟩ w h:=x
theorem lost_rt {D:bH}{w:W}{h:Gh}(x:D.rt w h):bH.rt (bH.lost D) w h:=x
theorem lost_nx {D:bH}{σ : Sw}{h:Gh}(x:D.nx (σ.map fun _=>none) h):bH.nx (bH.lost D) σ h:=x
theorem vV {D:bH}{σ : Sw}{h:Gh}(x:D.nx σ h):bN D σ h:=x
theorem nM {m:ME}{g:MG}{D:bH}{σ : Sw}{h:Gh}(x:m σ h fun w h1=>g w σ h1 D.nx):bK m g D σ h:=x
theorem wg {m:ME}{D:bH}{σ : Sw}{h:Gh}(x:m σ h fun _ h1=>D.nx σ h1):gC m D σ h:=x
theorem je {m:ME}{D:bH}{σ : Sw}{h:Gh}(x:m σ h D.rt):cu m D σ h:=x
theorem mRaise_s {c:Str}{E:XWK}{D:bH}{σ : Sw}{h:Gh}(x:E ⟨c,[]⟩ h):tQ c E D σ h:=x
theorem mIfS_s {t:MT}{a b:MS}{D:bH}{σ : Sw}{h:Gh}(x:t σ h fun c h1=>br c (a D σ h1) (b D σ h1)):dX t a b D σ h:=x
theorem mIf_s {t:MT}{a b:ME}{Q:WK}{σ : Sw}{h:Gh}(x:t σ h fun c h1=>br c (a σ h1 Q) (b σ h1 Q)):mIf t a b σ h Q:=x
theorem mTry_s {i:Nat}{d:Str}{mb:XWK→MS}{mh:MS}{D:bH}{σ : Sw}{h:Gh}(x:mb (fun x h'=>by2 (isX x.cls d) (mh D.lost (σ.set i (some (.exc x.cls))) h') False) D σ h):mTry i d mb mh D σ h:=x
theorem nTup2_s {n:Nat}{g:MGs}{w:W}{ws:List W}{σ : Sw}{h:Gh}{N:Sw→Gh→Prop}(e:w=.tup ws)(b:Nat.beq ws.length n=true)(x:g ws σ h N):nY n g w σ h N:=by
 subst e
 unfold nY
 dsimp only
 rw [b]
 exact x
theorem nTup2_l {n:Nat}{g:MGs}{w:W}{ws:List W}{σ : Sw}{h:Gh}{N:Sw→Gh→Prop}(e:w=.lst ws)(b:Nat.beq ws.length n=true)(x:g ws σ h N):nY n g w σ h N:=by
 subst e
 unfold nY
 dsimp only
 rw [b]
 exact x
theorem nTup_s {n:Nat}{g:MGs}{w:W}{ws:List W}{σ : Sw}{h:Gh}{N:Sw→Gh→Prop}(e:w=.tup ws)(b:Nat.beq ws.length n=true)(x:g ws σ h N):nTup n g w σ h N:=by
 subst e
 unfold nTup
 dsimp only
 rw [b]
 exact x
theorem nCons_s {g:MG}{r:MGs}{w:W}{ws:List W}{σ : Sw}{h:Gh}{N:Sw→Gh→Prop}(x:g w σ h fun σ1 h1=>r ws σ1 h1 N):fL g r (w::ws) σ h N:=x
theorem nNil_s {σ : Sw}{h:Gh}{N:Sw→Gh→Prop}(x:N σ h):nNil [] σ h N:=x
theorem bf {i:Nat}{w:W}{σ : Sw}{h:Gh}{Q:WK}(e:σ[i]?=some (some w))(x:Q w h):ao i σ h Q:=by
 unfold ao
 rw [e]
 exact x
theorem xR {w:W}{σ : Sw}{h:Gh}{Q:WK}(x:Q w h):mC w σ h Q:=x
theorem mF {r:M2}{ma mb:ME}{σ : Sw}{h:Gh}{Q:WK}(x:ma σ h fun a h1=>mb σ h1 fun b h2=>r a b h2 Q):mOp r ma mb σ h Q:=x
theorem mUn_s {r:W→Gh→WK→Prop}{ma:ME}{σ : Sw}{h:Gh}{Q:WK}(x:ma σ h fun a h1=>r a h1 Q):mUn r ma σ h Q:=x
theorem mNeg_s {i:Int}{h:Gh}{Q:WK}(x:Q (.int (-i)) h):mNeg (.int i) h Q:=x
theorem bG {a:ME}{r:MA}{σ : Sw}{h:Gh}{Q:List W→Gh→Prop}(x:a σ h fun w h1=>r σ h1 fun ws h2=>Q (w::ws) h2):aq a r σ h Q:=x
theorem bO {σ : Sw}{h:Gh}{Q:List W→Gh→Prop}(x:Q [] h):aO σ h Q:=x
theorem mK {n:Nat}{P:Prop}(e:Nat.ble n 1000=true)(x:P):gH n P:=by
 unfold gH
 rw [e]
 exact x
theorem zY {t:MA}{σ : Sw}{h:Gh}{Q:WK}(x:t σ h fun ws h1=>gH ws.length (Q (.tup ws) h1)):ux t σ h Q:=x
theorem mLst_s {t:MA}{σ : Sw}{h:Gh}{Q:WK}(x:t σ h fun ws h1=>gH ws.length (Q (.lst ws) h1)):mLst t σ h Q:=x
theorem qb {c:MSp}{E:XWK}{ma:MA}{σ : Sw}{h:Gh}{Q:WK}(x:ma σ h fun ws h1=>c ws h1 Q E):aU c E ma σ h Q:=x
theorem mCB_s {r:MC}{ma:MA}{σ : Sw}{h:Gh}{Q:WK}(x:ma σ h fun ws h1=>r ws h1 Q):mCB r ma σ h Q:=x
theorem nF {m:ME}{σ : Sw}{h:Gh}{Q:Bool→Gh→Prop}(x:m σ h (tK Q)):aY m σ h Q:=x
theorem tK_s {c:Bool}{h:Gh}{Q:Bool→Gh→Prop}(x:Q c h):tK Q (.bl c) h:=x
theorem mTru_s {m:ME}{σ : Sw}{h:Gh}{Q:Bool→Gh→Prop}(x:m σ h (uK Q)):mTru m σ h Q:=x
theorem uK_s {w:W}{b:Bool}{h:Gh}{Q:Bool→Gh→Prop}(e:truW h w=some b)(x:Q b h):uK Q w h:=by
 unfold uK
 rw [e]
 exact x
theorem mNot_s {t:MT}{σ : Sw}{h:Gh}{Q:Bool→Gh→Prop}(x:t σ h fun c h1=>Q (!c) h1):mNot t σ h Q:=x
theorem mAnd_s {t u:MT}{σ : Sw}{h:Gh}{Q:Bool→Gh→Prop}(x:t σ h fun c h1=>br c (u σ h1 Q) (Q false h1)):mAnd t u σ h Q:=x
theorem mOr_s {t u:MT}{σ : Sw}{h:Gh}{Q:Bool→Gh→Prop}(x:t σ h fun c h1=>br c (Q true h1) (u σ h1 Q)):mOr t u σ h Q:=x
theorem xG {σ : Sw}{h:Gh}{Q:Bool→Gh→Prop}(x:Q true h):kh σ h Q:=x
theorem mAndV_s {a b:ME}{σ : Sw}{h:Gh}{Q:WK}(x:a σ h (aK b σ Q)):mAndV a b σ h Q:=x
theorem mOrV_s {a b:ME}{σ : Sw}{h:Gh}{Q:WK}(x:a σ h (oK b σ Q)):mOrV a b σ h Q:=x
theorem mNotV_s {a:ME}{σ : Sw}{h:Gh}{Q:WK}(x:a σ h (nK Q)):mNotV a σ h Q:=x
theorem aK_s {b:ME}{σ : Sw}{h:Gh}{Q:WK}{c:Bool}(x:br c (b σ h Q) (Q (.bl false) h)):aK b σ Q (.bl c) h:=by
 cases c with
 | true=>exact x.1 rfl
 | false=>exact x.2 rfl
theorem oK_s {b:ME}{σ : Sw}{h:Gh}{Q:WK}{c:Bool}(x:br c (Q (.bl true) h) (b σ h Q)):oK b σ Q (.bl c) h:=by
 cases c with
 | true=>exact x.1 rfl
 | false=>exact x.2 rfl
theorem nK_s {h:Gh}{Q:WK}{c:Bool}(x:Q (.bl (!c)) h):nK Q (.bl c) h:=x
theorem mIsX_s {f:Str→Bool}{m:ME}{σ : Sw}{h:Gh}{Q:WK}(x:m σ h (xK f Q)):mIsX f m σ h Q:=x
theorem xK_s {f:Str→Bool}{n:Str}{h:Gh}{Q:WK}(x:Q (.bl (f n)) h):xK f Q (.exc n) h:=x
theorem br_ts {a b:Prop}(x:a):br true a b:=br_t rfl x
theorem br_fs {a b:Prop}(x:b):br false a b:=yH rfl x
theorem br_nts {a b:Prop}(x:b):br (!true) a b:=br_fs x
theorem br_nfs {a b:Prop}(x:a):br (!false) a b:=br_ts x
theorem by2_ts {a b:Prop}(x:a):by2 true a b:=x
theorem by2_fs {a b:Prop}(x:b):by2 false a b:=x
theorem kSub_s {i j:Int}{h:Gh}{Q:WK}(x:Q (.int (i - j)) h):nU (.int i) (.int j) h Q:=x
theorem kAddA_s {i j:Int}{h:Gh}{Q:WK}(x:Q (.int (i+j)) h):cJ (.int i) (.int j) h Q:=x
theorem kMul_s {i j:Int}{h:Gh}{Q:WK}(c:eH i j)(x:Q (.int (i*j)) h):bY (.int i) (.int j) h Q:=⟨c,x⟩
theorem jZ {i j:Int}{h:Gh}{Q:WK}(c:j≠0)(x:Q (.int (i.fmod j)) h):gZ (.int i) (.int j) h Q:=⟨c,x⟩
theorem kLt_s {i j:Int}{h:Gh}{Q:WK}(x:Q (.bl (decide (i<j))) h):kLt (.int i) (.int j) h Q:=x
theorem kGt_s {i j:Int}{h:Gh}{Q:WK}(x:Q (.bl (decide (i>j))) h):kGt (.int i) (.int j) h Q:=x
theorem kEq_i {i j:Int}{h:Gh}{Q:WK}(x:Q (.bl (decide (i=j))) h):kEq (.int i) (.int j) h Q:=by
 have e:eqW (.int i) (.int j)=decide (i=j):=cH i j
 show Q (.bl (eqW (.int i) (.int j))) h
 rw [e]
 exact x
theorem kNe_i {i j:Int}{h:Gh}{Q:WK}(x:Q (.bl (decide (i≠j))) h):kNe (.int i) (.int j) h Q:=by
 have e:(!eqW (.int i) (.int j))=decide (i≠j):=by rw [cH];by_cases z:i=j <;> simp [z]
 show Q (.bl (!eqW (.int i) (.int j))) h
 rw [e]
 exact x
theorem kEq_b {i j:Bool}{h:Gh}{Q:WK}(x:Q (.bl (decide (i=j))) h):kEq (.bl i) (.bl j) h Q:=by
 have e:eqW (.bl i) (.bl j)=decide (i=j):=by rw [eqW];cases i <;> cases j <;> rfl
 show Q (.bl (eqW (.bl i) (.bl j))) h
 rw [e]
 exact x
theorem kNe_b {i j:Bool}{h:Gh}{Q:WK}(x:Q (.bl (decide (i≠j))) h):kNe (.bl i) (.bl j) h Q:=by
 have e:(!eqW (.bl i) (.bl j))=decide (i≠j):=by rw [eqW];cases i <;> cases j <;> rfl
 show Q (.bl (!eqW (.bl i) (.bl j))) h
 rw [e]
 exact x
theorem kEq_t {p q:Tr}{h:Gh}{Q:WK}(x:Q (.bl (decide (p=q))) h):kEq (tw p) (tw q) h Q:=by
 show Q (.bl (eqW (tw p) (tw q))) h
 rw [yW]
 exact x
theorem kNe_t {p q:Tr}{h:Gh}{Q:WK}(x:Q (.bl (decide (p≠q))) h):kNe (tw p) (tw q) h Q:=by
 have e:(!eqW (tw p) (tw q))=decide (p≠q):=by rw [yW];by_cases z:p=q <;> simp [z]
 show Q (.bl (!eqW (tw p) (tw q))) h
 rw [e]
 exact x
theorem kEq_0 {p:Tr}{a b c:Int}{h:Gh}{Q:WK}(x:Q (.bl (decide (p=(a,b,c)))) h):kEq (tw p) (.tup [.int a,.int b,.int c]) h Q:=kEq_t (q:=(a,b,c)) x
theorem kNe_0 {p:Tr}{a b c:Int}{h:Gh}{Q:WK}(x:Q (.bl (decide (p≠(a,b,c)))) h):kNe (tw p) (.tup [.int a,.int b,.int c]) h Q:=kNe_t (q:=(a,b,c)) x
theorem yJ {x w:W}{i:Int}{ws:List W}{h:Gh}{Q:WK}(e:view h x=some ws)(a:atI ws i=some w)(k:Q w h):kIx x (.int i) h Q:=by
 unfold kIx
 dsimp only
 rw [e]
 dsimp only
 rw [a]
 exact k
theorem kIsi_s {w:W}{T:String}{b:Bool}{h:Gh}{Q:WK}(e:isiW h w T=some b)(x:Q (.bl b) h):kIsi [w,.ty T] h Q:=by
 unfold kIsi
 dsimp only
 rw [e]
 exact x
theorem kLen_s {w:W}{xs:List W}{h:Gh}{Q:WK}(e:view h w=some xs)(x:Q (.int (xs.length:Int)) h):kLen [w] h Q:=by
 unfold kLen
 dsimp only
 rw [e]
 exact x
theorem kTuple_l {us:List W}{h:Gh}{Q:WK}(x:Q (.tup us) h):rQ [.lst us] h Q:=x
theorem kAny_s {w:W}{us:List W}{bs:List Bool}{h:Gh}{Q:WK}(e:cX h w=some us)(b:blsW us=some bs)(x:Q (.bl (bs.any id)) h):kAny [w] h Q:=by
 unfold kAny
 dsimp only
 rw [e]
 dsimp only
 rw [b]
 exact x
theorem kAll_s {w:W}{us:List W}{bs:List Bool}{h:Gh}{Q:WK}(e:cX h w=some us)(b:blsW us=some bs)(x:Q (.bl (bs.all id)) h):kAll [w] h Q:=by
 unfold kAll
 dsimp only
 rw [e]
 dsimp only
 rw [b]
 exact x
theorem kSum_s {w:W}{us:List W}{ns:List Int}{h:Gh}{Q:WK}(e:cX h w=some us)(b:yR us=some ns)(x:Q (.int ns.sum) h):kSum [w] h Q:=by
 unfold kSum
 dsimp only
 rw [e]
 dsimp only
 rw [b]
 exact x
theorem kAbs_s {i:Int}{h:Gh}{Q:WK}(x:Q (.int (if i<0 then -i else i)) h):kAbs [.int i] h Q:=x
theorem kInt_b {b:Bool}{h:Gh}{Q:WK}(x:Q (.int (if b then 1 else 0)) h):kInt [.bl b] h Q:=x
theorem iQ {mi:MI}{g:MG}{b:MS}{D:bH}{σ : Sw}{h:Gh}(x:mi σ h (forK g b D σ)):kW mi g b D σ h:=x
theorem iM {ws:List W}{o:Option (Nat×List W)}{g:MG}{b:MS}{D:bH}{σ : Sw}{h:Gh}(x:cR ⟨ws,o⟩ g b D ws σ h):forK g b D σ ⟨ws,o⟩ h:=x
theorem mJ {ws:List W}{g:MG}{b:MS}{D:bH}{σ : Sw}{h:Gh}(x:D.nx σ h):cR ⟨ws,none⟩ g b D [] σ h:=x
theorem bI {ws r:List W}{w:W}{g:MG}{b:MS}{D:bH}{σ : Sw}{h:Gh}(x:g w σ h fun σ1 h1=>b { D with nx:=cR ⟨ws,none⟩ g b D r,ct:=cR ⟨ws,none⟩ g b D r,bk:=D.nx } σ1 h1):cR ⟨ws,none⟩ g b D (w::r) σ h:=x
theorem nIt_s {m:ME}{R:Src→Gh→Prop}{σ : Sw}{h:Gh}(x:m σ h (iK R)):nIt m σ h R:=x
theorem iK_s {w:W}{ws:List W}{o:Option (Nat×List W)}{h:Gh}{R:Src→Gh→Prop}(e:sY h w=some ⟨ws,o⟩)(x:R ⟨ws,o⟩ h):iK R w h:=by
 unfold iK
 rw [e]
 exact x
theorem fH {ma:MA}{R:Src→Gh→Prop}{σ : Sw}{h:Gh}(x:ma σ h (rgK R)):gY ma σ h R:=x
theorem rgK_3 {R:Src→Gh→Prop}{h:Gh}(x:R ⟨[.int 0,.int 1,.int 2],none⟩ h):rgK R [.int 3] h:=x
theorem rgK_2 {R:Src→Gh→Prop}{h:Gh}(x:R ⟨[.int 0,.int 1],none⟩ h):rgK R [.int 2] h:=x
theorem nZip_s {ma:MA}{R:Src→Gh→Prop}{σ : Sw}{h:Gh}(x:ma σ h (zpK R)):nZip ma σ h R:=x
theorem zpK_s {a b:W}{as bs:List W}{zs:List W}{R:Src→Gh→Prop}{h:Gh}(e:oh a=some as)(e':oh b=some bs)(z:nQ as bs=zs)(x:R ⟨zs,none⟩ h):zpK R [a,b] h:=by
 subst z
 have es:zipS h a b=some ⟨nQ as bs,none⟩:=by unfold zipS;rw [e,e']
 unfold zpK
 dsimp only
 rw [es]
 exact x
theorem zpK_c {n:Nat}{b:W}{as bs:List W}{zs:List W}{R:Src→Gh→Prop}{h:Gh}(e:h.c n=some (.lst as))(e':oh b=some bs)(z:nQ as bs=zs)(x:R ⟨zs,some (n,as)⟩ h):zpK R [.loc n,b] h:=by
 subst z
 have es:zipS h (.loc n) b=some ⟨nQ as bs,some (n,as)⟩:=by unfold zipS;rw [e'];dsimp only [oh];rw [e]
 unfold zpK
 dsimp only
 rw [es]
 exact x
theorem zip0 {bs:List W}:nQ [] bs=[]:=by cases bs <;> rfl
theorem zip1 {a:W}{as:List W}:nQ (a::as) []=[]:=rfl
theorem zipC {a b:W}{as bs l:List W}(e:nQ as bs=l):nQ (a::as) (b::bs)=.tup [a,b]::l:=by rw [nQ,e]
theorem mLC_s {own:W→Option (List W)}{ix:List Nat}{mi:MI}{tt:MT}{te:ME}{σ : Sw}{h:Gh}{Q:WK}(x:mi σ h (lcK own ix tt te σ Q)):mLC own ix mi tt te σ h Q:=x
theorem lcK_s {ws:List W}{o:Option (Nat×List W)}{own:W→Option (List W)}{ix:List Nat}{tt:MT}{te:ME}{σ : Sw}{h:Gh}{Q:WK}(e:Nat.ble ws.length 1000=true)(x:jP ⟨ws,o⟩ own ix tt te σ Q ws [] h):lcK own ix tt te σ Q ⟨ws,o⟩ h:=mK e x
theorem mLCL_n {ws acc:List W}{own:W→Option (List W)}{ix:List Nat}{tt:MT}{te:ME}{σ : Sw}{h:Gh}{Q:WK}(x:Q (.lst acc) h):jP ⟨ws,none⟩ own ix tt te σ Q [] acc h:=x
theorem mLCL_c {ws r acc vs:List W}{w:W}{own:W→Option (List W)}{ix:List Nat}{tt:MT}{te:ME}{σ : Sw}{h:Gh}{Q:WK}(e:own w=some vs)(x:tt (vs.map some++mG ix σ) h fun c h1=>by2 c (te (vs.map some++mG ix σ) h1 fun v h2=>jP ⟨ws,none⟩ own ix tt te σ Q r (acc++[v]) h2) (jP ⟨ws,none⟩ own ix tt te σ Q r acc h1)):jP ⟨ws,none⟩ own ix tt te σ Q (w::r) acc h:=by
 unfold jP
 show match own w with
  | some vs=>tt (vs.map some++mG ix σ) h fun c h1=>by2 c (te (vs.map some++mG ix σ) h1 fun v h2=>jP ⟨ws,none⟩ own ix tt te σ Q r (acc++[v]) h2) (jP ⟨ws,none⟩ own ix tt te σ Q r acc h1)
  | none=>False
 rw [e]
 exact x
theorem mFn_s {n N:Nat}{body:XWK→MS}{ws:List W}{h:Gh}{Q:WK}{E:XWK}(hl:Nat.beq ws.length n=true)(x:body E { nx:=fun _ h'=>Q .non h',rt:=Q } (ws.map some++List.replicate (N - ws.length) none) h):mFn n N false body ws h Q E:=by
 unfold mFn
 rw [hl]
 exact x
theorem mSl_s {r:W→Option Int→Option Int→Gh→WK→Prop}{m:ME}{l u:MO}{σ : Sw}{h:Gh}{Q:WK}(x:m σ h fun a h1=>l σ h1 fun lo h2=>u σ h2 fun hi h3=>r a lo hi h3 Q):mSl r m l u σ h Q:=x
theorem mPart_s {m:ME}{σ : Sw}{h:Gh}{Q:Option Int→Gh→Prop}(x:m σ h (pK Q)):iD m σ h Q:=x
theorem pK_s {i:Int}{h:Gh}{Q:Option Int→Gh→Prop}(x:Q (some i) h):pK Q (.int i) h:=x
def p3K (i j k:Nat)(D:bH)(σ : Sw):List W→Gh→Prop:=fun ws h=>match ws with
 | [x,y,z]=>D.nx (((σ.set i (some x)).set j (some y)).set k (some z)) h
 | _=>False
theorem mPar3_s {i j k:Nat}{ta:MA}{D:bH}{σ : Sw}{h:Gh}(x:ta σ h (p3K i j k D σ)):mPar3 i j k ta D σ h:=x
theorem br_len {xs:List W}{n:Int}{a b:Prop}(e:decide ((xs.length:Int)≠n)=false)(x:b):br (decide ((xs.length:Int)≠n)) a b:=yH e x
theorem br_nall {bs:List Bool}{a b:Prop}(e:bs.all id=true)(x:b):br (!(bs.all id)) a b:=yH (by rw [e];rfl) x
theorem by2_x {n d:Str}{a b:Prop}(e:isX n d=true)(x:a):by2 (isX n d) a b:=yO e x
theorem br_xt {n d:Str}{a b:Prop}(e:isX n d=true)(x:a):br (isX n d) a b:=br_t e x
theorem br_xf {n d:Str}{a b:Prop}(e:isX n d=false)(x:b):br (isX n d) a b:=yH e x
theorem setZ {α : Type}{a x:α}{l:List α}:(a::l).set 0 x=x::l:=rfl
theorem setS {α : Type}{a x:α}{l l':List α}{n:Nat}(e:l.set n x=l'):(a::l).set (n+1) x=a::l':=by rw [List.set_cons_succ,e]
theorem aQ {i:Nat}{w:W}{σ σ':Sw}{h:Gh}{N:Sw→Gh→Prop}(e:σ.set i (some w) = σ')(x:N σ' h):nName i w σ h N:=by
 subst e
 exact x
theorem p3K_v {i j k:Nat}{D:bH}{σ σ1 σ2 σ3:Sw}{h:Gh}{x y z:W}(e1:σ.set i (some x) = σ1)(e2:σ1.set j (some y) = σ2)(e3:σ2.set k (some z) = σ3)(q:D.nx σ3 h):p3K i j k D σ [x,y,z] h:=by
 subst e1 e2 e3
 exact q
def ini (ws:List W)(n:Nat):Sw:=ws.map some++List.replicate (n - ws.length) none
theorem ini0:ini [] 0=[]:=rfl
theorem iniN {n:Nat}{l:Sw}(e:ini [] n=l):ini [] (n+1)=none::l:=by
 subst e
 rfl
theorem iniW {n:Nat}{w:W}{ws:List W}{l:Sw}(e:ini ws n=l):ini (w::ws) (n+1)=some w::l:=by
 subst e
 unfold ini
 rw [List.length_cons,Nat.add_sub_add_right]
 rfl
theorem rm {n N:Nat}{body:XWK→MS}{ws:List W}{σ : Sw}{h:Gh}{Q:WK}{E:XWK}(hl:Nat.beq ws.length n=true)(e:ini ws N = σ)(x:body E { nx:=fun _ h'=>Q .non h',rt:=Q } σ h):mFn n N false body ws h Q E:=by
 subst e
 exact mFn_s hl x
theorem by2_h {i:Nat}{n d:Str}{fs:List (Str×W)}{mh:MS}{D:bH}{σ σ':Sw}{h:Gh}(e:isX n d=true)(s:σ.set i (some (.exc n)) = σ')(x:mh D σ' h):by2 (isX (Xw.mk n fs).cls d) (mh D (σ.set i (some (.exc (Xw.mk n fs).cls))) h) False:=by
 subst s
 exact yO e x
theorem mLCM_s {own:W→Option (List W)}{ix:List Nat}{mi:MI}{tt:MT}{te:ME}{σ : Sw}{h:Gh}{Q:WK}(x:mLC own ix mi tt te σ h (thaw Q)):mLCM own ix mi tt te σ h Q:=x
theorem thaw_g {us:List W}{h:Gh}{Q:WK}(x:∀ g:Gh,g.c h.nx=some (.lst us)→(∀ n,n≠h.nx→g.c n=h.c n)→g.nx=h.nx+1→Q (.loc h.nx) g):thaw Q (.lst us) h:=x _ (new_c _ _) (fun _ e=>wA e) rfl
theorem nSub_s {mo mi:ME}{ms:MSet}{w:W}{σ : Sw}{h:Gh}{N:Sw→Gh→Prop}(x:mo σ h fun o h1=>mi σ h1 fun i h2=>ms o i w h2 fun h3=>N σ h3):nSub mo mi ms w σ h N:=x
theorem sSetL_g {n j:Nat}{k:Int}{w:W}{ws ws':List W}{h:Gh}{N:Gh→Prop}(e:h.c n=some (.lst ws))(i:ixN ws.length k=some j)(s:ws.set j w=ws')(x:∀ g:Gh,g.c n=some (.lst ws')→(∀ m,m≠n→g.c m=h.c m)→g.nx=h.nx→N g):sSetL (.loc n) (.int k) w h N:=by
 subst s
 show (match h.c n with
  | some (Cell.lst ws)=>(match ixN ws.length k with
   | some j=>N (h.set n (.lst (ws.set j w)))
   | none=>False)
  | _=>False)
 rw [e]
 dsimp only
 rw [i]
 exact x _ (set_c _ _ _) (fun _ e=>uE e) rfl
theorem mForL_cc {ws r us:List W}{n:Nat}{w:W}{g:MG}{b:MS}{D:bH}{σ : Sw}{h:Gh}(e:h.c n=some (.lst us))(x:g w σ h fun σ1 h1=>b { D with nx:=cR ⟨ws,some (n,us)⟩ g b D r,ct:=cR ⟨ws,some (n,us)⟩ g b D r,bk:=D.nx } σ1 h1):cR ⟨ws,some (n,us)⟩ g b D (w::r) σ h:=⟨e,x⟩
theorem mForL_cn {ws us:List W}{n:Nat}{g:MG}{b:MS}{D:bH}{σ : Sw}{h:Gh}(e:h.c n=some (.lst us))(x:D.nx σ h):cR ⟨ws,some (n,us)⟩ g b D [] σ h:=⟨e,x⟩
theorem mLCL_cn {ws us acc:List W}{n:Nat}{own:W→Option (List W)}{ix:List Nat}{tt:MT}{te:ME}{σ : Sw}{h:Gh}{Q:WK}(e:h.c n=some (.lst us))(x:Q (.lst acc) h):jP ⟨ws,some (n,us)⟩ own ix tt te σ Q [] acc h:=⟨e,x⟩
theorem mLCL_cc {ws us r acc vs:List W}{n:Nat}{w:W}{own:W→Option (List W)}{ix:List Nat}{tt:MT}{te:ME}{σ : Sw}{h:Gh}{Q:WK}(ec:h.c n=some (.lst us))(e:own w=some vs)(x:tt (vs.map some++mG ix σ) h fun c h1=>by2 c (te (vs.map some++mG ix σ) h1 fun v h2=>jP ⟨ws,some (n,us)⟩ own ix tt te σ Q r (acc++[v]) h2) (jP ⟨ws,some (n,us)⟩ own ix tt te σ Q r acc h1)):jP ⟨ws,some (n,us)⟩ own ix tt te σ Q (w::r) acc h:=by
 unfold jP
 refine ⟨ec,?_⟩
 show match own w with
  | some vs=>tt (vs.map some++mG ix σ) h fun c h1=>by2 c (te (vs.map some++mG ix σ) h1 fun v h2=>jP ⟨ws,some (n,us)⟩ own ix tt te σ Q r (acc++[v]) h2) (jP ⟨ws,some (n,us)⟩ own ix tt te σ Q r acc h1)
  | none=>False
 rw [e]
 exact x
theorem iK_c {n:Nat}{ws:List W}{h:Gh}{R:Src→Gh→Prop}(e:h.c n=some (.lst ws))(x:R ⟨ws,some (n,ws)⟩ h):iK R (.loc n) h:=iK_s (by simp only [sY,e]) x
theorem kIx_c {n:Nat}{w:W}{i:Int}{ws:List W}{h:Gh}{Q:WK}(e:h.c n=some (.lst ws))(a:atI ws i=some w)(k:Q w h):kIx (.loc n) (.int i) h Q:=yJ (wV e) a k
theorem uq {n N:Nat}{body:XWK→MS}{ws:List W}{σ : Sw}{h:Gh}{Q:WK}{E:XWK}(hl:Nat.beq ws.length n=true)(e:ini ws N = σ)(x:body E { nx:=fun _ h'=>jQ true h .non h' Q,rt:=fun w h'=>jQ true h w h' Q } σ h):mFn n N true body ws h Q E:=by
 subst e
 unfold mFn
 rw [hl]
 exact x
theorem jK {a b:List W}{h:Gh}{Q:WK}(e:Nat.ble (a.length+b.length) 1000=true)(x:Q (.lst (a++b)) h):cJ (.lst a) (.lst b) h Q:=mK e x
theorem kIs_b {a b:Bool}{h:Gh}{Q:WK}(x:Q (.bl (a==b)) h):kIs (.bl a) (.bl b) h Q:=x
theorem kIsnt_b {a b:Bool}{h:Gh}{Q:WK}(x:Q (.bl (!(a==b))) h):kIsnt (.bl a) (.bl b) h Q:=x
theorem kEq_s {a b:Str}{h:Gh}{Q:WK}(x:Q (.bl (decide (a=b))) h):kEq (.str a) (.str b) h Q:=by
 have e:eqW (.str a) (.str b)=decide (a=b):=by rw [eqW];by_cases z:a=b <;> simp [z]
 show Q (.bl (eqW (.str a) (.str b))) h
 rw [e]
 exact x
theorem kNe_s {a b:Str}{h:Gh}{Q:WK}(x:Q (.bl (decide (a≠b))) h):kNe (.str a) (.str b) h Q:=by
 have e:(!eqW (.str a) (.str b))=decide (a≠b):=by rw [eqW];by_cases z:a=b <;> simp [z]
 show Q (.bl (!eqW (.str a) (.str b))) h
 rw [e]
 exact x
theorem br_any {bs:List Bool}{a b:Prop}(e:bs.any id=false)(x:b):br (bs.any id) a b:=yH e x
local macro_rules | `(tactic| rfl') => `(tactic| repeat (first
 | with_reducible refine dM ?_ | with_reducible refine nM ?_ | with_reducible refine qb ?_ | with_reducible refine bG ?_ | with_reducible refine bO ?_
 | ((with_reducible apply bf);exact rfl) | with_reducible refine xR ?_ | with_reducible refine mF ?_ | with_reducible refine aQ (by repeat (first | with_reducible exact setZ | with_reducible apply setS)) ?_ | with_reducible refine lost_rt ?_ | with_reducible refine lost_nx ?_ | with_reducible refine pP ?_ | with_reducible refine rt_s ?_ | with_reducible refine bk_s ?_ | with_reducible refine ct_s ?_
 | with_reducible refine mIfS_s ?_ | with_reducible refine mIf_s ?_ | with_reducible refine je ?_ | with_reducible refine wg ?_ | with_reducible refine vV ?_ | with_reducible refine mTry_s ?_ | with_reducible refine mRaise_s ?_
 | with_reducible refine nF ?_ | with_reducible refine tK_s ?_ | with_reducible refine mTru_s ?_ | ((with_reducible apply uK_s);exact rfl) | with_reducible refine mNot_s ?_ | with_reducible refine mAnd_s ?_ | with_reducible refine mOr_s ?_ | with_reducible refine xG ?_
 | with_reducible refine mAndV_s ?_ | with_reducible refine mOrV_s ?_ | with_reducible refine mNotV_s ?_ | with_reducible refine aK_s ?_ | with_reducible refine oK_s ?_ | with_reducible refine nK_s ?_ | with_reducible refine mIsX_s ?_ | with_reducible refine xK_s ?_
 | with_reducible refine br_ts ?_ | with_reducible refine br_fs ?_ | with_reducible refine br_nts ?_ | with_reducible refine br_nfs ?_ | with_reducible refine by2_ts ?_ | with_reducible refine by2_fs ?_
 | with_reducible refine zY ?_ | with_reducible refine mLst_s ?_ | ((with_reducible apply mK);exact rfl) | with_reducible refine mCB_s ?_ | with_reducible refine mUn_s ?_ | with_reducible refine mNeg_s ?_
 | ((with_reducible apply nTup2_s);exact rfl;exact rfl) | ((with_reducible apply nTup2_l);exact rfl;exact rfl) | ((with_reducible apply nTup_s);exact rfl;exact rfl) | with_reducible refine nCons_s ?_ | with_reducible refine nNil_s ?_
 | with_reducible refine kSub_s ?_ | with_reducible refine kAddA_s ?_ | ((with_reducible apply kMul_s);exact eH.of (by trivial) (by trivial) (by omega) (by omega)) | with_reducible refine kLt_s ?_ | with_reducible refine kGt_s ?_
 | with_reducible refine kEq_i ?_ | with_reducible refine kNe_i ?_ | with_reducible refine kEq_b ?_ | with_reducible refine kNe_b ?_ | with_reducible refine kEq_t ?_ | with_reducible refine kNe_t ?_ | with_reducible refine kEq_0 ?_ | with_reducible refine kNe_0 ?_
 | ((with_reducible apply yJ);exact rfl;exact rfl) | ((with_reducible apply kIsi_s);exact rfl) | ((with_reducible apply kLen_s);exact rfl) | with_reducible refine kTuple_l ?_ | ((with_reducible apply kAny_s);exact rfl;exact rfl) | ((with_reducible apply kAll_s);exact rfl;exact rfl) | ((with_reducible apply kSum_s);exact rfl;exact rfl) | with_reducible refine kInt_b ?_ | with_reducible refine kAbs_s ?_
 | with_reducible refine iQ ?_ | with_reducible refine iM ?_ | with_reducible refine mJ ?_ | with_reducible refine bI ?_ | with_reducible refine nIt_s ?_ | ((with_reducible apply iK_s);exact rfl) | with_reducible refine fH ?_ | with_reducible refine rgK_3 ?_ | with_reducible refine rgK_2 ?_ | with_reducible refine nZip_s ?_ | ((with_reducible apply zpK_s);exact rfl;exact rfl;(repeat (first | with_reducible exact zip0 | with_reducible exact zip1 | with_reducible apply zipC)))
 | with_reducible refine mLC_s ?_ | ((with_reducible apply lcK_s);exact rfl) | with_reducible refine mLCL_n ?_ | ((with_reducible apply mLCL_c);exact rfl) | ((with_reducible apply rm);exact rfl;repeat (first | with_reducible exact ini0 | with_reducible apply iniW | with_reducible apply iniN)) | with_reducible refine mSl_s ?_ | with_reducible refine mPart_s ?_ | with_reducible refine pK_s ?_ | with_reducible refine mPar3_s ?_ | with_reducible refine p3K_v (by repeat (first | with_reducible exact setZ | with_reducible apply setS)) (by repeat (first | with_reducible exact setZ | with_reducible apply setS)) (by repeat (first | with_reducible exact setZ | with_reducible apply setS)) ?_ | ((with_reducible apply br_len);exact rfl) | ((with_reducible apply br_nall);exact rfl) | ((with_reducible apply by2_h);decide +kernel;(repeat (first | with_reducible exact setZ | with_reducible apply setS))) | ((with_reducible apply by2_x);decide +kernel) | ((with_reducible apply br_xt);decide +kernel) | ((with_reducible apply br_xf);decide +kernel) | with_reducible refine mLCM_s ?_ | with_reducible refine nSub_s ?_ | ((with_reducible apply iK_c);(with_reducible assumption)) | ((with_reducible apply mForL_cc);(with_reducible assumption)) | ((with_reducible apply mForL_cn);(with_reducible assumption)) | ((with_reducible apply mLCL_cn);(with_reducible assumption)) | ((with_reducible apply mLCL_cc);(with_reducible assumption);exact rfl) | ((with_reducible apply kIx_c);(with_reducible assumption);exact rfl) | ((with_reducible apply zpK_c);(with_reducible assumption);exact rfl;(repeat (first | with_reducible exact zip0 | with_reducible exact zip1 | with_reducible apply zipC))) | ((with_reducible apply uq);exact rfl;(repeat (first | with_reducible exact ini0 | with_reducible apply iniW | with_reducible apply iniN))) | ((with_reducible apply jK);exact rfl) | with_reducible refine kIs_b ?_ | with_reducible refine kIsnt_b ?_ | with_reducible refine kEq_s ?_ | with_reducible refine kNe_s ?_ | ((with_reducible apply br_any);decide +kernel)))
abbrev C6:=Int×Int×Int×Int×Int×Int
def c6w (c:C6):W:=.tup [.int c.1,.int c.2.1,.int c.2.2.1,.int c.2.2.2.1,.int c.2.2.2.2.1,.int c.2.2.2.2.2]
def c6l (c:C6):List Int:=[c.1,c.2.1,c.2.2.1,c.2.2.2.1,c.2.2.2.2.1,c.2.2.2.2.2]
def Sm6 (m:Nat)(c:C6):Prop:=Sm m c.1∧Sm m c.2.1∧Sm m c.2.2.1∧Sm m c.2.2.2.1∧Sm m c.2.2.2.2.1∧Sm m c.2.2.2.2.2
def fj (c:C6):Mt:=((2*c.1,c.2.1,c.2.2.2.1),(c.2.1,2*c.2.2.1,c.2.2.2.2.1),(c.2.2.2.1,c.2.2.2.2.1,2*c.2.2.2.2.2))
theorem sm_two {m:Nat}{x:Int}(h:Sm m x):Sm (m+1) (2*x):=by
 unfold Sm at h ⊢
 rw [Int.natAbs_mul,Nat.pow_succ,Nat.mul_comm]
 exact Nat.mul_lt_mul_of_pos_right h (by decide)
theorem tab_sm {m:Nat}{c:C6}(h:Sm6 m c):SmM (m+1) (fj c):=by
 obtain ⟨h1,h2,h3,h4,h5,h6⟩:=h
 exact ⟨⟨sm_two h1,h2.mono (by omega),h4.mono (by omega)⟩,⟨h2.mono (by omega),sm_two h3,h5.mono (by omega)⟩,⟨h4.mono (by omega),h5.mono (by omega),sm_two h6⟩⟩
theorem vo (c:C6)(p q:Tr):dt3 (vm (fj c) p) q=dt3 (vm (fj c) q) p:=by
 obtain ⟨p1,p2,p3⟩:=p
 obtain ⟨q1,q2,q3⟩:=q
 simp only [dt3,vm,fj]
 grind
def TabOk (c0:MSp):Prop:=∀ {h:Gh} {c:C6} {m:Nat} {Q:WK} {E:XWK},m≤5000→Sm6 m c→Q (mw (fj c)) h→c0 [c6w c] h Q E
theorem w_tab:TabOk oH:=by
 intro h c m Q E hm hs k
 obtain ⟨c1,c2,c3,c4,c5,c6⟩:=c
 obtain ⟨h1,h2,h3,h4,h5,h6⟩:=hs
 simp only at h1 h2 h3 h4 h5 h6
 ((conv=>whnf);repeat (refine And.intro (by exact eH.of (by trivial) (by trivial) (by omega) (by omega)) ?_;conv=>whnf))
 exact k
def nW (p q:Tr):C6:=(p.1*q.1,p.1*q.2.1+p.2.1*q.1,p.2.1*q.2.1,p.1*q.2.2+p.2.2*q.1,p.2.1*q.2.2+p.2.2*q.2.1,p.2.2*q.2.2)
theorem Sm6.mono {m n:Nat}{c:C6}(h:Sm6 m c)(e:m≤n):Sm6 n c:=⟨h.1.mono e,h.2.1.mono e,h.2.2.1.mono e,h.2.2.2.1.mono e,h.2.2.2.2.1.mono e,h.2.2.2.2.2.mono e⟩
theorem rC {m:Nat}{p q:Tr}(hp:SmT m p)(hq:SmT m q):Sm6 (m+m+1) (nW p q):=
 ⟨(hp.1.mul hq.1).mono (by omega),((hp.1.mul hq.2.1).add (hp.2.1.mul hq.1)).mono (by omega),(hp.2.1.mul hq.2.1).mono (by omega),((hp.1.mul hq.2.2).add (hp.2.2.mul hq.1)).mono (by omega),((hp.2.1.mul hq.2.2).add (hp.2.2.mul hq.2.1)).mono (by omega),(hp.2.2.mul hq.2.2).mono (by omega)⟩
theorem Sm6.all {m:Nat}{c:C6}(h:Sm6 m c):∀ n∈c6l c,Sm m n:=by
 intro n hn
 simp only [c6l,List.mem_cons,List.not_mem_nil,or_false] at hn
 rcases hn with rfl | rfl | rfl | rfl | rfl | rfl
 ·exact h.1
 ·exact h.2.1
 ·exact h.2.2.1
 ·exact h.2.2.2.1
 ·exact h.2.2.2.2.1
 ·exact h.2.2.2.2.2
def RndOk (c0:MSp):Prop:=∀ {h:Gh} {c:C6} {m:Nat} {Q:WK} {E:XWK},m≤2000→Sm6 m c→Q (.bl (decide (det (fj c)≠0))) h→c0 [c6w c] h Q E
theorem w_round {sz ta:MSp}(hsz:SizeOk sz)(hta:TabOk ta):RndOk (jH sz ta):=by
 intro h c m Q E hm hc k
 unfold jH
 rfl'
 refine hta (m:=m) (by omega) hc ?_
 rfl'
 refine hsz (M:=fj c) (m:=m+1) true (by omega) (tab_sm hc) ?_
 rfl'
 exact k
def wth (c:C6)(p:Tr):Int:=c.1*p.1*p.1+c.2.2.1*p.2.1*p.2.1+c.2.2.2.2.2*p.2.2*p.2.2+c.2.1*p.1*p.2.1+c.2.2.2.1*p.1*p.2.2+c.2.2.2.2.1*p.2.1*p.2.2
theorem sum6 (a b c d e f:Int):([a,b,c,d,e,f]:List Int).sum=a+b+c+d+e+f:=by simp only [List.sum_cons,List.sum_nil];omega
theorem wth_sum (c1 c2 c3 c4 c5 c6 x y z:Int):c1*(x*x)+c2*(x*y)+c3*(y*y)+c4*(x*z)+c5*(y*z)+c6*(z*z)=wth (c1,c2,c3,c4,c5,c6) (x,y,z):=by
 simp only [wth]
 grind
theorem wth_k {k:Int}(c:C6)(p:Tr):wth (c.1*k,c.2.1*k,c.2.2.1*k,c.2.2.2.1*k,c.2.2.2.2.1*k,c.2.2.2.2.2*k) p=wth c p*k:=by
 simp only [wth]
 grind
def kC (k:Int)(c:C6):C6:=(c.1*k,c.2.1*k,c.2.2.1*k,c.2.2.2.1*k,c.2.2.2.2.1*k,c.2.2.2.2.2*k)
theorem PlnL.c6p {c0:MSp}(hpl:PlnL c0){h:Gh}{w:W}{c:C6}{m:Nat}{Q:WK}{E:XWK}(hw:w=.lst [.int c.1,.int c.2.1,.int c.2.2.1,.int c.2.2.2.1,.int c.2.2.2.2.1,.int c.2.2.2.2.2]∨w=c6w c)(hz:NZ (c6l c))(hs:Sm6 m c)(hm:m≤8000)(k:∀ (x:C6) (j:Int),j≠0→c=kC j x→PlL (c6l x)→Sm6 m x→Q (c6w x) h):c0 [w] h Q E:=by
 refine hpl (m:=m) (ns:=c6l c) hw hz hs.all hm (by show 6≤1000;decide) fun ms j hj em pm sm=>?_
 have hl:ms.length=6:=by have:=congrArg List.length em;rw [List.length_map] at this;exact this.symm
 match ms,hl,sm,em,pm with
 | [x1,x2,x3,x4,x5,x6],_,sm,em,pm=>
  refine k (x1,x2,x3,x4,x5,x6) j hj ?_ pm ⟨sm _ (by simp),sm _ (by simp),sm _ (by simp),sm _ (by simp),sm _ (by simp),sm _ (by simp)⟩
  obtain ⟨u1,u2,u3,u4,u5,u6⟩:=c
  simpa [c6l,kC] using em
theorem c6_uniq {x y:C6}{s t:Int}(hx:PlL (c6l x))(hy:PlL (c6l y))(hs:s≠0)(ht:t≠0)(e:kC s x=kC t y):x=y:=by
 have e1:(c6l x).map (· * s)=(c6l y).map (· * t):=congrArg c6l e
 have e2:=plL_eq hx hy hs ht e1
 obtain ⟨u1,u2,u3,u4,u5,u6⟩:=x
 obtain ⟨v1,v2,v3,v4,v5,v6⟩:=y
 simpa [c6l] using e2
theorem tab_k (k:Int)(c:C6):fj (kC k c)=sM k (fj c):=by
 simp only [fj,kC,sM,sc,Int.mul_assoc]
theorem wth_kC (k:Int)(c:C6)(p:Tr):wth (kC k c) p=wth c p*k:=wth_k c p
theorem fV (l o s:Tr):wth (nW l o) s=dt3 l s*dt3 o s:=by
 simp only [wth,nW,dt3]
 grind
theorem zR {r:MM}{mo:ME}{ma:MA}{σ : Sw}{h:Gh}{Q:WK}(x:mo σ h fun x h1=>nZ h1 x (ma σ h1 fun xs h2=>r x xs h2 Q)):u0 r mo ma σ h Q:=x
theorem v7 {n:Nat}{us:List W}{h:Gh}{P:Prop}(e:h.c n=some (.lst us))(p:P):nZ h (.loc n) P:=by
 simp only [nZ,e]
 exact p
theorem vU {ma:MA}{ws:List W}{σ : Sw}{h:Gh}{Q:WK}(hm:∀ R,ma σ h R=R ws h)(hz:Nat.ble ws.length 1000=true)(x:∀ g:Gh,g.c h.nx=some (.lst ws)→(∀ n,n≠h.nx→g.c n=h.c n)→g.nx=h.nx+1→Q (.loc h.nx) g):sH ma σ h Q:=by
 unfold sH
 rw [hm]
 exact mK hz (x _ (new_c _ _) (fun _ e=>wA e) rfl)
theorem ext_g {h:Gh}{n:Nat}{us zs:List W}{Q:WK}(e:h.c n=some (.lst us))(hz:us.length+zs.length≤1000)(k:∀ g:Gh,g.c n=some (.lst (us++zs))→(∀ m,m≠n→g.c m=h.c m)→g.nx=h.nx→Q .non g):fJ (.loc n) [.lst zs] h Q:=
 ext_ok e (Nat.le_trans hz (by decide)) (k _ (set_c _ _ _) (fun _ e=>uE e) rfl)
theorem app_g {h:Gh}{n:Nat}{us:List W}{w:W}{Q:WK}(e:h.c n=some (.lst us))(hz:us.length≤1000)(k:∀ g:Gh,g.c n=some (.lst (us++[w]))→(∀ m,m≠n→g.c m=h.c m)→g.nx=h.nx→Q .non g):cj (.loc n) [w] h Q:=
 app_ok e (Nat.lt_of_le_of_lt hz (by decide)) (k _ (set_c _ _ _) (fun _ e=>uE e) rfl)
def rng (a m:Nat):List Nat:=List.range' a (m - a)
theorem vq {a m x:Nat}:x∈rng a m↔a≤x∧x<m:=by
 unfold rng
 rw [List.mem_range'_1]
 omega
theorem yG (a m:Nat):uT (a:Int) ((m:Int) - (a:Int)).toNat=(rng a m).map fun x:Nat=>W.int (x:Int):=by
 unfold uT rng
 rw [List.range'_eq_map_range,List.map_map,show ((m:Int) - (a:Int)).toNat=m - a by omega]
 refine List.map_congr_left fun x _=>?_
 simp
theorem rngW_rng0 (m:Nat):uT 0 ((m:Nat):Int).toNat=(rng 0 m).map fun x:Nat=>W.int (x:Int):=by
 have:=yG 0 m
 rw [show ((m:Int) - ((0:Nat):Int)).toNat=((m:Nat):Int).toNat by omega] at this
 exact this
def rg2K (R:Src→Gh→Prop):List W→Gh→Prop:=fun ws h=>match ws with
 | [.int i,.int j]=>uR i (uR j (R ⟨uT i (j - i).toNat,none⟩ h))
 | _=>False
theorem nRng2_s {ma:MA}{R:Src→Gh→Prop}{σ : Sw}{h:Gh}(x:ma σ h (rg2K R)):nRng2 ma σ h R:=x
theorem rg2K_s {R:Src→Gh→Prop}{h:Gh}{a:Int}{m n:Nat}(ha:a=(n:Int))(h1:n≤1000)(h2:m≤1000)(x:R ⟨(rng n m).map fun x:Nat=>W.int (x:Int),none⟩ h):rg2K R [.int a,.int (m:Int)] h:=by
 subst ha
 rw [←yG] at x
 exact uR.mk (by omega) (by omega) (uR.mk (by omega) (by omega) x)
theorem zp {R:Src→Gh→Prop}{h:Gh}{m:Nat}(h2:m≤1000)(x:R ⟨(rng 0 m).map fun x:Nat=>W.int (x:Int),none⟩ h):rgK R [.int (m:Int)] h:=by
 rw [←rngW_rng0] at x
 exact uR.mk (by omega) (by omega) x
def nxt (l:List Nat):Nat:=match l.getLast? with
 | none=>0
 | some x=>x+1
def grow (m:Nat)(l:List Nat):List (List Nat):=(rng (nxt l) m).map fun p=>l++[p]
def rise (m:Nat):Nat→List (List Nat)
 | 0=>[[]]
 | k+1=>(rise m k).flatMap (grow m)
def cT (l:List Nat):W:=.tup (l.map fun x:Nat=>.int (x:Int))
theorem rA {m:Nat}:∀ {k:Nat} {l:List Nat},l∈rise m k→l.length=k
 | 0,l,h=>by
  rw [rise,List.mem_singleton] at h
  rw [h]
  rfl
 | k+1,l,h=>by
  rw [rise,List.mem_flatMap] at h
  obtain ⟨u,hu,hl⟩:=h
  obtain ⟨p,_,rfl⟩:=List.mem_map.mp hl
  rw [List.length_append,rA hu]
  rfl
theorem nxt_le {m:Nat}:∀ {k:Nat} {l:List Nat},l∈rise m k→nxt l≤m
 | 0,l,h=>by
  rw [rise,List.mem_singleton] at h
  rw [h]
  exact Nat.zero_le _
 | k+1,l,h=>by
  rw [rise,List.mem_flatMap] at h
  obtain ⟨u,hu,hl⟩:=h
  obtain ⟨p,hp,rfl⟩:=List.mem_map.mp hl
  have:=(vq.mp hp).2
  unfold nxt
  rw [List.getLast?_append]
  simp
  omega
theorem pN:∀ m,m≤12→∀ k,k≤4→(rise m k).length≤1000:=by
 have:(List.range 13).all (fun m=>(List.range 5).all fun k=>decide ((rise m k).length≤1000))=true:=by decide +kernel
 intro m hm k hk
 rw [List.all_eq_true] at this
 have h1:=this m (List.mem_range.mpr (by omega))
 rw [List.all_eq_true] at h1
 exact of_decide_eq_true (h1 k (List.mem_range.mpr (by omega)))
def SrcW (h:Gh)(w:W)(ws:List W):Prop:=w=.lst ws∨∃ n,w=.loc n∧h.c n=some (.lst ws)
theorem for_srcW {i:Nat}{g:MG}{b:MS}{D:bH}{σ : Sw}{h:Gh}{w:W}{α : Type}{v:α→W}{xs:List α}(hv:σ[i]?=some (some w))(e:SrcW h w (xs.map v))(I:Nat→Sw→Gh→Prop)
  (go:∀ i σ h',I i σ h'→SrcW h' w (xs.map v))
  (step:∀ (i:Nat) (x:α) (σ : Sw) (h:Gh) (N:Sw→Gh→Prop),(∀ σ' h',I (i+1) σ' h'→N σ' h')→xs[i]?=some x→I i σ h→g (v x) σ h fun σ1 h1=>b { D with nx:=N,ct:=N,bk:=D.nx } σ1 h1)
  (fin:∀ σ h,I xs.length σ h→D.nx σ h) (h0:I 0 σ h):kW (nIt (ao i)) g b D σ h:=by
 unfold kW nIt ao
 rw [hv]
 dsimp only
 have gen:∀ s:Src,sY h w=some s→s.ws=xs.map v→(∀ h',SrcW h' w (xs.map v)→∀ P:Prop,P→s.go h' P)→(match sY h w with
   | some s=>cR s g b D s.ws σ h
   | none=>False):=by
  intro s es ew hg
  rw [es]
  show cR s g b D s.ws σ h
  rw [ew]
  refine wJ I (fun i σ h' hi=>hg h' (go i σ h' hi)) (fun i w σ h N hN e hi=>?_) (fun σ h q=>fin σ h (by rwa [List.length_map] at q)) h0
  rw [List.getElem?_map] at e
  cases q:xs[i]? with
  | none=>rw [q] at e;cases e
  | some x=>
   rw [q] at e
   cases e
   exact step i x σ h N hN q hi
 rcases e with rfl | ⟨n,rfl,e⟩
 ·exact gen ⟨xs.map v,none⟩ rfl rfl fun _ _ _ p=>p
 ·refine gen ⟨xs.map v,some (n,xs.map v)⟩ (by simp only [sY,e]) rfl fun h' e' P p=>⟨?_,p⟩
  rcases e' with e' | ⟨n',e',q⟩
  ·cases e'
  ·cases e';exact q
theorem kAddA_tp {a b:List W}{h:Gh}{Q:WK}(hz:a.length+b.length≤1000)(x:Q (.tup (a++b)) h):cJ (.tup a) (.tup b) h Q:=by
 cases a with
 | nil=>exact x
 | cons a0 a=>exact gH.mk (Nat.le_trans (by simpa using hz) (by decide:1000≤sizeLine)) x
theorem lc_grow {m:Nat}{l:List Nat}{σ : Sw}{h:Gh}{Q:WK}(hm:m≤12)(hl:l.length≤4)(hn:nxt l≤m)(h5:σ[5]?=some (some (cT l)))(h6:σ[6]?=some (some (.int (nxt l:Int))))(h0:σ[0]?=some (some (.int (m:Int))))(x:Q (.lst ((grow m l).map cT)) h) :
  mLC ow1 [5] (nRng2 (aq (ao 6) (aq (ao 0) aO))) kh (mOp cJ (ao 1) (ux (aq (ao 0) aO))) σ h Q:=by
 refine mLC_s (nRng2_s (bG (bf h6 (bG (bf h0 (bO ?_))))))
 refine rg2K_s rfl (by omega) (by omega) ?_
 have hb:mG [5] σ = [some (cT l)]:=by
  show [(σ[5]?).getD none]=_
  rw [h5]
  rfl
 have hz:((rng (nxt l) m).map fun x:Nat=>W.int (x:Int)).length≤sizeLine:=by
  rw [List.length_map]
  unfold rng
  rw [List.length_range']
  exact Nat.le_trans (by omega) (by decide:12≤sizeLine)
 refine gH.mk hz ?_
 refine o9 (fun i acc h'=>h'=h∧acc=(((rng (nxt l) m).take i).map fun p=>l++[p]).map cT) ?_ ?_ ⟨rfl,rfl⟩
 ·rintro i w acc h' N hN e ⟨rfl,rfl⟩
  rw [List.getElem?_map] at e
  cases q:(rng (nxt l) m)[i]? with
  | none=>rw [q] at e;cases e
  | some p=>
   rw [q] at e
   cases e
   refine ⟨[W.int (p:Int)],rfl,?_⟩
   rw [hb]
   refine xG (by2_ts (mF (bf rfl (zY (bG (bf rfl (bO (mK rfl ?_))))))))
   refine kAddA_tp (a:=l.map fun x:Nat=>.int (x:Int)) (by rw [List.length_map];simp;omega) ?_
   refine hN _ _ ⟨rfl,?_⟩
   rw [List.take_succ,q]
   simp [cT]
 ·rintro acc h' ⟨rfl,rfl⟩
  rw [List.length_map,List.take_length]
  exact x
def zW (c0:MSp):Prop:=∀ {h:Gh} {m k:Nat} {Q:WK} {E:XWK},m≤12→k≤4→Q (.lst ((rise m k).map cT)) h→c0 [.int (m:Int),.int (k:Int)] h Q E
theorem atI_lst {l:List Nat}{i:Nat}(h:l.length=i+1):∃ x,l.getLast?=some x∧atI (l.map fun x:Nat=>W.int (x:Int)) (i:Int)=some (.int (x:Int)):=by
 have hi:i<l.length:=by omega
 refine ⟨l[i],?_,?_⟩
 ·rw [List.getLast?_eq_getElem?,h,Nat.add_sub_cancel,List.getElem?_eq_getElem hi]
 ·exact qT (by rw [List.getElem?_map,List.getElem?_eq_getElem hi];rfl)
theorem losN (n:Nat):∀ l:List Nat,Los n (l.map fun x:Nat=>W.int (x:Int))
 | []=>by simp [Los]
 | x::l=>by
  have:=losN n l
  rw [List.map_cons,Los]
  exact ⟨by simp [Lo],this⟩
theorem los_tup (n:Nat)(l:List Nat):Lo n (cT l):=by
 unfold cT
 rw [Lo]
 exact losN n l
theorem lB (n:Nat):∀ ls:List (List Nat),Los n (ls.map cT)
 | []=>by simp [Los]
 | l::ls=>by
  have:=lB n ls
  rw [List.map_cons,Los]
  exact ⟨los_tup n l,this⟩
theorem rF {a m i x:Nat}(e:(rng a m)[i]?=some x):x=a+i∧x<m:=by
 have hx:=vq.mp (List.mem_of_getElem? e)
 unfold rng at e
 have hl:=(List.getElem?_eq_some_iff.mp e).1
 rw [List.length_range'] at hl
 rw [List.getElem?_eq_getElem (by rw [List.length_range'];exact hl),List.getElem_range'] at e
 have:=Option.some.inj e
 omega
theorem w_rising:zW qF:=by
 intro h m k Q E hm hk q
 unfold qF
 refine uq rfl (σ:=[some (.int (m:Int)),some (.int (k:Int)),none,none,none,none,none]) rfl ?_
 refine dM (nM (mLst_s (bG (zY (bO (mK rfl (bO (mK rfl ?_))))))))
 refine aQ (σ':=[some (.int (m:Int)),some (.int (k:Int)),some (.lst [.tup []]),none,none,none,none]) rfl (pP ?_)
 refine dM (iQ (fH (bG (bf rfl (bO (zp (by omega) (iM ?_)))))))
 refine jA (fun i σ h'=>∃ w s3 s4 s5 s6,σ = [some (.int (m:Int)),some (.int (k:Int)),some w,s3,s4,s5,s6]∧(w=.lst ((rise m i).map cT)∨∃ n,w=.loc n∧h.nx≤n∧n<h'.nx∧h'.c n=some (.lst ((rise m i).map cT)))∧h.nx≤h'.nx∧∀ n,n<h.nx→h'.c n=h.c n) ?_ ?_ ⟨_,_,_,_,_,rfl,.inl rfl,Nat.le_refl _,fun _ _=>rfl⟩
 ·rintro i w0 σ h' N hN e ⟨w,s3,s4,s5,s6,rfl,hw,hx,ho⟩
  rw [List.getElem?_map] at e
  cases qe:(rng 0 k)[i]? with
  | none=>rw [qe] at e;cases e
  | some i'=>
   rw [qe] at e
   cases e
   obtain ⟨ei,hik⟩:=rF qe
   rw [Nat.zero_add] at ei
   subst ei
   refine aQ (σ':=[some (.int (m:Int)),some (.int (k:Int)),some w,some (.int (i':Int)),s4,s5,s6]) rfl ?_
   refine dM (nM (vU (ws:=[]) (fun R=>rfl) rfl fun g eg og xg=>?_))
   refine aQ (σ':=[some (.int (m:Int)),some (.int (k:Int)),some w,some (.int (i':Int)),some (.loc h'.nx),s5,s6]) rfl (pP ?_)
   refine dM ?_
   have sw:∀ g':Gh,(∀ n,n≠h'.nx→g'.c n=h'.c n)→SrcW g' w ((rise m i').map cT):=by
    intro g' hg
    rcases hw with rfl | ⟨n,rfl,h1,h2,h3⟩
    ·exact .inl rfl
    ·exact .inr ⟨n,rfl,by rw [hg n (by omega)];exact h3⟩
   refine for_srcW (i:=2) (w:=w) (v:=cT) (xs:=rise m i') rfl (sw g og) (fun j σ g'=>∃ s5 s6,σ = [some (.int (m:Int)),some (.int (k:Int)),some w,some (.int (i':Int)),some (.loc h'.nx),s5,s6]∧g'.c h'.nx=some (.lst ((((rise m i').take j).flatMap (grow m)).map cT))∧g'.nx=h'.nx+1∧∀ n,n≠h'.nx→g'.c n=h'.c n) ?_ ?_ ?_ ⟨_,_,rfl,eg,xg,og⟩
   ·rintro j σ g' ⟨s5,s6,rfl,h1,h2,h3⟩
    exact sw g' h3
   ·rintro j l σ g' N2 hN2 el ⟨s5,s6,rfl,h1,h2,h3⟩
    have ml:=List.mem_of_getElem? el
    have ll:=rA ml
    have ln:=nxt_le ml
    refine aQ (σ':=[some (.int (m:Int)),some (.int (k:Int)),some w,some (.int (i':Int)),some (.loc h'.nx),some (cT l),s6]) rfl ?_
    have fin:∀ σ,σ = [some (.int (m:Int)),some (.int (k:Int)),some w,some (.int (i':Int)),some (.loc h'.nx),some (cT l),some (.int (nxt l:Int))]→gC (u0 fJ (ao 4) (aq (mLC ow1 [5] (nRng2 (aq (ao 6) (aq (ao 0) aO))) kh (mOp cJ (ao 1) (ux (aq (ao 0) aO)))) aO)) { nx:=N2,rt:=fun w h'=>jQ true h w h' Q,bk:=fun _ _=>False,ct:=N2 } σ g':=by
     rintro σ rfl
     refine wg (zR (bf rfl (v7 h1 (bG (lc_grow hm (by omega) ln rfl rfl rfl (bO (ext_g h1 ?_ fun g2 e2 o2 x2=>?_)))))))
     ·rw [List.length_map,List.length_map,←List.length_append,show grow m l=[l].flatMap (grow m) by simp,←List.flatMap_append]
      have hp:(rise m i').take (j+1)=(rise m i').take j++[l]:=by rw [List.take_succ,el];rfl
      rw [←hp]
      have hr:=pN m hm (i'+1) (by omega)
      rw [rise,←List.take_append_drop (j+1) (rise m i'),List.flatMap_append,List.length_append] at hr
      omega
     ·refine hN2 _ _ ⟨_,_,rfl,?_,by rw [x2];exact h2,fun n hn=>by rw [o2 n hn];exact h3 n hn⟩
      rw [e2,List.take_succ,el,List.flatMap_append,List.map_append]
      simp
    refine dM (nM (mIf_s (nF (mF (bf rfl (xR (kGt_s (tK_s ?_))))))))
    refine zK (fun hp=>?_) fun hp=>?_
    ·obtain ⟨x,ex,ax⟩:=atI_lst (l:=l) (i:=i' - 1) (by omega)
     have en:nxt l=x+1:=by unfold nxt;rw [ex]
     refine mF (mF (bf rfl (mF (bf rfl (xR (kSub_s (yJ (x:=cT l) (i:=(i':Int) - 1) (w:=.int (x:Int)) rfl ?_ (xR (kAddA_s ?_)))))))))
     ·rw [show (i':Int) - 1=((i' - 1:Nat):Int) by omega]
      exact ax
     ·refine aQ (σ':=[some (.int (m:Int)),some (.int (k:Int)),some w,some (.int (i':Int)),some (.loc h'.nx),some (cT l),some (.int (nxt l:Int))]) (by rw [en];rfl) (pP (fin _ rfl))
    ·have l0:l=[]:=List.eq_nil_of_length_eq_zero (by omega)
     have en:nxt l=0:=by rw [l0];rfl
     refine xR ?_
     refine aQ (σ':=[some (.int (m:Int)),some (.int (k:Int)),some w,some (.int (i':Int)),some (.loc h'.nx),some (cT l),some (.int (nxt l:Int))]) (by rw [en];rfl) (pP (fin _ rfl))
   ·rintro σ g' ⟨s5,s6,rfl,h1,h2,h3⟩
    rw [List.take_length] at h1
    refine pP ?_
    refine nM ?_
    refine bf rfl ?_
    refine aQ (σ':=[some (.int (m:Int)),some (.int (k:Int)),some (.loc h'.nx),some (.int (i':Int)),some (.loc h'.nx),s5,s6]) rfl (pP ?_)
    exact hN _ _ ⟨_,_,_,_,_,rfl,.inr ⟨_,rfl,hx,by omega,h1⟩,by omega,fun n hn=>by rw [h3 n (by omega)];exact ho n hn⟩
 ·rintro σ h' ⟨w,s3,s4,s5,s6,rfl,hw,hx,ho⟩
  have hl:((rng 0 k).map fun x:Nat=>W.int (x:Int)).length=k:=by
   rw [List.length_map]
   unfold rng
   rw [List.length_range']
   omega
  rw [hl] at hw
  unfold oR
  refine pP ?_
  refine je ?_
  refine bf rfl ?_
  refine rt_s ?_
  refine ⟨fun n c hn e=>by rw [ho n hn];exact e,?_⟩
  rcases hw with rfl | ⟨n,rfl,h1,h2,h3⟩
  ·exact .inl ⟨by rw [Lo];exact lB _ _,q⟩
  ·exact .inr ⟨n,_,rfl,h1,h3,lB _ _,q⟩
def gt (ts:List Tr)(i:Nat):Tr:=ts.getD i (0,0,0)
def OkT (m:Nat)(ts:List Tr):Prop:=∀ t∈ts,Pl t∧SmT m t
theorem oX {ts:List Tr}{i:Nat}(hi:i<ts.length):gt ts i∈ts:=by
 unfold gt
 rw [List.getD_eq_getElem?_getD,List.getElem?_eq_getElem hi]
 exact List.getElem_mem hi
theorem gt_get {ts:List Tr}{i:Nat}(hi:i<ts.length):ts[i]?=some (gt ts i):=by
 unfold gt
 rw [List.getD_eq_getElem?_getD,List.getElem?_eq_getElem hi]
 rfl
theorem kO.at {h:Gh}{w:W}{ts:List Tr}(e:kO h w ts){i:Nat}(hi:i<ts.length){Q:WK}(k:Q (tw (gt ts i)) h):kIx w (.int (i:Int)) h Q:=
 yJ e.src.1 (qT (by rw [List.getElem?_map,gt_get hi];rfl)) k
theorem len_s {h:Gh}{w:W}{ts:List Tr}(e:kO h w ts){Q:WK}(k:Q (.int (ts.length:Int)) h):kLen [w] h Q:=by
 refine kLen_s e.src.1 ?_
 rw [List.length_map]
 exact k
def PickX (c0:MSp):Prop:=∀ {h:Gh} {w:W} {ts:List Tr} {l:List Nat} {Q:WK} {E:XWK},kO h w ts→(∀ i∈l,i<ts.length)→l.length≤1000→Q (.lst ((l.map (gt ts)).map tw)) h→c0 [w,cT l] h Q E
theorem w_picked:PickX rz:=by
 intro h w ts l Q E e hl hz q
 unfold rz
 refine rm rfl (σ:=[some w,some (cT l)]) rfl (je (mLC_s (nIt_s (bf rfl (iK_s (ws:=l.map fun x:Nat=>.int (x:Int)) (o:=none) rfl ?_)))))
 refine gH.mk (by rw [List.length_map];exact Nat.le_trans hz (by decide)) ?_
 refine o9 (fun i acc h'=>h'=h∧acc=((l.take i).map (gt ts)).map tw) ?_ ?_ ⟨rfl,rfl⟩
 ·rintro i w2 acc h' N hN e2 ⟨rfl,rfl⟩
  rw [List.getElem?_map] at e2
  cases qe:l[i]? with
  | none=>rw [qe] at e2;cases e2
  | some p=>
   rw [qe] at e2
   cases e2
   refine ⟨[W.int (p:Int)],rfl,?_⟩
   refine xG (mF (bf rfl (bf rfl (e.at (hl p (List.mem_of_getElem? qe)) ?_))))
   refine hN _ _ ⟨rfl,?_⟩
   rw [List.take_succ,qe]
   simp
 ·rintro acc h' ⟨rfl,rfl⟩
  rw [List.length_map,List.take_length]
  exact rt_s q
theorem rise_in {m:Nat}:∀ {k:Nat} {l:List Nat},l∈rise m k→∀ i∈l,i<m
 | 0,l,h=>by
  rw [rise,List.mem_singleton] at h
  subst h
  intro i hi
  cases hi
 | k+1,l,h=>by
  rw [rise,List.mem_flatMap] at h
  obtain ⟨u,hu,hl⟩:=h
  obtain ⟨p,hp,rfl⟩:=List.mem_map.mp hl
  intro i hi
  rcases List.mem_append.mp hi with hi | hi
  ·exact rise_in hu i hi
  ·rw [List.mem_singleton.mp hi]
   exact (vq.mp hp).2
theorem lo_tws (n:Nat):∀ ts:List Tr,Los n (ts.map tw)
 | []=>by simp [Los]
 | t::ts=>by
  have:=lo_tws n ts
  rw [List.map_cons,Los]
  exact ⟨by unfold tw;simp [Lo,Los],this⟩
def Lined (us:List Tr):Prop:=∃ a b c,a<b∧b<c∧c<us.length∧dt3 (crs (gt us a) (gt us b)) (gt us c)=0
theorem any_bl2 {us:List Bool}{h:Gh}{Q:WK}(k:Q (.bl (us.any id)) h):kAny [.lst (us.map .bl)] h Q:=kAny_s rfl (vG us) k
def Five (a b c d e:Tr):Prop:=¬ Lined [a,b,c,d,e]
theorem tE {a b c d e:Tr}(h:Five a b c d e):dt3 (crs a b) c≠0∧dt3 (crs a b) d≠0∧dt3 (crs a b) e≠0∧dt3 (crs a c) d≠0∧dt3 (crs a c) e≠0∧dt3 (crs a d) e≠0∧dt3 (crs b c) d≠0∧dt3 (crs b c) e≠0∧dt3 (crs b d) e≠0∧dt3 (crs c d) e≠0:=by
 have g:∀ i j k,i<j→j<k→k<5→dt3 (crs (gt [a,b,c,d,e] i) (gt [a,b,c,d,e] j)) (gt [a,b,c,d,e] k)≠0:=fun i j k h1 h2 h3 z=>h ⟨i,j,k,h1,h2,h3,z⟩
 exact ⟨g 0 1 2 (by decide) (by decide) (by decide),g 0 1 3 (by decide) (by decide) (by decide),g 0 1 4 (by decide) (by decide) (by decide),g 0 2 3 (by decide) (by decide) (by decide),g 0 2 4 (by decide) (by decide) (by decide),g 0 3 4 (by decide) (by decide) (by decide),g 1 2 3 (by decide) (by decide) (by decide),g 1 2 4 (by decide) (by decide) (by decide),g 1 3 4 (by decide) (by decide) (by decide),g 2 3 4 (by decide) (by decide) (by decide)⟩
theorem bU {σ : Sw}{h:Gh}{Q:Option Int→Gh→Prop}(x:Q none h):jE σ h Q:=x
theorem eU {ws us:List W}{lo hi:Option Int}{h:Gh}{Q:WK}(e:cutW ws lo hi=us)(x:Q (.lst us) h):kSl2 (.lst ws) lo hi h Q:=by
 subst e
 exact x
def r6 (a b c d e f:Tr):W:=.lst [tw a,tw b,tw c,tw d,tw e,tw f]
structure Rd (a b c d e f:Tr):Prop where
 pa:Pl a
 pb:Pl b
 pc:Pl c
 pd:Pl d
 pe:Pl e
 pf:Pl f
 sa:SmT 60 a
 sb:SmT 60 b
 sc:SmT 60 c
 sd:SmT 60 d
 se:SmT 60 e
 sf:SmT 1800 f
def br3 (a b c:Tr):Int:=dt3 (crs a b) c
theorem pl1 (a b c d e f:Tr):br3 a b c*br3 d e f=br3 d b c*br3 a e f+br3 a d c*br3 b e f+br3 a b d*br3 c e f:=by
 obtain ⟨a1,a2,a3⟩:=a
 obtain ⟨b1,b2,b3⟩:=b
 obtain ⟨c1,c2,c3⟩:=c
 obtain ⟨d1,d2,d3⟩:=d
 obtain ⟨e1,e2,e3⟩:=e
 obtain ⟨f1,f2,f3⟩:=f
 simp only [br3,crs,dt3]
 grind
theorem rot3 (u v w:Tr):br3 u v w=br3 v w u:=by
 obtain ⟨u1,u2,u3⟩:=u
 obtain ⟨v1,v2,v3⟩:=v
 obtain ⟨w1,w2,w3⟩:=w
 simp only [br3,crs,dt3]
 grind
def z3 (ts:List Tr)(i j k:Nat):Option Unit:=if dt3 (crs (gt ts i) (gt ts j)) (gt ts k)=0 then some () else none
def one6 (a b c d:Tr):C6:=nW (crs a b) (crs c d)
def oth6 (a b c d:Tr):C6:=nW (crs a c) (crs b d)
theorem max_abs {x y z M:Int}(hm:M∈[(if x<0 then -x else x),(if y<0 then -y else y),(if z<0 then -z else z)])(hle:∀ a,a∈[(if x<0 then -x else x),(if y<0 then -y else y),(if z<0 then -z else z)]→a≤M):(M=0↔(x,y,z)=((0,0,0):Tr))∧0≤M:=by
 have h1:=hle _ (List.mem_cons_self ..)
 have h2:=hle (if y<0 then -y else y) (by simp)
 have h3:=hle (if z<0 then -z else z) (by simp)
 simp only [List.mem_cons,List.not_mem_nil,or_false] at hm
 refine ⟨⟨fun e=>?_,fun e=>?_⟩,?_⟩
 ·subst e
  have:x=0∧y=0∧z=0:=by
   refine ⟨?_,?_,?_⟩
   ·split at h1 <;> omega
   ·split at h2 <;> omega
   ·split at h3 <;> omega
  rw [this.1,this.2.1,this.2.2]
 ·simp only [Prod.mk.injEq] at e
  rw [e.1,e.2.1,e.2.2] at hm
  simpa using hm
 ·split at h1 <;> omega
theorem list8 {xs:List Int}(h:(xs.length:Int)=8):∃ a b c d e f g i,xs=[a,b,c,d,e,f,g,i]:=by
 rcases xs with _ | ⟨a,_ | ⟨b,_ | ⟨c,_ | ⟨d,_ | ⟨e,_ | ⟨f,_ | ⟨g,_ | ⟨i,_ | ⟨j,l⟩⟩⟩⟩⟩⟩⟩⟩⟩ <;> first | exact ⟨_,_,_,_,_,_,_,_,rfl⟩ | (simp only [List.length_cons,List.length_nil] at h;omega)
theorem in23 {v:Int}{h:Gh}{Q:WK}(k:∀ b,Q (.bl b) h):kIn (.int v) (.tup [.int 2,.int 3]) h Q:=k _
theorem kO.ati {h:Gh}{w:W}{ts:List Tr}(e:kO h w ts){d:Int}(h0:0≤d)(h1:d<(ts.length:Int)){Q:WK}(k:∀ t,t∈ts→Q (tw t) h):kIx w (.int d) h Q:=by
 have hi:d.toNat<ts.length:=by omega
 have:=e.at hi (k _ (oX hi))
 rwa [show ((d.toNat:Nat):Int)=d by omega] at this
theorem sm7 (x:Int):Sm 2 (x.fmod 7 - 3):=by
 have:=dj x (b:=7) (by decide)
 exact Sm.le (i:=3) (by unfold Sm;decide +kernel) (by omega)
theorem wth_sm {m n:Nat}{c:C6}{p:Tr}(hc:Sm6 m c)(hp:SmT n p):Sm (m+n+n+5) (wth c p):=by
 obtain ⟨h1,h2,h3,h4,h5,h6⟩:=hc
 obtain ⟨hx,hy,hz⟩:=hp
 unfold wth
 exact ((((((h1.mul hx).mul hx).add ((h3.mul hy).mul hy)).add ((h6.mul hz).mul hz)).add ((h2.mul hx).mul hy)).add ((h4.mul hx).mul hz)).add ((h5.mul hy).mul hz) |>.mono (by omega)
def mix6 (h t:Int)(o n:C6):C6:=(h*o.1 - t*n.1,h*o.2.1 - t*n.2.1,h*o.2.2.1 - t*n.2.2.1,h*o.2.2.2.1 - t*n.2.2.2.1,h*o.2.2.2.2.1 - t*n.2.2.2.2.1,h*o.2.2.2.2.2 - t*n.2.2.2.2.2)
theorem wth_mix (h t:Int)(o n:C6)(x:Tr):wth (mix6 h t o n) x=h*wth o x - t*wth n x:=by
 simp only [wth,mix6]
 grind
theorem pH {c:C6}{x:Tr}(h:wth c x≠0):NZ (c6l c):=by
 obtain ⟨c1,c2,c3,c4,c5,c6⟩:=c
 by_cases z:c1=0∧c2=0∧c3=0∧c4=0∧c5=0∧c6=0
 ·obtain ⟨rfl,rfl,rfl,rfl,rfl,rfl⟩:=z
  refine absurd ?_ h
  simp [wth]
 ·have:∃ n∈[c1,c2,c3,c4,c5,c6],n≠0:=by
   by_cases z1:c1=0
   ·by_cases z2:c2=0
    ·by_cases z3:c3=0
     ·by_cases z4:c4=0
      ·by_cases z5:c5=0
       ·by_cases z6:c6=0
        ·exact absurd ⟨z1,z2,z3,z4,z5,z6⟩ z
        ·exact ⟨c6,by simp,z6⟩
       ·exact ⟨c5,by simp,z5⟩
      ·exact ⟨c4,by simp,z4⟩
     ·exact ⟨c3,by simp,z3⟩
    ·exact ⟨c2,by simp,z2⟩
   ·exact ⟨c1,by simp,z1⟩
  exact this
def uc (s t:Int)(p q:Tr):Tr:=(s*p.1 - t*q.1,s*p.2.1 - t*q.2.1,s*p.2.2 - t*q.2.2)
theorem bQ (x y:Tr):br3 x y y=0∧br3 x x y=0∧br3 x y x=0:=by
 refine ⟨?_,?_,?_⟩ <;> simp only [br3,crs,dt3] <;> grind
theorem brr (s t:Int)(u v p q:Tr):br3 p q (uc s t u v)=s*br3 p q u - t*br3 p q v:=by
 simp only [br3,crs,dt3,uc]
 grind
theorem cN (a b c:Tr):br3 b c a=br3 a b c:=(rot3 a b c).symm
theorem b_cab (a b c:Tr):br3 c a b=br3 a b c:=rot3 c a b
theorem cA (a b c:Tr):br3 a c b = - br3 a b c:=by
 simp only [br3,crs,dt3]
 grind
theorem f1 (a b c d e:Tr):br3 b d e*br3 a c d - br3 a d e*br3 b c d=br3 a b d*br3 c d e:=by
 simp only [br3,crs,dt3]
 grind
theorem f2 (a b c d e:Tr):br3 a c e*br3 a b d - br3 a d e*br3 a b c=br3 a b e*br3 a c d:=by
 simp only [br3,crs,dt3]
 grind
theorem f3 (a b c d e:Tr):br3 a b c*br3 c d e+br3 a c e*br3 b c d=br3 a c d*br3 b c e:=by
 simp only [br3,crs,dt3]
 grind
theorem f4 (a b c d e:Tr):br3 a b e*br3 b c d+br3 a b c*br3 b d e=br3 a b d*br3 b c e:=by
 simp only [br3,crs,dt3]
 grind
theorem cl2 (b c l:Tr):crs (crs b c) l=uc (dt3 l b) (dt3 l c) c b:=by
 simp only [crs,dt3,uc]
 refine Prod.ext ?_ (Prod.ext ?_ ?_)
 ·simp only;grind
 ·simp only;grind
 ·simp only;grind
def jF (a b c d e:Tr):C6:=mix6 (wth (one6 a b c d) e) (wth (oth6 a b c d) e) (oth6 a b c d) (one6 a b c d)
theorem cur_w (a b c d e x:Tr):wth (jF a b c d e) x=br3 a b e*br3 c d e*(br3 a c x*br3 b d x) - br3 a c e*br3 b d e*(br3 a b x*br3 c d x):=by
 have v1:∀ x,wth (one6 a b c d) x=br3 a b x*br3 c d x:=fun x=>fV _ _ _
 have v2:∀ x,wth (oth6 a b c d) x=br3 a c x*br3 b d x:=fun x=>fV _ _ _
 unfold jF
 rw [wth_mix,v1,v2,v1,v2]
theorem pol_mix (h t:Int)(o n:C6)(e x:Tr):dt3 (vm (fj (mix6 h t o n)) e) x=h*dt3 (vm (fj o) e) x - t*dt3 (vm (fj n) e) x:=by
 simp only [dt3,vm,fj,mix6]
 grind
theorem xQ (u v e x:Tr):dt3 (vm (fj (nW u v)) e) x=dt3 u e*dt3 v x+dt3 u x*dt3 v e:=by
 simp only [dt3,vm,fj,nW]
 grind
section
variable {a b c d e l:Tr}
end
structure G5 (ts:List Tr):Prop where
 pl:∀ t∈ts,Pl t
 nd:ts.Nodup
 four:∀ n:Tr,n≠(0,0,0)→∀ x∈ts,∃ y∈ts,y≠x∧dt3 n y≠0
theorem G5.perm {ts us:List Tr}(G:G5 ts)(h:ts.Perm us):G5 us:=
 ⟨fun t ht=>G.pl t (h.mem_iff.mpr ht),h.nodup_iff.mp G.nd,fun n hn x hx=>let ⟨y,hy,q⟩:=G.four n hn x (h.mem_iff.mpr hx);⟨y,h.mem_iff.mp hy,q⟩⟩
theorem G5.no {ts:List Tr}(G:G5 ts){p q r s t:Tr}(h:∀ y∈ts,y=p∨y=q∨y=r∨y=s∨y=t)(hp:p∈ts)(hq:q∈ts)(ht:t∈ts)(pq:p≠q):¬ (br3 p q r=0∧br3 p q s=0):=fun z=>by
 obtain ⟨y,hy,ne,d⟩:=G.four (crs p q) (crs_ne (G.pl p hp) (G.pl q hq) pq) t ht
 rcases h y hy with rfl | rfl | rfl | rfl | rfl
 ·exact d (yt _ _)
 ·exact d (yE _ _)
 ·exact d z.1
 ·exact d z.2
 ·exact ne rfl
structure Br (a b c d e:Tr):Prop where
 n1:¬ (br3 a b c=0∧br3 a b d=0)
 n2:¬ (br3 a b c=0∧br3 a b e=0)
 n3:¬ (br3 a b d=0∧br3 a b e=0)
 n4:¬ (br3 a b c=0∧br3 a c d=0)
 n5:¬ (br3 a b c=0∧br3 a c e=0)
 n6:¬ (br3 a c d=0∧br3 a c e=0)
 n7:¬ (br3 a b d=0∧br3 a c d=0)
 n8:¬ (br3 a b d=0∧br3 a d e=0)
 n9:¬ (br3 a c d=0∧br3 a d e=0)
 n10:¬ (br3 a b e=0∧br3 a c e=0)
 n11:¬ (br3 a b e=0∧br3 a d e=0)
 n12:¬ (br3 a c e=0∧br3 a d e=0)
 n13:¬ (br3 a b c=0∧br3 b c d=0)
 n14:¬ (br3 a b c=0∧br3 b c e=0)
 n15:¬ (br3 b c d=0∧br3 b c e=0)
 n16:¬ (br3 a b d=0∧br3 b c d=0)
 n17:¬ (br3 a b d=0∧br3 b d e=0)
 n18:¬ (br3 b c d=0∧br3 b d e=0)
 n19:¬ (br3 a b e=0∧br3 b c e=0)
 n20:¬ (br3 a b e=0∧br3 b d e=0)
 n21:¬ (br3 b c e=0∧br3 b d e=0)
 n22:¬ (br3 a c d=0∧br3 b c d=0)
 n23:¬ (br3 a c d=0∧br3 c d e=0)
 n24:¬ (br3 b c d=0∧br3 c d e=0)
 n25:¬ (br3 a c e=0∧br3 b c e=0)
 n26:¬ (br3 a c e=0∧br3 c d e=0)
 n27:¬ (br3 b c e=0∧br3 c d e=0)
 n28:¬ (br3 a d e=0∧br3 b d e=0)
 n29:¬ (br3 a d e=0∧br3 c d e=0)
 n30:¬ (br3 b d e=0∧br3 c d e=0)
theorem Br.of {a b c d e:Tr}(G:G5 [a,b,c,d,e]):Br a b c d e:=by
 have nd:=G.nd
 simp only [List.nodup_cons,List.mem_cons,List.not_mem_nil,or_false,not_or,not_false_eq_true,List.nodup_nil,and_true] at nd
 obtain ⟨⟨ab,ac,ad,ae⟩,⟨bc,bd,be⟩,⟨cd,ce⟩,de⟩:=nd
 exact {
  n1:=fun z=>G.no (p:=a) (q:=b) (r:=c) (s:=d) (t:=e) (fun y hy=>by simp only [List.mem_cons,List.not_mem_nil,or_false] at hy;rcases hy with h | h | h | h | h <;> simp [h]) (by simp) (by simp) (by simp) ab ⟨z.1,z.2⟩
  n2:=fun z=>G.no (p:=a) (q:=b) (r:=c) (s:=e) (t:=d) (fun y hy=>by simp only [List.mem_cons,List.not_mem_nil,or_false] at hy;rcases hy with h | h | h | h | h <;> simp [h]) (by simp) (by simp) (by simp) ab ⟨z.1,z.2⟩
  n3:=fun z=>G.no (p:=a) (q:=b) (r:=d) (s:=e) (t:=c) (fun y hy=>by simp only [List.mem_cons,List.not_mem_nil,or_false] at hy;rcases hy with h | h | h | h | h <;> simp [h]) (by simp) (by simp) (by simp) ab ⟨z.1,z.2⟩
  n4:=fun z=>G.no (p:=a) (q:=c) (r:=b) (s:=d) (t:=e) (fun y hy=>by simp only [List.mem_cons,List.not_mem_nil,or_false] at hy;rcases hy with h | h | h | h | h <;> simp [h]) (by simp) (by simp) (by simp) ac ⟨(by rw [cA a b c,z.1];rfl),z.2⟩
  n5:=fun z=>G.no (p:=a) (q:=c) (r:=b) (s:=e) (t:=d) (fun y hy=>by simp only [List.mem_cons,List.not_mem_nil,or_false] at hy;rcases hy with h | h | h | h | h <;> simp [h]) (by simp) (by simp) (by simp) ac ⟨(by rw [cA a b c,z.1];rfl),z.2⟩
  n6:=fun z=>G.no (p:=a) (q:=c) (r:=d) (s:=e) (t:=b) (fun y hy=>by simp only [List.mem_cons,List.not_mem_nil,or_false] at hy;rcases hy with h | h | h | h | h <;> simp [h]) (by simp) (by simp) (by simp) ac ⟨z.1,z.2⟩
  n7:=fun z=>G.no (p:=a) (q:=d) (r:=b) (s:=c) (t:=e) (fun y hy=>by simp only [List.mem_cons,List.not_mem_nil,or_false] at hy;rcases hy with h | h | h | h | h <;> simp [h]) (by simp) (by simp) (by simp) ad ⟨(by rw [cA a b d,z.1];rfl),(by rw [cA a c d,z.2];rfl)⟩
  n8:=fun z=>G.no (p:=a) (q:=d) (r:=b) (s:=e) (t:=c) (fun y hy=>by simp only [List.mem_cons,List.not_mem_nil,or_false] at hy;rcases hy with h | h | h | h | h <;> simp [h]) (by simp) (by simp) (by simp) ad ⟨(by rw [cA a b d,z.1];rfl),z.2⟩
  n9:=fun z=>G.no (p:=a) (q:=d) (r:=c) (s:=e) (t:=b) (fun y hy=>by simp only [List.mem_cons,List.not_mem_nil,or_false] at hy;rcases hy with h | h | h | h | h <;> simp [h]) (by simp) (by simp) (by simp) ad ⟨(by rw [cA a c d,z.1];rfl),z.2⟩
  n10:=fun z=>G.no (p:=a) (q:=e) (r:=b) (s:=c) (t:=d) (fun y hy=>by simp only [List.mem_cons,List.not_mem_nil,or_false] at hy;rcases hy with h | h | h | h | h <;> simp [h]) (by simp) (by simp) (by simp) ae ⟨(by rw [cA a b e,z.1];rfl),(by rw [cA a c e,z.2];rfl)⟩
  n11:=fun z=>G.no (p:=a) (q:=e) (r:=b) (s:=d) (t:=c) (fun y hy=>by simp only [List.mem_cons,List.not_mem_nil,or_false] at hy;rcases hy with h | h | h | h | h <;> simp [h]) (by simp) (by simp) (by simp) ae ⟨(by rw [cA a b e,z.1];rfl),(by rw [cA a d e,z.2];rfl)⟩
  n12:=fun z=>G.no (p:=a) (q:=e) (r:=c) (s:=d) (t:=b) (fun y hy=>by simp only [List.mem_cons,List.not_mem_nil,or_false] at hy;rcases hy with h | h | h | h | h <;> simp [h]) (by simp) (by simp) (by simp) ae ⟨(by rw [cA a c e,z.1];rfl),(by rw [cA a d e,z.2];rfl)⟩
  n13:=fun z=>G.no (p:=b) (q:=c) (r:=a) (s:=d) (t:=e) (fun y hy=>by simp only [List.mem_cons,List.not_mem_nil,or_false] at hy;rcases hy with h | h | h | h | h <;> simp [h]) (by simp) (by simp) (by simp) bc ⟨(by rw [cN a b c];exact z.1),z.2⟩
  n14:=fun z=>G.no (p:=b) (q:=c) (r:=a) (s:=e) (t:=d) (fun y hy=>by simp only [List.mem_cons,List.not_mem_nil,or_false] at hy;rcases hy with h | h | h | h | h <;> simp [h]) (by simp) (by simp) (by simp) bc ⟨(by rw [cN a b c];exact z.1),z.2⟩
  n15:=fun z=>G.no (p:=b) (q:=c) (r:=d) (s:=e) (t:=a) (fun y hy=>by simp only [List.mem_cons,List.not_mem_nil,or_false] at hy;rcases hy with h | h | h | h | h <;> simp [h]) (by simp) (by simp) (by simp) bc ⟨z.1,z.2⟩
  n16:=fun z=>G.no (p:=b) (q:=d) (r:=a) (s:=c) (t:=e) (fun y hy=>by simp only [List.mem_cons,List.not_mem_nil,or_false] at hy;rcases hy with h | h | h | h | h <;> simp [h]) (by simp) (by simp) (by simp) bd ⟨(by rw [cN a b d];exact z.1),(by rw [cA b c d,z.2];rfl)⟩
  n17:=fun z=>G.no (p:=b) (q:=d) (r:=a) (s:=e) (t:=c) (fun y hy=>by simp only [List.mem_cons,List.not_mem_nil,or_false] at hy;rcases hy with h | h | h | h | h <;> simp [h]) (by simp) (by simp) (by simp) bd ⟨(by rw [cN a b d];exact z.1),z.2⟩
  n18:=fun z=>G.no (p:=b) (q:=d) (r:=c) (s:=e) (t:=a) (fun y hy=>by simp only [List.mem_cons,List.not_mem_nil,or_false] at hy;rcases hy with h | h | h | h | h <;> simp [h]) (by simp) (by simp) (by simp) bd ⟨(by rw [cA b c d,z.1];rfl),z.2⟩
  n19:=fun z=>G.no (p:=b) (q:=e) (r:=a) (s:=c) (t:=d) (fun y hy=>by simp only [List.mem_cons,List.not_mem_nil,or_false] at hy;rcases hy with h | h | h | h | h <;> simp [h]) (by simp) (by simp) (by simp) be ⟨(by rw [cN a b e];exact z.1),(by rw [cA b c e,z.2];rfl)⟩
  n20:=fun z=>G.no (p:=b) (q:=e) (r:=a) (s:=d) (t:=c) (fun y hy=>by simp only [List.mem_cons,List.not_mem_nil,or_false] at hy;rcases hy with h | h | h | h | h <;> simp [h]) (by simp) (by simp) (by simp) be ⟨(by rw [cN a b e];exact z.1),(by rw [cA b d e,z.2];rfl)⟩
  n21:=fun z=>G.no (p:=b) (q:=e) (r:=c) (s:=d) (t:=a) (fun y hy=>by simp only [List.mem_cons,List.not_mem_nil,or_false] at hy;rcases hy with h | h | h | h | h <;> simp [h]) (by simp) (by simp) (by simp) be ⟨(by rw [cA b c e,z.1];rfl),(by rw [cA b d e,z.2];rfl)⟩
  n22:=fun z=>G.no (p:=c) (q:=d) (r:=a) (s:=b) (t:=e) (fun y hy=>by simp only [List.mem_cons,List.not_mem_nil,or_false] at hy;rcases hy with h | h | h | h | h <;> simp [h]) (by simp) (by simp) (by simp) cd ⟨(by rw [cN a c d];exact z.1),(by rw [cN b c d];exact z.2)⟩
  n23:=fun z=>G.no (p:=c) (q:=d) (r:=a) (s:=e) (t:=b) (fun y hy=>by simp only [List.mem_cons,List.not_mem_nil,or_false] at hy;rcases hy with h | h | h | h | h <;> simp [h]) (by simp) (by simp) (by simp) cd ⟨(by rw [cN a c d];exact z.1),z.2⟩
  n24:=fun z=>G.no (p:=c) (q:=d) (r:=b) (s:=e) (t:=a) (fun y hy=>by simp only [List.mem_cons,List.not_mem_nil,or_false] at hy;rcases hy with h | h | h | h | h <;> simp [h]) (by simp) (by simp) (by simp) cd ⟨(by rw [cN b c d];exact z.1),z.2⟩
  n25:=fun z=>G.no (p:=c) (q:=e) (r:=a) (s:=b) (t:=d) (fun y hy=>by simp only [List.mem_cons,List.not_mem_nil,or_false] at hy;rcases hy with h | h | h | h | h <;> simp [h]) (by simp) (by simp) (by simp) ce ⟨(by rw [cN a c e];exact z.1),(by rw [cN b c e];exact z.2)⟩
  n26:=fun z=>G.no (p:=c) (q:=e) (r:=a) (s:=d) (t:=b) (fun y hy=>by simp only [List.mem_cons,List.not_mem_nil,or_false] at hy;rcases hy with h | h | h | h | h <;> simp [h]) (by simp) (by simp) (by simp) ce ⟨(by rw [cN a c e];exact z.1),(by rw [cA c d e,z.2];rfl)⟩
  n27:=fun z=>G.no (p:=c) (q:=e) (r:=b) (s:=d) (t:=a) (fun y hy=>by simp only [List.mem_cons,List.not_mem_nil,or_false] at hy;rcases hy with h | h | h | h | h <;> simp [h]) (by simp) (by simp) (by simp) ce ⟨(by rw [cN b c e];exact z.1),(by rw [cA c d e,z.2];rfl)⟩
  n28:=fun z=>G.no (p:=d) (q:=e) (r:=a) (s:=b) (t:=c) (fun y hy=>by simp only [List.mem_cons,List.not_mem_nil,or_false] at hy;rcases hy with h | h | h | h | h <;> simp [h]) (by simp) (by simp) (by simp) de ⟨(by rw [cN a d e];exact z.1),(by rw [cN b d e];exact z.2)⟩
  n29:=fun z=>G.no (p:=d) (q:=e) (r:=a) (s:=c) (t:=b) (fun y hy=>by simp only [List.mem_cons,List.not_mem_nil,or_false] at hy;rcases hy with h | h | h | h | h <;> simp [h]) (by simp) (by simp) (by simp) de ⟨(by rw [cN a d e];exact z.1),(by rw [cN c d e];exact z.2)⟩
  n30:=fun z=>G.no (p:=d) (q:=e) (r:=b) (s:=c) (t:=a) (fun y hy=>by simp only [List.mem_cons,List.not_mem_nil,or_false] at hy;rcases hy with h | h | h | h | h <;> simp [h]) (by simp) (by simp) (by simp) de ⟨(by rw [cN b d e];exact z.1),(by rw [cN c d e];exact z.2)⟩ }
section
variable {a b c d e:Tr}
theorem ql (a b c d e:Tr):∀ x∈[a,b,c,d,e],wth (jF a b c d e) x=0:=by
 intro x hx
 simp only [List.mem_cons,List.not_mem_nil,or_false] at hx
 rw [cur_w]
 rcases hx with rfl | rfl | rfl | rfl | rfl
 ·rw [(bQ x c).2.2,(bQ x b).2.2];simp
 ·rw [(bQ x d).2.2,(bQ a x).1];simp
 ·rw [(bQ a x).1,(bQ x d).2.2];simp
 ·rw [(bQ b x).1,(bQ c x).1];simp
 ·grind
theorem brs (p q u v:Tr):br3 p q (uc 1 (-1) u v)=br3 p q u+br3 p q v:=by
 rw [brr]
 omega
theorem jw {x y:Int}(hx:x≠0)(hy:y≠0):x*y≠0:=Int.mul_ne_zero hx hy
theorem cur_nz (B:Br a b c d e):NZ (c6l (jF a b c d e)):=by
 have x1:wth (jF a b c d e) (uc 1 (-1) a b) = - (br3 a b e*br3 c d e*(br3 a b c*br3 a b d)):=by
  rw [cur_w,brs,brs,brs,brs,(bQ a c).2.2,(bQ b d).2.2,(bQ a b).2.2,(bQ a b).1,cA a b c,cN a b d]
  grind
 have x2:wth (jF a b c d e) (uc 1 (-1) c d) = - (br3 a b e*br3 c d e*(br3 a c d*br3 b c d)):=by
  rw [cur_w,brs,brs,brs,brs,(bQ a c).1,(bQ b d).1,(bQ c d).2.2,(bQ c d).1,cA b c d]
  grind
 have x3:wth (jF a b c d e) (uc 1 (-1) b d) = - (br3 a c e*br3 b d e*(br3 a b d*br3 b c d)):=by
  rw [cur_w,brs,brs,brs,brs,(bQ b d).2.2,(bQ b d).1,(bQ a b).1,(bQ c d).1,cN b c d]
  grind
 have x4:wth (jF a b c d e) (uc 1 (-1) a c) = - (br3 a c e*br3 b d e*(br3 a b c*br3 a c d)):=by
  rw [cur_w,brs,brs,brs,brs,(bQ a c).2.2,(bQ a c).1,(bQ a b).2.2,(bQ c d).2.2,cN a c d]
  grind
 have neg:∀ {i:Int},i≠0→-i≠0:=fun h z=>h (by omega)
 by_cases H:br3 a b e*br3 c d e=0
 ·have K:br3 a c e*br3 b d e≠0:=fun K=>by
   rcases Int.mul_eq_zero.mp H with h | h <;> rcases Int.mul_eq_zero.mp K with k | k
   ·exact B.n10 ⟨h,k⟩
   ·exact B.n20 ⟨h,k⟩
   ·exact B.n26 ⟨k,h⟩
   ·exact B.n30 ⟨k,h⟩
  by_cases z:br3 a b d=0
  ·exact pH (x:=uc 1 (-1) a c) (by rw [x4];exact neg (jw K (jw (fun y=>B.n1 ⟨y,z⟩) fun y=>B.n7 ⟨z,y⟩)))
  ·by_cases z2:br3 b c d=0
   ·exact pH (x:=uc 1 (-1) a c) (by rw [x4];exact neg (jw K (jw (fun y=>B.n13 ⟨y,z2⟩) fun y=>B.n22 ⟨y,z2⟩)))
   ·exact pH (x:=uc 1 (-1) b d) (by rw [x3];exact neg (jw K (jw z z2)))
 ·by_cases z:br3 a b c=0
  ·exact pH (x:=uc 1 (-1) c d) (by rw [x2];exact neg (jw H (jw (fun y=>B.n4 ⟨z,y⟩) fun y=>B.n13 ⟨z,y⟩)))
  ·by_cases z2:br3 a b d=0
   ·exact pH (x:=uc 1 (-1) c d) (by rw [x2];exact neg (jw H (jw (fun y=>B.n7 ⟨z2,y⟩) fun y=>B.n16 ⟨z2,y⟩)))
   ·exact pH (x:=uc 1 (-1) a b) (by rw [x1];exact neg (jw H (jw z z2)))
def pol (C:C6)(p q:Tr):Int:=dt3 (vm (fj C) p) q
def P3 (C:C6)(a b c:Tr):Tr:=(pol C a b,pol C a c,pol C b c)
def uu (a b c x:Tr):Tr:=(br3 x b c*br3 a x c,br3 x b c*br3 a b x,br3 a x c*br3 a b x)
theorem cramer (a b c x:Tr):(br3 a b c*x.1,br3 a b c*x.2.1,br3 a b c*x.2.2)=(br3 x b c*a.1+br3 a x c*b.1+br3 a b x*c.1,br3 x b c*a.2.1+br3 a x c*b.2.1+br3 a b x*c.2.1,br3 x b c*a.2.2+br3 a x c*b.2.2+br3 a b x*c.2.2):=by
 simp only [br3,crs,dt3]
 refine Prod.ext ?_ (Prod.ext ?_ ?_)
 ·simp only;grind
 ·simp only;grind
 ·simp only;grind
theorem wth_comb (C:C6)(i j k:Int)(a b c:Tr):wth C (i*a.1+j*b.1+k*c.1,i*a.2.1+j*b.2.1+k*c.2.1,i*a.2.2+j*b.2.2+k*c.2.2)=i*i*wth C a+j*j*wth C b+k*k*wth C c+(i*j*pol C a b+i*k*pol C a c+j*k*pol C b c):=by
 simp only [wth,pol,dt3,vm,fj]
 grind
theorem wth_scl (C:C6)(k:Int)(x:Tr):wth C (k*x.1,k*x.2.1,k*x.2.2)=k*k*wth C x:=by
 simp only [wth]
 grind
theorem wth3 {C:C6}(ha:wth C a=0)(hb:wth C b=0)(hc:wth C c=0)(x:Tr):br3 a b c*br3 a b c*wth C x=dt3 (uu a b c x) (P3 C a b c):=by
 rw [←wth_scl,cramer,wth_comb,ha,hb,hc]
 simp only [dt3,uu,P3]
 omega
theorem n_of (a b c d e:Tr):crs (uu a b c d) (uu a b c e)=(br3 a b d*br3 a b e*(br3 a b c*br3 c d e),br3 a c d*br3 a c e*(br3 a b c*br3 b d e),br3 b c d*br3 b c e*(br3 a b c*br3 a d e)):=by
 have h2:=f2 a b c d e
 have h3:=f3 a b c d e
 have h4:=f4 a b c d e
 have k3:br3 a b c*br3 c d e=br3 a c d*br3 b c e - br3 a c e*br3 b c d:=by omega
 have k4:br3 a b c*br3 b d e=br3 a b d*br3 b c e - br3 a b e*br3 b c d:=by omega
 have k2:br3 a b c*br3 a d e=br3 a c e*br3 a b d - br3 a b e*br3 a c d:=by
  have:br3 a b c*br3 a d e=br3 a d e*br3 a b c:=Int.mul_comm _ _
  omega
 rw [k2,k3,k4]
 simp only [uu,crs]
 rw [b_cab b c d,b_cab b c e,cA a c d,cA a c e]
 refine Prod.ext ?_ (Prod.ext ?_ ?_)
 ·simp only;grind
 ·simp only;grind
 ·simp only;grind
theorem n_ne (B:Br a b c d e)(h:br3 a b c≠0):crs (uu a b c d) (uu a b c e)≠(0,0,0):=by
 rw [n_of]
 intro z
 simp only [Prod.mk.injEq] at z
 obtain ⟨z1,z2,z3⟩:=z
 have t1:br3 a b d=0∨br3 a b e=0∨br3 c d e=0:=by
  rcases Int.mul_eq_zero.mp z1 with q | q
  ·exact (Int.mul_eq_zero.mp q).elim .inl fun q=>.inr (.inl q)
  ·exact .inr (.inr ((Int.mul_eq_zero.mp q).resolve_left h))
 have t2:br3 a c d=0∨br3 a c e=0∨br3 b d e=0:=by
  rcases Int.mul_eq_zero.mp z2 with q | q
  ·exact (Int.mul_eq_zero.mp q).elim .inl fun q=>.inr (.inl q)
  ·exact .inr (.inr ((Int.mul_eq_zero.mp q).resolve_left h))
 have t3:br3 b c d=0∨br3 b c e=0∨br3 a d e=0:=by
  rcases Int.mul_eq_zero.mp z3 with q | q
  ·exact (Int.mul_eq_zero.mp q).elim .inl fun q=>.inr (.inl q)
  ·exact .inr (.inr ((Int.mul_eq_zero.mp q).resolve_left h))
 rcases t1 with q1 | q1 | q1
 ·rcases t2 with q2 | q2 | q2
  ·exact B.n7 ⟨q1,q2⟩
  ·rcases t3 with q3 | q3 | q3
   ·exact B.n16 ⟨q1,q3⟩
   ·exact B.n25 ⟨q2,q3⟩
   ·exact B.n8 ⟨q1,q3⟩
  ·exact B.n17 ⟨q1,q2⟩
 ·rcases t2 with q2 | q2 | q2
  ·rcases t3 with q3 | q3 | q3
   ·exact B.n22 ⟨q2,q3⟩
   ·exact B.n19 ⟨q1,q3⟩
   ·exact B.n11 ⟨q1,q3⟩
  ·exact B.n10 ⟨q1,q2⟩
  ·exact B.n20 ⟨q1,q2⟩
 ·rcases t2 with q2 | q2 | q2
  ·exact B.n23 ⟨q2,q1⟩
  ·exact B.n26 ⟨q2,q1⟩
  ·exact B.n30 ⟨q2,q1⟩
theorem crs3 (u v p:Tr):crs (crs u v) p=uc (dt3 p u) (dt3 p v) v u:=cl2 u v p
theorem par_tr {n p q:Tr}(h0:n≠(0,0,0))(hp:crs n p=(0,0,0))(hq:crs n q=(0,0,0)):crs p q=(0,0,0):=by
  obtain ⟨n1,n2,n3⟩:=n
  obtain ⟨p1,p2,p3⟩:=p
  obtain ⟨q1,q2,q3⟩:=q
  simp only [crs,Prod.mk.injEq] at hp hq ⊢
  obtain ⟨a1,a2,a3⟩:=hp
  obtain ⟨b1,b2,b3⟩:=hq
  have key:∀ {k x:Int},k≠0→k*x=0→x=0:=fun h z=>(Int.mul_eq_zero.mp z).resolve_left h
  by_cases z1:n1=0
  · by_cases z2:n2=0
    · have z3:n3≠0:=fun z3=>h0 (by rw [z1,z2,z3])
      subst z1 z2
      have c1:p1=0:=key z3 (by simpa using a2)
      have c2:p2=0:=key z3 (by omega)
      have c3:q1=0:=key z3 (by simpa using b2)
      have c4:q2=0:=key z3 (by omega)
      subst c1 c2 c3 c4
      simp
    · refine ⟨key z2 ?_,key z2 ?_,key z2 ?_⟩ <;> grind
  · refine ⟨key z1 ?_,key z1 ?_,key z1 ?_⟩ <;> grind
theorem prod2 (u v p q:Tr):dt3 u p*dt3 v q - dt3 v p*dt3 u q=dt3 (crs u v) (crs p q):=by
 simp only [dt3,crs]
 grind
theorem par5 {C C':C6}(B:Br a b c d e)(h:br3 a b c≠0)(hC:∀ x∈[a,b,c,d,e],wth C x=0)(hC':∀ x∈[a,b,c,d,e],wth C' x=0)(x y:Tr):wth C x*wth C' y=wth C y*wth C' x:=by
 have w:=wth3 (hC a (by simp)) (hC b (by simp)) (hC c (by simp))
 have w':=wth3 (hC' a (by simp)) (hC' b (by simp)) (hC' c (by simp))
 have ort:∀ {C:C6},(∀ x∈[a,b,c,d,e],wth C x=0)→crs (crs (uu a b c d) (uu a b c e)) (P3 C a b c)=(0,0,0):=fun {C} hC=>by
  have w:=wth3 (hC a (by simp)) (hC b (by simp)) (hC c (by simp))
  have wd:=w d
  have we:=w e
  rw [hC d (by simp),Int.mul_zero] at wd
  rw [hC e (by simp),Int.mul_zero] at we
  rw [crs3,cW,←wd,cW,←we]
  simp [uc]
 have z:=par_tr (n_ne B h) (ort hC) (ort hC')
 have k:=prod2 (uu a b c x) (uu a b c y) (P3 C a b c) (P3 C' a b c)
 have z0:dt3 (crs (uu a b c x) (uu a b c y)) ((0,0,0):Tr)=0:=by simp [dt3]
 rw [z,z0,←w x,←w' y,←w y,←w' x] at k
 have hh:br3 a b c*br3 a b c*(br3 a b c*br3 a b c)≠0:=jw (jw h h) (jw h h)
 refine Int.eq_of_mul_eq_mul_left hh ?_
 grind
theorem par6 {C C':C6}(G:G5 [a,b,c,d,e])(hC:∀ x∈[a,b,c,d,e],wth C x=0)(hC':∀ x∈[a,b,c,d,e],wth C' x=0)(x y:Tr):wth C x*wth C' y=wth C y*wth C' x:=by
 have B:=Br.of G
 by_cases h:br3 a b c=0
 ·have p:[a,b,c,d,e].Perm [a,b,d,c,e]:=.cons _ (.cons _ (.swap _ _ _))
  exact par5 (Br.of (G.perm p)) (fun z=>B.n1 ⟨h,z⟩) (fun x hx=>hC x (p.mem_iff.mpr hx)) (fun x hx=>hC' x (p.mem_iff.mpr hx)) x y
 ·exact par5 B h hC hC' x y
theorem c6_ext {C C':C6}{s t:Int}(h:∀ x,s*wth C x=t*wth C' x):kC s C=kC t C':=by
 obtain ⟨c1,c2,c3,c4,c5,c6⟩:=C
 obtain ⟨d1,d2,d3,d4,d5,d6⟩:=C'
 have h1:=h (1,0,0)
 have h2:=h (0,1,0)
 have h3:=h (0,0,1)
 have h4:=h (1,1,0)
 have h5:=h (1,0,1)
 have h6:=h (0,1,1)
 simp [wth] at h1 h2 h3 h4 h5 h6
 simp only [kC,Prod.mk.injEq]
 refine ⟨?_,?_,?_,?_,?_,?_⟩ <;> grind
theorem nz_at {C:C6}(h:NZ (c6l C)):∃ x,wth C x≠0:=by
 apply Classical.byContradiction
 intro n
 have all:∀ x,wth C x=0:=fun x=>Classical.byContradiction fun z=>n ⟨x,z⟩
 have e:=c6_ext (C:=C) (C':=(0,0,0,0,0,0)) (s:=1) (t:=1) fun x=>by rw [all x];simp [wth]
 obtain ⟨c1,c2,c3,c4,c5,c6⟩:=C
 simp only [kC,Prod.mk.injEq] at e
 obtain ⟨n,hn,hz⟩:=h
 simp only [c6l,List.mem_cons,List.not_mem_nil,or_false] at hn
 omega
theorem pl_nz {ns:List Int}(h:PlL ns):NZ ns:=h.nz
theorem one_curve {C C':C6}(G:G5 [a,b,c,d,e])(p:PlL (c6l C))(p':PlL (c6l C'))(hC:∀ x∈[a,b,c,d,e],wth C x=0)(hC':∀ x∈[a,b,c,d,e],wth C' x=0):C=C':=by
 obtain ⟨y,hy⟩:=nz_at (pl_nz p)
 obtain ⟨y',hy'⟩:=nz_at (pl_nz p')
 have k:=par6 G hC hC'
 have hy2:wth C' y≠0:=fun z=>by
  have:=k y y'
  rw [z,Int.mul_zero] at this
  exact jw hy hy' this
 exact c6_uniq p p' hy2 hy (c6_ext fun x=>by have:=k x y;grind)
theorem det3 (C:C6)(a b c:Tr)(ha:wth C a=0)(hb:wth C b=0)(hc:wth C c=0):br3 a b c*(det (fj C)*br3 a b c)=2*(pol C a b*pol C a c*pol C b c):=by
 have h1:=det_vm (fj C) a b c
 have h2:=det_vm (a,b,c) (vm (fj C) a) (vm (fj C) b) (vm (fj C) c)
 rw [h1] at h2
 have e0:∀ p,wth C p=0→dt3 p (vm (fj C) p)=0:=fun p hp=>by
  have:dt3 (vm (fj C) p) p=2*wth C p:=by
   simp only [dt3,vm,fj,wth]
   grind
  rw [cW,this,hp]
  rfl
 have v1:vm (a,b,c) (vm (fj C) a)=(0,pol C a b,pol C a c):=tr3 (e0 a ha) (cW _ _) (cW _ _)
 have v2:vm (a,b,c) (vm (fj C) b)=(pol C a b,0,pol C b c):=tr3 (by show dt3 a _=_;rw [cW,vo];rfl) (e0 b hb) (cW _ _)
 have v3:vm (a,b,c) (vm (fj C) c)=(pol C a c,pol C b c,0):=tr3 (by show dt3 a _=_;rw [cW,vo];rfl) (by show dt3 b _=_;rw [cW,vo];rfl) (e0 c hc)
 rw [v1,v2,v3] at h2
 have e1:det (a,b,c)=br3 a b c:=rfl
 have e2:dt3 (crs a b) c=br3 a b c:=rfl
 rw [e1,e2] at h2
 rw [←h2]
 simp only [dt3,crs]
 grind
theorem qg (a b c d e p q:Tr):pol (jF a b c d e) p q=br3 a b e*br3 c d e*(br3 a c p*br3 b d q+br3 a c q*br3 b d p) - br3 a c e*br3 b d e*(br3 a b p*br3 c d q+br3 a b q*br3 c d p):=by
 have v1:wth (one6 a b c d) e=br3 a b e*br3 c d e:=fV _ _ _
 have v2:wth (oth6 a b c d) e=br3 a c e*br3 b d e:=fV _ _ _
 unfold pol jF
 rw [pol_mix,v1,v2]
 unfold one6 oth6
 rw [xQ,xQ]
 rfl
theorem f5 (a b c d e:Tr):br3 a b e*br3 c d e - br3 a c e*br3 b d e = - (br3 a d e*br3 b c e):=by
 simp only [br3,crs,dt3]
 grind
theorem det_abc (h:br3 a b c≠0):det (fj (jF a b c d e)) = -2*(br3 a b c*(br3 a b e*br3 c d e)*(br3 a c e*br3 b d e)*(br3 a b d*br3 a c d*br3 b c d)*(br3 a d e*br3 b c e)):=by
 have v:=ql a b c d e
 have k:=det3 (jF a b c d e) a b c (v a (by simp)) (v b (by simp)) (v c (by simp))
 have p1:pol (jF a b c d e) a b = - (br3 a b e*br3 c d e*(br3 a b c*br3 a b d)):=by
  rw [qg,(bQ a c).2.2,(bQ a b).2.2,(bQ a b).1,cA a b c,cN a b d]
  grind
 have p2:pol (jF a b c d e) a c = - (br3 a c e*br3 b d e*(br3 a b c*br3 a c d)):=by
  rw [qg,(bQ a c).2.2,(bQ a c).1,(bQ a b).2.2,cN a c d]
  grind
 have p3:pol (jF a b c d e) b c = - (br3 a b c*br3 b c d*(br3 a d e*br3 b c e)):=by
  rw [qg,(bQ a c).1,(bQ b d).2.2,(bQ a b).1,(bQ c d).2.2,cA a b c,cA b c d,cN b c d]
  have:=f5 a b c d e
  grind
 rw [p1,p2,p3] at k
 refine Int.eq_of_mul_eq_mul_left (jw h h) ?_
 grind
theorem det_flat (h:br3 a b c=0)(h2:br3 a b d≠0):det (fj (jF a b c d e))=0:=by
 have v:=ql a b c d e
 have k:=det3 (jF a b c d e) a b d (v a (by simp)) (v b (by simp)) (v d (by simp))
 have p1:pol (jF a b c d e) a b=0:=by
  rw [qg,(bQ a c).2.2,(bQ a b).2.2,(bQ a b).1,cA a b c,h]
  simp
 rw [p1] at k
 have:br3 a b d*br3 a b d*det (fj (jF a b c d e))=0:=by grind
 exact (Int.mul_eq_zero.mp this).resolve_left (jw h2 h2)
theorem five_mk (h1:br3 a b c≠0)(h2:br3 a b d≠0)(h3:br3 a b e≠0)(h4:br3 a c d≠0)(h5:br3 a c e≠0)(h6:br3 a d e≠0)(h7:br3 b c d≠0)(h8:br3 b c e≠0)(h9:br3 b d e≠0)(h10:br3 c d e≠0):Five a b c d e:=by
 rintro ⟨i,j,l,hi,hj,hl,z⟩
 have hl:l<5:=hl
 rcases (show l=2∨l=3∨l=4 by omega) with rfl | rfl | rfl
 ·rcases (show j=1 by omega) with rfl
  rcases (show i=0 by omega) with rfl
  exact h1 z
 ·rcases (show j=1∨j=2 by omega) with rfl | rfl
  ·rcases (show i=0 by omega) with rfl
   exact h2 z
  ·rcases (show i=0∨i=1 by omega) with rfl | rfl
   ·exact h4 z
   ·exact h7 z
 ·rcases (show j=1∨j=2∨j=3 by omega) with rfl | rfl | rfl
  ·rcases (show i=0 by omega) with rfl
   exact h3 z
  ·rcases (show i=0∨i=1 by omega) with rfl | rfl
   ·exact h5 z
   ·exact h8 z
  ·rcases (show i=0∨i=1∨i=2 by omega) with rfl | rfl | rfl
   ·exact h6 z
   ·exact h9 z
   ·exact h10 z
theorem round_iff (G:G5 [a,b,c,d,e]){C:C6}{k:Int}(k0:k≠0)(e0:jF a b c d e=kC k C):det (fj C)≠0↔Five a b c d e:=by
 have B:=Br.of G
 have hd:det (fj (jF a b c d e))≠0↔det (fj C)≠0:=by
  rw [e0,tab_k]
  exact det_sM_ne k0
 rw [←hd]
 constructor
 ·intro n
  have h:br3 a b c≠0:=fun h=>n (det_flat h fun z=>B.n1 ⟨h,z⟩)
  rw [det_abc h] at n
  exact five_mk h (fun z=>n (by rw [z];simp)) (fun z=>n (by rw [z];simp)) (fun z=>n (by rw [z];simp)) (fun z=>n (by rw [z];simp)) (fun z=>n (by rw [z];simp)) (fun z=>n (by rw [z];simp)) (fun z=>n (by rw [z];simp)) (fun z=>n (by rw [z];simp)) (fun z=>n (by rw [z];simp))
 ·intro F
  obtain ⟨tabc,tabd,tabe,tacd,tace,tade,tbcd,tbce,tbde,tcde⟩:=tE F
  rw [det_abc tabc]
  exact jw (by decide) (jw (jw (jw (jw tabc (jw tabe tcde)) (jw tace tbde)) (jw (jw tabd tacd) tbcd)) (jw tade tbce))
end
theorem uL:∀ (l acc:List (List Int)),((l.foldl dd1 acc).length=acc.length+l.length↔(∀ k∈l,k∉acc)∧l.Nodup)
 | [],acc=>by simp
 | k::r,acc=>by
  rw [List.foldl_cons]
  have le:=fZ r (dd1 acc k)
  by_cases hk:k∈acc
  ·have e:dd1 acc k=acc:=by unfold dd1;rw [if_pos hk]
   rw [e] at le ⊢
   constructor
   ·intro h
    rw [List.length_cons] at h
    omega
   ·rintro ⟨h,_⟩
    exact absurd hk (h k (by simp))
  ·have e:dd1 acc k=acc++[k]:=by unfold dd1;rw [if_neg hk]
   have ih:=uL r (acc++[k])
   rw [e]
   rw [List.length_append,List.length_singleton] at ih
   rw [List.length_cons,show acc.length+(r.length+1)=acc.length+1+r.length by omega,ih,List.nodup_cons]
   constructor
   ·rintro ⟨h1,h2⟩
    refine ⟨fun x hx=>?_,fun hx=>?_,h2⟩
    ·rcases List.mem_cons.mp hx with rfl | hx
     ·exact hk
     ·exact fun z=>h1 x hx (List.mem_append_left _ z)
    ·exact h1 k hx (by simp)
   ·rintro ⟨h1,h2,h3⟩
    refine ⟨fun x hx z=>?_,h3⟩
    rcases List.mem_append.mp z with z | z
    ·exact h1 x (List.mem_cons_of_mem _ hx) z
    ·rw [List.mem_singleton.mp z] at hx
     exact h2 hx
theorem tl_inj {p q:Tr}:tl p=tl q↔p=q:=by
 obtain ⟨a,b,c⟩:=p
 obtain ⟨d,e,f⟩:=q
 simp [tl]
theorem tups_tw:∀ ts:List Tr,sG (ts.map tw)=some (ts.map tl)
 | []=>rfl
 | t::ts=>by
  rw [List.map_cons,tw,sG,tups_tw ts]
  rfl
theorem nd_tl:∀ {ts:List Tr},(ts.map tl).Nodup↔ts.Nodup
 | []=>by simp
 | t::ts=>by
  rw [List.map_cons,List.nodup_cons,List.nodup_cons,nd_tl]
  have:tl t∈ts.map tl↔t∈ts:=by
   rw [List.mem_map]
   constructor
   ·rintro ⟨u,hu,e⟩
    rw [tl_inj] at e
    rw [←e]
    exact hu
   ·exact fun h=>⟨t,h,rfl⟩
  rw [this]
theorem dd_less (ts:List Tr):decide (((ddl (ts.map tl)).length:Int)<(ts.length:Int)) = !decide ts.Nodup:=by
 have le:=fZ (ts.map tl) []
 have iff:=uL (ts.map tl) []
 rw [nd_tl] at iff
 simp only [List.length_nil,Nat.zero_add,List.length_map] at le iff
 unfold ddl
 by_cases h:ts.Nodup
 ·have:=iff.mpr ⟨by simp,h⟩
  rw [decide_eq_true h,decide_eq_false (by omega)]
  rfl
 ·have:¬ (List.foldl dd1 [] (ts.map tl)).length=ts.length:=fun e=>h (iff.mp e).2
  rw [decide_eq_false h,decide_eq_true (by omega)]
  rfl
theorem kO.vl {h:Gh}{w:W}{ts:List Tr}(e:kO h w ts):cX h w=some (ts.map tw):=by
 rcases e with rfl | ⟨n,rfl,ec⟩
 ·rfl
 ·exact zO ec
theorem kls5 {ts:List Tr}{h:Gh}{w:W}{Q:WK}(e:kO h w ts)(hl:ts.length≤5)(k:Q (.int ((ddl (ts.map tl)).length:Nat)) h):iH [w] h Q:=by
 show (match cX h w with
  | some us=>(match sG us with
   | some kss=>kss.length≤5∧Q (.int (ddl kss).length) h
   | none=>False)
  | none=>False)
 rw [e.vl]
 dsimp only
 rw [tups_tw]
 exact ⟨by rw [List.length_map];exact hl,k⟩
def Alike5 (c0:MSp):Prop:=∀ {h:Gh} {w:W} {ts:List Tr} {Q:WK} {E:XWK},kO h w ts→ts.length≤5→Q (.bl (!decide ts.Nodup)) h→c0 [w] h Q E
theorem w_alike5:Alike5 gP:=by
 intro h w ts Q E e hl k
 unfold gP
 refine rm rfl (σ:=[some w]) rfl ?_
 rfl'
 refine kls5 e hl ?_
 rfl'
 refine len_s e ?_
 rfl'
 rw [dd_less]
 exact k
noncomputable def flat4 (ts:List Tr):List Nat→Bool
 | [a,b,c,d]=>cV [gt ts a,gt ts b,gt ts c,gt ts d]
 | _=>false
noncomputable def uG (ts:List Tr):Bool:=((rise ts.length 4).map (flat4 ts)).any id
def Has4 (c0:MSp):Prop:=∀ {h:Gh} {w:W} {us:List Tr} {m:Nat} {Q:WK} {E:XWK},m≤4000→kO h w us→us.length≤12→OkT m us→Q (.bl (uG us)) h→c0 [w,.int 4] h Q E
theorem w_has4 {ol ri pi:MSp}(hol:lH ol)(hri:zW ri)(hpi:PickX pi):Has4 (eE ol ri pi):=by
 intro h w us m Q E hm e hl hs k
 unfold eE
 refine rm rfl (σ:=[some w,some (.int 4)]) rfl (je (mCB_s (bG (mLC_s (nIt_s (qb (bG (mCB_s (bG (bf rfl (bO (len_s e ?_))))))))))))
 refine bG (bf rfl (bO (hri (m:=us.length) (k:=4) hl (by decide) (iK_s rfl ?_))))
 refine gH.mk (by rw [List.length_map];exact Nat.le_trans (pN _ hl 4 (by decide)) (by decide)) ?_
 refine o9 (fun i acc h'=>h'=h∧acc=(((rise us.length 4).take i).map (flat4 us)).map W.bl) ?_ ?_ ⟨rfl,rfl⟩
 ·rintro i w2 acc h' N hN e2 ⟨rfl,rfl⟩
  rw [List.getElem?_map] at e2
  cases qe:(rise us.length 4)[i]? with
  | none=>rw [qe] at e2;cases e2
  | some l=>
   rw [qe] at e2
   cases e2
   have ml:=List.mem_of_getElem? qe
   have ll:=rA ml
   have li:=rise_in ml
   refine ⟨[cT l],rfl,?_⟩
   have fin:∀ b:Bool,b=flat4 us l→N ((((rise us.length 4).take i).map (flat4 us)).map W.bl++[W.bl b]) h':=fun b hb=>hN _ _ ⟨rfl,by rw [List.take_succ,qe,hb];simp⟩
   match l,ll with
   | [a,b,c,d],_=>
    refine xG (by2_ts (qb (bG (qb (bG (bf rfl (bG (bf rfl (bO (hpi e li (by simp) ?_))))))))))
    refine bO (hol (ts:=[gt us a,gt us b,gt us c,gt us d]) (M:=m) (.inl rfl) (by simp) hm ?_ (fin _ rfl))
    intro t ht
    simp only [List.mem_cons,List.not_mem_nil,or_false] at ht
    rcases ht with rfl | rfl | rfl | rfl
    ·exact hs _ (oX (li a (by simp)))
    ·exact hs _ (oX (li b (by simp)))
    ·exact hs _ (oX (li c (by simp)))
    ·exact hs _ (oX (li d (by simp)))
 ·rintro acc h' ⟨rfl,rfl⟩
  rw [List.length_map,List.take_length]
  refine bO (any_bl2 ?_)
  exact rt_s k
theorem rise54:rise 5 4=[[0,1,2,3],[0,1,2,4],[0,1,3,4],[0,2,3,4],[1,2,3,4]]:=by decide +kernel
theorem fou5 (a b c d e:Tr):uG [a,b,c,d,e]=(cV [a,b,c,d]||(cV [a,b,c,e]||(cV [a,b,d,e]||(cV [a,c,d,e]||cV [b,c,d,e])))):=by
 unfold uG
 rw [show ([a,b,c,d,e]:List Tr).length=5 from rfl,rise54]
 simp [flat4,gt]
theorem uw {n:Tr}{ts:List Tr}(hn:n≠(0,0,0))(h:∀ t∈ts,dt3 n t=0):AllP ts:=fun p hp q hq r hr=>flat hn (h q hq) (h r hr) (h p hp)
theorem jV {n:Tr}{ts:List Tr}(hn:n≠(0,0,0))(h:cV ts=false):∃ y∈ts,dt3 n y≠0:=by
 apply Classical.byContradiction
 intro q
 rw [lR (uw hn fun t ht=>Classical.byContradiction fun z=>q ⟨t,ht,z⟩)] at h
 cases h
theorem g5_of {a b c d e:Tr}(pl:∀ t∈[a,b,c,d,e],Pl t)(nd:[a,b,c,d,e].Nodup)(h:uG [a,b,c,d,e]=false):G5 [a,b,c,d,e]:=by
 refine ⟨pl,nd,fun n hn x hx=>?_⟩
 rw [fou5] at h
 simp only [Bool.or_eq_false_iff] at h
 obtain ⟨h1,h2,h3,h4,h5⟩:=h
 simp only [List.nodup_cons,List.mem_cons,List.not_mem_nil,or_false,not_or,not_false_eq_true,List.nodup_nil,and_true] at nd
 obtain ⟨⟨ab,ac,ad,ae⟩,⟨bc,bd,be⟩,⟨cd,ce⟩,de⟩:=nd
 simp only [List.mem_cons,List.not_mem_nil,or_false] at hx
 rcases hx with rfl | rfl | rfl | rfl | rfl
 ·obtain ⟨y,hy,d0⟩:=jV hn h5
  simp only [List.mem_cons,List.not_mem_nil,or_false] at hy
  rcases hy with rfl | rfl | rfl | rfl
  ·exact ⟨y,by simp,Ne.symm ab,d0⟩
  ·exact ⟨y,by simp,Ne.symm ac,d0⟩
  ·exact ⟨y,by simp,Ne.symm ad,d0⟩
  ·exact ⟨y,by simp,Ne.symm ae,d0⟩
 ·obtain ⟨y,hy,d0⟩:=jV hn h4
  simp only [List.mem_cons,List.not_mem_nil,or_false] at hy
  rcases hy with rfl | rfl | rfl | rfl
  ·exact ⟨y,by simp,ab,d0⟩
  ·exact ⟨y,by simp,Ne.symm bc,d0⟩
  ·exact ⟨y,by simp,Ne.symm bd,d0⟩
  ·exact ⟨y,by simp,Ne.symm be,d0⟩
 ·obtain ⟨y,hy,d0⟩:=jV hn h3
  simp only [List.mem_cons,List.not_mem_nil,or_false] at hy
  rcases hy with rfl | rfl | rfl | rfl
  ·exact ⟨y,by simp,ac,d0⟩
  ·exact ⟨y,by simp,bc,d0⟩
  ·exact ⟨y,by simp,Ne.symm cd,d0⟩
  ·exact ⟨y,by simp,Ne.symm ce,d0⟩
 ·obtain ⟨y,hy,d0⟩:=jV hn h2
  simp only [List.mem_cons,List.not_mem_nil,or_false] at hy
  rcases hy with rfl | rfl | rfl | rfl
  ·exact ⟨y,by simp,ad,d0⟩
  ·exact ⟨y,by simp,bd,d0⟩
  ·exact ⟨y,by simp,cd,d0⟩
  ·exact ⟨y,by simp,Ne.symm de,d0⟩
 ·obtain ⟨y,hy,d0⟩:=jV hn h1
  simp only [List.mem_cons,List.not_mem_nil,or_false] at hy
  rcases hy with rfl | rfl | rfl | rfl
  ·exact ⟨y,by simp,ae,d0⟩
  ·exact ⟨y,by simp,be,d0⟩
  ·exact ⟨y,by simp,ce,d0⟩
  ·exact ⟨y,by simp,de,d0⟩
theorem bx {p q r s:Tr}(hp:Pl p)(hq:Pl q)(pq:p≠q):cV [p,q,r,s]=true↔br3 p q r=0∧br3 p q s=0∧br3 p r s=0∧br3 q r s=0:=by
 constructor
 ·intro h
  have all:AllP [p,q,r,s]:=Classical.byContradiction fun z=>by rw [flatB_f z] at h;cases h
  refine ⟨all r (by simp) p (by simp) q (by simp),all s (by simp) p (by simp) q (by simp),all s (by simp) p (by simp) r (by simp),all s (by simp) q (by simp) r (by simp)⟩
 ·rintro ⟨h1,h2,_,_⟩
  refine lR (uw (crs_ne hp hq pq) fun t ht=>?_)
  simp only [List.mem_cons,List.not_mem_nil,or_false] at ht
  rcases ht with rfl | rfl | rfl | rfl
  ·exact yt _ _
  ·exact yE _ _
  ·exact h1
  ·exact h2
def TogOk (c0:MSp):Prop:=∀ {h:Gh} {p q:Tr} {m:Nat} {Q:WK} {E:XWK},m≤4000→SmT m p→SmT m q→Q (c6w (nW p q)) h→c0 [tw p,tw q] h Q E
theorem w_tog:TogOk jN:=by
 intro h p q m Q E hm sp sq k
 obtain ⟨p1,p2,p3⟩:=p
 obtain ⟨q1,q2,q3⟩:=q
 obtain ⟨a1,a2,a3⟩:=sp
 obtain ⟨b1,b2,b3⟩:=sq
 simp only at a1 a2 a3 b1 b2 b3
 unfold jN
 rfl'
 exact k
def curS (m:Nat):Nat:=10*m+15
theorem cur_smM {a b c d e:Tr}{m:Nat}(sa:SmT m a)(sb:SmT m b)(sc:SmT m c)(sd:SmT m d)(se:SmT m e):Sm6 (curS m) (jF a b c d e):=by
 have so6:Sm6 (4*m+3) (one6 a b c d):=Sm6.mono (rC (gD sa sb) (gD sc sd)) (by omega)
 have st6:Sm6 (4*m+3) (oth6 a b c d):=Sm6.mono (rC (gD sa sc) (gD sb sd)) (by omega)
 have hh:Sm (6*m+8) (wth (one6 a b c d) e):=(wth_sm so6 se).mono (by omega)
 have ht:Sm (6*m+8) (wth (oth6 a b c d) e):=(wth_sm st6 se).mono (by omega)
 unfold jF curS
 exact ⟨((hh.mul st6.1).sub (ht.mul so6.1)).mono (by omega),((hh.mul st6.2.1).sub (ht.mul so6.2.1)).mono (by omega),((hh.mul st6.2.2.1).sub (ht.mul so6.2.2.1)).mono (by omega),((hh.mul st6.2.2.2.1).sub (ht.mul so6.2.2.2.1)).mono (by omega),((hh.mul st6.2.2.2.2.1).sub (ht.mul so6.2.2.2.2.1)).mono (by omega),((hh.mul st6.2.2.2.2.2).sub (ht.mul so6.2.2.2.2.2)).mono (by omega)⟩
def c6L (c:C6):W:=.lst [.int c.1,.int c.2.1,.int c.2.2.1,.int c.2.2.2.1,.int c.2.2.2.2.1,.int c.2.2.2.2.2]
def MixX (c0:MSp):Prop:=∀ {h:Gh} {w:W} {a b c d e:Tr} {m:Nat} {Q:WK} {E:XWK},kO h w [a,b,c,d,e]→m≤300→SmT m a→SmT m b→SmT m c→SmT m d→SmT m e→Q (c6L (jF a b c d e)) h→c0 [w] h Q E
theorem w_mixed {dt cr to:MSp}(hdt:DotOk dt)(hcr:CrsOk cr)(hto:TogOk to):MixX (uV dt cr to):=by
 intro h w a b c d e m Q E src hm sa sb sc sd se k
 have at0:∀ {Q:WK},Q (tw a) h→kIx w (.int 0) h Q:=fun {Q} k=>src.at (i:=0) (by simp) k
 have at1:∀ {Q:WK},Q (tw b) h→kIx w (.int 1) h Q:=fun {Q} k=>src.at (i:=1) (by simp) k
 have at2:∀ {Q:WK},Q (tw c) h→kIx w (.int 2) h Q:=fun {Q} k=>src.at (i:=2) (by simp) k
 have at3:∀ {Q:WK},Q (tw d) h→kIx w (.int 3) h Q:=fun {Q} k=>src.at (i:=3) (by simp) k
 have at4:∀ {Q:WK},Q (tw e) h→kIx w (.int 4) h Q:=fun {Q} k=>src.at (i:=4) (by simp) k
 have s1:=gD sa sb
 have s2:=gD sc sd
 have s3:=gD sa sc
 have s4:=gD sb sd
 have d1:=yF s1 se
 have d2:=yF s2 se
 have d3:=yF s3 se
 have d4:=yF s4 se
 have so6:Sm6 (4*m+3) (one6 a b c d):=Sm6.mono (rC s1 s2) (by omega)
 have st6:Sm6 (4*m+3) (oth6 a b c d):=Sm6.mono (rC s3 s4) (by omega)
 have v1:wth (one6 a b c d) e=dt3 (crs a b) e*dt3 (crs c d) e:=fV _ _ _
 have v2:wth (oth6 a b c d) e=dt3 (crs a c) e*dt3 (crs b d) e:=fV _ _ _
 unfold jF at k
 rw [v1,v2] at k
 unfold uV
 refine rm rfl (σ:=[some w,none,none,none,none,none,none]) rfl ?_
 rfl'
 refine at0 ?_
 rfl'
 refine at1 ?_
 rfl'
 refine hcr (m:=m) (by omega) sa sb ?_
 rfl'
 refine at2 ?_
 rfl'
 refine at3 ?_
 rfl'
 refine hcr (m:=m) (by omega) sc sd ?_
 rfl'
 refine at0 ?_
 rfl'
 refine at2 ?_
 rfl'
 refine hcr (m:=m) (by omega) sa sc ?_
 rfl'
 refine at1 ?_
 rfl'
 refine at3 ?_
 rfl'
 refine hcr (m:=m) (by omega) sb sd ?_
 rfl'
 refine at4 ?_
 rfl'
 refine hdt (m:=m+m+1) (by omega) s1 (se.mono (by omega)) ?_
 rfl'
 refine at4 ?_
 rfl'
 refine hdt (m:=m+m+1) (by omega) s2 (se.mono (by omega)) ?_
 rfl'
 refine at4 ?_
 rfl'
 refine hdt (m:=m+m+1) (by omega) s3 (se.mono (by omega)) ?_
 rfl'
 refine at4 ?_
 rfl'
 refine hdt (m:=m+m+1) (by omega) s4 (se.mono (by omega)) ?_
 have hh:Sm (8*m+10) (dt3 (crs a b) e*dt3 (crs c d) e):=(d1.mul d2).mono (by omega)
 have ht:Sm (8*m+10) (dt3 (crs a c) e*dt3 (crs b d) e):=(d3.mul d4).mono (by omega)
 rfl'
 refine hto (m:=m+m+1) (by omega) s3 s4 ?_
 rfl'
 refine hto (m:=m+m+1) (by omega) s1 s2 ?_
 generalize dt3 (crs a b) e*dt3 (crs c d) e=hr at hh k
 generalize dt3 (crs a c) e*dt3 (crs b d) e=th at ht k
 unfold one6 at k so6
 unfold oth6 at k st6
 generalize nW (crs a b) (crs c d)=o at so6 k
 generalize nW (crs a c) (crs b d)=t at st6 k
 obtain ⟨o1,o2,o3,o4,o5,o6⟩:=o
 obtain ⟨t1,t2,t3,t4,t5,t6⟩:=t
 obtain ⟨so1,so2,so3,so4,so5,so6⟩:=so6
 obtain ⟨st1,st2,st3,st4,st5,st6⟩:=st6
 simp only at so1 so2 so3 so4 so5 so6 st1 st2 st3 st4 st5 st6
 rfl'
 exact k
def ThruX (c0:MSp):Prop:=∀ {h:Gh} {w:W} {a b c d e:Tr} {m:Nat} {Q:WK} {E:XWK},kO h w [a,b,c,d,e]→m≤300→OkT m [a,b,c,d,e]→(G5 [a,b,c,d,e]→∀ (C:C6) (k:Int),k≠0→jF a b c d e=kC k C→PlL (c6l C)→Sm6 (curS m) C→Q (c6w C) h)→(¬ [a,b,c,d,e].Nodup→E ⟨"Alike",[]⟩ h)→([a,b,c,d,e].Nodup→uG [a,b,c,d,e]=true→E ⟨"FourOnLine",[]⟩ h)→c0 [w] h Q E
theorem w_through {pl al ho mi:MSp}(hpl:PlnL pl)(hal:Alike5 al)(hho:Has4 ho)(hmi:MixX mi):ThruX (mH pl al ho mi):=by
 intro h w a b c d e m Q E src hm hs k k1 k2
 unfold mH
 refine rm rfl (σ:=[some w]) rfl ?_
 rfl'
 refine hal src (by simp) ?_
 by_cases nd:[a,b,c,d,e].Nodup
 ·rw [decide_eq_true nd]
  rfl'
  unfold mR
  rfl'
  refine hho (m:=m) (by omega) src (by simp) hs ?_
  by_cases f:uG [a,b,c,d,e]=true
  ·rw [f]
   rfl'
   exact k2 nd f
  ·have f:uG [a,b,c,d,e]=false:=by simpa using f
   have G:=g5_of (fun t ht=>(hs t ht).1) nd f
   rw [f]
   rfl'
   unfold nO
   rfl'
   refine hmi src hm (hs a (by simp)).2 (hs b (by simp)).2 (hs c (by simp)).2 (hs d (by simp)).2 (hs e (by simp)).2 ?_
   rfl'
   refine hpl.c6p (c:=jF a b c d e) (m:=curS m) (.inl rfl) (cur_nz (Br.of G)) (cur_smM (hs a (by simp)).2 (hs b (by simp)).2 (hs c (by simp)).2 (hs d (by simp)).2 (hs e (by simp)).2) (by unfold curS;omega) fun C j j0 eC pC sC=>?_
   exact k G C j j0 eC pC sC
 ·rw [decide_eq_false nd]
  rfl'
  exact k1 nd
theorem w_div41:qx nu:=by
 intro h w ns Q E hw q
 suffices key:kW (nIt (ao 0)) (nName 2) (bA (bK (mCB kAbs (aq (ao 2) aO)) (nName 3)) (wK (aY (mOp kGt (ao 3) (mC (.int 0)))) (bA (bK (mOp gZ (ao 1) (ao 3)) (nName 4)) (bA (bK (ao 3) (nName 1)) (bK (ao 4) (nName 3))))))
   { nx:=eF E { nx:=fun _ h'=>Q .non h',rt:=fun w h'=>Q w h' },rt:=fun w h'=>Q w h' } [some w,some (.int 0),none,none,none] h from key
 refine for_ints (w:=w) (ns:=ns) rfl hw (fun i σ h'=>h'=h∧∃ o2 o3 o4,σ = [some w,some (.int (gL (ns.take i))),o2,o3,o4]) (fun i σ h' e=>by rw [e.1];exact hw) ?_ ?_ ⟨rfl,none,none,none,rfl⟩
 ·rintro i n σ h' N hN en ⟨rfl,o2,o3,o4,rfl⟩
  have f0:=gL_nn (ns.take i)
  generalize hf:gL (ns.take i)=f at f0
  conv=>whnf
  refine ⟨fun m σ h2=>h2=h'∧∃ x y o4,σ = [some w,some (.int x),some (.int n),some (.int y),o4]∧0≤x∧0≤y∧Int.gcd x y=Int.gcd n f∧m=y.toNat,⟨_,rfl,f,_,_,rfl,f0,abs_nn n,?_,rfl⟩,?_⟩
  ·rw [abs_eq,Int.gcd_comm];simp [Int.gcd]
  ·rintro m σ h2 ⟨rfl,x,y,o4,rfl,x0,y0,hg,rfl⟩
   refine ⟨fun e=>?_,fun e=>?_⟩
   ·have hy:0<y:=by simpa using e
    obtain ⟨g1,g2,g3⟩:=wu x0 hy
    conv=>whnf
    refine ⟨by omega,?_⟩
    refine ⟨(x.fmod y).toNat,by omega,rfl,y,x.fmod y,_,rfl,y0,g2,g1.trans hg,rfl⟩
   ·have hy:y=0:=by
     have:¬ 0<y:=by simpa using e
     omega
    subst hy
    refine hN _ _ ⟨rfl,some (.int n),some (.int 0),o4,?_⟩
    have:gL (ns.take (i+1))=x:=by rw [gL_take en,hf];unfold gF;rw [←hg];exact lM x0
    rw [this]
 ·rintro σ h' ⟨rfl,o2,o3,o4,rfl⟩
  rw [List.take_length]
  unfold eF
  exact q
def FreshX (c0:MSp):Prop:=∀ {h:Gh} {x y z:Int} {Q:WK} {E:XWK},(∀ t,Pl t→SmT 101 t→Q (tw t) h)→c0 [.lst [.int x,.int y,.int z]] h Q E
theorem w_fresh {nm pl:MSp}(hnm:NumOk4 nm)(hpl:PlnH pl):FreshX (lO nm pl):=by
 intro h x y z Q E k
 unfold lO
 refine uq rfl (σ:=[some (.lst [.int x,.int y,.int z]),none]) rfl ?_
 rfl'
 refine hnm fun x2 hx=>?_
 rfl'
 refine hnm fun y2 hy=>?_
 rfl'
 refine hnm fun z2 hz=>?_
 rfl'
 refine thaw_g fun g2 e2 o2 x2'=>?_
 have e2:g2.c h.nx=some (.lst [.int x2,.int y2,.int z2]):=e2
 have old:∀ n,n<h.nx→g2.c n=h.c n:=fun n hn=>by rw [o2 n (by omega)]
 refine aQ (σ':=[some (.lst [.int x,.int y,.int z]),some (.loc h.nx)]) rfl (pP ?_)
 have fin:∀ (t:Tr) (g3:Gh),g3.c h.nx=some (.lst [.int t.1,.int t.2.1,.int t.2.2])→(∀ n,n<h.nx→g3.c n=h.c n)→t≠(0,0,0)→SmT 101 t→gR nm pl E { nx:=fun _ h'=>jQ true h .non h' Q,rt:=fun w h'=>jQ true h w h' Q } [some (.lst [.int x,.int y,.int z]),some (.loc h.nx)] g3:=by
  intro t g3 e3 o3 t0 st
  unfold gR
  rfl'
  refine hpl (ns:=tl t) (m:=101) (.inr (.inr ⟨_,rfl,e3⟩)) (tl_nz t0) st.all (by decide) (by simp [tl]) fun ms kk k0 e pm sm=>?_
  obtain ⟨u,rfl,_⟩:=tl_map e
  rfl'
  refine ⟨fun n c hn ec=>by rw [o3 n hn];exact ec,.inl ⟨by simp [Lo,Los,tl],k u pm ⟨sm _ (by simp [tl]),sm _ (by simp [tl]),sm _ (by simp [tl])⟩⟩⟩
 rfl'
 refine ⟨[(if x2<0 then -x2 else x2),(if y2<0 then -y2 else y2),(if z2<0 then -z2 else z2)],rfl,Nat.succ_pos _,fun M hM hle=>?_⟩
 have hx2:=max_abs hM hle
 rfl'
 refine zK (fun e0=>?_) fun e0=>?_
 ·have z0:=hx2.1.mp e0
  rfl'
  refine sSetL_g e2 (j:=2) rfl rfl fun g3 e3 o3 x3=>?_
  simp only [Prod.mk.injEq] at z0
  obtain ⟨rfl,rfl,rfl⟩:=z0
  rfl'
  exact fin (0,0,1) g3 e3 (fun n hn=>by rw [o3 n (by omega)];exact old n hn) (by decide) ⟨hx,hy,by unfold Sm;decide +kernel⟩
 ·rfl'
  exact fin (x2,y2,z2) g2 e2 old (fun e=>e0 (hx2.1.mpr e)) ⟨hx,hy,hz⟩
def r5 (a b c d e:Tr):W:=.lst [tw a,tw b,tw c,tw d,tw e]
def body9 (pl:MSp)(E:XWK):MS:=(bA (dX (mAnd (aY (mOp kIn (mOp gZ (mOp kIx (ao 3) (mC (.int 0))) (mC (.int 8))) (ux (aq (mC (.int 2)) (aq (mC (.int 3)) aO))))) (aY (mOp kGt (ao 2) (mC (.int 1))))) (bA (bK (mOp kIx (ao 1) (mOp gZ (mOp kIx (ao 3) (mC (.int 4))) (ao 2))) (nName 5))
  (bA (bK (mOp kIx (ao 1) (mOp gZ (mOp kIx (ao 3) (mC (.int 5))) (ao 2))) (nName 6))
  (bA (bK (mOp nU (mOp gZ (mOp kIx (ao 3) (mC (.int 6))) (mC (.int 7))) (mC (.int 3))) (nName 7))
  (bA (bK (mOp nU (mOp gZ (mOp kIx (ao 3) (mC (.int 7))) (mC (.int 7))) (mC (.int 3))) (nName 8))
  (bA (bK (mLC (owT 2) [7,8] (nZip (aq (ao 5) (aq (ao 6) aO))) kh (mOp cJ (mOp bY (ao 2) (ao 0)) (mOp bY (ao 3) (ao 1)))) (nName 9))
  (dX (aY (mOp kGt (mCB kMaxA (aq (mLC ow1 [] (nIt (ao 9)) kh (mCB kAbs (aq (ao 0) aO))) aO)) (mC (.int 0)))) (bK (aU pl E (aq (ao 9) aO)) (nName 4)) bN)))))) bN)
  (gC (u0 cj (ao 1) (aq (ao 4) aO))))
theorem body9_s {pl:MSp}(hpl:PlnL pl){E:XWK}{D:bH}{h:Gh}{n m i:Nat}{ts:List Tr}{t:Tr}{s0 s5 s6 s7 s8 s9:Option W}{x0 x1 x2 x3 x4 x5 x6 x7:Int}(ec:h.c n=some (.lst (ts.map tw)))(hl:ts.length=i)(hi:i≤5)(hm:m≤1000)(hs:OkT m ts)(pt:Pl t)(st:SmT m t)
  (k:∀ (u:Tr) (s5 s6 s7 s8 s9:Option W) (g:Gh),Pl u→SmT (m+3) u→g.c n=some (.lst ((ts++[u]).map tw))→g.nx=h.nx→(∀ j,j≠n→g.c j=h.c j)→D.nx [s0,some (.loc n),some (.int (i:Int)),some (.lst [.int x0,.int x1,.int x2,.int x3,.int x4,.int x5,.int x6,.int x7]),some (tw u),s5,s6,s7,s8,s9] g) :
  body9 pl E D [s0,some (.loc n),some (.int (i:Int)),some (.lst [.int x0,.int x1,.int x2,.int x3,.int x4,.int x5,.int x6,.int x7]),some (tw t),s5,s6,s7,s8,s9] h:=by
 have src:kO h (.loc n) ts:=.inr ⟨n,rfl,ec⟩
 have fin:∀ (u:Tr) (s5 s6 s7 s8 s9:Option W),Pl u→SmT (m+3) u→gC (u0 cj (ao 1) (aq (ao 4) aO)) D [s0,some (.loc n),some (.int (i:Int)),some (.lst [.int x0,.int x1,.int x2,.int x3,.int x4,.int x5,.int x6,.int x7]),some (tw u),s5,s6,s7,s8,s9] h:=by
  intro u s5 s6 s7 s8 s9 pu su
  refine wg (zR (bf rfl (v7 ec (bG (bf rfl (bO (app_g ec (by rw [List.length_map];omega) fun g2 e2 o2 x2=>?_)))))))
  exact k u s5 s6 s7 s8 s9 g2 pu su (by rw [e2,List.map_append];rfl) x2 o2
 have stay:=fun s5 s6 s7 s8 s9=>fin t s5 s6 s7 s8 s9 pt (st.mono (by omega))
 unfold body9
 rfl'
 refine jZ (by decide) ?_
 rfl'
 refine in23 fun b=>?_
 rfl'
 refine ⟨fun _=>?_,fun _=>?_⟩
 ·rfl'
  refine zK (fun g1=>?_) fun _=>?_
  ·have hi1:1<i:=by omega
   have ix:∀ x:Int,0≤x.fmod (i:Int)∧x.fmod (i:Int)<(ts.length:Int):=fun x=>by
    have:=dj x (b:=(i:Int)) (by omega)
    rw [hl]
    exact this
   have c1:=sm7 x6
   have c2:=sm7 x7
   rfl'
   refine jZ (by omega) ?_
   refine src.ati (ix x4).1 (ix x4).2 fun p hp=>?_
   rfl'
   refine jZ (by omega) ?_
   refine src.ati (ix x5).1 (ix x5).2 fun q hq=>?_
   rfl'
   refine jZ (by decide) ?_
   rfl'
   refine jZ (by decide) ?_
   have sp:=(hs p hp).2
   have sq:=(hs q hq).2
   obtain ⟨p1,p2,p3⟩:=p
   obtain ⟨q1,q2,q3⟩:=q
   obtain ⟨a1,a2,a3⟩:=sp
   obtain ⟨b1,b2,b3⟩:=sq
   simp only at a1 a2 a3 b1 b2 b3
   generalize x6.fmod 7 - 3=l at c1
   refine xR ?_
   refine kSub_s ?_
   generalize x7.fmod 7 - 3=r at c2
   have sv:SmT (m+3) (l*p1+r*q1,l*p2+r*q2,l*p3+r*q3):=⟨((c1.mul a1).add (c2.mul b1)).mono (by omega),((c1.mul a2).add (c2.mul b2)).mono (by omega),((c1.mul a3).add (c2.mul b3)).mono (by omega)⟩
   rfl'
   refine ⟨[(if l*p1+r*q1<0 then -(l*p1+r*q1) else l*p1+r*q1),(if l*p2+r*q2<0 then -(l*p2+r*q2) else l*p2+r*q2),(if l*p3+r*q3<0 then -(l*p3+r*q3) else l*p3+r*q3)],rfl,Nat.succ_pos _,fun M hM hle=>?_⟩
   have hx2:=max_abs hM hle
   rfl'
   refine zK (fun e0=>?_) fun e0=>?_
   ·rfl'
    refine hpl.tr (u:=(l*p1+r*q1,l*p2+r*q2,l*p3+r*q3)) (m:=m+3) (.inr rfl) (fun z=>by have:=hx2.1.mpr z;omega) sv (by omega) fun u pu _ su=>?_
    rfl'
    exact fin u _ _ _ _ _ pu su
   ·rfl'
    exact stay _ _ _ _ _
  ·rfl'
   exact stay _ _ _ _ _
 ·rfl'
  exact stay _ _ _ _ _
def Spots9 (c0:MSp):Prop:=∀ {h:Gh} {ns:List Int} {Q:WK} {E:XWK},(∀ a b c d e:Tr,OkT 120 [a,b,c,d,e]→Q (r5 a b c d e) h)→c0 [.kls (ns.map .int)] h Q E
theorem w_spots9 {dr pl sm:MSp}(hdr:DrawsOk dr)(hpl:PlnL pl)(hsm:FreshX sm):Spots9 (lW dr pl sm):=by
 intro h ns Q E k
 unfold lW
 refine uq rfl (σ:=[some (.kls (ns.map .int)),none,none,none,none,none,none,none,none,none]) rfl ?_
 refine dM (nM (vU (ws:=[]) (fun R=>rfl) rfl fun g eg og xg=>?_))
 refine aQ (σ':=[some (.kls (ns.map .int)),some (.loc h.nx),none,none,none,none,none,none,none,none]) rfl (pP (dM (iQ (fH (bG (xR (bO (zp (m:=5) (by decide) (iM ?_)))))))))
 refine jA (fun i σ h'=>∃ (ts:List Tr) (s2 s3 s4 s5 s6 s7 s8 s9:Option W),σ = [some (.kls (ns.map .int)),some (.loc h.nx),s2,s3,s4,s5,s6,s7,s8,s9]∧h'.c h.nx=some (.lst (ts.map tw))∧ts.length=i∧OkT (102+3*i) ts∧h'.nx=h.nx+1∧∀ n,n≠h.nx→h'.c n=h.c n) ?_ ?_ ⟨[],none,none,none,none,none,none,none,none,rfl,eg,rfl,fun _ h=>absurd h (by simp),xg,og⟩
 ·rintro i w σ h' N hN e ⟨ts,s2,s3,s4,s5,s6,s7,s8,s9,rfl,e1,e2,e3,e4,e5⟩
  rw [List.getElem?_map] at e
  cases qe:(rng 0 5)[i]? with
  | none=>rw [qe] at e;cases e
  | some i'=>
   rw [qe] at e
   cases e
   obtain ⟨ei,hi⟩:=rF qe
   rw [Nat.zero_add] at ei
   subst ei
   have src:kO h' (.loc h.nx) ts:=.inr ⟨_,rfl,e1⟩
   refine aQ (σ':=[some (.kls (ns.map .int)),some (.loc h.nx),some (.int (i':Int)),s3,s4,s5,s6,s7,s8,s9]) rfl ?_
   rfl'
   refine hdr (by omega) (by omega) (by decide) (by decide) fun xs hxs=>?_
   obtain ⟨x0,x1,x2,x3,x4,x5,x6,x7,rfl⟩:=list8 hxs
   refine aQ (σ':=[some (.kls (ns.map .int)),some (.loc h.nx),some (.int (i':Int)),some (.lst [.int x0,.int x1,.int x2,.int x3,.int x4,.int x5,.int x6,.int x7]),s4,s5,s6,s7,s8,s9]) rfl (pP ?_)
   rfl'
   refine eU (us:=[.int x1,.int x2,.int x3]) rfl ?_
   rfl'
   refine hsm fun t pt st=>?_
   have last:∀ t:Tr,Pl t→SmT (102+3*i') t→body9 pl E { nx:=N,rt:=fun w h'=>jQ true h w h' Q,bk:=fun σ h2=>gM dr pl sm E { nx:=fun _ h'=>jQ true h .non h' Q,rt:=fun w h'=>jQ true h w h' Q } σ h2,ct:=N } [some (.kls (ns.map .int)),some (.loc h.nx),some (.int (i':Int)),some (.lst [.int x0,.int x1,.int x2,.int x3,.int x4,.int x5,.int x6,.int x7]),some (tw t),s5,s6,s7,s8,s9] h':=by
    intro t pt st
    refine body9_s hpl (m:=102+3*i') e1 e2 (by omega) (by omega) e3 pt st fun u t5 t6 t7 t8 t9 g2 pu su c1 c2 c3=>?_
    refine hN _ _ ⟨ts++[u],_,_,_,_,_,_,_,_,rfl,c1,by rw [List.length_append,e2];rfl,?_,by rw [c2];exact e4,fun n hn=>by rw [c3 n hn];exact e5 n hn⟩
    intro v hv
    rcases List.mem_append.mp hv with hv | hv
    ·exact ⟨(e3 v hv).1,(e3 v hv).2.mono (by omega)⟩
    ·rw [List.mem_singleton.mp hv]
     exact ⟨pu,su.mono (by omega)⟩
   have own:=last t pt (st.mono (by omega))
   rfl'
   refine jZ (by decide) ?_
   rfl'
   refine zK (fun _=>?_) fun _=>?_
   ·rfl'
    refine zK (fun g0=>?_) fun _=>?_
    ·have:=dj x4 (b:=(i':Int)) (by omega)
     rfl'
     refine jZ (by omega) ?_
     refine src.ati this.1 (by rw [e2];exact this.2) fun p hp=>?_
     rfl'
     exact last p (e3 p hp).1 (e3 p hp).2
    ·rfl'
     exact own
   ·rfl'
    exact own
 ·rintro σ h' ⟨ts,s2,s3,s4,s5,s6,s7,s8,s9,rfl,e1,e2,e3,e4,e5⟩
  have e2:ts.length=5:=e2
  have e3:OkT 117 ts:=e3
  rcases ts with _ | ⟨a,_ | ⟨b,_ | ⟨c,_ | ⟨d,_ | ⟨e,_ | ⟨j,l⟩⟩⟩⟩⟩⟩ <;> first | (simp only [List.length_cons,List.length_nil] at e2;omega) | skip
  unfold gM
  refine pP ?_
  refine je ?_
  refine bf rfl ?_
  refine rt_s ?_
  exact ⟨fun n c' hn ec=>by rw [e5 n (by omega)];exact ec,.inr ⟨h.nx,[tw a,tw b,tw c,tw d,tw e],rfl,Nat.le_refl _,e1,lo_tws _ [a,b,c,d,e],k a b c d e fun t ht=>⟨(e3 t ht).1,(e3 t ht).2.mono (by decide)⟩⟩⟩
def LTurn9 (c0:MSp):Prop:=∀ {h:Gh} {p q r:Tr} {m:Nat} {Q:WK} {E:XWK},m≤2000→SmT m p→SmT m q→SmT m r→Q (.int (br3 p q r)) h→c0 [tw p,tw q,tw r] h Q E
theorem w_turn9:LTurn9 qR:=by
 intro h p q r m Q E hm sp sq sr k
 obtain ⟨a,b,c⟩:=p
 obtain ⟨d,e,f⟩:=q
 obtain ⟨g,i,j⟩:=r
 obtain ⟨a1,a2,a3⟩:=sp
 obtain ⟨b1,b2,b3⟩:=sq
 obtain ⟨c1,c2,c3⟩:=sr
 simp only at a1 a2 a3 b1 b2 b3 c1 c2 c3
 unfold qR
 rfl'
 have ee:a*(e*j - f*i) - b*(d*j - f*g)+c*(d*i - e*g)=br3 (a,b,c) (d,e,f) (g,i,j):=by
  simp only [br3,crs,dt3]
  grind
 rw [ee]
 exact k
def zt (ts:List Tr)(i j k:Nat):List (List Nat):=if br3 (gt ts i) (gt ts j) (gt ts k)=0 then [[i,j,k]] else []
def nR (ts:List Tr):List (List Nat):=zt ts 0 1 2++(zt ts 0 1 3++(zt ts 0 2 3++(zt ts 1 2 3++(zt ts 0 1 4++(zt ts 0 2 4++(zt ts 1 2 4++(zt ts 0 3 4++(zt ts 1 3 4++zt ts 2 3 4))))))))
theorem wG (ts:List Tr)(i j k:Nat):(zt ts i j k).length≤1:=by
 unfold zt
 split <;> simp
theorem rgK_n {R:Src→Gh→Prop}{h:Gh}{m:Nat}(h2:m≤5)(x:R ⟨(rng 0 m).map fun x:Nat=>W.int (x:Int),none⟩ h):rgK R [.int (m:Int)] h:=zp (by omega) x
def LinL (c0:MSp):Prop:=∀ {h:Gh} {a b c d e:Tr} {Q:WK} {E:XWK},OkT 120 [a,b,c,d,e]→Q (.lst ((nR [a,b,c,d,e]).map cT)) h→c0 [r5 a b c d e] h Q E
set_option maxHeartbeats 8000000 in
theorem w_linL {tu:MSp}(htu:LTurn9 tu):LinL (lN tu):=by
 intro h a b c d e Q E hs k
 have src:∀ g:Gh,kO g (r5 a b c d e) [a,b,c,d,e]:=fun g=>.inl rfl
 have ga:∀ {i},i<5→SmT 120 (gt [a,b,c,d,e] i):=fun {i} hi=>(hs _ (oX hi)).2
 generalize r5 a b c d e=w at src
 generalize hts:[a,b,c,d,e]=ts at src ga
 rw [hts] at k
 have len:4<ts.length:=by rw [←hts];simp
 -- one step
 have step:∀ {N0:Sw→Gh→Prop} {R0:WK} {B0 C0:Sw→Gh→Prop} {g:Gh} {n i j l:Nat} {us:List (List Nat)},i<5→j<5→l<5→us.length≤20→g.c n=some (.lst (us.map cT))→(∀ g':Gh,g'.c n=some (.lst ((us++zt ts i j l).map cT))→(∀ m,m≠n→g'.c m=g.c m)→g'.nx=g.nx→N0 [some w,some (.loc n),some (.int (l:Int)),some (.int (j:Int)),some (.int (i:Int))] g') →
   dX (aY (mOp kEq (aU tu E (aq (mOp kIx (ao 0) (ao 4)) (aq (mOp kIx (ao 0) (ao 3)) (aq (mOp kIx (ao 0) (ao 2)) aO)))) (mC (.int 0)))) (gC (u0 cj (ao 1) (aq (ux (aq (ao 4) (aq (ao 3) (aq (ao 2) aO)))) aO))) bN ⟨N0,R0,B0,C0⟩ [some w,some (.loc n),some (.int (l:Int)),some (.int (j:Int)),some (.int (i:Int))] g:=by
  intro N0 R0 B0 C0 g n i j l us hi hj hl hu eg kk
  rfl'
  refine (src g).at (by omega) ?_
  rfl'
  refine (src g).at (by omega) ?_
  rfl'
  refine (src g).at (by omega) ?_
  rfl'
  refine htu (m:=120) (by decide) (ga hi) (ga hj) (ga hl) ?_
  rfl'
  refine zK (fun z=>?_) fun z=>?_
  ·have ez:zt ts i j l=[[i,j,l]]:=by unfold zt;rw [if_pos z]
   rw [ez] at kk
   rfl'
   refine zR ?_
   rfl'
   refine v7 eg ?_
   rfl'
   refine app_g eg (by rw [List.length_map];omega) fun g2 e2 o2 x2=>?_
   refine kk g2 ?_ o2 x2
   rw [e2,List.map_append]
   rfl
  ·have ez:zt ts i j l=[]:=by unfold zt;rw [if_neg z]
   rw [ez,List.append_nil] at kk
   rfl'
   exact kk g eg (fun _ _=>rfl) rfl
 unfold lN
 refine uq rfl (σ:=[some w,none,none,none,none]) rfl ?_
 refine dM (nM (vU (ws:=[]) (fun R=>rfl) rfl fun g eg og xg=>?_))
 refine aQ (σ':=[some w,some (.loc h.nx),none,none,none]) rfl (pP (dM ?_))
 have inn:∀ {N0:Sw→Gh→Prop} {R0:WK} {B0 C0:Sw→Gh→Prop} {g:Gh} {n j l:Nat} {us:List (List Nat)} {s4:Option W},j<5→l<5→us.length≤15→g.c n=some (.lst (us.map cT))→(∀ (g':Gh) (s4:Option W),g'.c n=some (.lst ((us++(rng 0 j).flatMap fun i=>zt ts i j l).map cT))→(∀ m,m≠n→g'.c m=g.c m)→g'.nx=g.nx→N0 [some w,some (.loc n),some (.int (l:Int)),some (.int (j:Int)),s4] g') →
   kW (gY (aq (ao 3) aO)) (nName 4) (dX (aY (mOp kEq (aU tu E (aq (mOp kIx (ao 0) (ao 4)) (aq (mOp kIx (ao 0) (ao 3)) (aq (mOp kIx (ao 0) (ao 2)) aO)))) (mC (.int 0)))) (gC (u0 cj (ao 1) (aq (ux (aq (ao 4) (aq (ao 3) (aq (ao 2) aO)))) aO))) bN) ⟨N0,R0,B0,C0⟩ [some w,some (.loc n),some (.int (l:Int)),some (.int (j:Int)),s4] g:=by
  intro N0 R0 B0 C0 g n j l us s4 hj hl hu eg kk
  refine iQ (fH (bG (bf rfl (bO (rgK_n (by omega) (iM ?_))))))
  refine jA (fun t σ g'=>∃ s4,σ = [some w,some (.loc n),some (.int (l:Int)),some (.int (j:Int)),s4]∧g'.c n=some (.lst ((us++((rng 0 j).take t).flatMap fun i=>zt ts i j l).map cT))∧(us++((rng 0 j).take t).flatMap fun i=>zt ts i j l).length≤us.length+t∧(∀ m,m≠n→g'.c m=g.c m)∧g'.nx=g.nx) ?_ ?_ ⟨s4,rfl,by simpa using eg,by simp,fun _ _=>rfl,rfl⟩
  ·rintro t x σ g' N hN et ⟨s4,rfl,e1,e2,e3,e4⟩
   rw [List.getElem?_map] at et
   cases qe:(rng 0 j)[t]? with
   | none=>rw [qe] at et;cases et
   | some i=>
    rw [qe] at et
    cases et
    obtain ⟨ei,hi⟩:=rF qe
    have zl:=wG ts i j l
    refine aQ (σ':=[some w,some (.loc n),some (.int (l:Int)),some (.int (j:Int)),some (.int (i:Int))]) rfl ?_
    refine step (by omega) hj hl (by omega) e1 fun g2 c1 c2 c3=>?_
    refine hN _ _ ⟨_,rfl,?_,?_,fun m hm=>by rw [c2 m hm,e3 m hm],by rw [c3,e4]⟩
    ·rw [c1,List.take_succ,qe,List.flatMap_append,←List.append_assoc]
     simp
    ·rw [List.take_succ,qe,List.flatMap_append,←List.append_assoc,List.length_append]
     simp only [Option.toList,List.flatMap_cons,List.flatMap_nil,List.append_nil]
     omega
  ·rintro σ g' ⟨s4,rfl,e1,e2,e3,e4⟩
   rw [List.length_map,List.take_length] at e1
   exact kk g' s4 e1 e3 e4
 have ll:∀ (l j:Nat),((rng 0 j).flatMap fun i=>zt ts i j l).length≤j:=by
  intro l j
  have:∀ xs:List Nat,(xs.flatMap fun i=>zt ts i j l).length≤xs.length:=by
   intro xs
   induction xs with
   | nil=>simp
   | cons x xs ih=>
    rw [List.flatMap_cons,List.length_append,List.length_cons]
    have:=wG ts x j l
    omega
  have h1:=this (rng 0 j)
  have h2:(rng 0 j).length=j:=by unfold rng;rw [List.length_range'];omega
  omega
 refine iQ (fH (bG (xR (bO (zp (m:=5) (by decide) (iM ?_))))))
 refine (show cR ⟨_,none⟩ _ _ _ [.int 0,.int 1,.int 2,.int 3,.int 4] _ g from ?_)
 have outer:∀ {N0:Sw→Gh→Prop} {R0:WK} {B0 C0:Sw→Gh→Prop} {g:Gh} {l:Nat} {us:List (List Nat)} {s3 s4:Option W},l<5→us.length≤9→g.c h.nx=some (.lst (us.map cT))→(∀ (g':Gh) (s3 s4:Option W),g'.c h.nx=some (.lst ((us++(rng 0 l).flatMap fun j=>(rng 0 j).flatMap fun i=>zt ts i j l).map cT))→(∀ m,m≠h.nx→g'.c m=g.c m)→g'.nx=g.nx→N0 [some w,some (.loc h.nx),some (.int (l:Int)),s3,s4] g') →
   kW (gY (aq (ao 2) aO)) (nName 3) (kW (gY (aq (ao 3) aO)) (nName 4) (dX (aY (mOp kEq (aU tu E (aq (mOp kIx (ao 0) (ao 4)) (aq (mOp kIx (ao 0) (ao 3)) (aq (mOp kIx (ao 0) (ao 2)) aO)))) (mC (.int 0)))) (gC (u0 cj (ao 1) (aq (ux (aq (ao 4) (aq (ao 3) (aq (ao 2) aO)))) aO))) bN)) ⟨N0,R0,B0,C0⟩ [some w,some (.loc h.nx),some (.int (l:Int)),s3,s4] g:=by
  intro N0 R0 B0 C0 g l us s3 s4 hl hu eg kk
  refine iQ (fH (bG (bf rfl (bO (rgK_n (by omega) (iM ?_))))))
  refine jA (fun t σ g'=>∃ s3 s4,σ = [some w,some (.loc h.nx),some (.int (l:Int)),s3,s4]∧g'.c h.nx=some (.lst ((us++((rng 0 l).take t).flatMap fun j=>(rng 0 j).flatMap fun i=>zt ts i j l).map cT))∧(∀ m,m≠h.nx→g'.c m=g.c m)∧g'.nx=g.nx∧(us++((rng 0 l).take t).flatMap fun j=>(rng 0 j).flatMap fun i=>zt ts i j l).length≤us.length+t*(t - 1) / 2∧t≤l) ?_ ?_ ⟨s3,s4,rfl,by simpa using eg,fun _ _=>rfl,rfl,by simp,Nat.zero_le _⟩
  ·rintro t x σ g' N hN et ⟨s3,s4,rfl,e1,e3,e4,e5,e6⟩
   rw [List.getElem?_map] at et
   cases qe:(rng 0 l)[t]? with
   | none=>rw [qe] at et;cases et
   | some j=>
    rw [qe] at et
    cases et
    obtain ⟨ei,hj⟩:=rF qe
    rw [Nat.zero_add] at ei
    subst ei
    have l1:=ll l j
    have tt:j*(j - 1) / 2+j≤(j+1)*(j+1 - 1) / 2∧j*(j - 1) / 2≤6:=by
     rcases (show j=0∨j=1∨j=2∨j=3 by omega) with rfl | rfl | rfl | rfl <;> decide
    refine aQ (σ':=[some w,some (.loc h.nx),some (.int (l:Int)),some (.int (j:Int)),s4]) rfl ?_
    refine inn (by omega) hl (by omega) e1 fun g2 s4 c1 c2 c3=>?_
    refine hN _ _ ⟨_,s4,rfl,?_,fun m hm=>by rw [c2 m hm,e3 m hm],by rw [c3,e4],?_,by omega⟩
    ·rw [c1,List.take_succ,qe,List.flatMap_append,←List.append_assoc]
     simp
    ·rw [List.take_succ,qe,List.flatMap_append,←List.append_assoc,List.length_append]
     simp only [Option.toList,List.flatMap_cons,List.flatMap_nil,List.append_nil]
     omega
  ·rintro σ g' ⟨s3,s4,rfl,e1,e3,e4,_,_⟩
   rw [List.length_map,List.take_length] at e1
   exact kk g' s3 s4 e1 e3 e4
 have z0:((rng 0 0).flatMap fun j=>(rng 0 j).flatMap fun i=>zt ts i j 0)=[]:=rfl
 have z1:((rng 0 1).flatMap fun j=>(rng 0 j).flatMap fun i=>zt ts i j 1)=[]:=rfl
 have z2:((rng 0 2).flatMap fun j=>(rng 0 j).flatMap fun i=>zt ts i j 2)=zt ts 0 1 2:=by
  show zt ts 0 1 2++[]++[]=_
  simp
 have z3:((rng 0 3).flatMap fun j=>(rng 0 j).flatMap fun i=>zt ts i j 3)=zt ts 0 1 3++(zt ts 0 2 3++zt ts 1 2 3):=by
  show zt ts 0 1 3++[]++(zt ts 0 2 3++(zt ts 1 2 3++[])++[])=_
  simp
 have z4:((rng 0 4).flatMap fun j=>(rng 0 j).flatMap fun i=>zt ts i j 4)=zt ts 0 1 4++(zt ts 0 2 4++(zt ts 1 2 4++(zt ts 0 3 4++(zt ts 1 3 4++zt ts 2 3 4)))):=by
  show zt ts 0 1 4++[]++(zt ts 0 2 4++(zt ts 1 2 4++[])++(zt ts 0 3 4++(zt ts 1 3 4++(zt ts 2 3 4++[]))++[]))=_
  simp
 have zl:=wG ts
 refine bI (aQ (σ':=[some w,some (.loc h.nx),some (.int ((0:Nat):Int)),none,none]) rfl (outer (by decide) (us:=[]) (by decide) eg fun g1 s3 s4 c1 o1 n1=>?_))
 rw [z0] at c1
 refine bI (aQ (σ':=[some w,some (.loc h.nx),some (.int ((1:Nat):Int)),s3,s4]) rfl (outer (by decide) (us:=[]) (by decide) c1 fun g2 s3 s4 c2 o2 n2=>?_))
 rw [z1] at c2
 refine bI (aQ (σ':=[some w,some (.loc h.nx),some (.int ((2:Nat):Int)),s3,s4]) rfl (outer (by decide) (us:=[]) (by decide) c2 fun g3 s3 s4 c3 o3 n3=>?_))
 rw [z2] at c3
 refine bI (aQ (σ':=[some w,some (.loc h.nx),some (.int ((3:Nat):Int)),s3,s4]) rfl (outer (by decide) (us:=zt ts 0 1 2) (by have:=zl 0 1 2;omega) c3 fun g4 s3 s4 c4 o4 n4=>?_))
 rw [z3] at c4
 refine bI (aQ (σ':=[some w,some (.loc h.nx),some (.int ((4:Nat):Int)),s3,s4]) rfl (outer (by decide) (us:=zt ts 0 1 2++(zt ts 0 1 3++(zt ts 0 2 3++zt ts 1 2 3))) (by have:=zl 0 1 2;have:=zl 0 1 3;have:=zl 0 2 3;have:=zl 1 2 3;simp only [List.length_append];omega) c4 fun g5 s3 s4 c5 o5 n5=>?_))
 rw [z4] at c5
 refine mJ ?_
 unfold lY
 refine pP ?_
 refine je ?_
 refine bf rfl ?_
 refine rt_s ?_
 have el:zt ts 0 1 2++(zt ts 0 1 3++(zt ts 0 2 3++zt ts 1 2 3))++(zt ts 0 1 4++(zt ts 0 2 4++(zt ts 1 2 4++(zt ts 0 3 4++(zt ts 1 3 4++zt ts 2 3 4)))))=nR ts:=by
  unfold nR
  simp only [List.append_assoc]
 rw [el] at c5
 exact ⟨fun n c' hn ec=>by rw [o5 n (by omega),o4 n (by omega),o3 n (by omega),o2 n (by omega),o1 n (by omega),og n (by omega)];exact ec,.inr ⟨h.nx,_,rfl,Nat.le_refl _,c5,lB _ _,k⟩⟩
noncomputable def due9 (ts:List Tr):Str:=if decide ts.Nodup then (if uG ts then "four" else "curve") else "alike"
theorem due9_a {ts:List Tr}(h:¬ ts.Nodup):due9 ts = "alike":=by
 unfold due9
 rw [decide_eq_false h]
 rfl
theorem due9_f {ts:List Tr}(h:ts.Nodup)(f:uG ts=true):due9 ts = "four":=by
 unfold due9
 rw [decide_eq_true h,f]
 rfl
theorem due9_c {ts:List Tr}(h:ts.Nodup)(f:uG ts=false):due9 ts = "curve":=by
 unfold due9
 rw [decide_eq_true h,f]
 rfl
theorem inD_s {us:List Tr}{t:Tr}{h:Gh}{Q:WK}(k:Q (.bl (decide (t∈us))) h):kInD (tw t) (.lst (us.map tw)) h Q:=by
 have ea:(us.map tw).all (plW 20)=true:=by
  rw [List.all_eq_true]
  intro w hw
  obtain ⟨u,_,rfl⟩:=List.mem_map.mp hw
  exact pl_tw 19 u
 have ec:(us.map tw).any (fun u=>eqW u (tw t))=decide (t∈us):=by
  rw [List.any_map]
  by_cases hm:t∈us
  ·rw [decide_eq_true hm,List.any_eq_true]
   exact ⟨t,hm,by show eqW (tw t) (tw t)=true;rw [yW];exact decide_eq_true rfl⟩
  ·rw [decide_eq_false hm,List.any_eq_false]
   intro u hu
   show ¬ eqW (tw u) (tw t)=true
   rw [yW,decide_eq_true_eq]
   intro e
   subst e
   exact hm hu
 show by2 (plW 20 (tw t)&&(us.map tw).all (plW 20)) (Q (.bl ((us.map tw).any fun u=>eqW u (tw t))) h) False
 rw [pl_tw 19,ea,ec]
 exact k
theorem ninN {o:Nat}{l:List Nat}{h:Gh}{Q:WK}(k:Q (.bl (decide (o∉l))) h):kNin (.int (o:Int)) (cT l) h Q:=by
 have ea:(l.map fun x:Nat=>W.int (x:Int)).all fC=true:=by
  rw [List.all_eq_true]
  intro w hw
  obtain ⟨u,_,rfl⟩:=List.mem_map.mp hw
  rfl
 have ec:(l.map fun x:Nat=>W.int (x:Int)).any (fun u=>eqW u (.int (o:Int)))=decide (o∈l):=by
  rw [List.any_map]
  by_cases hm:o∈l
  ·rw [decide_eq_true hm,List.any_eq_true]
   exact ⟨o,hm,by show eqW (.int (o:Int)) (.int (o:Int))=true;rw [cH];simp⟩
  ·rw [decide_eq_false hm,List.any_eq_false]
   intro u hu
   show ¬ eqW (.int (u:Int)) (.int (o:Int))=true
   rw [cH]
   intro e
   have:u=o:=by
    have e2:((u:Nat):Int)=(o:Int):=by simpa using e
    omega
   subst this
   exact hm hu
 show by2 (fC (.int (o:Int))&&(l.map fun x:Nat=>W.int (x:Int)).all fC) (Q (.bl (!((l.map fun x:Nat=>W.int (x:Int)).any fun u=>eqW u (.int (o:Int))))) h) False
 rw [ea,ec]
 rw [show decide (o∉l) = !decide (o∈l) by by_cases z:o∈l <;> simp [z]] at k
 exact k
theorem lc_out {o:Nat}{L:List (List Nat)}{σ : Sw}{h:Gh}{Q:WK}(hz:L.length≤100)(h2:σ[2]?=some (some (.lst (L.map cT))))(h3:σ[3]?=some (some (.int (o:Int))))(k:Q (.lst ((L.filter fun l=>decide (o∉l)).map cT)) h):mLC ow1 [3] (nIt (ao 2)) (aY (mOp kNin (ao 1) (ao 0))) (ao 0) σ h Q:=by
 have eb:mG [3] σ = [some (.int (o:Int))]:=by
  simp [mG,h3]
 refine mLC_s (nIt_s (bf h2 (iK_s rfl ?_)))
 refine gH.mk (by rw [List.length_map];exact Nat.le_trans hz (by decide)) ?_
 refine o9 (fun i acc h'=>h'=h∧acc=((L.take i).filter fun l=>decide (o∉l)).map cT) ?_ ?_ ⟨rfl,rfl⟩
 ·rintro i w acc h' N hN e ⟨rfl,rfl⟩
  rw [List.getElem?_map] at e
  cases qe:L[i]? with
  | none=>rw [qe] at e;cases e
  | some l=>
   rw [qe] at e
   cases e
   refine ⟨[cT l],rfl,?_⟩
   rw [eb]
   refine nF (mF (bf rfl (bf rfl (ninN (tK_s ?_)))))
   by_cases z:o∈l
   ·refine by2_f (by simp [z]) (hN _ _ ⟨rfl,?_⟩)
    rw [List.take_succ,qe]
    simp [z]
   ·refine yO (by simp [z]) (bf rfl (hN _ _ ⟨rfl,?_⟩))
    rw [List.take_succ,qe]
    simp [z]
 ·rintro acc h' ⟨rfl,rfl⟩
  rw [List.length_map,List.take_length]
  exact k
theorem zt_f (ts:List Tr)(o i j k:Nat):(zt ts i j k).filter (fun l=>decide (o∉l))=if o∈[i,j,k] then [] else zt ts i j k:=by
 unfold zt
 by_cases z:o∈[i,j,k]
 ·rw [if_pos z]
  split
  ·rw [List.filter_cons_of_neg (by simp only [decide_eq_true_eq];exact fun q=>q z)]
   rfl
  ·rfl
 ·rw [if_neg z]
  split
  ·rw [List.filter_cons_of_pos (by simp only [decide_eq_true_eq];exact z)]
   rfl
  ·rfl
theorem rP (ts:List Tr)(i j k:Nat):(zt ts i j k).length=if br3 (gt ts i) (gt ts j) (gt ts k)=0 then 1 else 0:=by
 unfold zt
 split <;> rfl
theorem lin5_len (ts:List Tr):(nR ts).length≤100:=by
 have zl:=wG ts
 have:=zl 0 1 2
 have:=zl 0 1 3
 have:=zl 0 2 3
 have:=zl 1 2 3
 have:=zl 0 1 4
 have:=zl 0 2 4
 have:=zl 1 2 4
 have:=zl 0 3 4
 have:=zl 1 3 4
 have:=zl 2 3 4
 unfold nR
 simp only [List.length_append]
 omega
theorem cnt4 {p q r s:Prop} [Decidable p] [Decidable q] [Decidable r] [Decidable s]:((if p then 1 else 0)+((if q then 1 else 0)+((if r then 1 else 0)+(if s then 1 else 0))):Nat)=4↔p∧q∧r∧s:=by
 by_cases h1:p <;> by_cases h2:q <;> by_cases h3:r <;> by_cases h4:s <;> simp [h1,h2,h3,h4]
def xT (ts:List Tr)(o:Nat):Nat:=((nR ts).filter fun l=>decide (o∉l)).length
theorem cnt_iff {a b c d e:Tr}(pl:∀ t∈[a,b,c,d,e],Pl t)(nd:[a,b,c,d,e].Nodup):(xT [a,b,c,d,e] 0=4↔cV [b,c,d,e]=true)∧(xT [a,b,c,d,e] 1=4↔cV [a,c,d,e]=true)∧(xT [a,b,c,d,e] 2=4↔cV [a,b,d,e]=true)∧(xT [a,b,c,d,e] 3=4↔cV [a,b,c,e]=true)∧(xT [a,b,c,d,e] 4=4↔cV [a,b,c,d]=true):=by
 simp only [List.nodup_cons,List.mem_cons,List.not_mem_nil,or_false,not_or,not_false_eq_true,List.nodup_nil,and_true] at nd
 obtain ⟨⟨ab,ac,ad,ae⟩,⟨bc,bd,be⟩,⟨cd,ce⟩,de⟩:=nd
 have pa:=pl a (by simp)
 have pb:=pl b (by simp)
 have pc:=pl c (by simp)
 have pd:=pl d (by simp)
 refine ⟨?_,?_,?_,?_,?_⟩
 ·rw [bx pb pc bc]
  unfold xT nR
  simp only [List.filter_append,zt_f]
  simp only [List.length_append]
  simp [rP]
  exact cnt4
 ·rw [bx pa pc ac]
  unfold xT nR
  simp only [List.filter_append,zt_f]
  simp only [List.length_append]
  simp [rP]
  exact cnt4
 ·rw [bx pa pb ab]
  unfold xT nR
  simp only [List.filter_append,zt_f]
  simp only [List.length_append]
  simp [rP]
  exact cnt4
 ·rw [bx pa pb ab]
  unfold xT nR
  simp only [List.filter_append,zt_f]
  simp only [List.length_append]
  simp [rP]
  exact cnt4
 ·rw [bx pa pb ab]
  unfold xT nR
  simp only [List.filter_append,zt_f]
  simp only [List.length_append]
  simp [rP]
  exact cnt4
def DueX (c0:MSp):Prop:=∀ {h:Gh} {a b c d e:Tr} {Q:WK} {E:XWK},OkT 120 [a,b,c,d,e]→Q (.str (due9 [a,b,c,d,e])) h→c0 [r5 a b c d e] h Q E
set_option maxHeartbeats 8000000 in
theorem w_due {li:MSp}(hli:LinL li):DueX (uZ li):=by
 intro h a b c d e Q E hs k
 have pl:∀ t∈[a,b,c,d,e],Pl t:=fun t ht=>(hs t ht).1
 unfold uZ
 refine rm rfl (σ:=[some (r5 a b c d e),none,none,none]) rfl ?_
 refine dM (iQ (fH (bG (xR (bO (zp (m:=5) (by decide) (iM ?_)))))))
 refine (show cR ⟨_,none⟩ _ _ _ [.int 0,.int 1,.int 2,.int 3,.int 4] _ h from ?_)
 have bad:¬ [a,b,c,d,e].Nodup→Q (.str "alike") h:=fun z=>by
  rw [due9_a z] at k
  exact k
 have one:∀ {N0:Sw→Gh→Prop} {B0 C0:Sw→Gh→Prop} {i:Nat} {t:Tr} {us:List Tr} {s2 s3:Option W},atI [tw a,tw b,tw c,tw d,tw e] (i:Int)=some (tw t)→cutW [tw a,tw b,tw c,tw d,tw e] none (some (i:Int))=us.map tw→(t∈us→¬ [a,b,c,d,e].Nodup)→(t∉us→N0 [some (r5 a b c d e),some (.int (i:Int)),s2,s3] h) →
   dX (aY (mOp kInD (mOp kIx (ao 0) (ao 1)) (mSl kSl2 (ao 0) jE (iD (ao 1))))) (cu (mC (.str "alike"))) bN ⟨N0,Q,B0,C0⟩ [some (r5 a b c d e),some (.int (i:Int)),s2,s3] h:=by
  intro N0 B0 C0 i t us s2 s3 h1 h2 h3 h4
  refine mIfS_s (nF (mF (mF (bf rfl (bf rfl (yJ (x:=r5 a b c d e) (ws:=[tw a,tw b,tw c,tw d,tw e]) rfl h1 ?_))))))
  refine mSl_s (bf rfl (bU (mPart_s (bf rfl (pK_s ?_)))))
  refine eU (ws:=[tw a,tw b,tw c,tw d,tw e]) h2 (inD_s (tK_s ?_))
  refine zK (fun z=>?_) fun z=>?_
  ·exact je (xR (rt_s (bad (h3 z))))
  ·exact vV (pP (h4 z))
 refine bI (aQ (σ':=[some (r5 a b c d e),some (.int ((0:Nat):Int)),none,none]) rfl (one (t:=a) (us:=[]) rfl rfl (fun z=>absurd z List.not_mem_nil) fun z0=>?_))
 refine bI (aQ (σ':=[some (r5 a b c d e),some (.int ((1:Nat):Int)),none,none]) rfl (one (t:=b) (us:=[a]) rfl rfl (fun z n=>by simp at z;simp [z] at n) fun z1=>?_))
 refine bI (aQ (σ':=[some (r5 a b c d e),some (.int ((2:Nat):Int)),none,none]) rfl (one (t:=c) (us:=[a,b]) rfl rfl (fun z n=>by simp at z;rcases z with z | z <;> simp [z] at n) fun z2=>?_))
 refine bI (aQ (σ':=[some (r5 a b c d e),some (.int ((3:Nat):Int)),none,none]) rfl (one (t:=d) (us:=[a,b,c]) rfl rfl (fun z n=>by simp at z;rcases z with z | z | z <;> simp [z] at n) fun z3=>?_))
 refine bI (aQ (σ':=[some (r5 a b c d e),some (.int ((4:Nat):Int)),none,none]) rfl (one (t:=e) (us:=[a,b,c,d]) rfl rfl (fun z n=>by simp at z;rcases z with z | z | z | z <;> simp [z] at n) fun z4=>?_))
 have nd:[a,b,c,d,e].Nodup:=by
  simp only [List.mem_cons,List.not_mem_nil,or_false,not_or] at z1 z2 z3 z4
  simp only [List.nodup_cons,List.mem_cons,List.not_mem_nil,or_false,not_or,not_false_eq_true,List.nodup_nil,and_true]
  exact ⟨⟨Ne.symm z1,Ne.symm z2.1,Ne.symm z3.1,Ne.symm z4.1⟩,⟨Ne.symm z2.2,Ne.symm z3.2.1,Ne.symm z4.2.1⟩,⟨Ne.symm z3.2.2,Ne.symm z4.2.2.1⟩,Ne.symm z4.2.2.2⟩
 obtain ⟨c0,c1,c2,c3,c4⟩:=cnt_iff pl nd
 refine mJ (pP ?_)
 unfold uD
 rfl'
 refine hli hs ?_
 refine aQ (σ':=[some (r5 a b c d e),some (.int ((4:Nat):Int)),some (.lst ((nR [a,b,c,d,e]).map cT)),none]) rfl (pP ?_)
 refine dM (iQ (fH (bG (xR (bO (zp (m:=5) (by decide) (iM ?_)))))))
 refine (show cR ⟨_,none⟩ _ _ _ [.int 0,.int 1,.int 2,.int 3,.int 4] _ h from ?_)
 have ret:uG [a,b,c,d,e]=true→Q (.str "four") h:=fun z=>by
  rw [due9_f nd z] at k
  exact k
 have two:∀ {N0:Sw→Gh→Prop} {B0 C0:Sw→Gh→Prop} {o:Nat},(xT [a,b,c,d,e] o=4→uG [a,b,c,d,e]=true)→(xT [a,b,c,d,e] o≠4→N0 [some (r5 a b c d e),some (.int ((4:Nat):Int)),some (.lst ((nR [a,b,c,d,e]).map cT)),some (.int (o:Int))] h) →
   dX (aY (mOp kEq (mCB kLen (aq (mLC ow1 [3] (nIt (ao 2)) (aY (mOp kNin (ao 1) (ao 0))) (ao 0)) aO)) (mC (.int 4)))) (cu (mC (.str "four"))) bN ⟨N0,Q,B0,C0⟩ [some (r5 a b c d e),some (.int ((4:Nat):Int)),some (.lst ((nR [a,b,c,d,e]).map cT)),some (.int (o:Int))] h:=by
  intro N0 B0 C0 o h3 h4
  refine mIfS_s (nF (mF (mCB_s (bG (lc_out (lin5_len _) rfl rfl (bO (kLen_s rfl ?_)))))))
  rw [List.length_map]
  refine xR (kEq_i (tK_s ?_))
  refine zK (fun z=>?_) fun z=>?_
  ·refine je (xR (rt_s (ret (h3 ?_))))
   unfold xT
   omega
  ·refine vV (pP (h4 ?_))
   unfold xT
   omega
 have f5:=fou5 a b c d e
 refine bI (aQ (σ':=[some (r5 a b c d e),some (.int ((4:Nat):Int)),some (.lst ((nR [a,b,c,d,e]).map cT)),some (.int ((0:Nat):Int))]) rfl (two (fun z=>by rw [f5,c0.mp z];simp) fun y0=>?_))
 refine bI (aQ (σ':=[some (r5 a b c d e),some (.int ((4:Nat):Int)),some (.lst ((nR [a,b,c,d,e]).map cT)),some (.int ((1:Nat):Int))]) rfl (two (fun z=>by rw [f5,c1.mp z];simp) fun y1=>?_))
 refine bI (aQ (σ':=[some (r5 a b c d e),some (.int ((4:Nat):Int)),some (.lst ((nR [a,b,c,d,e]).map cT)),some (.int ((2:Nat):Int))]) rfl (two (fun z=>by rw [f5,c2.mp z];simp) fun y2=>?_))
 refine bI (aQ (σ':=[some (r5 a b c d e),some (.int ((4:Nat):Int)),some (.lst ((nR [a,b,c,d,e]).map cT)),some (.int ((3:Nat):Int))]) rfl (two (fun z=>by rw [f5,c3.mp z];simp) fun y3=>?_))
 refine bI (aQ (σ':=[some (r5 a b c d e),some (.int ((4:Nat):Int)),some (.lst ((nR [a,b,c,d,e]).map cT)),some (.int ((4:Nat):Int))]) rfl (two (fun z=>by rw [f5,c4.mp z];simp) fun y4=>?_))
 have ff:uG [a,b,c,d,e]=false:=by
  have g0:cV [b,c,d,e]=false:=by simpa using fun z=>y0 (c0.mpr z)
  have g1:cV [a,c,d,e]=false:=by simpa using fun z=>y1 (c1.mpr z)
  have g2:cV [a,b,d,e]=false:=by simpa using fun z=>y2 (c2.mpr z)
  have g3:cV [a,b,c,e]=false:=by simpa using fun z=>y3 (c3.mpr z)
  have g4:cV [a,b,c,d]=false:=by simpa using fun z=>y4 (c4.mpr z)
  rw [f5,g0,g1,g2,g3,g4]
  rfl
 rw [due9_c nd ff] at k
 refine mJ (pP ?_)
 unfold tW
 exact je (xR (rt_s k))
def RefX (c0:MSp):Prop:=∀ {h:Gh} {a b c d e:Tr} {Q:WK} {E:XWK},OkT 120 [a,b,c,d,e]→Q (.str (due9 [a,b,c,d,e])) h→c0 [r5 a b c d e] h Q E
theorem w_refused {th:MSp}(hth:ThruX th):RefX (gQ th):=by
 intro h a b c d e Q E hs k
 have src:kO h (r5 a b c d e) [a,b,c,d,e]:=.inl rfl
 unfold gQ
 refine rm rfl (σ:=[some (r5 a b c d e),none,none]) rfl ?_
 rfl'
 refine hth src (by decide) hs (fun G C j j0 eC pC sC=>?_) (fun nd=>?_) fun nd f=>?_
 ·have nf:uG [a,b,c,d,e]=false:=by
   cases q:uG [a,b,c,d,e] with
   | false=>rfl
   | true=>
    rw [fou5] at q
    simp only [Bool.or_eq_true] at q
    have B:=Br.of G
    have pl:=G.pl
    have nd:=G.nd
    simp only [List.nodup_cons,List.mem_cons,List.not_mem_nil,or_false,not_or,not_false_eq_true,List.nodup_nil,and_true] at nd
    obtain ⟨⟨ab,ac,ad,ae⟩,⟨bc,bd,be⟩,⟨cd,ce⟩,de⟩:=nd
    have pa:=pl a (by simp)
    have pb:=pl b (by simp)
    have pc:=pl c (by simp)
    rcases q with q | q | q | q | q
    ·exact absurd ⟨((bx pa pb ab).mp q).1,((bx pa pb ab).mp q).2.1⟩ B.n1
    ·exact absurd ⟨((bx pa pb ab).mp q).1,((bx pa pb ab).mp q).2.1⟩ B.n2
    ·exact absurd ⟨((bx pa pb ab).mp q).1,((bx pa pb ab).mp q).2.1⟩ B.n3
    ·exact absurd ⟨((bx pa pc ac).mp q).1,((bx pa pc ac).mp q).2.1⟩ B.n6
    ·exact absurd ⟨((bx pb pc bc).mp q).1,((bx pb pc bc).mp q).2.1⟩ B.n15
  rw [due9_c G.nd nf] at k
  rfl'
  unfold jc
  rfl'
  exact k
 ·rw [due9_a nd] at k
  rfl'
  refine yH (by decide +kernel) ?_
  rfl'
  exact k
 ·rw [due9_f nd f] at k
  rfl'
  refine yH (by decide +kernel) ?_
  rfl'
  exact k
def GoesX (c0:MSp):Prop:=∀ {h:Gh} {a b c d e:Tr} {C:C6} {Q:WK} {E:XWK},OkT 120 [a,b,c,d,e]→PlL (c6l C)→Sm6 1300 C→(∀ x∈[a,b,c,d,e],wth C x=0)→Q (.bl true) h→c0 [c6w C,r5 a b c d e] h Q E
set_option maxHeartbeats 8000000 in
theorem w_goes {dv:MSp}(hdv:qx dv):GoesX (qD dv):=by
 intro h a b c d e C Q E hs pC sC van k
 have hn:NZ (c6l C):=pC.nz
 have g1:gL (c6l C)=1:=pC.1
 have l1:0<dB (c6l C):=pC.2
 have t3:jz dv E { nx:=fun _ h'=>Q .non h',rt:=Q } [some (c6w C),some (r5 a b c d e),none,none,none,none] h:=by
  have one:∀ {N0:Sw→Gh→Prop} {B0 C0:Sw→Gh→Prop} {t:Tr} {s2 s3 s4 s5:Option W},t∈[a,b,c,d,e]→(∀ s2 s3 s4 s5:Option W,N0 [some (c6w C),some (r5 a b c d e),s2,s3,s4,s5] h) →
    nY 3 (fL (nName 2) (fL (nName 3) (fL (nName 4) nNil))) (tw t) [some (c6w C),some (r5 a b c d e),s2,s3,s4,s5] h fun σ1 h1=>(bA (bK (ux (aq (mOp bY (ao 2) (ao 2)) (aq (mOp bY (ao 2) (ao 3)) (aq (mOp bY (ao 3) (ao 3)) (aq (mOp bY (ao 2) (ao 4)) (aq (mOp bY (ao 3) (ao 4)) (aq (mOp bY (ao 4) (ao 4)) aO))))))) (nName 5))
  (dX (aY (mOp kNe (mCB kSum (aq (mLC (owT 2) [] (nZip (aq (ao 0) (aq (ao 5) aO))) kh (mOp bY (ao 0) (ao 1))) aO)) (mC (.int 0)))) (cu (mC (.bl false))) bN)) ⟨N0,Q,B0,C0⟩ σ1 h1:=by
   intro N0 B0 C0 t s2 s3 s4 s5 ht kk
   have w0:=van t ht
   have st:=(hs t ht).2
   obtain ⟨x,y,z⟩:=t
   obtain ⟨hx,hy,hz⟩:=st
   simp only at hx hy hz
   obtain ⟨c1,c2,c3,c4,c5,c6⟩:=C
   obtain ⟨h1,h2,h3,h4,h5,h6⟩:=sC
   simp only at h1 h2 h3 h4 h5 h6
   rfl'
   rw [sum6,wth_sum,w0]
   refine yH rfl ?_
   rfl'
   exact kk _ _ _ _
  unfold jz
  refine dM (iQ (nIt_s (bf rfl (iK_s (ws:=[tw a,tw b,tw c,tw d,tw e]) (o:=none) rfl (iM ?_)))))
  refine bI (one (by simp) fun s2 s3 s4 s5=>bI (one (by simp) fun s2 s3 s4 s5=>bI (one (by simp) fun s2 s3 s4 s5=>bI (one (by simp) fun s2 s3 s4 s5=>bI (one (by simp) fun s2 s3 s4 s5=>mJ ?_)))))
  unfold pA
  rfl'
  exact k
 have t2:jO dv E { nx:=fun _ h'=>Q .non h',rt:=Q } [some (c6w C),some (r5 a b c d e),none,none,none,none] h:=by
  have ii:oE h (c6w C) (c6l C):=.inr (.inl rfl)
  unfold jO
  rfl'
  refine hdv ii ?_
  rw [g1]
  rfl'
  refine yH rfl ?_
  refine (show mLC ow1 [] (nIt (ao 0)) (aY (mOp kNe (ao 0) (mC (.int 0)))) (ao 0) [some (c6w C),some (r5 a b c d e),none,none,none,none] h _ from ?_)
  refine vZ (w:=c6w C) (ns:=c6l C) rfl ii (by show 6≤sizeLine;decide) (fun i acc h2=>h2=h∧acc=(((c6l C).take i).filter (·≠0)).map W.int) (fun i acc h' e=>by rw [e.1];exact ii) ?_ ?_ ⟨rfl,rfl⟩
  ·rintro i n acc h' N hN en ⟨rfl,rfl⟩
   show by2 (!eqW (.int n) (.int 0)) (N (_++[W.int n]) h') _
   rw [cH]
   by_cases h0:n=0
   ·refine by2_f (by simp [h0]) (hN _ _ ⟨rfl,?_⟩)
    rw [List.take_succ,en]
    simp [h0]
   ·refine yO (by simp [h0]) (hN _ _ ⟨rfl,?_⟩)
    rw [List.take_succ,en]
    simp [h0]
  ·rintro acc h' ⟨rfl,rfl⟩
   rw [List.take_length]
   have el:=yd hn
   generalize ((c6l C).filter (·≠0)).map W.int=F at el
   rfl'
   refine yJ (x:=.lst F) rfl el ?_
   rfl'
   refine yH (decide_eq_false (by omega)) ?_
   rfl'
   exact t3
 unfold qD
 refine rm rfl (σ:=[some (c6w C),some (r5 a b c d e),none,none,none,none]) rfl ?_
 rfl'
 unfold oV
 rfl'
 exact t2
theorem listM_g {w:W}{us:List W}{h:Gh}{Q:WK}(e:view h w=some us)(k:∀ g:Gh,g.c h.nx=some (.lst us)→(∀ n,n≠h.nx→g.c n=h.c n)→g.nx=h.nx+1→Q (.loc h.nx) g):wM [w] h Q:=by
 show (match view h w with
  | some us=>Q (.loc h.nx) (h.new (.lst us))
  | none=>False)
 rw [e]
 exact k _ (new_c _ _) (fun _ z=>wA z) rfl
theorem list_l {us:List W}{h:Gh}{Q:WK}(k:Q (.lst us) h):kList [.lst us] h Q:=k
theorem ne_cellr {h:Gh}{n:Nat}{ts:List Tr}{Q:WK}(e:h.c n=some (.lst (ts.map tw)))(k:Q (.bl false) h):kNe (.loc n) (.lst (ts.map tw)) h Q:=by
 have d:datW h (.loc n)=some (.lst (ts.map tw)):=by simp only [datW,e]
 show (match datW h (.loc n),datW h (.lst (ts.map tw)) with
  | some a,some b=>by2 (plW 30 a&&plW 30 b) (Q (.bl (!eqW a b)) h) False
  | _,_=>False)
 rw [d]
 show by2 (plW 30 (.lst (ts.map tw))&&plW 30 (.lst (ts.map tw))) (Q (.bl (!eqW (.lst (ts.map tw)) (.lst (ts.map tw)))) h) False
 rw [pls_tw 28,eqW,eqs_tw]
 exact k
theorem mBMr0_s {r:MM}{mo:ME}{σ : Sw}{h:Gh}{Q:WK}(x:mo σ h fun x h1=>nZ h1 x (r x [] h1 Q)):mBMr0 r mo σ h Q:=x
theorem rev_g {h:Gh}{n:Nat}{us:List W}{Q:WK}(e:h.c n=some (.lst us))(k:∀ g:Gh,g.c n=some (.lst us.reverse)→g.nx=h.nx→(∀ m,m≠n→g.c m=h.c m)→Q .non g):nZ h (.loc n) (fP (.loc n) [] h Q):=by
 simp only [nZ,fP,e]
 exact k _ (set_c _ _ _) rfl fun m hm=>uE hm
theorem pl_tupN (n:Nat)(l:List Nat):plW (n+1) (cT l)=true:=by
 show (l.map fun x:Nat=>W.int (x:Int)).all (plW n)=true
 rw [List.all_eq_true]
 intro w hw
 obtain ⟨u,_,rfl⟩:=List.mem_map.mp hw
 cases n <;> rfl
theorem eq_nil {L:List (List Nat)}{h:Gh}{Q:WK}(k:Q (.bl (decide (L=[]))) h):kEq (.lst (L.map cT)) (.lst []) h Q:=by
 have p:plW 30 (.lst (L.map cT))=true:=by
  show (L.map cT).all (plW 29)=true
  rw [List.all_eq_true]
  intro w hw
  obtain ⟨u,_,rfl⟩:=List.mem_map.mp hw
  exact pl_tupN 28 u
 show by2 (plW 30 (.lst (L.map cT))&&plW 30 (.lst [])) (Q (.bl (eqW (.lst (L.map cT)) (.lst []))) h) False
 rw [p]
 cases L with
 | nil=>exact k
 | cons l r=>exact k
theorem lin_five {a b c d e:Tr}:nR [a,b,c,d,e]=[]↔Five a b c d e:=by
 have zn:∀ i j k,zt [a,b,c,d,e] i j k=[]↔br3 (gt [a,b,c,d,e] i) (gt [a,b,c,d,e] j) (gt [a,b,c,d,e] k)≠0:=by
  intro i j k
  unfold zt
  split
  ·rename_i z
   exact ⟨fun h=>(by cases h),fun h=>absurd z h⟩
  ·rename_i z
   exact ⟨fun _=>z,fun _=>rfl⟩
 unfold nR
 simp only [List.append_eq_nil_iff,zn]
 constructor
 ·rintro ⟨h1,h2,h3,h4,h5,h6,h7,h8,h9,h10⟩
  exact five_mk h1 h2 h5 h3 h6 h8 h4 h7 h9 h10
 ·intro F
  obtain ⟨tabc,tabd,tabe,tacd,tace,tade,tbcd,tbce,tbde,tcde⟩:=tE F
  exact ⟨tabc,tabd,tacd,tbcd,tabe,tace,tbce,tade,tbde,tcde⟩
abbrev DL:bH:={ nx:=fun _ h'=>(fun w _=>w=W.bl true) W.non h',rt:=fun w _=>w=W.bl true }
set_option maxHeartbeats 16000000 in
theorem w_law {ro th ce sp li du re go:MSp}(hro:RndOk ro)(hth:ThruX th)(hce:qI ce)(hsp:Spots9 sp)(hli:LinL li)(hdu:DueX du)(hre:RefX re)(hgo:GoesX go)(ns:List Int){h':Gh}:r_law ro th ce sp li du re go [.kls (ns.map .int)] h' (fun w _=>w=.bl true) EF:=by
 unfold r_law
 rfl'
 refine hsp fun a b c d e hs=>?_
 have src:∀ g:Gh,kO g (r5 a b c d e) [a,b,c,d,e]:=fun g=>.inl rfl
 rfl'
 refine hdu hs ?_
 rfl'
 refine list_l ?_
 refine hre hs ?_
 rfl'
 refine yH (decide_eq_false fun z=>z rfl) ?_
 rfl'
 unfold Aa
 rfl'
 refine zK (fun z=>?_) fun z=>?_
 ·rfl'
  exact rfl
 rw [Decidable.not_not] at z
 have nd:[a,b,c,d,e].Nodup:=Classical.byContradiction fun q=>by
  rw [due9_a q] at z
  exact absurd z (by decide)
 have nf:uG [a,b,c,d,e]=false:=by
  cases q:uG [a,b,c,d,e] with
  | false=>rfl
  | true=>
   rw [due9_f nd q] at z
   exact absurd z (by decide)
 have G:=g5_of (fun t ht=>(hs t ht).1) nd nf
 -- the curve of any order
 rfl'
 unfold t_law_4
 rfl'
 refine listM_g (us:=[a,b,c,d,e].map tw) rfl fun g eg og xg=>?_
 have s1:kO g (.loc h'.nx) [a,b,c,d,e]:=.inr ⟨_,rfl,eg⟩
 rfl'
 refine hth s1 (by decide) hs (fun _ C j j0 eC pC sC=>?_) (fun q=>absurd nd q) fun _ q=>by rw [nf] at q;cases q
 have sC:Sm6 1300 C:=Sm6.mono sC (by decide)
 have van:∀ x∈[a,b,c,d,e],wth C x=0:=fun x hx=>by
  have:=ql a b c d e x hx
  rw [eC,wth_kC] at this
  exact (Int.mul_eq_zero.mp this).resolve_right j0
 have again:∀ {g:Gh} {w:W} {p q r s t:Tr} {Q:WK} {E:XWK},[a,b,c,d,e].Perm [p,q,r,s,t]→kO g w [p,q,r,s,t]→Q (c6w C) g→th [w] g Q E:=by
  intro g w p q r s t Q E pm sr kk
  have G2:=G.perm pm
  refine hth sr (by decide) (fun t ht=>hs t (pm.mem_iff.mpr ht)) (fun _ C2 j2 j20 eC2 pC2 sC2=>?_) (fun q=>absurd G2.nd q) fun _ q=>?_
  ·have van2:∀ x∈[p,q,r,s,t],wth C2 x=0:=fun x hx=>by
    have:=ql p q r s t x hx
    rw [eC2,wth_kC] at this
    exact (Int.mul_eq_zero.mp this).resolve_right j20
   have:=one_curve G pC2 pC (fun x hx=>van2 x (pm.mem_iff.mp hx)) van
   rw [this]
   exact kk
  ·exfalso
   have B:=Br.of G2
   rw [fou5] at q
   simp only [Bool.or_eq_true] at q
   have pl:=G2.pl
   have nd2:=G2.nd
   simp only [List.nodup_cons,List.mem_cons,List.not_mem_nil,or_false,not_or,not_false_eq_true,List.nodup_nil,and_true] at nd2
   obtain ⟨⟨ab,ac,ad,ae⟩,⟨bc,bd,be⟩,⟨cd,ce⟩,de⟩:=nd2
   rcases q with q | q | q | q | q
   ·have f:=(bx (pl _ (by simp)) (pl _ (by simp)) ab).mp q
    exact B.n1 ⟨f.1,f.2.1⟩
   ·have f:=(bx (pl _ (by simp)) (pl _ (by simp)) ab).mp q
    exact B.n2 ⟨f.1,f.2.1⟩
   ·have f:=(bx (pl _ (by simp)) (pl _ (by simp)) ab).mp q
    exact B.n3 ⟨f.1,f.2.1⟩
   ·have f:=(bx (pl _ (by simp)) (pl _ (by simp)) ac).mp q
    exact B.n6 ⟨f.1,f.2.1⟩
   ·have f:=(bx (pl _ (by simp)) (pl _ (by simp)) bc).mp q
    exact B.n15 ⟨f.1,f.2.1⟩
 rfl'
 refine ne_cellr (ts:=[a,b,c,d,e]) eg ?_
 rfl'
 refine hgo hs pC sC van ?_
 rfl'
 unfold t_law_7
 rfl'
 refine mBMr0_s ?_
 rfl'
 refine rev_g eg fun g2 e2 x2 o2=>?_
 have s2:kO g2 (.loc h'.nx) [e,d,c,b,a]:=.inr ⟨_,rfl,e2⟩
 rfl'
 refine hce (by decide) ?_
 rfl'
 refine jZ (by decide) ?_
 have bd:=dj (ns.getD (5:Int).toNat 0) (b:=5) (by decide)
 generalize (ns.getD (5:Int).toNat 0).fmod 5=f at bd
 have pr:[a,b,c,d,e].Perm [e,d,c,b,a]:=(List.reverse_perm [a,b,c,d,e]).symm
 refine aQ (σ':=[some (.kls (ns.map .int)),some (r5 a b c d e),some (.str (due9 [a,b,c,d,e])),some (.loc h'.nx),some (c6w C),some (.int f),none]) rfl (pP ?_)
 have t10:rG ro th ce sp li du re go EF DL [some (.kls (ns.map .int)),some (r5 a b c d e),some (.str (due9 [a,b,c,d,e])),some (.loc h'.nx),some (c6w C),some (.int f),none] g2:=by
  unfold rG
  rfl'
  refine hro (m:=1300) (by decide) sC ?_
  rfl'
  refine hli hs ?_
  rfl'
  refine eq_nil ?_
  rfl'
  have e1:decide (det (fj C)≠0)=decide (nR [a,b,c,d,e]=[]):=by
   rw [decide_eq_decide,round_iff G j0 eC,lin_five]
  rw [e1]
  refine congrArg W.bl (decide_eq_true rfl)
 have eqC:eqW (c6w C) (c6w C)=true:=by
  obtain ⟨c1,c2,c3,c4,c5,c6⟩:=C
  simp [c6w,eqW,pL]
 have neC:∀ {g:Gh} {Q:WK},Q (.bl false) g→kNe (c6w C) (c6w C) g Q:=fun {g Q} kk=>by
  show Q (.bl (!eqW (c6w C) (c6w C))) g
  rw [eqC]
  exact kk
 rfl'
 refine again pr s2 ?_
 rfl'
 refine neC ?_
 rfl'
 rcases (show f=0∨f=1∨f=2∨f=3∨f=4 by omega) with rfl | rfl | rfl | rfl | rfl
 ·refine bU ?_
  refine eU (ws:=[tw a,tw b,tw c,tw d,tw e]) (us:=[tw a,tw b,tw c,tw d,tw e]) rfl ?_
  rfl'
  refine bU ?_
  rfl'
  refine eU (ws:=[tw a,tw b,tw c,tw d,tw e]) (us:=[]) rfl ?_
  refine jK rfl ?_
  refine bO ?_
  refine again (p:=a) (q:=b) (r:=c) (s:=d) (t:=e) (List.Perm.refl _) (.inl rfl) ?_
  rfl'
  refine neC ?_
  rfl'
  exact t10
 ·refine bU ?_
  refine eU (ws:=[tw a,tw b,tw c,tw d,tw e]) (us:=[tw b,tw c,tw d,tw e]) rfl ?_
  rfl'
  refine bU ?_
  rfl'
  refine eU (ws:=[tw a,tw b,tw c,tw d,tw e]) (us:=[tw a]) rfl ?_
  refine jK rfl ?_
  refine bO ?_
  refine again (p:=b) (q:=c) (r:=d) (s:=e) (t:=a) (List.perm_append_comm (l₁:=[a]) (l₂:=[b,c,d,e])) (.inl rfl) ?_
  rfl'
  refine neC ?_
  rfl'
  exact t10
 ·refine bU ?_
  refine eU (ws:=[tw a,tw b,tw c,tw d,tw e]) (us:=[tw c,tw d,tw e]) rfl ?_
  rfl'
  refine bU ?_
  rfl'
  refine eU (ws:=[tw a,tw b,tw c,tw d,tw e]) (us:=[tw a,tw b]) rfl ?_
  refine jK rfl ?_
  refine bO ?_
  refine again (p:=c) (q:=d) (r:=e) (s:=a) (t:=b) (List.perm_append_comm (l₁:=[a,b]) (l₂:=[c,d,e])) (.inl rfl) ?_
  rfl'
  refine neC ?_
  rfl'
  exact t10
 ·refine bU ?_
  refine eU (ws:=[tw a,tw b,tw c,tw d,tw e]) (us:=[tw d,tw e]) rfl ?_
  rfl'
  refine bU ?_
  rfl'
  refine eU (ws:=[tw a,tw b,tw c,tw d,tw e]) (us:=[tw a,tw b,tw c]) rfl ?_
  refine jK rfl ?_
  refine bO ?_
  refine again (p:=d) (q:=e) (r:=a) (s:=b) (t:=c) (List.perm_append_comm (l₁:=[a,b,c]) (l₂:=[d,e])) (.inl rfl) ?_
  rfl'
  refine neC ?_
  rfl'
  exact t10
 ·refine bU ?_
  refine eU (ws:=[tw a,tw b,tw c,tw d,tw e]) (us:=[tw e]) rfl ?_
  rfl'
  refine bU ?_
  rfl'
  refine eU (ws:=[tw a,tw b,tw c,tw d,tw e]) (us:=[tw a,tw b,tw c,tw d]) rfl ?_
  refine jK rfl ?_
  refine bO ?_
  refine again (p:=e) (q:=a) (r:=b) (s:=c) (t:=d) (List.perm_append_comm (l₁:=[a,b,c,d]) (l₂:=[e])) (.inl rfl) ?_
  rfl'
  refine neC ?_
  rfl'
  exact t10
theorem law_ok (ns:List Int)(_:ns.length≤63):m_law [.kls (ns.map W.int)] g0 (fun w _=>w=.bl true) EF:=by
 have ph:PlnH cO:=z7 w_div41
 have pl:PlnL cO:=fun {hh w ns m Q E} hw=>ph (hw.elim .inl fun e=>.inr (.inl e))
 have pp:PlnL nP:=w_pplainL (w_divisor w_two) w_endsL
 have ol:lH fK:=zU (w_share w_dot w_cross)
 have th:ThruX bT:=w_through pp w_alike5 (w_has4 ol w_rising w_picked) (w_mixed w_dot w_cross w_tog)
 have li:LinL cL:=w_linL w_turn9
 have sp:Spots9 dJ:=w_spots9 (w_draws w_cell) pl (w_fresh w_num4 ph)
 have rd:RndOk cZ:=w_round (w_size (w_turnG w_dotG w_crossG) w_rows) w_tab
 have du:DueX jG:=w_due li
 have re:RefX cD:=w_refused th
 have go:GoesX gb:=w_goes w_div41
 have ce:qI dH:=w_cell
 exact @w_law cZ bT dH dJ cL jG cD gb @rd @th @ce @sp @li @du @re @go ns g0
end My
def PySem.W.Fast.tw608957410887455128:Unit:=()
def PySem.W.Fast.tw15178189154574964822:Unit:=()
def PySem.W.Fast.tw2619483734705135363:Unit:=()
def PySem.W.Fast.tw2946241371759759422:Unit:=()
def PySem.W.Fast.tw6106321119959324411:Unit:=()
def PySem.W.Fast.tw15712594599688861394:Unit:=()
def PySem.W.Fast.tw11133103763198273208:Unit:=()
def PySem.W.Fast.tw707024039156306354:Unit:=()
def PySem.W.Fast.tw15486704917267976169:Unit:=()
def PySem.W.Fast.tw9017764716862578897:Unit:=()
def PySem.W.Fast.tw9577712915424254388:Unit:=()
def PySem.W.Fast.tw2089705749417772425:Unit:=()
def PySem.W.Fast.tw15292619975354855080:Unit:=()
def PySem.W.Fast.tw2647658837416321258:Unit:=()
def PySem.W.Fast.tw13123835272740827884:Unit:=()
def PySem.W.Fast.tw8641377350180325437:Unit:=()
def PySem.W.Fast.tw8625673493478453075:Unit:=()
def PySem.W.Fast.tw10211486661430827168:Unit:=()
def PySem.W.Fast.tw9078241687488055762:Unit:=()
def PySem.W.Fast.tw2312089600083433182:Unit:=()
def PySem.W.Fast.tw9916504487759618903:Unit:=()
def PySem.W.Fast.tw11610277214035779783:Unit:=()
def PySem.W.Fast.tw8846357859111056504:Unit:=()
open PySem PySem.W PyProof.Rows
set_option maxRecDepth 100000 in
set_option maxHeartbeats 0 in
theorem PySem.Challenge.cw_easelroom_k41_through_five_holds : PySem.Challenge.rw_easelroom_k41_through_five.Holds := by
 w_on;o_law;k_head;(case hw=>w_witness2)
 k_fill
 refine My.walk (l:=PySem.Challenge.rw_easelroom_k41_through_five) rfl rfl (fun w h Y=>PySem.W.kIn_of Y) ?F
 case F=>
  intro w mg fa h KX G hmg
  refine' My.all_mk My.law_ok KX G hmg ?a0 ?l0 ?c0 ?k0 ?a1 ?l1 ?c1 ?k1 ?a2 ?l2 ?c2 ?k2 ?a3 ?l3 ?c3 ?k3 ?a4 ?l4 ?c4 ?k4 ?a5 ?l5 ?c5 ?k5 ?a6 ?l6 ?c6 ?k6 ?a7 ?l7 ?c7 ?k7 ?a8 ?l8 ?c8 ?k8 ?a9 ?l9 ?c9 ?k9 ?a10 ?l10 ?c10 ?k10 ?a11 ?l11 ?c11 ?k11 ?a12 ?l12 ?c12 ?k12 ?a13 ?l13 ?c13 ?k13 ?a14 ?l14 ?c14 ?k14 ?a15 ?l15 ?c15 ?k15 ?a16 ?l16 ?c16 ?k16 ?a17 ?l17 ?c17 ?k17 ?a18 ?l18 ?c18 ?k18 ?a19 ?l19 ?c19 ?k19 ?a20 ?l20 ?c20 ?k20 ?a21 ?l21 ?c21 ?k21 ?a22 ?l22 ?c22 ?k22 ?a23 ?l23 ?c23 ?k23 ?a24 ?l24 ?c24 ?k24 ?a25 ?l25 ?c25 ?k25 ?a26 ?l26 ?c26 ?k26 ?a27 ?l27 ?c27 ?k27 ?a28 ?l28 ?c28 ?k28 ?a29 ?l29 ?c29 ?k29 ?a30 ?l30 ?c30 ?k30 ?a31 ?l31 ?c31 ?k31 ?a32 ?l32 ?c32 ?k32 ?z_ValueError ?z_abs ?z_all ?z_any ?z_bool ?z_int ?z_isinstance ?z_len ?z_list ?z_max ?z_range ?z_reversed ?z_set ?z_sum ?z_tuple ?z_zip ?gx_EaselError ?xd_EaselError ?gx_Nothing ?xd_Nothing ?xc_Nothing ?xq_Nothing ?gx_Alike ?xd_Alike ?xc_Alike ?xq_Alike ?gx_FourOnLine ?xd_FourOnLine ?xc_FourOnLine ?xq_FourOnLine ?gx_ThreeOnLine ?xd_ThreeOnLine ?gx_Knot ?xd_Knot ?gx_NotOn ?xd_NotOn
  (case a0 | l0 | c0 | k0 | a1 | l1 | c1 | k1 | a2 | l2 | c2 | k2 | a3 | l3 | c3 | k3 | a4 | l4 | c4 | k4 | a5 | l5 | c5 | k5 | a6 | l6 | c6 | k6 | a7 | l7 | c7 | k7 | a8 | l8 | c8 | k8 | a9 | l9 | c9 | k9=>k_is)
  (case a10 | l10 | c10 | k10 | a11 | l11 | c11 | k11 | a12 | l12 | c12 | k12 | a13 | l13 | c13 | k13 | a14 | l14 | c14 | k14 | a15 | l15 | c15 | k15 | a16 | l16 | c16 | k16 | a17 | l17 | c17 | k17 | a18 | l18 | c18 | k18 | a19 | l19 | c19 | k19=>k_is)
  (case a20 | l20 | c20 | k20 | a21 | l21 | c21 | k21 | a22 | l22 | c22 | k22 | a23 | l23 | c23 | k23 | a24 | l24 | c24 | k24 | a25 | l25 | c25 | k25 | a26 | l26 | c26 | k26 | a27 | l27 | c27 | k27 | a28 | l28 | c28 | k28 | a29 | l29 | c29 | k29=>k_is)
  (case a30 | l30 | c30 | k30 | a31 | l31 | c31 | k31 | a32 | l32 | c32 | k32 | z_ValueError | z_abs | z_all | z_any | z_bool | z_int | z_isinstance | z_len | z_list | z_max | z_range | z_reversed | z_set | z_sum | z_tuple | z_zip | gx_EaselError=>k_is)
  (case xd_EaselError=>kernel_rfl)
  (case gx_Nothing=>k_is)
  (case xd_Nothing | xc_Nothing=>kernel_rfl)
  (case xq_Nothing=>k_exc)
  (case gx_Alike=>k_is)
  (case xd_Alike | xc_Alike=>kernel_rfl)
  (case xq_Alike=>k_exc)
  (case gx_FourOnLine=>k_is)
  (case xd_FourOnLine | xc_FourOnLine=>kernel_rfl)
  (case xq_FourOnLine=>k_exc)
  (case gx_ThreeOnLine=>k_is)
  (case xd_ThreeOnLine=>kernel_rfl)
  (case gx_Knot=>k_is)
  (case xd_Knot=>kernel_rfl)
  (case gx_NotOn=>k_is)
  (case xd_NotOn=>kernel_rfl)
