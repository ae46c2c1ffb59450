import PyProof.Rows.All
import Wide.All
import OpenK.AllK
import Wide.FinOn
import Lean
import PyProof.EqAt
import PyProof.EqKinds
import PyProof.TupleCall
import PySem.Challenge.RW_easelroom_k24_what_tells_apart
set_option Elab.async false
set_option linter.all false
set_option maxRecDepth 100000
namespace L2
open PySem PySem.Spec PyProof.Rows
abbrev Key:=Sum Int Str
def keyIs:Key→Value→Bool
 | .inl k,v=>Value.isInt k v
 | .inr x,v=>Value.isStrOf x v
def keyH (w:World):Key→Int
 | .inl k=>hashInt k
 | .inr x=>hashStr w x
theorem cN:∀ {k:Key} {v:Value},keyIs k v=true→(∃ i t,k=Sum.inl i∧v=Value.int i t)∨(∃ x t,k=Sum.inr x∧v=Value.str x t)
 | .inl i,v,h=>by
  obtain ⟨t,e⟩:=Value.isInt_shape (k:=i) (v:=v) h
  exact .inl ⟨i,t,rfl,e⟩
 | .inr x,v,h=>by
  obtain ⟨t,e⟩:=Value.isStrOf_shape (x:=x) (v:=v) h
  exact .inr ⟨x,t,rfl,e⟩
theorem key_ll (a b:Int):decide ((Sum.inl a:Key)=Sum.inl b)=(a==b):=by
 by_cases e:a=b
 ·subst e;simp
 ·have h:¬ (Sum.inl a:Key)=Sum.inl b:=fun q=>e (Sum.inl.inj q)
  rw [decide_eq_false h]
  exact (beq_eq_false_iff_ne.mpr e).symm
theorem key_rr (a b:Str):decide ((Sum.inr a:Key)=Sum.inr b)=decide (a=b):=by
 by_cases e:a=b
 ·subst e;simp
 ·have h:¬ (Sum.inr a:Key)=Sum.inr b:=fun q=>e (Sum.inr.inj q)
  rw [decide_eq_false h,decide_eq_false e]
theorem key_lr (a:Int)(b:Str):decide ((Sum.inl a:Key)=Sum.inr b)=false:=decide_eq_false (fun q=>nomatch q)
theorem key_rl (a:Str)(b:Int):decide ((Sum.inr a:Key)=Sum.inl b)=false:=decide_eq_false (fun q=>nomatch q)
def mixKind (prog:Program)(w:World):PySem.KeyKind prog w Key where
 is:=keyIs
 hash:=keyH w
 inj:=fun v a b ha hb=>by
  rcases cN ha with ⟨i,t,rfl,rfl⟩ | ⟨x,t,rfl,rfl⟩
  ·rcases cN hb with ⟨j,u,rfl,e⟩ | ⟨y,u,rfl,e⟩
   ·injection e with e1 _;rw [e1]
   ·exact nomatch e
  ·rcases cN hb with ⟨j,u,rfl,e⟩ | ⟨y,u,rfl,e⟩
   ·exact nomatch e
   ·injection e with e1 _;rw [e1]
 byValue:=fun k v h=>by
  rcases cN h with ⟨i,t,rfl,rfl⟩ | ⟨x,t,rfl,rfl⟩ <;> rfl
 pyHash:=fun hv h=>by
  rcases cN hv with ⟨i,t,rfl,rfl⟩ | ⟨x,t,rfl,rfl⟩
  ·exact wpAny_pyHash_int h
  ·exact wpAny_pyHash_str h
 eqBool:=fun hu hv h=>by
  rcases cN hu with ⟨i,t,rfl,rfl⟩ | ⟨x,t,rfl,rfl⟩
  ·rcases cN hv with ⟨j,u,rfl,rfl⟩ | ⟨y,u,rfl,rfl⟩
   ·rw [key_ll] at h;exact wpAny_eqBool_int h
   ·rw [key_lr] at h;exact SeqAt.EqAt.int_str i t y u _ _ _ _ h
  ·rcases cN hv with ⟨j,u,rfl,rfl⟩ | ⟨y,u,rfl,rfl⟩
   ·rw [key_rl] at h;exact SeqAt.EqAt.str_int x t j u _ _ _ _ h
   ·rw [key_rr] at h;exact wpAny_eqBool_str h
 «strs»:=fun k x t v h=>by
  rcases cN h with ⟨i,u,rfl,e⟩ | ⟨y,u,rfl,e⟩
  ·exact nomatch e
  ·injection e with e1 _
   subst e1
   cases v <;> rfl
end L2
namespace L2
open PySem PySem.Spec PyProof.Rows
inductive V where
 | non | bl (b:Bool) | int (i:Int) | str (x:Str) | byt (b:Array UInt8) | flt (b:UInt64) | ref (a:Addr) | ty (n:String)
 deriving DecidableEq
def RelV:V→Value→Prop
 | .non,u=>u=Value.none
 | .bl b,u=>u=Value.bool b
 | .int i,u=>∃ t,u=Value.int i t
 | .str x,u=>∃ t,u=Value.str x t
 | .byt b,u=>∃ t,u=Value.bytes b t
 | .flt b,u=>∃ t,u=Value.float b t
 | .ref a,u=>u=Value.ref a
 | .ty n,u=>u=Value.type n
abbrev Vals:List V→List Value→Prop:=Paired RelV
theorem Vals.length {xs:List V}{us:List Value}(r:Vals xs us):xs.length=us.length:=Paired.length r
theorem Vals.get:∀ {xs:List V} {us:List Value} {i:Nat} {x:V},Vals xs us→xs[i]?=some x→∃ u,us[i]?=some u∧RelV x u
 | _,_,_,_,.nil,e=>by simp at e
 | _,_,0,_,.cons r _,e=>by simp at e;subst e;exact ⟨_,rfl,r⟩
 | _,_,i+1,x,.cons _ t,e=>by
  obtain ⟨u,h1,h2⟩:=Vals.get (i:=i) (x:=x) t (by simpa using e)
  exact ⟨u,by simpa using h1,h2⟩
theorem Vals.set {x:V}{u:Value}(r:RelV x u):∀ {xs:List V} {us:List Value} (i:Nat),Vals xs us→Vals (xs.set i x) (us.set i u)
 | _,_,_,.nil=>.nil
 | _,_,0,.cons _ t=>.cons r t
 | _,_,i+1,.cons q t=>.cons q (Vals.set r i t)
theorem Vals.append:∀ {xs ys:List V} {us ws:List Value},Vals xs us→Vals ys ws→Vals (xs++ys) (us++ws)
 | _,_,_,_,.nil,s=>s
 | _,_,_,_,.cons r t,s=>.cons r (Vals.append t s)
theorem Vals.take:∀ {xs:List V} {us:List Value} (n:Nat),Vals xs us→Vals (xs.take n) (us.take n)
 | _,_,0,_=>.nil
 | _,_,_+1,.nil=>.nil
 | _,_,n+1,.cons r t=>.cons r (Vals.take n t)
theorem Vals.drop:∀ {xs:List V} {us:List Value} (n:Nat),Vals xs us→Vals (xs.drop n) (us.drop n)
 | _,_,0,r=>r
 | _,_,_+1,.nil=>.nil
 | _,_,n+1,.cons _ t=>Vals.drop n t
def RelO:Option V→Option Value→Prop
 | some v,some u=>RelV v u
 | none,none=>True
 | _,_=>False
def KV {κ : Type}:List (κ×V)→List (κ×Value)→Prop:=Paired fun (p:κ×V) (q:κ×Value)=>p.1=q.1∧RelV p.2 q.2
def kV:Key→V
 | .inl i=>.int i
 | .inr x=>.str x
inductive HO where
 /-- a list -/
 | lst (xs:List V)
 /-- a tuple (never changes) -/
 | tup (xs:List V)
 /-- a dict whose keys are ints and texts; one whose keys are tuples of ints and texts (the empty one is both) -/
 | dK (kvs:List (Key×V)) | dT (kvs:List (List Key×V))
 /-- a set of ints: its members, its size -/
 | set (S:Int→Bool) (n:Nat)
 /-- an instance of the class at C, its dict at dx, its attributes -/
 | ins (C dx:Addr) (fs:List (Str×V))
 /-- the dict of the instance at x -/
 | own (x:Addr)
 /-- the dict of an exception -/
 | xd (fs:List (Str×V))
 /-- a bound method, f of x -/
 | met (f x:Addr)
 /-- a range object lo, lo + 1, .. below hi -/
 | rng (lo hi:Int)
 /-- a thing that is known to the object (the script; a dict while a loop walks it): read, never written while it is so -/
 | frz (o:Obj) (u:HO)
 /-- a code object's table -/
 | tbl (ps:Array Value)
 /-- any other thing, by what is true of its one object (a def of one's own: SetO a S n := HO.ext fun h => ..) -/
 | ext (φ : Heap→Prop)
abbrev Hp:=Addr→Option HO
def upd (H:Hp)(a:Addr)(o:HO):Hp:=fun b=>if b=a then some o else H b
theorem cL {H:Hp}{a:Addr}{o:HO}:upd H a o a=some o:=by unfold upd;rw [if_pos rfl]
theorem aZ {H:Hp}{a b:Addr}{o:HO}(h:b≠a):upd H a o b=H b:=by unfold upd;rw [if_neg h]
theorem bC {H:Hp}{a b:Addr}{o:HO}(h:H a=some o)(h':H b=none):a≠b:=by
 intro e;subst e;rw [h] at h';cases h'
section
variable (P:Program)(w:World)
def pU (H:Hp)(h:Heap)(a:Addr):HO→Prop
 | .lst xs=>xs.length≤sizeLine∧∃ (its:List Value) (n:Nat),Vals xs its∧h.get? a=some { cls:=.type "list",data:=.seq its.toArray n }
 | .tup xs=>xs.length≤sizeLine∧∃ its:List Value,Vals xs its∧IsTup h a its.toArray
 | .dK kvs=>kvs.length≤sizeLine∧(a==sysModules)=false∧∃ vs,KV kvs vs∧h.DictOf (mixKind P w) a vs
 | .dT kvs=>kvs.length≤sizeLine∧(a==sysModules)=false∧∃ xs:List (List Key×Addr×Value),
   Paired (fun (p:List Key×V) (q:List Key×Addr×Value)=>p.1=q.1∧H q.2.1=some (.tup (p.1.map kV))∧RelV p.2 q.2.2) kvs xs ∧
   ∃ o es ep,h.get? a=some o∧o.ExactDict∧o.data=.dict es ep∧es.toList=xs.map (entryOfKey (tupleKind (mixKind P w)))∧(xs.map (·.1)).Nodup
 | .set S n=>h.SetOf (intKind P w) a S n
 | .ins C dx fs=>H dx=some (.own a)∧fs.length≤1000∧dx≠a∧h.get? a=some (PySem.W.instObj C dx) ∧
   ∃ mA,h.Ns1 dx mA∧(∀ f,RelO (fs.lookup f) (mA f))∧PySem.Within mA (fs.map (·.1))
 | .own _=>∃ o,h.get? a=some o
 | .xd fs=>∃ mA,h.Ns1 a mA∧∀ f,RelO (fs.lookup f) (mA f)
 | .rng lo hi=>∃ t u v,h.get? a=some { cls:=.type "range",data:=.fields #[.int lo t,.int hi u,.int 1 v] }
 | .frz o u=>h.get? a=some o∧pU H h a u
 | .tbl ps=>h.get? a=some { cls:=.none,data:=.fields ps }
 | .met f x=>h.get? a=some (PySem.W.methodObj (.ref f) (.ref x))
 | .ext φ=>φ h∧(∃ o,h.get? a=some o)∧∀ h1 h2:Heap,φ h1→(∀ o,h1.get? a=some o→h2.get? a=some o)→φ h2
def HOk (H:Hp)(h:Heap):Prop:=∀ a o,H a=some o→pU P w H h a o
end
section
variable {P:Program}{w:World}{H H':Hp}{h h':Heap}{a:Addr}{o:HO}
theorem pU.lt (x:pU P w H h a o):a<h.objs.size:=by
 cases o with
 | lst xs=>obtain ⟨_,_,_,_,e⟩:=x;exact Heap.lt_size e
 | tup xs=>obtain ⟨_,_,_,p⟩:=x;exact p.lt
 | dK kvs=>obtain ⟨_,_,_,_,o,_,_,e,_⟩:=x;exact Heap.lt_size e
 | dT kvs=>obtain ⟨_,_,_,_,o,_,_,e,_⟩:=x;exact Heap.lt_size e
 | set S n=>obtain ⟨o,_,_,_,e,_⟩:=x;exact Heap.lt_size e
 | ins C dx fs=>obtain ⟨_,_,_,e,_⟩:=x;exact Heap.lt_size e
 | own y=>obtain ⟨_,e⟩:=x;exact Heap.lt_size e
 | xd fs=>obtain ⟨_,⟨_,_,_,e,_⟩,_⟩:=x;exact Heap.lt_size e
 | rng lo hi=>obtain ⟨_,_,_,e⟩:=x;exact Heap.lt_size e
 | frz ob u=>obtain ⟨e,_⟩:=x;exact Heap.lt_size e
 | tbl ps=>exact Heap.lt_size (show h.get? a=some _ from x)
 | met f y=>exact Heap.lt_size (show h.get? a=some _ from x)
 | ext φ=>obtain ⟨_,⟨_,e⟩,_⟩:=x;exact Heap.lt_size e
theorem Paired.mapP {α β : Type}{F G:α→β→Prop}:∀ {l₁ : List α} {l₂ : List β},Paired F l₁ l₂→(∀ a b,F a b→G a b)→Paired G l₁ l₂
 | _,_,.nil,_=>.nil
 | _,_,.cons r t,f=>.cons (f _ _ r) (Paired.mapP t f)
theorem pU.stay (x:pU P w H h a o)(k:∀ b u,(b=a∨H b=some (.own a))→h.get? b=some u→h'.get? b=some u)
  (ho:∀ b,H b=some (.own a)→H' b=some (.own a)) (ht:∀ b xs,H b=some (.tup xs)→H' b=some (.tup xs)):pU P w H' h' a o:=by
 induction o with
 | lst xs=>obtain ⟨z,its,n,r,e⟩:=x;exact ⟨z,its,n,r,k _ _ (.inl rfl) e⟩
 | tup xs=>obtain ⟨z,its,r,ob,e,c⟩:=x;exact ⟨z,its,r,ob,k _ _ (.inl rfl) e,c⟩
 | dK kvs=>obtain ⟨z,y,vs,r,ob,es,ep,e,c⟩:=x;exact ⟨z,y,vs,r,ob,es,ep,k _ _ (.inl rfl) e,c⟩
 | dT kvs=>
  obtain ⟨z,y,xs,r,ob,es,ep,e,c⟩:=x
  exact ⟨z,y,xs,Paired.mapP r fun p q z=>⟨z.1,ht _ _ z.2.1,z.2.2⟩,ob,es,ep,k _ _ (.inl rfl) e,c⟩
 | set S n=>obtain ⟨ob,es,ep,t,e,c⟩:=x;exact ⟨ob,es,ep,t,k _ _ (.inl rfl) e,c⟩
 | ins C dx fs=>
  obtain ⟨d,z,ne,e,mA,⟨od,es,ep,e2,c⟩,r⟩:=x
  exact ⟨ho _ d,z,ne,k _ _ (.inl rfl) e,mA,⟨od,es,ep,k _ _ (.inr d) e2,c⟩,r⟩
 | own y=>obtain ⟨ob,e⟩:=x;exact ⟨ob,k _ _ (.inl rfl) e⟩
 | xd fs=>obtain ⟨mA,⟨od,es,ep,e,c⟩,r⟩:=x;exact ⟨mA,⟨od,es,ep,k _ _ (.inl rfl) e,c⟩,r⟩
 | rng lo hi=>obtain ⟨t,u,v,e⟩:=x;exact ⟨t,u,v,k _ _ (.inl rfl) e⟩
 | frz ob u ih=>obtain ⟨e,q⟩:=x;exact ⟨k _ _ (.inl rfl) e,ih q⟩
 | tbl ps=>
  have e:h.get? a=some { cls:=.none,data:=.fields ps }:=x
  show h'.get? a=some { cls:=.none,data:=.fields ps }
  exact k a _ (.inl rfl) e
 | met f y=>
  have e:h.get? a=some (PySem.W.methodObj (.ref f) (.ref y)):=x
  show h'.get? a=some (PySem.W.methodObj (.ref f) (.ref y))
  exact k a _ (.inl rfl) e
 | ext φ=>obtain ⟨p,⟨o,e⟩,st⟩:=x;exact ⟨st _ _ p fun o q=>k _ _ (.inl rfl) q,⟨o,k _ _ (.inl rfl) e⟩,st⟩
theorem HOk.lt (x:HOk P w H h)(e:H a=some o):a<h.objs.size:=(x a o e).lt
theorem HOk.fresh (x:HOk P w H h)(e:h.objs.size≤a):H a=none:=by
 cases q:H a with
 | none=>rfl
 | some u=>exact absurd (Nat.lt_of_lt_of_le (x.lt q) e) (Nat.lt_irrefl _)
theorem HOk.kept (x:HOk P w H h)(k:∀ b u,h.get? b=some u→h'.get? b=some u):HOk P w H h':=fun a o e=>
 (x a o e).stay (fun b u _ q=>k b u q) (fun _ q=>q) fun _ _ q=>q
theorem HOk.laid (x:HOk P w H h)(k:∀ b u,h.get? b=some u→h'.get? b=some u)(hp:h.objs.size≤a)(new:pU P w (upd H a o) h' a o):HOk P w (upd H a o) h':=fun b u e=>by
 have hn:=x.fresh hp
 by_cases hb:b=a
 ·subst hb;rw [cL] at e;cases e;exact new
 ·rw [aZ hb] at e
  exact (x b u e).stay (fun c v _ q=>k c v q) (fun c q=>by rw [aZ (bC q hn)];exact q) fun c xs q=>by rw [aZ (bC q hn)];exact q
end
def Rd (H:Hp)(a:Addr)(u:HO):Prop:=H a=some u∨∃ o,H a=some (.frz o u)
theorem Rd.ok {P:Program}{w:World}{H:Hp}{h:Heap}{a:Addr}{u:HO}(r:Rd H a u)(x:HOk P w H h):pU P w H h a u:=by
 rcases r with r | ⟨o,r⟩
 ·exact x a u r
 ·obtain ⟨_,q⟩:=x a _ r
  exact q
def Mut:Option HO→Prop
 | some (.lst _)=>True
 | some (.dK _)=>True
 | some (.dT _)=>True
 | some (.set _ _)=>True
 | some (.ins _ _ _)=>True
 | some (.ext _)=>True
 | _=>False
section
variable {P:Program}{w:World}{H:Hp}{h h':Heap}{x e:Addr}{o':HO}
theorem HOk.write (ok:HOk P w H h)(mu:Mut (H x))(he:e=x∨H e=some (.own x))(k:∀ b u,b≠e→h.get? b=some u→h'.get? b=some u)(heo:∃ u,h'.get? e=some u)
  (new:pU P w (upd H x o') h' x o'):HOk P w (upd H x o') h':=fun b u q=>by
 have nown:∀ c y,H c=some (.own y)→c≠x:=fun c y r z=>by subst z;rw [r] at mu;exact mu
 have ntup:∀ c xs,H c=some (.tup xs)→c≠x:=fun c xs r z=>by subst z;rw [r] at mu;exact mu
 by_cases hb:b=x
 ·subst hb;rw [cL] at q;cases q;exact new
 ·rw [aZ hb] at q
  by_cases hbe:b=e
  ·have q':H b=some (.own x):=by
    rcases he with z | z
    ·exact absurd (hbe.trans z) hb
    ·rw [hbe];exact z
   rw [q] at q';cases q'
   obtain ⟨v,hv⟩:=heo
   exact ⟨v,by rw [hbe];exact hv⟩
  ·refine (ok b u q).stay (fun c v hc r=>k c v ?_ r) (fun c r=>by rw [aZ (nown c b r)];exact r) fun c xs r=>by rw [aZ (ntup c xs r)];exact r
   rcases hc with rfl | hc
   ·exact hbe
   ·rintro rfl
    rcases he with z | z
    ·exact nown c b hc z
    ·rw [hc] at z;cases z;exact hb rfl
end
structure Un (fs ex:List Addr) (H H':Hp) (h h':Heap):Prop where
 keep:∀ b o,h.get? b=some o→H b=none→b∉fs→b∉ex→h'.get? b=some o
 slot:∀ b o,h.get? b=some o→H b=none→b∈fs→b∉ex→∃ sl,h'.get? b=some { o with slots:=sl }
 free:∀ b o,h.get? b=some o→H b=none→b∉ex→H' b=none
 there:∀ b o,h.get? b=some o→b∉ex→∃ o',h'.get? b=some o'
 tups:∀ b xs,H b=some (.tup xs)→H' b=some (.tup xs)
 frzs:∀ b o u,H b=some (.frz o u)→H' b=some (.frz o u)
 tbls:∀ b ps,H b=some (.tbl ps)→∃ more,H' b=some (.tbl (ps++more))
section
variable {fs fs' ex ex':List Addr}{H H1 H2:Hp}{h h1 h2 h':Heap}{a x e:Addr}{o:HO}
theorem Un.any (u:Un fs ex H H1 h h1){b:Addr}{ob:Obj}(q:h.get? b=some ob)(n:H b=none)(hx:b∉ex):∃ sl,h1.get? b=some { ob with slots:=sl }:=by
 by_cases hb:b∈fs
 ·exact u.slot b ob q n hb hx
 ·exact ⟨ob.slots,u.keep b ob q n hb hx⟩
theorem Un.kept (k:∀ b u,h.get? b=some u→h'.get? b=some u):Un fs ex H H h h':=
 ⟨fun b ob q _ _ _=>k b ob q,fun b ob q _ _ _=>⟨ob.slots,k b ob q⟩,fun _ _ _ n _=>n,fun b ob q _=>⟨ob,k b ob q⟩,fun _ _ q=>q,fun _ _ _ q=>q,fun _ ps q=>⟨#[],by rw [q];simp⟩⟩
theorem Un.refl:Un fs ex H H h h:=Un.kept fun _ _ q=>q
theorem Un.laid (k:∀ b u,h.get? b=some u→h'.get? b=some u)(hp:h.objs.size≤a)(hn:H a=none):Un fs ex H (upd H a o) h h' where
 keep:=fun b u q _ _ _=>k b u q
 slot:=fun b u q _ _ _=>⟨u.slots,k b u q⟩
 free:=fun b u q n _=>by rw [aZ (Nat.ne_of_lt (Nat.lt_of_lt_of_le (Heap.lt_size q) hp))];exact n
 there:=fun b u q _=>⟨u,k b u q⟩
 tups:=fun b xs q=>by rw [aZ (bC q hn)];exact q
 frzs:=fun b u xs q=>by rw [aZ (bC q hn)];exact q
 tbls:=fun b ps q=>⟨#[],by rw [aZ (bC q hn),q];simp⟩
theorem Un.write (mu:Mut (H x))(he:e=x∨H e=some (.own x))(k:∀ b u,b≠e→h.get? b=some u→h'.get? b=some u)(heo:∃ u,h'.get? e=some u):Un fs ex H (upd H x o) h h':=by
 have hx:∀ b,H b=none→b≠x:=fun b n z=>by subst z;rw [n] at mu;exact mu
 have hb:∀ b,H b=none→b≠e:=fun b n z=>by
  subst z
  rcases he with r | r
  ·exact hx b n r
  ·rw [n] at r;cases r
 have hm:∀ b u,H b=some u→¬ Mut (some u)→b≠x:=fun b u q nm z=>by subst z;rw [q] at mu;exact nm mu
 refine ⟨fun b u q n _ _=>k b u (hb b n) q,fun b u q n _ _=>⟨u.slots,k b u (hb b n) q⟩,fun b u q n _=>by rw [aZ (hx b n)];exact n,fun b u q _=>?_,
  fun b xs q=>by rw [aZ (hm b _ q fun z=>z)];exact q,fun b u xs q=>by rw [aZ (hm b _ q fun z=>z)];exact q,fun b ps q=>⟨#[],by rw [aZ (hm b _ q fun z=>z),q];simp⟩⟩
 by_cases hbe:b=e
 ·subst hbe;exact heo
 ·exact ⟨u,k b u hbe q⟩
end
def trk (h:Heap)(H:Hp):List Addr:=(List.range h.objs.size).filter fun a=>(H a).isSome
def hidT (h:Heap)(H:Hp):Heap:=PySem.W.hideAll h (trk h H)
theorem hidT_size (h:Heap)(H:Hp):(hidT h H).objs.size=h.objs.size:=PySem.W.hideAll_size _ _
theorem hidT_get {h:Heap}{H:Hp}{b:Addr}{o:Obj}(e:h.get? b=some o)(n:H b=none):(hidT h H).get? b=some o:=
 PySem.W.hideAll_get _ e fun hm=>by
  have q:(H b).isSome=true:=(List.mem_filter.mp hm).2
  rw [n] at q;simp at q
theorem of_hidT {h:Heap}{H:Hp}{b:Addr}{o:Obj}(e:(hidT h H).get? b=some o):h.get? b=some o∧H b=none:=by
 have e':h.get? b=some o:=PySem.W.of_hideAll (trk h H) e
 refine ⟨e',?_⟩
 cases q:H b with
 | none=>rfl
 | some x=>
  have hm:b∈trk h H:=List.mem_filter.mpr ⟨List.mem_range.mpr (Heap.lt_size e'),by simp [q]⟩
  have z:(hidT h H).get? b=none:=PySem.W.hideAll_none (trk h H) hm
  rw [z] at e;cases e
def allNews (g h:Heap)(L:Addr):List (Addr×Obj):=(List.range h.objs.size).filterMap fun a=>if a=L∨(g.get? a).isSome=true then none else (h.get? a).map fun o=>(a,o)
def rest (g h:Heap)(L d:Addr):List (Addr×Obj):=(allNews g h L).filter fun p=>decide (p.1≠d)
end L2
namespace L2
open PySem PySem.Spec PyProof.Rows
structure Mod (K:PySem.W.Frag) (mg:Str→Option Value) (base:Heap):Prop where
 kin:K.In base
 glob:base.Ns mainGlobals mg
 blt:∃ mb,base.Ns builtinsNs mb∧∀ x:Str,x ≠ "__name__"→mb x=bootBuiltins x
 nolimit:base.NoLimit
structure Cx where
 prog:Program
 w:World
 K:PySem.W.Frag
 mg:Str→Option Value
 base:Heap
 A:Around
 N:List Str
 s₀ : Shared
 H₀ : Hp
 env:Env
 outer:List Env
 stack:List Env
 ex:List Addr
 fn:Str→Bool
 calm:Bool
 pn:List (Addr×Obj)
 xe:Value→Shared→Prop
def frs (l:List Env):List Addr:=l.filterMap (·.frame)
abbrev Cx.fs (X:Cx):List Addr:=frs X.outer
def Vis (sc:Scope)(x:Str):Prop:=sc.names.lookup x=some .local∨sc.names.lookup x=some .cell∨sc.names.lookup x=some .free
def Loc (sc:Scope)(x:Str):Prop:=sc.names.lookup x=some .local∨sc.names.lookup x=some .cell
def Look (env:Env)(h:Heap)(m:Str→Option Value)(x:Str)(u:Value):Prop:=
 (env.kindOf x=some .local∧m x=some u)∨((env.kindOf x=some .cell∨env.kindOf x=some .free)∧∃ c,env.cells.lookup x=some c∧h.IsCell c (some u))
def Still (H:Hp)(v:Value):Prop:=∃ (a:Addr) (o:Obj) (u:HO) (vs:Array Value),v=.ref a∧H a=some (.frz o u)∧o.data=.fields vs∧vs[2]?=some .none
def Quiet (A:Around)(H:Hp):Prop:=∀ v,A.handled=some v→Still H v
structure Cx.Ok (X:Cx):Prop where
 mod:Mod X.K X.mg X.base
 kind:X.env.scope.kind=.function
 glob:X.env.globals=mainGlobals
 blt:X.env.builtins=builtinsNs
 above:X.s₀.heap.objs.size≤X.env.locals
 inj:∀ x y c,X.env.cells.lookup x=some c→X.env.cells.lookup y=some c→x=y
 has:∀ x,(X.env.kindOf x=some .cell∨X.env.kindOf x=some .free)→∃ c,X.env.cells.lookup x=some c
 cab:∀ x c,X.fn x=true→X.env.cells.lookup x=some c→X.s₀.heap.objs.size≤c
 hd:X.calm=true→X.A.handled=none
 qt:Quiet X.A X.H₀
 frames:X.A.frames=some X.stack
 stk:X.stack=X.outer∨(X.stack=X.env::X.outer∧X.env.frame=some X.env.locals)
 exf:∀ b∈X.ex,b≠X.env.locals∧∀ x c,X.env.cells.lookup x=some c→c≠b
 bs:∀ b o,X.base.get? b=some o→X.s₀.heap.get? b=some o∧X.H₀ b=none
 bsz:X.base.objs.size≤X.s₀.heap.objs.size
 noex:∀ b o,X.base.get? b=some o→b∉X.ex
 exfs:∀ b∈X.ex,b∉X.fs
 funs:X.s₀.heap.FunFrames X.base X.outer
 frf:∀ b∈X.fs,X.H₀ b=none
structure Inv (X:Cx) (pins:List (Addr×Obj)) (σ : List (Option V)) (H:Hp) (s:Shared):Prop where
 ok:X.Ok
 os:s.os=X.s₀.os
 bare:AllBare s.gens
 base:Un X.fs X.ex X.H₀ H X.s₀.heap s.heap
 loc:∃ m,s.heap.Ns X.env.locals m∧∀ (i:Nat) (x:Str) (v:V),X.N[i]?=some x→σ[i]?=some (some v)→Vis X.env.scope x→∃ u,RelV v u∧Look X.env s.heap m x u
 cell:∀ x c,X.env.cells.lookup x=some c→∃ v,s.heap.IsCell c v
 free:H X.env.locals=none
 freeC:∀ x c,X.env.cells.lookup x=some c→H c=none
 pin:∀ p∈X.pn++pins,s.heap.get? p.1=some p.2∧H p.1=none∧p.1≠X.env.locals∧p.1∉X.fs∧∀ v,p.2.data≠.cell v
 hok:HOk X.prog X.w H s.heap
 len:σ.length=X.N.length
section
variable {X:Cx}{pins:List (Addr×Obj)}{σ : List (Option V)}{H H':Hp}{s:Shared}{h':Heap}
theorem Cx.Ok.nofr (ok:X.Ok){b:Addr}{o:Obj}(e:X.base.get? b=some o):b∉X.fs:=fun hb=>by
 have:=(ok.funs.mem hb).1
 rw [e] at this;cases this
theorem Inv.bs (I:Inv X pins σ H s):∀ b o,X.base.get? b=some o→s.heap.get? b=some o∧H b=none:=fun b o e=>
 ⟨I.base.keep b o (I.ok.bs b o e).1 (I.ok.bs b o e).2 (I.ok.nofr e) (I.ok.noex b o e),I.base.free b o (I.ok.bs b o e).1 (I.ok.bs b o e).2 (I.ok.noex b o e)⟩
theorem Inv.qt0 (I:Inv X pins σ H s):Quiet X.A H:=fun v e=>let ⟨a,o,u,vs,h1,h2,h3⟩:=I.ok.qt v e;⟨a,o,u,vs,h1,I.base.frzs a o u h2,h3⟩
theorem Inv.bk (I:Inv X pins σ H s):∀ b o,X.base.get? b=some o→s.heap.get? b=some o:=fun b o e=>(I.bs b o e).1
theorem Inv.mod (I:Inv X pins σ H s):Mod X.K X.mg X.base:=I.ok.mod
theorem Inv.kIn (I:Inv X pins σ H s):X.K.In s.heap:=I.ok.mod.kin.keeps I.bk
theorem Inv.lt (I:Inv X pins σ H s):X.env.locals<s.heap.objs.size:=let ⟨_,hn,_⟩:=I.loc;hn.lt
theorem Inv.sz (I:Inv X pins σ H s):X.s₀.heap.objs.size≤s.heap.objs.size:=Nat.le_trans I.ok.above (Nat.le_of_lt I.lt)
theorem Inv.nofs (I:Inv X pins σ H s){a:Addr}(h:s.heap.objs.size≤a):a∉X.fs:=fun hb=>by
 obtain ⟨_,o,ho,_⟩:=I.ok.funs.mem hb
 exact absurd (Nat.lt_of_lt_of_le (Heap.lt_size ho) (Nat.le_trans I.sz h)) (Nat.lt_irrefl _)
theorem Inv.cne (I:Inv X pins σ H s):∀ x c,X.env.cells.lookup x=some c→c≠X.env.locals:=fun x c e z=>by
 obtain ⟨v,o,ho,hd⟩:=I.cell x c e
 obtain ⟨m,⟨o',es,ep,ho',hd',_⟩,_⟩:=I.loc
 rw [z,ho'] at ho;cases ho;rw [hd'] at hd;cases hd
theorem Inv.funs (I:Inv X pins σ H s):s.heap.FunFrames X.base X.outer:=by
 have all:∀ (l:List Env),(∀ b∈frs l,b∈X.fs)→X.s₀.heap.FunFrames X.base l→s.heap.FunFrames X.base l:=by
  intro l
  induction l with
  | nil=>intro _ _;trivial
  | cons env r ih=>
   intro hs hl
   obtain ⟨hk,⟨L,o,hf,hn,ho,hd⟩,hr⟩:=hl
   have hL:L∈X.fs:=hs L (by unfold frs;rw [List.filterMap_cons,hf];exact List.mem_cons_self)
   obtain ⟨sl,e⟩:=I.base.slot L o ho (I.ok.frf L hL) hL fun z=>I.ok.exfs L z hL
   exact ⟨hk,⟨L,_,hf,hn,e,hd⟩,ih (fun b hb=>hs b (by unfold frs;rw [List.filterMap_cons,hf];exact List.mem_cons_of_mem _ hb)) hr⟩
 exact all X.outer (fun _ hb=>hb) I.ok.funs
theorem Inv.stack (I:Inv X pins σ H s):s.heap.FunFrames X.base X.stack:=by
 rcases I.ok.stk with e | ⟨e,hf⟩
 ·rw [e];exact I.funs
 ·rw [e]
  obtain ⟨m,hn,_⟩:=I.loc
  refine .cons (by rw [I.ok.kind];decide) hf hn ?_ I.funs
  exact Heap.get?_none_of_le (Nat.le_trans I.ok.bsz I.ok.above)
theorem Inv.stkSub (I:Inv X pins σ H s):∀ b∈frs X.stack,b∈X.env.locals::X.fs:=fun b hb=>by
 rcases I.ok.stk with e | ⟨e,hf⟩
 ·rw [e] at hb;exact List.mem_cons_of_mem _ hb
 ·rw [e] at hb
  unfold frs at hb
  rw [List.filterMap_cons,hf] at hb
  exact hb
theorem Inv.stkFree (I:Inv X pins σ H s):∀ b∈frs X.stack,H b=none:=fun b hb=>by
 rcases List.mem_cons.mp (I.stkSub b hb) with e | hb
 ·rw [e];exact I.free
 ·obtain ⟨_,o,ho,_⟩:=I.ok.funs.mem hb
  exact I.base.free b o ho (I.ok.frf b hb) fun z=>I.ok.exfs b z hb
theorem Inv.stepG {g':Array GenState}{t':Nat}{d':Drawn}{ch:List Addr}(I:Inv X pins σ H s)
  (hch:∀ b∈ch,(b∈X.ex∨X.s₀.heap.get? b=none)∧b≠X.env.locals∧(∀ x c,X.env.cells.lookup x=some c→c≠b)∧∀ p∈X.pn++pins,p.1≠b)
  (keep:∀ b o,b≠X.env.locals→b∉X.fs→b∉ch→s.heap.get? b=some o→H b=none→h'.get? b=some o)
  (slot:∀ b o,b≠X.env.locals→b∈X.fs→b∉ch→s.heap.get? b=some o→H b=none→∃ sl,h'.get? b=some { o with slots:=sl }) (free:∀ b o,b∉ch→s.heap.get? b=some o→H b=none→H' b=none)
  (there:∀ b o,b∉ch→s.heap.get? b=some o→∃ o',h'.get? b=some o')
  (tups:∀ b xs,H b=some (.tup xs)→H' b=some (.tup xs)) (frzs:∀ b o u,H b=some (.frz o u)→H' b=some (.frz o u)) (tbls:∀ b ps,H b=some (.tbl ps)→∃ more,H' b=some (.tbl (ps++more)))
  (ns:∀ m,s.heap.Ns X.env.locals m→h'.Ns X.env.locals m) (hok:HOk X.prog X.w H' h') (hg:AllBare g') :
  Inv X pins σ H' { s with heap:=h',gens:=g',drawn:=d',toks:=t' }:=by
 have neL:∀ b o,X.s₀.heap.get? b=some o→b≠X.env.locals:=fun b o e=>Nat.ne_of_lt (Nat.lt_of_lt_of_le (Heap.lt_size e) I.ok.above)
 have neC:∀ b o,X.s₀.heap.get? b=some o→b∉X.ex→b∉ch:=fun b o e hx hb=>by
  rcases (hch b hb).1 with z | z
  ·exact hx z
  ·rw [z] at e;cases e
 have cellK:∀ x c,X.env.cells.lookup x=some c→∀ v,s.heap.IsCell c v→h'.IsCell c v:=fun x c e v ⟨o,ho,hd⟩=>by
  have nch:c∉ch:=fun z=>(hch c z).2.2.1 x c e rfl
  by_cases hc:c∈X.fs
  ·obtain ⟨sl,q⟩:=slot c o (I.cne x c e) hc nch ho (I.freeC x c e)
   exact ⟨_,q,hd⟩
  ·exact ⟨o,keep c o (I.cne x c e) hc nch ho (I.freeC x c e),hd⟩
 refine ⟨I.ok,I.os,hg,⟨fun b o e n hb hx=>?_,fun b o e n hb hx=>?_,fun b o e n hx=>?_,fun b o e hx=>?_,fun b xs e=>tups b xs (I.base.tups b xs e),fun b o xs e=>frzs b o xs (I.base.frzs b o xs e),fun b ps e=>?_⟩,?_,fun x c e=>?_,?_,fun x c e=>?_,fun p hp=>?_,hok,I.len⟩
 ·exact keep b o (neL b o e) hb (neC b o e hx) (I.base.keep b o e n hb hx) (I.base.free b o e n hx)
 ·obtain ⟨sl,e1⟩:=I.base.slot b o e n hb hx
  obtain ⟨sl',e2⟩:=slot b _ (neL b o e) hb (neC b o e hx) e1 (I.base.free b o e n hx)
  exact ⟨sl',e2⟩
 ·obtain ⟨o',e1⟩:=I.base.there b o e hx
  exact free b o' (neC b o e hx) e1 (I.base.free b o e n hx)
 ·obtain ⟨o',e1⟩:=I.base.there b o e hx
  exact there b o' (neC b o e hx) e1
 ·obtain ⟨m1,e1⟩:=I.base.tbls b ps e
  obtain ⟨m2,e2⟩:=tbls b _ e1
  exact ⟨m1++m2,by rw [e2,Array.append_assoc]⟩
 ·obtain ⟨m,hn,hl⟩:=I.loc
  refine ⟨m,ns m hn,fun i x v e1 e2 e3=>?_⟩
  obtain ⟨u,r,l⟩:=hl i x v e1 e2 e3
  refine ⟨u,r,?_⟩
  rcases l with l | ⟨k,c,e,z⟩
  ·exact .inl l
  ·exact .inr ⟨k,c,e,cellK x c e _ z⟩
 ·obtain ⟨v,z⟩:=I.cell x c e
  exact ⟨v,cellK x c e v z⟩
 ·obtain ⟨m,⟨o,_,_,ho,_⟩,_⟩:=I.loc
  exact free _ o (fun z=>(hch _ z).2.1 rfl) ho I.free
 ·obtain ⟨v,o,ho,hd⟩:=I.cell x c e
  exact free c o (fun z=>(hch c z).2.2.1 x c e rfl) ho (I.freeC x c e)
 ·obtain ⟨e,n,ne,nf,d⟩:=I.pin p hp
  have nch:p.1∉ch:=fun z=>(hch p.1 z).2.2.2 p hp rfl
  exact ⟨keep p.1 p.2 ne nf nch e n,free p.1 p.2 nch e n,ne,nf,d⟩
theorem Inv.step {g':Array GenState}{t':Nat}{d':Drawn}{ch:List Addr}(I:Inv X pins σ H s)
  (hch:∀ b∈ch,(b∈X.ex∨X.s₀.heap.objs.size≤b)∧b≠X.env.locals∧(∀ x c,X.env.cells.lookup x=some c→c≠b)∧∀ p∈X.pn++pins,p.1≠b)
  (keep:∀ b o,b≠X.env.locals→b∉X.fs→b∉ch→s.heap.get? b=some o→H b=none→h'.get? b=some o)
  (slot:∀ b o,b≠X.env.locals→b∈X.fs→b∉ch→s.heap.get? b=some o→H b=none→∃ sl,h'.get? b=some { o with slots:=sl }) (free:∀ b o,b∉ch→s.heap.get? b=some o→H b=none→H' b=none)
  (there:∀ b o,b∉ch→s.heap.get? b=some o→∃ o',h'.get? b=some o')
  (tups:∀ b xs,H b=some (.tup xs)→H' b=some (.tup xs)) (frzs:∀ b o u,H b=some (.frz o u)→H' b=some (.frz o u)) (tbls:∀ b ps,H b=some (.tbl ps)→∃ more,H' b=some (.tbl (ps++more)))
  (ns:∀ m,s.heap.Ns X.env.locals m→h'.Ns X.env.locals m) (hok:HOk X.prog X.w H' h') (hg:AllBare g') :
  Inv X pins σ H' { s with heap:=h',gens:=g',drawn:=d',toks:=t' }:=
 I.stepG (ch:=ch) (fun b z=>⟨(hch b z).1.imp id fun q=>Heap.get?_none_of_le q,(hch b z).2⟩) keep slot free there tups frzs tbls ns hok hg
theorem Inv.un {t':Nat}(I:Inv X pins σ H s)(u:Un X.fs [] H H' s.heap h')(hok:HOk X.prog X.w H' h'):Inv X pins σ H' { s with heap:=h',toks:=t' }:=by
 obtain ⟨m,⟨o,es,ep,ho,r⟩,_⟩:=id I.loc
 obtain ⟨sl,hL⟩:=u.any ho I.free (by simp)
 exact I.step (g':=s.gens) (d':=s.drawn) (ch:=[]) (fun _ z=>nomatch z) (fun b o _ hb _ e n=>u.keep b o e n hb (by simp)) (fun b o _ hb _ e n=>u.slot b o e n hb (by simp)) (fun b o _ e n=>u.free b o e n (by simp)) (fun b o _ e=>u.there b o e (by simp)) u.tups u.frzs u.tbls (fun m' hm=>by
  obtain ⟨o',es',ep',ho',r'⟩:=hm
  rw [ho] at ho';cases ho'
  exact ⟨_,es',ep',hL,r'⟩) hok I.bare
theorem Inv.call {g':Array GenState}{t':Nat}{d':Drawn}{ch:List Addr}(I:Inv X pins σ H s)(u:Un (frs X.stack) ch H H' s.heap h')(hok:HOk X.prog X.w H' h')(hg:AllBare g')
  (hch:∀ b∈ch,(b∈X.ex∨X.s₀.heap.objs.size≤b)∧b≠X.env.locals∧(∀ x c,X.env.cells.lookup x=some c→c≠b)∧∀ p∈X.pn++pins,p.1≠b) :
  Inv X pins σ H' { s with heap:=h',gens:=g',drawn:=d',toks:=t' }:=by
 obtain ⟨m,⟨o,es,ep,ho,r⟩,_⟩:=id I.loc
 obtain ⟨sl,hL⟩:=u.any ho I.free fun z=>(hch _ z).2.1 rfl
 exact I.step (ch:=ch) hch (fun b o hL hb hc e n=>u.keep b o e n (fun z=>(List.mem_cons.mp (I.stkSub b z)).elim hL hb) hc) (fun b o _ _ hc e n=>u.any e n hc) (fun b o hc e n=>u.free b o e n hc) (fun b o hc e=>u.there b o e hc) u.tups u.frzs u.tbls (fun m' hm=>by
  obtain ⟨o',es',ep',ho',r'⟩:=hm
  rw [ho] at ho';cases ho'
  exact ⟨_,es',ep',hL,r'⟩) hok hg
theorem Inv.turned {t':Nat}{it:Addr}(I:Inv X pins σ H s)(k:∀ b o,b≠it→s.heap.get? b=some o→h'.get? b=some o)(hn:H it=none)(hL:it≠X.env.locals)
  (h1:it∈X.ex∨X.s₀.heap.objs.size≤it) (h2:∀ x c,X.env.cells.lookup x=some c→c≠it) (h3:∀ p∈X.pn++pins,p.1≠it):Inv X pins σ H { s with heap:=h',toks:=t' }:=by
 have nit:∀ b u,H b=some u→b≠it:=fun b u e z=>by rw [z,hn] at e;cases e
 refine I.step (g':=s.gens) (d':=s.drawn) (ch:=[it]) (fun b hb=>?_) (fun b o _ _ hc e _=>k b o (fun z=>hc (by simp [z])) e) (fun b o _ _ hc e _=>⟨o.slots,k b o (fun z=>hc (by simp [z])) e⟩) (fun _ _ _ _ n=>n)
  (fun b o hc e=>⟨o,k b o (fun z=>hc (by simp [z])) e⟩) (fun _ _ e=>e) (fun _ _ _ e=>e) (fun b ps e=>⟨#[],by rw [e];simp⟩) (fun m hm=>?_) (fun b u e=>?_) I.bare
 ·have e:b=it:=by simpa using hb
  subst e
  exact ⟨h1,hL,h2,h3⟩
 ·obtain ⟨o,es,ep,ho,r⟩:=hm
  exact ⟨o,es,ep,k _ o (Ne.symm hL) ho,r⟩
 ·refine (I.hok b u e).stay (fun c v hc q=>k c v ?_ q) (fun _ q=>q) fun _ _ q=>q
  rcases hc with z | z
  ·rw [z];exact nit b u e
  ·exact nit c _ z
theorem Inv.tok (I:Inv X pins σ H s)(t:Nat):Inv X pins σ H { s with toks:=t }:=I.un (h':=s.heap) (t':=t) Un.refl I.hok
theorem Inv.kept {t':Nat}(I:Inv X pins σ H s)(k:∀ b u,s.heap.get? b=some u→h'.get? b=some u):Inv X pins σ H { s with heap:=h',toks:=t' }:=I.un (Un.kept k) (I.hok.kept k)
theorem Inv.laid {a:Addr}{o:HO}{t':Nat}(I:Inv X pins σ H s)(k:∀ b u,s.heap.get? b=some u→h'.get? b=some u)(hp:s.heap.objs.size≤a)(new:pU X.prog X.w (upd H a o) h' a o) :
  Inv X pins σ (upd H a o) { s with heap:=h',toks:=t' }:=I.un (Un.laid k hp (I.hok.fresh hp)) (I.hok.laid k hp new)
theorem Inv.write {x e:Addr}{o:HO}{t':Nat}(I:Inv X pins σ H s)(mu:Mut (H x))(he:e=x∨H e=some (.own x))(k:∀ b u,b≠e→s.heap.get? b=some u→h'.get? b=some u)(heo:∃ u,h'.get? e=some u)
  (new:pU X.prog X.w (upd H x o) h' x o):Inv X pins σ (upd H x o) { s with heap:=h',toks:=t' }:=I.un (Un.write mu he k heo) (I.hok.write mu he k heo new)
theorem Inv.weak {σ':List (Option V)}(I:Inv X pins σ H s)(hl:σ'.length = σ.length)(w:∀ (i:Nat) v,σ'[i]?=some (some v)→σ[i]?=some (some v)):Inv X pins σ' H s:=
 ⟨I.ok,I.os,I.bare,I.base,let ⟨m,hn,hl'⟩:=I.loc;⟨m,hn,fun i x v e1 e2 e3=>hl' i x v e1 (w i v e2) e3⟩,I.cell,I.free,I.freeC,I.pin,I.hok,hl.trans I.len⟩
theorem Inv.pins_of {pins':List (Addr×Obj)}(I:Inv X pins σ H s)(h:∀ p∈pins',s.heap.get? p.1=some p.2∧H p.1=none∧p.1≠X.env.locals∧p.1∉X.fs∧∀ v,p.2.data≠.cell v):Inv X pins' σ H s:=
 ⟨I.ok,I.os,I.bare,I.base,I.loc,I.cell,I.free,I.freeC,fun p hp=>(List.mem_append.mp hp).elim (fun z=>I.pin p (List.mem_append_left _ z)) (h p),I.hok,I.len⟩
theorem nodup_ix {N:List Str}(hN:N.Nodup){i j:Nat}{x:Str}(a:N[i]?=some x)(b:N[j]?=some x):i=j:=by
 obtain ⟨h1,e1⟩:=List.getElem?_eq_some_iff.mp a
 obtain ⟨h2,e2⟩:=List.getElem?_eq_some_iff.mp b
 exact (List.getElem_inj hN).mp (e1.trans e2.symm)
theorem zO {M:Model}{A:Around}{E:Value→Shared→Prop}{i:Nat}{x:Str}{v:V}{u:Value}{Q:Unit→Shared→Prop}(I:Inv X pins σ H s)(hN:X.N.Nodup)(hi:X.N[i]?=some x)(hx:Loc X.env.scope x)(r:RelV v u)
  (h:∀ s',Inv X pins (σ.set i (some v)) H s'→(∃ a,Heap.SameBut a s.heap s'.heap∧(a=X.env.locals∨X.env.cells.lookup x=some a))→Q () s') (hf:X.fn x=true∨X.env.scope.names.lookup x=some .local:=by first | exact .inl rfl | exact .inr rfl | assumption):wpAny M A (storeName X.env x u) Q E s:=by
 obtain ⟨m,hn,hl⟩:=id I.loc
 have hcls:(X.env.scope.kind==.class||(X.env.scope.kind==.module&&X.env.locals != X.env.globals))=false:=by rw [I.ok.kind];rfl
 have hiσ : i < σ.length:=by rw [I.len];exact (List.getElem?_eq_some_iff.mp hi).1
 have cne:=I.cne
 have tracked:∀ {a:Addr} {h':Heap},(∃ o,s.heap.get? a=some o∧H a=none)→Heap.SameBut a s.heap h'→HOk X.prog X.w H h':=fun {a h'} ha hs b ob e=>by
  obtain ⟨_,_,hfree⟩:=ha
  refine (I.hok b ob e).stay (fun c w' hc q=>(hs.2 c ?_).trans q) (fun _ q=>q) fun _ _ q=>q
  rintro rfl
  rcases hc with rfl | hc
  ·rw [hfree] at e;cases e
  ·rw [hfree] at hc;cases hc
 rcases hx with hk | hk
 ·refine wpAny_storeName_local hk hn (fun h' hn' hs=>?_) hcls
  obtain ⟨oL,_,_,hoL,_⟩:=id hn
  refine h _ ⟨I.ok,I.os,I.bare,⟨fun b o e n hb hx=>?_,fun b o e n hb hx=>?_,I.base.free,fun b o e hx=>?_,I.base.tups,I.base.frzs,I.base.tbls⟩,⟨_,hn',fun j y v' e1 e2 e3=>?_⟩,fun y c e=>?_,I.free,I.freeC,fun p hp=>?_,tracked ⟨oL,hoL,I.free⟩ hs,by simpa using I.len⟩ ⟨_,hs,.inl rfl⟩
  ·exact (hs.2 b (Nat.ne_of_lt (Nat.lt_of_lt_of_le (Heap.lt_size e) I.ok.above))).trans (I.base.keep b o e n hb hx)
  ·obtain ⟨sl,e1⟩:=I.base.slot b o e n hb hx
   exact ⟨sl,(hs.2 b (Nat.ne_of_lt (Nat.lt_of_lt_of_le (Heap.lt_size e) I.ok.above))).trans e1⟩
  ·obtain ⟨o',e1⟩:=I.base.there b o e hx
   exact ⟨o',(hs.2 b (Nat.ne_of_lt (Nat.lt_of_lt_of_le (Heap.lt_size e) I.ok.above))).trans e1⟩
  ·by_cases hj:j=i
   ·subst hj
    rw [hi] at e1;cases e1
    rw [List.getElem?_set_self hiσ] at e2
    cases e2
    exact ⟨u,r,.inl ⟨hk,by simp⟩⟩
   ·rw [List.getElem?_set_ne (Ne.symm hj)] at e2
    obtain ⟨u',r',q⟩:=hl j y v' e1 e2 e3
    refine ⟨u',r',?_⟩
    rcases q with ⟨k,e⟩ | ⟨k,c,e,z⟩
    ·refine .inl ⟨k,?_⟩
     have:y≠x:=fun e=>hj (nodup_ix hN e1 (e ▸ hi))
     simp [this,e]
    ·exact .inr ⟨k,c,e,z.sameBut hs (cne y c e)⟩
  ·obtain ⟨w',z⟩:=I.cell y c e
   exact ⟨w',z.sameBut hs (cne y c e)⟩
  ·obtain ⟨e,n,ne,nf,d⟩:=I.pin p hp
   exact ⟨(hs.2 p.1 ne).trans e,n,ne,nf,d⟩
 ·have hfn:X.fn x=true:=by
   rcases hf with z | z
   ·exact z
   ·rw [z] at hk;cases hk
  obtain ⟨c,hc⟩:=I.ok.has x (.inl hk)
  obtain ⟨w',z⟩:=I.cell x c hc
  refine wpAny_storeName_cell I.ok.kind hk hc z (fun h' hc' hs=>?_)
  obtain ⟨oc,hoc,hocd⟩:=id z
  refine h { s with heap:=h' } ⟨I.ok,I.os,I.bare,⟨fun b o e n hb hx=>?_,fun b o e n hb hx=>?_,I.base.free,fun b o e hx=>?_,I.base.tups,I.base.frzs,I.base.tbls⟩,⟨m,hn.sameBut hs (Ne.symm (cne x c hc)),fun j y v' e1 e2 e3=>?_⟩,fun y c' e=>?_,I.free,I.freeC,fun p hp=>?_,tracked ⟨oc,hoc,I.freeC x c hc⟩ hs,by simpa using I.len⟩ ⟨c,hs,.inr hc⟩
  ·exact (hs.2 b (Nat.ne_of_lt (Nat.lt_of_lt_of_le (Heap.lt_size e) (I.ok.cab x c hfn hc)))).trans (I.base.keep b o e n hb hx)
  ·obtain ⟨sl,e1⟩:=I.base.slot b o e n hb hx
   exact ⟨sl,(hs.2 b (Nat.ne_of_lt (Nat.lt_of_lt_of_le (Heap.lt_size e) (I.ok.cab x c hfn hc)))).trans e1⟩
  ·obtain ⟨o',e1⟩:=I.base.there b o e hx
   exact ⟨o',(hs.2 b (Nat.ne_of_lt (Nat.lt_of_lt_of_le (Heap.lt_size e) (I.ok.cab x c hfn hc)))).trans e1⟩
  ·by_cases hj:j=i
   ·subst hj
    rw [hi] at e1;cases e1
    rw [List.getElem?_set_self hiσ] at e2
    cases e2
    exact ⟨u,r,.inr ⟨.inl hk,c,hc,hc'⟩⟩
   ·rw [List.getElem?_set_ne (Ne.symm hj)] at e2
    obtain ⟨u',r',q⟩:=hl j y v' e1 e2 e3
    refine ⟨u',r',?_⟩
    rcases q with q | ⟨k,c',e,z'⟩
    ·exact .inl q
    ·refine .inr ⟨k,c',e,z'.sameBut hs ?_⟩
     rintro rfl
     exact hj (nodup_ix hN e1 (I.ok.inj _ _ _ e hc ▸ hi))
  ·by_cases hcc:c'=c
   ·subst hcc;exact ⟨_,hc'⟩
   ·obtain ⟨w2,z2⟩:=I.cell y c' e
    exact ⟨w2,z2.sameBut hs hcc⟩
  ·obtain ⟨e,n,ne,nf,d⟩:=I.pin p hp
   refine ⟨(hs.2 p.1 ?_).trans e,n,ne,nf,d⟩
   intro q
   rw [q,hoc] at e
   have q':oc=p.2:=Option.some.inj e
   exact d w' (by rw [←q'];exact hocd)
theorem rT {M:Model}{A:Around}{E:Value→Shared→Prop}{i:Nat}{x:Str}{v:V}{u:Value}{Q:Unit→Shared→Prop}(I:Inv X pins σ H s)(hN:X.N.Nodup)(hi:X.N[i]?=some x)(hx:Loc X.env.scope x)(r:RelV v u)
  (h:∀ s',Inv X pins (σ.set i (some v)) H s'→Q () s') (hf:X.fn x=true∨X.env.scope.names.lookup x=some .local:=by first | exact .inl rfl | exact .inr rfl | assumption):wpAny M A (storeName X.env x u) Q E s:=
 zO I hN hi hx r (fun s' I' _=>h s' I') hf
theorem Inv.call' {s':Shared}{ch:List Addr}(I:Inv X pins σ H s)(ho:s'.os=s.os)(u:Un (frs X.stack) ch H H' s.heap s'.heap)(hok:HOk X.prog X.w H' s'.heap)(hg:AllBare s'.gens)
  (hch:∀ b∈ch,(b∈X.ex∨X.s₀.heap.objs.size≤b)∧b≠X.env.locals∧(∀ x c,X.env.cells.lookup x=some c→c≠b)∧∀ p∈X.pn++pins,p.1≠b):Inv X pins σ H' s':=by
 obtain ⟨h',g',d',t',o'⟩:=s'
 have e:o'=s.os:=ho
 subst e
 exact I.call (g':=g') (t':=t') (d':=d') u hok hg hch
end
abbrev XK:=Value→Option Addr→Hp→Prop
abbrev St:=List (Option V)
abbrev VK:=V→Hp→Prop
abbrev TE:=St→Hp→VK→Prop
abbrev TT:=St→Hp→(Bool→Hp→Prop)→Prop
abbrev TA:=St→Hp→(List V→Hp→Prop)→Prop
structure Ends where
 nx:St→Hp→Prop
 rt:VK
 bk:St→Hp→Prop:=fun _ _=>False
 ct:St→Hp→Prop:=fun _ _=>False
abbrev TS:=Ends→St→Hp→Prop
def EP (X:Cx)(pins:List (Addr×Obj))(σ : St)(Q:VK)(u:Value)(s':Shared):Prop:=∃ v H',Inv X pins σ H' s'∧RelV v u∧Q v H'
def TP (X:Cx)(pins:List (Addr×Obj))(σ : St)(Q:Bool→Hp→Prop)(b:Bool)(s':Shared):Prop:=∃ H',Inv X pins σ H' s'∧Q b H'
def AP (X:Cx)(pins:List (Addr×Obj))(σ : St)(Q:List V→Hp→Prop)(us:List Value)(s':Shared):Prop:=∃ vs H',Inv X pins σ H' s'∧Vals vs us∧Q vs H'
def SP (X:Cx)(pins:List (Addr×Obj))(D:Ends)(f:Flow)(s':Shared):Prop:=
 match f with
 | .next=>∃ σ' H',Inv X pins σ' H' s'∧D.nx σ' H'
 | .brk=>∃ σ' H',Inv X pins σ' H' s'∧D.bk σ' H'
 | .cont=>∃ σ' H',Inv X pins σ' H' s'∧D.ct σ' H'
 | .ret u=>∃ v σ' H',Inv X pins σ' H' s'∧RelV v u∧D.rt v H'
def PE (X:Cx)(e:Expr)(t:TE):Prop:=
 ∀ (pins:List (Addr×Obj)) (s:Shared) (σ : St) (H:Hp) (Q:VK),Inv X pins σ H s→t σ H Q→wpAny (model X.prog X.w) X.A (eval e X.env) (EP X pins σ Q) X.xe s
def PT (X:Cx)(e:Expr)(t:TT):Prop:=
 ∀ (pins:List (Addr×Obj)) (s:Shared) (σ : St) (H:Hp) (Q:Bool→Hp→Prop),Inv X pins σ H s→t σ H Q→wpAny (model X.prog X.w) X.A (isTrue e X.env (eval e X.env)) (TP X pins σ Q) X.xe s
def PW (X:Cx)(e:Expr)(t:TT):Prop:=
 ∀ (whole:Sem Value) (pins:List (Addr×Obj)) (s:Shared) (σ : St) (H:Hp) (Q:Bool→Hp→Prop),Inv X pins σ H s→t σ H Q→wpAny (model X.prog X.w) X.A (isTrue e X.env whole) (TP X pins σ Q) X.xe s
theorem PW.pt {X:Cx}{e:Expr}{t:TT}(h:PW X e t):PT X e t:=h _
def PA (X:Cx)(es:List Expr)(t:TA):Prop:=
 ∀ (pos:Pos) (pins:List (Addr×Obj)) (s:Shared) (σ : St) (H:Hp) (Q:List V→Hp→Prop),Inv X pins σ H s→t σ H Q→wpAny (model X.prog X.w) X.A (spliced (backTo pos (starEach es X.env))) (AP X pins σ Q) X.xe s
def PS (X:Cx)(st:Stmt)(t:TS):Prop:=
 ∀ (pins:List (Addr×Obj)) (s:Shared) (σ : St) (H:Hp) (D:Ends),Inv X pins σ H s→t D σ H→wpAny (model X.prog X.w) X.A (exec st X.env) (SP X pins D) X.xe s
def PSs (X:Cx)(st:List Stmt)(t:TS):Prop:=
 ∀ (pins:List (Addr×Obj)) (s:Shared) (σ : St) (H:Hp) (D:Ends),Inv X pins σ H s→t D σ H→wpAny (model X.prog X.w) X.A (execs st X.env) (SP X pins D) X.xe s
theorem thn {α : Type}{t:Sem α}{Q Q':α→Shared→Prop}{M:Model}{A:Around}{E:Value→Shared→Prop}{s:Shared}(h:wpAny M A t Q E s)(hQ:∀ a s,Q a s→Q' a s):wpAny M A t Q' E s:=wpAny_mono h hQ fun _ _ x=>x
end L2
namespace L2
open PySem PySem.Spec PyProof.Rows
section
variable {X:Cx}
def tVar (i:Nat):TE:=fun σ H Q=>∃ v,σ[i]?=some (some v)∧Q v H
def tC (v:V):TE:=fun _ H Q=>Q v H
theorem pe_var {i:Nat}{x:Str}{pos:Pos}(hN:X.N[i]?=some x)(hv:Vis X.env.scope x)(hd:(x==("__debug__" : Str))=false:=by decide)(hcd:(x==("__classdict__" : Str))=false:=by decide):PE X (.Name x pos) (tVar i):=by
 intro pins s σ H Q I h
 obtain ⟨v,e,h⟩:=h
 obtain ⟨m,hn,hl⟩:=I.loc
 obtain ⟨u,r,l⟩:=hl i x v hN e hv
 have fin:EP X pins σ Q u s:=⟨v,H,I,r,h⟩
 rcases l with ⟨hk,hm⟩ | ⟨hk,c,hc,hcell⟩
 ·exact wpAny_Name (wpAny_loadName_local I.ok.kind hk hn hm fin) hd
 ·rcases hk with hk | hk
  ·exact wpAny_Name (wpAny_loadName_cell I.ok.kind hk hc hcell fin) hd
  ·exact wpAny_Name (wpAny_loadName_free I.ok.kind hk hc hcell fin hcd) hd
theorem pe_int {i j pos}:PE X (.Constant (.int i) j pos) (tC (.int i)):=fun _ _ _ H _ I h=>wpAny_Constant_int ⟨.int i,H,I.tok _,⟨_,rfl⟩,h⟩
theorem pe_bl {b j pos}:PE X (.Constant (.bool b) j pos) (tC (.bl b)):=fun _ _ _ H _ I h=>Constant_bool ⟨.bl b,H,I,rfl,h⟩
theorem pe_non {j pos}:PE X (.Constant .none j pos) (tC .non):=fun _ _ _ H _ I h=>Constant_none ⟨.non,H,I,rfl,h⟩
theorem pe_str {x j pos}:PE X (.Constant (.str x) j pos) (tC (.str x)):=fun _ _ _ H _ I h=>Calls.Constant_str ⟨.str x,H,I.tok _,⟨_,rfl⟩,h⟩
def Gl (X:Cx)(x:Str):Prop:=X.env.kindOf x=some .globalImplicit
theorem ld_glob {E:Value→Shared→Prop}{pins:List (Addr×Obj)}{s:Shared}{σ : St}{H:Hp}{x:Str}{u:Value}{pos:Pos}{Q:Value→Shared→Prop}(I:Inv X pins σ H s)(hg:Gl X x)(hm:X.mg x=some u)(h:Q u s)
  (hd:(x==("__debug__" : Str))=false:=by decide):wpAny (model X.prog X.w) X.A (eval (.Name x pos) X.env) Q E s:=
 Calls.Name_function_global I.ok.kind hg (Calls.loadGlobal_global (by rw [I.ok.glob];exact I.mod.glob.keeps I.bk) hm h) hd
theorem tY {E:Value→Shared→Prop}{pins:List (Addr×Obj)}{s:Shared}{σ : St}{H:Hp}{x:Str}{u:Value}{pos:Pos}{Q:Value→Shared→Prop}(I:Inv X pins σ H s)(hg:Gl X x)(hm:X.mg x=none)(hv:bootBuiltins x=some u)(h:Q u s)
  (hn:x ≠ "__name__":=by decide) (hd:(x==("__debug__" : Str))=false:=by decide):wpAny (model X.prog X.w) X.A (eval (.Name x pos) X.env) Q E s:=by
 obtain ⟨mb,h1,h2⟩:=I.mod.blt
 exact Calls.Name_function_global I.ok.kind hg (Calls.loadGlobal_builtin (by rw [I.ok.glob];exact I.mod.glob.keeps I.bk) hm (by rw [I.ok.blt];exact h1.keeps I.bk) ((h2 x hn).trans hv) h) hd
theorem pe_glob {x:Str}{v:V}{u:Value}{pos:Pos}(hg:Gl X x)(hm:X.mg x=some u)(r:RelV v u)(hd:(x==("__debug__" : Str))=false:=by decide):PE X (.Name x pos) (tC v):=
 fun _ _ _ H _ I h=>ld_glob I hg hm ⟨v,H,I,r,h⟩ hd
theorem pe_bltn {x:Str}{v:V}{u:Value}{pos:Pos}(hg:Gl X x)(hm:X.mg x=none)(hv:bootBuiltins x=some u)(r:RelV v u)(hn:x ≠ "__name__":=by decide)(hd:(x==("__debug__" : Str))=false:=by decide):PE X (.Name x pos) (tC v):=
 fun _ _ _ H _ I h=>tY I hg hm hv ⟨v,H,I,r,h⟩ hn hd
variable {a b:Expr}{ta tb:TE}{pos:Pos}
variable {tA tB':TT}{rest:List Expr}
def tAnd (t u:TT):TT:=fun σ H Q=>t σ H fun c H1=>if c=true then u σ H1 Q else Q false H1
def tOr (t u:TT):TT:=fun σ H Q=>t σ H fun c H1=>if c=true then Q true H1 else u σ H1 Q
def tNot (t:TT):TT:=fun σ H Q=>t σ H fun c H1=>Q (!c) H1
theorem pw_and1 (ha:PT X a tA):PW X (.BoolOp .And [a] pos) tA:=by
 intro wh pins s σ H Q I h
 refine isTrue_and (thn (ha pins s σ H Q I h) fun c s1 e=>?_)
 cases c with
 | true=>exact isTrue_and_nil e
 | false=>exact e
theorem pw_or1 (ha:PT X a tA):PW X (.BoolOp .Or [a] pos) tA:=by
 intro wh pins s σ H Q I h
 refine isTrue_or (thn (ha pins s σ H Q I h) fun c s1 e=>?_)
 cases c with
 | false=>exact isTrue_or_nil e
 | true=>exact e
theorem pw_and (ha:PT X a tA)(hb:PW X (.BoolOp .And (b::rest) pos) tB'):PW X (.BoolOp .And (a::b::rest) pos) (tAnd tA tB'):=by
 intro wh pins s σ H Q I h
 refine isTrue_and (thn (ha pins s σ H _ I h) fun c s1 ⟨H1,I1,q1⟩=>?_)
 cases c with
 | true=>exact hb wh pins s1 σ H1 Q I1 q1
 | false=>exact ⟨H1,I1,q1⟩
theorem pw_or (ha:PT X a tA)(hb:PW X (.BoolOp .Or (b::rest) pos) tB'):PW X (.BoolOp .Or (a::b::rest) pos) (tOr tA tB'):=by
 intro wh pins s σ H Q I h
 refine isTrue_or (thn (ha pins s σ H _ I h) fun c s1 ⟨H1,I1,q1⟩=>?_)
 cases c with
 | true=>exact ⟨H1,I1,q1⟩
 | false=>exact hb wh pins s1 σ H1 Q I1 q1
theorem pt_not (ha:PT X a tA):PT X (.UnaryOp .Not a pos) (tNot tA):=by
 intro pins s σ H Q I h
 exact isTrue_not (ha pins s σ H (fun c H1=>Q (!c) H1) I h)
def tAndV (ta tb:TE):TE:=fun σ H Q=>ta σ H fun x H1=>∃ c,x=.bl c∧if c=true then tb σ H1 Q else Q (.bl false) H1
def tOrV (ta tb:TE):TE:=fun σ H Q=>ta σ H fun x H1=>∃ c,x=.bl c∧if c=true then Q (.bl true) H1 else tb σ H1 Q
theorem pe_one {op}{t:TE}(h:PE X a t):PE X (.BoolOp op [a] pos) t:=fun pins s σ H Q I hw=>BoolOp_one (h pins s σ H Q I hw)
theorem pe_and (ha:PE X a ta)(hb:PE X (.BoolOp .And (b::rest) pos) tb):PE X (.BoolOp .And (a::b::rest) pos) (tAndV ta tb):=by
 intro pins s σ H Q I h
 refine BoolOp_and (thn (ha pins s σ H _ I h) fun v s1 ⟨x,H1,I1,r1,q1⟩=>?_)
 obtain ⟨c,rfl,q1⟩:=q1
 cases r1
 refine wpAny_truthy_bool ?_
 cases c with
 | true=>exact hb pins s1 σ H1 Q I1 q1
 | false=>exact ⟨.bl false,H1,I1,rfl,q1⟩
theorem pe_or (ha:PE X a ta)(hb:PE X (.BoolOp .Or (b::rest) pos) tb):PE X (.BoolOp .Or (a::b::rest) pos) (tOrV ta tb):=by
 intro pins s σ H Q I h
 refine BoolOp_or (thn (ha pins s σ H _ I h) fun v s1 ⟨x,H1,I1,r1,q1⟩=>?_)
 obtain ⟨c,rfl,q1⟩:=q1
 cases r1
 refine wpAny_truthy_bool ?_
 cases c with
 | false=>exact hb pins s1 σ H1 Q I1 q1
 | true=>exact ⟨.bl true,H1,I1,rfl,q1⟩
def tIf (t:TT)(ta tb:TE):TE:=fun σ H Q=>t σ H fun c H1=>if c=true then ta σ H1 Q else tb σ H1 Q
theorem pe_ifExp {c:Expr}(hc:PT X c tA)(ha:PE X a ta)(hb:PE X b tb):PE X (.IfExp c a b pos) (tIf tA ta tb):=by
 intro pins s σ H Q I h
 refine wpAny_IfExp (thn (hc pins s σ H _ I h) fun d s1 ⟨H1,I1,q1⟩=>?_)
 cases d with
 | true=>exact ha pins s1 σ H1 Q I1 q1
 | false=>exact hb pins s1 σ H1 Q I1 q1
end
end L2
namespace L2
open PySem PySem.Spec PyProof.Rows
def SqL (K:PySem.W.Frag)(H:Hp)(a:Addr)(xs:List V):Prop:=
 Rd H a (.lst xs) ∨
  ∃ (o:Obj) (its:Array Value) (n:Nat),K.lookup a=some o∧o.cls=.type "list"∧o.dict=none∧o.data=.seq its n∧its.size≤sizeLine∧Vals xs its.toList
def SqT (K:PySem.W.Frag)(H:Hp)(a:Addr)(xs:List V):Prop:=
 Rd H a (.tup xs) ∨
  ∃ (o:Obj) (its:Array Value) (n:Nat),K.lookup a=some o∧o.cls=.type "tuple"∧o.data=.seq its n∧its.size≤sizeLine∧Vals xs its.toList
def absV:Value→Option V
 | .none=>some .non
 | .bool b=>some (.bl b)
 | .int i _=>some (.int i)
 | .str x _=>some (.str x)
 | .bytes b _=>some (.byt b)
 | .float b _=>some (.flt b)
 | .ref a=>some (.ref a)
 | .type n=>some (.ty n)
 | _=>none
theorem RelV.abs {x:V}{u:Value}(r:RelV x u):absV u=some x:=by
 cases x with
 | non=>cases r;rfl
 | bl _=>cases r;rfl
 | int _=>obtain ⟨t,rfl⟩:=r;rfl
 | str _=>obtain ⟨t,rfl⟩:=r;rfl
 | byt _=>obtain ⟨t,rfl⟩:=r;rfl
 | flt _=>obtain ⟨t,rfl⟩:=r;rfl
 | ref _=>cases r;rfl
 | ty _=>cases r;rfl
theorem RelV.inj {x y:V}{u:Value}(r:RelV x u)(q:RelV y u):x=y:=Option.some.inj (r.abs.symm.trans q.abs)
theorem Vals.inj:∀ {xs ys:List V} {us:List Value},Vals xs us→Vals ys us→xs=ys
 | _,_,_,.nil,.nil=>rfl
 | _,_,_,.cons r t,.cons r' t'=>by rw [r.inj r',Vals.inj t t']
section
variable {X:Cx}{pins:List (Addr×Obj)}{σ : St}{H:Hp}{s:Shared}{a:Addr}{xs ys:List V}
theorem SqL.of {K:PySem.W.Frag}(h:H a=some (.lst xs)):SqL K H a xs:=.inl (.inl h)
theorem SqT.of {K:PySem.W.Frag}(h:H a=some (.tup xs)):SqT K H a xs:=.inl (.inl h)
theorem Inv.list (I:Inv X pins σ H s)(h:SqL X.K H a xs):∃ its:List Value,Vals xs its∧PlainL s.heap a its.toArray∧xs.length≤sizeLine:=by
 rcases h with h | ⟨o,its,n,hk,hc,hd,hs,hz,r⟩
 ·obtain ⟨z,its,n,r,e⟩:=h.ok I.hok
  exact ⟨its,r,⟨_,n,e,rfl,rfl,rfl⟩,z⟩
 ·refine ⟨its.toList,r,⟨o,n,I.kIn a o hk,hc,hd,by simpa using hs⟩,?_⟩
  have e:=r.length
  simp only [Array.length_toList] at e
  omega
theorem Inv.tuple (I:Inv X pins σ H s)(h:SqT X.K H a xs):∃ its:List Value,Vals xs its∧IsTup s.heap a its.toArray∧xs.length≤sizeLine:=by
 rcases h with h | ⟨o,its,n,hk,hc,hs,hz,r⟩
 ·obtain ⟨z,its,r,p⟩:=h.ok I.hok
  exact ⟨its,r,p,z⟩
 ·refine ⟨its.toList,r,⟨o,I.kIn a o hk,hc,n,by simpa using hs⟩,?_⟩
  have e:=r.length
  simp only [Array.length_toList] at e
  omega
theorem Inv.list_inj (I:Inv X pins σ H s)(h:SqL X.K H a xs)(h':SqL X.K H a ys):xs=ys:=by
 obtain ⟨its,r,⟨o,n,e,_,_,d⟩,_⟩:=I.list h
 obtain ⟨its',r',⟨o',n',e',_,_,d'⟩,_⟩:=I.list h'
 rw [e] at e';cases e'
 rw [d] at d'
 injection d' with d1 _
 have:its=its':=by simpa using congrArg Array.toList d1
 subst this
 exact r.inj r'
theorem Inv.tuple_inj (I:Inv X pins σ H s)(h:SqT X.K H a xs)(h':SqT X.K H a ys):xs=ys:=by
 obtain ⟨its,r,⟨o,e,_,n,d⟩,_⟩:=I.tuple h
 obtain ⟨its',r',⟨o',e',_,n',d'⟩,_⟩:=I.tuple h'
 rw [e] at e';cases e'
 rw [d] at d'
 injection d' with d1 _
 have:its=its':=by simpa using congrArg Array.toList d1
 subst this
 exact r.inj r'
end
abbrev Cx.wish (X:Cx)(E:Value→Shared→Prop):Cx:={ X with xe:=E }
abbrev Cx.nox (X:Cx):Cx:=X.wish fun _ _=>False
theorem Cx.Ok.wish {X:Cx}(ok:X.Ok)(E:Value→Shared→Prop):(X.wish E).Ok:=
 ⟨ok.mod,ok.kind,ok.glob,ok.blt,ok.above,ok.inj,ok.has,ok.cab,ok.hd,ok.qt,ok.frames,ok.stk,ok.exf,ok.bs,ok.bsz,ok.noex,ok.exfs,ok.funs,ok.frf⟩
theorem Cx.Ok.unwish {X:Cx}{E:Value→Shared→Prop}(ok:(X.wish E).Ok):X.Ok:=
 ⟨ok.mod,ok.kind,ok.glob,ok.blt,ok.above,ok.inj,ok.has,ok.cab,ok.hd,ok.qt,ok.frames,ok.stk,ok.exf,ok.bs,ok.bsz,ok.noex,ok.exfs,ok.funs,ok.frf⟩
section
variable {X:Cx}{pins:List (Addr×Obj)}{σ : St}{H:Hp}{s:Shared}{E:Value→Shared→Prop}
theorem Inv.wish (I:Inv X pins σ H s)(E:Value→Shared→Prop):Inv (X.wish E) pins σ H s:=⟨I.ok.wish E,I.os,I.bare,I.base,I.loc,I.cell,I.free,I.freeC,I.pin,I.hok,I.len⟩
theorem Inv.unwish (I:Inv (X.wish E) pins σ H s):Inv X pins σ H s:=⟨I.ok.unwish,I.os,I.bare,I.base,I.loc,I.cell,I.free,I.freeC,I.pin,I.hok,I.len⟩
theorem SP.unwish {D:Ends}{f:Flow}{s':Shared}(h:SP (X.wish E) pins D f s'):SP X pins D f s':=by
 cases f with
 | next=>obtain ⟨σ',H',I,q⟩:=h;exact ⟨σ',H',I.unwish,q⟩
 | brk=>obtain ⟨σ',H',I,q⟩:=h;exact ⟨σ',H',I.unwish,q⟩
 | cont=>obtain ⟨σ',H',I,q⟩:=h;exact ⟨σ',H',I.unwish,q⟩
 | ret u=>obtain ⟨v,σ',H',I,r,q⟩:=h;exact ⟨v,σ',H',I.unwish,r,q⟩
theorem PSs.nox {st:List Stmt}{t:TS}(h:PSs X.nox st t):PSs X st t:=fun pins s σ H D I hw=>
 wpAny_mono (h pins s σ H D (I.wish _) hw) (fun _ _ q=>q.unwish) fun _ _ z=>False.elim z
end
section
variable {X:Cx}{st:Stmt}{rest:List Stmt}{t u:TS}{e:Expr}{te:TE}{pos:Pos}
def tNext:TS:=fun D σ H=>D.nx σ H
def tSeq (t u:TS):TS:=fun D σ H=>t { D with nx:=u D } σ H
theorem pss_nil:PSs X [] tNext:=fun _ _ σ H _ I h=>wpAny_execs_nil ⟨σ,H,I,h⟩
theorem pss_cons (h1:PS X st t)(h2:PSs X rest u):PSs X (st::rest) (tSeq t u):=by
 intro pins s σ H D I h
 refine wpAny_execs_cons (thn (h1 pins s σ H { D with nx:=u D } I h) fun f s1 q=>?_)
 cases f with
 | next=>
  obtain ⟨σ',H',I',q⟩:=q
  exact h2 pins s1 σ' H' D I' q
 | ret v=>exact q
 | brk=>exact q
 | cont=>exact q
theorem pss_one (h1:PS X st t):PSs X [st] t:=by
 intro pins s σ H D I h
 refine wpAny_execs_cons (thn (h1 pins s σ H D I h) fun f s1 q=>?_)
 cases f with
 | next=>exact wpAny_execs_nil q
 | ret v=>exact q
 | brk=>exact q
 | cont=>exact q
theorem Inv.quiet {pins:List (Addr×Obj)}{σ : St}{H:Hp}{s:Shared}(I:Inv X pins σ H s):interactive X.env=false:=by simp [interactive,I.ok.kind]
def tDrop (te:TE):TS:=fun D σ H=>te σ H fun _ H1=>D.nx σ H1
theorem ps_expr (he:PE X e te)(hs:swapsWith e none pos.line X.env=pure false:=by rfl):PS X (.Expr e pos) (tDrop te):=by
 intro pins s σ H D I h
 exact wpAny_Expr_any (thn (he pins s σ H _ I h) fun v s1 ⟨x,H1,I1,r1,q1⟩=>⟨σ,H1,I1,q1⟩) I.quiet hs
def tRet (te:TE):TS:=fun D σ H=>te σ H D.rt
theorem ps_ret (he:PE X e te):PS X (.Return (some e) pos) (tRet te):=by
 intro pins s σ H D I h
 exact wpAny_Return_some (thn (he pins s σ H _ I h) fun v s1 ⟨x,H1,I1,r1,q1⟩=>⟨x,σ,H1,I1,r1,q1⟩)
def tIfS (c:TT)(t u:TS):TS:=fun D σ H=>c σ H fun b H1=>if b=true then t D σ H1 else u D σ H1
theorem ps_if {c:Expr}{a b:List Stmt}{tc:TT}(hc:PT X c tc)(ha:PSs X a t)(hb:PSs X b u):PS X (.If c a b pos) (tIfS tc t u):=by
 intro pins s σ H D I h
 refine wpAny_If (thn (hc pins s σ H _ I h) fun d s1 ⟨H1,I1,q1⟩=>?_)
 cases d with
 | true=>exact ha pins s1 σ H1 D I1 q1
 | false=>exact hb pins s1 σ H1 D I1 q1
def tNever:TS:=fun _ _ _=>False
theorem ps_never:PS X st tNever:=fun _ _ _ _ _ _ h=>h.elim
end
abbrev TG:=V→St→Hp→(St→Hp→Prop)→Prop
abbrev TGs:=List V→St→Hp→(St→Hp→Prop)→Prop
def PG (X:Cx)(target:Expr)(t:TG):Prop:=
 ∀ (pins:List (Addr×Obj)) (s:Shared) (σ : St) (H:Hp) (v:V) (u:Value) (Q:St→Hp→Prop),Inv X pins σ H s→RelV v u→t v σ H Q →
  wpAny (model X.prog X.w) X.A (assign target X.env u) (fun _ s'=>∃ σ' H',Inv X pins σ' H' s'∧Q σ' H') X.xe s
def PGs (X:Cx)(ts:List Expr)(t:TGs):Prop:=
 ∀ (pins:List (Addr×Obj)) (s:Shared) (σ : St) (H:Hp) (vs:List V) (us:List Value) (Q:St→Hp→Prop),Inv X pins σ H s→Vals vs us→t vs σ H Q →
  wpAny (model X.prog X.w) X.A (assignInOrder ((assignEach ts X.env).map (·.2)) us) (fun _ s'=>∃ σ' H',Inv X pins σ' H' s'∧Q σ' H') X.xe s
abbrev TSet:=V→V→V→Hp→(Hp→Prop)→Prop
def PSet (X:Cx)(t:TSet):Prop:=
 ∀ (pins:List (Addr×Obj)) (s:Shared) (σ : St) (H:Hp) (o i v:V) (ov iv u:Value) (Q:Hp→Prop),Inv X pins σ H s→RelV o ov→RelV i iv→RelV v u→t o i v H Q →
  wpAny (model X.prog X.w) X.A (setItem ov iv u) (fun _ s'=>∃ H',Inv X pins σ H' s'∧Q H') X.xe s
section
variable {X:Cx}{pos:Pos}
def gName (i:Nat):TG:=fun v σ H Q=>Q (σ.set i (some v)) H
theorem aR {i:Nat}{x:Str}(hN:X.N.Nodup)(hi:X.N[i]?=some x)(hx:Loc X.env.scope x)(hf:X.fn x=true∨X.env.scope.names.lookup x=some .local:=by first | exact .inl rfl | exact .inr rfl | assumption):PG X (.Name x pos) (gName i):=by
 intro pins s σ H v u Q I r h
 exact wpAny_assign_Name (rT I hN hi hx r (fun s' I'=>⟨_,H,I',h⟩) hf)
def gNil:TGs:=fun vs σ H Q=>vs=[]∧Q σ H
def gCons (t:TG)(u:TGs):TGs:=fun vs σ H Q=>∃ v r,vs=v::r∧t v σ H fun σ' H'=>u r σ' H' Q
theorem pgs_nil:PGs X [] gNil:=by
 intro pins s σ H vs us Q I r h
 obtain ⟨e,h⟩:=h
 subst e
 cases r
 exact assignInOrder_nil ⟨σ,H,I,h⟩
theorem wW {e:Expr}{es:List Expr}{t:TG}{u:TGs}(h1:PG X e t)(h2:PGs X es u)
  (hs:(assignEach (e::es) X.env).map (·.2)=assign e X.env::(assignEach es X.env).map (·.2):=by rfl):PGs X (e::es) (gCons t u):=by
 intro pins s σ H vs us Q I r h
 obtain ⟨v,vr,e1,h⟩:=h
 subst e1
 cases r with
 | cons r rr=>
  rw [hs]
  refine assignInOrder_cons (thn (h1 pins s σ H _ _ _ I r h) fun _ s1 ⟨σ1,H1,I1,q1⟩=>?_)
  exact h2 pins s1 σ1 H1 _ _ Q I1 rr q1
def gTup (K:PySem.W.Frag)(n:Nat)(t:TGs):TG:=fun v σ H Q=>∃ a xs,v=.ref a∧SqT K H a xs∧xs.length=n∧t xs σ H Q
theorem pg_tup {es:List Expr}{k:Nat}{t:TGs}{n:Nat}(hc:X.calm=true)(h:PGs X es t)
  (hn:(assignEach es X.env).length=n:=by rfl) (hst:(assignEach es X.env).findIdx? (·.1)=none:=by rfl):PG X (.Tuple es k pos) (gTup X.K n t):=by
 intro pins s σ H v u Q I r hw
 obtain ⟨a,xs,e1,hq,hl,hw⟩:=hw
 subst e1
 cases r
 obtain ⟨its,rv,ht,hz⟩:=I.tuple hq
 refine assign_Tuple_tuple (I.ok.hd hc) ht (by simp [hn,←hl,rv.length]) hst fun h' hx=>?_
 have I1:Inv X pins σ H { s with heap:=h' }:=I.kept (t':=s.toks) fun b o e=>hx b o (Nat.ne_of_lt (Heap.lt_size e)) e
 exact h pins _ σ H xs _ Q I1 (by simpa using rv) hw
def gSub (to ti:TE)(t:TSet):TG:=fun v σ H Q=>to σ H fun o H1=>ti σ H1 fun i H2=>t o i v H2 fun H3=>Q σ H3
theorem pg_sub {o i:Expr}{to ti:TE}{t:TSet}(ho:PE X o to)(hi:PE X i ti)(hs:PSet X t)
  (ha:∀ v,assign (.Subscript o i pos) X.env v=(do
   let ov ←holding [v] (eval o X.env)
   let iv ←holding [v,ov] (eval i X.env)
   standAt pos
   holding [v,ov,iv] (setItem ov iv v)
   release [v,ov,iv] []):=by intro _;rfl):PG X (.Subscript o i pos) (gSub to ti t):=by
 intro pins s σ H v u Q I r h
 rw [ha]
 refine wpAny_bind (wpAny_holding (thn (ho pins s σ H _ I h) fun ov s1 ⟨x,H1,I1,r1,q1⟩=>?_))
 refine wpAny_bind (wpAny_holding (thn (hi pins s1 σ H1 _ I1 q1) fun iv s2 ⟨y,H2,I2,r2,q2⟩=>?_))
 refine wpAny_bind (wpAny_standAt (wpAny_bind (wpAny_holding (thn (hs pins s2 σ H2 x y v ov iv u _ I2 r1 r2 r q2) fun _ s3 ⟨H3,I3,q3⟩=>?_))))
 exact wpAny_release ⟨σ,H3,I3,q3⟩
def tAsg (te:TE)(g:TG):TS:=fun D σ H=>te σ H fun x H1=>g x σ H1 D.nx
theorem ps_asg {tg e:Expr}{te:TE}{g:TG}(he:PE X e te)(hg:PG X tg g)(hs:swapsWithSole [tg] e pos.line X.env=pure false:=by rfl)(hw:swappedStores [tg] e X.env=pure none:=by rfl)
  (h1:(assignEach [tg] X.env).map (·.2)=[assign tg X.env]:=by rfl):PS X (.Assign [tg] e pos) (tAsg te g):=by
 intro pins s σ H D I h
 refine wpAny_Assign_stores (thn (he pins s σ H _ I h) fun v s1 ⟨x,H1,I1,r1,q1⟩=>?_) hs hw
 rw [h1]
 exact thn (hg pins s1 σ H1 x v _ I1 r1 q1) fun _ s2 q=>q
theorem ps_set {i:Nat}{x:Str}{e:Expr}{te:TE}{pos':Pos}(hN:X.N.Nodup)(hi:X.N[i]?=some x)(hx:Loc X.env.scope x)(he:PE X e te)(hs:swapsWith e (some (.Name x pos')) pos.line X.env=pure false:=by rfl)(hf:X.fn x=true∨X.env.scope.names.lookup x=some .local:=by first | exact .inl rfl | exact .inr rfl | assumption) :
  PS X (.Assign [.Name x pos'] e pos) (tAsg te (gName i)):=by
 intro pins s σ H D I h
 refine wpAny_Assign_Name (thn (he pins s σ H _ I h) fun v s1 ⟨y,H1,I1,r1,q1⟩=>?_) hs
 exact rT I1 hN hi hx r1 (fun s2 I2=>⟨_,H1,I2,q1⟩) hf
def tPar (i j:Nat)(ta:TA):TS:=fun D σ H=>ta σ H fun vs H1=>∃ v w,vs=[v,w]∧D.nx ((σ.set i (some v)).set j (some w)) H1
theorem ps_par {i j:Nat}{x y:Str}{a b:Expr}{ta:TA}{px py pt:Pos}{kt k2 pt2}(hc:X.calm=true)(hN:X.N.Nodup)(hi:X.N[i]?=some x)(hj:X.N[j]?=some y)(hij:i≠j)
  (hx:X.env.scope.names.lookup x=some .local) (hy:X.env.scope.names.lookup y=some .local) (ha:PA X [a,b] ta)
  (hw:swappedStores [.Tuple [.Name x px,.Name y py] kt pt] (.Tuple [a,b] k2 pt2) X.env=pure (some [x,y]))
  (hs:swapsWithSole [.Tuple [.Name x px,.Name y py] kt pt] (.Tuple [a,b] k2 pt2) pos.line X.env=pure false:=by rfl) :
  PS X (.Assign [.Tuple [.Name x px,.Name y py] kt pt] (.Tuple [a,b] k2 pt2) pos) (tPar i j ta):=by
 intro pins s σ H D I h
 rw [exec_Assign_arm]
 refine wpAny_bind (wpAny_standAt ?_)
 rw [hs]
 refine wpAny_bind (wpAny_pure ?_)
 rw [if_neg (by decide)]
 refine wpAny_bind (Tuple_ (thn (ha _ pins s σ H _ I h) fun us s1 ⟨vs,H1,I1,r1,q1⟩=>?_))
 obtain ⟨v,w,e1,q1⟩:=q1
 subst e1
 obtain ⟨u1,u2,rfl,rv,rw'⟩:∃ u1 u2,us=[u1,u2]∧RelV v u1∧RelV w u2:=by
  cases r1 with
  | cons p q=>
   cases q with
   | cons p' q'=>
    cases q'
    exact ⟨_,_,rfl,p,p'⟩
 refine wpAny_newObj_type ?_ (by show 2≤sizeLine;decide)
 have I2:Inv X pins σ H1 { s1 with heap:=s1.heap.push { cls:=.type "tuple",data:=.seq [u1,u2].toArray } }:=I1.kept (t':=s1.toks) fun b o e=>Heap.get?_push_of_some _ e
 rw [hw]
 refine wpAny_bind (wpAny_pure ?_)
 show wpAny (model X.prog X.w) X.A (do rule "assign.swapped-stores";let items ←unpackItems (.ref s1.heap.objs.size) 2 none;assignInOrder [fun v=>bindName X.env y v,fun v=>bindName X.env x v] items.reverse;pure Flow.next) _ _ _
 refine wpAny_bind (wpAny_rule (wpAny_bind (unpackItems_tuple (items:=#[u1,u2]) (I.ok.hd hc) (IsTup.new s1.heap _) fun h' hx'=>?_)))
 have I3:=I2.kept (h':=h') (t':=s1.toks) fun b o e=>hx' b o (Nat.ne_of_lt (Heap.lt_size e)) e
 show wpAny _ _ (assignInOrder [fun v=>bindName X.env y v,fun v=>bindName X.env x v] [u2,u1] >>= fun _=>pure Flow.next) _ _ _
 refine wpAny_bind (assignInOrder_cons (wpAny_bindName (rT I3 hN hj (.inl hy) rw' (fun s2 I4=>?_) (.inr hy))))
 refine assignInOrder_cons (wpAny_bindName (rT I4 hN hi (.inl hx) rv (fun s3 I5=>assignInOrder_nil (wpAny_pure ?_)) (.inr hx)))
 rw [List.set_comm _ _ (Ne.symm hij)] at I5
 exact ⟨_,H1,I5,q1⟩
end
section
variable {X:Cx}{pos:Pos}
def tWhile (c:TT)(tb:TS):TS:=fun D σ H=>∃ W:Nat→St→Hp→Prop,(∃ m,W m σ H)∧∀ m σ H,W m σ H →
 c σ H fun b H1=>if b=true then ∃ N:St→Hp→Prop,(∀ σ' H',N σ' H'→∃ m',m'<m∧W m' σ' H')∧tb { D with nx:=N,ct:=N,bk:=D.nx } σ H1 else D.nx σ H1
theorem ps_while {c:Expr}{body:List Stmt}{tc:TT}{tb:TS}(hp:PassesOwn (model X.prog X.w) X.A X.env X.xe)(hc:PT X c tc)(hb:PSs X body tb):PS X (.While c body [] pos) (tWhile tc tb):=by
 intro pins s σ H D I h
 obtain ⟨W,⟨m0,w0⟩,turn⟩:=h
 refine wpAny_While (codeAny_whileLoop (fun n s'=>∃ σ' H',Inv X pins σ' H' s'∧W n σ' H') ?_ m0 ⟨σ,H,I,w0⟩)
 rintro n s1 ⟨σ1,H1,I1,w1⟩
 refine wpAny_passesOwn hp (thn (hc pins s1 σ1 H1 _ I1 (turn n σ1 H1 w1)) fun b s2 ⟨H2,I2,q2⟩=>?_)
 cases b with
 | true=>
  obtain ⟨N,hN,q2⟩:=q2
  rw [if_pos rfl]
  refine wpAny_passesOwn hp (thn (hb pins s2 σ1 H2 _ I2 q2) fun f s3 q3=>?_)
  cases f with
  | next=>
   obtain ⟨σ3,H3,I3,n3⟩:=q3
   obtain ⟨m',hm,w3⟩:=hN σ3 H3 n3
   exact ⟨m',hm,σ3,H3,I3,w3⟩
  | cont=>
   obtain ⟨σ3,H3,I3,n3⟩:=q3
   obtain ⟨m',hm,w3⟩:=hN σ3 H3 n3
   exact ⟨m',hm,σ3,H3,I3,w3⟩
  | brk=>exact q3
  | ret v=>exact q3
 | false=>
  rw [if_neg Bool.false_ne_true]
  exact wpAny_execs_nil ⟨σ1,H2,I2,q2⟩
end
theorem yr:entryFor table "proto.unchain" = some Builtin.«proto.unchain»:=entryFor_of_tree (by kernel_rfl)
def QuietAt (A:Around)(h:Heap):Prop:=∀ v,A.handled=some v→∃ (a:Addr) (o:Obj) (vs:Array Value),v=.ref a∧h.get? a=some o∧o.data=.fields vs∧vs[2]?=some .none
theorem quiet_heap {A:Around}{P:Program}{w:World}{H:Hp}{h:Heap}(q:Quiet A H)(x:HOk P w H h):QuietAt A h:=fun v e=>by
 obtain ⟨a,o,u,vs,h1,h2,h3,h4⟩:=q v e
 exact ⟨a,o,vs,h1,(x a _ h2).1,h3,h4⟩
theorem raise_over {α : Type}{prog:Program}{w:World}{A:Around}{E:Value→Shared→Prop}{s:Shared}{e:Addr}{oe:Obj}{ws:Array Value}{Q:α→Shared→Prop}(hq:QuietAt A s.heap)(he:s.heap.get? e=some oe)(hd:oe.data=.fields ws)(hz:2<ws.size)(hne:∀ v,A.handled=some v→v≠.ref e)
  (h:∀ h',(∀ b,b≠e→h'.get? b=s.heap.get? b)→(∃ o',h'.get? e=some o'∧o'.cls=oe.cls)→E (.ref e) { s with heap:=h' }):wpAny (model prog w) A (raiseNew (.ref e):Sem α) Q E s:=by
 unfold raiseNew
 refine wpAny_bind (wpAny_handled ?_)
 cases hh:A.handled with
 | none=>
  dsimp only
  refine wpAny_bind (wpAny_pure (wpAny_throw ?_))
  exact h s.heap (fun _ _=>rfl) ⟨oe,he,rfl⟩
 | some v=>
  obtain ⟨a,o,vs,rfl,ho,hdo,h2⟩:=hq v hh
  dsimp only
  have ne:(Value.ref a != Value.ref e)=true:=by
   have:=hne _ hh
   simp only [bne_iff_ne,ne_eq]
   exact this
  rw [if_pos ne]
  refine wpAny_bind (wpAny_holding (wpAny_runValue (codeAny_builtin yr ?_)))
  unfold Builtin.«proto.unchain»
  dsimp only
  refine wpAny_bind (wpAny_field ho hdo h2 ?_)
  rw [if_pos (show (Value.none==Value.none)=true from rfl)]
  refine wpAny_bind (wpAny_pure (wpAny_pure ?_))
  dsimp only
  refine wpAny_bind ?_
  unfold updateField
  refine wpAny_bind (wpAny_load he ?_)
  rw [hd]
  dsimp only
  rw [if_pos hz]
  refine wpAny_update he (wpAny_throw ?_)
  have hd3:=Obj.data_mapFields hd (·.setIfInBounds 2 (Value.ref a))
  exact h _ (fun b hb=>Heap.get?_update_other _ _ (Ne.symm hb)) ⟨_,Heap.get?_update_self _ he (Obj.isFreed_of_fields hd3),Obj.cls_mapFields _ _⟩
theorem range_end {prog:Program}{w:World}{A:Around}{E:Value→Shared→Prop}{s:Shared}{it:Addr}{x left step:Int}{Q:Option Value→Shared→Prop}(hh:QuietAt A s.heap)(hit:IsRangeIter s.heap it x left step)(hleft:left≤0)
  (hQ:∀ h',Heap.ExtBut it s.heap h'→Q none { s with heap:=h' }):wpAny (model prog w) A (pyNext (.ref it)) Q E s:=by
 have hT:s.TypeIs (.ref it) "range_iterator":=⟨_,hit,rfl⟩
 unfold pyNext
 refine wpAny_bind (wpAny_attempt (wpAny_callSpecial?_slot (name:=Str.ofString "__next__") hT F.slot_range_iterator_next
  (wpAny_call_entry F.slot_range_iterator_next hT F.entry_range_iterator_next ?_ (F.args_range_iterator_next_1 _))))
 show wpAny _ _ (field (.ref it) 0 >>= _) _ _ s
 refine wpAny_bind (wpAny_field hit rfl (x:=rawInt x) rfl ?_)
 show wpAny _ _ (field (.ref it) 1 >>= _) _ _ s
 refine wpAny_bind (wpAny_field hit rfl (x:=rawInt left) rfl ?_)
 show wpAny _ _ (field (.ref it) 2 >>= _) _ _ s
 refine wpAny_bind (wpAny_field hit rfl (x:=rawInt step) rfl ?_)
 show wpAny _ _ (if left≤0 then _ else _) _ _ s
 rw [if_pos hleft]
 refine wpAny_bind (wpAny_rule ?_)
 refine wpAny_bind ?_
 show wpAny _ _ (newExc (.type "StopIteration") [] >>= _) _ _ _
 refine wpAny_bind ?_
 simp only [newExc,newTuple]
 refine wpAny_bind (wpAny_newObj_type ?_ (by size_fits))
 refine wpAny_bind (m:=firstArgMember _ _) (wpAny_of_eq (a:=Value.none) (by first | rfl | (simp only [firstArgMember];rfl)) ?_)
 refine wpAny_newObj_type ?_ (by size_fits)
 refine raise_over (A:=A.in1) (fun v e=>?_) (Heap.get?_push_size _ rfl) rfl (by simp;omega) (fun v e=>?_) fun h' h1 ⟨o',h2,h3⟩=>?_
 ·obtain ⟨a,o,vs,r1,r2,r3⟩:=hh v e
  exact ⟨a,o,vs,r1,Heap.get?_push_of_some _ (Heap.get?_push_of_some _ r2),r3⟩
 ·obtain ⟨a,o,vs,r1,r2,r3⟩:=hh v e
  rw [r1]
  intro q
  have q:a=_:=Value.ref.inj q
  have:=Heap.lt_size r2
  rw [q] at this
  exact absurd this (Nat.not_lt.mpr (by simp [Heap.push]))
 refine wpAny_bind (wpAny_isInstance (T := "StopIteration") (b:=true) ⟨_,h2,h3⟩ isSubtype_stop ?_)
 refine wpAny_pure (hQ _ fun b o hb e=>?_)
 rw [h1 b ?_]
 ·exact Heap.get?_push_of_some _ (Heap.get?_push_of_some _ e)
 ·have:=Heap.lt_size e
  exact Nat.ne_of_lt (Nat.lt_of_lt_of_le this (by simp [Heap.push]))
structure It where
 go:Nat→Hp→Prop
 yld:Nat→Hp→V→Hp→Prop
 stop:Nat→Hp→Prop
 cm:Bool
def FpOk (X:Cx)(pins:List (Addr×Obj))(H:Hp)(b:Addr):Prop:=
 H b=none∧b≠X.env.locals∧b∉X.fs∧(b∈X.ex∨X.s₀.heap.objs.size≤b)∧(∀ x c,X.env.cells.lookup x=some c→c≠b)∧∀ p∈X.pn++pins,p.1≠b
theorem Inv.fpOk {X:Cx}{pins:List (Addr×Obj)}{σ : St}{H H':Hp}{s:Shared}{b:Addr}(I:Inv X pins σ H s)(hb:s.heap.objs.size≤b)(hn:H' b=none):FpOk X pins H' b:=by
 refine ⟨hn,Nat.ne_of_gt (Nat.lt_of_lt_of_le I.lt hb),I.nofs hb,.inr (Nat.le_trans I.sz hb),fun x c e z=>?_,fun p hp z=>?_⟩
 ·obtain ⟨v,q⟩:=I.cell x c e
  exact absurd (Nat.lt_of_lt_of_le q.lt (by rw [z];exact hb)) (Nat.lt_irrefl _)
 ·exact absurd (Nat.lt_of_lt_of_le (Heap.lt_size (I.pin p hp).1) (by rw [z];exact hb)) (Nat.lt_irrefl _)
structure Turn (P:Program) (w:World) (K:PySem.W.Frag) (tg:Expr) (J:It) (fp:List Addr) (it:Addr) (tn:Nat→Heap→Prop):Prop where
 mem:it∈fp
 obj:∀ i h,tn i h→∀ b∈fp,∃ o,h.get? b=some o∧∀ v,o.data≠.cell v
 keep:∀ i h h',tn i h→(∀ b∈fp,∀ o,h.get? b=some o→h'.get? b=some o)→tn i h'
 item:∀ (X:Cx),X.prog=P→X.w=w→X.K=K→(J.cm=true→X.calm=true)→∀ (i:Nat) (pins:List (Addr×Obj)) (s:Shared) (σ : St) (H:Hp) (E:Value→Shared→Prop),Inv X pins σ H s→(∀ b∈fp,FpOk X pins H b)→tn i s.heap→J.go i H →
  wpAny (model P w) X.A (pyNext (.ref it)) (fun r s1=>∃ u,r=some u ∧
   wpAny (model P w) X.A (letOwnedTupleGo tg (.ref it) u) (fun _ s2=>∃ x H',Inv X pins σ H' s2∧RelV x u∧J.yld i H x H'∧tn (i+1) s2.heap∧∀ b∈fp,H' b=none) E s1) E s
 done:∀ (X:Cx),X.prog=P→X.w=w→X.K=K→(J.cm=true→X.calm=true)→∀ (i:Nat) (pins:List (Addr×Obj)) (s:Shared) (σ : St) (H:Hp) (E:Value→Shared→Prop),Inv X pins σ H s→(∀ b∈fp,FpOk X pins H b)→tn i s.heap→J.stop i H →
  wpAny (model P w) X.A (pyNext (.ref it)) (fun r s1=>r=none∧Inv X pins σ H s1) E s
 self:∀ (A:Around) (i:Nat) (s:Shared) (Q:Value→Shared→Prop) (E:Value→Shared→Prop),tn i s.heap→Q (.ref it) s→wpAny (model P w) A (pyIter (.ref it)) Q E s
abbrev TI:=St→Hp→(It→Hp→Prop)→Prop
def PIE (X:Cx)(pins:List (Addr×Obj))(σ : St)(tg:Expr)(R:It→Hp→Prop)(itv:Value)(s2:Shared):Prop:=
 ∃ (it:Addr) (fp:List Addr) (tn:Nat→Heap→Prop) (J:It) (H':Hp),itv=.ref it∧Inv X pins σ H' s2∧Turn X.prog X.w X.K tg J fp it tn∧tn 0 s2.heap∧(∀ b∈fp,FpOk X pins H' b)∧R J H'
def PI (X:Cx)(tg iter:Expr)(wi:TI):Prop:=
 ∀ (pins:List (Addr×Obj)) (s:Shared) (σ : St) (H:Hp) (R:It→Hp→Prop),Inv X pins σ H s→wi σ H R →
  wpAny (model X.prog X.w) X.A (eval iter X.env) (fun v s1=>wpAny (model X.prog X.w) X.A (pyIter v) (PIE X pins σ tg R) X.xe s1) X.xe s
theorem go_of {M:Model}{A:Around}{E:Value→Shared→Prop}{s:Shared}{tg:Expr}{it:Addr}{u:Value}{o:Obj}{n:String}{vs:Array Value}{Q:Unit→Shared→Prop}(ho:s.heap.get? it=some o)(hc:o.cls=.type n)(hd:o.data=.fields vs)
    (hn:["enumerate", "zip", "dict_itemiterator", "dict_reverseitemiterator", "odict_iterator", "itertools.zip_longest", "itertools.pairwise"].contains n=false) (hQ:Q () s):wpAny M A (letOwnedTupleGo tg (.ref it) u) Q E s:=by
  unfold letOwnedTupleGo
  cases tg <;> first
    | exact wpAny_pure hQ
    | (cases u <;> first
        | exact wpAny_pure hQ
        | (refine wpAny_bind (wpAny_load ho ?_)
           rw [hc,hd]
           show wpAny M A (if (["enumerate", "zip", "dict_itemiterator", "dict_reverseitemiterator", "odict_iterator", "itertools.zip_longest", "itertools.pairwise"].contains n&&vs[0]?==some (rawInt _))=true then _ else _) Q E s
           rw [if_neg (by intro h;rw [hn,Bool.false_and] at h;cases h)]
           exact wpAny_pure hQ))
def Itl (K:PySem.W.Frag)(a:Addr):It:=
 ⟨fun i H=>∃ xs x,SqL K H a xs∧xs[i]?=some x,fun i H x H'=>H'=H∧∀ xs,SqL K H a xs→xs[i]?=some x,fun i H=>∃ xs,SqL K H a xs∧xs.length≤i,true⟩
def Itt (K:PySem.W.Frag)(a:Addr):It:=
 ⟨fun i H=>∃ xs x,SqT K H a xs∧xs[i]?=some x,fun i H x H'=>H'=H∧∀ xs,SqT K H a xs→xs[i]?=some x,fun i H=>∃ xs,SqT K H a xs∧xs.length≤i,true⟩
def Itr (lo:Int)(n:Nat):It:=⟨fun i _=>i<n,fun i H x H'=>H'=H∧x=.int (lo+i),fun i _=>n≤i,false⟩
theorem turn_list {P:Program}{w:World}{K:PySem.W.Frag}{tg:Expr}(a it:Addr):Turn P w K tg (Itl K a) [it] it (fun i h=>h.IsListIter it a i) where
 mem:=by simp
 obj:=fun i h st b hb=>by
  have e:b=it:=by simpa using hb
  subst e
  obtain ⟨o,e,c,d⟩:=st
  exact ⟨o,e,fun v z=>by rw [d] at z;cases z⟩
 keep:=fun i h h' st k=>st.at fun o e=>k it (by simp) o e
 item:=by
  intro X hP hw hK hc i pins s σ H E I hf st hg
  subst hP hw hK
  obtain ⟨xs,x,hq,hx⟩:=hg
  obtain ⟨its,rv,p,hz⟩:=I.list hq
  obtain ⟨u,hu,ru⟩:=rv.get hx
  obtain ⟨f0,f1,f2,f3,f4,f5⟩:=hf it (by simp)
  refine wpAny_pyNext_list_item st p.isList (x:=u) (by simpa using hu) fun h' st' sb=>?_
  have I1:Inv X pins σ H { s with heap:=h' }:=I.turned (t':=s.toks) (fun b o hb e=>(sb.2 b hb).trans e) f0 f1 f3 f4 f5
  obtain ⟨o,e,c,d⟩:=id st'
  exact ⟨u,rfl,go_of (s:={ s with heap:=h' }) e c d (by decide) ⟨x,H,I1,ru,⟨rfl,fun ys hy=>by rw [I.list_inj hy hq];exact hx⟩,st',fun b hb=>(hf b hb).1⟩⟩
 done:=by
  intro X hP hw hK hc i pins s σ H E I hf st hg
  subst hP hw hK
  obtain ⟨xs,hq,hx⟩:=hg
  obtain ⟨its,rv,p,hz⟩:=I.list hq
  obtain ⟨f0,f1,f2,f3,f4,f5⟩:=hf it (by simp)
  have hl:=rv.length
  exact wpAny_pyNext_list_end (I.ok.hd (hc rfl)) st p.isList (by simp;omega) fun h' eb=>⟨rfl,I.turned (t':=s.toks) (fun b o hb e=>eb b o hb e) f0 f1 f3 f4 f5⟩
 self:=fun _ _ _ _ _ st h=>wpAny_pyIter_listiter st h
theorem turn_tuple {P:Program}{w:World}{K:PySem.W.Frag}{tg:Expr}(a it:Addr):Turn P w K tg (Itt K a) [it] it (fun i h=>h.IsTupleIter it a i) where
 mem:=by simp
 obj:=fun i h st b hb=>by
  have e:b=it:=by simpa using hb
  subst e
  obtain ⟨o,e,c,d⟩:=st
  exact ⟨o,e,fun v z=>by rw [d] at z;cases z⟩
 keep:=fun i h h' st k=>st.at fun o e=>k it (by simp) o e
 item:=by
  intro X hP hw hK hc i pins s σ H E I hf st hg
  subst hP hw hK
  obtain ⟨xs,x,hq,hx⟩:=hg
  obtain ⟨its,rv,p,hz⟩:=I.tuple hq
  obtain ⟨u,hu,ru⟩:=rv.get hx
  obtain ⟨f0,f1,f2,f3,f4,f5⟩:=hf it (by simp)
  refine wpAny_pyNext_tuple_item st (show s.heap.IsTuple a its.toArray from p) (x:=u) (by simpa using hu) fun h' st' sb=>?_
  have I1:Inv X pins σ H { s with heap:=h' }:=I.turned (t':=s.toks) (fun b o hb e=>(sb.2 b hb).trans e) f0 f1 f3 f4 f5
  obtain ⟨o,e,c,d⟩:=id st'
  exact ⟨u,rfl,go_of (s:={ s with heap:=h' }) e c d (by decide) ⟨x,H,I1,ru,⟨rfl,fun ys hy=>by rw [I.tuple_inj hy hq];exact hx⟩,st',fun b hb=>(hf b hb).1⟩⟩
 done:=by
  intro X hP hw hK hc i pins s σ H E I hf st hg
  subst hP hw hK
  obtain ⟨xs,hq,hx⟩:=hg
  obtain ⟨its,rv,p,hz⟩:=I.tuple hq
  obtain ⟨f0,f1,f2,f3,f4,f5⟩:=hf it (by simp)
  have hl:=rv.length
  exact wpAny_pyNext_tuple_end (I.ok.hd (hc rfl)) st (show s.heap.IsTuple a its.toArray from p) (by simp;omega) fun h' eb=>⟨rfl,I.turned (t':=s.toks) (fun b o hb e=>eb b o hb e) f0 f1 f3 f4 f5⟩
 self:=fun _ _ _ _ _ st h=>wpAny_pyIter_tupleiter st h
theorem turn_range {P:Program}{w:World}{K:PySem.W.Frag}{tg:Expr}(it:Addr)(lo:Int)(n:Nat):Turn P w K tg (Itr lo n) [it] it (fun i h=>IsRangeIter h it (lo+(i:Nat)*1) ((n:Int) - (i:Nat)) 1) where
 mem:=by simp
 obj:=fun i h st b hb=>by
  have e:b=it:=by simpa using hb
  subst e
  exact ⟨_,st,fun v z=>by
   have z':Data.fields _=Data.cell v:=z
   cases z'⟩
 keep:=fun i h h' st k=>k it (by simp) _ st
 item:=by
  intro X hP hw hK hc i pins s σ H E I hf st hg
  subst hP hw hK
  obtain ⟨f0,f1,f2,f3,f4,f5⟩:=hf it (by simp)
  refine wpAny_pyNext_range_item st (by have:i<n:=hg;omega) fun h' st' kk=>?_
  have I1:Inv X pins σ H { s with heap:=h',toks:=s.toks+1 }:=I.turned (fun b o hb e=>(kk.2 b hb).trans e) f0 f1 f3 f4 f5
  have st2:IsRangeIter h' it (lo+((i+1:Nat):Int)*1) ((n:Int) - ((i+1:Nat):Int)) 1:=by
   have e1:lo+((i+1:Nat):Int)*1=lo+((i:Nat):Int)*1+1:=by omega
   have e2:(n:Int) - ((i+1:Nat):Int)=(n:Int) - ((i:Nat):Int) - 1:=by omega
   rw [e1,e2]
   exact st'
  refine ⟨_,rfl,go_of (s:={ s with heap:=h',toks:=s.toks+1 }) (n := "range_iterator") st' rfl rfl (by decide) ⟨.int (lo+i),H,I1,⟨s.toks,?_⟩,⟨rfl,rfl⟩,st2,fun b hb=>(hf b hb).1⟩⟩
  rw [Int.mul_one]
 done:=by
  intro X hP hw hK hc i pins s σ H E I hf st hg
  subst hP hw hK
  obtain ⟨f0,f1,f2,f3,f4,f5⟩:=hf it (by simp)
  exact range_end (quiet_heap I.qt0 I.hok) st (by have:n≤i:=hg;omega) fun h' eb=>⟨rfl,I.turned (t':=s.toks) (fun b o hb e=>eb b o hb e) f0 f1 f3 f4 f5⟩
 self:=fun _ _ _ _ _ st h=>wpAny_pyIter_rangeiter st h
end L2
namespace L2
open PySem PySem.Spec PyProof.Rows
section
variable {X:Cx}{tg:Expr}
theorem range_it {pins:List (Addr×Obj)}{σ : St}{H:Hp}{s:Shared}{R:It→Hp→Prop}{E:Value→Shared→Prop}{lo hi:Int}{t u v:Tok}{tk:Nat}(I:Inv X pins σ H s)(h1:-(2^62)≤lo)(h2:lo<2^62)(h3:-(2^62)≤hi)(h4:hi<2^62)
  (q:R (Itr lo (hi - lo).toNat) H):wpAny (model X.prog X.w) X.A (pyIter (.ref s.heap.objs.size)) (PIE X pins σ tg R) E { s with heap:=s.heap.push { cls:=.type "range",data:=.fields #[.int lo t,.int hi u,.int 1 v] },toks:=tk }:=by
 refine wpAny_pyIter_range (IsRange.new ..) (small_one h1 h2 h3 h4) ?_
 have I1:Inv X pins σ H { s with heap:=s.heap.push { cls:=.type "range",data:=.fields #[.int lo t,.int hi u,.int 1 v] },toks:=tk }:=I.kept fun b o e=>Heap.get?_push_of_some _ e
 refine ⟨(s.heap.push { cls:=.type "range",data:=.fields #[.int lo t,.int hi u,.int 1 v] }).objs.size,[(s.heap.push { cls:=.type "range",data:=.fields #[.int lo t,.int hi u,.int 1 v] }).objs.size],_,_,H,rfl,
  I1.kept (t':=tk) fun b o e=>Heap.get?_push_of_some _ e,turn_range _ lo (hi - lo).toNat,?_,fun b hb=>?_,q⟩
 ·have e1:lo+((0:Nat):Int)*1=lo:=by simp
  have e2:(((hi - lo).toNat:Nat):Int) - ((0:Nat):Int)=Builtin.Range.rangeSize lo hi 1:=by rw [rangeSize_one];split <;> omega
  show IsRangeIter _ _ (lo+((0:Nat):Int)*1) ((((hi - lo).toNat:Nat):Int) - ((0:Nat):Int)) 1
  rw [e1,e2]
  exact Heap.get?_push_size _ rfl
 ·have e:b=(s.heap.push { cls:=.type "range",data:=.fields #[.int lo t,.int hi u,.int 1 v] }).objs.size:=by simpa using hb
  subst e
  exact I1.fpOk (Nat.le_refl _) (I1.hok.fresh (Nat.le_refl _))
def iRng1 (ta:TA):TI:=fun σ H R=>ta σ H fun vs H1=>∃ j:Int,vs=[.int j]∧-(2^62)≤j∧j<2^62∧R (Itr 0 j.toNat) H1
def iRng2 (ta:TA):TI:=fun σ H R=>ta σ H fun vs H1=>∃ i j:Int,vs=[.int i,.int j]∧(-(2^62)≤i∧i<2^62∧-(2^62)≤j∧j<2^62)∧R (Itr i (j - i).toNat) H1
theorem pi_range1 {a:Expr}{ta:TA}{p pos:Pos}(hg:Gl X "range")(hm:X.mg "range" = none)(ha:PA X [a] ta)(hs:starEach [a] X.env=[(false,eval a X.env)]:=by rfl):PI X tg (.Call (.Name "range" p) [a] [] pos) (iRng1 ta):=by
 intro pins s σ H R I h
 refine Call_ (tY I hg hm boot_range (PyProof.Rows.callWith_type1 (thn (ha pos pins s σ H _ I h) fun us s1 ⟨vs,H1,I1,r1,q1⟩=>?_) hs rfl))
 obtain ⟨j,e,q1,q2,q⟩:=q1
 subst e
 cases r1 with
 | cons r rr=>
  cases rr
  obtain ⟨t,rfl⟩:=r
  exact call_range_1 (range_it I1 (by omega) (by omega) q1 q2 (by simpa using q))
theorem pi_range2 {a b:Expr}{ta:TA}{p pos:Pos}(hg:Gl X "range")(hm:X.mg "range" = none)(ha:PA X [a,b] ta)(hs:starEach [a,b] X.env=[(false,eval a X.env),(false,eval b X.env)]:=by rfl)(hs2:starEach [b] X.env=[(false,eval b X.env)]:=by rfl) :
  PI X tg (.Call (.Name "range" p) [a,b] [] pos) (iRng2 ta):=by
 intro pins s σ H R I h
 refine Call_ (tY I hg hm boot_range (PyProof.Rows.callWith_type1 (thn (ha pos pins s σ H _ I h) fun us s1 ⟨vs,H1,I1,r1,q1⟩=>?_) (by rw [hs,hs2]) (by rw [hs2];rfl)))
 obtain ⟨i,j,e,⟨q1,q2,q3,q4⟩,q⟩:=q1
 subst e
 cases r1 with
 | cons r rr=>
  cases rr with
  | cons r' rr=>
   cases rr
   obtain ⟨t,rfl⟩:=r
   obtain ⟨t',rfl⟩:=r'
   exact call_range_2 (range_it I1 q1 q2 q3 q4 q)
def tFor (wi:TI)(g:TG)(tb:TS):TS:=fun D σ H=>wi σ H fun J H1=>∃ W:Nat→Nat→St→Hp→Prop,(∃ m,W 0 m σ H1)∧∀ i m σ H,W i m σ H →
 (J.stop i H∧D.nx σ H)∨(J.go i H∧∃ N:St→Hp→Prop,(∀ σ' H',N σ' H'→∃ m',m'<m∧W (i+1) m' σ' H')∧∀ x H',J.yld i H x H'→g x σ H' fun σ2 H2=>tb { D with nx:=N,ct:=N,bk:=D.nx } σ2 H2)
def Ag (fp:List Addr)(h:Heap):List (Addr×Obj):=fp.filterMap fun b=>(h.get? b).map fun o=>(b,o)
theorem lM {fp:List Addr}{h:Heap}{b:Addr}{o:Obj}(hb:b∈fp)(e:h.get? b=some o):(b,o)∈Ag fp h:=List.mem_filterMap.mpr ⟨b,hb,by rw [e];rfl⟩
theorem of_pinsAt {fp:List Addr}{h:Heap}{p:Addr×Obj}(hp:p∈Ag fp h):p.1∈fp∧h.get? p.1=some p.2:=by
 obtain ⟨b,hb,e⟩:=List.mem_filterMap.mp hp
 cases q:h.get? b with
 | none=>rw [q] at e;cases e
 | some o=>
  rw [q] at e
  have e':(b,o)=p:=Option.some.inj e
  subst e'
  exact ⟨hb,q⟩
theorem Inv.pinned {pins:List (Addr×Obj)}{σ : St}{H:Hp}{s:Shared}{fp:List Addr}(I:Inv X pins σ H s)(hf:∀ b∈fp,FpOk X pins H b)(ho:∀ b∈fp,∃ o,s.heap.get? b=some o∧∀ v,o.data≠.cell v):Inv X (pins++Ag fp s.heap) σ H s:=
 I.pins_of fun p hp=>(List.mem_append.mp hp).elim (fun z=>I.pin p (List.mem_append_right _ z)) fun z=>by
  obtain ⟨hb,e⟩:=of_pinsAt z
  obtain ⟨f0,f1,f2,_⟩:=hf p.1 hb
  obtain ⟨o,e',d⟩:=ho p.1 hb
  rw [e] at e';cases e'
  exact ⟨e,f0,f1,f2,d⟩
theorem Inv.unpinned {pins pl:List (Addr×Obj)}{σ : St}{H:Hp}{s:Shared}(I:Inv X (pins++pl) σ H s):Inv X pins σ H s:=I.pins_of fun p hp=>I.pin p (List.mem_append_right _ (List.mem_append_left _ hp))
theorem ps_for {iter:Expr}{body:List Stmt}{wi:TI}{g:TG}{tb:TS}{pos:Pos}(hp:PassesOwn (model X.prog X.w) X.A X.env X.xe)(hc:X.calm=true)(hi:PI X tg iter wi)(hg:PG X tg g)(hb:PSs X body tb)
  (hs:∀ x,foldedSetIterable iter X.env x=pure x:=by intro _;rfl):PS X (.For tg iter body [] pos) (tFor wi g tb):=by
 intro pins s σ H D I h
 refine wpAny_For (thn (hi pins s σ H _ I h) fun v s1 h1=>thn h1 fun itv s2 h2=>?_) hs
 obtain ⟨it,fp,tn,J,H2,e,I2,T,st2,f2,W,⟨m0,w0⟩,turn⟩:=h2
 subst e
 -- what stays true of the iterator's objects through the loop
 have stat:∀ {H':Hp},(∀ b∈fp,H' b=none)→∀ b∈fp,FpOk X pins H' b:=fun hn b hb=>⟨hn b hb,(f2 b hb).2⟩
 refine codeAny_forLoop_any (fun n s'=>∃ i σ' H',Inv X pins σ' H' s'∧tn i s'.heap∧(∀ b∈fp,H' b=none)∧W i n σ' H') ?_ m0 ⟨0,σ,H2,I2,st2,fun b hb=>(f2 b hb).1,w0⟩
 rintro n s3 ⟨i,σ3,H3,I3,st3,fr3,w3⟩
 rcases turn i n σ3 H3 w3 with ⟨stop,qn⟩ | ⟨go,N,hN,step⟩
 ·refine wpAny_passesOwn hp (thn (T.done X rfl rfl rfl (fun _=>hc) i pins s3 σ3 H3 X.xe I3 (stat fr3) st3 stop) fun r s4 ⟨hr,I4⟩=>?_)
  subst hr
  exact wpAny_execs_nil ⟨σ3,H3,I4,qn⟩
 ·refine wpAny_passesOwn hp (thn (T.item X rfl rfl rfl (fun _=>hc) i pins s3 σ3 H3 X.xe I3 (stat fr3) st3 go) fun r s4 ⟨u,hr,h4⟩=>?_)
  subst hr
  refine wpAny_passesOwn hp (thn h4 fun _ s5 ⟨x,H5,I5,r5,y5,st5,fr5⟩=>?_)
  have I5':=I5.pinned (stat fr5) (T.obj _ _ st5)
  refine wpAny_passesOwn hp (thn (hg _ s5 σ3 H5 x u _ I5' r5 (step x H5 y5)) fun _ s6 ⟨σ6,H6,I6,q6⟩=>?_)
  refine wpAny_passesOwn hp (thn (hb _ s6 σ6 H6 _ I6 q6) fun f s7 q7=>?_)
  have again:∀ {σ7:St} {H7:Hp},Inv X (pins++Ag fp s5.heap) σ7 H7 s7→N σ7 H7→∃ m,m<n∧∃ i σ' H',Inv X pins σ' H' s7∧tn i s7.heap∧(∀ b∈fp,H' b=none)∧W i m σ' H':=fun {σ7 H7} I7 n7=>by
   obtain ⟨m',hm,w7⟩:=hN σ7 H7 n7
   refine ⟨m',hm,i+1,σ7,H7,I7.unpinned,T.keep _ _ _ st5 fun b hb o e=>(I7.pin (b,o) (List.mem_append_right _ (List.mem_append_right _ (lM hb e)))).1,fun b hb=>?_,w7⟩
   obtain ⟨o,e,d⟩:=T.obj _ _ st5 b hb
   exact (I7.pin (b,o) (List.mem_append_right _ (List.mem_append_right _ (lM hb e)))).2.1
  cases f with
  | next=>obtain ⟨σ7,H7,I7,n7⟩:=q7;exact again I7 n7
  | cont=>obtain ⟨σ7,H7,I7,n7⟩:=q7;exact again I7 n7
  | brk=>obtain ⟨σ7,H7,I7,q7⟩:=q7;exact ⟨σ7,H7,I7.unpinned,q7⟩
  | ret v=>obtain ⟨x7,σ7,H7,I7,r7,q7⟩:=q7;exact ⟨x7,σ7,H7,I7.unpinned,r7,q7⟩
end
end L2
namespace L2
open PySem PySem.Spec PyProof.Rows
abbrev R2:=V→V→Hp→VK→Prop
def OpR (X:Cx)(f:Value→Value→Sem Value)(r:R2):Prop:=
 ∀ (pins:List (Addr×Obj)) (s:Shared) (σ : St) (H:Hp) (x y:V) (v u:Value) (Q:VK),Inv X pins σ H s→RelV x v→RelV y u→r x y H Q →
  wpAny (model X.prog X.w) X.A (f v u) (EP X pins σ Q) X.xe s
def UnR (X:Cx)(f:Value→Sem Value)(r:V→Hp→VK→Prop):Prop:=
 ∀ (pins:List (Addr×Obj)) (s:Shared) (σ : St) (H:Hp) (x:V) (v:Value) (Q:VK),Inv X pins σ H s→RelV x v→r x H Q →
  wpAny (model X.prog X.w) X.A (f v) (EP X pins σ Q) X.xe s
def jt (X:Cx)(f:Value)(r:List V→Hp→VK→Prop):Prop:=
 ∀ (pins:List (Addr×Obj)) (s:Shared) (σ : St) (H:Hp) (xs:List V) (us:List Value) (Q:VK),Inv X pins σ H s→Vals xs us→r xs H Q →
  wpAny (model X.prog X.w) X.A (call f us) (EP X pins σ Q) X.xe s
def TruR (X:Cx)(r:V→Hp→(Bool→Hp→Prop)→Prop):Prop:=
 ∀ (pins:List (Addr×Obj)) (s:Shared) (σ : St) (H:Hp) (x:V) (v:Value) (Q:Bool→Hp→Prop),Inv X pins σ H s→RelV x v→r x H Q →
  wpAny (model X.prog X.w) X.A (truthy v) (TP X pins σ Q) X.xe s
def tOp (r:R2)(ta tb:TE):TE:=fun σ H Q=>ta σ H fun x H1=>tb σ H1 fun y H2=>r x y H2 Q
def tUn (r:V→Hp→VK→Prop)(ta:TE):TE:=fun σ H Q=>ta σ H fun x H1=>r x H1 Q
def rI (C:Int→Int→Prop)(g:Int→Int→V):R2:=fun x y H Q=>∃ i j,x=.int i∧y=.int j∧C i j∧Q (g i j) H
def rI0 (g:Int→Int→V):R2:=fun x y H Q=>∃ i j,x=.int i∧y=.int j∧Q (g i j) H
def rU (g:Int→V):V→Hp→VK→Prop:=fun x H Q=>∃ i,x=.int i∧Q (g i) H
section
variable {X:Cx}{a b c:Expr}{ta tb tc:TE}{pos:Pos}
theorem binT (ha:PE X a ta)(hb:PE X b tb){pins:List (Addr×Obj)}{s:Shared}{σ : St}{H:Hp}{R:V→V→Hp→Prop}(I:Inv X pins σ H s)
  (h:ta σ H fun x H1=>tb σ H1 fun y H2=>R x y H2) {Q:Value→Shared→Prop} {f:Value→Value→Sem Value}
  (hf:∀ v u s2 x y H2,Inv X pins σ H2 s2→RelV x v→RelV y u→R x y H2→wpAny (model X.prog X.w) X.A (f v u) Q X.xe s2) :
  wpAny (model X.prog X.w) X.A (eval a X.env) (fun v s₁=>wpAny (model X.prog X.w) X.A (eval b X.env) (fun u s₂=>wpAny (model X.prog X.w) X.A (f v u) Q X.xe s₂) X.xe s₁) X.xe s:=by
 refine thn (ha pins s σ H _ I h) fun v s1 ⟨x,H1,I1,r1,q1⟩=>?_
 refine thn (hb pins s1 σ H1 _ I1 q1) fun u s2 ⟨y,H2,I2,r2,q2⟩=>?_
 exact hf v u s2 x y H2 I2 r1 r2 q2
theorem pe_op {op:Operator}{r:R2}(ho:OpR X (binaryOp op) r)(ha:PE X a ta)(hb:PE X b tb):PE X (.BinOp a op b pos) (tOp r ta tb):=by
 intro pins s σ H Q I h
 exact wpAny_BinOp (binT ha hb I h fun v u s2 x y H2 I2 rx ry q=>ho pins s2 σ H2 x y v u Q I2 rx ry q)
theorem pe_un {op:UnaryOp}{r:V→Hp→VK→Prop}(ho:UnR X (unaryOp op) r)(ha:PE X a ta):PE X (.UnaryOp op a pos) (tUn r ta):=by
 intro pins s σ H Q I h
 exact UnaryOp_ (thn (ha pins s σ H _ I h) fun v s1 ⟨x,H1,I1,r1,q1⟩=>ho pins s1 σ H1 x v Q I1 r1 q1)
theorem opI {f:Value→Value→Sem Value}{C:Int→Int→Prop}{g:Int→Int→Int}
  (rule:∀ (i j:Int) (t u:Tok) (s:Shared) (Q:Value→Shared→Prop) (E:Value→Shared→Prop),C i j→Q (.int (g i j) s.toks) { s with toks:=s.toks+1 }→wpAny (model X.prog X.w) X.A (f (.int i t) (.int j u)) Q E s) :
  OpR X f (rI C fun i j=>.int (g i j)):=by
 intro pins s σ H x y v u Q I rx ry h
 obtain ⟨i,j,rfl,rfl,hc,q⟩:=h
 obtain ⟨t,rfl⟩:=rx
 obtain ⟨t',rfl⟩:=ry
 exact rule i j t t' s _ _ hc ⟨.int (g i j),H,I.tok _,⟨_,rfl⟩,q⟩
theorem opI0 {f:Value→Value→Sem Value}{g:Int→Int→Int}
  (rule:∀ (i j:Int) (t u:Tok) (s:Shared) (Q:Value→Shared→Prop) (E:Value→Shared→Prop),Q (.int (g i j) s.toks) { s with toks:=s.toks+1 }→wpAny (model X.prog X.w) X.A (f (.int i t) (.int j u)) Q E s) :
  OpR X f (rI0 fun i j=>.int (g i j)):=by
 intro pins s σ H x y v u Q I rx ry h
 obtain ⟨i,j,rfl,rfl,q⟩:=h
 obtain ⟨t,rfl⟩:=rx
 obtain ⟨t',rfl⟩:=ry
 exact rule i j t t' s _ _ ⟨.int (g i j),H,I.tok _,⟨_,rfl⟩,q⟩
theorem opB0 {f:Value→Value→Sem Value}{g:Int→Int→Bool}
  (rule:∀ (i j:Int) (t u:Tok) (s:Shared) (Q:Value→Shared→Prop) (E:Value→Shared→Prop),Q (.bool (g i j)) s→wpAny (model X.prog X.w) X.A (f (.int i t) (.int j u)) Q E s) :
  OpR X f (rI0 fun i j=>.bl (g i j)):=by
 intro pins s σ H x y v u Q I rx ry h
 obtain ⟨i,j,rfl,rfl,q⟩:=h
 obtain ⟨t,rfl⟩:=rx
 obtain ⟨t',rfl⟩:=ry
 exact rule i j t t' s _ _ ⟨.bl (g i j),H,I,rfl,q⟩
def CPow (i j:Int):Prop:=0≤j∧j≤1000000∧i.natAbs<2^64
theorem op_add:OpR X (binaryOp .Add) (rI0 fun i j=>.int (i+j)):=opI0 fun _ _ _ _ _ _ _ q=>add_int q
theorem op_sub:OpR X (binaryOp .Sub) (rI0 fun i j=>.int (i - j)):=opI0 fun _ _ _ _ _ _ _ q=>sub_int q
theorem op_modN:OpR X (binaryOp .Mod) (rI (fun _ j=>j≠0) fun i j=>.int (i.fmod j)):=opI fun _ _ _ _ _ _ _ hc q=>mod_int' hc q
theorem op_pow:OpR X (binaryOp .Pow) (rI CPow fun i j=>.int (i^j.toNat)):=opI fun _ _ _ _ _ _ _ hc q=>pow_int_small hc.1 hc.2.1 hc.2.2 q
theorem unI {f:Value→Sem Value}{g:Int→Int}
  (rule:∀ (i:Int) (t:Tok) (s:Shared) (Q:Value→Shared→Prop) (E:Value→Shared→Prop),Q (.int (g i) s.toks) { s with toks:=s.toks+1 }→wpAny (model X.prog X.w) X.A (f (.int i t)) Q E s) :
  UnR X f (rU fun i=>.int (g i)):=by
 intro pins s σ H x v Q I rx h
 obtain ⟨i,rfl,q⟩:=h
 obtain ⟨t,rfl⟩:=rx
 exact rule i t s _ _ ⟨.int (g i),H,I.tok _,⟨_,rfl⟩,q⟩
theorem un_neg:UnR X (unaryOp .USub) (rU fun i=>.int (-i)):=unI fun _ _ _ _ _ q=>neg_int q
end
section
variable {X:Cx}{a b c:Expr}{ta tb tc:TE}{pos:Pos}
theorem wg {pins:List (Addr×Obj)}{σ : St}{H:Hp}{s:Shared}{Q:VK}{k k':Bool}(I:Inv X pins σ H s)(q:Q (.bl k) H)(e:k=k'):EP X pins σ Q (.bool k') s:=by
 subst e
 exact ⟨.bl k,H,I,rfl,q⟩
theorem op_lt:OpR X (compareOp .Lt) (rI0 fun i j=>.bl (decide (i<j))):=opB0 fun _ _ _ _ _ _ _ q=>lt_int q
theorem op_gt:OpR X (compareOp .Gt) (rI0 fun i j=>.bl (decide (j<i))):=opB0 fun _ _ _ _ _ _ _ q=>gt_int q
theorem op_isN:OpR X (compareOp .Is) (fun x y H Q=>y=.non∧Q (.bl (decide (x=.non))) H):=by
 intro pins s σ H x y v u Q I rx ry h
 obtain ⟨rfl,q⟩:=h
 cases ry
 refine is_none_gen (wg I q ?_)
 cases x <;> first
  | (cases rx;rfl)
  | (obtain ⟨t,rfl⟩:=rx;rfl)
theorem op_notN:OpR X (compareOp .IsNot) (fun x y H Q=>y=.non∧Q (.bl (!decide (x=.non))) H):=by
 intro pins s σ H x y v u Q I rx ry h
 obtain ⟨rfl,q⟩:=h
 cases ry
 refine isnot_none_gen (wg I q ?_)
 cases x <;> first
  | (cases rx;rfl)
  | (obtain ⟨t,rfl⟩:=rx;rfl)
theorem OpR.or {f:Value→Value→Sem Value}{r r':R2}(h:OpR X f r)(h':OpR X f r'):OpR X f (fun x y H Q=>r x y H Q∨r' x y H Q):=by
 intro pins s σ H x y v u Q I rx ry q
 rcases q with q | q
 ·exact h pins s σ H x y v u Q I rx ry q
 ·exact h' pins s σ H x y v u Q I rx ry q
theorem aQ (b:Expr){op:CmpOp}(h:op≠.In:=by decide)(h2:op≠.NotIn:=by decide):behindInMarks op b=false:=by
 have e1:(op==CmpOp.In)=false:=by cases op <;> first | rfl | exact absurd rfl h
 have e2:(op==CmpOp.NotIn)=false:=by cases op <;> first | rfl | exact absurd rfl h2
 cases b <;> simp [behindInMarks,e1,e2]
theorem pe_cmpR {op:CmpOp}{r:R2}(ho:OpR X (compareOp op) r)(ha:PE X a ta)(hb:PE X b tb)(hm:behindInMarks op b=false):PE X (.Compare a [op] [b] pos) (tOp r ta tb):=by
 intro pins s σ H Q I h
 exact wpAny_Compare1 (binT ha hb I h fun v u s2 x y H2 I2 rx ry q=>ho pins s2 σ H2 x y v u Q I2 rx ry q) hm
def tTest (t:TE):TT:=fun σ H Q=>t σ H fun x H'=>∃ k,x=.bl k∧Q k H'
theorem pt_cmpR {op:CmpOp}{r:R2}(ho:OpR X (compareOp op) r)(ha:PE X a ta)(hb:PE X b tb)(hm:behindInMarks op b=false):PT X (.Compare a [op] [b] pos) (tTest (tOp r ta tb)):=by
 intro pins s σ H Q I h
 refine wpAny_isTrue_Compare1 (thn (ha pins s σ H _ I h) fun v s1 ⟨x,H1,I1,r1,q1⟩=>thn (hb pins s1 σ H1 _ I1 q1) fun u s2 ⟨y,H2,I2,r2,q2⟩=>
  thn (ho pins s2 σ H2 x y v u _ I2 r1 r2 q2) fun c s3 ⟨z,H3,I3,r3,k,e,q3⟩=>?_) hm
 subst e
 cases r3
 exact wpAny_truthy_bool ⟨H3,I3,q3⟩
def TruV (K:PySem.W.Frag)(x:V)(H:Hp)(k:Bool):Prop:=
 match x with
 | .non=>k=false
 | .bl b=>k=b
 | .int i=>k=(i != 0)
 | .str y=>y.length≤sizeLine∧k=((y.length:Int) != 0)
 | .byt y=>y.size≤sizeLine∧k=((y.size:Int) != 0)
 | .ref p=>(∃ xs,SqL K H p xs∧k = !xs.isEmpty)∨(∃ xs,SqT K H p xs∧k = !xs.isEmpty)∨∃ kvs,H p=some (.dK kvs)∧k = !kvs.isEmpty
 | _=>False
theorem isEmpty_kv {κ : Type}{kvs:List (κ×V)}{vs:List (κ×Value)}(r:KV kvs vs):(!vs.isEmpty) = !kvs.isEmpty:=by
 cases r <;> rfl
theorem vL {xs:List V}{its:List Value}(r:Vals xs its):(!its.toArray.isEmpty) = !xs.isEmpty:=by
 cases r <;> simp
theorem qR:(sizeLine:Nat)<2^63:=by rw [sizeLine_eq];decide
theorem tru_ok:TruR X (fun x H Q=>∃ k,TruV X.K x H k∧Q k H):=by
 intro pins s σ H x v Q I rx h
 obtain ⟨k,e,q⟩:=h
 have hl:=qR
 have hs:sizeLine=16777216:=sizeLine_eq
 cases x with
 | non=>
  cases rx
  have e':k=false:=e
  subst e'
  exact truthy_none ⟨H,I,q⟩
 | bl b=>
  cases rx
  have e':k=b:=e
  subst e'
  exact wpAny_truthy_bool ⟨H,I,q⟩
 | int i=>
  obtain ⟨t,rfl⟩:=rx
  have e':k=(i != 0):=e
  subst e'
  exact PySem.P.truthy_int ⟨H,I,q⟩
 | str y=>
  obtain ⟨t,rfl⟩:=rx
  obtain ⟨hy,e'⟩:y.length≤sizeLine∧k=((y.length:Int) != 0):=e
  subst e'
  exact PySem.P.truthy_str (by omega) ⟨H,I.tok _,q⟩
 | byt y=>
  obtain ⟨t,rfl⟩:=rx
  obtain ⟨hy,e'⟩:y.size≤sizeLine∧k=((y.size:Int) != 0):=e
  subst e'
  exact PySem.W.truthy_bytes (by omega) ⟨H,I.tok _,q⟩
 | ref p=>
  cases rx
  have e':(∃ xs,SqL X.K H p xs∧k = !xs.isEmpty)∨(∃ xs,SqT X.K H p xs∧k = !xs.isEmpty)∨∃ kvs,H p=some (.dK kvs)∧k = !kvs.isEmpty:=e
  rcases e' with ⟨xs,hx,e'⟩ | ⟨xs,hx,e'⟩ | ⟨kvs,hx,e'⟩
  ·subst e'
   obtain ⟨its,r,pl,hz⟩:=I.list hx
   have hlen:=r.length
   exact wpAny_truthy_list pl.isList (by simp only [List.size_toArray];omega) ⟨H,I.tok _,by rw [vL r];exact q⟩
  ·subst e'
   obtain ⟨its,r,pl,hz⟩:=I.tuple hx
   have hlen:=r.length
   exact truthy_tuple pl (by simp only [List.size_toArray];omega) ⟨H,I.tok _,by rw [vL r];exact q⟩
  ·subst e'
   obtain ⟨hz,hS,vs,r,m⟩:kvs.length≤sizeLine∧(p==sysModules)=false∧∃ vs,KV kvs vs∧s.heap.DictOf (mixKind X.prog X.w) p vs:=I.hok p _ hx
   have hlen:kvs.length=vs.length:=Paired.length r
   exact wpAny_truthy_dict hS m (by omega) ⟨H,I.tok _,by rw [isEmpty_kv r];exact q⟩
 | _=>exact (show False from e).elim
theorem pt_truth (ha:PE X a ta)(he:∀ whole,isTrue a X.env whole=(do let v ←whole;standAt a.pos;holding [v] (truthy v))) :
  PT X a (fun σ H Q=>ta σ H fun x H'=>∃ k,TruV X.K x H' k∧Q k H'):=by
 intro pins s σ H Q I h
 exact isTrue_plain (thn (ha pins s σ H _ I h) fun v s1 ⟨x,H1,I1,r1,q1⟩=>tru_ok pins s1 σ H1 x v Q I1 r1 q1) (he _)
theorem vals1 {x:V}{us:List Value}(r:Vals [x] us):∃ u,us=[u]∧RelV x u:=by
 cases r with
 | cons r1 r2=>cases r2;exact ⟨_,rfl,r1⟩
theorem vals2 {x y:V}{us:List Value}(r:Vals [x,y] us):∃ u w',us=[u,w']∧RelV x u∧RelV y w':=by
 cases r with
 | cons r1 r2=>
  cases r2 with
  | cons r3 r4=>cases r4;exact ⟨_,_,rfl,r1,r3⟩
theorem call_abs:jt X (.builtin "abs") (fun xs H Q=>∃ i,xs=[.int i]∧Q (.int (if i<0 then -i else i)) H):=by
 intro pins s σ H xs us Q I r h
 obtain ⟨i,rfl,q⟩:=h
 obtain ⟨u,rfl,t,rfl⟩:=vals1 r
 exact call_abs_int fun u tk=>⟨.int (if i<0 then -i else i),H,I.tok _,⟨_,rfl⟩,q⟩
theorem zJ (hc:X.calm=true):jt X (.builtin "max") (fun xs H Q=>∃ i j,xs=[.int i,.int j]∧Q (.int (if j>i then j else i)) H):=by
 intro pins s σ H xs us Q I r h
 obtain ⟨i,j,rfl,q⟩:=h
 obtain ⟨u,w',rfl,⟨t,rfl⟩,⟨t',rfl⟩⟩:=vals2 r
 refine max_two_ints (I.ok.hd hc) fun h' tk k=>⟨_,H,I.kept k,?_,q⟩
 by_cases hj:j>i
 ·rw [if_pos hj,if_pos hj];exact ⟨_,rfl⟩
 ·rw [if_neg hj,if_neg hj];exact ⟨_,rfl⟩
theorem call_min2 (hc:X.calm=true):jt X (.builtin "min") (fun xs H Q=>∃ i j,xs=[.int i,.int j]∧Q (.int (if j<i then j else i)) H):=by
 intro pins s σ H xs us Q I r h
 obtain ⟨i,j,rfl,q⟩:=h
 obtain ⟨u,w',rfl,⟨t,rfl⟩,⟨t',rfl⟩⟩:=vals2 r
 refine min_two_ints (I.ok.hd hc) fun h' tk k=>⟨_,H,I.kept k,?_,q⟩
 by_cases hj:j<i
 ·rw [if_pos hj,if_pos hj];exact ⟨_,rfl⟩
 ·rw [if_neg hj,if_neg hj];exact ⟨_,rfl⟩
end
end L2
namespace L2
open PySem PySem.Spec PyProof.Rows
structure ObjM (h:Heap) (x dx C:Addr) (mA:Str→Option Value):Prop where
 obj:h.get? x=some (PySem.W.instObj C dx)
 ns:h.Ns1 dx mA
 ne:dx≠x
section
variable {prog:Program}{w:World}{A:Around}{E:Value→Shared→Prop}{s:Shared}{K:PySem.W.Frag}{x dx C f:Addr}{mA:Str→Option Value}{name:Str}{v:Value}
end
section
variable {P:Program}{w:World}{H H':Hp}{h h':Heap}{a C dx:Addr}{fs fs':List (Str×V)}
end
structure Cls (K:PySem.W.Frag) (C:Addr):Prop where
 pg:PySem.W.plainGet K C Str.empty=true
 hd:PySem.W.hasDictIn K C=true
 po:PySem.W.plainOver K C=true
 sa:PySem.W.findIn K (.ref C) "__setattr__" = some (some (.builtin "object.__setattr__"))
structure Con (K:PySem.W.Frag) (C:Addr) (f:Str) (v:V) (u:Value):Prop where
 at_:PySem.W.findIn K (.ref C) f=some (some u)
 rel:RelV v u
 get:PySem.W.specialIn K u "__get__" = some none
 cp:PySem.W.copiedNames.contains f=false
structure Meth (K:PySem.W.Frag) (C:Addr) (m:Str) (f:Addr):Prop where
 at_:PySem.W.findIn K (.ref C) m=some (some (.ref f))
 fn:PySem.W.isFn K (.ref f)=true
 kp:PySem.W.keepIn K (.ref f)=true
section
variable {X:Cx}{pins:List (Addr×Obj)}{σ : St}{H:Hp}{s:Shared}{a C dx:Addr}{fs:List (Str×V)}{f:Str}{v:V}{A:Around}{E:Value→Shared→Prop}
end
section
variable {X:Cx}{o e value:Expr}{f:Str}{pos pos' tpos:Pos}{ta tv:TE}
end
section
variable {X:Cx}{pins:List (Addr×Obj)}{σ : St}{H:Hp}{s:Shared}{A:Around}{E:Value→Shared→Prop}{Q:Value→Shared→Prop}{c:Value}{b:Bool}
inductive TyOf (K:PySem.W.Frag) (H:Hp):V→Value→Prop where
 | non:TyOf K H .non (.type "NoneType")
 | bl (x:Bool):TyOf K H (.bl x) (.type "bool")
 | int (i:Int):TyOf K H (.int i) (.type "int")
 | str (x:Str):TyOf K H (.str x) (.type "str")
 | flt (x:UInt64):TyOf K H (.flt x) (.type "float")
 | lst {a:Addr} {xs:List V} (e:H a=some (.lst xs)):TyOf K H (.ref a) (.type "list")
 | frz {a:Addr} {o:Obj} {xs:List V} (e:H a=some (.frz o (.lst xs))):TyOf K H (.ref a) (.type "list")
 | tup {a:Addr} {xs:List V} (e:H a=some (.tup xs)):TyOf K H (.ref a) (.type "tuple")
 | dK {a:Addr} {kvs:List (Key×V)} (e:H a=some (.dK kvs)):TyOf K H (.ref a) (.type "dict")
 | dT {a:Addr} {kvs:List (List Key×V)} (e:H a=some (.dT kvs)):TyOf K H (.ref a) (.type "dict")
 | ins {a C dx:Addr} {fs:List (Str×V)} (e:H a=some (.ins C dx fs)) (cl:Cls K C) (ha:PySem.W.findIn K (.ref C) "__class__" = some (some (.builtin "object.__class__")))
   (hn:PySem.W.specialIn K (.builtin "object.__class__") "__get__" = some (some (.builtin "getset_descriptor.__get__"))) (htk:PySem.W.takesIn K (.builtin "object.__class__")=some true)
   (hm:PySem.W.mroIn K C (.type "object")=some true):TyOf K H (.ref a) (.ref C)
end
end L2
namespace L2
open PySem PySem.Spec PyProof.Rows
structure rK (k:Nat) (A:Around):Prop where
 hd:9≤k→A.handled=none
 dp:A.depth+3*k+5<recursionLimit
 un:A.units+16*k+200<cLine
theorem rK.mono {j k:Nat}{A:Around}(r:rK k A)(h:j≤k):rK j A:=⟨fun z=>r.hd (Nat.le_trans z h),by have:=r.dp;omega,by have:=r.un;omega⟩
theorem rK.deeper {k:Nat}{A:Around}(r:rK (k+1) A)(env:Env):rK k (A.deeper env):=
 ⟨fun z=>r.hd (Nat.le_succ_of_le z),by have:=r.dp;show A.depth+1+3*k+5<_;omega,by have:=r.un;show A.units+3+16*k+200<_;omega⟩
theorem rK.calm {k:Nat}{A:Around}(r:rK k A)(h:9≤k):A.handled.isNone=true:=by rw [r.hd h];rfl
theorem rK.depth {k:Nat}{A:Around}(r:rK k A):A.depth<recursionLimit:=by have:=r.dp;omega
theorem rK.units {k:Nat}{A:Around}(r:rK k A):A.units+64<cLine:=by have:=r.un;omega
def tNil:TA:=fun _ H Q=>Q [] H
def tCons (ta:TE)(tr:TA):TA:=fun σ H Q=>ta σ H fun x H1=>tr σ H1 fun xs H2=>Q (x::xs) H2
section
variable {X:Cx}{e:Expr}{es:List Expr}{te:TE}{t:TA}{pos:Pos}
theorem pa_nil:PA X [] tNil:=fun _ _ _ _ H Q I h=>Calls.spliced_nil ⟨[],H,I,.nil,h⟩
theorem pa_cons (ha:PE X e te)(hr:PA X es t)(hs:starEach (e::es) X.env=(false,eval e X.env)::starEach es X.env:=by rfl):PA X (e::es) (tCons te t):=by
 intro pos pins s σ H Q I h
 rw [hs]
 show wpAny _ _ (spliced ((false,eval e X.env)::backTo pos (starEach es X.env))) _ _ s
 refine Calls.spliced_cons (thn (ha pins s σ H _ I h) fun u s1 ⟨x,H1,I1,r1,q1⟩=>?_)
 exact thn (hr pos pins s1 σ H1 _ I1 q1) fun us s2 ⟨xs,H2,I2,r2,q2⟩=>⟨x::xs,H2,I2,.cons r1 r2,q2⟩
def tTup (t:TA):TE:=fun σ H Q=>t σ H fun xs H1=>xs.length≤sizeLine∧∀ p,H1 p=none→Q (.ref p) (upd H1 p (.tup xs))
def tLst (t:TA):TE:=fun σ H Q=>t σ H fun xs H1=>xs.length≤sizeLine∧∀ p,H1 p=none→Q (.ref p) (upd H1 p (.lst xs))
theorem pe_tup {x1}(h:PA X es t):PE X (.Tuple es x1 pos) (tTup t):=by
 intro pins s σ H Q I hq
 refine wpAny_Tuple_spliced (thn (h pos pins s σ H _ I hq) fun us s1 ⟨xs,H1,I1,r,z,q⟩=>⟨by rw [←r.length];exact z,?_⟩)
 have hf:H1 s1.heap.objs.size=none:=I1.hok.fresh (Nat.le_refl _)
 refine ⟨.ref s1.heap.objs.size,upd H1 s1.heap.objs.size (.tup xs),I1.laid (t':=s1.toks) (fun b u e=>Heap.get?_push_of_some _ e) (Nat.le_refl _) ?_,rfl,q _ hf⟩
 exact ⟨z,us,r,⟨_,Heap.get?_push_size _ rfl,rfl,_,rfl⟩⟩
theorem pe_lst (h:PA X es t):PE X (.List es pos) (tLst t):=by
 intro pins s σ H Q I hq
 refine wpAny_List_spliced (thn (h pos pins s σ H _ I hq) fun us s1 ⟨xs,H1,I1,r,z,q⟩=>⟨by rw [←r.length];exact z,?_⟩)
 have hf:H1 s1.heap.objs.size=none:=I1.hok.fresh (Nat.le_refl _)
 refine ⟨.ref s1.heap.objs.size,upd H1 s1.heap.objs.size (.lst xs),I1.laid (t':=s1.toks) (fun b u e=>Heap.get?_push_of_some _ e) (Nat.le_refl _) ?_,rfl,q _ hf⟩
 exact ⟨z,us,0,r,Heap.get?_push_size _ rfl⟩
end
abbrev Sp:=List V→Hp→VK→XK→Prop
abbrev CXT:=List Env→Hp→Shared→XK→Value→Shared→Prop
structure Env0 (P:Program) (w:World) (K:PySem.W.Frag) (mg:Str→Option Value) (base:Heap) (A:Around) (outer:List Env) (s:Shared) (H:Hp):Prop where
 frames:A.frames=some outer
 mod:Mod K mg base
 bs:∀ b o,base.get? b=some o→s.heap.get? b=some o∧H b=none
 bsz:base.objs.size≤s.heap.objs.size
 funs:s.heap.FunFrames base outer
 frf:∀ b∈frs outer,H b=none
 hok:HOk P w H s.heap
 bare:AllBare s.gens
 qt:Quiet A H
def CE (outer:List Env)(P:Program)(w:World)(H:Hp)(s:Shared)(Q:VK)(u:Value)(s':Shared):Prop:=
 ∃ v H',s'.os=s.os∧AllBare s'.gens∧Un (frs outer) [] H H' s.heap s'.heap∧HOk P w H' s'.heap∧RelV v u∧Q v H'
def CR (CX:CXT)(outer:List Env)(P:Program)(w:World)(H:Hp)(s:Shared)(Q:VK)(E:XK)(r:Result)(s':Shared):Prop:=
 match r with
 | .ok (.ret u)=>CE outer P w H s Q u s'
 | .ok _=>False
 | .error e=>CX outer H s E e s'
structure cH (P:Program) (w:World) (K:PySem.W.Frag) (mg:Str→Option Value) (base:Heap) (CX:CXT) (k:Nat) (f:Addr) (fd:FuncData) (ps:List Str) (sp:Sp):Prop where
 len:∀ vs H Q E,sp vs H Q E→vs.length=ps.length
 run:∀ (A:Around) (outer:List Env) (s:Shared) (H:Hp) (args:Args) (us:List Value) (vs:List V) (Q:VK) (E:XK),rK k A→Env0 P w K mg base A outer s H→BindsTo s fd args (ps.zip us)→Vals vs us→sp vs H Q E →
  codeAny (model P w) A (.call (.ref f) args) (CR CX outer P w H s Q E) s
theorem cH.mono {P:Program}{w:World}{K:PySem.W.Frag}{mg:Str→Option Value}{base:Heap}{CX:CXT}{j k:Nat}{f:Addr}{fd:FuncData}{ps:List Str}{sp:Sp}(F:cH P w K mg base CX j f fd ps sp)(h:j≤k) :
  cH P w K mg base CX k f fd ps sp:=⟨F.len,fun A outer s H args us vs Q E hr=>F.run A outer s H args us vs Q E (hr.mono h)⟩
theorem cH.imp {P:Program}{w:World}{K:PySem.W.Frag}{mg:Str→Option Value}{base:Heap}{CX:CXT}{k:Nat}{f:Addr}{fd:FuncData}{ps:List Str}{sp sp':Sp}(F:cH P w K mg base CX k f fd ps sp)
  (h:∀ vs H Q E,sp' vs H Q E→sp vs H Q E):cH P w K mg base CX k f fd ps sp':=
 ⟨fun vs H Q E q=>F.len vs H Q E (h _ _ _ _ q),fun A outer s H args us vs Q E hr he hb hv hs=>F.run A outer s H args us vs Q E hr he hb hv (h _ _ _ _ hs)⟩
section
variable {X:Cx}{pins:List (Addr×Obj)}{σ : St}{H:Hp}{s s':Shared}
theorem Inv.env0 (I:Inv X pins σ H s):Env0 X.prog X.w X.K X.mg X.base X.A X.stack s H:=
 ⟨I.ok.frames,I.ok.mod,I.bs,Nat.le_trans I.ok.bsz I.sz,I.stack,I.stkFree,I.hok,I.bare,I.qt0⟩
theorem Inv.after {Q:VK}{u:Value}(I:Inv X pins σ H s)(h:CE X.stack X.prog X.w H s Q u s'):EP X pins σ Q u s':=by
 obtain ⟨v,H',os,bare,un,hok,r,q⟩:=h
 obtain ⟨hh,g,d,t,os'⟩:=s'
 obtain rfl:os'=s.os:=os
 exact ⟨v,H',I.call (h':=hh) (g':=g) (d':=d) (t':=t) (ch:=[]) un hok bare (fun b z=>absurd z (by simp)),r,q⟩
end
def tCall (sp:Sp)(dvs:List V)(E:XK)(t:TA):TE:=fun σ H Q=>t σ H fun vs H1=>sp (vs++dvs) H1 Q E
def Binds (K:PySem.W.Frag)(fd:FuncData)(ps:List Str)(ds:List Value):Prop:=
 ∀ (s:Shared) (us:List Value),K.In s.heap→(us++ds).length=ps.length→BindsTo s fd ⟨us,[]⟩ (ps.zip (us++ds))
theorem Binds.all {K:PySem.W.Frag}{fd:FuncData}{ps:List Str}(h:∀ us:List Value,us.length=ps.length→bindArgs fd ⟨us,[]⟩=pure (ps.zip us)):Binds K fd ps []:=fun s us _ hl=>by
 rw [List.append_nil] at hl ⊢
 exact .of_eq (h us hl)
def Passes (CX:CXT)(X:Cx)(E:XK):Prop:=∀ (pins:List (Addr×Obj)) (σ : St) (H:Hp) (s:Shared) (e:Value) (s':Shared),Inv X pins σ H s→CX X.stack H s E e s'→X.xe e s'
section
variable {X:Cx}{CX:CXT}{k:Nat}{f C:Addr}{fd:FuncData}{ps:List Str}{sp:Sp}{dvs:List V}{ds:List Value}{E:XK}{x m:Str}{p pos apos:Pos}{e o:Expr}{es:List Expr}{ta:TE}{t:TA}
theorem run_fn {pins:List (Addr×Obj)}{σ : St}{H:Hp}{s:Shared}{Q:VK}{us:List Value}{vs:List V}(F:cH X.prog X.w X.K X.mg X.base CX k f fd ps sp)(hr:rK k X.A)(hb:Binds X.K fd ps ds)(hd:Vals dvs ds)(hx:Passes CX X E)
  (I:Inv X pins σ H s) (r:Vals vs us) (h:sp (vs++dvs) H Q E):wpAny (model X.prog X.w) X.A (call (.ref f) us) (EP X pins σ Q) X.xe s:=by
 have r2:Vals (vs++dvs) (us++ds):=r.append hd
 have hl:(us++ds).length=ps.length:=by rw [←r2.length];exact F.len _ _ _ _ h
 refine wpAny_call (codeAny_mono (F.run X.A X.stack s H ⟨us,[]⟩ (us++ds) (vs++dvs) Q E hr I.env0 (hb s us I.kIn hl) r2 h) fun r s' hq=>?_)
 cases r with
 | error e=>exact hx pins σ H s e s' I hq
 | ok fl=>
  cases fl with
  | ret u=>exact I.after hq
  | next=>exact False.elim hq
  | brk=>exact False.elim hq
  | cont=>exact False.elim hq
theorem pe_call (F:cH X.prog X.w X.K X.mg X.base CX k f fd ps sp)(hr:rK k X.A)(hg:Gl X x)(hm:X.mg x=some (.ref f))(hk:PySem.W.keepIn X.K (.ref f)=true)(hb:Binds X.K fd ps ds)(hd:Vals dvs ds)(hx:Passes CX X E)
  (ha:PA X (e::es) t) (hdb:(x==("__debug__" : Str))=false:=by decide) (he:starEach (e::es) X.env=(false,eval e X.env)::starEach es X.env:=by rfl) (hpl:(backTo pos (starEach es X.env)).any (·.1)=false:=by rfl) :
  PE X (.Call (.Name x p) (e::es) [] pos) (tCall sp dvs E t):=by
 intro pins s σ H Q I h
 refine wpAny_Call_Name_kw (ld_glob I hg hm ?_ hdb)
 refine PySem.W.callWith_K (h₀:=X.base) I.ok.mod.kin hk (thn (ha pos pins s σ H _ I h) fun us s1 ⟨vs,H1,I1,r,q⟩=>⟨I1.kIn,?_⟩) he hpl
 exact run_fn F hr hb hd hx I1 r q
theorem pe_call0 (F:cH X.prog X.w X.K X.mg X.base CX k f fd ps sp)(hr:rK k X.A)(hg:Gl X x)(hm:X.mg x=some (.ref f))(hk:PySem.W.keepIn X.K (.ref f)=true)(hb:Binds X.K fd ps ds)(hd:Vals dvs ds)(hx:Passes CX X E)
  (hdb:(x==("__debug__" : Str))=false:=by decide):PE X (.Call (.Name x p) [] [] pos) (tCall sp dvs E tNil):=by
 intro pins s σ H Q I h
 refine wpAny_Call_Name_kw (ld_glob I hg hm ?_ hdb)
 exact PySem.W.callWith_K0 I.kIn hk (run_fn (us:=[]) F hr hb hd hx I .nil h)
structure Mk (K:PySem.W.Frag) (C f:Addr):Prop where
 makes:PySem.W.makesIn K C=true
 init:PySem.W.findIn K (.ref C) "__init__" = some (some (.ref f))
 fn:PySem.W.isFn K (.ref f)=true
 kp:PySem.W.keepIn K (.ref C)=true
end
section
variable {X:Cx}{CX:CXT}{k:Nat}{f C:Addr}{fd:FuncData}{ps ks:List Str}{sp:Sp}{E:XK}{x m:Str}{p pos apos kpos:Pos}{e o:Expr}{es:List Expr}{kws:List Keyword}{te ta:TE}{t tk:TA}{nm:Option Str}
structure KBinds (K:PySem.W.Frag) (fd:FuncData) (ps ks:List Str) (g:List Value→List Value→List Value) (gV:List V→List V→List V):Prop where
 to:∀ (s:Shared) (us ws:List Value),K.In s.heap→(g us ws).length=ps.length→BindsTo s fd ⟨us,ks.zip ws⟩ (ps.zip (g us ws))
 rel:∀ {vs:List V} {us:List Value} {zs:List V} {ws:List Value},Vals vs us→Vals zs ws→Vals (gV vs zs) (g us ws)
variable {g:List Value→List Value→List Value}{gV:List V→List V→List V}
end
structure aN (N P:List Str) (sc:Scope):Prop where
 kind:sc.kind=.function
 co:sc.isCoroutine=false
 gen:sc.isGenerator=false
 nd:N.Nodup
 pre:N.take P.length=P
 par:∀ x∈P,sc.names.lookup x=some .local∨sc.names.lookup x=some .cell
 nofree:∀ y∈sc.names,y.2≠.free
theorem z9 {kindOf:Str→Option NameKind}{x:Str}:∀ {binds:List (Str×Value)} {m:Str→Option Value},(∀ v,(x,v)∉binds)→bindL kindOf binds m x=m x
 | [],_,_=>rfl
 | (n,v)::r,m,h=>by
  unfold bindL
  rw [z9 fun w hw=>h w (List.mem_cons_of_mem _ hw)]
  split
  ·have:x≠n:=by rintro rfl;exact h v List.mem_cons_self
   simp [this]
  ·rfl
theorem bindC_out {kindOf:Str→Option NameKind}{x:Str}:∀ {binds:List (Str×Value)} {m:Str→Option Value},(∀ v,(x,v)∉binds)→bindC kindOf binds m x=m x
 | [],_,_=>rfl
 | (n,v)::r,m,h=>by
  unfold bindC
  rw [bindC_out fun w hw=>h w (List.mem_cons_of_mem _ hw)]
  split
  ·rfl
  ·have:x≠n:=by rintro rfl;exact h v List.mem_cons_self
   simp [this]
theorem zu {kindOf:Str→Option NameKind}{x:Str}{v:Value}:∀ {P:List Str} {vs:List Value} {i:Nat} {m:Str→Option Value},P.Nodup→P[i]?=some x→vs[i]?=some v→kindOf x=some .local →
  bindL kindOf (P.zip vs) m x=some v
 | [],_,_,_,_,h,_,_=>by simp at h
 | _::_,[],_,_,_,_,h,_=>by simp at h
 | p::P,w::vs,0,m,nd,h1,h2,hk=>by
  simp at h1 h2;subst h1;subst h2
  show bindL kindOf ((p,w)::P.zip vs) m p=_
  unfold bindL
  rw [z9 fun v hv=>(List.nodup_cons.mp nd).1 (List.of_mem_zip hv).1,if_pos hk]
  simp
 | p::P,w::vs,i+1,m,nd,h1,h2,hk=>by
  show bindL kindOf ((p,w)::P.zip vs) m x=_
  unfold bindL
  exact zu (i:=i) (List.nodup_cons.mp nd).2 (by simpa using h1) (by simpa using h2) hk
theorem zA {kindOf:Str→Option NameKind}{x:Str}{v:Value}:∀ {P:List Str} {vs:List Value} {i:Nat} {m:Str→Option Value},P.Nodup→P[i]?=some x→vs[i]?=some v→kindOf x≠some .local →
  bindC kindOf (P.zip vs) m x=some v
 | [],_,_,_,_,h,_,_=>by simp at h
 | _::_,[],_,_,_,_,h,_=>by simp at h
 | p::P,w::vs,0,m,nd,h1,h2,hk=>by
  simp at h1 h2;subst h1;subst h2
  show bindC kindOf ((p,w)::P.zip vs) m p=_
  unfold bindC
  rw [bindC_out fun v hv=>(List.nodup_cons.mp nd).1 (List.of_mem_zip hv).1,if_neg hk]
  simp
 | p::P,w::vs,i+1,m,nd,h1,h2,hk=>by
  show bindC kindOf ((p,w)::P.zip vs) m x=_
  unfold bindC
  exact zA (i:=i) (List.nodup_cons.mp nd).2 (by simpa using h1) (by simpa using h2) hk
def start (N:List Str)(vs:List V):St:=vs.map some++List.replicate (N.length - vs.length) none
def cxOf (CX:CXT)(P:Program)(w:World)(K:PySem.W.Frag)(mg:Str→Option Value)(base:Heap)(N:List Str)(qual:Str)(scope:Scope)(f:Addr)(cd:Value)(A:Around)(outer:List Env)(s:Shared)(H:Hp)(E:XK):Cx where
 prog:=P
 w:=w
 K:=K
 mg:=mg
 base:=base
 A:=A.deeper (envOfC qual scope s.heap.objs.size f cd)
 N:=N
 s₀:=s
 H₀:=H
 env:=envOfC qual scope s.heap.objs.size f cd
 outer:=outer
 stack:=envOfC qual scope s.heap.objs.size f cd::outer
 ex:=[]
 calm:=A.handled.isNone
 fn:=fun _=>true
 pn:=[]
 xe:=fun e s'=>wpAny (model P w) (A.deeper (envOfC qual scope s.heap.objs.size f cd)) (leaving (envOfC qual scope s.heap.objs.size f cd) e) (fun _ s''=>CX outer H s E e s'') (fun e' s''=>CX outer H s E e' s'') s'
theorem cell_has {sc:Scope}{n:Nat}{x:Str}(h:sc.names.lookup x=some .cell):∃ c,(cellsFrom n sc.names []).lookup x=some c:=by
 have q:=PySem.W.cellsFrom_some sc.names n [] (.inl h)
 exact Option.isSome_iff_exists.mp q
theorem inv_start {CX:CXT}{P:Program}{w:World}{K:PySem.W.Frag}{mg:Str→Option Value}{base:Heap}{N ps:List Str}{qual:Str}{scope:Scope}{f:Addr}{cd:Value}{A:Around}{outer:List Env}{s s1:Shared}{H:Hp}{E:XK}{us:List Value}{vs:List V}
  (S:aN N ps scope) (e0:Env0 P w K mg base A outer s H) (hl:vs.length=ps.length) (r:Vals vs us)
  (x:InCallC s s.heap.objs.size (bindL (envOfC qual scope s.heap.objs.size f cd).kindOf (ps.zip us) fun _=>none) (cellsFrom (s.heap.objs.size+1) scope.names []) (bindC (envOfC qual scope s.heap.objs.size f cd).kindOf (ps.zip us) fun _=>none) s1) :
  Inv (cxOf CX P w K mg base N qual scope f cd A outer s H E) [] (start N vs) H s1:=by
 have hpl:ps.length≤N.length:=by have:=congrArg List.length S.pre;rw [List.length_take] at this;omega
 obtain ⟨h1,tk,rfl,hk⟩:=x.done
 have noA:∀ b:Addr,b∉(cxOf CX P w K mg base N qual scope f cd A outer s H E).ex:=fun b z=>absurd (show b∈([]:List Addr) from z) (by simp)
 refine ⟨⟨e0.mod,S.kind,rfl,rfl,Nat.le_refl _,fun y z c h1 h2=>?_,fun y hy=>?_,fun y c _ h=>?_,fun z=>Option.isNone_iff_eq_none.mp (show A.handled.isNone=true from z),e0.qt,Around.frames_deeper e0.frames,.inr ⟨rfl,rfl⟩,fun b z=>absurd z (noA b),e0.bs,e0.bsz,fun b _ _=>noA b,fun b z=>absurd z (noA b),e0.funs,e0.frf⟩,
  rfl,e0.bare,Un.kept hk,⟨_,x.toInCall.ns,fun i y v h1 h2 h3=>?_⟩,fun y c h=>⟨_,x.cell y c h⟩,e0.hok.fresh (Nat.le_refl _),fun y c h=>?_,fun p hp=>absurd (show p∈([]:List (Addr×Obj)) from hp) (by simp),e0.hok.kept hk,?_⟩
 ·exact name_of_addr x.apart (PySem.mem_of_lookup h1) (PySem.mem_of_lookup h2)
 ·have hy:scope.names.lookup y=some .cell∨scope.names.lookup y=some .free:=hy
  rcases hy with hy | hy
  ·exact cell_has hy
  ·exact absurd rfl (S.nofree _ (PySem.mem_of_lookup hy))
 ·exact Nat.le_of_lt (x.above y c (PySem.mem_of_lookup h))
 ·have hi:i<vs.length:=by
   unfold start at h2
   by_cases hi:i<vs.length
   ·exact hi
   ·rw [List.getElem?_append_right (by simpa using hi)] at h2
    rw [List.getElem?_replicate] at h2
    split at h2 <;> cases h2
  have ha:vs[i]?=some v:=by
   unfold start at h2
   rw [List.getElem?_append_left (by simpa using hi),List.getElem?_map] at h2
   cases e:vs[i]? with
   | none=>rw [e] at h2;cases h2
   | some a=>rw [e] at h2;cases h2;rfl
  obtain ⟨u,hu,rv⟩:=r.get ha
  have hp:ps[i]?=some y:=by
   rw [←S.pre,List.getElem?_take_of_lt (by omega)];exact h1
  have ndP:ps.Nodup:=by rw [←S.pre];exact S.nd.sublist (List.take_sublist _ _)
  refine ⟨u,rv,?_⟩
  rcases S.par y (List.mem_of_getElem? hp) with k | k
  ·exact .inl ⟨k,zu ndP hp hu k⟩
  ·obtain ⟨c,e⟩:=cell_has (n:=s.heap.objs.size+1) k
   refine .inr ⟨.inl k,c,e,?_⟩
   have q:=x.cell y c e
   rw [zA ndP hp hu (by show scope.names.lookup y≠_;rw [k];decide)] at q
   exact q
 ·exact e0.hok.fresh (Nat.le_of_lt (x.above y c (PySem.mem_of_lookup h)))
 ·unfold start
  show _=N.length
  rw [List.length_append,List.length_map,List.length_replicate]
  omega
theorem fn_of {CX:CXT}{P:Program}{w:World}{K:PySem.W.Frag}{mg:Str→Option Value}{base:Heap}{k:Nat}{f:Addr}{name qual:Str}{params:Arguments}{body:List Stmt}{scope:Scope}{dV kV doc pm cdv ct oc:Value}{an od:Option Addr}
  {osl:Array (Option Value)} {N ps:List Str} {sp:Sp} (lk:K.lookup f=some ⟨oc,od,.func (PySem.W.fnOf name qual params body scope dV kV doc pm an cdv ct),osl⟩) (hcd:PySem.W.codeIn K cdv qual=true) (S:aN N ps scope)
  (len:∀ vs H Q E,sp vs H Q E→vs.length=ps.length)
  (hbody:∀ (A:Around) (outer:List Env) (s:Shared) (H:Hp) (vs:List V) (Q:VK) (E:XK),rK k (A.deeper (envOfC qual scope s.heap.objs.size f cdv))→sp vs H Q E →
   ∃ t,PSs (cxOf CX P w K mg base N qual scope f cdv A outer s H E) body t∧t { nx:=fun _ H'=>Q .non H',rt:=Q } (start N vs) H) :
  cH P w K mg base CX (k+1) f (PySem.W.fnOf name qual params body scope dV kV doc pm an cdv ct) ps sp:=by
 refine ⟨len,fun A outer s H args us vs Q E hr e0 hb r hsp=>?_⟩
 have hl:=len _ _ _ _ hsp
 have KX:K.In s.heap:=e0.mod.kin.keeps fun b o e=>(e0.bs b o e).1
 have lim:s.heap.NoLimit:=e0.mod.nolimit.keeps fun b o e=>(e0.bs b o e).1
 have hkind:∀ y∈ps.zip us,scope.names.lookup y.1=some .local∨(scope.names.lookup y.1=some .cell∧((cellsFrom (s.heap.objs.size+1) scope.names []).lookup y.1).isSome=true):=fun ⟨n,v⟩ hy=>by
  rcases S.par n (List.of_mem_zip hy).1 with q | q
  ·exact .inl q
  ·exact .inr ⟨q,PySem.W.cellsFrom_some _ _ _ (.inl q)⟩
 refine codeAny_call_function hr.depth (KX _ _ lk) rfl S.co S.gen rfl (PySem.W.codeRec_of KX hcd) (hb _ _ _ _ ?_)
 refine wpAny_newFunctionEnv_cells S.kind hkind fun env he s1 x=>?_
 subst he
 refine ⟨lim.keeps x.toInCall.keep,codeAny_func ?_⟩
 obtain ⟨t,ht,hq⟩:=hbody A outer s H vs Q E (hr.deeper _) hsp
 have I:Inv (cxOf CX P w K mg base N qual scope f cdv A outer s H E) [] (start N vs) H s1:=inv_start S e0 hl r x
 refine wpAny_mono (ht [] s1 (start N vs) H _ I hq) (fun fl s' hs=>?_) fun e s' hs=>hs
 have fin:∀ {σ':St} {H':Hp} {v:V} {u:Value},Inv (cxOf CX P w K mg base N qual scope f cdv A outer s H E) [] σ' H' s'→RelV v u→Q v H'→CE outer P w H s Q u s':=
  fun {σ' H' v u} J rv q=>⟨v,H',J.os,J.bare,J.base,J.hok,rv,q⟩
 cases fl with
 | ret u=>
  obtain ⟨v,σ',H',J,rv,q⟩:=hs
  exact fin J rv q
 | next=>
  obtain ⟨σ',H',J,q⟩:=hs
  exact fin (v:=V.non) (u:=Value.none) J rfl q
 | brk=>
  obtain ⟨_,_,_,q⟩:=hs
  exact False.elim q
 | cont=>
  obtain ⟨_,_,_,q⟩:=hs
  exact False.elim q
end L2
namespace L2
open PySem PySem.Spec PyProof.Rows
section
variable {X:Cx}{x:Str}{p pos:Pos}{e:Expr}{es:List Expr}{t:TA}{id T:String}{r:List V→Hp→VK→Prop}
def tCB (r:List V→Hp→VK→Prop)(t:TA):TE:=fun σ H Q=>t σ H fun vs H1=>r vs H1 Q
theorem pe_callB (hc:jt X (.builtin id) r)(hg:Gl X x)(hm:X.mg x=none)(hv:bootBuiltins x=some (.builtin id))(ha:PA X (e::es) t)(hn:x ≠ "__name__":=by decide)(hdb:(x==("__debug__" : Str))=false:=by decide)
  (he:starEach (e::es) X.env=(false,eval e X.env)::starEach es X.env:=by rfl) (hpl:(backTo pos (starEach es X.env)).any (·.1)=false:=by rfl):PE X (.Call (.Name x p) (e::es) [] pos) (tCB r t):=by
 intro pins s σ H Q I h
 refine wpAny_Call_Name_kw (tY I hg hm hv ?_ hn hdb)
 exact PyProof.Rows.callWith_builtin1 (thn (ha pos pins s σ H _ I h) fun us s1 ⟨vs,H1,I1,r1,q1⟩=>hc pins s1 σ H1 vs us Q I1 r1 q1) he hpl
theorem pe_callTy (hc:jt X (.type T) r)(hg:Gl X x)(hm:X.mg x=none)(hv:bootBuiltins x=some (.type T))(ha:PA X (e::es) t)(hn:x ≠ "__name__":=by decide)(hdb:(x==("__debug__" : Str))=false:=by decide)
  (he:starEach (e::es) X.env=(false,eval e X.env)::starEach es X.env:=by rfl) (hpl:(backTo pos (starEach es X.env)).any (·.1)=false:=by rfl):PE X (.Call (.Name x p) (e::es) [] pos) (tCB r t):=by
 intro pins s σ H Q I h
 refine wpAny_Call_Name_kw (tY I hg hm hv ?_ hn hdb)
 exact PyProof.Rows.callWith_type1 (thn (ha pos pins s σ H _ I h) fun us s1 ⟨vs,H1,I1,r1,q1⟩=>hc pins s1 σ H1 vs us Q I1 r1 q1) he hpl
end
end L2
namespace HT
open PySem PyProof.Rows
section
open PySem.SeqAt
open PySem.AutoSeq1 (wpAny_loadPart')
open PySem.MeetsSeq PySem.MeetsSeq2 PySem.MeetsSeq3
end
section
variable {prog:Program}{w:World}{A:Around}{E:Value→Shared→Prop}{s:Shared}
theorem cat_tup {t b:Addr}{vs ws:List Value}{Q:Value→Shared→Prop}(ht:IsTup s.heap t vs.toArray)(hb:IsTup s.heap b ws.toArray)(hv:vs≠[])
  (h1:ws=[]→Q (.ref t) s) (h2:ws≠[]→Q (.ref s.heap.objs.size) { s with heap:=s.heap.push { cls:=.type "tuple",data:=.seq (vs++ws).toArray } })
  (hsz:vs.length+ws.length≤sizeLine):wpAny (model prog w) A (binaryOp .Add (.ref t) (.ref b)) Q E s:=by
 obtain ⟨⟨cls,dd,data,sl⟩,ho,hc,n,hd⟩:=id ht
 obtain ⟨⟨cls2,dd2,data2,sl2⟩,ho2,hc2,n2,hd2⟩:=id hb
 simp only at hc hd hc2 hd2
 subst hc hd hc2 hd2
 have e:vs.toArray++ws.toArray=(vs++ws).toArray:=by simp
 by_cases hw:ws=[]
 ·exact concat_meets ⟨_,ho,rfl⟩ ⟨_,ho2,rfl⟩ noFill_tuple_add seq_tuple_add PySem.F.slot_tuple_add PySem.F.entry_tuple_add (PySem.F.args_tuple_add_2 _ _)
   (tuple_addW1 t b vs.toArray ws.toArray n n2 dd dd2 sl sl2 (by simpa using hv) (by simp [hw])) ⟨ho,ho2,h1 hw⟩
 ·refine concat_meets ⟨_,ho,rfl⟩ ⟨_,ho2,rfl⟩ noFill_tuple_add seq_tuple_add PySem.F.slot_tuple_add PySem.F.entry_tuple_add (PySem.F.args_tuple_add_2 _ _)
   (tuple_addW2 t b vs.toArray ws.toArray n n2 dd dd2 sl sl2 (by simpa using hv) (by simpa using hw) (by rw [List.size_toArray,List.size_toArray];exact hsz)) ⟨ho,ho2,?_⟩
  rw [e]
  exact h2 hw
def sIx (n d:Nat):Option Int→Nat
 | none=>d
 | some v=>if v<0 then (v+(n:Int)).toNat else min v.toNat n
theorem sIx_none (n d:Nat):sIx n d none=d:=rfl
theorem sIx_nat (n d k:Nat):sIx n d (some (k:Int))=min k n:=by
 show (if (k:Int)<0 then ((k:Int)+(n:Int)).toNat else min (k:Int).toNat n)=min k n
 rw [if_neg (by omega),Int.toNat_natCast]
theorem sIx_le (n d:Nat)(hd:d≤n)(o:Option Int):sIx n d o≤n:=by
 cases o with
 | none=>exact hd
 | some v=>
  show (if v<0 then (v+(n:Int)).toNat else min v.toNat n)≤n
  by_cases hv:v<0
  ·rw [if_pos hv];omega
  ·rw [if_neg hv];exact Nat.min_le_right _ _
theorem clip_eq (v:Int)(n d:Nat):(if v<0 then max (v+(n:Int)) 0 else min v (n:Int))=((sIx n d (some v):Nat):Int):=by
 show (if v<0 then max (v+(n:Int)) 0 else min v (n:Int))=(((if v<0 then (v+(n:Int)).toNat else min v.toNat n):Nat):Int)
 by_cases hv:v<0
 ·simp only [if_pos hv];omega
 ·simp only [if_neg hv];omega
theorem adjust_gen (lo hi:Option Int)(n:Nat):Builtin.Slice.sliceAdjust lo hi 1 (n:Int)=(((sIx n 0 lo:Nat):Int),((sIx n n hi:Nat):Int)):=by
 have h1:¬ ((1:Int)<0):=by omega
 unfold Builtin.Slice.sliceAdjust
 simp only [h1,if_false]
 refine Prod.ext ?_ ?_
 ·cases lo with
  | none=>rfl
  | some v=>exact clip_eq v n 0
 ·cases hi with
  | none=>rfl
  | some v=>exact clip_eq v n n
theorem places_gen (i j:Nat):Builtin.Slice.slicePlaces (i:Int) (j:Int) 1=j - i:=by
 unfold Builtin.Slice.slicePlaces
 have h1:(1:Int)>0:=by omega
 simp only [h1,if_true,Int.ediv_one]
 split <;> omega
theorem wz {v:Value}{o:Option Int}{Q:Option Int→Shared→Prop}(p:IsPart v o)(h:Q o s):wpAny (model prog w) A (Builtin.Slice.slicePartIndex v) Q E s:=by
 cases p with
 | none=>exact slicePart_none h
 | int i t=>exact slicePart_int h
theorem jX {sl:Addr}{vl vu:Value}{lo hi:Option Int}{n:Nat}{Q:Int×Int×Nat→Shared→Prop}(hs:s.heap.IsSliceOf sl vl vu .none)(pl:IsPart vl lo)(pu:IsPart vu hi)
  (h:Q (((sIx n 0 lo:Nat):Int),1,sIx n n hi - sIx n 0 lo) s):wpAny (model prog w) A (Builtin.Slice.sliceApplied (.ref sl) (pure (n:Int))) Q E s:=by
 obtain ⟨os,hos,hcs,hds⟩:=id hs
 unfold Builtin.Slice.sliceApplied Builtin.Slice.sliceFields
 refine wpAny_bind (wpAny_bind (wpAny_field hos hds (x:=vl) rfl (wpAny_bind (wpAny_field hos hds (x:=vu) rfl (wpAny_bind (wpAny_field hos hds (x:=.none) rfl (wpAny_pure ?_)))))))
 refine wpAny_bind (slicePart_none ?_)
 show wpAny _ _ (if ((1:Int)==0)=true then _ else _) _ _ s
 rw [if_neg (by decide)]
 refine wpAny_bind (wz pl (wpAny_bind (wz pu (wpAny_bind (wpAny_pure ?_)))))
 show wpAny _ _ (match Builtin.Slice.sliceAdjust lo hi 1 (n:Int) with | (lo,hi)=>pure (lo,(1:Int),Builtin.Slice.slicePlaces lo hi 1)) _ _ s
 rw [adjust_gen lo hi n]
 show wpAny _ _ (pure (((sIx n 0 lo:Nat):Int),(1:Int),Builtin.Slice.slicePlaces ((sIx n 0 lo:Nat):Int) ((sIx n n hi:Nat):Int) 1)) _ _ s
 rw [places_gen]
 exact wpAny_pure h
theorem pick_gen (xs:Array Value)(i k:Nat):((List.range k).filterMap fun (m:Nat)=>xs[((i:Int)+(m:Int)*1).toNat]?).toArray=((xs.toList.drop i).take k).toArray:=by
 have e:(fun (m:Nat)=>xs[((i:Int)+(m:Int)*1).toNat]?)=fun m=>xs[i+m]?:=by
  funext m
  have:((i:Int)+(m:Int)*1).toNat=i+m:=by omega
  rw [this]
 rw [e]
 have:=pick_run xs i k
 rw [List.filterMap_map] at this
 have e2:((fun x=>xs[x]?) ∘ fun x=>i+x)=fun m=>xs[i+m]?:=rfl
 rw [e2] at this
 rw [this]
theorem qb {t sl:Addr}{items:Array Value}{vl vu:Value}{lo hi:Option Int}{Q:Value→Shared→Prop}(ht:IsTup s.heap t items)(hs:s.heap.IsSliceOf sl vl vu .none)(pl:IsPart vl lo)(pu:IsPart vu hi)
  (hw:¬ (sIx items.size 0 lo=0∧sIx items.size items.size hi=items.size))
  (h:Q (.ref s.heap.objs.size) { s with heap:=s.heap.push { cls:=.type "tuple",data:=.seq ((items.toList.drop (sIx items.size 0 lo)).take (sIx items.size items.size hi - sIx items.size 0 lo)).toArray } })
  (hsz:items.size≤sizeLine):wpAny (model prog w) A (getItem (.ref t) (.ref sl)) Q E s:=by
 have htake:sizeOk (.seq ((items.toList.drop (sIx items.size 0 lo)).take (sIx items.size items.size hi - sIx items.size 0 lo)).toArray):=by
  show ((items.toList.drop (sIx items.size 0 lo)).take (sIx items.size items.size hi - sIx items.size 0 lo)).toArray.size≤sizeLine
  rw [List.size_toArray,List.length_take,List.length_drop,Array.length_toList]
  omega
 have hj:sIx items.size items.size hi≤items.size:=sIx_le _ _ (Nat.le_refl _) hi
 obtain ⟨os,hos,hcs,hds⟩:=id hs
 have hTs:s.TypeIs (.ref sl) "slice":=⟨os,hos,hcs⟩
 unfold getItem
 try with_reducible refine wpAny_holding ?_
 first | refine wpAny_bind (wpAny_pure ?_) | skip
 refine wpAny_bind (wpAny_sequenceKey ht.typeIs (by decide) ?_)
 refine wpAny_bind (wpAny_callSpecial?_slot (name:=Str.ofString "__getitem__") ht.typeIs PyProof.Rows.slot_tuple_getitem
  (wpAny_call_entry PyProof.Rows.slot_tuple_getitem ht.typeIs entry_tuple_getitem ?_ (args_tuple_getitem _ _)))
 show wpAny _ _ (Builtin.Tuple.tupleItemsOf (.ref t) >>= _) _ _ s
 refine wpAny_bind (tupleItemsOf_ ht ?_)
 refine wpAny_bind (wpAny_typeOf hTs ?_)
 rw [if_pos (by decide)]
 refine wpAny_bind (jX hs pl pu ?_)
 have hno:¬ ((((sIx items.size 0 lo:Nat):Int)==0&&(1:Int)==1&&(sIx items.size items.size hi - sIx items.size 0 lo)==items.size)=true):=by
  intro q
  rw [Bool.and_eq_true,Bool.and_eq_true] at q
  have q1:((sIx items.size 0 lo:Nat):Int)=0:=eq_of_beq q.1.1
  have q2:sIx items.size items.size hi - sIx items.size 0 lo=items.size:=eq_of_beq q.2
  exact hw ⟨by omega,by omega⟩
 show wpAny _ _ (if (((sIx items.size 0 lo:Nat):Int)==0&&(1:Int)==1&&(sIx items.size items.size hi - sIx items.size 0 lo)==items.size)=true then _ else _) _ _ s
 rw [if_neg hno,pick_gen]
 first
  | exact wpAny_bind (m:=Builtin.Tuple.tupleExact _) (wpAny_newObj_type (wpAny_pure ⟨_,rfl,wpAny_pure h⟩) htake)
  | exact wpAny_bind (m:=Builtin.Tuple.tupleExact _) (wpAny_newObj_type (wpAny_bind (wpAny_pure (wpAny_pure ⟨_,rfl,wpAny_pure h⟩))) htake)
  | exact wpAny_bind (wpAny_bind (m:=Builtin.Tuple.tupleExact _) (wpAny_newObj_type (wpAny_pure (wpAny_pure ⟨_,rfl,wpAny_pure h⟩)) htake))
  | exact wpAny_bind (wpAny_bind (m:=Builtin.Tuple.tupleExact _) (wpAny_newObj_type (wpAny_pure ⟨_,rfl,wpAny_pure h⟩) htake))
end
end HT
namespace L2
open PySem PySem.Spec PyProof.Rows
abbrev TO:=St→Hp→(Option Int→Hp→Prop)→Prop
def PO (X:Cx)(e:Option Expr)(t:TO):Prop:=
 ∀ (pins:List (Addr×Obj)) (s:Shared) (σ : St) (H:Hp) (Q:Option Int→Hp→Prop),Inv X pins σ H s→t σ H Q →
  wpAny (model X.prog X.w) X.A (evalPart e X.env) (fun u s'=>∃ o H',Inv X pins σ H' s'∧IsPart u o∧Q o H') X.xe s
def tNoPart:TO:=fun _ H Q=>Q none H
def tPart (t:TE):TO:=fun σ H Q=>t σ H fun x H1=>∃ i,x=.int i∧Q (some i) H1
section
variable {X:Cx}{e:Expr}{te:TE}{lo hi:Option Expr}{tl th:TO}{pos p2:Pos}
theorem po_none:PO X none tNoPart:=by
 intro pins s σ H Q I h
 rw [evalPart_none]
 exact wpAny_pure ⟨none,H,I,.none,h⟩
theorem po_some (h:PE X e te):PO X (some e) (tPart te):=by
 intro pins s σ H Q I hw
 rw [evalPart_some]
 refine thn (h pins s σ H _ I hw) fun u s1 ⟨x,H1,I1,r1,q1⟩=>?_
 obtain ⟨i,rfl,q⟩:=q1
 obtain ⟨t,rfl⟩:=r1
 exact ⟨some i,H1,I1,.int i t,q⟩
def SlR (X:Cx)(r:V→Option Int→Option Int→Hp→VK→Prop):Prop:=
 ∀ (pins:List (Addr×Obj)) (s:Shared) (σ : St) (H:Hp) (x:V) (v vl vu:Value) (lo hi:Option Int) (sl:Addr) (Q:VK),Inv X pins σ H s→RelV x v→s.heap.IsSliceOf sl vl vu .none→IsPart vl lo→IsPart vu hi→r x lo hi H Q →
  ∃ T id,typeLookup (.type T) "__getitem__" = pure (some (.builtin id))∧s.TypeIs v T∧wpAny (model X.prog X.w) X.A (getItem v (.ref sl)) (EP X pins σ Q) X.xe s
theorem SlR.or {r r':V→Option Int→Option Int→Hp→VK→Prop}(h:SlR X r)(h':SlR X r'):SlR X (fun x lo hi H Q=>r x lo hi H Q∨r' x lo hi H Q):=by
 intro pins s σ H x v vl vu lo hi sl Q I rx hs pl pu q
 rcases q with q | q
 ·exact h pins s σ H x v vl vu lo hi sl Q I rx hs pl pu q
 ·exact h' pins s σ H x v vl vu lo hi sl Q I rx hs pl pu q
def tSl (r:V→Option Int→Option Int→Hp→VK→Prop)(te:TE)(tl th:TO):TE:=fun σ H Q=>te σ H fun x H1=>tl σ H1 fun l H2=>th σ H2 fun u H3=>r x l u H3 Q
theorem pe_slice {r:V→Option Int→Option Int→Hp→VK→Prop}(hr:SlR X r)(he:PE X e te)(hl:PO X lo tl)(hu:PO X hi th):PE X (.Subscript e (.Slice lo hi none p2) pos) (tSl r te tl th):=by
 intro pins s σ H Q I h
 refine Subscript_ (thn (he pins s σ H _ I h) fun v s1 ⟨x,H1,I1,r1,q1⟩=>?_)
 refine wpAny_Slice (thn (hl pins s1 σ H1 _ I1 q1) fun vl s2 ⟨l,H2,I2,pl,q2⟩=>thn (hu pins s2 σ H2 _ I2 q2) fun vu s3 ⟨u,H3,I3,pu,q3⟩=>?_)
 rw [evalPart_none]
 refine wpAny_pure ?_
 have I4:Inv X pins σ H3 { s3 with heap:=s3.heap.push { cls:=.type "slice",data:=.fields #[vl,vu,.none] } }:=I3.kept (t':=s3.toks) fun b ob q=>Heap.get?_push_of_some _ q
 obtain ⟨T,id,hT,ht,hg⟩:=hr pins { s3 with heap:=s3.heap.push { cls:=.type "slice",data:=.fields #[vl,vu,.none] } } σ H3 x v vl vu l u s3.heap.objs.size Q I4 r1 (Heap.IsSliceOf.new ..) pl pu q3
 show wpAny (model X.prog X.w) X.A (subscriptTail e (.Slice lo hi none p2) v (.ref s3.heap.objs.size)) (EP X pins σ Q) X.xe { s3 with heap:=s3.heap.push { cls:=.type "slice",data:=.fields #[vl,vu,.none] } }
 exact tail_any (ops:=[.ref s3.heap.objs.size,v]) ht hT hg (by with_unfolding_all rfl)
def cutV (xs:List V)(lo hi:Option Int):List V:=(xs.drop (HT.sIx xs.length 0 lo)).take (HT.sIx xs.length xs.length hi - HT.sIx xs.length 0 lo)
theorem tZ (xs:List V)(lo hi:Option Int):(cutV xs lo hi).length≤xs.length:=by
 unfold cutV
 rw [List.length_take,List.length_drop]
 omega
def rSlT (K:PySem.W.Frag):V→Option Int→Option Int→Hp→VK→Prop:=fun x lo hi H Q=>∃ a xs,x=.ref a∧SqT K H a xs ∧
 ¬ (HT.sIx xs.length 0 lo=0∧HT.sIx xs.length xs.length hi=xs.length)∧∀ p,H p=none→Q (.ref p) (upd H p (.tup (cutV xs lo hi)))
theorem sl_tup:SlR X (rSlT X.K):=by
 intro pins s σ H x v vl vu lo hi sl Q I rx hs pl pu h
 obtain ⟨a,xs,rfl,hx,hw,q⟩:=h
 cases rx
 obtain ⟨its,r,ht,hz⟩:=I.tuple hx
 have hlen:its.toArray.size=xs.length:=by rw [List.size_toArray];exact r.length.symm
 refine ⟨"tuple",_,PyProof.Rows.slot_tuple_getitem.lookup,ht.typeIs,?_⟩
 refine HT.qb ht hs pl pu (by rw [hlen];exact hw) ?_ (by rw [hlen];exact hz)
 rw [hlen]
 refine ⟨.ref s.heap.objs.size,_,I.laid (t':=s.toks) (o:=.tup (cutV xs lo hi)) (fun b ob q=>Heap.get?_push_of_some _ q) (Nat.le_refl _) ?_,rfl,q _ (I.hok.fresh (Nat.le_refl _))⟩
 exact ⟨Nat.le_trans (tZ xs lo hi) hz,_,(r.drop (HT.sIx xs.length 0 lo)).take (HT.sIx xs.length xs.length hi - HT.sIx xs.length 0 lo),IsTup.new _ _⟩
def rCatT (K:PySem.W.Frag):R2:=fun x y H Q=>∃ a b xs ys,x=.ref a∧y=.ref b∧SqT K H a xs∧SqT K H b ys∧xs≠[]∧xs.length+ys.length≤sizeLine ∧
 (ys=[]→Q (.ref a) H)∧(ys≠[]→∀ p,H p=none→Q (.ref p) (upd H p (.tup (xs++ys))))
theorem Vals.nil_iff {xs:List V}{us:List Value}(r:Vals xs us):us=[]↔xs=[]:=by
 cases r with
 | nil=>simp
 | cons _ _=>simp
theorem op_catT:OpR X (binaryOp .Add) (rCatT X.K):=by
 intro pins s σ H x y v u Q I rx ry h
 obtain ⟨a,b,xs,ys,rfl,rfl,ha,hb,hx,hz,q1,q2⟩:=h
 cases rx
 cases ry
 obtain ⟨its,r1,p1,_⟩:=I.tuple ha
 obtain ⟨its2,r2,p2,_⟩:=I.tuple hb
 refine HT.cat_tup p1 p2 (fun z=>hx (r1.nil_iff.mp z)) (fun z=>⟨.ref a,H,I,rfl,q1 (r2.nil_iff.mp z)⟩) (fun z=>?_) (by rw [←r1.length,←r2.length];exact hz)
 refine ⟨.ref s.heap.objs.size,_,I.laid (t':=s.toks) (o:=.tup (xs++ys)) (fun b ob q=>Heap.get?_push_of_some _ q) (Nat.le_refl _) ?_,rfl,q2 (fun w=>z (r2.nil_iff.mpr w)) _ (I.hok.fresh (Nat.le_refl _))⟩
 exact ⟨by rw [List.length_append];exact hz,_,r1.append r2,IsTup.new _ _⟩
end
end L2
namespace L2
open PySem PySem.Spec PyProof.Rows
def ixN (n:Nat)(i:Int):Option Nat:=if 0≤i then (if i<n then some i.toNat else none) else if -(n:Int)≤i then some (i+n).toNat else none
def atI {α : Type}(xs:List α)(i:Int):Option α:=(ixN xs.length i).bind fun j=>xs[j]?
theorem ixN_seq {n:Nat}{i:Int}{j:Nat}(h:ixN n i=some j):seqIndex? i n=some j∧j<n∧-(n:Int)≤i∧i<n:=by
 unfold ixN at h
 by_cases h0:0≤i
 ·rw [if_pos h0] at h
  by_cases h1:i<n
  ·rw [if_pos h1] at h
   have e:i.toNat=j:=Option.some.inj h
   exact ⟨by rw [seqIndex_of h0 h1,e],by omega,by omega,h1⟩
  ·rw [if_neg h1] at h;cases h
 ·rw [if_neg h0] at h
  by_cases h1:-(n:Int)≤i
  ·rw [if_pos h1] at h
   have e:(i+n).toNat=j:=Option.some.inj h
   exact ⟨by rw [seqIndex_neg (by omega) h1,e],by omega,h1,by omega⟩
  ·rw [if_neg h1] at h;cases h
theorem atI_get {α : Type}{xs:List α}{i:Int}{v:α}(h:atI xs i=some v):∃ j,seqIndex? i xs.length=some j∧xs[j]?=some v∧j<xs.length∧-(xs.length:Int)≤i∧i<xs.length:=by
 unfold atI at h
 cases e:ixN xs.length i with
 | none=>rw [e] at h;cases h
 | some j=>
  rw [e] at h
  obtain ⟨h1,h2,h3,h4⟩:=ixN_seq e
  exact ⟨j,h1,h,h2,h3,h4⟩
theorem nF {α : Type}{xs:List α}{j:Nat}{v:α}(h:xs[j]?=some v):atI xs (j:Int)=some v:=by
 have hj:j<xs.length:=(List.getElem?_eq_some_iff.mp h).1
 have e:ixN xs.length (j:Int)=some j:=by
  unfold ixN
  rw [if_pos (by omega),if_pos (by omega)];simp
 unfold atI;rw [e];exact h
theorem yc {α : Type}(xs:List α)(v:α):atI (xs++[v]) (-1)=some v:=by
 have hl:(xs++[v]).length=xs.length+1:=by simp
 have e:ixN (xs++[v]).length (-1)=some xs.length:=by
  unfold ixN
  rw [hl,if_neg (by decide),if_pos (by omega)]
  congr 1
  omega
 unfold atI
 rw [e]
 show (xs++[v])[xs.length]?=some v
 simp
def PlainIx (b:Expr):Prop:=∀ o i,subscripted b false o i=operate [o,i] (getItem o i)
def IxR (X:Cx)(r:R2):Prop:=
 ∀ (value slice:Expr) (pins:List (Addr×Obj)) (s:Shared) (σ : St) (H:Hp) (x y:V) (v u:Value) (Q:VK),Inv X pins σ H s→RelV x v→RelV y u→r x y H Q →
  subscripted slice false v u=operate [v,u] (getItem v u)→wpAny (model X.prog X.w) X.A (subscriptTail value slice v u) (EP X pins σ Q) X.xe s
def MtR (X:Cx)(id:String)(r:V→List V→Hp→VK→Prop):Prop:=
 ∀ (pins:List (Addr×Obj)) (s:Shared) (σ : St) (H:Hp) (x:V) (xs:List V) (v:Value) (us:List Value) (Q:VK),Inv X pins σ H s→RelV x v→Vals xs us→r x xs H Q →
  wpAny (model X.prog X.w) X.A (call (.builtin id) (v::us)) (EP X pins σ Q) X.xe s
section
variable {X:Cx}{a b:Expr}{ta tb:TE}{pos:Pos}
theorem IxR.or {r r':R2}(h:IxR X r)(h':IxR X r'):IxR X (fun x y H Q=>r x y H Q∨r' x y H Q):=by
 intro value slice pins s σ H x y v u Q I rx ry q hs
 rcases q with q | q
 ·exact h value slice pins s σ H x y v u Q I rx ry q hs
 ·exact h' value slice pins s σ H x y v u Q I rx ry q hs
theorem pe_ix {r:R2}(hr:IxR X r)(ha:PE X a ta)(hb:PE X b tb)(hs:PlainIx b):PE X (.Subscript a b pos) (tOp r ta tb):=by
 intro pins s σ H Q I h
 exact Subscript_ (binT ha hb I h fun v u s2 x y H2 I2 rx ry q=>hr a b pins s2 σ H2 x y v u Q I2 rx ry q (hs _ _))
def rIxL (K:PySem.W.Frag):R2:=fun x y H Q=>∃ p xs i v,x=.ref p∧y=.int i∧SqL K H p xs∧atI xs i=some v∧Q v H
def rIxT (K:PySem.W.Frag):R2:=fun x y H Q=>∃ p xs i v,x=.ref p∧y=.int i∧SqT K H p xs∧atI xs i=some v∧Q v H
def rIxS:R2:=fun x y H Q=>∃ z i c,x=.str z∧y=.int i∧z.length≤sizeLine∧atI z.cps.toList i=some c∧Q (.str ⟨#[c]⟩) H
theorem ix_list:IxR X (rIxL X.K):=by
 intro value slice pins s σ H x y v u Q I rx ry h hs
 obtain ⟨p,xs,i,z,rfl,rfl,hq,he,q⟩:=h
 cases rx
 obtain ⟨t,rfl⟩:=ry
 obtain ⟨its,r,pl,hz⟩:=I.list hq
 obtain ⟨j,h1,h2,h3,h4,h5⟩:=atI_get he
 obtain ⟨w,ew,rw'⟩:=r.get h2
 have hl:=r.length
 have hn:=qR
 have fin:EP X pins σ Q w s:=⟨z,H,I,rw',q⟩
 by_cases h0:0≤i
 ·have hj:i.toNat=j:=by
   rw [seqIndex_of h0 h5] at h1
   exact Option.some.inj h1
  exact item_listR pl.isList h0 (by omega) (by rw [hj];simpa using ew) fin hs
 ·have hj:(i+(its.toArray.size:Int)).toNat=j:=by
   rw [seqIndex_neg (by omega) h4] at h1
   rw [List.size_toArray,←hl]
   exact Option.some.inj h1
  exact subscriptTail_builtinR (x:=w) pl.isList.typeIs slot_list_getitem.lookup
   (wpAny_getItem_list_neg (Q:=fun r s'=>r=w∧EP X pins σ Q r s') pl.isList (by omega) (by rw [List.size_toArray] <;> omega) (by omega) (by rw [hj];simpa using ew) ⟨rfl,fin⟩) hs
theorem ix_tup:IxR X (rIxT X.K):=by
 intro value slice pins s σ H x y v u Q I rx ry h hs
 obtain ⟨p,xs,i,z,rfl,rfl,hq,he,q⟩:=h
 cases rx
 obtain ⟨t,rfl⟩:=ry
 obtain ⟨its,r,pl,hz⟩:=I.tuple hq
 obtain ⟨j,h1,h2,h3,h4,h5⟩:=atI_get he
 obtain ⟨w,ew,rw'⟩:=r.get h2
 have hl:=r.length
 have hn:=qR
 have fin:EP X pins σ Q w s:=⟨z,H,I,rw',q⟩
 exact subscriptTail_builtinR (x:=w) pl.typeIs slot_tuple_getitem.lookup
  (getItem_tuple (j:=j) (Q:=fun r s'=>r=w∧EP X pins σ Q r s') pl (by omega) (by omega) (by rw [List.size_toArray,←hl];exact h1) (by simpa using ew) ⟨rfl,fin⟩) hs
theorem ix_str:IxR X rIxS:=by
 intro value slice pins s σ H x y v u Q I rx ry h hs
 obtain ⟨z,i,c,rfl,rfl,hz,he,q⟩:=h
 obtain ⟨t,rfl⟩:=rx
 obtain ⟨t',rfl⟩:=ry
 obtain ⟨j,h1,h2,h3,h4,h5⟩:=atI_get he
 have hl:z.cps.toList.length=z.length:=by simp [Str.length]
 rw [hl] at h1 h4 h5
 have hn:=qR
 exact tail_any (typeIs_str s z t) slot_str_getitem.lookup (getItem_str (c:=c) (by
  have e1:decide (i < -(2^63:Int))=false:=decide_eq_false (by omega)
  have e2:decide (i≥2^63)=false:=decide_eq_false (by omega)
  rw [e1,e2,Bool.or_false]) (by rw [h1];simpa using h2) ⟨.str ⟨#[c]⟩,H,I.tok _,⟨_,rfl⟩,q⟩) hs
def rIx (K:PySem.W.Frag):R2:=fun x y H Q=>rIxL K x y H Q∨rIxT K x y H Q∨rIxS x y H Q
theorem ix_seq:IxR X (rIx X.K):=ix_list.or (ix_tup.or ix_str)
theorem mapSeq_set (its:List Value)(n j:Nat)(u:Value):Obj.mapSeq (·.setIfInBounds j u) { cls:=.type "list",data:=.seq its.toArray n } = { cls:=.type "list",data:=.seq (its.set j u).toArray n }:=by
 simp [Obj.mapSeq]
theorem Inv.lst {pins:List (Addr×Obj)}{σ : St}{H:Hp}{s:Shared}{p:Addr}{xs:List V}(I:Inv X pins σ H s)(h:H p=some (.lst xs)) :
  ∃ (its:List Value) (n:Nat),Vals xs its∧s.heap.get? p=some { cls:=.type "list",data:=.seq its.toArray n }∧xs.length≤sizeLine:=by
 obtain ⟨z,its,n,r,e⟩:=I.hok p _ h
 exact ⟨its,n,r,e,z⟩
theorem Inv.lstUpd {pins:List (Addr×Obj)}{σ : St}{H:Hp}{s:Shared}{p:Addr}{xs ys:List V}{its its':List Value}{n n':Nat}{f:Obj→Obj}(I:Inv X pins σ H s)(h:H p=some (.lst xs))
  (ho:s.heap.get? p=some { cls:=.type "list",data:=.seq its.toArray n }) (hf:f { cls:=.type "list",data:=.seq its.toArray n } = { cls:=.type "list",data:=.seq its'.toArray n' }) (r:Vals ys its') (hz:ys.length≤sizeLine) (t:Nat) :
  Inv X pins σ (upd H p (.lst ys)) { s with heap:=s.heap.update p f,toks:=t }:=by
 have e:(s.heap.update p f).get? p=some { cls:=.type "list",data:=.seq its'.toArray n' }:=by
  rw [Heap.get?_update_self f ho (by rw [hf] <;> rfl),hf]
 refine I.write (x:=p) (e:=p) (by rw [h];trivial) (.inl rfl) (fun b u hb q=>(Heap.get?_update_other _ _ (Ne.symm hb)).trans q) ⟨_,e⟩ ?_
 exact ⟨hz,its',n',r,e⟩
def rSetL:V→V→V→Hp→(Hp→Prop)→Prop:=fun o i v H Q=>∃ p xs k j,o=.ref p∧i=.int k∧H p=some (.lst xs)∧ixN xs.length k=some j∧Q (upd H p (.lst (xs.set j v)))
theorem set_list:PSet X rSetL:=by
 intro pins s σ H o i v ov iv u Q I ro ri rv h
 obtain ⟨p,xs,k,j,rfl,rfl,hp,hj,q⟩:=h
 cases ro
 obtain ⟨t,rfl⟩:=ri
 obtain ⟨its,n,r,ho,hz⟩:=I.lst hp
 obtain ⟨h1,h2,h3,h4⟩:=ixN_seq hj
 have hl:=r.length
 have hn:=qR
 have I':Inv X pins σ (upd H p (.lst (xs.set j v))) { s with heap:=s.heap.update p (Obj.mapSeq (·.setIfInBounds j u)) }:=
  I.lstUpd hp ho (mapSeq_set its n j u) (r.set rv j) (by rw [List.length_set];exact hz) s.toks
 by_cases h0:0≤k
 ·have hk:k.toNat=j:=by
   rw [seqIndex_of h0 h4] at h1
   exact Option.some.inj h1
  exact PySem.W.ki_setAt ho h0 (by omega) (by rw [List.size_toArray,←hl];exact h4) (by rw [hk];exact ⟨_,I',q⟩)
 ·have hk:(k+(its.toArray.size:Int)).toNat=j:=by
   rw [seqIndex_neg (by omega) h3] at h1
   rw [List.size_toArray,←hl]
   exact Option.some.inj h1
  exact PySem.W.ki_setBack ho (by omega) (by rw [List.size_toArray,←hl];exact h3) (by omega) (by rw [hk];exact ⟨_,I',q⟩)
theorem za (lo hi:Option Int)(n:Nat):(sliceBounds lo hi none n).1=((HT.sIx n 0 lo:Nat):Int)∧(sliceBounds lo hi none n).2.1=((HT.sIx n n hi:Nat):Int)∧(sliceBounds lo hi none n).2.2=1:=by
 refine ⟨?_,?_,rfl⟩
 ·cases lo with
  | none=>simp [sliceBounds,HT.sIx]
  | some i=>
   simp only [sliceBounds,HT.sIx,Option.getD_none,show (1:Int)>0 by decide,if_true]
   by_cases h:i<0
   ·simp only [h,if_true] <;> omega
   ·simp only [h,if_false] <;> omega
 ·cases hi with
  | none=>simp [sliceBounds,HT.sIx]
  | some i=>
   simp only [sliceBounds,HT.sIx,Option.getD_none,show (1:Int)>0 by decide,if_true]
   by_cases h:i<0
   ·simp only [h,if_true] <;> omega
   ·simp only [h,if_false] <;> omega
theorem wZ (its:List Value)(lo hi:Option Int):slicePick its.toArray lo hi none=((its.drop (HT.sIx its.length 0 lo)).take (HT.sIx its.length its.length hi - HT.sIx its.length 0 lo)).toArray:=by
 obtain ⟨h1,h2,h3⟩:=za lo hi its.toArray.size
 unfold slicePick
 rw [h1,h2,h3]
 simp only [sliceRange_one,pick_run,List.size_toArray] <;> rfl
def rSlL (K:PySem.W.Frag):V→Option Int→Option Int→Hp→VK→Prop:=fun x lo hi H Q=>∃ a xs,x=.ref a∧SqL K H a xs∧∀ p,H p=none→Q (.ref p) (upd H p (.lst (cutV xs lo hi)))
theorem sl_list:SlR X (rSlL X.K):=by
 intro pins s σ H x v vl vu lo hi sl Q I rx hs pl pu h
 obtain ⟨a,xs,rfl,hx,q⟩:=h
 cases rx
 obtain ⟨its,r,ht,hz⟩:=I.list hx
 have hlen:=r.length
 refine ⟨"list",_,slot_list_getitem.lookup,ht.isList.typeIs,?_⟩
 refine wpAny_getItem_list_slice ht.isList hs pl pu .none (by simp) ?_ (by rw [List.size_toArray] <;> omega)
 rw [wZ,←hlen]
 refine ⟨.ref s.heap.objs.size,_,I.laid (t':=s.toks) (o:=.lst (cutV xs lo hi)) (fun b ob q=>Heap.get?_push_of_some _ q) (Nat.le_refl _) ?_,rfl,q _ (I.hok.fresh (Nat.le_refl _))⟩
 exact ⟨Nat.le_trans (tZ xs lo hi) hz,_,0,(r.drop (HT.sIx xs.length 0 lo)).take (HT.sIx xs.length xs.length hi - HT.sIx xs.length 0 lo),Heap.get?_push_size _ rfl⟩
def uY:V→Bool
 | .non=>true
 | .bl _=>true
 | .int _=>true
 | .str _=>true
 | _=>false
def eqV:V→V→Bool
 | .non,.non=>true
 | .bl a,.bl b=>a==b
 | .bl a,.int b=>(if a then 1 else 0)==b
 | .int a,.bl b=>a==(if b then 1 else 0)
 | .int a,.int b=>a==b
 | .str a,.str b=>a==b
 | _,_=>false
theorem eqAt_V {A:Around}{s:Shared}{y x:V}{u v:Value}(ry:RelV y u)(rx:RelV x v)(fy:uY y=true)(fx:uY x=true):SeqAt.EqAt A s u v (eqV y x):=by
 cases y with
 | non=>
  cases ry
  cases x with
  | non=>cases rx;exact SeqAt.EqAt.same _
  | bl b=>cases rx;exact SeqAt.EqAt.none_bool b
  | int b=>obtain ⟨t,rfl⟩:=rx;exact SeqAt.EqAt.none_int b t
  | str b=>obtain ⟨t,rfl⟩:=rx;exact SeqAt.EqAt.none_str b t
  | _=>exact absurd (show false=true from fx) Bool.false_ne_true
 | bl a=>
  cases ry
  cases x with
  | non=>cases rx;exact SeqAt.EqAt.bool_none a
  | bl b=>cases rx;exact SeqAt.EqAt.bool_bool a b
  | int b=>obtain ⟨t,rfl⟩:=rx;exact SeqAt.EqAt.bool_int a b t
  | str b=>obtain ⟨t,rfl⟩:=rx;exact SeqAt.EqAt.bool_str a b t
  | _=>exact absurd (show false=true from fx) Bool.false_ne_true
 | int a=>
  obtain ⟨t',rfl⟩:=ry
  cases x with
  | non=>cases rx;exact SeqAt.EqAt.int_none a t'
  | bl b=>cases rx;exact SeqAt.EqAt.int_bool a t' b
  | int b=>obtain ⟨t,rfl⟩:=rx;exact SeqAt.EqAt.int_int a t' b t
  | str b=>obtain ⟨t,rfl⟩:=rx;exact SeqAt.EqAt.int_str a t' b t
  | _=>exact absurd (show false=true from fx) Bool.false_ne_true
 | str a=>
  obtain ⟨t',rfl⟩:=ry
  cases x with
  | non=>cases rx;exact SeqAt.EqAt.str_none a t'
  | bl b=>cases rx;exact SeqAt.EqAt.str_bool a t' b
  | int b=>obtain ⟨t,rfl⟩:=rx;exact SeqAt.EqAt.str_int a t' b t
  | str b=>obtain ⟨t,rfl⟩:=rx;exact SeqAt.EqAt.str_str a t' b t
  | _=>exact absurd (show false=true from fx) Bool.false_ne_true
 | _=>exact absurd (show false=true from fy) Bool.false_ne_true
def eqU (x:V)(u:Value):Bool:=match u with
 | .none=>eqV .non x
 | .bool b=>eqV (.bl b) x
 | .int i _=>eqV (.int i) x
 | .str z _=>eqV (.str z) x
 | _=>false
theorem eqU_of {x y:V}{u:Value}(r:RelV y u)(f:uY y=true):eqU x u=eqV y x:=by
 cases y with
 | non=>cases r;rfl
 | bl b=>cases r;rfl
 | int i=>obtain ⟨t,rfl⟩:=r;rfl
 | str z=>obtain ⟨t,rfl⟩:=r;rfl
 | _=>exact absurd (show false=true from f) Bool.false_ne_true
theorem any_eqU {x:V}:∀ {xs:List V} {us:List Value},Vals xs us→xs.all uY=true→us.any (eqU x)=xs.any fun y=>eqV y x
 | _,_,.nil,_=>rfl
 | y::xs,u::us,.cons r t,f=>by
  rw [List.all_cons,Bool.and_eq_true] at f
  rw [List.any_cons,List.any_cons,eqU_of r f.1,any_eqU t f.2]
theorem yp {A:Around}{s:Shared}{x:V}{v:Value}(rx:RelV x v)(fx:uY x=true):∀ {xs:List V} {us:List Value},Vals xs us→xs.all uY=true→∀ u∈us,SeqAt.EqAt A s u v (eqU x u)
 | _,_,.nil,_=>fun u hu=>by cases hu
 | y::xs,u::us,.cons r t,f=>fun u' hu=>by
  rw [List.all_cons,Bool.and_eq_true] at f
  rcases List.mem_cons.mp hu with rfl | hu
  ·rw [eqU_of r f.1];exact eqAt_V r rx f.1 fx
  ·exact yp rx fx t f.2 u' hu
def inV (x:V)(xs:List V):Bool:=xs.any fun y=>eqV y x
def rIn (K:PySem.W.Frag)(neg:Bool):R2:=fun x y H Q=>∃ p xs,y=.ref p∧(SqL K H p xs∨SqT K H p xs)∧uY x=true∧xs.all uY=true∧Q (.bl (if neg then !inV x xs else inV x xs)) H
theorem zX:OpR X (compareOp .NotIn) (rIn X.K true):=by
 intro pins s σ H x y v u Q I rx ry h
 obtain ⟨p,xs,rfl,hq,fx,fs,q⟩:=h
 cases ry
 rcases hq with hq | hq
 ·obtain ⟨its,r,pl,hz⟩:=I.list hq
  refine SeqAt.notIn_listAt (eqU x) pl.isList (fun w hw=>yp rx fx r fs w (by simpa using hw)) ⟨.bl _,H,I,rfl,?_⟩
  rw [show its.toArray.any (eqU x)=its.any (eqU x) by simp,any_eqU r fs]
  exact q
 ·obtain ⟨its,r,pl,hz⟩:=I.tuple hq
  refine SeqAt.notIn_tupleAt (eqU x) pl (fun w hw=>yp rx fx r fs w (by simpa using hw)) ⟨.bl _,H,I,rfl,?_⟩
  rw [show its.toArray.any (eqU x)=its.any (eqU x) by simp,any_eqU r fs]
  exact q
theorem Ac:jt X (.builtin "len") (fun xs H Q=>∃ p ys,xs=[.ref p]∧(SqL X.K H p ys∨SqT X.K H p ys)∧Q (.int ys.length) H):=by
 intro pins s σ H xs us Q I r h
 obtain ⟨p,ys,rfl,hq,q⟩:=h
 obtain ⟨u,rfl,rx⟩:=vals1 r
 cases rx
 have hn:=qR
 rcases hq with hq | hq
 ·obtain ⟨its,r',pl,hz⟩:=I.list hq
  have hlen:=r'.length
  exact Calls.call_len_list pl.isList (by simp only [List.size_toArray] <;> omega) ⟨.int ys.length,H,I.tok _,⟨s.toks+1,by rw [List.size_toArray,hlen]⟩,q⟩
 ·obtain ⟨its,r',pl,hz⟩:=I.tuple hq
  have hlen:=r'.length
  exact len_tuple pl (by simp only [List.size_toArray] <;> omega) ⟨.int ys.length,H,I.tok _,⟨s.toks+1,by rw [List.size_toArray,hlen]⟩,q⟩
theorem jt.or {f:Value}{r r':List V→Hp→VK→Prop}(h:jt X f r)(h':jt X f r'):jt X f (fun xs H Q=>r xs H Q∨r' xs H Q):=by
 intro pins s σ H xs us Q I rs q
 rcases q with q | q
 ·exact h pins s σ H xs us Q I rs q
 ·exact h' pins s σ H xs us Q I rs q
theorem Af:jt X (.type "list") (fun xs H Q=>∃ p ys,xs=[.ref p]∧(SqL X.K H p ys∨SqT X.K H p ys)∧∀ l,H l=none→Q (.ref l) (upd H l (.lst ys))):=by
 intro pins s σ H xs us Q I r h
 obtain ⟨p,ys,rfl,hq,q⟩:=h
 obtain ⟨u,rfl,rx⟩:=vals1 r
 cases rx
 have fin:∀ (its:List Value),Vals ys its→ys.length≤sizeLine→∀ (h':Heap) (c':Nat),(∀ b o',s.heap.get? b=some o'→h'.get? b=some o') →
   h'.get? s.heap.objs.size=some { cls:=.type "list",dict:=none,data:=.seq its.toArray c',slots:=#[] }→EP X pins σ Q (.ref s.heap.objs.size) { s with heap:=h' }:=fun its r' hz h' c' kp e=>
  ⟨.ref s.heap.objs.size,_,I.laid (t':=s.toks) kp (Nat.le_refl _) (show pU X.prog X.w _ h' _ (.lst ys) from ⟨hz,its,c',r',e⟩),rfl,q _ (I.hok.fresh (Nat.le_refl _))⟩
 rcases hq with hq | hq
 ·obtain ⟨its,r',pl,hz⟩:=I.list hq
  have hlen:=r'.length
  obtain ⟨o,ho,hc,n,hd⟩:=pl.isList
  exact call_list_seq p (.inl rfl) ho hc hd (fun h' c' kp e=>fin its r' hz h' c' kp e) (by simp only [List.size_toArray] <;> omega)
 ·obtain ⟨its,r',pl,hz⟩:=I.tuple hq
  have hlen:=r'.length
  obtain ⟨o,ho,hc,n,hd⟩:=pl
  exact call_list_seq p (.inr rfl) ho hc hd (fun h' c' kp e=>fin its r' hz h' c' kp e) (by simp only [List.size_toArray] <;> omega)
theorem wN:jt X (.type "tuple") (fun xs H Q=>∃ p ys,xs=[.ref p]∧((SqL X.K H p ys∧∀ l,H l=none→Q (.ref l) (upd H l (.tup ys)))∨(SqT X.K H p ys∧Q (.ref p) H))):=by
 intro pins s σ H xs us Q I r h
 obtain ⟨p,ys,rfl,h⟩:=h
 obtain ⟨u,rfl,rx⟩:=vals1 r
 cases rx
 rcases h with ⟨hq,q⟩ | ⟨hq,q⟩
 ·obtain ⟨its,r',pl,hz⟩:=I.list hq
  have hlen:=r'.length
  refine call_tuple_list pl.isList (fun h' kp=>?_) (by simp only [List.size_toArray] <;> omega)
  have I1:Inv X pins σ H { s with heap:=h' }:=I.kept (t':=s.toks) kp
  have I2:Inv X pins σ (upd H h'.objs.size (.tup ys)) { s with heap:=h'.push { cls:=.type "tuple",data:=.seq its.toArray } }:=
   I1.laid (t':=s.toks) (fun b o e=>Heap.get?_push_of_some _ e) (Nat.le_refl _) (show pU X.prog X.w _ _ _ (.tup ys) from ⟨hz,its,r',IsTup.new _ _⟩)
  exact ⟨.ref h'.objs.size,_,I2,rfl,q _ (I1.hok.fresh (Nat.le_refl _))⟩
 ·obtain ⟨its,r',pl,hz⟩:=I.tuple hq
  exact call_tuple_same pl ⟨.ref p,H,I,rfl,q⟩
def tyV (K:PySem.W.Frag)(T:String)(x:V)(H:Hp):Prop:=match x with
 | .str _=>T = "str"
 | .int _=>T = "int"
 | .ref p=>(T = "list"∧∃ xs,SqL K H p xs)∨(T = "tuple"∧∃ o,K.lookup p=some o∧o.cls=.type "tuple"∧o.dict=none) ∨
   (T = "dict"∧((∃ kvs,H p=some (.dK kvs))∨∃ kvs,H p=some (.dT kvs)))∨(T = "set"∧∃ S n,H p=some (.set S n))
 | _=>False
theorem tyV_is {pins:List (Addr×Obj)}{σ : St}{H:Hp}{s:Shared}{T:String}{x:V}{v:Value}(I:Inv X pins σ H s)(r:RelV x v)(ty:tyV X.K T x H) :
  s.TypeIs v T∧∀ a,v=.ref a→∃ ob,s.heap.get? a=some ob∧ob.dict=none:=by
 cases x with
 | str z=>
  obtain ⟨t,rfl⟩:=r
  cases (show T = "str" from ty)
  exact ⟨typeIs_str s z t,fun _ e=>nomatch e⟩
 | int i=>
  obtain ⟨t,rfl⟩:=r
  cases (show T = "int" from ty)
  exact ⟨typeIs_int s i t,fun _ e=>nomatch e⟩
 | ref p=>
  cases r
  rcases ty with ⟨rfl,xs,hq⟩ | ⟨rfl,o,hk,hc,hd⟩ | ⟨rfl,hk⟩ | ⟨rfl,S,n,hk⟩
  ·obtain ⟨its,_,pl,_⟩:=I.list hq
   refine ⟨pl.isList.typeIs,fun a e=>?_⟩
   cases e
   obtain ⟨o,n,e,c,hd,_⟩:=pl
   exact ⟨o,e,hd⟩
  ·refine ⟨⟨o,I.kIn p o hk,hc⟩,fun a e=>?_⟩
   cases e
   exact ⟨o,I.kIn _ o hk,hd⟩
  ·have z:∃ o,s.heap.get? p=some o∧o.ExactDict:=by
    rcases hk with ⟨kvs,hk⟩ | ⟨kvs,hk⟩
    ·obtain ⟨_,_,_,_,o,_,_,e,ex,_⟩:=I.hok p _ hk
     exact ⟨o,e,ex⟩
    ·obtain ⟨_,_,_,_,o,_,_,e,ex,_⟩:=I.hok p _ hk
     exact ⟨o,e,ex⟩
   obtain ⟨o,e,ex⟩:=z
   refine ⟨⟨o,e,ex.1⟩,fun a e2=>?_⟩
   cases e2
   exact ⟨o,e,ex.2.1⟩
  ·obtain ⟨o,_,_,_,e,ex,_⟩:=I.hok p _ hk
   refine ⟨⟨o,e,ex.1⟩,fun a e2=>?_⟩
   cases e2
   exact ⟨o,e,ex.2.1⟩
 | _=>exact False.elim ty
def tBM0 (K:PySem.W.Frag)(T:String)(r:V→List V→Hp→VK→Prop)(to:TE):TE:=fun σ H Q=>to σ H fun x H1=>tyV K T x H1∧r x [] H1 Q
def tBM (K:PySem.W.Frag)(T:String)(r:V→List V→Hp→VK→Prop)(to:TE)(t:TA):TE:=fun σ H Q=>to σ H fun x H1=>tyV K T x H1∧t σ H1 fun xs H2=>r x xs H2 Q
variable {o e:Expr}{es:List Expr}{to:TE}{t:TA}{name:Str}{apos cpos:Pos}{T id:String}{r:V→List V→Hp→VK→Prop}
theorem pe_bm0 (pa:PlainAttrs T)(slot:Slot T name id)(hty:typeOf (.builtin id)=pure (.type "method_descriptor"))(hm:MtR X id r)(ho:PE X o to)
  (hbase:attributeBase o name X.env (eval o X.env)=eval o X.env:=by rfl) (hline:(apos.endLine==cpos.line)=true:=by rfl):PE X (.Call (.Attribute o name apos) [] [] cpos) (tBM0 X.K T r to):=by
 intro pins s σ H Q I h
 refine wpAny_Call_method0_late hbase hline (thn (ho pins s σ H _ I h) fun v s1 ⟨x,H1,I1,r1,ty,q1⟩=>?_)
 obtain ⟨h1,h2⟩:=tyV_is I1 r1 ty
 exact ⟨T,id,pa,slot,hty,h1,h2,Calls.callWith_builtin rfl (PySem.evalArgs_none (hm pins s1 σ H1 x [] v [] Q I1 r1 .nil q1))⟩
theorem pe_bm (pa:PlainAttrs T)(slot:Slot T name id)(hty:typeOf (.builtin id)=pure (.type "method_descriptor"))(hm:MtR X id r)(ho:PE X o to)(ha:PA X (e::es) t)
  (hbase:attributeBase o name X.env (eval o X.env)=eval o X.env:=by rfl)
  (hfew:((backTo cpos (starEach (e::es) X.env)).all (fun x=>!x.1)&&(backToKw cpos (keywordEach [] X.env)).all (fun x=>x.1.isSome)
   && decide ((e::es).length+([]:List Keyword).length+(if ([]:List Keyword).isEmpty then 0 else 1)<30))=true:=by rfl)
  (hline:(apos.endLine==cpos.line)=true:=by rfl) (hs:starEach (e::es) X.env=(false,eval e X.env)::starEach es X.env:=by rfl) (hplain:(backTo cpos (starEach es X.env)).any (·.1)=false:=by rfl) :
  PE X (.Call (.Attribute o name apos) (e::es) [] cpos) (tBM X.K T r to t):=by
 intro pins s σ H Q I h
 refine wpAny_Call_method_late hbase hfew hline rfl (thn (ho pins s σ H _ I h) fun v s1 ⟨x,H1,I1,r1,ty,q1⟩=>?_)
 obtain ⟨h1,h2⟩:=tyV_is I1 r1 ty
 refine ⟨T,id,pa,slot,hty,h1,h2,?_⟩
 have hA:=ha cpos pins s1 σ H1 _ I1 q1
 rw [hs] at hA ⊢
 refine Calls.callWith_builtin (by show (false||(backTo cpos (starEach es X.env)).any (·.1))=false;rw [hplain] <;> rfl) (Calls.evalArgs_plain ?_)
 exact thn hA fun us s2 ⟨vs,H2,I2,r2,q2⟩=>hm pins s2 σ H2 x vs v us Q I2 r1 r2 q2
/- xs.append(e), list.index on a module's tuple .. are MtR facts of 06m -/
end
end L2
namespace L2
open PySem PySem.Spec PyProof.Rows
def MtM (X:Cx)(id:String)(r:V→List V→Hp→VK→Prop):Prop:=
 ∀ (pins:List (Addr×Obj)) (s:Shared) (σ : St) (H:Hp) (x:V) (xs:List V) (v:Value) (us:List Value) (Q:VK),Inv X pins σ H s→RelV x v→Vals xs us→r x xs H Q →
  wpAny (model X.prog X.w) X.A (call (.builtin id) (v::us)) (EP X pins σ Q) X.xe s
theorem Vals.one:∀ {x:V} {us:List Value},Vals [x] us→∃ u,us=[u]∧RelV x u
 | _,_,.cons r .nil=>⟨_,rfl,r⟩
theorem Vals.zero:∀ {us:List Value},Vals [] us→us=[]
 | _,.nil=>rfl
theorem Vals.dropLast {xs:List V}{us:List Value}(h:Vals xs us):Vals xs.dropLast us.dropLast:=by
 induction h with
 | nil=>exact .nil
 | cons r t ih=>
  cases t with
  | nil=>exact .nil
  | cons q t'=>exact .cons r ih
theorem erase_last {α : Type}(l:List α):l.eraseIdx (l.length - 1)=l.dropLast:=by
 induction l with
 | nil=>rfl
 | cons a r ih=>
  cases r with
  | nil=>rfl
  | cons b r=>
   have e:(a::b::r).length - 1=((b::r).length - 1)+1:=by
    have h1:(a::b::r).length=r.length+2:=rfl
    have h2:(b::r).length=r.length+1:=rfl
    omega
   rw [e,List.eraseIdx_cons_succ,ih]
   all_goals rfl
section
variable {X:Cx}{pins:List (Addr×Obj)}{σ : St}{H:Hp}{s:Shared}{l b:Addr}{xs ys zs:List V}
theorem Inv.lset {its its':List Value}{n:Nat}{f:Array Value→Array Value}{t':Nat}(I:Inv X pins σ H s)(hH:H l=some (.lst xs))
  (e:s.heap.get? l=some { cls:=.type "list",data:=.seq its.toArray n }) (hf:f its.toArray=its'.toArray) (hv:Vals ys its') (hz:ys.length≤sizeLine) :
  Inv X pins σ (upd H l (.lst ys)) { s with heap:=s.heap.update l (Obj.mapSeq f),toks:=t' }:=by
 have q:=PySem.IsL.update e f
 rw [hf] at q
 refine I.write (x:=l) (e:=l) (by rw [hH];exact trivial) (.inl rfl) (fun b' u hb hu=>(Heap.get?_update_other s.heap (Obj.mapSeq f) (Ne.symm hb)).trans hu) ⟨_,q⟩ ?_
 exact ⟨hz,its',_,hv,q⟩
theorem Inv.lnew {its:List Value}{t':Nat}(I:Inv X pins σ H s)(hv:Vals ys its)(hz:ys.length≤sizeLine) :
  Inv X pins σ (upd H s.heap.objs.size (.lst ys)) { s with heap:=s.heap.push { cls:=.type "list",data:=.seq its.toArray },toks:=t' }:=
 I.laid (fun _ _ q=>Heap.get?_push_of_some _ q) (Nat.le_refl _) ⟨hz,its,0,hv,Heap.get?_push_size _ rfl⟩
theorem Inv.fresh (I:Inv X pins σ H s):H s.heap.objs.size=none:=I.hok.fresh (Nat.le_refl _)
theorem Inv.lstM (I:Inv X pins σ H s)(hH:H l=some (.lst xs)):xs.length≤sizeLine∧∃ (its:List Value) (n:Nat),Vals xs its∧xs.length=its.length∧s.heap.get? l=some { cls:=.type "list",data:=.seq its.toArray n }:=by
 obtain ⟨z,its,n,r,e⟩:=I.hok l _ hH
 exact ⟨z,its,n,r,r.length,e⟩
theorem notLongL {n:Nat}(h:n≤sizeLine):Builtin.List.listTooLong n=false:=by
 unfold Builtin.List.listTooLong
 exact decide_eq_false (by omega)
end
section
variable {X:Cx}
def rAppend:V→List V→Hp→VK→Prop:=fun x vs H Q=>∃ l xs y,x=.ref l∧vs=[y]∧H l=some (.lst xs)∧xs.length<sizeLine∧Q .non (upd H l (.lst (xs++[y])))
theorem zU:MtM X "list.append" rAppend:=by
 intro pins s σ H x vs v us Q I rx rv h
 obtain ⟨l,xs,y,rfl,rfl,hH,hz,q⟩:=h
 cases rx
 obtain ⟨u,rfl,ru⟩:=rv.one
 obtain ⟨z,its,n,r,hl,e⟩:=I.lstM hH
 refine call_meets F.slot_list_append ⟨_,e,rfl⟩ F.entry_list_append (F.args_list_append_2 _ _) (PySem.list_append l its.toArray n u (by rw [List.size_toArray];omega)) ⟨e,?_⟩
 refine ⟨.non,_,I.lset (its':=its++[u]) hH e (by simp) (r.append (.cons ru .nil)) ?_,rfl,q⟩
 rw [List.length_append,List.length_singleton]
 omega
def rExtend:V→List V→Hp→VK→Prop:=fun x vs H Q=>∃ l b xs zs,x=.ref l∧vs=[.ref b]∧H l=some (.lst xs)∧H b=some (.lst zs)∧xs.length+zs.length≤sizeLine∧Q .non (upd H l (.lst (xs++zs)))
theorem mt_extend:MtM X "list.extend" rExtend:=by
 intro pins s σ H x vs v us Q I rx rv h
 obtain ⟨l,b,xs,zs,rfl,rfl,hH,hB,hz,q⟩:=h
 cases rx
 obtain ⟨u,rfl,ru⟩:=rv.one
 cases ru
 obtain ⟨z,its,n,r,hl,e⟩:=I.lstM hH
 obtain ⟨z2,its2,n2,r2,hl2,e2⟩:=I.lstM hB
 have hsz:its.toArray.size+its2.toArray.size≤sizeLine:=by rw [List.size_toArray,List.size_toArray];omega
 have hlong:¬ (!its.toArray.isEmpty&&Builtin.List.listTooLong (its.toArray.size+its2.toArray.size))=true:=by
  rw [notLongL hsz,Bool.and_false]
  exact Bool.false_ne_true
 refine call_meets F.slot_list_extend ⟨_,e,rfl⟩ F.entry_list_extend (F.args_list_extend_2 _ _)
  (AutoSeq1.list_extend_list_list_0 l its.toArray n b its2.toArray n2 hlong (by rw [List.size_toArray];omega) (by omega)) ⟨e,e2,?_⟩
 refine ⟨.non,_,I.lset (its':=its++its2) hH e (by simp) (r.append r2) ?_,rfl,q⟩
 rw [List.length_append]
 omega
def rPop:V→List V→Hp→VK→Prop:=fun x vs H Q=>∃ l xs y,x=.ref l∧vs=[]∧H l=some (.lst xs)∧xs[xs.length - 1]?=some y∧Q y (upd H l (.lst xs.dropLast))
theorem mt_pop:MtM X "list.pop" rPop:=by
 intro pins s σ H x vs v us Q I rx rv h
 obtain ⟨l,xs,y,rfl,rfl,hH,hy,q⟩:=h
 cases rx
 have hus:=rv.zero
 subst hus
 obtain ⟨z,its,n,r,hl,e⟩:=I.lstM hH
 obtain ⟨u,hu,ru⟩:=r.get hy
 have hy':its.toArray[its.toArray.size - 1]?=some u:=by
  show its.toArray[its.length - 1]?=some u
  rw [←Array.getElem?_toList,←hl]
  exact hu
 refine call_meets F.slot_list_pop ⟨_,e,rfl⟩ F.entry_list_pop (F.args_list_pop_1 _) (MeetsSeq.list_pop_last l its.toArray n u hy' (by rw [List.size_toArray];omega)) ⟨e,?_⟩
 refine ⟨y,_,I.lset (its':=its.dropLast) hH e ?_ r.dropLast ?_,ru,q⟩
 ·show its.toArray.eraseIdxIfInBounds (its.toArray.size - 1)=its.dropLast.toArray
  rw [List.size_toArray,List.eraseIdxIfInBounds_toArray,erase_last]
 ·rw [List.length_dropLast]
  omega
def rCat:R2:=fun x y H Q=>∃ l b xs zs,x=.ref l∧y=.ref b∧H l=some (.lst xs)∧H b=some (.lst zs)∧xs.length+zs.length≤sizeLine∧∀ p,H p=none→Q (.ref p) (upd H p (.lst (xs++zs)))
theorem op_cat:OpR X (binaryOp .Add) rCat:=by
 intro pins s σ H x y v u Q I rx ry h
 obtain ⟨l,b,xs,zs,rfl,rfl,hH,hB,hz,q⟩:=h
 cases rx
 cases ry
 obtain ⟨z,its,n,r,hl,e⟩:=I.lstM hH
 obtain ⟨z2,its2,n2,r2,hl2,e2⟩:=I.lstM hB
 refine PySem.P.add_list e e2 ?_ (by rw [List.size_toArray,List.size_toArray];omega)
 have ea:its.toArray++its2.toArray=(its++its2).toArray:=by simp
 rw [ea]
 exact ⟨.ref _,_,I.lnew (t':=s.toks) (r.append r2) (by rw [List.length_append];omega),rfl,q _ I.fresh⟩
end
section
variable {prog:Program}{w:World}{A:Around}{E:Value→Shared→Prop}{s:Shared}
end
section
variable {X:Cx}
end
end L2
namespace Att
open PySem PySem.W PySem.Calls PyProof.Rows
theorem uq {P:Params}{h:Heap}:∀ (ns:List Int) (vs:List Value),WellAll P h vs (ns.map WData.int)→IntsAre vs ns:=by
 intro ns
 induction ns with
 | nil=>
  intro vs w
  rw [List.map_nil] at w
  cases w
  exact .nil
 | cons n ns ih=>
  intro vs w
  rw [List.map_cons] at w
  cases w with
  | cons a b=>
   cases a
   exact .cons _ _ (ih _ b)
theorem script_of {l:OpenLaw}{n:Nat}(hn:l.most=some n){P:Params}{h:Heap}{args:List WData}{vals:List Value}
  (hpre:l.row.toRowW.claim.pre args=true) (hwl:WellAll P h vals args) :
  ∃ a vs ns,vals=[Value.ref a]∧args=[WData.list (ns.map WData.int)]∧h.get? a=some { cls:=.type "list",data:=.seq vs.toArray }∧IntsAre vs ns∧ns.length≤n:=by
 have hsh:WShape.hasAll [] args [.list .int]=true:=(pre_splitW hpre).1
 have hc:l.pre.holds [] { args:=args }=true:=(pre_splitW hpre).2
 obtain ⟨d,r,rfl,h1,h2⟩:=hasAllW_cons hsh
 obtain rfl:=hasAllW_nil h2
 obtain ⟨xs,rfl,h3⟩:=hasW_list h1
 obtain ⟨ns,rfl⟩:=items_int h3
 have hlen:ns.length≤n:=by
  unfold OpenLaw.pre at hc
  have h4:(WTm.not (.lt (.lit (.int (n:Int))) (.len (.arg 0)))).holds [] { args:=[.list (ns.map .int)] }=true:=by
   have h4:=(holds_andW hc).1
   rw [hn] at h4
   exact h4
  have h5:=condW_of h4 (w_not (w_lt w_lit (w_len_list (w_arg rfl))))
  rw [List.length_map] at h5
  refine Nat.le_of_not_lt fun q=>?_
  have q':(n:Int)<((ns.length:Nat):Int):=by omega
  first
   | (rw [decide_eq_true q'] at h5;exact absurd h5 (by decide))
   | (simp at h5;omega)
 cases hwl with
 | cons w1 w2=>
  cases w2
  cases w1 with
  | list ho hall=>exact ⟨_,_,ns,rfl,rfl,ho,uq ns _ hall,hlen⟩
theorem post_true (l:OpenLaw)(args:List WData):l.row.toRowW.claim.post args (.bool true) args=true:=
 postW_of (r:=l.row.toRowW) (X:=(true==true))
  (show WShape.has [] (.bool true) .bool=true by first | rfl | decide | simp [WShape.has,WShape.arms,WShape.armsAll])
  (show (WTm.eq .res (.lit (.bool true))).value [] { args:=args,res:=some (.bool true),after:=args }=some (.bool (true==true)) from w_eq_bool (w_res rfl) w_lit) rfl
theorem attach_call {l:OpenLaw}{n:Nat}{q:Program}{loose:List Str}{XP:(Str→Option Value)→Heap→Prop}{YP:World→Heap→Prop}{d:DefRec}
  (hn:l.most=some n) (hdf:d.params.defaults=[])
  (call:∀ (w:World) (s₀ s₁ : Shared) (mg mb:Str→Option Value) (fa:Addr) (o:Obj) (pm cd doc:Value) (a:Addr) (vs:List Value) (ns:List Int),
   Ground q loose [] XP w s₀ mg mb s₁.heap→YP w s₁.heap →
   s₁.heap.get? fa=some o→o.data=.func (docDef d.name d.params d.body d.scope pm cd doc)→s₁.heap.CodeRec cd d.name→mg d.name=some (.ref fa) →
   s₁.heap.get? a=some { cls:=.type "list",data:=.seq vs.toArray }→IntsAre vs ns→ns.length≤n→s₁.gens = #[] →
   codeAny (model l.prog w) callerA (.call (.ref fa) ⟨[.ref a],[]⟩) (fun r s'=>r=.ok (.ret (.bool true))∧OldK s₁.heap s'.heap∧s'.os=s₁.os∧AllBare s'.gens) s₁) :
  WalkO q loose XP YP l.row.toRowW d [] (fun f vs=>PySem.call f vs):=by
 intro w s₀ s₁ mg mb G Y fa o pm cd doc dV kV ho hd hcd hD hmg hg args vals as hpre hlay hrd hwl hlo
 obtain rfl:dV=.none:=Dflts.none hD hdf
 obtain rfl:kV=.none:=Dflts.noKw hD
 obtain ⟨a,vs,ns,rfl,rfl,hobj,hints,hlen⟩:=script_of hn hpre hwl
 refine enter_call (codeAny_mono (call w s₀ s₁ mg mb fa o pm cd doc a vs ns G Y ho (fd_plain hd) hcd hmg hobj hints hlen hg) fun r s' hq=>?_)
 obtain ⟨rfl,h2,h3,h4⟩:=hq
 exact ⟨.inl ⟨.bool true,.bool true,[],rfl,fun _=>rfl,.bool true,post_true l _,fun _=>⟨List.Pairwise.nil,fun _ hm=>(nomatch hm)⟩⟩,h2,h3,h4⟩
section
variable {prog:Program}{w:World}{A:Around}{E:Value→Shared→Prop}{s:Shared}{K:Frag}
def ledger (h:Heap)(L d:Addr):List (Addr×Obj):=(List.range h.objs.size).filterMap fun a=>if a=L∨a=d then none else (h.get? a).map fun o=>(a,o)
end
end Att
namespace L2
open PySem PySem.Spec PyProof.Rows
theorem zW:∀ {vs:List Value} {ns:List Int},IntsAre vs ns→Vals (ns.map V.int) vs
 | _,_,.nil=>.nil
 | _,_,.cons n t h=>.cons ⟨t,rfl⟩ (zW h)
def Only (H:Hp):Prop:=∀ b,H b=none∨∃ o xs,H b=some (.frz o (.lst xs))
theorem law_call {P:Program}{w:World}{K:PySem.W.Frag}{mg mb:Str→Option Value}{CX:CXT}{k:Nat}{fa a:Addr}{fd:FuncData}{x:Str}{sp:Sp}{s₁ : Shared}{vs:List Value}{ns:List Int}
  (KX:K.In s₁.heap) (hns:s₁.heap.Ns mainGlobals mg) (hb:s₁.heap.Ns builtinsNs mb) (hbb:∀ x:Str,x ≠ "__name__"→mb x=bootBuiltins x) (hlim:s₁.heap.NoLimit) (hg:s₁.gens = #[])
  (ha:s₁.heap.get? a=some { cls:=.type "list",data:=.seq vs.toArray }) (hi:IntsAre vs ns) (hl:ns.length≤sizeLine) (hr:rK k callerA)
  (F:∀ base:Heap,K.In base→base.Ns mainGlobals mg→cH P w K mg base CX k fa fd [x] sp) (hbind:∀ (s:Shared) (u:Value),BindsTo s fd ⟨[u],[]⟩ [(x,u)])
  (hsp:∀ H:Hp,Only H→SqL K H a (ns.map V.int)→sp [.ref a] H (fun v _=>v=.bl true) fun _ _ _=>False)
  (hCX:∀ H e s',CX [] H s₁ (fun _ _ _=>False) e s'→False) :
  codeAny (model P w) callerA (.call (.ref fa) ⟨[.ref a],[]⟩) (fun r s'=>r=.ok (.ret (.bool true))∧OldK s₁.heap s'.heap∧s'.os=s₁.os∧AllBare s'.gens) s₁:=by
 have rv:=zW hi
 have lenV:=hi.length
 -- from an abstract heap in which nothing but the script may be tracked
 have core:∀ H:Hp,Only H→SqL K H a (ns.map V.int)→HOk P w H s₁.heap→(∀ b,H b≠none→b=a)→(H a≠none→K.lookup a=none) →
   codeAny (model P w) callerA (.call (.ref fa) ⟨[.ref a],[]⟩) (fun r s'=>r=.ok (.ret (.bool true))∧OldK s₁.heap s'.heap∧s'.os=s₁.os∧AllBare s'.gens) s₁:=by
  intro H hO hS hok hA hK
  have base_of:∀ {b:Addr} {o:Obj},s₁.heap.get? b=some o→H b=none→(hidT s₁.heap H).get? b=some o:=fun e n=>hidT_get e n
  have noA:∀ {b:Addr} {o:Obj} {es:Array DictEntry} {ep:Nat},s₁.heap.get? b=some o→o.data=.dict es ep→H b=none:=fun {b o es ep} e d=>by
   cases q:H b with
   | none=>rfl
   | some u=>
    have e':b=a:=hA b (by rw [q];simp)
    subst e'
    rw [ha] at e;cases e
    have d':Data.seq vs.toArray _=Data.dict es ep:=d
    cases d'
  have nsK:∀ {b:Addr} {m:Str→Option Value},s₁.heap.Ns b m→(hidT s₁.heap H).Ns b m:=fun {b m} ⟨o,es,ep,e,d,r⟩=>⟨o,es,ep,base_of e (noA e d),d,r⟩
  have hKb:K.In (hidT s₁.heap H):=fun b o e=>base_of (KX b o e) (by
   cases q:H b with
   | none=>rfl
   | some u=>
    have e':b=a:=hA b (by rw [q];simp)
    subst e'
    rw [hK (by rw [q];simp)] at e;cases e)
  have hM:Mod K mg (hidT s₁.heap H):=⟨hKb,nsK hns,⟨mb,nsK hb,hbb⟩,let ⟨mc,h1,h2⟩:=hlim;⟨mc,nsK h1,h2⟩⟩
  have e0:Env0 P w K mg (hidT s₁.heap H) callerA [] s₁ H:=⟨rfl,hM,fun b o e=>of_hidT e,Nat.le_of_eq (hidT_size _ _),trivial,fun b hb=>absurd (show b∈([]:List Addr) from hb) (by simp),hok,.of_eq hg,fun v e=>(nomatch e)⟩
  refine codeAny_mono ((F _ hKb (nsK hns)).run callerA [] s₁ H ⟨[.ref a],[]⟩ [.ref a] [.ref a] _ _ hr e0 (hbind s₁ (.ref a)) (.cons rfl .nil) (hsp H hO hS)) fun r s' h=>?_
  cases r with
  | error e=>exact (hCX H e s' h).elim
  | ok fl=>
   cases fl with
   | next=>exact False.elim h
   | brk=>exact False.elim h
   | cont=>exact False.elim h
   | ret u=>
    obtain ⟨v,H',os,bare,un,hok',r',q⟩:=h
    have q':v=.bl true:=q
    subst q'
    obtain rfl:u=Value.bool true:=r'
    refine ⟨rfl,OldK.of_keep fun b o e=>?_,os,bare⟩
    cases q:H b with
    | none=>exact un.keep b o e q (by intro z;exact absurd (show b∈([]:List Addr) from z) (by simp)) (by simp)
    | some u=>
     rcases hO b with z | ⟨ob,xs,z⟩
     ·rw [q] at z;cases z
     ·have z2:=un.frzs b ob _ z
      obtain ⟨e1,_⟩:=hok b _ z
      obtain ⟨e2,_⟩:=hok' b _ z2
      rw [e] at e1;cases e1
      exact e2
 cases hk:K.lookup a with
 | some o=>
  -- the script is one of the module's own objects
  have e:=KX a o hk
  rw [ha] at e
  cases e
  refine core (fun _=>none) (fun _=>.inl rfl) (.inr ⟨_,vs.toArray,_,hk,rfl,rfl,rfl,by rw [List.size_toArray,lenV];exact hl,by simpa using rv⟩) (fun b u z=>by have z':(none:Option HO)=some u:=z;cases z') (fun b z=>absurd rfl z) fun z=>absurd rfl z
 | none=>
  refine core (fun b=>if b=a then some (.frz { cls:=.type "list",data:=.seq vs.toArray } (.lst (ns.map V.int))) else none) (fun b=>?_) (.inl (.inr ⟨{ cls:=.type "list",data:=.seq vs.toArray },if_pos rfl⟩)) (fun b u z=>?_) (fun b z=>?_) fun _=>hk
  ·by_cases hb:b=a
   ·exact .inr ⟨_,_,if_pos hb⟩
   ·exact .inl (if_neg hb)
  ·by_cases hb:b=a
   ·have z':=(if_pos hb).symm.trans z
    cases z'
    subst hb
    exact ⟨ha,by rw [List.length_map];exact hl,vs,_,rv,ha⟩
   ·have z':=(if_neg hb).symm.trans z
    cases z'
  ·by_cases hb:b=a
   ·exact hb
   ·exact absurd (if_neg hb) z
end L2
namespace L2
open PySem PySem.Spec PyProof.Rows
theorem walk_of {l:PySem.W.OpenLaw}{n k:Nat}{q:Program}{loose:List Str}{XP:(Str→Option Value)→Heap→Prop}{YP:World→Heap→Prop}{d:DefRec}{K:Params→PySem.W.Frag}{CX:World→CXT}{sp:World→Sp}{x:Str}
  (hn:l.most=some n) (hn2:n≤sizeLine) (hdf:d.params.defaults=[]) (hr:rK k callerA)
  (hY:∀ (w:World) (h:Heap),YP w h→(K w.params).In h)
  (F:∀ (w:World) (mg:Str→Option Value) (fa:Addr) (h:Heap),(K w.params).In h→h.Ns mainGlobals mg→mg d.name=some (.ref fa) →
   ∃ fd:FuncData,(∀ (s:Shared) (u:Value),BindsTo s fd ⟨[u],[]⟩ [(x,u)]) ∧
    ∀ base:Heap,(K w.params).In base→base.Ns mainGlobals mg→cH l.prog w (K w.params) mg base (CX w) k fa fd [x] (sp w))
  (hsp:∀ (w:World) (H:Hp) (a:Addr) (ns:List Int),ns.length≤n→Only H→SqL (K w.params) H a (ns.map V.int)→sp w [.ref a] H (fun v _=>v=.bl true) fun _ _ _=>False)
  (hCX:∀ (w:World) (H:Hp) (s:Shared) (e:Value) (s':Shared),CX w [] H s (fun _ _ _=>False) e s'→False) :
  PySem.W.WalkO q loose XP YP l.row.toRowW d [] (fun f vs=>PySem.call f vs):=by
 refine Att.attach_call hn hdf fun w s₀ s₁ mg mb fa o pm cd doc a vs ns G Y ho hd hcd hmg hobj hints hlen hg=>?_
 have KX:=hY w _ Y
 obtain ⟨fd,hb,hF⟩:=F w mg fa _ KX G.T.g hmg
 exact law_call KX G.T.g G.T.b G.T.builtins G.T.nolimit hg hobj hints (Nat.le_trans hlen hn2) hr hF hb (fun H hO hS=>hsp w H a ns hlen hO hS) fun H e s'=>hCX w H s₁ e s'
end L2
/- THE LAST THEOREM (shape; LID, My.* are yours):
   My.Adr: a structure of the addresses that your layer names (classes,functions);My.Txt K t: a structure (Prop) of the equations over K;
   My.txt_mk:{K} {implicit addresses ..} (e1:nsIn K mainGlobals "law" = some (some (.ref f))) (e2:K.lookup f=some ⟨oc,od,.func (fnOf "law" "law" params body scope dV kV doc pm an cdv ct),sl⟩) (e3:codeIn K cdv "law" = true) .. : ∃ t,My.Txt K t
set_option maxRecDepth 100000 in
set_option maxHeartbeats 0 in
theorem PySem.Challenge.cw_LID_holds : PySem.Challenge.rw_LID.Holds := by
 w_on;o_law;k_head;(case hw=>w_witness2)
 k_fill
 refine L2.walk_of (l:=PySem.Challenge.rw_LID) (n:=63) (k:=40) (x := "script") (CX:=fun w=>..) (sp:=fun _=>My.sp_law) rfl (by decide) rfl ⟨rfl,by decide,by decide⟩ (fun w h Y=>PySem.W.kIn_of Y) ?F ?S ?C
 case F=>
  intro w mg fa h KX G hmg
  have T:∃ t,My.Txt (L2.KOf KX) t:=by
   dsimp only [L2.KOf]                          -- K must stand as «<heap const> w.params» for k_is
   refine' My.txt_mk ?e1 ?e2 ?e3 ..
   (case e1=>PySem.W.k_is)                    -- in the order: a name -> its address -> its object -> its parts
   (case e2=>PySem.W.k_is)
   ..
  obtain ⟨t,T⟩:=T
  have e0:=hmg.symm.trans (PySem.W.mg_of KX G T.law)
  cases e0                                       -- fa is the law's own address
  exact ⟨_,fun s u=>.of_eq rfl,fun base kb nb=>My.law_fn T kb nb⟩     -- if «.of_eq rfl» comes too early: refine' ⟨_,?b,fun base kb nb=>My.law_fn T kb nb⟩;exact fun s u=>.of_eq rfl
 case S=>exact fun w H a ns hl hO hS=>..
 case C=>exact ..
(the tactic k_is has no namespace: write k_is) -/
namespace L2
open PySem PySem.Spec PyProof.Rows
def uh (s:Stmt):Arguments:=match s with
 | .FunctionDef _ a _ _ _ _ _ _ _ _=>a
 | _=>{ posonlyargs:=[],args:=[],vararg:=none,kwonlyargs:=[],kw_defaults:=[],kwarg:=none,defaults:=[] }
def nC (s:Stmt):List Stmt:=match s with
 | .FunctionDef _ _ b _ _ _ _ _ _ _=>b
 | _=>[]
def aG (s:Stmt):Scope:=match s with
 | .FunctionDef _ _ _ _ _ _ sc _ _ _=>sc
 | _=>{ kind:=.function,names:=[],isGenerator:=false,isCoroutine:=false }
abbrev CX0:CXT:=fun _ _ _ _ _ _=>False
abbrev E0:XK:=fun _ _ _=>False
theorem pass0 {X:Cx}:Passes CX0 X E0:=fun _ _ _ _ _ _ _ h=>h.elim
structure Fun (K:PySem.W.Frag) (x qual:Str) (st:Stmt) (f:Addr) (fd:FuncData):Prop where
 ex:∃ (oc:Value) (od:Option Addr) (kV doc pm:Value) (an:Option Addr) (cdv ct:Value) (osl:Array (Option Value)),
  fd=PySem.W.fnOf x qual (uh st) (nC st) (aG st) .none kV doc pm an cdv ct∧K.lookup f=some ⟨oc,od,.func fd,osl⟩∧PySem.W.codeIn K cdv qual=true
 kp:PySem.W.keepIn K (.ref f)=true
section
variable {P:Program}{w:World}{K:PySem.W.Frag}{mg:Str→Option Value}{base:Heap}
theorem Fun.ok {x qual:Str}{st:Stmt}{f:Addr}{fd:FuncData}{N ps:List Str}{k:Nat}{sp:Sp}(F:Fun K x qual st f fd)(S:aN N ps (aG st))(len:∀ vs H Q E,sp vs H Q E→vs.length=ps.length)
  (hbody:∀ (cdv:Value) (A:Around) (outer:List Env) (s:Shared) (H:Hp) (vs:List V) (Q:VK) (E:XK),rK k (A.deeper (envOfC qual (aG st) s.heap.objs.size f cdv))→sp vs H Q E →
   ∃ t,PSs (cxOf CX0 P w K mg base N qual (aG st) f cdv A outer s H E).nox (nC st) t∧t { nx:=fun _ H'=>Q .non H',rt:=Q } (start N vs) H):cH P w K mg base CX0 (k+1) f fd ps sp:=by
 obtain ⟨oc,od,kV,doc,pm,an,cdv,ct,osl,rfl,lk,hcd⟩:=F.ex
 refine fn_of lk hcd S len fun A outer s H vs Q E hr hsp=>?_
 obtain ⟨t,h,q⟩:=hbody cdv A outer s H vs Q E hr hsp
 exact ⟨t,h.nox,q⟩
theorem Fun.binds {x qual:Str}{st:Stmt}{f:Addr}{fd:FuncData}{ps:List Str}(F:Fun K x qual st f fd)
  (h:∀ (kV doc pm:Value) (an:Option Addr) (cdv ct:Value) (us:List Value),us.length=ps.length→bindArgs (PySem.W.fnOf x qual (uh st) (nC st) (aG st) .none kV doc pm an cdv ct) ⟨us,[]⟩=pure (ps.zip us)):Binds K fd ps []:=by
 obtain ⟨oc,od,kV,doc,pm,an,cdv,ct,osl,rfl,lk,hcd⟩:=F.ex
 exact .all (h kV doc pm an cdv ct)
theorem aY {x qual:Str}{st:Stmt}{f:Addr}{oc:Value}{od an:Option Addr}{osl:Array (Option Value)}{kV doc pm cdv ct:Value}(l:K.lookup f=some ⟨oc,od,.func (PySem.W.fnOf x qual (uh st) (nC st) (aG st) .none kV doc pm an cdv ct),osl⟩)
  (c:PySem.W.codeIn K cdv qual=true) (k:PySem.W.keepIn K (.ref f)=true):Fun K x qual st f (PySem.W.fnOf x qual (uh st) (nC st) (aG st) .none kV doc pm an cdv ct):=⟨⟨oc,od,kV,doc,pm,an,cdv,ct,osl,rfl,l,c⟩,k⟩
end
section
variable {X:Cx}
theorem pv (i:Nat){x:Str}{pos:Pos}(hN:X.N[i]?=some x:=by rfl)(hv:Vis X.env.scope x:=by first | exact Or.inl rfl | exact Or.inr (Or.inl rfl) | exact Or.inr (Or.inr rfl))(hd:(x==("__debug__" : Str))=false:=by decide)
  (hcd:(x==("__classdict__" : Str))=false:=by decide):PE X (.Name x pos) (tVar i):=pe_var hN hv hd hcd
end
end L2
namespace L2
open PySem PySem.Spec PyProof.Rows
end L2
namespace L2
open PySem PySem.Spec PyProof.Rows
def clGo (env:Env):List (Str×NameKind)→List (Str×Addr)→List (Str×Addr)
 | [],cs=>cs
 | (n,k)::r,cs=>clGo env r (if (k==NameKind.free)=true then (n,(env.cells.lookup n).getD 0)::cs else cs)
def clOf (scope:Scope)(env:Env):List (Str×Addr):=clGo env scope.names []
theorem yF {env:Env}{p:Str×Addr}:∀ (l:List (Str×NameKind)) (cs:List (Str×Addr)),p∈clGo env l cs→p∈cs∨((p.1,NameKind.free)∈l∧p.2=(env.cells.lookup p.1).getD 0)
 | [],cs,h=>.inl h
 | (n,k)::r,cs,h=>by
  rcases yF r _ h with h | ⟨h1,h2⟩
  ·by_cases hk:(k==NameKind.free)=true
   ·rw [if_pos hk] at h
    rcases List.mem_cons.mp h with rfl | h
    ·have e:k=NameKind.free:=by simpa using hk
     subst e
     exact .inr ⟨List.mem_cons_self,rfl⟩
    ·exact .inl h
   ·rw [if_neg hk] at h
    exact .inl h
  ·exact .inr ⟨List.mem_cons_of_mem _ h1,h2⟩
theorem clGo_has {env:Env}{x:Str}:∀ (l:List (Str×NameKind)) (cs:List (Str×Addr)),((x,NameKind.free)∈l∨∃ c,(x,c)∈cs)→∃ c,(x,c)∈clGo env l cs
 | [],cs,h=>by
  rcases h with h | h
  ·exact absurd h (by simp)
  ·exact h
 | (n,k)::r,cs,h=>by
  refine clGo_has r _ ?_
  rcases h with h | ⟨c,h⟩
  ·rcases List.mem_cons.mp h with e | h
   ·injection e with e1 e2
    subst e1;subst e2
    exact .inr ⟨_,by rw [if_pos (by rfl)];exact List.mem_cons_self⟩
   ·exact .inl h
  ·refine .inr ⟨c,?_⟩
   by_cases hk:(k==NameKind.free)=true
   ·rw [if_pos hk];exact List.mem_cons_of_mem _ h
   ·rw [if_neg hk];exact h
theorem jr {x:Str}{c:Addr}:∀ {l:List (Str×Addr)},(x,c)∈l→∃ c',l.lookup x=some c'
 | [],h=>absurd h (by simp)
 | (n,d)::r,h=>by
  by_cases e:x=n
  ·subst e
   exact ⟨d,by simp [List.lookup_cons]⟩
  ·rcases List.mem_cons.mp h with q | q
   ·injection q with q1 _
    exact absurd q1 e
   ·obtain ⟨c',h'⟩:=jr q
    refine ⟨c',?_⟩
    have e':(x==n)=false:=beq_eq_false_iff_ne.mpr e
    rw [List.lookup_cons,e']
    exact h'
theorem clos_of {scope:Scope}{env:Env}(h:∀ y∈scope.names,y.2=NameKind.free→∃ c,env.cells.lookup y.1=some c):closureFor scope env=pure (clOf scope env):=by
 unfold closureFor clOf
 have key:∀ (l:List (Str×NameKind)) (cs:List (Str×Addr)),(∀ y∈l,y.2=NameKind.free→∃ c,env.cells.lookup y.1=some c) →
   (forIn l cs (fun (x:Str×NameKind) (cs:List (Str×Addr))=>(if (x.2==NameKind.free)=true then cellOf env x.1 >>= fun c=>pure (ForInStep.yield ((x.1,c)::cs)) else pure (ForInStep.yield cs):Sem (ForInStep (List (Str×Addr))))))=pure (clGo env l cs):=by
  intro l
  induction l with
  | nil=>intro cs _;rfl
  | cons x r ih=>
   intro cs hl
   obtain ⟨n,k⟩:=x
   rw [List.forIn_cons]
   have hr:∀ y∈r,y.2=NameKind.free→∃ c,env.cells.lookup y.1=some c:=fun y hy=>hl y (List.mem_cons_of_mem _ hy)
   by_cases hk:(k==NameKind.free)=true
   ·obtain ⟨c,hc⟩:=hl (n,k) List.mem_cons_self (by simpa using hk)
    have hc':env.cells.lookup n=some c:=hc
    have e1:cellOf env n=pure c:=by unfold cellOf;rw [hc']
    simp only [hk,if_true,e1,pure_bind]
    rw [ih _ hr]
    simp only [clGo,hk,if_true,hc',Option.getD_some]
   ·simp only [hk,if_false,pure_bind,Bool.false_eq_true]
    rw [ih _ hr]
    simp only [clGo,hk,if_false,Bool.false_eq_true]
 have q:=key scope.names [] h
 simpa using q
theorem lE {y:Str}{c:Addr}:∀ {names:List (Str×NameKind)} {n:Nat} {acc:List (Str×Addr)},(y,c)∈cellsFrom n names acc↔(y,c)∈acc∨(y,c)∈cellsFrom n names []
 | [],n,acc=>by simp [cellsFrom]
 | (name,kind)::r,n,acc=>by
  unfold cellsFrom
  split
  ·rw [lE (acc:=(name,n)::acc),lE (acc:=[(name,n)])]
   simp only [List.mem_cons,List.not_mem_nil,or_false]
   exact ⟨fun h=>h.elim (fun h=>h.elim (fun h=>.inr (.inl h)) .inl) fun h=>.inr (.inr h),fun h=>h.elim (fun h=>.inl (.inr h)) fun h=>h.elim (fun h=>.inl (.inl h)) .inr⟩
  ·exact lE
theorem cf_name {y:Str}{c:Addr}:∀ {names:List (Str×NameKind)} {n:Nat},(y,c)∈cellsFrom n names []→(y,NameKind.cell)∈names
 | [],n,h=>by simp [cellsFrom] at h
 | (name,kind)::r,n,h=>by
  unfold cellsFrom at h
  split at h
  ·rename_i hk
   rcases lE.mp h with q | q
   ·have hk':kind=.cell:=by simpa using hk
    simp only [List.mem_cons,List.not_mem_nil,or_false,Prod.mk.injEq] at q
    rw [q.1,hk']
    exact List.mem_cons_self
   ·exact List.mem_cons_of_mem _ (cf_name q)
  ·exact List.mem_cons_of_mem _ (cf_name h)
theorem cf_has {y:Str}:∀ {names:List (Str×NameKind)} {n:Nat},(y,NameKind.cell)∈names→∃ c,(y,c)∈cellsFrom n names []
 | [],n,h=>by simp at h
 | (name,kind)::r,n,h=>by
  unfold cellsFrom
  rcases List.mem_cons.mp h with q | q
  ·cases q
   rw [if_pos (by rfl)]
   exact ⟨n,lE.mpr (.inl List.mem_cons_self)⟩
  ·split
   ·obtain ⟨c,hc⟩:=cf_has (n:=n+1) q
    exact ⟨c,lE.mpr (.inr hc)⟩
   ·exact cf_has q
theorem cf_new {h:Heap}{names:List (Str×NameKind)}{y:Str}{c:Addr}(e:(y,c)∈cellsFrom h.objs.size names []):(pushCells h names).IsCell c none∧h.objs.size≤c:=
 (cellsFrom_ok names h h.objs.size [] ⟨fun _ _ z=>by simp at z,List.Pairwise.nil⟩ (Nat.le_refl _)).empty y c e
theorem cf_apart {n:Nat}{names:List (Str×NameKind)}{y z:Str}{c:Addr}(e:(y,c)∈cellsFrom n names [])(e':(z,c)∈cellsFrom n names []):y=z:=by
 have key:∀ (k:Nat),∃ h:Heap,h.objs.size=k:=fun k=>by
  induction k with
  | zero=>exact ⟨{ (default:Heap) with objs:=#[] },rfl⟩
  | succ k ih=>
   obtain ⟨h,e⟩:=ih
   exact ⟨h.push { cls:=.type "cell",data:=.cell none },by rw [Heap.size_push,e]⟩
 obtain ⟨h,rfl⟩:=key n
 exact name_of_addr (cellsFrom_ok names h h.objs.size [] ⟨fun _ _ z=>by simp at z,List.Pairwise.nil⟩ (Nat.le_refl _)).apart e e'
theorem nfe_cells {M:Model}{A:Around}{E:Value→Shared→Prop}{s:Shared}{scope:Scope}{globals:Addr}{closure:List (Str×Addr)}{qual:Str}{func:Option Addr}{code:Value}{ar:Env}{builtins:Addr}{Q:Env→Shared→Prop}
  (hQ:Q { scope:=scope,locals:=s.heap.objs.size,globals:=globals,cells:=cellsFrom (s.heap.objs.size+1) scope.names closure,qual:=qual,func:=func,code:=ar.code,frame:=ar.frame,builtins:=ar.builtins } { s with heap:=pushCells (s.heap.push { cls:=.type "dict",data:=.dict #[] }) scope.names }) :
  wpAny M A (newFunctionEnv scope globals closure [] qual func code (some ar) builtins) Q E s:=by
 simp only [newFunctionEnv,Option.isSome_some,if_true]
 refine wpAny_bind (wpAny_alloc ?_)
 refine wpAny_bind (wpAny_layCells _ (fun name kind cells=>by cases hkc:kind==NameKind.cell <;> simp [hkc]) _ _ _ _ ?_)
 rw [show ({ s with heap:=s.heap.push { cls:=.type "dict",data:=.dict #[] } }:Shared).heap.objs.size=s.heap.objs.size+1 from Heap.size_push ..]
 rw [List.forIn_nil]
 exact wpAny_bind (wpAny_pure (wpAny_pure hQ))
def blk (X:Cx)(scope:Scope)(N':List Str)(C:Addr)(s:Shared)(H:Hp)(ex:List Addr):Cx where
 prog:=X.prog
 w:=X.w
 K:=X.K
 mg:=X.mg
 base:=X.base
 A:=X.A
 N:=N'
 s₀:=s
 H₀:=H
 env:=compEnvC scope (cellsFrom (C+1) scope.names (clOf scope X.env)) C X.env
 outer:=X.stack
 stack:=X.stack
 ex:=ex
 fn:=fun y=>decide (scope.names.lookup y=some .cell)
 calm:=X.calm
 pn:=[]
 xe:=fun _ _=>False
structure ni (X:Cx) (scope:Scope) (x:List Str) (ix:List Nat):Prop where
 kind:scope.kind=.function
 own:∀ y∈x,scope.names.lookup y=some .local∨scope.names.lookup y=some .cell
 names:∀ y∈scope.names,scope.names.lookup y.1=some y.2
 free:∀ y∈scope.names,y.2=.free→X.env.scope.names.lookup y.1=some .cell∨X.env.scope.names.lookup y.1=some .free
 ixs:∀ i∈ix,scope.names.lookup (X.N.getD i "")=some .free
 nd:(x++ix.map fun i=>X.N.getD i "").Nodup
def nodupB:List Str→Bool
 | []=>true
 | x::r=>!(r.contains x)&&nodupB r
def blkB (sc:Scope)(N:List Str)(scope:Scope)(x:List Str)(ix:List Nat):Bool:=
 decide (scope.kind=.function)&&x.all (fun y=>decide (scope.names.lookup y=some .local)||decide (scope.names.lookup y=some .cell)) &&
 scope.names.all (fun y=>decide (scope.names.lookup y.1=some y.2)) &&
 scope.names.all (fun y=>!decide (y.2=.free)||decide (sc.names.lookup y.1=some .cell)||decide (sc.names.lookup y.1=some .free)) &&
 ix.all (fun i=>decide (scope.names.lookup (N.getD i "")=some .free))&&nodupB (x++ix.map fun i=>N.getD i "")
theorem zB:∀ {l:List Str},nodupB l=true→l.Nodup
 | [],_=>List.nodup_nil
 | x::r,h=>by
  unfold nodupB at h
  rw [Bool.and_eq_true] at h
  refine List.nodup_cons.mpr ⟨fun hm=>?_,zB h.2⟩
  have:r.contains x=true:=List.contains_iff_mem.mpr hm
  rw [this] at h
  exact absurd h.1 (by decide)
theorem aV {X:Cx}{scope:Scope}{x:List Str}{ix:List Nat}(h:blkB X.env.scope X.N scope x ix=true):ni X scope x ix:=by
 unfold blkB at h
 simp only [Bool.and_eq_true,List.all_eq_true,decide_eq_true_eq,Bool.or_eq_true,Bool.not_eq_true',decide_eq_false_iff_not] at h
 obtain ⟨⟨⟨⟨⟨h1,h3⟩,h4⟩,h5⟩,h6⟩,h7⟩:=h
 refine ⟨h1,fun y hy=>h3 y hy,fun y hy=>h4 y hy,fun y hy hk=>?_,fun i hi=>h6 i hi,zB h7⟩
 ·rcases h5 y hy with (q | q) | q
  ·exact absurd hk q
  ·exact .inl q
  ·exact .inr q
def blkσ (ix:List Nat)(σ : St):St:=ix.map fun i=>(σ[i]?).getD none
abbrev lu (X:Cx)(x:List Str)(ix:List Nat):List Str:=x++ix.map fun i=>X.N.getD i ""
theorem iJ {scope:Scope}{env:Env}{x:Str}:∀ {names:List (Str×NameKind)} {k:NameKind},
  (names.map fun (p:Str×NameKind)=>if (p.2==NameKind.free&&env.scope.kind==.function&&env.kindOf p.1==some .cell)=true then (p.1,NameKind.cell) else (p.1,p.2)).lookup x=some k →
  names.lookup x=some k∨(k=.cell∧names.lookup x=some .free)
 | [],k,h=>by simp at h
 | (n,k')::r,k,h=>by
  rw [List.map_cons] at h
  cases hx:x==n with
  | true=>
   by_cases hc:(k'==NameKind.free&&env.scope.kind==.function&&env.kindOf n==some .cell)=true
   ·rw [if_pos hc] at h
    simp only [List.lookup_cons,hx] at h
    have hk:k'=.free:=by
     have:=(Bool.and_eq_true_iff.mp (Bool.and_eq_true_iff.mp hc).1).1
     simpa using this
    subst hk
    cases h
    exact .inr ⟨rfl,by simp [List.lookup_cons,hx]⟩
   ·rw [if_neg hc] at h
    simp only [List.lookup_cons,hx] at h
    cases h
    exact .inl (by simp [List.lookup_cons,hx])
  | false=>
   have h':(r.map fun (p:Str×NameKind)=>if (p.2==NameKind.free&&env.scope.kind==.function&&env.kindOf p.1==some .cell)=true then (p.1,NameKind.cell) else (p.1,p.2)).lookup x=some k:=by
    by_cases hc:(k'==NameKind.free&&env.scope.kind==.function&&env.kindOf n==some .cell)=true
    ·rw [if_pos hc] at h;simpa only [List.lookup_cons,hx] using h
    ·rw [if_neg hc] at h;simpa only [List.lookup_cons,hx] using h
   rcases iJ (scope:=scope) (env:=env) h' with q | ⟨q1,q2⟩
   ·exact .inl (by simpa only [List.lookup_cons,hx] using q)
   ·exact .inr ⟨q1,by simpa only [List.lookup_cons,hx] using q2⟩
theorem qX {env:Env}{x:Str}:∀ {names:List (Str×NameKind)},names.lookup x=some .free →
  (names.map fun (p:Str×NameKind)=>if (p.2==NameKind.free&&env.scope.kind==.function&&env.kindOf p.1==some .cell)=true then (p.1,NameKind.cell) else (p.1,p.2)).lookup x=some .cell ∨
  (names.map fun (p:Str×NameKind)=>if (p.2==NameKind.free&&env.scope.kind==.function&&env.kindOf p.1==some .cell)=true then (p.1,NameKind.cell) else (p.1,p.2)).lookup x=some .free
 | [],h=>by simp at h
 | (n,k')::r,h=>by
  rw [List.map_cons]
  cases hx:x==n with
  | true=>
   simp only [List.lookup_cons,hx] at h
   cases h
   by_cases hc:(NameKind.free==NameKind.free&&env.scope.kind==.function&&env.kindOf n==some .cell)=true
   ·rw [if_pos hc];exact .inl (by simp [List.lookup_cons,hx])
   ·rw [if_neg hc];exact .inr (by simp [List.lookup_cons,hx])
  | false=>
   have h':r.lookup x=some .free:=by simpa only [List.lookup_cons,hx] using h
   have ih:=qX (env:=env) h'
   by_cases hc:(k'==NameKind.free&&env.scope.kind==.function&&env.kindOf n==some .cell)=true
   ·rw [if_pos hc];simpa only [List.lookup_cons,hx] using ih
   ·rw [if_neg hc];simpa only [List.lookup_cons,hx] using ih
theorem qM {env:Env}{x:Str}:∀ {names:List (Str×NameKind)},names.lookup x=some .cell →
  (names.map fun (p:Str×NameKind)=>if (p.2==NameKind.free&&env.scope.kind==.function&&env.kindOf p.1==some .cell)=true then (p.1,NameKind.cell) else (p.1,p.2)).lookup x=some .cell
 | [],h=>by simp at h
 | (n,k')::r,h=>by
  rw [List.map_cons]
  cases hx:x==n with
  | true=>
   simp only [List.lookup_cons,hx] at h
   cases h
   rw [if_neg (by simp)]
   simp [List.lookup_cons,hx]
  | false=>
   have ih:=qM (env:=env) (show r.lookup x=some .cell by simpa only [List.lookup_cons,hx] using h)
   split
   ·simpa only [List.lookup_cons,hx] using ih
   ·simpa only [List.lookup_cons,hx] using ih
section
variable {X:Cx}{pins:List (Addr×Obj)}{σ : St}{H:Hp}{s:Shared}{scope:Scope}{x:List Str}{ix:List Nat}{C:Addr}{fp:List Addr}
theorem own_ok (B:ni X scope x ix){y:Str}(hy:y∈x):Loc (relabel scope X.env) y∧(decide (scope.names.lookup y=some .cell)=true∨(relabel scope X.env).names.lookup y=some .local):=by
 rcases B.own y hy with q | q
 ·have:=lookup_relabel_local (env:=X.env) q
  exact ⟨.inl this,.inr this⟩
 ·exact ⟨.inr (qM (env:=X.env) q),.inl (decide_eq_true q)⟩
theorem w6 (I:Inv X pins σ H s)(B:ni X scope x ix):∀ y∈scope.names,y.2=NameKind.free→∃ c,X.env.cells.lookup y.1=some c:=fun y hy hk=>I.ok.has y.1 (B.free y hy hk)
theorem cl_old (I:Inv X pins σ H s)(B:ni X scope x ix){y:Str}{c:Addr}(h:(y,c)∈clOf scope X.env):X.env.cells.lookup y=some c:=by
 rcases yF scope.names [] h with q | ⟨q1,q2⟩
 ·exact absurd q (by simp)
 ·obtain ⟨c',e⟩:=w6 I B _ q1 rfl
  have e':X.env.cells.lookup y=some c':=e
  have q2':c=(X.env.cells.lookup y).getD 0:=q2
  rw [e',Option.getD_some] at q2'
  rw [e',q2']
theorem rF (I:Inv X pins σ H s)(B:ni X scope x ix){y:Str}{c:Addr}(h:(cellsFrom (C+1) scope.names (clOf scope X.env)).lookup y=some c):X.env.cells.lookup y=some c∨(y,c)∈cellsFrom (C+1) scope.names []:=
 (lE.mp (PySem.mem_of_lookup h)).imp_left (cl_old I B)
theorem cf_ge {n:Nat}{names:List (Str×NameKind)}{y:Str}{c:Addr}(e:(y,c)∈cellsFrom n names []):n≤c:=by
 have key:∀ (names:List (Str×NameKind)) (n:Nat),(y,c)∈cellsFrom n names []→n≤c:=by
  intro names
  induction names with
  | nil=>intro n h;simp [cellsFrom] at h
  | cons a r ih=>
   intro n h
   obtain ⟨name,kind⟩:=a
   unfold cellsFrom at h
   split at h
   ·rcases lE.mp h with q | q
    ·simp only [List.mem_cons,List.not_mem_nil,or_false,Prod.mk.injEq] at q
     exact Nat.le_of_eq q.2.symm
    ·exact Nat.le_trans (Nat.le_succ n) (ih (n+1) q)
   ·exact ih n h
 exact key names n e
theorem cl_free (B:ni X scope x ix){y:Str}{c:Addr}(hf:scope.names.lookup y=some .free)(h:(y,c)∈cellsFrom (C+1) scope.names []):False:=by
 have:=B.names _ (cf_name h)
 simp only at this
 rw [hf] at this
 cases this
theorem cl_has {y:Str}(h:scope.names.lookup y=some .free∨scope.names.lookup y=some .cell):∃ c,(cellsFrom (C+1) scope.names (clOf scope X.env)).lookup y=some c:=by
 rcases h with h | h
 ·obtain ⟨c,hc⟩:=clGo_has (env:=X.env) scope.names [] (.inl (PySem.mem_of_lookup h))
  exact jr (lE.mpr (.inl hc))
 ·obtain ⟨c,hc⟩:=cf_has (n:=C+1) (PySem.mem_of_lookup h)
  exact jr (lE.mpr (.inr hc))
theorem blk_ok (I:Inv X pins σ H s)(B:ni X scope x ix)(hC:s.heap.objs.size≤C)(hf:∀ b∈fp,FpOk X pins H b)(ho:∀ b∈fp,∃ o,s.heap.get? b=some o) :
  (blk X scope (lu X x ix) C s H fp).Ok where
 mod:=I.ok.mod
 kind:=B.kind
 glob:=I.ok.glob
 blt:=I.ok.blt
 above:=hC
 inj:=fun y z c h1 h2=>by
  have far:∀ {y z:Str},X.env.cells.lookup y=some c→(z,c)∈cellsFrom (C+1) scope.names []→False:=fun {y z} e q=>by
   obtain ⟨v,w⟩:=I.cell y c e
   exact absurd (Nat.lt_of_lt_of_le w.lt (Nat.le_trans (Nat.le_trans hC (Nat.le_succ C)) (cf_ge q))) (Nat.lt_irrefl _)
  rcases rF I B h1 with q1 | q1
  ·rcases rF I B h2 with q2 | q2
   ·exact I.ok.inj y z c q1 q2
   ·exact (far q1 q2).elim
  ·rcases rF I B h2 with q2 | q2
   ·exact (far q2 q1).elim
   ·exact cf_apart q1 q2
 has:=fun y hy=>by
  have hy':(relabel scope X.env).names.lookup y=some .cell∨(relabel scope X.env).names.lookup y=some .free:=hy
  rcases hy' with q | q
  ·rcases iJ (scope:=scope) (env:=X.env) q with r | ⟨_,r⟩
   ·exact cl_has (.inr r)
   ·exact cl_has (.inl r)
  ·rcases iJ (scope:=scope) (env:=X.env) q with r | ⟨r,_⟩
   ·exact cl_has (.inl r)
   ·cases r
 cab:=fun y c hf h=>by
  have hf':scope.names.lookup y=some .cell:=of_decide_eq_true hf
  rcases lE.mp (PySem.mem_of_lookup h) with q | q
  ·rcases yF scope.names [] q with q | ⟨q1,_⟩
   ·exact absurd q (by simp)
   ·have:=B.names _ q1
    simp only at this
    rw [hf'] at this
    cases this
  ·exact Nat.le_trans (Nat.le_trans hC (Nat.le_succ C)) (cf_ge q)
 hd:=I.ok.hd
 qt:=I.qt0
 frames:=I.ok.frames
 stk:=.inl rfl
 exf:=fun b hb=>by
  obtain ⟨o,e⟩:=ho b hb
  refine ⟨Nat.ne_of_lt (Nat.lt_of_lt_of_le (Heap.lt_size e) hC),fun y c h=>?_⟩
  rcases rF I B h with q | q
  ·exact (hf b hb).2.2.2.2.1 y c q
  ·intro z
   rw [z] at q
   exact absurd (Nat.lt_of_lt_of_le (Heap.lt_size e) (Nat.le_trans (Nat.le_trans hC (Nat.le_succ C)) (cf_ge q))) (Nat.lt_irrefl _)
 bs:=I.bs
 bsz:=Nat.le_trans I.ok.bsz I.sz
 noex:=fun b o e hb=>by
  rcases (hf b hb).2.2.2.1 with q | q
  ·exact I.ok.noex b o e q
  ·exact absurd (Nat.lt_of_lt_of_le (Heap.lt_size e) (Nat.le_trans I.ok.bsz q)) (Nat.lt_irrefl _)
 exfs:=fun b hb z=>by
  obtain ⟨_,h1,h2,_⟩:=hf b hb
  rcases List.mem_cons.mp (I.stkSub b z) with e | e
  ·exact h1 e
  ·exact h2 e
 funs:=I.stack
 frf:=I.stkFree
theorem blk_inv {D:Addr}{h1:Heap}{tk:Nat}{m:Str→Option Value}(I:Inv X pins σ H s)(B:ni X scope x ix)(ok:(blk X scope (lu X x ix) C s H fp).Ok)
  (hD:D=s.heap.objs.size) (k:∀ b o,s.heap.get? b=some o→h1.get? b=some o) (hl:h1.get? D=some { cls:=.type "list",data:=.seq #[] }) (hns:h1.Ns C m) (hCD:C≠D) (hC:s.heap.objs.size≤C) (hce:∀ y c,(y,c)∈cellsFrom (C+1) scope.names []→h1.IsCell c none) :
  Inv (blk X scope (lu X x ix) C s H fp) [] (List.replicate x.length none++blkσ ix σ) (upd H D (.lst [])) { s with heap:=h1,toks:=tk } where
 ok:=ok
 os:=rfl
 bare:=I.bare
 base:=Un.laid k (by rw [hD];exact Nat.le_refl _) (I.hok.fresh (by rw [hD];exact Nat.le_refl _))
 loc:=by
  refine ⟨m,hns,fun i y v e1 e2 e3=>?_⟩
  by_cases hix:i<x.length
  ·rw [List.getElem?_append_left (by simpa using hix),List.getElem?_replicate,if_pos hix] at e2
   cases e2
  ·rw [List.getElem?_append_right (by simpa using hix),List.length_replicate] at e2
   have e1':(ix.map fun i=>X.N.getD i "")[i - x.length]?=some y:=by
    have z:(x++ix.map fun i=>X.N.getD i "")[i]?=some y:=e1
    rwa [List.getElem?_append_right (by simpa using hix)] at z
   generalize i - x.length=j at e1' e2
   unfold blkσ at e2
   rw [List.getElem?_map] at e1' e2
   cases hj:ix[j]? with
   | none=>rw [hj] at e2;cases e2
   | some i'=>
    rw [hj] at e1' e2
    simp only [Option.map_some,Option.some.injEq] at e1' e2
    have hi:σ[i']?=some (some v):=by
     cases q:σ[i']? with
     | none=>rw [q] at e2;cases e2
     | some z=>rw [q] at e2;exact congrArg some e2
    have hlt:i'<X.N.length:=by
     have:=(List.getElem?_eq_some_iff.mp hi).1
     rw [I.len] at this
     exact this
    have hn:X.N[i']?=some y:=by
     rw [List.getD_eq_getElem?_getD,List.getElem?_eq_getElem hlt,Option.getD_some] at e1'
     rw [List.getElem?_eq_getElem hlt,e1']
    have hfree:scope.names.lookup y=some .free:=by
     have:=B.ixs i' (List.mem_of_getElem? hj)
     rw [e1'] at this
     exact this
    have kx:=B.free _ (PySem.mem_of_lookup hfree) rfl
    have vis:Vis X.env.scope y:=by
     rcases kx with q | q
     ·exact .inr (.inl q)
     ·exact .inr (.inr q)
    obtain ⟨m',_,hl'⟩:=I.loc
    obtain ⟨u,r,lk⟩:=hl' i' y v hn hi vis
    refine ⟨u,r,?_⟩
    rcases lk with ⟨q,_⟩ | ⟨_,c,hc,hcell⟩
    ·have q':X.env.scope.names.lookup y=some .local:=q
     rcases kx with z | z <;> (rw [q'] at z;cases z)
    ·obtain ⟨c',hc'⟩:=cl_has (X:=X) (C:=C) (.inl hfree)
     have e:=(rF I B hc').resolve_right fun z=>cl_free B hfree z
     rw [hc] at e
     cases e
     refine .inr ⟨qX (env:=X.env) hfree,c,hc',?_⟩
     obtain ⟨o,ho,hd⟩:=hcell
     exact ⟨o,k c o ho,hd⟩
 cell:=fun y c h=>by
  rcases rF I B h with q | q
  ·obtain ⟨v,o,ho,hd⟩:=I.cell y c q
   exact ⟨v,o,k c o ho,hd⟩
  ·exact ⟨none,hce y c q⟩
 free:=by
  show upd H D (.lst []) C=none
  rw [aZ hCD]
  exact I.hok.fresh hC
 freeC:=fun y c h=>by
  show upd H D (.lst []) c=none
  rcases rF I B h with q | q
  ·obtain ⟨v,o,ho,hd⟩:=I.cell y c q
   rw [aZ (by rw [hD];exact Nat.ne_of_lt (Heap.lt_size ho))]
   exact I.freeC y c q
  ·have g:s.heap.objs.size<c:=Nat.lt_of_lt_of_le (Nat.lt_succ_of_le hC) (cf_ge q)
   rw [aZ (by rw [hD];exact Nat.ne_of_gt g)]
   exact I.hok.fresh (Nat.le_of_lt g)
 pin:=fun p hp=>absurd (show p∈([]:List (Addr×Obj)) from hp) (by simp)
 hok:=I.hok.laid k (by rw [hD];exact Nat.le_refl _) ⟨Nat.zero_le _,[],0,.nil,hl⟩
 len:=by
  show (List.replicate x.length none++blkσ ix σ).length=(lu X x ix).length
  simp [blkσ]
theorem blk_out {σ':St}{H':Hp}{s':Shared}{h':Heap}{p':List (Addr×Obj)}(I:Inv X pins σ H s)(hC:s.heap.objs.size≤C)(hf:∀ b∈fp,FpOk X pins H b)(J:Inv (blk X scope (lu X x ix) C s H fp) p' σ' H' s')
  (hs:Heap.SameBut C s'.heap h'):Inv X pins σ H' { s' with heap:=h' }:=by
 have I1:Inv X pins σ H' s':=I.call' (ch:=fp) J.os J.base J.hok J.bare fun b hb=>⟨(hf b hb).2.2.2.1,(hf b hb).2.1,(hf b hb).2.2.2.2.1,(hf b hb).2.2.2.2.2⟩
 refine I1.turned (it:=C) (t':=s'.toks) (fun b o hb e=>(hs.2 b hb).trans e) J.free (Nat.ne_of_gt (Nat.lt_of_lt_of_le I.lt hC)) (.inr (Nat.le_trans I.sz hC)) (fun y c e z=>?_) (fun p hp z=>?_)
 ·obtain ⟨v,q⟩:=I.cell y c e
  exact absurd (Nat.lt_of_lt_of_le q.lt (by rw [z];exact hC)) (Nat.lt_irrefl _)
 ·exact absurd (Nat.lt_of_lt_of_le (Heap.lt_size (I.pin p hp).1) (by rw [z];exact hC)) (Nat.lt_irrefl _)
end
def PIfs (X:Cx)(ifs:List Expr)(t:TT):Prop:=
 ∀ (pins:List (Addr×Obj)) (s:Shared) (σ : St) (H:Hp) (Q:Bool→Hp→Prop),Inv X pins σ H s→t σ H Q →
  wpAny (model X.prog X.w) X.A (forIn ifs true fun c r=>if r=true then do let ok ←isTrue c X.env (eval c X.env);pure (ForInStep.yield ok) else pure (ForInStep.yield r)) (TP X pins σ Q) X.xe s
def tYes:TT:=fun _ H Q=>Q true H
theorem pif_nil {X:Cx}:PIfs X [] tYes:=fun _ _ _ H _ I h=>wpAny_pure ⟨H,I,h⟩
theorem pif_one {X:Cx}{c:Expr}{t:TT}(h:PT X c t):PIfs X [c] t:=fun pins s σ H Q I hq=>by
 rw [List.forIn_cons]
 refine wpAny_bind ?_
 rw [if_pos rfl]
 refine wpAny_bind (thn (h pins s σ H Q I hq) fun b s1 q=>wpAny_pure ?_)
 exact wpAny_pure q
def wLCat (n:Nat)(own:V→Hp→List V→Prop)(ix:List Nat)(tt:TT)(te:TE)(σ : St)(Q:VK)(J:It)(H1:Hp)(D:Addr):Prop:=∃ W:Nat→Nat→List V→Hp→Prop,(∃ m,W 0 m [] (upd H1 D (.lst [])))∧∀ i m ys H,W i m ys H→H D=some (.lst ys) →
 (J.stop i H∧Q (.ref D) H)∨(J.go i H∧ys.length<sizeLine∧∀ x H',J.yld i H x H'→∃ vs,own x H' vs∧vs.length=n∧tt (vs.map some++blkσ ix σ) H' fun b H2=>
  if b=true then te (vs.map some++blkσ ix σ) H2 (fun v H3=>H3 D=some (.lst ys)∧∃ m',m'<m∧W (i+1) m' (ys++[v]) (upd H3 D (.lst (ys++[v]))))
  else H2 D=some (.lst ys)∧∃ m',m'<m∧W (i+1) m' ys H2)
def wLC (n:Nat)(own:V→Hp→List V→Prop)(ix:List Nat)(tt:TT)(te:TE)(σ : St)(Q:VK)(J:It)(H1:Hp):Prop:=∀ D,H1 D=none→wLCat n own ix tt te σ Q J H1 D
def tLC (n:Nat)(own:V→Hp→List V→Prop)(ix:List Nat)(wi:TI)(tt:TT)(te:TE):TE:=fun σ H Q=>wi σ H fun J H1=>wLC n own ix tt te σ Q J H1
def gOwn (n:Nat)(own:V→Hp→List V→Prop):TG:=fun v σ H N=>∃ vs,own v H vs∧vs.length=n∧N (vs.map some++σ.drop n) H
theorem comp_loop {P:Program}{w:World}{A:Around}{R:Result→Shared→Prop}{s:Shared}{elt target iter:Expr}{ifs:List Expr}{scope:Scope}{pos:Pos}{it acc:Value}{env:Env}(Iv:Nat→Shared→Prop)
  (turn:∀ n s,Iv n s→wpAny (model P w) A (pyNext it) (fun r s₁=>match r with
   | none=>R (.ok .next) s₁
   | some v=>wpAny (model P w) A (letOwnedTupleGo target it v) (fun _ t₁=>wpAny (model P w) A (assign target env v) (fun _ s₂=>
     wpAny (model P w) A (forIn ifs true fun c r=>if r=true then do let ok ←isTrue c env (eval c env);pure (ForInStep.yield ok) else pure (ForInStep.yield r)) (fun ok s₃=>
      if ok=true then wpAny (model P w) A (eval elt env) (fun x s₄=>
       wpAny (model P w) A (call (.builtin "list.append") [acc,x]) (fun _ s₅=>∃ m,m<n∧Iv m s₅) (notedBy (model P w) A env fun e s'=>R (.error e) s') s₄) (notedBy (model P w) A env fun e s'=>R (.error e) s') s₃
      else ∃ m,m<n∧Iv m s₃) (notedBy (model P w) A env fun e s'=>R (.error e) s') s₂) (notedBy (model P w) A env fun e s'=>R (.error e) s') t₁) (notedBy (model P w) A env fun e s'=>R (.error e) s') s₁) (notedBy (model P w) A env fun e s'=>R (.error e) s') s)
  (n:Nat) (h:Iv n s):codeAny (model P w) A (.compLoop (.ListComp elt [⟨target,iter,ifs,0⟩] scope pos) 0 it acc env) R s:=by
 refine codeAny_loop rfl Iv (fun n s hI=>?_) n h
 show wpAny _ A ((compTurn (.ListComp elt [⟨target,iter,ifs,0⟩] scope pos) 0 it acc env).onRaise (fun x=>do noteFrame x env;theTreesLotGoes x)) _ _ s
 refine wpAny_noted ?_
 rw [compTurn_list]
 refine wpAny_bind (wpAny_standAt (wpAny_bind (wpAny_mono (turn n s hI) (fun r s₁ k₁=>?_) fun _ _ z=>z)))
 cases r with
 | none=>exact wpAny_pure k₁
 | some v=>
  refine wpAny_bind (wpAny_mono k₁ (fun _ t₁ k₂=>wpAny_bind (wpAny_mono k₂ (fun _ s₂ k₃=>wpAny_bind (wpAny_mono k₃ (fun ok s₃ k₄=>?_) fun _ _ z=>z)) fun _ _ z=>z)) fun _ _ z=>z)
  cases ok with
  | false=>exact wpAny_pure ⟨rfl,k₄⟩
  | true=>exact wpAny_bind (wpAny_bind (wpAny_mono k₄ (fun x s₄ k₅=>wpAny_bind (wpAny_mono k₅ (fun _ s₅ k₆=>wpAny_pure (wpAny_pure ⟨rfl,k₆⟩)) fun _ _ z=>z)) fun _ _ z=>z))
section
variable {X:Cx}{scope:Scope}{x:List Str}{ix:List Nat}{elt iter tg:Expr}{ifs:List Expr}{px pos:Pos}{wi:TI}{tt:TT}{te:TE}{own:V→Hp→List V→Prop}
theorem lc_core {pins:List (Addr×Obj)}{σ : St}{s₂ : Shared}{H2:Hp}{it:Addr}{fp:List Addr}{tn:Nat→Heap→Prop}{J:It}{Q:VK}{E:Value→Shared→Prop}{RR:Value→Addr→Result→Shared→Prop}
  (hc:J.cm=true→X.calm=true) (B:ni X scope x ix) (hg:∀ C s H fp,PG (blk X scope (lu X x ix) C s H fp) tg (gOwn x.length own)) (ht:∀ C s H fp,PIfs (blk X scope (lu X x ix) C s H fp) ifs tt) (he:∀ C s H fp,PE (blk X scope (lu X x ix) C s H fp) elt te)
  (I2:Inv X pins σ H2 s₂) (T:Turn X.prog X.w X.K tg J fp it tn) (st2:tn 0 s₂.heap) (f2:∀ b∈fp,FpOk X pins H2 b) (hq:wLC x.length own ix tt te σ Q J H2)
  (hRR:∀ D C s' σ' H' p',s₂.heap.objs.size≤C→Inv (blk X scope (lu X x ix) C s₂ H2 fp) p' σ' H' s'→Q (.ref D) H'→RR (.ref D) C (.ok .next) s') :
  wpAny (model X.prog X.w) X.A (newList []) (fun acc s₃=>wpAny (model X.prog X.w) X.A (newFunctionEnv scope X.env.globals (clOf scope X.env) [] X.env.qual none .none (some X.env)) (fun cenv s₄=>
   codeAny (model X.prog X.w) X.A (.compStart (.ListComp elt [⟨tg,iter,ifs,0⟩] scope pos) 0 (.ref it) acc { cenv with scope:=relabel scope X.env }) (RR acc cenv.locals) s₄) E s₃) E s₂:=by
 refine wpAny_newObj_type (nfe_cells ?_)
 dsimp only
 generalize hH2:s₂.heap.push { cls:=.type "list",dict:=none,data:=.seq ([]:List Value).toArray }=HH
 generalize hh1:pushCells (HH.push { cls:=.type "dict",data:=.dict #[] }) scope.names=h₁
 have hns₁ : h₁.Ns HH.objs.size (fun _=>none):=by
  obtain ⟨o,es,ep,ho,r⟩:=Heap.Ns.new HH (.type "dict")
  exact ⟨o,es,ep,by rw [←hh1];exact pushCells_keeps _ _ _ _ ho,r⟩
 have hkeep:∀ b o,HH.get? b=some o→h₁.get? b=some o:=fun b o e=>by rw [←hh1];exact pushCells_keeps _ _ _ _ (Heap.get?_push_of_some _ e)
 have hce:∀ y c,(y,c)∈cellsFrom (HH.objs.size+1) scope.names []→h₁.IsCell c none:=fun y c e=>by
  rw [←hh1]
  exact (cf_new (h:=HH.push { cls:=.type "dict",data:=.dict #[] }) (by rw [Heap.size_push];exact e)).1
 have hC:HH.objs.size=s₂.heap.objs.size+1:=by rw [←hH2,Heap.size_push]
 have hDC:s₂.heap.objs.size≠HH.objs.size:=by rw [hC];exact Nat.ne_of_lt (Nat.lt_succ_self _)
 have hCle:s₂.heap.objs.size≤HH.objs.size:=by rw [hC];exact Nat.le_succ _
 have old:∀ b o,s₂.heap.get? b=some o→h₁.get? b=some o:=fun b o e=>hkeep b o (hH2 ▸ Heap.get?_push_of_some _ e)
 have hacc:h₁.get? s₂.heap.objs.size=some { cls:=.type "list",data:=.seq #[] }:=hkeep _ _ (hH2 ▸ Heap.get?_push_size _ rfl)
 have hob:∀ b∈fp,∃ o,s₂.heap.get? b=some o:=fun b hb=>let ⟨o,e,_⟩:=T.obj 0 _ st2 b hb;⟨o,e⟩
 have ok:=blk_ok (C:=HH.objs.size) I2 B hCle f2 hob
 obtain ⟨W,⟨m0,w0⟩,turn⟩:=hq s₂.heap.objs.size (I2.hok.fresh (Nat.le_refl _))
 -- the iterator's records, in the block
 have stat:∀ {H':Hp},(∀ b∈fp,H' b=none)→∀ b∈fp,FpOk (blk X scope (lu X x ix) HH.objs.size s₂ H2 fp) [] H' b:=fun {H'} hn b hb=>by
  obtain ⟨o,e⟩:=hob b hb
  obtain ⟨_,g1,g2,g3,g4,g5⟩:=f2 b hb
  refine ⟨hn b hb,Nat.ne_of_lt (Nat.lt_of_lt_of_le (Heap.lt_size e) hCle),fun z=>?_,.inl hb,fun y c h=>?_,fun p hp=>absurd (show p∈([]:List (Addr×Obj)) from hp) (by simp)⟩
  ·rcases List.mem_cons.mp (I2.stkSub b z) with q | q
   ·exact g1 q
   ·exact g2 q
  ·rcases rF I2 B h with q | q
   ·exact g4 y c q
   ·intro z
    rw [z] at q
    exact absurd (Nat.lt_of_lt_of_le (Heap.lt_size e) (Nat.le_trans (Nat.le_trans hCle (Nat.le_succ _)) (cf_ge q))) (Nat.lt_irrefl _)
 have loop:∀ s₃ : Shared,s₃ = { s₂ with heap:=h₁ } →
   codeAny (model X.prog X.w) X.A (.compLoop (.ListComp elt [⟨tg,iter,ifs,0⟩] scope pos) 0 (.ref it) (.ref s₂.heap.objs.size) (compEnvC scope (cellsFrom (HH.objs.size+1) scope.names (clOf scope X.env)) HH.objs.size X.env))
    (RR (.ref s₂.heap.objs.size) HH.objs.size) s₃:=by
  rintro s₃ rfl
  have J0:=blk_inv (fp:=fp) (C:=HH.objs.size) (tk:=s₂.toks) I2 B ok rfl old hacc hns₁ (Ne.symm hDC) hCle hce
  have fr0:∀ b∈fp,upd H2 s₂.heap.objs.size (.lst []) b=none:=fun b hb=>by
   obtain ⟨o,e⟩:=hob b hb
   rw [aZ (Nat.ne_of_lt (Heap.lt_size e))]
   exact (f2 b hb).1
  refine comp_loop (fun k s'=>∃ i ys H',Inv (blk X scope (lu X x ix) HH.objs.size s₂ H2 fp) [] (List.replicate x.length none++blkσ ix σ) H' s'∧tn i s'.heap∧(∀ b∈fp,H' b=none)∧H' s₂.heap.objs.size=some (.lst ys)∧W i k ys H') ?_ m0
   ⟨0,[],_,J0,T.keep 0 _ _ st2 (fun b _ o e=>old b o e),fr0,cL,w0⟩
  rintro n s₄ ⟨i,ys,H4,I4,st4,fr4,hD4,w4⟩
  rcases turn i n ys H4 w4 hD4 with ⟨stop,qn⟩ | ⟨go,hz,step⟩
  ·refine thn (T.done (blk X scope (lu X x ix) HH.objs.size s₂ H2 fp) rfl rfl rfl hc i [] s₄ _ H4 _ I4 (stat fr4) st4 stop) fun r s5 ⟨hr,I5⟩=>?_
   subst hr
   exact hRR _ _ s5 _ H4 [] hCle I5 qn
  ·refine thn (T.item (blk X scope (lu X x ix) HH.objs.size s₂ H2 fp) rfl rfl rfl hc i [] s₄ _ H4 _ I4 (stat fr4) st4 go) fun r s5 ⟨u,hr,h5⟩=>?_
   subst hr
   refine wpAny_mono h5 (fun _ s6 ⟨xv,H6,I6,r6,y6,st6,fr6⟩=>?_) fun _ _ z=>z
   have I6':=I6.pinned (stat fr6) (T.obj _ _ st6)
   obtain ⟨vs,hov,hvl,q7⟩:=step xv H6 y6
   have fgt:∀ {σ9:St} {H9:Hp} {s9:Shared} {p9:List (Addr×Obj)},σ9.length=x.length→Inv (blk X scope (lu X x ix) HH.objs.size s₂ H2 fp) p9 (σ9++blkσ ix σ) H9 s9→Inv (blk X scope (lu X x ix) HH.objs.size s₂ H2 fp) p9 (List.replicate x.length none++blkσ ix σ) H9 s9:=fun {σ9 H9 s9 p9} hl I9=>
    I9.weak (by simp [hl]) fun k v e=>by
     by_cases hk:k<x.length
     ·rw [List.getElem?_append_left (by simpa using hk),List.getElem?_replicate,if_pos hk] at e
      cases e
     ·rw [List.getElem?_append_right (by simpa using hk),List.length_replicate] at e
      rw [List.getElem?_append_right (by rw [hl];omega),hl]
      exact e
   refine wpAny_mono (hg _ _ _ _ _ s6 _ H6 xv u (fun σ9 H9=>σ9=vs.map some++(List.replicate x.length (none:Option V)++blkσ ix σ).drop x.length∧H9=H6) I6' r6 ⟨vs,hov,hvl,rfl,rfl⟩) (fun _ s7 ⟨σ7,H7,I7,e7,e8⟩=>?_) fun _ _ z=>z.elim
   subst e7 e8
   rw [List.drop_left' (by simp)] at I7
   have hml:(vs.map some).length=x.length:=by rw [List.length_map];exact hvl
   refine wpAny_mono (ht _ _ _ _ _ s7 _ H7 _ I7 q7) (fun b s8 ⟨H8,I8,q8⟩=>?_) fun _ _ z=>z.elim
   have pinned:∀ {H9:Hp} {s9:Shared} {σ9:St},Inv (blk X scope (lu X x ix) HH.objs.size s₂ H2 fp) ([]++Ag fp s6.heap) σ9 H9 s9→tn (i+1) s9.heap∧∀ b∈fp,H9 b=none:=fun {H9 s9 σ9} I9=>by
    refine ⟨T.keep _ _ _ st6 fun b hb o e=>(I9.pin (b,o) (List.mem_append_right _ (List.mem_append_right _ (lM hb e)))).1,fun b hb=>?_⟩
    obtain ⟨o,e,d⟩:=T.obj _ _ st6 b hb
    exact (I9.pin (b,o) (List.mem_append_right _ (List.mem_append_right _ (lM hb e)))).2.1
   cases b with
   | false=>
    rw [if_neg Bool.false_ne_true] at q8 ⊢
    obtain ⟨hD8,m',hm,w8⟩:=q8
    obtain ⟨t8,f8⟩:=pinned I8
    exact ⟨m',hm,i+1,ys,H8,fgt hml I8.unpinned,t8,f8,hD8,w8⟩
   | true=>
    rw [if_pos rfl] at q8 ⊢
    refine wpAny_mono (he _ _ _ _ _ s8 _ H8 _ I8 q8) (fun u9 s9 ⟨v9,H9,I9,r9,hD9,m',hm,w9⟩=>?_) fun _ _ z=>z.elim
    refine wpAny_mono (zU (X:=blk X scope (lu X x ix) HH.objs.size s₂ H2 fp) _ s9 _ H9 (.ref s₂.heap.objs.size) [v9] _ [u9] (fun _ H'=>H'=upd H9 s₂.heap.objs.size (.lst (ys++[v9]))) I9 rfl (.cons r9 .nil) ⟨_,ys,v9,rfl,rfl,hD9,hz,rfl⟩) (fun _ s10 ⟨_,H10,I10,_,e10⟩=>?_) fun _ _ z=>z.elim
    subst e10
    obtain ⟨t10,f10⟩:=pinned I10
    exact ⟨m',hm,i+1,ys++[v9],_,fgt hml I10.unpinned,t10,f10,cL,w9⟩
 exact codeAny_compStart_list (loop _ rfl) (T.self _ 0 _ _ _ (T.keep 0 _ _ st2 (fun b _ o e=>old b o e)) (loop _ rfl))
theorem pe_lc (ix:List Nat)(hc:X.calm=true)(B:ni X scope x ix)(hg:∀ C s H fp,PG (blk X scope (lu X x ix) C s H fp) tg (gOwn x.length own))(hi:PI X tg iter wi)(ht:∀ C s H fp,PIfs (blk X scope (lu X x ix) C s H fp) ifs tt)(he:∀ C s H fp,PE (blk X scope (lu X x ix) C s H fp) elt te)
  (hs:∀ v,foldedSetIterable iter X.env v=pure v:=by intro _;rfl):PE X (.ListComp elt [⟨tg,iter,ifs,0⟩] scope pos) (tLC x.length own ix wi tt te):=by
 intro pins s σ H Q I h
 rw [eval_ListComp]
 refine wpAny_comprehension_free (use:=none) rfl hs (clos_of (w6 I B)) B.kind (fun y hy hk=>by rw [B.names y hy,hk]) ?_
 refine thn (hi pins s σ H _ I h) fun v s1 h1=>thn h1 fun itv s2 h2=>?_
 obtain ⟨it,fp,tn,J,H2,e,I2,T,st2,f2,hq⟩:=h2
 subst e
 refine lc_core (RR:=fun acc C=>compPost (model X.prog X.w) X.A X.xe none (EP X pins σ Q) acc C) (fun _=>hc) B hg ht he I2 T st2 f2 hq fun D C s' σ' H' p' hC I' q'=>?_
 obtain ⟨m,hn,_⟩:=I'.loc
 exact ⟨m,hn,fun h' hs'=>⟨.ref D,H',blk_out I2 hC f2 I' hs',rfl,q'⟩⟩
theorem ps_lc (ix:List Nat){i:Nat}{y:Str}{py spos:Pos}(hN:X.N.Nodup)(hi':X.N[i]?=some y)(hy:Loc X.env.scope y)(hc:X.calm=true)(B:ni X scope x ix)(hg:∀ C s H fp,PG (blk X scope (lu X x ix) C s H fp) tg (gOwn x.length own))(hi:PI X tg iter wi)
  (ht:∀ C s H fp,PIfs (blk X scope (lu X x ix) C s H fp) ifs tt) (he:∀ C s H fp,PE (blk X scope (lu X x ix) C s H fp) elt te)
  (hsw:swapsWith (.ListComp elt [⟨tg,iter,ifs,0⟩] scope pos) (some (.Name y py)) spos.line X.env=pure true:=by rfl)
  (hf:X.fn y=true∨X.env.scope.names.lookup y=some .local:=by first | exact .inl rfl | exact .inr rfl | assumption)
  (hs:∀ v,foldedSetIterable iter X.env v=pure v:=by intro _;rfl):PS X (.Assign [.Name y py] (.ListComp elt [⟨tg,iter,ifs,0⟩] scope pos) spos) (tAsg (tLC x.length own ix wi tt te) (gName i)):=by
 intro pins s σ H D I h
 rw [exec_Assign_Name_used _ _ _ _ hsw]
 refine wpAny_bind (wpAny_standAt (wpAny_bind ?_))
 show wpAny _ X.A (do let _ ←comprehension (.ListComp elt [⟨tg,iter,ifs,0⟩] scope pos) scope X.env _ (newList []) false (eval iter X.env) (some (assign (.Name y py) X.env))) _ _ s
 refine wpAny_bind (wpAny_mono (wpAny_comprehension_free (use:=some (assign (.Name y py) X.env)) (Q:=fun _ s'=>SP X pins D .next s') rfl hs (clos_of (w6 I B)) B.kind (fun y hy hk=>by rw [B.names y hy,hk]) ?_) (fun _ s' hq=>wpAny_pure (wpAny_pure hq)) fun _ _ e=>e)
 refine thn (hi pins s σ H _ I h) fun v s1 h1=>thn h1 fun itv s2 h2=>?_
 obtain ⟨it,fp,tn,J,H2,e,I2,T,st2,f2,hq⟩:=h2
 subst e
 refine lc_core (RR:=fun acc C=>compPost (model X.prog X.w) X.A X.xe (some (assign (.Name y py) X.env)) (fun _ s'=>SP X pins D .next s') acc C) (fun _=>hc) B hg ht he I2 T st2 f2 hq fun D' C s' σ' H' p' hC I' q'=>?_
 obtain ⟨m,hn,_⟩:=I'.loc
 have I3:Inv X pins σ H' s':=blk_out (h':=s'.heap) I2 hC f2 I' (.refl ..)
 show wpAny _ X.A (assign (.Name y py) X.env (.ref D')) _ _ s'
 have cneC:∀ z c,X.env.cells.lookup z=some c→c≠C:=fun z c e q=>by
  obtain ⟨v,w⟩:=I2.cell z c e
  exact absurd (Nat.lt_of_lt_of_le w.lt (by rw [q];exact hC)) (Nat.lt_irrefl _)
 have lneC:X.env.locals≠C:=Nat.ne_of_lt (Nat.lt_of_lt_of_le I2.lt hC)
 refine wpAny_assign_Name (zO (v:=.ref D') I3 hN hi' hy rfl (fun s'' I'' hsb=>?_) hf)
 obtain ⟨a,hsb,ha⟩:=hsb
 have haC:C≠a:=by
  rcases ha with rfl | ha
  ·exact Ne.symm lneC
  ·exact Ne.symm (cneC _ _ ha)
 refine ⟨m,hn.sameBut hsb haC,fun h' hs'=>⟨_,H',?_,q'⟩⟩
 refine I''.turned (it:=C) (t':=s''.toks) (fun b o hb e=>(hs'.2 b hb).trans e) I'.free (Ne.symm lneC) (.inr (Nat.le_trans I2.sz hC)) cneC (fun p hp z=>?_)
 exact absurd (Nat.lt_of_lt_of_le (Heap.lt_size (I2.pin p hp).1) (by rw [z];exact hC)) (Nat.lt_irrefl _)
end
end L2
namespace L2
open PySem PySem.Spec PyProof.Rows
def Sm (n:Nat)(i:Int):Prop:=i.natAbs<2^n
theorem Sm.bits {n:Nat}{i:Int}(h:Sm n i):Builtin.Int.intBits i≤n:=by
 unfold Builtin.Int.intBits
 by_cases e:i=0
 ·subst e;exact Nat.zero_le _
 ·have e':(i==0)=false:=beq_eq_false_iff_ne.mpr e
  rw [e']
  have h0:i.natAbs≠0:=by omega
  have:=(Nat.log2_lt h0).mpr h
  simp only [Bool.false_eq_true,if_false]
  omega
theorem Sm.mono {m n:Nat}{i:Int}(h:Sm m i)(hmn:m≤n):Sm n i:=Nat.lt_of_lt_of_le h (Nat.pow_le_pow_right (by decide) hmn)
theorem Sm.mul {m n:Nat}{i j:Int}(h:Sm m i)(h':Sm n j):Sm (m+n) (i*j):=by
 unfold Sm at *
 rw [Int.natAbs_mul,Nat.pow_add]
 by_cases e:j.natAbs=0
 ·rw [e,Nat.mul_zero]
  exact Nat.mul_pos (Nat.pow_pos (by decide)) (Nat.pow_pos (by decide))
 ·exact Nat.lt_of_lt_of_le (Nat.mul_lt_mul_of_pos_right h (Nat.pos_of_ne_zero e)) (Nat.mul_le_mul_left _ (Nat.le_of_lt h'))
theorem Sm.add {m n:Nat}{i j:Int}(h:Sm m i)(h':Sm n j):Sm (max m n+1) (i+j):=by
 have h1:=h.mono (Nat.le_max_left m n)
 have h2:=h'.mono (Nat.le_max_right m n)
 unfold Sm at *
 rw [Nat.pow_succ]
 omega
theorem Sm.neg {n:Nat}{i:Int}(h:Sm n i):Sm n (-i):=by unfold Sm at *;rw [Int.natAbs_neg];exact h
theorem Sm.sub {m n:Nat}{i j:Int}(h:Sm m i)(h':Sm n j):Sm (max m n+1) (i - j):=by
 rw [Int.sub_eq_add_neg];exact h.add h'.neg
theorem Sm.zero {n:Nat}:Sm n 0:=Nat.pow_pos (by decide)
theorem u5 {n:Nat}{i:Int}(h1:-(2^n:Int)<i)(h2:i<(2^n:Int)):Sm n i:=by
 unfold Sm
 have e:((2^n:Nat):Int)=(2:Int)^n:=by simp
 omega
theorem Sm.le {n:Nat}{i j:Int}(h:Sm n i)(hj:j.natAbs≤i.natAbs):Sm n j:=Nat.lt_of_le_of_lt hj h
def eX (i j:Int):Prop:=∃ m n,m≤1000000∧n≤1000000∧Sm m i∧Sm n j
theorem eX.ok {i j:Int}(h:eX i j):IntMulOk i j:=by
 obtain ⟨m,n,hm,hn,h1,h2⟩:=h
 have e:(2:Nat)^20=1048576:=by decide
 exact .of_bits (by have:=h1.bits;omega) (by have:=h2.bits;omega)
def CDivBN (_ j:Int):Prop:=j≠0∧∃ n,n≤8000∧Sm n j
theorem sm_log2 {n:Nat}{j:Int}(hn:n≤8000)(h:Sm n j):j.natAbs.log2<9000:=by
 by_cases e:j.natAbs=0
 ·rw [e];decide
 ·have:=(Nat.log2_lt e).mpr h
  omega
section
variable {X:Cx}
theorem op_mulB:OpR X (binaryOp .Mult) (rI eX fun i j=>.int (i*j)):=opI fun _ _ _ _ _ _ _ hc q=>mul_int q hc.ok
theorem op_fdivBN:OpR X (binaryOp .FloorDiv) (rI CDivBN fun i j=>.int (i.fdiv j)):=opI fun i j _ _ _ _ _ hc q=>by
 obtain ⟨h1,n,hn,h2⟩:=hc
 exact floordiv_int h1 q (.inl (PyProof.noPylong_of_log2 (sm_log2 hn h2)))
theorem Ak:∀ {bs:List Bool} {its:List Value} {i:Nat} {v:Value},Vals (bs.map V.bl) its→its[i]?=some v→∃ b,bs[i]?=some b∧v=.bool b
 | [],_,_,_,.nil,e=>by simp at e
 | b::bs,_,0,_,.cons r _,e=>by simp at e;subst e;exact ⟨b,rfl,r⟩
 | _::bs,_,i+1,v,.cons _ t,e=>by
  obtain ⟨b,h1,h2⟩:=Ak (i:=i) (v:=v) t (by simpa using e)
  exact ⟨b,by simpa using h1,h2⟩
theorem range_allB:∀ (bs:List Bool),((List.range bs.length).all fun i=>(bs[i]?).getD true)=bs.all id:=fun bs=>by
 rw [Bool.eq_iff_iff,List.all_eq_true,List.all_eq_true]
 constructor
 ·intro h b hb
  obtain ⟨i,hi,rfl⟩:=List.mem_iff_getElem.mp hb
  have:=h i (List.mem_range.mpr hi)
  simpa [hi] using this
 ·intro h i hi
  have hi':=List.mem_range.mp hi
  have:=h bs[i] (List.getElem_mem hi')
  simpa [hi'] using this
theorem call_allB (hc:X.calm=true):jt X (.builtin "all") (fun xs H Q=>∃ (p:Addr) (bs:List Bool),xs=[.ref p]∧SqL X.K H p (bs.map V.bl)∧Q (.bl (bs.all id)) H):=by
 intro pins s σ H xs us Q I r h
 obtain ⟨p,bs,rfl,hS,q⟩:=h
 obtain ⟨u,rfl,ru⟩:=vals1 r
 cases ru
 obtain ⟨its,rv,pl,hz⟩:=I.list hS
 have hlen:its.length=bs.length:=by rw [←rv.length,List.length_map]
 have hl:=pl.isList
 have hlt:p<s.heap.objs.size:=by obtain ⟨_,e,_⟩:=hl;exact Heap.lt_size e
 refine call_all_walk (wpAny_pyIter_list hl ?_)
 refine ⟨s.heap.objs.size,[s.heap.objs.size,p],[s.heap.objs.size],its.toArray.size,_,_,fun i=>(bs[i]?).getD true,rfl,Walks.list (A:=X.A.in1) (I.ok.hd hc) _ p (Nat.ne_of_lt hlt) its.toArray,
  ⟨⟨_,Heap.get?_push_size _ rfl,rfl,rfl⟩,hl.push _⟩,fun i v s' Q' E' hP hQ=>?_,fun h' tk hk=>?_⟩
 ·obtain ⟨b,e,rfl⟩:=Ak rv (by simpa using hP)
  simp only [e,Option.getD_some] at hQ
  exact wpAny_truthy_bool hQ
 ·have e:((List.range its.toArray.size).all fun i=>(bs[i]?).getD true)=bs.all id:=by
   rw [List.size_toArray,hlen];exact range_allB bs
  rw [e]
  refine ⟨.bl (bs.all id),H,I.kept (h':=h') (t':=tk) (fun b x e=>?_),rfl,q⟩
  exact hk b x (fun hm=>by rw [List.mem_singleton.mp hm] at e;exact Nat.lt_irrefl _ (Heap.lt_size e)) (Heap.get?_push_of_some _ e)
def isiV (K:PySem.W.Frag)(H:Hp):V→String→Bool→Prop
 | .int _,T,b=>(T = "int"∧b=true)∨(T = "bool"∧b=false)∨(T = "tuple"∧b=false)∨(T = "list"∧b=false)
 | .bl _,T,b=>(T = "int"∧b=true)∨(T = "bool"∧b=true)∨(T = "tuple"∧b=false)∨(T = "list"∧b=false)
 | .str _,T,b=>(T = "int"∧b=false)∨(T = "bool"∧b=false)∨(T = "tuple"∧b=false)∨(T = "list"∧b=false)
 | .non,T,b=>(T = "int"∧b=false)∨(T = "bool"∧b=false)∨(T = "tuple"∧b=false)∨(T = "list"∧b=false)
 | .ref p,T,b=>(∃ xs,SqT K H p xs∧((T = "int"∧b=false)∨(T = "bool"∧b=false)∨(T = "tuple"∧b=true)∨(T = "list"∧b=false))) ∨
   (∃ xs,SqL K H p xs∧((T = "int"∧b=false)∨(T = "bool"∧b=false)∨(T = "tuple"∧b=false)∨(T = "list"∧b=true)))
 | _,_,_=>False
theorem call_isi:jt X (.builtin "isinstance") (fun xs H Q=>∃ x T b,xs=[x,.ty T]∧isiV X.K H x T b∧Q (.bl b) H):=by
 intro pins s σ H xs us Q I r h
 obtain ⟨x,T,b,rfl,hi,q⟩:=h
 obtain ⟨u,w',rfl,rx,ru⟩:=vals2 r
 cases ru
 have k0:EP X pins σ Q (.bool b) s:=⟨.bl b,H,I,rfl,q⟩
 have k1:EP X pins σ Q (.bool b) { s with toks:=s.toks+1 }:=⟨.bl b,H,I.tok _,rfl,q⟩
 cases x with
 | int i=>
  obtain ⟨t,rfl⟩:=rx
  rcases hi with ⟨rfl,rfl⟩ | ⟨rfl,rfl⟩ | ⟨rfl,rfl⟩ | ⟨rfl,rfl⟩
  ·exact IsiPair.int_int k0
  ·exact IsiPair.int_bool k1
  ·exact IsiPair.int_tuple k1
  ·exact IsiPair.int_list k1
 | bl i=>
  cases rx
  rcases hi with ⟨rfl,rfl⟩ | ⟨rfl,rfl⟩ | ⟨rfl,rfl⟩ | ⟨rfl,rfl⟩
  ·first | exact IsiPair.bool_int k0 | exact IsiPair.bool_int k1
  ·first | exact IsiPair.bool_bool k0 | exact IsiPair.bool_bool k1
  ·exact IsiPair.bool_tuple k1
  ·exact IsiPair.bool_list k1
 | str i=>
  obtain ⟨t,rfl⟩:=rx
  rcases hi with ⟨rfl,rfl⟩ | ⟨rfl,rfl⟩ | ⟨rfl,rfl⟩ | ⟨rfl,rfl⟩
  ·exact IsiPair.str_int k1
  ·exact IsiPair.str_bool k1
  ·exact IsiPair.str_tuple k1
  ·exact IsiPair.str_list k1
 | non=>
  cases rx
  rcases hi with ⟨rfl,rfl⟩ | ⟨rfl,rfl⟩ | ⟨rfl,rfl⟩ | ⟨rfl,rfl⟩
  ·exact IsiPair.NoneType_int k1
  ·exact IsiPair.NoneType_bool k1
  ·exact IsiPair.NoneType_tuple k1
  ·exact IsiPair.NoneType_list k1
 | ref p=>
  cases rx
  rcases hi with ⟨xs,hS,hi⟩ | ⟨xs,hS,hi⟩
  ·obtain ⟨its,_,⟨o,e,c,_⟩,_⟩:=I.tuple hS
   rcases hi with ⟨rfl,rfl⟩ | ⟨rfl,rfl⟩ | ⟨rfl,rfl⟩ | ⟨rfl,rfl⟩
   ·exact IsiPair.tuple_int e c k1
   ·exact IsiPair.tuple_bool e c k1
   ·exact IsiPair.tuple_tuple e c k0
   ·exact IsiPair.tuple_list e c k1
  ·obtain ⟨its,_,pl,_⟩:=I.list hS
   obtain ⟨o,e,c,_⟩:=pl.isList
   rcases hi with ⟨rfl,rfl⟩ | ⟨rfl,rfl⟩ | ⟨rfl,rfl⟩ | ⟨rfl,rfl⟩
   ·exact IsiPair.list_int e c k1
   ·exact IsiPair.list_bool e c k1
   ·exact IsiPair.list_tuple e c k1
   ·exact IsiPair.list_list e c k0
 | _=>exact (show False from hi).elim
end
end L2
namespace L2
open PySem PySem.Spec PyProof.Rows
inductive W where
 | non | bl (b:Bool) | int (i:Int) | str (x:Str) | ty (n:String) | tup (ws:List W) | lst (ws:List W) | loc (n:Nat) | kls (ws:List W) | exc (n:Str)
 /-- an exception with attributes -/
 | exa (n:Str) (ws:List W)
 /-- a def of the module, by its address and a number -/
 | fnv (f:Addr) (i:Nat)
inductive Cell where
 | lst (ws:List W) | obj (C:Addr) (fs:List (Str×W)) | dct (kvs:List (Key×W))
 /-- a dict whose keys are tuples of ints -/
 | dtt (kvs:List (List Int×W))
structure Gh where
 nx:Nat
 c:Nat→Option Cell
structure Mu where
 f:Nat→Option Addr
 hid:Addr→Prop
def KLst (K:PySem.W.Frag)(p:Addr)(xs:List V):Prop:=
 ∃ (o:Obj) (its:Array Value) (n:Nat),K.lookup p=some o∧o.cls=.type "list"∧o.dict=none∧o.data=.seq its n∧its.size≤sizeLine∧Vals xs its.toList
def Frz (H:Hp)(μ : Mu)(p:Addr)(xs:List V):Prop:=H p=some (.lst xs)∧(∀ n,μ.f n≠some p)∧¬ μ.hid p
def Frk (K:PySem.W.Frag)(H:Hp)(p:Addr)(xs:List V):Prop:=(∃ o,H p=some (.frz o (.lst xs)))∨KLst K p xs
theorem Frz.sq {K:PySem.W.Frag}{H:Hp}{μ : Mu}{p:Addr}{xs:List V}(h:Frz H μ p xs):SqL K H p xs:=.inl (.inl h.1)
theorem Frk.sq {K:PySem.W.Frag}{H:Hp}{p:Addr}{xs:List V}(h:Frk K H p xs):SqL K H p xs:=by
 rcases h with h | h
 ·exact .inl (.inr h)
 ·exact .inr h
def vmB:List Value:=[.type "ValueError",.type "Exception",.type "BaseException",.type "object"]
def xdIn (K:PySem.W.Frag)(C:Addr)(n:Str):Bool:=PySem.W.nsIn K mainGlobals n==some (some (.ref C))&&PySem.W.typeIn K (.ref C)==some (.type "type")&&match PySem.W.clsIn K C with
 | some cd=>cd.name==n&&cd.mro.contains (.type "BaseException")
 | none=>false
def xcIn (K:PySem.W.Frag)(C:Addr)(n:Str):Bool:=xdIn K C n&&(match PySem.W.clsIn K C with
 | some cd=>(match cd.mro with
  | [.ref C',.ref R,a,b,c,d]=>C'==C&&[a,b,c,d]==vmB&&PySem.W.nsIn K mainGlobals "EaselError"==some (some (.ref R))&&(PySem.W.clsIn K R).any (fun c=>c.name==("EaselError" : Str))
  | _=>false)
 | none=>false)&&PySem.W.findIn K (.ref C) "__getattribute__"==some (some (.builtin "BaseException.__getattribute__"))&&PySem.W.findIn K (.ref C) "__getattr__"==some none&&PySem.W.findIn K (.ref C) "__class__"==some (some (.builtin "object.__class__"))&&PySem.W.specialIn K (.builtin "object.__class__") "__get__"==some (some (.builtin "getset_descriptor.__get__"))
 && PySem.W.takesIn K (.builtin "object.__class__")==some true
def attN (n:Str):List Str:=if n = "Apart" then ["word", "places"] else ["at"]
def xaIn (K:PySem.W.Frag)(C:Addr)(n:Str):Bool:=xcIn K C n&&PySem.W.hasDictIn K C&&(attN n).all fun f=>PySem.W.findIn K (.ref C) f==some none
def Xoa (K:PySem.W.Frag)(o:Obj)(n:Str)(dd:Addr):Prop:=∃ C,o.cls=.ref C∧o.dict=some dd∧PySem.W.notCls o=true∧xaIn K C n=true
def Xob (K:PySem.W.Frag)(o:Obj)(n:Str):Prop:=∃ C,o.cls=.ref C∧o.dict=none∧PySem.W.notCls o=true∧xcIn K C n=true
mutual
def Rep (K:PySem.W.Frag)(H:Hp)(μ : Mu):W→V→Prop
 | .non,v=>v=.non
 | .bl b,v=>v=.bl b
 | .int i,v=>v=.int i
 | .str x,v=>v=.str x
 | .ty n,v=>v=.ty n
 | .tup ws,v=>∃ p xs,v=.ref p∧SqT K H p xs∧aX K H μ ws xs
 | .lst ws,v=>∃ p xs,v=.ref p∧Frz H μ p xs∧aX K H μ ws xs
 | .kls ws,v=>∃ p xs,v=.ref p∧Frk K H p xs∧aX K H μ ws xs
 | .loc n,v=>∃ p,v=.ref p∧μ.f n=some p
 | .exc n,v=>∃ p o u,v=.ref p∧H p=some (.frz o u)∧Xob K o n
 | .exa n ws,v=>∃ p o u dd ns xs,v=.ref p∧H p=some (.frz o u)∧Xoa K o n dd∧H dd=some (.xd (List.zip ns xs))∧ns=attN n∧ns.length=xs.length∧aX K H μ ws xs
 | .fnv f _,v=>v=.ref f
def aX (K:PySem.W.Frag)(H:Hp)(μ : Mu):List W→List V→Prop
 | [],xs=>xs=[]
 | w::ws,xs=>∃ v vs,xs=v::vs∧Rep K H μ w v∧aX K H μ ws vs
end
section
variable {K:PySem.W.Frag}{H H' H1 H2:Hp}{μ μ' μ1 μ2:Mu}{h h':Gh}{w:W}{ws:List W}{v:V}{xs:List V}
theorem aX.len:∀ {ws:List W} {xs:List V},aX K H μ ws xs→ws.length=xs.length
 | [],xs,h=>by
  have e:xs=[]:=by rw [aX] at h;exact h
  rw [e];rfl
 | w::ws,xs,h=>by
  rw [aX] at h
  obtain ⟨v,vs,e,_,h⟩:=h
  rw [e,List.length_cons,List.length_cons,aX.len h]
theorem aX.get:∀ {ws:List W} {xs:List V} {i:Nat} {w:W},aX K H μ ws xs→ws[i]?=some w→∃ v,xs[i]?=some v∧Rep K H μ w v
 | [],_,_,_,_,e=>by simp at e
 | a::ws,xs,0,w,h,e=>by
  rw [aX] at h
  obtain ⟨v,vs,e1,r,_⟩:=h
  simp at e;subst e;subst e1
  exact ⟨v,rfl,r⟩
 | a::ws,xs,i+1,w,h,e=>by
  rw [aX] at h
  obtain ⟨v,vs,e1,_,h⟩:=h
  subst e1
  obtain ⟨u,h1,h2⟩:=aX.get (i:=i) (w:=w) h (by simpa using e)
  exact ⟨u,by simpa using h1,h2⟩
theorem aX.nil:aX K H μ [] []:=by rw [aX]
theorem aX.cons (r:Rep K H μ w v)(h:aX K H μ ws xs):aX K H μ (w::ws) (v::xs):=by
 rw [aX];exact ⟨v,xs,rfl,r,h⟩
theorem aX.append:∀ {ws:List W} {xs:List V} {us:List W} {ys:List V},aX K H μ ws xs→aX K H μ us ys→aX K H μ (ws++us) (xs++ys)
 | [],xs,us,ys,h,g=>by
  rw [aX] at h;subst h;exact g
 | w::ws,xs,us,ys,h,g=>by
  rw [aX] at h
  obtain ⟨v,vs,e,r,h⟩:=h
  subst e
  exact aX.cons r (aX.append h g)
theorem aX.one (r:Rep K H μ w v):aX K H μ [w] [v]:=aX.cons r aX.nil
theorem aX.set (r:Rep K H μ w v):∀ {ws:List W} {xs:List V} (i:Nat),aX K H μ ws xs→aX K H μ (ws.set i w) (xs.set i v)
 | [],xs,i,h=>by rw [aX] at h;subst h;exact aX.nil
 | a::ws,xs,0,h=>by
  rw [aX] at h
  obtain ⟨u,vs,e,_,h⟩:=h
  subst e
  exact aX.cons r h
 | a::ws,xs,i+1,h=>by
  rw [aX] at h
  obtain ⟨u,vs,e,q,h⟩:=h
  subst e
  exact aX.cons q (aX.set r i h)
theorem aX.take:∀ {ws:List W} {xs:List V} (n:Nat),aX K H μ ws xs→aX K H μ (ws.take n) (xs.take n)
 | _,_,0,_=>by simp only [List.take_zero];exact aX.nil
 | [],xs,n+1,h=>by rw [aX] at h;subst h;exact aX.nil
 | a::ws,xs,n+1,h=>by
  rw [aX] at h
  obtain ⟨u,vs,e,q,h⟩:=h
  subst e
  exact aX.cons q (aX.take n h)
theorem aX.drop:∀ {ws:List W} {xs:List V} (n:Nat),aX K H μ ws xs→aX K H μ (ws.drop n) (xs.drop n)
 | _,_,0,h=>h
 | [],xs,n+1,h=>by rw [aX] at h;subst h;exact aX.nil
 | a::ws,xs,n+1,h=>by
  rw [aX] at h
  obtain ⟨u,vs,e,q,h⟩:=h
  subst e
  exact aX.drop n h
structure Ex0 (K:PySem.W.Frag) (H:Hp) (μ : Mu) (H':Hp) (μ':Mu):Prop where
 t:∀ p xs,SqT K H p xs→SqT K H' p xs
 l:∀ p xs,Frz H μ p xs→Frz H' μ' p xs
 k:∀ p xs,Frk K H p xs→Frk K H' p xs
 m:∀ n p,μ.f n=some p→μ'.f n=some p
 x:∀ p o u,H p=some (.frz o u)→H' p=some (.frz o u)
 y:∀ p fs,H p=some (.xd fs)→H' p=some (.xd fs)
structure Ex (K:PySem.W.Frag) (H:Hp) (μ : Mu) (H':Hp) (μ':Mu):Prop extends Ex0 K H μ H' μ' where
 o:∀ p u,μ.hid p→H p=some u→μ'.hid p∧H' p=some u
mutual
theorem Rep.ex (e:Ex0 K H μ H' μ'):∀ {w:W} {v:V},Rep K H μ w v→Rep K H' μ' w v
 | .non,_,h=>by rw [Rep] at h ⊢;exact h
 | .bl _,_,h=>by rw [Rep] at h ⊢;exact h
 | .int _,_,h=>by rw [Rep] at h ⊢;exact h
 | .str _,_,h=>by rw [Rep] at h ⊢;exact h
 | .ty _,_,h=>by rw [Rep] at h ⊢;exact h
 | .tup ws,_,h=>by
  rw [Rep] at h ⊢
  obtain ⟨p,xs,e1,hs,hr⟩:=h
  exact ⟨p,xs,e1,e.t _ _ hs,aX.ex e hr⟩
 | .lst ws,_,h=>by
  rw [Rep] at h ⊢
  obtain ⟨p,xs,e1,hs,hr⟩:=h
  exact ⟨p,xs,e1,e.l _ _ hs,aX.ex e hr⟩
 | .kls ws,_,h=>by
  rw [Rep] at h ⊢
  obtain ⟨p,xs,e1,hs,hr⟩:=h
  exact ⟨p,xs,e1,e.k _ _ hs,aX.ex e hr⟩
 | .loc n,_,h=>by
  rw [Rep] at h ⊢
  obtain ⟨p,e1,hm⟩:=h
  exact ⟨p,e1,e.m _ _ hm⟩
 | .exc n,_,h=>by
  rw [Rep] at h ⊢
  obtain ⟨p,o,u,e1,hm,hx⟩:=h
  exact ⟨p,o,u,e1,e.x _ _ _ hm,hx⟩
 | .exa n ws,_,h=>by
  rw [Rep] at h ⊢
  obtain ⟨p,o,u,dd,ns,xs,e1,hm,hx,hd,e2,e3,hr⟩:=h
  exact ⟨p,o,u,dd,ns,xs,e1,e.x _ _ _ hm,hx,e.y _ _ hd,e2,e3,aX.ex e hr⟩
 | .fnv _ _,_,h=>by rw [Rep] at h ⊢;exact h
theorem aX.ex (e:Ex0 K H μ H' μ'):∀ {ws:List W} {xs:List V},aX K H μ ws xs→aX K H' μ' ws xs
 | [],_,h=>by rw [aX] at h ⊢;exact h
 | w::ws,_,h=>by
  rw [aX] at h ⊢
  obtain ⟨v,vs,e1,r,h⟩:=h
  exact ⟨v,vs,e1,Rep.ex e r,aX.ex e h⟩
end
structure Ext (K:PySem.W.Frag) (H:Hp) (μ : Mu) (H':Hp) (μ':Mu):Prop where
 r:∀ w v,Rep K H μ w v→Rep K H' μ' w v
 o:∀ p u,μ.hid p→H p=some u→μ'.hid p∧H' p=some u
theorem Ext.refl:Ext K H μ H μ:=⟨fun _ _ h=>h,fun _ _ h g=>⟨h,g⟩⟩
theorem Ext.trans (a:Ext K H μ H1 μ1)(b:Ext K H1 μ1 H2 μ2):Ext K H μ H2 μ2:=
 ⟨fun w v h=>b.r w v (a.r w v h),fun p u h g=>let ⟨h1,g1⟩:=a.o p u h g;b.o p u h1 g1⟩
theorem Ex.ext (e:Ex K H μ H' μ'):Ext K H μ H' μ':=⟨fun _ _ h=>Rep.ex e.toEx0 h,e.o⟩
theorem Ext.s (e:Ext K H μ H' μ'):∀ {ws:List W} {xs:List V},aX K H μ ws xs→aX K H' μ' ws xs
 | [],_,h=>by rw [aX] at h ⊢;exact h
 | w::ws,_,h=>by
  rw [aX] at h ⊢
  obtain ⟨v,vs,e1,r,h⟩:=h
  exact ⟨v,vs,e1,e.r _ _ r,Ext.s e h⟩
def MutO:Option HO→Prop
 | some (.lst _)=>True
 | some (.dK _)=>True
 | some (.ins _ _ _)=>True
 | some (.ext _)=>True
 | _=>False
def RepF {κ : Type}(K:PySem.W.Frag)(H:Hp)(μ : Mu):List (κ×W)→List (κ×V)→Prop:=Paired fun (p:κ×W) (q:κ×V)=>p.1=q.1∧Rep K H μ p.2 q.2
def entI (x:List Int×Addr×Value):DictEntry:=⟨reduceHash (Builtin.Tuple.tupleHashOf (x.1.map hashInt)),.ref x.2.1,x.2.2⟩
def DicT (a:Addr)(xs:List (List Int×Addr×Value))(h:Heap):Prop:=xs.length≤sizeLine∧(a==sysModules)=false∧(xs.map (·.1)).Nodup∧∃ o es ep,h.get? a=some o∧o.ExactDict∧o.data=.dict es ep∧es.toList=xs.map entI
def vO (K:PySem.W.Frag)(H:Hp)(μ : Mu)(p:Addr):Cell→Prop
 | .lst ws=>∃ xs,H p=some (.lst xs)∧aX K H μ ws xs
 | .obj C fs=>∃ dx fvs,H p=some (.ins C dx fvs)∧RepF K H μ fs fvs
 | .dct kvs=>∃ kvv,H p=some (.dK kvv)∧RepF K H μ kvs kvv
 | .dtt kvs=>∃ xs vs,H p=some (.ext (DicT p xs))∧kvs.map (·.1)=xs.map (·.1)∧Vals vs (xs.map (·.2.2))∧aX K H μ (kvs.map fun x=>W.tup (x.1.map W.int)) (xs.map fun x=>V.ref x.2.1)∧aX K H μ (kvs.map (·.2)) vs
structure Rel (K:PySem.W.Frag) (μ : Mu) (H:Hp) (h:Gh):Prop where
 inj:∀ m n p,μ.f m=some p→μ.f n=some p→m=n
 dom:∀ n p,μ.f n=some p→n<h.nx
 trk:∀ n p,μ.f n=some p→MutO (H p)
 cel:∀ n c,h.c n=some c→∃ p,μ.f n=some p∧vO K H μ p c
 hd:∀ p,μ.hid p→(∃ xs,H p=some (.lst xs))∧∀ n,μ.f n≠some p
theorem vO.ext {p:Addr}{c:Cell}(e:Ext K H μ H' μ')(hp:H' p=H p)(x:vO K H μ p c):vO K H' μ' p c:=by
 cases c with
 | lst ws=>obtain ⟨xs,a,b⟩:=x;exact ⟨xs,hp.trans a,e.s b⟩
 | obj C fs=>obtain ⟨dx,fvs,a,b⟩:=x;exact ⟨dx,fvs,hp.trans a,Paired.mapP b fun _ _ z=>⟨z.1,e.r _ _ z.2⟩⟩
 | dct kvs=>obtain ⟨kvv,a,b⟩:=x;exact ⟨kvv,hp.trans a,Paired.mapP b fun _ _ z=>⟨z.1,e.r _ _ z.2⟩⟩
 | dtt kvs=>obtain ⟨xs,vs,a,b,c,d,f⟩:=x;exact ⟨xs,vs,hp.trans a,b,c,e.s d,e.s f⟩
theorem Rd.laid {p q:Addr}{o u:HO}(hp:H p=none)(r:Rd H q u):Rd (upd H p o) q u:=by
 have ne:q≠p:=by
  rcases r with r | ⟨_,r⟩
  ·exact bC r hp
  ·exact bC r hp
 unfold Rd
 rw [aZ ne]
 exact r
theorem Ex.laid {p:Addr}{o:HO}(hp:H p=none):Ex K H μ (upd H p o) μ where
 t:=fun q xs h=>by
  rcases h with h | h
  ·exact .inl (h.laid hp)
  ·exact .inr h
 l:=fun q xs h=>⟨by rw [aZ (bC h.1 hp)];exact h.1,h.2⟩
 k:=fun q xs h=>by
  rcases h with ⟨o',h⟩ | h
  ·exact .inl ⟨o',by rw [aZ (bC h hp)];exact h⟩
  ·exact .inr h
 m:=fun _ _ h=>h
 x:=fun q o' u e=>by rw [aZ (bC e hp)];exact e
 y:=fun q fs e=>by rw [aZ (bC e hp)];exact e
 o:=fun q u z e=>⟨z,by rw [aZ (bC e hp)];exact e⟩
theorem Rel.laid {p:Addr}{o:HO}(R:Rel K μ H h)(hp:H p=none):Rel K μ (upd H p o) h where
 inj:=R.inj
 dom:=R.dom
 trk:=fun n q e=>by
  have:=R.trk n q e
  have ne:q≠p:=fun z=>by subst z;rw [hp] at this;exact this
  rw [aZ ne];exact this
 cel:=fun n c e=>by
  obtain ⟨q,e1,x⟩:=R.cel n c e
  have:=R.trk n q e1
  have ne:q≠p:=fun z=>by subst z;rw [hp] at this;exact this
  exact ⟨q,e1,x.ext (Ex.laid hp).ext (aZ ne)⟩
 hd:=fun q z=>by
  obtain ⟨⟨xs,e⟩,g⟩:=R.hd q z
  exact ⟨⟨xs,by rw [aZ (bC e hp)];exact e⟩,g⟩
theorem Rep.tupNew {p:Addr}(hp:H p=none)(r:aX K H μ ws xs):Rep K (upd H p (.tup xs)) μ (.tup ws) (.ref p):=by
 rw [Rep]
 exact ⟨p,xs,rfl,SqT.of cL,(Ex.laid hp).ext.s r⟩
theorem Rep.lstNew {p:Addr}(R:Rel K μ H h)(hp:H p=none)(r:aX K H μ ws xs):Rep K (upd H p (.lst xs)) μ (.lst ws) (.ref p):=by
 rw [Rep]
 refine ⟨p,xs,rfl,⟨cL,fun n e=>?_,fun z=>?_⟩,(Ex.laid hp).ext.s r⟩
 ·have:=R.trk n p e
  rw [hp] at this
  exact this
 ·obtain ⟨⟨xs,e⟩,_⟩:=R.hd p z
  rw [hp] at e
  cases e
def Mu.put (μ : Mu)(n:Nat)(p:Addr):Mu:=⟨fun m=>if m=n then some p else μ.f m,μ.hid⟩
theorem Mu.put_same {n:Nat}{p:Addr}:(μ.put n p).f n=some p:=by show (if n=n then some p else μ.f n)=_;rw [if_pos rfl]
theorem Mu.put_ne {m n:Nat}{p:Addr}(e:m≠n):(μ.put n p).f m = μ.f m:=by show (if m=n then some p else μ.f m)=_;rw [if_neg e]
def Gh.new (h:Gh)(c:Cell):Gh:=⟨h.nx+1,fun m=>if m=h.nx then some c else h.c m⟩
def Gh.set (h:Gh)(n:Nat)(c:Cell):Gh:=⟨h.nx,fun m=>if m=n then some c else h.c m⟩
theorem Rel.dead (R:Rel K μ H h){n:Nat}(hn:h.nx≤n):μ.f n=none:=by
 cases e:μ.f n with
 | none=>rfl
 | some p=>exact absurd (R.dom n p e) (by omega)
theorem Ex.newCell {p:Addr}{o:HO}(R:Rel K μ H h)(hp:H p=none):Ex K H μ (upd H p o) (μ.put h.nx p) where
 t:=fun q xs z=>(Ex.laid (μ:=μ) hp).t q xs z
 l:=fun q xs z=>by
  have nq:=bC z.1 hp
  refine ⟨by rw [aZ nq];exact z.1,fun n e=>?_,z.2.2⟩
  by_cases hn:n=h.nx
  ·subst hn
   rw [Mu.put_same] at e
   exact nq (Option.some.inj e).symm
  ·rw [Mu.put_ne hn] at e
   exact z.2.1 n e
 k:=fun q xs z=>(Ex.laid (μ:=μ) hp).k q xs z
 m:=fun n q e=>by
  have hn:n≠h.nx:=fun z=>by subst z;rw [R.dead (Nat.le_refl _)] at e;cases e
  rw [Mu.put_ne hn];exact e
 x:=fun q o' u e=>by rw [aZ (bC e hp)];exact e
 y:=fun q fs e=>by rw [aZ (bC e hp)];exact e
 o:=fun q u z e=>⟨z,by rw [aZ (bC e hp)];exact e⟩
theorem Rel.newCell {p:Addr}{o:HO}{c:Cell}(R:Rel K μ H h)(hp:H p=none)(mo:MutO (some o))(ck:vO K (upd H p o) (μ.put h.nx p) p c):Rel K (μ.put h.nx p) (upd H p o) (h.new c) where
 inj:=fun m n q em en=>by
  by_cases hm:m=h.nx
  ·by_cases hn:n=h.nx
   ·rw [hm,hn]
   ·rw [hm,Mu.put_same] at em
    rw [Mu.put_ne hn] at en
    have e:p=q:=Option.some.inj em
    subst e
    have:=R.trk n _ en
    rw [hp] at this
    exact this.elim
  ·rw [Mu.put_ne hm] at em
   by_cases hn:n=h.nx
   ·rw [hn,Mu.put_same] at en
    have e:p=q:=Option.some.inj en
    subst e
    have:=R.trk m _ em
    rw [hp] at this
    exact this.elim
   ·rw [Mu.put_ne hn] at en
    exact R.inj m n q em en
 dom:=fun n q e=>by
  show n<h.nx+1
  by_cases hn:n=h.nx
  ·omega
  ·rw [Mu.put_ne hn] at e
   have:=R.dom n q e
   omega
 trk:=fun n q e=>by
  by_cases hn:n=h.nx
  ·rw [hn,Mu.put_same] at e
   have e:p=q:=Option.some.inj e
   subst e
   rw [cL];exact mo
  ·rw [Mu.put_ne hn] at e
   have:=R.trk n q e
   have ne:q≠p:=fun z=>by subst z;rw [hp] at this;exact this
   rw [aZ ne];exact this
 cel:=fun n d e=>by
  have e:(if n=h.nx then some c else h.c n)=some d:=e
  by_cases hn:n=h.nx
  ·rw [if_pos hn] at e
   have e:c=d:=Option.some.inj e
   subst e
   exact ⟨p,by rw [hn,Mu.put_same],ck⟩
  ·rw [if_neg hn] at e
   obtain ⟨q,e1,x⟩:=R.cel n d e
   have:=R.trk n q e1
   have ne:q≠p:=fun z=>by subst z;rw [hp] at this;exact this
   exact ⟨q,by rw [Mu.put_ne hn];exact e1,x.ext (Ex.newCell R hp).ext (aZ ne)⟩
 hd:=fun q z=>by
  obtain ⟨⟨xs,e⟩,g⟩:=R.hd q z
  have ne:=bC e hp
  refine ⟨⟨xs,by rw [aZ ne];exact e⟩,fun n en=>?_⟩
  by_cases hn:n=h.nx
  ·rw [hn,Mu.put_same] at en
   exact ne (Option.some.inj en).symm
  ·rw [Mu.put_ne hn] at en
   exact g n en
theorem Rd.kept {p q:Addr}{o u:HO}(mo:MutO (H p))(r:Rd H q u)(hn:q≠p):Rd (upd H p o) q u:=by
 unfold Rd
 rw [aZ hn]
 exact r
theorem Ex.write {n:Nat}{p:Addr}{o:HO}(R:Rel K μ H h)(hn:μ.f n=some p):Ex K H μ (upd H p o) μ where
 t:=fun q xs z=>by
  rcases z with z | z
  ·refine .inl (z.kept (R.trk n p hn) fun e=>?_)
   subst e
   have:=R.trk n q hn
   rcases z with r | ⟨_,r⟩ <;> rw [r] at this <;> exact this
  ·exact .inr z
 l:=fun q xs z=>⟨by rw [aZ (fun e=>z.2.1 n (by rw [e];exact hn))];exact z.1,z.2⟩
 k:=fun q xs z=>by
  rcases z with ⟨o',z⟩ | z
  ·refine .inl ⟨o',?_⟩
   rw [aZ (fun e=>?_)]
   ·exact z
   ·subst e
    have:=R.trk n q hn
    rw [z] at this
    exact this
  ·exact .inr z
 m:=fun _ _ e=>e
 x:=fun q o' u e=>by
  rw [aZ (fun y=>?_)]
  ·exact e
  ·subst y
   have:=R.trk n q hn
   rw [e] at this
   exact this
 y:=fun q fs e=>by
  rw [aZ (fun y=>?_)]
  ·exact e
  ·subst y
   have:=R.trk n q hn
   rw [e] at this
   exact this
 o:=fun q u z e=>⟨z,by rw [aZ (fun y=>(R.hd q z).2 n (by rw [y];exact hn))];exact e⟩
theorem Rel.write {n:Nat}{p:Addr}{o:HO}{c:Cell}(R:Rel K μ H h)(hn:μ.f n=some p)(mo:MutO (some o))(ck:vO K (upd H p o) μ p c):Rel K μ (upd H p o) (h.set n c) where
 inj:=R.inj
 dom:=R.dom
 trk:=fun m q e=>by
  by_cases z:q=p
  ·subst z;rw [cL];exact mo
  ·rw [aZ z];exact R.trk m q e
 cel:=fun m d e=>by
  have e:(if m=n then some c else h.c m)=some d:=e
  by_cases hm:m=n
  ·rw [if_pos hm] at e
   have e:c=d:=Option.some.inj e
   subst e
   exact ⟨p,by rw [hm];exact hn,ck⟩
  ·rw [if_neg hm] at e
   obtain ⟨q,e1,x⟩:=R.cel m d e
   have ne:q≠p:=fun z=>by subst z;exact hm (R.inj m n q e1 hn)
   exact ⟨q,e1,x.ext (Ex.write R hn).ext (aZ ne)⟩
 hd:=fun q z=>by
  obtain ⟨⟨xs,e⟩,g⟩:=R.hd q z
  exact ⟨⟨xs,by rw [aZ (fun y=>g n (by rw [y];exact hn))];exact e⟩,g⟩
mutual
def Lo (k:Nat):W→Prop
 | .tup ws=>Los k ws
 | .lst ws=>Los k ws
 | .kls ws=>Los k ws
 | .exa _ ws=>Los k ws
 | .loc n=>n<k
 | _=>True
def Los (k:Nat):List W→Prop
 | []=>True
 | w::ws=>Lo k w∧Los k ws
end
mutual
theorem Rep.lo {k:Nat}(hd:∀ n p,μ.f n=some p→n<k):∀ {w:W} {v:V},Rep K H μ w v→Lo k w
 | .non,_,_=>by rw [Lo] <;> first | trivial | (intros;contradiction)
 | .bl _,_,_=>by rw [Lo] <;> first | trivial | (intros;contradiction)
 | .int _,_,_=>by rw [Lo] <;> first | trivial | (intros;contradiction)
 | .str _,_,_=>by rw [Lo] <;> first | trivial | (intros;contradiction)
 | .ty _,_,_=>by rw [Lo] <;> first | trivial | (intros;contradiction)
 | .exc _,_,_=>by rw [Lo] <;> first | trivial | (intros;contradiction)
 | .fnv _ _,_,_=>by rw [Lo] <;> first | trivial | (intros;contradiction)
 | .exa _ ws,_,h=>by
  rw [Rep] at h
  obtain ⟨_,_,_,_,_,_,_,_,_,_,_,_,hr⟩:=h
  rw [Lo]
  exact aX.lo hd hr
 | .tup ws,_,h=>by
  rw [Rep] at h
  obtain ⟨p,xs,_,_,hr⟩:=h
  rw [Lo]
  exact aX.lo hd hr
 | .lst ws,_,h=>by
  rw [Rep] at h
  obtain ⟨p,xs,_,_,hr⟩:=h
  rw [Lo]
  exact aX.lo hd hr
 | .kls ws,_,h=>by
  rw [Rep] at h
  obtain ⟨p,xs,_,_,hr⟩:=h
  rw [Lo]
  exact aX.lo hd hr
 | .loc n,_,h=>by
  rw [Rep] at h
  obtain ⟨p,_,hm⟩:=h
  rw [Lo]
  exact hd n p hm
theorem aX.lo {k:Nat}(hd:∀ n p,μ.f n=some p→n<k):∀ {ws:List W} {xs:List V},aX K H μ ws xs→Los k ws
 | [],_,_=>by rw [Los];trivial
 | w::ws,_,h=>by
  rw [aX] at h
  obtain ⟨v,vs,_,r,h⟩:=h
  rw [Los]
  exact ⟨Rep.lo hd r,aX.lo hd h⟩
end
def Mu.cut (μ : Mu)(k:Nat):Mu:=⟨fun n=>if n<k then μ.f n else none,μ.hid⟩
theorem Mu.cut_some {k n:Nat}{p:Addr}(e:(μ.cut k).f n=some p):n<k∧μ.f n=some p:=by
 have e:(if n<k then μ.f n else none)=some p:=e
 by_cases hn:n<k
 ·rw [if_pos hn] at e;exact ⟨hn,e⟩
 ·rw [if_neg hn] at e;cases e
mutual
theorem Rep.cut {k:Nat}:∀ {w:W} {v:V},Rep K H μ w v→Lo k w→Rep K H (μ.cut k) w v
 | .non,_,h,_=>by rw [Rep] at h ⊢;exact h
 | .bl _,_,h,_=>by rw [Rep] at h ⊢;exact h
 | .int _,_,h,_=>by rw [Rep] at h ⊢;exact h
 | .str _,_,h,_=>by rw [Rep] at h ⊢;exact h
 | .ty _,_,h,_=>by rw [Rep] at h ⊢;exact h
 | .exc _,_,h,_=>by rw [Rep] at h ⊢;exact h
 | .fnv _ _,_,h,_=>by rw [Rep] at h ⊢;exact h
 | .exa _ ws,_,h,l=>by
  rw [Rep] at h ⊢
  rw [Lo] at l
  obtain ⟨p,o,u,dd,ns,xs,e1,hm,hx,hd,e2,e3,hr⟩:=h
  exact ⟨p,o,u,dd,ns,xs,e1,hm,hx,hd,e2,e3,aX.cut hr l⟩
 | .tup ws,_,h,l=>by
  rw [Rep] at h ⊢
  rw [Lo] at l
  obtain ⟨p,xs,e1,hs,hr⟩:=h
  exact ⟨p,xs,e1,hs,aX.cut hr l⟩
 | .lst ws,_,h,l=>by
  rw [Rep] at h ⊢
  rw [Lo] at l
  obtain ⟨p,xs,e1,hs,hr⟩:=h
  exact ⟨p,xs,e1,⟨hs.1,fun n e=>hs.2.1 n (Mu.cut_some e).2,hs.2.2⟩,aX.cut hr l⟩
 | .kls ws,_,h,l=>by
  rw [Rep] at h ⊢
  rw [Lo] at l
  obtain ⟨p,xs,e1,hs,hr⟩:=h
  exact ⟨p,xs,e1,hs,aX.cut hr l⟩
 | .loc n,_,h,l=>by
  rw [Rep] at h ⊢
  rw [Lo] at l
  obtain ⟨p,e1,hm⟩:=h
  refine ⟨p,e1,?_⟩
  show (if n<k then μ.f n else none)=some p
  rw [if_pos l]
  exact hm
theorem aX.cut {k:Nat}:∀ {ws:List W} {xs:List V},aX K H μ ws xs→Los k ws→aX K H (μ.cut k) ws xs
 | [],_,h,_=>by rw [aX] at h ⊢;exact h
 | w::ws,_,h,l=>by
  rw [aX] at h ⊢
  rw [Los] at l
  obtain ⟨v,vs,e1,r,h⟩:=h
  exact ⟨v,vs,e1,Rep.cut r l.1,aX.cut h l.2⟩
end
end
end L2
namespace L2
open PySem PySem.Spec PyProof.Rows
section
variable {K:PySem.W.Frag}{H H' H1 H2:Hp}{μ μ' μ1 μ2:Mu}{h h':Gh}{w:W}{ws:List W}{v:V}{xs ys:List V}{p:Addr}
def Mu.hide (μ : Mu)(p:Addr):Mu:=⟨μ.f,fun q=>q=p∨μ.hid q⟩
def Mu.unhide (μ : Mu)(p:Addr):Mu:=⟨μ.f,fun q=>q≠p∧μ.hid q⟩
structure ExtX (p:Addr) (K:PySem.W.Frag) (H:Hp) (μ : Mu) (H':Hp) (μ':Mu):Prop where
 r:∀ w v,Rep K H μ w v→Rep K H' μ' w v
 o:∀ q u,q≠p→μ.hid q→H q=some u→μ'.hid q∧H' q=some u
theorem Ext.x (a:Ext K H μ H1 μ1)(hp:¬ μ.hid p)(b:ExtX p K H1 μ1 H2 μ2):Ext K H μ H2 μ2:=
 ⟨fun w v z=>b.r w v (a.r w v z),fun q u z e=>let ⟨z1,e1⟩:=a.o q u z e;b.o q u (fun y=>hp (by rw [←y];exact z)) z1 e1⟩
theorem Ext.hide {o:HO}(hp:H p=none):Ext K H μ (upd H p o) (μ.hide p):=Ex.ext {
 t:=fun q xs z=>(Ex.laid (μ:=μ) hp).t q xs z
 l:=fun q xs z=>by
  have nq:=bC z.1 hp
  refine ⟨by rw [aZ nq];exact z.1,z.2.1,fun y=>?_⟩
  rcases y with y | y
  ·exact nq y
  ·exact z.2.2 y
 k:=fun q xs z=>(Ex.laid (μ:=μ) hp).k q xs z
 m:=fun _ _ e=>e
 x:=fun q o' u e=>by rw [aZ (bC e hp)];exact e
 y:=fun q fs e=>by rw [aZ (bC e hp)];exact e
 o:=fun q u z e=>⟨.inr z,by rw [aZ (bC e hp)];exact e⟩ }
theorem Rel.nohid (R:Rel K μ H h)(hp:H p=none):¬ μ.hid p:=fun z=>by
 obtain ⟨⟨xs,e⟩,_⟩:=R.hd p z
 rw [hp] at e;cases e
theorem Rel.hide (R:Rel K μ H h)(hp:H p=none):Rel K (μ.hide p) (upd H p (.lst xs)) h where
 inj:=R.inj
 dom:=R.dom
 trk:=(R.laid hp).trk
 cel:=fun n c e=>by
  obtain ⟨q,e1,x⟩:=R.cel n c e
  have:=R.trk n q e1
  have ne:q≠p:=fun z=>by subst z;rw [hp] at this;exact this
  exact ⟨q,e1,x.ext (Ext.hide hp) (aZ ne)⟩
 hd:=fun q z=>by
  rcases z with z | z
  ·subst z
   refine ⟨⟨xs,cL⟩,fun n e=>?_⟩
   have:=R.trk n q e
   rw [hp] at this
   exact this
  ·exact (R.laid (o:=.lst xs) hp).hd q z
theorem Ex0.grow (R:Rel K μ H h)(hp:μ.hid p):Ex0 K H μ (upd H p (.lst ys)) μ where
 t:=fun q xs z=>by
  rcases z with z | z
  ·refine .inl ?_
   unfold Rd
   rw [aZ (fun y=>?_)]
   ·exact z
   ·subst y
    obtain ⟨⟨xs',e⟩,_⟩:=R.hd q hp
    rcases z with r | ⟨_,r⟩ <;> rw [e] at r <;> cases r
  ·exact .inr z
 l:=fun q xs z=>⟨by rw [aZ (fun y=>z.2.2 (by rw [y];exact hp))];exact z.1,z.2⟩
 k:=fun q xs z=>by
  rcases z with ⟨o',z⟩ | z
  ·refine .inl ⟨o',?_⟩
   rw [aZ (fun y=>?_)]
   ·exact z
   ·subst y
    obtain ⟨⟨xs',e⟩,_⟩:=R.hd q hp
    rw [e] at z
    cases z
  ·exact .inr z
 m:=fun _ _ e=>e
 x:=fun q o' u e=>by
  rw [aZ (fun y=>?_)]
  ·exact e
  ·subst y
   obtain ⟨⟨xs',e'⟩,_⟩:=R.hd q hp
   rw [e'] at e
   cases e
 y:=fun q fs e=>by
  rw [aZ (fun y=>?_)]
  ·exact e
  ·subst y
   obtain ⟨⟨xs',e'⟩,_⟩:=R.hd q hp
   rw [e'] at e
   cases e
theorem ExtX.grow (R:Rel K μ H h)(hp:μ.hid p):ExtX p K H μ (upd H p (.lst ys)) μ:=
 ⟨fun _ _ z=>Rep.ex (Ex0.grow R hp) z,fun q u ne z e=>⟨z,by rw [aZ ne];exact e⟩⟩
theorem Rel.grow (R:Rel K μ H h)(hp:μ.hid p):Rel K μ (upd H p (.lst ys)) h where
 inj:=R.inj
 dom:=R.dom
 trk:=fun n q e=>by
  have ne:q≠p:=fun z=>(R.hd p hp).2 n (by rw [←z];exact e)
  rw [aZ ne];exact R.trk n q e
 cel:=fun n c e=>by
  obtain ⟨q,e1,x⟩:=R.cel n c e
  have ne:q≠p:=fun z=>(R.hd p hp).2 n (by rw [←z];exact e1)
  refine ⟨q,e1,?_⟩
  cases c with
  | lst ws=>obtain ⟨xs,a,b⟩:=x;exact ⟨xs,(aZ ne).trans a,aX.ex (Ex0.grow R hp) b⟩
  | obj C fs=>obtain ⟨dx,fvs,a,b⟩:=x;exact ⟨dx,fvs,(aZ ne).trans a,Paired.mapP b fun _ _ z=>⟨z.1,Rep.ex (Ex0.grow R hp) z.2⟩⟩
  | dct kvs=>obtain ⟨kvv,a,b⟩:=x;exact ⟨kvv,(aZ ne).trans a,Paired.mapP b fun _ _ z=>⟨z.1,Rep.ex (Ex0.grow R hp) z.2⟩⟩
  | dtt kvs=>obtain ⟨xs,vs,a,b,c,d,f⟩:=x;exact ⟨xs,vs,(aZ ne).trans a,b,c,aX.ex (Ex0.grow R hp) d,aX.ex (Ex0.grow R hp) f⟩
 hd:=fun q z=>by
  by_cases e:q=p
  ·subst e;exact ⟨⟨ys,cL⟩,(R.hd q hp).2⟩
  ·rw [aZ e];exact R.hd q z
theorem Ex0.unhide:Ex0 K H μ H (μ.unhide p) where
 t:=fun _ _ z=>z
 l:=fun q xs z=>⟨z.1,z.2.1,fun y=>z.2.2 y.2⟩
 k:=fun _ _ z=>z
 m:=fun _ _ e=>e
 x:=fun _ _ _ e=>e
 y:=fun _ _ e=>e
theorem ExtX.unhide:ExtX p K H μ H (μ.unhide p):=⟨fun _ _ z=>Rep.ex Ex0.unhide z,fun q u ne z e=>⟨⟨ne,z⟩,e⟩⟩
theorem Rel.unhide (R:Rel K μ H h):Rel K (μ.unhide p) H h where
 inj:=R.inj
 dom:=R.dom
 trk:=R.trk
 cel:=fun n c e=>by
  obtain ⟨q,e1,x⟩:=R.cel n c e
  refine ⟨q,e1,?_⟩
  cases c with
  | lst ws=>obtain ⟨xs,a,b⟩:=x;exact ⟨xs,a,aX.ex Ex0.unhide b⟩
  | obj C fs=>obtain ⟨dx,fvs,a,b⟩:=x;exact ⟨dx,fvs,a,Paired.mapP b fun _ _ z=>⟨z.1,Rep.ex Ex0.unhide z.2⟩⟩
  | dct kvs=>obtain ⟨kvv,a,b⟩:=x;exact ⟨kvv,a,Paired.mapP b fun _ _ z=>⟨z.1,Rep.ex Ex0.unhide z.2⟩⟩
  | dtt kvs=>obtain ⟨xs,vs,a,b,c,d,f⟩:=x;exact ⟨xs,vs,a,b,c,aX.ex Ex0.unhide d,aX.ex Ex0.unhide f⟩
 hd:=fun q z=>R.hd q z.2
theorem Rep.built (R:Rel K μ H h)(hp:μ.hid p)(e:H p=some (.lst xs))(r:aX K H μ ws xs):Rep K H (μ.unhide p) (.lst ws) (.ref p):=by
 rw [Rep]
 exact ⟨p,xs,rfl,⟨e,(R.hd p hp).2,fun z=>z.1 rfl⟩,aX.ex Ex0.unhide r⟩
end
abbrev Sw:=List (Option W)
abbrev WK:=W→Gh→Prop
abbrev ME:=Sw→Gh→WK→Prop
abbrev MT:=Sw→Gh→(Bool→Gh→Prop)→Prop
abbrev MA:=Sw→Gh→(List W→Gh→Prop)→Prop
structure cC where
 nx:Sw→Gh→Prop
 rt:WK
 bk:Sw→Gh→Prop:=fun _ _=>False
 ct:Sw→Gh→Prop:=fun _ _=>False
abbrev MS:=cC→Sw→Gh→Prop
abbrev MG:=W→Sw→Gh→(Sw→Gh→Prop)→Prop
abbrev MGs:=List W→Sw→Gh→(Sw→Gh→Prop)→Prop
structure Xw where
 cls:Str
 fs:List (Str×W)
abbrev XWK:=Xw→Gh→Prop
abbrev MSp:=List W→Gh→WK→XWK→Prop
def EF:XWK:=fun _ _=>False
structure Slots (K:PySem.W.Frag) (H:Hp) (μ : Mu) (σw:Sw) (σ : St):Prop where
 len:σw.length = σ.length
 get:∀ (i:Nat) (w:W),σw[i]?=some (some w)→∃ v,σ[i]?=some (some v)∧Rep K H μ w v
def DQ (K:PySem.W.Frag)(H:Hp)(μ : Mu)(Q:WK):VK:=fun v H'=>∃ μ' w h',Ext K H μ H' μ'∧Rel K μ' H' h'∧Rep K H' μ' w v∧Q w h'
def DB (K:PySem.W.Frag)(H:Hp)(μ : Mu)(Q:Bool→Gh→Prop):Bool→Hp→Prop:=fun b H'=>∃ μ' h',Ext K H μ H' μ'∧Rel K μ' H' h'∧Q b h'
def DA (K:PySem.W.Frag)(H:Hp)(μ : Mu)(Q:List W→Gh→Prop):List V→Hp→Prop:=fun vs H'=>∃ μ' ws h',Ext K H μ H' μ'∧Rel K μ' H' h'∧aX K H' μ' ws vs∧Q ws h'
def DN (K:PySem.W.Frag)(H:Hp)(μ : Mu)(N:Sw→Gh→Prop):St→Hp→Prop:=fun σ' H'=>∃ μ' σw' h',Ext K H μ H' μ'∧Rel K μ' H' h'∧Slots K H' μ' σw' σ'∧N σw' h'
section
variable {K:PySem.W.Frag}{H H' H1 H2:Hp}{μ μ' μ1 μ2:Mu}{h h' h1:Gh}{w:W}{v:V}{σ : St}{σw:Sw}
theorem Slots.ext (S:Slots K H μ σw σ)(e:Ext K H μ H' μ'):Slots K H' μ' σw σ:=⟨S.len,fun i w q=>let ⟨v,a,b⟩:=S.get i w q;⟨v,a,e.r _ _ b⟩⟩
theorem Slots.set (S:Slots K H μ σw σ)(r:Rep K H μ w v)(i:Nat):Slots K H μ (σw.set i (some w)) (σ.set i (some v)):=by
 refine ⟨by rw [List.length_set,List.length_set,S.len],fun j u q=>?_⟩
 rw [List.getElem?_set] at q ⊢
 by_cases hij:i=j
 ·rw [if_pos hij] at q ⊢
  by_cases hl:i < σw.length
  ·rw [if_pos hl] at q
   rw [if_pos (by rw [←S.len];exact hl)]
   have e:w=u:=by injection q with q;injection q
   subst e
   exact ⟨v,rfl,r⟩
  ·rw [if_neg hl] at q;cases q
 ·rw [if_neg hij] at q ⊢
  exact S.get j u q
theorem DQ.trans {Q:WK}(e:Ext K H μ H1 μ1)(q:DQ K H1 μ1 Q v H'):DQ K H μ Q v H':=let ⟨μ',w,h',a,b⟩:=q;⟨μ',w,h',e.trans a,b⟩
theorem DB.trans {Q:Bool→Gh→Prop}{b:Bool}(e:Ext K H μ H1 μ1)(q:DB K H1 μ1 Q b H'):DB K H μ Q b H':=let ⟨μ',h',a,b⟩:=q;⟨μ',h',e.trans a,b⟩
theorem DN.trans {N:Sw→Gh→Prop}{σ':St}(e:Ext K H μ H1 μ1)(q:DN K H1 μ1 N σ' H'):DN K H μ N σ' H':=let ⟨μ',w,h',a,b⟩:=q;⟨μ',w,h',e.trans a,b⟩
end
def tD (K:PySem.W.Frag)(m:ME):TE:=fun σ H Q=>∃ μ h σw Qw,Rel K μ H h∧Slots K H μ σw σ∧m σw h Qw∧∀ v H',DQ K H μ Qw v H'→Q v H'
def tDT (K:PySem.W.Frag)(m:MT):TT:=fun σ H Q=>∃ μ h σw Qw,Rel K μ H h∧Slots K H μ σw σ∧m σw h Qw∧∀ b H',DB K H μ Qw b H'→Q b H'
def tDA (K:PySem.W.Frag)(m:MA):TA:=fun σ H Q=>∃ μ h σw Qw,Rel K μ H h∧Slots K H μ σw σ∧m σw h Qw∧∀ vs H',DA K H μ Qw vs H'→Q vs H'
def tDG (K:PySem.W.Frag)(g:MG):TG:=fun v σ H N=>∃ μ h σw w Nw,Rel K μ H h∧Slots K H μ σw σ∧Rep K H μ w v∧g w σw h Nw∧∀ σ' H',DN K H μ Nw σ' H'→N σ' H'
def tDGs (K:PySem.W.Frag)(g:MGs):TGs:=fun vs σ H N=>∃ μ h σw ws Nw,Rel K μ H h∧Slots K H μ σw σ∧aX K H μ ws vs∧g ws σw h Nw∧∀ σ' H',DN K H μ Nw σ' H'→N σ' H'
structure EndsOk (K:PySem.W.Frag) (H:Hp) (μ : Mu) (Dw:cC) (D:Ends):Prop where
 nx:∀ σ' H',DN K H μ Dw.nx σ' H'→D.nx σ' H'
 rt:∀ v H',DQ K H μ Dw.rt v H'→D.rt v H'
 bk:∀ σ' H',DN K H μ Dw.bk σ' H'→D.bk σ' H'
 ct:∀ σ' H',DN K H μ Dw.ct σ' H'→D.ct σ' H'
def tDS (K:PySem.W.Frag)(m:MS):TS:=fun D σ H=>∃ μ h σw Dw,Rel K μ H h∧Slots K H μ σw σ∧m Dw σw h∧EndsOk K H μ Dw D
theorem EndsOk.trans {K:PySem.W.Frag}{H H1:Hp}{μ μ1:Mu}{Dw:cC}{D:Ends}(k:EndsOk K H μ Dw D)(e:Ext K H μ H1 μ1):EndsOk K H1 μ1 Dw D:=
 ⟨fun _ _ q=>k.nx _ _ (q.trans e),fun _ _ q=>k.rt _ _ (q.trans e),fun _ _ q=>k.bk _ _ (q.trans e),fun _ _ q=>k.ct _ _ (q.trans e)⟩
section
variable {X:Cx}{e:Expr}{es:List Expr}{st:Stmt}{sts:List Stmt}
theorem PE.of {t t':TE}(h:PE X e t)(k:∀ σ H Q,t' σ H Q→t σ H Q):PE X e t':=fun pins s σ H Q I q=>h pins s σ H Q I (k σ H Q q)
theorem PT.of {t t':TT}(h:PT X e t)(k:∀ σ H Q,t' σ H Q→t σ H Q):PT X e t':=fun pins s σ H Q I q=>h pins s σ H Q I (k σ H Q q)
theorem PW.of {t t':TT}(h:PW X e t)(k:∀ σ H Q,t' σ H Q→t σ H Q):PW X e t':=fun wh pins s σ H Q I q=>h wh pins s σ H Q I (k σ H Q q)
theorem PA.of {t t':TA}(h:PA X es t)(k:∀ σ H Q,t' σ H Q→t σ H Q):PA X es t':=fun pos pins s σ H Q I q=>h pos pins s σ H Q I (k σ H Q q)
theorem PG.of {t t':TG}(h:PG X e t)(k:∀ v σ H Q,t' v σ H Q→t v σ H Q):PG X e t':=fun pins s σ H v u Q I r q=>h pins s σ H v u Q I r (k v σ H Q q)
theorem PGs.of {t t':TGs}(h:PGs X es t)(k:∀ v σ H Q,t' v σ H Q→t v σ H Q):PGs X es t':=fun pins s σ H v u Q I r q=>h pins s σ H v u Q I r (k v σ H Q q)
theorem PS.of {t t':TS}(h:PS X st t)(k:∀ D σ H,t' D σ H→t D σ H):PS X st t':=fun pins s σ H D I q=>h pins s σ H D I (k D σ H q)
theorem PSs.of {t t':TS}(h:PSs X sts t)(k:∀ D σ H,t' D σ H→t D σ H):PSs X sts t':=fun pins s σ H D I q=>h pins s σ H D I (k D σ H q)
end
abbrev DE (X:Cx)(e:Expr)(m:ME):Prop:=PE X e (tD X.K m)
abbrev DT (X:Cx)(e:Expr)(m:MT):Prop:=PT X e (tDT X.K m)
abbrev DWt (X:Cx)(e:Expr)(m:MT):Prop:=PW X e (tDT X.K m)
abbrev DAs (X:Cx)(es:List Expr)(m:MA):Prop:=PA X es (tDA X.K m)
abbrev DG (X:Cx)(e:Expr)(m:MG):Prop:=PG X e (tDG X.K m)
abbrev DGss (X:Cx)(es:List Expr)(m:MGs):Prop:=PGs X es (tDGs X.K m)
abbrev DS (X:Cx)(st:Stmt)(m:MS):Prop:=PS X st (tDS X.K m)
abbrev DSs (X:Cx)(st:List Stmt)(m:MS):Prop:=PSs X st (tDS X.K m)
section
variable {X:Cx}{e a b c:Expr}{ma mb mc:ME}{pos:Pos}
def aB (i:Nat):ME:=fun σ h Q=>match σ[i]? with
 | some (some w)=>Q w h
 | _=>False
def mC (w:W):ME:=fun _ h Q=>Q w h
theorem dv (i:Nat)(he:PE X e (tVar i)):DE X e (aB i):=he.of fun σ H Q ⟨μ,h,σw,Qw,R,S,m,k⟩=>by
 unfold aB at m
 cases q:σw[i]? with
 | none=>rw [q] at m;exact m.elim
 | some o=>
  rw [q] at m
  cases o with
  | none=>exact m.elim
  | some w=>
   obtain ⟨v,h1,h2⟩:=S.get i w q
   exact ⟨v,h1,k _ _ ⟨μ,w,h,.refl,R,h2,m⟩⟩
theorem dc {w:W}{v:V}(he:PE X e (tC v))(r:∀ H μ,Rep X.K H μ w v):DE X e (mC w):=he.of fun σ H Q ⟨μ,h,σw,Qw,R,S,m,k⟩=>k _ _ ⟨μ,w,h,.refl,R,r H μ,m⟩
theorem aC {i:Int}{j pos}:DE X (.Constant (.int i) j pos) (mC (.int i)):=dc pe_int fun _ _=>by rw [Rep]
theorem d_bl {i:Bool}{j pos}:DE X (.Constant (.bool i) j pos) (mC (.bl i)):=dc pe_bl fun _ _=>by rw [Rep]
theorem nA {j pos}:DE X (.Constant .none j pos) (mC .non):=dc pe_non fun _ _=>by rw [Rep]
theorem lJ {i:Str}{j pos}:DE X (.Constant (.str i) j pos) (mC (.str i)):=dc pe_str fun _ _=>by rw [Rep]
abbrev M2:=W→W→Gh→WK→Prop
def mOp (r:M2)(ma mb:ME):ME:=fun σ h Q=>ma σ h fun x h1=>mb σ h1 fun y h2=>r x y h2 Q
def Sim2 (K:PySem.W.Frag)(r:R2)(mr:M2):Prop:=∀ {H:Hp} {μ : Mu} {h:Gh} {x y:V} {wx wy:W} {Qw:WK} {Q:VK},Rel K μ H h→Rep K H μ wx x→Rep K H μ wy y→mr wx wy h Qw →
 (∀ v H',DQ K H μ Qw v H'→Q v H')→r x y H Q
theorem two {K:PySem.W.Frag}{σ : St}{H:Hp}{Q:VK}{mr:M2}{R2':V→V→Hp→Prop}(h:tD K (mOp mr ma mb) σ H Q)
  (k:∀ {H2:Hp} {μ2:Mu} {h2:Gh} {x y:V} {wx wy:W} {Qw:WK},Rel K μ2 H2 h2→Rep K H2 μ2 wx x→Rep K H2 μ2 wy y→mr wx wy h2 Qw→(∀ v H',DQ K H2 μ2 Qw v H'→Q v H')→R2' x y H2) :
  tD K ma σ H fun x H1=>tD K mb σ H1 fun y H2=>R2' x y H2:=by
 obtain ⟨μ,g,σw,Qw,R,S,m,q⟩:=h
 refine ⟨μ,g,σw,_,R,S,m,fun x H1 ⟨μ1,wx,h1,e1,R1,r1,m1⟩=>?_⟩
 refine ⟨μ1,h1,σw,_,R1,S.ext e1,m1,fun y H2 ⟨μ2,wy,h2,e2,R2,r2,m2⟩=>?_⟩
 exact k R2 (e2.r _ _ r1) r2 m2 fun v H' z=>q _ _ ((z.trans e2).trans e1)
def DOp (X:Cx)(f:Value→Value→Sem Value)(mr:M2):Prop:=∃ r,OpR X f r∧Sim2 X.K r mr
theorem bI {op:Operator}{mr:M2}(ho:DOp X (binaryOp op) mr)(ha:DE X a ma)(hb:DE X b mb):DE X (.BinOp a op b pos) (mOp mr ma mb):=by
 obtain ⟨r,o,s⟩:=ho
 exact (pe_op o ha hb).of fun σ H Q h=>two h fun R r1 r2 m k=>s R r1 r2 m k
theorem mj {op:CmpOp}{mr:M2}(ho:DOp X (compareOp op) mr)(ha:DE X a ma)(hb:DE X b mb)(hm:behindInMarks op b=false):DE X (.Compare a [op] [b] pos) (mOp mr ma mb):=by
 obtain ⟨r,o,s⟩:=ho
 exact (pe_cmpR o ha hb hm).of fun σ H Q h=>two h fun R r1 r2 m k=>s R r1 r2 m k
def bK (m:ME):MT:=fun σ h Q=>m σ h fun w h1=>match w with
 | .bl c=>Q c h1
 | _=>False
theorem test_of {K:PySem.W.Frag}{σ : St}{H:Hp}{m:ME}{Q:Bool→Hp→Prop}(h:tDT K (bK m) σ H Q):tD K m σ H fun x H'=>∃ k,x=.bl k∧Q k H':=by
 obtain ⟨μ,g,σw,Qw,R,S,mm,q⟩:=h
 refine ⟨μ,g,σw,_,R,S,mm,fun v H' ⟨μ1,w,h1,e1,R1,r1,m1⟩=>?_⟩
 cases w with
 | bl c=>rw [Rep] at r1;exact ⟨c,r1,q _ _ ⟨μ1,h1,e1,R1,m1⟩⟩
 | _=>exact m1.elim
theorem bw {op:CmpOp}{mr:M2}(ho:DOp X (compareOp op) mr)(ha:DE X a ma)(hb:DE X b mb)(hm:behindInMarks op b=false):DT X (.Compare a [op] [b] pos) (bK (mOp mr ma mb)):=by
 obtain ⟨r,o,s⟩:=ho
 exact (pt_cmpR o ha hb hm).of fun σ H Q h=>two (test_of h) fun R r1 r2 m k=>s R r1 r2 m k
def by2 (c:Bool)(a b:Prop):Prop:=match c with
 | true=>a
 | false=>b
def br (c:Bool)(a b:Prop):Prop:=(c=true→a)∧(c=false→b)
theorem br_t {c:Bool}{a b:Prop}(e:c=true)(x:a):br c a b:=⟨fun _=>x,fun z=>by rw [e] at z;cases z⟩
theorem br_f {c:Bool}{a b:Prop}(e:c=false)(x:b):br c a b:=⟨fun z=>(by rw [e] at z;cases z),fun _=>x⟩
theorem iH {c:Prop} [Decidable c] {a b:Prop} (x:c→a) (y:¬ c→b):br (decide c) a b:=⟨fun e=>x (of_decide_eq_true e),fun e=>y (of_decide_eq_false e)⟩
def mAnd (t u:MT):MT:=fun σ h Q=>t σ h fun c h1=>br c (u σ h1 Q) (Q false h1)
def mOr (t u:MT):MT:=fun σ h Q=>t σ h fun c h1=>br c (Q true h1) (u σ h1 Q)
def mNot (t:MT):MT:=fun σ h Q=>t σ h fun c h1=>Q (!c) h1
variable {tA tB':MT}{rest:List Expr}
theorem yu (ha:DT X a tA):DWt X (.BoolOp .And [a] pos) tA:=pw_and1 ha
theorem vD (ha:DT X a tA):DWt X (.BoolOp .Or [a] pos) tA:=pw_or1 ha
theorem Aj (ha:DT X a tA)(hb:DWt X (.BoolOp .And (b::rest) pos) tB'):DWt X (.BoolOp .And (a::b::rest) pos) (mAnd tA tB'):=(pw_and ha hb).of fun σ H Q ⟨μ,g,σw,Qw,R,S,m,q⟩=>by
 refine ⟨μ,g,σw,_,R,S,m,fun c H1 ⟨μ1,h1,e1,R1,m1⟩=>?_⟩
 cases c with
 | true=>
  rw [if_pos rfl]
  exact ⟨μ1,h1,σw,_,R1,S.ext e1,m1.1 rfl,fun b H' z=>q _ _ (z.trans e1)⟩
 | false=>
  rw [if_neg Bool.false_ne_true]
  exact q _ _ ⟨μ1,h1,e1,R1,m1.2 rfl⟩
theorem dw_or (ha:DT X a tA)(hb:DWt X (.BoolOp .Or (b::rest) pos) tB'):DWt X (.BoolOp .Or (a::b::rest) pos) (mOr tA tB'):=(pw_or ha hb).of fun σ H Q ⟨μ,g,σw,Qw,R,S,m,q⟩=>by
 refine ⟨μ,g,σw,_,R,S,m,fun c H1 ⟨μ1,h1,e1,R1,m1⟩=>?_⟩
 cases c with
 | true=>
  rw [if_pos rfl]
  exact q _ _ ⟨μ1,h1,e1,R1,m1.1 rfl⟩
 | false=>
  rw [if_neg Bool.false_ne_true]
  exact ⟨μ1,h1,σw,_,R1,S.ext e1,m1.2 rfl,fun b H' z=>q _ _ (z.trans e1)⟩
theorem dt_not (ha:DT X a tA):DT X (.UnaryOp .Not a pos) (mNot tA):=(pt_not ha).of fun σ H Q ⟨μ,g,σw,Qw,R,S,m,q⟩=>
 ⟨μ,g,σw,_,R,S,m,fun c H1 ⟨μ1,h1,e1,R1,m1⟩=>q _ _ ⟨μ1,h1,e1,R1,m1⟩⟩
def mAndV (a b:ME):ME:=fun σ h Q=>a σ h fun x h1=>match x with
 | .bl true=>b σ h1 Q
 | .bl false=>Q (.bl false) h1
 | _=>False
def mOrV (a b:ME):ME:=fun σ h Q=>a σ h fun x h1=>match x with
 | .bl false=>b σ h1 Q
 | .bl true=>Q (.bl true) h1
 | _=>False
def mNotV (a:ME):ME:=fun σ h Q=>a σ h fun x h1=>match x with
 | .bl c=>Q (.bl (!c)) h1
 | _=>False
theorem d_one {op}(h:DE X a ma):DE X (.BoolOp op [a] pos) ma:=pe_one h
theorem d_and (ha:DE X a ma)(hb:DE X (.BoolOp .And (b::rest) pos) mb):DE X (.BoolOp .And (a::b::rest) pos) (mAndV ma mb):=(pe_and ha hb).of fun σ H Q ⟨μ,g,σw,Qw,R,S,m,q⟩=>by
 refine ⟨μ,g,σw,_,R,S,m,fun v H1 ⟨μ1,w,h1,e1,R1,r1,m1⟩=>?_⟩
 cases w with
 | bl c=>
  rw [Rep] at r1
  refine ⟨c,r1,?_⟩
  cases c with
  | true=>rw [if_pos rfl];exact ⟨μ1,h1,σw,_,R1,S.ext e1,m1,fun b H' z=>q _ _ (z.trans e1)⟩
  | false=>rw [if_neg Bool.false_ne_true];exact q _ _ ⟨μ1,.bl false,h1,e1,R1,by rw [Rep],m1⟩
 | _=>exact m1.elim
theorem d_or (ha:DE X a ma)(hb:DE X (.BoolOp .Or (b::rest) pos) mb):DE X (.BoolOp .Or (a::b::rest) pos) (mOrV ma mb):=(pe_or ha hb).of fun σ H Q ⟨μ,g,σw,Qw,R,S,m,q⟩=>by
 refine ⟨μ,g,σw,_,R,S,m,fun v H1 ⟨μ1,w,h1,e1,R1,r1,m1⟩=>?_⟩
 cases w with
 | bl c=>
  rw [Rep] at r1
  refine ⟨c,r1,?_⟩
  cases c with
  | true=>rw [if_pos rfl];exact q _ _ ⟨μ1,.bl true,h1,e1,R1,by rw [Rep],m1⟩
  | false=>rw [if_neg Bool.false_ne_true];exact ⟨μ1,h1,σw,_,R1,S.ext e1,m1,fun b H' z=>q _ _ (z.trans e1)⟩
 | _=>exact m1.elim
def mIf (t:MT)(a b:ME):ME:=fun σ h Q=>t σ h fun c h1=>br c (a σ h1 Q) (b σ h1 Q)
theorem d_if (hc:DT X c tA)(ha:DE X a ma)(hb:DE X b mb):DE X (.IfExp c a b pos) (mIf tA ma mb):=(pe_ifExp hc ha hb).of fun σ H Q ⟨μ,g,σw,Qw,R,S,m,q⟩=>by
 refine ⟨μ,g,σw,_,R,S,m,fun c H1 ⟨μ1,h1,e1,R1,m1⟩=>?_⟩
 cases c with
 | true=>
  rw [if_pos rfl]
  exact ⟨μ1,h1,σw,_,R1,S.ext e1,m1.1 rfl,fun b H' z=>q _ _ (z.trans e1)⟩
 | false=>
  rw [if_neg Bool.false_ne_true]
  exact ⟨μ1,h1,σw,_,R1,S.ext e1,m1.2 rfl,fun b H' z=>q _ _ (z.trans e1)⟩
def mUn (r:W→Gh→WK→Prop)(a:ME):ME:=fun σ h Q=>a σ h fun x h1=>r x h1 Q
def mNeg:W→Gh→WK→Prop:=fun x h Q=>match x with
 | .int i=>Q (.int (-i)) h
 | _=>False
theorem d_neg (ha:DE X a ma):DE X (.UnaryOp .USub a pos) (mUn mNeg ma):=(pe_un un_neg ha).of fun σ H Q ⟨μ,g,σw,Qw,R,S,m,q⟩=>by
 refine ⟨μ,g,σw,_,R,S,m,fun v H1 ⟨μ1,w,h1,e1,R1,r1,m1⟩=>?_⟩
 cases w with
 | int i=>rw [Rep] at r1;exact ⟨i,r1,q _ _ ⟨μ1,.int (-i),h1,e1,R1,by rw [Rep],m1⟩⟩
 | _=>exact m1.elim
def aJ:MA:=fun _ h Q=>Q [] h
def ao (a:ME)(r:MA):MA:=fun σ h Q=>a σ h fun x h1=>r σ h1 fun xs h2=>Q (x::xs) h2
variable {es:List Expr}{mr:MA}
theorem au:DAs X [] aJ:=pa_nil.of fun σ H Q ⟨μ,g,σw,Qw,R,S,m,q⟩=>q _ _ ⟨μ,[],g,.refl,R,.nil,m⟩
theorem ak (ha:DE X e ma)(hr:DAs X es mr)(hs:starEach (e::es) X.env=(false,eval e X.env)::starEach es X.env:=by rfl):DAs X (e::es) (ao ma mr):=(pa_cons ha hr hs).of fun σ H Q ⟨μ,g,σw,Qw,R,S,m,q⟩=>by
 refine ⟨μ,g,σw,_,R,S,m,fun v H1 ⟨μ1,w,h1,e1,R1,r1,m1⟩=>?_⟩
 refine ⟨μ1,h1,σw,_,R1,S.ext e1,m1,fun vs H2 ⟨μ2,ws,h2,e2,R2,r2,m2⟩=>?_⟩
 exact q _ _ ⟨μ2,w::ws,h2,e1.trans e2,R2,.cons (e2.r _ _ r1) r2,m2⟩
def j8 (n:Nat)(P:Prop):Prop:=by2 (Nat.ble n 1000) P (n≤sizeLine∧P)
theorem j8.ok {n:Nat}{P:Prop}(h:j8 n P):n≤sizeLine∧P:=by
 unfold j8 at h
 cases e:Nat.ble n 1000 with
 | true=>rw [e] at h;exact ⟨Nat.le_trans (Nat.le_of_ble_eq_true e) (by decide),h⟩
 | false=>rw [e] at h;exact h
theorem j8.mk {n:Nat}{P:Prop}(hn:n≤sizeLine)(h:P):j8 n P:=by
 unfold j8
 cases e:Nat.ble n 1000 with
 | true=>exact h
 | false=>exact ⟨hn,h⟩
def j6 (t:MA):ME:=fun σ h Q=>t σ h fun ws h1=>j8 ws.length (Q (.tup ws) h1)
def yI (t:MA):ME:=fun σ h Q=>t σ h fun ws h1=>j8 ws.length (Q (.lst ws) h1)
def uV (t:MA):ME:=fun σ h Q=>t σ h fun ws h1=>j8 ws.length (Q (.loc h1.nx) (h1.new (.lst ws)))
theorem cB {x1}(h:DAs X es mr):DE X (.Tuple es x1 pos) (j6 mr):=(pe_tup h).of fun σ H Q ⟨μ,g,σw,Qw,R,S,m,q⟩=>
 ⟨μ,g,σw,_,R,S,m,fun vs H1 ⟨μ1,ws,h1,e1,R1,r1,sz⟩=>⟨by rw [←r1.len];exact sz.ok.1,fun p hp=>q _ _ ⟨μ1,.tup ws,h1,e1.trans (Ex.laid hp).ext,R1.laid hp,.tupNew hp r1,sz.ok.2⟩⟩⟩
theorem jM (h:DAs X es mr):DE X (.List es pos) (yI mr):=(pe_lst h).of fun σ H Q ⟨μ,g,σw,Qw,R,S,m,q⟩=>
 ⟨μ,g,σw,_,R,S,m,fun vs H1 ⟨μ1,ws,h1,e1,R1,r1,sz⟩=>⟨by rw [←r1.len];exact sz.ok.1,fun p hp=>q _ _ ⟨μ1,.lst ws,h1,e1.trans (Ex.laid hp).ext,R1.laid hp,.lstNew R1 hp r1,sz.ok.2⟩⟩⟩
theorem newLst {K:PySem.W.Frag}{H:Hp}{μ : Mu}{h:Gh}{p:Addr}{ws:List W}{xs:List V}(R:Rel K μ H h)(hp:H p=none)(r:aX K H μ ws xs) :
  Rel K (μ.put h.nx p) (upd H p (.lst xs)) (h.new (.lst ws)):=R.newCell hp trivial ⟨xs,cL,(Ex.newCell R hp).ext.s r⟩
theorem tO (h:DAs X es mr):DE X (.List es pos) (uV mr):=(pe_lst h).of fun σ H Q ⟨μ,g,σw,Qw,R,S,m,q⟩=>
 ⟨μ,g,σw,_,R,S,m,fun vs H1 ⟨μ1,ws,h1,e1,R1,r1,sz⟩=>⟨by rw [←r1.len];exact sz.ok.1,fun p hp=>q _ _ ⟨μ1.put h1.nx p,.loc h1.nx,h1.new (.lst ws),e1.trans (Ex.newCell R1 hp).ext,newLst R1 hp r1,by rw [Rep];exact ⟨p,rfl,Mu.put_same⟩,sz.ok.2⟩⟩⟩
def lift (K:PySem.W.Frag)(ms:MSp):Sp:=fun vs H Q _=>∃ μ h ws Qw,Rel K μ H h∧aX K H μ ws vs∧ms ws h Qw EF∧∀ v H',DQ K H μ Qw v H'→Q v H'
def aH (ms:MSp)(E:XWK)(ma:MA):ME:=fun σ h Q=>ma σ h fun ws h1=>ms ws h1 Q E
theorem call_of {K:PySem.W.Frag}{σ : St}{H:Hp}{Q:VK}{E:XK}{ms:MSp}{ma:MA}(h:tD K (aH ms EF ma) σ H Q):tCall (lift K ms) [] E (tDA K ma) σ H Q:=by
 obtain ⟨μ,g,σw,Qw,R,S,m,q⟩:=h
 refine ⟨μ,g,σw,_,R,S,m,fun vs H1 ⟨μ1,ws,h1,e1,R1,r1,m1⟩=>?_⟩
 show lift K ms (vs++[]) H1 Q E
 rw [List.append_nil]
 exact ⟨μ1,h1,ws,Qw,R1,r1,m1,fun v H' z=>q _ _ (z.trans e1)⟩
theorem aF {k:Nat}{f:Addr}{fd:FuncData}{ps:List Str}{ms:MSp}{x:Str}{p:Pos}(F:cH X.prog X.w X.K X.mg X.base CX0 k f fd ps (lift X.K ms))(hr:rK k X.A)(hg:Gl X x)(hm:X.mg x=some (.ref f))(hk:PySem.W.keepIn X.K (.ref f)=true)
  (hb:Binds X.K fd ps []) (ha:DAs X (e::es) mr) (hdb:(x==("__debug__" : Str))=false:=by decide) (he:starEach (e::es) X.env=(false,eval e X.env)::starEach es X.env:=by rfl) (hpl:(backTo pos (starEach es X.env)).any (·.1)=false:=by rfl) :
  DE X (.Call (.Name x p) (e::es) [] pos) (aH ms EF mr):=(pe_call F hr hg hm hk hb .nil pass0 ha hdb he hpl).of fun _ _ _ h=>call_of h
theorem d_call0 {k:Nat}{f:Addr}{fd:FuncData}{ps:List Str}{ms:MSp}{x:Str}{p:Pos}(F:cH X.prog X.w X.K X.mg X.base CX0 k f fd ps (lift X.K ms))(hr:rK k X.A)(hg:Gl X x)(hm:X.mg x=some (.ref f))(hk:PySem.W.keepIn X.K (.ref f)=true)
  (hb:Binds X.K fd ps []) (hdb:(x==("__debug__" : Str))=false:=by decide):DE X (.Call (.Name x p) [] [] pos) (aH ms EF aJ):=(pe_call0 F hr hg hm hk hb .nil pass0 hdb).of fun σ H Q ⟨μ,g,σw,Qw,R,S,m,q⟩=>
 ⟨μ,g,[],Qw,R,.nil,m,q⟩
def truW (h:Gh)(w:W):Option Bool:=match w with
 | .non=>some false
 | .bl b=>some b
 | .int i=>some (i != 0)
 | .tup ws=>some (!ws.isEmpty)
 | .lst ws=>some (!ws.isEmpty)
 | .kls ws=>some (!ws.isEmpty)
 | .loc n=>(match h.c n with
  | some (.lst ws)=>some (!ws.isEmpty)
  | _=>none)
 | _=>none
def mTru (m:ME):MT:=fun σ h Q=>m σ h fun w h1=>match truW h1 w with
 | some b=>Q b h1
 | none=>False
theorem aX.emp {K:PySem.W.Frag}{H:Hp}{μ : Mu}{ws:List W}{xs:List V}(r:aX K H μ ws xs):ws.isEmpty=xs.isEmpty:=by
 have:=r.len
 cases ws <;> cases xs <;> first | rfl | cases this
theorem lA (he:DE X e ma)(h:∀ whole,isTrue e X.env whole=(do let v ←whole;standAt e.pos;holding [v] (truthy v)):=by intro _;rfl):DT X e (mTru ma):=(pt_truth he h).of fun σ H Q ⟨μ,g,σw,Qw,R,S,m,q⟩=>by
 refine ⟨μ,g,σw,_,R,S,m,fun v H1 ⟨μ1,w,h1,e1,R1,r1,m1⟩=>?_⟩
 dsimp only at m1
 split at m1
 ·rename_i b eb
  refine ⟨b,?_,q _ _ ⟨μ1,h1,e1,R1,m1⟩⟩
  cases w with
  | non=>rw [Rep] at r1;subst r1;cases eb;rfl
  | bl c=>rw [Rep] at r1;subst r1;cases eb;rfl
  | int c=>rw [Rep] at r1;subst r1;cases eb;rfl
  | tup ws=>
   rw [Rep] at r1
   obtain ⟨p,xs,ev,hs,rs⟩:=r1
   subst ev
   cases eb
   exact .inr (.inl ⟨xs,hs,by rw [rs.emp]⟩)
  | lst ws=>
   rw [Rep] at r1
   obtain ⟨p,xs,ev,hs,rs⟩:=r1
   subst ev
   cases eb
   exact .inl ⟨xs,hs.sq,by rw [rs.emp]⟩
  | kls ws=>
   rw [Rep] at r1
   obtain ⟨p,xs,ev,hs,rs⟩:=r1
   subst ev
   cases eb
   exact .inl ⟨xs,hs.sq,by rw [rs.emp]⟩
  | loc n=>
   rw [Rep] at r1
   obtain ⟨p,ev,hm⟩:=r1
   subst ev
   unfold truW at eb
   dsimp only at eb
   cases ec:h1.c n with
   | none=>rw [ec] at eb;cases eb
   | some cl=>
    rw [ec] at eb
    cases cl with
    | lst ws=>
     cases eb
     obtain ⟨p',hm',xs,hx,rs⟩:=R1.cel n _ ec
     have ep:p'=p:=by rw [hm] at hm';exact (Option.some.inj hm').symm
     subst ep
     exact .inl ⟨xs,.of hx,by rw [rs.emp]⟩
    | _=>cases eb
  | _=>cases eb
 ·exact m1.elim
abbrev MC:=List W→Gh→WK→Prop
def mCB (r:MC)(ma:MA):ME:=fun σ h Q=>ma σ h fun ws h1=>r ws h1 Q
def SimC (K:PySem.W.Frag)(r:List V→Hp→VK→Prop)(mr:MC):Prop:=∀ {H:Hp} {μ : Mu} {h:Gh} {vs:List V} {ws:List W} {Qw:WK} {Q:VK},Rel K μ H h→aX K H μ ws vs→mr ws h Qw→(∀ v H',DQ K H μ Qw v H'→Q v H')→r vs H Q
def qz (X:Cx)(f:Value)(mr:MC):Prop:=∃ r,jt X f r∧SimC X.K r mr
theorem cb_of {K:PySem.W.Frag}{σ : St}{H:Hp}{Q:VK}{r:List V→Hp→VK→Prop}{mc:MC}{ma:MA}(s:SimC K r mc)(h:tD K (mCB mc ma) σ H Q):tCB r (tDA K ma) σ H Q:=by
 obtain ⟨μ,g,σw,Qw,R,S,m,q⟩:=h
 exact ⟨μ,g,σw,_,R,S,m,fun vs H1 ⟨μ1,ws,h1,e1,R1,r1,m1⟩=>s R1 r1 m1 fun v H' z=>q _ _ (z.trans e1)⟩
theorem bA {x:Str}{p:Pos}{id:String}{mc:MC}(hc:qz X (.builtin id) mc)(hg:Gl X x)(hm:X.mg x=none)(hv:bootBuiltins x=some (.builtin id))(ha:DAs X (e::es) mr)(hn:x ≠ "__name__":=by decide)(hdb:(x==("__debug__" : Str))=false:=by decide)
  (he:starEach (e::es) X.env=(false,eval e X.env)::starEach es X.env:=by rfl) (hpl:(backTo pos (starEach es X.env)).any (·.1)=false:=by rfl):DE X (.Call (.Name x p) (e::es) [] pos) (mCB mc mr):=by
 obtain ⟨r,c,s⟩:=hc
 exact (pe_callB c hg hm hv ha hn hdb he hpl).of fun _ _ _ h=>cb_of s h
theorem lK {x:Str}{p:Pos}{T:String}{mc:MC}(hc:qz X (.type T) mc)(hg:Gl X x)(hm:X.mg x=none)(hv:bootBuiltins x=some (.type T))(ha:DAs X (e::es) mr)(hn:x ≠ "__name__":=by decide)(hdb:(x==("__debug__" : Str))=false:=by decide)
  (he:starEach (e::es) X.env=(false,eval e X.env)::starEach es X.env:=by rfl) (hpl:(backTo pos (starEach es X.env)).any (·.1)=false:=by rfl):DE X (.Call (.Name x p) (e::es) [] pos) (mCB mc mr):=by
 obtain ⟨r,c,s⟩:=hc
 exact (pe_callTy c hg hm hv ha hn hdb he hpl).of fun _ _ _ h=>cb_of s h
end
end L2
namespace L2
open PySem PySem.Spec PyProof.Rows
section
variable {X:Cx}{e a b c tg:Expr}{ma mb mc:ME}{pos:Pos}{es:List Expr}
def nName (i:Nat):MG:=fun w σ h N=>N (σ.set i (some w)) h
theorem aU {i:Nat}(hg:PG X e (gName i)):DG X e (nName i):=hg.of fun v σ H N ⟨μ,h,σw,w,Nw,R,S,r,m,k⟩=>k _ _ ⟨μ,σw.set i (some w),h,.refl,R,S.set r i,m⟩
def nNil:MGs:=fun ws σ h N=>match ws with
 | []=>N σ h
 | _=>False
def dX (g:MG)(r:MGs):MGs:=fun ws σ h N=>match ws with
 | w::ws'=>g w σ h fun σ1 h1=>r ws' σ1 h1 N
 | []=>False
theorem iI:DGss X [] nNil:=pgs_nil.of fun vs σ H N ⟨μ,h,σw,ws,Nw,R,S,r,m,k⟩=>by
 cases ws with
 | nil=>rw [aX] at r;exact ⟨r,k _ _ ⟨μ,σw,h,.refl,R,S,m⟩⟩
 | cons w ws=>exact m.elim
theorem bD {g:MG}{u:MGs}(h1:DG X e g)(h2:DGss X es u)(hs:(assignEach (e::es) X.env).map (·.2)=assign e X.env::(assignEach es X.env).map (·.2):=by rfl):DGss X (e::es) (dX g u):=(wW h1 h2 hs).of fun vs σ H N ⟨μ,h,σw,ws,Nw,R,S,r,m,k⟩=>by
 cases ws with
 | nil=>exact m.elim
 | cons w ws=>
  rw [aX] at r
  obtain ⟨v,vr,ev,r1,r2⟩:=r
  refine ⟨v,vr,ev,μ,h,σw,w,_,R,S,r1,m,fun σ1 H1 ⟨μ1,σw1,h1,e1,R1,S1,m1⟩=>?_⟩
  exact ⟨μ1,h1,σw1,ws,_,R1,S1,e1.s r2,m1,fun σ2 H2 z=>k _ _ (z.trans e1)⟩
def nTup (n:Nat)(g:MGs):MG:=fun w σ h N=>match w with
 | .tup ws=>by2 (Nat.beq ws.length n) (g ws σ h N) False
 | _=>False
abbrev MSet:=W→W→W→Gh→(Gh→Prop)→Prop
def SimSet (K:PySem.W.Frag)(t:TSet)(ms:MSet):Prop:=∀ {H:Hp} {μ : Mu} {h:Gh} {o i v:V} {wo wi w:W} {Nw:Gh→Prop} {N:Hp→Prop},Rel K μ H h→Rep K H μ wo o→Rep K H μ wi i→Rep K H μ w v→ms wo wi w h Nw →
 (∀ H',(∃ μ' h',Ext K H μ H' μ'∧Rel K μ' H' h'∧Nw h')→N H')→t o i v H N
def nSub (mo mi:ME)(ms:MSet):MG:=fun w σ h N=>mo σ h fun o h1=>mi σ h1 fun i h2=>ms o i w h2 fun h3=>N σ h3
theorem dg_sub {o i:Expr}{mo mi:ME}{t:TSet}{ms:MSet}(ho:DE X o mo)(hi:DE X i mi)(hs:PSet X t)(hm:SimSet X.K t ms)
  (ha:∀ v,assign (.Subscript o i pos) X.env v=(do
   let ov ←holding [v] (eval o X.env)
   let iv ←holding [v,ov] (eval i X.env)
   standAt pos
   holding [v,ov,iv] (setItem ov iv v)
   release [v,ov,iv] []):=by intro _;rfl):DG X (.Subscript o i pos) (nSub mo mi ms):=
 (pg_sub ho hi hs ha).of fun v σ H N ⟨μ,h,σw,w,Nw,R,S,r,m,k⟩=>by
  refine ⟨μ,h,σw,_,R,S,m,fun o H1 ⟨μ1,wo,h1,e1,R1,r1,m1⟩=>?_⟩
  refine ⟨μ1,h1,σw,_,R1,S.ext e1,m1,fun i H2 ⟨μ2,wi,h2,e2,R2,r2,m2⟩=>?_⟩
  refine hm R2 (e2.r _ _ r1) r2 (e2.r _ _ (e1.r _ _ r)) m2 fun H3 ⟨μ3,h3,e3,R3,m3⟩=>?_
  exact k _ _ ⟨μ3,σw,h3,(e1.trans e2).trans e3,R3,S.ext ((e1.trans e2).trans e3),m3⟩
def sSetL:MSet:=fun o i w h N=>match o,i with
 | .loc n,.int k=>(match h.c n with
  | some (.lst ws)=>(match ixN ws.length k with
   | some j=>N (h.set n (.lst (ws.set j w)))
   | none=>False)
  | _=>False)
 | _,_=>False
theorem Rel.lstAt {K:PySem.W.Frag}{μ : Mu}{H:Hp}{h:Gh}{n:Nat}{ws:List W}(R:Rel K μ H h)(e:h.c n=some (.lst ws)):∃ p xs,μ.f n=some p∧H p=some (.lst xs)∧aX K H μ ws xs:=by
 obtain ⟨p,e1,xs,e2,r⟩:=R.cel n _ e
 exact ⟨p,xs,e1,e2,r⟩
theorem sim_setL {K:PySem.W.Frag}:SimSet K rSetL sSetL:=by
 intro H μ h o i v wo wi w Nw N R ro ri r m k
 cases wo with
 | loc n=>
  cases wi with
  | int z=>
   rw [Rep] at ro
   rw [Rep] at ri
   obtain ⟨p,eo,hp⟩:=ro
   unfold sSetL at m
   dsimp only at m
   cases ec:h.c n with
   | none=>rw [ec] at m;exact m.elim
   | some cl=>
    rw [ec] at m
    cases cl with
    | lst ws=>
     dsimp only at m
     obtain ⟨p',xs,hp',hx,rs⟩:=R.lstAt ec
     have ep:p'=p:=by rw [hp] at hp';exact (Option.some.inj hp').symm
     subst ep
     cases ej:ixN ws.length z with
     | none=>rw [ej] at m;exact m.elim
     | some j=>
      rw [ej] at m
      refine ⟨p',xs,z,j,eo,ri,hx,by rw [←rs.len];exact ej,k _ ⟨μ,_,(Ex.write R hp).ext,R.write hp trivial ?_,m⟩⟩
      exact ⟨_,cL,aX.set ((Ex.write R hp).ext.r _ _ r) j ((Ex.write R hp).ext.s rs)⟩
    | _=>exact m.elim
  | _=>exact m.elim
 | _=>exact m.elim
variable {st:Stmt}{rest body:List Stmt}{m1 m2:MS}{t:MT}
def cA:MS:=fun D σ h=>D.nx σ h
def bF (m u:MS):MS:=fun D σ h=>m { D with nx:=u D } σ h
theorem aW:DSs X [] cA:=pss_nil.of fun D σ H ⟨μ,h,σw,Dw,R,S,m,k⟩=>k.nx _ _ ⟨μ,σw,h,.refl,R,S,m⟩
theorem aD (h1:DS X st m1):DSs X [st] m1:=pss_one h1
theorem aA (h1:DS X st m1)(h2:DSs X rest m2):DSs X (st::rest) (bF m1 m2):=(pss_cons h1 h2).of fun D σ H ⟨μ,h,σw,Dw,R,S,m,k⟩=>by
 refine ⟨μ,h,σw,_,R,S,m,?_,k.rt,k.bk,k.ct⟩
 intro σ' H' ⟨μ1,σw1,h1,e1,R1,S1,m1⟩
 exact ⟨μ1,h1,σw1,Dw,R1,S1,m1,k.trans e1⟩
def uT (m:ME):MS:=fun D σ h=>m σ h fun _ h1=>D.nx σ h1
theorem mR (he:DE X e ma)(hs:swapsWith e none pos.line X.env=pure false:=by rfl):DS X (.Expr e pos) (uT ma):=(ps_expr he hs).of fun D σ H ⟨μ,h,σw,Dw,R,S,m,k⟩=>
 ⟨μ,h,σw,_,R,S,m,fun v H1 ⟨μ1,w,h1,e1,R1,_,m1⟩=>k.nx _ _ ⟨μ1,σw,h1,e1,R1,S.ext e1,m1⟩⟩
def cj (m:ME):MS:=fun D σ h=>m σ h D.rt
theorem aL (he:DE X e ma):DS X (.Return (some e) pos) (cj ma):=(ps_ret he).of fun D σ H ⟨μ,h,σw,Dw,R,S,m,k⟩=>⟨μ,h,σw,_,R,S,m,k.rt⟩
def gY (t:MT)(a b:MS):MS:=fun D σ h=>t σ h fun c h1=>br c (a D σ h1) (b D σ h1)
theorem bY {a b:List Stmt}(hc:DT X c t)(ha:DSs X a m1)(hb:DSs X b m2):DS X (.If c a b pos) (gY t m1 m2):=(ps_if hc ha hb).of fun D σ H ⟨μ,h,σw,Dw,R,S,m,k⟩=>by
 refine ⟨μ,h,σw,_,R,S,m,fun b H1 ⟨μ1,h1,e1,R1,q⟩=>?_⟩
 cases b with
 | true=>rw [if_pos rfl];exact ⟨μ1,h1,σw,Dw,R1,S.ext e1,q.1 rfl,k.trans e1⟩
 | false=>rw [if_neg Bool.false_ne_true];exact ⟨μ1,h1,σw,Dw,R1,S.ext e1,q.2 rfl,k.trans e1⟩
def zY (x:Str)(E:XWK):MS:=fun _ _ h=>E ⟨x,[]⟩ h
theorem wL {x:Str}:DS X st (zY x EF):=ps_never.of fun _ _ _ ⟨_,_,_,_,_,_,m,_⟩=>m.elim
def bM (m:ME)(g:MG):MS:=fun D σ h=>m σ h fun w h1=>g w σ h1 D.nx
theorem asg_of {K:PySem.W.Frag}{σ : St}{H:Hp}{D:Ends}{m:ME}{g:MG}(q:tDS K (bM m g) D σ H):tAsg (tD K m) (tDG K g) D σ H:=by
 obtain ⟨μ,h,σw,Dw,R,S,m,k⟩:=q
 exact ⟨μ,h,σw,_,R,S,m,fun v H1 ⟨μ1,w,h1,e1,R1,r1,m1⟩=>⟨μ1,h1,σw,w,_,R1,S.ext e1,r1,m1,fun σ' H' z=>k.nx _ _ (z.trans e1)⟩⟩
theorem rB {g:MG}(he:DE X e ma)(hg:DG X tg g)(hs:swapsWithSole [tg] e pos.line X.env=pure false:=by rfl)(hw:swappedStores [tg] e X.env=pure none:=by rfl)
  (h1:(assignEach [tg] X.env).map (·.2)=[assign tg X.env]:=by rfl):DS X (.Assign [tg] e pos) (bM ma g):=(ps_asg he hg hs hw h1).of fun _ _ _ q=>asg_of q
theorem set_of {K:PySem.W.Frag}{σ : St}{H:Hp}{D:Ends}{m:ME}{t:TE}{i:Nat}(ht:∀ σ H Q,tD K m σ H Q→t σ H Q)(q:tDS K (bM m (nName i)) D σ H):tAsg t (gName i) D σ H:=by
 obtain ⟨μ,h,σw,Dw,R,S,m,k⟩:=q
 exact ht _ _ _ ⟨μ,h,σw,_,R,S,m,fun v H1 ⟨μ1,w,h1,e1,R1,r1,m1⟩=>k.nx _ _ ⟨μ1,σw.set i (some w),h1,e1,R1,(S.ext e1).set r1 i,m1⟩⟩
theorem aM {i:Nat}{x:Str}{pos':Pos}(hN:X.N.Nodup)(hi:X.N[i]?=some x)(hx:Loc X.env.scope x)(he:DE X e ma)(hs:swapsWith e (some (.Name x pos')) pos.line X.env=pure false:=by rfl)
  (hf:X.fn x=true∨X.env.scope.names.lookup x=some .local:=by first | exact .inl rfl | exact .inr rfl | assumption) :
  DS X (.Assign [.Name x pos'] e pos) (bM ma (nName i)):=(ps_set hN hi hx he hs hf).of fun _ _ _ q=>set_of (fun _ _ _ z=>z) q
def mPar (i j:Nat)(ta:MA):MS:=fun D σ h=>ta σ h fun ws h1=>match ws with
 | [v,w]=>D.nx ((σ.set i (some v)).set j (some w)) h1
 | _=>False
theorem ds_par_of {i j:Nat}{ta:MA}(hp:PS X st (tPar i j (tDA X.K ta))):DS X st (mPar i j ta):=hp.of fun D σ H ⟨μ,h,σw,Dw,R,S,m,k⟩=>by
 refine ⟨μ,h,σw,_,R,S,m,fun vs H1 ⟨μ1,ws,h1,e1,R1,r1,m1⟩=>?_⟩
 dsimp only at m1
 split at m1
 ·rename_i a b
  rw [aX] at r1
  obtain ⟨v,vr,ev,ra,r2⟩:=r1
  rw [aX] at r2
  obtain ⟨v',vr',ev',rb,r3⟩:=r2
  rw [aX] at r3
  subst r3
  subst ev'
  subst ev
  exact ⟨v,v',rfl,k.nx _ _ ⟨μ1,_,h1,e1,R1,((S.ext e1).set ra i).set rb j,m1⟩⟩
 ·exact m1.elim
def mWhile (t:MT)(b:MS):MS:=fun D σ h=>∃ Wm:Nat→Sw→Gh→Prop,(∃ m,Wm m σ h)∧∀ m σ h,Wm m σ h →
 t σ h fun c h1=>br c (b { D with nx:=fun σ' h'=>∃ m',m'<m∧Wm m' σ' h',ct:=fun σ' h'=>∃ m',m'<m∧Wm m' σ' h',bk:=D.nx } σ h1) (D.nx σ h1)
theorem ds_while {body:List Stmt}{pos:Pos}(hp:PassesOwn (model X.prog X.w) X.A X.env X.xe)(hc:DT X c t)(hb:DSs X body m1):DS X (.While c body [] pos) (mWhile t m1):=(ps_while hp hc hb).of fun D σ H ⟨μ,h,σw,Dw,R,S,m,k⟩=>by
 obtain ⟨Wm,⟨m0,w0⟩,turn⟩:=m
 refine ⟨fun n σ' H'=>DN X.K H μ (Wm n) σ' H',⟨m0,μ,σw,h,.refl,R,S,w0⟩,fun n σ1 H1 ⟨μ1,σw1,h1,e1,R1,S1,w1⟩=>?_⟩
 refine ⟨μ1,h1,σw1,_,R1,S1,turn n σw1 h1 w1,fun b H2 ⟨μ2,h2,e2,R2,q⟩=>?_⟩
 have e12:=e1.trans e2
 cases b with
 | true=>
  dsimp only
  rw [if_pos rfl]
  refine ⟨fun σ' H'=>∃ m',m'<n∧DN X.K H μ (Wm m') σ' H',fun _ _ z=>z,μ2,h2,σw1,_,R2,S1.ext e2,q.1 rfl,?_⟩
  have again:∀ (σ':St) (H':Hp),DN X.K H2 μ2 (fun σ' h'=>∃ m',m'<n∧Wm m' σ' h') σ' H'→∃ m',m'<n∧DN X.K H μ (Wm m') σ' H':=fun σ' H' ⟨μ3,σw3,h3,e3,R3,S3,m',hm,w3⟩=>
   ⟨m',hm,μ3,σw3,h3,e12.trans e3,R3,S3,w3⟩
  exact ⟨again,fun v H' z=>k.rt _ _ (z.trans e12),fun σ' H' z=>k.nx _ _ (z.trans e12),again⟩
 | false=>
  dsimp only
  rw [if_neg Bool.false_ne_true]
  exact k.nx _ _ ⟨μ2,σw1,h2,e12,R2,S1.ext e2,q.2 rfl⟩
structure Src where
 ws:List W
 cell:Option (Nat×List W)
def Src.chk (s:Src)(h:Gh):Prop:=match s.cell with
 | none=>True
 | some n=>h.c n.1=some (.lst n.2)
abbrev MI:=Sw→Gh→(Src→Gh→Prop)→Prop
def ItOk (K:PySem.W.Frag)(J:It)(src:Src)(H:Hp)(μ : Mu):Prop:=∀ {H2:Hp} {μ2:Mu} {h2:Gh} {i:Nat},Ext K H μ H2 μ2→Rel K μ2 H2 h2→src.chk h2 →
 (∀ w,src.ws[i]?=some w→J.go i H2∧∀ x H3,J.yld i H2 x H3→∃ μ3,Ext K H2 μ2 H3 μ3∧Rel K μ3 H3 h2∧Rep K H3 μ3 w x)∧(src.ws.length≤i→J.stop i H2)
def DI (K:PySem.W.Frag)(H:Hp)(μ : Mu)(Rw:Src→Gh→Prop):It→Hp→Prop:=fun J H'=>∃ μ' src h',Ext K H μ H' μ'∧Rel K μ' H' h'∧ItOk K J src H' μ'∧Rw src h'
def tDI (K:PySem.W.Frag)(mi:MI):TI:=fun σ H R=>∃ μ h σw Rw,Rel K μ H h∧Slots K H μ σw σ∧mi σw h Rw∧∀ J H',DI K H μ Rw J H'→R J H'
abbrev DIt (X:Cx)(tg iter:Expr)(mi:MI):Prop:=PI X tg iter (tDI X.K mi)
theorem PI.of {iter:Expr}{t t':TI}(h:PI X tg iter t)(k:∀ σ H R,t' σ H R→t σ H R):PI X tg iter t':=fun pins s σ H R I q=>h pins s σ H R I (k σ H R q)
def fu (h:Gh):W→Option (List W)
 | .lst ws=>some ws
 | .kls ws=>some ws
 | .loc n=>(match h.c n with
  | some (.lst ws)=>some ws
  | _=>none)
 | _=>none
def view (h:Gh):W→Option (List W)
 | .tup ws=>some ws
 | .lst ws=>some ws
 | .kls ws=>some ws
 | .loc n=>fu h (.loc n)
 | _=>none
def yJ (h:Gh):W→Option Src
 | .tup ws=>some ⟨ws,none⟩
 | .lst ws=>some ⟨ws,none⟩
 | .kls ws=>some ⟨ws,none⟩
 | .loc n=>(match h.c n with
  | some (.lst ws)=>some ⟨ws,some (n,ws)⟩
  | _=>none)
 | _=>none
theorem itl_frz {K:PySem.W.Frag}{H:Hp}{μ : Mu}{p:Addr}{ws:List W}(r:Rep K H μ (.lst ws) (.ref p)):ItOk K (Itl K p) ⟨ws,none⟩ H μ:=by
 intro H2 μ2 h2 i e R2 _
 have r2:=e.r _ _ r
 rw [Rep] at r2
 obtain ⟨q,xs,eq,hf,rs⟩:=r2
 cases eq
 refine ⟨fun w ew=>?_,fun hl=>⟨xs,hf.sq,by rw [←rs.len];exact hl⟩⟩
 obtain ⟨v,ev,rv⟩:=rs.get ew
 refine ⟨⟨xs,v,hf.sq,ev⟩,fun x H3 ⟨e3,y⟩=>?_⟩
 subst e3
 have:=y xs hf.sq
 rw [ev] at this
 cases this
 exact ⟨μ2,.refl,R2,rv⟩
theorem itl_kls {K:PySem.W.Frag}{H:Hp}{μ : Mu}{p:Addr}{ws:List W}(r:Rep K H μ (.kls ws) (.ref p)):ItOk K (Itl K p) ⟨ws,none⟩ H μ:=by
 intro H2 μ2 h2 i e R2 _
 have r2:=e.r _ _ r
 rw [Rep] at r2
 obtain ⟨q,xs,eq,hf,rs⟩:=r2
 cases eq
 refine ⟨fun w ew=>?_,fun hl=>⟨xs,hf.sq,by rw [←rs.len];exact hl⟩⟩
 obtain ⟨v,ev,rv⟩:=rs.get ew
 refine ⟨⟨xs,v,hf.sq,ev⟩,fun x H3 ⟨e3,y⟩=>?_⟩
 subst e3
 have:=y xs hf.sq
 rw [ev] at this
 cases this
 exact ⟨μ2,.refl,R2,rv⟩
theorem itl_cell {K:PySem.W.Frag}{H:Hp}{μ : Mu}{p:Addr}{n:Nat}{ws:List W}(r:Rep K H μ (.loc n) (.ref p)):ItOk K (Itl K p) ⟨ws,some (n,ws)⟩ H μ:=by
 intro H2 μ2 h2 i e R2 ck
 have r2:=e.r _ _ r
 rw [Rep] at r2
 obtain ⟨q,eq,hm⟩:=r2
 cases eq
 obtain ⟨p',xs,hm',hx,rs⟩:=R2.lstAt (show h2.c n=some (.lst ws) from ck)
 have ep:p'=p:=by rw [hm] at hm';exact (Option.some.inj hm').symm
 subst ep
 refine ⟨fun w ew=>?_,fun hl=>⟨xs,.of hx,by rw [←rs.len];exact hl⟩⟩
 obtain ⟨v,ev,rv⟩:=rs.get ew
 refine ⟨⟨xs,v,.of hx,ev⟩,fun x H3 ⟨e3,y⟩=>?_⟩
 subst e3
 have:=y xs (.of hx)
 rw [ev] at this
 cases this
 exact ⟨μ2,.refl,R2,rv⟩
theorem itt_tup {K:PySem.W.Frag}{H:Hp}{μ : Mu}{p:Addr}{ws:List W}(r:Rep K H μ (.tup ws) (.ref p)):ItOk K (Itt K p) ⟨ws,none⟩ H μ:=by
 intro H2 μ2 h2 i e R2 _
 have r2:=e.r _ _ r
 rw [Rep] at r2
 obtain ⟨q,xs,eq,hf,rs⟩:=r2
 cases eq
 refine ⟨fun w ew=>?_,fun hl=>⟨xs,hf,by rw [←rs.len];exact hl⟩⟩
 obtain ⟨v,ev,rv⟩:=rs.get ew
 refine ⟨⟨xs,v,hf,ev⟩,fun x H3 ⟨e3,y⟩=>?_⟩
 subst e3
 have:=y xs hf
 rw [ev] at this
 cases this
 exact ⟨μ2,.refl,R2,rv⟩
def iSeq (K:PySem.W.Frag)(tl:TE):TI:=fun σ H R=>tl σ H fun x H1=>(∃ a,x=.ref a∧(∃ xs,SqL K H1 a xs)∧R (Itl K a) H1)∨(∃ a,x=.ref a∧(∃ xs,SqT K H1 a xs)∧R (Itt K a) H1)
theorem pi_seq {l:Expr}{tl:TE}(hl:PE X l tl):PI X tg l (iSeq X.K tl):=by
 intro pins s σ H R I h
 refine thn (hl pins s σ H _ I h) fun v s1 ⟨x,H1,I1,r1,q1⟩=>?_
 rcases q1 with ⟨a,e,⟨xs,hq⟩,q⟩ | ⟨a,e,⟨xs,hq⟩,q⟩
 ·subst e
  cases r1
  obtain ⟨its,rv,p,hz⟩:=I1.list hq
  refine wpAny_pyIter_list p.isList ?_
  refine ⟨s1.heap.objs.size,[s1.heap.objs.size],_,_,H1,rfl,I1.kept (t':=s1.toks) fun b o e=>Heap.get?_push_of_some _ e,turn_list a _,⟨_,Heap.get?_push_size _ rfl,rfl,rfl⟩,fun b hb=>?_,q⟩
  have e:b=s1.heap.objs.size:=by simpa using hb
  subst e
  exact I1.fpOk (Nat.le_refl _) (I1.hok.fresh (Nat.le_refl _))
 ·subst e
  cases r1
  obtain ⟨its,rv,p,hz⟩:=I1.tuple hq
  refine wpAny_pyIter_tuple (show s1.heap.IsTuple a its.toArray from p) ?_
  refine ⟨s1.heap.objs.size,[s1.heap.objs.size],_,_,H1,rfl,I1.kept (t':=s1.toks) fun b o e=>Heap.get?_push_of_some _ e,turn_tuple a _,⟨_,Heap.get?_push_size _ rfl,rfl,rfl⟩,fun b hb=>?_,q⟩
  have e:b=s1.heap.objs.size:=by simpa using hb
  subst e
  exact I1.fpOk (Nat.le_refl _) (I1.hok.fresh (Nat.le_refl _))
def nIt (m:ME):MI:=fun σ h R=>m σ h fun w h1=>match yJ h1 w with
 | some s=>R s h1
 | none=>False
theorem bO {l:Expr}(hl:DE X l ma):DIt X tg l (nIt ma):=PI.of (pi_seq hl) fun σ H Q ⟨μ,h,σw,Rw,R,S,m,k⟩=>by
 refine ⟨μ,h,σw,_,R,S,m,fun v H1 ⟨μ1,w,h1,e1,R1,r1,m1⟩=>?_⟩
 cases w with
 | tup ws=>
  have r1':=r1
  rw [Rep] at r1
  obtain ⟨p,xs,ev,hs,_⟩:=r1
  subst ev
  exact .inr ⟨p,rfl,⟨xs,hs⟩,k _ _ ⟨μ1,⟨ws,none⟩,h1,e1,R1,itt_tup r1',m1⟩⟩
 | lst ws=>
  have r1':=r1
  rw [Rep] at r1
  obtain ⟨p,xs,ev,hs,_⟩:=r1
  subst ev
  exact .inl ⟨p,rfl,⟨xs,hs.sq⟩,k _ _ ⟨μ1,⟨ws,none⟩,h1,e1,R1,itl_frz r1',m1⟩⟩
 | kls ws=>
  have r1':=r1
  rw [Rep] at r1
  obtain ⟨p,xs,ev,hs,_⟩:=r1
  subst ev
  exact .inl ⟨p,rfl,⟨xs,hs.sq⟩,k _ _ ⟨μ1,⟨ws,none⟩,h1,e1,R1,itl_kls r1',m1⟩⟩
 | loc n=>
  have r1':=r1
  rw [Rep] at r1
  obtain ⟨p,ev,hm⟩:=r1
  subst ev
  unfold yJ at m1
  dsimp only at m1
  cases ec:h1.c n with
  | none=>rw [ec] at m1;exact m1.elim
  | some cl=>
   rw [ec] at m1
   cases cl with
   | lst ws=>
    obtain ⟨p',xs,hm',hx,rs⟩:=R1.lstAt ec
    have ep:p'=p:=by rw [hm] at hm';exact (Option.some.inj hm').symm
    subst ep
    exact .inl ⟨p',rfl,⟨xs,.of hx⟩,k _ _ ⟨μ1,⟨ws,some (n,ws)⟩,h1,e1,R1,itl_cell r1',m1⟩⟩
   | _=>exact m1.elim
 | _=>exact m1.elim
def rngW (lo:Int)(n:Nat):List W:=(List.range n).map fun (k:Nat)=>.int (lo+(k:Int))
theorem itr_ok {K:PySem.W.Frag}{H:Hp}{μ : Mu}{lo:Int}{n:Nat}:ItOk K (Itr lo n) ⟨rngW lo n,none⟩ H μ:=by
 intro H2 μ2 h2 i e R2 _
 refine ⟨fun w ew=>?_,fun hl=>?_⟩
 ·have hi:i<n:=by
   have:=(List.getElem?_eq_some_iff.mp ew).1
   simpa [rngW] using this
  have ew':w=.int (lo+(i:Int)):=by
   unfold rngW at ew
   rw [List.getElem?_map,List.getElem?_range hi] at ew
   exact (Option.some.inj ew).symm
  subst ew'
  refine ⟨hi,fun x H3 ⟨e3,y⟩=>?_⟩
  subst e3
  exact ⟨μ2,.refl,R2,by rw [Rep];exact y⟩
 ·have:n≤i:=by simpa [rngW] using hl
  exact this
def zV (j:Int)(P:Prop):Prop:=by2 (decide (-1000≤j)&&decide (j≤1000)) P ((-(2^62)≤j∧j<2^62)∧P)
theorem zV.ok {j:Int}{P:Prop}(h:zV j P):(-(2^62)≤j∧j<2^62)∧P:=by
 unfold zV at h
 cases e:(decide (-1000≤j)&&decide (j≤1000)) with
 | true=>
  rw [e] at h
  rw [Bool.and_eq_true,decide_eq_true_iff,decide_eq_true_iff] at e
  exact ⟨⟨by omega,by omega⟩,h⟩
 | false=>rw [e] at h;exact h
theorem zV.mk {j:Int}{P:Prop}(h1:-(2^62)≤j)(h2:j<2^62)(h:P):zV j P:=by
 unfold zV
 cases e:(decide (-1000≤j)&&decide (j≤1000)) with
 | true=>exact h
 | false=>exact ⟨⟨h1,h2⟩,h⟩
def fM (ma:MA):MI:=fun σ h R=>ma σ h fun ws h1=>match ws with
 | [.int j]=>zV j (R ⟨rngW 0 j.toNat,none⟩ h1)
 | _=>False
def nRng2 (ma:MA):MI:=fun σ h R=>ma σ h fun ws h1=>match ws with
 | [.int i,.int j]=>zV i (zV j (R ⟨rngW i (j - i).toNat,none⟩ h1))
 | _=>False
theorem bV {a:Expr}{mr:MA}{p pos:Pos}(hg:Gl X "range")(hm:X.mg "range" = none)(ha:DAs X [a] mr)(hs:starEach [a] X.env=[(false,eval a X.env)]:=by rfl):DIt X tg (.Call (.Name "range" p) [a] [] pos) (fM mr):=
 PI.of (pi_range1 hg hm ha hs) fun σ H Q ⟨μ,h,σw,Rw,R,S,m,k⟩=>by
  refine ⟨μ,h,σw,_,R,S,m,fun vs H1 ⟨μ1,ws,h1,e1,R1,r1,m1⟩=>?_⟩
  dsimp only at m1
  split at m1
  ·rename_i j
   rw [aX] at r1
   obtain ⟨v,vr,ev,ra,r1⟩:=r1
   rw [aX] at r1
   rw [Rep] at ra
   subst ev r1 ra
   exact ⟨j,rfl,m1.ok.1.1,m1.ok.1.2,k _ _ ⟨μ1,_,h1,e1,R1,itr_ok,m1.ok.2⟩⟩
  ·exact m1.elim
theorem yQ {a b:Expr}{mr:MA}{p pos:Pos}(hg:Gl X "range")(hm:X.mg "range" = none)(ha:DAs X [a,b] mr)(hs:starEach [a,b] X.env=[(false,eval a X.env),(false,eval b X.env)]:=by rfl)(hs2:starEach [b] X.env=[(false,eval b X.env)]:=by rfl) :
  DIt X tg (.Call (.Name "range" p) [a,b] [] pos) (nRng2 mr):=
 PI.of (pi_range2 hg hm ha hs hs2) fun σ H Q ⟨μ,h,σw,Rw,R,S,m,k⟩=>by
  refine ⟨μ,h,σw,_,R,S,m,fun vs H1 ⟨μ1,ws,h1,e1,R1,r1,m1⟩=>?_⟩
  dsimp only at m1
  split at m1
  ·rename_i i j
   rw [aX] at r1
   obtain ⟨v,vr,ev,ra,r1⟩:=r1
   rw [aX] at r1
   obtain ⟨v',vr',ev',rb,r1⟩:=r1
   rw [aX] at r1
   rw [Rep] at ra rb
   subst ev ev' r1 ra rb
   exact ⟨i,j,rfl,⟨m1.ok.1.1,m1.ok.1.2,m1.ok.2.ok.1.1,m1.ok.2.ok.1.2⟩,k _ _ ⟨μ1,_,h1,e1,R1,itr_ok,m1.ok.2.ok.2⟩⟩
  ·exact m1.elim
def Src.go (s:Src)(h:Gh)(P:Prop):Prop:=match s.cell with
 | none=>P
 | some n=>h.c n.1=some (.lst n.2)∧P
theorem Src.go_ok {s:Src}{h:Gh}{P:Prop}(x:s.go h P):s.chk h∧P:=by
 unfold Src.go at x
 unfold Src.chk
 cases e:s.cell with
 | none=>rw [e] at x;exact ⟨trivial,x⟩
 | some n=>rw [e] at x;exact x
def fW (s:Src)(g:MG)(b:MS)(D:cC):List W→Sw→Gh→Prop
 | [],σ,h=>s.go h (D.nx σ h)
 | w::r,σ,h=>s.go h (g w σ h fun σ1 h1=>b { D with nx:=fW s g b D r,ct:=fW s g b D r,bk:=D.nx } σ1 h1)
def oN (mi:MI)(g:MG)(b:MS):MS:=fun D σ h=>mi σ h fun s h1=>fW s g b D s.ws σ h1
theorem cJ {iter:Expr}{body:List Stmt}{mi:MI}{g:MG}{mb0:MS}{pos:Pos}(hp:PassesOwn (model X.prog X.w) X.A X.env X.xe)(hc:X.calm=true)(hi:DIt X tg iter mi)(hg:DG X tg g)(hb:DSs X body mb0)
  (hs:∀ x,foldedSetIterable iter X.env x=pure x:=by intro _;rfl):DS X (.For tg iter body [] pos) (oN mi g mb0):=(ps_for hp hc hi hg hb hs).of fun D σ H ⟨μ,h,σw,Dw,R,S,m,k⟩=>by
 refine ⟨μ,h,σw,_,R,S,m,fun J H1 ⟨μ1,src,h1,e1,R1,ok,m1⟩=>?_⟩
 refine ⟨fun i n σ' H'=>n=src.ws.length - i∧i≤src.ws.length∧DN X.K H1 μ1 (fW src g mb0 Dw (src.ws.drop i)) σ' H',⟨src.ws.length,by simp,Nat.zero_le _,μ1,σw,h1,.refl,R1,S.ext e1,by rw [List.drop_zero];exact m1⟩,?_⟩
 rintro i n σ2 H2 ⟨hn,hle,μ2,σw2,h2,e2,R2,S2,m2⟩
 by_cases hlt:i<src.ws.length
 ·rw [List.drop_eq_getElem_cons hlt] at m2
  obtain ⟨ck,m2⟩:=Src.go_ok m2
  obtain ⟨hgo,hy⟩:=(ok e2 R2 ck).1 src.ws[i] (List.getElem?_eq_getElem hlt)
  refine .inr ⟨hgo,fun σ' H'=>DN X.K H2 μ2 (fW src g mb0 Dw (src.ws.drop (i+1))) σ' H',fun σ' H' z=>⟨src.ws.length - (i+1),by omega,rfl,hlt,z.trans e2⟩,fun x H3 y=>?_⟩
  obtain ⟨μ3,e3,R3,rx⟩:=hy x H3 y
  refine ⟨μ3,h2,σw2,src.ws[i],_,R3,S2.ext e3,rx,m2,fun σ4 H4 ⟨μ4,σw4,h4,e4,R4,S4,m4⟩=>?_⟩
  have e24:=e3.trans e4
  have e14:=(e1.trans e2).trans e24
  exact ⟨μ4,h4,σw4,_,R4,S4,m4,fun σ' H' z=>z.trans e24,fun v H' z=>k.rt _ _ (z.trans e14),fun σ' H' z=>k.nx _ _ (z.trans e14),fun σ' H' z=>z.trans e24⟩
 ·have ei:i=src.ws.length:=by omega
  subst ei
  rw [List.drop_length] at m2
  obtain ⟨ck,m2⟩:=Src.go_ok m2
  exact .inl ⟨(ok e2 R2 ck).2 (Nat.le_refl _),k.nx _ _ ⟨μ2,σw2,h2,e1.trans e2,R2,S2,m2⟩⟩
def sV (ix:List Nat)(σ : Sw):Sw:=ix.map fun i=>(σ[i]?).getD none
theorem Slots.blk {K:PySem.W.Frag}{H:Hp}{μ : Mu}{σw:Sw}{σ : St}{ix:List Nat}(S:Slots K H μ σw σ):∀ {ws:List W} {vs:List V},aX K H μ ws vs→Slots K H μ (ws.map some++sV ix σw) (vs.map some++blkσ ix σ):=by
 intro ws vs r
 have hl:=r.len
 refine ⟨by simp [sV,blkσ,hl],fun i u q=>?_⟩
 by_cases hi:i<ws.length
 ·rw [List.getElem?_append_left (by simpa using hi),List.getElem?_map] at q
  have q':ws[i]?=some u:=by
   cases e:ws[i]? with
   | none=>rw [e] at q;cases q
   | some a=>rw [e] at q;simpa using q
  obtain ⟨v,hv,rv⟩:=r.get q'
  refine ⟨v,?_,rv⟩
  rw [List.getElem?_append_left (by rw [List.length_map];omega),List.getElem?_map,hv]
  rfl
 ·rw [List.getElem?_append_right (by simpa using hi),List.length_map] at q
  rw [List.getElem?_append_right (by rw [List.length_map];omega),List.length_map,←hl]
  generalize i - ws.length=i at q ⊢
  unfold sV at q
  unfold blkσ
  rw [List.getElem?_map] at q ⊢
  cases e:ix[i]? with
  | none=>rw [e] at q;cases q
  | some j=>
   rw [e] at q
   cases e2:σw[j]? with
   | none=>simp [e2] at q
   | some o=>
    have eo:o=some u:=by simpa [e2] using q
    subst eo
    obtain ⟨v',h1,h2⟩:=S.get j u e2
    exact ⟨v',by simp [h1],h2⟩
def iR:MT:=fun _ h Q=>Q true h
def qj (s:Src)(own:W→Option (List W))(ix:List Nat)(tt:MT)(te:ME)(σ : Sw)(Q:WK):List W→List W→Gh→Prop
 | [],acc,h=>s.go h (Q (.lst acc) h)
 | w::r,acc,h=>s.go h (match own w with
  | some vs=>tt (vs.map some++sV ix σ) h fun c h1=>by2 c (te (vs.map some++sV ix σ) h1 fun v h2=>qj s own ix tt te σ Q r (acc++[v]) h2) (qj s own ix tt te σ Q r acc h1)
  | none=>False)
def mLC (own:W→Option (List W))(ix:List Nat)(mi:MI)(tt:MT)(te:ME):ME:=fun σ h Q=>mi σ h fun s h1=>j8 s.ws.length (qj s own ix tt te σ Q s.ws [] h1)
def OwnOk (K:PySem.W.Frag)(n:Nat)(own:V→Hp→List V→Prop)(ow:W→Option (List W)):Prop:=∀ {H:Hp} {μ : Mu} {w:W} {v:V} {ws:List W},Rep K H μ w v→ow w=some ws→∃ vs,own v H vs∧vs.length=n∧aX K H μ ws vs
def ow1 (w:W):Option (List W):=some [w]
def owT (n:Nat)(w:W):Option (List W):=match w with
 | .tup ws=>(match Nat.beq ws.length n with
  | true=>some ws
  | false=>none)
 | _=>none
def ov1:V→Hp→List V→Prop:=fun v _ vs=>vs=[v]
def ovT (K:PySem.W.Frag):V→Hp→List V→Prop:=fun v H vs=>∃ a,v=.ref a∧SqT K H a vs
theorem dU {K:PySem.W.Frag}:OwnOk K 1 ov1 ow1:=by
 intro H μ w v ws r e
 cases (show some [w]=some ws from e)
 exact ⟨[v],rfl,rfl,.one r⟩
theorem own_T {K:PySem.W.Frag}{n:Nat}:OwnOk K n (ovT K) (owT n):=by
 intro H μ w v ws r e
 cases w with
 | tup us=>
  unfold owT at e
  dsimp only at e
  cases en:Nat.beq us.length n with
  | false=>rw [en] at e;cases e
  | true=>
   rw [en] at e
   cases (show some us=some ws from e)
   rw [Rep] at r
   obtain ⟨p,xs,ev,hs,rs⟩:=r
   exact ⟨xs,⟨p,ev,hs⟩,by rw [←rs.len];exact Nat.eq_of_beq_eq_true en,rs⟩
 | _=>cases e
abbrev DIfs (X:Cx)(ifs:List Expr)(m:MT):Prop:=PIfs X ifs (tDT X.K m)
theorem bR:DIfs X [] iR:=fun pins s σ H Q I ⟨μ,h,σw,Qw,R,S,m,k⟩=>pif_nil pins s σ H Q I (k _ _ ⟨μ,h,.refl,R,m⟩)
theorem nO (h:DT X c t):DIfs X [c] t:=pif_one h
theorem lc_of {K:PySem.W.Frag}{σ : St}{H:Hp}{Q:VK}{n:Nat}{own:V→Hp→List V→Prop}{ow:W→Option (List W)}{ix:List Nat}{mi:MI}{tt:MT}{te:ME}(oo:OwnOk K n own ow)(q:tD K (mLC ow ix mi tt te) σ H Q):tLC n own ix (tDI K mi) (tDT K tt) (tD K te) σ H Q:=by
 obtain ⟨μ,h,σw,Qw,R,S,m,k⟩:=q
 refine ⟨μ,h,σw,_,R,S,m,fun J H1 ⟨μ1,src,h1,e1,R1,ok,hz0⟩=>?_⟩
 obtain ⟨hz,m1⟩:=hz0.ok
 intro D hD
 have nD:=R1.nohid hD
 have hD1:Ext K H1 μ1 (upd H1 D (.lst [])) (μ1.hide D):=Ext.hide hD
 refine ⟨fun i n ys H'=>n=src.ws.length - i∧i≤src.ws.length∧ys.length≤i∧H' D=some (.lst ys)∧∃ μ' acc h',Ext K H1 μ1 H' μ'∧Rel K μ' H' h'∧μ'.hid D∧aX K H' μ' acc ys∧qj src ow ix tt te σw Qw (src.ws.drop i) acc h',
  ⟨src.ws.length,by simp,Nat.zero_le _,Nat.le_refl _,cL,μ1.hide D,[],h1,hD1,R1.hide hD,.inl rfl,.nil,by rw [List.drop_zero];exact m1⟩,?_⟩
 rintro i n' ys H2 ⟨hn,hle,hys,hH2,μ2,acc,h2,e2,R2,hid2,ra,m2⟩ _
 by_cases hlt:i<src.ws.length
 ·rw [List.drop_eq_getElem_cons hlt] at m2
  obtain ⟨ck,m2⟩:=Src.go_ok m2
  obtain ⟨hgo,hy⟩:=(ok e2 R2 ck).1 src.ws[i] (List.getElem?_eq_getElem hlt)
  refine .inr ⟨hgo,by omega,fun x H3 y=>?_⟩
  obtain ⟨μ3,e3,R3,rx⟩:=hy x H3 y
  have e13:=e2.trans e3
  cases eo:ow src.ws[i] with
  | none=>rw [eo] at m2;exact m2.elim
  | some us=>
   rw [eo] at m2
   obtain ⟨vs,hov,hvl,rvs⟩:=oo rx eo
   have S3:=(S.ext (e1.trans e13)).blk (ix:=ix) rvs
   refine ⟨vs,hov,hvl,μ3,h2,_,_,R3,S3,m2,fun b H4 ⟨μ4,h4,e4,R4,m4⟩=>?_⟩
   have e24:=e3.trans e4
   obtain ⟨hid4,hH4⟩:=e24.o D _ hid2 hH2
   cases b with
   | false=>
    dsimp only
    rw [if_neg Bool.false_ne_true]
    exact ⟨hH4,src.ws.length - (i+1),by omega,rfl,hlt,by omega,hH4,μ4,acc,h4,e2.trans e24,R4,hid4,e24.s ra,m4⟩
   | true=>
    dsimp only
    rw [if_pos rfl]
    refine ⟨μ4,h4,_,_,R4,S3.ext e4,m4,fun v H5 ⟨μ5,w5,h5,e5,R5,r5,m5⟩=>?_⟩
    have e25:=e24.trans e5
    obtain ⟨hid5,hH5⟩:=e25.o D _ hid2 hH2
    have g:=ExtX.grow (ys:=ys++[v]) R5 hid5
    have rs:aX K (upd H5 D (.lst (ys++[v]))) μ5 (acc++[w5]) (ys++[v]):=aX.ex (Ex0.grow R5 hid5) (aX.append (e25.s ra) (aX.one r5))
    exact ⟨hH5,src.ws.length - (i+1),by omega,rfl,hlt,by rw [List.length_append];simp;omega,cL,μ5,acc++[w5],h5,(e2.trans e25).x nD g,R5.grow hid5,hid5,rs,m5⟩
 ·have ei:i=src.ws.length:=by omega
  subst ei
  rw [List.drop_length] at m2
  obtain ⟨ck,m2⟩:=Src.go_ok m2
  exact .inl ⟨(ok e2 R2 ck).2 (Nat.le_refl _),k _ _ ⟨μ2.unhide D,.lst acc,h2,e1.trans (e2.x nD .unhide),R2.unhide,Rep.built R2 hid2 hH2 ra,m2⟩⟩
variable {scope:Scope}{x:Str}{xs:List Str}{ix:List Nat}{elt iter:Expr}{ifs:List Expr}{px:Pos}{mi:MI}{tt:MT}{te:ME}
theorem dR (B:ni X scope [x] ix)(C:Addr)(s:Shared)(H:Hp)(fp:List Addr):PG (blk X scope (lu X [x] ix) C s H fp) (.Name x px) (gOwn 1 ov1):=by
 obtain ⟨o1,o2⟩:=own_ok B (y:=x) (by simp)
 intro pins s' σ H' v u Q I r ⟨vs,hv,hl,q⟩
 cases hv
 refine aR (X:=blk X scope (lu X [x] ix) C s H fp) (i:=0) B.nd rfl o1 o2 pins s' σ H' v u Q I r ?_
 have hlen:σ.length=(lu X [x] ix).length:=I.len
 cases σ with
 | nil=>simp at hlen
 | cons o σ=>exact q
theorem pgo_2 {y:Str}{py pt:Pos}{kt:Nat}(hc:X.calm=true)(B:ni X scope [x,y] ix)(C:Addr)(s:Shared)(H:Hp)(fp:List Addr)
  (h1:∀ env,(assignEach [.Name x px,.Name y py] env).map (·.2)=assign (.Name x px) env::(assignEach [.Name y py] env).map (·.2):=by intro _;rfl)
  (h2:∀ env,(assignEach [.Name y py] env).map (·.2)=assign (.Name y py) env::(assignEach [] env).map (·.2):=by intro _;rfl)
  (h3:∀ env,(assignEach [.Name x px,.Name y py] env).length=2:=by intro _;rfl) (h4:∀ env,(assignEach [.Name x px,.Name y py] env).findIdx? (·.1)=none:=by intro _;rfl) :
  PG (blk X scope (lu X [x,y] ix) C s H fp) (.Tuple [.Name x px,.Name y py] kt pt) (gOwn 2 (ovT X.K)):=by
 obtain ⟨o1,u1⟩:=own_ok B (y:=x) (by simp)
 obtain ⟨o2,u2⟩:=own_ok B (y:=y) (by simp)
 intro pins s' σ H' v u Q I r ⟨vs,⟨a,ea,ha⟩,hl,q⟩
 have hlen:σ.length=(lu X [x,y] ix).length:=I.len
 refine pg_tup (X:=blk X scope (lu X [x,y] ix) C s H fp) (n:=2) hc (wW (aR (i:=0) B.nd rfl o1 u1) (wW (aR (i:=1) B.nd rfl o2 u2) pgs_nil (h2 _)) (h1 _)) (h3 _) (h4 _) pins s' σ H' v u Q I r ?_
 refine ⟨a,vs,ea,ha,hl,?_⟩
 match vs,hl,q with
 | [v1,v2],_,q=>
  match σ,hlen,q with
  | [],hlen,_=>simp at hlen
  | [_],hlen,_=>simp at hlen
  | _::_::σ,_,q=>exact ⟨v1,[v2],rfl,v2,[],rfl,rfl,q⟩
theorem ud {own:V→Hp→List V→Prop}{ow:W→Option (List W)}(ix:List Nat)(hc:X.calm=true)(B:ni X scope xs ix)(oo:OwnOk X.K xs.length own ow)(hg:∀ C s H fp,PG (blk X scope (lu X xs ix) C s H fp) tg (gOwn xs.length own))(hi:DIt X tg iter mi)
  (ht:∀ C s H fp,DIfs (blk X scope (lu X xs ix) C s H fp) ifs tt) (he:∀ C s H fp,DE (blk X scope (lu X xs ix) C s H fp) elt te)
  (hs:∀ v,foldedSetIterable iter X.env v=pure v:=by intro _;rfl):DE X (.ListComp elt [⟨tg,iter,ifs,0⟩] scope pos) (mLC ow ix mi tt te):=(pe_lc ix hc B hg hi ht he hs).of fun _ _ _ q=>lc_of oo q
theorem vf {own:V→Hp→List V→Prop}{ow:W→Option (List W)}(ix:List Nat){i:Nat}{y:Str}{py spos:Pos}(hN:X.N.Nodup)(hi':X.N[i]?=some y)(hy:Loc X.env.scope y)(hc:X.calm=true)(B:ni X scope xs ix)(oo:OwnOk X.K xs.length own ow)
  (hg:∀ C s H fp,PG (blk X scope (lu X xs ix) C s H fp) tg (gOwn xs.length own)) (hi:DIt X tg iter mi)
  (ht:∀ C s H fp,DIfs (blk X scope (lu X xs ix) C s H fp) ifs tt) (he:∀ C s H fp,DE (blk X scope (lu X xs ix) C s H fp) elt te)
  (hsw:swapsWith (.ListComp elt [⟨tg,iter,ifs,0⟩] scope pos) (some (.Name y py)) spos.line X.env=pure true:=by rfl)
  (hf:X.fn y=true∨X.env.scope.names.lookup y=some .local:=by first | exact .inl rfl | exact .inr rfl | assumption)
  (hs:∀ v,foldedSetIterable iter X.env v=pure v:=by intro _;rfl):DS X (.Assign [.Name y py] (.ListComp elt [⟨tg,iter,ifs,0⟩] scope pos) spos) (bM (mLC ow ix mi tt te) (nName i)):=
 (ps_lc ix hN hi' hy hc B hg hi ht he hsw hf hs).of fun _ _ _ q=>set_of (fun _ _ _ z=>lc_of oo z) q
theorem cutF {κ : Type}{K:PySem.W.Frag}{H0 H:Hp}{μ0 μ : Mu}{k:Nat}(hd:∀ n p,μ0.f n=some p→n<k):∀ {fs:List (κ×W)} {f0 fv:List (κ×V)},RepF K H0 μ0 fs f0→RepF K H μ fs fv→RepF K H (μ.cut k) fs fv
 | [],_,_,_,.nil=>.nil
 | _::_,_,_,.cons a b,.cons c d=>.cons ⟨c.1,Rep.cut c.2 (Rep.lo hd a.2)⟩ (cutF hd b d)
def xZ (pure:Bool)(h:Gh)(w:W)(h':Gh)(Q:WK):Prop:=match pure with
 | false=>Q w h'
 | true=>(∀ n c,n<h.nx→h.c n=some c→h'.c n=some c)∧((Lo h.nx w∧Q w h)∨∃ n ws,w=.loc n∧h.nx≤n∧h'.c n=some (.lst ws)∧Los h.nx ws∧Q (.lst ws) h)
def mFn (n N:Nat)(pure:Bool)(body:XWK→MS):MSp:=fun ws h Q E=>by2 (Nat.beq ws.length n)
 (body E { nx:=fun _ h'=>xZ pure h .non h' Q,rt:=fun w h'=>xZ pure h w h' Q } (ws.map some++List.replicate (N - ws.length) none) h) False
theorem mFn_ok {n N:Nat}{pure:Bool}{body:XWK→MS}{ws:List W}{h:Gh}{Q:WK}{E:XWK}(x:mFn n N pure body ws h Q E):ws.length=n ∧
  body E { nx:=fun _ h'=>xZ pure h .non h' Q,rt:=fun w h'=>xZ pure h w h' Q } (ws.map some++List.replicate (N - ws.length) none) h:=by
 unfold mFn at x
 cases e:Nat.beq ws.length n with
 | true=>rw [e] at x;exact ⟨Nat.eq_of_beq_eq_true e,x⟩
 | false=>rw [e] at x;exact (show False from x).elim
theorem Rel.cut {K:PySem.W.Frag}{H H':Hp}{μ μ':Mu}{h h':Gh}(R:Rel K μ H h)(R':Rel K μ' H' h')(e:Ext K H μ H' μ')(hc:∀ n c,h.c n=some c→h'.c n=some c):Rel K (μ'.cut h.nx) H' h where
 inj:=fun m n p a b=>R'.inj m n p (Mu.cut_some a).2 (Mu.cut_some b).2
 dom:=fun n p a=>(Mu.cut_some a).1
 trk:=fun n p a=>R'.trk n p (Mu.cut_some a).2
 cel:=fun n c a=>by
  obtain ⟨p0,m0,x0⟩:=R.cel n c a
  obtain ⟨p,m,x⟩:=R'.cel n c (hc n c a)
  have hn:=R.dom n p0 m0
  refine ⟨p,by show (if n<h.nx then μ'.f n else none)=some p;rw [if_pos hn];exact m,?_⟩
  cases c with
  | lst ws=>
   obtain ⟨xs0,_,r0⟩:=x0
   obtain ⟨xs,hx,r⟩:=x
   exact ⟨xs,hx,aX.cut r (aX.lo R.dom r0)⟩
  | obj C fs=>
   obtain ⟨dx0,f0,_,r0⟩:=x0
   obtain ⟨dx,fv,hx,r⟩:=x
   exact ⟨dx,fv,hx,cutF R.dom r0 r⟩
  | dct kvs=>
   obtain ⟨f0,_,r0⟩:=x0
   obtain ⟨fv,hx,r⟩:=x
   exact ⟨fv,hx,cutF R.dom r0 r⟩
  | dtt kvs=>
   obtain ⟨_,_,_,_,_,d0,f0⟩:=x0
   obtain ⟨xs,vs,a,b,c,d,f⟩:=x
   exact ⟨xs,vs,a,b,c,aX.cut d (aX.lo R.dom d0),aX.cut f (aX.lo R.dom f0)⟩
 hd:=fun p z=>⟨(R'.hd p z).1,fun n a=>(R'.hd p z).2 n (Mu.cut_some a).2⟩
theorem Ext.cut {K:PySem.W.Frag}{H H':Hp}{μ μ':Mu}{h:Gh}(R:Rel K μ H h)(e:Ext K H μ H' μ'):Ext K H μ H' (μ'.cut h.nx):=
 ⟨fun w v r=>Rep.cut (e.r w v r) (Rep.lo R.dom r),fun p u z a=>e.o p u z a⟩
theorem exit_ok {K:PySem.W.Frag}{H H':Hp}{μ μ':Mu}{h h':Gh}{w:W}{v:V}{Q:WK}{pure:Bool}(R:Rel K μ H h)(e:Ext K H μ H' μ')(R':Rel K μ' H' h')(r:Rep K H' μ' w v)(x:xZ pure h w h' Q):DQ K H μ Q v H':=by
 cases pure with
 | false=>exact ⟨μ',w,h',e,R',r,x⟩
 | true=>
  obtain ⟨hc0,⟨lo,q⟩ | ⟨n,ws,ew,hn,ec,lo,q⟩⟩:=x
  all_goals have hc:∀ n c,h.c n=some c→h'.c n=some c:=fun n c a=>hc0 n c (let ⟨p,m,_⟩:=R.cel n c a;R.dom n p m) a
  ·exact ⟨μ'.cut h.nx,w,h,e.cut R,R.cut R' e hc,Rep.cut r lo,q⟩
  ·subst ew
   refine ⟨μ'.cut h.nx,.lst ws,h,e.cut R,R.cut R' e hc,?_,q⟩
   rw [Rep] at r
   rw [Rep]
   obtain ⟨p,ev,hm⟩:=r
   obtain ⟨p',xs,hm',hx,rs⟩:=R'.lstAt ec
   have ep:p'=p:=by rw [hm] at hm';exact (Option.some.inj hm').symm
   subst ep
   refine ⟨p',xs,ev,⟨hx,fun m a=>?_,fun z=>(R'.hd p' z).2 n hm⟩,aX.cut rs lo⟩
   obtain ⟨a1,a2⟩:=Mu.cut_some a
   have:=R'.inj m n p' a2 hm
   omega
theorem start_slots {K:PySem.W.Frag}{H:Hp}{μ : Mu}{N:List Str}:∀ {ws:List W} {vs:List V},aX K H μ ws vs→Slots K H μ (ws.map some++List.replicate (N.length - ws.length) none) (start N vs):=by
 intro ws vs r
 have hl:=r.len
 refine ⟨by simp [start,hl],fun i w q=>?_⟩
 by_cases hi:i<ws.length
 ·rw [List.getElem?_append_left (by simpa using hi),List.getElem?_map] at q
  have q':ws[i]?=some w:=by
   cases e:ws[i]? with
   | none=>rw [e] at q;cases q
   | some a=>rw [e] at q;simpa using q
  obtain ⟨v,hv,rv⟩:=r.get q'
  refine ⟨v,?_,rv⟩
  unfold start
  rw [List.getElem?_append_left (by rw [List.length_map];omega),List.getElem?_map,hv]
  rfl
 ·rw [List.getElem?_append_right (by simpa using hi),List.getElem?_replicate] at q
  split at q <;> cases q
theorem dY {P:Program}{w:World}{K:PySem.W.Frag}{mg:Str→Option Value}{base:Heap}{x qual:Str}{st:Stmt}{f:Addr}{fd:FuncData}{N ps:List Str}{k:Nat}{pure:Bool}{body:XWK→MS}(F:Fun K x qual st f fd)(S:aN N ps (aG st))
  (hb:∀ (cdv:Value) (A:Around) (outer:List Env) (s:Shared) (H:Hp) (E:XK),rK k (A.deeper (envOfC qual (aG st) s.heap.objs.size f cdv)) →
   DSs (cxOf CX0 P w K mg base N qual (aG st) f cdv A outer s H E).nox (nC st) (body EF)):cH P w K mg base CX0 (k+1) f fd ps (lift K (mFn ps.length N.length pure body)):=by
 refine F.ok S (fun vs H Q E ⟨μ,h,ws,Qw,R,r,m,k⟩=>by rw [←r.len];exact (mFn_ok m).1) (fun cdv A outer s H vs Q E hr ⟨μ,h,ws,Qw,R,r,m0,k⟩=>?_)
 obtain ⟨hl,m⟩:=mFn_ok m0
 refine ⟨_,hb cdv A outer s H E hr,μ,h,_,_,R,start_slots r,m,?_,?_,?_,?_⟩
 ·rintro σ' H' ⟨μ1,σw1,h1,e1,R1,S1,m1⟩
  exact k _ _ (exit_ok (w:=.non) R e1 R1 (by rw [Rep]) m1)
 ·rintro v H' ⟨μ1,w1,h1,e1,R1,r1,m1⟩
  exact k _ _ (exit_ok R e1 R1 r1 m1)
 ·rintro σ' H' ⟨μ1,σw1,h1,e1,R1,S1,m1⟩
  exact m1.elim
 ·rintro σ' H' ⟨μ1,σw1,h1,e1,R1,S1,m1⟩
  exact m1.elim
end
end L2
namespace L2
open PySem PySem.Spec PyProof.Rows
section
variable {X:Cx}{K:PySem.W.Frag}
theorem DQ.int {H:Hp}{μ : Mu}{h:Gh}{i:Int}{Q:WK}(R:Rel K μ H h)(q:Q (.int i) h):DQ K H μ Q (.int i) H:=⟨μ,.int i,h,.refl,R,by rw [Rep],q⟩
theorem DQ.bl {H:Hp}{μ : Mu}{h:Gh}{i:Bool}{Q:WK}(R:Rel K μ H h)(q:Q (.bl i) h):DQ K H μ Q (.bl i) H:=⟨μ,.bl i,h,.refl,R,by rw [Rep],q⟩
def kI (C:Int→Int→Prop)(g:Int→Int→Int):M2:=fun x y h Q=>match x,y with
 | .int i,.int j=>C i j∧Q (.int (g i j)) h
 | _,_=>False
def lV:M2:=fun x y h Q=>match x,y with
 | .int i,.int j=>Q (.int (i - j)) h
 | _,_=>False
theorem fj:DOp X (binaryOp .Sub) lV:=⟨_,op_sub,by
 intro H μ h x y wx wy Qw Q R rx ry m k
 unfold lV at m
 split at m
 ·rw [Rep] at rx ry
  exact ⟨_,_,rx,ry,k _ _ (.int R m)⟩
 ·exact m.elim⟩
def cQ:M2:=fun x y h Q=>match x,y with
 | .int i,.int j=>eX i j∧Q (.int (i*j)) h
 | _,_=>False
theorem bT:DOp X (binaryOp .Mult) cQ:=⟨_,op_mulB,by
 intro H μ h x y wx wy Qw Q R rx ry m k
 unfold cQ at m
 split at m
 ·rw [Rep] at rx ry
  exact ⟨_,_,rx,ry,m.1,k _ _ (.int R m.2)⟩
 ·exact m.elim⟩
def z6:M2:=fun x y h Q=>match x,y with
 | .int i,.int j=>CDivBN i j∧Q (.int (i.fdiv j)) h
 | _,_=>False
theorem o_div:DOp X (binaryOp .FloorDiv) z6:=⟨_,op_fdivBN,by
 intro H μ h x y wx wy Qw Q R rx ry m k
 unfold z6 at m
 split at m
 ·rw [Rep] at rx ry
  exact ⟨_,_,rx,ry,m.1,k _ _ (.int R m.2)⟩
 ·exact m.elim⟩
def rP:M2:=fun x y h Q=>match x,y with
 | .int i,.int j=>j≠0∧Q (.int (i.fmod j)) h
 | _,_=>False
theorem p7:DOp X (binaryOp .Mod) rP:=⟨_,op_modN,by
 intro H μ h x y wx wy Qw Q R rx ry m k
 unfold rP at m
 split at m
 ·rw [Rep] at rx ry
  exact ⟨_,_,rx,ry,m.1,k _ _ (.int R m.2)⟩
 ·exact m.elim⟩
def kPow:M2:=fun x y h Q=>match x,y with
 | .int i,.int j=>CPow i j∧Q (.int (i^j.toNat)) h
 | _,_=>False
theorem o_pow:DOp X (binaryOp .Pow) kPow:=⟨_,op_pow,by
 intro H μ h x y wx wy Qw Q R rx ry m k
 unfold kPow at m
 split at m
 ·rw [Rep] at rx ry
  exact ⟨_,_,rx,ry,m.1,k _ _ (.int R m.2)⟩
 ·exact m.elim⟩
def kLt:M2:=fun x y h Q=>match x,y with
 | .int i,.int j=>Q (.bl (decide (i<j))) h
 | _,_=>False
theorem o_lt:DOp X (compareOp .Lt) kLt:=⟨_,op_lt,by
 intro H μ h x y wx wy Qw Q R rx ry m k
 unfold kLt at m
 split at m
 ·rw [Rep] at rx ry
  exact ⟨_,_,rx,ry,k _ _ (.bl R m)⟩
 ·exact m.elim⟩
def kGt:M2:=fun x y h Q=>match x,y with
 | .int i,.int j=>Q (.bl (decide (j<i))) h
 | _,_=>False
theorem o_gt:DOp X (compareOp .Gt) kGt:=⟨_,op_gt,by
 intro H μ h x y wx wy Qw Q R rx ry m k
 unfold kGt at m
 split at m
 ·rw [Rep] at rx ry
  exact ⟨_,_,rx,ry,k _ _ (.bl R m)⟩
 ·exact m.elim⟩
theorem aX.ne_nil {H:Hp}{μ : Mu}{ws:List W}{xs:List V}(r:aX K H μ ws xs):xs=[]↔ws=[]:=by
 have:=r.len
 constructor
 ·intro e;subst e;exact List.eq_nil_of_length_eq_zero this
 ·intro e;subst e;exact List.eq_nil_of_length_eq_zero this.symm
def kIx:M2:=fun x y h Q=>match y with
 | .int i=>(match view h x with
  | some ws=>(match atI ws i with
   | some w=>Q w h
   | none=>False)
  | none=>False)
 | _=>False
theorem aX.at {H:Hp}{μ : Mu}{ws:List W}{xs:List V}{i:Int}{w:W}(r:aX K H μ ws xs)(e:atI ws i=some w):∃ v,atI xs i=some v∧Rep K H μ w v:=by
 unfold atI at e ⊢
 rw [←r.len]
 cases q:ixN ws.length i with
 | none=>rw [q] at e;cases e
 | some j=>rw [q] at e;exact r.get e
theorem dJ {H:Hp}{μ : Mu}{h:Gh}{w:W}{v:V}{ws:List W}(R:Rel K μ H h)(r:Rep K H μ w v)(e:fu h w=some ws):∃ p xs,v=.ref p∧SqL K H p xs∧aX K H μ ws xs:=by
 cases w with
 | lst us=>
  rw [Rep] at r
  obtain ⟨p,xs,ev,hs,rs⟩:=r
  cases (show some us=some ws from e)
  exact ⟨p,xs,ev,hs.sq,rs⟩
 | kls us=>
  rw [Rep] at r
  obtain ⟨p,xs,ev,hs,rs⟩:=r
  cases (show some us=some ws from e)
  exact ⟨p,xs,ev,hs.sq,rs⟩
 | loc n=>
  rw [Rep] at r
  obtain ⟨p,ev,hm⟩:=r
  unfold fu at e
  dsimp only at e
  cases ec:h.c n with
  | none=>rw [ec] at e;cases e
  | some cl=>
   rw [ec] at e
   cases cl with
   | lst us=>
    cases (show some us=some ws from e)
    obtain ⟨p',xs,hm',hx,rs⟩:=R.lstAt ec
    have ep:p'=p:=by rw [hm] at hm';exact (Option.some.inj hm').symm
    subst ep
    exact ⟨p',xs,ev,.of hx,rs⟩
   | _=>cases e
 | _=>cases e
theorem wM {H:Hp}{μ : Mu}{h:Gh}{w:W}{v:V}{ws:List W}(R:Rel K μ H h)(r:Rep K H μ w v)(e:view h w=some ws):∃ p xs,v=.ref p∧(SqL K H p xs∨SqT K H p xs)∧aX K H μ ws xs:=by
 cases w with
 | tup us=>
  rw [Rep] at r
  obtain ⟨p,xs,ev,hs,rs⟩:=r
  cases (show some us=some ws from e)
  exact ⟨p,xs,ev,.inr hs,rs⟩
 | lst us=>
  obtain ⟨p,xs,ev,hs,rs⟩:=dJ (ws:=ws) R r e
  exact ⟨p,xs,ev,.inl hs,rs⟩
 | kls us=>
  obtain ⟨p,xs,ev,hs,rs⟩:=dJ (ws:=ws) R r e
  exact ⟨p,xs,ev,.inl hs,rs⟩
 | loc n=>
  obtain ⟨p,xs,ev,hs,rs⟩:=dJ (ws:=ws) R r e
  exact ⟨p,xs,ev,.inl hs,rs⟩
 | _=>cases e
theorem sim_ix:Sim2 K (rIx K) kIx:=by
 intro H μ h x y wx wy Qw Q R rx ry m k
 unfold kIx at m
 split at m
 ·rename_i i
  split at m
  ·rename_i ws ev
   split at m
   ·rename_i w ew
    obtain ⟨p,xs,ex,hs,rs⟩:=wM R rx ev
    obtain ⟨v,hv,rv⟩:=rs.at ew
    rw [Rep] at ry
    have fin:=k _ _ ⟨μ,w,h,.refl,R,rv,m⟩
    rcases hs with hs | hs
    ·exact .inl ⟨p,xs,i,v,ex,ry,hs,hv,fin⟩
    ·exact .inr (.inl ⟨p,xs,i,v,ex,ry,hs,hv,fin⟩)
   ·exact m.elim
  ·exact m.elim
 ·exact m.elim
theorem bG {a b:Expr}{ma mb:ME}{pos:Pos}(ha:DE X a ma)(hb:DE X b mb)(hs:PlainIx b):DE X (.Subscript a b pos) (mOp kIx ma mb):=(pe_ix ix_seq ha hb hs).of fun σ H Q h=>two h fun R r1 r2 m k=>sim_ix R r1 r2 m k
abbrev MO:=Sw→Gh→(Option Int→Gh→Prop)→Prop
def tDO (K:PySem.W.Frag)(m:MO):TO:=fun σ H Q=>∃ μ h σw Qw,Rel K μ H h∧Slots K H μ σw σ∧m σw h Qw∧∀ o H',(∃ μ' h',Ext K H μ H' μ'∧Rel K μ' H' h'∧Qw o h')→Q o H'
abbrev DO (X:Cx)(e:Option Expr)(m:MO):Prop:=PO X e (tDO X.K m)
theorem PO.of {e:Option Expr}{t t':TO}(h:PO X e t)(k:∀ σ H Q,t' σ H Q→t σ H Q):PO X e t':=by
 unfold PO at h ⊢
 intros
 apply h <;> first | assumption | (apply k;assumption)
def jJ:MO:=fun _ h Q=>Q none h
def fG (m:ME):MO:=fun σ h Q=>m σ h fun w h1=>match w with
 | .int i=>Q (some i) h1
 | _=>False
theorem mQ:DO X none jJ:=PO.of po_none fun σ H Q ⟨μ,h,σw,Qw,R,S,m,k⟩=>k _ _ ⟨μ,h,.refl,R,m⟩
theorem cG {e:Expr}{ma:ME}(he:DE X e ma):DO X (some e) (fG ma):=PO.of (po_some he) fun σ H Q ⟨μ,h,σw,Qw,R,S,m,k⟩=>by
 refine ⟨μ,h,σw,_,R,S,m,fun v H1 ⟨μ1,w,h1,e1,R1,r1,m1⟩=>?_⟩
 dsimp only at m1
 split at m1
 ·rw [Rep] at r1;exact ⟨_,r1,k _ _ ⟨μ1,h1,e1,R1,m1⟩⟩
 ·exact m1.elim
def cutW (xs:List W)(lo hi:Option Int):List W:=(xs.drop (HT.sIx xs.length 0 lo)).take (HT.sIx xs.length xs.length hi - HT.sIx xs.length 0 lo)
def kSl (x:W)(lo hi:Option Int)(h:Gh)(Q:WK):Prop:=match x with
 | .tup ws=>¬ (HT.sIx ws.length 0 lo=0∧HT.sIx ws.length ws.length hi=ws.length)∧Q (.tup (cutW ws lo hi)) h
 | x=>(match fu h x with
  | some ws=>Q (.lst (cutW ws lo hi)) h
  | none=>False)
def mSl (r:W→Option Int→Option Int→Gh→WK→Prop)(m:ME)(l u:MO):ME:=fun σ h Q=>m σ h fun x h1=>l σ h1 fun lo h2=>u σ h2 fun hi h3=>r x lo hi h3 Q
theorem aX.cutv {H:Hp}{μ : Mu}{ws:List W}{xs:List V}(r:aX K H μ ws xs)(lo hi:Option Int):aX K H μ (cutW ws lo hi) (cutV xs lo hi):=by
 unfold cutW cutV
 rw [←r.len]
 exact (r.drop _).take _
end
end L2
namespace L2
open PySem PySem.Spec PyProof.Rows
mutual
def eqW:W→W→Bool
 | .non,.non=>true
 | .bl a,.bl b=>a==b
 | .bl a,.int b=>(if a then 1 else 0)==b
 | .int a,.bl b=>a==(if b then 1 else 0)
 | .int a,.int b=>a==b
 | .str a,.str b=>a==b
 | .tup a,.tup b=>qx a b
 | .lst a,.lst b=>qx a b
 | _,_=>false
def qx:List W→List W→Bool
 | [],[]=>true
 | a::as,b::bs=>eqW a b&&qx as bs
 | _,_=>false
end
def plW:Nat→W→Bool
 | _,.non=>true
 | _,.bl _=>true
 | _,.int _=>true
 | _,.str _=>true
 | n+1,.tup ws=>ws.all (plW n)
 | n+1,.lst ws=>ws.all (plW n)
 | _,_=>false
mutual
def Dt (K:PySem.W.Frag)(H:Hp):W→V→Prop
 | .non,v=>v=.non
 | .bl b,v=>v=.bl b
 | .int i,v=>v=.int i
 | .str x,v=>v=.str x
 | .tup ws,v=>∃ p xs,v=.ref p∧SqT K H p xs∧Dts K H ws xs
 | .lst ws,v=>∃ p xs,v=.ref p∧SqL K H p xs∧Dts K H ws xs
 | .ty _,_=>False
 | .kls _,_=>False
 | .loc _,_=>False
 | .exc _,_=>False
 | .exa _ _,_=>False
 | .fnv _ _,_=>False
def Dts (K:PySem.W.Frag)(H:Hp):List W→List V→Prop
 | [],xs=>xs=[]
 | w::ws,xs=>∃ v vs,xs=v::vs∧Dt K H w v∧Dts K H ws vs
end
section
variable {X:Cx}{K:PySem.W.Frag}{H:Hp}{μ : Mu}{h:Gh}
theorem Dts.len:∀ {ws:List W} {xs:List V},Dts K H ws xs→ws.length=xs.length
 | [],xs,h=>by
  have e:xs=[]:=by rw [Dts] at h;exact h
  rw [e];rfl
 | w::ws,xs,h=>by
  rw [Dts] at h
  obtain ⟨v,vs,e,_,h⟩:=h
  rw [e,List.length_cons,List.length_cons,Dts.len h]
theorem Dts.get:∀ {ws:List W} {xs:List V} {i:Nat} {w:W},Dts K H ws xs→ws[i]?=some w→∃ v,xs[i]?=some v∧Dt K H w v
 | [],_,_,_,_,e=>by simp at e
 | a::ws,xs,0,w,h,e=>by
  rw [Dts] at h
  obtain ⟨v,vs,e1,r,_⟩:=h
  simp at e;subst e;subst e1
  exact ⟨v,rfl,r⟩
 | a::ws,xs,i+1,w,h,e=>by
  rw [Dts] at h
  obtain ⟨v,vs,e1,_,h⟩:=h
  subst e1
  obtain ⟨u,h1,h2⟩:=Dts.get (i:=i) (w:=w) h (by simpa using e)
  exact ⟨u,by simpa using h1,h2⟩
theorem zT {n:Nat}(one:∀ {w:W} {v:V},Rep K H μ w v→plW n w=true→Dt K H w v):∀ {ws:List W} {xs:List V},aX K H μ ws xs→ws.all (plW n)=true→Dts K H ws xs
 | [],_,h,_=>by rw [aX] at h;rw [Dts];exact h
 | w::ws,_,h,p=>by
  rw [aX] at h
  rw [Dts]
  obtain ⟨v,vs,e,r,h⟩:=h
  rw [List.all_cons,Bool.and_eq_true] at p
  exact ⟨v,vs,e,one r p.1,zT one h p.2⟩
theorem dt_of:∀ (n:Nat) {w:W} {v:V},Rep K H μ w v→plW n w=true→Dt K H w v:=by
 intro n
 induction n with
 | zero=>
  intro w v r p
  cases w with
  | non=>rw [Rep] at r;rw [Dt];exact r
  | bl _=>rw [Rep] at r;rw [Dt];exact r
  | int _=>rw [Rep] at r;rw [Dt];exact r
  | str _=>rw [Rep] at r;rw [Dt];exact r
  | _=>simp [plW] at p
 | succ n ih=>
  intro w v r p
  cases w with
  | non=>rw [Rep] at r;rw [Dt];exact r
  | bl _=>rw [Rep] at r;rw [Dt];exact r
  | int _=>rw [Rep] at r;rw [Dt];exact r
  | str _=>rw [Rep] at r;rw [Dt];exact r
  | tup ws=>
   rw [Rep] at r;rw [Dt]
   obtain ⟨p',xs,e,hs,rs⟩:=r
   exact ⟨p',xs,e,hs,zT ih rs (by simpa [plW] using p)⟩
  | lst ws=>
   rw [Rep] at r;rw [Dt]
   obtain ⟨p',xs,e,hs,rs⟩:=r
   exact ⟨p',xs,e,hs.sq,zT ih rs (by simpa [plW] using p)⟩
  | _=>simp [plW] at p
theorem o8:∀ {a b:List W},a.length≠b.length→qx a b=false
 | [],[],h=>absurd rfl h
 | [],_::_,_=>by simp [qx]
 | _::_,[],_=>by simp [qx]
 | a::as,b::bs,h=>by
  rw [qx,o8 (a:=as) (b:=bs) (by simpa using h),Bool.and_false]
def eqJW (a b:List W)(j:Nat):Bool:=eqW (a.getD j .non) (b.getD j .non)
theorem oR:∀ {a b:List W},a.length=b.length→(List.range a.length).all (eqJW a b)=qx a b
 | [],[],_=>by simp [qx]
 | [],_::_,h=>by simp at h
 | _::_,[],h=>by simp at h
 | a::as,b::bs,h=>by
  rw [qx,←oR (a:=as) (b:=bs) (by simpa using h),List.length_cons,List.range_succ_eq_map,List.all_cons,List.all_map]
  rfl
mutual
theorem xW {pins:List (Addr×Obj)}{s:Shared}{σ : St}(I:Inv X pins σ H s):∀ {w u:W} {v:V},Dt X.K H w v→Dt X.K H u v→eqW w u=true
 | .non,u,v,h,g=>by rw [Dt] at h;subst h;cases u <;> rw [Dt] at g <;> first | rfl | exact g.elim | (obtain ⟨_,_,g,_⟩:=g;cases g;done) | (cases g;done)
 | .bl b,u,v,h,g=>by rw [Dt] at h;subst h;cases u <;> rw [Dt] at g <;> first | (injection g with g;simp [eqW,g];done) | exact g.elim | (obtain ⟨_,_,g,_⟩:=g;cases g;done) | (cases g;done)
 | .int b,u,v,h,g=>by rw [Dt] at h;subst h;cases u <;> rw [Dt] at g <;> first | (injection g with g;simp [eqW,g];done) | exact g.elim | (obtain ⟨_,_,g,_⟩:=g;cases g;done) | (cases g;done)
 | .str b,u,v,h,g=>by rw [Dt] at h;subst h;cases u <;> rw [Dt] at g <;> first | (injection g with g;simp [eqW,g];done) | exact g.elim | (obtain ⟨_,_,g,_⟩:=g;cases g;done) | (cases g;done)
 | .tup ws,u,v,h,g=>by
  rw [Dt] at h
  obtain ⟨p,xs,e,hs,ds⟩:=h
  subst e
  cases u with
  | tup us=>
   rw [Dt] at g
   obtain ⟨p',xs',e',hs',ds'⟩:=g
   cases e'
   have:=I.tuple_inj hs hs'
   subst this
   rw [eqW]
   exact uU I ds ds'
  | lst us=>
   rw [Dt] at g
   obtain ⟨p',xs',e',hs',ds'⟩:=g
   cases e'
   obtain ⟨_,_,t,_⟩:=I.tuple hs
   obtain ⟨_,_,l,_⟩:=I.list hs'
   exact absurd rfl (SeqAt.ne_of_list_tuple l.isList (show s.heap.IsTuple _ _ from t))
  | ty _=>rw [Dt] at g;exact g.elim
  | loc _=>rw [Dt] at g;exact g.elim
  | kls _=>rw [Dt] at g;exact g.elim
  | _=>rw [Dt] at g;cases g
 | .lst ws,u,v,h,g=>by
  rw [Dt] at h
  obtain ⟨p,xs,e,hs,ds⟩:=h
  subst e
  cases u with
  | lst us=>
   rw [Dt] at g
   obtain ⟨p',xs',e',hs',ds'⟩:=g
   cases e'
   have:=I.list_inj hs hs'
   subst this
   rw [eqW]
   exact uU I ds ds'
  | tup us=>
   rw [Dt] at g
   obtain ⟨p',xs',e',hs',ds'⟩:=g
   cases e'
   obtain ⟨_,_,t,_⟩:=I.tuple hs'
   obtain ⟨_,_,l,_⟩:=I.list hs
   exact absurd rfl (SeqAt.ne_of_list_tuple l.isList (show s.heap.IsTuple _ _ from t))
  | ty _=>rw [Dt] at g;exact g.elim
  | loc _=>rw [Dt] at g;exact g.elim
  | kls _=>rw [Dt] at g;exact g.elim
  | _=>rw [Dt] at g;cases g
 | .ty _,_,_,h,_=>by rw [Dt] at h;exact h.elim
 | .loc _,_,_,h,_=>by rw [Dt] at h;exact h.elim
 | .exc _,_,_,h,_=>by rw [Dt] at h;exact h.elim
 | .exa _ _,_,_,h,_=>by rw [Dt] at h;exact h.elim
 | .kls _,_,_,h,_=>by rw [Dt] at h;exact h.elim
theorem uU {pins:List (Addr×Obj)}{s:Shared}{σ : St}(I:Inv X pins σ H s):∀ {ws us:List W} {vs:List V},Dts X.K H ws vs→Dts X.K H us vs→qx ws us=true
 | [],us,vs,h,g=>by
  rw [Dts] at h;subst h
  cases us with
  | nil=>rfl
  | cons _ _=>rw [Dts] at g;obtain ⟨_,_,g,_⟩:=g;cases g
 | w::ws,us,vs,h,g=>by
  rw [Dts] at h
  obtain ⟨v,vs',e,h1,h2⟩:=h
  subst e
  cases us with
  | nil=>rw [Dts] at g;cases g
  | cons u us=>
   rw [Dts] at g
   obtain ⟨v',vs'',e',g1,g2⟩:=g
   cases e'
   rw [qx,xW I h1 g1,uU I h2 g2]
   rfl
end
theorem in1_units {A:Around}:A.in1.units=A.units+1:=rfl
theorem tW {n:Nat}{ws:List W}(h:plW n (.tup ws)=true):∃ m,n=m+1∧ws.all (plW m)=true:=by
 cases n with
 | zero=>simp [plW] at h
 | succ m=>exact ⟨m,rfl,by simpa [plW] using h⟩
theorem qp {n:Nat}{ws:List W}(h:plW n (.lst ws)=true):∃ m,n=m+1∧ws.all (plW m)=true:=by
 cases n with
 | zero=>simp [plW] at h
 | succ m=>exact ⟨m,rfl,by simpa [plW] using h⟩
theorem lN {s:Shared}{A:Around}{n:Nat}{ws us:List W}{xs ys:List V}{its jts:List Value}(d1:Dts K H ws xs)(d2:Dts K H us ys)(p1:ws.all (plW n)=true)(p2:us.all (plW n)=true)(r1:Vals xs its)(r2:Vals ys jts)
  (one:∀ {w u:W} {v x:V} {a b:Value},Dt K H w v→Dt K H u x→plW n w=true→plW n u=true→RelV v a→RelV x b→SeqAt.EqAt A s a b (eqW w u)) :
  ∀ j (h1:j<its.toArray.size) (h2:j<jts.toArray.size),SeqAt.EqAt A s its.toArray[j] jts.toArray[j] (eqJW ws us j):=by
 intro j h1 h2
 have l1:j<ws.length:=by rw [d1.len,r1.length];simpa using h1
 have l2:j<us.length:=by rw [d2.len,r2.length];simpa using h2
 obtain ⟨v,ev,dv⟩:=d1.get (List.getElem?_eq_getElem l1)
 obtain ⟨x,ex,dx⟩:=d2.get (List.getElem?_eq_getElem l2)
 obtain ⟨a,ea,ra⟩:=r1.get ev
 obtain ⟨b,eb,rb⟩:=r2.get ex
 have ea':its.toArray[j]=a:=by simpa using (List.getElem?_eq_some_iff.mp ea).2
 have eb':jts.toArray[j]=b:=by simpa using (List.getElem?_eq_some_iff.mp eb).2
 have e:eqJW ws us j=eqW ws[j] us[j]:=by
  unfold eqJW
  rw [List.getD_eq_getElem?_getD,List.getD_eq_getElem?_getD,List.getElem?_eq_getElem l1,List.getElem?_eq_getElem l2]
  rfl
 rw [ea',eb',e]
 exact one dv dx (List.all_eq_true.mp p1 _ (List.getElem_mem l1)) (List.all_eq_true.mp p2 _ (List.getElem_mem l2)) ra rb
theorem size_of {ws:List W}{xs:List V}{its:List Value}(d:Dts K H ws xs)(r:Vals xs its):its.toArray.size=ws.length:=by
 rw [d.len,r.length];simp
theorem tup_all {ws us:List W}:((List.range (min ws.length us.length)).all (eqJW ws us)&&ws.length==us.length)=qx ws us:=by
 by_cases e:ws.length=us.length
 ·rw [←e,Nat.min_self,oR e];simp
 ·rw [o8 e]
  have e2:(ws.length==us.length)=false:=beq_eq_false_iff_ne.mpr e
  rw [e2,Bool.and_false]
inductive Kd (s:Shared):W→Value→Prop where
 | non:Kd s .non .none
 | bl (b:Bool):Kd s (.bl b) (.bool b)
 | int (i:Int) (t:Tok):Kd s (.int i) (.int i t)
 | str (x:Str) (t:Tok):Kd s (.str x) (.str x t)
 | tup (ws:List W) {p:Addr} {its:Array Value} (q:s.heap.IsTuple p its):Kd s (.tup ws) (.ref p)
 | lst (ws:List W) {p:Addr} {its:Array Value} (q:s.heap.IsList p its):Kd s (.lst ws) (.ref p)
theorem kd_of {pins:List (Addr×Obj)}{s:Shared}{σ : St}(I:Inv X pins σ H s){w:W}{v:V}{a:Value}(d:Dt X.K H w v)(r:RelV v a):Kd s w a:=by
 cases w with
 | non=>rw [Dt] at d;subst d;cases r;exact .non
 | bl b=>rw [Dt] at d;subst d;cases r;exact .bl b
 | int b=>rw [Dt] at d;subst d;obtain ⟨t,rfl⟩:=r;exact .int b t
 | str b=>rw [Dt] at d;subst d;obtain ⟨t,rfl⟩:=r;exact .str b t
 | tup ws=>rw [Dt] at d;obtain ⟨p,xs,e,hs,_⟩:=d;subst e;cases r;obtain ⟨its,_,q,_⟩:=I.tuple hs;exact .tup ws q
 | lst ws=>rw [Dt] at d;obtain ⟨p,xs,e,hs,_⟩:=d;subst e;cases r;obtain ⟨its,_,q,_⟩:=I.list hs;exact .lst ws q.isList
 | _=>rw [Dt] at d;exact d.elim
def twoSq:W→W→Bool
 | .tup _,.tup _=>true
 | .lst _,.lst _=>true
 | _,_=>false
def flt2:W→W→Bool
 | .tup _,_=>false
 | .lst _,_=>false
 | _,.tup _=>false
 | _,.lst _=>false
 | _,_=>true
theorem eq_mix {s:Shared}{A:Around}{w u:W}{a b:Value}(hu:A.units<cLine)(k1:Kd s w a)(k2:Kd s u b)(h:twoSq w u=false)(f:flt2 w u=false):SeqAt.EqAt A s a b (eqW w u):=by
 cases k1 with
 | non=>
  cases k2 with
  | non=>cases f
  | bl _=>cases f
  | int _ _=>cases f
  | str _ _=>cases f
  | tup _ q3=>apply SeqAt.EqAt.none_tuple <;> assumption
  | lst _ q4=>apply SeqAt.EqAt.none_list <;> assumption
 | bl _=>
  cases k2 with
  | non=>cases f
  | bl _=>cases f
  | int _ _=>cases f
  | str _ _=>cases f
  | tup _ q3=>apply SeqAt.EqAt.bool_tuple <;> assumption
  | lst _ q4=>apply SeqAt.EqAt.bool_list <;> assumption
 | int _ _=>
  cases k2 with
  | non=>cases f
  | bl _=>cases f
  | int _ _=>cases f
  | str _ _=>cases f
  | tup _ q3=>apply SeqAt.EqAt.int_tuple <;> assumption
  | lst _ q4=>apply SeqAt.EqAt.int_list <;> assumption
 | str _ _=>
  cases k2 with
  | non=>cases f
  | bl _=>cases f
  | int _ _=>cases f
  | str _ _=>cases f
  | tup _ q3=>apply SeqAt.EqAt.str_tuple <;> assumption
  | lst _ q4=>apply SeqAt.EqAt.str_list <;> assumption
 | tup _ q1=>
  cases k2 with
  | non=>apply SeqAt.EqAt.tuple_none <;> assumption
  | bl _=>apply SeqAt.EqAt.tuple_bool <;> assumption
  | int _ _=>apply SeqAt.EqAt.tuple_int <;> assumption
  | str _ _=>apply SeqAt.EqAt.tuple_str <;> assumption
  | tup _ q3=>cases h
  | lst _ q4=>apply SeqAt.EqAt.tuple_list <;> assumption
 | lst _ q2=>
  cases k2 with
  | non=>apply SeqAt.EqAt.list_none <;> assumption
  | bl _=>apply SeqAt.EqAt.list_bool <;> assumption
  | int _ _=>apply SeqAt.EqAt.list_int <;> assumption
  | str _ _=>apply SeqAt.EqAt.list_str <;> assumption
  | tup _ q3=>apply SeqAt.EqAt.list_tuple <;> assumption
  | lst _ q4=>cases h
theorem rc_mix {s:Shared}{A:Around}{w u:W}{a b:Value}(hu:A.units<cLine)(k1:Kd s w a)(k2:Kd s u b)(h:twoSq w u=false):SeqAt.RcAt A s a b (eqW w u):=by
 cases k1 with
 | non=>
  cases k2 with
  | non=>apply SeqAt.RcAt.none_none <;> assumption
  | bl _=>apply SeqAt.RcAt.none_bool <;> assumption
  | int _ _=>apply SeqAt.RcAt.none_int <;> assumption
  | str _ _=>apply SeqAt.RcAt.none_str <;> assumption
  | tup _ q3=>apply SeqAt.RcAt.none_tuple <;> assumption
  | lst _ q4=>apply SeqAt.RcAt.none_list <;> assumption
 | bl _=>
  cases k2 with
  | non=>apply SeqAt.RcAt.bool_none <;> assumption
  | bl _=>apply SeqAt.RcAt.bool_bool <;> assumption
  | int _ _=>apply SeqAt.RcAt.bool_int <;> assumption
  | str _ _=>apply SeqAt.RcAt.bool_str <;> assumption
  | tup _ q3=>apply SeqAt.RcAt.bool_tuple <;> assumption
  | lst _ q4=>apply SeqAt.RcAt.bool_list <;> assumption
 | int _ _=>
  cases k2 with
  | non=>apply SeqAt.RcAt.int_none <;> assumption
  | bl _=>apply SeqAt.RcAt.int_bool <;> assumption
  | int _ _=>apply SeqAt.RcAt.int_int <;> assumption
  | str _ _=>apply SeqAt.RcAt.int_str <;> assumption
  | tup _ q3=>apply SeqAt.RcAt.int_tuple <;> assumption
  | lst _ q4=>apply SeqAt.RcAt.int_list <;> assumption
 | str _ _=>
  cases k2 with
  | non=>apply SeqAt.RcAt.str_none <;> assumption
  | bl _=>apply SeqAt.RcAt.str_bool <;> assumption
  | int _ _=>apply SeqAt.RcAt.str_int <;> assumption
  | str _ _=>apply SeqAt.RcAt.str_str <;> assumption
  | tup _ q3=>apply SeqAt.RcAt.str_tuple <;> assumption
  | lst _ q4=>apply SeqAt.RcAt.str_list <;> assumption
 | tup _ q1=>
  cases k2 with
  | non=>apply SeqAt.RcAt.tuple_none <;> assumption
  | bl _=>apply SeqAt.RcAt.tuple_bool <;> assumption
  | int _ _=>apply SeqAt.RcAt.tuple_int <;> assumption
  | str _ _=>apply SeqAt.RcAt.tuple_str <;> assumption
  | tup _ q3=>cases h
  | lst _ q4=>apply SeqAt.RcAt.tuple_list <;> assumption
 | lst _ q2=>
  cases k2 with
  | non=>apply SeqAt.RcAt.list_none <;> assumption
  | bl _=>apply SeqAt.RcAt.list_bool <;> assumption
  | int _ _=>apply SeqAt.RcAt.list_int <;> assumption
  | str _ _=>apply SeqAt.RcAt.list_str <;> assumption
  | tup _ q3=>apply SeqAt.RcAt.list_tuple <;> assumption
  | lst _ q4=>cases h
theorem ne_mix {s:Shared}{A:Around}{w u:W}{a b:Value}(hu:A.units<cLine)(k1:Kd s w a)(k2:Kd s u b)(h:twoSq w u=false):SeqAt.RcNeAt A s a b (!eqW w u):=by
 cases k1 with
 | non=>
  cases k2 with
  | non=>apply SeqAt.RcNeAt.none_none <;> assumption
  | bl _=>apply SeqAt.RcNeAt.none_bool <;> assumption
  | int _ _=>apply SeqAt.RcNeAt.none_int <;> assumption
  | str _ _=>apply SeqAt.RcNeAt.none_str <;> assumption
  | tup _ q3=>apply SeqAt.RcNeAt.none_tuple <;> assumption
  | lst _ q4=>apply SeqAt.RcNeAt.none_list <;> assumption
 | bl _=>
  cases k2 with
  | non=>apply SeqAt.RcNeAt.bool_none <;> assumption
  | bl _=>apply SeqAt.RcNeAt.bool_bool <;> assumption
  | int _ _=>apply SeqAt.RcNeAt.bool_int <;> assumption
  | str _ _=>apply SeqAt.RcNeAt.bool_str <;> assumption
  | tup _ q3=>apply SeqAt.RcNeAt.bool_tuple <;> assumption
  | lst _ q4=>apply SeqAt.RcNeAt.bool_list <;> assumption
 | int _ _=>
  cases k2 with
  | non=>apply SeqAt.RcNeAt.int_none <;> assumption
  | bl _=>apply SeqAt.RcNeAt.int_bool <;> assumption
  | int _ _=>apply SeqAt.RcNeAt.int_int <;> assumption
  | str _ _=>apply SeqAt.RcNeAt.int_str <;> assumption
  | tup _ q3=>apply SeqAt.RcNeAt.int_tuple <;> assumption
  | lst _ q4=>apply SeqAt.RcNeAt.int_list <;> assumption
 | str _ _=>
  cases k2 with
  | non=>apply SeqAt.RcNeAt.str_none <;> assumption
  | bl _=>apply SeqAt.RcNeAt.str_bool <;> assumption
  | int _ _=>apply SeqAt.RcNeAt.str_int <;> assumption
  | str _ _=>apply SeqAt.RcNeAt.str_str <;> assumption
  | tup _ q3=>apply SeqAt.RcNeAt.str_tuple <;> assumption
  | lst _ q4=>apply SeqAt.RcNeAt.str_list <;> assumption
 | tup _ q1=>
  cases k2 with
  | non=>apply SeqAt.RcNeAt.tuple_none <;> assumption
  | bl _=>apply SeqAt.RcNeAt.tuple_bool <;> assumption
  | int _ _=>apply SeqAt.RcNeAt.tuple_int <;> assumption
  | str _ _=>apply SeqAt.RcNeAt.tuple_str <;> assumption
  | tup _ q3=>cases h
  | lst _ q4=>apply SeqAt.RcNeAt.tuple_list <;> assumption
 | lst _ q2=>
  cases k2 with
  | non=>apply SeqAt.RcNeAt.list_none <;> assumption
  | bl _=>apply SeqAt.RcNeAt.list_bool <;> assumption
  | int _ _=>apply SeqAt.RcNeAt.list_int <;> assumption
  | str _ _=>apply SeqAt.RcNeAt.list_str <;> assumption
  | tup _ q3=>apply SeqAt.RcNeAt.list_tuple <;> assumption
  | lst _ q4=>cases h
theorem eqAtW {pins:List (Addr×Obj)}{s:Shared}{σ : St}(I:Inv X pins σ H s):∀ (n:Nat) {A:Around} {w u:W} {v x:V} {a b:Value},A.units+n<cLine→Dt X.K H w v→Dt X.K H u x→plW n w=true→plW n u=true→RelV v a→RelV x b→SeqAt.EqAt A s a b (eqW w u):=by
 intro n
 induction n with
 | zero=>
  intro A w u v x a b hu dw du pw pu ra rb
  cases w <;> first | (simp [plW] at pw;done) | skip
  all_goals cases u <;> first | (simp [plW] at pu;done) | (rw [Dt] at dw;rw [Dt] at du;subst dw;subst du;exact eqAt_V ra rb rfl rfl)
 | succ n ih=>
  intro A w u v x a b hu dw du pw pu ra rb
  have hu':A.units<cLine:=by omega
  have hu1:A.in1.units+n<cLine:=by rw [in1_units];omega
  by_cases h2:twoSq w u=true
  ·cases w <;> cases u <;> first | (cases h2;done) | skip
   ·rename_i ws us
    have dw0:=dw;have du0:=du
    rw [Dt] at dw;obtain ⟨p1,xs1,e1,hs1,ds1⟩:=dw;subst e1;cases ra;obtain ⟨its1,rv1,pl1,hz1⟩:=I.tuple hs1;have q1:s.heap.IsTuple p1 its1.toArray:=pl1
    rw [Dt] at du;obtain ⟨p2,xs2,e2,hs2,ds2⟩:=du;subst e2;cases rb;obtain ⟨its2,rv2,pl2,hz2⟩:=I.tuple hs2;have q2:s.heap.IsTuple p2 its2.toArray:=pl2
    have pw:ws.all (plW n)=true:=by simpa [plW] using pw
    have pu:us.all (plW n)=true:=by simpa [plW] using pu
    by_cases hp:p1=p2
    ·subst hp;rw [xW I dw0 du0];exact SeqAt.EqAt.same _
    ·refine SeqAt.EqAt.of_refs hp ?_
     have z:=SeqAt.RcAt.tuples q1 q2 hu' (lN ds1 ds2 pw pu rv1 rv2 (fun a b c d e f=>ih hu1 a b c d e f))
     rw [size_of ds1 rv1,size_of ds2 rv2,tup_all] at z
     rw [eqW];exact z
   ·rename_i ws us
    have dw0:=dw;have du0:=du
    rw [Dt] at dw;obtain ⟨p1,xs1,e1,hs1,ds1⟩:=dw;subst e1;cases ra;obtain ⟨its1,rv1,pl1,hz1⟩:=I.list hs1;have q1:=pl1.isList
    rw [Dt] at du;obtain ⟨p2,xs2,e2,hs2,ds2⟩:=du;subst e2;cases rb;obtain ⟨its2,rv2,pl2,hz2⟩:=I.list hs2;have q2:=pl2.isList
    have pw:ws.all (plW n)=true:=by simpa [plW] using pw
    have pu:us.all (plW n)=true:=by simpa [plW] using pu
    by_cases hp:p1=p2
    ·subst hp;rw [xW I dw0 du0];exact SeqAt.EqAt.same _
    ·refine SeqAt.EqAt.of_refs hp ?_
     rw [eqW]
     by_cases hl:ws.length=us.length
     ·have z:=SeqAt.RcAt.lists q1 q2 (by rw [size_of ds1 rv1,size_of ds2 rv2,hl]) hu' (lN ds1 ds2 pw pu rv1 rv2 (fun a b c d e f=>ih hu1 a b c d e f))
      rw [size_of ds1 rv1,oR hl] at z
      exact z
     ·rw [o8 hl];exact SeqAt.RcAt.lists_lengths q1 q2 (by rw [size_of ds1 rv1,size_of ds2 rv2];simpa using hl) hu'
  ·by_cases hf:flt2 w u=true
   ·cases w <;> cases u <;> first | (cases hf;done) | (simp [plW] at pw;done) | (simp [plW] at pu;done) | (rw [Dt] at dw;rw [Dt] at du;subst dw;subst du;exact eqAt_V ra rb rfl rfl)
   ·exact eq_mix hu' (kd_of I dw ra) (kd_of I du rb) (by simpa using h2) (by simpa using hf)
theorem rcAtW {pins:List (Addr×Obj)}{s:Shared}{σ : St}(I:Inv X pins σ H s)(n:Nat){A:Around}{w u:W}{v x:V}{a b:Value}(hu:A.units+n<cLine)(dw:Dt X.K H w v)(du:Dt X.K H u x)(pw:plW n w=true)(pu:plW n u=true)(ra:RelV v a)(rb:RelV x b):SeqAt.RcAt A s a b (eqW w u):=by
 have hu':A.units<cLine:=by omega
 by_cases h2:twoSq w u=true
 ·cases w <;> cases u <;> first | (cases h2;done) | skip
  ·obtain ⟨m,hm,pw⟩:=tW pw
   subst hm
   obtain ⟨m',hm',pu⟩:=tW pu
   cases hm'
   have hu1:A.in1.units+m<cLine:=by rw [in1_units];omega
   rw [Dt] at dw;obtain ⟨p1,xs1,e1,hs1,ds1⟩:=dw;subst e1;cases ra;obtain ⟨its1,rv1,pl1,hz1⟩:=I.tuple hs1;have q1:s.heap.IsTuple p1 its1.toArray:=pl1
   rw [Dt] at du;obtain ⟨p2,xs2,e2,hs2,ds2⟩:=du;subst e2;cases rb;obtain ⟨its2,rv2,pl2,hz2⟩:=I.tuple hs2;have q2:s.heap.IsTuple p2 its2.toArray:=pl2
   rw [eqW]
   have z:=SeqAt.RcAt.tuples q1 q2 hu' (lN ds1 ds2 pw pu rv1 rv2 (fun a b c d e f=>eqAtW I m hu1 a b c d e f))
   rw [size_of ds1 rv1,size_of ds2 rv2,tup_all] at z
   exact z
  ·rename_i ws us
   obtain ⟨m,hm,pw⟩:=qp pw
   subst hm
   obtain ⟨m',hm',pu⟩:=qp pu
   cases hm'
   have hu1:A.in1.units+m<cLine:=by rw [in1_units];omega
   rw [Dt] at dw;obtain ⟨p1,xs1,e1,hs1,ds1⟩:=dw;subst e1;cases ra;obtain ⟨its1,rv1,pl1,hz1⟩:=I.list hs1;have q1:=pl1.isList
   rw [Dt] at du;obtain ⟨p2,xs2,e2,hs2,ds2⟩:=du;subst e2;cases rb;obtain ⟨its2,rv2,pl2,hz2⟩:=I.list hs2;have q2:=pl2.isList
   rw [eqW]
   by_cases hl:ws.length=us.length
   ·have z:=SeqAt.RcAt.lists q1 q2 (by rw [size_of ds1 rv1,size_of ds2 rv2,hl]) hu' (lN ds1 ds2 pw pu rv1 rv2 (fun a b c d e f=>eqAtW I m hu1 a b c d e f))
    rw [size_of ds1 rv1,oR hl] at z
    exact z
   ·rw [o8 hl];exact SeqAt.RcAt.lists_lengths q1 q2 (by rw [size_of ds1 rv1,size_of ds2 rv2];simpa using hl) hu'
 ·exact rc_mix hu' (kd_of I dw ra) (kd_of I du rb) (by simpa using h2)
theorem rcNeAtW {pins:List (Addr×Obj)}{s:Shared}{σ : St}(I:Inv X pins σ H s)(n:Nat){A:Around}{w u:W}{v x:V}{a b:Value}(hu:A.units+n<cLine)(dw:Dt X.K H w v)(du:Dt X.K H u x)(pw:plW n w=true)(pu:plW n u=true)(ra:RelV v a)(rb:RelV x b):SeqAt.RcNeAt A s a b (!eqW w u):=by
 have hu':A.units<cLine:=by omega
 by_cases h2:twoSq w u=true
 ·cases w <;> cases u <;> first | (cases h2;done) | skip
  ·obtain ⟨m,hm,pw⟩:=tW pw
   subst hm
   obtain ⟨m',hm',pu⟩:=tW pu
   cases hm'
   have hu1:A.in1.units+m<cLine:=by rw [in1_units];omega
   rw [Dt] at dw;obtain ⟨p1,xs1,e1,hs1,ds1⟩:=dw;subst e1;cases ra;obtain ⟨its1,rv1,pl1,hz1⟩:=I.tuple hs1;have q1:s.heap.IsTuple p1 its1.toArray:=pl1
   rw [Dt] at du;obtain ⟨p2,xs2,e2,hs2,ds2⟩:=du;subst e2;cases rb;obtain ⟨its2,rv2,pl2,hz2⟩:=I.tuple hs2;have q2:s.heap.IsTuple p2 its2.toArray:=pl2
   rw [eqW]
   have z:=SeqAt.RcNeAt.tuples q1 q2 hu' (lN ds1 ds2 pw pu rv1 rv2 (fun a b c d e f=>eqAtW I m hu1 a b c d e f))
   rw [size_of ds1 rv1,size_of ds2 rv2,tup_all] at z
   exact z
  ·rename_i ws us
   obtain ⟨m,hm,pw⟩:=qp pw
   subst hm
   obtain ⟨m',hm',pu⟩:=qp pu
   cases hm'
   have hu1:A.in1.units+m<cLine:=by rw [in1_units];omega
   rw [Dt] at dw;obtain ⟨p1,xs1,e1,hs1,ds1⟩:=dw;subst e1;cases ra;obtain ⟨its1,rv1,pl1,hz1⟩:=I.list hs1;have q1:=pl1.isList
   rw [Dt] at du;obtain ⟨p2,xs2,e2,hs2,ds2⟩:=du;subst e2;cases rb;obtain ⟨its2,rv2,pl2,hz2⟩:=I.list hs2;have q2:=pl2.isList
   rw [eqW]
   by_cases hl:ws.length=us.length
   ·have z:=SeqAt.RcNeAt.lists q1 q2 (by rw [size_of ds1 rv1,size_of ds2 rv2,hl]) hu' (lN ds1 ds2 pw pu rv1 rv2 (fun a b c d e f=>eqAtW I m hu1 a b c d e f))
    rw [size_of ds1 rv1,oR hl] at z
    exact z
   ·rw [o8 hl];exact SeqAt.RcNeAt.lists_lengths q1 q2 (by rw [size_of ds1 rv1,size_of ds2 rv2];simpa using hl) hu'
 ·exact ne_mix hu' (kd_of I dw ra) (kd_of I du rb) (by simpa using h2)
def datW (h:Gh):W→Option W
 | .loc n=>(match h.c n with
  | some (.lst ws)=>some (.lst ws)
  | _=>none)
 | w=>some w
theorem pY {w d:W}{v:V}{n:Nat}(R:Rel K μ H h)(r:Rep K H μ w v)(e:datW h w=some d)(p:plW n d=true):Dt K H d v:=by
 have other:datW h w=some w→Dt K H d v:=fun z=>by
  rw [z] at e;cases e;exact dt_of n r p
 cases w with
 | loc m=>
  unfold datW at e
  dsimp only at e
  cases ec:h.c m with
  | none=>rw [ec] at e;cases e
  | some cl=>
   rw [ec] at e
   cases cl with
   | lst us=>
    cases (show some (W.lst us)=some d from e)
    obtain ⟨p',xs,hm',hx,rs⟩:=R.lstAt ec
    rw [Rep] at r
    obtain ⟨q,ev,hm⟩:=r
    have ep:p'=q:=by rw [hm] at hm';exact (Option.some.inj hm').symm
    subst ep
    obtain ⟨k,rfl,p⟩:=qp p
    rw [Dt]
    exact ⟨p',xs,ev,.of hx,zT (dt_of k) rs p⟩
   | _=>cases e
 | _=>exact other rfl
def rEqD (K:PySem.W.Frag)(neg:Bool):R2:=fun x y H Q=>∃ w u,Dt K H w x∧Dt K H u y∧plW 30 w=true∧plW 30 u=true∧Q (.bl (if neg then !eqW w u else eqW w u)) H
theorem op_eqD (hu:X.A.units+30<cLine):OpR X (compareOp .Eq) (rEqD X.K false):=by
 intro pins s σ H x y v u Q I rx ry ⟨w,w',d1,d2,p1,p2,q⟩
 exact rcAtW I 30 hu d1 d2 p1 p2 rx ry X.prog X.w X.xe _ (wg I q rfl)
theorem op_neD (hu:X.A.units+30<cLine):OpR X (compareOp .NotEq) (rEqD X.K true):=by
 intro pins s σ H x y v u Q I rx ry ⟨w,w',d1,d2,p1,p2,q⟩
 exact rcNeAtW I 30 hu d1 d2 p1 p2 rx ry X.prog X.w X.xe _ (wg I q rfl)
def kEq:M2:=fun x y h Q=>match datW h x,datW h y with
 | some a,some b=>by2 (plW 30 a&&plW 30 b) (Q (.bl (eqW a b)) h) False
 | _,_=>False
def kNe:M2:=fun x y h Q=>match datW h x,datW h y with
 | some a,some b=>by2 (plW 30 a&&plW 30 b) (Q (.bl (!eqW a b)) h) False
 | _,_=>False
theorem qW (hu:X.A.units+30<cLine):DOp X (compareOp .Eq) kEq:=⟨_,op_eqD hu,by
 intro H μ h x y wx wy Qw Q R rx ry m k
 unfold kEq at m
 split at m
 ·rename_i a b ea eb
  cases hp:(plW 30 a&&plW 30 b) with
  | true=>
   rw [hp] at m
   rw [Bool.and_eq_true] at hp
   exact ⟨a,b,pY R rx ea hp.1,pY R ry eb hp.2,hp.1,hp.2,k _ _ (.bl R m)⟩
  | false=>rw [hp] at m;exact (show False from m).elim
 ·exact m.elim⟩
theorem qm (hu:X.A.units+30<cLine):DOp X (compareOp .NotEq) kNe:=⟨_,op_neD hu,by
 intro H μ h x y wx wy Qw Q R rx ry m k
 unfold kNe at m
 split at m
 ·rename_i a b ea eb
  cases hp:(plW 30 a&&plW 30 b) with
  | true=>
   rw [hp] at m
   rw [Bool.and_eq_true] at hp
   exact ⟨a,b,pY R rx ea hp.1,pY R ry eb hp.2,hp.1,hp.2,k _ _ (.bl R m)⟩
  | false=>rw [hp] at m;exact (show False from m).elim
 ·exact m.elim⟩
theorem eY {A:Around}{k:Nat}(hr:rK k A):A.units+30<cLine:=by have:=hr.units;omega
end
end L2
namespace L2
open PySem PySem.Spec PyProof.Rows
section
variable {X:Cx}{K:PySem.W.Frag}
theorem nR {H:Hp}{μ : Mu}{w:W}{vs:List V}(r:aX K H μ [w] vs):∃ v,vs=[v]∧Rep K H μ w v:=by
 rw [aX] at r
 obtain ⟨v,vr,ev,ra,r⟩:=r
 rw [aX] at r
 subst r
 exact ⟨v,ev,ra⟩
theorem reps2 {H:Hp}{μ : Mu}{w u:W}{vs:List V}(r:aX K H μ [w,u] vs):∃ v x,vs=[v,x]∧Rep K H μ w v∧Rep K H μ u x:=by
 rw [aX] at r
 obtain ⟨v,vr,ev,ra,r⟩:=r
 obtain ⟨x,e,rb⟩:=nR r
 subst e
 exact ⟨v,x,ev,ra,rb⟩
theorem eX.of {i j:Int}{m n:Nat}(hi:Sm m i)(hj:Sm n j)(hm:m≤1000000)(hn:n≤1000000):eX i j:=⟨m,n,hm,hn,hi,hj⟩
theorem Sm.lit {i:Int}(h:Nat.ble (i.natAbs+1) (2^64)=true):Sm 64 i:=by
 have:=Nat.le_of_ble_eq_true h
 unfold Sm
 omega
def kLen:MC:=fun ws h Q=>match ws with
 | [w]=>(match view h w with
  | some xs=>Q (.int (xs.length:Int)) h
  | none=>False)
 | _=>False
theorem eU:qz X (.builtin "len") kLen:=⟨_,Ac,by
 intro H μ h vs ws Qw Q R r m k
 unfold kLen at m
 split at m
 ·split at m
  ·rename_i w _ xs ev
   obtain ⟨v,e,rv⟩:=nR r
   obtain ⟨p,ys,ex,hs,rs⟩:=wM R rv ev
   subst e ex
   exact ⟨p,ys,rfl,hs,by rw [←rs.len];exact k _ _ (.int R m)⟩
  ·exact m.elim
 ·exact m.elim⟩
def kAbs:MC:=fun ws h Q=>match ws with
 | [.int i]=>Q (.int (if i<0 then -i else i)) h
 | _=>False
theorem c_abs:qz X (.builtin "abs") kAbs:=⟨_,call_abs,by
 intro H μ h vs ws Qw Q R r m k
 unfold kAbs at m
 split at m
 ·obtain ⟨v,e,rv⟩:=nR r
  rw [Rep] at rv
  subst e rv
  exact ⟨_,rfl,k _ _ (.int R m)⟩
 ·exact m.elim⟩
def kMax:MC:=fun ws h Q=>match ws with
 | [.int i,.int j]=>Q (.int (if j>i then j else i)) h
 | _=>False
theorem c_max (hc:X.calm=true):qz X (.builtin "max") kMax:=⟨_,zJ hc,by
 intro H μ h vs ws Qw Q R r m k
 unfold kMax at m
 split at m
 ·obtain ⟨v,x,e,rv,rx⟩:=reps2 r
  rw [Rep] at rv rx
  subst e rv rx
  exact ⟨_,_,rfl,k _ _ (.int R m)⟩
 ·exact m.elim⟩
def kMin:MC:=fun ws h Q=>match ws with
 | [.int i,.int j]=>Q (.int (if j<i then j else i)) h
 | _=>False
theorem c_min (hc:X.calm=true):qz X (.builtin "min") kMin:=⟨_,call_min2 hc,by
 intro H μ h vs ws Qw Q R r m k
 unfold kMin at m
 split at m
 ·obtain ⟨v,x,e,rv,rx⟩:=reps2 r
  rw [Rep] at rv rx
  subst e rv rx
  exact ⟨_,_,rfl,k _ _ (.int R m)⟩
 ·exact m.elim⟩
def blsW:List W→Option (List Bool)
 | []=>some []
 | .bl b::ws=>(blsW ws).map (b::·)
 | _=>none
theorem blsW_ok {H:Hp}{μ : Mu}:∀ {ws:List W} {xs:List V} {bs:List Bool},aX K H μ ws xs→blsW ws=some bs→xs=bs.map V.bl
 | [],xs,bs,r,e=>by
  rw [aX] at r
  cases (show some []=some bs from e)
  exact r
 | w::ws,xs,bs,r,e=>by
  rw [aX] at r
  obtain ⟨v,vr,ev,ra,r⟩:=r
  cases w with
  | bl b=>
   rw [Rep] at ra
   rw [blsW] at e
   cases q:blsW ws with
   | none=>rw [q] at e;cases e
   | some cs=>
    rw [q] at e
    cases (show some (b::cs)=some bs from e)
    rw [ev,ra,blsW_ok r q]
    rfl
  | _=>cases e
def kAll:MC:=fun ws h Q=>match ws with
 | [w]=>(match fu h w with
  | some us=>(match blsW us with
   | some bs=>Q (.bl (bs.all id)) h
   | none=>False)
  | none=>False)
 | _=>False
theorem c_all (hc:X.calm=true):qz X (.builtin "all") kAll:=⟨_,call_allB hc,by
 intro H μ h vs ws Qw Q R r m k
 unfold kAll at m
 split at m
 ·split at m
  ·split at m
   ·rename_i w _ us ev _ bs eb
    obtain ⟨v,e,rv⟩:=nR r
    obtain ⟨p,ys,ex,hs,rs⟩:=dJ R rv ev
    subst e ex
    exact ⟨p,bs,rfl,by rw [←blsW_ok rs eb];exact hs,k _ _ (.bl R m)⟩
   ·exact m.elim
  ·exact m.elim
 ·exact m.elim⟩
def isiW (h:Gh)(w:W)(T:String):Option Bool:=match w with
 | .int _=>if T = "int" then some true else if T = "bool"∨T = "tuple"∨T = "list" then some false else none
 | .bl _=>if T = "int"∨T = "bool" then some true else if T = "tuple"∨T = "list" then some false else none
 | .str _=>if T = "int"∨T = "bool"∨T = "tuple"∨T = "list" then some false else none
 | .non=>if T = "int"∨T = "bool"∨T = "tuple"∨T = "list" then some false else none
 | .tup _=>if T = "tuple" then some true else if T = "int"∨T = "bool"∨T = "list" then some false else none
 | w=>(match fu h w with
  | some _=>if T = "list" then some true else if T = "int"∨T = "bool"∨T = "tuple" then some false else none
  | none=>none)
theorem isiW_ok {H:Hp}{μ : Mu}{h:Gh}{w:W}{v:V}{T:String}{b:Bool}(R:Rel K μ H h)(r:Rep K H μ w v)(e:isiW h w T=some b):isiV K H v T b:=by
 unfold isiW at e
 split at e
 ·rw [Rep] at r;subst r
  split at e
  ·rename_i t;subst t;cases e;exact .inl ⟨rfl,rfl⟩
  ·split at e
   ·rename_i t;cases e
    rcases t with t | t | t <;> subst t
    ·exact .inr (.inl ⟨rfl,rfl⟩)
    ·exact .inr (.inr (.inl ⟨rfl,rfl⟩))
    ·exact .inr (.inr (.inr ⟨rfl,rfl⟩))
   ·cases e
 ·rw [Rep] at r;subst r
  split at e
  ·rename_i t;cases e
   rcases t with t | t <;> subst t
   ·exact .inl ⟨rfl,rfl⟩
   ·exact .inr (.inl ⟨rfl,rfl⟩)
  ·split at e
   ·rename_i t;cases e
    rcases t with t | t <;> subst t
    ·exact .inr (.inr (.inl ⟨rfl,rfl⟩))
    ·exact .inr (.inr (.inr ⟨rfl,rfl⟩))
   ·cases e
 ·rw [Rep] at r;subst r
  split at e
  ·rename_i t;cases e
   rcases t with t | t | t | t <;> subst t
   ·exact .inl ⟨rfl,rfl⟩
   ·exact .inr (.inl ⟨rfl,rfl⟩)
   ·exact .inr (.inr (.inl ⟨rfl,rfl⟩))
   ·exact .inr (.inr (.inr ⟨rfl,rfl⟩))
  ·cases e
 ·rw [Rep] at r;subst r
  split at e
  ·rename_i t;cases e
   rcases t with t | t | t | t <;> subst t
   ·exact .inl ⟨rfl,rfl⟩
   ·exact .inr (.inl ⟨rfl,rfl⟩)
   ·exact .inr (.inr (.inl ⟨rfl,rfl⟩))
   ·exact .inr (.inr (.inr ⟨rfl,rfl⟩))
  ·cases e
 ·rw [Rep] at r
  obtain ⟨p,xs,ev,hs,_⟩:=r
  subst ev
  refine .inl ⟨xs,hs,?_⟩
  split at e
  ·rename_i t;subst t;cases e;exact .inr (.inr (.inl ⟨rfl,rfl⟩))
  ·split at e
   ·rename_i t;cases e
    rcases t with t | t | t <;> subst t
    ·exact .inl ⟨rfl,rfl⟩
    ·exact .inr (.inl ⟨rfl,rfl⟩)
    ·exact .inr (.inr (.inr ⟨rfl,rfl⟩))
   ·cases e
 ·split at e
  ·rename_i ws ev
   obtain ⟨p,xs,ex,hs,_⟩:=dJ R r ev
   subst ex
   refine .inr ⟨xs,hs,?_⟩
   split at e
   ·rename_i t;subst t;cases e;exact .inr (.inr (.inr ⟨rfl,rfl⟩))
   ·split at e
    ·rename_i t;cases e
     rcases t with t | t | t <;> subst t
     ·exact .inl ⟨rfl,rfl⟩
     ·exact .inr (.inl ⟨rfl,rfl⟩)
     ·exact .inr (.inr (.inl ⟨rfl,rfl⟩))
    ·cases e
  ·cases e
def kIsi:MC:=fun ws h Q=>match ws with
 | [w,.ty T]=>(match isiW h w T with
  | some b=>Q (.bl b) h
  | none=>False)
 | _=>False
theorem c_isi:qz X (.builtin "isinstance") kIsi:=⟨_,call_isi,by
 intro H μ h vs ws Qw Q R r m k
 unfold kIsi at m
 split at m
 ·split at m
  ·rename_i w T _ b eb
   obtain ⟨v,x,e,rv,rx⟩:=reps2 r
   have hi:=isiW_ok R rv eb
   rw [Rep] at rx
   subst e rx
   exact ⟨v,T,b,rfl,hi,k _ _ (.bl R m)⟩
  ·exact m.elim
 ·exact m.elim⟩
def vQ:MC:=fun ws h Q=>match ws with
 | [.tup us]=>Q (.tup us) h
 | [w]=>(match fu h w with
  | some us=>Q (.tup us) h
  | none=>False)
 | _=>False
theorem c_tuple:qz X (.type "tuple") vQ:=⟨_,wN,by
 intro H μ h vs ws Qw Q R r m k
 unfold vQ at m
 split at m
 ·obtain ⟨v,e,rv⟩:=nR r
  have rv':=rv
  rw [Rep] at rv
  obtain ⟨p,xs,ex,hs,rs⟩:=rv
  subst e ex
  exact ⟨p,xs,rfl,.inr ⟨hs,k _ _ ⟨μ,_,h,.refl,R,rv',m⟩⟩⟩
 ·split at m
  ·rename_i w _ _ us ev
   obtain ⟨v,e,rv⟩:=nR r
   obtain ⟨p,ys,ex,hs,rs⟩:=dJ R rv ev
   subst e ex
   exact ⟨p,ys,rfl,.inl ⟨hs,fun l hl=>k _ _ ⟨μ,_,h,(Ex.laid hl).ext,R.laid hl,.tupNew hl rs,m⟩⟩⟩
  ·exact m.elim
 ·exact m.elim⟩
def kList:MC:=fun ws h Q=>match ws with
 | [w]=>(match view h w with
  | some us=>Q (.lst us) h
  | none=>False)
 | _=>False
theorem c_list:qz X (.type "list") kList:=⟨_,Af,by
 intro H μ h vs ws Qw Q R r m k
 unfold kList at m
 split at m
 ·split at m
  ·rename_i w _ xs ev
   obtain ⟨v,e,rv⟩:=nR r
   obtain ⟨p,ys,ex,hs,rs⟩:=wM R rv ev
   subst e ex
   exact ⟨p,ys,rfl,hs,fun l hl=>k _ _ ⟨μ,_,h,(Ex.laid hl).ext,R.laid hl,.lstNew R hl rs,m⟩⟩
  ·exact m.elim
 ·exact m.elim⟩
abbrev MM:=W→List W→Gh→WK→Prop
def SimM (K:PySem.W.Frag)(r:V→List V→Hp→VK→Prop)(mr:MM):Prop:=∀ {H:Hp} {μ : Mu} {h:Gh} {x:V} {vs:List V} {wx:W} {ws:List W} {Qw:WK} {Q:VK},Rel K μ H h→Rep K H μ wx x→aX K H μ ws vs→mr wx ws h Qw→(∀ v H',DQ K H μ Qw v H'→Q v H')→r x vs H Q
def isLst (h:Gh)(w:W)(P:Prop):Prop:=match w with
 | .loc n=>(match h.c n with
  | some (.lst _)=>P
  | _=>False)
 | _=>False
theorem sU {H:Hp}{μ : Mu}{h:Gh}{w:W}{v:V}{P:Prop}(R:Rel K μ H h)(r:Rep K H μ w v)(e:isLst h w P):tyV K "list" v H∧P:=by
 unfold isLst at e
 split at e
 ·split at e
  ·rename_i n _ ws ec
   rw [Rep] at r
   obtain ⟨p,ev,hm⟩:=r
   obtain ⟨p',xs,hm',hx,rs⟩:=R.lstAt ec
   have ep:p'=p:=by rw [hm] at hm';exact (Option.some.inj hm').symm
   subst ep ev
   exact ⟨.inl ⟨rfl,xs,.of hx⟩,e⟩
  ·exact e.elim
 ·exact e.elim
def mBMr (r:MM)(mo:ME)(ma:MA):ME:=fun σ h Q=>mo σ h fun x h1=>isLst h1 x (ma σ h1 fun xs h2=>r x xs h2 Q)
def mBMr0 (r:MM)(mo:ME):ME:=fun σ h Q=>mo σ h fun x h1=>isLst h1 x (r x [] h1 Q)
variable {o e:Expr}{es:List Expr}{mo:ME}{ma:MA}{name:Str}{apos cpos:Pos}{id:String}{r:V→List V→Hp→VK→Prop}{mr:MM}
theorem d_bm (slot:Slot "list" name id)(hty:typeOf (.builtin id)=pure (.type "method_descriptor"))(hm:MtR X id r)(hs:SimM X.K r mr)(ho:DE X o mo)(ha:DAs X (e::es) ma)
  (hbase:attributeBase o name X.env (eval o X.env)=eval o X.env:=by rfl)
  (hfew:((backTo cpos (starEach (e::es) X.env)).all (fun x=>!x.1)&&(backToKw cpos (keywordEach [] X.env)).all (fun x=>x.1.isSome)
   && decide ((e::es).length+([]:List Keyword).length+(if ([]:List Keyword).isEmpty then 0 else 1)<30))=true:=by rfl)
  (hline:(apos.endLine==cpos.line)=true:=by rfl) (hst:starEach (e::es) X.env=(false,eval e X.env)::starEach es X.env:=by rfl) (hplain:(backTo cpos (starEach es X.env)).any (·.1)=false:=by rfl) :
  DE X (.Call (.Attribute o name apos) (e::es) [] cpos) (mBMr mr mo ma):=(pe_bm PySem.F.plainAttrs_list slot hty hm ho ha hbase hfew hline hst hplain).of fun σ H Q ⟨μ,h,σw,Qw,R,S,m,k⟩=>by
 refine ⟨μ,h,σw,_,R,S,m,fun v H1 ⟨μ1,w,h1,e1,R1,r1,il⟩=>⟨(sU R1 r1 il).1,?_⟩⟩
 have m1:=(sU R1 r1 il).2
 exact ⟨μ1,h1,σw,_,R1,S.ext e1,m1,fun vs H2 ⟨μ2,ws,h2,e2,R2,r2,m2⟩=>hs R2 (e2.r _ _ r1) r2 m2 fun v H' z=>k _ _ ((z.trans e2).trans e1)⟩
theorem d_bm0 (slot:Slot "list" name id)(hty:typeOf (.builtin id)=pure (.type "method_descriptor"))(hm:MtR X id r)(hs:SimM X.K r mr)(ho:DE X o mo)
  (hbase:attributeBase o name X.env (eval o X.env)=eval o X.env:=by rfl) (hline:(apos.endLine==cpos.line)=true:=by rfl) :
  DE X (.Call (.Attribute o name apos) [] [] cpos) (mBMr0 mr mo):=(pe_bm0 PySem.F.plainAttrs_list slot hty hm ho hbase hline).of fun σ H Q ⟨μ,h,σw,Qw,R,S,m,k⟩=>by
 refine ⟨μ,h,σw,_,R,S,m,fun v H1 ⟨μ1,w,h1,e1,R1,r1,il⟩=>⟨(sU R1 r1 il).1,?_⟩⟩
 have m1:=(sU R1 r1 il).2
 exact hs R1 r1 .nil m1 fun v H' z=>k _ _ (z.trans e1)
def nj:MM:=fun x ws h Q=>match x,ws with
 | .loc n,[w]=>(match h.c n with
  | some (.lst us)=>us.length<sizeLine∧Q .non (h.set n (.lst (us++[w])))
  | _=>False)
 | _,_=>False
theorem locAt {H:Hp}{μ : Mu}{h:Gh}{n:Nat}{v:V}{us:List W}(R:Rel K μ H h)(r:Rep K H μ (.loc n) v)(ec:h.c n=some (.lst us)):∃ p xs,v=.ref p∧μ.f n=some p∧H p=some (.lst xs)∧aX K H μ us xs:=by
 rw [Rep] at r
 obtain ⟨p,ev,hm⟩:=r
 obtain ⟨p',xs,hm',hx,rs⟩:=R.lstAt ec
 have ep:p'=p:=by rw [hm] at hm';exact (Option.some.inj hm').symm
 subst ep
 exact ⟨p',xs,ev,hm,hx,rs⟩
theorem DQ.wrote {H:Hp}{μ : Mu}{h:Gh}{n:Nat}{p:Addr}{us:List W}{xs:List V}{Q:WK}{w:W}{v:V}(R:Rel K μ H h)(hm:μ.f n=some p)(rs:aX K H μ us xs)(rw':Rep K H μ w v)(q:Q w (h.set n (.lst us))):DQ K H μ Q v (upd H p (.lst xs)):=
 ⟨μ,w,h.set n (.lst us),(Ex.write R hm).ext,R.write hm trivial ⟨xs,cL,(Ex.write R hm).ext.s rs⟩,(Ex.write R hm).ext.r _ _ rw',q⟩
theorem s_append:SimM K rAppend nj:=by
 intro H μ h x vs wx ws Qw Q R rx rs m k
 unfold nj at m
 split at m
 ·split at m
  ·rename_i n w _ us ec
   obtain ⟨p,xs,ex,hm,hx,r1⟩:=locAt R rx ec
   obtain ⟨v,ev,rv⟩:=nR rs
   exact ⟨p,xs,v,ex,ev,hx,by rw [←r1.len];exact m.1,k _ _ (.wrote R hm (r1.append (.one rv)) (by rw [Rep]) m.2)⟩
  ·exact m.elim
 ·exact m.elim
def kPop:MM:=fun x ws h Q=>match x,ws with
 | .loc n,[]=>(match h.c n with
  | some (.lst us)=>(match us[us.length - 1]? with
   | some w=>Q w (h.set n (.lst us.dropLast))
   | none=>False)
  | _=>False)
 | _,_=>False
theorem aX.dropLast {H:Hp}{μ : Mu}{ws:List W}{xs:List V}(r:aX K H μ ws xs):aX K H μ ws.dropLast xs.dropLast:=by
 rw [List.dropLast_eq_take,List.dropLast_eq_take,←r.len]
 exact r.take _
theorem s_pop:SimM K rPop kPop:=by
 intro H μ h x vs wx ws Qw Q R rx rs m k
 unfold kPop at m
 split at m
 ·split at m
  ·split at m
   ·rename_i n _ us ec _ w ew
    obtain ⟨p,xs,ex,hm,hx,r1⟩:=locAt R rx ec
    rw [aX] at rs
    obtain ⟨v,ev,rv⟩:=r1.get ew
    exact ⟨p,xs,v,ex,rs,hx,by rw [←r1.len];exact ev,k _ _ (.wrote R hm r1.dropLast rv m)⟩
   ·exact m.elim
  ·exact m.elim
 ·exact m.elim
theorem d_append (ho:DE X o mo)(ha:DAs X [e] ma)
  (hbase:attributeBase o "append" X.env (eval o X.env)=eval o X.env:=by rfl)
  (hfew:((backTo cpos (starEach [e] X.env)).all (fun x=>!x.1)&&(backToKw cpos (keywordEach [] X.env)).all (fun x=>x.1.isSome)
   && decide (([e]:List Expr).length+([]:List Keyword).length+(if ([]:List Keyword).isEmpty then 0 else 1)<30))=true:=by rfl)
  (hline:(apos.endLine==cpos.line)=true:=by rfl) (hst:starEach [e] X.env=(false,eval e X.env)::starEach [] X.env:=by rfl) (hplain:(backTo cpos (starEach [] X.env)).any (·.1)=false:=by rfl) :
  DE X (.Call (.Attribute o "append" apos) [e] [] cpos) (mBMr nj mo ma):=d_bm PySem.F.slot_list_append PySem.F.type_list_append zU s_append ho ha hbase hfew hline hst hplain
theorem d_pop (ho:DE X o mo)(hbase:attributeBase o "pop" X.env (eval o X.env)=eval o X.env:=by rfl)(hline:(apos.endLine==cpos.line)=true:=by rfl) :
  DE X (.Call (.Attribute o "pop" apos) [] [] cpos) (mBMr0 kPop mo):=d_bm0 PySem.F.slot_list_pop PySem.F.type_list_pop mt_pop s_pop ho hbase hline
end
end L2
namespace L2
open PySem PySem.Spec PyProof.Rows
section
variable {X:Cx}{K:PySem.W.Frag}
theorem op_isB:OpR X (compareOp .Is) (fun x y H Q=>∃ c b,x=.bl c∧y=.bl b∧Q (.bl (c==b)) H):=by
 intro pins s σ H x y v u Q I rx ry ⟨c,b,ex,ey,q⟩
 subst ex ey
 cases rx
 cases ry
 exact is_bool (wg I q rfl)
theorem op_isntB:OpR X (compareOp .IsNot) (fun x y H Q=>∃ c b,x=.bl c∧y=.bl b∧Q (.bl (!(c==b))) H):=by
 intro pins s σ H x y v u Q I rx ry ⟨c,b,ex,ey,q⟩
 subst ex ey
 cases rx
 cases ry
 exact wpAny_pure (wg I q (by cases c <;> cases b <;> rfl))
def isNon:W→Bool
 | .non=>true
 | _=>false
theorem isNon_v {H:Hp}{μ : Mu}{w:W}{v:V}(r:Rep K H μ w v):decide (v=.non)=isNon w:=by
 cases w with
 | non=>rw [Rep] at r;subst r;rfl
 | bl _=>rw [Rep] at r;subst r;rfl
 | int _=>rw [Rep] at r;subst r;rfl
 | str _=>rw [Rep] at r;subst r;rfl
 | ty _=>rw [Rep] at r;subst r;rfl
 | tup _=>rw [Rep] at r;obtain ⟨_,_,e,_⟩:=r;subst e;rfl
 | lst _=>rw [Rep] at r;obtain ⟨_,_,e,_⟩:=r;subst e;rfl
 | kls _=>rw [Rep] at r;obtain ⟨_,_,e,_⟩:=r;subst e;rfl
 | loc _=>rw [Rep] at r;obtain ⟨_,e,_⟩:=r;subst e;rfl
 | exc _=>rw [Rep] at r;obtain ⟨_,_,_,e,_⟩:=r;subst e;rfl
 | exa _ _=>rw [Rep] at r;obtain ⟨_,_,_,_,_,_,e,_⟩:=r;subst e;rfl
 | fnv _ _=>rw [Rep] at r;subst r;rfl
def kIs:M2:=fun x y h Q=>match x,y with
 | .bl c,.bl b=>Q (.bl (c==b)) h
 | w,.non=>Q (.bl (isNon w)) h
 | _,_=>False
def kIsnt:M2:=fun x y h Q=>match x,y with
 | .bl c,.bl b=>Q (.bl (!(c==b))) h
 | w,.non=>Q (.bl (!isNon w)) h
 | _,_=>False
theorem o_is:DOp X (compareOp .Is) kIs:=⟨_,op_isB.or op_isN,by
 intro H μ h x y wx wy Qw Q R rx ry m k
 unfold kIs at m
 split at m
 ·rw [Rep] at rx ry
  exact .inl ⟨_,_,rx,ry,k _ _ (.bl R m)⟩
 ·rw [←isNon_v rx] at m
  rw [Rep] at ry
  exact .inr ⟨ry,k _ _ (.bl R m)⟩
 ·exact m.elim⟩
theorem o_isnt:DOp X (compareOp .IsNot) kIsnt:=⟨_,op_isntB.or op_notN,by
 intro H μ h x y wx wy Qw Q R rx ry m k
 unfold kIsnt at m
 split at m
 ·rw [Rep] at rx ry
  exact .inl ⟨_,_,rx,ry,k _ _ (.bl R m)⟩
 ·rw [←isNon_v rx] at m
  rw [Rep] at ry
  exact .inr ⟨ry,k _ _ (.bl R m)⟩
 ·exact m.elim⟩
def kAny:MC:=fun ws h Q=>match ws with
 | [w]=>(match fu h w with
  | some us=>(match blsW us with
   | some bs=>Q (.bl (bs.any id)) h
   | none=>False)
  | none=>False)
 | _=>False
def vd:W→Bool
 | .non=>true
 | .bl _=>true
 | .int _=>true
 | .str _=>true
 | _=>false
theorem flat_v {H:Hp}{μ : Mu}{w:W}{v:V}(r:Rep K H μ w v)(f:vd w=true):uY v=true:=by
 cases w <;> first | (rw [Rep] at r;subst r;rfl) | cases f
theorem flat_vs {H:Hp}{μ : Mu}:∀ {ws:List W} {vs:List V},aX K H μ ws vs→ws.all vd=true→vs.all uY=true
 | [],_,r,_=>by rw [aX] at r;subst r;rfl
 | w::ws,_,r,f=>by
  rw [aX] at r
  obtain ⟨v,vs,e,r1,r2⟩:=r
  subst e
  rw [List.all_cons,Bool.and_eq_true] at f ⊢
  exact ⟨flat_v r1 f.1,flat_vs r2 f.2⟩
theorem eq_v {H:Hp}{μ : Mu}{w u:W}{v x:V}(r:Rep K H μ w v)(q:Rep K H μ u x)(f:vd w=true)(g:vd u=true):eqV v x=eqW w u:=by
 cases w <;> cases u <;> first
  | (rw [Rep] at r;rw [Rep] at q;subst r;subst q;rfl)
  | (cases f;done)
  | (cases g;done)
theorem in_vs {H:Hp}{μ : Mu}{u:W}{x:V}(q:Rep K H μ u x)(g:vd u=true):∀ {ws:List W} {vs:List V},aX K H μ ws vs→ws.all vd=true→inV x vs=ws.any fun w=>eqW w u
 | [],_,r,_=>by rw [aX] at r;subst r;rfl
 | w::ws,_,r,f=>by
  rw [aX] at r
  obtain ⟨v,vs,e,r1,r2⟩:=r
  subst e
  rw [List.all_cons,Bool.and_eq_true] at f
  have:=in_vs q g r2 f.2
  unfold inV at this ⊢
  rw [List.any_cons,List.any_cons,this,eq_v r1 q f.1 g]
def kNin:M2:=fun x y h Q=>match view h y with
 | some ws=>by2 (vd x&&ws.all vd) (Q (.bl (!(ws.any fun w=>eqW w x))) h) False
 | none=>False
theorem o_nin:DOp X (compareOp .NotIn) kNin:=⟨_,zX,by
 intro H μ h x y wx wy Qw Q R rx ry m k
 unfold kNin at m
 split at m
 ·rename_i ws ev
  obtain ⟨p,xs,ey,hs,rs⟩:=wM R ry ev
  cases hp:(vd wx&&ws.all vd) with
  | true=>
   rw [hp] at m
   rw [Bool.and_eq_true] at hp
   exact ⟨p,xs,ey,hs,flat_v rx hp.1,flat_vs rs hp.2,k _ _ (by rw [if_pos rfl,in_vs rx hp.1 rs hp.2];exact .bl R m)⟩
  | false=>rw [hp] at m;exact (show False from m).elim
 ·exact m.elim⟩
theorem op_catT0:OpR X (binaryOp .Add) (fun x y H Q=>∃ a b ys,x=.ref a∧y=.ref b∧SqT X.K H a []∧SqT X.K H b ys∧Q (.ref b) H):=by
 intro pins s σ H x y v u Q I rx ry ⟨a,b,ys,ex,ey,ha,hb,q⟩
 subst ex ey
 cases rx
 cases ry
 obtain ⟨its,r1,p1,_⟩:=I.tuple ha
 obtain ⟨jts,r2,p2,_⟩:=I.tuple hb
 cases r1
 obtain ⟨⟨cls,dd,data,sl⟩,ho,hc,n,hd⟩:=id p1
 obtain ⟨⟨cls2,dd2,data2,sl2⟩,ho2,hc2,n2,hd2⟩:=id p2
 simp only at hc hd hc2 hd2
 subst hc hd hc2 hd2
 exact concat_meets ⟨_,ho,rfl⟩ ⟨_,ho2,rfl⟩ noFill_tuple_add seq_tuple_add PySem.F.slot_tuple_add PySem.F.entry_tuple_add (PySem.F.args_tuple_add_2 _ _)
  (tuple_addW0 a b _ _ n n2 dd dd2 sl sl2 (by simp)) ⟨ho,ho2,⟨.ref b,H,I,rfl,q⟩⟩
def trkL (h:Gh):W→Option (List W)
 | .lst ws=>some ws
 | .loc n=>(match h.c n with
  | some (.lst ws)=>some ws
  | _=>none)
 | _=>none
theorem trkL_ok {H:Hp}{μ : Mu}{h:Gh}{w:W}{v:V}{ws:List W}(R:Rel K μ H h)(r:Rep K H μ w v)(e:trkL h w=some ws):∃ p xs,v=.ref p∧H p=some (.lst xs)∧aX K H μ ws xs:=by
 cases w with
 | lst us=>
  rw [Rep] at r
  obtain ⟨p,xs,ev,hs,rs⟩:=r
  cases (show some us=some ws from e)
  exact ⟨p,xs,ev,hs.1,rs⟩
 | loc n=>
  unfold trkL at e
  dsimp only at e
  cases ec:h.c n with
  | none=>rw [ec] at e;cases e
  | some cl=>
   rw [ec] at e
   cases cl with
   | lst us=>
    cases (show some us=some ws from e)
    obtain ⟨p,xs,ev,_,hx,rs⟩:=locAt R r ec
    exact ⟨p,xs,ev,hx,rs⟩
   | _=>cases e
 | _=>cases e
def cu:M2:=fun x y h Q=>match x,y with
 | .int i,.int j=>Q (.int (i+j)) h
 | .tup [],.tup b=>Q (.tup b) h
 | .tup (a0::a),.tup b=>j8 (a.length+1+b.length) (Q (.tup (a0::a++b)) h)
 | x,y=>(match trkL h x,trkL h y with
  | some a,some b=>j8 (a.length+b.length) (Q (.lst (a++b)) h)
  | _,_=>False)
theorem bW:DOp X (binaryOp .Add) cu:=⟨_,(op_add.or (op_catT0.or op_catT)).or op_cat,by
 intro H μ h x y wx wy Qw Q R rx ry m k
 unfold cu at m
 split at m
 ·rw [Rep] at rx ry
  exact .inl (.inl ⟨_,_,rx,ry,k _ _ (.int R m)⟩)
 ·rename_i b
  have ry':=ry
  rw [Rep] at rx ry
  obtain ⟨p,xs,ex,hx,r1⟩:=rx
  obtain ⟨q,ys,ey,hy,r2⟩:=ry
  rw [aX] at r1
  subst r1
  rw [ey] at ry'
  exact .inl (.inr (.inl ⟨p,q,ys,ex,ey,hx,hy,k _ _ ⟨μ,_,h,.refl,R,ry',m⟩⟩))
 ·rename_i a0 a b
  have rx':=rx
  rw [Rep] at rx ry
  obtain ⟨p,xs,ex,hx,r1⟩:=rx
  obtain ⟨q,ys,ey,hy,r2⟩:=ry
  have sz:=m.ok.1
  refine .inl (.inr (.inr ⟨p,q,xs,ys,ex,ey,hx,hy,fun z=>(by have:=r1.ne_nil.mp z;cases this),by rw [←r1.len,←r2.len];exact sz,fun z=>?_,fun z l hl=>?_⟩))
  ·have eb:b=[]:=r2.ne_nil.mp z
   subst eb
   refine k _ _ ⟨μ,.tup (a0::a++[]),h,.refl,R,?_,m.ok.2⟩
   rw [List.append_nil,←ex]
   exact rx'
  ·exact k _ _ ⟨μ,_,h,(Ex.laid hl).ext,R.laid hl,.tupNew hl (r1.append r2),m.ok.2⟩
 ·split at m
  ·rename_i a b ea eb
   obtain ⟨p,xs,ex,hx,r1⟩:=trkL_ok R rx ea
   obtain ⟨q,ys,ey,hy,r2⟩:=trkL_ok R ry eb
   have sz:=m.ok.1
   exact .inr ⟨p,q,xs,ys,ex,ey,hx,hy,by rw [←r1.len,←r2.len];exact sz,fun l hl=>k _ _ ⟨μ,_,h,(Ex.laid hl).ext,R.laid hl,.lstNew R hl (r1.append r2),m.ok.2⟩⟩
  ·exact m.elim⟩
def gM:MM:=fun x ws h Q=>match x,ws with
 | .loc n,[w]=>(match h.c n,trkL h w with
  | some (.lst us),some zs=>j8 (us.length+zs.length) (Q .non (h.set n (.lst (us++zs))))
  | _,_=>False)
 | _,_=>False
theorem s_extend:SimM K rExtend gM:=by
 intro H μ h x vs wx ws Qw Q R rx rs m k
 unfold gM at m
 split at m
 ·split at m
  ·rename_i n w _ _ us zs ec ez
   obtain ⟨p,xs,ex,hm,hx,r1⟩:=locAt R rx ec
   obtain ⟨v,ev,rv⟩:=nR rs
   obtain ⟨q,ys,ey,hy,r2⟩:=trkL_ok R rv ez
   subst ey
   have sz:=m.ok.1
   exact ⟨p,q,xs,ys,ex,ev,hx,hy,by rw [←r1.len,←r2.len];exact sz,k _ _ (.wrote R hm (r1.append r2) (by rw [Rep]) m.ok.2)⟩
  ·exact m.elim
 ·exact m.elim
variable {o e:Expr}{mo:ME}{ma:MA}{apos cpos:Pos}
theorem yg (ho:DE X o mo)(ha:DAs X [e] ma)
  (hbase:attributeBase o "extend" X.env (eval o X.env)=eval o X.env:=by rfl)
  (hfew:((backTo cpos (starEach [e] X.env)).all (fun x=>!x.1)&&(backToKw cpos (keywordEach [] X.env)).all (fun x=>x.1.isSome)
   && decide (([e]:List Expr).length+([]:List Keyword).length+(if ([]:List Keyword).isEmpty then 0 else 1)<30))=true:=by rfl)
  (hline:(apos.endLine==cpos.line)=true:=by rfl) (hst:starEach [e] X.env=(false,eval e X.env)::starEach [] X.env:=by rfl) (hplain:(backTo cpos (starEach [] X.env)).any (·.1)=false:=by rfl) :
  DE X (.Call (.Attribute o "extend" apos) [e] [] cpos) (mBMr gM mo ma):=d_bm PySem.F.slot_list_extend PySem.F.type_list_extend mt_extend s_extend ho ha hbase hfew hline hst hplain
end
end L2
namespace L2
open PySem PySem.Spec PyProof.Rows
def spLaw (K:PySem.W.Frag):Sp:=fun vs H Q _=>∃ (a:Addr) (ns:List Int),vs=[.ref a]∧SqL K H a (ns.map V.int)∧Only H∧ns.length≤63∧∀ H',Q (.bl true) H'
def g0:Gh:=⟨0,fun _=>none⟩
def μ0:Mu:=⟨fun _=>none,fun _=>False⟩
theorem rel0 {K:PySem.W.Frag}{H:Hp}:Rel K μ0 H g0 where
 inj:=fun m n p h=>by cases (show (none:Option Addr)=some p from h)
 dom:=fun n p h=>by cases (show (none:Option Addr)=some p from h)
 trk:=fun n p h=>by cases (show (none:Option Addr)=some p from h)
 cel:=fun n c h=>by cases (show (none:Option Cell)=some c from h)
 hd:=fun p h=>False.elim h
theorem Aa {K:PySem.W.Frag}{H:Hp}{μ : Mu}:∀ ns:List Int,aX K H μ (ns.map W.int) (ns.map V.int)
 | []=>.nil
 | n::ns=>.cons (by rw [Rep]) (Aa ns)
theorem law_imp {P:Program}{w:World}{K:PySem.W.Frag}{mg:Str→Option Value}{base:Heap}{k:Nat}{f:Addr}{fd:FuncData}{ps:List Str}{ms:MSp}
  (hm:∀ ns:List Int,ns.length≤63→ms [.kls (ns.map W.int)] g0 (fun w _=>w=.bl true) EF) (F:cH P w K mg base CX0 k f fd ps (lift K ms)):cH P w K mg base CX0 k f fd ps (spLaw K):=
 F.imp fun vs H Q E ⟨a,ns,e,hS,hO,hl,q⟩=>by
  subst e
  refine ⟨μ0,g0,[.kls (ns.map W.int)],_,rel0,.one ?_,hm ns hl,fun v H' ⟨μ',w',h',_,_,r,e⟩=>?_⟩
  ·rw [Rep]
   refine ⟨a,ns.map V.int,rfl,?_,Aa ns⟩
   rcases hS with (hS | hS) | hS
   ·rcases hO a with z | ⟨o,xs,z⟩ <;> rw [hS] at z <;> cases z
   ·exact .inl hS
   ·exact .inr hS
  ·subst e
   rw [Rep] at r
   subst r
   exact q H'
end L2
namespace L2
open PySem PySem.Spec PyProof.Rows
inductive Sk where
 | l | t
def Sk.sq (k:Sk)(h:Heap)(a:Addr)(its:Array Value):Prop:=match k with
 | .l=>h.IsList a its
 | .t=>h.IsTuple a its
def Sk.it (k:Sk)(h:Heap)(i a:Addr)(n:Nat):Prop:=match k with
 | .l=>h.IsListIter i a n
 | .t=>h.IsTupleIter i a n
def Sk.nm:Sk→String
 | .l => "list_iterator"
 | .t => "tuple_iterator"
section
variable {P:Program}{w:World}{A:Around}{E:Value→Shared→Prop}{s:Shared}{k k1 k2:Sk}
theorem Sk.it_at {h h':Heap}{i a:Addr}{n:Nat}(x:k.it h i a n)(e:∀ o,h.get? i=some o→h'.get? i=some o):k.it h' i a n:=by
 cases k with
 | l=>obtain ⟨o,ho,r⟩:=x;exact ⟨o,e o ho,r⟩
 | t=>obtain ⟨o,ho,r⟩:=x;exact ⟨o,e o ho,r⟩
theorem Sk.sq_at {h h':Heap}{a:Addr}{its:Array Value}(x:k.sq h a its)(e:∀ o,h.get? a=some o→h'.get? a=some o):k.sq h' a its:=by
 cases k with
 | l=>obtain ⟨o,ho,r⟩:=x;exact ⟨o,e o ho,r⟩
 | t=>obtain ⟨o,ho,r⟩:=x;exact ⟨o,e o ho,r⟩
theorem Sk.it_obj {h:Heap}{i a:Addr}{n:Nat}(x:k.it h i a n):∃ o,h.get? i=some o∧o.cls=.type k.nm∧o.data=.fields #[.ref a,.int n 0]:=by
 cases k with
 | l=>exact x
 | t=>exact x
theorem next_tup {it t:Addr}{i:Nat}{its:Array Value}{x:Value}{Q:Value→Shared→Prop}(hi:s.heap.IsTupleIter it t i)(ht:s.heap.IsTuple t its)(hx:its[i]?=some x)
  (q:∀ h',h'.IsTupleIter it t (i+1)→Heap.SameBut it s.heap h'→Q x { s with heap:=h' }):wpAny (model P w) A (Builtin.SmallTypes.nextOf (.ref it)) Q E s:=by
 obtain ⟨o,go,gc,gd⟩:=id hi
 obtain ⟨ol,gol,_,nl,gdl⟩:=ht
 unfold Builtin.SmallTypes.nextOf
 refine wpAny_bind (wpAny_callSpecial?_slot (name:=Str.ofString "__next__") hi.typeIs PySem.F.slot_tuple_iterator_next
  (wpAny_call_entry PySem.F.slot_tuple_iterator_next hi.typeIs PySem.F.entry_tuple_iterator_next ?_ (PySem.F.args_tuple_iterator_next_1 _)))
 show wpAny _ _ (field (.ref it) 0 >>= _) _ _ s
 refine wpAny_bind (wpAny_field go gd (x:=.ref t) rfl ?_)
 show wpAny _ _ (if (Value.ref t==Value.none)=true then _ else _) _ _ s
 rw [if_neg (by exact Bool.false_ne_true)]
 show wpAny _ _ (field (.ref it) 1 >>= _) _ _ s
 refine wpAny_bind (wpAny_field go gd (x:=.int i 0) rfl ?_)
 show wpAny _ _ (seqItems? (.ref t) >>= _) _ _ s
 refine wpAny_bind (wpAny_seqItems gol gdl ?_)
 simp only [Int.toNat_natCast,hx]
 refine wpAny_bind (wpAny_setField go gd (by simp) (wpAny_pure ⟨x,rfl,wpAny_pure (q _ ?_ (Heap.SameBut.update ..))⟩))
 exact ⟨_,Heap.get?_update_self _ go (Obj.isFreed_of_fields (Obj.data_mapFields gd _)),(Obj.cls_mapFields ..).trans gc,by rw [Obj.data_mapFields gd];simp [rawInt]⟩
theorem Am {it t:Addr}{i:Nat}{its:Array Value}{Q:Value→Shared→Prop}(hh:A.handled=none)(hi:s.heap.IsTupleIter it t i)(ht:s.heap.IsTuple t its)(hx:its[i]?=none)
  (q:∀ h' e,Heap.ExtBut it s.heap h'→(∃ o,h'.get? e=some o∧o.cls=.type "StopIteration")→E (.ref e) { s with heap:=h' }):wpAny (model P w) A (Builtin.SmallTypes.nextOf (.ref it)) Q E s:=by
 obtain ⟨o,go,gc,gd⟩:=id hi
 obtain ⟨ol,gol,_,nl,gdl⟩:=ht
 unfold Builtin.SmallTypes.nextOf
 refine wpAny_bind (wpAny_callSpecial?_slot (name:=Str.ofString "__next__") hi.typeIs PySem.F.slot_tuple_iterator_next
  (wpAny_call_entry PySem.F.slot_tuple_iterator_next hi.typeIs PySem.F.entry_tuple_iterator_next ?_ (PySem.F.args_tuple_iterator_next_1 _)))
 show wpAny _ _ (field (.ref it) 0 >>= _) _ _ s
 refine wpAny_bind (wpAny_field go gd (x:=.ref t) rfl ?_)
 show wpAny _ _ (if (Value.ref t==Value.none)=true then _ else _) _ _ s
 rw [if_neg (by exact Bool.false_ne_true)]
 show wpAny _ _ (field (.ref it) 1 >>= _) _ _ s
 refine wpAny_bind (wpAny_field go gd (x:=.int i 0) rfl ?_)
 show wpAny _ _ (seqItems? (.ref t) >>= _) _ _ s
 refine wpAny_bind (wpAny_seqItems gol gdl ?_)
 simp only [Int.toNat_natCast,hx]
 refine wpAny_bind (wpAny_rule (wpAny_bind (wpAny_setField go gd (by simp) ?_)))
 show wpAny _ _ (newExc (.type "StopIteration") [] >>= _) _ _ _
 refine wpAny_bind ?_
 simp only [newExc,newTuple]
 refine wpAny_bind (wpAny_newObj_type ?_ (by size_fits))
 refine wpAny_bind (m:=firstArgMember _ _) (wpAny_of_eq (a:=Value.none) (by first | rfl | (simp only [firstArgMember];rfl)) ?_)
 refine wpAny_newObj_type ?_ (by size_fits)
 simp only [raiseNew]
 refine wpAny_bind (wpAny_handled ?_)
 first | rw [show A.in1.handled=none from hh] | rw [hh]
 refine wpAny_bind (wpAny_pure (wpAny_throw ?_))
 exact q _ _ (((Heap.SameBut.update ..).extBut.push _).push _) ⟨_,Heap.get?_push_size _ rfl,rfl⟩
theorem Sk.next {it a:Addr}{i:Nat}{its:Array Value}{x:Value}{Q:Value→Shared→Prop}(hi:k.it s.heap it a i)(hs:k.sq s.heap a its)(hx:its[i]?=some x)
  (q:∀ h',k.it h' it a (i+1)→Heap.SameBut it s.heap h'→Q x { s with heap:=h' }):wpAny (model P w) A (Builtin.SmallTypes.nextOf (.ref it)) Q E s:=by
 cases k with
 | l=>exact wpAny_nextOf_list_item hi hs hx q
 | t=>exact next_tup hi hs hx q
theorem Sk.stop {it a:Addr}{i:Nat}{its:Array Value}{Q:Value→Shared→Prop}(hh:A.handled=none)(hi:k.it s.heap it a i)(hs:k.sq s.heap a its)(hx:its[i]?=none)
  (q:∀ h' e,Heap.ExtBut it s.heap h'→(∃ o,h'.get? e=some o∧o.cls=.type "StopIteration")→E (.ref e) { s with heap:=h' }):wpAny (model P w) A (Builtin.SmallTypes.nextOf (.ref it)) Q E s:=by
 cases k with
 | l=>exact wpAny_nextOf_list_end hh hi hs hx q
 | t=>exact Am hh hi hs hx q
theorem Sk.iter {a:Addr}{its:Array Value}{Q:Value→Shared→Prop}(hs:k.sq s.heap a its)
  (q:Q (.ref s.heap.objs.size) { s with heap:=s.heap.push { cls:=.type k.nm,data:=.fields #[.ref a,.int 0 0] } }):wpAny (model P w) A (pyIter (.ref a)) Q E s:=by
 cases k with
 | l=>exact wpAny_pyIter_list hs q
 | t=>exact wpAny_pyIter_tuple hs q
structure Zap (z TI TO i1 i2:Addr):Prop where
 a1:TI≠z
 a2:TO≠z
 a3:i1≠z
 a4:i2≠z
 a5:TI≠TO
 a6:TI≠i1
 a7:TI≠i2
 a8:TO≠i1
 a9:TO≠i2
 b1:i1≠i2
structure Off (a z TO i1 i2:Addr):Prop where
 z:a≠z
 o:a≠TO
 i:a≠i1
 j:a≠i2
theorem zip_item {z TI TO i1 i2 l1 l2:Addr}{n1 n2:Nat}{xs ys:Array Value}{x y a b:Value}{Q:Option Value→Shared→Prop}(D:Zap z TI TO i1 i2)(o1:Off l1 z TO i1 i2)(o2:Off l2 z TO i1 i2)
  (gz:IsZip s.heap z TI TO .none) (gI:IsPair s.heap TI (.ref i1) (.ref i2)) (gO:IsPair s.heap TO a b) (g1:k1.it s.heap i1 l1 n1) (g2:k2.it s.heap i2 l2 n2) (gx:k1.sq s.heap l1 xs) (gy:k2.sq s.heap l2 ys)
  (hx:xs[n1]?=some x) (hy:ys[n2]?=some y)
  (q:∀ h',IsZip h' z TI TO (rawInt s.heap.objs.size)→IsPair h' TO x y→k1.it h' i1 l1 (n1+1)→k2.it h' i2 l2 (n2+1)→IsPair h' s.heap.objs.size x y→h'.objs.size=s.heap.objs.size+1 →
   (∀ c o,c≠z→c≠TO→c≠i1→c≠i2→s.heap.get? c=some o→h'.get? c=some o)→Q (some (.ref s.heap.objs.size)) { s with heap:=h' }) :
  wpAny (model P w) A (pyNext (.ref z)) Q E s:=by
 have gT:s.TypeIs (.ref z) "zip":=⟨_,gz,rfl⟩
 unfold pyNext
 refine wpAny_bind (wpAny_attempt (wpAny_callSpecial?_slot (name:=Str.ofString "__next__") gT PySem.F.slot_zip_next (wpAny_call_entry PySem.F.slot_zip_next gT PySem.F.entry_zip_next ?_ (PySem.F.args_zip_next_1 _))))
 show wpAny _ _ (field (.ref z) 2 >>= _) _ _ _
 refine wpAny_bind (wpAny_field gz rfl (x:=.bool false) rfl ?_)
 show wpAny _ _ (field (.ref z) 3 >>= _) _ _ _
 refine wpAny_bind (wpAny_field gz rfl (x:=.ref TI) rfl ?_)
 refine wpAny_bind (wpAny_seqItems gI rfl ?_)
 show wpAny _ _ (Builtin.SmallTypes.ownedTupleIsFree (.ref z) >>= _) _ _ _
 refine wpAny_bind ?_
 unfold Builtin.SmallTypes.ownedTupleIsFree
 refine wpAny_bind (wpAny_field gz rfl (x:=.none) rfl (wpAny_pure ?_))
 simp only [if_true]
 refine wpAny_bind (wpAny_rule ?_)
 refine wpAny_bind (wpAny_field gz rfl (x:=.ref TO) rfl ?_)
 refine wpAny_bind (wpAny_setField_rec gz (by simp) fun h₁ z₁ s₁=>?_)
 replace z₁ : IsZip h₁ z TI TO .ellipsis:=z₁
 refine wpAny_bind ?_
 simp only [List.zipIdx_cons,List.zipIdx_nil,List.forIn_cons,List.forIn_nil]
 -- the first one
 refine wpAny_bind (wpAny_bind (wpAny_onRaise ?_))
 show wpAny _ _ (Builtin.SmallTypes.nextOf (.ref i1) >>= _) _ _ _
 refine wpAny_bind (Sk.next (k:=k1) (s:={ s with heap:=h₁ }) (Sk.it_at g1 fun o e=>s₁.extBut _ o D.a3 e) (Sk.sq_at gx fun o e=>s₁.extBut _ o o1.z e) hx fun h₂ g1₂ s₂=>wpAny_pure ?_)
 have gO₂ : IsPair h₂ TO a b:=s₂.extBut _ _ D.a8 (s₁.extBut _ _ D.a2 gO)
 refine wpAny_bind (wpAny_seqItems gO₂ rfl ?_)
 refine wpAny_bind (wpAny_updateSeq_pair gO₂ fun h₃ gO₃ s₃=>?_)
 replace gO₃ : IsPair h₃ TO x b:=gO₃
 refine wpAny_bind (wpAny_letGo (wpAny_pure ?_))
 -- the second one
 refine wpAny_bind (wpAny_bind (wpAny_onRaise ?_))
 show wpAny _ _ (Builtin.SmallTypes.nextOf (.ref i2) >>= _) _ _ _
 refine wpAny_bind (Sk.next (k:=k2) (s:={ s with heap:=h₃ }) (Sk.it_at g2 fun o e=>s₃.extBut _ o D.a9.symm (s₂.extBut _ o D.b1.symm (s₁.extBut _ o D.a4 e)))
  (Sk.sq_at gy fun o e=>s₃.extBut _ o o2.o (s₂.extBut _ o o2.i (s₁.extBut _ o o2.z e))) hy fun h₄ g2₄ s₄=>wpAny_pure ?_)
 have gO₄ : IsPair h₄ TO x b:=s₄.extBut _ _ D.a9 gO₃
 refine wpAny_bind (wpAny_seqItems gO₄ rfl ?_)
 refine wpAny_bind (wpAny_updateSeq_pair gO₄ fun h₅ gO₅ s₅=>?_)
 replace gO₅ : IsPair h₅ TO x y:=gO₅
 refine wpAny_bind (wpAny_letGo (wpAny_pure (wpAny_pure ?_)))
 -- the pair is handed out
 refine wpAny_bind (wpAny_seqItems gO₅ rfl ?_)
 refine wpAny_bind (wpAny_newTuple ?_)
 have size:h₅.objs.size=s.heap.objs.size:=by rw [s₅.1,s₄.1,s₃.1,s₂.1,s₁.1]
 have z₅ : IsZip h₅ z TI TO .ellipsis:=s₅.extBut _ _ D.a2.symm (s₄.extBut _ _ D.a4.symm (s₃.extBut _ _ D.a2.symm (s₂.extBut _ _ D.a3.symm z₁)))
 have all₅ : ∀ c o,c≠z→c≠TO→c≠i1→c≠i2→s.heap.get? c=some o→h₅.get? c=some o:=fun c o c1 c2 c3 c4 e=>s₅.extBut _ _ c2 (s₄.extBut _ _ c4 (s₃.extBut _ _ c2 (s₂.extBut _ _ c3 (s₁.extBut _ _ c1 e))))
 have g1₅ : k1.it h₅ i1 l1 (n1+1):=Sk.it_at g1₂ fun o e=>s₅.extBut _ o D.a8.symm (s₄.extBut _ o D.b1 (s₃.extBut _ o D.a8.symm e))
 have g2₅ : k2.it h₅ i2 l2 (n2+1):=Sk.it_at g2₄ fun o e=>s₅.extBut _ o D.a9.symm e
 have zlt:z<h₅.objs.size:=Heap.lt_size z₅
 show wpAny _ _ (Builtin.SmallTypes.ownedTupleHandOut (.ref z) (.ref h₅.objs.size) >>= _) _ _ _
 refine wpAny_bind ?_
 unfold Builtin.SmallTypes.ownedTupleHandOut
 have z₆ : IsZip (h₅.push { cls:=.type "tuple",data:=.seq #[x,y] }) z TI TO .ellipsis:=Heap.get?_push_of_some _ z₅
 refine wpAny_bind (wpAny_setField_rec z₆ (by simp) fun h₇ z₇ s₇=>?_)
 replace z₇ : IsZip h₇ z TI TO (rawInt h₅.objs.size):=z₇
 refine wpAny_setField_rec z₇ (by simp) fun h₈ z₈ s₈=>?_
 replace z₈ : IsZip h₈ z TI TO (rawInt h₅.objs.size):=z₈
 have up:∀ c o,c≠z→h₅.get? c=some o→h₈.get? c=some o:=fun c o c1 e=>s₈.extBut _ _ c1 (s₇.extBut _ _ c1 (Heap.get?_push_of_some _ e))
 have T₈ : IsPair h₈ h₅.objs.size x y:=s₈.extBut _ _ (Nat.ne_of_gt zlt) (s₇.extBut _ _ (Nat.ne_of_gt zlt) (Heap.get?_push_size _ rfl))
 have size8:h₈.objs.size=h₅.objs.size+1:=by rw [s₈.1,s₇.1,Heap.size_push]
 rw [size] at z₈ T₈ size8
 refine wpAny_pure ⟨_,rfl,wpAny_pure ?_⟩
 show Q (some (.ref h₅.objs.size)) _
 rw [size]
 exact q h₈ z₈ (up _ _ D.a2 gO₅) (Sk.it_at g1₅ fun o e=>up _ o D.a3 e) (Sk.it_at g2₅ fun o e=>up _ o D.a4 e) T₈ size8 fun c o c1 c2 c3 c4 e=>up c o c1 (all₅ c o c1 c2 c3 c4 e)
theorem zip_stop {z TI TO i1 i2 l1 l2:Addr}{n1 n2:Nat}{xs ys:Array Value}{a b:Value}{Q:Option Value→Shared→Prop}(hh:A.handled=none)(D:Zap z TI TO i1 i2)(o1:Off l1 z TO i1 i2)(o2:Off l2 z TO i1 i2)
  (gz:IsZip s.heap z TI TO .none) (gI:IsPair s.heap TI (.ref i1) (.ref i2)) (gO:IsPair s.heap TO a b) (g1:k1.it s.heap i1 l1 n1) (g2:k2.it s.heap i2 l2 n2) (gx:k1.sq s.heap l1 xs) (gy:k2.sq s.heap l2 ys)
  (hend:xs[n1]?=none∨ys[n2]?=none)
  (q:∀ h',(∀ c o,c≠z→c≠TO→c≠i1→c≠i2→s.heap.get? c=some o→h'.get? c=some o)→Q none { s with heap:=h' }):wpAny (model P w) A (pyNext (.ref z)) Q E s:=by
 have gT:s.TypeIs (.ref z) "zip":=⟨_,gz,rfl⟩
 have fin:∀ (h':Heap) (e:Addr),(∀ c o,c≠z→c≠TO→c≠i1→c≠i2→s.heap.get? c=some o→h'.get? c=some o)→(∃ o,h'.get? e=some o∧o.cls=.type "StopIteration") →
   wpAny (model P w) A (do if ←isInstance (.ref e) (.type "StopIteration") then pure none else throw (.ref e)) Q E { s with heap:=h' }:=fun h' e all ⟨o,ho,hc⟩=>
  wpAny_bind (wpAny_isInstance (T := "StopIteration") (b:=true) ⟨o,ho,hc⟩ isSubtype_stop (wpAny_pure (q _ all)))
 unfold pyNext
 refine wpAny_bind (wpAny_attempt (wpAny_callSpecial?_slot (name:=Str.ofString "__next__") gT PySem.F.slot_zip_next (wpAny_call_entry PySem.F.slot_zip_next gT PySem.F.entry_zip_next ?_ (PySem.F.args_zip_next_1 _))))
 show wpAny _ _ (field (.ref z) 2 >>= _) _ _ _
 refine wpAny_bind (wpAny_field gz rfl (x:=.bool false) rfl ?_)
 show wpAny _ _ (field (.ref z) 3 >>= _) _ _ _
 refine wpAny_bind (wpAny_field gz rfl (x:=.ref TI) rfl ?_)
 refine wpAny_bind (wpAny_seqItems gI rfl ?_)
 show wpAny _ _ (Builtin.SmallTypes.ownedTupleIsFree (.ref z) >>= _) _ _ _
 refine wpAny_bind ?_
 unfold Builtin.SmallTypes.ownedTupleIsFree
 refine wpAny_bind (wpAny_field gz rfl (x:=.none) rfl (wpAny_pure ?_))
 simp only [if_true]
 refine wpAny_bind (wpAny_rule ?_)
 refine wpAny_bind (wpAny_field gz rfl (x:=.ref TO) rfl ?_)
 refine wpAny_bind (wpAny_setField_rec gz (by simp) fun h₁ z₁ s₁=>?_)
 replace z₁ : IsZip h₁ z TI TO .ellipsis:=z₁
 refine wpAny_bind ?_
 simp only [List.zipIdx_cons,List.zipIdx_nil,List.forIn_cons,List.forIn_nil]
 refine wpAny_bind (wpAny_bind (wpAny_onRaise ?_))
 show wpAny _ _ (Builtin.SmallTypes.nextOf (.ref i1) >>= _) _ _ _
 have g1₁ : k1.it h₁ i1 l1 n1:=Sk.it_at g1 fun o e=>s₁.extBut _ o D.a3 e
 have gx₁ : k1.sq h₁ l1 xs:=Sk.sq_at gx fun o e=>s₁.extBut _ o o1.z e
 cases hx:xs[n1]? with
 | none=>
  refine wpAny_bind (Sk.stop (k:=k1) (s:={ s with heap:=h₁ }) hh g1₁ gx₁ hx fun h₂ e s₂ he=>?_)
  obtain ⟨oe,hoe,hce⟩:=he
  have z₂ : IsZip h₂ z TI TO .ellipsis:=s₂ _ _ D.a3.symm z₁
  have ez:e≠z:=fun y=>by subst y;rw [z₂] at hoe;cases hoe;simp at hce
  refine wpAny_setField_rec z₂ (by simp) fun h₃ _ s₃=>fin h₃ e (fun c o c1 _ c3 _ y=>s₃.extBut _ _ c1 (s₂ _ _ c3 (s₁.extBut _ _ c1 y))) ⟨oe,s₃.extBut _ _ ez hoe,hce⟩
 | some x=>
  have hy:ys[n2]?=none:=by
   rcases hend with h | h
   ·rw [hx] at h;cases h
   ·exact h
  refine wpAny_bind (Sk.next (k:=k1) (s:={ s with heap:=h₁ }) g1₁ gx₁ hx fun h₂ g1₂ s₂=>wpAny_pure ?_)
  have gO₂ : IsPair h₂ TO a b:=s₂.extBut _ _ D.a8 (s₁.extBut _ _ D.a2 gO)
  refine wpAny_bind (wpAny_seqItems gO₂ rfl ?_)
  refine wpAny_bind (wpAny_updateSeq_pair gO₂ fun h₃ gO₃ s₃=>?_)
  refine wpAny_bind (wpAny_letGo (wpAny_pure ?_))
  refine wpAny_bind (wpAny_bind (wpAny_onRaise ?_))
  show wpAny _ _ (Builtin.SmallTypes.nextOf (.ref i2) >>= _) _ _ _
  refine wpAny_bind (Sk.stop (k:=k2) (s:={ s with heap:=h₃ }) hh (Sk.it_at g2 fun o e=>s₃.extBut _ o D.a9.symm (s₂.extBut _ o D.b1.symm (s₁.extBut _ o D.a4 e)))
   (Sk.sq_at gy fun o e=>s₃.extBut _ o o2.o (s₂.extBut _ o o2.i (s₁.extBut _ o o2.z e))) hy fun h₄ e s₄ he=>?_)
  obtain ⟨oe,hoe,hce⟩:=he
  have z₄ : IsZip h₄ z TI TO .ellipsis:=s₄ _ _ D.a4.symm (s₃.extBut _ _ D.a2.symm (s₂.extBut _ _ D.a3.symm z₁))
  have ez:e≠z:=fun y=>by subst y;rw [z₄] at hoe;cases hoe;simp at hce
  refine wpAny_setField_rec z₄ (by simp) fun h₅ _ s₅=>fin h₅ e (fun c o c1 c2 c3 c4 y=>s₅.extBut _ _ c1 (s₄ _ _ c4 (s₃.extBut _ _ c2 (s₂.extBut _ _ c3 (s₁.extBut _ _ c1 y))))) ⟨oe,s₅.extBut _ _ ez hoe,hce⟩
abbrev zh1 (k1:Sk)(h:Heap)(l1:Addr):Heap:=h.push { cls:=.type k1.nm,data:=.fields #[.ref l1,.int 0 0] }
abbrev zh2 (k1 k2:Sk)(h:Heap)(l1 l2:Addr):Heap:=(zh1 k1 h l1).push { cls:=.type k2.nm,data:=.fields #[.ref l2,.int 0 0] }
abbrev zh3 (k1 k2:Sk)(h:Heap)(l1 l2:Addr):Heap:=(zh2 k1 k2 h l1 l2).push { cls:=.type "tuple",data:=.seq #[.ref h.objs.size,.ref (zh1 k1 h l1).objs.size] }
abbrev zh4 (k1 k2:Sk)(h:Heap)(l1 l2:Addr):Heap:=(zh3 k1 k2 h l1 l2).push { cls:=.type "tuple",data:=.seq #[.none,.none] }
abbrev zh5 (k1 k2:Sk)(h:Heap)(l1 l2:Addr):Heap:=(zh4 k1 k2 h l1 l2).push { cls:=.type "zip",data:=.fields #[.none,.bool false,.bool false,.ref (zh2 k1 k2 h l1 l2).objs.size,.ref (zh3 k1 k2 h l1 l2).objs.size] }
theorem zip_new (l1 l2:Addr)(xs ys:Array Value):Meets (Builtin.«zip.__new__» ⟨[.type "zip",.ref l1,.ref l2],[]⟩) (fun _ R s=>k1.sq s.heap l1 xs∧k2.sq s.heap l2 ys ∧
   R (.ok (.ret (.ref (zh4 k1 k2 s.heap l1 l2).objs.size))) { s with heap:=zh5 k1 k2 s.heap l1 l2 }):=
 .of_wp fun prog w A R s h=>by
  obtain ⟨hp,g,d,tk,os⟩:=s;obtain ⟨gl1,gl2,h⟩:=h
  have hsub:=sub_zip
  have L1:k1.sq (Shared.heap ⟨hp,g,d,tk,os⟩) l1 xs:=gl1
  have L2':k2.sq (Shared.heap ⟨hp.push { cls:=.type k1.nm,data:=.fields #[.ref l1,.int 0 0] },g,d,tk,os⟩) l2 ys:=Sk.sq_at gl2 fun o e=>Heap.get?_push_of_some _ e
  wp_walk using Sk.iter L1,Sk.iter L2'
  exact ⟨_,rfl,h⟩
theorem call_zip {l1 l2:Addr}{xs ys:Array Value}{Q:Value→Shared→Prop}(gl1:k1.sq s.heap l1 xs)(gl2:k2.sq s.heap l2 ys)
  (q:∀ h',IsZip h' (s.heap.objs.size+4) (s.heap.objs.size+2) (s.heap.objs.size+3) .none→IsPair h' (s.heap.objs.size+2) (.ref s.heap.objs.size) (.ref (s.heap.objs.size+1)) →
   IsPair h' (s.heap.objs.size+3) .none .none→k1.it h' s.heap.objs.size l1 0→k2.it h' (s.heap.objs.size+1) l2 0→h'.objs.size=s.heap.objs.size+5 →
   (∀ c o,s.heap.get? c=some o→h'.get? c=some o)→Q (.ref (s.heap.objs.size+4)) { s with heap:=h' }):wpAny (model P w) A (call (.type "zip") [.ref l1,.ref l2]) Q E s:=by
 refine callType_new PySem.F.called_zip (by decide) (PySem.F.typeCall_zip_2 _ _) (PySem.F.newCall_zip_2 _ _) (fun obj=>PySem.F.args_object_init_3 obj _ _) PySem.F.entry_zip_new (zip_new (k1:=k1) (k2:=k2) l1 l2 xs ys) ⟨gl1,gl2,?_⟩
 have e1:(zh1 k1 s.heap l1).objs.size=s.heap.objs.size+1:=Heap.size_push ..
 have e2:(zh2 k1 k2 s.heap l1 l2).objs.size=s.heap.objs.size+2:=by rw [Heap.size_push,e1]
 have e3:(zh3 k1 k2 s.heap l1 l2).objs.size=s.heap.objs.size+3:=by rw [Heap.size_push,e2]
 have e4:(zh4 k1 k2 s.heap l1 l2).objs.size=s.heap.objs.size+4:=by rw [Heap.size_push,e3]
 have e5:(zh5 k1 k2 s.heap l1 l2).objs.size=s.heap.objs.size+5:=by rw [Heap.size_push,e4]
 have f5:(zh5 k1 k2 s.heap l1 l2).get? (zh4 k1 k2 s.heap l1 l2).objs.size=some _:=Heap.get?_push_size _ rfl
 have f4:(zh5 k1 k2 s.heap l1 l2).get? (zh3 k1 k2 s.heap l1 l2).objs.size=some _:=Heap.get?_push_of_some _ (Heap.get?_push_size _ rfl)
 have f3:(zh5 k1 k2 s.heap l1 l2).get? (zh2 k1 k2 s.heap l1 l2).objs.size=some _:=Heap.get?_push_of_some _ (Heap.get?_push_of_some _ (Heap.get?_push_size _ rfl))
 have f2:(zh5 k1 k2 s.heap l1 l2).get? (zh1 k1 s.heap l1).objs.size=some _:=Heap.get?_push_of_some _ (Heap.get?_push_of_some _ (Heap.get?_push_of_some _ (Heap.get?_push_size _ rfl)))
 have f1:(zh5 k1 k2 s.heap l1 l2).get? s.heap.objs.size=some _:=Heap.get?_push_of_some _ (Heap.get?_push_of_some _ (Heap.get?_push_of_some _ (Heap.get?_push_of_some _ (Heap.get?_push_size _ rfl))))
 show _∧_
 rw [e2,e3,e4] at f5
 rw [e1,e2] at f3
 rw [e3] at f4
 rw [e1] at f2
 rw [e4]
 refine ⟨⟨_,f5,rfl⟩,q _ f5 f3 f4 ?_ ?_ e5 fun c o x=>Heap.get?_push_of_some _ (Heap.get?_push_of_some _ (Heap.get?_push_of_some _ (Heap.get?_push_of_some _ (Heap.get?_push_of_some _ x))))⟩
 ·cases k1 with
  | l=>exact ⟨_,f1,rfl,rfl⟩
  | t=>exact ⟨_,f1,rfl,rfl⟩
 ·cases k2 with
  | l=>exact ⟨_,f2,rfl,rfl⟩
  | t=>exact ⟨_,f2,rfl,rfl⟩
end
end L2
namespace L2
open PySem PySem.Spec PyProof.Rows
section
variable {X:Cx}{pins:List (Addr×Obj)}{σ : St}{H:Hp}{s:Shared}{h':Heap}
theorem Inv.turnedL {t':Nat}{ch:List Addr}(I:Inv X pins σ H s)(k:∀ b o,b∉ch→s.heap.get? b=some o→h'.get? b=some o)(hf:∀ b∈ch,FpOk X pins H b):Inv X pins σ H { s with heap:=h',toks:=t' }:=by
 have nit:∀ b u,H b=some u→b∉ch:=fun b u e z=>by rw [(hf b z).1] at e;cases e
 refine I.step (g':=s.gens) (d':=s.drawn) (ch:=ch) (fun b hb=>?_) (fun b o _ _ hc e _=>k b o hc e) (fun b o _ _ hc e _=>⟨o.slots,k b o hc e⟩) (fun _ _ _ _ n=>n)
  (fun b o hc e=>⟨o,k b o hc e⟩) (fun _ _ e=>e) (fun _ _ _ e=>e) (fun b ps e=>⟨#[],by rw [e];simp⟩) (fun m hm=>?_) (fun b u e=>?_) I.bare
 ·obtain ⟨_,f1,_,f3,f4,f5⟩:=hf b hb
  exact ⟨f3,f1,f4,f5⟩
 ·obtain ⟨o,es,ep,ho,r⟩:=hm
  exact ⟨o,es,ep,k _ o (fun z=>(hf _ z).2.1 rfl) ho,r⟩
 ·refine (I.hok b u e).stay (fun c v hc q=>k c v ?_ q) (fun _ q=>q) fun _ _ q=>q
  rcases hc with z | z
  ·rw [z];exact nit b u e
  ·exact nit c _ z
end
def Sk.v (k:Sk)(K:PySem.W.Frag)(H:Hp)(a:Addr)(xs:List V):Prop:=match k with
 | .l=>SqL K H a xs
 | .t=>SqT K H a xs
theorem Inv.sk {X:Cx}{pins:List (Addr×Obj)}{σ : St}{H:Hp}{s:Shared}{k:Sk}{a:Addr}{xs:List V}(I:Inv X pins σ H s)(h:k.v X.K H a xs):∃ its:List Value,Vals xs its∧k.sq s.heap a its.toArray:=by
 cases k with
 | l=>obtain ⟨its,r,p,_⟩:=I.list h;exact ⟨its,r,p.isList⟩
 | t=>obtain ⟨its,r,p,_⟩:=I.tuple h;exact ⟨its,r,p⟩
theorem Inv.sk_inj {X:Cx}{pins:List (Addr×Obj)}{σ : St}{H:Hp}{s:Shared}{k:Sk}{a:Addr}{xs ys:List V}(I:Inv X pins σ H s)(h:k.v X.K H a xs)(g:k.v X.K H a ys):xs=ys:=by
 cases k with
 | l=>exact I.list_inj h g
 | t=>exact I.tuple_inj h g
def Itz (K:PySem.W.Frag)(k1 k2:Sk)(l1 l2:Addr):It:=
  ⟨fun i H=>∃ xs ys x y,k1.v K H l1 xs∧k2.v K H l2 ys∧xs[i]?=some x∧ys[i]?=some y,
   fun i H v H'=>∃ p x y,H p=none∧v=.ref p∧H'=upd H p (.tup [x,y])∧(∀ xs,k1.v K H l1 xs→xs[i]?=some x)∧∀ ys,k2.v K H l2 ys→ys[i]?=some y,
   fun i H=>∃ xs ys,k1.v K H l1 xs∧k2.v K H l2 ys∧(xs.length≤i∨ys.length≤i),true⟩
def zipSt (k1 k2:Sk)(z TI TO i1 i2 l1 l2:Addr)(n:Nat)(h:Heap):Prop:=IsZip h z TI TO .none∧IsPair h TI (.ref i1) (.ref i2)∧(∃ a b,IsPair h TO a b)∧k1.it h i1 l1 n∧k2.it h i2 l2 n
theorem turn_zip {P:Program}{w:World}{K:PySem.W.Frag}{elts:List Expr}{kt:Nat}{pos:Pos}{k1 k2:Sk}{z TI TO i1 i2 l1 l2:Addr}(D:Zap z TI TO i1 i2)(o1:Off l1 z TO i1 i2)(o2:Off l2 z TO i1 i2) :
  Turn P w K (.Tuple elts kt pos) (Itz K k1 k2 l1 l2) [z,TI,TO,i1,i2] z (zipSt k1 k2 z TI TO i1 i2 l1 l2) where
 mem:=by simp
 obj:=fun i h st b hb=>by
  obtain ⟨gz,gI,⟨a,b',gO⟩,g1,g2⟩:=st
  simp only [List.mem_cons,List.not_mem_nil,or_false] at hb
  rcases hb with rfl | rfl | rfl | rfl | rfl
  ·exact ⟨_,gz,fun v y=>by cases y⟩
  ·exact ⟨_,gI,fun v y=>by cases y⟩
  ·exact ⟨_,gO,fun v y=>by cases y⟩
  ·obtain ⟨o,e,_,d⟩:=Sk.it_obj g1;exact ⟨o,e,fun v y=>by rw [d] at y;cases y⟩
  ·obtain ⟨o,e,_,d⟩:=Sk.it_obj g2;exact ⟨o,e,fun v y=>by rw [d] at y;cases y⟩
 keep:=fun i h h' st k=>by
  obtain ⟨gz,gI,⟨a,b,gO⟩,g1,g2⟩:=st
  exact ⟨k z (by simp) _ gz,k TI (by simp) _ gI,⟨a,b,k TO (by simp) _ gO⟩,Sk.it_at g1 fun o e=>k i1 (by simp) o e,Sk.it_at g2 fun o e=>k i2 (by simp) o e⟩
 item:=by
  intro X hP hw hK hc i pins s σ H E I hf st hg
  subst hP hw hK
  obtain ⟨gz,gI,⟨a,b,gO⟩,g1,g2⟩:=st
  obtain ⟨xs,ys,x,y,hx,hy,ex,ey⟩:=hg
  obtain ⟨its,r1,p1⟩:=I.sk hx
  obtain ⟨jts,r2,p2⟩:=I.sk hy
  obtain ⟨u,hu,ru⟩:=r1.get ex
  obtain ⟨v,hv,rv⟩:=r2.get ey
  refine zip_item D o1 o2 gz gI gO g1 g2 p1 p2 (x:=u) (y:=v) (by simpa using hu) (by simpa using hv) fun h1 z1 O1 g1' g2' T1 size1 all1=>⟨_,rfl,?_⟩
  have pz:s.heap.objs.size≠z:=Nat.ne_of_gt (Heap.lt_size gz)
  have lt:∀ b∈[z,TI,TO,i1,i2],s.heap.objs.size≠b:=fun b hb=>by
   simp only [List.mem_cons,List.not_mem_nil,or_false] at hb
   rcases hb with rfl | rfl | rfl | rfl | rfl
   ·exact pz
   ·exact Nat.ne_of_gt (Heap.lt_size gI)
   ·exact Nat.ne_of_gt (Heap.lt_size gO)
   ·obtain ⟨o,e,_⟩:=Sk.it_obj g1;exact Nat.ne_of_gt (Heap.lt_size e)
   ·obtain ⟨o,e,_⟩:=Sk.it_obj g2;exact Nat.ne_of_gt (Heap.lt_size e)
  have all:∀ c o,c∉[z,TI,TO,i1,i2]→s.heap.get? c=some o→h1.get? c=some o:=fun c o hc e=>
   all1 c o (fun q=>hc (by simp [q])) (fun q=>hc (by simp [q])) (fun q=>hc (by simp [q])) (fun q=>hc (by simp [q])) e
  refine wpAny_letOwnedTupleGo_zip (s:={ s with heap:=h1 }) z1 fun h2 z2 sb=>?_
  have fr:H s.heap.objs.size=none:=I.hok.fresh (Nat.le_refl _)
  have I1:Inv X pins σ (upd H s.heap.objs.size (.tup [x,y])) { s with heap:=s.heap.push { cls:=.type "tuple",data:=.seq #[u,v] } }:=
   I.laid (t':=s.toks) (fun b o e=>Heap.get?_push_of_some _ e) (Nat.le_refl _) ⟨(by show 2≤sizeLine;decide),[u,v],.cons ru (.cons rv .nil),⟨_,Heap.get?_push_size _ rfl,rfl,_,rfl⟩⟩
  have hf1:∀ b∈[z,TI,TO,i1,i2],FpOk X pins (upd H s.heap.objs.size (.tup [x,y])) b:=fun b hb=>⟨by rw [aZ (Ne.symm (lt b hb))];exact (hf b hb).1,(hf b hb).2⟩
  have I2:Inv X pins σ (upd H s.heap.objs.size (.tup [x,y])) { s with heap:=h2 }:=by
   refine Inv.turnedL (s:={ s with heap:=s.heap.push { cls:=.type "tuple",data:=.seq #[u,v] } }) (h':=h2) (t':=s.toks) (ch:=[z,TI,TO,i1,i2]) I1 (fun b o hb e=>?_) hf1
   have bz:b≠z:=fun q=>hb (by simp [q])
   rcases Heap.get?_push_cases e with ⟨rfl,rfl⟩ | e'
   ·exact sb.extBut _ _ bz T1
   ·exact sb.extBut _ _ bz (all b o hb e')
  refine ⟨.ref s.heap.objs.size,_,I2,rfl,⟨s.heap.objs.size,x,y,fr,rfl,rfl,fun xs' q=>by rw [I.sk_inj q hx];exact ex,fun ys' q=>by rw [I.sk_inj q hy];exact ey⟩,?_,fun b hb=>(hf1 b hb).1⟩
  exact ⟨z2,sb.extBut _ _ D.a1 (all1 _ _ D.a1 D.a5 D.a6 D.a7 gI),⟨u,v,sb.extBut _ _ D.a2 O1⟩,Sk.it_at g1' fun o e=>sb.extBut _ o D.a3 e,Sk.it_at g2' fun o e=>sb.extBut _ o D.a4 e⟩
 done:=by
  intro X hP hw hK hc i pins s σ H E I hf st hg
  subst hP hw hK
  obtain ⟨gz,gI,⟨a,b,gO⟩,g1,g2⟩:=st
  obtain ⟨xs,ys,hx,hy,hend⟩:=hg
  obtain ⟨its,r1,p1⟩:=I.sk hx
  obtain ⟨jts,r2,p2⟩:=I.sk hy
  have l1:=r1.length
  have l2:=r2.length
  refine zip_stop (I.ok.hd (hc rfl)) D o1 o2 gz gI gO g1 g2 p1 p2 (hend.imp (fun q=>by simp;omega) fun q=>by simp;omega) fun h1 all1=>⟨rfl,I.turnedL (t':=s.toks) (ch:=[z,TI,TO,i1,i2]) (fun c o hc e=>?_) hf⟩
  exact all1 c o (fun q=>hc (by simp [q])) (fun q=>hc (by simp [q])) (fun q=>hc (by simp [q])) (fun q=>hc (by simp [q])) e
 self:=fun _ _ _ _ _ st h=>wpAny_pyIter_zip st.1 h
section
variable {X:Cx}{K:PySem.W.Frag}
def sqk (K:PySem.W.Frag)(H:Hp)(x:V)(k:Sk)(a:Addr):Prop:=x=.ref a∧∃ xs,k.v K H a xs
def iZip (K:PySem.W.Frag)(ta:TA):TI:=fun σ H R=>ta σ H fun vs H1=>∃ x y k1 k2 a b,vs=[x,y]∧sqk K H1 x k1 a∧sqk K H1 y k2 b∧R (Itz K k1 k2 a b) H1
theorem Sk.sq_lt {k:Sk}{h:Heap}{a:Addr}{its:Array Value}(x:k.sq h a its):a<h.objs.size:=by
 cases k with
 | l=>obtain ⟨o,e,_⟩:=x;exact Heap.lt_size e
 | t=>obtain ⟨o,e,_⟩:=x;exact Heap.lt_size e
theorem nW {a b:Nat}(h:a≠b):(show Addr from a)≠(show Addr from b):=h
theorem zap_of (n:Nat):Zap (n+4) (n+2) (n+3) n (n+1) where
 a1:=nW (show n+2≠n+4 by omega)
 a2:=nW (show n+3≠n+4 by omega)
 a3:=nW (show n≠n+4 by omega)
 a4:=nW (show n+1≠n+4 by omega)
 a5:=nW (show n+2≠n+3 by omega)
 a6:=nW (show n+2≠n by omega)
 a7:=nW (show n+2≠n+1 by omega)
 a8:=nW (show n+3≠n by omega)
 a9:=nW (show n+3≠n+1 by omega)
 b1:=nW (show n≠n+1 by omega)
theorem off_of {a n:Nat}(h:a<n):Off a (n+4) (n+3) n (n+1) where
 z:=nW (show a≠n+4 by omega)
 o:=nW (show a≠n+3 by omega)
 i:=nW (show a≠n by omega)
 j:=nW (show a≠n+1 by omega)
theorem ge_of {n c:Nat}(h:c∈([n+4,n+2,n+3,n,n+1]:List Nat)):n≤c:=by
 simp only [List.mem_cons,List.not_mem_nil,or_false] at h
 omega
theorem pi_zip {e1 e2:Expr}{ta:TA}{p pos tpos:Pos}{elts:List Expr}{kt:Nat}(hg:Gl X "zip")(hm:X.mg "zip" = none)(ha:PA X [e1,e2] ta)
  (hs:starEach [e1,e2] X.env=(false,eval e1 X.env)::starEach [e2] X.env:=by rfl) (hpl:(backTo pos (starEach [e2] X.env)).any (·.1)=false:=by rfl) :
  PI X (.Tuple elts kt tpos) (.Call (.Name "zip" p) [e1,e2] [] pos) (iZip X.K ta):=by
 intro pins s σ H R I h
 refine wpAny_Call_Name_kw (tY I hg hm boot_zip ?_ (by decide) (by decide))
 refine PyProof.Rows.callWith_type1 (thn (ha pos pins s σ H _ I h) fun us s1 ⟨vs,H1,I1,r1,q1⟩=>?_) hs hpl
 obtain ⟨x,y,k1,k2,a,b,ev,⟨ex,xs,hx⟩,⟨ey,ys,hy⟩,q⟩:=q1
 subst ev ex ey
 obtain ⟨u1,u2,eu,ru1,ru2⟩:=vals2 r1
 subst eu
 cases ru1
 cases ru2
 obtain ⟨its,r1,p1⟩:=I1.sk hx
 obtain ⟨jts,r2,p2⟩:=I1.sk hy
 have la:=Sk.sq_lt p1
 have lb:=Sk.sq_lt p2
 refine call_zip p1 p2 fun h' gz gI gO g1 g2 size all=>?_
 refine wpAny_pyIter_zip gz ?_
 have I2:Inv X pins σ H1 { s1 with heap:=h' }:=I1.kept (t':=s1.toks) all
 generalize hn:s1.heap.objs.size=n at gz gI gO g1 g2 size la lb ⊢
 refine ⟨n+4,[n+4,n+2,n+3,n,n+1],_,_,H1,rfl,I2,turn_zip (zap_of n) (off_of la) (off_of lb),⟨gz,gI,⟨_,_,gO⟩,g1,g2⟩,fun c hc=>?_,q⟩
 have hc':n≤c:=ge_of hc
 exact I1.fpOk (by rw [hn];exact hc') (I1.hok.fresh (by rw [hn];exact hc'))
def uX:List W→List W→List W
 | a::as,b::bs=>.tup [a,b]::uX as bs
 | _,_=>[]
theorem zipW_get:∀ {as bs:List W} {i:Nat} {w:W},(uX as bs)[i]?=some w→∃ a b,as[i]?=some a∧bs[i]?=some b∧w=.tup [a,b]
 | [],_,_,_,e=>by simp [uX] at e
 | _::_,[],_,_,e=>by simp [uX] at e
 | a::as,b::bs,0,w,e=>by
  have e:some (W.tup [a,b])=some w:=e
  exact ⟨a,b,rfl,rfl,(Option.some.inj e).symm⟩
 | a::as,b::bs,i+1,w,e=>by
  obtain ⟨x,y,h1,h2,h3⟩:=zipW_get (as:=as) (bs:=bs) (i:=i) (w:=w) (by simpa [uX] using e)
  exact ⟨x,y,by simpa using h1,by simpa using h2,h3⟩
theorem zipW_len:∀ {as bs:List W},(uX as bs).length=min as.length bs.length
 | [],bs=>by simp [uX]
 | _::_,[]=>by simp [uX]
 | a::as,b::bs=>by rw [uX,List.length_cons,zipW_len,List.length_cons,List.length_cons];omega
def vg:W→Option (List W)
 | .tup ws=>some ws
 | .lst ws=>some ws
 | .kls ws=>some ws
 | _=>none
theorem stayW_ok {H:Hp}{μ : Mu}{w:W}{v:V}{ws:List W}(r:Rep K H μ w v)(e:vg w=some ws):∃ k a,v=.ref a∧∀ {H2:Hp} {μ2:Mu},Ext K H μ H2 μ2→∃ xs,Sk.v k K H2 a xs∧aX K H2 μ2 ws xs:=by
 cases w with
 | tup us=>
  cases (show some us=some ws from e)
  have r0:=r
  rw [Rep] at r
  obtain ⟨p,xs,ev,hs,rs⟩:=r
  subst ev
  refine ⟨.t,p,rfl,fun {H2 μ2} x=>?_⟩
  have r2:=x.r _ _ r0
  rw [Rep] at r2
  obtain ⟨q,ys,ev,hs,rs⟩:=r2
  cases ev
  exact ⟨ys,hs,rs⟩
 | lst us=>
  cases (show some us=some ws from e)
  have r0:=r
  rw [Rep] at r
  obtain ⟨p,xs,ev,hs,rs⟩:=r
  subst ev
  refine ⟨.l,p,rfl,fun {H2 μ2} x=>?_⟩
  have r2:=x.r _ _ r0
  rw [Rep] at r2
  obtain ⟨q,ys,ev,hs,rs⟩:=r2
  cases ev
  exact ⟨ys,hs.sq,rs⟩
 | kls us=>
  cases (show some us=some ws from e)
  have r0:=r
  rw [Rep] at r
  obtain ⟨p,xs,ev,hs,rs⟩:=r
  subst ev
  refine ⟨.l,p,rfl,fun {H2 μ2} x=>?_⟩
  have r2:=x.r _ _ r0
  rw [Rep] at r2
  obtain ⟨q,ys,ev,hs,rs⟩:=r2
  cases ev
  exact ⟨ys,hs.sq,rs⟩
 | _=>cases e
def zipS (h:Gh)(x y:W):Option Src:=match vg x,vg y with
 | some as,some bs=>some ⟨uX as bs,none⟩
 | none,some bs=>(match x with
  | .loc n=>(match h.c n with
   | some (.lst as)=>some ⟨uX as bs,some (n,as)⟩
   | _=>none)
  | _=>none)
 | _,_=>none
theorem stay_at {H:Hp}{μ : Mu}{h:Gh}{w:W}{v:V}{ws:List W}{o:Option (Nat×List W)}(R:Rel K μ H h)(r:Rep K H μ w v)(e:(vg w=some ws∧o=none)∨∃ n,w=.loc n∧h.c n=some (.lst ws)∧o=some (n,ws)) :
  ∃ k a,v=.ref a∧∀ {H2:Hp} {μ2:Mu} {h2:Gh},Ext K H μ H2 μ2→Rel K μ2 H2 h2→Src.chk ⟨ws,o⟩ h2→∃ xs,Sk.v k K H2 a xs∧aX K H2 μ2 ws xs:=by
 rcases e with ⟨e,rfl⟩ | ⟨n,rfl,ec,rfl⟩
 ·obtain ⟨k,a,ev,f⟩:=stayW_ok r e
  exact ⟨k,a,ev,fun x _ _=>f x⟩
 ·have r0:=r
  rw [Rep] at r
  obtain ⟨p,ev,hm⟩:=r
  subst ev
  refine ⟨.l,p,rfl,fun {H2 μ2 h2} x R2 ck=>?_⟩
  have r2:=x.r _ _ r0
  rw [Rep] at r2
  obtain ⟨q,eq,hm2⟩:=r2
  cases eq
  obtain ⟨p',xs,hm',hx,rs⟩:=R2.lstAt (show h2.c n=some (.lst ws) from ck)
  have ep:p'=p:=by rw [hm2] at hm';exact (Option.some.inj hm').symm
  subst ep
  exact ⟨xs,.of hx,rs⟩
theorem zipS_ok {h:Gh}{x y:W}{s:Src}(e:zipS h x y=some s):∃ as bs o,s=⟨uX as bs,o⟩∧((vg x=some as∧o=none)∨∃ n,x=.loc n∧h.c n=some (.lst as)∧o=some (n,as))∧vg y=some bs:=by
 unfold zipS at e
 split at e
 ·rename_i as bs ea eb
  exact ⟨as,bs,none,(Option.some.inj e).symm,.inl ⟨ea,rfl⟩,eb⟩
 ·rename_i bs ea eb
  split at e
  ·split at e
   ·rename_i n _ as ec
    exact ⟨as,bs,_,(Option.some.inj e).symm,.inr ⟨n,rfl,ec,rfl⟩,eb⟩
   ·cases e
  ·cases e
 ·cases e
def nZip (ma:MA):MI:=fun σ h R=>ma σ h fun ws h1=>match ws with
 | [x,y]=>(match zipS h1 x y with
  | some s=>R s h1
  | none=>False)
 | _=>False
theorem di_zip {e1 e2:Expr}{mr:MA}{p pos tpos:Pos}{elts:List Expr}{kt:Nat}(hg:Gl X "zip")(hm:X.mg "zip" = none)(ha:DAs X [e1,e2] mr)
  (hs:starEach [e1,e2] X.env=(false,eval e1 X.env)::starEach [e2] X.env:=by rfl) (hpl:(backTo pos (starEach [e2] X.env)).any (·.1)=false:=by rfl) :
  DIt X (.Tuple elts kt tpos) (.Call (.Name "zip" p) [e1,e2] [] pos) (nZip mr):=PI.of (pi_zip hg hm ha hs hpl) fun σ H Q ⟨μ,h,σw,Rw,R,S,m,k⟩=>by
 refine ⟨μ,h,σw,_,R,S,m,fun vs H1 ⟨μ1,ws,h1,e1,R1,r1,m1⟩=>?_⟩
 dsimp only at m1
 split at m1
 ·split at m1
  ·rename_i x y _ s es
   obtain ⟨as,bs,o,rfl,ea,eb⟩:=zipS_ok es
   obtain ⟨v,u,ev,rv,ru⟩:=reps2 r1
   obtain ⟨ka,a,e3,fa⟩:=stay_at R1 rv ea
   obtain ⟨kb,b,e4,fb⟩:=stayW_ok ru eb
   have ck1:Src.chk ⟨as,o⟩ h1:=by
    rcases ea with ⟨_,rfl⟩ | ⟨n,_,ec,rfl⟩
    ·exact trivial
    ·exact ec
   obtain ⟨xs,hxs,_⟩:=fa .refl R1 ck1
   obtain ⟨ys,hys,_⟩:=fb .refl
   refine ⟨v,u,ka,kb,a,b,ev,⟨e3,xs,hxs⟩,⟨e4,ys,hys⟩,k _ _ ⟨μ1,⟨uX as bs,o⟩,h1,e1,R1,?_,m1⟩⟩
   intro H2 μ2 h2 i e2 R2 ck
   obtain ⟨xs2,hxs2,rxs⟩:=fa e2 R2 ck
   obtain ⟨ys2,hys2,rys⟩:=fb e2
   refine ⟨fun w ew=>?_,fun hl=>⟨xs2,ys2,hxs2,hys2,?_⟩⟩
   ·obtain ⟨p1,p2,ep1,ep2,rfl⟩:=zipW_get ew
    obtain ⟨q1,eq1,rq1⟩:=rxs.get ep1
    obtain ⟨q2,eq2,rq2⟩:=rys.get ep2
    refine ⟨⟨xs2,ys2,q1,q2,hxs2,hys2,eq1,eq2⟩,fun x' H3 ⟨pa,x1,x2,hp,ex',eH3,f1,f2⟩=>?_⟩
    have g1:=f1 xs2 hxs2
    have g2:=f2 ys2 hys2
    rw [eq1] at g1
    rw [eq2] at g2
    cases g1
    cases g2
    subst ex' eH3
    exact ⟨μ2,(Ex.laid hp).ext,R2.laid hp,.tupNew hp (.cons rq1 (.one rq2))⟩
   ·have l1:=rxs.len
    have l2:=rys.len
    have:min as.length bs.length≤i:=by rw [←zipW_len];exact hl
    omega
  ·exact m1.elim
 ·exact m1.elim
end
end L2
namespace L2
open PySem PySem.Spec PyProof.Rows
section
variable {X:Cx}{K:PySem.W.Frag}
theorem wI:∀ {ns:List Int} {its:List Value} {i:Nat} {v:Value},Vals (ns.map V.int) its→its[i]?=some v→∃ t,v=.int (ns.getD i 0) t
 | [],_,_,_,.nil,e=>by simp at e
 | n::ns,_,0,_,.cons r _,e=>by
  simp at e
  subst e
  exact r
 | _::ns,_,i+1,v,.cons _ t,e=>by
  obtain ⟨t',h⟩:=wI (i:=i) (v:=v) t (by simpa using e)
  exact ⟨t',by simpa using h⟩
theorem uz (ns:List Int):∀ k,k≤ns.length→preSum (fun i=>ns.getD i 0) k=(ns.take k).sum
 | 0,_=>by simp [preSum]
 | k+1,h=>by
  rw [preSum,uz ns k (by omega),List.take_succ,List.sum_append,List.getElem?_eq_getElem (by omega),List.getD_eq_getElem?_getD,List.getElem?_eq_getElem (by omega)]
  show _=_+(ns[k]+0)
  rw [Int.add_zero]
  rfl
theorem call_sumI (hc:X.calm=true):jt X (.builtin "sum") (fun xs H Q=>∃ (p:Addr) (ns:List Int),xs=[.ref p]∧SqL X.K H p (ns.map V.int)∧Q (.int ns.sum) H):=by
 intro pins s σ H xs us Q I r ⟨p,ns,e,hS,q⟩
 subst e
 obtain ⟨u,rfl,ru⟩:=vals1 r
 cases ru
 obtain ⟨its,rv,pl,hz⟩:=I.list hS
 have hlen:its.length=ns.length:=by rw [←rv.length,List.length_map]
 have hl:=pl.isList
 have hlt:p<s.heap.objs.size:=by obtain ⟨_,e,_⟩:=hl;exact Heap.lt_size e
 refine call_sum_walkAnyS (wpAny_pyIter_list hl ?_)
 refine ⟨s.heap.objs.size,[s.heap.objs.size,p],[s.heap.objs.size],_,its.toArray.size,_,_,fun i=>ns.getD i 0,rfl,(Walks.list (A:=X.A.in1) (I.ok.hd hc) _ p (Nat.ne_of_lt hlt) its.toArray).toS,
  ⟨⟨_,Heap.get?_push_size _ rfl,rfl,rfl⟩,hl.push _⟩,fun b hb=>?_,fun i v hP=>wI rv (by simpa using hP),fun s' t' hm=>?_⟩
 ·rw [Heap.size_push]
  simp only [List.mem_cons,List.not_mem_nil,or_false] at hb
  rcases hb with rfl | rfl
  ·exact Nat.lt_succ_self _
  ·exact Nat.lt_succ_of_lt hlt
 ·have e:preSum (fun i=>ns.getD i 0) its.toArray.size=ns.sum:=by rw [List.size_toArray,hlen,uz ns _ (Nat.le_refl _),List.take_length]
  rw [e]
  obtain ⟨hh,gg,dd,tt,oo⟩:=s'
  have hg:gg=s.gens:=hm.gens
  have hd:dd=s.drawn:=hm.drawn
  have ho:oo=s.os:=hm.os
  subst hg hd ho
  refine ⟨.int ns.sum,H,I.kept (h':=hh) (t':=tt) (fun b x e=>?_),⟨t',rfl⟩,q⟩
  exact hm.heap b x (fun hm=>by rw [List.mem_singleton.mp hm] at e;exact Nat.lt_irrefl _ (Heap.lt_size e)) (Heap.get?_push_of_some _ e)
def intsW:List W→Option (List Int)
 | []=>some []
 | .int i::ws=>(intsW ws).map (i::·)
 | _=>none
theorem intsW_ok {H:Hp}{μ : Mu}:∀ {ws:List W} {xs:List V} {ns:List Int},aX K H μ ws xs→intsW ws=some ns→xs=ns.map V.int
 | [],xs,ns,r,e=>by
  rw [aX] at r
  cases (show some []=some ns from e)
  exact r
 | w::ws,xs,ns,r,e=>by
  rw [aX] at r
  obtain ⟨v,vr,ev,ra,r⟩:=r
  cases w with
  | int b=>
   rw [Rep] at ra
   rw [intsW] at e
   cases q:intsW ws with
   | none=>rw [q] at e;cases e
   | some cs=>
    rw [q] at e
    cases (show some (b::cs)=some ns from e)
    rw [ev,ra,intsW_ok r q]
    rfl
  | _=>cases e
def kSum:MC:=fun ws h Q=>match ws with
 | [w]=>(match fu h w with
  | some us=>(match intsW us with
   | some ns=>Q (.int ns.sum) h
   | none=>False)
  | none=>False)
 | _=>False
theorem c_sum (hc:X.calm=true):qz X (.builtin "sum") kSum:=⟨_,call_sumI hc,by
 intro H μ h vs ws Qw Q R r m k
 unfold kSum at m
 split at m
 ·split at m
  ·split at m
   ·rename_i w _ us ev _ ns eb
    obtain ⟨v,e,rv⟩:=nR r
    obtain ⟨p,ys,ex,hs,rs⟩:=dJ R rv ev
    subst e ex
    exact ⟨p,ns,rfl,by rw [←intsW_ok rs eb];exact hs,k _ _ (.int R m)⟩
   ·exact m.elim
  ·exact m.elim
 ·exact m.elim⟩
end
end L2
namespace L2
open PySem PySem.Spec PyProof.Rows
theorem rv_owner:Manifest.owners.lookup (String.ofList ['d','e','s','r','e','v','e','r'].reverse)=some Manifest.sig_reversed:=by kernel_rfl
theorem rv_mro:mroOf (.type "reversed")=pure [.type "reversed",.type "object"]:=by
 rw [mroOf_type]
 kernel_rfl
theorem rv_new:typeLookup (.type "reversed") "__new__" = pure (some (.builtin "reversed.__new__")):=by
 rw [typeLookup_type,builtinLookup_eq_fast]
 kernel_rfl
theorem fL:Slot "reversed" "__next__" "reversed.__next__":=
  .of (owner := "reversed") (n := "__next__")
    (by rw [typeLookup_type,builtinLookup_eq_fast]
        kernel_rfl)
    (by decide +kernel) (by decide +kernel)
    (by decide +kernel)
    (by first
        | exact .inl (by decide +kernel)
        | exact .inr (by decide +kernel))
    (by rw [isSubtype_type]
        kernel_rfl)
theorem oV:entryFor table "reversed.__next__" = some Builtin.«reversed.__next__»:=entryFor_of_tree (by kernel_rfl)
theorem qU (a:Value):argsOk "reversed.__next__" ⟨[a],[]⟩:=by
 unfold argsOk
 rw [signature?_of (id := "reversed.__next__") (n:=['_','_','t','x','e','n','_','_']) (o:=['d','e','s','r','e','v','e','r']) (by kernel_rfl) rv_owner]
 kernel_rfl
theorem qY:Slot "reversed" "__iter__" "reversed.__iter__":=
  .of (owner := "reversed") (n := "__iter__")
    (by rw [typeLookup_type,builtinLookup_eq_fast]
        kernel_rfl)
    (by decide +kernel) (by decide +kernel)
    (by decide +kernel)
    (by first
        | exact .inl (by decide +kernel)
        | exact .inr (by decide +kernel))
    (by rw [isSubtype_type]
        kernel_rfl)
theorem rv_args_iter (a:Value):argsOk "reversed.__iter__" ⟨[a],[]⟩:=by
 unfold argsOk
 rw [signature?_of (id := "reversed.__iter__") (n:=['_','_','r','e','t','i','_','_']) (o:=['d','e','s','r','e','v','e','r']) (by kernel_rfl) rv_owner]
 kernel_rfl
theorem wU:entryFor table "reversed.__iter__" = some Builtin.«dict_keyiterator.__iter__»:=
  entryFor_alias (id' := "dict_keyiterator.__iter__") (by kernel_rfl)
    (by first
        | rfl
        | decide +kernel
        | (unfold String.splitOn;simp +decide [String.splitOnAux]))
    (by decide +kernel) (by kernel_rfl)
theorem rv_typeCall (a:Value):checkTypeCall "reversed" ⟨[a],[]⟩=pure ():=by kernel_rfl
theorem rv_newCall (a:Value):checkBuiltinCall "reversed.__new__" ⟨[.type "reversed",a],[]⟩=pure ():=by kernel_rfl
theorem zx:entryFor table "reversed.__new__" = some Builtin.«reversed.__new__»:=entryFor_of_tree (by kernel_rfl)
theorem rv_sub:isSubtype (.type "reversed") (.type "reversed")=pure true:=by
 rw [isSubtype_type]
 kernel_rfl
theorem rv_tup_none:typeLookup (.type "tuple") "__reversed__" = pure none:=by
 rw [typeLookup_type,builtinLookup_eq_fast]
 kernel_rfl
theorem rv_tup_dict:isSubtype (.type "tuple") (.type "dict")=pure false:=by
 rw [isSubtype_type]
 kernel_rfl
end L2
namespace L2
open PySem PySem.Spec PyProof.Rows
def rvObj (l:Addr)(i:Int):Obj:={ cls:=.type "reversed",data:=.fields #[.ref l,rawInt i] }
def RvAt (h:Heap)(a l:Addr)(i:Int):Prop:=∃ o,h.get? a=some o∧o.cls=.type "reversed"∧o.data=.fields #[.ref l,rawInt i]
section
variable {P:Program}{w:World}{A:Around}{E:Value→Shared→Prop}{s:Shared}
theorem RvAt.typeIs {a l:Addr}{i:Int}(x:RvAt s.heap a l i):s.TypeIs (.ref a) "reversed":=let ⟨o,g,c,_⟩:=x;⟨o,g,c⟩
theorem RvAt.at {h h':Heap}{a l:Addr}{i:Int}(x:RvAt h a l i)(e:∀ o,h.get? a=some o→h'.get? a=some o):RvAt h' a l i:=let ⟨o,g,r⟩:=x;⟨o,e _ g,r⟩
theorem rv_class (a:Value):Builtin.SmallTypes.newClass "reversed" ⟨[.type "reversed",a],[]⟩=pure (.type "reversed",[a]):=by
 unfold Builtin.SmallTypes.newClass
 simp only [isType,rv_sub,pure_bind,Bool.not_true,Bool.false_eq_true]
 rfl
theorem rv_init:Slot "reversed" "__init__" "object.__init__":=
  .of (owner := "object") (n := "__init__")
    (by rw [typeLookup_type,builtinLookup_eq_fast]
        kernel_rfl)
    (by decide +kernel) (by decide +kernel)
    (by decide +kernel)
    (by first
        | exact .inl (by decide +kernel)
        | exact .inr (by decide +kernel))
    (by rw [isSubtype_type]
        kernel_rfl)
theorem rv_called:TypeCalled "reversed" "reversed.__new__" "object.__init__":=
  ⟨by decide +kernel,by decide +kernel,⟨_,_,rv_mro⟩,madeBy_type rv_mro rv_new (by decide +kernel),by decide +kernel,
    by rw [isSubtype_type]
       kernel_rfl,rv_init⟩
theorem rv_make (l:Addr)(xs:Array Value):Meets (Builtin.«reversed.__new__» ⟨[.type "reversed",.ref l],[]⟩) (fun _ R s=>IsTup s.heap l xs∧(xs.size:Int)<2^63 ∧
   R (.ok (.ret (.ref s.heap.objs.size))) { s with heap:=s.heap.push (rvObj l ((xs.size:Int) - 1)),toks:=s.toks+1+1 }):=by
 refine .of_wp fun prog w A R s ⟨ht,hfit,q⟩=>?_
 unfold Builtin.«reversed.__new__»
 refine wpAny_bind (wpAny_of_eq (rv_class _) ?_)
 try dsimp only
 refine wpAny_bind (wpAny_of_eq (a:=()) (by rfl) ?_)
 refine wpAny_bind (wpAny_of_eq (a:=()) (by rfl) ?_)
 try dsimp only
 refine wpAny_bind (wpAny_specialOf ht.typeIs rv_tup_none ?_)
 try dsimp only
 refine wpAny_bind ?_
 refine wpAny_bind (wpAny_isInstance (U := "dict") (b:=false) ht.typeIs rv_tup_dict ?_)
 rw [if_neg Bool.false_ne_true]
 refine wpAny_bind (wpAny_specialOf ht.typeIs PyProof.Rows.slot_tuple_getitem.lookup ?_)
 show wpAny _ _ (if (_:Bool)=true then pure true else _) _ _ _
 rw [if_pos (by decide +kernel)]
 refine wpAny_pure ?_
 rw [if_neg (by decide)]
 refine wpAny_bind (len_tuple ht hfit ?_)
 refine wpAny_bind (wpAny_of_eq (a:=some (xs.size:Int)) (by rfl) ?_)
 try dsimp only
 refine wpAny_bind ?_
 show wpAny _ _ (newObj (.type "reversed") (.fields #[.ref l,rawInt ((xs.size:Int) - 1)])) _ _ _
 exact wpAny_newObj_type (wpAny_pure ⟨_,rfl,q⟩) (by size_fits)
theorem call_rvT {l:Addr}{xs:Array Value}{Q:Value→Shared→Prop}(ht:IsTup s.heap l xs)(hfit:(xs.size:Int)<2^63)
  (q:Q (.ref s.heap.objs.size) { s with heap:=s.heap.push (rvObj l ((xs.size:Int) - 1)),toks:=s.toks+1+1 }):wpAny (model P w) A (call (.type "reversed") [.ref l]) Q E s:=by
 refine callType_new rv_called (by decide) (rv_typeCall _) (rv_newCall _) (fun obj=>PySem.F.args_object_init_2 obj _) zx (rv_make l xs) ⟨ht,hfit,?_⟩
 exact ⟨⟨_,Heap.get?_push_size _ rfl,rfl⟩,q⟩
theorem next_rvT {it l:Addr}{i:Nat}{xs:Array Value}{x:Value}{Q:Option Value→Shared→Prop}(hi:RvAt s.heap it l (i:Int))(ht:IsTup s.heap l xs)(hfit:(xs.size:Int)<2^63)(hx:xs[i]?=some x)
  (q:∀ h',RvAt h' it l ((i:Int) - 1)→Heap.SameBut it s.heap h'→Q (some x) { s with heap:=h',toks:=s.toks+1 }):wpAny (model P w) A (pyNext (.ref it)) Q E s:=by
 obtain ⟨o,go,gc,gd⟩:=id hi
 have hlt:i<xs.size:=(Array.getElem?_eq_some_iff.mp hx).1
 unfold pyNext
 refine wpAny_bind (wpAny_attempt (wpAny_callSpecial?_slot (name:=Str.ofString "__next__") hi.typeIs fL
  (wpAny_call_entry fL hi.typeIs oV ?_ (qU _))))
 unfold Builtin.«reversed.__next__»
 refine wpAny_bind (wpAny_of_eq (a:=(Value.ref it,([]:List Value))) (by rfl) ?_)
 try dsimp only
 refine wpAny_bind (wpAny_field go gd (x:=.ref l) rfl ?_)
 refine wpAny_bind (wpAny_field go gd (x:=rawInt (i:Int)) rfl ?_)
 show wpAny _ _ (if (i:Int)<0 then _ else _) _ _ s
 rw [if_neg (by omega)]
 refine wpAny_bind (wpAny_specialOf ht.typeIs PyProof.Rows.slot_tuple_getitem.lookup ?_)
 rw [if_neg (by decide)]
 refine wpAny_bind (wpAny_mkInt ?_)
 refine wpAny_bind (wpAny_attempt (getItem_tuple (s:={ s with toks:=s.toks+1 }) ht (by omega) (by omega) (j:=i) ?_ hx ?_))
 ·have e:=seqIndex_of (k:=(i:Int)) (n:=xs.size) (by omega) (by omega)
  rw [Int.toNat_natCast] at e
  exact e
 try dsimp only
 refine wpAny_bind (wpAny_field go gd (x:=rawInt (i:Int)) rfl ?_)
 refine wpAny_bind (wpAny_setField go gd (by simp) ?_)
 refine wpAny_pure ⟨x,rfl,wpAny_pure (q _ ?_ (Heap.SameBut.update ..))⟩
 exact ⟨_,Heap.get?_update_self _ go (Obj.isFreed_of_fields (Obj.data_mapFields gd _)),(Obj.cls_mapFields ..).trans gc,by rw [Obj.data_mapFields gd];simp⟩
theorem yR {it l:Addr}{Q:Option Value→Shared→Prop}(hh:A.handled=none)(hi:RvAt s.heap it l (-1))
  (q:∀ h',Heap.ExtBut it s.heap h'→Q none { s with heap:=h' }):wpAny (model P w) A (pyNext (.ref it)) Q E s:=by
 obtain ⟨o,go,gc,gd⟩:=id hi
 unfold pyNext
 refine wpAny_bind (wpAny_attempt (wpAny_callSpecial?_slot (name:=Str.ofString "__next__") hi.typeIs fL
  (wpAny_call_entry fL hi.typeIs oV ?_ (qU _))))
 unfold Builtin.«reversed.__next__»
 refine wpAny_bind (wpAny_of_eq (a:=(Value.ref it,([]:List Value))) (by rfl) ?_)
 try dsimp only
 refine wpAny_bind (wpAny_field go gd (x:=.ref l) rfl ?_)
 refine wpAny_bind (wpAny_field go gd (x:=rawInt (-1)) rfl ?_)
 show wpAny _ _ (if (-1:Int)<0 then _ else _) _ _ s
 rw [if_pos (by decide)]
 refine wpAny_bind (wpAny_rule ?_)
 refine wpAny_bind ?_
 refine wpAny_bind (wpAny_setField go gd (by simp) ?_)
 have g1:=Heap.get?_update_self (fun o=>o.mapFields fun x=>x.setIfInBounds 1 (rawInt (-1))) go (Obj.isFreed_of_fields (Obj.data_mapFields gd _))
 refine wpAny_setField g1 (Obj.data_mapFields gd _) (by simp) ?_
 refine wpAny_bind ?_
 show wpAny _ _ (newExc (.type "StopIteration") [] >>= fun e0=>raiseNew e0) _ _ _
 refine wpAny_bind ?_
 simp only [newExc,newTuple,raiseNew]
 refine wpAny_bind (wpAny_newObj_type (by
  refine wpAny_bind (m:=firstArgMember _ _) (wpAny_of_eq (a:=Value.none) (by rfl) (wpAny_newObj_type ?_ (by size_fits)))
  refine wpAny_bind (wpAny_handled (by
   first
    | rw [show A.in1.handled=none from hh]
    | rw [hh]
   refine wpAny_bind (wpAny_pure (wpAny_throw ?_))
   refine wpAny_bind (wpAny_isInstance (T := "StopIteration") (b:=true) ⟨_,Heap.get?_push_size _ rfl,rfl⟩ isSubtype_stop (wpAny_pure (q _ ?_)))
   intro b ob hb eb
   exact Heap.get?_push_of_some _ (Heap.get?_push_of_some _ ((Heap.SameBut.update ..).extBut b ob hb ((Heap.SameBut.update ..).extBut b ob hb eb))))) ) (by size_fits))
theorem iter_rvT {it l:Addr}{i:Int}{Q:Value→Shared→Prop}(hi:RvAt s.heap it l i)(q:Q (.ref it) s):wpAny (model P w) A (pyIter (.ref it)) Q E s:=by
 refine wpAny_pyIter_slot hi.typeIs qY (wpAny_call_entry qY hi.typeIs wU ?_ (rv_args_iter _))
 show wpAny _ _ (ret (.ref it)) _ _ s
 exact wpAny_pure ⟨_,rfl, "reversed",_,hi.typeIs,fL.lookup,q⟩
end
end L2
namespace L2
open PySem PySem.Spec PyProof.Rows
def Itv (K:PySem.W.Frag)(n:Nat)(l:Addr):It:=
  ⟨fun i H=>i<n∧∃ xs x,SqT K H l xs∧xs.length=n∧xs[n - 1 - i]?=some x,
   fun i H v H'=>H'=H∧∀ xs,SqT K H l xs→xs[n - 1 - i]?=some v,
   fun i _=>n≤i,true⟩
def rvSt (n:Nat)(it l:Addr)(i:Nat)(h:Heap):Prop:=i≤n∧RvAt h it l ((n:Int) - 1 - (i:Int))
theorem turn_rev {P:Program}{w:World}{K:PySem.W.Frag}{tg:Expr}{n:Nat}{it l:Addr}(hne:l≠it):Turn P w K tg (Itv K n l) [it] it (rvSt n it l) where
 mem:=by simp
 obj:=fun i h st b hb=>by
  obtain ⟨_,o,g,_,d⟩:=st
  rw [List.mem_singleton] at hb
  subst hb
  exact ⟨o,g,fun v y=>by rw [d] at y;cases y⟩
 keep:=fun i h h' st k=>⟨st.1,st.2.at fun o e=>k it (by simp) o e⟩
 item:=by
  intro X hP hw hK hc i pins s σ H E I hf st hg
  subst hP hw hK
  obtain ⟨hin,xs,x,hx,hlen,ex⟩:=hg
  obtain ⟨its,r,pl,hz⟩:=I.tuple hx
  obtain ⟨u,hu,ru⟩:=r.get ex
  have hl:=r.length
  have e1:(n:Int) - 1 - (i:Int)=((n - 1 - i:Nat):Int):=by omega
  have hi:=st.2
  rw [e1] at hi
  have hn:=qR
  refine next_rvT hi pl (by simp only [List.size_toArray];omega) (x:=u) (by simpa using hu) fun h1 g1 sb=>⟨u,rfl,?_⟩
  have e2:((n - 1 - i:Nat):Int) - 1=(n:Int) - 1 - ((i+1:Nat):Int):=by omega
  rw [e2] at g1
  obtain ⟨o,go,gc,gd⟩:=id g1
  refine go_of (s:={ s with heap:=h1,toks:=s.toks+1 }) go gc gd (by decide) ⟨x,H,I.turnedL (t':=s.toks+1) (ch:=[it]) (fun b o hb e=>sb.extBut b o (fun q=>hb (by simp [q])) e) hf,ru,⟨rfl,fun ys hy=>?_⟩,⟨hin,g1⟩,fun b hb=>(hf b hb).1⟩
  rw [I.tuple_inj hy hx]
  exact ex
 done:=by
  intro X hP hw hK hc i pins s σ H E I hf st hg
  subst hP hw hK
  have hi:=st.2
  have e1:(n:Int) - 1 - (i:Int) = -1:=by
   have:=st.1
   have:n≤i:=hg
   omega
  rw [e1] at hi
  exact yR (I.ok.hd (hc rfl)) hi fun h1 eb=>⟨rfl,I.turnedL (t':=s.toks) (ch:=[it]) (fun b o hb e=>eb b o (fun q=>hb (by simp [q])) e) hf⟩
 self:=fun _ _ _ _ _ st h=>iter_rvT st.2 h
section
variable {X:Cx}{K:PySem.W.Frag}
end
end L2
namespace L2
open PySem PySem.Spec PyProof.Rows
section
variable {X:Cx}
def mPar3 (i j k:Nat)(ta:MA):MS:=fun D σ h=>ta σ h fun ws h1=>match ws with
 | [a,b,c]=>D.nx (((σ.set i (some a)).set j (some b)).set k (some c)) h1
 | _=>False
end
end L2
namespace L2
open PySem PySem.Spec PyProof.Rows
def Itw (K:PySem.W.Frag)(n:Nat)(l:Addr):It:=
  ⟨fun i H=>i<n∧∃ xs x,SqL K H l xs∧xs.length=n∧xs[n - 1 - i]?=some x,
   fun i H v H'=>H'=H∧∀ xs,SqL K H l xs→xs[n - 1 - i]?=some v,
   fun i _=>n≤i,true⟩
def rwSt (n:Nat)(it l:Addr)(i:Nat)(h:Heap):Prop:=i≤n∧h.IsRevIter it l ((n:Int) - 1 - (i:Int))
theorem turn_revL {P:Program}{w:World}{K:PySem.W.Frag}{tg:Expr}{n:Nat}{it l:Addr}(hne:l≠it):Turn P w K tg (Itw K n l) [it] it (rwSt n it l) where
 mem:=by simp
 obj:=fun i h st b hb=>by
  obtain ⟨_,o,g,_,d⟩:=st
  rw [List.mem_singleton] at hb
  subst hb
  exact ⟨o,g,fun v y=>by rw [d] at y;cases y⟩
 keep:=fun i h h' st k=>⟨st.1,st.2.at fun o e=>k it (by simp) o e⟩
 item:=by
  intro X hP hw hK hc i pins s σ H E I hf st hg
  subst hP hw hK
  obtain ⟨hin,xs,x,hx,hlen,ex⟩:=hg
  obtain ⟨its,r,pl,hz⟩:=I.list hx
  obtain ⟨u,hu,ru⟩:=r.get ex
  have hl:=r.length
  have e1:(n:Int) - 1 - (i:Int)=((n - 1 - i:Nat):Int):=by omega
  have hi:=st.2
  rw [e1] at hi
  refine wpAny_pyNext_rev_item hi pl.isList (x:=u) (by simpa using hu) fun h1 g1 sb=>⟨u,rfl,?_⟩
  have e2:((n - 1 - i:Nat):Int) - 1=(n:Int) - 1 - ((i+1:Nat):Int):=by omega
  rw [e2] at g1
  obtain ⟨o,go,gc,gd⟩:=id g1
  refine go_of (s:={ s with heap:=h1 }) go gc gd (by decide) ⟨x,H,I.turnedL (t':=s.toks) (ch:=[it]) (fun b o hb e=>sb.extBut b o (fun q=>hb (by simp [q])) e) hf,ru,⟨rfl,fun ys hy=>?_⟩,⟨hin,g1⟩,fun b hb=>(hf b hb).1⟩
  rw [I.list_inj hy hx]
  exact ex
 done:=by
  intro X hP hw hK hc i pins s σ H E I hf st hg
  subst hP hw hK
  have hi:=st.2
  have e1:(n:Int) - 1 - (i:Int) = -1:=by
   have:=st.1
   have:n≤i:=hg
   omega
  rw [e1] at hi
  exact wpAny_pyNext_rev_end (I.ok.hd (hc rfl)) hi fun h1 eb=>⟨rfl,I.turnedL (t':=s.toks) (ch:=[it]) (fun b o hb e=>eb b o (fun q=>hb (by simp [q])) e) hf⟩
 self:=fun _ _ _ _ _ st h=>wpAny_pyIter_revIter st.2 h
section
variable {X:Cx}{K:PySem.W.Frag}
def iRev2 (K:PySem.W.Frag)(ta:TA):TI:=fun σ H R=>ta σ H fun vs H1=>∃ a xs,vs=[.ref a]∧((SqT K H1 a xs∧R (Itv K xs.length a) H1)∨(SqL K H1 a xs∧R (Itw K xs.length a) H1))
theorem pi_rev2 {tg e1:Expr}{ta:TA}{p pos:Pos}(hg:Gl X "reversed")(hm:X.mg "reversed" = none)(ha:PA X [e1] ta)
  (hs:starEach [e1] X.env=(false,eval e1 X.env)::starEach [] X.env:=by rfl) (hpl:(backTo pos (starEach [] X.env)).any (·.1)=false:=by rfl) :
  PI X tg (.Call (.Name "reversed" p) [e1] [] pos) (iRev2 X.K ta):=by
 intro pins s σ H R I h
 refine wpAny_Call_Name_kw (tY I hg hm boot_reversed ?_ (by decide) (by decide))
 refine PyProof.Rows.callWith_type1 (thn (ha pos pins s σ H _ I h) fun us s1 ⟨vs,H1,I1,r1,q1⟩=>?_) hs hpl
 obtain ⟨a,xs,ev,hx⟩:=q1
 subst ev
 obtain ⟨u1,eu,ru1⟩:=vals1 r1
 subst eu
 cases ru1
 rcases hx with ⟨hx,q⟩ | ⟨hx,q⟩
 ·obtain ⟨its,r,pl,hz⟩:=I1.tuple hx
  have hl:=r.length
  have hn:=qR
  refine call_rvT pl (by simp only [List.size_toArray];omega) ?_
  have gi:RvAt (s1.heap.push (rvObj a ((its.toArray.size:Int) - 1))) s1.heap.objs.size a ((xs.length:Int) - 1 - ((0:Nat):Int)):=by
   refine ⟨_,Heap.get?_push_size _ rfl,rfl,?_⟩
   show Data.fields #[.ref a,rawInt ((its.toArray.size:Int) - 1)]=_
   rw [List.size_toArray,←hl]
   simp
  have la:a<s1.heap.objs.size:=by obtain ⟨_,e,_⟩:=pl;exact Heap.lt_size e
  refine iter_rvT gi ?_
  refine ⟨_,[s1.heap.objs.size],_,_,H1,rfl,I1.kept (t':=s1.toks+1+1) (fun b o e=>Heap.get?_push_of_some _ e),turn_rev (Nat.ne_of_lt la),⟨Nat.zero_le _,gi⟩,fun c hc=>?_,q⟩
  rw [List.mem_singleton] at hc
  subst hc
  exact I1.fpOk (Nat.le_refl _) (I1.hok.fresh (Nat.le_refl _))
 ·obtain ⟨its,r,pl,hz⟩:=I1.list hx
  have hl:=r.length
  refine call_reversed_list pl.isList ?_
  have gi:(s1.heap.push (revObj a ((its.toArray.size:Int) - 1))).IsRevIter s1.heap.objs.size a ((xs.length:Int) - 1 - ((0:Nat):Int)):=by
   refine ⟨_,Heap.get?_push_size _ rfl,rfl,?_⟩
   show Data.fields #[.ref a,rawInt ((its.toArray.size:Int) - 1)]=_
   rw [List.size_toArray,←hl]
   simp
  have la:a<s1.heap.objs.size:=by obtain ⟨_,e,_⟩:=pl.isList;exact Heap.lt_size e
  refine wpAny_pyIter_revIter gi ?_
  refine ⟨_,[s1.heap.objs.size],_,_,H1,rfl,I1.kept (t':=s1.toks) (fun b o e=>Heap.get?_push_of_some _ e),turn_revL (Nat.ne_of_lt la),⟨Nat.zero_le _,gi⟩,fun c hc=>?_,q⟩
  rw [List.mem_singleton] at hc
  subst hc
  exact I1.fpOk (Nat.le_refl _) (I1.hok.fresh (Nat.le_refl _))
def nRev2 (ma:MA):MI:=fun σ h R=>ma σ h fun ws h1=>match ws with
 | [.tup us]=>R ⟨us.reverse,none⟩ h1
 | [.lst us]=>R ⟨us.reverse,none⟩ h1
 | _=>False
theorem di_rev2 {tg e1:Expr}{mr:MA}{p pos:Pos}(hg:Gl X "reversed")(hm:X.mg "reversed" = none)(ha:DAs X [e1] mr)
  (hs:starEach [e1] X.env=(false,eval e1 X.env)::starEach [] X.env:=by rfl) (hpl:(backTo pos (starEach [] X.env)).any (·.1)=false:=by rfl) :
  DIt X tg (.Call (.Name "reversed" p) [e1] [] pos) (nRev2 mr):=PI.of (pi_rev2 hg hm ha hs hpl) fun σ H Q ⟨μ,h,σw,Rw,R,S,m,k⟩=>by
 refine ⟨μ,h,σw,_,R,S,m,fun vs H1 ⟨μ1,ws,h1,e1,R1,r1,m1⟩=>?_⟩
 dsimp only at m1
 split at m1
 ·rename_i us
  obtain ⟨v,ev,rv⟩:=nR r1
  have rv0:=rv
  rw [Rep] at rv
  obtain ⟨a,xs,ea,hx,rs⟩:=rv
  subst ev ea
  have hl:=rs.len
  refine ⟨a,xs,rfl,.inl ⟨hx,k _ _ ⟨μ1,⟨us.reverse,none⟩,h1,e1,R1,?_,m1⟩⟩⟩
  intro H2 μ2 h2 i e2 R2 _
  have r2:=e2.r _ _ rv0
  rw [Rep] at r2
  obtain ⟨b,ys,eb,hy,ry⟩:=r2
  cases eb
  have hl2:=ry.len
  refine ⟨fun w ew=>?_,fun hle=>?_⟩
  ·have hi:i<us.length:=by
    have:=(List.getElem?_eq_some_iff.mp ew).1
    simpa using this
   rw [List.getElem?_reverse hi] at ew
   obtain ⟨v,hv,rv⟩:=ry.get ew
   refine ⟨⟨by omega,ys,v,hy,by omega,by rw [show xs.length - 1 - i=us.length - 1 - i by omega];exact hv⟩,fun x H3 ⟨e3,y⟩=>?_⟩
   subst e3
   have:=y ys hy
   rw [show xs.length - 1 - i=us.length - 1 - i by omega,hv] at this
   cases this
   exact ⟨μ2,.refl,R2,rv⟩
  ·have:us.length≤i:=by simpa using hle
   show xs.length≤i
   omega
 ·rename_i us
  obtain ⟨v,ev,rv⟩:=nR r1
  have rv0:=rv
  rw [Rep] at rv
  obtain ⟨a,xs,ea,hx,rs⟩:=rv
  subst ev ea
  have hl:=rs.len
  refine ⟨a,xs,rfl,.inr ⟨hx.sq,k _ _ ⟨μ1,⟨us.reverse,none⟩,h1,e1,R1,?_,m1⟩⟩⟩
  intro H2 μ2 h2 i e2 R2 _
  have r2:=e2.r _ _ rv0
  rw [Rep] at r2
  obtain ⟨b,ys,eb,hy,ry⟩:=r2
  cases eb
  have hl2:=ry.len
  refine ⟨fun w ew=>?_,fun hle=>?_⟩
  ·have hi:i<us.length:=by
    have:=(List.getElem?_eq_some_iff.mp ew).1
    simpa using this
   rw [List.getElem?_reverse hi] at ew
   obtain ⟨v,hv,rv⟩:=ry.get ew
   refine ⟨⟨by omega,ys,v,hy.sq,by omega,by rw [show xs.length - 1 - i=us.length - 1 - i by omega];exact hv⟩,fun x H3 ⟨e3,y⟩=>?_⟩
   subst e3
   have:=y ys hy.sq
   rw [show xs.length - 1 - i=us.length - 1 - i by omega,hv] at this
   cases this
   exact ⟨μ2,.refl,R2,rv⟩
  ·have:us.length≤i:=by simpa using hle
   show xs.length≤i
   omega
 ·exact m1.elim
end
end L2
namespace L2
open PySem PySem.Spec PyProof.Rows
theorem repsN {K:PySem.W.Frag}{H:Hp}{μ : Mu}:aX K H μ [] []:=by rw [aX]
theorem lZ {K:PySem.W.Frag}{H:Hp}{μ : Mu}{w:W}{v:V}{ws:List W}{vs:List V}(h:Rep K H μ w v)(t:aX K H μ ws vs):aX K H μ (w::ws) (v::vs):=by rw [aX];exact ⟨v,vs,rfl,h,t⟩
theorem repI {K:PySem.W.Frag}{H:Hp}{μ : Mu}{i:Int}:Rep K H μ (.int i) (.int i):=by rw [Rep]
theorem oW {K:PySem.W.Frag}{a:Addr}{od:Option Addr}{sl:Array (Option Value)}{its:Array Value}{n:Nat}{xs:List V}{ws:List W}(h:K.lookup a=some ⟨.type "tuple",od,.seq its n,sl⟩)(hz:its.size≤sizeLine)(hv:Vals xs its.toList)(hr:∀ H μ,aX K H μ ws xs):∀ H μ,Rep K H μ (.tup ws) (.ref a):=by
 intro H μ
 rw [Rep]
 exact ⟨a,xs,rfl,.inr ⟨_,its,n,h,rfl,rfl,hz,hv⟩,hr H μ⟩
theorem relI {i:Int}{t}:RelV (.int i) (.int i t):=⟨t,rfl⟩
theorem relR {a:Addr}:RelV (.ref a) (.ref a):=rfl
end L2
namespace L2
open PySem PySem.Spec PyProof.Rows
section
variable {prog:Program}{w:World}{A:Around}{E:Value→Shared→Prop}{s:Shared}
theorem yO {it t:Addr}{items:Array Value}(hne:t≠it):∀ (n i:Nat) (s:Shared) (Q:List Value→Shared→Prop),s.heap.IsListIter it t i→s.heap.IsList t items→i+n≤items.size →
  (∀ h',h'.IsListIter it t (i+n)→Heap.SameBut it s.heap h'→Q ((items.toList.drop i).take n) { s with heap:=h' })→wpAny (model prog w) A (draw (.ref it) n) Q E s
 | 0,i,s,Q,hit,_,_,hQ=>by
  show wpAny _ _ (pure []) Q E s
  exact wpAny_pure (by simpa using hQ s.heap hit (Heap.SameBut.refl ..))
 | n+1,i,s,Q,hit,ht,hle,hQ=>by
  have hlt:i<items.size:=by omega
  show wpAny _ _ (pyNext (.ref it) >>= _) Q E s
  refine wpAny_bind (wpAny_pyNext_list_item hit ht (x:=items[i]) (by simp [hlt]) fun h1 hit1 hs1=>?_)
  refine wpAny_bind (wpAny_holding (yO hne n (i+1) _ _ hit1 (ht.at fun o e=>hs1.extBut _ o hne e) (by omega) fun h2 hit2 hs2=>wpAny_pure ?_))
  have hd:items.toList.drop i=items[i]::items.toList.drop (i+1):=by simp [List.drop_eq_getElem_cons,hlt]
  have:=hQ h2 (by rw [show i+(n+1)=i+1+n by omega];exact hit2) (hs1.trans hs2)
  rw [hd,List.take_succ_cons] at this
  exact this
theorem rM {t:Addr}{items:Array Value}{Q:List Value→Shared→Prop}(hh:A.handled=none)(ht:s.heap.IsList t items)
  (hQ:∀ h',Heap.ExtBut s.heap.objs.size s.heap h'→Q items.toList { s with heap:=h' }):wpAny (model prog w) A (unpackItems (.ref t) items.size none) Q E s:=by
 have hlt:t≠s.heap.objs.size:=by obtain ⟨o,ho,_⟩:=ht;exact Nat.ne_of_lt (Heap.lt_size ho)
 unfold unpackItems
 refine wpAny_bind ?_
 ·unfold notIterableAtAll
  refine wpAny_bind (wpAny_specialOf ht.typeIs slot_list_iter.lookup ?_)
  refine wpAny_pure ?_
  simp only [Bool.false_eq_true,if_false]
  refine wpAny_bind (wpAny_holding (wpAny_pyIter_list ht ?_))
  refine wpAny_bind (wpAny_holding (yO hlt items.size 0 _ _ ⟨_,Heap.get?_push_size _ rfl,rfl,rfl⟩ (ht.at fun o e=>Heap.get?_push_of_some _ e) (by omega) fun h1 hit1 hs1=>?_))
  have hall:List.take items.size (List.drop 0 items.toList)=items.toList:=by
   rw [List.drop_zero];exact List.take_of_length_le (by simp)
  rw [hall]
  rw [if_neg (by simp)]
  have ht1:h1.IsList t items:=ht.at fun o e=>hs1.extBut _ o hlt (Heap.get?_push_of_some _ e)
  refine wpAny_bind (wpAny_holding (wpAny_pyNext_list_end hh hit1 ht1 (by simp) fun h2 he2=>?_))
  simp only [Option.isSome_none,Bool.false_eq_true,if_false]
  refine wpAny_pure (hQ h2 fun b o hb e=>he2 b o hb (hs1.extBut b o hb (Heap.get?_push_of_some _ e)))
theorem qD {env:Env}{elts:List Expr}{x1}{pos:Pos}{t:Addr}{items:Array Value}{Q:Unit→Shared→Prop}(hh:A.handled=none)(ht:s.heap.IsList t items)
  (hn:(assignEach elts env).length=items.size) (hstar:(assignEach elts env).findIdx? (·.1)=none)
  (h:∀ h',Heap.ExtBut s.heap.objs.size s.heap h'→wpAny (model prog w) A (assignInOrder ((assignEach elts env).map (·.2)) items.toList) Q E { s with heap:=h' }) :
  wpAny (model prog w) A (assign (.Tuple elts x1 pos) env (.ref t)) Q E s:=by
 rw [assign_Tuple]
 refine wpAny_bind (wpAny_standAt ?_)
 unfold unpack
 rw [hn,hstar]
 exact wpAny_bind (wpAny_holding (rM hh ht h))
end
section
variable {X:Cx}{pos:Pos}
def gTup2 (K:PySem.W.Frag)(n:Nat)(t:TGs):TG:=fun v σ H Q=>∃ a xs,v=.ref a∧(SqT K H a xs∨SqL K H a xs)∧xs.length=n∧t xs σ H Q
theorem pg_tup2 {es:List Expr}{k:Nat}{t:TGs}{n:Nat}(hc:X.calm=true)(h:PGs X es t)
  (hn:(assignEach es X.env).length=n:=by rfl) (hst:(assignEach es X.env).findIdx? (·.1)=none:=by rfl):PG X (.Tuple es k pos) (gTup2 X.K n t):=by
 intro pins s σ H v u Q I r hw
 obtain ⟨a,xs,e1,hq,hl,hw⟩:=hw
 subst e1
 cases r
 rcases hq with hq | hq
 ·obtain ⟨its,rv,ht,hz⟩:=I.tuple hq
  refine assign_Tuple_tuple (I.ok.hd hc) ht (by simp [hn,←hl,rv.length]) hst fun h' hx=>?_
  have I1:Inv X pins σ H { s with heap:=h' }:=I.kept (t':=s.toks) fun b o e=>hx b o (Nat.ne_of_lt (Heap.lt_size e)) e
  exact h pins _ σ H xs _ Q I1 (by simpa using rv) hw
 ·obtain ⟨its,rv,ht,hz⟩:=I.list hq
  refine qD (I.ok.hd hc) ht.isList (by simp [hn,←hl,rv.length]) hst fun h' hx=>?_
  have I1:Inv X pins σ H { s with heap:=h' }:=I.kept (t':=s.toks) fun b o e=>hx b o (Nat.ne_of_lt (Heap.lt_size e)) e
  exact h pins _ σ H xs _ Q I1 (by simpa using rv) hw
def pX (n:Nat)(g:MGs):MG:=fun w σ h N=>match w with
 | .tup ws=>by2 (Nat.beq ws.length n) (g ws σ h N) False
 | .lst ws=>by2 (Nat.beq ws.length n) (g ws σ h N) False
 | .loc j=>(match h.c j with
  | some (.lst ws)=>by2 (Nat.beq ws.length n) (g ws σ h N) False
  | _=>False)
 | _=>False
theorem iG {es:List Expr}{k:Nat}{g:MGs}{n:Nat}(hc:X.calm=true)(h:DGss X es g)(hn:(assignEach es X.env).length=n:=by rfl)(hst:(assignEach es X.env).findIdx? (·.1)=none:=by rfl):DG X (.Tuple es k pos) (pX n g):=
 (pg_tup2 (n:=n) hc h hn hst).of fun v σ H N ⟨μ,h,σw,w,Nw,R,S,r,m,k⟩=>by
  cases w with
  | tup ws=>
   rw [Rep] at r
   obtain ⟨p,xs,e1,hs,hr⟩:=r
   have m:by2 (Nat.beq ws.length n) (g ws σw h Nw) False:=m
   cases en:Nat.beq ws.length n with
   | true=>rw [en] at m;exact ⟨p,xs,e1,.inl hs,by rw [←hr.len];exact Nat.eq_of_beq_eq_true en,μ,h,σw,ws,Nw,R,S,hr,m,k⟩
   | false=>rw [en] at m;exact (show False from m).elim
  | lst ws=>
   rw [Rep] at r
   obtain ⟨p,xs,e1,hs,hr⟩:=r
   have m:by2 (Nat.beq ws.length n) (g ws σw h Nw) False:=m
   cases en:Nat.beq ws.length n with
   | true=>rw [en] at m;exact ⟨p,xs,e1,.inr hs.sq,by rw [←hr.len];exact Nat.eq_of_beq_eq_true en,μ,h,σw,ws,Nw,R,S,hr,m,k⟩
   | false=>rw [en] at m;exact (show False from m).elim
  | loc j=>
   have m:(match h.c j with
    | some (.lst ws)=>by2 (Nat.beq ws.length n) (g ws σw h Nw) False
    | _=>False):=m
   split at m
   ·rename_i ws ec
    obtain ⟨p,xs,e1,hs,hr⟩:=dJ R r (show fu h (.loc j)=some ws by simp only [fu,ec])
    cases en:Nat.beq ws.length n with
    | true=>rw [en] at m;exact ⟨p,xs,e1,.inr hs,by rw [←hr.len];exact Nat.eq_of_beq_eq_true en,μ,h,σw,ws,Nw,R,S,hr,m,k⟩
    | false=>rw [en] at m;exact (show False from m).elim
   ·exact m.elim
  | _=>exact m.elim
end
end L2
namespace L2
open PySem PySem.Spec PyProof.Rows
section
variable {K:PySem.W.Frag}{H:Hp}{μ : Mu}{h:Gh}{p:Addr}{ws:List W}{xs:List V}
end
def thaw (Q:WK):WK:=fun w h=>match w with
 | .lst ws=>Q (.loc h.nx) (h.new (.lst ws))
 | _=>False
def mLCM (own:W→Option (List W))(ix:List Nat)(mi:MI)(tt:MT)(te:ME):ME:=fun σ h Q=>mLC own ix mi tt te σ h (thaw Q)
section
variable {X:Cx}{tg iter elt:Expr}{ifs:List Expr}{pos:Pos}{scope:Scope}{xs:List Str}{mi:MI}{tt:MT}{te:ME}
end
end L2
namespace L2
open PySem PySem.Spec PyProof.Rows
def isStar:Expr→Bool
 | .Starred _ _=>true
 | _=>false
theorem aj {e:Expr}{es:List Expr}{env:Env}(h:isStar e=false):starEach (e::es) env=(false,eval e env)::starEach es env:=by
 cases e <;> first | rfl | cases h
theorem fQ {e:Expr}{env:Env}(h:isStar e=false):starEach [e] env=[(false,eval e env)]:=(aj h).trans rfl
def noStar:List Expr→Bool
 | []=>true
 | e::r=>!isStar e&&noStar r
theorem aq {pos:Pos}{env:Env}:∀ {es:List Expr},noStar es=true→(backTo pos (starEach es env)).any (·.1)=false
 | [],_=>rfl
 | e::r,h=>by
  rw [noStar,Bool.and_eq_true,Bool.not_eq_true'] at h
  rw [aj h.1]
  show (false||(backTo pos (starEach r env)).any (·.1))=false
  rw [aq h.2]
  rfl
theorem few_1 {cpos:Pos}{e:Expr}{env:Env}(h:isStar e=false):((backTo cpos (starEach [e] env)).all (fun x=>!x.1)&&(backToKw cpos (keywordEach [] env)).all (fun x=>x.1.isSome)
   && decide (([e]:List Expr).length+([]:List Keyword).length+(if ([]:List Keyword).isEmpty then 0 else 1)<30))=true:=by
 rw [fQ h];rfl
end L2
namespace L2
open PySem PySem.Spec PyProof.Rows
section
variable {prog:Program}{w:World}{A:Around}{E:Value→Shared→Prop}{s:Shared}
open HT in
theorem mX {t sl:Addr}{items:Array Value}{vl vu:Value}{lo hi:Option Int}{Q:Value→Shared→Prop}(ht:IsTup s.heap t items)(hs:s.heap.IsSliceOf sl vl vu .none)(pl:IsPart vl lo)(pu:IsPart vu hi)
  (h0:sIx items.size 0 lo=0) (h1:sIx items.size items.size hi=items.size) (h:Q (.ref t) s):wpAny (model prog w) A (getItem (.ref t) (.ref sl)) Q E s:=by
 obtain ⟨os,hos,hcs,hds⟩:=id hs
 have hTs:s.TypeIs (.ref sl) "slice":=⟨os,hos,hcs⟩
 unfold getItem
 try with_reducible refine wpAny_holding ?_
 first | refine wpAny_bind (wpAny_pure ?_) | skip
 refine wpAny_bind (wpAny_sequenceKey ht.typeIs (by decide) ?_)
 refine wpAny_bind (wpAny_callSpecial?_slot (name:=Str.ofString "__getitem__") ht.typeIs PyProof.Rows.slot_tuple_getitem
  (wpAny_call_entry PyProof.Rows.slot_tuple_getitem ht.typeIs entry_tuple_getitem ?_ (args_tuple_getitem _ _)))
 show wpAny _ _ (Builtin.Tuple.tupleItemsOf (.ref t) >>= _) _ _ s
 refine wpAny_bind (tupleItemsOf_ ht ?_)
 refine wpAny_bind (wpAny_typeOf hTs ?_)
 rw [if_pos (by decide)]
 refine wpAny_bind (jX hs pl pu ?_)
 have hyes:((((sIx items.size 0 lo:Nat):Int)==0&&(1:Int)==1&&(sIx items.size items.size hi - sIx items.size 0 lo)==items.size)=true):=by
  rw [h0,h1]
  simp
 show wpAny _ _ (if (((sIx items.size 0 lo:Nat):Int)==0&&(1:Int)==1&&(sIx items.size items.size hi - sIx items.size 0 lo)==items.size)=true then _ else _) _ _ s
 rw [if_pos hyes]
 unfold Builtin.Tuple.tupleIsExact
 refine wpAny_bind (wpAny_bind (wpAny_typeOf ht.typeIs (wpAny_pure ?_)))
 rw [if_pos (by decide)]
 refine wpAny_bind (wpAny_rule ?_)
 first
  | exact wpAny_pure ⟨_,rfl,wpAny_pure h⟩
  | exact wpAny_bind (wpAny_pure (wpAny_pure ⟨_,rfl,wpAny_pure h⟩))
end
section
variable {X:Cx}
def rSlW (K:PySem.W.Frag):V→Option Int→Option Int→Hp→VK→Prop:=fun x lo hi H Q=>∃ a xs,x=.ref a∧SqT K H a xs ∧
 HT.sIx xs.length 0 lo=0∧HT.sIx xs.length xs.length hi=xs.length∧Q x H
theorem sl_whole:SlR X (rSlW X.K):=by
 intro pins s σ H x v vl vu lo hi sl Q I rx hs pl pu h
 obtain ⟨a,xs,rfl,hx,h0,h1,q⟩:=h
 cases rx
 obtain ⟨its,r,ht,hz⟩:=I.tuple hx
 have hlen:its.toArray.size=xs.length:=by rw [List.size_toArray];exact r.length.symm
 refine ⟨"tuple",_,PyProof.Rows.slot_tuple_getitem.lookup,ht.typeIs,?_⟩
 refine mX ht hs pl pu (by rw [hlen];exact h0) (by rw [hlen];exact h1) ?_
 exact ⟨.ref a,H,I,rfl,q⟩
def xr (x:W)(lo hi:Option Int)(h:Gh)(Q:WK):Prop:=match x with
 | .tup ws=>Q (.tup (cutW ws lo hi)) h
 | x=>(match fu h x with
  | some ws=>Q (.lst (cutW ws lo hi)) h
  | none=>False)
theorem oJ {e:Expr}{lo hi:Option Expr}{ma:ME}{ml mh:MO}{p2 pos:Pos}(he:DE X e ma)(hl:DO X lo ml)(hu:DO X hi mh):DE X (.Subscript e (.Slice lo hi none p2) pos) (mSl xr ma ml mh):=
 (pe_slice (SlR.or (SlR.or sl_list sl_tup) sl_whole) he hl hu).of fun σ H Q ⟨μ,h,σw,Qw,R,S,m,k⟩=>by
  refine ⟨μ,h,σw,_,R,S,m,fun x H1 ⟨μ1,wx,h1,e1,R1,r1,m1⟩=>?_⟩
  refine ⟨μ1,h1,σw,_,R1,S.ext e1,m1,fun lo H2 ⟨μ2,h2,e2,R2,m2⟩=>?_⟩
  refine ⟨μ2,h2,σw,_,R2,(S.ext e1).ext e2,m2,fun hi H3 ⟨μ3,h3,e3,R3,m3⟩=>?_⟩
  have e13:=(e1.trans e2).trans e3
  have r3:=e3.r _ _ (e2.r _ _ r1)
  have oth:∀ wy,Rep X.K H3 μ3 wy x→(match fu h3 wy with
    | some ws=>Qw (.lst (cutW ws lo hi)) h3
    | none=>False)→∃ p xs,x=.ref p∧SqL X.K H3 p xs∧∀ l,H3 l=none→Q (.ref l) (upd H3 l (.lst (cutV xs lo hi))):=by
   intro wy ry my
   split at my
   ·rename_i ws ev
    obtain ⟨p,xs,ex,hs,rs⟩:=dJ R3 ry ev
    exact ⟨p,xs,ex,hs,fun l hl=>k _ _ ⟨μ3,_,h3,e13.trans (Ex.laid hl).ext,R3.laid hl,.lstNew R3 hl (rs.cutv lo hi),my⟩⟩
   ·exact my.elim
  cases wx with
  | tup ws=>
   have m3:Qw (.tup (cutW ws lo hi)) h3:=m3
   have r30:=r3
   rw [Rep] at r3
   obtain ⟨p,xs,ex,hx,rs⟩:=r3
   have hl:=rs.len
   by_cases hw:HT.sIx xs.length 0 lo=0∧HT.sIx xs.length xs.length hi=xs.length
   ·have ec:cutW ws lo hi=ws:=by
     unfold cutW
     rw [hl,hw.1,hw.2,List.drop_zero,Nat.sub_zero,←hl,List.take_length]
    rw [ec] at m3
    exact .inr ⟨p,xs,ex,hx,hw.1,hw.2,k _ _ ⟨μ3,.tup ws,h3,e13,R3,r30,m3⟩⟩
   ·exact .inl (.inr ⟨p,xs,ex,hx,hw,fun q hq=>k _ _ ⟨μ3,.tup (cutW ws lo hi),h3,e13.trans (Ex.laid hq).ext,R3.laid hq,.tupNew hq (rs.cutv lo hi),m3⟩⟩)
  | _=>exact .inl (.inl (oth _ r3 m3))
end
end L2
namespace L2
open PySem PySem.Spec PyProof.Rows
section
variable {X:Cx}
def kInt:MC:=fun ws h Q=>match ws with
 | [.int i]=>Q (.int i) h
 | [.bl b]=>Q (.int (if b then 1 else 0)) h
 | _=>False
def kIndex:MM:=fun x ws h Q=>match ws with
 | [.int k]=>(match fu h x with
  | some us=>∃ (ns:List Int) (j:Nat),us=ns.map W.int∧ns[j]?=some k∧(∀ m,m<j→ns[m]?≠some k)∧Q (.int j) h
  | none=>False)
 | _=>False
theorem vG {K:PySem.W.Frag}{H:Hp}{μ : Mu}:∀ {ns:List Int} {xs:List V},aX K H μ (ns.map W.int) xs→xs=ns.map V.int
 | [],xs,r=>by rw [List.map_nil,aX] at r;exact r
 | n::ns,xs,r=>by
  rw [List.map_cons,aX] at r
  obtain ⟨v,vs,e,rv,r⟩:=r
  rw [Rep] at rv
  rw [e,rv,vG r];rfl
def vH (h:Gh)(w:W)(P:Prop):Prop:=match fu h w with
 | some _=>P
 | none=>False
theorem zH {K:PySem.W.Frag}{H:Hp}{μ : Mu}{h:Gh}{w:W}{v:V}{P:Prop}(R:Rel K μ H h)(r:Rep K H μ w v)(e:vH h w P):tyV K "list" v H∧P:=by
 unfold vH at e
 split at e
 ·rename_i us ev
  obtain ⟨p,xs,ex,hs,_⟩:=dJ R r ev
  subst ex
  exact ⟨.inl ⟨rfl,xs,hs⟩,e⟩
 ·exact e.elim
def mBMl (r:MM)(mo:ME)(ma:MA):ME:=fun σ h Q=>mo σ h fun x h1=>vH h1 x (ma σ h1 fun xs h2=>r x xs h2 Q)
end
end L2
namespace L2
open PySem PySem.Spec PyProof.Rows
section
variable {X:Cx}
end
end L2
namespace L2
open PySem PySem.Spec PyProof.Rows
section
variable {X:Cx}
def mBits (mo:ME):ME:=fun σ h Q=>mo σ h fun x h1=>match x with
 | .int i=>Q (.int (Builtin.Int.intBits i:Nat)) h1
 | _=>False
theorem call_max1 (hc:X.calm=true):jt X (.builtin "max") (fun xs H Q=>∃ (p:Addr) (ns:List Int),xs=[.ref p]∧SqL X.K H p (ns.map V.int)∧0<ns.length∧∀ M,M∈ns→(∀ a,a∈ns→a≤M)→Q (.int M) H):=by
 intro pins s σ H xs us Q I r ⟨p,ns,e,hS,hne,q⟩
 subst e
 obtain ⟨u,rfl,ru⟩:=vals1 r
 cases ru
 obtain ⟨its,rv,pl,hz⟩:=I.list hS
 have hlen:its.length=ns.length:=by rw [←rv.length,List.length_map]
 have all:AllInts its.toArray:=fun v hv=>by
  obtain ⟨i,hi,e⟩:=Array.mem_iff_getElem.mp hv
  obtain ⟨t,e2⟩:=wI (i:=i) (v:=v) rv (by rw [←e];simp at hi ⊢)
  exact ⟨_,t,e2⟩
 obtain ⟨ys,ey⟩:=all.items
 have hl:=pl.isList
 rw [ey] at hl
 have hys:ys.size=ns.length:=by
  have:=congrArg Array.size ey
  simp [intItems] at this
  omega
 have num:∀ i,i<ns.length→numAt ys i=ns.getD i 0:=fun i hi=>by
  obtain ⟨t,e2⟩:=wI (i:=i) (v:=its[i]'(by omega)) rv (List.getElem?_eq_getElem (by omega))
  have e3:(intItems ys)[i]?=some (its[i]'(by omega)):=by rw [←ey];simp
  obtain ⟨t',e4⟩:=intItems_at e3
  rw [e2] at e4
  injection e4 with e5 _
  exact e5.symm
 refine max_intList (I.ok.hd hc) hl (by omega) fun v h' tk hv hk=>?_
 obtain ⟨t,rfl⟩:=intItems_at hv
 obtain ⟨h1,h2⟩:=argBest_gt (numAt ys) (ys.size - 1)
 refine ⟨.int _,H,I.kept (h':=h') (t':=tk) hk,⟨t,rfl⟩,q _ ?_ fun a ha=>?_⟩
 ·rw [num _ (by omega),List.getD_eq_getElem?_getD,List.getElem?_eq_getElem (by omega)]
  exact List.getElem_mem _
 ·obtain ⟨j,hj,e⟩:=List.mem_iff_getElem.mp ha
  have:=h2 j (by omega)
  rw [num j hj,List.getD_eq_getElem?_getD,List.getElem?_eq_getElem hj] at this
  rw [←e]
  exact this
def kMaxA:MC:=fun ws h Q=>match ws with
 | [.int i,.int j]=>Q (.int (if j>i then j else i)) h
 | [w]=>(match fu h w with
  | some us=>∃ ns:List Int,us=ns.map W.int∧0<ns.length∧∀ M,M∈ns→(∀ a,a∈ns→a≤M)→Q (.int M) h
  | none=>False)
 | _=>False
theorem c_maxA (hc:X.calm=true):qz X (.builtin "max") kMaxA:=⟨_,jt.or (zJ hc) (call_max1 hc),by
 intro H μ h vs ws Qw Q R r m k
 unfold kMaxA at m
 split at m
 ·rename_i i j
  rw [aX] at r
  obtain ⟨v,vs',e,rv,r⟩:=r
  rw [aX] at r
  obtain ⟨v2,vs2,e2,rv2,r⟩:=r
  rw [aX] at r
  rw [Rep] at rv rv2
  subst e e2 rv rv2 r
  exact .inl ⟨i,j,rfl,k _ _ (.int R m)⟩
 ·split at m
  ·rename_i w us ev
   obtain ⟨v,e,rv⟩:=nR r
   obtain ⟨p,ys,ex,hs,rs⟩:=dJ R rv ev
   obtain ⟨ns,eu,hne,m⟩:=m
   subst e ex
   rw [eu] at rs
   have:=vG rs
   subst this
   exact .inr ⟨p,ns,rfl,hs,hne,fun M hM ha=>k _ _ (.int R (m M hM ha))⟩
  ·exact m.elim
 ·exact m.elim⟩
end
end L2
namespace L2
open PySem PySem.Spec PyProof.Rows
def XO (h:Heap)(P:Addr→Prop)(e C:Addr)(od:Option Addr):Prop:=P e∧∃ (oe:Obj) (vs:Array Value),h.get? e=some oe∧oe.cls=.ref C∧oe.dict=od∧oe.data=.fields vs∧vs.size≤1000∧vs[2]?=some .none ∧
 (vs[1]?=some .none∨∃ (T:Addr) (oT:Obj) (ts:Array Value),vs[1]?=some (.ref T)∧T≠e∧P T∧h.get? T=some oT∧oT.data=.fields ts∧3<ts.size)
def XN (h:Heap)(P:Addr→Prop)(e C:Addr)(od:Option Addr):Prop:=P e∧∃ (oe:Obj) (vs:Array Value),h.get? e=some oe∧oe.cls=.ref C∧oe.dict=od∧oe.data=.fields vs∧vs.size≤1000∧vs[2]?=some .none ∧
 ∃ (T:Addr) (oT:Obj) (ts:Array Value),vs[1]?=some (.ref T)∧T≠e∧P T∧h.get? T=some oT∧oT.data=.fields ts∧3<ts.size
structure Stp (P:Addr→Prop) (fs:List Addr) (h h':Heap):Prop where
 keep:∀ b o,¬ P b→b∉fs→h.get? b=some o→h'.get? b=some o
 slot:∀ b o,¬ P b→h.get? b=some o→∃ sl,h'.get? b=some { o with slots:=sl }
 there:∀ b o,h.get? b=some o→∃ o',h'.get? b=some o'
section
variable {M:Model}{A:Around}{E:Value→Shared→Prop}{s:Shared}{P:Addr→Prop}{e C:Addr}{od:Option Addr}
end
end L2
namespace L2
open PySem PySem.Spec PyProof.Rows
section
variable {X:Cx}{pins:List (Addr×Obj)}{σ : St}{H H':Hp}{s s':Shared}{b e C:Addr}{od:Option Addr}
structure New (X:Cx) (pins:List (Addr×Obj)) (H:Hp) (b:Addr):Prop where
 h:H b=none
 s:b∈X.ex∨X.s₀.heap.get? b=none
 l:b≠X.env.locals
 c:∀ x c,X.env.cells.lookup x=some c→c≠b
 p:∀ p∈X.pn++pins,p.1≠b
 f:b∉X.fs
structure FX (X:Cx) (pins:List (Addr×Obj)) (σ : St) (H:Hp) (s:Shared) (e C:Addr) (od:Option Addr):Prop where
 inv:Inv X pins σ H s
 xo:XO s.heap (New X pins H) e C od
structure FN (X:Cx) (pins:List (Addr×Obj)) (σ : St) (H:Hp) (s:Shared) (e C:Addr) (od:Option Addr):Prop where
 inv:Inv X pins σ H s
 xn:XN s.heap (New X pins H) e C od
end
section
variable {X:Cx}{pins:List (Addr×Obj)}{σ : St}{H:Hp}{s:Shared}{C:Addr}{x:Str}{np cpos pos:Pos}{e:Expr}{es:List Expr}{t:TA}
end
end L2
namespace L2
open PySem PySem.Spec PyProof.Rows
section
variable {X:Cx}{Γ : St→Prop}{e c:Expr}{es:List Expr}{mr:MA}{pos:Pos}{st:Stmt}{rest:List Stmt}
end
end L2
namespace L2
open PySem PySem.Spec PyProof.Rows
section
variable {X:Cx}{pins pins':List (Addr×Obj)}{σ : St}{H:Hp}{s:Shared}{xe:Value→Shared→Prop}{a C:Addr}{o:Obj}{u:HO}
end
end L2
namespace L2
open PySem PySem.Spec PyProof.Rows
section
variable {prog:Program}{w:World}{A:Around}{E:Value→Shared→Prop}{s:Shared}{K:PySem.W.Frag}{x D:Addr}{ox:Obj}
end
def isX (n d:Str):Bool:=n==d||d == "EaselError"
section
variable {K:PySem.W.Frag}{C D:Addr}{n d:Str}
def CsOk (K:PySem.W.Frag)(v:V)(f:Str→Bool):Prop:=∀ (u:Value),RelV v u→∀ (C:Addr) (n:Str),xcIn K C n=true→PySem.W.kitOne K (.ref C) u=some (f n)
end
end L2
namespace L2
open PySem PySem.Spec PyProof.Rows
def cC.lost (D:cC):cC:={ D with nx:=fun σ h=>D.nx (σ.map fun _=>none) h,bk:=fun σ h=>D.bk (σ.map fun _=>none) h,ct:=fun σ h=>D.ct (σ.map fun _=>none) h }
def excW (x:Xw):W:=match x.fs with
 | []=>.exc x.cls
 | f::fs=>.exa x.cls ((f::fs).map (·.2))
def mTry (i:Nat)(d:Str)(mb:XWK→MS)(mh:MS):MS:=fun D σ h=>mb (fun x h'=>by2 (isX x.cls d) (mh D.lost (σ.set i (some (excW x))) h') False) D σ h
section
variable {X:Cx}{body:List Stmt}{b₀ : Stmt}{suite:List Stmt}{y d:Str}{np hpos pos:Pos}{i:Nat}{D:Addr}{mb:XWK→MS}{mh:MS}
end
end L2
namespace L2
open PySem PySem.Spec PyProof.Rows
section
variable {X:Cx}{a:Expr}{ma:ME}{pos p:Pos}
def mIsX (f:Str→Bool)(m:ME):ME:=fun σ h Q=>m σ h fun w h1=>match w with
 | .exc n=>Q (.bl (f n)) h1
 | .exa n _=>Q (.bl (f n)) h1
 | _=>False
inductive PCs (X:Cx):List Expr→List V→(Str→Bool)→Prop
 | nil:PCs X [] [] (fun _=>false)
 | cons {e:Expr} {es:List Expr} {v:V} {vs:List V} {f g:Str→Bool}:PE X e (tC v)→CsOk X.K v f→PCs X es vs g→starEach (e::es) X.env=(false,eval e X.env)::starEach es X.env→PCs X (e::es) (v::vs) (fun n=>f n||g n)
end
section
variable {X:Cx}{tg elt:Expr}{ifs:List Expr}{scope:Scope}{xs:List Str}{tt:MT}{te:ME}{pos p ppos:Pos}
end
end L2
namespace L2
open PySem PySem.Spec PyProof.Rows
section
variable {prog:Program}{w:World}{A:Around}{E:Value→Shared→Prop}{s:Shared}
end
section
variable {X:Cx}
end
end L2
namespace L2
open PySem PySem.Spec PyProof.Rows
section
variable {X:Cx}{K:PySem.W.Frag}{o e:Expr}{mo:ME}{ma:MA}{apos cpos:Pos}
def kClear:MM:=fun x ws h Q=>match x,ws with
 | .loc n,[]=>(match h.c n with
  | some (.lst _)=>Q .non (h.set n (.lst []))
  | _=>False)
 | _,_=>False
variable {H:Hp}{pins:List (Addr×Obj)}{s:Shared}{σ : St}
mutual
theorem Dt_uniq (I:Inv X pins σ H s):∀ {w u:W} {v:V},Dt X.K H w v→Dt X.K H u v→w=u
 | .non,u,v,h,g=>by rw [Dt] at h;subst h;cases u <;> rw [Dt] at g <;> first | rfl | exact g.elim | (obtain ⟨_,_,g,_⟩:=g;cases g;done) | (cases g;done)
 | .bl b,u,v,h,g=>by rw [Dt] at h;subst h;cases u <;> rw [Dt] at g <;> first | (injection g with g;rw [g];done) | exact g.elim | (obtain ⟨_,_,g,_⟩:=g;cases g;done) | (cases g;done)
 | .int b,u,v,h,g=>by rw [Dt] at h;subst h;cases u <;> rw [Dt] at g <;> first | (injection g with g;rw [g];done) | exact g.elim | (obtain ⟨_,_,g,_⟩:=g;cases g;done) | (cases g;done)
 | .str b,u,v,h,g=>by rw [Dt] at h;subst h;cases u <;> rw [Dt] at g <;> first | (injection g with g;rw [g];done) | exact g.elim | (obtain ⟨_,_,g,_⟩:=g;cases g;done) | (cases g;done)
 | .tup ws,u,v,h,g=>by
  rw [Dt] at h
  obtain ⟨p,xs,e,hs,ds⟩:=h
  subst e
  cases u with
  | tup us=>
   rw [Dt] at g
   obtain ⟨p',xs',e',hs',ds'⟩:=g
   cases e'
   have:=I.tuple_inj hs hs'
   subst this
   rw [yE I ds ds']
  | lst us=>
   rw [Dt] at g
   obtain ⟨p',xs',e',hs',ds'⟩:=g
   cases e'
   obtain ⟨_,_,t,_⟩:=I.tuple hs
   obtain ⟨_,_,l,_⟩:=I.list hs'
   exact absurd rfl (SeqAt.ne_of_list_tuple l.isList (show s.heap.IsTuple _ _ from t))
  | ty _=>rw [Dt] at g;exact g.elim
  | loc _=>rw [Dt] at g;exact g.elim
  | kls _=>rw [Dt] at g;exact g.elim
  | exc _=>rw [Dt] at g;exact g.elim
  | exa _ _=>rw [Dt] at g;exact g.elim
  | _=>rw [Dt] at g;cases g
 | .lst ws,u,v,h,g=>by
  rw [Dt] at h
  obtain ⟨p,xs,e,hs,ds⟩:=h
  subst e
  cases u with
  | lst us=>
   rw [Dt] at g
   obtain ⟨p',xs',e',hs',ds'⟩:=g
   cases e'
   have:=I.list_inj hs hs'
   subst this
   rw [yE I ds ds']
  | tup us=>
   rw [Dt] at g
   obtain ⟨p',xs',e',hs',ds'⟩:=g
   cases e'
   obtain ⟨_,_,t,_⟩:=I.tuple hs'
   obtain ⟨_,_,l,_⟩:=I.list hs
   exact absurd rfl (SeqAt.ne_of_list_tuple l.isList (show s.heap.IsTuple _ _ from t))
  | ty _=>rw [Dt] at g;exact g.elim
  | loc _=>rw [Dt] at g;exact g.elim
  | kls _=>rw [Dt] at g;exact g.elim
  | exc _=>rw [Dt] at g;exact g.elim
  | exa _ _=>rw [Dt] at g;exact g.elim
  | _=>rw [Dt] at g;cases g
 | .ty _,_,_,h,_=>by rw [Dt] at h;exact h.elim
 | .kls _,_,_,h,_=>by rw [Dt] at h;exact h.elim
 | .loc _,_,_,h,_=>by rw [Dt] at h;exact h.elim
 | .exc _,_,_,h,_=>by rw [Dt] at h;exact h.elim
 | .exa _ _,_,_,h,_=>by rw [Dt] at h;exact h.elim
theorem yE (I:Inv X pins σ H s):∀ {ws us:List W} {vs:List V},Dts X.K H ws vs→Dts X.K H us vs→ws=us
 | [],us,vs,h,g=>by
  have e:vs=[]:=by rw [Dts] at h;exact h
  subst e
  cases us with
  | nil=>rfl
  | cons u us=>rw [Dts] at g;obtain ⟨_,_,e,_⟩:=g;cases e
 | w::ws,us,vs,h,g=>by
  rw [Dts] at h
  obtain ⟨v,vs',e,d,ds⟩:=h
  subst e
  cases us with
  | nil=>
   have e:v::vs'=[]:=by rw [Dts] at g;exact g
   cases e
  | cons u us=>
   rw [Dts] at g
   obtain ⟨v2,vs2,e2,d2,ds2⟩:=g
   cases e2
   rw [Dt_uniq I d d2,yE I ds ds2]
end
theorem vY {α β : Type}{p:α→Bool}{q:β→Bool}:∀ {xs:List α} {ys:List β},xs.length=ys.length→(∀ a b,(a,b)∈xs.zip ys→p a=q b)→xs.countP p=ys.countP q
 | [],[],_,_=>rfl
 | [],_::_,h,_=>by cases h
 | _::_,[],h,_=>by cases h
 | a::xs,b::ys,h,e=>by
  rw [List.countP_cons,List.countP_cons,vY (Nat.succ.inj h) fun a' b' m=>e a' b' (by rw [List.zip_cons_cons];exact List.mem_cons_of_mem _ m),e a b (by rw [List.zip_cons_cons];exact List.mem_cons_self)]
theorem zip_dt:∀ {us:List W} {xs:List V} {its:List Value},Dts X.K H us xs→Vals xs its→∀ a u,(a,u)∈its.zip us→∃ v,RelV v a∧Dt X.K H u v∧u∈us
 | [],_,its,_,_,a,u,m=>by rw [List.zip_nil_right] at m;exact absurd m (by simp)
 | w::us,xs,its,d,r,a,u,m=>by
  rw [Dts] at d
  obtain ⟨v,vs,e,d1,ds⟩:=d
  subst e
  cases r with
  | cons r1 rs=>
   rw [List.zip_cons_cons] at m
   rcases List.mem_cons.mp m with m | m
   ·cases m
    exact ⟨v,r1,d1,List.mem_cons_self⟩
   ·obtain ⟨v',q1,q2,q3⟩:=zip_dt ds rs a u m
    exact ⟨v',q1,q2,List.mem_cons_of_mem _ q3⟩
theorem vA {α β : Type}:∀ {xs:List α} {ys:List β},xs.length=ys.length→∀ a∈xs,∃ b,(a,b)∈xs.zip ys
 | [],_,_,a,m=>absurd m (by simp)
 | _::_,[],h,_,_=>by cases h
 | x::xs,y::ys,h,a,m=>by
  rw [List.zip_cons_cons]
  rcases List.mem_cons.mp m with rfl | m
  ·exact ⟨y,List.mem_cons_self⟩
  ·obtain ⟨b,q⟩:=vA (Nat.succ.inj h) a m
   exact ⟨b,List.mem_cons_of_mem _ q⟩
def rCount (K:PySem.W.Frag):V→List V→Hp→VK→Prop:=fun x vs H Q=>∃ (l:Addr) (y:V) (xs:List V) (us:List W) (w:W),x=.ref l∧vs=[y]∧SqL K H l xs∧Dts K H us xs∧Dt K H w y∧us.all (plW 20)=true∧plW 20 w=true∧Q (.int (us.countP fun u=>eqW u w)) H
theorem mt_count (hu:X.A.units+30<cLine):MtR X "list.count" (rCount X.K):=by
 intro pins s σ H x vs v us' Q I rx rv h
 obtain ⟨l,y,xs,us,w,rfl,rfl,hx,hd,hw,pl1,pl2,q⟩:=h
 cases rx
 obtain ⟨b,rfl,rb⟩:=rv.one
 obtain ⟨its,r,pl,hz⟩:=I.list hx
 obtain ⟨⟨cl,dd,da,sl⟩,n,e,c1,c2,c3⟩:=pl
 simp only at c1 c2 c3
 subst c1 c2 c3
 have hl:its.length=us.length:=by rw [←r.length,hd.len]
 let ev:Value→Bool:=fun a=>@decide (∃ u,(a,u)∈its.zip us∧eqW u w=true) (Classical.propDecidable _)
 have hev:∀ a u,(a,u)∈its.zip us→ev a=eqW u w:=by
  intro a u m
  cases c:eqW u w with
  | true=>exact (@decide_eq_true_iff _ (Classical.propDecidable _)).mpr ⟨u,m,c⟩
  | false=>
   refine (@decide_eq_false_iff_not _ (Classical.propDecidable _)).mpr fun ⟨u2,m2,c2⟩=>?_
   obtain ⟨v1,r1,d1,_⟩:=zip_dt hd r a u m
   obtain ⟨v2,r2,d2,_⟩:=zip_dt hd r a u2 m2
   have ev:v1=v2:=r1.inj r2
   subst ev
   rw [Dt_uniq I d1 d2,c2] at c
   cases c
 refine call_meets F.slot_list_count ⟨_,e,rfl⟩ F.entry_list_count (F.args_list_count_2 _ _) (SeqAt.list_countAt l its.toArray n none sl b ev) ⟨e,?_,?_⟩
 ·intro a ha
  have ha':a∈its:=by simpa using ha
  obtain ⟨u,m⟩:=vA hl a ha'
  obtain ⟨v,r1,d1,mu⟩:=zip_dt hd r a u m
  rw [hev a u m]
  exact eqAtW I 20 (by show X.A.in1.units+20<cLine;show X.A.units+1+20<cLine;omega) d1 hw (List.all_eq_true.mp pl1 u mu) pl2 r1 rb
 ·rw [show its.toArray.toList=its from rfl,vY hl hev]
  exact ⟨.int _,H,I.tok _,⟨_,rfl⟩,q⟩
def vI:MM:=fun x ws h Q=>match ws with
 | [w]=>(match fu h x with
  | some us=>by2 (plW 20 w&&us.all (plW 20)) (Q (.int (us.countP fun u=>eqW u w)) h) False
  | none=>False)
 | _=>False
theorem s_count:SimM K (rCount K) vI:=by
 intro H μ h x vs wx ws Qw Q R rx rs m k
 unfold vI at m
 split at m
 ·rename_i w
  obtain ⟨v,ev,rv⟩:=nR rs
  split at m
  ·rename_i us eu
   obtain ⟨p,xs,ex,hs,rr⟩:=dJ R rx eu
   cases c:(plW 20 w&&us.all (plW 20)) with
   | true=>
    rw [c] at m
    rw [Bool.and_eq_true] at c
    exact ⟨p,v,xs,us,w,ex,ev,hs,zT (dt_of 20) rr c.2,dt_of 20 rv c.1,c.2,c.1,k _ _ (.int R m)⟩
   | false=>rw [c] at m;exact (show False from m).elim
  ·exact m.elim
 ·exact m.elim
theorem d_count (hu:X.A.units+30<cLine)(ho:DE X o mo)(ha:DAs X [e] ma)
  (hbase:attributeBase o "count" X.env (eval o X.env)=eval o X.env:=by rfl)
  (hfew:((backTo cpos (starEach [e] X.env)).all (fun x=>!x.1)&&(backToKw cpos (keywordEach [] X.env)).all (fun x=>x.1.isSome)
   && decide (([e]:List Expr).length+([]:List Keyword).length+(if ([]:List Keyword).isEmpty then 0 else 1)<30))=true:=by rfl)
  (hline:(apos.endLine==cpos.line)=true:=by rfl) (hst:starEach [e] X.env=(false,eval e X.env)::starEach [] X.env:=by rfl) (hplain:(backTo cpos (starEach [] X.env)).any (·.1)=false:=by rfl) :
  DE X (.Call (.Attribute o "count" apos) [e] [] cpos) (mBMl vI mo ma):=(pe_bm PySem.F.plainAttrs_list PySem.F.slot_list_count PySem.F.type_list_count (mt_count hu) ho ha hbase hfew hline hst hplain).of fun σ H Q ⟨μ,h,σw,Qw,R,S,m,k⟩=>by
 refine ⟨μ,h,σw,_,R,S,m,fun v H1 ⟨μ1,w,h1,e1,R1,r1,il⟩=>⟨(zH R1 r1 il).1,?_⟩⟩
 have m1:=(zH R1 r1 il).2
 exact ⟨μ1,h1,σw,_,R1,S.ext e1,m1,fun vs H2 ⟨μ2,ws,h2,e2,R2,r2,m2⟩=>s_count R2 (e2.r _ _ r1) r2 m2 fun v H' z=>k _ _ ((z.trans e2).trans e1)⟩
end
section
variable {X:Cx}{elt iter tg:Expr}{ifs:List Expr}{scope:Scope}{pos:Pos}{xs:List Str}{mi:MI}{tt:MT}{te:ME}
end
end L2
namespace L2
open PySem PySem.Spec PyProof.Rows
section
variable {X:Cx}{Γ : St→Prop}{e:Expr}{es:List Expr}{pos:Pos}
variable {mr:XWK→MA}
end
end L2
namespace L2
open PySem PySem.Spec PyProof.Rows
section
variable {X:Cx}{K:PySem.W.Frag}{H:Hp}{pins:List (Addr×Obj)}{s:Shared}{σ : St}
end
end L2
namespace L2
open PySem PySem.Spec PyProof.Rows
section
variable {X:Cx}{K:PySem.W.Frag}{H:Hp}{μ : Mu}{h:Gh}
def vh (h:Gh):List W→Option (List W)
 | []=>some []
 | w::ws=>match datW h w,vh h ws with
  | some d,some ds=>some (d::ds)
  | _,_=>none
def datW2 (h:Gh)(w:W):Option W:=match w with
 | .tup ws=>(match vh h ws with
  | some ds=>some (.tup ds)
  | none=>none)
 | w=>datW h w
theorem wV {n:Nat}(R:Rel K μ H h):∀ {ws ds:List W} {vs:List V},aX K H μ ws vs→vh h ws=some ds→ds.all (plW n)=true→Dts K H ds vs
 | [],ds,vs,r,e,_=>by
  rw [vh] at e
  cases e
  rw [aX] at r
  subst r
  rw [Dts]
 | w::ws,ds,vs,r,e,p=>by
  rw [vh] at e
  cases e1:datW h w with
  | none=>rw [e1] at e;cases e
  | some d=>
   cases e2:vh h ws with
   | none=>rw [e1,e2] at e;cases e
   | some ds'=>
    rw [e1,e2] at e
    cases e
    rw [List.all_cons,Bool.and_eq_true] at p
    rw [aX] at r
    obtain ⟨v,vs',ev,r1,r2⟩:=r
    subst ev
    rw [Dts]
    exact ⟨v,vs',rfl,pY R r1 e1 p.1,wV R r2 e2 p.2⟩
theorem datW2_ok {w d:W}{v:V}{n:Nat}(R:Rel K μ H h)(r:Rep K H μ w v)(e:datW2 h w=some d)(p:plW n d=true):Dt K H d v:=by
 cases w with
 | tup ws=>
  unfold datW2 at e
  dsimp only at e
  cases e1:vh h ws with
  | none=>rw [e1] at e;cases e
  | some ds=>
   rw [e1] at e
   cases e
   rw [Rep] at r
   obtain ⟨q,xs,ev,hs,rs⟩:=r
   obtain ⟨m,rfl,p⟩:=tW p
   rw [Dt]
   exact ⟨q,xs,ev,hs,wV R rs e1 p⟩
 | _=>exact pY R r e p
def isiS:W→Option Bool
 | .str _=>some true
 | .int _=>some false
 | .bl _=>some false
 | .non=>some false
 | .tup _=>some false
 | _=>none
def isiSV (K:PySem.W.Frag)(H:Hp):V→Bool→Prop
 | .str _,b=>b=true
 | .int _,b=>b=false
 | .bl _,b=>b=false
 | .non,b=>b=false
 | .ref p,b=>(∃ xs,SqT K H p xs)∧b=false
 | _,_=>False
theorem call_isiS:jt X (.builtin "isinstance") (fun xs H Q=>∃ x b,xs=[x,.ty "str"]∧isiSV X.K H x b∧Q (.bl b) H):=by
 intro pins s σ H xs us Q I r h
 obtain ⟨x,b,rfl,hi,q⟩:=h
 obtain ⟨u,w',rfl,rx,ru⟩:=vals2 r
 cases ru
 have k0:EP X pins σ Q (.bool b) s:=⟨.bl b,H,I,rfl,q⟩
 have k1:EP X pins σ Q (.bool b) { s with toks:=s.toks+1 }:=⟨.bl b,H,I.tok _,rfl,q⟩
 cases x with
 | str i=>obtain ⟨t,rfl⟩:=rx;cases hi;exact IsiPair.str_str k0
 | int i=>obtain ⟨t,rfl⟩:=rx;cases hi;exact IsiPair.int_str k1
 | bl i=>cases rx;cases hi;exact IsiPair.bool_str k1
 | non=>cases rx;cases hi;exact IsiPair.NoneType_str k1
 | ref p=>
  cases rx
  obtain ⟨⟨xs,hS⟩,e⟩:=hi
  cases e
  obtain ⟨its,_,⟨o,e,c,_⟩,_⟩:=I.tuple hS
  exact IsiPair.tuple_str e c k1
 | _=>exact (show False from hi).elim
theorem isiS_ok {w:W}{v:V}{b:Bool}(r:Rep K H μ w v)(e:isiS w=some b):isiSV K H v b:=by
 cases w <;> rw [Rep] at r <;> first | (subst r;cases e;rfl) | (cases e;done) | skip
 obtain ⟨p,xs,ev,hs,_⟩:=r
 subst ev
 cases e
 exact ⟨⟨xs,hs⟩,rfl⟩
def kIsiS:MC:=fun ws h Q=>match ws with
 | [w,.ty T]=>T = "str"∧(match isiS w with
  | some b=>Q (.bl b) h
  | none=>False)
 | _=>False
theorem c_isiS:qz X (.builtin "isinstance") kIsiS:=⟨_,call_isiS,by
 intro H μ h vs ws Qw Q R r m k
 unfold kIsiS at m
 split at m
 ·rename_i w T
  obtain ⟨eT,m⟩:=m
  subst eT
  split at m
  ·rename_i b eb
   obtain ⟨v,x,e,rv,rx⟩:=reps2 r
   have hi:=isiS_ok rv eb
   rw [Rep] at rx
   subst e rx
   exact ⟨v,b,rfl,hi,k _ _ (.bl R m)⟩
  ·exact m.elim
 ·exact m.elim⟩
end
end L2
namespace L2
open PySem PySem.Spec PyProof.Rows
section
variable {X:Cx}{K:PySem.W.Frag}{o e e':Expr}{mo:ME}{ma:MA}{apos cpos:Pos}
end
end L2
namespace L2
open PySem PySem.Spec PyProof.Rows
def plL (m:Nat):List Nat:=(List.range 8).filter fun j=>m.testBit j
def pq (h:Int):Nat→Nat×Nat
 | 0=>(SetTable.bits h % 8,SetTable.bits h)
 | n+1=>SetTable.leap 7 (pq h n).1 (pq h n).2
theorem pq_lt (h:Int):∀ n,(pq h n).1<8
 | 0=>Nat.mod_lt _ (by decide)
 | n+1=>Nat.mod_lt _ (by decide)
theorem pq_pert (h:Int):∀ n,(pq h n).2=SetTable.bits h / 32^n
 | 0=>by simp [pq]
 | n+1=>by
  show (pq h n).2 / 32=_
  rw [pq_pert h n,Nat.div_div_eq_div_mul,Nat.pow_succ]
theorem pq_zero (h:Int)(n:Nat)(hn:13≤n):(pq h n).2=0:=by
 rw [pq_pert]
 apply Nat.div_eq_of_lt
 have h1:SetTable.bits h<2^64:=by
  unfold SetTable.bits
  have a:=Int.emod_lt_of_pos h (show (0:Int)<2^64 by decide)
  have b:=Int.emod_nonneg h (show (2^64:Int)≠0 by decide)
  omega
 have h2:32^13≤32^n:=Nat.pow_le_pow_right (by decide) hn
 have h3:(2:Nat)^64<32^13:=by decide
 omega
def lcg:Nat→Nat→Nat
 | i,0=>i
 | i,k+1=>(lcg i k*5+1) % 8
theorem pq_lcg (h:Int):∀ k,(pq h (13+k)).1=lcg (pq h 13).1 k
 | 0=>rfl
 | k+1=>by
  show ((pq h (13+k)).1*5+1+(pq h (13+k)).2 / 32) % (7+1)=_
  rw [pq_zero h _ (by omega),pq_lcg h k]
  rfl
theorem lcg_all:∀ i:Fin 8,∀ j:Fin 8,∃ k:Fin 8,lcg i k=j.val:=by decide +kernel
theorem pq_all (h:Int){j:Nat}(hj:j<8):∃ n,n<21∧(pq h n).1=j:=by
 obtain ⟨k,e⟩:=lcg_all ⟨(pq h 13).1,pq_lt h 13⟩ ⟨j,hj⟩
 exact ⟨13+k.val,by omega,by rw [pq_lcg];exact e⟩
theorem least {P:Nat→Bool}:∀ (B:Nat),(∃ n,n<B∧P n=true)→∃ N,N<B∧P N=true∧∀ n,n<N→P n=false
 | 0,⟨n,h,_⟩=>absurd h (Nat.not_lt_zero _)
 | B+1,⟨n,h,e⟩=>by
  by_cases q:∃ n,n<B∧P n=true
  ·obtain ⟨N,a,b,c⟩:=least B q
   exact ⟨N,by omega,b,c⟩
  ·refine ⟨n,h,e,fun i hi=>?_⟩
   cases r:P i with
   | false=>rfl
   | true=>exact absurd ⟨i,by omega,r⟩ q
theorem road {m:Nat}(h:Int)(hf:∃ j,j<8∧m.testBit j=false):∃ N,N<21∧m.testBit (pq h N).1=false∧∀ n,n<N→m.testBit (pq h n).1=true:=by
 obtain ⟨j,hj,e⟩:=hf
 obtain ⟨n,hn,en⟩:=pq_all h hj
 obtain ⟨N,a,b,c⟩:=least (P:=fun n=>!m.testBit (pq h n).1) 21 ⟨n,hn,by simp [en,e]⟩
 exact ⟨N,a,by simpa using b,fun n hn=>by simpa using c n hn⟩
end L2
namespace L2
open PySem PySem.Spec PyProof.Rows
section
variable {prog:Program}{w:World}{A:Around}{E:Value→Shared→Prop}{s:Shared}{m:Nat}{ka:Nat→List Int}{ad:Nat→Addr}{t:SetTable}{a b:Addr}{k:List Int}
abbrev TK (prog:Program)(w:World)(h:Heap)(k:List Int)(a:Addr):Prop:=IsTupleKey (intKind prog w) h k a
def hT (prog:Program)(w:World)(k:List Int):Int:=tupleKeyHash (intKind prog w) k
def elL (prog:Program)(w:World)(m:Nat)(ka:Nat→List Int)(ad:Nat→Addr):List (Int×Value):=(plL m).map fun j=>(hT prog w (ka j),Value.ref (ad j))
structure TTab (prog:Program) (w:World) (h:Heap) (m:Nat) (ka:Nat→List Int) (ad:Nat→Addr) (t:SetTable):Prop where
 mask:t.mask=7
 place:t.place=(plL m).toArray
 dum:t.dummies = #[]
 m8:m<256
 few:(plL m).length≤4
 key:∀ j,j∈plL m→TK prog w h (ka j) (ad j)
 way:∀ j,j∈plL m→∃ n,(pq (hT prog w (ka j)) n).1=j∧∀ i,i<n→m.testBit (pq (hT prog w (ka j)) i).1=true
def setO (es:Array (Int×Value))(ep:Nat)(t:SetTable):Obj:={ cls:=.type "set",dict:=none,data:=.set es ep t }
def TupSet (prog:Program)(w:World)(h:Heap)(a:Addr)(m:Nat)(ka:Nat→List Int)(ad:Nat→Addr):Prop:=∃ ep t,h.get? a=some (setO (elL prog w m ka ad).toArray ep t)∧TTab prog w h m ka ad t
end
end L2
namespace L2
open PySem PySem.Spec PyProof.Rows
section
variable {prog:Program}{w:World}{A:Around}{E:Value→Shared→Prop}{R:Result→Shared→Prop}
structure Bears (prog:Program) (w:World) (z:Nat) (h:Heap) (S:Addr) (seen:List (List Int)) (m:Nat) (ka:Nat→List Int) (ad:Nat→Addr):Prop where
 set:TupSet prog w h S m ka ad
 low:∀ j,j∈plL m→ad j<z
 mem:∀ k,k∈seen↔∃ j,j∈plL m∧ka j=k
 len:(plL m).length=seen.length
end
end L2
namespace L2
open PySem PySem.Spec PyProof.Rows
section
variable {prog:Program}{w:World}{A:Around}{E:Value→Shared→Prop}{s:Shared}
end
end L2
namespace L2
open PySem PySem.Spec PyProof.Rows
section
variable {X:Cx}{K:PySem.W.Frag}
end
end L2
namespace L2
open PySem PySem.Spec PyProof.Rows
section
variable {X:Cx}{K:PySem.W.Frag}
end
end L2
namespace L2
open PySem PySem.Spec PyProof.Rows
section
variable {κ : Type} [DecidableEq κ]
end
section
variable {P:Program}{w:World}{H:Hp}{h:Heap}{a:Addr}
end
section
variable {X:Cx}{pins:List (Addr×Obj)}{σ : St}{H:Hp}{s:Shared}{a:Addr}{y v:V}{u r:Value}{o:Option V}{A:Around}{E:Value→Shared→Prop}
end
section
variable {X:Cx}{pins:List (Addr×Obj)}{σ : St}{H:Hp}{s:Shared}{a:Addr}{kvs:List (Key×V)}{k:Key}{u:Value}{A:Around}{E:Value→Shared→Prop}
end
section
variable {X:Cx}{o i e value:Expr}{pos pos' tpos:Pos}{td ty tv:TE}
end
section
variable {X:Cx}{pos:Pos}
end
end L2
namespace L2
open PySem PySem.Spec PyProof.Rows
section
variable {K:PySem.W.Frag}{H:Hp}{μ : Mu}{kvs:List (Key×W)}{kvv:List (Key×V)}{k:Key}{w:W}{v:V}
end
section
variable {X:Cx}{a b:Expr}{ma mb:ME}{pos:Pos}
inductive DDs (X:Cx):List (Option Expr)→List Expr→List (Key×ME)→Prop
 | nil:DDs X [] [] []
 | cons {x:Str} {j pos} {v:Expr} {m:ME} {ks:List (Option Expr)} {vs:List Expr} {r:List (Key×ME)} (h:DE X v m) (t:DDs X ks vs r):DDs X (some (.Constant (.str x) j pos)::ks) (v::vs) ((.inr x,m)::r)
end
inductive TabE (w:World) (K:PySem.W.Frag):List DictEntry→List (Key×W)→Prop
 | nil:TabE w K [] []
 | cons {x:Str} {t} {v:V} {u:Value} {d:W} {es:List DictEntry} {tbl:List (Key×W)} (r:RelV v u) (q:∀ H μ,Rep K H μ d v) (h:TabE w K es tbl):TabE w K (⟨PyData.keyHash w.params x,.str x t,u⟩::es) ((.inr x,d)::tbl)
section
variable {X:Cx}{b:Expr}{mb:ME}{pos p:Pos}{x:Str}{a:Addr}{tbl:List (Key×W)}
end
end L2
namespace L2
open PySem PySem.Spec PyProof.Rows
section
variable {X:Cx}{pos p p':Pos}{x:Str}{a:Addr}{tbl:List (Key×W)}
end
end L2
namespace L2
open PySem PySem.Spec PyProof.Rows
section
variable {X:Cx}
end
end L2
namespace L2
open PySem PySem.Spec PyProof.Rows
section
variable {X:Cx}{K:PySem.W.Frag}{H:Hp}{μ : Mu}{h:Gh}
def rG (h:Gh)(w:W):Option W:=match w with
 | .lst ws=>(match vh h ws with
  | some ds=>some (.lst ds)
  | none=>none)
 | w=>datW2 h w
theorem datW3_ok {w d:W}{v:V}{n:Nat}(R:Rel K μ H h)(r:Rep K H μ w v)(e:rG h w=some d)(p:plW n d=true):Dt K H d v:=by
 cases w with
 | lst ws=>
  unfold rG at e
  dsimp only at e
  cases e1:vh h ws with
  | none=>rw [e1] at e;cases e
  | some ds=>
   rw [e1] at e
   cases e
   rw [Rep] at r
   obtain ⟨q,xs,ev,hs,rs⟩:=r
   obtain ⟨m,rfl,p⟩:=qp p
   rw [Dt]
   exact ⟨q,xs,ev,hs.sq,wV R rs e1 p⟩
 | _=>exact datW2_ok R r (by unfold rG at e;exact e) p
def kEq3:M2:=fun x y h Q=>match rG h x,rG h y with
 | some a,some b=>by2 (plW 30 a&&plW 30 b) (Q (.bl (eqW a b)) h) False
 | _,_=>False
def kNe3:M2:=fun x y h Q=>match rG h x,rG h y with
 | some a,some b=>by2 (plW 30 a&&plW 30 b) (Q (.bl (!eqW a b)) h) False
 | _,_=>False
theorem o_ne3 (hu:X.A.units+30<cLine):DOp X (compareOp .NotEq) kNe3:=⟨_,op_neD hu,by
 intro H μ h x y wx wy Qw Q R rx ry m k
 unfold kNe3 at m
 split at m
 ·rename_i a b ea eb
  cases hp:(plW 30 a&&plW 30 b) with
  | true=>
   rw [hp] at m
   rw [Bool.and_eq_true] at hp
   exact ⟨a,b,datW3_ok R rx ea hp.1,datW3_ok R ry eb hp.2,hp.1,hp.2,k _ _ (.bl R m)⟩
  | false=>rw [hp] at m;exact (show False from m).elim
 ·exact m.elim⟩
end
end L2
namespace L2
open PySem PySem.Spec PyProof.Rows
section
variable {X:Cx}{a b c:Expr}{ma mb mc:ME}{pos:Pos}
end
end L2
namespace L2
open PySem PySem.Spec PyProof.Rows
section
variable {K:PySem.W.Frag}{H:Hp}{μ : Mu}{fs:List (Str×W)}{fvs:List (Str×V)}{f:Str}{w:W}{v:V}
end
section
variable {X:Cx}{e o value:Expr}{es:List Expr}{ma mo mv:ME}{mr:MA}{f:Str}{C:Addr}{pos pos' apos:Pos}
end
end L2
namespace L2
open PySem PySem.Spec PyProof.Rows
section
variable {prog:Program}{w:World}{A:Around}{E:Value→Shared→Prop}{s:Shared}
end
section
variable {X:Cx}
end
section
variable {X:Cx}{e:Expr}{me:ME}{x:Str}{a:Addr}{tbl:List (Key×W)}{p pos:Pos}
end
end L2
namespace L2
open PySem PySem.Spec PyProof.Rows
section
variable {X:Cx}{Γ : St→Prop}{C:Addr}{o e:Expr}{es:List Expr}{mo:ME}{mr:MA}{pos apos:Pos}
end
end L2
namespace L2
open PySem PySem.Spec PyProof.Rows
section
variable {X:Cx}{pins:List (Addr×Obj)}{σ : St}{H:Hp}{s:Shared}{K:PySem.W.Frag}{μ : Mu}
end
section
variable {X:Cx}{a b o i:Expr}{ma mb:ME}{td ty:TE}{pos:Pos}
end
section
variable {prog:Program}{w:World}{A:Around}{E:Value→Shared→Prop}{s:Shared}
end
section
variable {X:Cx}
end
end L2
namespace L2
open PySem PySem.Spec PyProof.Rows
def ps (h:Int):Nat→Nat×Nat
 | 0=>(SetTable.bits h % 32,SetTable.bits h)
 | n+1=>SetTable.leap 31 (ps h n).1 (ps h n).2
def liv (o:Array (Option Nat)):List (Nat×Nat):=(List.range 32).filterMap fun j=>(o.getD j none).map (j,·)
structure Lay (o:Array (Option Nat)) (k:Nat):Prop where
 sz:o.size=32
 len:(liv o).length=k
 low:∀ p,p∈liv o→p.2<k
section
variable {prog:Program}{w:World}{A:Around}{E:Value→Shared→Prop}{s:Shared}{a:Addr}
end
end L2
namespace L2
open PySem PySem.Spec PyProof.Rows
section
variable {prog:Program}{w:World}{A:Around}{E:Value→Shared→Prop}{s:Shared}{m:Nat}{ka:Nat→List Int}{ad:Nat→Addr}{t:SetTable}{a b:Addr}{k:List Int}
end
end L2
namespace L2
open PySem PySem.Spec PyProof.Rows
section
variable {prog:Program}{w:World}{A:Around}{E:Value→Shared→Prop}{R:Result→Shared→Prop}
end
end L2
namespace L2
open PySem PySem.Spec PyProof.Rows
section
variable {prog:Program}{w:World}{A:Around}{E:Value→Shared→Prop}{s:Shared}
end
end L2
namespace L2
open PySem PySem.Spec PyProof.Rows
section
variable {X:Cx}{K:PySem.W.Frag}
end
end L2
namespace L2
open PySem PySem.Spec PyProof.Rows
section
variable {X:Cx}{K:PySem.W.Frag}{o e:Expr}{mo:ME}{apos cpos:Pos}
end
end L2
namespace L2
open PySem PySem.Spec PyProof.Rows
section
variable {prog:Program}{w:World}{A:Around}{s:Shared}{K:PySem.W.Frag}{x C:Addr}{R:Result→Shared→Prop}
end
end L2
namespace L2
open PySem PySem.Spec PyProof.Rows
section
variable {prog:Program}{w:World}{A:Around}{E:Value→Shared→Prop}{s:Shared}{K:PySem.W.Frag}{x dx C f:Addr}{mA:Str→Option Value}{name:Str}{v:Value}
end
section
variable {prog:Program}{w:World}{A:Around}{E:Value→Shared→Prop}{s:Shared}{K:PySem.W.Frag}{x D:Addr}{ox:Obj}
end
end L2
namespace L2
open PySem PySem.Spec PyProof.Rows
section
variable {prog:Program}{w:World}{A:Around}{E:Value→Shared→Prop}{h:Heap}{g:Array GenState}{d:Drawn}{t:Nat}{os:OsState}
variable {nm q:Str}{C N:Addr}{bs bm bmB:List Value}{hdct:Bool}{sn:List Str}{sub:List Value}{ab:Bool}{col:Option Bool}{dd:Option Addr}{k0 k1 k2 k3 k5:Option Value}{B newId initId:String}{K:PySem.W.Frag}{f:Addr}
end
end L2
namespace L2
open PySem PySem.Spec PyProof.Rows
section
variable {prog:Program}{w:World}{M:Model}{A:Around}{E:Value→Shared→Prop}{s:Shared}{env:Env}{K:PySem.W.Frag}{f:Addr}
variable {nm q:Str}{C N:Addr}{bs bm bmB:List Value}{hdct:Bool}{sn:List Str}{sub:List Value}{ab:Bool}{col:Option Bool}{dd:Option Addr}{k0 k1 k2 k3 k5:Option Value}{B newId initId:String}
end
end L2
namespace L2
open PySem PySem.Spec PyProof.Rows
section
variable {X:Cx}{o value:Expr}{f:Str}{C:Addr}{pos pos':Pos}{ta tv:TE}
end
section
variable {X:Cx}{pins:List (Addr×Obj)}{σ : St}{H:Hp}{s:Shared}{e:Addr}
end
end L2
namespace L2
open PySem PySem.Spec PyProof.Rows
section
variable {X:Cx}{pins:List (Addr×Obj)}{σ : St}{H:Hp}{s:Shared}{C fi:Addr}{x f:Str}{np cpos pos:Pos}{e:Expr}{t:TA}{k:Nat}{fd:FuncData}{ps:List Str}
end
section
variable {X:Cx}{Γ : St→Prop}{e:Expr}{pos:Pos}{ma:ME}
end
section
variable {X:Cx}{e:Expr}{f:Str}{pos:Pos}{ma:ME}
end
end L2
namespace L2
open PySem PySem.Spec PyProof.Rows
section
variable {X:Cx}
end
end L2
namespace L2
open PySem PySem.Spec PyProof.Rows
section
variable {X:Cx}{Γ : St→Prop}{tg:Expr}
end
end L2
namespace L2
open PySem PySem.Spec PyProof.Rows
section
variable {X:Cx}{K:PySem.W.Frag}
def enW:Nat→List W→List W
 | _,[]=>[]
 | i,a::as=>.tup [.int (i:Int),a]::enW (i+1) as
def enS (h:Gh)(x:W):Option Src:=match x with
 | .lst as=>some ⟨enW 0 as,none⟩
 | .kls as=>some ⟨enW 0 as,none⟩
 | .loc n=>(match h.c n with
  | some (.lst as)=>some ⟨enW 0 as,some (n,as)⟩
  | _=>none)
 | _=>none
end
end L2
namespace L2
open PySem PySem.Spec PyProof.Rows
section
variable {X:Cx}{mr:MA}{pos p:Pos}{e:Expr}{es:List Expr}{k:Nat}{fs:List (Addr×MSp)}
theorem d_fnv {x:Str}{f:Addr}(i:Nat)(hg:Gl X x)(hm:X.mg x=some (.ref f))(hd:(x==("__debug__" : Str))=false:=by decide):DE X (.Name x p) (mC (.fnv f i)):=
 dc (pe_glob (v:=.ref f) hg hm rfl hd) fun _ _=>by rw [Rep]
inductive VFs (X:Cx) (k:Nat):List (Addr×MSp)→Prop
 | nil:VFs X k []
 | cons {f:Addr} {fd:FuncData} {ps:List Str} {ms:MSp} {fs:List (Addr×MSp)} (F:cH X.prog X.w X.K X.mg X.base CX0 k f fd ps (lift X.K ms)) (hk:PySem.W.keepIn X.K (.ref f)=true) (hb:Binds X.K fd ps []) (r:VFs X k fs):VFs X k ((f,ms)::fs)
theorem VFs.get:∀ {fs:List (Addr×MSp)} {j:Nat} {f:Addr} {ms:MSp},VFs X k fs→fs[j]?=some (f,ms) →
  ∃ fd ps,cH X.prog X.w X.K X.mg X.base CX0 k f fd ps (lift X.K ms)∧PySem.W.keepIn X.K (.ref f)=true∧Binds X.K fd ps []
 | [],_,_,_,_,e=>by simp at e
 | _::_,0,_,_,.cons F hk hb _,e=>by
  simp at e
  obtain ⟨rfl,rfl⟩:=e
  exact ⟨_,_,F,hk,hb⟩
 | _::_,j+1,_,_,.cons _ _ _ r,e=>VFs.get (j:=j) r (by simpa using e)
def yU (fs:List (Addr×MSp))(i:Nat)(ma:MA):ME:=fun σ h Q=>match σ[i]? with
 | some (some (.fnv f j))=>(match fs[j]? with
  | some x=>f=x.1∧ma σ h fun ws h1=>x.2 ws h1 Q EF
  | none=>False)
 | _=>False
theorem d_callV {i:Nat}{x:Str}(F:VFs X k fs)(hr:rK k X.A)(hN:PE X (.Name x p) (tVar i))(ha:DAs X (e::es) mr)(he:starEach (e::es) X.env=(false,eval e X.env)::starEach es X.env:=by rfl)(hpl:(backTo pos (starEach es X.env)).any (·.1)=false:=by rfl) :
  DE X (.Call (.Name x p) (e::es) [] pos) (yU fs i mr):=by
 intro pins s σ H Q I ⟨μ,g,σw,Qw,R,S,m,q⟩
 unfold yU at m
 split at m
 ·rename_i f j es'
  obtain ⟨v,ev,rv⟩:=S.get i _ es'
  rw [Rep] at rv
  subst rv
  split at m
  ·rename_i y ey
   obtain ⟨rfl,m⟩:=m
   obtain ⟨fd,ps,F,hk,hb⟩:=F.get (f:=y.1) (ms:=y.2) ey
   refine wpAny_Call_Name_kw (thn (hN pins s σ H (fun v H1=>v=.ref y.1∧H1=H) I ⟨_,ev,rfl,rfl⟩) fun u s1 ⟨v,H1,I1,ru,e1,e2⟩=>?_)
   subst e1 e2
   obtain rfl:u=Value.ref y.1:=ru
   refine PySem.W.callWith_K (h₀:=X.base) I1.ok.mod.kin hk (thn (ha pos pins s1 σ H1 _ I1 (call_of (E:=E0) (ms:=y.2) ⟨μ,g,σw,Qw,R,S,m,q⟩)) fun us s2 ⟨vs,H2,I2,r,q2⟩=>⟨I2.kIn,?_⟩) he hpl
   exact run_fn F hr hb .nil pass0 I2 r q2
  ·exact m.elim
 ·exact m.elim
end
end L2
namespace My
set_option maxHeartbeats 4000000
open PySem L2 PyProof.Rows
def qJ:W:=(.tup [(.tup [(.int 1),(.int 0),(.int 0)]),(.tup [(.int 0),(.int 1),(.int 0)]),(.tup [(.int 0),(.int 0),(.int 1)]),(.tup [(.int 1),(.int 1),(.int 1)])])
def top (i:Nat):Stmt:=PySem.Challenge.pw_easelroom_k24_what_tells_apart.main.body.getD i (.Pass ⟨0,0,0,0⟩)
abbrev dH:Stmt:=top 6
theorem iZ:aN ["one", "other", "rest"] ["one", "other"] (aG dH):=⟨rfl,rfl,rfl,by decide +kernel,rfl,by decide +kernel,by decide +kernel⟩
abbrev pB:Stmt:=top 7
theorem vB:aN ["numbers", "found", "number"] ["numbers"] (aG pB):=⟨rfl,rfl,rfl,by decide +kernel,rfl,by decide +kernel,by decide +kernel⟩
abbrev iu:Stmt:=top 8
theorem nU:aN ["numbers", "number"] ["numbers"] (aG iu):=⟨rfl,rfl,rfl,by decide +kernel,rfl,by decide +kernel,by decide +kernel⟩
abbrev yw:Stmt:=top 9
theorem sc_plain:aN ["numbers", "factor"] ["numbers"] (aG yw):=⟨rfl,rfl,rfl,by decide +kernel,rfl,by decide +kernel,by decide +kernel⟩
abbrev s_dot:Stmt:=top 11
theorem sc_dot:aN ["one", "other"] ["one", "other"] (aG s_dot):=⟨rfl,rfl,rfl,by decide +kernel,rfl,by decide +kernel,by decide +kernel⟩
abbrev xH:Stmt:=top 12
theorem sc_cross:aN ["one", "other"] ["one", "other"] (aG xH):=⟨rfl,rfl,rfl,by decide +kernel,rfl,by decide +kernel,by decide +kernel⟩
abbrev s_turn:Stmt:=top 13
theorem sc_turn:aN ["one", "other", "third"] ["one", "other", "third"] (aG s_turn):=⟨rfl,rfl,rfl,by decide +kernel,rfl,by decide +kernel,by decide +kernel⟩
abbrev jw:Stmt:=top 14
theorem rm:aN ["rows", "unlike", "shared"] ["rows"] (aG jw):=⟨rfl,rfl,rfl,by decide +kernel,rfl,by decide +kernel,by decide +kernel⟩
abbrev pA:Stmt:=top 15
theorem vV:aN ["spots"] ["spots"] (aG pA):=⟨rfl,rfl,rfl,by decide +kernel,rfl,by decide +kernel,by decide +kernel⟩
abbrev sH:Stmt:=top 17
theorem yX:aN ["many", "size", "found", "taken", "longer", "places", "first"] ["many", "size"] (aG sH):=⟨rfl,rfl,rfl,by decide +kernel,rfl,by decide +kernel,by decide +kernel⟩
abbrev rZ:Stmt:=top 18
theorem Ab:aN ["things", "places"] ["things", "places"] (aG rZ):=⟨rfl,rfl,rfl,by decide +kernel,rfl,by decide +kernel,by decide +kernel⟩
abbrev oU:Stmt:=top 21
theorem wD:aN ["table"] ["table"] (aG oU):=⟨rfl,rfl,rfl,by decide +kernel,rfl,by decide +kernel,by decide +kernel⟩
abbrev cZ:Stmt:=top 22
theorem iC:aN ["table", "row"] ["table", "row"] (aG cZ):=⟨rfl,rfl,rfl,by decide +kernel,rfl,by decide +kernel,by decide +kernel⟩
abbrev oM:Stmt:=top 23
theorem vX:aN ["table"] ["table"] (aG oM):=⟨rfl,rfl,rfl,by decide +kernel,rfl,by decide +kernel,by decide +kernel⟩
abbrev cM:Stmt:=top 24
theorem fZ:aN ["one", "other", "columns", "numbers", "row"] ["one", "other"] (aG cM):=⟨rfl,rfl,rfl,by decide +kernel,rfl,by decide +kernel,by decide +kernel⟩
abbrev sE:Stmt:=top 25
theorem zP:aN ["table", "rows"] ["table"] (aG sE):=⟨rfl,rfl,rfl,by decide +kernel,rfl,by decide +kernel,by decide +kernel⟩
abbrev s_led:Stmt:=top 26
theorem sc_led:aN ["by", "spot"] ["by", "spot"] (aG s_led):=⟨rfl,rfl,rfl,by decide +kernel,rfl,by decide +kernel,by decide +kernel⟩
abbrev s_then:Stmt:=top 27
theorem sc_then:aN ["one", "other"] ["one", "other"] (aG s_then):=⟨rfl,rfl,rfl,by decide +kernel,rfl,by decide +kernel,by decide +kernel⟩
abbrev s_back:Stmt:=top 28
theorem sc_back:aN ["by"] ["by"] (aG s_back):=⟨rfl,rfl,rfl,by decide +kernel,rfl,by decide +kernel,by decide +kernel⟩
abbrev yq:Stmt:=top 29
theorem sc_tiles:aN [] [] (aG yq):=⟨rfl,rfl,rfl,by decide +kernel,rfl,by decide +kernel,by decide +kernel⟩
abbrev lO:Stmt:=top 30
theorem uO:aN ["four", "turns"] ["four"] (aG lO):=⟨rfl,rfl,rfl,by decide +kernel,rfl,by decide +kernel,by decide +kernel⟩
abbrev gZ:Stmt:=top 31
theorem pC:aN ["four", "factors"] ["four"] (aG gZ):=⟨rfl,rfl,rfl,by decide +kernel,rfl,by decide +kernel,by decide +kernel⟩
abbrev gA:Stmt:=top 32
theorem mF:aN ["four", "others"] ["four", "others"] (aG gA):=⟨rfl,rfl,rfl,by decide +kernel,rfl,by decide +kernel,by decide +kernel⟩
abbrev eO:Stmt:=top 34
theorem jZ:aN ["picture"] ["picture"] (aG eO):=⟨rfl,rfl,rfl,by decide +kernel,rfl,by decide +kernel,by decide +kernel⟩
abbrev iy:Stmt:=top 35
theorem oZ:aN ["picture", "places"] ["picture"] (aG iy):=⟨rfl,rfl,rfl,by decide +kernel,rfl,by decide +kernel,by decide +kernel⟩
abbrev jA:Stmt:=top 37
theorem q9:aN ["spots", "unlike", "line"] ["spots"] (aG jA):=⟨rfl,rfl,rfl,by decide +kernel,rfl,by decide +kernel,by decide +kernel⟩
abbrev nQ:Stmt:=top 38
theorem wA:aN ["one", "other", "place", "first", "second"] ["one", "other", "place"] (aG nQ):=⟨rfl,rfl,rfl,by decide +kernel,rfl,by decide +kernel,by decide +kernel⟩
abbrev dD:Stmt:=top 39
theorem iw:aN ["four"] ["four"] (aG dD):=⟨rfl,rfl,rfl,by decide +kernel,rfl,by decide +kernel,by decide +kernel⟩
abbrev eE:Stmt:=top 40
theorem jU:aN ["four", "place"] ["four"] (aG eE):=⟨rfl,rfl,rfl,by decide +kernel,rfl,by decide +kernel,by decide +kernel⟩
abbrev gw:Stmt:=top 43
theorem mD:aN ["one", "other"] ["one", "other"] (aG gw):=⟨rfl,rfl,rfl,by decide +kernel,rfl,by decide +kernel,by decide +kernel⟩
abbrev eG:Stmt:=top 44
theorem jT:aN ["one", "other"] ["one", "other"] (aG eG):=⟨rfl,rfl,rfl,by decide +kernel,rfl,by decide +kernel,by decide +kernel⟩
abbrev d9:Stmt:=top 45
theorem jR:aN ["one", "other", "mine", "its"] ["one", "other"] (aG d9):=⟨rfl,rfl,rfl,by decide +kernel,rfl,by decide +kernel,by decide +kernel⟩
abbrev fH:Stmt:=top 42
theorem lC:aN ["one", "other", "size", "differs", "places"] ["one", "other", "size", "differs"] (aG fH):=⟨rfl,rfl,rfl,by decide +kernel,rfl,by decide +kernel,by decide +kernel⟩
abbrev gn:Stmt:=top 46
theorem mO:aN ["one", "other", "places", "by", "other_by", "place"] ["one", "other"] (aG gn):=⟨rfl,rfl,rfl,by decide +kernel,rfl,by decide +kernel,by decide +kernel⟩
abbrev cR:Stmt:=top 47
theorem gJ:aN ["one", "other", "word", "size", "differs", "places"] ["one", "other"] (aG cR):=⟨rfl,rfl,rfl,by decide +kernel,rfl,by decide +kernel,by decide +kernel⟩
abbrev xR:Stmt:=top 48
theorem sc_apart:aN ["one", "other"] ["one", "other"] (aG xR):=⟨rfl,rfl,rfl,by decide +kernel,rfl,by decide +kernel,by decide +kernel⟩
abbrev jo:Stmt:=top 50
theorem qO:aN ["_law_script", "_law_k"] ["_law_script", "_law_k"] (aG jo):=⟨rfl,rfl,rfl,by decide +kernel,rfl,by decide +kernel,by decide +kernel⟩
abbrev sO:Stmt:=top 51
theorem zy:aN ["_law_script", "_law_k", "_law_cell", "_law_one", "_law_big", "_law_j"] ["_law_script", "_law_k"] (aG sO):=⟨rfl,rfl,rfl,by decide +kernel,rfl,by decide +kernel,by decide +kernel⟩
abbrev pL:Stmt:=top 52
theorem vK:aN ["_law_rest_here", "_law_many", "_law_digit_here"] ["_law_rest_here", "_law_many"] (aG pL):=⟨rfl,rfl,rfl,by decide +kernel,rfl,by decide +kernel,by decide +kernel⟩
abbrev lR:Stmt:=top 53
theorem ux:aN ["_law_rest_here", "_law_far", "_law_way"] ["_law_rest_here", "_law_far"] (aG lR):=⟨rfl,rfl,rfl,by decide +kernel,rfl,by decide +kernel,by decide +kernel⟩
abbrev jK:Stmt:=top 55
theorem qT:aN ["_law_numbers", "_law_found", "_law_number_here", "_law_one", "_law_other"] ["_law_numbers"] (aG jK):=⟨rfl,rfl,rfl,by decide +kernel,rfl,by decide +kernel,by decide +kernel⟩
abbrev pP:Stmt:=top 56
theorem wj:aN ["_law_numbers", "_law_by"] ["_law_numbers"] (aG pP):=⟨rfl,rfl,rfl,by decide +kernel,rfl,by decide +kernel,by decide +kernel⟩
abbrev rY:Stmt:=top 57
theorem z8:aN ["_law_rest_here", "_law_far", "_law_numbers"] ["_law_rest_here", "_law_far"] (aG rY):=⟨rfl,rfl,rfl,by decide +kernel,rfl,by decide +kernel,by decide +kernel⟩
abbrev oX:Stmt:=top 58
theorem v8:aN ["_law_one", "_law_other", "_law_found", "_law_k"] ["_law_one", "_law_other"] (aG oX):=⟨rfl,rfl,rfl,by decide +kernel,rfl,by decide +kernel,by decide +kernel⟩
abbrev xV:Stmt:=top 59
theorem sc_l_dot:aN ["_law_one", "_law_other"] ["_law_one", "_law_other"] (aG xV):=⟨rfl,rfl,rfl,by decide +kernel,rfl,by decide +kernel,by decide +kernel⟩
abbrev rO:Stmt:=top 60
theorem zm:aN ["_law_numbers", "_law_a", "_law_b", "_law_c", "_law_d", "_law_e", "_law_f", "_law_g", "_law_h", "_law_i", "_law_whole_here"] ["_law_numbers"] (aG rO):=⟨rfl,rfl,rfl,by decide +kernel,rfl,by decide +kernel,by decide +kernel⟩
abbrev yd:Stmt:=top 61
theorem sc_l_map:aN ["_law_rest_here", "_law_far", "_law_numbers"] ["_law_rest_here", "_law_far"] (aG yd):=⟨rfl,rfl,rfl,by decide +kernel,rfl,by decide +kernel,by decide +kernel⟩
abbrev yx:Stmt:=top 62
theorem sc_l_led:aN ["_law_by", "_law_spot_here"] ["_law_by", "_law_spot_here"] (aG yx):=⟨rfl,rfl,rfl,by decide +kernel,rfl,by decide +kernel,by decide +kernel⟩
abbrev sW:Stmt:=top 63
theorem zQ:aN ["_law_one", "_law_other", "_law_third"] ["_law_one", "_law_other", "_law_third"] (aG sW):=⟨rfl,rfl,rfl,by decide +kernel,rfl,by decide +kernel,by decide +kernel⟩
abbrev sZ:Stmt:=top 64
theorem zM:aN ["_law_four", "_law_k"] ["_law_four"] (aG sZ):=⟨rfl,rfl,rfl,by decide +kernel,rfl,by decide +kernel,by decide +kernel⟩
abbrev pW:Stmt:=top 65
theorem vP:aN ["_law_one", "_law_other", "_law_rest_here", "_law_left", "_law_right", "_law_numbers"] ["_law_one", "_law_other", "_law_rest_here"] (aG pW):=⟨rfl,rfl,rfl,by decide +kernel,rfl,by decide +kernel,by decide +kernel⟩
abbrev sY:Stmt:=top 66
theorem sc_l_next:aN ["_law_spots", "_law_style", "_law_rest_here", "_law_way", "_law_one", "_law_other"] ["_law_spots", "_law_style", "_law_rest_here"] (aG sY):=⟨rfl,rfl,rfl,by decide +kernel,rfl,by decide +kernel,by decide +kernel⟩
abbrev jL:Stmt:=top 67
theorem qL:aN ["_law_rest_here", "_law_most", "_law_many", "_law_style", "_law_spots", "_law_k"] ["_law_rest_here", "_law_most"] (aG jL):=⟨rfl,rfl,rfl,by decide +kernel,rfl,by decide +kernel,by decide +kernel⟩
abbrev jE:Stmt:=top 68
theorem rE:aN ["_law_spots", "_law_rest_here", "_law_at", "_law_way", "_law_one"] ["_law_spots", "_law_rest_here"] (aG jE):=⟨rfl,rfl,rfl,by decide +kernel,rfl,by decide +kernel,by decide +kernel⟩
abbrev yC:Stmt:=top 69
theorem sc_l_two:aN ["_law_script", "_law_most", "_law_one", "_law_by", "_law_other", "_law_rest_here", "_law_way"] ["_law_script", "_law_most"] (aG yC):=⟨rfl,rfl,rfl,by decide +kernel,rfl,by decide +kernel,by decide +kernel⟩
abbrev lY:Stmt:=top 70
theorem uH:aN ["_law_many", "_law_size_here", "_law_rows", "_law_lap", "_law_longer", "_law_row", "_law_first"] ["_law_many", "_law_size_here"] (aG lY):=⟨rfl,rfl,rfl,by decide +kernel,rfl,by decide +kernel,by decide +kernel⟩
abbrev oO:Stmt:=top 71
theorem vJ:aN ["_law_spots", "_law_a", "_law_b", "_law_c", "_law_d", "_law_other", "_law_line", "_law_off", "_law_top"] ["_law_spots"] (aG oO):=⟨rfl,rfl,rfl,by decide +kernel,rfl,by decide +kernel,by decide +kernel⟩
abbrev wR:Stmt:=top 72
theorem sc_l_lie:aN ["_law_spots", "_law_k"] ["_law_spots"] (aG wR):=⟨rfl,rfl,rfl,by decide +kernel,rfl,by decide +kernel,by decide +kernel⟩
abbrev n8:Stmt:=top 73
theorem vC:aN ["_law_four", "_law_spot_here", "_law_a", "_law_b", "_law_c", "_law_d", "_law_x", "_law_y"] ["_law_four", "_law_spot_here"] (aG n8):=⟨rfl,rfl,rfl,by decide +kernel,rfl,by decide +kernel,by decide +kernel⟩
abbrev gk:Stmt:=top 74
theorem mH:aN ["_law_one", "_law_other", "_law_row", "_law_i", "_law_j", "_law_k"] ["_law_one", "_law_other"] (aG gk):=⟨rfl,rfl,rfl,by decide +kernel,rfl,by decide +kernel,by decide +kernel⟩
abbrev jq:Stmt:=top 75
theorem qZ:aN ["_law_one", "_law_other", "_law_rows", "_law_row", "_law_spots", "_law_mine", "_law_yours", "_law_k"] ["_law_one", "_law_other"] (aG jq):=⟨rfl,rfl,rfl,by decide +kernel,rfl,by decide +kernel,by decide +kernel⟩
abbrev xM:Stmt:=top 76
theorem sc_l_due:aN ["_law_one", "_law_other", "_law_found"] ["_law_one", "_law_other"] (aG xM):=⟨rfl,rfl,rfl,by decide +kernel,rfl,by decide +kernel,by decide +kernel⟩
abbrev s_law:Stmt:=top 77
theorem sc_law:aN ["_law_script", "_law_one", "_law_other", "_law_handed", "_law_due_here", "_law_found"] ["_law_script"] (aG s_law):=⟨rfl,rfl,rfl,by decide +kernel,rfl,by decide +kernel,by decide +kernel⟩
def o9 (E:XWK):MS:=
  (cj (aB 0))
def jW:MSp:=mFn 2 3 false fun E=>
  (bF (bM (mCB kAbs (ao (aB 0) aJ)) (nName 0))
  (bF (bM (mCB kAbs (ao (aB 1) aJ)) (nName 1))
  (bF (mWhile (bK (mOp kNe (aB 1) (mC (.int 0)))) (bF (bM (mOp rP (aB 0) (aB 1)) (nName 2))
  (bF (bM (aB 1) (nName 0))
  (bM (aB 2) (nName 1)))))
  (o9 E))))
def dI:MSp:=jW
def tV (c_divisor_of_two:MSp)(E:XWK):MS:=
  (cj (aB 1))
def zK (c_divisor_of_two:MSp):MSp:=mFn 1 3 false fun E=>
  (bF (bM (mC (.int 0)) (nName 1))
  (bF (oN (nIt (aB 0)) (nName 2) (bM (aH c_divisor_of_two E (ao (aB 2) (ao (aB 1) aJ))) (nName 1)))
  (tV c_divisor_of_two E)))
def pD:MSp:=zK dI
def mK (E:XWK):MS:=
  (cj (mC (.bl false)))
def qN:MSp:=mFn 1 2 false fun E=>
  (bF (oN (nRev2 (ao (aB 0) aJ)) (nName 1) (gY (bK (mOp kNe (aB 1) (mC (.int 0)))) (cj (mOp kLt (aB 1) (mC (.int 0)))) cA))
  (mK E))
def iB:MSp:=qN
def t_plain_3 (c_divisor c_ends_below:MSp)(E:XWK):MS:=
  (cj (mCB vQ (ao (mLC ow1 [1] (nIt (aB 0)) iR (mOp z6 (aB 0) (aB 1))) aJ)))
def t_plain_2 (c_divisor c_ends_below:MSp)(E:XWK):MS:=
  (bF (gY (mTru (aH c_ends_below E (ao (aB 0) aJ))) (bM (mUn mNeg (aB 1)) (nName 1)) cA)
  (t_plain_3 c_divisor c_ends_below E))
def r_plain (c_divisor c_ends_below:MSp):MSp:=mFn 1 2 false fun E=>
  (bF (bM (aH c_divisor E (ao (aB 0) aJ)) (nName 1))
  (bF (gY (bK (mOp kEq (aB 1) (mC (.int 0)))) (zY "Nothing" E) cA)
  (t_plain_2 c_divisor c_ends_below E)))
def gG:MSp:=r_plain pD iB
def r_dot:MSp:=mFn 2 2 false fun E=>
  (cj (mOp cu (mOp cu (mOp cQ (mOp kIx (aB 0) (mC (.int 0))) (mOp kIx (aB 1) (mC (.int 0)))) (mOp cQ (mOp kIx (aB 0) (mC (.int 1))) (mOp kIx (aB 1) (mC (.int 1))))) (mOp cQ (mOp kIx (aB 0) (mC (.int 2))) (mOp kIx (aB 1) (mC (.int 2))))))
def vp:MSp:=r_dot
def r_cross:MSp:=mFn 2 2 false fun E=>
  (cj (j6 (ao (mOp lV (mOp cQ (mOp kIx (aB 0) (mC (.int 1))) (mOp kIx (aB 1) (mC (.int 2)))) (mOp cQ (mOp kIx (aB 0) (mC (.int 2))) (mOp kIx (aB 1) (mC (.int 1))))) (ao (mOp lV (mOp cQ (mOp kIx (aB 0) (mC (.int 2))) (mOp kIx (aB 1) (mC (.int 0)))) (mOp cQ (mOp kIx (aB 0) (mC (.int 0))) (mOp kIx (aB 1) (mC (.int 2))))) (ao (mOp lV (mOp cQ (mOp kIx (aB 0) (mC (.int 0))) (mOp kIx (aB 1) (mC (.int 1)))) (mOp cQ (mOp kIx (aB 0) (mC (.int 1))) (mOp kIx (aB 1) (mC (.int 0))))) aJ)))))
def fV:MSp:=r_cross
def r_turn (c_dot c_cross:MSp):MSp:=mFn 3 3 false fun E=>
  (cj (aH c_dot E (ao (aH c_cross E (ao (aB 0) (ao (aB 1) aJ))) (ao (aB 2) aJ))))
def tU:MSp:=r_turn vp fV
def xT (c_dot c_cross:MSp)(E:XWK):MS:=
  (bF (bM (aH c_cross E (ao (mOp kIx (aB 0) (mC (.int 0))) (ao (mOp kIx (aB 1) (mC (.int 0))) aJ))) (nName 2))
  (cj (mCB kAll (ao (mLC ow1 [2] (nIt (aB 1)) iR (mOp kEq (aH c_dot E (ao (aB 1) (ao (aB 0) aJ))) (mC (.int 0)))) aJ))))
def tE (c_dot c_cross:MSp):MSp:=mFn 1 3 false fun E=>
  (bF (bM (mLC ow1 [0] (nIt (aB 0)) (bK (mOp kNe (aB 0) (mOp kIx (aB 1) (mC (.int 0))))) (aB 0)) (nName 1))
  (bF (gY (mNot (mTru (aB 1))) (cj (mC (.bl true))) cA)
  (xT c_dot c_cross E)))
def jN:MSp:=tE vp fV
def r_on_line (c_share_one:MSp):MSp:=mFn 1 1 false fun E=>
  (cj (aH c_share_one E (ao (aB 0) aJ)))
def fU:MSp:=r_on_line jN
def vq (E:XWK):MS:=
  (cj (aB 2))
def wQ:MSp:=mFn 2 7 true fun E=>
  (bF (bM (yI (ao (j6 aJ) aJ)) (nName 2))
  (bF (oN (fM (ao (aB 1) aJ)) (nName 3) (bF (bM (uV aJ) (nName 4))
  (bF (oN (nIt (aB 2)) (nName 5) (bF (bM (mIf (bK (mOp kGt (aB 3) (mC (.int 0)))) (mOp cu (mOp kIx (aB 5) (mOp lV (aB 3) (mC (.int 1)))) (mC (.int 1))) (mC (.int 0))) (nName 6))
  (uT (mBMr gM (aB 4) (ao (mLC ow1 [5] (nRng2 (ao (aB 6) (ao (aB 0) aJ))) iR (mOp cu (aB 1) (j6 (ao (aB 0) aJ)))) aJ)))))
  (bM (aB 4) (nName 2)))))
  (vq E)))
def jC:MSp:=wQ
def xO:MSp:=mFn 2 2 false fun E=>
  (cj (mLC ow1 [0] (nIt (aB 1)) iR (mOp kIx (aB 1) (aB 0))))
def eN:MSp:=xO
def r_rows_of:MSp:=mFn 1 1 false fun E=>
  (cj (yI (ao (mSl xr (aB 0) (fG (mC (.int 0))) (fG (mC (.int 3)))) (ao (mSl xr (aB 0) (fG (mC (.int 3))) (fG (mC (.int 6)))) (ao (mSl xr (aB 0) (fG (mC (.int 6))) (fG (mC (.int 9)))) aJ)))))
def dF:MSp:=r_rows_of
def iU (c_dot c_rows_of:MSp):MSp:=mFn 2 2 false fun E=>
  (cj (mLC ow1 [1] (nIt (aH c_rows_of E (ao (aB 0) aJ))) iR (aH c_dot E (ao (aB 0) (ao (aB 1) aJ)))))
def bQ:MSp:=iU vp dF
def yL:MSp:=mFn 1 1 false fun E=>
  (cj (mLC ow1 [0] (fM (ao (mC (.int 9)) aJ)) iR (mOp kIx (aB 1) (mOp cu (mOp cQ (mC (.int 3)) (mOp rP (aB 0) (mC (.int 3)))) (mOp z6 (aB 0) (mC (.int 3)))))))
def jd:MSp:=yL
def kh (c_dot c_rows_of c_flipped:MSp)(E:XWK):MS:=
  (cj (aB 3))
def gW (c_dot c_rows_of c_flipped:MSp):MSp:=mFn 2 5 true fun E=>
  (bF (bM (aH c_rows_of E (ao (aH c_flipped E (ao (aB 1) aJ)) aJ)) (nName 2))
  (bF (bM (uV aJ) (nName 3))
  (bF (oN (nIt (aH c_rows_of E (ao (aB 0) aJ))) (nName 4) (uT (mBMr gM (aB 3) (ao (mLC ow1 [4] (nIt (aB 2)) iR (aH c_dot E (ao (aB 1) (ao (aB 0) aJ)))) aJ))))
  (kh c_dot c_rows_of c_flipped E))))
def bZ:MSp:=gW vp dF jd
def r_turned (c_cross c_rows_of:MSp):MSp:=mFn 1 2 false fun E=>
  (bF (bM (aH c_rows_of E (ao (aB 0) aJ)) (nName 1))
  (cj (mOp cu (mOp cu (aH c_cross E (ao (mOp kIx (aB 1) (mC (.int 1))) (ao (mOp kIx (aB 1) (mC (.int 2))) aJ))) (aH c_cross E (ao (mOp kIx (aB 1) (mC (.int 2))) (ao (mOp kIx (aB 1) (mC (.int 0))) aJ)))) (aH c_cross E (ao (mOp kIx (aB 1) (mC (.int 0))) (ao (mOp kIx (aB 1) (mC (.int 1))) aJ))))))
def jO:MSp:=r_turned fV dF
def r_led (c_plain c_table_times_row:MSp):MSp:=mFn 2 2 false fun E=>
  (cj (aH c_plain E (ao (aH c_table_times_row E (ao (aB 0) (ao (aB 1) aJ))) aJ)))
def m_led:MSp:=r_led gG bQ
def r_then (c_plain c_table_times_table:MSp):MSp:=mFn 2 2 false fun E=>
  (cj (aH c_plain E (ao (aH c_table_times_table E (ao (aB 1) (ao (aB 0) aJ))) aJ)))
def m_then:MSp:=r_then gG bZ
def r_back (c_plain c_flipped c_turned:MSp):MSp:=mFn 1 1 false fun E=>
  (cj (aH c_plain E (ao (aH c_flipped E (ao (aH c_turned E (ao (aB 0) aJ)) aJ)) aJ)))
def m_back:MSp:=r_back gG jd jO
def r_tiles:MSp:=mFn 0 0 false fun E=>
  (cj (mCB kList (ao (mC qJ) aJ)))
def tG:MSp:=r_tiles
def wk (c_turn:MSp):MSp:=mFn 1 2 false fun E=>
  (bF (bM (yI (ao (aH c_turn E (ao (mOp kIx (aB 0) (mC (.int 0))) (ao (mOp kIx (aB 0) (mC (.int 1))) (ao (mOp kIx (aB 0) (mC (.int 2))) aJ)))) (ao (aH c_turn E (ao (mOp kIx (aB 0) (mC (.int 0))) (ao (mOp kIx (aB 0) (mC (.int 1))) (ao (mOp kIx (aB 0) (mC (.int 3))) aJ)))) (ao (aH c_turn E (ao (mOp kIx (aB 0) (mC (.int 0))) (ao (mOp kIx (aB 0) (mC (.int 2))) (ao (mOp kIx (aB 0) (mC (.int 3))) aJ)))) (ao (aH c_turn E (ao (mOp kIx (aB 0) (mC (.int 1))) (ao (mOp kIx (aB 0) (mC (.int 2))) (ao (mOp kIx (aB 0) (mC (.int 3))) aJ)))) aJ))))) (nName 1))
  (cj (mOp kNin (mC (.int 0)) (aB 1))))
def d8:MSp:=wk tU
def qP (c_plain c_table_times_row c_turned:MSp):MSp:=mFn 1 2 false fun E=>
  (bF (bM (aH c_table_times_row E (ao (aH c_turned E (ao (mOp cu (mOp cu (mOp kIx (aB 0) (mC (.int 0))) (mOp kIx (aB 0) (mC (.int 1)))) (mOp kIx (aB 0) (mC (.int 2)))) aJ)) (ao (mOp kIx (aB 0) (mC (.int 3))) aJ))) (nName 1))
  (cj (aH c_plain E (ao (mLC ow1 [0,1] (fM (ao (mC (.int 9)) aJ)) iR (mOp cQ (mOp kIx (aB 2) (mOp rP (aB 0) (mC (.int 3)))) (mOp kIx (mOp kIx (aB 1) (mOp rP (aB 0) (mC (.int 3)))) (mOp z6 (aB 0) (mC (.int 3)))))) aJ))))
def fK:MSp:=qP gG bQ jO
def kO (c_then c_back c_are_free c_from_tiles:MSp)(E:XWK):MS:=
  (cj (aH c_then E (ao (aH c_back E (ao (aH c_from_tiles E (ao (aB 0) aJ)) aJ)) (ao (aH c_from_tiles E (ao (aB 1) aJ)) aJ))))
def jP (c_then c_back c_are_free c_from_tiles:MSp):MSp:=mFn 2 2 false fun E=>
  (bF (gY (mOr (mNot (mTru (aH c_are_free E (ao (aB 0) aJ)))) (mNot (mTru (aH c_are_free E (ao (aB 1) aJ))))) (zY "NotFree" E) cA)
  (kO c_then c_back c_are_free c_from_tiles E))
def dj:MSp:=jP m_then m_back d8 fK
def gR:MSp:=mFn 1 1 false fun E=>
  (gY (mOr (bK (mOp kLt (mCB kLen (ao (aB 0) aJ)) (mC (.int 1)))) (bK (mOp kGt (mCB kLen (ao (aB 0) aJ)) (mC (.int 12))))) (zY "NoPicture" E) cA)
def cW:MSp:=gR
def mG (c_rising c_picked c_are_free:MSp)(E:XWK):MS:=
  (cj (mC .non))
def j9 (c_rising c_picked c_are_free:MSp):MSp:=mFn 1 2 false fun E=>
  (bF (oN (nIt (aH c_rising E (ao (mCB kLen (ao (aB 0) aJ)) (ao (mC (.int 4)) aJ)))) (nName 1) (gY (mTru (aH c_are_free E (ao (aH c_picked E (ao (aB 0) (ao (aB 1) aJ))) aJ))) (cj (aB 1)) cA))
  (mG c_rising c_picked c_are_free E))
def g8:MSp:=j9 jC eN d8
def mU (c_cross:MSp):MSp:=mFn 1 3 false fun E=>
  (bF (bM (mLC ow1 [0] (nIt (aB 0)) (bK (mOp kNe (aB 0) (mOp kIx (aB 1) (mC (.int 0))))) (aB 0)) (nName 1))
  (bF (bM (aH c_cross E (ao (mOp kIx (aB 0) (mC (.int 0))) (ao (mOp kIx (aB 1) (mC (.int 0))) aJ))) (nName 2))
  (cj (mOp kIx (mLC ow1 [2] (fM (ao (mC (.int 3)) aJ)) (bK (mOp kNe (mOp kIx (aB 1) (aB 0)) (mC (.int 0)))) (aB 0)) (mC (.int 0))))))
def jG:MSp:=mU fV
def uc:MSp:=mFn 3 5 false fun E=>
  (bF (bM (mOp rP (mOp cu (aB 2) (mC (.int 1))) (mC (.int 3))) (nName 3))
  (bF (bM (mOp rP (mOp cu (aB 2) (mC (.int 2))) (mC (.int 3))) (nName 4))
  (cj (mOp lV (mOp cQ (mOp kIx (aB 0) (aB 3)) (mOp kIx (aB 1) (aB 4))) (mOp cQ (mOp kIx (aB 0) (aB 4)) (mOp kIx (aB 1) (aB 3)))))))
def gQ:MSp:=uc
def fB:MSp:=mFn 1 1 false fun E=>
  (cj (mOp kGt (mCB kMaxA (ao (mLC ow1 [0] (nIt (aB 0)) iR (mBMl vI (aB 1) (ao (aB 0) aJ))) aJ)) (mC (.int 2))))
def dh:MSp:=fB
def gH (c_place_off c_turn_at:MSp):MSp:=mFn 1 2 false fun E=>
  (bF (bM (aH c_place_off E (ao (aB 0) aJ)) (nName 1))
  (cj (yI (ao (mOp cQ (aH c_turn_at E (ao (mOp kIx (aB 0) (mC (.int 0))) (ao (mOp kIx (aB 0) (mC (.int 2))) (ao (aB 1) aJ)))) (aH c_turn_at E (ao (mOp kIx (aB 0) (mC (.int 1))) (ao (mOp kIx (aB 0) (mC (.int 3))) (ao (aB 1) aJ))))) (ao (mOp cQ (aH c_turn_at E (ao (mOp kIx (aB 0) (mC (.int 0))) (ao (mOp kIx (aB 0) (mC (.int 3))) (ao (aB 1) aJ)))) (aH c_turn_at E (ao (mOp kIx (aB 0) (mC (.int 1))) (ao (mOp kIx (aB 0) (mC (.int 2))) (ao (aB 1) aJ))))) aJ)))))
def cY:MSp:=gH jG gQ
def jf:MSp:=mFn 2 2 false fun E=>
  (cj (mOp kNe (mOp kEq (mOp kIx (aB 0) (mC (.int 0))) (mOp kIx (aB 0) (mC (.int 1)))) (mOp kEq (mOp kIx (aB 1) (mC (.int 0))) (mOp kIx (aB 1) (mC (.int 1))))))
def eF:MSp:=jf
def gC (c_on_line:MSp):MSp:=mFn 2 2 false fun E=>
  (cj (mOp kNe (aH c_on_line E (ao (aB 0) aJ)) (aH c_on_line E (ao (aB 1) aJ))))
def cU:MSp:=gC fU
def iT (c_on_line c_has_three_alike c_throw_numbers:MSp)(E:XWK):MS:=
  (bF (bM (aH c_throw_numbers E (ao (aB 0) aJ)) (nName 2))
  (bF (bM (aH c_throw_numbers E (ao (aB 1) aJ)) (nName 3))
  (cj (mOp kNe (mOp cQ (mOp kIx (aB 2) (mC (.int 0))) (mOp kIx (aB 3) (mC (.int 1)))) (mOp cQ (mOp kIx (aB 2) (mC (.int 1))) (mOp kIx (aB 3) (mC (.int 0))))))))
def gP (c_on_line c_has_three_alike c_throw_numbers:MSp):MSp:=mFn 2 4 false fun E=>
  (bF (gY (mOr (mNot (mTru (aH c_on_line E (ao (aB 0) aJ)))) (mTru (aH c_has_three_alike E (ao (aB 0) aJ)))) (cj (mC (.bl false))) cA)
  (iT c_on_line c_has_three_alike c_throw_numbers E))
def cX:MSp:=gP fU dh cY
def jV (F_twos_differ F_threes_differ F_throws_differ:Addr)(c_rising c_picked c_twos_differ c_threes_differ c_throws_differ:MSp)(E:XWK):MS:=
  (cj (mC .non))
def fJ (F_twos_differ F_threes_differ F_throws_differ:Addr)(c_rising c_picked c_twos_differ c_threes_differ c_throws_differ:MSp):MSp:=mFn 4 5 false fun E=>
  (bF (oN (nIt (aH c_rising E (ao (mCB kLen (ao (aB 0) aJ)) (ao (aB 2) aJ)))) (nName 4) (gY (mTru (yU [(F_twos_differ,c_twos_differ),(F_threes_differ,c_threes_differ),(F_throws_differ,c_throws_differ)] 3 (ao (aH c_picked E (ao (aB 0) (ao (aB 4) aJ))) (ao (aH c_picked E (ao (aB 1) (ao (aB 4) aJ))) aJ)))) (cj (aB 4)) cA))
  (jV F_twos_differ F_threes_differ F_throws_differ c_rising c_picked c_twos_differ c_threes_differ c_throws_differ E))
def cO (F_twos_differ F_threes_differ F_throws_differ:Addr):MSp:=fJ F_twos_differ F_threes_differ F_throws_differ jC eN eF cU cX
def lF (c_picked c_led c_tiles c_map_between c_first_free:MSp)(E:XWK):MS:=
  (cj (mC .non))
def lD (c_picked c_led c_tiles c_map_between c_first_free:MSp)(E:XWK):MS:=
  (bF (bM (aH c_map_between E (ao (aH c_picked E (ao (aB 0) (ao (aB 2) aJ))) (ao (aH c_tiles E aJ) aJ))) (nName 3))
  (bF (bM (aH c_map_between E (ao (aH c_picked E (ao (aB 1) (ao (aB 2) aJ))) (ao (aH c_tiles E aJ) aJ))) (nName 4))
  (bF (oN (fM (ao (mCB kLen (ao (aB 0) aJ)) aJ)) (nName 5) (gY (bK (mOp kNe (aH c_led E (ao (aB 3) (ao (mOp kIx (aB 0) (aB 5)) aJ))) (aH c_led E (ao (aB 4) (ao (mOp kIx (aB 1) (aB 5)) aJ))))) (cj (mOp cu (aB 2) (j6 (ao (aB 5) aJ)))) cA))
  (lF c_picked c_led c_tiles c_map_between c_first_free E))))
def jz (c_picked c_led c_tiles c_map_between c_first_free:MSp):MSp:=mFn 2 6 false fun E=>
  (bF (bM (aH c_first_free E (ao (aB 0) aJ)) (nName 2))
  (bF (gY (bK (mOp kIs (aB 2) (mC .non))) (cj (mC .non)) cA)
  (lD c_picked c_led c_tiles c_map_between c_first_free E)))
def gb:MSp:=jz eN m_led tG dj g8
def fY (F_twos_differ F_threes_differ F_throws_differ:Addr)(c_first_places c_fifth_apart:MSp)(E:XWK):MS:=
  (bF (bM (aH c_fifth_apart E (ao (aB 0) (ao (aB 1) aJ))) (nName 5))
  (cj (mIf (bK (mOp kIs (aB 5) (mC .non))) (mC .non) (j6 (ao (mC (.str "five")) (ao (aB 5) aJ))))))
def eH (F_twos_differ F_threes_differ F_throws_differ:Addr)(c_first_places c_fifth_apart:MSp):MSp:=mFn 2 6 false fun E=>
  (bF (oN (nIt (yI (ao (j6 (ao (mC (.str "two")) (ao (mC (.int 2)) (ao (mC (.fnv F_twos_differ 0)) aJ)))) (ao (j6 (ao (mC (.str "three")) (ao (mC (.int 3)) (ao (mC (.fnv F_threes_differ 1)) aJ)))) (ao (j6 (ao (mC (.str "throw")) (ao (mC (.int 4)) (ao (mC (.fnv F_throws_differ 2)) aJ)))) aJ))))) (pX 3 (dX (nName 2) (dX (nName 3) (dX (nName 4) nNil)))) (bF (bM (aH c_first_places E (ao (aB 0) (ao (aB 1) (ao (aB 3) (ao (aB 4) aJ))))) (nName 5))
  (gY (bK (mOp kIsnt (aB 5) (mC .non))) (cj (j6 (ao (aB 2) (ao (aB 5) aJ)))) cA)))
  (fY F_twos_differ F_threes_differ F_throws_differ c_first_places c_fifth_apart E))
def cP (F_twos_differ F_threes_differ F_throws_differ:Addr):MSp:=eH F_twos_differ F_threes_differ F_throws_differ (cO F_twos_differ F_threes_differ F_throws_differ) gb
def t_apart_3 (c_check_picture c_apart_of_as_many:MSp)(E:XWK):MS:=
  (cj (aH c_apart_of_as_many E (ao (aB 0) (ao (aB 1) aJ))))
def r_apart (c_check_picture c_apart_of_as_many:MSp):MSp:=mFn 2 2 false fun E=>
  (bF (uT (aH c_check_picture E (ao (aB 0) aJ)))
  (bF (uT (aH c_check_picture E (ao (aB 1) aJ)))
  (bF (gY (bK (mOp kNe (mCB kLen (ao (aB 0) aJ)) (mCB kLen (ao (aB 1) aJ)))) (cj (j6 (ao (mC (.str "many")) (ao (j6 aJ) aJ)))) cA)
  (t_apart_3 c_check_picture c_apart_of_as_many E))))
def qw (F_twos_differ F_threes_differ F_throws_differ:Addr):MSp:=r_apart cW (cP F_twos_differ F_threes_differ F_throws_differ)
def xu (E:XWK):MS:=
  (cj (mC (.int 0)))
def uy:MSp:=mFn 2 2 false fun E=>
  (bF (gY (bK (mOp kLt (aB 1) (mCB kLen (ao (aB 0) aJ)))) (cj (mOp kIx (aB 0) (aB 1))) cA)
  (xu E))
def jx:MSp:=uy
def t_l_rest_5 (c_l_cell_at:MSp)(E:XWK):MS:=
  (cj (uV (ao (mOp z6 (aB 2) (mC (.int 2))) (ao (aB 4) aJ))))
def t_l_rest_4 (c_l_cell_at:MSp)(E:XWK):MS:=
  (bF (gY (bK (mOp kEq (mOp rP (aB 2) (mC (.int 2))) (mC (.int 0)))) (cj (uV (ao (aB 4) aJ))) cA)
  (t_l_rest_5 c_l_cell_at E))
def r_l_rest (c_l_cell_at:MSp):MSp:=mFn 2 6 false fun E=>
  (bF (bM (aH c_l_cell_at E (ao (aB 0) (ao (aB 1) aJ))) (nName 2))
  (bF (bM (mOp rP (mOp cQ (mOp cu (mOp cu (mOp rP (mOp z6 (aB 2) (mC (.int 2))) (mOp kPow (mC (.int 10)) (mC (.int 18)))) (mOp cQ (mOp cQ (mC (.int 7919)) (aB 1)) (aB 1))) (mC (.int 1))) (mC (.int 48271))) (mC (.int 999999000001))) (nName 3))
  (bF (bM (mC (.int 0)) (nName 4))
  (bF (oN (fM (ao (mC (.int 60)) aJ)) (nName 5) (bF (bM (mOp rP (mOp cu (mOp cu (mOp cQ (aB 3) (mC (.int 69621))) (mOp cQ (aB 5) (aB 5))) (mC (.int 1))) (mC (.int 999999000001))) (nName 3))
  (bM (mOp cu (mOp cQ (aB 4) (mOp kPow (mC (.int 10)) (mC (.int 12)))) (mOp rP (mOp cQ (aB 3) (mOp cu (aB 3) (mOp cQ (mC (.int 31)) (aB 5)))) (mC (.int 1000000000039)))) (nName 4))))
  (t_l_rest_4 c_l_cell_at E)))))
def gj:MSp:=r_l_rest jx
def t_l_digit_1 (E:XWK):MS:=
  (bF (bM (mOp rP (mOp kIx (aB 0) (mC (.int 0))) (aB 1)) (nName 2))
  (bF (bM (mOp z6 (mOp kIx (aB 0) (mC (.int 0))) (aB 1)) (nSub (aB 0) (mC (.int 0)) sSetL))
  (cj (aB 2))))
def r_l_digit:MSp:=mFn 2 3 false fun E=>
  (bF (gY (mAnd (bK (mOp kLt (mOp kIx (aB 0) (mC (.int 0))) (mC (.int 2)))) (bK (mOp kGt (mCB kLen (ao (aB 0) aJ)) (mC (.int 1))))) (bM (mBMr0 kPop (aB 0)) (nSub (aB 0) (mC (.int 0)) sSetL)) cA)
  (t_l_digit_1 E))
def bx:MSp:=r_l_digit
def yM (c_l_digit:MSp)(E:XWK):MS:=
  (cj (mOp cu (mOp lV (aH c_l_digit E (ao (aB 0) (ao (mOp lV (mOp cQ (mC (.int 2)) (aB 1)) (mC (.int 1))) aJ))) (aB 1)) (mC (.int 1))))
def Ao (c_l_digit:MSp)(E:XWK):MS:=
  (bF (gY (bK (mOp kEq (aB 2) (mC (.int 1)))) (cj (mOp lV (aH c_l_digit E (ao (aB 0) (ao (mC (.int 41)) aJ))) (mC (.int 20)))) cA)
  (yM c_l_digit E))
def v7 (c_l_digit:MSp):MSp:=mFn 2 3 false fun E=>
  (bF (bM (aH c_l_digit E (ao (aB 0) (ao (mC (.int 3)) aJ))) (nName 2))
  (bF (gY (bK (mOp kEq (aB 2) (mC (.int 0)))) (cj (mOp lV (aH c_l_digit E (ao (aB 0) (ao (mC (.int 7)) aJ))) (mC (.int 3)))) cA)
  (Ao c_l_digit E)))
def eZ:MSp:=v7 bx
def pJ (E:XWK):MS:=
  (cj (aB 1))
def tX:MSp:=mFn 1 5 false fun E=>
  (bF (bM (mC (.int 0)) (nName 1))
  (bF (oN (nIt (aB 0)) (nName 2) (bF (bM (mCB kMax (ao (aB 1) (ao (mCB kAbs (ao (aB 2) aJ)) aJ))) (nName 3))
  (bF (bM (mCB kMin (ao (aB 1) (ao (mCB kAbs (ao (aB 2) aJ)) aJ))) (nName 4))
  (bF (mWhile (bK (mOp kGt (aB 4) (mC (.int 0)))) (mPar 3 4 (ao (aB 4) (ao (mOp rP (aB 3) (aB 4)) aJ))))
  (bM (aB 3) (nName 1))))))
  (pJ E)))
def jB:MSp:=tX
def uG (c_l_divisor:MSp)(E:XWK):MS:=
  (cj (mCB vQ (ao (mLC ow1 [1] (nIt (aB 0)) iR (mOp z6 (aB 0) (aB 1))) aJ)))
def Ae (c_l_divisor:MSp):MSp:=mFn 1 2 false fun E=>
  (bF (bM (aH c_l_divisor E (ao (aB 0) aJ)) (nName 1))
  (bF (gY (bK (mOp kLt (mOp kIx (mLC ow1 [] (nIt (aB 0)) (bK (mOp kNe (aB 0) (mC (.int 0)))) (aB 0)) (mUn mNeg (mC (.int 1)))) (mC (.int 0)))) (bM (mOp lV (mC (.int 0)) (aB 1)) (nName 1)) cA)
  (uG c_l_divisor E)))
def cI:MSp:=Ae jB
def t_l_spot_2 (c_l_number c_l_plain:MSp)(E:XWK):MS:=
  (cj (aH c_l_plain E (ao (aB 2) aJ)))
def wH (c_l_number c_l_plain:MSp):MSp:=mFn 2 3 false fun E=>
  (bF (bM (mLC ow1 [0,1] (fM (ao (mC (.int 3)) aJ)) iR (aH c_l_number E (ao (aB 1) (ao (aB 2) aJ)))) (nName 2))
  (bF (gY (bK (mOp kEq (aB 2) (yI (ao (mC (.int 0)) (ao (mC (.int 0)) (ao (mC (.int 0)) aJ)))))) (bM (yI (ao (mC (.int 0)) (ao (mC (.int 0)) (ao (mC (.int 1)) aJ)))) (nName 2)) cA)
  (t_l_spot_2 c_l_number c_l_plain E)))
def gB:MSp:=wH eZ cI
def t_l_cross_2 (E:XWK):MS:=
  (cj (mCB vQ (ao (aB 2) aJ)))
def Ah:MSp:=mFn 2 4 true fun E=>
  (bF (bM (uV aJ) (nName 2))
  (bF (oN (fM (ao (mC (.int 3)) aJ)) (nName 3) (uT (mBMr nj (aB 2) (ao (mOp lV (mOp cQ (mOp kIx (aB 0) (mOp lV (aB 3) (mC (.int 2)))) (mOp kIx (aB 1) (mOp lV (aB 3) (mC (.int 1))))) (mOp cQ (mOp kIx (aB 0) (mOp lV (aB 3) (mC (.int 1)))) (mOp kIx (aB 1) (mOp lV (aB 3) (mC (.int 2)))))) aJ))))
  (t_l_cross_2 E)))
def jc:MSp:=Ah
def r_l_dot:MSp:=mFn 2 2 false fun E=>
  (cj (mCB kSum (ao (mLC (owT 2) [] (nZip (ao (aB 0) (ao (aB 1) aJ))) iR (mOp cQ (aB 0) (aB 1))) aJ)))
def jk:MSp:=r_l_dot
def r_l_size:MSp:=mFn 1 11 false fun E=>
  (bF (bM (mSl xr (aB 0) (fG (mC (.int 0))) (fG (mC (.int 3)))) (pX 3 (dX (nName 1) (dX (nName 2) (dX (nName 3) nNil)))))
  (bF (bM (mSl xr (aB 0) (fG (mC (.int 3))) (fG (mC (.int 6)))) (pX 3 (dX (nName 4) (dX (nName 5) (dX (nName 6) nNil)))))
  (bF (bM (mSl xr (aB 0) (fG (mC (.int 6))) (fG (mC (.int 9)))) (pX 3 (dX (nName 7) (dX (nName 8) (dX (nName 9) nNil)))))
  (bF (bM (mOp cQ (aB 1) (mOp lV (mOp cQ (aB 5) (aB 9)) (mOp cQ (aB 6) (aB 8)))) (nName 10))
  (bF (bM (mOp lV (aB 10) (mOp cQ (aB 2) (mOp lV (mOp cQ (aB 4) (aB 9)) (mOp cQ (aB 6) (aB 7))))) (nName 10))
  (cj (mOp cu (aB 10) (mOp cQ (aB 3) (mOp lV (mOp cQ (aB 4) (aB 8)) (mOp cQ (aB 5) (aB 7)))))))))))
def sS:MSp:=r_l_size
def t_l_map_2 (c_l_number c_l_plain c_l_size:MSp)(E:XWK):MS:=
  (cj (aH c_l_plain E (ao (aB 2) aJ)))
def r_l_map (c_l_number c_l_plain c_l_size:MSp):MSp:=mFn 2 3 false fun E=>
  (bF (bM (mLC ow1 [0,1] (fM (ao (mC (.int 9)) aJ)) iR (aH c_l_number E (ao (aB 1) (ao (aB 2) aJ)))) (nName 2))
  (bF (gY (bK (mOp kEq (aH c_l_size E (ao (aB 2) aJ)) (mC (.int 0)))) (bM (yI (ao (mC (.int 1)) (ao (mC (.int 0)) (ao (mOp kIx (aB 2) (mC (.int 2))) (ao (mC (.int 0)) (ao (mC (.int 1)) (ao (mOp kIx (aB 2) (mC (.int 5))) (ao (mC (.int 0)) (ao (mC (.int 0)) (ao (mC (.int 1)) aJ)))))))))) (nName 2)) cA)
  (t_l_map_2 c_l_number c_l_plain c_l_size E)))
def yh:MSp:=r_l_map eZ cI sS
def r_l_led (c_l_plain c_l_dot:MSp):MSp:=mFn 2 2 false fun E=>
  (cj (aH c_l_plain E (ao (mLC ow1 [0,1] (fM (ao (mC (.int 3)) aJ)) iR (aH c_l_dot E (ao (mSl xr (aB 1) (fG (mOp cQ (mC (.int 3)) (aB 0))) (fG (mOp cu (mOp cQ (mC (.int 3)) (aB 0)) (mC (.int 3))))) (ao (aB 2) aJ)))) aJ)))
def wX:MSp:=r_l_led cI jk
def yD (c_l_cross c_l_dot:MSp):MSp:=mFn 3 3 false fun E=>
  (cj (aH c_l_dot E (ao (aH c_l_cross E (ao (aB 0) (ao (aB 1) aJ))) (ao (aB 2) aJ))))
def bH:MSp:=yD jc jk
def wu (c_l_turn:MSp)(E:XWK):MS:=
  (cj (mC (.bl true)))
def xY (c_l_turn:MSp):MSp:=mFn 1 2 false fun E=>
  (bF (oN (fM (ao (mC (.int 4)) aJ)) (nName 1) (gY (bK (mOp kEq (aH c_l_turn E (ao (mOp kIx (aB 0) (mOp lV (aB 1) (mC (.int 3)))) (ao (mOp kIx (aB 0) (mOp lV (aB 1) (mC (.int 2)))) (ao (mOp kIx (aB 0) (mOp lV (aB 1) (mC (.int 1)))) aJ)))) (mC (.int 0)))) (cj (mC (.bl false))) cA))
  (wu c_l_turn E))
def oA:MSp:=xY bH
def uW (c_l_digit c_l_plain:MSp)(E:XWK):MS:=
  (cj (aH c_l_plain E (ao (aB 5) aJ)))
def uD (c_l_digit c_l_plain:MSp):MSp:=mFn 3 6 false fun E=>
  (bF (bM (mOp lV (aH c_l_digit E (ao (aB 2) (ao (mC (.int 41)) aJ))) (mC (.int 20))) (nName 3))
  (bF (bM (mOp lV (aH c_l_digit E (ao (aB 2) (ao (mC (.int 41)) aJ))) (mC (.int 20))) (nName 4))
  (bF (bM (mLC (owT 2) [3,4] (nZip (ao (aB 0) (ao (aB 1) aJ))) iR (mOp cu (mOp cQ (aB 2) (aB 0)) (mOp cQ (aB 3) (aB 1)))) (nName 5))
  (bF (gY (bK (mOp kEq (aB 5) (yI (ao (mC (.int 0)) (ao (mC (.int 0)) (ao (mC (.int 0)) aJ)))))) (cj (aB 0)) cA)
  (uW c_l_digit c_l_plain E)))))
def fP:MSp:=uD bx cI
def vM (c_l_digit c_l_spot c_l_mixed:MSp)(E:XWK):MS:=
  (cj (aH c_l_spot E (ao (aB 2) (ao (mOp kPow (mC (.int 10)) (mC (.int 9))) aJ))))
def qH (c_l_digit c_l_spot c_l_mixed:MSp)(E:XWK):MS:=
  (bF (gY (bK (mOp kGt (aB 3) (mC (.int 1)))) (cj (aH c_l_mixed E (ao (aB 4) (ao (aB 5) (ao (aB 2) aJ))))) cA)
  (vM c_l_digit c_l_spot c_l_mixed E))
def pZ (c_l_digit c_l_spot c_l_mixed:MSp)(E:XWK):MS:=
  (bF (gY (mOr (mAnd (bK (mOp kEq (aB 1) (mC (.int 2)))) (bK (mOp kGt (mCB kLen (ao (aB 0) aJ)) (mC (.int 2))))) (bK (mOp kEq (aB 3) (mC (.int 4))))) (cj (aB 4)) cA)
  (qH c_l_digit c_l_spot c_l_mixed E))
def yt (c_l_digit c_l_spot c_l_mixed:MSp):MSp:=mFn 3 6 false fun E=>
  (bF (bM (aH c_l_digit E (ao (aB 2) (ao (mC (.int 6)) aJ))) (nName 3))
  (bF (bM (mOp kIx (aB 0) (aH c_l_digit E (ao (aB 2) (ao (mCB kLen (ao (aB 0) aJ)) aJ)))) (nName 4))
  (bF (bM (mOp kIx (aB 0) (aH c_l_digit E (ao (aB 2) (ao (mCB kLen (ao (aB 0) aJ)) aJ)))) (nName 5))
  (bF (gY (mAnd (bK (mOp kEq (aB 1) (mC (.int 1)))) (mAnd (bK (mOp kGt (mCB kLen (ao (aB 0) aJ)) (mC (.int 1)))) (bK (mOp kLt (aB 3) (mC (.int 5)))))) (cj (aH c_l_mixed E (ao (mOp kIx (aB 0) (mC (.int 0))) (ao (mOp kIx (aB 0) (mC (.int 1))) (ao (aB 2) aJ))))) cA)
  (pZ c_l_digit c_l_spot c_l_mixed E)))))
def sJ:MSp:=yt bx gB fP
def n6 (c_l_digit c_l_spot c_l_next:MSp)(E:XWK):MS:=
  (cj (aB 4))
def mW (c_l_digit c_l_spot c_l_next:MSp):MSp:=mFn 2 6 false fun E=>
  (bF (bM (aH c_l_digit E (ao (aB 0) (ao (aB 1) aJ))) (nName 2))
  (bF (bM (aH c_l_digit E (ao (aB 0) (ao (mC (.int 4)) aJ))) (nName 3))
  (bF (bM (uV (ao (aH c_l_spot E (ao (aB 0) (ao (mOp kPow (mC (.int 10)) (mC (.int 9))) aJ))) aJ)) (nName 4))
  (bF (oN (fM (ao (aB 2) aJ)) (nName 5) (uT (mBMr nj (aB 4) (ao (aH c_l_next E (ao (aB 4) (ao (aB 3) (ao (aB 0) aJ)))) aJ))))
  (n6 c_l_digit c_l_spot c_l_next E)))))
def fC:MSp:=mW bx gB sJ
def jl (c_l_digit c_l_spot c_l_mixed:MSp)(E:XWK):MS:=
  (cj (mOp cu (mOp cu (mSl xr (aB 0) jJ (fG (aB 2))) (yI (ao (aB 4) aJ))) (mSl xr (aB 0) (fG (mOp cu (aB 2) (mC (.int 1)))) jJ)))
def ju (c_l_digit c_l_spot c_l_mixed:MSp)(E:XWK):MS:=
  (bF (gY (bK (mOp kEq (aB 3) (mC (.int 2)))) (bM (aH c_l_spot E (ao (aB 1) (ao (mOp kPow (mC (.int 10)) (mC (.int 9))) aJ))) (nName 4)) cA)
  (jl c_l_digit c_l_spot c_l_mixed E))
def mY (c_l_digit c_l_spot c_l_mixed:MSp):MSp:=mFn 2 5 false fun E=>
  (bF (bM (aH c_l_digit E (ao (aB 1) (ao (mCB kLen (ao (aB 0) aJ)) aJ))) (nName 2))
  (bF (bM (aH c_l_digit E (ao (aB 1) (ao (mC (.int 3)) aJ))) (nName 3))
  (bF (bM (mOp kIx (aB 0) (aH c_l_digit E (ao (aB 1) (ao (mCB kLen (ao (aB 0) aJ)) aJ)))) (nName 4))
  (bF (gY (bK (mOp kEq (aB 3) (mC (.int 1)))) (bM (aH c_l_mixed E (ao (mOp kIx (aB 0) (aB 2)) (ao (aB 4) (ao (aB 1) aJ)))) (nName 4)) cA)
  (ju c_l_digit c_l_spot c_l_mixed E)))))
def jD:MSp:=mY bx gB fP
def tB (c_l_rest c_l_digit c_l_map c_l_led c_l_picture c_l_changed:MSp)(E:XWK):MS:=
  (cj (j6 (ao (aB 2) (ao (mSl xr (aB 4) jJ (fG (mC (.int 12)))) aJ))))
def uN (c_l_rest c_l_digit c_l_map c_l_led c_l_picture c_l_changed:MSp)(E:XWK):MS:=
  (bF (gY (bK (mOp kEq (aH c_l_digit E (ao (aB 5) (ao (mC (.int 12)) aJ))) (mC (.int 5)))) (bM (mOp cu (mOp cu (mSl xr (aB 4) (fG (mC (.int 1))) jJ) (mSl xr (aB 4) jJ (fG (mC (.int 1))))) (mSl xr (aB 4) jJ (fG (mC (.int 1))))) (nName 4)) cA)
  (tB c_l_rest c_l_digit c_l_map c_l_led c_l_picture c_l_changed E))
def nT (c_l_rest c_l_digit c_l_map c_l_led c_l_picture c_l_changed:MSp)(E:XWK):MS:=
  (bF (gY (bK (mOp kEq (aB 6) (mC (.int 3)))) (bF (bM (aH c_l_picture E (ao (aB 5) (ao (aB 1) aJ))) (nName 4))
  (bM (mSl xr (mOp cu (aB 4) (aB 2)) jJ (fG (mCB kLen (ao (aB 2) aJ)))) (nName 4))) cA)
  (uN c_l_rest c_l_digit c_l_map c_l_led c_l_picture c_l_changed E))
def r_l_two (c_l_rest c_l_digit c_l_map c_l_led c_l_picture c_l_changed:MSp):MSp:=mFn 2 7 false fun E=>
  (bF (bM (aH c_l_picture E (ao (aH c_l_rest E (ao (aB 0) (ao (mC (.int 0)) aJ))) (ao (aB 1) aJ))) (nName 2))
  (bF (bM (aH c_l_map E (ao (aH c_l_rest E (ao (aB 0) (ao (mC (.int 1)) aJ))) (ao (mOp kPow (mC (.int 10)) (mC (.int 9))) aJ))) (nName 3))
  (bF (bM (mLC ow1 [3] (nIt (aB 2)) iR (aH c_l_led E (ao (aB 1) (ao (aB 0) aJ)))) (nName 4))
  (bF (bM (aH c_l_rest E (ao (aB 0) (ao (mC (.int 2)) aJ))) (nName 5))
  (bF (bM (aH c_l_digit E (ao (aB 5) (ao (mC (.int 4)) aJ))) (nName 6))
  (bF (gY (mOr (bK (mOp kEq (aB 6) (mC (.int 1)))) (bK (mOp kEq (aB 6) (mC (.int 2))))) (bM (aH c_l_changed E (ao (aB 4) (ao (aB 5) aJ))) (nName 4)) cA)
  (nT c_l_rest c_l_digit c_l_map c_l_led c_l_picture c_l_changed E)))))))
def uF:MSp:=r_l_two gj bx yh wX fC jD
def qK (E:XWK):MS:=
  (cj (aB 2))
def qC:MSp:=mFn 2 7 true fun E=>
  (bF (bM (yI (ao (j6 aJ) aJ)) (nName 2))
  (bF (oN (fM (ao (aB 1) aJ)) (nName 3) (bF (bM (uV aJ) (nName 4))
  (bF (oN (nIt (aB 2)) (nName 5) (bF (bM (mC (.int 0)) (nName 6))
  (bF (gY (bK (mOp kNe (aB 5) (j6 aJ))) (bM (mOp cu (mOp kIx (aB 5) (mUn mNeg (mC (.int 1)))) (mC (.int 1))) (nName 6)) cA)
  (uT (mBMr gM (aB 4) (ao (mLC ow1 [5] (nRng2 (ao (aB 6) (ao (aB 0) aJ))) iR (mOp cu (aB 1) (j6 (ao (aB 0) aJ)))) aJ))))))
  (bM (aB 4) (nName 2)))))
  (qK E)))
def dz:MSp:=qC
def tL (c_l_cross c_l_dot c_l_turn:MSp):MSp:=mFn 1 9 false fun E=>
  (bF (bM (aB 0) (pX 4 (dX (nName 1) (dX (nName 2) (dX (nName 3) (dX (nName 4) nNil))))))
  (bF (bM (mOp kIx (mLC ow1 [1] (nIt (aB 0)) (bK (mOp kNe (aB 0) (aB 1))) (aB 0)) (mC (.int 0))) (nName 5))
  (bF (bM (aH c_l_cross E (ao (aB 1) (ao (aB 5) aJ))) (nName 6))
  (bF (bM (mOp kIx (mLC ow1 [6] (nIt (yI (ao (j6 (ao (mC (.int 1)) (ao (mC (.int 0)) (ao (mC (.int 0)) aJ)))) (ao (j6 (ao (mC (.int 0)) (ao (mC (.int 1)) (ao (mC (.int 0)) aJ)))) (ao (j6 (ao (mC (.int 0)) (ao (mC (.int 0)) (ao (mC (.int 1)) aJ)))) aJ))))) (bK (mOp kNe (aH c_l_dot E (ao (aB 0) (ao (aB 1) aJ))) (mC (.int 0)))) (aB 0)) (mC (.int 0))) (nName 7))
  (bF (bM (mOp cQ (aH c_l_turn E (ao (aB 1) (ao (aB 3) (ao (aB 7) aJ)))) (aH c_l_turn E (ao (aB 2) (ao (aB 4) (ao (aB 7) aJ))))) (nName 8))
  (cj (j6 (ao (aB 8) (ao (mOp cQ (aH c_l_turn E (ao (aB 1) (ao (aB 4) (ao (aB 7) aJ)))) (aH c_l_turn E (ao (aB 2) (ao (aB 3) (ao (aB 7) aJ))))) aJ)))))))))
def lG:MSp:=tL jc jk bH
def yW (c_l_turn:MSp)(E:XWK):MS:=
  (cj (mC (.bl true)))
def r_l_lie (c_l_turn:MSp):MSp:=mFn 1 2 false fun E=>
  (bF (oN (fM (ao (mC (.int 4)) aJ)) (nName 1) (gY (bK (mOp kNe (aH c_l_turn E (ao (mOp kIx (aB 0) (mOp lV (aB 1) (mC (.int 3)))) (ao (mOp kIx (aB 0) (mOp lV (aB 1) (mC (.int 2)))) (ao (mOp kIx (aB 0) (mOp lV (aB 1) (mC (.int 1)))) aJ)))) (mC (.int 0)))) (cj (mC (.bl false))) cA))
  (yW c_l_turn E))
def yG:MSp:=r_l_lie bH
def uR (c_l_plain c_l_turn:MSp):MSp:=mFn 2 8 false fun E=>
  (bF (bM (aB 0) (pX 4 (dX (nName 2) (dX (nName 3) (dX (nName 4) (dX (nName 5) nNil))))))
  (bF (bM (mOp cQ (mOp cQ (aH c_l_turn E (ao (aB 1) (ao (aB 3) (ao (aB 4) aJ)))) (aH c_l_turn E (ao (aB 2) (ao (aB 5) (ao (aB 4) aJ))))) (aH c_l_turn E (ao (aB 2) (ao (aB 3) (ao (aB 5) aJ))))) (nName 6))
  (bF (bM (mOp cQ (mOp cQ (aH c_l_turn E (ao (aB 2) (ao (aB 1) (ao (aB 4) aJ)))) (aH c_l_turn E (ao (aB 5) (ao (aB 3) (ao (aB 4) aJ))))) (aH c_l_turn E (ao (aB 2) (ao (aB 3) (ao (aB 5) aJ))))) (nName 7))
  (cj (aH c_l_plain E (ao (j6 (ao (aB 6) (ao (aB 7) (ao (mOp cQ (mOp cQ (aH c_l_turn E (ao (aB 2) (ao (aB 3) (ao (aB 1) aJ)))) (aH c_l_turn E (ao (aB 5) (ao (aB 3) (ao (aB 4) aJ))))) (aH c_l_turn E (ao (aB 2) (ao (aB 5) (ao (aB 4) aJ))))) aJ)))) aJ))))))
def gU:MSp:=uR cI bH
def lg (c_l_turn c_l_places:MSp)(E:XWK):MS:=
  (cj (mC .non))
def kZ (c_l_turn c_l_places:MSp)(E:XWK):MS:=
  (bF (oN (nIt (aH c_l_places E (ao (mCB kLen (ao (aB 0) aJ)) (ao (mC (.int 3)) aJ)))) (pX 3 (dX (nName 3) (dX (nName 4) (dX (nName 5) nNil)))) (gY (bK (mOp kNe (mOp kEq (aH c_l_turn E (ao (mOp kIx (aB 0) (aB 3)) (ao (mOp kIx (aB 0) (aB 4)) (ao (mOp kIx (aB 0) (aB 5)) aJ)))) (mC (.int 0))) (mOp kEq (aH c_l_turn E (ao (mOp kIx (aB 1) (aB 3)) (ao (mOp kIx (aB 1) (aB 4)) (ao (mOp kIx (aB 1) (aB 5)) aJ)))) (mC (.int 0))))) (cj (j6 (ao (mC (.str "three")) (ao (j6 (ao (aB 3) (ao (aB 4) (ao (aB 5) aJ)))) aJ)))) cA))
  (lg c_l_turn c_l_places E))
def jh (c_l_turn c_l_places:MSp):MSp:=mFn 2 6 false fun E=>
  (bF (oN (nIt (aH c_l_places E (ao (mCB kLen (ao (aB 0) aJ)) (ao (mC (.int 2)) aJ)))) (nName 2) (gY (bK (mOp kNe (mOp kEq (mOp kIx (aB 0) (mOp kIx (aB 2) (mC (.int 0)))) (mOp kIx (aB 0) (mOp kIx (aB 2) (mC (.int 1))))) (mOp kEq (mOp kIx (aB 1) (mOp kIx (aB 2) (mC (.int 0)))) (mOp kIx (aB 1) (mOp kIx (aB 2) (mC (.int 1))))))) (cj (j6 (ao (mC (.str "two")) (ao (aB 2) aJ)))) cA))
  (kZ c_l_turn c_l_places E))
def gq:MSp:=jh bH dz
def oh (c_l_free c_l_places c_l_parts c_l_lie c_l_image:MSp)(E:XWK):MS:=
  (cj (mC .non))
def oY (c_l_free c_l_places c_l_parts c_l_lie c_l_image:MSp)(E:XWK):MS:=
  (bF (oN (nIt (aB 2)) (nName 3) (gY (mTru (aH c_l_free E (ao (mLC ow1 [0] (nIt (aB 3)) iR (mOp kIx (aB 1) (aB 0))) aJ))) (bF (bM (mLC ow1 [0] (nIt (aB 3)) iR (mOp kIx (aB 1) (aB 0))) (nName 5))
  (bF (bM (mLC ow1 [1] (nIt (aB 3)) iR (mOp kIx (aB 1) (aB 0))) (nName 6))
  (bF (oN (fM (ao (mCB kLen (ao (aB 0) aJ)) aJ)) (nName 7) (gY (bK (mOp kNe (aH c_l_image E (ao (aB 5) (ao (mOp kIx (aB 0) (aB 7)) aJ))) (aH c_l_image E (ao (aB 6) (ao (mOp kIx (aB 1) (aB 7)) aJ))))) (cj (j6 (ao (mC (.str "five")) (ao (mOp cu (aB 3) (j6 (ao (aB 7) aJ))) aJ)))) cA))
  (cj (mC .non))))) cA))
  (oh c_l_free c_l_places c_l_parts c_l_lie c_l_image E))
def mV (c_l_free c_l_places c_l_parts c_l_lie c_l_image:MSp):MSp:=mFn 2 8 false fun E=>
  (bF (bM (aH c_l_places E (ao (mCB kLen (ao (aB 0) aJ)) (ao (mC (.int 4)) aJ))) (nName 2))
  (bF (oN (nIt (aB 2)) (nName 3) (bF (bM (mLC ow1 [0] (nIt (aB 3)) iR (mOp kIx (aB 1) (aB 0))) (nName 4))
  (gY (mAnd (mTru (aH c_l_lie E (ao (aB 4) aJ))) (bK (mOp kLt (mCB kMaxA (ao (mLC ow1 [4] (nIt (aB 4)) iR (mBMl vI (aB 1) (ao (aB 0) aJ))) aJ)) (mC (.int 3))))) (bF (bM (aH c_l_parts E (ao (aB 4) aJ)) (nName 5))
  (bF (bM (aH c_l_parts E (ao (mLC ow1 [1] (nIt (aB 3)) iR (mOp kIx (aB 1) (aB 0))) aJ)) (nName 6))
  (gY (bK (mOp kNe (mOp cQ (mOp kIx (aB 5) (mC (.int 0))) (mOp kIx (aB 6) (mC (.int 1)))) (mOp cQ (mOp kIx (aB 5) (mC (.int 1))) (mOp kIx (aB 6) (mC (.int 0)))))) (cj (j6 (ao (mC (.str "throw")) (ao (aB 3) aJ)))) cA))) cA)))
  (oY c_l_free c_l_places c_l_parts c_l_lie c_l_image E)))
def jg:MSp:=mV oA dz lG yG gU
def iW (c_l_by_places c_l_by_four:MSp)(E:XWK):MS:=
  (cj (aB 2))
def zL (c_l_by_places c_l_by_four:MSp)(E:XWK):MS:=
  (bF (bM (aH c_l_by_places E (ao (aB 0) (ao (aB 1) aJ))) (nName 2))
  (bF (gY (bK (mOp kIs (aB 2) (mC .non))) (bM (aH c_l_by_four E (ao (aB 0) (ao (aB 1) aJ))) (nName 2)) cA)
  (iW c_l_by_places c_l_by_four E)))
def r_l_due (c_l_by_places c_l_by_four:MSp):MSp:=mFn 2 3 false fun E=>
  (bF (gY (bK (mOp kNe (mCB kLen (ao (aB 0) aJ)) (mCB kLen (ao (aB 1) aJ)))) (cj (j6 (ao (mC (.str "many")) (ao (j6 aJ) aJ)))) cA)
  (zL c_l_by_places c_l_by_four E))
def tR:MSp:=r_l_due gq jg
def t_law_5 (c_apart c_l_rest c_l_digit c_l_two c_l_due:MSp)(E:XWK):MS:=
  (cj (mOrV (mOp kIs (aB 4) (mC .non)) (mAndV (mCB kIsi (ao (aB 5) (ao (mC (.ty "tuple")) aJ))) (mAndV (mCB kIsiS (ao (mOp kIx (aB 5) (mC (.int 0))) (ao (mC (.ty "str")) aJ))) (mCB kIsi (ao (mOp kIx (aB 5) (mC (.int 1))) (ao (mC (.ty "tuple")) aJ)))))))
def r_law (c_apart c_l_rest c_l_digit c_l_two c_l_due:MSp):MSp:=mFn 1 6 false fun E=>
  (bF (bM (aH c_l_two E (ao (aB 0) (ao (mOp kIx (yI (ao (mC (.int 9)) (ao (mC (.int 9)) (ao (mC (.int 9)) (ao (mC (.int 9)) (ao (mC (.int 9)) (ao (mC (.int 9)) (ao (mC (.int 9)) (ao (mC (.int 12)) aJ))))))))) (aH c_l_digit E (ao (aH c_l_rest E (ao (aB 0) (ao (mC (.int 3)) aJ))) (ao (mC (.int 8)) aJ)))) aJ))) (pX 2 (dX (nName 1) (dX (nName 2) nNil))))
  (bF (bM (yI (ao (mCB kList (ao (aB 1) aJ)) (ao (mCB kList (ao (aB 2) aJ)) aJ))) (nName 3))
  (bF (bM (aH c_l_due E (ao (aB 1) (ao (aB 2) aJ))) (nName 4))
  (bF (bM (aH c_apart E (ao (mOp kIx (aB 3) (mC (.int 0))) (ao (mOp kIx (aB 3) (mC (.int 1))) aJ))) (nName 5))
  (bF (gY (mOr (bK (mOp kNe (aB 5) (aB 4))) (mOr (bK (mOp kNe3 (aB 3) (yI (ao (aB 1) (ao (aB 2) aJ))))) (bK (mOp kNe (aH c_apart E (ao (mOp kIx (aB 3) (mC (.int 1))) (ao (mOp kIx (aB 3) (mC (.int 0))) aJ))) (aB 4))))) (cj (mC (.bl false))) cA)
  (t_law_5 c_apart c_l_rest c_l_digit c_l_two c_l_due E))))))
def m_law (F_twos_differ F_threes_differ F_throws_differ:Addr):MSp:=r_law (qw F_twos_differ F_threes_differ F_throws_differ) gj bx uF tR
structure Ad where
 f_divisor_of_two:Addr
 d_divisor_of_two:FuncData
 f_divisor:Addr
 d_divisor:FuncData
 f_ends_below:Addr
 d_ends_below:FuncData
 f_plain:Addr
 d_plain:FuncData
 f_dot:Addr
 d_dot:FuncData
 f_cross:Addr
 d_cross:FuncData
 f_turn:Addr
 d_turn:FuncData
 f_share_one:Addr
 d_share_one:FuncData
 f_on_line:Addr
 d_on_line:FuncData
 f_rising:Addr
 d_rising:FuncData
 f_picked:Addr
 d_picked:FuncData
 f_rows_of:Addr
 d_rows_of:FuncData
 f_table_times_row:Addr
 d_table_times_row:FuncData
 f_flipped:Addr
 d_flipped:FuncData
 f_table_times_table:Addr
 d_table_times_table:FuncData
 f_turned:Addr
 d_turned:FuncData
 f_led:Addr
 d_led:FuncData
 f_then:Addr
 d_then:FuncData
 f_back:Addr
 d_back:FuncData
 f_tiles:Addr
 d_tiles:FuncData
 f_are_free:Addr
 d_are_free:FuncData
 f_from_tiles:Addr
 d_from_tiles:FuncData
 f_map_between:Addr
 d_map_between:FuncData
 f_check_picture:Addr
 d_check_picture:FuncData
 f_first_free:Addr
 d_first_free:FuncData
 f_place_off:Addr
 d_place_off:FuncData
 f_turn_at:Addr
 d_turn_at:FuncData
 f_has_three_alike:Addr
 d_has_three_alike:FuncData
 f_throw_numbers:Addr
 d_throw_numbers:FuncData
 f_twos_differ:Addr
 d_twos_differ:FuncData
 f_threes_differ:Addr
 d_threes_differ:FuncData
 f_throws_differ:Addr
 d_throws_differ:FuncData
 f_first_places:Addr
 d_first_places:FuncData
 f_fifth_apart:Addr
 d_fifth_apart:FuncData
 f_apart_of_as_many:Addr
 d_apart_of_as_many:FuncData
 f_apart:Addr
 d_apart:FuncData
 f_l_cell_at:Addr
 d_l_cell_at:FuncData
 f_l_rest:Addr
 d_l_rest:FuncData
 f_l_digit:Addr
 d_l_digit:FuncData
 f_l_number:Addr
 d_l_number:FuncData
 f_l_divisor:Addr
 d_l_divisor:FuncData
 f_l_plain:Addr
 d_l_plain:FuncData
 f_l_spot:Addr
 d_l_spot:FuncData
 f_l_cross:Addr
 d_l_cross:FuncData
 f_l_dot:Addr
 d_l_dot:FuncData
 f_l_size:Addr
 d_l_size:FuncData
 f_l_map:Addr
 d_l_map:FuncData
 f_l_led:Addr
 d_l_led:FuncData
 f_l_turn:Addr
 d_l_turn:FuncData
 f_l_free:Addr
 d_l_free:FuncData
 f_l_mixed:Addr
 d_l_mixed:FuncData
 f_l_next:Addr
 d_l_next:FuncData
 f_l_picture:Addr
 d_l_picture:FuncData
 f_l_changed:Addr
 d_l_changed:FuncData
 f_l_two:Addr
 d_l_two:FuncData
 f_l_places:Addr
 d_l_places:FuncData
 f_l_parts:Addr
 d_l_parts:FuncData
 f_l_lie:Addr
 d_l_lie:FuncData
 f_l_image:Addr
 d_l_image:FuncData
 f_l_by_places:Addr
 d_l_by_places:FuncData
 f_l_by_four:Addr
 d_l_by_four:FuncData
 f_l_due:Addr
 d_l_due:FuncData
 f_law:Addr
 d_law:FuncData
 a_TILES:Addr
structure Txt (K:PySem.W.Frag) (mg:Str→Option Value) (t:Ad):Prop where
 F_divisor_of_two:Fun K "divisor_of_two" "divisor_of_two" dH t.f_divisor_of_two t.d_divisor_of_two
 dI:mg "divisor_of_two" = some (.ref t.f_divisor_of_two)
 b_divisor_of_two:Binds K t.d_divisor_of_two ["one", "other"] []
 F_divisor:Fun K "divisor" "divisor" pB t.f_divisor t.d_divisor
 pD:mg "divisor" = some (.ref t.f_divisor)
 b_divisor:Binds K t.d_divisor ["numbers"] []
 F_ends_below:Fun K "ends_below" "ends_below" iu t.f_ends_below t.d_ends_below
 iB:mg "ends_below" = some (.ref t.f_ends_below)
 b_ends_below:Binds K t.d_ends_below ["numbers"] []
 F_plain:Fun K "plain" "plain" yw t.f_plain t.d_plain
 gG:mg "plain" = some (.ref t.f_plain)
 b_plain:Binds K t.d_plain ["numbers"] []
 F_dot:Fun K "dot" "dot" s_dot t.f_dot t.d_dot
 vp:mg "dot" = some (.ref t.f_dot)
 b_dot:Binds K t.d_dot ["one", "other"] []
 F_cross:Fun K "cross" "cross" xH t.f_cross t.d_cross
 fV:mg "cross" = some (.ref t.f_cross)
 b_cross:Binds K t.d_cross ["one", "other"] []
 F_turn:Fun K "turn" "turn" s_turn t.f_turn t.d_turn
 tU:mg "turn" = some (.ref t.f_turn)
 b_turn:Binds K t.d_turn ["one", "other", "third"] []
 F_share_one:Fun K "share_one" "share_one" jw t.f_share_one t.d_share_one
 jN:mg "share_one" = some (.ref t.f_share_one)
 b_share_one:Binds K t.d_share_one ["rows"] []
 F_on_line:Fun K "on_line" "on_line" pA t.f_on_line t.d_on_line
 fU:mg "on_line" = some (.ref t.f_on_line)
 b_on_line:Binds K t.d_on_line ["spots"] []
 F_rising:Fun K "rising" "rising" sH t.f_rising t.d_rising
 jC:mg "rising" = some (.ref t.f_rising)
 b_rising:Binds K t.d_rising ["many", "size"] []
 F_picked:Fun K "picked" "picked" rZ t.f_picked t.d_picked
 eN:mg "picked" = some (.ref t.f_picked)
 b_picked:Binds K t.d_picked ["things", "places"] []
 F_rows_of:Fun K "rows_of" "rows_of" oU t.f_rows_of t.d_rows_of
 dF:mg "rows_of" = some (.ref t.f_rows_of)
 b_rows_of:Binds K t.d_rows_of ["table"] []
 F_table_times_row:Fun K "table_times_row" "table_times_row" cZ t.f_table_times_row t.d_table_times_row
 bQ:mg "table_times_row" = some (.ref t.f_table_times_row)
 b_table_times_row:Binds K t.d_table_times_row ["table", "row"] []
 F_flipped:Fun K "flipped" "flipped" oM t.f_flipped t.d_flipped
 jd:mg "flipped" = some (.ref t.f_flipped)
 b_flipped:Binds K t.d_flipped ["table"] []
 F_table_times_table:Fun K "table_times_table" "table_times_table" cM t.f_table_times_table t.d_table_times_table
 bZ:mg "table_times_table" = some (.ref t.f_table_times_table)
 b_table_times_table:Binds K t.d_table_times_table ["one", "other"] []
 F_turned:Fun K "turned" "turned" sE t.f_turned t.d_turned
 jO:mg "turned" = some (.ref t.f_turned)
 b_turned:Binds K t.d_turned ["table"] []
 F_led:Fun K "led" "led" s_led t.f_led t.d_led
 m_led:mg "led" = some (.ref t.f_led)
 b_led:Binds K t.d_led ["by", "spot"] []
 F_then:Fun K "then" "then" s_then t.f_then t.d_then
 m_then:mg "then" = some (.ref t.f_then)
 b_then:Binds K t.d_then ["one", "other"] []
 F_back:Fun K "back" "back" s_back t.f_back t.d_back
 m_back:mg "back" = some (.ref t.f_back)
 b_back:Binds K t.d_back ["by"] []
 F_tiles:Fun K "tiles" "tiles" yq t.f_tiles t.d_tiles
 tG:mg "tiles" = some (.ref t.f_tiles)
 b_tiles:Binds K t.d_tiles [] []
 F_are_free:Fun K "are_free" "are_free" lO t.f_are_free t.d_are_free
 d8:mg "are_free" = some (.ref t.f_are_free)
 b_are_free:Binds K t.d_are_free ["four"] []
 F_from_tiles:Fun K "from_tiles" "from_tiles" gZ t.f_from_tiles t.d_from_tiles
 fK:mg "from_tiles" = some (.ref t.f_from_tiles)
 b_from_tiles:Binds K t.d_from_tiles ["four"] []
 F_map_between:Fun K "map_between" "map_between" gA t.f_map_between t.d_map_between
 dj:mg "map_between" = some (.ref t.f_map_between)
 b_map_between:Binds K t.d_map_between ["four", "others"] []
 F_check_picture:Fun K "check_picture" "check_picture" eO t.f_check_picture t.d_check_picture
 cW:mg "check_picture" = some (.ref t.f_check_picture)
 b_check_picture:Binds K t.d_check_picture ["picture"] []
 F_first_free:Fun K "first_free" "first_free" iy t.f_first_free t.d_first_free
 g8:mg "first_free" = some (.ref t.f_first_free)
 b_first_free:Binds K t.d_first_free ["picture"] []
 F_place_off:Fun K "place_off" "place_off" jA t.f_place_off t.d_place_off
 jG:mg "place_off" = some (.ref t.f_place_off)
 b_place_off:Binds K t.d_place_off ["spots"] []
 F_turn_at:Fun K "turn_at" "turn_at" nQ t.f_turn_at t.d_turn_at
 gQ:mg "turn_at" = some (.ref t.f_turn_at)
 b_turn_at:Binds K t.d_turn_at ["one", "other", "place"] []
 F_has_three_alike:Fun K "has_three_alike" "has_three_alike" dD t.f_has_three_alike t.d_has_three_alike
 dh:mg "has_three_alike" = some (.ref t.f_has_three_alike)
 b_has_three_alike:Binds K t.d_has_three_alike ["four"] []
 F_throw_numbers:Fun K "throw_numbers" "throw_numbers" eE t.f_throw_numbers t.d_throw_numbers
 cY:mg "throw_numbers" = some (.ref t.f_throw_numbers)
 b_throw_numbers:Binds K t.d_throw_numbers ["four"] []
 F_twos_differ:Fun K "twos_differ" "twos_differ" gw t.f_twos_differ t.d_twos_differ
 eF:mg "twos_differ" = some (.ref t.f_twos_differ)
 b_twos_differ:Binds K t.d_twos_differ ["one", "other"] []
 F_threes_differ:Fun K "threes_differ" "threes_differ" eG t.f_threes_differ t.d_threes_differ
 cU:mg "threes_differ" = some (.ref t.f_threes_differ)
 b_threes_differ:Binds K t.d_threes_differ ["one", "other"] []
 F_throws_differ:Fun K "throws_differ" "throws_differ" d9 t.f_throws_differ t.d_throws_differ
 cX:mg "throws_differ" = some (.ref t.f_throws_differ)
 b_throws_differ:Binds K t.d_throws_differ ["one", "other"] []
 F_first_places:Fun K "first_places" "first_places" fH t.f_first_places t.d_first_places
 cO:mg "first_places" = some (.ref t.f_first_places)
 b_first_places:Binds K t.d_first_places ["one", "other", "size", "differs"] []
 F_fifth_apart:Fun K "fifth_apart" "fifth_apart" gn t.f_fifth_apart t.d_fifth_apart
 gb:mg "fifth_apart" = some (.ref t.f_fifth_apart)
 b_fifth_apart:Binds K t.d_fifth_apart ["one", "other"] []
 F_apart_of_as_many:Fun K "apart_of_as_many" "apart_of_as_many" cR t.f_apart_of_as_many t.d_apart_of_as_many
 cP:mg "apart_of_as_many" = some (.ref t.f_apart_of_as_many)
 b_apart_of_as_many:Binds K t.d_apart_of_as_many ["one", "other"] []
 F_apart:Fun K "apart" "apart" xR t.f_apart t.d_apart
 qw:mg "apart" = some (.ref t.f_apart)
 b_apart:Binds K t.d_apart ["one", "other"] []
 F_l_cell_at:Fun K "_law_cell_at" "_law_cell_at" jo t.f_l_cell_at t.d_l_cell_at
 jx:mg "_law_cell_at" = some (.ref t.f_l_cell_at)
 b_l_cell_at:Binds K t.d_l_cell_at ["_law_script", "_law_k"] []
 F_l_rest:Fun K "_law_rest" "_law_rest" sO t.f_l_rest t.d_l_rest
 gj:mg "_law_rest" = some (.ref t.f_l_rest)
 b_l_rest:Binds K t.d_l_rest ["_law_script", "_law_k"] []
 F_l_digit:Fun K "_law_digit" "_law_digit" pL t.f_l_digit t.d_l_digit
 bx:mg "_law_digit" = some (.ref t.f_l_digit)
 b_l_digit:Binds K t.d_l_digit ["_law_rest_here", "_law_many"] []
 F_l_number:Fun K "_law_number" "_law_number" lR t.f_l_number t.d_l_number
 eZ:mg "_law_number" = some (.ref t.f_l_number)
 b_l_number:Binds K t.d_l_number ["_law_rest_here", "_law_far"] []
 F_l_divisor:Fun K "_law_divisor" "_law_divisor" jK t.f_l_divisor t.d_l_divisor
 jB:mg "_law_divisor" = some (.ref t.f_l_divisor)
 b_l_divisor:Binds K t.d_l_divisor ["_law_numbers"] []
 F_l_plain:Fun K "_law_plain" "_law_plain" pP t.f_l_plain t.d_l_plain
 cI:mg "_law_plain" = some (.ref t.f_l_plain)
 b_l_plain:Binds K t.d_l_plain ["_law_numbers"] []
 F_l_spot:Fun K "_law_spot" "_law_spot" rY t.f_l_spot t.d_l_spot
 gB:mg "_law_spot" = some (.ref t.f_l_spot)
 b_l_spot:Binds K t.d_l_spot ["_law_rest_here", "_law_far"] []
 F_l_cross:Fun K "_law_cross" "_law_cross" oX t.f_l_cross t.d_l_cross
 jc:mg "_law_cross" = some (.ref t.f_l_cross)
 b_l_cross:Binds K t.d_l_cross ["_law_one", "_law_other"] []
 F_l_dot:Fun K "_law_dot" "_law_dot" xV t.f_l_dot t.d_l_dot
 jk:mg "_law_dot" = some (.ref t.f_l_dot)
 b_l_dot:Binds K t.d_l_dot ["_law_one", "_law_other"] []
 F_l_size:Fun K "_law_size" "_law_size" rO t.f_l_size t.d_l_size
 sS:mg "_law_size" = some (.ref t.f_l_size)
 b_l_size:Binds K t.d_l_size ["_law_numbers"] []
 F_l_map:Fun K "_law_map" "_law_map" yd t.f_l_map t.d_l_map
 yh:mg "_law_map" = some (.ref t.f_l_map)
 b_l_map:Binds K t.d_l_map ["_law_rest_here", "_law_far"] []
 F_l_led:Fun K "_law_led" "_law_led" yx t.f_l_led t.d_l_led
 wX:mg "_law_led" = some (.ref t.f_l_led)
 b_l_led:Binds K t.d_l_led ["_law_by", "_law_spot_here"] []
 F_l_turn:Fun K "_law_turn" "_law_turn" sW t.f_l_turn t.d_l_turn
 bH:mg "_law_turn" = some (.ref t.f_l_turn)
 b_l_turn:Binds K t.d_l_turn ["_law_one", "_law_other", "_law_third"] []
 F_l_free:Fun K "_law_free" "_law_free" sZ t.f_l_free t.d_l_free
 oA:mg "_law_free" = some (.ref t.f_l_free)
 b_l_free:Binds K t.d_l_free ["_law_four"] []
 F_l_mixed:Fun K "_law_mixed" "_law_mixed" pW t.f_l_mixed t.d_l_mixed
 fP:mg "_law_mixed" = some (.ref t.f_l_mixed)
 b_l_mixed:Binds K t.d_l_mixed ["_law_one", "_law_other", "_law_rest_here"] []
 F_l_next:Fun K "_law_next" "_law_next" sY t.f_l_next t.d_l_next
 sJ:mg "_law_next" = some (.ref t.f_l_next)
 b_l_next:Binds K t.d_l_next ["_law_spots", "_law_style", "_law_rest_here"] []
 F_l_picture:Fun K "_law_picture" "_law_picture" jL t.f_l_picture t.d_l_picture
 fC:mg "_law_picture" = some (.ref t.f_l_picture)
 b_l_picture:Binds K t.d_l_picture ["_law_rest_here", "_law_most"] []
 F_l_changed:Fun K "_law_changed" "_law_changed" jE t.f_l_changed t.d_l_changed
 jD:mg "_law_changed" = some (.ref t.f_l_changed)
 b_l_changed:Binds K t.d_l_changed ["_law_spots", "_law_rest_here"] []
 F_l_two:Fun K "_law_two" "_law_two" yC t.f_l_two t.d_l_two
 uF:mg "_law_two" = some (.ref t.f_l_two)
 b_l_two:Binds K t.d_l_two ["_law_script", "_law_most"] []
 F_l_places:Fun K "_law_places" "_law_places" lY t.f_l_places t.d_l_places
 dz:mg "_law_places" = some (.ref t.f_l_places)
 b_l_places:Binds K t.d_l_places ["_law_many", "_law_size_here"] []
 F_l_parts:Fun K "_law_parts" "_law_parts" oO t.f_l_parts t.d_l_parts
 lG:mg "_law_parts" = some (.ref t.f_l_parts)
 b_l_parts:Binds K t.d_l_parts ["_law_spots"] []
 F_l_lie:Fun K "_law_lie" "_law_lie" wR t.f_l_lie t.d_l_lie
 yG:mg "_law_lie" = some (.ref t.f_l_lie)
 b_l_lie:Binds K t.d_l_lie ["_law_spots"] []
 F_l_image:Fun K "_law_image" "_law_image" n8 t.f_l_image t.d_l_image
 gU:mg "_law_image" = some (.ref t.f_l_image)
 b_l_image:Binds K t.d_l_image ["_law_four", "_law_spot_here"] []
 F_l_by_places:Fun K "_law_by_places" "_law_by_places" gk t.f_l_by_places t.d_l_by_places
 gq:mg "_law_by_places" = some (.ref t.f_l_by_places)
 b_l_by_places:Binds K t.d_l_by_places ["_law_one", "_law_other"] []
 F_l_by_four:Fun K "_law_by_four" "_law_by_four" jq t.f_l_by_four t.d_l_by_four
 jg:mg "_law_by_four" = some (.ref t.f_l_by_four)
 b_l_by_four:Binds K t.d_l_by_four ["_law_one", "_law_other"] []
 F_l_due:Fun K "_law_due" "_law_due" xM t.f_l_due t.d_l_due
 tR:mg "_law_due" = some (.ref t.f_l_due)
 b_l_due:Binds K t.d_l_due ["_law_one", "_law_other"] []
 F_law:Fun K "law" "law" s_law t.f_law t.d_law
 m_law:mg "law" = some (.ref t.f_law)
 b_law:Binds K t.d_law ["_law_script"] []
 z_abs:mg "abs" = none
 z_all:mg "all" = none
 z_isinstance:mg "isinstance" = none
 z_len:mg "len" = none
 z_list:mg "list" = none
 z_max:mg "max" = none
 z_min:mg "min" = none
 z_range:mg "range" = none
 z_reversed:mg "reversed" = none
 z_str:mg "str" = none
 z_sum:mg "sum" = none
 z_tuple:mg "tuple" = none
 z_zip:mg "zip" = none
 g_TILES:mg "TILES" = some (.ref t.a_TILES)
 r_TILES:∀ H μ,Rep K H μ qJ (.ref t.a_TILES)
section
variable {P:Program}{w:World}{K:PySem.W.Frag}{mg:Str→Option Value}{base:Heap}{t:Ad}
theorem qy (T:Txt K mg t):cH P w K mg base CX0 10 t.f_divisor_of_two t.d_divisor_of_two ["one", "other"] (lift K dI):=by
 have nd:=iZ.nd
 refine dY (k:=9) T.F_divisor_of_two iZ fun cdv A outer s H E hr=>?_
 have hc:=hr.calm (by decide)
 refine aA ?_ ?_
 ·exact (aM (i:=0) nd (by rfl) (by exact Or.inl rfl) (bA c_abs (by rfl) (by exact T.z_abs) boot_abs (ak (dv 0 (pv 0)) au (aj (by rfl))) (by decide) (by decide) (aj (by rfl)) (aq (by rfl))))
 refine aA ?_ ?_
 ·exact (aM (i:=1) nd (by rfl) (by exact Or.inl rfl) (bA c_abs (by rfl) (by exact T.z_abs) boot_abs (ak (dv 1 (pv 1)) au (aj (by rfl))) (by decide) (by decide) (aj (by rfl)) (aq (by rfl))))
 refine aA ?_ ?_
 ·exact (ds_while PassesOwn.never (bw (qm (eY hr)) (dv 1 (pv 1)) aC (aQ _)) (aA (aM (i:=2) nd (by rfl) (by exact Or.inl rfl) (bI p7 (dv 0 (pv 0)) (dv 1 (pv 1))))
  (aA (aM (i:=0) nd (by rfl) (by exact Or.inl rfl) (dv 1 (pv 1)))
  (aD (aM (i:=1) nd (by rfl) (by exact Or.inl rfl) (dv 2 (pv 2)))))))
 refine aD ?_
 exact (aL (dv 0 (pv 0)))
theorem ok_divisor (T:Txt K mg t):cH P w K mg base CX0 11 t.f_divisor t.d_divisor ["numbers"] (lift K pD):=by
 have nd:=vB.nd
 refine dY (k:=10) T.F_divisor vB fun cdv A outer s H E hr=>?_
 have hc:=hr.calm (by decide)
 refine aA ?_ ?_
 ·exact (aM (i:=1) nd (by rfl) (by exact Or.inl rfl) aC)
 refine aA ?_ ?_
 ·exact (cJ PassesOwn.never hc (bO (dv 0 (pv 0))) (aU (aR (i:=2) nd (by rfl) (by exact Or.inl rfl))) (aD (aM (i:=1) nd (by rfl) (by exact Or.inl rfl) (aF ((qy T).mono (by decide)) hr (by rfl) (by exact T.dI) (by exact T.F_divisor_of_two.kp) (by exact T.b_divisor_of_two) (ak (dv 2 (pv 2)) (ak (dv 1 (pv 1)) au (aj (by rfl))) (aj (by rfl))) (by decide) (aj (by rfl)) (aq (by rfl))))))
 refine aD ?_
 exact (aL (dv 1 (pv 1)))
theorem xq (T:Txt K mg t):cH P w K mg base CX0 10 t.f_ends_below t.d_ends_below ["numbers"] (lift K iB):=by
 have nd:=nU.nd
 refine dY (k:=9) T.F_ends_below nU fun cdv A outer s H E hr=>?_
 have hc:=hr.calm (by decide)
 refine aA ?_ ?_
 ·exact (cJ PassesOwn.never hc (di_rev2 (by rfl) (by exact T.z_reversed) (ak (dv 0 (pv 0)) au (aj (by rfl))) (aj (by rfl)) (aq (by rfl))) (aU (aR (i:=1) nd (by rfl) (by exact Or.inl rfl))) (aD (bY (bw (qm (eY hr)) (dv 1 (pv 1)) aC (aQ _)) (aD (aL (mj o_lt (dv 1 (pv 1)) aC (aQ _)))) aW)))
 refine aD ?_
 exact (aL d_bl)
theorem rW (T:Txt K mg t):cH P w K mg base CX0 12 t.f_plain t.d_plain ["numbers"] (lift K gG):=by
 have nd:=sc_plain.nd
 refine dY (k:=11) T.F_plain sc_plain fun cdv A outer s H E hr=>?_
 have hc:=hr.calm (by decide)
 refine aA ?_ ?_
 ·exact (aM (i:=1) nd (by rfl) (by exact Or.inr rfl) (aF ((ok_divisor T).mono (by decide)) hr (by rfl) (by exact T.pD) (by exact T.F_divisor.kp) (by exact T.b_divisor) (ak (dv 0 (pv 0)) au (aj (by rfl))) (by decide) (aj (by rfl)) (aq (by rfl))))
 refine aA ?_ ?_
 ·exact (bY (bw (qW (eY hr)) (dv 1 (pv 1)) aC (aQ _)) (aD wL) aW)
 refine aA ?_ ?_
 ·exact (bY (lA (aF ((xq T).mono (by decide)) hr (by rfl) (by exact T.iB) (by exact T.F_ends_below.kp) (by exact T.b_ends_below) (ak (dv 0 (pv 0)) au (aj (by rfl))) (by decide) (aj (by rfl)) (aq (by rfl)))) (aD (aM (i:=1) nd (by rfl) (by exact Or.inr rfl) (d_neg (dv 1 (pv 1))))) aW)
 refine aD ?_
 exact (aL (lK c_tuple (by rfl) (by exact T.z_tuple) boot_tuple (ak (ud [1] hc (aV (by rfl)) dU (dR (aV (by rfl))) (bO (dv 0 (pv 0))) (fun _ _ _ _=>bR) (fun _ _ _ _=>(bI o_div (dv 0 (pv 0)) (dv 1 (pv 1))))) au (aj (by rfl))) (by decide) (by decide) (aj (by rfl)) (aq (by rfl))))
theorem ok_dot (T:Txt K mg t):cH P w K mg base CX0 10 t.f_dot t.d_dot ["one", "other"] (lift K vp):=by
 have nd:=sc_dot.nd
 refine dY (k:=9) T.F_dot sc_dot fun cdv A outer s H E hr=>?_
 have hc:=hr.calm (by decide)
 refine aD ?_
 exact (aL (bI bW (bI bW (bI bT (bG (dv 0 (pv 0)) aC (by intro _ _;rfl)) (bG (dv 1 (pv 1)) aC (by intro _ _;rfl))) (bI bT (bG (dv 0 (pv 0)) aC (by intro _ _;rfl)) (bG (dv 1 (pv 1)) aC (by intro _ _;rfl)))) (bI bT (bG (dv 0 (pv 0)) aC (by intro _ _;rfl)) (bG (dv 1 (pv 1)) aC (by intro _ _;rfl)))))
theorem lQ (T:Txt K mg t):cH P w K mg base CX0 10 t.f_cross t.d_cross ["one", "other"] (lift K fV):=by
 have nd:=sc_cross.nd
 refine dY (k:=9) T.F_cross sc_cross fun cdv A outer s H E hr=>?_
 have hc:=hr.calm (by decide)
 refine aD ?_
 exact (aL (cB (ak (bI fj (bI bT (bG (dv 0 (pv 0)) aC (by intro _ _;rfl)) (bG (dv 1 (pv 1)) aC (by intro _ _;rfl))) (bI bT (bG (dv 0 (pv 0)) aC (by intro _ _;rfl)) (bG (dv 1 (pv 1)) aC (by intro _ _;rfl)))) (ak (bI fj (bI bT (bG (dv 0 (pv 0)) aC (by intro _ _;rfl)) (bG (dv 1 (pv 1)) aC (by intro _ _;rfl))) (bI bT (bG (dv 0 (pv 0)) aC (by intro _ _;rfl)) (bG (dv 1 (pv 1)) aC (by intro _ _;rfl)))) (ak (bI fj (bI bT (bG (dv 0 (pv 0)) aC (by intro _ _;rfl)) (bG (dv 1 (pv 1)) aC (by intro _ _;rfl))) (bI bT (bG (dv 0 (pv 0)) aC (by intro _ _;rfl)) (bG (dv 1 (pv 1)) aC (by intro _ _;rfl)))) au (aj (by rfl))) (aj (by rfl))) (aj (by rfl)))))
theorem xX (T:Txt K mg t):cH P w K mg base CX0 11 t.f_turn t.d_turn ["one", "other", "third"] (lift K tU):=by
 have nd:=sc_turn.nd
 refine dY (k:=10) T.F_turn sc_turn fun cdv A outer s H E hr=>?_
 have hc:=hr.calm (by decide)
 refine aD ?_
 exact (aL (aF ((ok_dot T).mono (by decide)) hr (by rfl) (by exact T.vp) (by exact T.F_dot.kp) (by exact T.b_dot) (ak (aF ((lQ T).mono (by decide)) hr (by rfl) (by exact T.fV) (by exact T.F_cross.kp) (by exact T.b_cross) (ak (dv 0 (pv 0)) (ak (dv 1 (pv 1)) au (aj (by rfl))) (aj (by rfl))) (by decide) (aj (by rfl)) (aq (by rfl))) (ak (dv 2 (pv 2)) au (aj (by rfl))) (aj (by rfl))) (by decide) (aj (by rfl)) (aq (by rfl))))
theorem zp (T:Txt K mg t):cH P w K mg base CX0 11 t.f_share_one t.d_share_one ["rows"] (lift K jN):=by
 have nd:=rm.nd
 refine dY (k:=10) T.F_share_one rm fun cdv A outer s H E hr=>?_
 have hc:=hr.calm (by decide)
 refine aA ?_ ?_
 ·exact (vf [0] (i:=1) nd (by rfl) (by exact Or.inl rfl) hc (aV (by rfl)) dU (dR (aV (by rfl))) (bO (dv 0 (pv 0))) (fun _ _ _ _=>(nO (bw (qm (eY hr)) (dv 0 (pv 0)) (bG (dv 1 (pv 1)) aC (by intro _ _;rfl)) (aQ _)))) (fun _ _ _ _=>(dv 0 (pv 0))))
 refine aA ?_ ?_
 ·exact (bY (dt_not (lA (dv 1 (pv 1)))) (aD (aL d_bl)) aW)
 refine aA ?_ ?_
 ·exact (aM (i:=2) nd (by rfl) (by exact Or.inr rfl) (aF ((lQ T).mono (by decide)) hr (by rfl) (by exact T.fV) (by exact T.F_cross.kp) (by exact T.b_cross) (ak (bG (dv 0 (pv 0)) aC (by intro _ _;rfl)) (ak (bG (dv 1 (pv 1)) aC (by intro _ _;rfl)) au (aj (by rfl))) (aj (by rfl))) (by decide) (aj (by rfl)) (aq (by rfl))))
 refine aD ?_
 exact (aL (bA (c_all hc) (by rfl) (by exact T.z_all) boot_all (ak (ud [2] hc (aV (by rfl)) dU (dR (aV (by rfl))) (bO (dv 1 (pv 1))) (fun _ _ _ _=>bR) (fun _ _ _ _=>(mj (qW (eY hr)) (aF ((ok_dot T).mono (by decide)) hr (by rfl) (by exact T.vp) (by exact T.F_dot.kp) (by exact T.b_dot) (ak (dv 1 (pv 1)) (ak (dv 0 (pv 0)) au (aj (by rfl))) (aj (by rfl))) (by decide) (aj (by rfl)) (aq (by rfl))) aC (aQ _)))) au (aj (by rfl))) (by decide) (by decide) (aj (by rfl)) (aq (by rfl))))
theorem ql (T:Txt K mg t):cH P w K mg base CX0 12 t.f_on_line t.d_on_line ["spots"] (lift K fU):=by
 have nd:=vV.nd
 refine dY (k:=11) T.F_on_line vV fun cdv A outer s H E hr=>?_
 have hc:=hr.calm (by decide)
 refine aD ?_
 exact (aL (aF ((zp T).mono (by decide)) hr (by rfl) (by exact T.jN) (by exact T.F_share_one.kp) (by exact T.b_share_one) (ak (dv 0 (pv 0)) au (aj (by rfl))) (by decide) (aj (by rfl)) (aq (by rfl))))
theorem zf (T:Txt K mg t):cH P w K mg base CX0 10 t.f_rising t.d_rising ["many", "size"] (lift K jC):=by
 have nd:=yX.nd
 refine dY (k:=9) T.F_rising yX fun cdv A outer s H E hr=>?_
 have hc:=hr.calm (by decide)
 refine aA ?_ ?_
 ·first
  | (with_reducible exact (aM (hs:=by with_unfolding_all rfl) (hf:=by with_unfolding_all first | exact .inl rfl | exact .inr rfl) (i:=2) (by with_unfolding_all exact nd) (by with_unfolding_all rfl) (by with_unfolding_all exact Or.inl rfl) (jM (ak (cB au) au (aj (by with_unfolding_all rfl))))))
  | (exact (aM (i:=2) nd (by rfl) (by exact Or.inl rfl) (jM (ak (cB au) au (aj (by rfl))))))
 refine aA ?_ ?_
 ·exact (cJ PassesOwn.never hc (bV (by rfl) (by exact T.z_range) (ak (dv 1 (pv 1)) au (aj (by rfl))) (fQ (by rfl))) (aU (aR (i:=3) nd (by rfl) (by exact Or.inl rfl))) (aA (aM (i:=4) nd (by rfl) (by exact Or.inl rfl) (tO au))
  (aA (cJ PassesOwn.never hc (bO (dv 2 (pv 2))) (aU (aR (i:=5) nd (by rfl) (by exact Or.inr rfl))) (aA (aM (i:=6) nd (by rfl) (by exact Or.inl rfl) (d_if (bw o_gt (dv 3 (pv 3)) aC (aQ _)) (bI bW (bG (dv 5 (pv 5)) (bI fj (dv 3 (pv 3)) aC) (by intro _ _;rfl)) aC) aC))
  (aD (mR (yg (dv 4 (pv 4)) (ak (ud [5] hc (aV (by rfl)) dU (dR (aV (by rfl))) (yQ (by rfl) (by exact T.z_range) (ak (dv 6 (pv 6)) (ak (dv 0 (pv 0)) au (aj (by rfl))) (aj (by rfl)))) (fun _ _ _ _=>bR) (fun _ _ _ _=>(bI bW (dv 1 (pv 1)) (cB (ak (dv 0 (pv 0)) au (aj (by rfl))))))) au (aj (by rfl))) (by rfl) (few_1 (by rfl)) (by rfl) (aj (by rfl)) (by rfl))))))
  (aD (aM (i:=2) nd (by rfl) (by exact Or.inl rfl) (dv 4 (pv 4)))))))
 refine aD ?_
 exact (aL (dv 2 (pv 2)))
theorem lB (T:Txt K mg t):cH P w K mg base CX0 10 t.f_picked t.d_picked ["things", "places"] (lift K eN):=by
 have nd:=Ab.nd
 refine dY (k:=9) T.F_picked Ab fun cdv A outer s H E hr=>?_
 have hc:=hr.calm (by decide)
 refine aD ?_
 exact (aL (ud [0] hc (aV (by rfl)) dU (dR (aV (by rfl))) (bO (dv 1 (pv 1))) (fun _ _ _ _=>bR) (fun _ _ _ _=>(bG (dv 1 (pv 1)) (dv 0 (pv 0)) (by intro _ _;rfl)))))
theorem lX (T:Txt K mg t):cH P w K mg base CX0 10 t.f_rows_of t.d_rows_of ["table"] (lift K dF):=by
 have nd:=wD.nd
 refine dY (k:=9) T.F_rows_of wD fun cdv A outer s H E hr=>?_
 have hc:=hr.calm (by decide)
 refine aD ?_
 exact (aL (jM (ak (oJ (dv 0 (pv 0)) (cG aC) (cG aC)) (ak (oJ (dv 0 (pv 0)) (cG aC) (cG aC)) (ak (oJ (dv 0 (pv 0)) (cG aC) (cG aC)) au (aj (by rfl))) (aj (by rfl))) (aj (by rfl)))))
theorem iz (T:Txt K mg t):cH P w K mg base CX0 11 t.f_table_times_row t.d_table_times_row ["table", "row"] (lift K bQ):=by
 have nd:=iC.nd
 refine dY (k:=10) T.F_table_times_row iC fun cdv A outer s H E hr=>?_
 have hc:=hr.calm (by decide)
 refine aD ?_
 exact (aL (ud [1] hc (aV (by rfl)) dU (dR (aV (by rfl))) (bO (aF ((lX T).mono (by decide)) hr (by rfl) (by exact T.dF) (by exact T.F_rows_of.kp) (by exact T.b_rows_of) (ak (dv 0 (pv 0)) au (aj (by rfl))) (by decide) (aj (by rfl)) (aq (by rfl)))) (fun _ _ _ _=>bR) (fun _ _ _ _=>(aF ((ok_dot T).mono (by decide)) hr (by rfl) (by exact T.vp) (by exact T.F_dot.kp) (by exact T.b_dot) (ak (dv 0 (pv 0)) (ak (dv 1 (pv 1)) au (aj (by rfl))) (aj (by rfl))) (by decide) (aj (by rfl)) (aq (by rfl))))))
theorem wG (T:Txt K mg t):cH P w K mg base CX0 10 t.f_flipped t.d_flipped ["table"] (lift K jd):=by
 have nd:=vX.nd
 refine dY (k:=9) T.F_flipped vX fun cdv A outer s H E hr=>?_
 have hc:=hr.calm (by decide)
 refine aD ?_
 exact (aL (ud [0] hc (aV (by rfl)) dU (dR (aV (by rfl))) (bV (by rfl) (by exact T.z_range) (ak aC au (aj (by rfl))) (fQ (by rfl))) (fun _ _ _ _=>bR) (fun _ _ _ _=>(bG (dv 1 (pv 1)) (bI bW (bI bT aC (bI p7 (dv 0 (pv 0)) aC)) (bI o_div (dv 0 (pv 0)) aC)) (by intro _ _;rfl)))))
theorem mq (T:Txt K mg t):cH P w K mg base CX0 11 t.f_table_times_table t.d_table_times_table ["one", "other"] (lift K bZ):=by
 have nd:=fZ.nd
 refine dY (k:=10) T.F_table_times_table fZ fun cdv A outer s H E hr=>?_
 have hc:=hr.calm (by decide)
 refine aA ?_ ?_
 ·exact (aM (i:=2) nd (by rfl) (by exact Or.inl rfl) (aF ((lX T).mono (by decide)) hr (by rfl) (by exact T.dF) (by exact T.F_rows_of.kp) (by exact T.b_rows_of) (ak (aF ((wG T).mono (by decide)) hr (by rfl) (by exact T.jd) (by exact T.F_flipped.kp) (by exact T.b_flipped) (ak (dv 1 (pv 1)) au (aj (by rfl))) (by decide) (aj (by rfl)) (aq (by rfl))) au (aj (by rfl))) (by decide) (aj (by rfl)) (aq (by rfl))))
 refine aA ?_ ?_
 ·exact (aM (i:=3) nd (by rfl) (by exact Or.inl rfl) (tO au))
 refine aA ?_ ?_
 ·exact (cJ PassesOwn.never hc (bO (aF ((lX T).mono (by decide)) hr (by rfl) (by exact T.dF) (by exact T.F_rows_of.kp) (by exact T.b_rows_of) (ak (dv 0 (pv 0)) au (aj (by rfl))) (by decide) (aj (by rfl)) (aq (by rfl)))) (aU (aR (i:=4) nd (by rfl) (by exact Or.inr rfl))) (aD (mR (yg (dv 3 (pv 3)) (ak (ud [4] hc (aV (by rfl)) dU (dR (aV (by rfl))) (bO (dv 2 (pv 2))) (fun _ _ _ _=>bR) (fun _ _ _ _=>(aF ((ok_dot T).mono (by decide)) hr (by rfl) (by exact T.vp) (by exact T.F_dot.kp) (by exact T.b_dot) (ak (dv 1 (pv 1)) (ak (dv 0 (pv 0)) au (aj (by rfl))) (aj (by rfl))) (by decide) (aj (by rfl)) (aq (by rfl))))) au (aj (by rfl))) (by rfl) (few_1 (by rfl)) (by rfl) (aj (by rfl)) (by rfl)))))
 refine aD ?_
 exact (aL (dv 3 (pv 3)))
theorem zN (T:Txt K mg t):cH P w K mg base CX0 11 t.f_turned t.d_turned ["table"] (lift K jO):=by
 have nd:=zP.nd
 refine dY (k:=10) T.F_turned zP fun cdv A outer s H E hr=>?_
 have hc:=hr.calm (by decide)
 refine aA ?_ ?_
 ·exact (aM (i:=1) nd (by rfl) (by exact Or.inl rfl) (aF ((lX T).mono (by decide)) hr (by rfl) (by exact T.dF) (by exact T.F_rows_of.kp) (by exact T.b_rows_of) (ak (dv 0 (pv 0)) au (aj (by rfl))) (by decide) (aj (by rfl)) (aq (by rfl))))
 refine aD ?_
 exact (aL (bI bW (bI bW (aF ((lQ T).mono (by decide)) hr (by rfl) (by exact T.fV) (by exact T.F_cross.kp) (by exact T.b_cross) (ak (bG (dv 1 (pv 1)) aC (by intro _ _;rfl)) (ak (bG (dv 1 (pv 1)) aC (by intro _ _;rfl)) au (aj (by rfl))) (aj (by rfl))) (by decide) (aj (by rfl)) (aq (by rfl))) (aF ((lQ T).mono (by decide)) hr (by rfl) (by exact T.fV) (by exact T.F_cross.kp) (by exact T.b_cross) (ak (bG (dv 1 (pv 1)) aC (by intro _ _;rfl)) (ak (bG (dv 1 (pv 1)) aC (by intro _ _;rfl)) au (aj (by rfl))) (aj (by rfl))) (by decide) (aj (by rfl)) (aq (by rfl)))) (aF ((lQ T).mono (by decide)) hr (by rfl) (by exact T.fV) (by exact T.F_cross.kp) (by exact T.b_cross) (ak (bG (dv 1 (pv 1)) aC (by intro _ _;rfl)) (ak (bG (dv 1 (pv 1)) aC (by intro _ _;rfl)) au (aj (by rfl))) (aj (by rfl))) (by decide) (aj (by rfl)) (aq (by rfl)))))
theorem ok_led (T:Txt K mg t):cH P w K mg base CX0 13 t.f_led t.d_led ["by", "spot"] (lift K m_led):=by
 have nd:=sc_led.nd
 refine dY (k:=12) T.F_led sc_led fun cdv A outer s H E hr=>?_
 have hc:=hr.calm (by decide)
 refine aD ?_
 exact (aL (aF ((rW T).mono (by decide)) hr (by rfl) (by exact T.gG) (by exact T.F_plain.kp) (by exact T.b_plain) (ak (aF ((iz T).mono (by decide)) hr (by rfl) (by exact T.bQ) (by exact T.F_table_times_row.kp) (by exact T.b_table_times_row) (ak (dv 0 (pv 0)) (ak (dv 1 (pv 1)) au (aj (by rfl))) (aj (by rfl))) (by decide) (aj (by rfl)) (aq (by rfl))) au (aj (by rfl))) (by decide) (aj (by rfl)) (aq (by rfl))))
theorem ok_then (T:Txt K mg t):cH P w K mg base CX0 13 t.f_then t.d_then ["one", "other"] (lift K m_then):=by
 have nd:=sc_then.nd
 refine dY (k:=12) T.F_then sc_then fun cdv A outer s H E hr=>?_
 have hc:=hr.calm (by decide)
 refine aD ?_
 exact (aL (aF ((rW T).mono (by decide)) hr (by rfl) (by exact T.gG) (by exact T.F_plain.kp) (by exact T.b_plain) (ak (aF ((mq T).mono (by decide)) hr (by rfl) (by exact T.bZ) (by exact T.F_table_times_table.kp) (by exact T.b_table_times_table) (ak (dv 1 (pv 1)) (ak (dv 0 (pv 0)) au (aj (by rfl))) (aj (by rfl))) (by decide) (aj (by rfl)) (aq (by rfl))) au (aj (by rfl))) (by decide) (aj (by rfl)) (aq (by rfl))))
theorem ok_back (T:Txt K mg t):cH P w K mg base CX0 13 t.f_back t.d_back ["by"] (lift K m_back):=by
 have nd:=sc_back.nd
 refine dY (k:=12) T.F_back sc_back fun cdv A outer s H E hr=>?_
 have hc:=hr.calm (by decide)
 refine aD ?_
 exact (aL (aF ((rW T).mono (by decide)) hr (by rfl) (by exact T.gG) (by exact T.F_plain.kp) (by exact T.b_plain) (ak (aF ((wG T).mono (by decide)) hr (by rfl) (by exact T.jd) (by exact T.F_flipped.kp) (by exact T.b_flipped) (ak (aF ((zN T).mono (by decide)) hr (by rfl) (by exact T.jO) (by exact T.F_turned.kp) (by exact T.b_turned) (ak (dv 0 (pv 0)) au (aj (by rfl))) (by decide) (aj (by rfl)) (aq (by rfl))) au (aj (by rfl))) (by decide) (aj (by rfl)) (aq (by rfl))) au (aj (by rfl))) (by decide) (aj (by rfl)) (aq (by rfl))))
theorem ok_tiles (T:Txt K mg t):cH P w K mg base CX0 10 t.f_tiles t.d_tiles [] (lift K tG):=by
 have nd:=sc_tiles.nd
 refine dY (k:=9) T.F_tiles sc_tiles fun cdv A outer s H E hr=>?_
 have hc:=hr.calm (by decide)
 refine aD ?_
 exact (aL (lK c_list (by rfl) (by exact T.z_list) boot_list (ak (dc (v:=.ref t.a_TILES) (pe_glob (by rfl) T.g_TILES (by rfl)) T.r_TILES) au (aj (by rfl))) (by decide) (by decide) (aj (by rfl)) (aq (by rfl))))
theorem nJ (T:Txt K mg t):cH P w K mg base CX0 12 t.f_are_free t.d_are_free ["four"] (lift K d8):=by
 have nd:=uO.nd
 refine dY (k:=11) T.F_are_free uO fun cdv A outer s H E hr=>?_
 have hc:=hr.calm (by decide)
 refine aA ?_ ?_
 ·exact (aM (i:=1) nd (by rfl) (by exact Or.inl rfl) (jM (ak (aF ((xX T).mono (by decide)) hr (by rfl) (by exact T.tU) (by exact T.F_turn.kp) (by exact T.b_turn) (ak (bG (dv 0 (pv 0)) aC (by intro _ _;rfl)) (ak (bG (dv 0 (pv 0)) aC (by intro _ _;rfl)) (ak (bG (dv 0 (pv 0)) aC (by intro _ _;rfl)) au (aj (by rfl))) (aj (by rfl))) (aj (by rfl))) (by decide) (aj (by rfl)) (aq (by rfl))) (ak (aF ((xX T).mono (by decide)) hr (by rfl) (by exact T.tU) (by exact T.F_turn.kp) (by exact T.b_turn) (ak (bG (dv 0 (pv 0)) aC (by intro _ _;rfl)) (ak (bG (dv 0 (pv 0)) aC (by intro _ _;rfl)) (ak (bG (dv 0 (pv 0)) aC (by intro _ _;rfl)) au (aj (by rfl))) (aj (by rfl))) (aj (by rfl))) (by decide) (aj (by rfl)) (aq (by rfl))) (ak (aF ((xX T).mono (by decide)) hr (by rfl) (by exact T.tU) (by exact T.F_turn.kp) (by exact T.b_turn) (ak (bG (dv 0 (pv 0)) aC (by intro _ _;rfl)) (ak (bG (dv 0 (pv 0)) aC (by intro _ _;rfl)) (ak (bG (dv 0 (pv 0)) aC (by intro _ _;rfl)) au (aj (by rfl))) (aj (by rfl))) (aj (by rfl))) (by decide) (aj (by rfl)) (aq (by rfl))) (ak (aF ((xX T).mono (by decide)) hr (by rfl) (by exact T.tU) (by exact T.F_turn.kp) (by exact T.b_turn) (ak (bG (dv 0 (pv 0)) aC (by intro _ _;rfl)) (ak (bG (dv 0 (pv 0)) aC (by intro _ _;rfl)) (ak (bG (dv 0 (pv 0)) aC (by intro _ _;rfl)) au (aj (by rfl))) (aj (by rfl))) (aj (by rfl))) (by decide) (aj (by rfl)) (aq (by rfl))) au (aj (by rfl))) (aj (by rfl))) (aj (by rfl))) (aj (by rfl)))))
 refine aD ?_
 exact (aL (mj o_nin aC (dv 1 (pv 1)) (by with_unfolding_all rfl)))
theorem oE (T:Txt K mg t):cH P w K mg base CX0 13 t.f_from_tiles t.d_from_tiles ["four"] (lift K fK):=by
 have nd:=pC.nd
 refine dY (k:=12) T.F_from_tiles pC fun cdv A outer s H E hr=>?_
 have hc:=hr.calm (by decide)
 refine aA ?_ ?_
 ·exact (aM (i:=1) nd (by rfl) (by exact Or.inr rfl) (aF ((iz T).mono (by decide)) hr (by rfl) (by exact T.bQ) (by exact T.F_table_times_row.kp) (by exact T.b_table_times_row) (ak (aF ((zN T).mono (by decide)) hr (by rfl) (by exact T.jO) (by exact T.F_turned.kp) (by exact T.b_turned) (ak (bI bW (bI bW (bG (dv 0 (pv 0)) aC (by intro _ _;rfl)) (bG (dv 0 (pv 0)) aC (by intro _ _;rfl))) (bG (dv 0 (pv 0)) aC (by intro _ _;rfl))) au (aj (by rfl))) (by decide) (aj (by rfl)) (aq (by rfl))) (ak (bG (dv 0 (pv 0)) aC (by intro _ _;rfl)) au (aj (by rfl))) (aj (by rfl))) (by decide) (aj (by rfl)) (aq (by rfl))))
 refine aD ?_
 exact (aL (aF ((rW T).mono (by decide)) hr (by rfl) (by exact T.gG) (by exact T.F_plain.kp) (by exact T.b_plain) (ak (ud [0,1] hc (aV (by rfl)) dU (dR (aV (by rfl))) (bV (by rfl) (by exact T.z_range) (ak aC au (aj (by rfl))) (fQ (by rfl))) (fun _ _ _ _=>bR) (fun _ _ _ _=>(bI bT (bG (dv 2 (pv 2)) (bI p7 (dv 0 (pv 0)) aC) (by intro _ _;rfl)) (bG (bG (dv 1 (pv 1)) (bI p7 (dv 0 (pv 0)) aC) (by intro _ _;rfl)) (bI o_div (dv 0 (pv 0)) aC) (by intro _ _;rfl))))) au (aj (by rfl))) (by decide) (aj (by rfl)) (aq (by rfl))))
theorem mJ (T:Txt K mg t):cH P w K mg base CX0 14 t.f_map_between t.d_map_between ["four", "others"] (lift K dj):=by
 have nd:=mF.nd
 refine dY (k:=13) T.F_map_between mF fun cdv A outer s H E hr=>?_
 have hc:=hr.calm (by decide)
 refine aA ?_ ?_
 ·exact (bY (dw_or (dt_not (lA (aF ((nJ T).mono (by decide)) hr (by rfl) (by exact T.d8) (by exact T.F_are_free.kp) (by exact T.b_are_free) (ak (dv 0 (pv 0)) au (aj (by rfl))) (by decide) (aj (by rfl)) (aq (by rfl))))) (vD (dt_not (lA (aF ((nJ T).mono (by decide)) hr (by rfl) (by exact T.d8) (by exact T.F_are_free.kp) (by exact T.b_are_free) (ak (dv 1 (pv 1)) au (aj (by rfl))) (by decide) (aj (by rfl)) (aq (by rfl))))))).pt (aD wL) aW)
 refine aD ?_
 exact (aL (aF ((ok_then T).mono (by decide)) hr (by rfl) (by exact T.m_then) (by exact T.F_then.kp) (by exact T.b_then) (ak (aF ((ok_back T).mono (by decide)) hr (by rfl) (by exact T.m_back) (by exact T.F_back.kp) (by exact T.b_back) (ak (aF ((oE T).mono (by decide)) hr (by rfl) (by exact T.fK) (by exact T.F_from_tiles.kp) (by exact T.b_from_tiles) (ak (dv 0 (pv 0)) au (aj (by rfl))) (by decide) (aj (by rfl)) (aq (by rfl))) au (aj (by rfl))) (by decide) (aj (by rfl)) (aq (by rfl))) (ak (aF ((oE T).mono (by decide)) hr (by rfl) (by exact T.fK) (by exact T.F_from_tiles.kp) (by exact T.b_from_tiles) (ak (dv 1 (pv 1)) au (aj (by rfl))) (by decide) (aj (by rfl)) (aq (by rfl))) au (aj (by rfl))) (aj (by rfl))) (by decide) (aj (by rfl)) (aq (by rfl))))
theorem jY (T:Txt K mg t):cH P w K mg base CX0 10 t.f_check_picture t.d_check_picture ["picture"] (lift K cW):=by
 have nd:=jZ.nd
 refine dY (k:=9) T.F_check_picture jZ fun cdv A outer s H E hr=>?_
 have hc:=hr.calm (by decide)
 refine aD ?_
 exact (bY (dw_or (bw o_lt (bA eU (by rfl) (by exact T.z_len) PySem.boot_len (ak (dv 0 (pv 0)) au (aj (by rfl))) (by decide) (by decide) (aj (by rfl)) (aq (by rfl))) aC (aQ _)) (vD (bw o_gt (bA eU (by rfl) (by exact T.z_len) PySem.boot_len (ak (dv 0 (pv 0)) au (aj (by rfl))) (by decide) (by decide) (aj (by rfl)) (aq (by rfl))) aC (aQ _)))).pt (aD wL) aW)
theorem wJ (T:Txt K mg t):cH P w K mg base CX0 13 t.f_first_free t.d_first_free ["picture"] (lift K g8):=by
 have nd:=oZ.nd
 refine dY (k:=12) T.F_first_free oZ fun cdv A outer s H E hr=>?_
 have hc:=hr.calm (by decide)
 refine aA ?_ ?_
 ·exact (cJ PassesOwn.never hc (bO (aF ((zf T).mono (by decide)) hr (by rfl) (by exact T.jC) (by exact T.F_rising.kp) (by exact T.b_rising) (ak (bA eU (by rfl) (by exact T.z_len) PySem.boot_len (ak (dv 0 (pv 0)) au (aj (by rfl))) (by decide) (by decide) (aj (by rfl)) (aq (by rfl))) (ak aC au (aj (by rfl))) (aj (by rfl))) (by decide) (aj (by rfl)) (aq (by rfl)))) (aU (aR (i:=1) nd (by rfl) (by exact Or.inl rfl))) (aD (bY (lA (aF ((nJ T).mono (by decide)) hr (by rfl) (by exact T.d8) (by exact T.F_are_free.kp) (by exact T.b_are_free) (ak (aF ((lB T).mono (by decide)) hr (by rfl) (by exact T.eN) (by exact T.F_picked.kp) (by exact T.b_picked) (ak (dv 0 (pv 0)) (ak (dv 1 (pv 1)) au (aj (by rfl))) (aj (by rfl))) (by decide) (aj (by rfl)) (aq (by rfl))) au (aj (by rfl))) (by decide) (aj (by rfl)) (aq (by rfl)))) (aD (aL (dv 1 (pv 1)))) aW)))
 refine aD ?_
 exact (aL nA)
theorem yZ (T:Txt K mg t):cH P w K mg base CX0 11 t.f_place_off t.d_place_off ["spots"] (lift K jG):=by
 have nd:=q9.nd
 refine dY (k:=10) T.F_place_off q9 fun cdv A outer s H E hr=>?_
 have hc:=hr.calm (by decide)
 refine aA ?_ ?_
 ·exact (vf [0] (i:=1) nd (by rfl) (by exact Or.inl rfl) hc (aV (by rfl)) dU (dR (aV (by rfl))) (bO (dv 0 (pv 0))) (fun _ _ _ _=>(nO (bw (qm (eY hr)) (dv 0 (pv 0)) (bG (dv 1 (pv 1)) aC (by intro _ _;rfl)) (aQ _)))) (fun _ _ _ _=>(dv 0 (pv 0))))
 refine aA ?_ ?_
 ·exact (aM (i:=2) nd (by rfl) (by exact Or.inr rfl) (aF ((lQ T).mono (by decide)) hr (by rfl) (by exact T.fV) (by exact T.F_cross.kp) (by exact T.b_cross) (ak (bG (dv 0 (pv 0)) aC (by intro _ _;rfl)) (ak (bG (dv 1 (pv 1)) aC (by intro _ _;rfl)) au (aj (by rfl))) (aj (by rfl))) (by decide) (aj (by rfl)) (aq (by rfl))))
 refine aD ?_
 exact (aL (bG (ud [2] hc (aV (by rfl)) dU (dR (aV (by rfl))) (bV (by rfl) (by exact T.z_range) (ak aC au (aj (by rfl))) (fQ (by rfl))) (fun _ _ _ _=>(nO (bw (qm (eY hr)) (bG (dv 1 (pv 1)) (dv 0 (pv 0)) (by intro _ _;rfl)) aC (aQ _)))) (fun _ _ _ _=>(dv 0 (pv 0)))) aC (by intro _ _;rfl)))
theorem lW (T:Txt K mg t):cH P w K mg base CX0 10 t.f_turn_at t.d_turn_at ["one", "other", "place"] (lift K gQ):=by
 have nd:=wA.nd
 refine dY (k:=9) T.F_turn_at wA fun cdv A outer s H E hr=>?_
 have hc:=hr.calm (by decide)
 refine aA ?_ ?_
 ·exact (aM (i:=3) nd (by rfl) (by exact Or.inl rfl) (bI p7 (bI bW (dv 2 (pv 2)) aC) aC))
 refine aA ?_ ?_
 ·exact (aM (i:=4) nd (by rfl) (by exact Or.inl rfl) (bI p7 (bI bW (dv 2 (pv 2)) aC) aC))
 refine aD ?_
 exact (aL (bI fj (bI bT (bG (dv 0 (pv 0)) (dv 3 (pv 3)) (by intro _ _;rfl)) (bG (dv 1 (pv 1)) (dv 4 (pv 4)) (by intro _ _;rfl))) (bI bT (bG (dv 0 (pv 0)) (dv 4 (pv 4)) (by intro _ _;rfl)) (bG (dv 1 (pv 1)) (dv 3 (pv 3)) (by intro _ _;rfl)))))
theorem pF (T:Txt K mg t):cH P w K mg base CX0 10 t.f_has_three_alike t.d_has_three_alike ["four"] (lift K dh):=by
 have nd:=iw.nd
 refine dY (k:=9) T.F_has_three_alike iw fun cdv A outer s H E hr=>?_
 have hc:=hr.calm (by decide)
 refine aD ?_
 exact (aL (mj o_gt (bA (c_maxA hc) (by rfl) (by exact T.z_max) boot_max (ak (ud [0] hc (aV (by rfl)) dU (dR (aV (by rfl))) (bO (dv 0 (pv 0))) (fun _ _ _ _=>bR) (fun _ _ _ _=>(d_count (eY hr) (dv 1 (pv 1)) (ak (dv 0 (pv 0)) au (aj (by rfl))) (by rfl) (few_1 (by rfl)) (by rfl) (aj (by rfl)) (by rfl)))) au (aj (by rfl))) (by decide) (by decide) (aj (by rfl)) (aq (by rfl))) aC (aQ _)))
theorem jQ (T:Txt K mg t):cH P w K mg base CX0 12 t.f_throw_numbers t.d_throw_numbers ["four"] (lift K cY):=by
 have nd:=jU.nd
 refine dY (k:=11) T.F_throw_numbers jU fun cdv A outer s H E hr=>?_
 have hc:=hr.calm (by decide)
 refine aA ?_ ?_
 ·exact (aM (i:=1) nd (by rfl) (by exact Or.inl rfl) (aF ((yZ T).mono (by decide)) hr (by rfl) (by exact T.jG) (by exact T.F_place_off.kp) (by exact T.b_place_off) (ak (dv 0 (pv 0)) au (aj (by rfl))) (by decide) (aj (by rfl)) (aq (by rfl))))
 refine aD ?_
 exact (aL (jM (ak (bI bT (aF ((lW T).mono (by decide)) hr (by rfl) (by exact T.gQ) (by exact T.F_turn_at.kp) (by exact T.b_turn_at) (ak (bG (dv 0 (pv 0)) aC (by intro _ _;rfl)) (ak (bG (dv 0 (pv 0)) aC (by intro _ _;rfl)) (ak (dv 1 (pv 1)) au (aj (by rfl))) (aj (by rfl))) (aj (by rfl))) (by decide) (aj (by rfl)) (aq (by rfl))) (aF ((lW T).mono (by decide)) hr (by rfl) (by exact T.gQ) (by exact T.F_turn_at.kp) (by exact T.b_turn_at) (ak (bG (dv 0 (pv 0)) aC (by intro _ _;rfl)) (ak (bG (dv 0 (pv 0)) aC (by intro _ _;rfl)) (ak (dv 1 (pv 1)) au (aj (by rfl))) (aj (by rfl))) (aj (by rfl))) (by decide) (aj (by rfl)) (aq (by rfl)))) (ak (bI bT (aF ((lW T).mono (by decide)) hr (by rfl) (by exact T.gQ) (by exact T.F_turn_at.kp) (by exact T.b_turn_at) (ak (bG (dv 0 (pv 0)) aC (by intro _ _;rfl)) (ak (bG (dv 0 (pv 0)) aC (by intro _ _;rfl)) (ak (dv 1 (pv 1)) au (aj (by rfl))) (aj (by rfl))) (aj (by rfl))) (by decide) (aj (by rfl)) (aq (by rfl))) (aF ((lW T).mono (by decide)) hr (by rfl) (by exact T.gQ) (by exact T.F_turn_at.kp) (by exact T.b_turn_at) (ak (bG (dv 0 (pv 0)) aC (by intro _ _;rfl)) (ak (bG (dv 0 (pv 0)) aC (by intro _ _;rfl)) (ak (dv 1 (pv 1)) au (aj (by rfl))) (aj (by rfl))) (aj (by rfl))) (by decide) (aj (by rfl)) (aq (by rfl)))) au (aj (by rfl))) (aj (by rfl)))))
theorem vo (T:Txt K mg t):cH P w K mg base CX0 10 t.f_twos_differ t.d_twos_differ ["one", "other"] (lift K eF):=by
 have nd:=mD.nd
 refine dY (k:=9) T.F_twos_differ mD fun cdv A outer s H E hr=>?_
 have hc:=hr.calm (by decide)
 refine aD ?_
 exact (aL (mj (qm (eY hr)) (mj (qW (eY hr)) (bG (dv 0 (pv 0)) aC (by intro _ _;rfl)) (bG (dv 0 (pv 0)) aC (by intro _ _;rfl)) (aQ _)) (mj (qW (eY hr)) (bG (dv 1 (pv 1)) aC (by intro _ _;rfl)) (bG (dv 1 (pv 1)) aC (by intro _ _;rfl)) (aQ _)) (aQ _)))
theorem rJ (T:Txt K mg t):cH P w K mg base CX0 13 t.f_threes_differ t.d_threes_differ ["one", "other"] (lift K cU):=by
 have nd:=jT.nd
 refine dY (k:=12) T.F_threes_differ jT fun cdv A outer s H E hr=>?_
 have hc:=hr.calm (by decide)
 refine aD ?_
 exact (aL (mj (qm (eY hr)) (aF ((ql T).mono (by decide)) hr (by rfl) (by exact T.fU) (by exact T.F_on_line.kp) (by exact T.b_on_line) (ak (dv 0 (pv 0)) au (aj (by rfl))) (by decide) (aj (by rfl)) (aq (by rfl))) (aF ((ql T).mono (by decide)) hr (by rfl) (by exact T.fU) (by exact T.F_on_line.kp) (by exact T.b_on_line) (ak (dv 1 (pv 1)) au (aj (by rfl))) (by decide) (aj (by rfl)) (aq (by rfl))) (aQ _)))
theorem rN (T:Txt K mg t):cH P w K mg base CX0 13 t.f_throws_differ t.d_throws_differ ["one", "other"] (lift K cX):=by
 have nd:=jR.nd
 refine dY (k:=12) T.F_throws_differ jR fun cdv A outer s H E hr=>?_
 have hc:=hr.calm (by decide)
 refine aA ?_ ?_
 ·exact (bY (dw_or (dt_not (lA (aF ((ql T).mono (by decide)) hr (by rfl) (by exact T.fU) (by exact T.F_on_line.kp) (by exact T.b_on_line) (ak (dv 0 (pv 0)) au (aj (by rfl))) (by decide) (aj (by rfl)) (aq (by rfl))))) (vD (lA (aF ((pF T).mono (by decide)) hr (by rfl) (by exact T.dh) (by exact T.F_has_three_alike.kp) (by exact T.b_has_three_alike) (ak (dv 0 (pv 0)) au (aj (by rfl))) (by decide) (aj (by rfl)) (aq (by rfl)))))).pt (aD (aL d_bl)) aW)
 refine aA ?_ ?_
 ·exact (aM (i:=2) nd (by rfl) (by exact Or.inl rfl) (aF ((jQ T).mono (by decide)) hr (by rfl) (by exact T.cY) (by exact T.F_throw_numbers.kp) (by exact T.b_throw_numbers) (ak (dv 0 (pv 0)) au (aj (by rfl))) (by decide) (aj (by rfl)) (aq (by rfl))))
 refine aA ?_ ?_
 ·exact (aM (i:=3) nd (by rfl) (by exact Or.inl rfl) (aF ((jQ T).mono (by decide)) hr (by rfl) (by exact T.cY) (by exact T.F_throw_numbers.kp) (by exact T.b_throw_numbers) (ak (dv 1 (pv 1)) au (aj (by rfl))) (by decide) (aj (by rfl)) (aq (by rfl))))
 refine aD ?_
 exact (aL (mj (qm (eY hr)) (bI bT (bG (dv 2 (pv 2)) aC (by intro _ _;rfl)) (bG (dv 3 (pv 3)) aC (by intro _ _;rfl))) (bI bT (bG (dv 2 (pv 2)) aC (by intro _ _;rfl)) (bG (dv 3 (pv 3)) aC (by intro _ _;rfl))) (aQ _)))
theorem lH (T:Txt K mg t):cH P w K mg base CX0 14 t.f_first_places t.d_first_places ["one", "other", "size", "differs"] (lift K (cO t.f_twos_differ t.f_threes_differ t.f_throws_differ)):=by
 have nd:=lC.nd
 refine dY (k:=13) T.F_first_places lC fun cdv A outer s H E hr=>?_
 have hc:=hr.calm (by decide)
 refine aA ?_ ?_
 ·exact (cJ PassesOwn.never hc (bO (aF ((zf T).mono (by decide)) hr (by rfl) (by exact T.jC) (by exact T.F_rising.kp) (by exact T.b_rising) (ak (bA eU (by rfl) (by exact T.z_len) PySem.boot_len (ak (dv 0 (pv 0)) au (aj (by rfl))) (by decide) (by decide) (aj (by rfl)) (aq (by rfl))) (ak (dv 2 (pv 2)) au (aj (by rfl))) (aj (by rfl))) (by decide) (aj (by rfl)) (aq (by rfl)))) (aU (aR (i:=4) nd (by rfl) (by exact Or.inl rfl))) (aD (bY (lA (d_callV (VFs.cons ((vo T).mono (by decide)) (by exact T.F_twos_differ.kp) (by exact T.b_twos_differ) (VFs.cons ((rJ T).mono (by decide)) (by exact T.F_threes_differ.kp) (by exact T.b_threes_differ) (VFs.cons ((rN T).mono (by decide)) (by exact T.F_throws_differ.kp) (by exact T.b_throws_differ) VFs.nil))) hr (pv 3) (ak (aF ((lB T).mono (by decide)) hr (by rfl) (by exact T.eN) (by exact T.F_picked.kp) (by exact T.b_picked) (ak (dv 0 (pv 0)) (ak (dv 4 (pv 4)) au (aj (by rfl))) (aj (by rfl))) (by decide) (aj (by rfl)) (aq (by rfl))) (ak (aF ((lB T).mono (by decide)) hr (by rfl) (by exact T.eN) (by exact T.F_picked.kp) (by exact T.b_picked) (ak (dv 1 (pv 1)) (ak (dv 4 (pv 4)) au (aj (by rfl))) (aj (by rfl))) (by decide) (aj (by rfl)) (aq (by rfl))) au (aj (by rfl))) (aj (by rfl))) (aj (by rfl)) (aq (by rfl)))) (aD (aL (dv 4 (pv 4)))) aW)))
 refine aD ?_
 exact (aL nA)
theorem u0 (T:Txt K mg t):cH P w K mg base CX0 15 t.f_fifth_apart t.d_fifth_apart ["one", "other"] (lift K gb):=by
 have nd:=mO.nd
 refine dY (k:=14) T.F_fifth_apart mO fun cdv A outer s H E hr=>?_
 have hc:=hr.calm (by decide)
 refine aA ?_ ?_
 ·exact (aM (i:=2) nd (by rfl) (by exact Or.inl rfl) (aF ((wJ T).mono (by decide)) hr (by rfl) (by exact T.g8) (by exact T.F_first_free.kp) (by exact T.b_first_free) (ak (dv 0 (pv 0)) au (aj (by rfl))) (by decide) (aj (by rfl)) (aq (by rfl))))
 refine aA ?_ ?_
 ·exact (bY (bw o_is (dv 2 (pv 2)) nA (aQ _)) (aD (aL nA)) aW)
 refine aA ?_ ?_
 ·exact (aM (i:=3) nd (by rfl) (by exact Or.inl rfl) (aF ((mJ T).mono (by decide)) hr (by rfl) (by exact T.dj) (by exact T.F_map_between.kp) (by exact T.b_map_between) (ak (aF ((lB T).mono (by decide)) hr (by rfl) (by exact T.eN) (by exact T.F_picked.kp) (by exact T.b_picked) (ak (dv 0 (pv 0)) (ak (dv 2 (pv 2)) au (aj (by rfl))) (aj (by rfl))) (by decide) (aj (by rfl)) (aq (by rfl))) (ak (d_call0 ((ok_tiles T).mono (by decide)) hr (by rfl) (by exact T.tG) (by exact T.F_tiles.kp) (by exact T.b_tiles)) au (aj (by rfl))) (aj (by rfl))) (by decide) (aj (by rfl)) (aq (by rfl))))
 refine aA ?_ ?_
 ·exact (aM (i:=4) nd (by rfl) (by exact Or.inl rfl) (aF ((mJ T).mono (by decide)) hr (by rfl) (by exact T.dj) (by exact T.F_map_between.kp) (by exact T.b_map_between) (ak (aF ((lB T).mono (by decide)) hr (by rfl) (by exact T.eN) (by exact T.F_picked.kp) (by exact T.b_picked) (ak (dv 1 (pv 1)) (ak (dv 2 (pv 2)) au (aj (by rfl))) (aj (by rfl))) (by decide) (aj (by rfl)) (aq (by rfl))) (ak (d_call0 ((ok_tiles T).mono (by decide)) hr (by rfl) (by exact T.tG) (by exact T.F_tiles.kp) (by exact T.b_tiles)) au (aj (by rfl))) (aj (by rfl))) (by decide) (aj (by rfl)) (aq (by rfl))))
 refine aA ?_ ?_
 ·exact (cJ PassesOwn.never hc (bV (by rfl) (by exact T.z_range) (ak (bA eU (by rfl) (by exact T.z_len) PySem.boot_len (ak (dv 0 (pv 0)) au (aj (by rfl))) (by decide) (by decide) (aj (by rfl)) (aq (by rfl))) au (aj (by rfl))) (fQ (by rfl))) (aU (aR (i:=5) nd (by rfl) (by exact Or.inl rfl))) (aD (bY (bw (qm (eY hr)) (aF ((ok_led T).mono (by decide)) hr (by rfl) (by exact T.m_led) (by exact T.F_led.kp) (by exact T.b_led) (ak (dv 3 (pv 3)) (ak (bG (dv 0 (pv 0)) (dv 5 (pv 5)) (by intro _ _;rfl)) au (aj (by rfl))) (aj (by rfl))) (by decide) (aj (by rfl)) (aq (by rfl))) (aF ((ok_led T).mono (by decide)) hr (by rfl) (by exact T.m_led) (by exact T.F_led.kp) (by exact T.b_led) (ak (dv 4 (pv 4)) (ak (bG (dv 1 (pv 1)) (dv 5 (pv 5)) (by intro _ _;rfl)) au (aj (by rfl))) (aj (by rfl))) (by decide) (aj (by rfl)) (aq (by rfl))) (aQ _)) (aD (aL (bI bW (dv 2 (pv 2)) (cB (ak (dv 5 (pv 5)) au (aj (by rfl))))))) aW)))
 refine aD ?_
 exact (aL nA)
theorem nG (T:Txt K mg t):cH P w K mg base CX0 16 t.f_apart_of_as_many t.d_apart_of_as_many ["one", "other"] (lift K (cP t.f_twos_differ t.f_threes_differ t.f_throws_differ)):=by
 have nd:=gJ.nd
 refine dY (k:=15) T.F_apart_of_as_many gJ fun cdv A outer s H E hr=>?_
 have hc:=hr.calm (by decide)
 refine aA ?_ ?_
 ·first
  | (with_reducible exact (cJ (hs:=by with_unfolding_all (intro _;rfl)) (by with_unfolding_all exact PassesOwn.never) (by with_unfolding_all exact hc) (bO (jM (ak (cB (ak lJ (ak aC (ak (d_fnv 0 (by with_unfolding_all rfl) (by with_unfolding_all exact T.eF)) au (aj (by with_unfolding_all rfl))) (aj (by with_unfolding_all rfl))) (aj (by with_unfolding_all rfl)))) (ak (cB (ak lJ (ak aC (ak (d_fnv 1 (by with_unfolding_all rfl) (by with_unfolding_all exact T.cU)) au (aj (by with_unfolding_all rfl))) (aj (by with_unfolding_all rfl))) (aj (by with_unfolding_all rfl)))) (ak (cB (ak lJ (ak aC (ak (d_fnv 2 (by with_unfolding_all rfl) (by with_unfolding_all exact T.cX)) au (aj (by with_unfolding_all rfl))) (aj (by with_unfolding_all rfl))) (aj (by with_unfolding_all rfl)))) au (aj (by with_unfolding_all rfl))) (aj (by with_unfolding_all rfl))) (aj (by with_unfolding_all rfl))))) (iG (hn:=by with_unfolding_all rfl) (hst:=by with_unfolding_all rfl) (by with_unfolding_all exact hc) (bD (hs:=by with_unfolding_all rfl) (aU (aR (i:=2) (by with_unfolding_all exact nd) (by with_unfolding_all rfl) (by with_unfolding_all exact Or.inl rfl))) (bD (hs:=by with_unfolding_all rfl) (aU (aR (i:=3) (by with_unfolding_all exact nd) (by with_unfolding_all rfl) (by with_unfolding_all exact Or.inl rfl))) (bD (hs:=by with_unfolding_all rfl) (aU (aR (i:=4) (by with_unfolding_all exact nd) (by with_unfolding_all rfl) (by with_unfolding_all exact Or.inl rfl))) iI)))) (aA (aM (hs:=by with_unfolding_all rfl) (hf:=by with_unfolding_all first | exact .inl rfl | exact .inr rfl) (i:=5) (by with_unfolding_all exact nd) (by with_unfolding_all rfl) (by with_unfolding_all exact Or.inl rfl) (aF (k:=15) (by with_unfolding_all exact (lH T).mono (by decide)) (by with_unfolding_all exact hr) (by with_unfolding_all rfl) (by with_unfolding_all exact T.cO) (by with_unfolding_all exact T.F_first_places.kp) (by with_unfolding_all exact T.b_first_places) (ak (dv 0 (by with_unfolding_all exact pv 0)) (ak (dv 1 (by with_unfolding_all exact pv 1)) (ak (dv 3 (by with_unfolding_all exact pv 3)) (ak (dv 4 (by with_unfolding_all exact pv 4)) au (aj (by with_unfolding_all rfl))) (aj (by with_unfolding_all rfl))) (aj (by with_unfolding_all rfl))) (aj (by with_unfolding_all rfl))) (by decide) (aj (by with_unfolding_all rfl)) (aq (by with_unfolding_all rfl))))
  (aD (bY (bw o_isnt (dv 5 (by with_unfolding_all exact pv 5)) nA (by with_unfolding_all exact aQ _)) (aD (aL (cB (ak (dv 2 (by with_unfolding_all exact pv 2)) (ak (dv 5 (by with_unfolding_all exact pv 5)) au (aj (by with_unfolding_all rfl))) (aj (by with_unfolding_all rfl)))))) aW)))))
  | (exact (cJ PassesOwn.never hc (bO (jM (ak (cB (ak lJ (ak aC (ak (d_fnv 0 (by rfl) (by exact T.eF)) au (aj (by rfl))) (aj (by rfl))) (aj (by rfl)))) (ak (cB (ak lJ (ak aC (ak (d_fnv 1 (by rfl) (by exact T.cU)) au (aj (by rfl))) (aj (by rfl))) (aj (by rfl)))) (ak (cB (ak lJ (ak aC (ak (d_fnv 2 (by rfl) (by exact T.cX)) au (aj (by rfl))) (aj (by rfl))) (aj (by rfl)))) au (aj (by rfl))) (aj (by rfl))) (aj (by rfl))))) (iG hc (bD (aU (aR (i:=2) nd (by rfl) (by exact Or.inl rfl))) (bD (aU (aR (i:=3) nd (by rfl) (by exact Or.inl rfl))) (bD (aU (aR (i:=4) nd (by rfl) (by exact Or.inl rfl))) iI)))) (aA (aM (i:=5) nd (by rfl) (by exact Or.inl rfl) (aF ((lH T).mono (by decide)) hr (by rfl) (by exact T.cO) (by exact T.F_first_places.kp) (by exact T.b_first_places) (ak (dv 0 (pv 0)) (ak (dv 1 (pv 1)) (ak (dv 3 (pv 3)) (ak (dv 4 (pv 4)) au (aj (by rfl))) (aj (by rfl))) (aj (by rfl))) (aj (by rfl))) (by decide) (aj (by rfl)) (aq (by rfl))))
  (aD (bY (bw o_isnt (dv 5 (pv 5)) nA (aQ _)) (aD (aL (cB (ak (dv 2 (pv 2)) (ak (dv 5 (pv 5)) au (aj (by rfl))) (aj (by rfl)))))) aW)))))
 refine aA ?_ ?_
 ·exact (aM (i:=5) nd (by rfl) (by exact Or.inl rfl) (aF ((u0 T).mono (by decide)) hr (by rfl) (by exact T.gb) (by exact T.F_fifth_apart.kp) (by exact T.b_fifth_apart) (ak (dv 0 (pv 0)) (ak (dv 1 (pv 1)) au (aj (by rfl))) (aj (by rfl))) (by decide) (aj (by rfl)) (aq (by rfl))))
 refine aD ?_
 exact (aL (d_if (bw o_is (dv 5 (pv 5)) nA (aQ _)) nA (cB (ak lJ (ak (dv 5 (pv 5)) au (aj (by rfl))) (aj (by rfl))))))
theorem ok_apart (T:Txt K mg t):cH P w K mg base CX0 17 t.f_apart t.d_apart ["one", "other"] (lift K (qw t.f_twos_differ t.f_threes_differ t.f_throws_differ)):=by
 have nd:=sc_apart.nd
 refine dY (k:=16) T.F_apart sc_apart fun cdv A outer s H E hr=>?_
 have hc:=hr.calm (by decide)
 refine aA ?_ ?_
 ·exact (mR (aF ((jY T).mono (by decide)) hr (by rfl) (by exact T.cW) (by exact T.F_check_picture.kp) (by exact T.b_check_picture) (ak (dv 0 (pv 0)) au (aj (by rfl))) (by decide) (aj (by rfl)) (aq (by rfl))))
 refine aA ?_ ?_
 ·exact (mR (aF ((jY T).mono (by decide)) hr (by rfl) (by exact T.cW) (by exact T.F_check_picture.kp) (by exact T.b_check_picture) (ak (dv 1 (pv 1)) au (aj (by rfl))) (by decide) (aj (by rfl)) (aq (by rfl))))
 refine aA ?_ ?_
 ·first
  | (with_reducible exact (bY (bw (qm (by with_unfolding_all exact eY hr)) (bA eU (by with_unfolding_all rfl) (by with_unfolding_all exact T.z_len) PySem.boot_len (ak (dv 0 (by with_unfolding_all exact pv 0)) au (aj (by with_unfolding_all rfl))) (by decide) (by decide) (aj (by with_unfolding_all rfl)) (aq (by with_unfolding_all rfl))) (bA eU (by with_unfolding_all rfl) (by with_unfolding_all exact T.z_len) PySem.boot_len (ak (dv 1 (by with_unfolding_all exact pv 1)) au (aj (by with_unfolding_all rfl))) (by decide) (by decide) (aj (by with_unfolding_all rfl)) (aq (by with_unfolding_all rfl))) (by with_unfolding_all exact aQ _)) (aD (aL (cB (ak lJ (ak (cB au) au (aj (by with_unfolding_all rfl))) (aj (by with_unfolding_all rfl)))))) aW))
  | (exact (bY (bw (qm (eY hr)) (bA eU (by rfl) (by exact T.z_len) PySem.boot_len (ak (dv 0 (pv 0)) au (aj (by rfl))) (by decide) (by decide) (aj (by rfl)) (aq (by rfl))) (bA eU (by rfl) (by exact T.z_len) PySem.boot_len (ak (dv 1 (pv 1)) au (aj (by rfl))) (by decide) (by decide) (aj (by rfl)) (aq (by rfl))) (aQ _)) (aD (aL (cB (ak lJ (ak (cB au) au (aj (by rfl))) (aj (by rfl)))))) aW))
 refine aD ?_
 exact (aL (aF ((nG T).mono (by decide)) hr (by rfl) (by exact T.cP) (by exact T.F_apart_of_as_many.kp) (by exact T.b_apart_of_as_many) (ak (dv 0 (pv 0)) (ak (dv 1 (pv 1)) au (aj (by rfl))) (aj (by rfl))) (by decide) (aj (by rfl)) (aq (by rfl))))
theorem zG (T:Txt K mg t):cH P w K mg base CX0 10 t.f_l_cell_at t.d_l_cell_at ["_law_script", "_law_k"] (lift K jx):=by
 have nd:=qO.nd
 refine dY (k:=9) T.F_l_cell_at qO fun cdv A outer s H E hr=>?_
 have hc:=hr.calm (by decide)
 refine aA ?_ ?_
 ·exact (bY (bw o_lt (dv 1 (pv 1)) (bA eU (by rfl) (by exact T.z_len) PySem.boot_len (ak (dv 0 (pv 0)) au (aj (by rfl))) (by decide) (by decide) (aj (by rfl)) (aq (by rfl))) (aQ _)) (aD (aL (bG (dv 0 (pv 0)) (dv 1 (pv 1)) (by intro _ _;rfl)))) aW)
 refine aD ?_
 exact (aL aC)
theorem pH (T:Txt K mg t):cH P w K mg base CX0 11 t.f_l_rest t.d_l_rest ["_law_script", "_law_k"] (lift K gj):=by
 have nd:=zy.nd
 refine dY (k:=10) T.F_l_rest zy fun cdv A outer s H E hr=>?_
 have hc:=hr.calm (by decide)
 refine aA ?_ ?_
 ·exact (aM (i:=2) nd (by rfl) (by exact Or.inl rfl) (aF ((zG T).mono (by decide)) hr (by rfl) (by exact T.jx) (by exact T.F_l_cell_at.kp) (by exact T.b_l_cell_at) (ak (dv 0 (pv 0)) (ak (dv 1 (pv 1)) au (aj (by rfl))) (aj (by rfl))) (by decide) (aj (by rfl)) (aq (by rfl))))
 refine aA ?_ ?_
 ·exact (aM (i:=3) nd (by rfl) (by exact Or.inl rfl) (bI p7 (bI bT (bI bW (bI bW (bI p7 (bI o_div (dv 2 (pv 2)) aC) (bI o_pow aC aC)) (bI bT (bI bT aC (dv 1 (pv 1))) (dv 1 (pv 1)))) aC) aC) aC))
 refine aA ?_ ?_
 ·exact (aM (i:=4) nd (by rfl) (by exact Or.inl rfl) aC)
 refine aA ?_ ?_
 ·exact (cJ PassesOwn.never hc (bV (by rfl) (by exact T.z_range) (ak aC au (aj (by rfl))) (fQ (by rfl))) (aU (aR (i:=5) nd (by rfl) (by exact Or.inl rfl))) (aA (aM (i:=3) nd (by rfl) (by exact Or.inl rfl) (bI p7 (bI bW (bI bW (bI bT (dv 3 (pv 3)) aC) (bI bT (dv 5 (pv 5)) (dv 5 (pv 5)))) aC) aC))
  (aD (aM (i:=4) nd (by rfl) (by exact Or.inl rfl) (bI bW (bI bT (dv 4 (pv 4)) (bI o_pow aC aC)) (bI p7 (bI bT (dv 3 (pv 3)) (bI bW (dv 3 (pv 3)) (bI bT aC (dv 5 (pv 5))))) aC))))))
 refine aA ?_ ?_
 ·exact (bY (bw (qW (eY hr)) (bI p7 (dv 2 (pv 2)) aC) aC (aQ _)) (aD (aL (tO (ak (dv 4 (pv 4)) au (aj (by rfl)))))) aW)
 refine aD ?_
 exact (aL (tO (ak (bI o_div (dv 2 (pv 2)) aC) (ak (dv 4 (pv 4)) au (aj (by rfl))) (aj (by rfl)))))
theorem bL (T:Txt K mg t):cH P w K mg base CX0 10 t.f_l_digit t.d_l_digit ["_law_rest_here", "_law_many"] (lift K bx):=by
 have nd:=vK.nd
 refine dY (k:=9) T.F_l_digit vK fun cdv A outer s H E hr=>?_
 have hc:=hr.calm (by decide)
 refine aA ?_ ?_
 ·exact (bY (Aj (bw o_lt (bG (dv 0 (pv 0)) aC (by intro _ _;rfl)) aC (aQ _)) (yu (bw o_gt (bA eU (by rfl) (by exact T.z_len) PySem.boot_len (ak (dv 0 (pv 0)) au (aj (by rfl))) (by decide) (by decide) (aj (by rfl)) (aq (by rfl))) aC (aQ _)))).pt (aD (rB (d_pop (dv 0 (pv 0))) (dg_sub (dv 0 (pv 0)) aC set_list sim_setL))) aW)
 refine aA ?_ ?_
 ·exact (aM (i:=2) nd (by rfl) (by exact Or.inl rfl) (bI p7 (bG (dv 0 (pv 0)) aC (by intro _ _;rfl)) (dv 1 (pv 1))))
 refine aA ?_ ?_
 ·exact (rB (bI o_div (bG (dv 0 (pv 0)) aC (by intro _ _;rfl)) (dv 1 (pv 1))) (dg_sub (dv 0 (pv 0)) aC set_list sim_setL))
 refine aD ?_
 exact (aL (dv 2 (pv 2)))
theorem uJ (T:Txt K mg t):cH P w K mg base CX0 11 t.f_l_number t.d_l_number ["_law_rest_here", "_law_far"] (lift K eZ):=by
 have nd:=ux.nd
 refine dY (k:=10) T.F_l_number ux fun cdv A outer s H E hr=>?_
 have hc:=hr.calm (by decide)
 refine aA ?_ ?_
 ·exact (aM (i:=2) nd (by rfl) (by exact Or.inl rfl) (aF ((bL T).mono (by decide)) hr (by rfl) (by exact T.bx) (by exact T.F_l_digit.kp) (by exact T.b_l_digit) (ak (dv 0 (pv 0)) (ak aC au (aj (by rfl))) (aj (by rfl))) (by decide) (aj (by rfl)) (aq (by rfl))))
 refine aA ?_ ?_
 ·exact (bY (bw (qW (eY hr)) (dv 2 (pv 2)) aC (aQ _)) (aD (aL (bI fj (aF ((bL T).mono (by decide)) hr (by rfl) (by exact T.bx) (by exact T.F_l_digit.kp) (by exact T.b_l_digit) (ak (dv 0 (pv 0)) (ak aC au (aj (by rfl))) (aj (by rfl))) (by decide) (aj (by rfl)) (aq (by rfl))) aC))) aW)
 refine aA ?_ ?_
 ·exact (bY (bw (qW (eY hr)) (dv 2 (pv 2)) aC (aQ _)) (aD (aL (bI fj (aF ((bL T).mono (by decide)) hr (by rfl) (by exact T.bx) (by exact T.F_l_digit.kp) (by exact T.b_l_digit) (ak (dv 0 (pv 0)) (ak aC au (aj (by rfl))) (aj (by rfl))) (by decide) (aj (by rfl)) (aq (by rfl))) aC))) aW)
 refine aD ?_
 exact (aL (bI bW (bI fj (aF ((bL T).mono (by decide)) hr (by rfl) (by exact T.bx) (by exact T.F_l_digit.kp) (by exact T.b_l_digit) (ak (dv 0 (pv 0)) (ak (bI fj (bI bT aC (dv 1 (pv 1))) aC) au (aj (by rfl))) (aj (by rfl))) (by decide) (aj (by rfl)) (aq (by rfl))) (dv 1 (pv 1))) aC))
theorem yN (T:Txt K mg t):cH P w K mg base CX0 10 t.f_l_divisor t.d_l_divisor ["_law_numbers"] (lift K jB):=by
 have nd:=qT.nd
 refine dY (k:=9) T.F_l_divisor qT fun cdv A outer s H E hr=>?_
 have hc:=hr.calm (by decide)
 refine aA ?_ ?_
 ·exact (aM (i:=1) nd (by rfl) (by exact Or.inl rfl) aC)
 refine aA ?_ ?_
 ·exact (cJ PassesOwn.never hc (bO (dv 0 (pv 0))) (aU (aR (i:=2) nd (by rfl) (by exact Or.inl rfl))) (aA (aM (i:=3) nd (by rfl) (by exact Or.inl rfl) (bA (c_max hc) (by rfl) (by exact T.z_max) boot_max (ak (dv 1 (pv 1)) (ak (bA c_abs (by rfl) (by exact T.z_abs) boot_abs (ak (dv 2 (pv 2)) au (aj (by rfl))) (by decide) (by decide) (aj (by rfl)) (aq (by rfl))) au (aj (by rfl))) (aj (by rfl))) (by decide) (by decide) (aj (by rfl)) (aq (by rfl))))
  (aA (aM (i:=4) nd (by rfl) (by exact Or.inl rfl) (bA (c_min hc) (by rfl) (by exact T.z_min) boot_min (ak (dv 1 (pv 1)) (ak (bA c_abs (by rfl) (by exact T.z_abs) boot_abs (ak (dv 2 (pv 2)) au (aj (by rfl))) (by decide) (by decide) (aj (by rfl)) (aq (by rfl))) au (aj (by rfl))) (aj (by rfl))) (by decide) (by decide) (aj (by rfl)) (aq (by rfl))))
  (aA (ds_while PassesOwn.never (bw o_gt (dv 4 (pv 4)) aC (aQ _)) (aD (ds_par_of (ps_par (i:=3) (j:=4) hc nd (by rfl) (by rfl) (by decide) (by rfl) (by rfl) (ak (dv 4 (pv 4)) (ak (bI p7 (dv 3 (pv 3)) (dv 4 (pv 4))) au (aj (by rfl))) (aj (by rfl))) (by rfl)))))
  (aD (aM (i:=1) nd (by rfl) (by exact Or.inl rfl) (dv 3 (pv 3))))))))
 refine aD ?_
 exact (aL (dv 1 (pv 1)))
theorem iV (T:Txt K mg t):cH P w K mg base CX0 11 t.f_l_plain t.d_l_plain ["_law_numbers"] (lift K cI):=by
 have nd:=wj.nd
 refine dY (k:=10) T.F_l_plain wj fun cdv A outer s H E hr=>?_
 have hc:=hr.calm (by decide)
 refine aA ?_ ?_
 ·exact (aM (i:=1) nd (by rfl) (by exact Or.inr rfl) (aF ((yN T).mono (by decide)) hr (by rfl) (by exact T.jB) (by exact T.F_l_divisor.kp) (by exact T.b_l_divisor) (ak (dv 0 (pv 0)) au (aj (by rfl))) (by decide) (aj (by rfl)) (aq (by rfl))))
 refine aA ?_ ?_
 ·exact (bY (bw o_lt (bG (ud [] hc (aV (by rfl)) dU (dR (aV (by rfl))) (bO (dv 0 (pv 0))) (fun _ _ _ _=>(nO (bw (qm (eY hr)) (dv 0 (pv 0)) aC (aQ _)))) (fun _ _ _ _=>(dv 0 (pv 0)))) (d_neg aC) (by intro _ _;rfl)) aC (aQ _)) (aD (aM (i:=1) nd (by rfl) (by exact Or.inr rfl) (bI fj aC (dv 1 (pv 1))))) aW)
 refine aD ?_
 exact (aL (lK c_tuple (by rfl) (by exact T.z_tuple) boot_tuple (ak (ud [1] hc (aV (by rfl)) dU (dR (aV (by rfl))) (bO (dv 0 (pv 0))) (fun _ _ _ _=>bR) (fun _ _ _ _=>(bI o_div (dv 0 (pv 0)) (dv 1 (pv 1))))) au (aj (by rfl))) (by decide) (by decide) (aj (by rfl)) (aq (by rfl))))
theorem tQ (T:Txt K mg t):cH P w K mg base CX0 12 t.f_l_spot t.d_l_spot ["_law_rest_here", "_law_far"] (lift K gB):=by
 have nd:=z8.nd
 refine dY (k:=11) T.F_l_spot z8 fun cdv A outer s H E hr=>?_
 have hc:=hr.calm (by decide)
 refine aA ?_ ?_
 ·exact (vf [0,1] (i:=2) nd (by rfl) (by exact Or.inl rfl) hc (aV (by rfl)) dU (dR (aV (by rfl))) (bV (by rfl) (by exact T.z_range) (ak aC au (aj (by rfl))) (fQ (by rfl))) (fun _ _ _ _=>bR) (fun _ _ _ _=>(aF ((uJ T).mono (by decide)) hr (by rfl) (by exact T.eZ) (by exact T.F_l_number.kp) (by exact T.b_l_number) (ak (dv 1 (pv 1)) (ak (dv 2 (pv 2)) au (aj (by rfl))) (aj (by rfl))) (by decide) (aj (by rfl)) (aq (by rfl)))))
 refine aA ?_ ?_
 ·exact (bY (bw (qW (eY hr)) (dv 2 (pv 2)) (jM (ak aC (ak aC (ak aC au (aj (by rfl))) (aj (by rfl))) (aj (by rfl)))) (aQ _)) (aD (aM (i:=2) nd (by rfl) (by exact Or.inl rfl) (jM (ak aC (ak aC (ak aC au (aj (by rfl))) (aj (by rfl))) (aj (by rfl)))))) aW)
 refine aD ?_
 exact (aL (aF ((iV T).mono (by decide)) hr (by rfl) (by exact T.cI) (by exact T.F_l_plain.kp) (by exact T.b_l_plain) (ak (dv 2 (pv 2)) au (aj (by rfl))) (by decide) (aj (by rfl)) (aq (by rfl))))
theorem wB (T:Txt K mg t):cH P w K mg base CX0 10 t.f_l_cross t.d_l_cross ["_law_one", "_law_other"] (lift K jc):=by
 have nd:=v8.nd
 refine dY (k:=9) T.F_l_cross v8 fun cdv A outer s H E hr=>?_
 have hc:=hr.calm (by decide)
 refine aA ?_ ?_
 ·exact (aM (i:=2) nd (by rfl) (by exact Or.inl rfl) (tO au))
 refine aA ?_ ?_
 ·exact (cJ PassesOwn.never hc (bV (by rfl) (by exact T.z_range) (ak aC au (aj (by rfl))) (fQ (by rfl))) (aU (aR (i:=3) nd (by rfl) (by exact Or.inl rfl))) (aD (mR (d_append (dv 2 (pv 2)) (ak (bI fj (bI bT (bG (dv 0 (pv 0)) (bI fj (dv 3 (pv 3)) aC) (by intro _ _;rfl)) (bG (dv 1 (pv 1)) (bI fj (dv 3 (pv 3)) aC) (by intro _ _;rfl))) (bI bT (bG (dv 0 (pv 0)) (bI fj (dv 3 (pv 3)) aC) (by intro _ _;rfl)) (bG (dv 1 (pv 1)) (bI fj (dv 3 (pv 3)) aC) (by intro _ _;rfl)))) au (aj (by rfl))) (by rfl) (few_1 (by rfl)) (by rfl) (aj (by rfl)) (by rfl)))))
 refine aD ?_
 exact (aL (lK c_tuple (by rfl) (by exact T.z_tuple) boot_tuple (ak (dv 2 (pv 2)) au (aj (by rfl))) (by decide) (by decide) (aj (by rfl)) (aq (by rfl))))
theorem rR (T:Txt K mg t):cH P w K mg base CX0 10 t.f_l_dot t.d_l_dot ["_law_one", "_law_other"] (lift K jk):=by
 have nd:=sc_l_dot.nd
 refine dY (k:=9) T.F_l_dot sc_l_dot fun cdv A outer s H E hr=>?_
 have hc:=hr.calm (by decide)
 refine aD ?_
 exact (aL (bA (c_sum hc) (by rfl) (by exact T.z_sum) boot_sum (ak (ud [] hc (aV (by rfl)) own_T (pgo_2 hc (aV (by rfl))) (di_zip (by rfl) (by exact T.z_zip) (ak (dv 0 (pv 0)) (ak (dv 1 (pv 1)) au (aj (by rfl))) (aj (by rfl))) (aj (by rfl)) (aq (by rfl))) (fun _ _ _ _=>bR) (fun _ _ _ _=>(bI bT (dv 0 (pv 0)) (dv 1 (pv 1))))) au (aj (by rfl))) (by decide) (by decide) (aj (by rfl)) (aq (by rfl))))
theorem ok_l_size (T:Txt K mg t):cH P w K mg base CX0 10 t.f_l_size t.d_l_size ["_law_numbers"] (lift K sS):=by
 have nd:=zm.nd
 refine dY (k:=9) T.F_l_size zm fun cdv A outer s H E hr=>?_
 have hc:=hr.calm (by decide)
 refine aA ?_ ?_
 ·exact (rB (oJ (dv 0 (pv 0)) (cG aC) (cG aC)) (iG hc (bD (aU (aR (i:=1) nd (by rfl) (by exact Or.inl rfl))) (bD (aU (aR (i:=2) nd (by rfl) (by exact Or.inl rfl))) (bD (aU (aR (i:=3) nd (by rfl) (by exact Or.inl rfl))) iI)))))
 refine aA ?_ ?_
 ·exact (rB (oJ (dv 0 (pv 0)) (cG aC) (cG aC)) (iG hc (bD (aU (aR (i:=4) nd (by rfl) (by exact Or.inl rfl))) (bD (aU (aR (i:=5) nd (by rfl) (by exact Or.inl rfl))) (bD (aU (aR (i:=6) nd (by rfl) (by exact Or.inl rfl))) iI)))))
 refine aA ?_ ?_
 ·exact (rB (oJ (dv 0 (pv 0)) (cG aC) (cG aC)) (iG hc (bD (aU (aR (i:=7) nd (by rfl) (by exact Or.inl rfl))) (bD (aU (aR (i:=8) nd (by rfl) (by exact Or.inl rfl))) (bD (aU (aR (i:=9) nd (by rfl) (by exact Or.inl rfl))) iI)))))
 refine aA ?_ ?_
 ·exact (aM (i:=10) nd (by rfl) (by exact Or.inl rfl) (bI bT (dv 1 (pv 1)) (bI fj (bI bT (dv 5 (pv 5)) (dv 9 (pv 9))) (bI bT (dv 6 (pv 6)) (dv 8 (pv 8))))))
 refine aA ?_ ?_
 ·exact (aM (i:=10) nd (by rfl) (by exact Or.inl rfl) (bI fj (dv 10 (pv 10)) (bI bT (dv 2 (pv 2)) (bI fj (bI bT (dv 4 (pv 4)) (dv 9 (pv 9))) (bI bT (dv 6 (pv 6)) (dv 7 (pv 7)))))))
 refine aD ?_
 exact (aL (bI bW (dv 10 (pv 10)) (bI bT (dv 3 (pv 3)) (bI fj (bI bT (dv 4 (pv 4)) (dv 8 (pv 8))) (bI bT (dv 5 (pv 5)) (dv 7 (pv 7)))))))
theorem ok_l_map (T:Txt K mg t):cH P w K mg base CX0 12 t.f_l_map t.d_l_map ["_law_rest_here", "_law_far"] (lift K yh):=by
 have nd:=sc_l_map.nd
 refine dY (k:=11) T.F_l_map sc_l_map fun cdv A outer s H E hr=>?_
 have hc:=hr.calm (by decide)
 refine aA ?_ ?_
 ·exact (vf [0,1] (i:=2) nd (by rfl) (by exact Or.inl rfl) hc (aV (by rfl)) dU (dR (aV (by rfl))) (bV (by rfl) (by exact T.z_range) (ak aC au (aj (by rfl))) (fQ (by rfl))) (fun _ _ _ _=>bR) (fun _ _ _ _=>(aF ((uJ T).mono (by decide)) hr (by rfl) (by exact T.eZ) (by exact T.F_l_number.kp) (by exact T.b_l_number) (ak (dv 1 (pv 1)) (ak (dv 2 (pv 2)) au (aj (by rfl))) (aj (by rfl))) (by decide) (aj (by rfl)) (aq (by rfl)))))
 refine aA ?_ ?_
 ·exact (bY (bw (qW (eY hr)) (aF ((ok_l_size T).mono (by decide)) hr (by rfl) (by exact T.sS) (by exact T.F_l_size.kp) (by exact T.b_l_size) (ak (dv 2 (pv 2)) au (aj (by rfl))) (by decide) (aj (by rfl)) (aq (by rfl))) aC (aQ _)) (aD (aM (i:=2) nd (by rfl) (by exact Or.inl rfl) (jM (ak aC (ak aC (ak (bG (dv 2 (pv 2)) aC (by intro _ _;rfl)) (ak aC (ak aC (ak (bG (dv 2 (pv 2)) aC (by intro _ _;rfl)) (ak aC (ak aC (ak aC au (aj (by rfl))) (aj (by rfl))) (aj (by rfl))) (aj (by rfl))) (aj (by rfl))) (aj (by rfl))) (aj (by rfl))) (aj (by rfl))) (aj (by rfl)))))) aW)
 refine aD ?_
 exact (aL (aF ((iV T).mono (by decide)) hr (by rfl) (by exact T.cI) (by exact T.F_l_plain.kp) (by exact T.b_l_plain) (ak (dv 2 (pv 2)) au (aj (by rfl))) (by decide) (aj (by rfl)) (aq (by rfl))))
theorem ok_l_led (T:Txt K mg t):cH P w K mg base CX0 12 t.f_l_led t.d_l_led ["_law_by", "_law_spot_here"] (lift K wX):=by
 have nd:=sc_l_led.nd
 refine dY (k:=11) T.F_l_led sc_l_led fun cdv A outer s H E hr=>?_
 have hc:=hr.calm (by decide)
 refine aD ?_
 exact (aL (aF ((iV T).mono (by decide)) hr (by rfl) (by exact T.cI) (by exact T.F_l_plain.kp) (by exact T.b_l_plain) (ak (ud [0,1] hc (aV (by rfl)) dU (dR (aV (by rfl))) (bV (by rfl) (by exact T.z_range) (ak aC au (aj (by rfl))) (fQ (by rfl))) (fun _ _ _ _=>bR) (fun _ _ _ _=>(aF ((rR T).mono (by decide)) hr (by rfl) (by exact T.jk) (by exact T.F_l_dot.kp) (by exact T.b_l_dot) (ak (oJ (dv 1 (pv 1)) (cG (bI bT aC (dv 0 (pv 0)))) (cG (bI bW (bI bT aC (dv 0 (pv 0))) aC))) (ak (dv 2 (pv 2)) au (aj (by rfl))) (aj (by rfl))) (by decide) (aj (by rfl)) (aq (by rfl))))) au (aj (by rfl))) (by decide) (aj (by rfl)) (aq (by rfl))))
theorem bN (T:Txt K mg t):cH P w K mg base CX0 11 t.f_l_turn t.d_l_turn ["_law_one", "_law_other", "_law_third"] (lift K bH):=by
 have nd:=zQ.nd
 refine dY (k:=10) T.F_l_turn zQ fun cdv A outer s H E hr=>?_
 have hc:=hr.calm (by decide)
 refine aD ?_
 exact (aL (aF ((rR T).mono (by decide)) hr (by rfl) (by exact T.jk) (by exact T.F_l_dot.kp) (by exact T.b_l_dot) (ak (aF ((wB T).mono (by decide)) hr (by rfl) (by exact T.jc) (by exact T.F_l_cross.kp) (by exact T.b_l_cross) (ak (dv 0 (pv 0)) (ak (dv 1 (pv 1)) au (aj (by rfl))) (aj (by rfl))) (by decide) (aj (by rfl)) (aq (by rfl))) (ak (dv 2 (pv 2)) au (aj (by rfl))) (aj (by rfl))) (by decide) (aj (by rfl)) (aq (by rfl))))
theorem Al (T:Txt K mg t):cH P w K mg base CX0 12 t.f_l_free t.d_l_free ["_law_four"] (lift K oA):=by
 have nd:=zM.nd
 refine dY (k:=11) T.F_l_free zM fun cdv A outer s H E hr=>?_
 have hc:=hr.calm (by decide)
 refine aA ?_ ?_
 ·exact (cJ PassesOwn.never hc (bV (by rfl) (by exact T.z_range) (ak aC au (aj (by rfl))) (fQ (by rfl))) (aU (aR (i:=1) nd (by rfl) (by exact Or.inl rfl))) (aD (bY (bw (qW (eY hr)) (aF ((bN T).mono (by decide)) hr (by rfl) (by exact T.bH) (by exact T.F_l_turn.kp) (by exact T.b_l_turn) (ak (bG (dv 0 (pv 0)) (bI fj (dv 1 (pv 1)) aC) (by intro _ _;rfl)) (ak (bG (dv 0 (pv 0)) (bI fj (dv 1 (pv 1)) aC) (by intro _ _;rfl)) (ak (bG (dv 0 (pv 0)) (bI fj (dv 1 (pv 1)) aC) (by intro _ _;rfl)) au (aj (by rfl))) (aj (by rfl))) (aj (by rfl))) (by decide) (aj (by rfl)) (aq (by rfl))) aC (aQ _)) (aD (aL d_bl)) aW)))
 refine aD ?_
 exact (aL d_bl)
theorem qG (T:Txt K mg t):cH P w K mg base CX0 12 t.f_l_mixed t.d_l_mixed ["_law_one", "_law_other", "_law_rest_here"] (lift K fP):=by
 have nd:=vP.nd
 refine dY (k:=11) T.F_l_mixed vP fun cdv A outer s H E hr=>?_
 have hc:=hr.calm (by decide)
 refine aA ?_ ?_
 ·exact (aM (i:=3) nd (by rfl) (by exact Or.inr rfl) (bI fj (aF ((bL T).mono (by decide)) hr (by rfl) (by exact T.bx) (by exact T.F_l_digit.kp) (by exact T.b_l_digit) (ak (dv 2 (pv 2)) (ak aC au (aj (by rfl))) (aj (by rfl))) (by decide) (aj (by rfl)) (aq (by rfl))) aC))
 refine aA ?_ ?_
 ·exact (aM (i:=4) nd (by rfl) (by exact Or.inr rfl) (bI fj (aF ((bL T).mono (by decide)) hr (by rfl) (by exact T.bx) (by exact T.F_l_digit.kp) (by exact T.b_l_digit) (ak (dv 2 (pv 2)) (ak aC au (aj (by rfl))) (aj (by rfl))) (by decide) (aj (by rfl)) (aq (by rfl))) aC))
 refine aA ?_ ?_
 ·exact (vf [3,4] (i:=5) nd (by rfl) (by exact Or.inl rfl) hc (aV (by rfl)) own_T (pgo_2 hc (aV (by rfl))) (di_zip (by rfl) (by exact T.z_zip) (ak (dv 0 (pv 0)) (ak (dv 1 (pv 1)) au (aj (by rfl))) (aj (by rfl))) (aj (by rfl)) (aq (by rfl))) (fun _ _ _ _=>bR) (fun _ _ _ _=>(bI bW (bI bT (dv 2 (pv 2)) (dv 0 (pv 0))) (bI bT (dv 3 (pv 3)) (dv 1 (pv 1))))))
 refine aA ?_ ?_
 ·exact (bY (bw (qW (eY hr)) (dv 5 (pv 5)) (jM (ak aC (ak aC (ak aC au (aj (by rfl))) (aj (by rfl))) (aj (by rfl)))) (aQ _)) (aD (aL (dv 0 (pv 0)))) aW)
 refine aD ?_
 exact (aL (aF ((iV T).mono (by decide)) hr (by rfl) (by exact T.cI) (by exact T.F_l_plain.kp) (by exact T.b_l_plain) (ak (dv 5 (pv 5)) au (aj (by rfl))) (by decide) (aj (by rfl)) (aq (by rfl))))
theorem ok_l_next (T:Txt K mg t):cH P w K mg base CX0 13 t.f_l_next t.d_l_next ["_law_spots", "_law_style", "_law_rest_here"] (lift K sJ):=by
 have nd:=sc_l_next.nd
 refine dY (k:=12) T.F_l_next sc_l_next fun cdv A outer s H E hr=>?_
 have hc:=hr.calm (by decide)
 refine aA ?_ ?_
 ·exact (aM (i:=3) nd (by rfl) (by exact Or.inl rfl) (aF ((bL T).mono (by decide)) hr (by rfl) (by exact T.bx) (by exact T.F_l_digit.kp) (by exact T.b_l_digit) (ak (dv 2 (pv 2)) (ak aC au (aj (by rfl))) (aj (by rfl))) (by decide) (aj (by rfl)) (aq (by rfl))))
 refine aA ?_ ?_
 ·exact (aM (i:=4) nd (by rfl) (by exact Or.inl rfl) (bG (dv 0 (pv 0)) (aF ((bL T).mono (by decide)) hr (by rfl) (by exact T.bx) (by exact T.F_l_digit.kp) (by exact T.b_l_digit) (ak (dv 2 (pv 2)) (ak (bA eU (by rfl) (by exact T.z_len) PySem.boot_len (ak (dv 0 (pv 0)) au (aj (by rfl))) (by decide) (by decide) (aj (by rfl)) (aq (by rfl))) au (aj (by rfl))) (aj (by rfl))) (by decide) (aj (by rfl)) (aq (by rfl))) (by intro _ _;rfl)))
 refine aA ?_ ?_
 ·exact (aM (i:=5) nd (by rfl) (by exact Or.inl rfl) (bG (dv 0 (pv 0)) (aF ((bL T).mono (by decide)) hr (by rfl) (by exact T.bx) (by exact T.F_l_digit.kp) (by exact T.b_l_digit) (ak (dv 2 (pv 2)) (ak (bA eU (by rfl) (by exact T.z_len) PySem.boot_len (ak (dv 0 (pv 0)) au (aj (by rfl))) (by decide) (by decide) (aj (by rfl)) (aq (by rfl))) au (aj (by rfl))) (aj (by rfl))) (by decide) (aj (by rfl)) (aq (by rfl))) (by intro _ _;rfl)))
 refine aA ?_ ?_
 ·exact (bY (Aj (bw (qW (eY hr)) (dv 1 (pv 1)) aC (aQ _)) (Aj (bw o_gt (bA eU (by rfl) (by exact T.z_len) PySem.boot_len (ak (dv 0 (pv 0)) au (aj (by rfl))) (by decide) (by decide) (aj (by rfl)) (aq (by rfl))) aC (aQ _)) (yu (bw o_lt (dv 3 (pv 3)) aC (aQ _))))).pt (aD (aL (aF ((qG T).mono (by decide)) hr (by rfl) (by exact T.fP) (by exact T.F_l_mixed.kp) (by exact T.b_l_mixed) (ak (bG (dv 0 (pv 0)) aC (by intro _ _;rfl)) (ak (bG (dv 0 (pv 0)) aC (by intro _ _;rfl)) (ak (dv 2 (pv 2)) au (aj (by rfl))) (aj (by rfl))) (aj (by rfl))) (by decide) (aj (by rfl)) (aq (by rfl))))) aW)
 refine aA ?_ ?_
 ·exact (bY (dw_or (Aj (bw (qW (eY hr)) (dv 1 (pv 1)) aC (aQ _)) (yu (bw o_gt (bA eU (by rfl) (by exact T.z_len) PySem.boot_len (ak (dv 0 (pv 0)) au (aj (by rfl))) (by decide) (by decide) (aj (by rfl)) (aq (by rfl))) aC (aQ _)))).pt (vD (bw (qW (eY hr)) (dv 3 (pv 3)) aC (aQ _)))).pt (aD (aL (dv 4 (pv 4)))) aW)
 refine aA ?_ ?_
 ·exact (bY (bw o_gt (dv 3 (pv 3)) aC (aQ _)) (aD (aL (aF ((qG T).mono (by decide)) hr (by rfl) (by exact T.fP) (by exact T.F_l_mixed.kp) (by exact T.b_l_mixed) (ak (dv 4 (pv 4)) (ak (dv 5 (pv 5)) (ak (dv 2 (pv 2)) au (aj (by rfl))) (aj (by rfl))) (aj (by rfl))) (by decide) (aj (by rfl)) (aq (by rfl))))) aW)
 refine aD ?_
 exact (aL (aF ((tQ T).mono (by decide)) hr (by rfl) (by exact T.gB) (by exact T.F_l_spot.kp) (by exact T.b_l_spot) (ak (dv 2 (pv 2)) (ak (bI o_pow aC aC) au (aj (by rfl))) (aj (by rfl))) (by decide) (aj (by rfl)) (aq (by rfl))))
theorem rA (T:Txt K mg t):cH P w K mg base CX0 14 t.f_l_picture t.d_l_picture ["_law_rest_here", "_law_most"] (lift K fC):=by
 have nd:=qL.nd
 refine dY (k:=13) T.F_l_picture qL fun cdv A outer s H E hr=>?_
 have hc:=hr.calm (by decide)
 refine aA ?_ ?_
 ·exact (aM (i:=2) nd (by rfl) (by exact Or.inl rfl) (aF ((bL T).mono (by decide)) hr (by rfl) (by exact T.bx) (by exact T.F_l_digit.kp) (by exact T.b_l_digit) (ak (dv 0 (pv 0)) (ak (dv 1 (pv 1)) au (aj (by rfl))) (aj (by rfl))) (by decide) (aj (by rfl)) (aq (by rfl))))
 refine aA ?_ ?_
 ·exact (aM (i:=3) nd (by rfl) (by exact Or.inl rfl) (aF ((bL T).mono (by decide)) hr (by rfl) (by exact T.bx) (by exact T.F_l_digit.kp) (by exact T.b_l_digit) (ak (dv 0 (pv 0)) (ak aC au (aj (by rfl))) (aj (by rfl))) (by decide) (aj (by rfl)) (aq (by rfl))))
 refine aA ?_ ?_
 ·exact (aM (i:=4) nd (by rfl) (by exact Or.inl rfl) (tO (ak (aF ((tQ T).mono (by decide)) hr (by rfl) (by exact T.gB) (by exact T.F_l_spot.kp) (by exact T.b_l_spot) (ak (dv 0 (pv 0)) (ak (bI o_pow aC aC) au (aj (by rfl))) (aj (by rfl))) (by decide) (aj (by rfl)) (aq (by rfl))) au (aj (by rfl)))))
 refine aA ?_ ?_
 ·exact (cJ PassesOwn.never hc (bV (by rfl) (by exact T.z_range) (ak (dv 2 (pv 2)) au (aj (by rfl))) (fQ (by rfl))) (aU (aR (i:=5) nd (by rfl) (by exact Or.inl rfl))) (aD (mR (d_append (dv 4 (pv 4)) (ak (aF ((ok_l_next T).mono (by decide)) hr (by rfl) (by exact T.sJ) (by exact T.F_l_next.kp) (by exact T.b_l_next) (ak (dv 4 (pv 4)) (ak (dv 3 (pv 3)) (ak (dv 0 (pv 0)) au (aj (by rfl))) (aj (by rfl))) (aj (by rfl))) (by decide) (aj (by rfl)) (aq (by rfl))) au (aj (by rfl))) (by rfl) (few_1 (by rfl)) (by rfl) (aj (by rfl)) (by rfl)))))
 refine aD ?_
 exact (aL (dv 4 (pv 4)))
theorem yS (T:Txt K mg t):cH P w K mg base CX0 13 t.f_l_changed t.d_l_changed ["_law_spots", "_law_rest_here"] (lift K jD):=by
 have nd:=rE.nd
 refine dY (k:=12) T.F_l_changed rE fun cdv A outer s H E hr=>?_
 have hc:=hr.calm (by decide)
 refine aA ?_ ?_
 ·exact (aM (i:=2) nd (by rfl) (by exact Or.inl rfl) (aF ((bL T).mono (by decide)) hr (by rfl) (by exact T.bx) (by exact T.F_l_digit.kp) (by exact T.b_l_digit) (ak (dv 1 (pv 1)) (ak (bA eU (by rfl) (by exact T.z_len) PySem.boot_len (ak (dv 0 (pv 0)) au (aj (by rfl))) (by decide) (by decide) (aj (by rfl)) (aq (by rfl))) au (aj (by rfl))) (aj (by rfl))) (by decide) (aj (by rfl)) (aq (by rfl))))
 refine aA ?_ ?_
 ·exact (aM (i:=3) nd (by rfl) (by exact Or.inl rfl) (aF ((bL T).mono (by decide)) hr (by rfl) (by exact T.bx) (by exact T.F_l_digit.kp) (by exact T.b_l_digit) (ak (dv 1 (pv 1)) (ak aC au (aj (by rfl))) (aj (by rfl))) (by decide) (aj (by rfl)) (aq (by rfl))))
 refine aA ?_ ?_
 ·exact (aM (i:=4) nd (by rfl) (by exact Or.inl rfl) (bG (dv 0 (pv 0)) (aF ((bL T).mono (by decide)) hr (by rfl) (by exact T.bx) (by exact T.F_l_digit.kp) (by exact T.b_l_digit) (ak (dv 1 (pv 1)) (ak (bA eU (by rfl) (by exact T.z_len) PySem.boot_len (ak (dv 0 (pv 0)) au (aj (by rfl))) (by decide) (by decide) (aj (by rfl)) (aq (by rfl))) au (aj (by rfl))) (aj (by rfl))) (by decide) (aj (by rfl)) (aq (by rfl))) (by intro _ _;rfl)))
 refine aA ?_ ?_
 ·exact (bY (bw (qW (eY hr)) (dv 3 (pv 3)) aC (aQ _)) (aD (aM (i:=4) nd (by rfl) (by exact Or.inl rfl) (aF ((qG T).mono (by decide)) hr (by rfl) (by exact T.fP) (by exact T.F_l_mixed.kp) (by exact T.b_l_mixed) (ak (bG (dv 0 (pv 0)) (dv 2 (pv 2)) (by intro _ _;rfl)) (ak (dv 4 (pv 4)) (ak (dv 1 (pv 1)) au (aj (by rfl))) (aj (by rfl))) (aj (by rfl))) (by decide) (aj (by rfl)) (aq (by rfl))))) aW)
 refine aA ?_ ?_
 ·exact (bY (bw (qW (eY hr)) (dv 3 (pv 3)) aC (aQ _)) (aD (aM (i:=4) nd (by rfl) (by exact Or.inl rfl) (aF ((tQ T).mono (by decide)) hr (by rfl) (by exact T.gB) (by exact T.F_l_spot.kp) (by exact T.b_l_spot) (ak (dv 1 (pv 1)) (ak (bI o_pow aC aC) au (aj (by rfl))) (aj (by rfl))) (by decide) (aj (by rfl)) (aq (by rfl))))) aW)
 refine aD ?_
 exact (aL (bI bW (bI bW (oJ (dv 0 (pv 0)) mQ (cG (dv 2 (pv 2)))) (jM (ak (dv 4 (pv 4)) au (aj (by rfl))))) (oJ (dv 0 (pv 0)) (cG (bI bW (dv 2 (pv 2)) aC)) mQ)))
theorem ok_l_two (T:Txt K mg t):cH P w K mg base CX0 15 t.f_l_two t.d_l_two ["_law_script", "_law_most"] (lift K uF):=by
 have nd:=sc_l_two.nd
 refine dY (k:=14) T.F_l_two sc_l_two fun cdv A outer s H E hr=>?_
 have hc:=hr.calm (by decide)
 refine aA ?_ ?_
 ·exact (aM (i:=2) nd (by rfl) (by exact Or.inl rfl) (aF ((rA T).mono (by decide)) hr (by rfl) (by exact T.fC) (by exact T.F_l_picture.kp) (by exact T.b_l_picture) (ak (aF ((pH T).mono (by decide)) hr (by rfl) (by exact T.gj) (by exact T.F_l_rest.kp) (by exact T.b_l_rest) (ak (dv 0 (pv 0)) (ak aC au (aj (by rfl))) (aj (by rfl))) (by decide) (aj (by rfl)) (aq (by rfl))) (ak (dv 1 (pv 1)) au (aj (by rfl))) (aj (by rfl))) (by decide) (aj (by rfl)) (aq (by rfl))))
 refine aA ?_ ?_
 ·exact (aM (i:=3) nd (by rfl) (by exact Or.inr rfl) (aF ((ok_l_map T).mono (by decide)) hr (by rfl) (by exact T.yh) (by exact T.F_l_map.kp) (by exact T.b_l_map) (ak (aF ((pH T).mono (by decide)) hr (by rfl) (by exact T.gj) (by exact T.F_l_rest.kp) (by exact T.b_l_rest) (ak (dv 0 (pv 0)) (ak aC au (aj (by rfl))) (aj (by rfl))) (by decide) (aj (by rfl)) (aq (by rfl))) (ak (bI o_pow aC aC) au (aj (by rfl))) (aj (by rfl))) (by decide) (aj (by rfl)) (aq (by rfl))))
 refine aA ?_ ?_
 ·exact (vf [3] (i:=4) nd (by rfl) (by exact Or.inl rfl) hc (aV (by rfl)) dU (dR (aV (by rfl))) (bO (dv 2 (pv 2))) (fun _ _ _ _=>bR) (fun _ _ _ _=>(aF ((ok_l_led T).mono (by decide)) hr (by rfl) (by exact T.wX) (by exact T.F_l_led.kp) (by exact T.b_l_led) (ak (dv 1 (pv 1)) (ak (dv 0 (pv 0)) au (aj (by rfl))) (aj (by rfl))) (by decide) (aj (by rfl)) (aq (by rfl)))))
 refine aA ?_ ?_
 ·exact (aM (i:=5) nd (by rfl) (by exact Or.inl rfl) (aF ((pH T).mono (by decide)) hr (by rfl) (by exact T.gj) (by exact T.F_l_rest.kp) (by exact T.b_l_rest) (ak (dv 0 (pv 0)) (ak aC au (aj (by rfl))) (aj (by rfl))) (by decide) (aj (by rfl)) (aq (by rfl))))
 refine aA ?_ ?_
 ·exact (aM (i:=6) nd (by rfl) (by exact Or.inl rfl) (aF ((bL T).mono (by decide)) hr (by rfl) (by exact T.bx) (by exact T.F_l_digit.kp) (by exact T.b_l_digit) (ak (dv 5 (pv 5)) (ak aC au (aj (by rfl))) (aj (by rfl))) (by decide) (aj (by rfl)) (aq (by rfl))))
 refine aA ?_ ?_
 ·exact (bY (dw_or (bw (qW (eY hr)) (dv 6 (pv 6)) aC (aQ _)) (vD (bw (qW (eY hr)) (dv 6 (pv 6)) aC (aQ _)))).pt (aD (aM (i:=4) nd (by rfl) (by exact Or.inl rfl) (aF ((yS T).mono (by decide)) hr (by rfl) (by exact T.jD) (by exact T.F_l_changed.kp) (by exact T.b_l_changed) (ak (dv 4 (pv 4)) (ak (dv 5 (pv 5)) au (aj (by rfl))) (aj (by rfl))) (by decide) (aj (by rfl)) (aq (by rfl))))) aW)
 refine aA ?_ ?_
 ·exact (bY (bw (qW (eY hr)) (dv 6 (pv 6)) aC (aQ _)) (aA (aM (i:=4) nd (by rfl) (by exact Or.inl rfl) (aF ((rA T).mono (by decide)) hr (by rfl) (by exact T.fC) (by exact T.F_l_picture.kp) (by exact T.b_l_picture) (ak (dv 5 (pv 5)) (ak (dv 1 (pv 1)) au (aj (by rfl))) (aj (by rfl))) (by decide) (aj (by rfl)) (aq (by rfl))))
  (aD (aM (i:=4) nd (by rfl) (by exact Or.inl rfl) (oJ (bI bW (dv 4 (pv 4)) (dv 2 (pv 2))) mQ (cG (bA eU (by rfl) (by exact T.z_len) PySem.boot_len (ak (dv 2 (pv 2)) au (aj (by rfl))) (by decide) (by decide) (aj (by rfl)) (aq (by rfl)))))))) aW)
 refine aA ?_ ?_
 ·exact (bY (bw (qW (eY hr)) (aF ((bL T).mono (by decide)) hr (by rfl) (by exact T.bx) (by exact T.F_l_digit.kp) (by exact T.b_l_digit) (ak (dv 5 (pv 5)) (ak aC au (aj (by rfl))) (aj (by rfl))) (by decide) (aj (by rfl)) (aq (by rfl))) aC (aQ _)) (aD (aM (i:=4) nd (by rfl) (by exact Or.inl rfl) (bI bW (bI bW (oJ (dv 4 (pv 4)) (cG aC) mQ) (oJ (dv 4 (pv 4)) mQ (cG aC))) (oJ (dv 4 (pv 4)) mQ (cG aC))))) aW)
 refine aD ?_
 exact (aL (cB (ak (dv 2 (pv 2)) (ak (oJ (dv 4 (pv 4)) mQ (cG aC)) au (aj (by rfl))) (aj (by rfl)))))
theorem jH (T:Txt K mg t):cH P w K mg base CX0 10 t.f_l_places t.d_l_places ["_law_many", "_law_size_here"] (lift K dz):=by
 have nd:=uH.nd
 refine dY (k:=9) T.F_l_places uH fun cdv A outer s H E hr=>?_
 have hc:=hr.calm (by decide)
 refine aA ?_ ?_
 ·first
  | (with_reducible exact (aM (hs:=by with_unfolding_all rfl) (hf:=by with_unfolding_all first | exact .inl rfl | exact .inr rfl) (i:=2) (by with_unfolding_all exact nd) (by with_unfolding_all rfl) (by with_unfolding_all exact Or.inl rfl) (jM (ak (cB au) au (aj (by with_unfolding_all rfl))))))
  | (exact (aM (i:=2) nd (by rfl) (by exact Or.inl rfl) (jM (ak (cB au) au (aj (by rfl))))))
 refine aA ?_ ?_
 ·exact (cJ PassesOwn.never hc (bV (by rfl) (by exact T.z_range) (ak (dv 1 (pv 1)) au (aj (by rfl))) (fQ (by rfl))) (aU (aR (i:=3) nd (by rfl) (by exact Or.inl rfl))) (aA (aM (i:=4) nd (by rfl) (by exact Or.inl rfl) (tO au))
  (aA (cJ PassesOwn.never hc (bO (dv 2 (pv 2))) (aU (aR (i:=5) nd (by rfl) (by exact Or.inr rfl))) (aA (aM (i:=6) nd (by rfl) (by exact Or.inl rfl) aC)
  (aA (bY (bw (qm (eY hr)) (dv 5 (pv 5)) (cB au) (aQ _)) (aD (aM (i:=6) nd (by rfl) (by exact Or.inl rfl) (bI bW (bG (dv 5 (pv 5)) (d_neg aC) (by intro _ _;rfl)) aC))) aW)
  (aD (mR (yg (dv 4 (pv 4)) (ak (ud [5] hc (aV (by rfl)) dU (dR (aV (by rfl))) (yQ (by rfl) (by exact T.z_range) (ak (dv 6 (pv 6)) (ak (dv 0 (pv 0)) au (aj (by rfl))) (aj (by rfl)))) (fun _ _ _ _=>bR) (fun _ _ _ _=>(bI bW (dv 1 (pv 1)) (cB (ak (dv 0 (pv 0)) au (aj (by rfl))))))) au (aj (by rfl))) (by rfl) (few_1 (by rfl)) (by rfl) (aj (by rfl)) (by rfl)))))))
  (aD (aM (i:=2) nd (by rfl) (by exact Or.inl rfl) (dv 4 (pv 4)))))))
 refine aD ?_
 exact (aL (dv 2 (pv 2)))
theorem vN (T:Txt K mg t):cH P w K mg base CX0 12 t.f_l_parts t.d_l_parts ["_law_spots"] (lift K lG):=by
 have nd:=vJ.nd
 refine dY (k:=11) T.F_l_parts vJ fun cdv A outer s H E hr=>?_
 have hc:=hr.calm (by decide)
 refine aA ?_ ?_
 ·exact (rB (dv 0 (pv 0)) (iG hc (bD (aU (aR (i:=1) nd (by rfl) (by exact Or.inr rfl))) (bD (aU (aR (i:=2) nd (by rfl) (by exact Or.inl rfl))) (bD (aU (aR (i:=3) nd (by rfl) (by exact Or.inl rfl))) (bD (aU (aR (i:=4) nd (by rfl) (by exact Or.inl rfl))) iI))))))
 refine aA ?_ ?_
 ·exact (aM (i:=5) nd (by rfl) (by exact Or.inl rfl) (bG (ud [1] hc (aV (by rfl)) dU (dR (aV (by rfl))) (bO (dv 0 (pv 0))) (fun _ _ _ _=>(nO (bw (qm (eY hr)) (dv 0 (pv 0)) (dv 1 (pv 1)) (aQ _)))) (fun _ _ _ _=>(dv 0 (pv 0)))) aC (by intro _ _;rfl)))
 refine aA ?_ ?_
 ·exact (aM (i:=6) nd (by rfl) (by exact Or.inr rfl) (aF ((wB T).mono (by decide)) hr (by rfl) (by exact T.jc) (by exact T.F_l_cross.kp) (by exact T.b_l_cross) (ak (dv 1 (pv 1)) (ak (dv 5 (pv 5)) au (aj (by rfl))) (aj (by rfl))) (by decide) (aj (by rfl)) (aq (by rfl))))
 refine aA ?_ ?_
 ·first
  | (with_reducible exact (aM (hs:=by with_unfolding_all rfl) (hf:=by with_unfolding_all first | exact .inl rfl | exact .inr rfl) (i:=7) (by with_unfolding_all exact nd) (by with_unfolding_all rfl) (by with_unfolding_all exact Or.inl rfl) (bG (ud (hs:=by with_unfolding_all (intro _;rfl)) [6] (by with_unfolding_all exact hc) (by with_unfolding_all exact aV rfl) dU (dR (by with_unfolding_all exact aV rfl)) (bO (jM (ak (cB (ak aC (ak aC (ak aC au (aj (by with_unfolding_all rfl))) (aj (by with_unfolding_all rfl))) (aj (by with_unfolding_all rfl)))) (ak (cB (ak aC (ak aC (ak aC au (aj (by with_unfolding_all rfl))) (aj (by with_unfolding_all rfl))) (aj (by with_unfolding_all rfl)))) (ak (cB (ak aC (ak aC (ak aC au (aj (by with_unfolding_all rfl))) (aj (by with_unfolding_all rfl))) (aj (by with_unfolding_all rfl)))) au (aj (by with_unfolding_all rfl))) (aj (by with_unfolding_all rfl))) (aj (by with_unfolding_all rfl))))) (fun _ _ _ _=>(nO (bw (qm (by with_unfolding_all exact eY hr)) (aF (k:=11) (by with_unfolding_all exact (rR T).mono (by decide)) (by with_unfolding_all exact hr) (by with_unfolding_all rfl) (by with_unfolding_all exact T.jk) (by with_unfolding_all exact T.F_l_dot.kp) (by with_unfolding_all exact T.b_l_dot) (ak (dv 0 (by with_unfolding_all exact pv 0)) (ak (dv 1 (by with_unfolding_all exact pv 1)) au (aj (by with_unfolding_all rfl))) (aj (by with_unfolding_all rfl))) (by decide) (aj (by with_unfolding_all rfl)) (aq (by with_unfolding_all rfl))) aC (by with_unfolding_all exact aQ _)))) (fun _ _ _ _=>(dv 0 (by with_unfolding_all exact pv 0)))) aC (by with_unfolding_all (intro _ _;rfl)))))
  | (exact (aM (i:=7) nd (by rfl) (by exact Or.inl rfl) (bG (ud [6] hc (aV (by rfl)) dU (dR (aV (by rfl))) (bO (jM (ak (cB (ak aC (ak aC (ak aC au (aj (by rfl))) (aj (by rfl))) (aj (by rfl)))) (ak (cB (ak aC (ak aC (ak aC au (aj (by rfl))) (aj (by rfl))) (aj (by rfl)))) (ak (cB (ak aC (ak aC (ak aC au (aj (by rfl))) (aj (by rfl))) (aj (by rfl)))) au (aj (by rfl))) (aj (by rfl))) (aj (by rfl))))) (fun _ _ _ _=>(nO (bw (qm (eY hr)) (aF ((rR T).mono (by decide)) hr (by rfl) (by exact T.jk) (by exact T.F_l_dot.kp) (by exact T.b_l_dot) (ak (dv 0 (pv 0)) (ak (dv 1 (pv 1)) au (aj (by rfl))) (aj (by rfl))) (by decide) (aj (by rfl)) (aq (by rfl))) aC (aQ _)))) (fun _ _ _ _=>(dv 0 (pv 0)))) aC (by intro _ _;rfl))))
 refine aA ?_ ?_
 ·exact (aM (i:=8) nd (by rfl) (by exact Or.inl rfl) (bI bT (aF ((bN T).mono (by decide)) hr (by rfl) (by exact T.bH) (by exact T.F_l_turn.kp) (by exact T.b_l_turn) (ak (dv 1 (pv 1)) (ak (dv 3 (pv 3)) (ak (dv 7 (pv 7)) au (aj (by rfl))) (aj (by rfl))) (aj (by rfl))) (by decide) (aj (by rfl)) (aq (by rfl))) (aF ((bN T).mono (by decide)) hr (by rfl) (by exact T.bH) (by exact T.F_l_turn.kp) (by exact T.b_l_turn) (ak (dv 2 (pv 2)) (ak (dv 4 (pv 4)) (ak (dv 7 (pv 7)) au (aj (by rfl))) (aj (by rfl))) (aj (by rfl))) (by decide) (aj (by rfl)) (aq (by rfl)))))
 refine aD ?_
 exact (aL (cB (ak (dv 8 (pv 8)) (ak (bI bT (aF ((bN T).mono (by decide)) hr (by rfl) (by exact T.bH) (by exact T.F_l_turn.kp) (by exact T.b_l_turn) (ak (dv 1 (pv 1)) (ak (dv 4 (pv 4)) (ak (dv 7 (pv 7)) au (aj (by rfl))) (aj (by rfl))) (aj (by rfl))) (by decide) (aj (by rfl)) (aq (by rfl))) (aF ((bN T).mono (by decide)) hr (by rfl) (by exact T.bH) (by exact T.F_l_turn.kp) (by exact T.b_l_turn) (ak (dv 2 (pv 2)) (ak (dv 3 (pv 3)) (ak (dv 7 (pv 7)) au (aj (by rfl))) (aj (by rfl))) (aj (by rfl))) (by decide) (aj (by rfl)) (aq (by rfl)))) au (aj (by rfl))) (aj (by rfl)))))
theorem ok_l_lie (T:Txt K mg t):cH P w K mg base CX0 12 t.f_l_lie t.d_l_lie ["_law_spots"] (lift K yG):=by
 have nd:=sc_l_lie.nd
 refine dY (k:=11) T.F_l_lie sc_l_lie fun cdv A outer s H E hr=>?_
 have hc:=hr.calm (by decide)
 refine aA ?_ ?_
 ·exact (cJ PassesOwn.never hc (bV (by rfl) (by exact T.z_range) (ak aC au (aj (by rfl))) (fQ (by rfl))) (aU (aR (i:=1) nd (by rfl) (by exact Or.inl rfl))) (aD (bY (bw (qm (eY hr)) (aF ((bN T).mono (by decide)) hr (by rfl) (by exact T.bH) (by exact T.F_l_turn.kp) (by exact T.b_l_turn) (ak (bG (dv 0 (pv 0)) (bI fj (dv 1 (pv 1)) aC) (by intro _ _;rfl)) (ak (bG (dv 0 (pv 0)) (bI fj (dv 1 (pv 1)) aC) (by intro _ _;rfl)) (ak (bG (dv 0 (pv 0)) (bI fj (dv 1 (pv 1)) aC) (by intro _ _;rfl)) au (aj (by rfl))) (aj (by rfl))) (aj (by rfl))) (by decide) (aj (by rfl)) (aq (by rfl))) aC (aQ _)) (aD (aL d_bl)) aW)))
 refine aD ?_
 exact (aL d_bl)
theorem lU (T:Txt K mg t):cH P w K mg base CX0 12 t.f_l_image t.d_l_image ["_law_four", "_law_spot_here"] (lift K gU):=by
 have nd:=vC.nd
 refine dY (k:=11) T.F_l_image vC fun cdv A outer s H E hr=>?_
 have hc:=hr.calm (by decide)
 refine aA ?_ ?_
 ·exact (rB (dv 0 (pv 0)) (iG hc (bD (aU (aR (i:=2) nd (by rfl) (by exact Or.inl rfl))) (bD (aU (aR (i:=3) nd (by rfl) (by exact Or.inl rfl))) (bD (aU (aR (i:=4) nd (by rfl) (by exact Or.inl rfl))) (bD (aU (aR (i:=5) nd (by rfl) (by exact Or.inl rfl))) iI))))))
 refine aA ?_ ?_
 ·exact (aM (i:=6) nd (by rfl) (by exact Or.inl rfl) (bI bT (bI bT (aF ((bN T).mono (by decide)) hr (by rfl) (by exact T.bH) (by exact T.F_l_turn.kp) (by exact T.b_l_turn) (ak (dv 1 (pv 1)) (ak (dv 3 (pv 3)) (ak (dv 4 (pv 4)) au (aj (by rfl))) (aj (by rfl))) (aj (by rfl))) (by decide) (aj (by rfl)) (aq (by rfl))) (aF ((bN T).mono (by decide)) hr (by rfl) (by exact T.bH) (by exact T.F_l_turn.kp) (by exact T.b_l_turn) (ak (dv 2 (pv 2)) (ak (dv 5 (pv 5)) (ak (dv 4 (pv 4)) au (aj (by rfl))) (aj (by rfl))) (aj (by rfl))) (by decide) (aj (by rfl)) (aq (by rfl)))) (aF ((bN T).mono (by decide)) hr (by rfl) (by exact T.bH) (by exact T.F_l_turn.kp) (by exact T.b_l_turn) (ak (dv 2 (pv 2)) (ak (dv 3 (pv 3)) (ak (dv 5 (pv 5)) au (aj (by rfl))) (aj (by rfl))) (aj (by rfl))) (by decide) (aj (by rfl)) (aq (by rfl)))))
 refine aA ?_ ?_
 ·exact (aM (i:=7) nd (by rfl) (by exact Or.inl rfl) (bI bT (bI bT (aF ((bN T).mono (by decide)) hr (by rfl) (by exact T.bH) (by exact T.F_l_turn.kp) (by exact T.b_l_turn) (ak (dv 2 (pv 2)) (ak (dv 1 (pv 1)) (ak (dv 4 (pv 4)) au (aj (by rfl))) (aj (by rfl))) (aj (by rfl))) (by decide) (aj (by rfl)) (aq (by rfl))) (aF ((bN T).mono (by decide)) hr (by rfl) (by exact T.bH) (by exact T.F_l_turn.kp) (by exact T.b_l_turn) (ak (dv 5 (pv 5)) (ak (dv 3 (pv 3)) (ak (dv 4 (pv 4)) au (aj (by rfl))) (aj (by rfl))) (aj (by rfl))) (by decide) (aj (by rfl)) (aq (by rfl)))) (aF ((bN T).mono (by decide)) hr (by rfl) (by exact T.bH) (by exact T.F_l_turn.kp) (by exact T.b_l_turn) (ak (dv 2 (pv 2)) (ak (dv 3 (pv 3)) (ak (dv 5 (pv 5)) au (aj (by rfl))) (aj (by rfl))) (aj (by rfl))) (by decide) (aj (by rfl)) (aq (by rfl)))))
 refine aD ?_
 exact (aL (aF ((iV T).mono (by decide)) hr (by rfl) (by exact T.cI) (by exact T.F_l_plain.kp) (by exact T.b_l_plain) (ak (cB (ak (dv 6 (pv 6)) (ak (dv 7 (pv 7)) (ak (bI bT (bI bT (aF ((bN T).mono (by decide)) hr (by rfl) (by exact T.bH) (by exact T.F_l_turn.kp) (by exact T.b_l_turn) (ak (dv 2 (pv 2)) (ak (dv 3 (pv 3)) (ak (dv 1 (pv 1)) au (aj (by rfl))) (aj (by rfl))) (aj (by rfl))) (by decide) (aj (by rfl)) (aq (by rfl))) (aF ((bN T).mono (by decide)) hr (by rfl) (by exact T.bH) (by exact T.F_l_turn.kp) (by exact T.b_l_turn) (ak (dv 5 (pv 5)) (ak (dv 3 (pv 3)) (ak (dv 4 (pv 4)) au (aj (by rfl))) (aj (by rfl))) (aj (by rfl))) (by decide) (aj (by rfl)) (aq (by rfl)))) (aF ((bN T).mono (by decide)) hr (by rfl) (by exact T.bH) (by exact T.F_l_turn.kp) (by exact T.b_l_turn) (ak (dv 2 (pv 2)) (ak (dv 5 (pv 5)) (ak (dv 4 (pv 4)) au (aj (by rfl))) (aj (by rfl))) (aj (by rfl))) (by decide) (aj (by rfl)) (aq (by rfl)))) au (aj (by rfl))) (aj (by rfl))) (aj (by rfl)))) au (aj (by rfl))) (by decide) (aj (by rfl)) (aq (by rfl))))
theorem u6 (T:Txt K mg t):cH P w K mg base CX0 12 t.f_l_by_places t.d_l_by_places ["_law_one", "_law_other"] (lift K gq):=by
 have nd:=mH.nd
 refine dY (k:=11) T.F_l_by_places mH fun cdv A outer s H E hr=>?_
 have hc:=hr.calm (by decide)
 refine aA ?_ ?_
 ·exact (cJ PassesOwn.never hc (bO (aF ((jH T).mono (by decide)) hr (by rfl) (by exact T.dz) (by exact T.F_l_places.kp) (by exact T.b_l_places) (ak (bA eU (by rfl) (by exact T.z_len) PySem.boot_len (ak (dv 0 (pv 0)) au (aj (by rfl))) (by decide) (by decide) (aj (by rfl)) (aq (by rfl))) (ak aC au (aj (by rfl))) (aj (by rfl))) (by decide) (aj (by rfl)) (aq (by rfl)))) (aU (aR (i:=2) nd (by rfl) (by exact Or.inl rfl))) (aD (bY (bw (qm (eY hr)) (mj (qW (eY hr)) (bG (dv 0 (pv 0)) (bG (dv 2 (pv 2)) aC (by intro _ _;rfl)) (by intro _ _;rfl)) (bG (dv 0 (pv 0)) (bG (dv 2 (pv 2)) aC (by intro _ _;rfl)) (by intro _ _;rfl)) (aQ _)) (mj (qW (eY hr)) (bG (dv 1 (pv 1)) (bG (dv 2 (pv 2)) aC (by intro _ _;rfl)) (by intro _ _;rfl)) (bG (dv 1 (pv 1)) (bG (dv 2 (pv 2)) aC (by intro _ _;rfl)) (by intro _ _;rfl)) (aQ _)) (aQ _)) (aD (aL (cB (ak lJ (ak (dv 2 (pv 2)) au (aj (by rfl))) (aj (by rfl)))))) aW)))
 refine aA ?_ ?_
 ·first
  | (with_reducible exact (cJ (hs:=by with_unfolding_all (intro _;rfl)) (by with_unfolding_all exact PassesOwn.never) (by with_unfolding_all exact hc) (bO (aF (k:=11) (by with_unfolding_all exact (jH T).mono (by decide)) (by with_unfolding_all exact hr) (by with_unfolding_all rfl) (by with_unfolding_all exact T.dz) (by with_unfolding_all exact T.F_l_places.kp) (by with_unfolding_all exact T.b_l_places) (ak (bA eU (by with_unfolding_all rfl) (by with_unfolding_all exact T.z_len) PySem.boot_len (ak (dv 0 (by with_unfolding_all exact pv 0)) au (aj (by with_unfolding_all rfl))) (by decide) (by decide) (aj (by with_unfolding_all rfl)) (aq (by with_unfolding_all rfl))) (ak aC au (aj (by with_unfolding_all rfl))) (aj (by with_unfolding_all rfl))) (by decide) (aj (by with_unfolding_all rfl)) (aq (by with_unfolding_all rfl)))) (iG (hn:=by with_unfolding_all rfl) (hst:=by with_unfolding_all rfl) (by with_unfolding_all exact hc) (bD (hs:=by with_unfolding_all rfl) (aU (aR (i:=3) (by with_unfolding_all exact nd) (by with_unfolding_all rfl) (by with_unfolding_all exact Or.inl rfl))) (bD (hs:=by with_unfolding_all rfl) (aU (aR (i:=4) (by with_unfolding_all exact nd) (by with_unfolding_all rfl) (by with_unfolding_all exact Or.inl rfl))) (bD (hs:=by with_unfolding_all rfl) (aU (aR (i:=5) (by with_unfolding_all exact nd) (by with_unfolding_all rfl) (by with_unfolding_all exact Or.inl rfl))) iI)))) (aD (bY (bw (qm (by with_unfolding_all exact eY hr)) (mj (qW (by with_unfolding_all exact eY hr)) (aF (k:=11) (by with_unfolding_all exact (bN T).mono (by decide)) (by with_unfolding_all exact hr) (by with_unfolding_all rfl) (by with_unfolding_all exact T.bH) (by with_unfolding_all exact T.F_l_turn.kp) (by with_unfolding_all exact T.b_l_turn) (ak (bG (dv 0 (by with_unfolding_all exact pv 0)) (dv 3 (by with_unfolding_all exact pv 3)) (by with_unfolding_all (intro _ _;rfl))) (ak (bG (dv 0 (by with_unfolding_all exact pv 0)) (dv 4 (by with_unfolding_all exact pv 4)) (by with_unfolding_all (intro _ _;rfl))) (ak (bG (dv 0 (by with_unfolding_all exact pv 0)) (dv 5 (by with_unfolding_all exact pv 5)) (by with_unfolding_all (intro _ _;rfl))) au (aj (by with_unfolding_all rfl))) (aj (by with_unfolding_all rfl))) (aj (by with_unfolding_all rfl))) (by decide) (aj (by with_unfolding_all rfl)) (aq (by with_unfolding_all rfl))) aC (by with_unfolding_all exact aQ _)) (mj (qW (by with_unfolding_all exact eY hr)) (aF (k:=11) (by with_unfolding_all exact (bN T).mono (by decide)) (by with_unfolding_all exact hr) (by with_unfolding_all rfl) (by with_unfolding_all exact T.bH) (by with_unfolding_all exact T.F_l_turn.kp) (by with_unfolding_all exact T.b_l_turn) (ak (bG (dv 1 (by with_unfolding_all exact pv 1)) (dv 3 (by with_unfolding_all exact pv 3)) (by with_unfolding_all (intro _ _;rfl))) (ak (bG (dv 1 (by with_unfolding_all exact pv 1)) (dv 4 (by with_unfolding_all exact pv 4)) (by with_unfolding_all (intro _ _;rfl))) (ak (bG (dv 1 (by with_unfolding_all exact pv 1)) (dv 5 (by with_unfolding_all exact pv 5)) (by with_unfolding_all (intro _ _;rfl))) au (aj (by with_unfolding_all rfl))) (aj (by with_unfolding_all rfl))) (aj (by with_unfolding_all rfl))) (by decide) (aj (by with_unfolding_all rfl)) (aq (by with_unfolding_all rfl))) aC (by with_unfolding_all exact aQ _)) (by with_unfolding_all exact aQ _)) (aD (aL (cB (ak lJ (ak (cB (ak (dv 3 (by with_unfolding_all exact pv 3)) (ak (dv 4 (by with_unfolding_all exact pv 4)) (ak (dv 5 (by with_unfolding_all exact pv 5)) au (aj (by with_unfolding_all rfl))) (aj (by with_unfolding_all rfl))) (aj (by with_unfolding_all rfl)))) au (aj (by with_unfolding_all rfl))) (aj (by with_unfolding_all rfl)))))) aW))))
  | (exact (cJ PassesOwn.never hc (bO (aF ((jH T).mono (by decide)) hr (by rfl) (by exact T.dz) (by exact T.F_l_places.kp) (by exact T.b_l_places) (ak (bA eU (by rfl) (by exact T.z_len) PySem.boot_len (ak (dv 0 (pv 0)) au (aj (by rfl))) (by decide) (by decide) (aj (by rfl)) (aq (by rfl))) (ak aC au (aj (by rfl))) (aj (by rfl))) (by decide) (aj (by rfl)) (aq (by rfl)))) (iG hc (bD (aU (aR (i:=3) nd (by rfl) (by exact Or.inl rfl))) (bD (aU (aR (i:=4) nd (by rfl) (by exact Or.inl rfl))) (bD (aU (aR (i:=5) nd (by rfl) (by exact Or.inl rfl))) iI)))) (aD (bY (bw (qm (eY hr)) (mj (qW (eY hr)) (aF ((bN T).mono (by decide)) hr (by rfl) (by exact T.bH) (by exact T.F_l_turn.kp) (by exact T.b_l_turn) (ak (bG (dv 0 (pv 0)) (dv 3 (pv 3)) (by intro _ _;rfl)) (ak (bG (dv 0 (pv 0)) (dv 4 (pv 4)) (by intro _ _;rfl)) (ak (bG (dv 0 (pv 0)) (dv 5 (pv 5)) (by intro _ _;rfl)) au (aj (by rfl))) (aj (by rfl))) (aj (by rfl))) (by decide) (aj (by rfl)) (aq (by rfl))) aC (aQ _)) (mj (qW (eY hr)) (aF ((bN T).mono (by decide)) hr (by rfl) (by exact T.bH) (by exact T.F_l_turn.kp) (by exact T.b_l_turn) (ak (bG (dv 1 (pv 1)) (dv 3 (pv 3)) (by intro _ _;rfl)) (ak (bG (dv 1 (pv 1)) (dv 4 (pv 4)) (by intro _ _;rfl)) (ak (bG (dv 1 (pv 1)) (dv 5 (pv 5)) (by intro _ _;rfl)) au (aj (by rfl))) (aj (by rfl))) (aj (by rfl))) (by decide) (aj (by rfl)) (aq (by rfl))) aC (aQ _)) (aQ _)) (aD (aL (cB (ak lJ (ak (cB (ak (dv 3 (pv 3)) (ak (dv 4 (pv 4)) (ak (dv 5 (pv 5)) au (aj (by rfl))) (aj (by rfl))) (aj (by rfl)))) au (aj (by rfl))) (aj (by rfl)))))) aW))))
 refine aD ?_
 exact (aL nA)
theorem ok_l_by_four (T:Txt K mg t):cH P w K mg base CX0 13 t.f_l_by_four t.d_l_by_four ["_law_one", "_law_other"] (lift K jg):=by
 have nd:=qZ.nd
 refine dY (k:=12) T.F_l_by_four qZ fun cdv A outer s H E hr=>?_
 have hc:=hr.calm (by decide)
 refine aA ?_ ?_
 ·exact (aM (i:=2) nd (by rfl) (by exact Or.inl rfl) (aF ((jH T).mono (by decide)) hr (by rfl) (by exact T.dz) (by exact T.F_l_places.kp) (by exact T.b_l_places) (ak (bA eU (by rfl) (by exact T.z_len) PySem.boot_len (ak (dv 0 (pv 0)) au (aj (by rfl))) (by decide) (by decide) (aj (by rfl)) (aq (by rfl))) (ak aC au (aj (by rfl))) (aj (by rfl))) (by decide) (aj (by rfl)) (aq (by rfl))))
 refine aA ?_ ?_
 ·exact (cJ PassesOwn.never hc (bO (dv 2 (pv 2))) (aU (aR (i:=3) nd (by rfl) (by exact Or.inl rfl))) (aA (aM (i:=4) nd (by rfl) (by exact Or.inr rfl) (ud [0] hc (aV (by rfl)) dU (dR (aV (by rfl))) (bO (dv 3 (pv 3))) (fun _ _ _ _=>bR) (fun _ _ _ _=>(bG (dv 1 (pv 1)) (dv 0 (pv 0)) (by intro _ _;rfl)))))
  (aD (bY (Aj (lA (aF ((ok_l_lie T).mono (by decide)) hr (by rfl) (by exact T.yG) (by exact T.F_l_lie.kp) (by exact T.b_l_lie) (ak (dv 4 (pv 4)) au (aj (by rfl))) (by decide) (aj (by rfl)) (aq (by rfl)))) (yu (bw o_lt (bA (c_maxA hc) (by rfl) (by exact T.z_max) boot_max (ak (ud [4] hc (aV (by rfl)) dU (dR (aV (by rfl))) (bO (dv 4 (pv 4))) (fun _ _ _ _=>bR) (fun _ _ _ _=>(d_count (eY hr) (dv 1 (pv 1)) (ak (dv 0 (pv 0)) au (aj (by rfl))) (by rfl) (few_1 (by rfl)) (by rfl) (aj (by rfl)) (by rfl)))) au (aj (by rfl))) (by decide) (by decide) (aj (by rfl)) (aq (by rfl))) aC (aQ _)))).pt (aA (aM (i:=5) nd (by rfl) (by exact Or.inl rfl) (aF ((vN T).mono (by decide)) hr (by rfl) (by exact T.lG) (by exact T.F_l_parts.kp) (by exact T.b_l_parts) (ak (dv 4 (pv 4)) au (aj (by rfl))) (by decide) (aj (by rfl)) (aq (by rfl))))
  (aA (aM (i:=6) nd (by rfl) (by exact Or.inl rfl) (aF ((vN T).mono (by decide)) hr (by rfl) (by exact T.lG) (by exact T.F_l_parts.kp) (by exact T.b_l_parts) (ak (ud [1] hc (aV (by rfl)) dU (dR (aV (by rfl))) (bO (dv 3 (pv 3))) (fun _ _ _ _=>bR) (fun _ _ _ _=>(bG (dv 1 (pv 1)) (dv 0 (pv 0)) (by intro _ _;rfl)))) au (aj (by rfl))) (by decide) (aj (by rfl)) (aq (by rfl))))
  (aD (bY (bw (qm (eY hr)) (bI bT (bG (dv 5 (pv 5)) aC (by intro _ _;rfl)) (bG (dv 6 (pv 6)) aC (by intro _ _;rfl))) (bI bT (bG (dv 5 (pv 5)) aC (by intro _ _;rfl)) (bG (dv 6 (pv 6)) aC (by intro _ _;rfl))) (aQ _)) (aD (aL (cB (ak lJ (ak (dv 3 (pv 3)) au (aj (by rfl))) (aj (by rfl)))))) aW)))) aW))))
 refine aA ?_ ?_
 ·first
  | (with_reducible exact (cJ (hs:=by with_unfolding_all (intro _;rfl)) (by with_unfolding_all exact PassesOwn.never) (by with_unfolding_all exact hc) (bO (dv 2 (by with_unfolding_all exact pv 2))) (aU (aR (i:=3) (by with_unfolding_all exact nd) (by with_unfolding_all rfl) (by with_unfolding_all exact Or.inl rfl))) (aD (bY (lA (h:=by with_unfolding_all (intro _;rfl)) (aF (k:=12) (by with_unfolding_all exact (Al T).mono (by decide)) (by with_unfolding_all exact hr) (by with_unfolding_all rfl) (by with_unfolding_all exact T.oA) (by with_unfolding_all exact T.F_l_free.kp) (by with_unfolding_all exact T.b_l_free) (ak (ud (hs:=by with_unfolding_all (intro _;rfl)) [0] (by with_unfolding_all exact hc) (by with_unfolding_all exact aV rfl) dU (dR (by with_unfolding_all exact aV rfl)) (bO (dv 3 (by with_unfolding_all exact pv 3))) (fun _ _ _ _=>bR) (fun _ _ _ _=>(bG (dv 1 (by with_unfolding_all exact pv 1)) (dv 0 (by with_unfolding_all exact pv 0)) (by with_unfolding_all (intro _ _;rfl))))) au (aj (by with_unfolding_all rfl))) (by decide) (aj (by with_unfolding_all rfl)) (aq (by with_unfolding_all rfl)))) (aA (vf (hsw:=by with_unfolding_all rfl) (hf:=by with_unfolding_all first | exact .inl rfl | exact .inr rfl) (hs:=by with_unfolding_all (intro _;rfl)) [0] (i:=5) (by with_unfolding_all exact nd) (by with_unfolding_all rfl) (by with_unfolding_all exact Or.inl rfl) (by with_unfolding_all exact hc) (by with_unfolding_all exact aV rfl) dU (dR (by with_unfolding_all exact aV rfl)) (bO (dv 3 (by with_unfolding_all exact pv 3))) (fun _ _ _ _=>bR) (fun _ _ _ _=>(bG (dv 1 (by with_unfolding_all exact pv 1)) (dv 0 (by with_unfolding_all exact pv 0)) (by with_unfolding_all (intro _ _;rfl)))))
  (aA (vf (hsw:=by with_unfolding_all rfl) (hf:=by with_unfolding_all first | exact .inl rfl | exact .inr rfl) (hs:=by with_unfolding_all (intro _;rfl)) [1] (i:=6) (by with_unfolding_all exact nd) (by with_unfolding_all rfl) (by with_unfolding_all exact Or.inl rfl) (by with_unfolding_all exact hc) (by with_unfolding_all exact aV rfl) dU (dR (by with_unfolding_all exact aV rfl)) (bO (dv 3 (by with_unfolding_all exact pv 3))) (fun _ _ _ _=>bR) (fun _ _ _ _=>(bG (dv 1 (by with_unfolding_all exact pv 1)) (dv 0 (by with_unfolding_all exact pv 0)) (by with_unfolding_all (intro _ _;rfl)))))
  (aA (cJ (hs:=by with_unfolding_all (intro _;rfl)) (by with_unfolding_all exact PassesOwn.never) (by with_unfolding_all exact hc) (bV (by with_unfolding_all rfl) (by with_unfolding_all exact T.z_range) (ak (bA eU (by with_unfolding_all rfl) (by with_unfolding_all exact T.z_len) PySem.boot_len (ak (dv 0 (by with_unfolding_all exact pv 0)) au (aj (by with_unfolding_all rfl))) (by decide) (by decide) (aj (by with_unfolding_all rfl)) (aq (by with_unfolding_all rfl))) au (aj (by with_unfolding_all rfl))) (fQ (by with_unfolding_all rfl))) (aU (aR (i:=7) (by with_unfolding_all exact nd) (by with_unfolding_all rfl) (by with_unfolding_all exact Or.inl rfl))) (aD (bY (bw (qm (by with_unfolding_all exact eY hr)) (aF (k:=12) (by with_unfolding_all exact (lU T).mono (by decide)) (by with_unfolding_all exact hr) (by with_unfolding_all rfl) (by with_unfolding_all exact T.gU) (by with_unfolding_all exact T.F_l_image.kp) (by with_unfolding_all exact T.b_l_image) (ak (dv 5 (by with_unfolding_all exact pv 5)) (ak (bG (dv 0 (by with_unfolding_all exact pv 0)) (dv 7 (by with_unfolding_all exact pv 7)) (by with_unfolding_all (intro _ _;rfl))) au (aj (by with_unfolding_all rfl))) (aj (by with_unfolding_all rfl))) (by decide) (aj (by with_unfolding_all rfl)) (aq (by with_unfolding_all rfl))) (aF (k:=12) (by with_unfolding_all exact (lU T).mono (by decide)) (by with_unfolding_all exact hr) (by with_unfolding_all rfl) (by with_unfolding_all exact T.gU) (by with_unfolding_all exact T.F_l_image.kp) (by with_unfolding_all exact T.b_l_image) (ak (dv 6 (by with_unfolding_all exact pv 6)) (ak (bG (dv 1 (by with_unfolding_all exact pv 1)) (dv 7 (by with_unfolding_all exact pv 7)) (by with_unfolding_all (intro _ _;rfl))) au (aj (by with_unfolding_all rfl))) (aj (by with_unfolding_all rfl))) (by decide) (aj (by with_unfolding_all rfl)) (aq (by with_unfolding_all rfl))) (by with_unfolding_all exact aQ _)) (aD (aL (cB (ak lJ (ak (bI bW (dv 3 (by with_unfolding_all exact pv 3)) (cB (ak (dv 7 (by with_unfolding_all exact pv 7)) au (aj (by with_unfolding_all rfl))))) au (aj (by with_unfolding_all rfl))) (aj (by with_unfolding_all rfl)))))) aW)))
  (aD (aL nA))))) aW))))
  | (exact (cJ PassesOwn.never hc (bO (dv 2 (pv 2))) (aU (aR (i:=3) nd (by rfl) (by exact Or.inl rfl))) (aD (bY (lA (aF ((Al T).mono (by decide)) hr (by rfl) (by exact T.oA) (by exact T.F_l_free.kp) (by exact T.b_l_free) (ak (ud [0] hc (aV (by rfl)) dU (dR (aV (by rfl))) (bO (dv 3 (pv 3))) (fun _ _ _ _=>bR) (fun _ _ _ _=>(bG (dv 1 (pv 1)) (dv 0 (pv 0)) (by intro _ _;rfl)))) au (aj (by rfl))) (by decide) (aj (by rfl)) (aq (by rfl)))) (aA (vf [0] (i:=5) nd (by rfl) (by exact Or.inl rfl) hc (aV (by rfl)) dU (dR (aV (by rfl))) (bO (dv 3 (pv 3))) (fun _ _ _ _=>bR) (fun _ _ _ _=>(bG (dv 1 (pv 1)) (dv 0 (pv 0)) (by intro _ _;rfl))))
  (aA (vf [1] (i:=6) nd (by rfl) (by exact Or.inl rfl) hc (aV (by rfl)) dU (dR (aV (by rfl))) (bO (dv 3 (pv 3))) (fun _ _ _ _=>bR) (fun _ _ _ _=>(bG (dv 1 (pv 1)) (dv 0 (pv 0)) (by intro _ _;rfl))))
  (aA (cJ PassesOwn.never hc (bV (by rfl) (by exact T.z_range) (ak (bA eU (by rfl) (by exact T.z_len) PySem.boot_len (ak (dv 0 (pv 0)) au (aj (by rfl))) (by decide) (by decide) (aj (by rfl)) (aq (by rfl))) au (aj (by rfl))) (fQ (by rfl))) (aU (aR (i:=7) nd (by rfl) (by exact Or.inl rfl))) (aD (bY (bw (qm (eY hr)) (aF ((lU T).mono (by decide)) hr (by rfl) (by exact T.gU) (by exact T.F_l_image.kp) (by exact T.b_l_image) (ak (dv 5 (pv 5)) (ak (bG (dv 0 (pv 0)) (dv 7 (pv 7)) (by intro _ _;rfl)) au (aj (by rfl))) (aj (by rfl))) (by decide) (aj (by rfl)) (aq (by rfl))) (aF ((lU T).mono (by decide)) hr (by rfl) (by exact T.gU) (by exact T.F_l_image.kp) (by exact T.b_l_image) (ak (dv 6 (pv 6)) (ak (bG (dv 1 (pv 1)) (dv 7 (pv 7)) (by intro _ _;rfl)) au (aj (by rfl))) (aj (by rfl))) (by decide) (aj (by rfl)) (aq (by rfl))) (aQ _)) (aD (aL (cB (ak lJ (ak (bI bW (dv 3 (pv 3)) (cB (ak (dv 7 (pv 7)) au (aj (by rfl))))) au (aj (by rfl))) (aj (by rfl)))))) aW)))
  (aD (aL nA))))) aW))))
 refine aD ?_
 exact (aL nA)
theorem ok_l_due (T:Txt K mg t):cH P w K mg base CX0 14 t.f_l_due t.d_l_due ["_law_one", "_law_other"] (lift K tR):=by
 have nd:=sc_l_due.nd
 refine dY (k:=13) T.F_l_due sc_l_due fun cdv A outer s H E hr=>?_
 have hc:=hr.calm (by decide)
 refine aA ?_ ?_
 ·first
  | (with_reducible exact (bY (bw (qm (by with_unfolding_all exact eY hr)) (bA eU (by with_unfolding_all rfl) (by with_unfolding_all exact T.z_len) PySem.boot_len (ak (dv 0 (by with_unfolding_all exact pv 0)) au (aj (by with_unfolding_all rfl))) (by decide) (by decide) (aj (by with_unfolding_all rfl)) (aq (by with_unfolding_all rfl))) (bA eU (by with_unfolding_all rfl) (by with_unfolding_all exact T.z_len) PySem.boot_len (ak (dv 1 (by with_unfolding_all exact pv 1)) au (aj (by with_unfolding_all rfl))) (by decide) (by decide) (aj (by with_unfolding_all rfl)) (aq (by with_unfolding_all rfl))) (by with_unfolding_all exact aQ _)) (aD (aL (cB (ak lJ (ak (cB au) au (aj (by with_unfolding_all rfl))) (aj (by with_unfolding_all rfl)))))) aW))
  | (exact (bY (bw (qm (eY hr)) (bA eU (by rfl) (by exact T.z_len) PySem.boot_len (ak (dv 0 (pv 0)) au (aj (by rfl))) (by decide) (by decide) (aj (by rfl)) (aq (by rfl))) (bA eU (by rfl) (by exact T.z_len) PySem.boot_len (ak (dv 1 (pv 1)) au (aj (by rfl))) (by decide) (by decide) (aj (by rfl)) (aq (by rfl))) (aQ _)) (aD (aL (cB (ak lJ (ak (cB au) au (aj (by rfl))) (aj (by rfl)))))) aW))
 refine aA ?_ ?_
 ·exact (aM (i:=2) nd (by rfl) (by exact Or.inl rfl) (aF ((u6 T).mono (by decide)) hr (by rfl) (by exact T.gq) (by exact T.F_l_by_places.kp) (by exact T.b_l_by_places) (ak (dv 0 (pv 0)) (ak (dv 1 (pv 1)) au (aj (by rfl))) (aj (by rfl))) (by decide) (aj (by rfl)) (aq (by rfl))))
 refine aA ?_ ?_
 ·exact (bY (bw o_is (dv 2 (pv 2)) nA (aQ _)) (aD (aM (i:=2) nd (by rfl) (by exact Or.inl rfl) (aF ((ok_l_by_four T).mono (by decide)) hr (by rfl) (by exact T.jg) (by exact T.F_l_by_four.kp) (by exact T.b_l_by_four) (ak (dv 0 (pv 0)) (ak (dv 1 (pv 1)) au (aj (by rfl))) (aj (by rfl))) (by decide) (aj (by rfl)) (aq (by rfl))))) aW)
 refine aD ?_
 exact (aL (dv 2 (pv 2)))
theorem ok_law (T:Txt K mg t):cH P w K mg base CX0 18 t.f_law t.d_law ["_law_script"] (lift K (m_law t.f_twos_differ t.f_threes_differ t.f_throws_differ)):=by
 have nd:=sc_law.nd
 refine dY (k:=17) T.F_law sc_law fun cdv A outer s H E hr=>?_
 have hc:=hr.calm (by decide)
 refine aA ?_ ?_
 ·exact (rB (aF ((ok_l_two T).mono (by decide)) hr (by rfl) (by exact T.uF) (by exact T.F_l_two.kp) (by exact T.b_l_two) (ak (dv 0 (pv 0)) (ak (bG (jM (ak aC (ak aC (ak aC (ak aC (ak aC (ak aC (ak aC (ak aC au (aj (by rfl))) (aj (by rfl))) (aj (by rfl))) (aj (by rfl))) (aj (by rfl))) (aj (by rfl))) (aj (by rfl))) (aj (by rfl)))) (aF ((bL T).mono (by decide)) hr (by rfl) (by exact T.bx) (by exact T.F_l_digit.kp) (by exact T.b_l_digit) (ak (aF ((pH T).mono (by decide)) hr (by rfl) (by exact T.gj) (by exact T.F_l_rest.kp) (by exact T.b_l_rest) (ak (dv 0 (pv 0)) (ak aC au (aj (by rfl))) (aj (by rfl))) (by decide) (aj (by rfl)) (aq (by rfl))) (ak aC au (aj (by rfl))) (aj (by rfl))) (by decide) (aj (by rfl)) (aq (by rfl))) (by intro _ _;rfl)) au (aj (by rfl))) (aj (by rfl))) (by decide) (aj (by rfl)) (aq (by rfl))) (iG hc (bD (aU (aR (i:=1) nd (by rfl) (by exact Or.inl rfl))) (bD (aU (aR (i:=2) nd (by rfl) (by exact Or.inl rfl))) iI))))
 refine aA ?_ ?_
 ·exact (aM (i:=3) nd (by rfl) (by exact Or.inl rfl) (jM (ak (lK c_list (by rfl) (by exact T.z_list) boot_list (ak (dv 1 (pv 1)) au (aj (by rfl))) (by decide) (by decide) (aj (by rfl)) (aq (by rfl))) (ak (lK c_list (by rfl) (by exact T.z_list) boot_list (ak (dv 2 (pv 2)) au (aj (by rfl))) (by decide) (by decide) (aj (by rfl)) (aq (by rfl))) au (aj (by rfl))) (aj (by rfl)))))
 refine aA ?_ ?_
 ·exact (aM (i:=4) nd (by rfl) (by exact Or.inl rfl) (aF ((ok_l_due T).mono (by decide)) hr (by rfl) (by exact T.tR) (by exact T.F_l_due.kp) (by exact T.b_l_due) (ak (dv 1 (pv 1)) (ak (dv 2 (pv 2)) au (aj (by rfl))) (aj (by rfl))) (by decide) (aj (by rfl)) (aq (by rfl))))
 refine aA ?_ ?_
 ·exact (aM (i:=5) nd (by rfl) (by exact Or.inl rfl) (aF ((ok_apart T).mono (by decide)) hr (by rfl) (by exact T.qw) (by exact T.F_apart.kp) (by exact T.b_apart) (ak (bG (dv 3 (pv 3)) aC (by intro _ _;rfl)) (ak (bG (dv 3 (pv 3)) aC (by intro _ _;rfl)) au (aj (by rfl))) (aj (by rfl))) (by decide) (aj (by rfl)) (aq (by rfl))))
 refine aA ?_ ?_
 ·exact (bY (dw_or (bw (qm (eY hr)) (dv 5 (pv 5)) (dv 4 (pv 4)) (aQ _)) (dw_or (bw (o_ne3 (eY hr)) (dv 3 (pv 3)) (jM (ak (dv 1 (pv 1)) (ak (dv 2 (pv 2)) au (aj (by rfl))) (aj (by rfl)))) (aQ _)) (vD (bw (qm (eY hr)) (aF ((ok_apart T).mono (by decide)) hr (by rfl) (by exact T.qw) (by exact T.F_apart.kp) (by exact T.b_apart) (ak (bG (dv 3 (pv 3)) aC (by intro _ _;rfl)) (ak (bG (dv 3 (pv 3)) aC (by intro _ _;rfl)) au (aj (by rfl))) (aj (by rfl))) (by decide) (aj (by rfl)) (aq (by rfl))) (dv 4 (pv 4)) (aQ _))))).pt (aD (aL d_bl)) aW)
 refine aD ?_
 exact (aL (d_or (mj o_is (dv 4 (pv 4)) nA (aQ _)) (d_one (d_and (bA c_isi (by rfl) (by exact T.z_isinstance) boot_isinstance (ak (dv 5 (pv 5)) (ak (dc (pe_bltn (v:=.ty "tuple") (by rfl) (by exact T.z_tuple) boot_tuple (by rfl)) (fun _ _=>by rw [Rep])) au (aj (by rfl))) (aj (by rfl))) (by decide) (by decide) (aj (by rfl)) (aq (by rfl))) (d_and (bA c_isiS (by rfl) (by exact T.z_isinstance) boot_isinstance (ak (bG (dv 5 (pv 5)) aC (by intro _ _;rfl)) (ak (dc (pe_bltn (v:=.ty "str") (by rfl) (by exact T.z_str) boot_str (by rfl)) (fun _ _=>by rw [Rep])) au (aj (by rfl))) (aj (by rfl))) (by decide) (by decide) (aj (by rfl)) (aq (by rfl))) (d_one (bA c_isi (by rfl) (by exact T.z_isinstance) boot_isinstance (ak (bG (dv 5 (pv 5)) aC (by intro _ _;rfl)) (ak (dc (pe_bltn (v:=.ty "tuple") (by rfl) (by exact T.z_tuple) boot_tuple (by rfl)) (fun _ _=>by rw [Rep])) au (aj (by rfl))) (aj (by rfl))) (by decide) (by decide) (aj (by rfl)) (aq (by rfl)))))))))
end
def fO (x:Str)(s:Stmt)(oc:Value)(od:Option Addr)(kV dc pm:Value)(an:Option Addr)(cd ct:Value)(sl:Array (Option Value)):Option Obj:=some ⟨oc,od,.func (PySem.W.fnOf x x (uh s) (nC s) (aG s) .none kV dc pm an cd ct),sl⟩
def sR (f:Addr):Option (Option Value):=some (some (.ref f))
open PySem.W (nsIn codeIn keepIn) in
theorem all_mk {l:PySem.W.OpenLaw}{w:World}{K:PySem.W.Frag}{h:Heap}{mg:Str→Option Value}{fa:Addr}(hlaw:∀ (F_twos_differ F_threes_differ F_throws_differ:Addr),∀ ns:List Int,ns.length≤63→m_law F_twos_differ F_threes_differ F_throws_differ [.kls (ns.map W.int)] g0 (fun w _=>w=.bl true) EF)(X:K.In h)(G:h.Ns mainGlobals mg)(hfa:mg "law" = some (.ref fa))
  {f0 f1 f2 f3 f4 f5 f6 f7 f8 f9 f10 f11 f12 f13 f14 f15 f16 f17 f18 f19 f20 f21 f22 f23 f24 f25 f26 f27 f28 f29 f30 f31 f32 f33 f34 f35 f36 f37 f38 f39 f40 f41 f42 f43 f44 f45 f46 f47 f48 f49 f50 f51 f52 f53 f54 f55 f56 f57 f58 f59 f60 f61 f62:Addr} {od0 an0 od1 an1 od2 an2 od3 an3 od4 an4 od5 an5 od6 an6 od7 an7 od8 an8 od9 an9 od10 an10 od11 an11 od12 an12 od13 an13 od14 an14 od15 an15 od16 an16 od17 an17 od18 an18 od19 an19 od20 an20 od21 an21 od22 an22 od23 an23 od24 an24 od25 an25 od26 an26 od27 an27 od28 an28 od29 an29 od30 an30 od31 an31 od32 an32 od33 an33 od34 an34 od35 an35 od36 an36 od37 an37 od38 an38 od39 an39 od40 an40 od41 an41 od42 an42 od43 an43 od44 an44 od45 an45 od46 an46 od47 an47 od48 an48 od49 an49 od50 an50 od51 an51 od52 an52 od53 an53 od54 an54 od55 an55 od56 an56 od57 an57 od58 an58 od59 an59 od60 an60 od61 an61 od62 an62:Option Addr} {sl0 sl1 sl2 sl3 sl4 sl5 sl6 sl7 sl8 sl9 sl10 sl11 sl12 sl13 sl14 sl15 sl16 sl17 sl18 sl19 sl20 sl21 sl22 sl23 sl24 sl25 sl26 sl27 sl28 sl29 sl30 sl31 sl32 sl33 sl34 sl35 sl36 sl37 sl38 sl39 sl40 sl41 sl42 sl43 sl44 sl45 sl46 sl47 sl48 sl49 sl50 sl51 sl52 sl53 sl54 sl55 sl56 sl57 sl58 sl59 sl60 sl61 sl62:Array (Option Value)} {oc0 kV0 dc0 pm0 cd0 ct0 oc1 kV1 dc1 pm1 cd1 ct1 oc2 kV2 dc2 pm2 cd2 ct2 oc3 kV3 dc3 pm3 cd3 ct3 oc4 kV4 dc4 pm4 cd4 ct4 oc5 kV5 dc5 pm5 cd5 ct5 oc6 kV6 dc6 pm6 cd6 ct6 oc7 kV7 dc7 pm7 cd7 ct7 oc8 kV8 dc8 pm8 cd8 ct8 oc9 kV9 dc9 pm9 cd9 ct9 oc10 kV10 dc10 pm10 cd10 ct10 oc11 kV11 dc11 pm11 cd11 ct11 oc12 kV12 dc12 pm12 cd12 ct12 oc13 kV13 dc13 pm13 cd13 ct13 oc14 kV14 dc14 pm14 cd14 ct14 oc15 kV15 dc15 pm15 cd15 ct15 oc16 kV16 dc16 pm16 cd16 ct16 oc17 kV17 dc17 pm17 cd17 ct17 oc18 kV18 dc18 pm18 cd18 ct18 oc19 kV19 dc19 pm19 cd19 ct19 oc20 kV20 dc20 pm20 cd20 ct20 oc21 kV21 dc21 pm21 cd21 ct21 oc22 kV22 dc22 pm22 cd22 ct22 oc23 kV23 dc23 pm23 cd23 ct23 oc24 kV24 dc24 pm24 cd24 ct24 oc25 kV25 dc25 pm25 cd25 ct25 oc26 kV26 dc26 pm26 cd26 ct26 oc27 kV27 dc27 pm27 cd27 ct27 oc28 kV28 dc28 pm28 cd28 ct28 oc29 kV29 dc29 pm29 cd29 ct29 oc30 kV30 dc30 pm30 cd30 ct30 oc31 kV31 dc31 pm31 cd31 ct31 oc32 kV32 dc32 pm32 cd32 ct32 oc33 kV33 dc33 pm33 cd33 ct33 oc34 kV34 dc34 pm34 cd34 ct34 oc35 kV35 dc35 pm35 cd35 ct35 oc36 kV36 dc36 pm36 cd36 ct36 oc37 kV37 dc37 pm37 cd37 ct37 oc38 kV38 dc38 pm38 cd38 ct38 oc39 kV39 dc39 pm39 cd39 ct39 oc40 kV40 dc40 pm40 cd40 ct40 oc41 kV41 dc41 pm41 cd41 ct41 oc42 kV42 dc42 pm42 cd42 ct42 oc43 kV43 dc43 pm43 cd43 ct43 oc44 kV44 dc44 pm44 cd44 ct44 oc45 kV45 dc45 pm45 cd45 ct45 oc46 kV46 dc46 pm46 cd46 ct46 oc47 kV47 dc47 pm47 cd47 ct47 oc48 kV48 dc48 pm48 cd48 ct48 oc49 kV49 dc49 pm49 cd49 ct49 oc50 kV50 dc50 pm50 cd50 ct50 oc51 kV51 dc51 pm51 cd51 ct51 oc52 kV52 dc52 pm52 cd52 ct52 oc53 kV53 dc53 pm53 cd53 ct53 oc54 kV54 dc54 pm54 cd54 ct54 oc55 kV55 dc55 pm55 cd55 ct55 oc56 kV56 dc56 pm56 cd56 ct56 oc57 kV57 dc57 pm57 cd57 ct57 oc58 kV58 dc58 pm58 cd58 ct58 oc59 kV59 dc59 pm59 cd59 ct59 oc60 kV60 dc60 pm60 cd60 ct60 oc61 kV61 dc61 pm61 cd61 ct61 oc62 kV62 dc62 pm62 cd62 ct62:Value}
  {qJ:Addr} {odk_TILES:Option Addr} {slk_TILES:Array (Option Value)} {nk_TILES:Nat} {k_TILES_0:Addr} {odk_TILES_0:Option Addr} {slk_TILES_0:Array (Option Value)} {nk_TILES_0:Nat} {t_TILES_0_0:_} {t_TILES_0_1:_} {t_TILES_0_2:_} {k_TILES_1:Addr} {odk_TILES_1:Option Addr} {slk_TILES_1:Array (Option Value)} {nk_TILES_1:Nat} {t_TILES_1_0:_} {t_TILES_1_1:_} {t_TILES_1_2:_} {k_TILES_2:Addr} {odk_TILES_2:Option Addr} {slk_TILES_2:Array (Option Value)} {nk_TILES_2:Nat} {t_TILES_2_0:_} {t_TILES_2_1:_} {t_TILES_2_2:_} {k_TILES_3:Addr} {odk_TILES_3:Option Addr} {slk_TILES_3:Array (Option Value)} {nk_TILES_3:Nat} {t_TILES_3_0:_} {t_TILES_3_1:_} {t_TILES_3_2:_}
  (a0:nsIn K mainGlobals "divisor_of_two" = sR f0) (l0:K.lookup f0=fO "divisor_of_two" dH oc0 od0 kV0 dc0 pm0 an0 cd0 ct0 sl0) (c0:codeIn K cd0 "divisor_of_two" = true) (k0:keepIn K (.ref f0)=true)
  (a1:nsIn K mainGlobals "divisor" = sR f1) (l1:K.lookup f1=fO "divisor" pB oc1 od1 kV1 dc1 pm1 an1 cd1 ct1 sl1) (c1:codeIn K cd1 "divisor" = true) (k1:keepIn K (.ref f1)=true)
  (a2:nsIn K mainGlobals "ends_below" = sR f2) (l2:K.lookup f2=fO "ends_below" iu oc2 od2 kV2 dc2 pm2 an2 cd2 ct2 sl2) (c2:codeIn K cd2 "ends_below" = true) (k2:keepIn K (.ref f2)=true)
  (a3:nsIn K mainGlobals "plain" = sR f3) (l3:K.lookup f3=fO "plain" yw oc3 od3 kV3 dc3 pm3 an3 cd3 ct3 sl3) (c3:codeIn K cd3 "plain" = true) (k3:keepIn K (.ref f3)=true)
  (a4:nsIn K mainGlobals "dot" = sR f4) (l4:K.lookup f4=fO "dot" s_dot oc4 od4 kV4 dc4 pm4 an4 cd4 ct4 sl4) (c4:codeIn K cd4 "dot" = true) (k4:keepIn K (.ref f4)=true)
  (a5:nsIn K mainGlobals "cross" = sR f5) (l5:K.lookup f5=fO "cross" xH oc5 od5 kV5 dc5 pm5 an5 cd5 ct5 sl5) (c5:codeIn K cd5 "cross" = true) (k5:keepIn K (.ref f5)=true)
  (a6:nsIn K mainGlobals "turn" = sR f6) (l6:K.lookup f6=fO "turn" s_turn oc6 od6 kV6 dc6 pm6 an6 cd6 ct6 sl6) (c6:codeIn K cd6 "turn" = true) (k6:keepIn K (.ref f6)=true)
  (a7:nsIn K mainGlobals "share_one" = sR f7) (l7:K.lookup f7=fO "share_one" jw oc7 od7 kV7 dc7 pm7 an7 cd7 ct7 sl7) (c7:codeIn K cd7 "share_one" = true) (k7:keepIn K (.ref f7)=true)
  (a8:nsIn K mainGlobals "on_line" = sR f8) (l8:K.lookup f8=fO "on_line" pA oc8 od8 kV8 dc8 pm8 an8 cd8 ct8 sl8) (c8:codeIn K cd8 "on_line" = true) (k8:keepIn K (.ref f8)=true)
  (a9:nsIn K mainGlobals "rising" = sR f9) (l9:K.lookup f9=fO "rising" sH oc9 od9 kV9 dc9 pm9 an9 cd9 ct9 sl9) (c9:codeIn K cd9 "rising" = true) (k9:keepIn K (.ref f9)=true)
  (a10:nsIn K mainGlobals "picked" = sR f10) (l10:K.lookup f10=fO "picked" rZ oc10 od10 kV10 dc10 pm10 an10 cd10 ct10 sl10) (c10:codeIn K cd10 "picked" = true) (k10:keepIn K (.ref f10)=true)
  (a11:nsIn K mainGlobals "rows_of" = sR f11) (l11:K.lookup f11=fO "rows_of" oU oc11 od11 kV11 dc11 pm11 an11 cd11 ct11 sl11) (c11:codeIn K cd11 "rows_of" = true) (k11:keepIn K (.ref f11)=true)
  (a12:nsIn K mainGlobals "table_times_row" = sR f12) (l12:K.lookup f12=fO "table_times_row" cZ oc12 od12 kV12 dc12 pm12 an12 cd12 ct12 sl12) (c12:codeIn K cd12 "table_times_row" = true) (k12:keepIn K (.ref f12)=true)
  (a13:nsIn K mainGlobals "flipped" = sR f13) (l13:K.lookup f13=fO "flipped" oM oc13 od13 kV13 dc13 pm13 an13 cd13 ct13 sl13) (c13:codeIn K cd13 "flipped" = true) (k13:keepIn K (.ref f13)=true)
  (a14:nsIn K mainGlobals "table_times_table" = sR f14) (l14:K.lookup f14=fO "table_times_table" cM oc14 od14 kV14 dc14 pm14 an14 cd14 ct14 sl14) (c14:codeIn K cd14 "table_times_table" = true) (k14:keepIn K (.ref f14)=true)
  (a15:nsIn K mainGlobals "turned" = sR f15) (l15:K.lookup f15=fO "turned" sE oc15 od15 kV15 dc15 pm15 an15 cd15 ct15 sl15) (c15:codeIn K cd15 "turned" = true) (k15:keepIn K (.ref f15)=true)
  (a16:nsIn K mainGlobals "led" = sR f16) (l16:K.lookup f16=fO "led" s_led oc16 od16 kV16 dc16 pm16 an16 cd16 ct16 sl16) (c16:codeIn K cd16 "led" = true) (k16:keepIn K (.ref f16)=true)
  (a17:nsIn K mainGlobals "then" = sR f17) (l17:K.lookup f17=fO "then" s_then oc17 od17 kV17 dc17 pm17 an17 cd17 ct17 sl17) (c17:codeIn K cd17 "then" = true) (k17:keepIn K (.ref f17)=true)
  (a18:nsIn K mainGlobals "back" = sR f18) (l18:K.lookup f18=fO "back" s_back oc18 od18 kV18 dc18 pm18 an18 cd18 ct18 sl18) (c18:codeIn K cd18 "back" = true) (k18:keepIn K (.ref f18)=true)
  (a19:nsIn K mainGlobals "tiles" = sR f19) (l19:K.lookup f19=fO "tiles" yq oc19 od19 kV19 dc19 pm19 an19 cd19 ct19 sl19) (c19:codeIn K cd19 "tiles" = true) (k19:keepIn K (.ref f19)=true)
  (a20:nsIn K mainGlobals "are_free" = sR f20) (l20:K.lookup f20=fO "are_free" lO oc20 od20 kV20 dc20 pm20 an20 cd20 ct20 sl20) (c20:codeIn K cd20 "are_free" = true) (k20:keepIn K (.ref f20)=true)
  (a21:nsIn K mainGlobals "from_tiles" = sR f21) (l21:K.lookup f21=fO "from_tiles" gZ oc21 od21 kV21 dc21 pm21 an21 cd21 ct21 sl21) (c21:codeIn K cd21 "from_tiles" = true) (k21:keepIn K (.ref f21)=true)
  (a22:nsIn K mainGlobals "map_between" = sR f22) (l22:K.lookup f22=fO "map_between" gA oc22 od22 kV22 dc22 pm22 an22 cd22 ct22 sl22) (c22:codeIn K cd22 "map_between" = true) (k22:keepIn K (.ref f22)=true)
  (a23:nsIn K mainGlobals "check_picture" = sR f23) (l23:K.lookup f23=fO "check_picture" eO oc23 od23 kV23 dc23 pm23 an23 cd23 ct23 sl23) (c23:codeIn K cd23 "check_picture" = true) (k23:keepIn K (.ref f23)=true)
  (a24:nsIn K mainGlobals "first_free" = sR f24) (l24:K.lookup f24=fO "first_free" iy oc24 od24 kV24 dc24 pm24 an24 cd24 ct24 sl24) (c24:codeIn K cd24 "first_free" = true) (k24:keepIn K (.ref f24)=true)
  (a25:nsIn K mainGlobals "place_off" = sR f25) (l25:K.lookup f25=fO "place_off" jA oc25 od25 kV25 dc25 pm25 an25 cd25 ct25 sl25) (c25:codeIn K cd25 "place_off" = true) (k25:keepIn K (.ref f25)=true)
  (a26:nsIn K mainGlobals "turn_at" = sR f26) (l26:K.lookup f26=fO "turn_at" nQ oc26 od26 kV26 dc26 pm26 an26 cd26 ct26 sl26) (c26:codeIn K cd26 "turn_at" = true) (k26:keepIn K (.ref f26)=true)
  (a27:nsIn K mainGlobals "has_three_alike" = sR f27) (l27:K.lookup f27=fO "has_three_alike" dD oc27 od27 kV27 dc27 pm27 an27 cd27 ct27 sl27) (c27:codeIn K cd27 "has_three_alike" = true) (k27:keepIn K (.ref f27)=true)
  (a28:nsIn K mainGlobals "throw_numbers" = sR f28) (l28:K.lookup f28=fO "throw_numbers" eE oc28 od28 kV28 dc28 pm28 an28 cd28 ct28 sl28) (c28:codeIn K cd28 "throw_numbers" = true) (k28:keepIn K (.ref f28)=true)
  (a29:nsIn K mainGlobals "twos_differ" = sR f29) (l29:K.lookup f29=fO "twos_differ" gw oc29 od29 kV29 dc29 pm29 an29 cd29 ct29 sl29) (c29:codeIn K cd29 "twos_differ" = true) (k29:keepIn K (.ref f29)=true)
  (a30:nsIn K mainGlobals "threes_differ" = sR f30) (l30:K.lookup f30=fO "threes_differ" eG oc30 od30 kV30 dc30 pm30 an30 cd30 ct30 sl30) (c30:codeIn K cd30 "threes_differ" = true) (k30:keepIn K (.ref f30)=true)
  (a31:nsIn K mainGlobals "throws_differ" = sR f31) (l31:K.lookup f31=fO "throws_differ" d9 oc31 od31 kV31 dc31 pm31 an31 cd31 ct31 sl31) (c31:codeIn K cd31 "throws_differ" = true) (k31:keepIn K (.ref f31)=true)
  (a32:nsIn K mainGlobals "first_places" = sR f32) (l32:K.lookup f32=fO "first_places" fH oc32 od32 kV32 dc32 pm32 an32 cd32 ct32 sl32) (c32:codeIn K cd32 "first_places" = true) (k32:keepIn K (.ref f32)=true)
  (a33:nsIn K mainGlobals "fifth_apart" = sR f33) (l33:K.lookup f33=fO "fifth_apart" gn oc33 od33 kV33 dc33 pm33 an33 cd33 ct33 sl33) (c33:codeIn K cd33 "fifth_apart" = true) (k33:keepIn K (.ref f33)=true)
  (a34:nsIn K mainGlobals "apart_of_as_many" = sR f34) (l34:K.lookup f34=fO "apart_of_as_many" cR oc34 od34 kV34 dc34 pm34 an34 cd34 ct34 sl34) (c34:codeIn K cd34 "apart_of_as_many" = true) (k34:keepIn K (.ref f34)=true)
  (a35:nsIn K mainGlobals "apart" = sR f35) (l35:K.lookup f35=fO "apart" xR oc35 od35 kV35 dc35 pm35 an35 cd35 ct35 sl35) (c35:codeIn K cd35 "apart" = true) (k35:keepIn K (.ref f35)=true)
  (a36:nsIn K mainGlobals "_law_cell_at" = sR f36) (l36:K.lookup f36=fO "_law_cell_at" jo oc36 od36 kV36 dc36 pm36 an36 cd36 ct36 sl36) (c36:codeIn K cd36 "_law_cell_at" = true) (k36:keepIn K (.ref f36)=true)
  (a37:nsIn K mainGlobals "_law_rest" = sR f37) (l37:K.lookup f37=fO "_law_rest" sO oc37 od37 kV37 dc37 pm37 an37 cd37 ct37 sl37) (c37:codeIn K cd37 "_law_rest" = true) (k37:keepIn K (.ref f37)=true)
  (a38:nsIn K mainGlobals "_law_digit" = sR f38) (l38:K.lookup f38=fO "_law_digit" pL oc38 od38 kV38 dc38 pm38 an38 cd38 ct38 sl38) (c38:codeIn K cd38 "_law_digit" = true) (k38:keepIn K (.ref f38)=true)
  (a39:nsIn K mainGlobals "_law_number" = sR f39) (l39:K.lookup f39=fO "_law_number" lR oc39 od39 kV39 dc39 pm39 an39 cd39 ct39 sl39) (c39:codeIn K cd39 "_law_number" = true) (k39:keepIn K (.ref f39)=true)
  (a40:nsIn K mainGlobals "_law_divisor" = sR f40) (l40:K.lookup f40=fO "_law_divisor" jK oc40 od40 kV40 dc40 pm40 an40 cd40 ct40 sl40) (c40:codeIn K cd40 "_law_divisor" = true) (k40:keepIn K (.ref f40)=true)
  (a41:nsIn K mainGlobals "_law_plain" = sR f41) (l41:K.lookup f41=fO "_law_plain" pP oc41 od41 kV41 dc41 pm41 an41 cd41 ct41 sl41) (c41:codeIn K cd41 "_law_plain" = true) (k41:keepIn K (.ref f41)=true)
  (a42:nsIn K mainGlobals "_law_spot" = sR f42) (l42:K.lookup f42=fO "_law_spot" rY oc42 od42 kV42 dc42 pm42 an42 cd42 ct42 sl42) (c42:codeIn K cd42 "_law_spot" = true) (k42:keepIn K (.ref f42)=true)
  (a43:nsIn K mainGlobals "_law_cross" = sR f43) (l43:K.lookup f43=fO "_law_cross" oX oc43 od43 kV43 dc43 pm43 an43 cd43 ct43 sl43) (c43:codeIn K cd43 "_law_cross" = true) (k43:keepIn K (.ref f43)=true)
  (a44:nsIn K mainGlobals "_law_dot" = sR f44) (l44:K.lookup f44=fO "_law_dot" xV oc44 od44 kV44 dc44 pm44 an44 cd44 ct44 sl44) (c44:codeIn K cd44 "_law_dot" = true) (k44:keepIn K (.ref f44)=true)
  (a45:nsIn K mainGlobals "_law_size" = sR f45) (l45:K.lookup f45=fO "_law_size" rO oc45 od45 kV45 dc45 pm45 an45 cd45 ct45 sl45) (c45:codeIn K cd45 "_law_size" = true) (k45:keepIn K (.ref f45)=true)
  (a46:nsIn K mainGlobals "_law_map" = sR f46) (l46:K.lookup f46=fO "_law_map" yd oc46 od46 kV46 dc46 pm46 an46 cd46 ct46 sl46) (c46:codeIn K cd46 "_law_map" = true) (k46:keepIn K (.ref f46)=true)
  (a47:nsIn K mainGlobals "_law_led" = sR f47) (l47:K.lookup f47=fO "_law_led" yx oc47 od47 kV47 dc47 pm47 an47 cd47 ct47 sl47) (c47:codeIn K cd47 "_law_led" = true) (k47:keepIn K (.ref f47)=true)
  (a48:nsIn K mainGlobals "_law_turn" = sR f48) (l48:K.lookup f48=fO "_law_turn" sW oc48 od48 kV48 dc48 pm48 an48 cd48 ct48 sl48) (c48:codeIn K cd48 "_law_turn" = true) (k48:keepIn K (.ref f48)=true)
  (a49:nsIn K mainGlobals "_law_free" = sR f49) (l49:K.lookup f49=fO "_law_free" sZ oc49 od49 kV49 dc49 pm49 an49 cd49 ct49 sl49) (c49:codeIn K cd49 "_law_free" = true) (k49:keepIn K (.ref f49)=true)
  (a50:nsIn K mainGlobals "_law_mixed" = sR f50) (l50:K.lookup f50=fO "_law_mixed" pW oc50 od50 kV50 dc50 pm50 an50 cd50 ct50 sl50) (c50:codeIn K cd50 "_law_mixed" = true) (k50:keepIn K (.ref f50)=true)
  (a51:nsIn K mainGlobals "_law_next" = sR f51) (l51:K.lookup f51=fO "_law_next" sY oc51 od51 kV51 dc51 pm51 an51 cd51 ct51 sl51) (c51:codeIn K cd51 "_law_next" = true) (k51:keepIn K (.ref f51)=true)
  (a52:nsIn K mainGlobals "_law_picture" = sR f52) (l52:K.lookup f52=fO "_law_picture" jL oc52 od52 kV52 dc52 pm52 an52 cd52 ct52 sl52) (c52:codeIn K cd52 "_law_picture" = true) (k52:keepIn K (.ref f52)=true)
  (a53:nsIn K mainGlobals "_law_changed" = sR f53) (l53:K.lookup f53=fO "_law_changed" jE oc53 od53 kV53 dc53 pm53 an53 cd53 ct53 sl53) (c53:codeIn K cd53 "_law_changed" = true) (k53:keepIn K (.ref f53)=true)
  (a54:nsIn K mainGlobals "_law_two" = sR f54) (l54:K.lookup f54=fO "_law_two" yC oc54 od54 kV54 dc54 pm54 an54 cd54 ct54 sl54) (c54:codeIn K cd54 "_law_two" = true) (k54:keepIn K (.ref f54)=true)
  (a55:nsIn K mainGlobals "_law_places" = sR f55) (l55:K.lookup f55=fO "_law_places" lY oc55 od55 kV55 dc55 pm55 an55 cd55 ct55 sl55) (c55:codeIn K cd55 "_law_places" = true) (k55:keepIn K (.ref f55)=true)
  (a56:nsIn K mainGlobals "_law_parts" = sR f56) (l56:K.lookup f56=fO "_law_parts" oO oc56 od56 kV56 dc56 pm56 an56 cd56 ct56 sl56) (c56:codeIn K cd56 "_law_parts" = true) (k56:keepIn K (.ref f56)=true)
  (a57:nsIn K mainGlobals "_law_lie" = sR f57) (l57:K.lookup f57=fO "_law_lie" wR oc57 od57 kV57 dc57 pm57 an57 cd57 ct57 sl57) (c57:codeIn K cd57 "_law_lie" = true) (k57:keepIn K (.ref f57)=true)
  (a58:nsIn K mainGlobals "_law_image" = sR f58) (l58:K.lookup f58=fO "_law_image" n8 oc58 od58 kV58 dc58 pm58 an58 cd58 ct58 sl58) (c58:codeIn K cd58 "_law_image" = true) (k58:keepIn K (.ref f58)=true)
  (a59:nsIn K mainGlobals "_law_by_places" = sR f59) (l59:K.lookup f59=fO "_law_by_places" gk oc59 od59 kV59 dc59 pm59 an59 cd59 ct59 sl59) (c59:codeIn K cd59 "_law_by_places" = true) (k59:keepIn K (.ref f59)=true)
  (a60:nsIn K mainGlobals "_law_by_four" = sR f60) (l60:K.lookup f60=fO "_law_by_four" jq oc60 od60 kV60 dc60 pm60 an60 cd60 ct60 sl60) (c60:codeIn K cd60 "_law_by_four" = true) (k60:keepIn K (.ref f60)=true)
  (a61:nsIn K mainGlobals "_law_due" = sR f61) (l61:K.lookup f61=fO "_law_due" xM oc61 od61 kV61 dc61 pm61 an61 cd61 ct61 sl61) (c61:codeIn K cd61 "_law_due" = true) (k61:keepIn K (.ref f61)=true)
  (a62:nsIn K mainGlobals "law" = sR f62) (l62:K.lookup f62=fO "law" s_law oc62 od62 kV62 dc62 pm62 an62 cd62 ct62 sl62) (c62:codeIn K cd62 "law" = true) (k62:keepIn K (.ref f62)=true)
  (z_abs:PySem.W.nsIn K mainGlobals "abs" = some none)
  (z_all:PySem.W.nsIn K mainGlobals "all" = some none)
  (z_isinstance:PySem.W.nsIn K mainGlobals "isinstance" = some none)
  (z_len:PySem.W.nsIn K mainGlobals "len" = some none)
  (z_list:PySem.W.nsIn K mainGlobals "list" = some none)
  (z_max:PySem.W.nsIn K mainGlobals "max" = some none)
  (z_min:PySem.W.nsIn K mainGlobals "min" = some none)
  (z_range:PySem.W.nsIn K mainGlobals "range" = some none)
  (z_reversed:PySem.W.nsIn K mainGlobals "reversed" = some none)
  (z_str:PySem.W.nsIn K mainGlobals "str" = some none)
  (z_sum:PySem.W.nsIn K mainGlobals "sum" = some none)
  (z_tuple:PySem.W.nsIn K mainGlobals "tuple" = some none)
  (z_zip:PySem.W.nsIn K mainGlobals "zip" = some none)
  (gk_TILES:PySem.W.nsIn K mainGlobals "TILES" = some (some (.ref qJ)))
  (lk_TILES:K.lookup qJ=some ⟨.type "tuple",odk_TILES,.seq #[(.ref k_TILES_0),(.ref k_TILES_1),(.ref k_TILES_2),(.ref k_TILES_3)] nk_TILES,slk_TILES⟩)
  (lk_TILES_0:K.lookup k_TILES_0=some ⟨.type "tuple",odk_TILES_0,.seq #[(.int 1 t_TILES_0_0),(.int 0 t_TILES_0_1),(.int 0 t_TILES_0_2)] nk_TILES_0,slk_TILES_0⟩)
  (lk_TILES_1:K.lookup k_TILES_1=some ⟨.type "tuple",odk_TILES_1,.seq #[(.int 0 t_TILES_1_0),(.int 1 t_TILES_1_1),(.int 0 t_TILES_1_2)] nk_TILES_1,slk_TILES_1⟩)
  (lk_TILES_2:K.lookup k_TILES_2=some ⟨.type "tuple",odk_TILES_2,.seq #[(.int 0 t_TILES_2_0),(.int 0 t_TILES_2_1),(.int 1 t_TILES_2_2)] nk_TILES_2,slk_TILES_2⟩)
  (lk_TILES_3:K.lookup k_TILES_3=some ⟨.type "tuple",odk_TILES_3,.seq #[(.int 1 t_TILES_3_0),(.int 1 t_TILES_3_1),(.int 1 t_TILES_3_2)] nk_TILES_3,slk_TILES_3⟩)
  : ∃ fd:FuncData,(∀ (s:Shared) (v:Value),BindsTo s fd ⟨[v],[]⟩ [("_law_script",v)])∧∀ base:Heap,K.In base→base.Ns mainGlobals mg→cH l.prog w K mg base CX0 18 fa fd ["_law_script"] (spLaw K):=by
 have e:=hfa.symm.trans (PySem.W.mg_of X G a62)
 cases e
 have F0:=aY (st:=dH) l0 c0 k0
 have b0:=F0.binds (ps:=["one", "other"]) fun _ _ _ _ _ _ us hl=>match us,hl with | [_,_],_=>rfl
 have F1:=aY (st:=pB) l1 c1 k1
 have b1:=F1.binds (ps:=["numbers"]) fun _ _ _ _ _ _ us hl=>match us,hl with | [_],_=>rfl
 have F2:=aY (st:=iu) l2 c2 k2
 have b2:=F2.binds (ps:=["numbers"]) fun _ _ _ _ _ _ us hl=>match us,hl with | [_],_=>rfl
 have F3:=aY (st:=yw) l3 c3 k3
 have b3:=F3.binds (ps:=["numbers"]) fun _ _ _ _ _ _ us hl=>match us,hl with | [_],_=>rfl
 have F4:=aY (st:=s_dot) l4 c4 k4
 have b4:=F4.binds (ps:=["one", "other"]) fun _ _ _ _ _ _ us hl=>match us,hl with | [_,_],_=>rfl
 have F5:=aY (st:=xH) l5 c5 k5
 have b5:=F5.binds (ps:=["one", "other"]) fun _ _ _ _ _ _ us hl=>match us,hl with | [_,_],_=>rfl
 have F6:=aY (st:=s_turn) l6 c6 k6
 have b6:=F6.binds (ps:=["one", "other", "third"]) fun _ _ _ _ _ _ us hl=>match us,hl with | [_,_,_],_=>rfl
 have F7:=aY (st:=jw) l7 c7 k7
 have b7:=F7.binds (ps:=["rows"]) fun _ _ _ _ _ _ us hl=>match us,hl with | [_],_=>rfl
 have F8:=aY (st:=pA) l8 c8 k8
 have b8:=F8.binds (ps:=["spots"]) fun _ _ _ _ _ _ us hl=>match us,hl with | [_],_=>rfl
 have F9:=aY (st:=sH) l9 c9 k9
 have b9:=F9.binds (ps:=["many", "size"]) fun _ _ _ _ _ _ us hl=>match us,hl with | [_,_],_=>rfl
 have F10:=aY (st:=rZ) l10 c10 k10
 have b10:=F10.binds (ps:=["things", "places"]) fun _ _ _ _ _ _ us hl=>match us,hl with | [_,_],_=>rfl
 have F11:=aY (st:=oU) l11 c11 k11
 have b11:=F11.binds (ps:=["table"]) fun _ _ _ _ _ _ us hl=>match us,hl with | [_],_=>rfl
 have F12:=aY (st:=cZ) l12 c12 k12
 have b12:=F12.binds (ps:=["table", "row"]) fun _ _ _ _ _ _ us hl=>match us,hl with | [_,_],_=>rfl
 have F13:=aY (st:=oM) l13 c13 k13
 have b13:=F13.binds (ps:=["table"]) fun _ _ _ _ _ _ us hl=>match us,hl with | [_],_=>rfl
 have F14:=aY (st:=cM) l14 c14 k14
 have b14:=F14.binds (ps:=["one", "other"]) fun _ _ _ _ _ _ us hl=>match us,hl with | [_,_],_=>rfl
 have F15:=aY (st:=sE) l15 c15 k15
 have b15:=F15.binds (ps:=["table"]) fun _ _ _ _ _ _ us hl=>match us,hl with | [_],_=>rfl
 have F16:=aY (st:=s_led) l16 c16 k16
 have b16:=F16.binds (ps:=["by", "spot"]) fun _ _ _ _ _ _ us hl=>match us,hl with | [_,_],_=>rfl
 have F17:=aY (st:=s_then) l17 c17 k17
 have b17:=F17.binds (ps:=["one", "other"]) fun _ _ _ _ _ _ us hl=>match us,hl with | [_,_],_=>rfl
 have F18:=aY (st:=s_back) l18 c18 k18
 have b18:=F18.binds (ps:=["by"]) fun _ _ _ _ _ _ us hl=>match us,hl with | [_],_=>rfl
 have F19:=aY (st:=yq) l19 c19 k19
 have b19:=F19.binds (ps:=[]) fun _ _ _ _ _ _ us hl=>match us,hl with | [],_=>rfl
 have F20:=aY (st:=lO) l20 c20 k20
 have b20:=F20.binds (ps:=["four"]) fun _ _ _ _ _ _ us hl=>match us,hl with | [_],_=>rfl
 have F21:=aY (st:=gZ) l21 c21 k21
 have b21:=F21.binds (ps:=["four"]) fun _ _ _ _ _ _ us hl=>match us,hl with | [_],_=>rfl
 have F22:=aY (st:=gA) l22 c22 k22
 have b22:=F22.binds (ps:=["four", "others"]) fun _ _ _ _ _ _ us hl=>match us,hl with | [_,_],_=>rfl
 have F23:=aY (st:=eO) l23 c23 k23
 have b23:=F23.binds (ps:=["picture"]) fun _ _ _ _ _ _ us hl=>match us,hl with | [_],_=>rfl
 have F24:=aY (st:=iy) l24 c24 k24
 have b24:=F24.binds (ps:=["picture"]) fun _ _ _ _ _ _ us hl=>match us,hl with | [_],_=>rfl
 have F25:=aY (st:=jA) l25 c25 k25
 have b25:=F25.binds (ps:=["spots"]) fun _ _ _ _ _ _ us hl=>match us,hl with | [_],_=>rfl
 have F26:=aY (st:=nQ) l26 c26 k26
 have b26:=F26.binds (ps:=["one", "other", "place"]) fun _ _ _ _ _ _ us hl=>match us,hl with | [_,_,_],_=>rfl
 have F27:=aY (st:=dD) l27 c27 k27
 have b27:=F27.binds (ps:=["four"]) fun _ _ _ _ _ _ us hl=>match us,hl with | [_],_=>rfl
 have F28:=aY (st:=eE) l28 c28 k28
 have b28:=F28.binds (ps:=["four"]) fun _ _ _ _ _ _ us hl=>match us,hl with | [_],_=>rfl
 have F29:=aY (st:=gw) l29 c29 k29
 have b29:=F29.binds (ps:=["one", "other"]) fun _ _ _ _ _ _ us hl=>match us,hl with | [_,_],_=>rfl
 have F30:=aY (st:=eG) l30 c30 k30
 have b30:=F30.binds (ps:=["one", "other"]) fun _ _ _ _ _ _ us hl=>match us,hl with | [_,_],_=>rfl
 have F31:=aY (st:=d9) l31 c31 k31
 have b31:=F31.binds (ps:=["one", "other"]) fun _ _ _ _ _ _ us hl=>match us,hl with | [_,_],_=>rfl
 have F32:=aY (st:=fH) l32 c32 k32
 have b32:=F32.binds (ps:=["one", "other", "size", "differs"]) fun _ _ _ _ _ _ us hl=>match us,hl with | [_,_,_,_],_=>rfl
 have F33:=aY (st:=gn) l33 c33 k33
 have b33:=F33.binds (ps:=["one", "other"]) fun _ _ _ _ _ _ us hl=>match us,hl with | [_,_],_=>rfl
 have F34:=aY (st:=cR) l34 c34 k34
 have b34:=F34.binds (ps:=["one", "other"]) fun _ _ _ _ _ _ us hl=>match us,hl with | [_,_],_=>rfl
 have F35:=aY (st:=xR) l35 c35 k35
 have b35:=F35.binds (ps:=["one", "other"]) fun _ _ _ _ _ _ us hl=>match us,hl with | [_,_],_=>rfl
 have F36:=aY (st:=jo) l36 c36 k36
 have b36:=F36.binds (ps:=["_law_script", "_law_k"]) fun _ _ _ _ _ _ us hl=>match us,hl with | [_,_],_=>rfl
 have F37:=aY (st:=sO) l37 c37 k37
 have b37:=F37.binds (ps:=["_law_script", "_law_k"]) fun _ _ _ _ _ _ us hl=>match us,hl with | [_,_],_=>rfl
 have F38:=aY (st:=pL) l38 c38 k38
 have b38:=F38.binds (ps:=["_law_rest_here", "_law_many"]) fun _ _ _ _ _ _ us hl=>match us,hl with | [_,_],_=>rfl
 have F39:=aY (st:=lR) l39 c39 k39
 have b39:=F39.binds (ps:=["_law_rest_here", "_law_far"]) fun _ _ _ _ _ _ us hl=>match us,hl with | [_,_],_=>rfl
 have F40:=aY (st:=jK) l40 c40 k40
 have b40:=F40.binds (ps:=["_law_numbers"]) fun _ _ _ _ _ _ us hl=>match us,hl with | [_],_=>rfl
 have F41:=aY (st:=pP) l41 c41 k41
 have b41:=F41.binds (ps:=["_law_numbers"]) fun _ _ _ _ _ _ us hl=>match us,hl with | [_],_=>rfl
 have F42:=aY (st:=rY) l42 c42 k42
 have b42:=F42.binds (ps:=["_law_rest_here", "_law_far"]) fun _ _ _ _ _ _ us hl=>match us,hl with | [_,_],_=>rfl
 have F43:=aY (st:=oX) l43 c43 k43
 have b43:=F43.binds (ps:=["_law_one", "_law_other"]) fun _ _ _ _ _ _ us hl=>match us,hl with | [_,_],_=>rfl
 have F44:=aY (st:=xV) l44 c44 k44
 have b44:=F44.binds (ps:=["_law_one", "_law_other"]) fun _ _ _ _ _ _ us hl=>match us,hl with | [_,_],_=>rfl
 have F45:=aY (st:=rO) l45 c45 k45
 have b45:=F45.binds (ps:=["_law_numbers"]) fun _ _ _ _ _ _ us hl=>match us,hl with | [_],_=>rfl
 have F46:=aY (st:=yd) l46 c46 k46
 have b46:=F46.binds (ps:=["_law_rest_here", "_law_far"]) fun _ _ _ _ _ _ us hl=>match us,hl with | [_,_],_=>rfl
 have F47:=aY (st:=yx) l47 c47 k47
 have b47:=F47.binds (ps:=["_law_by", "_law_spot_here"]) fun _ _ _ _ _ _ us hl=>match us,hl with | [_,_],_=>rfl
 have F48:=aY (st:=sW) l48 c48 k48
 have b48:=F48.binds (ps:=["_law_one", "_law_other", "_law_third"]) fun _ _ _ _ _ _ us hl=>match us,hl with | [_,_,_],_=>rfl
 have F49:=aY (st:=sZ) l49 c49 k49
 have b49:=F49.binds (ps:=["_law_four"]) fun _ _ _ _ _ _ us hl=>match us,hl with | [_],_=>rfl
 have F50:=aY (st:=pW) l50 c50 k50
 have b50:=F50.binds (ps:=["_law_one", "_law_other", "_law_rest_here"]) fun _ _ _ _ _ _ us hl=>match us,hl with | [_,_,_],_=>rfl
 have F51:=aY (st:=sY) l51 c51 k51
 have b51:=F51.binds (ps:=["_law_spots", "_law_style", "_law_rest_here"]) fun _ _ _ _ _ _ us hl=>match us,hl with | [_,_,_],_=>rfl
 have F52:=aY (st:=jL) l52 c52 k52
 have b52:=F52.binds (ps:=["_law_rest_here", "_law_most"]) fun _ _ _ _ _ _ us hl=>match us,hl with | [_,_],_=>rfl
 have F53:=aY (st:=jE) l53 c53 k53
 have b53:=F53.binds (ps:=["_law_spots", "_law_rest_here"]) fun _ _ _ _ _ _ us hl=>match us,hl with | [_,_],_=>rfl
 have F54:=aY (st:=yC) l54 c54 k54
 have b54:=F54.binds (ps:=["_law_script", "_law_most"]) fun _ _ _ _ _ _ us hl=>match us,hl with | [_,_],_=>rfl
 have F55:=aY (st:=lY) l55 c55 k55
 have b55:=F55.binds (ps:=["_law_many", "_law_size_here"]) fun _ _ _ _ _ _ us hl=>match us,hl with | [_,_],_=>rfl
 have F56:=aY (st:=oO) l56 c56 k56
 have b56:=F56.binds (ps:=["_law_spots"]) fun _ _ _ _ _ _ us hl=>match us,hl with | [_],_=>rfl
 have F57:=aY (st:=wR) l57 c57 k57
 have b57:=F57.binds (ps:=["_law_spots"]) fun _ _ _ _ _ _ us hl=>match us,hl with | [_],_=>rfl
 have F58:=aY (st:=n8) l58 c58 k58
 have b58:=F58.binds (ps:=["_law_four", "_law_spot_here"]) fun _ _ _ _ _ _ us hl=>match us,hl with | [_,_],_=>rfl
 have F59:=aY (st:=gk) l59 c59 k59
 have b59:=F59.binds (ps:=["_law_one", "_law_other"]) fun _ _ _ _ _ _ us hl=>match us,hl with | [_,_],_=>rfl
 have F60:=aY (st:=jq) l60 c60 k60
 have b60:=F60.binds (ps:=["_law_one", "_law_other"]) fun _ _ _ _ _ _ us hl=>match us,hl with | [_,_],_=>rfl
 have F61:=aY (st:=xM) l61 c61 k61
 have b61:=F61.binds (ps:=["_law_one", "_law_other"]) fun _ _ _ _ _ _ us hl=>match us,hl with | [_,_],_=>rfl
 have F62:=aY (st:=s_law) l62 c62 k62
 have b62:=F62.binds (ps:=["_law_script"]) fun _ _ _ _ _ _ us hl=>match us,hl with | [_],_=>rfl
 have T:Txt K mg ⟨f0,_,f1,_,f2,_,f3,_,f4,_,f5,_,f6,_,f7,_,f8,_,f9,_,f10,_,f11,_,f12,_,f13,_,f14,_,f15,_,f16,_,f17,_,f18,_,f19,_,f20,_,f21,_,f22,_,f23,_,f24,_,f25,_,f26,_,f27,_,f28,_,f29,_,f30,_,f31,_,f32,_,f33,_,f34,_,f35,_,f36,_,f37,_,f38,_,f39,_,f40,_,f41,_,f42,_,f43,_,f44,_,f45,_,f46,_,f47,_,f48,_,f49,_,f50,_,f51,_,f52,_,f53,_,f54,_,f55,_,f56,_,f57,_,f58,_,f59,_,f60,_,f61,_,fa,_,qJ⟩:=⟨F0,PySem.W.mg_of X G a0,b0,F1,PySem.W.mg_of X G a1,b1,F2,PySem.W.mg_of X G a2,b2,F3,PySem.W.mg_of X G a3,b3,F4,PySem.W.mg_of X G a4,b4,F5,PySem.W.mg_of X G a5,b5,F6,PySem.W.mg_of X G a6,b6,F7,PySem.W.mg_of X G a7,b7,F8,PySem.W.mg_of X G a8,b8,F9,PySem.W.mg_of X G a9,b9,F10,PySem.W.mg_of X G a10,b10,F11,PySem.W.mg_of X G a11,b11,F12,PySem.W.mg_of X G a12,b12,F13,PySem.W.mg_of X G a13,b13,F14,PySem.W.mg_of X G a14,b14,F15,PySem.W.mg_of X G a15,b15,F16,PySem.W.mg_of X G a16,b16,F17,PySem.W.mg_of X G a17,b17,F18,PySem.W.mg_of X G a18,b18,F19,PySem.W.mg_of X G a19,b19,F20,PySem.W.mg_of X G a20,b20,F21,PySem.W.mg_of X G a21,b21,F22,PySem.W.mg_of X G a22,b22,F23,PySem.W.mg_of X G a23,b23,F24,PySem.W.mg_of X G a24,b24,F25,PySem.W.mg_of X G a25,b25,F26,PySem.W.mg_of X G a26,b26,F27,PySem.W.mg_of X G a27,b27,F28,PySem.W.mg_of X G a28,b28,F29,PySem.W.mg_of X G a29,b29,F30,PySem.W.mg_of X G a30,b30,F31,PySem.W.mg_of X G a31,b31,F32,PySem.W.mg_of X G a32,b32,F33,PySem.W.mg_of X G a33,b33,F34,PySem.W.mg_of X G a34,b34,F35,PySem.W.mg_of X G a35,b35,F36,PySem.W.mg_of X G a36,b36,F37,PySem.W.mg_of X G a37,b37,F38,PySem.W.mg_of X G a38,b38,F39,PySem.W.mg_of X G a39,b39,F40,PySem.W.mg_of X G a40,b40,F41,PySem.W.mg_of X G a41,b41,F42,PySem.W.mg_of X G a42,b42,F43,PySem.W.mg_of X G a43,b43,F44,PySem.W.mg_of X G a44,b44,F45,PySem.W.mg_of X G a45,b45,F46,PySem.W.mg_of X G a46,b46,F47,PySem.W.mg_of X G a47,b47,F48,PySem.W.mg_of X G a48,b48,F49,PySem.W.mg_of X G a49,b49,F50,PySem.W.mg_of X G a50,b50,F51,PySem.W.mg_of X G a51,b51,F52,PySem.W.mg_of X G a52,b52,F53,PySem.W.mg_of X G a53,b53,F54,PySem.W.mg_of X G a54,b54,F55,PySem.W.mg_of X G a55,b55,F56,PySem.W.mg_of X G a56,b56,F57,PySem.W.mg_of X G a57,b57,F58,PySem.W.mg_of X G a58,b58,F59,PySem.W.mg_of X G a59,b59,F60,PySem.W.mg_of X G a60,b60,F61,PySem.W.mg_of X G a61,b61,F62,PySem.W.mg_of X G a62,b62,PySem.W.mg_none_of X G z_abs,PySem.W.mg_none_of X G z_all,PySem.W.mg_none_of X G z_isinstance,PySem.W.mg_none_of X G z_len,PySem.W.mg_none_of X G z_list,PySem.W.mg_none_of X G z_max,PySem.W.mg_none_of X G z_min,PySem.W.mg_none_of X G z_range,PySem.W.mg_none_of X G z_reversed,PySem.W.mg_none_of X G z_str,PySem.W.mg_none_of X G z_sum,PySem.W.mg_none_of X G z_tuple,PySem.W.mg_none_of X G z_zip,PySem.W.mg_of X G gk_TILES,fun _ _=>((oW lk_TILES (by simp <;> decide) (.cons relR (.cons relR (.cons relR (.cons relR .nil)))) fun _ _=>(lZ ((oW lk_TILES_0 (by simp <;> decide) (.cons relI (.cons relI (.cons relI .nil))) fun _ _=>(lZ repI (lZ repI (lZ repI repsN)))) _ _) (lZ ((oW lk_TILES_1 (by simp <;> decide) (.cons relI (.cons relI (.cons relI .nil))) fun _ _=>(lZ repI (lZ repI (lZ repI repsN)))) _ _) (lZ ((oW lk_TILES_2 (by simp <;> decide) (.cons relI (.cons relI (.cons relI .nil))) fun _ _=>(lZ repI (lZ repI (lZ repI repsN)))) _ _) (lZ ((oW lk_TILES_3 (by simp <;> decide) (.cons relI (.cons relI (.cons relI .nil))) fun _ _=>(lZ repI (lZ repI (lZ repI repsN)))) _ _) repsN))))) _ _)⟩
 exact ⟨_,fun s v=>.of_eq rfl,fun base _ _=>law_imp (hlaw _ _ _) (ok_law T)⟩
theorem walk {l:PySem.W.OpenLaw}{q:Program}{loose:List Str}{XP:(Str→Option Value)→Heap→Prop}{YP:World→Heap→Prop}{d:DefRec}{K:Params→PySem.W.Frag}(hn:l.most=some 63)(hdf:d.params.defaults=[])
  (hY:∀ (w:World) (h:Heap),YP w h→(K w.params).In h)
  (F:∀ (w:World) (mg:Str→Option Value) (fa:Addr) (h:Heap),(K w.params).In h→h.Ns mainGlobals mg→mg d.name=some (.ref fa) →
   ∃ fd:FuncData,(∀ (s:Shared) (u:Value),BindsTo s fd ⟨[u],[]⟩ [("_law_script",u)])∧∀ base:Heap,(K w.params).In base→base.Ns mainGlobals mg→cH l.prog w (K w.params) mg base CX0 18 fa fd ["_law_script"] (spLaw (K w.params))) :
  PySem.W.WalkO q loose XP YP l.row.toRowW d [] (fun f vs=>PySem.call f vs):=
 L2.walk_of (n:=63) (k:=18) (x := "_law_script") (CX:=fun _=>CX0) (sp:=fun w=>spLaw (K w.params)) hn (by decide) hdf ⟨fun _=>rfl,by decide,by decide⟩ hY F (fun _ _ a ns hl hO hS=>⟨a,ns,rfl,hS,hO,hl,fun _=>rfl⟩) fun _ _ _ _ _ z=>z
local macro_rules | `(tactic| trivial) => `(tactic| with_reducible exact Sm.lit (by decide))
local macro_rules | `(tactic| trivial) => `(tactic| with_reducible exact Sm.zero)
local macro_rules | `(tactic| trivial) => `(tactic| with_reducible exact Sm.neg (by trivial))
local macro_rules | `(tactic| trivial) => `(tactic| with_reducible exact Sm.sub (by trivial) (by trivial))
local macro_rules | `(tactic| trivial) => `(tactic| with_reducible exact Sm.add (by trivial) (by trivial))
local macro_rules | `(tactic| trivial) => `(tactic| with_reducible exact Sm.mul (by trivial) (by trivial))
local macro_rules | `(tactic| trivial) => `(tactic| with_reducible assumption)
theorem mz (h:Gh)(n:Nat)(c:Cell):(h.set n c).c n=some c:=by show (if n=n then some c else h.c n)=some c;rw [if_pos rfl]
theorem oF {h:Gh}{n m:Nat}{c:Cell}(e:m≠n):(h.set n c).c m=h.c m:=by show (if m=n then some c else h.c m)=_;rw [if_neg e]
theorem new_c (h:Gh)(c:Cell):(h.new c).c h.nx=some c:=by show (if h.nx=h.nx then some c else h.c h.nx)=some c;rw [if_pos rfl]
theorem wF {h:Gh}{m:Nat}{c:Cell}(e:m≠h.nx):(h.new c).c m=h.c m:=by show (if m=h.nx then some c else h.c m)=_;rw [if_neg e]
theorem nZ {h:Gh}{n:Nat}{ws:List W}(e:h.c n=some (.lst ws)):view h (.loc n)=some ws:=by simp only [view,fu,e]
def Rs (h:Gh)(n:Nat):Prop:=(∃ a,h.c n=some (.lst [.int a]))∨∃ a b,h.c n=some (.lst [.int a,.int b])
def Oth (n:Nat)(h h':Gh):Prop:=h'.nx=h.nx∧∀ m,m≠n→h'.c m=h.c m
theorem Oth.refl (n:Nat)(h:Gh):Oth n h h:=⟨rfl,fun _ _=>rfl⟩
theorem Oth.trans {n:Nat}{a b c:Gh}(x:Oth n a b)(y:Oth n b c):Oth n a c:=⟨y.1.trans x.1,fun m e=>(y.2 m e).trans (x.2 m e)⟩
theorem Oth.set {n:Nat}{h:Gh}{c:Cell}:Oth n h (h.set n c):=⟨rfl,fun _ e=>oF e⟩
theorem pO {a b:Int}(h:0<b):a.fmod b=a % b:=Int.fmod_eq_emod_of_nonneg a (Int.le_of_lt h)
theorem by2_t {A B:Prop}{c:Bool}(e:c=true)(h:A):by2 c A B:=by subst e;exact h
theorem by2_f {A B:Prop}{c:Bool}(e:c=false)(h:B):by2 c A B:=by subst e;exact h
theorem by2_d {c:Prop} [Decidable c] {A B:Prop} (h1:c→A) (h2:¬ c→B):by2 (decide c) A B:=by
 by_cases h:c
 ·rw [decide_eq_true h];exact h1 h
 ·rw [decide_eq_false h];exact h2 h
theorem jy {h:Gh}{n:Nat}{a many:Int}{r:List W}{Q:WK}(hr:r=[]∨∃ b,r=[.int b])(e:h.c n=some (.lst (.int a::r)))(hm:0<many)(hb:Sm 8000 many)(k:∀ d h',0≤d→d<many→Rs h' n→Oth n h h'→Q (.int d) h') :
  bF (bM (mOp rP (mOp kIx (aB 0) (mC (.int 0))) (aB 1)) (nName 2)) (bF (bM (mOp z6 (mOp kIx (aB 0) (mC (.int 0))) (aB 1)) (nSub (aB 0) (mC (.int 0)) sSetL)) (cj (aB 2)))
   { nx:=fun _ h'=>Q .non h',rt:=fun w h'=>Q w h' } [some (.loc n),some (.int many),none] h:=by
 have hm0:many≠0:=by omega
 have ev:=nZ e
 rcases hr with rfl | ⟨b,rfl⟩
 all_goals
  conv=>whnf
  rw [ev]
  conv=>whnf
  refine ⟨hm0,?_⟩
  conv=>whnf
  rw [ev]
  conv=>whnf
  refine ⟨⟨hm0,8000,by decide,hb⟩,?_⟩
  conv=>whnf
  rw [e]
  show Q (.int (a.fmod many)) (h.set n _)
  rw [pO hm]
  refine k _ _ (Int.emod_nonneg _ hm0) (Int.emod_lt_of_pos _ hm) ?_ Oth.set
 ·exact .inl ⟨_,mz _ _ _⟩
 ·exact .inr ⟨_,_,mz _ _ _⟩
def jm (c:MSp):Prop:=∀ {h:Gh} {n:Nat} {many:Int} {Q:WK} {E:XWK},Rs h n→0<many→Sm 8000 many→(∀ d h',0≤d→d<many→Rs h' n→Oth n h h'→Q (.int d) h')→c [.loc n,.int many] h Q E
theorem w_digit:jm r_l_digit:=by
 intro h n many Q E e hm hb k
 rcases e with ⟨a,e⟩ | ⟨a,b,e⟩
 ·have ev:=nZ e
  conv=>whnf
  rw [ev]
  show br (decide (a<2)) _ _
  refine iH (fun _=>?_) (fun _=>?_)
  ·conv=>whnf
   rw [ev]
   refine br_f rfl ?_
   exact jy (r:=[]) (.inl rfl) e hm hb k
  ·refine br_f rfl ?_
   exact jy (r:=[]) (.inl rfl) e hm hb k
 ·have ev:=nZ e
  conv=>whnf
  rw [ev]
  show br (decide (a<2)) _ _
  refine iH (fun _=>?_) (fun _=>?_)
  ·conv=>whnf
   rw [ev]
   refine br_t rfl ?_
   conv=>whnf
   rw [e]
   conv=>whnf
   rw [e]
   conv=>whnf
   rw [mz]
   refine jy (r:=[]) (h:=(h.set n (.lst [.int a])).set n (.lst [.int b])) (.inl rfl) (mz _ _ _) hm hb fun d h' d0 d1 r o=>?_
   exact k d h' d0 d1 r (Oth.set.trans (Oth.set.trans o))
  ·refine br_f rfl ?_
   exact jy (r:=[.int b]) (.inr ⟨b,rfl⟩) e hm hb k
def sX (c:MSp):Prop:=∀ {h:Gh} {n:Nat} {far:Int} {Q:WK} {E:XWK},Rs h n→20<far→Sm 7000 far→(∀ x h',-far<x→x<far→Rs h' n→Oth n h h'→Q (.int x) h')→c [.loc n,.int far] h Q E
theorem w_number {dg:MSp}(hd:jm dg):sX (v7 dg):=by
 intro h n far Q E e hf hb k
 conv=>whnf
 refine hd (n:=n) (many:=3) e (by decide) (by unfold Sm;decide +kernel) fun d h1 d0 d1 r1 o1=>?_
 refine ⟨fun h0=>?_,fun h0=>?_⟩
 ·conv=>whnf
  refine hd (n:=n) (many:=7) r1 (by decide) (by unfold Sm;decide +kernel) fun d h2 e0 e1 r2 o2=>?_
  exact k _ _ (by omega) (by omega) r2 (o1.trans o2)
 ·refine ⟨fun h0=>?_,fun h0=>?_⟩
  ·conv=>whnf
   refine hd (n:=n) (many:=41) r1 (by decide) (by unfold Sm;decide +kernel) fun d h2 e0 e1 r2 o2=>?_
   exact k _ _ (by omega) (by omega) r2 (o1.trans o2)
  ·conv=>whnf
   refine ⟨⟨3,7000,by decide,by decide,by unfold Sm;decide +kernel,hb⟩,?_⟩
   conv=>whnf
   refine hd (n:=n) (many:=2*far - 1) r1 (by omega) ?_ fun d h2 e0 e1 r2 o2=>?_
   ·have:Sm 7004 (2*far - 1):=(Sm.sub (m:=7003) (n:=1) (Sm.mul (m:=3) (n:=7000) (by unfold Sm;decide +kernel) hb) (by unfold Sm;decide +kernel))
    exact this.mono (by decide)
   ·exact k _ _ (by omega) (by omega) r2 (o1.trans o2)
theorem qd {ws ws0:List W}{g:MG}{b:MS}{D:cC}(I:Nat→Sw→Gh→Prop)
  (step:∀ (i:Nat) (w:W) (σ : Sw) (h:Gh) (N:Sw→Gh→Prop),(∀ σ' h',I (i+1) σ' h'→N σ' h')→ws[i]?=some w→I i σ h→g w σ h fun σ1 h1=>b { D with nx:=N,ct:=N,bk:=D.nx } σ1 h1)
  (fin:∀ σ h,I ws.length σ h→D.nx σ h):∀ {σ : Sw} {h:Gh},I 0 σ h→fW ⟨ws0,none⟩ g b D ws σ h:=by
 induction ws generalizing I with
 | nil=>intro σ h h0;exact fin σ h h0
 | cons w ws ih=>
  intro σ h h0
  refine step 0 w σ h _ (fun σ' h' q=>?_) rfl h0
  exact ih (fun i=>I (i+1)) (fun i w σ h N hN e hi=>step (i+1) w σ h N hN (by simpa using e) hi) (fun σ h q=>fin σ h q) q
theorem rC {ws ws0:List W}{own:W→Option (List W)}{ix:List Nat}{tt:MT}{te:ME}{σ : Sw}{Q:WK}(I:Nat→List W→Gh→Prop)
  (step:∀ (i:Nat) (w:W) (acc:List W) (h:Gh) (N:List W→Gh→Prop),(∀ acc' h',I (i+1) acc' h'→N acc' h')→ws[i]?=some w→I i acc h →
   ∃ vs,own w=some vs∧tt (vs.map some++sV ix σ) h fun c h1=>by2 c (te (vs.map some++sV ix σ) h1 fun v h2=>N (acc++[v]) h2) (N acc h1))
  (fin:∀ acc h,I ws.length acc h→Q (.lst acc) h):∀ {acc:List W} {h:Gh},I 0 acc h→qj ⟨ws0,none⟩ own ix tt te σ Q ws acc h:=by
 induction ws generalizing I with
 | nil=>intro acc h h0;exact fin acc h h0
 | cons w ws ih=>
  intro acc h h0
  obtain ⟨vs,ev,q⟩:=step 0 w acc h _ (fun acc' h' q=>ih (fun i=>I (i+1)) (fun i w acc h N hN e hi=>step (i+1) w acc h N hN (by simpa using e) hi) (fun acc h q=>fin acc h q) q) rfl h0
  show (match own w with
   | some vs=>_
   | none=>False)
  rw [ev]
  exact q
theorem rngW_get {lo:Int}{n i:Nat}{w:W}(e:(rngW lo n)[i]?=some w):i<n∧w=.int (lo+(i:Int)):=by
 have hi:i<n:=by
  have:=(List.getElem?_eq_some_iff.mp e).1
  simpa [rngW] using this
 unfold rngW at e
 rw [List.getElem?_map,List.getElem?_range hi] at e
 exact ⟨hi,(Option.some.inj e).symm⟩
theorem xJ {lo:Int}{n:Nat}:(rngW lo n).length=n:=by simp [rngW]
theorem for_rng {ma:MA}{j:Int}{g:MG}{b:MS}{D:cC}{σ : Sw}{h:Gh}(hm:∀ R,ma σ h R=R [.int j] h)(h1:-(2^62)≤j)(h2:j<2^62)(I:Nat→Sw→Gh→Prop)
  (step:∀ (i:Nat) (σ : Sw) (h:Gh) (N:Sw→Gh→Prop),(∀ σ' h',I (i+1) σ' h'→N σ' h')→i<j.toNat→I i σ h→g (.int (i:Int)) σ h fun σ1 h1=>b { D with nx:=N,ct:=N,bk:=D.nx } σ1 h1)
  (fin:∀ σ h,I j.toNat σ h→D.nx σ h) (h0:I 0 σ h):oN (fM ma) g b D σ h:=by
 unfold oN fM
 rw [hm]
 refine zV.mk h1 h2 ?_
 refine qd I (fun i w σ h N hN e hi=>?_) (fun σ h q=>fin σ h (by rw [xJ] at q;exact q)) h0
 obtain ⟨hlt,rfl⟩:=rngW_get e
 rw [Int.zero_add]
 exact step i σ h N hN hlt hi
theorem atI_ints {ns:List Int}{k:Int}(h0:0≤k)(h1:k<((ns.map W.int).length:Int)):atI (ns.map W.int) k=some (.int (ns.getD k.toNat 0)):=by
 have hk:k.toNat<ns.length:=by rw [List.length_map] at h1;omega
 have e:(ns.map W.int)[k.toNat]?=some (.int (ns.getD k.toNat 0)):=by
  rw [List.getElem?_map,List.getElem?_eq_getElem hk,List.getD_eq_getElem?_getD,List.getElem?_eq_getElem hk];rfl
 have:=nF e
 rwa [show ((k.toNat:Nat):Int)=k by omega] at this
def CellAtOk (c:MSp):Prop:=∀ {h:Gh} {ns:List Int} {k:Int} {Q:WK} {E:XWK},0≤k→Q (.int (ns.getD k.toNat 0)) h→c [.kls (ns.map .int),.int k] h Q E
theorem w_cell_at:CellAtOk uy:=by
 intro h ns k Q E h0 q
 show br (decide (k<((ns.map W.int).length:Int))) _ _
 refine iH (fun hk=>?_) (fun hk=>?_)
 ·conv=>whnf
  rw [atI_ints h0 hk]
  exact q
 ·have e:ns.getD k.toNat 0=0:=by
   rw [List.getD_eq_getElem?_getD,List.getElem?_eq_none (by rw [List.length_map] at hk;omega)];rfl
  rw [e] at q
  exact q
def RestOk (c:MSp):Prop:=∀ {h:Gh} {ns:List Int} {k:Int} {Q:WK} {E:XWK},0≤k→k≤1000→(∀ h',Rs h' h.nx→h'.nx=h.nx+1→(∀ m,m≠h.nx→h'.c m=h.c m)→Q (.loc h.nx) h')→c [.kls (ns.map .int),.int k] h Q E
theorem big_step {big one j:Int}{i:Nat}(h0:0≤big)(h1:Sm (50*i) big)(m0:0≤one)(m1:one<1000000000039):0≤big*10^12+one∧Sm (50*(i+1)) (big*10^12+one):=by
 have e:(2:Nat)^(50*(i+1))=2^(50*i)*2^50:=by rw [Nat.mul_add,Nat.pow_add]
 unfold Sm at h1 ⊢
 rw [e]
 have p:(10:Int)^12=1000000000000:=by decide
 rw [p]
 have q:(2:Nat)^50=1125899906842624:=by decide
 rw [q]
 generalize 2^(50*i)=t at h1 ⊢
 refine ⟨by omega,by omega⟩
theorem w_rest {ca:MSp}(hca:CellAtOk ca):RestOk (r_l_rest ca):=by
 intro h ns k Q E h0 h1 q
 conv=>whnf
 refine hca h0 ?_
 generalize ns.getD k.toNat 0=cell
 have c1:(10:Int)^(18:Int).toNat=1000000000000000000:=by decide
 have c2:(10:Int)^(12:Int).toNat=1000000000000:=by decide
 conv=>whnf
 refine ⟨⟨by decide,64,by decide,.lit rfl⟩,?_⟩
 conv=>whnf
 refine ⟨⟨by decide,by decide,by decide⟩,?_⟩
 conv=>whnf
 refine ⟨by decide,?_⟩
 conv=>whnf
 rw [c1,pO (by decide)]
 have y0:=Int.emod_nonneg (cell.fdiv 2) (show (1000000000000000000:Int)≠0 by decide)
 have y1:=Int.emod_lt_of_pos (cell.fdiv 2) (show (0:Int)<1000000000000000000 by decide)
 generalize cell.fdiv 2 % 1000000000000000000=y at y0 y1 ⊢
 refine ⟨.of (n:=10) (.lit rfl) (u5 (by omega) (by omega)) (by decide) (by decide),?_⟩
 conv=>whnf
 refine ⟨.of (m:=23) (n:=10) (u5 (by omega) (by omega)) (u5 (by omega) (by omega)) (by decide) (by decide),?_⟩
 conv=>whnf
 have k0:0≤k*k:=Int.mul_nonneg h0 h0
 have k1:k*k≤1000*1000:=Int.mul_le_mul h1 h1 h0 (by decide)
 have kk:7919*k*k=7919*(k*k):=Int.mul_assoc ..
 rw [kk]
 generalize k*k=k2 at k0 k1 ⊢
 refine ⟨.of (m:=64) (u5 (by omega) (by omega)) (.lit rfl) (by decide) (by decide),?_⟩
 conv=>whnf
 refine ⟨by decide,?_⟩
 rw [pO (by decide)]
 generalize hz:(y+7919*k2+1)*48271 % 999999000001=one
 have z0:0≤one:=by omega
 have z1:one<999999000001:=by omega
 dsimp only [nName,bF,bM,mC]
 refine for_rng (j:=60) (fun _=>rfl) (by decide) (by decide) (fun i σ h'=>h'=h∧∃ one big o,σ = [some (.kls (ns.map .int)),some (.int k),some (.int cell),some (.int one),some (.int big),o]∧0≤one∧one<999999000001∧0≤big∧Sm (50*i) big) ?_ ?_ ⟨rfl,one,0,none,rfl,z0,z1,Int.le_refl _,Sm.zero⟩
 ·rintro i σ h' N hN hi ⟨rfl,one,big,o,rfl,o0,o1,b0,b1⟩
  have hi:i<60:=hi
  conv=>whnf
  refine ⟨.of (m:=40) (u5 (by omega) (by omega)) (.lit rfl) (by decide) (by decide),?_⟩
  conv=>whnf
  refine ⟨.of (m:=6) (n:=6) (u5 (by omega) (by omega)) (u5 (by omega) (by omega)) (by decide) (by decide),?_⟩
  conv=>whnf
  refine ⟨by decide,?_⟩
  rw [pO (by decide)]
  generalize hj:(i:Int)*(i:Int)=jj
  generalize hz:(one*69621+jj+1) % 999999000001=one'
  have z0:0≤one':=by omega
  have z1:one'<999999000001:=by omega
  conv=>whnf
  refine ⟨⟨by decide,by decide,by decide⟩,?_⟩
  conv=>whnf
  rw [c2]
  refine ⟨.of (m:=50*i) b1 (.lit rfl) (by omega) (by decide),?_⟩
  conv=>whnf
  refine ⟨.of (n:=6) (.lit rfl) (u5 (by omega) (by omega)) (by decide) (by decide),?_⟩
  conv=>whnf
  refine ⟨.of (m:=40) (n:=41) (u5 (by omega) (by omega)) (u5 (by omega) (by omega)) (by decide) (by decide),?_⟩
  conv=>whnf
  refine ⟨by decide,?_⟩
  rw [pO (by decide)]
  generalize hm:one'*(one'+31*(i:Int)) % 1000000000039=m
  obtain ⟨g0,g1⟩:=big_step (one:=m) (i:=i) (j:=0) b0 b1 (by omega) (by omega)
  have g2:(10:Int)^12=1000000000000:=by decide
  rw [g2] at g0 g1
  exact hN _ _ ⟨rfl,one',_,_,rfl,z0,z1,g0,g1⟩
 ·rintro σ h' ⟨rfl,one,big,o,rfl,o0,o1,b0,b1⟩
  conv=>whnf
  refine ⟨by decide,?_⟩
  refine ⟨fun _=>?_,fun _=>?_⟩
  ·exact q _ (.inl ⟨_,new_c _ _⟩) rfl fun m hm=>wF hm
  ·conv=>whnf
   refine ⟨⟨by decide,64,by decide,.lit rfl⟩,?_⟩
   exact q _ (.inr ⟨_,_,new_c _ _⟩) rfl fun m hm=>wF hm
def gF (f n:Int):Int:=((Int.gcd n f:Nat):Int)
def gL (ns:List Int):Int:=ns.foldl gF 0
theorem gL_snoc (ns:List Int)(n:Int):gL (ns++[n])=gF (gL ns) n:=by unfold gL;rw [List.foldl_append];rfl
theorem gF_nn (f n:Int):0≤gF f n:=Int.natCast_nonneg _
theorem gL_nn (ns:List Int):0≤gL ns:=by
 rcases List.eq_nil_or_concat ns with rfl | ⟨l,a,rfl⟩
 ·exact Int.le_refl _
 ·rw [List.concat_eq_append,gL_snoc];exact gF_nn _ _
theorem gcd_step {x y:Int}(hx:0≤x)(hy:0<y):Int.gcd y (x.fmod y)=Int.gcd x y∧0≤x.fmod y∧x.fmod y<y:=by
 rw [Int.fmod_eq_emod_of_nonneg x (Int.le_of_lt hy)]
 refine ⟨?_,Int.emod_nonneg _ (by omega),Int.emod_lt_of_pos _ hy⟩
 obtain ⟨m,rfl⟩:=Int.eq_ofNat_of_zero_le hx
 obtain ⟨n,rfl⟩:=Int.eq_ofNat_of_zero_le (Int.le_of_lt hy)
 rw [←Int.natCast_emod,Int.gcd_natCast_natCast,Int.gcd_natCast_natCast,Nat.gcd_comm m n,Nat.gcd_rec n m,Nat.gcd_comm]
theorem abs_nn (a:Int):0≤(if a<0 then -a else a):=by split <;> omega
theorem abs_eq (a:Int):(if a<0 then -a else a)=(a.natAbs:Int):=by split <;> omega
theorem gcd_abs (a b:Int):Int.gcd (if a<0 then -a else a) (if b<0 then -b else b)=Int.gcd a b:=by
 rw [abs_eq,abs_eq];simp [Int.gcd]
theorem tM {x:Int}(h:0≤x):((Int.gcd x 0:Nat):Int)=x:=by
 rw [Int.gcd_zero_right];omega
def TwoOk (c:MSp):Prop:=∀ {h:Gh} {a b:Int} {Q:WK} {E:XWK},Q (.int (gF b a)) h→c [.int a,.int b] h Q E
theorem w_two:TwoOk jW:=by
 intro h a b Q E q
 conv=>whnf
 refine ⟨fun m σ h'=>h'=h∧∃ x y r,σ = [some (.int x),some (.int y),r]∧0≤x∧0≤y∧Int.gcd x y=Int.gcd a b∧m=y.toNat,⟨_,rfl,_,_,none,rfl,abs_nn a,abs_nn b,gcd_abs a b,rfl⟩,?_⟩
 rintro m σ h' ⟨rfl,x,y,r,rfl,x0,y0,hg,rfl⟩
 refine ⟨fun e=>?_,fun e=>?_⟩
 ·have hy:y≠0:=by simpa [eqW] using e
  obtain ⟨g1,g2,g3⟩:=gcd_step x0 (by omega:0<y)
  conv=>whnf
  refine ⟨hy,?_⟩
  refine ⟨(x.fmod y).toNat,by omega,rfl,y,x.fmod y,_,rfl,y0,g2,g1.trans hg,rfl⟩
 ·have hy:y=0:=by simpa [eqW] using e
  subst hy
  have:gF b a=x:=by unfold gF;rw [←hg];exact tM x0
  rw [this] at q
  exact q
def Ints (w:W)(ns:List Int):Prop:=w=.lst (ns.map .int)∨w=.tup (ns.map .int)
def pR (c:MSp):Prop:=∀ {h:Gh} {w:W} {ns:List Int} {Q:WK} {E:XWK},Ints w ns→Q (.int (gL ns)) h→c [w] h Q E
theorem ints_get {ns:List Int}{i:Nat}{w:W}(e:(ns.map W.int)[i]?=some w):∃ n,ns[i]?=some n∧w=.int n:=by
 rw [List.getElem?_map] at e
 cases q:ns[i]? with
 | none=>rw [q] at e;cases e
 | some n=>rw [q] at e;exact ⟨n,rfl,(Option.some.inj e).symm⟩
theorem gL_take {ns:List Int}{i:Nat}{n:Int}(e:ns[i]?=some n):gL (ns.take (i+1))=gF (gL (ns.take i)) n:=by
 rw [List.take_succ,e,←gL_snoc];rfl
theorem w_divisor {tw:MSp}(ht:TwoOk tw):pR (zK tw):=by
 intro h w ns Q E hw q
 have key:fW ⟨ns.map .int,none⟩ (nName 2) (bM (aH tw E (ao (aB 2) (ao (aB 1) aJ))) (nName 1)) { nx:=tV tw E { nx:=fun _ h'=>Q .non h',rt:=fun w h'=>Q w h' },rt:=fun w h'=>Q w h' } (ns.map .int) [some w,some (.int 0),none] h:=by
  refine qd (fun i σ h'=>h'=h∧∃ o,σ = [some w,some (.int (gL (ns.take i))),o]) ?_ ?_ ⟨rfl,none,rfl⟩
  ·rintro i x σ h' N hN e ⟨rfl,o,rfl⟩
   obtain ⟨n,en,rfl⟩:=ints_get e
   conv=>whnf
   refine ht ?_
   refine hN _ _ ⟨rfl,some (.int n),?_⟩
   rw [gL_take en]
   rfl
  ·rintro σ h' ⟨rfl,o,rfl⟩
   rw [List.length_map,List.take_length]
   exact q
 rcases hw with rfl | rfl <;> exact key
theorem gF_max (f n:Int)(hf:0≤f):Int.gcd (if (if n<0 then -n else n)>f then (if n<0 then -n else n) else f) (if (if n<0 then -n else n)<f then (if n<0 then -n else n) else f)=Int.gcd n f:=by
 rw [abs_eq]
 have e:Int.gcd (n.natAbs:Int) f=Int.gcd n f:=by simp [Int.gcd]
 rw [←e]
 generalize (n.natAbs:Int)=m
 by_cases h1:m>f
 ·rw [if_pos h1,if_neg (by omega)]
 ·rw [if_neg h1]
  by_cases h2:m<f
  ·rw [if_pos h2,Int.gcd_comm]
  ·rw [if_neg h2,show m=f by omega]
theorem w_ldivisor:pR tX:=by
 intro h w ns Q E hw q
 have key:∀ D:cC,D.nx=pJ E { nx:=fun _ h'=>Q .non h',rt:=fun w h'=>Q w h' } →
   fW ⟨ns.map .int,none⟩ (nName 2) (bF (bM (mCB kMax (ao (aB 1) (ao (mCB kAbs (ao (aB 2) aJ)) aJ))) (nName 3))
    (bF (bM (mCB kMin (ao (aB 1) (ao (mCB kAbs (ao (aB 2) aJ)) aJ))) (nName 4))
    (bF (mWhile (bK (mOp kGt (aB 4) (mC (.int 0)))) (mPar 3 4 (ao (aB 4) (ao (mOp rP (aB 3) (aB 4)) aJ))))
    (bM (aB 3) (nName 1))))) D (ns.map .int) [some w,some (.int 0),none,none,none] h:=by
  intro D hD
  refine qd (fun i σ h'=>h'=h∧∃ o p r,σ = [some w,some (.int (gL (ns.take i))),o,p,r]) ?_ ?_ ⟨rfl,none,none,none,rfl⟩
  ·rintro i x σ h' N hN e ⟨rfl,o,p,r,rfl⟩
   obtain ⟨n,en,rfl⟩:=ints_get e
   have f0:=gL_nn (ns.take i)
   generalize hf:gL (ns.take i)=f at f0
   conv=>whnf
   refine ⟨fun m σ h2=>h2=h'∧∃ x y,σ = [some w,some (.int f),some (.int n),some (.int x),some (.int y)]∧0≤x∧0≤y∧Int.gcd x y=Int.gcd n f∧m=y.toNat,⟨_,rfl,_,_,rfl,?_,?_,gF_max f n f0,rfl⟩,?_⟩
   ·have:=abs_nn n;split <;> omega
   ·have:=abs_nn n;split <;> omega
   ·rintro m σ h2 ⟨rfl,x,y,rfl,x0,y0,hg,rfl⟩
    refine ⟨fun e=>?_,fun e=>?_⟩
    ·have hy:0<y:=by simpa using e
     obtain ⟨g1,g2,g3⟩:=gcd_step x0 hy
     conv=>whnf
     refine ⟨by omega,?_⟩
     refine ⟨(x.fmod y).toNat,by omega,rfl,y,x.fmod y,rfl,y0,g2,g1.trans hg,rfl⟩
    ·have hy:y=0:=by
      have:¬ 0<y:=by simpa using e
      omega
     subst hy
     refine hN _ _ ⟨rfl,some (.int n),some (.int x),some (.int 0),?_⟩
     have:gL (ns.take (i+1))=x:=by rw [gL_take en,hf];unfold gF;rw [←hg];exact tM x0
     rw [this]
     rfl
  ·rintro σ h' ⟨rfl,o,p,r,rfl⟩
   rw [List.length_map,List.take_length]
   rw [hD]
   exact q
 rcases hw with rfl | rfl <;> exact key _ rfl
theorem gF_mul (f n k:Int)(hf:0≤f):gF (f*(k.natAbs:Int)) (n*k)=gF f n*(k.natAbs:Int):=by
 unfold gF
 rw [←Int.natCast_mul]
 congr 1
 unfold Int.gcd
 rw [Int.natAbs_mul,Int.natAbs_mul,Int.natAbs_natCast,Nat.gcd_mul_right]
theorem gL_mul (k:Int)(ns:List Int):gL (ns.map (· * k))=gL ns*(k.natAbs:Int):=by
 have:∀ (ns:List Int) (f:Int),0≤f→(ns.map (· * k)).foldl gF (f*(k.natAbs:Int))=ns.foldl gF f*(k.natAbs:Int):=by
  intro ns
  induction ns with
  | nil=>intro f _;rfl
  | cons n ns ih=>intro f hf;rw [List.map_cons,List.foldl_cons,List.foldl_cons,gF_mul f n k hf];exact ih _ (gF_nn _ _)
 have h:=this ns 0 (Int.le_refl _)
 rw [Int.zero_mul] at h
 exact h
theorem gF_sm {m:Nat}{f n:Int}(hf:Sm m f)(hn:Sm m n):Sm m (gF f n):=by
 unfold gF Sm at *
 rw [Int.natAbs_natCast]
 unfold Int.gcd
 by_cases e:n.natAbs=0
 ·rw [e,Nat.gcd_zero_left];exact hf
 ·exact Nat.lt_of_le_of_lt (Nat.gcd_le_left _ (Nat.pos_of_ne_zero e)) hn
theorem gL_sm {m:Nat}{ns:List Int}(h:∀ n∈ns,Sm m n):Sm m (gL ns):=by
 have:∀ (ns:List Int) (f:Int),Sm m f→(∀ n∈ns,Sm m n)→Sm m (ns.foldl gF f):=by
  intro ns
  induction ns with
  | nil=>intro f hf _;exact hf
  | cons n ns ih=>intro f hf h;exact ih _ (gF_sm hf (h n (by simp))) fun x hx=>h x (by simp [hx])
 exact this ns 0 Sm.zero h
def nM:List Int→Int
 | []=>0
 | n::ns=>if n=0 then nM ns else n
def iD (ns:List Int):Int:=nM ns.reverse
def PlL (ns:List Int):Prop:=gL ns=1∧0<iD ns
def NZ (ns:List Int):Prop:=∃ n∈ns,n≠0
theorem dZ {k:Int}(hk:k≠0)(x:Int):x*k=0↔x=0:=by
 rw [Int.mul_eq_zero];exact ⟨fun h=>h.elim id fun h=>absurd h hk,.inl⟩
theorem zc {k:Int}(hk:k≠0):∀ ns:List Int,nM (ns.map (· * k))=nM ns*k
 | []=>(Int.zero_mul k).symm
 | n::ns=>by
  rw [List.map_cons,nM,nM]
  by_cases h:n=0
  ·rw [if_pos h,if_pos ((dZ hk n).mpr h),zc hk ns]
  ·rw [if_neg h,if_neg (fun e=>h ((dZ hk n).mp e))]
theorem uo {k:Int}(hk:k≠0)(ns:List Int):iD (ns.map (· * k))=iD ns*k:=by
 unfold iD;rw [←List.map_reverse,zc hk]
theorem fstNZ_ne {ns:List Int}(h:NZ ns):nM ns≠0:=by
 induction ns with
 | nil=>obtain ⟨n,hn,_⟩:=h;cases hn
 | cons a ns ih=>
  rw [nM]
  by_cases e:a=0
  ·rw [if_pos e]
   refine ih ?_
   obtain ⟨n,hn,n0⟩:=h
   rcases List.mem_cons.mp hn with rfl | hn
   ·exact absurd e n0
   ·exact ⟨n,hn,n0⟩
  ·rw [if_neg e];exact e
theorem lastL_ne {ns:List Int}(h:NZ ns):iD ns≠0:=by
 obtain ⟨n,hn,n0⟩:=h
 exact fstNZ_ne ⟨n,List.mem_reverse.mpr hn,n0⟩
theorem gF_dvd (f n:Int):gF f n ∣ f∧gF f n ∣ n:=⟨Int.gcd_dvd_right ..,Int.gcd_dvd_left ..⟩
theorem gL_dvd {ns:List Int}:∀ n∈ns,gL ns ∣ n:=by
 have:∀ (ns:List Int) (f:Int),ns.foldl gF f ∣ f∧∀ n∈ns,ns.foldl gF f ∣ n:=by
  intro ns
  induction ns with
  | nil=>intro f;exact ⟨Int.dvd_refl _,fun n hn=>absurd hn (by simp)⟩
  | cons a ns ih=>
   intro f
   obtain ⟨h1,h2⟩:=ih (gF f a)
   refine ⟨Int.dvd_trans h1 (gF_dvd f a).1,fun n hn=>?_⟩
   rcases List.mem_cons.mp hn with rfl | hn
   ·exact Int.dvd_trans h1 (gF_dvd f n).2
   ·exact h2 n hn
 exact (this ns 0).2
theorem gL_ne {ns:List Int}(h:NZ ns):0<gL ns:=by
 have h0:=gL_nn ns
 obtain ⟨n,hn,n0⟩:=h
 have hd:=gL_dvd n hn
 by_cases e:gL ns=0
 ·rw [e] at hd;exact absurd (Int.zero_dvd.mp hd) n0
 ·omega
theorem PlL.nz {ns:List Int}(h:PlL ns):NZ ns:=by
 have:∀ l:List Int,0<nM l→NZ l:=by
  intro l
  induction l with
  | nil=>intro h;exact absurd h (by decide)
  | cons a l ih=>
   intro h
   rw [nM] at h
   by_cases e:a=0
   ·rw [if_pos e] at h
    obtain ⟨n,hn,n0⟩:=ih h
    exact ⟨n,List.mem_cons_of_mem _ hn,n0⟩
   ·exact ⟨a,by simp,e⟩
 obtain ⟨n,hn,n0⟩:=this _ h.2
 exact ⟨n,List.mem_reverse.mp hn,n0⟩
theorem plainL {ns:List Int}{by':Int}(h:NZ ns)(hb:by'=if iD ns<0 then 0 - gL ns else gL ns) :
  by'≠0∧PlL (ns.map (·.fdiv by'))∧ns=(ns.map (·.fdiv by')).map (· * by'):=by
 have g0:=gL_ne h
 have hn:by'≠0:=by rw [hb];split <;> omega
 have hd:∀ t,gL ns ∣ t→by' ∣ t:=fun t ht=>by
  rw [hb]
  split
  ·rw [Int.zero_sub];exact Int.neg_dvd.mpr ht
  ·exact ht
 have e:ns=(ns.map (·.fdiv by')).map (· * by'):=by
  rw [List.map_map]
  conv=>lhs;rw [←List.map_id ns]
  refine List.map_congr_left fun n hn'=>?_
  obtain ⟨m,hm⟩:=hd n (gL_dvd n hn')
  show n=n.fdiv by'*by'
  conv=>lhs;rw [hm]
  conv=>rhs;rw [hm]
  rw [Int.mul_fdiv_cancel_left _ hn,Int.mul_comm]
 refine ⟨hn,?_,e⟩
 generalize hms:ns.map (·.fdiv by')=ms at e
 have e1:gL ns=gL ms*(by'.natAbs:Int):=by rw [e];exact gL_mul by' ms
 have e2:(by'.natAbs:Int)=gL ns:=by rw [hb];split <;> omega
 have e3:iD ns=iD ms*by':=by rw [e];exact uo hn ms
 have l0:=lastL_ne h
 refine ⟨?_,?_⟩
 ·rw [e2] at e1
  have e1':gL ms*gL ns=1*gL ns:=by rw [←e1,Int.one_mul]
  exact Int.eq_of_mul_eq_mul_right (by omega) e1'
 ·by_cases hs:iD ns<0
  ·rw [if_pos hs] at hb
   have:by'<0:=by omega
   rw [e3] at hs
   by_cases q:0<iD ms
   ·exact q
   ·have:=Int.mul_nonneg_of_nonpos_of_nonpos (show iD ms≤0 by omega) (Int.le_of_lt this)
    omega
  ·rw [if_neg hs] at hb
   have:0<by':=by omega
   have hp:0<iD ns:=by omega
   rw [e3] at hp
   by_cases q:0<iD ms
   ·exact q
   ·have:=Int.mul_nonpos_of_nonpos_of_nonneg (show iD ms≤0 by omega) (Int.le_of_lt this)
    omega
theorem uL {k:Int}(hk:k≠0):∀ {ns ms:List Int},ns.map (· * k)=ms.map (· * k)→ns=ms
 | [],[],_=>rfl
 | [],_::_,h=>by simp at h
 | _::_,[],h=>by simp at h
 | a::ns,b::ms,h=>by
  rw [List.map_cons,List.map_cons] at h
  obtain ⟨h1,h2⟩:=List.cons.inj h
  rw [Int.eq_of_mul_eq_mul_right hk h1,uL hk h2]
theorem plL_eq {ns ms:List Int}(hn:PlL ns)(hm:PlL ms){s t:Int}(hs:s≠0)(ht:t≠0)(h:ns.map (· * s)=ms.map (· * t)):ns=ms:=by
 have e1:gL ns*(s.natAbs:Int)=gL ms*(t.natAbs:Int):=by rw [←gL_mul,←gL_mul,h]
 rw [hn.1,hm.1] at e1
 have e2:iD ns*s=iD ms*t:=by rw [←uo hs,←uo ht,h]
 have a:=hn.2
 have b:=hm.2
 have st:s=t:=by
  rcases Int.lt_or_gt_of_ne hs with s0 | s0 <;> rcases Int.lt_or_gt_of_ne ht with t0 | t0
  ·omega
  ·have x:=Int.mul_neg_of_pos_of_neg a s0
   have y:=Int.mul_pos b t0
   omega
  ·have x:=Int.mul_pos a s0
   have y:=Int.mul_neg_of_pos_of_neg b t0
   omega
  ·omega
 subst st
 exact uL hs h
def zq (c0:MSp):Prop:=∀ {h:Gh} {w:W} {ns:List Int} {m:Nat} {Q:WK} {E:XWK},Ints w ns→NZ ns→(∀ n∈ns,Sm m n)→m≤8000→ns.length≤1000 →
 (∀ (ms:List Int) (k:Int),k≠0→ns=ms.map (· * k)→PlL ms→(∀ n∈ms,Sm m n)→Q (.tup (ms.map .int)) h)→c0 [w] h Q E
theorem dO (a b:Int):eqW (.int a) (.int b)=(a==b):=by rw [eqW]
theorem sm_part {m:Nat}{a a' k:Int}(h:Sm m a)(e:a=a'*k)(hk:k≠0):Sm m a':=by
 refine h.le ?_
 rw [e,Int.natAbs_mul]
 exact Nat.le_mul_of_pos_right _ (by omega)
theorem sm_parts {m:Nat}{ns ms:List Int}{k:Int}(h:∀ n∈ns,Sm m n)(hk:k≠0)(e:ns=ms.map (· * k)):∀ n∈ms,Sm m n:=fun n hn=>
 sm_part (h (n*k) (by rw [e];exact List.mem_map.mpr ⟨n,hn,rfl⟩)) rfl hk
theorem lc_nz {ix:List Nat}{i:Nat}{σ : Sw}{h:Gh}{Q:WK}{w:W}{ns:List Int}(hv:σ[i]?=some (some w))(hs:yJ h w=some ⟨ns.map .int,none⟩)(hz:ns.length≤sizeLine)(k:Q (.lst ((ns.filter (·≠0)).map .int)) h) :
  mLC ow1 ix (nIt (aB i)) (bK (mOp kNe (aB 0) (mC (.int 0)))) (aB 0) σ h Q:=by
 unfold mLC nIt aB
 rw [hv]
 dsimp only
 rw [hs]
 refine j8.mk (by rw [List.length_map];exact hz) ?_
 refine rC (fun i acc h'=>h'=h∧acc=((ns.take i).filter (·≠0)).map W.int) ?_ ?_ ⟨rfl,rfl⟩
 ·rintro i w acc h' N hN e ⟨rfl,rfl⟩
  obtain ⟨n,en,rfl⟩:=ints_get e
  refine ⟨[.int n],rfl,?_⟩
  show by2 (!eqW (.int n) (.int 0)) (N (_++[W.int n]) h') _
  rw [dO]
  by_cases h0:n=0
  ·refine by2_f (by simp [h0]) (hN _ _ ⟨rfl,?_⟩)
   rw [List.take_succ,en]
   simp [h0]
  ·refine by2_t (by simp [h0]) (hN _ _ ⟨rfl,?_⟩)
   rw [List.take_succ,en]
   simp [h0]
 ·rintro acc h' ⟨rfl,rfl⟩
  rw [List.length_map,List.take_length]
  exact k
theorem last_nzL {ns:List Int}(h:NZ ns):atI ((ns.filter (·≠0)).map W.int) (-1)=some (.int (iD ns)):=by
 have key:∀ l:List Int,nM l≠0→∃ r,l.filter (·≠0)=nM l::r:=by
  intro l
  induction l with
  | nil=>intro h;exact absurd rfl h
  | cons a l ih=>
   intro h
   rw [nM] at h ⊢
   by_cases e:a=0
   ·rw [if_pos e] at h ⊢
    obtain ⟨r,hr⟩:=ih h
    exact ⟨r,by rw [List.filter_cons,if_neg (by simp [e])];exact hr⟩
   ·rw [if_neg e]
    exact ⟨_,by rw [List.filter_cons,if_pos (by simp [e])]⟩
 obtain ⟨r,hr⟩:=key ns.reverse (lastL_ne h)
 have hf:ns.filter (·≠0)=r.reverse++[iD ns]:=by
  rw [List.filter_reverse] at hr
  have:=congrArg List.reverse hr
  rw [List.reverse_reverse,List.reverse_cons] at this
  exact this
 rw [hf,List.map_append]
 exact yc _ _
theorem lc_div {ix:List Nat}{σ : Sw}{h:Gh}{Q:WK}{w:W}{ns:List Int}{by':Int}{m:Nat}(hs:yJ h w=some ⟨ns.map .int,none⟩)(hb:by'≠0)(hm:m≤8000)(hs':Sm m by')(hz:ns.length≤sizeLine)(hv:σ[0]?=some (some w))(hx:sV ix σ = [some (.int by')])(k:Q (.lst ((ns.map (·.fdiv by')).map .int)) h) :
  mLC ow1 ix (nIt (aB 0)) iR (mOp z6 (aB 0) (aB 1)) σ h Q:=by
 unfold mLC nIt aB
 rw [hv]
 dsimp only
 rw [hs]
 refine j8.mk (by rw [List.length_map];exact hz) ?_
 refine rC (fun i acc h'=>h'=h∧acc=((ns.take i).map (·.fdiv by')).map W.int) ?_ ?_ ⟨rfl,rfl⟩
 ·rintro i w acc h' N hN e ⟨rfl,rfl⟩
  obtain ⟨n,en,rfl⟩:=ints_get e
  refine ⟨[.int n],rfl,?_⟩
  rw [hx]
  refine ⟨⟨hb,m,hm,hs'⟩,?_⟩
  refine hN _ _ ⟨rfl,?_⟩
  rw [List.take_succ,en]
  simp
 ·rintro acc h' ⟨rfl,rfl⟩
  rw [List.length_map,List.take_length]
  exact k
theorem w_lplainL {ld:MSp}(hld:pR ld):zq (Ae ld):=by
 intro h w ns m Q E hw h0 hs hm hl q
 have hg0:=gL_ne h0
 have hgs:Sm m (gL ns):=gL_sm hs
 have hz:ns.length≤sizeLine:=Nat.le_trans hl (by decide)
 have src:yJ h w=some ⟨ns.map .int,none⟩:=by rcases hw with rfl | rfl <;> rfl
 have fin:∀ by',(by'=if iD ns<0 then 0 - gL ns else gL ns)→uG ld E { nx:=fun _ h'=>Q .non h',rt:=fun w h'=>Q w h' } [some w,some (.int by')] h:=by
  intro by' e
  obtain ⟨hn,pl,eq⟩:=plainL h0 e
  have hbs:Sm m by':=by refine hgs.le ?_;rw [e];split <;> omega
  show mLC ow1 [1] (nIt (aB 0)) iR (mOp z6 (aB 0) (aB 1)) [some w,some (.int by')] h _
  refine lc_div (w:=w) (ns:=ns) src hn hm hbs hz rfl rfl ?_
  exact q _ by' hn eq pl (sm_parts hs hn eq)
 refine hld hw ?_
 show mLC ow1 [] (nIt (aB 0)) (bK (mOp kNe (aB 0) (mC (.int 0)))) (aB 0) [some w,some (.int (gL ns))] h _
 refine lc_nz (ns:=ns) (w:=w) (i:=0) rfl src hz ?_
 have el:=last_nzL h0
 generalize (ns.filter (·≠0)).map W.int=F at el
 show (match atI F (-1) with
   | some w=>_
   | none=>False)
 rw [el]
 refine iH (fun hl=>?_) (fun hl=>?_)
 ·exact fin _ (by rw [if_pos hl])
 ·exact fin _ (by rw [if_neg hl])
def EndsL (c0:MSp):Prop:=∀ {h:Gh} {w:W} {ns:List Int} {Q:WK} {E:XWK},Ints w ns→Q (.bl (decide (iD ns<0))) h→c0 [w] h Q E
theorem w_endsL:EndsL qN:=by
 intro h w ns Q E hw q
 have key:∀ (l:List Int) (s:Src) (o:Option W),s.cell=none→Q (.bl (decide (nM l<0))) h→fW s (nName 1) (gY (bK (mOp kNe (aB 1) (mC (.int 0)))) (cj (mOp kLt (aB 1) (mC (.int 0)))) cA)
   { nx:=mK E { nx:=fun _ h'=>Q .non h',rt:=fun w h'=>Q w h' },rt:=fun w h'=>Q w h' } (l.map .int) [some w,o] h:=by
  intro l
  induction l with
  | nil=>
   intro s o hs q
   obtain ⟨ws,ix⟩:=s
   cases hs
   exact q
  | cons n l ih=>
   intro s o hs q
   obtain ⟨ws,ix⟩:=s
   cases hs
   rw [nM] at q
   refine ⟨fun e=>?_,fun e=>?_⟩
   ·rw [dO] at e
    rw [if_neg (by simpa using e)] at q
    exact q
   ·rw [dO] at e
    rw [if_pos (by simpa using e)] at q
    exact ih _ _ rfl q
 have k2:=key ns.reverse ⟨(ns.map .int).reverse,none⟩ none rfl q
 rw [List.map_reverse] at k2
 rcases hw with rfl | rfl <;> exact k2
theorem w_pplainL {dv en:MSp}(hdv:pR dv)(hen:EndsL en):zq (r_plain dv en):=by
 intro h w ns m Q E hw h0 hs hm hl q
 have hg0:=gL_ne h0
 have hgs:Sm m (gL ns):=gL_sm hs
 have hz:ns.length≤sizeLine:=Nat.le_trans hl (by decide)
 have src:yJ h w=some ⟨ns.map .int,none⟩:=by rcases hw with rfl | rfl <;> rfl
 have fin:∀ by',(by'=if iD ns<0 then 0 - gL ns else gL ns)→t_plain_3 dv en E { nx:=fun _ h'=>Q .non h',rt:=fun w h'=>Q w h' } [some w,some (.int by')] h:=by
  intro by' e
  obtain ⟨hn,pl,eq⟩:=plainL h0 e
  have hbs:Sm m by':=by refine hgs.le ?_;rw [e];split <;> omega
  show mLC ow1 [1] (nIt (aB 0)) iR (mOp z6 (aB 0) (aB 1)) [some w,some (.int by')] h _
  refine lc_div (w:=w) (ns:=ns) src hn hm hbs hz rfl rfl ?_
  exact q _ by' hn eq pl (sm_parts hs hn eq)
 refine hdv hw ?_
 refine br_f (by rw [dO];simp;omega) ?_
 refine hen hw ?_
 refine iH (fun hl=>?_) (fun hl=>?_)
 ·exact fin _ (by rw [if_pos hl,Int.zero_sub])
 ·exact fin _ (by rw [if_neg hl])
abbrev Tr:=Int×Int×Int
def tl (t:Tr):List Int:=[t.1,t.2.1,t.2.2]
def tw (t:Tr):W:=.tup [.int t.1,.int t.2.1,.int t.2.2]
def Pl (t:Tr):Prop:=PlL (tl t)
def SmT (m:Nat)(t:Tr):Prop:=Sm m t.1∧Sm m t.2.1∧Sm m t.2.2
def sc (k:Int)(t:Tr):Tr:=(t.1*k,t.2.1*k,t.2.2*k)
def Par (u t:Tr):Prop:=∃ k,k≠0∧u=sc k t
def crs (p q:Tr):Tr:=(p.2.1*q.2.2 - p.2.2*q.2.1,p.2.2*q.1 - p.1*q.2.2,p.1*q.2.1 - p.2.1*q.1)
def dt3 (p q:Tr):Int:=p.1*q.1+p.2.1*q.2.1+p.2.2*q.2.2
theorem SmT.mono {m n:Nat}{t:Tr}(h:SmT m t)(e:m≤n):SmT n t:=⟨h.1.mono e,h.2.1.mono e,h.2.2.mono e⟩
theorem SmT.all {m:Nat}{t:Tr}(h:SmT m t):∀ n∈tl t,Sm m n:=by
 intro n hn
 simp only [tl,List.mem_cons,List.not_mem_nil,or_false] at hn
 rcases hn with rfl | rfl | rfl
 ·exact h.1
 ·exact h.2.1
 ·exact h.2.2
theorem tr_zero {t:Tr}:t=(0,0,0)↔t.1=0∧t.2.1=0∧t.2.2=0:=by
 obtain ⟨a,b,c⟩:=t
 simp
theorem tl_nz {t:Tr}(h:t≠(0,0,0)):NZ (tl t):=by
 by_cases a:t.1=0
 ·by_cases b:t.2.1=0
  ·by_cases c:t.2.2=0
   ·exact absurd (tr_zero.mpr ⟨a,b,c⟩) h
   ·exact ⟨_,by simp [tl],c⟩
  ·exact ⟨_,by simp [tl],b⟩
 ·exact ⟨_,by simp [tl],a⟩
theorem tl_map {t:Tr}{k:Int}{ms:List Int}(e:tl t=ms.map (· * k)):∃ u:Tr,ms=tl u∧t=sc k u:=by
 match ms,congrArg List.length e,e with
 | [a,b,c],_,e=>
  simp only [tl,List.map_cons,List.map_nil,List.cons.injEq,and_true] at e
  exact ⟨(a,b,c),rfl,by obtain ⟨x,y,z⟩:=t;simp only [sc];simp only at e;rw [e.1,e.2.1,e.2.2]⟩
theorem zq.tr {c0:MSp}(hc:zq c0){h:Gh}{w:W}{u:Tr}{m:Nat}{Q:WK}{E:XWK}(hw:w=tw u∨w=.lst [.int u.1,.int u.2.1,.int u.2.2])(h0:u≠(0,0,0))(hs:SmT m u)(hm:m≤8000)
  (q:∀ t:Tr,Pl t→Par u t→SmT m t→Q (tw t) h):c0 [w] h Q E:=by
 refine hc (ns:=tl u) (m:=m) ?_ (tl_nz h0) hs.all hm (show 3≤1000 by decide) fun ms k hk e pl sm=>?_
 ·rcases hw with rfl | rfl
  ·exact .inr rfl
  ·exact .inl rfl
 ·obtain ⟨t,rfl,e'⟩:=tl_map e
  exact q t pl ⟨k,hk,e'⟩ ⟨sm _ (by simp [tl]),sm _ (by simp [tl]),sm _ (by simp [tl])⟩
theorem xG {k:Int}{t:Tr}(hk:k≠0):sc k t=(0,0,0)↔t=(0,0,0):=by
 rw [tr_zero,tr_zero]
 show (t.1*k=0∧t.2.1*k=0∧t.2.2*k=0)↔_
 rw [dZ hk,dZ hk,dZ hk]
theorem Pl.ne {t:Tr}(h:Pl t):t≠(0,0,0):=by
 rintro rfl
 obtain ⟨n,hn,n0⟩:=h.nz
 simp [tl] at hn
 exact n0 hn
theorem par_eq {u p q:Tr}(hp:Pl p)(hq:Pl q)(h1:Par u p)(h2:Par u q):p=q:=by
 obtain ⟨s,hs,e⟩:=h1
 obtain ⟨t,ht,e'⟩:=h2
 have h:sc s p=sc t q:=by rw [←e,←e']
 have:=plL_eq hp hq hs ht (by
  have:=congrArg tl h
  simpa [tl,sc] using this)
 obtain ⟨a,b,c⟩:=p
 obtain ⟨x,y,z⟩:=q
 simp only [tl,List.cons.injEq,and_true] at this
 rw [this.1,this.2.1,this.2.2]
theorem zR (a b:Int)(t:Tr):sc a (sc b t)=sc (b*a) t:=by simp only [sc,Int.mul_assoc]
theorem ray {p q:Tr}(hp:p≠(0,0,0))(h:crs p q=(0,0,0)):∃ s t:Int,s≠0∧sc s q=sc t p:=by
 obtain ⟨a,b,c⟩:=p
 obtain ⟨x,y,z⟩:=q
 have h1:b*z - c*y=0:=congrArg (·.1) h
 have h2:c*x - a*z=0:=congrArg (·.2.1) h
 have h3:a*y - b*x=0:=congrArg (·.2.2) h
 by_cases ha:a=0
 ·by_cases hb:b=0
  ·by_cases hc:c=0
   ·exact absurd (by rw [ha,hb,hc]) hp
   ·refine ⟨c,z,hc,?_⟩
    simp only [sc]
    refine Prod.ext ?_ (Prod.ext ?_ ?_) <;> simp only <;> grind
  ·refine ⟨b,y,hb,?_⟩
   simp only [sc]
   refine Prod.ext ?_ (Prod.ext ?_ ?_) <;> simp only <;> grind
 ·refine ⟨a,x,ha,?_⟩
  simp only [sc]
  refine Prod.ext ?_ (Prod.ext ?_ ?_) <;> simp only <;> grind
theorem plain_eq {p q:Tr}(hp:Pl p)(hq:Pl q)(h:crs p q=(0,0,0)):p=q:=by
 obtain ⟨s,t,hs,e⟩:=ray hp.ne h
 have ht:t≠0:=by
  rintro rfl
  have:sc s q=(0,0,0):=by rw [e];simp [sc]
  exact hq.ne ((xG hs).mp this)
 exact par_eq (u:=sc t p) hp hq ⟨t,ht,rfl⟩ ⟨s,hs,e.symm⟩
theorem crs_ne {p q:Tr}(hp:Pl p)(hq:Pl q)(h:p≠q):crs p q≠(0,0,0):=fun e=>h (plain_eq hp hq e)
theorem flat {n p q r:Tr}(hn:n≠(0,0,0))(hp:dt3 n p=0)(hq:dt3 n q=0)(hr:dt3 n r=0):dt3 (crs p q) r=0:=by
 obtain ⟨n1,n2,n3⟩:=n
 obtain ⟨p1,p2,p3⟩:=p
 obtain ⟨q1,q2,q3⟩:=q
 obtain ⟨r1,r2,r3⟩:=r
 simp only [dt3,crs] at *
 generalize hd:(p2*q3 - p3*q2)*r1+(p3*q1 - p1*q3)*r2+(p1*q2 - p2*q1)*r3=d
 have e1:n1*d=0:=by grind
 have e2:n2*d=0:=by grind
 have e3:n3*d=0:=by grind
 by_cases h:d=0
 ·exact h
 ·have f:∀ x:Int,x*d=0→x=0:=fun x e=>by
   rcases Int.mul_eq_zero.mp e with e | e
   ·exact e
   ·exact absurd e h
  exact absurd (by rw [f _ e1,f _ e2,f _ e3]) hn
theorem dt3_comm (p q:Tr):dt3 p q=dt3 q p:=by simp only [dt3,Int.mul_comm]
theorem yP (k:Int)(p q:Tr):dt3 (sc k p) q=dt3 p q*k:=by simp only [dt3,sc];grind
theorem qF (k:Int)(p q:Tr):dt3 p (sc k q)=dt3 p q*k:=by simp only [dt3,sc];grind
theorem crs_sc (k l:Int)(p q:Tr):crs (sc k p) (sc l q)=sc (k*l) (crs p q):=by
 simp only [crs,sc]
 refine Prod.ext ?_ (Prod.ext ?_ ?_) <;> simp only <;> grind
theorem d7 {m:Nat}{p q:Tr}(hp:SmT m p)(hq:SmT m q):SmT (m+m+1) (crs p q):=
 ⟨(hp.2.1.mul hq.2.2).sub (hp.2.2.mul hq.2.1) |>.mono (by omega),(hp.2.2.mul hq.1).sub (hp.1.mul hq.2.2) |>.mono (by omega),(hp.1.mul hq.2.1).sub (hp.2.1.mul hq.1) |>.mono (by omega)⟩
theorem eq_tw (p q:Tr):eqW (tw p) (tw q)=decide (p=q):=by
 obtain ⟨a,b,c⟩:=p
 obtain ⟨x,y,z⟩:=q
 unfold tw
 rw [eqW,qx,qx,qx,qx,dO,dO,dO]
 by_cases ha:a=x <;> by_cases hb:b=y <;> by_cases hc:c=z <;> simp [ha,hb,hc]
theorem eq000 (a b c:Int):eqW (.lst [.int a,.int b,.int c]) (.lst [.int 0,.int 0,.int 0])=decide (a=0∧b=0∧c=0):=by
 rw [eqW,qx,qx,qx,qx,dO,dO,dO]
 by_cases ha:a=0 <;> by_cases hb:b=0 <;> by_cases hc:c=0 <;> simp [ha,hb,hc]
def CrsOk (c0:MSp):Prop:=∀ {h:Gh} {p q:Tr} {m:Nat} {Q:WK} {E:XWK},m≤10000→SmT m p→SmT m q→Q (tw (crs p q)) h→c0 [tw p,tw q] h Q E
def DotOk (c0:MSp):Prop:=∀ {h:Gh} {p q:Tr} {m:Nat} {Q:WK} {E:XWK},m≤10000→SmT m p→SmT m q→Q (.int (dt3 p q)) h→c0 [tw p,tw q] h Q E
theorem viewL_loc {h:Gh}{n:Nat}{ws:List W}(e:h.c n=some (.lst ws)):fu h (.loc n)=some ws:=by simp only [fu,e]
theorem w_cross:CrsOk r_cross:=by
 intro h p q m Q E hm hp hq k
 obtain ⟨a,b,c⟩:=p
 obtain ⟨x,y,z⟩:=q
 obtain ⟨ha,hb,hc⟩:=hp
 obtain ⟨hx,hy,hz⟩:=hq
 simp only at ha hb hc hx hy hz
 ((conv=>whnf);repeat (refine And.intro (by exact eX.of (by trivial) (by trivial) (by omega) (by omega)) ?_;conv=>whnf))
 exact k
theorem w_dot:DotOk r_dot:=by
 intro h p q m Q E hm hp hq k
 obtain ⟨a,b,c⟩:=p
 obtain ⟨x,y,z⟩:=q
 obtain ⟨ha,hb,hc⟩:=hp
 obtain ⟨hx,hy,hz⟩:=hq
 simp only at ha hb hc hx hy hz
 ((conv=>whnf);repeat (refine And.intro (by exact eX.of (by trivial) (by trivial) (by omega) (by omega)) ?_;conv=>whnf))
 exact k
theorem w_ldot:DotOk r_l_dot:=by
 intro h p q m Q E hm hp hq k
 obtain ⟨a,b,c⟩:=p
 obtain ⟨x,y,z⟩:=q
 obtain ⟨ha,hb,hc⟩:=hp
 obtain ⟨hx,hy,hz⟩:=hq
 simp only at ha hb hc hx hy hz
 ((conv=>whnf);repeat (refine And.intro (by exact eX.of (by trivial) (by trivial) (by omega) (by omega)) ?_;conv=>whnf))
 show Q (.int (a*x+(b*y+(c*z+0)))) h
 have e:a*x+(b*y+(c*z+0))=dt3 (a,b,c) (x,y,z):=by simp only [dt3];omega
 rw [e]
 exact k
theorem w_lcross:CrsOk Ah:=by
 intro h p q m Q E hm hp hq k
 obtain ⟨a,b,c⟩:=p
 obtain ⟨x,y,z⟩:=q
 obtain ⟨ha,hb,hc⟩:=hp
 obtain ⟨hx,hy,hz⟩:=hq
 simp only at ha hb hc hx hy hz
 conv=>whnf
 rw [new_c]
 ((conv=>whnf);repeat (refine And.intro (by exact eX.of (by trivial) (by trivial) (by omega) (by omega)) ?_;conv=>whnf))
 rw [new_c]
 conv=>whnf
 refine ⟨by decide,?_⟩
 conv=>whnf
 rw [mz]
 ((conv=>whnf);repeat (refine And.intro (by exact eX.of (by trivial) (by trivial) (by omega) (by omega)) ?_;conv=>whnf))
 rw [mz]
 conv=>whnf
 refine ⟨by simp;decide,?_⟩
 conv=>whnf
 rw [mz]
 ((conv=>whnf);repeat (refine And.intro (by exact eX.of (by trivial) (by trivial) (by omega) (by omega)) ?_;conv=>whnf))
 rw [mz]
 conv=>whnf
 refine ⟨by simp;decide,?_⟩
 conv=>whnf
 rw [viewL_loc (mz _ _ _)]
 refine ⟨fun n c hn e=>?_,.inl ⟨by simp [Lo,Los],k⟩⟩
 rw [oF (by omega),oF (by omega),oF (by omega),wF (by omega)]
 exact e
theorem sm_far {fm:Nat}{far x:Int}(h:Sm fm far)(h0:-far<x)(h1:x<far):Sm fm x:=h.le (by omega)
def z7 (c0:MSp):Prop:=∀ {h:Gh} {n:Nat} {far:Int} {fm:Nat} {Q:WK} {E:XWK},Rs h n→20<far→Sm fm far→fm≤7000→(∀ t h',Pl t→SmT fm t→Rs h' n→Oth n h h'→Q (tw t) h')→c0 [.loc n,.int far] h Q E
theorem w_spot {nb pl:MSp}(hnb:sX nb)(hpl:zq pl):z7 (wH nb pl):=by
 intro h n far fm Q E hr hf hb hm q
 have f1:Sm 7000 far:=hb.mono hm
 unfold wH
 conv=>whnf
 refine hnb (n:=n) hr hf f1 fun a h1 a0 a1 r1 o1=>?_
 conv=>whnf
 refine hnb (n:=n) r1 hf f1 fun b h2 b0 b1 r2 o2=>?_
 conv=>whnf
 refine hnb (n:=n) r2 hf f1 fun c h3 c0 c1 r3 o3=>?_
 have ha:=sm_far hb a0 a1
 have hb':=sm_far hb b0 b1
 have hc:=sm_far hb c0 c1
 have o:=o1.trans (o2.trans o3)
 show br (eqW (.lst [.int a,.int b,.int c]) (.lst [.int 0,.int 0,.int 0])) _ _
 rw [eq000]
 refine iH (fun hz=>?_) (fun hz=>?_)
 ·exact hpl.tr (u:=(0,0,1)) (m:=fm) (.inr rfl) (by decide) ⟨Sm.zero,Sm.zero,hb.le (by show (1:Int).natAbs≤_;omega)⟩ (by omega) fun t p _ s=>q t h3 p s r3 o
 ·exact hpl.tr (u:=(a,b,c)) (m:=fm) (.inr rfl) (fun e=>hz (by simpa using e)) ⟨ha,hb',hc⟩ (by omega) fun t p _ s=>q t h3 p s r3 o
def AllP (ts:List Tr):Prop:=∀ p∈ts,∀ q∈ts,∀ r∈ts,dt3 (crs q r) p=0
def Z3 (ts:List Tr)(a b c:Nat):Prop:=∀ p q r,ts[a]?=some p→ts[b]?=some q→ts[c]?=some r→dt3 (crs q r) p=0
open Classical in
noncomputable def nY (ts:List Tr):Bool:=decide (AllP ts)
open Classical in
theorem uf {ts:List Tr}(h:AllP ts):nY ts=true:=by unfold nY;exact decide_eq_true h
open Classical in
theorem qu {ts:List Tr}(h:¬ AllP ts):nY ts=false:=by unfold nY;exact decide_eq_false h
theorem iM (p q r:Tr):dt3 (crs q r) p=dt3 (crs r p) q:=by simp only [dt3,crs];grind
theorem det_swap (p q r:Tr):dt3 (crs q r) p = - dt3 (crs r q) p:=by simp only [dt3,crs];grind
theorem pI (p q:Tr):dt3 (crs q q) p=0:=by simp only [dt3,crs];grind
theorem kY {ts:List Tr}(H:∀ k j i,k<j→j<i→Z3 ts k j i):AllP ts:=by
 intro p hp q hq r hr
 obtain ⟨a,ea⟩:=List.getElem?_of_mem hp
 obtain ⟨b,eb⟩:=List.getElem?_of_mem hq
 obtain ⟨c,ec⟩:=List.getElem?_of_mem hr
 have rot:∀ {p q r:Tr},dt3 (crs q r) p=0→dt3 (crs r p) q=0:=fun {p q r} h=>by rw [←iM];exact h
 have sw:∀ {p q r:Tr},dt3 (crs q r) p=0→dt3 (crs r q) p=0:=fun {p q r} h=>by rw [det_swap,h];rfl
 have ab:a=b→p=q:=fun e=>by subst e;rw [ea] at eb;exact Option.some.inj eb
 have bc:b=c→q=r:=fun e=>by subst e;rw [eb] at ec;exact Option.some.inj ec
 have ac:a=c→p=r:=fun e=>by subst e;rw [ea] at ec;exact Option.some.inj ec
 by_cases h1:a=b
 ·rw [ab h1];exact rot (pI r q)
 by_cases h2:b=c
 ·rw [bc h2];exact pI p r
 by_cases h3:a=c
 ·rw [ac h3];exact rot (rot (pI q r))
 by_cases l1:a<b
 ·by_cases l2:b<c
  ·exact H a b c l1 l2 _ _ _ ea eb ec
  ·by_cases l3:a<c
   ·exact sw (H a c b l3 (by omega) _ _ _ ea ec eb)
   ·exact rot (H c a b (by omega) l1 _ _ _ ec ea eb)
 ·by_cases l2:b<c
  ·by_cases l3:a<c
   ·exact sw (rot (H b a c (by omega) l3 _ _ _ eb ea ec))
   ·exact rot (rot (H b c a l2 (by omega) _ _ _ eb ec ea))
  ·exact sw (rot (rot (H c b a (by omega) (by omega) _ _ _ ec eb ea)))
theorem all_two (ts:List Tr)(h:ts.length≤2):AllP ts:=by
 refine kY fun k j i h1 h2 p q r _ _ e=>?_
 have:=(List.getElem?_eq_some_iff.mp e).1
 omega
theorem share_iff {ts:List Tr}{t0 u:Tr}(h0:t0∈ts)(hu:u∈ts)(hne:u≠t0)(hp:∀ t∈ts,Pl t):(∀ t∈ts,t≠t0→dt3 (crs t0 u) t=0)↔AllP ts:=by
 refine ⟨fun H=>?_,fun H t ht _=>H t ht t0 h0 u hu⟩
 have hn:=crs_ne (hp _ h0) (hp _ hu) (Ne.symm hne)
 have H':∀ t∈ts,dt3 (crs t0 u) t=0:=fun t ht=>by
  by_cases e:t=t0
  ·subst e
   rw [iM,iM];exact pI _ _
  ·exact H t ht e
 intro p hp q hq r hr
 exact flat hn (H' q hq) (H' r hr) (H' p hp)
theorem all_same {ts:List Tr}{t0:Tr}(H:∀ t∈ts,t=t0):AllP ts:=by
 intro p hp q hq r hr
 rw [H q hq,H r hr]
 exact pI _ _
theorem tw_get {ts:List Tr}{i:Nat}{w:W}(e:(ts.map tw)[i]?=some w):∃ t,ts[i]?=some t∧w=tw t:=by
 rw [List.getElem?_map] at e
 cases q:ts[i]? with
 | none=>rw [q] at e;cases e
 | some n=>rw [q] at e;exact ⟨n,rfl,(Option.some.inj e).symm⟩
theorem pl_tw (n:Nat)(t:Tr):plW (n+1) (tw t)=true:=by cases n <;> rfl
theorem bls_map:∀ bs:List Bool,blsW (bs.map W.bl)=some bs
 | []=>rfl
 | b::bs=>by rw [List.map_cons,blsW,bls_map bs];rfl
theorem lc_invS {s:Src}{ws:List W}{own:W→Option (List W)}{ix:List Nat}{tt:MT}{te:ME}{σ : Sw}{Q:WK}(I:Nat→List W→Gh→Prop)
  (go:∀ i acc h,I i acc h→∀ P:Prop,P→s.go h P)
  (step:∀ (i:Nat) (w:W) (acc:List W) (h:Gh) (N:List W→Gh→Prop),(∀ acc' h',I (i+1) acc' h'→N acc' h')→ws[i]?=some w→I i acc h →
   ∃ vs,own w=some vs∧tt (vs.map some++sV ix σ) h fun c h1=>by2 c (te (vs.map some++sV ix σ) h1 fun v h2=>N (acc++[v]) h2) (N acc h1))
  (fin:∀ acc h,I ws.length acc h→Q (.lst acc) h):∀ {acc:List W} {h:Gh},I 0 acc h→qj s own ix tt te σ Q ws acc h:=by
 induction ws generalizing I with
 | nil=>intro acc h h0;exact go 0 acc h h0 _ (fin acc h h0)
 | cons w ws ih=>
  intro acc h h0
  obtain ⟨vs,ev,q⟩:=step 0 w acc h _ (fun acc' h' q=>ih (fun i=>I (i+1)) (fun i=>go (i+1)) (fun i w acc h N hN e hi=>step (i+1) w acc h N hN (by simpa using e) hi) (fun acc h q=>fin acc h q) q) rfl h0
  refine go 0 acc h h0 _ ?_
  show (match own w with
   | some vs=>_
   | none=>False)
  rw [ev]
  exact q
theorem w_lcS {own:W→Option (List W)}{i:Nat}{ix:List Nat}{te:ME}{σ : Sw}{h:Gh}{Q:WK}{w:W}{ws:List W}(hv:σ[i]?=some (some w))(hs:yJ h w=some ⟨ws,none⟩)(hz:ws.length≤sizeLine)(k:qj ⟨ws,none⟩ own ix iR te σ Q ws [] h):mLC own ix (nIt (aB i)) iR te σ h Q:=by
 unfold mLC nIt aB
 rw [hv]
 dsimp only
 rw [hs]
 exact j8.mk hz k
def iQ (h:Gh)(w:W)(ts:List Tr):Prop:=w=.lst (ts.map tw)∨∃ n,w=.loc n∧h.c n=some (.lst (ts.map tw))
theorem iQ.src {h:Gh}{w:W}{ts:List Tr}(e:iQ h w ts):view h w=some (ts.map tw)∧∃ s:Src,yJ h w=some s∧s.ws=ts.map tw∧∀ P:Prop,P→s.go h P:=by
 rcases e with rfl | ⟨n,rfl,e⟩
 ·exact ⟨rfl,_,rfl,rfl,fun _ p=>p⟩
 ·refine ⟨nZ e,⟨ts.map tw,some (n,ts.map tw)⟩,by simp only [yJ,e],rfl,fun P p=>⟨e,p⟩⟩
theorem at_head (t0:Tr)(r:List Tr):atI ((t0::r).map tw) 0=some (tw t0):=nF (j:=0) rfl
theorem yV {h:Gh}{w:W}{t0:Tr}{r:List Tr}{o1 o2:Option W}{Q:WK}(e:iQ h w (t0::r))(hl:(t0::r).length≤1000)(q:Q (.lst (((t0::r).filter (·≠t0)).map tw)) h) :
  mLC ow1 [0] (nIt (aB 0)) (bK (mOp kNe (aB 0) (mOp kIx (aB 1) (mC (.int 0))))) (aB 0) [some w,o1,o2] h Q:=by
 obtain ⟨ev,s,es,ew,go⟩:=e.src
 generalize hts:t0::r=ts at *
 have a0:atI (ts.map tw) 0=some (tw t0):=by rw [←hts];exact at_head _ _
 show (match yJ h w with
  | some s=>_
  | none=>False)
 rw [es]
 show j8 s.ws.length (qj s _ _ _ _ _ _ s.ws [] h)
 rw [ew]
 refine j8.mk (by rw [List.length_map];exact Nat.le_trans hl (by decide)) ?_
 refine lc_invS (fun i acc h'=>h'=h∧acc=((ts.take i).filter (·≠t0)).map tw) ?_ ?_ ?_ ⟨rfl,rfl⟩
 ·rintro i acc h' ⟨rfl,_⟩
  exact go
 ·rintro i w2 acc h' N hN e2 ⟨rfl,rfl⟩
  obtain ⟨t,et,rfl⟩:=tw_get e2
  refine ⟨[tw t],rfl,?_⟩
  show (match view h' w with
   | some ws=>(match atI ws 0 with
    | some w=>_
    | none=>False)
   | none=>False)
  rw [ev]
  dsimp only
  rw [a0]
  show by2 (plW 30 (tw t)&&plW 30 (tw t0)) (by2 (!eqW (tw t) (tw t0)) (N (_++[tw t]) h') _) False
  rw [pl_tw 29,pl_tw 29,eq_tw]
  show by2 (!decide (t=t0)) _ _
  by_cases h0:t=t0
  ·refine by2_f (by simp [h0]) (hN _ _ ⟨rfl,?_⟩)
   rw [List.take_succ,et]
   simp [h0]
  ·refine by2_t (by simp [h0]) (hN _ _ ⟨rfl,?_⟩)
   rw [List.take_succ,et]
   simp [h0]
 ·rintro acc h' ⟨rfl,rfl⟩
  rw [List.length_map,List.take_length]
  exact q
def qI (c0:MSp):Prop:=∀ {h:Gh} {w:W} {ts:List Tr} {M:Nat} {Q:WK} {E:XWK},iQ h w ts→ts.length≤1000→M≤4000→(∀ t∈ts,Pl t∧SmT M t)→Q (.bl (nY ts)) h→c0 [w] h Q E
theorem w_share {dot cr:MSp}(hdot:DotOk dot)(hcr:CrsOk cr):qI (tE dot cr):=by
 intro h w ts M Q E e hl hM hs q
 show mLC ow1 [0] (nIt (aB 0)) (bK (mOp kNe (aB 0) (mOp kIx (aB 1) (mC (.int 0))))) (aB 0) [some w,none,none] h _
 match ts,e,hl,hs,q with
 | [],e,hl,hs,q=>
  obtain ⟨ev,s,es,ew,go⟩:=e.src
  rw [uf (all_two [] (by decide))] at q
  show (match yJ h w with
   | some s=>_
   | none=>False)
  rw [es]
  show j8 s.ws.length (qj s _ _ _ _ _ _ s.ws [] h)
  rw [ew]
  show s.go h _
  refine go _ ?_
  exact br_t rfl q
 | t0::r,e,hl,hs,q=>
  refine yV e hl ?_
  generalize hts:t0::r=ts at *
  have m0:t0∈ts:=by rw [←hts];simp
  have hus:∀ t,t∈ts.filter (·≠t0)↔t∈ts∧t≠t0:=fun t=>by rw [List.mem_filter];simp
  have hlu:(ts.filter (·≠t0)).length≤ts.length:=List.length_filter_le ..
  generalize ts.filter (·≠t0)=us at hus hlu
  match us,hus,hlu with
  | [],hus,_=>
   rw [uf (all_same (t0:=t0) fun t ht=>by
    by_cases e:t=t0
    ·exact e
    ·exact absurd ((hus t).mpr ⟨ht,e⟩) (by simp))] at q
   exact br_t rfl q
  | u::us,hus,hlu=>
   have hu:=(hus u).mp (by simp)
   refine br_f rfl ?_
   obtain ⟨ev,s,es,ew,go⟩:=e.src
   show (match view h w with
    | some ws=>(match atI ws 0 with
     | some w=>_
     | none=>False)
    | none=>False)
   rw [ev]
   dsimp only
   rw [show atI (ts.map tw) 0=some (tw t0) by rw [←hts];exact at_head _ _]
   show (match atI ((u::us).map tw) 0 with
    | some w=>_
    | none=>False)
   rw [at_head]
   show cr [tw t0,tw u] h _ _
   refine hcr (m:=M) (by omega) (hs _ m0).2 (hs _ hu.1).2 ?_
   have sc:=d7 (hs _ m0).2 (hs _ hu.1).2
   have it:=share_iff (u:=u) m0 hu.1 hu.2 fun t ht=>(hs t ht).1
   generalize crs t0 u=n at sc it
   generalize hvs:u::us=vs at *
   show mLC ow1 [2] (nIt (aB 1)) iR (mOp kEq (aH dot E (ao (aB 1) (ao (aB 0) aJ))) (mC (.int 0))) [some w,some (.lst (vs.map tw)),some (tw n)] h _
   refine w_lcS (w:=.lst (vs.map tw)) (ws:=vs.map tw) rfl rfl (by rw [List.length_map];exact Nat.le_trans (Nat.le_trans hlu hl) (by decide)) ?_
   refine rC (fun i acc h'=>h'=h∧acc=((vs.take i).map fun t=>dt3 n t==0).map W.bl) ?_ ?_ ⟨rfl,rfl⟩
   ·rintro i w2 acc h' N hN e2 ⟨rfl,rfl⟩
    obtain ⟨t,et,rfl⟩:=tw_get e2
    have mt:=(hus t).mp (List.mem_of_getElem? et)
    refine ⟨[tw t],rfl,?_⟩
    show dot [tw n,tw t] h' _ _
    refine hdot (m:=M+M+1) (by omega) sc ((hs t mt.1).2.mono (by omega)) ?_
    show N (_++[W.bl (eqW (.int (dt3 n t)) (.int 0))]) h'
    rw [dO]
    refine hN _ _ ⟨rfl,?_⟩
    rw [List.take_succ,et]
    simp
   ·rintro acc h' ⟨rfl,rfl⟩
    rw [List.length_map,List.take_length]
    show (match blsW ((vs.map fun t=>dt3 n t==0).map W.bl) with
     | some bs=>Q (.bl (bs.all id)) h'
     | none=>False)
    rw [bls_map]
    have ef:(vs.map fun t=>dt3 n t==0).all id=nY ts:=by
     by_cases H:AllP ts
     ·rw [uf H,List.all_eq_true]
      intro b hb
      obtain ⟨t,ht,rfl⟩:=List.mem_map.mp hb
      have:=it.mpr H t ((hus t).mp ht).1 ((hus t).mp ht).2
      simp [this]
     ·rw [qu H]
      refine Bool.eq_false_iff.mpr fun hb=>H (it.mp fun t ht hne=>?_)
      rw [List.all_eq_true] at hb
      have:=hb _ (List.mem_map.mpr ⟨t,(hus t).mpr ⟨ht,hne⟩,rfl⟩)
      simpa using this
    dsimp only
    rw [ef]
    exact q
theorem w_on_line {sh:MSp}(hsh:qI sh):qI (r_on_line sh):=by
 intro h w ts M Q E e hl hM hs q
 show sh [w] h _ _
 exact hsh e hl hM hs q
theorem for_invS {s:Src}{ws:List W}{g:MG}{b:MS}{D:cC}(I:Nat→Sw→Gh→Prop)(go:∀ i σ h,I i σ h→∀ P:Prop,P→s.go h P)
  (step:∀ (i:Nat) (w:W) (σ : Sw) (h:Gh) (N:Sw→Gh→Prop),(∀ σ' h',I (i+1) σ' h'→N σ' h')→ws[i]?=some w→I i σ h→g w σ h fun σ1 h1=>b { D with nx:=N,ct:=N,bk:=D.nx } σ1 h1)
  (fin:∀ σ h,I ws.length σ h→D.nx σ h):∀ {σ : Sw} {h:Gh},I 0 σ h→fW s g b D ws σ h:=by
 induction ws generalizing I with
 | nil=>intro σ h h0;exact go 0 σ h h0 _ (fin σ h h0)
 | cons w ws ih=>
  intro σ h h0
  refine go 0 σ h h0 _ ?_
  refine step 0 w σ h _ (fun σ' h' q=>?_) rfl h0
  exact ih (fun i=>I (i+1)) (fun i=>go (i+1)) (fun i w σ h N hN e hi=>step (i+1) w σ h N hN (by simpa using e) hi) (fun σ h q=>fin σ h q) q
theorem app_ok {h:Gh}{n:Nat}{us:List W}{w:W}{Q:WK}(e:h.c n=some (.lst us))(hz:us.length<sizeLine)(k:Q .non (h.set n (.lst (us++[w])))):nj (.loc n) [w] h Q:=by
 show (match h.c n with
  | some (Cell.lst us)=>_
  | _=>False)
 rw [e]
 exact ⟨hz,k⟩
theorem ext_ok {h:Gh}{n:Nat}{us zs:List W}{Q:WK}(e:h.c n=some (.lst us))(hz:us.length+zs.length≤sizeLine)(k:Q .non (h.set n (.lst (us++zs)))):gM (.loc n) [.lst zs] h Q:=by
 dsimp only [gM]
 rw [e]
 exact j8.mk hz k
theorem lc_rng {ma:MA}{j:Int}{own:W→Option (List W)}{ix:List Nat}{tt:MT}{te:ME}{σ : Sw}{h:Gh}{Q:WK}(hm:∀ R,ma σ h R=R [.int j] h)(h1:-(2^62)≤j)(h2:j<2^62)(hz:j.toNat≤sizeLine)(I:Nat→List W→Gh→Prop)
  (step:∀ (i:Nat) (acc:List W) (h:Gh) (N:List W→Gh→Prop),(∀ acc' h',I (i+1) acc' h'→N acc' h')→i<j.toNat→I i acc h →
   ∃ vs,own (.int (i:Int))=some vs∧tt (vs.map some++sV ix σ) h fun c h1=>by2 c (te (vs.map some++sV ix σ) h1 fun v h2=>N (acc++[v]) h2) (N acc h1))
  (fin:∀ acc h,I j.toNat acc h→Q (.lst acc) h) (h0:I 0 [] h):mLC own ix (fM ma) tt te σ h Q:=by
 unfold mLC fM
 rw [hm]
 refine zV.mk h1 h2 (j8.mk (by rw [xJ];exact hz) ?_)
 refine rC I (fun i w acc h N hN e hi=>?_) (fun acc h q=>fin acc h (by rw [xJ] at q;exact q)) h0
 obtain ⟨hlt,rfl⟩:=rngW_get e
 rw [Int.zero_add]
 exact step i acc h N hN hlt hi
abbrev Mt:=Tr×Tr×Tr
def vm (M:Mt)(v:Tr):Tr:=(dt3 M.1 v,dt3 M.2.1 v,dt3 M.2.2 v)
def tr (M:Mt):Mt:=((M.1.1,M.2.1.1,M.2.2.1),(M.1.2.1,M.2.1.2.1,M.2.2.2.1),(M.1.2.2,M.2.1.2.2,M.2.2.2.2))
def mm (M N:Mt):Mt:=(vm (tr N) M.1,vm (tr N) M.2.1,vm (tr N) M.2.2)
def cof (M:Mt):Mt:=(crs M.2.1 M.2.2,crs M.2.2 M.1,crs M.1 M.2.1)
def adj (M:Mt):Mt:=tr (cof M)
def det (M:Mt):Int:=dt3 (crs M.1 M.2.1) M.2.2
def sM (k:Int)(M:Mt):Mt:=(sc k M.1,sc k M.2.1,sc k M.2.2)
def idM:Mt:=((1,0,0),(0,1,0),(0,0,1))
theorem tr3 {p q:Tr}(h1:p.1=q.1)(h2:p.2.1=q.2.1)(h3:p.2.2=q.2.2):p=q:=Prod.ext h1 (Prod.ext h2 h3)
theorem mt3 {M N:Mt}(h1:M.1=N.1)(h2:M.2.1=N.2.1)(h3:M.2.2=N.2.2):M=N:=Prod.ext h1 (Prod.ext h2 h3)
theorem dt3_vm (x:Tr)(N:Mt)(v:Tr):dt3 (vm (tr N) x) v=dt3 x (vm N v):=by
 simp only [dt3,vm,tr]
 grind
theorem vm_mm (M N:Mt)(v:Tr):vm (mm M N) v=vm M (vm N v):=by
 simp only [mm]
 exact tr3 (dt3_vm _ _ _) (dt3_vm _ _ _) (dt3_vm _ _ _)
theorem tr_mm (M N:Mt):tr (mm M N)=mm (tr N) (tr M):=by
 simp only [mm,tr,vm]
 refine mt3 (tr3 ?_ ?_ ?_) (tr3 ?_ ?_ ?_) (tr3 ?_ ?_ ?_) <;> exact dt3_comm _ _
theorem kE (M:Mt)(k:Int)(v:Tr):vm M (sc k v)=sc k (vm M v):=tr3 (qF _ _ _) (qF _ _ _) (qF _ _ _)
theorem sM_vm (M:Mt)(k:Int)(v:Tr):vm (sM k M) v=sc k (vm M v):=tr3 (yP _ _ _) (yP _ _ _) (yP _ _ _)
theorem tr_sM (M:Mt)(k:Int):tr (sM k M)=sM k (tr M):=rfl
theorem id_vm (v:Tr):vm idM v=v:=by
 obtain ⟨a,b,c⟩:=v
 simp [vm,idM,dt3]
theorem mm_adj (M:Mt):mm M (adj M)=sM (det M) idM:=by
 obtain ⟨⟨a,b,c⟩,⟨d,e,f⟩,⟨g,h,i⟩⟩:=M
 simp only [mm,vm,adj,tr,cof,det,sM,idM,sc,dt3,crs]
 refine mt3 (tr3 ?_ ?_ ?_) (tr3 ?_ ?_ ?_) (tr3 ?_ ?_ ?_) <;> simp only <;> grind
theorem adj_mm (M:Mt):mm (adj M) M=sM (det M) idM:=by
 obtain ⟨⟨a,b,c⟩,⟨d,e,f⟩,⟨g,h,i⟩⟩:=M
 simp only [mm,vm,adj,tr,cof,det,sM,idM,sc,dt3,crs]
 refine mt3 (tr3 ?_ ?_ ?_) (tr3 ?_ ?_ ?_) (tr3 ?_ ?_ ?_) <;> simp only <;> grind
theorem crs_vm (M:Mt)(p q:Tr):crs (vm M p) (vm M q)=vm (cof M) (crs p q):=by
 obtain ⟨⟨a,b,c⟩,⟨d,e,f⟩,⟨g,h,i⟩⟩:=M
 obtain ⟨p1,p2,p3⟩:=p
 obtain ⟨q1,q2,q3⟩:=q
 simp only [vm,cof,dt3,crs]
 refine tr3 ?_ ?_ ?_ <;> simp only <;> grind
theorem dt3_cof (M:Mt)(x v:Tr):dt3 (vm (cof M) x) (vm M v)=det M*dt3 x v:=by
 show dt3 (vm (tr (adj M)) x) (vm M v)=_
 rw [dt3_vm,←vm_mm,adj_mm,sM_vm,id_vm,qF,Int.mul_comm]
theorem det_vm (M:Mt)(p q r:Tr):dt3 (crs (vm M p) (vm M q)) (vm M r)=det M*dt3 (crs p q) r:=by rw [crs_vm,dt3_cof]
theorem det_tr (M:Mt):det (tr M)=det M:=by
 obtain ⟨⟨a,b,c⟩,⟨d,e,f⟩,⟨g,h,i⟩⟩:=M
 simp only [det,tr,dt3,crs]
 grind
theorem det_mm (M N:Mt):det (mm M N)=det M*det N:=by
 show dt3 (crs (vm (tr N) M.1) (vm (tr N) M.2.1)) (vm (tr N) M.2.2)=_
 rw [det_vm,det_tr,Int.mul_comm]
 rfl
theorem det_sM (k:Int)(M:Mt):det (sM k M)=det M*(k*k*k):=by
 simp only [det,sM]
 rw [crs_sc,yP,qF]
 grind
theorem det_sM_ne {k:Int}{M:Mt}(hk:k≠0):det (sM k M)≠0↔det M≠0:=by
 rw [det_sM]
 have:k*k*k≠0:=fun h=>(Int.mul_eq_zero.mp h).elim (fun h=>(Int.mul_eq_zero.mp h).elim hk hk) hk
 rw [ne_eq,dZ this]
theorem det_id:det idM=1:=by decide
theorem det_adj {M:Mt}(h:det M≠0):det (adj M)≠0:=by
 have e:=det_mm M (adj M)
 rw [mm_adj,det_sM,det_id] at e
 intro z
 rw [z,Int.mul_zero,Int.one_mul] at e
 exact (Int.mul_eq_zero.mp e).elim (fun e=>(Int.mul_eq_zero.mp e).elim h h) h
theorem vm_ne {M:Mt}{v:Tr}(h:det M≠0)(hv:v≠(0,0,0)):vm M v≠(0,0,0):=by
 intro e
 have e2:vm (adj M) (vm M v)=(0,0,0):=by rw [e];simp [vm,dt3]
 rw [←vm_mm,adj_mm,sM_vm,id_vm] at e2
 exact hv ((xG h).mp e2)
def ml (M:Mt):List Int:=tl M.1++(tl M.2.1++tl M.2.2)
def mw (M:Mt):W:=.tup [.int M.1.1,.int M.1.2.1,.int M.1.2.2,.int M.2.1.1,.int M.2.1.2.1,.int M.2.1.2.2,.int M.2.2.1,.int M.2.2.2.1,.int M.2.2.2.2]
def mwl (M:Mt):W:=.lst [.int M.1.1,.int M.1.2.1,.int M.1.2.2,.int M.2.1.1,.int M.2.1.2.1,.int M.2.1.2.2,.int M.2.2.1,.int M.2.2.2.1,.int M.2.2.2.2]
def PlM (M:Mt):Prop:=PlL (ml M)
def SmM (m:Nat)(M:Mt):Prop:=SmT m M.1∧SmT m M.2.1∧SmT m M.2.2
def ParM (U M:Mt):Prop:=∃ k,k≠0∧U=sM k M
theorem SmM.mono {m n:Nat}{M:Mt}(h:SmM m M)(e:m≤n):SmM n M:=⟨h.1.mono e,h.2.1.mono e,h.2.2.mono e⟩
theorem SmM.all {m:Nat}{M:Mt}(h:SmM m M):∀ n∈ml M,Sm m n:=by
 intro n hn
 unfold ml at hn
 rcases List.mem_append.mp hn with hn | hn
 ·exact h.1.all n hn
 ·rcases List.mem_append.mp hn with hn | hn
  ·exact h.2.1.all n hn
  ·exact h.2.2.all n hn
theorem ml_nz {M:Mt}(h:det M≠0):NZ (ml M):=by
 by_cases h1:M.1=(0,0,0)
 ·exact absurd (by unfold det;rw [h1];simp [crs,dt3]) h
 ·obtain ⟨n,hn,n0⟩:=tl_nz h1
  exact ⟨n,List.mem_append_left _ hn,n0⟩
theorem ml_map {M:Mt}{k:Int}{ms:List Int}(e:ml M=ms.map (· * k)):∃ N:Mt,ms=ml N∧M=sM k N:=by
 match ms,congrArg List.length e,e with
 | [a,b,c,d,e',f,g,h,i],_,e=>
  simp only [ml,tl,List.cons_append,List.nil_append,List.map_cons,List.map_nil,List.cons.injEq,and_true] at e
  refine ⟨((a,b,c),(d,e',f),(g,h,i)),rfl,?_⟩
  obtain ⟨e1,e2,e3,e4,e5,e6,e7,e8,e9⟩:=e
  exact mt3 (tr3 e1 e2 e3) (tr3 e4 e5 e6) (tr3 e7 e8 e9)
theorem ParM.det {U M:Mt}(h:ParM U M):My.det U≠0↔My.det M≠0:=by
 obtain ⟨k,hk,rfl⟩:=h
 exact det_sM_ne hk
theorem zq.mt {c0:MSp}(hc:zq c0){h:Gh}{w:W}{U:Mt}{m:Nat}{Q:WK}{E:XWK}(hw:w=mw U∨w=mwl U)(h0:My.det U≠0)(hs:SmM m U)(hm:m≤8000)
  (q:∀ M:Mt,PlM M→ParM U M→SmM m M→Q (mw M) h):c0 [w] h Q E:=by
 refine hc (ns:=ml U) (m:=m) ?_ (ml_nz h0) hs.all hm (show 9≤1000 by decide) fun ms k hk e pl sm=>?_
 ·rcases hw with rfl | rfl
  ·exact .inr rfl
  ·exact .inl rfl
 ·obtain ⟨M,rfl,e'⟩:=ml_map e
  refine q M pl ⟨k,hk,e'⟩ ⟨⟨sm _ ?_,sm _ ?_,sm _ ?_⟩,⟨sm _ ?_,sm _ ?_,sm _ ?_⟩,⟨sm _ ?_,sm _ ?_,sm _ ?_⟩⟩ <;> simp [ml,tl]
theorem dt3_sm {m n:Nat}{p q:Tr}(hp:SmT m p)(hq:SmT n q):Sm (m+n+2) (dt3 p q):=
 ((hp.1.mul hq.1).add (hp.2.1.mul hq.2.1)).add (hp.2.2.mul hq.2.2) |>.mono (by omega)
theorem tr_sm {m:Nat}{M:Mt}(h:SmM m M):SmM m (tr M):=⟨⟨h.1.1,h.2.1.1,h.2.2.1⟩,⟨h.1.2.1,h.2.1.2.1,h.2.2.2.1⟩,⟨h.1.2.2,h.2.1.2.2,h.2.2.2.2⟩⟩
theorem vm_sm {m n:Nat}{M:Mt}{v:Tr}(h:SmM m M)(hv:SmT n v):SmT (m+n+2) (vm M v):=⟨dt3_sm h.1 hv,dt3_sm h.2.1 hv,dt3_sm h.2.2 hv⟩
theorem mm_sm {m n:Nat}{M N:Mt}(h:SmM m M)(h':SmM n N):SmM (n+m+2) (mm M N):=⟨vm_sm (tr_sm h') h.1,vm_sm (tr_sm h') h.2.1,vm_sm (tr_sm h') h.2.2⟩
theorem cof_sm {m:Nat}{M:Mt}(h:SmM m M):SmM (m+m+1) (cof M):=⟨d7 h.2.1 h.2.2,d7 h.2.2 h.1,d7 h.1 h.2.1⟩
theorem adj_sm {m:Nat}{M:Mt}(h:SmM m M):SmM (m+m+1) (adj M):=tr_sm (cof_sm h)
def wholeB:W→Bool
 | .int _=>true
 | _=>false
instance (ns:List Int):Decidable (PlL ns):=inferInstanceAs (Decidable (_∧_))
def lw (t:Tr):W:=.lst [.int t.1,.int t.2.1,.int t.2.2]
def rwB (b:Bool)(t:Tr):W:=if b then tw t else lw t
def MwB (b:Bool)(M:Mt):W:=if b then mw M else mwl M
def CrsG (c0:MSp):Prop:=∀ {h:Gh} {p q:Tr} {m:Nat} {Q:WK} {E:XWK} (b b':Bool),m≤10000→SmT m p→SmT m q→Q (tw (crs p q)) h→c0 [rwB b p,rwB b' q] h Q E
def DotG (c0:MSp):Prop:=∀ {h:Gh} {p q:Tr} {m:Nat} {Q:WK} {E:XWK} (b b':Bool),m≤10000→SmT m p→SmT m q→Q (.int (dt3 p q)) h→c0 [rwB b p,rwB b' q] h Q E
theorem w_crossG:CrsG r_cross:=by
 intro h p q m Q E b b' hm hp hq k
 obtain ⟨x,y,z⟩:=q
 obtain ⟨a,b2,c⟩:=p
 obtain ⟨ha,hb,hc⟩:=hp
 obtain ⟨hx,hy,hz⟩:=hq
 simp only at ha hb hc hx hy hz
 cases b <;> cases b'
 ·((conv=>whnf);repeat (refine And.intro (by exact eX.of (by trivial) (by trivial) (by omega) (by omega)) ?_;conv=>whnf))
  exact k
 ·((conv=>whnf);repeat (refine And.intro (by exact eX.of (by trivial) (by trivial) (by omega) (by omega)) ?_;conv=>whnf))
  exact k
 ·((conv=>whnf);repeat (refine And.intro (by exact eX.of (by trivial) (by trivial) (by omega) (by omega)) ?_;conv=>whnf))
  exact k
 ·((conv=>whnf);repeat (refine And.intro (by exact eX.of (by trivial) (by trivial) (by omega) (by omega)) ?_;conv=>whnf))
  exact k
theorem w_dotG:DotG r_dot:=by
 intro h p q m Q E b b' hm hp hq k
 obtain ⟨x,y,z⟩:=q
 obtain ⟨a,b2,c⟩:=p
 obtain ⟨ha,hb,hc⟩:=hp
 obtain ⟨hx,hy,hz⟩:=hq
 simp only at ha hb hc hx hy hz
 cases b <;> cases b'
 ·((conv=>whnf);repeat (refine And.intro (by exact eX.of (by trivial) (by trivial) (by omega) (by omega)) ?_;conv=>whnf))
  exact k
 ·((conv=>whnf);repeat (refine And.intro (by exact eX.of (by trivial) (by trivial) (by omega) (by omega)) ?_;conv=>whnf))
  exact k
 ·((conv=>whnf);repeat (refine And.intro (by exact eX.of (by trivial) (by trivial) (by omega) (by omega)) ?_;conv=>whnf))
  exact k
 ·((conv=>whnf);repeat (refine And.intro (by exact eX.of (by trivial) (by trivial) (by omega) (by omega)) ?_;conv=>whnf))
  exact k
def zj (c0:MSp):Prop:=∀ {h:Gh} {M:Mt} {Q:WK} {E:XWK} (b:Bool),Q (.lst [rwB b M.1,rwB b M.2.1,rwB b M.2.2]) h→c0 [MwB b M] h Q E
theorem w_rows:zj r_rows_of:=by
  intro h M Q E b k
  cases b
  · exact k
  · first
    | exact k
    | (refine And.intro (by decide:¬ ((0:Nat)=0∧(3:Nat)=9)) (And.intro (by decide:¬ ((3:Nat)=0∧(6:Nat)=9)) (And.intro (by decide:¬ ((6:Nat)=0∧(9:Nat)=9)) ?_))
       exact k)
def rQ (c0:MSp):Prop:=∀ {h:Gh} {M:Mt} {m:Nat} {Q:WK} {E:XWK} (b:Bool),m≤10000→SmM m M→Q (mw (cof M)) h→c0 [MwB b M] h Q E
theorem w_turned {cr ro:MSp}(hcr:CrsG cr)(hro:zj ro):rQ (r_turned cr ro):=by
 intro h M m Q E b hm hs k
 show ro [MwB b M] h _ _
 refine hro b ?_
 show cr [rwB b M.2.1,rwB b M.2.2] h _ _
 refine hcr b b hm hs.2.1 hs.2.2 ?_
 show cr [rwB b M.2.2,rwB b M.1] h _ _
 refine hcr b b hm hs.2.2 hs.1 ?_
 show cr [rwB b M.1,rwB b M.2.1] h _ _
 refine hcr b b hm hs.1 hs.2.1 ?_
 exact k
def TurnG (c0:MSp):Prop:=∀ {h:Gh} {p q r:Tr} {m:Nat} {Q:WK} {E:XWK} (b:Bool),m≤4000→SmT m p→SmT m q→SmT m r→Q (.int (dt3 (crs p q) r)) h→c0 [rwB b p,rwB b q,rwB b r] h Q E
theorem w_turnG {dt cr:MSp}(hdt:DotG dt)(hcr:CrsG cr):TurnG (r_turn dt cr):=by
 intro h p q r m Q E b hm hp hq hr k
 show cr [rwB b p,rwB b q] h _ _
 refine hcr (m:=m) b b (by omega) hp hq ?_
 show dt [rwB true (crs p q),rwB b r] h _ _
 exact hdt (m:=m+m+1) true b (by omega) (d7 hp hq) (hr.mono (by omega)) k
def FlipOk (c0:MSp):Prop:=∀ {h:Gh} {M:Mt} {Q:WK} {E:XWK} (b:Bool),Q (mwl (tr M)) h→c0 [MwB b M] h Q E
theorem flip_at {b:Bool}{M:Mt}{h:Gh}{Q:WK}:∀ (i:Nat) (w:W),[W.int M.1.1,.int M.2.1.1,.int M.2.2.1,.int M.1.2.1,.int M.2.1.2.1,.int M.2.2.2.1,.int M.1.2.2,.int M.2.1.2.2,.int M.2.2.2.2][i]?=some w→Q w h →
  mOp kIx (aB 1) (mOp cu (mOp cQ (mC (.int 3)) (mOp rP (aB 0) (mC (.int 3)))) (mOp z6 (aB 0) (mC (.int 3)))) [some (.int (i:Int)),some (MwB b M)] h Q:=by
 have c:∀ a b:Int,Nat.ble (a.natAbs+1) (2^64)=true→Nat.ble (b.natAbs+1) (2^64)=true→eX a b:=fun a b h1 h2=>.of (Sm.lit h1) (Sm.lit h2) (by decide) (by decide)
 have d:CDivBN 0 3:=⟨by decide,64,by decide,.lit rfl⟩
 intro i w e q
 match i,e with
 | 0,e | 1,e | 2,e | 3,e | 4,e | 5,e | 6,e | 7,e | 8,e=>
  have e':=Option.some.inj e
  subst e'
  refine And.intro (by decide) (And.intro (c _ _ rfl rfl) (And.intro d ?_))
  cases b
  ·exact q
  ·exact q
theorem w_flip:FlipOk yL:=by
 intro h M Q E b k
 show mLC ow1 [0] (fM (ao (mC (.int 9)) aJ)) iR (mOp kIx (aB 1) (mOp cu (mOp cQ (mC (.int 3)) (mOp rP (aB 0) (mC (.int 3)))) (mOp z6 (aB 0) (mC (.int 3))))) [some (MwB b M)] h _
 refine lc_rng (j:=9) (fun _=>rfl) (by decide) (by decide) (by decide) (fun i acc h'=>h'=h∧acc=[W.int M.1.1,.int M.2.1.1,.int M.2.2.1,.int M.1.2.1,.int M.2.1.2.1,.int M.2.2.2.1,.int M.1.2.2,.int M.2.1.2.2,.int M.2.2.2.2].take i) ?_ ?_ ⟨rfl,rfl⟩
 ·rintro i acc h' N hN hlt ⟨rfl,rfl⟩
  refine ⟨[.int (i:Int)],rfl,?_⟩
  have hi:i < [W.int M.1.1,.int M.2.1.1,.int M.2.2.1,.int M.1.2.1,.int M.2.1.2.1,.int M.2.2.2.1,.int M.1.2.2,.int M.2.1.2.2,.int M.2.2.2.2].length:=hlt
  refine flip_at (b:=b) (M:=M) i _ (List.getElem?_eq_getElem hi) ?_
  refine hN _ _ ⟨rfl,?_⟩
  rw [List.take_succ,List.getElem?_eq_getElem hi]
  rfl
 ·rintro acc h' ⟨rfl,rfl⟩
  exact k
def TTTOk (c0:MSp):Prop:=∀ {h:Gh} {M N:Mt} {m:Nat} {Q:WK} {E:XWK} (b b':Bool),m≤4000→SmM m M→SmM m N→Q (mwl (mm M N)) h→c0 [MwB b M,MwB b' N] h Q E
theorem w_ttt {dt ro fl:MSp}(hdt:DotG dt)(hro:zj ro)(hfl:FlipOk fl):TTTOk (gW dt ro fl):=by
 intro h M N m Q E b b' hm hM hN k
 have hT:=tr_sm hN
 show fl [MwB b' N] h _ _
 refine hfl b' ?_
 show ro [MwB false (tr N)] h _ _
 refine hro false ?_
 show ro [MwB b M] (h.new (.lst [])) _ _
 refine hro b ?_
 have dots:∀ (g:Gh) (r:Tr) (s0 s1 s3:Option W) (Q':WK),SmT m r→Q' (.lst [.int (dt3 r (tr N).1),.int (dt3 r (tr N).2.1),.int (dt3 r (tr N).2.2)]) g →
   mLC ow1 [4] (nIt (aB 2)) iR (aH dt E (ao (aB 1) (ao (aB 0) aJ))) [s0,s1,some (.lst [lw (tr N).1,lw (tr N).2.1,lw (tr N).2.2]),s3,some (rwB b r)] g Q':=by
  intro g r s0 s1 s3 Q' hr q
  show dt [rwB b r,rwB false (tr N).1] g _ _
  refine hdt b false (by omega) hr hT.1 ?_
  show dt [rwB b r,rwB false (tr N).2.1] g _ _
  refine hdt b false (by omega) hr hT.2.1 ?_
  show dt [rwB b r,rwB false (tr N).2.2] g _ _
  refine hdt b false (by omega) hr hT.2.2 ?_
  exact q
 show (match (h.new (.lst [])).c h.nx with
  | some (Cell.lst us)=>_
  | _=>False)
 rw [new_c]
 refine dots _ _ _ _ _ _ hM.1 ?_
 dsimp only [aJ]
 refine ext_ok (new_c _ _) (by simp;decide) ?_
 show (match ((h.new (.lst [])).set h.nx _).c h.nx with
  | some (Cell.lst us)=>_
  | _=>False)
 rw [mz]
 refine dots _ _ _ _ _ _ hM.2.1 ?_
 dsimp only [aJ]
 refine ext_ok (mz _ _ _) (by simp;decide) ?_
 show (match (((h.new (.lst [])).set h.nx _).set h.nx _).c h.nx with
  | some (Cell.lst us)=>_
  | _=>False)
 rw [mz]
 refine dots _ _ _ _ _ _ hM.2.2 ?_
 dsimp only [aJ]
 refine ext_ok (mz _ _ _) (by simp;decide) ?_
 refine ⟨fun n c hn e=>?_,.inr ⟨h.nx,_,rfl,Nat.le_refl _,mz _ _ _,?_,?_⟩⟩
 ·rw [oF (by omega),oF (by omega),oF (by omega),wF (by omega)]
  exact e
 ·simp [Lo,Los]
 ·have e:mwl (mm M N)=.lst [.int (dt3 M.1 (tr N).1),.int (dt3 M.1 (tr N).2.1),.int (dt3 M.1 (tr N).2.2),.int (dt3 M.2.1 (tr N).1),.int (dt3 M.2.1 (tr N).2.1),.int (dt3 M.2.1 (tr N).2.2),.int (dt3 M.2.2 (tr N).1),.int (dt3 M.2.2 (tr N).2.1),.int (dt3 M.2.2 (tr N).2.2)]:=by
   simp only [mwl,mm,vm,dt3_comm]
  rw [e] at k
  exact k
def BackOk (c0:MSp):Prop:=∀ {h:Gh} {M:Mt} {m:Nat} {Q:WK} {E:XWK},m≤3000→SmM m M→det M≠0→(∀ N,PlM N→ParM (adj M) N→SmM (m+m+1) N→Q (mw N) h)→c0 [mw M] h Q E
theorem w_back {pl fl tu:MSp}(hpl:zq pl)(hfl:FlipOk fl)(htu:rQ tu):BackOk (r_back pl fl tu):=by
 intro h M m Q E hm sM dM k
 show tu [MwB true M] h _ _
 refine htu true (by omega) sM ?_
 show fl [MwB true (cof M)] h _ _
 refine hfl true ?_
 show pl [mwl (adj M)] h _ _
 exact hpl.mt (m:=m+m+1) (.inr rfl) (det_adj dM) (adj_sm sM) (by omega) k
def LSizeOk (c0:MSp):Prop:=∀ {h:Gh} {M:Mt} {m:Nat} {Q:WK} {E:XWK},m≤4000→SmM m M→Q (.int (det M)) h→c0 [mwl M] h Q E
theorem lsize_end {Q:WK}{h:Gh}{w:W}{m:Nat}{a b c d e f g i j:Int}(hm:m≤4000)(s1:Sm m a)(s2:Sm m b)(s3:Sm m c)(s4:Sm m d)(s5:Sm m e)(s6:Sm m f)(s7:Sm m g)(s8:Sm m i)(s9:Sm m j)(q:Q (.int (a*(e*j - f*i) - b*(d*j - f*g)+c*(d*i - e*g))) h) :
  (bF (bM (mOp cQ (aB 1) (mOp lV (mOp cQ (aB 5) (aB 9)) (mOp cQ (aB 6) (aB 8)))) (nName 10))
  (bF (bM (mOp lV (aB 10) (mOp cQ (aB 2) (mOp lV (mOp cQ (aB 4) (aB 9)) (mOp cQ (aB 6) (aB 7))))) (nName 10))
  (cj (mOp cu (aB 10) (mOp cQ (aB 3) (mOp lV (mOp cQ (aB 4) (aB 8)) (mOp cQ (aB 5) (aB 7)))))))) { nx:=fun _ h'=>Q .non h',rt:=fun w h'=>Q w h' }
   [some w,some (.int a),some (.int b),some (.int c),some (.int d),some (.int e),some (.int f),some (.int g),some (.int i),some (.int j),none] h:=by
 ((conv=>whnf);repeat (refine And.intro (by exact eX.of (by trivial) (by trivial) (by omega) (by omega)) ?_;conv=>whnf))
 exact q
theorem w_lsize:LSizeOk r_l_size:=by
 intro h M m Q E hm hs q
 obtain ⟨⟨a,b,c⟩,⟨d,e,f⟩,⟨g,i,j⟩⟩:=M
 obtain ⟨⟨s1,s2,s3⟩,⟨s4,s5,s6⟩,⟨s7,s8,s9⟩⟩:=hs
 have ed:det ((a,b,c),(d,e,f),(g,i,j))=a*(e*j - f*i) - b*(d*j - f*g)+c*(d*i - e*g):=by
  simp only [det,dt3,crs]
  grind
 rw [ed] at q
 exact lsize_end (w:=mwl ((a,b,c),(d,e,f),(g,i,j))) hm s1 s2 s3 s4 s5 s6 s7 s8 s9 q
def LMapOk (c0:MSp):Prop:=∀ {h:Gh} {n:Nat} {far:Int} {fm:Nat} {Q:WK} {E:XWK},Rs h n→20<far→Sm fm far→fm≤4000→(∀ M h',PlM M→det M≠0→SmM fm M→Rs h' n→Oth n h h'→Q (mw M) h')→c0 [.loc n,.int far] h Q E
theorem w_lmap {nb pl sz:MSp}(hnb:sX nb)(hpl:zq pl)(hsz:LSizeOk sz):LMapOk (r_l_map nb pl sz):=by
 intro h n far fm Q E hr hf hb hm q
 have f1:Sm 7000 far:=hb.mono (by omega)
 show mLC ow1 [0,1] (fM (ao (mC (.int 9)) aJ)) iR (aH nb E (ao (aB 1) (ao (aB 2) aJ))) [some (.loc n),some (.int far),none] h _
 refine lc_rng (j:=9) (fun _=>rfl) (by decide) (by decide) (by decide) (fun i acc h'=>∃ ns:List Int,ns.length=i∧acc=ns.map W.int∧(∀ x∈ns,Sm fm x)∧Rs h' n∧Oth n h h') ?_ ?_ ⟨[],rfl,rfl,fun x hx=>absurd hx (by simp),hr,.refl _ _⟩
 ·rintro i acc h' N hN hlt ⟨ns,hl,rfl,hs,r1,o1⟩
  refine ⟨[.int (i:Int)],rfl,?_⟩
  show nb [.loc n,.int far] h' _ _
  refine hnb (n:=n) r1 hf f1 fun x h2 x0 x1 r2 o2=>?_
  refine hN _ _ ⟨ns++[x],by simp [hl],by simp,fun y hy=>?_,r2,o1.trans o2⟩
  rcases List.mem_append.mp hy with hy | hy
  ·exact hs y hy
  ·rw [List.mem_singleton.mp hy];exact sm_far hb x0 x1
 ·rintro acc h' ⟨ns,hl,rfl,hs,r1,o1⟩
  have hl:ns.length=9:=hl
  obtain ⟨M,rfl⟩:∃ M:Mt,ns=ml M:=by
   match ns,hl with
   | [a,b,c,d,e,f,g,i,j],_=>exact ⟨((a,b,c),(d,e,f),(g,i,j)),rfl⟩
  have sM:SmM fm M:=by
   refine ⟨⟨hs _ ?_,hs _ ?_,hs _ ?_⟩,⟨hs _ ?_,hs _ ?_,hs _ ?_⟩,⟨hs _ ?_,hs _ ?_,hs _ ?_⟩⟩ <;> simp [ml,tl]
  show sz [mwl M] h' _ _
  refine hsz hm sM ?_
  show br (eqW (.int (det M)) (.int 0)) _ _
  rw [show eqW (.int (det M)) (.int 0)=decide (det M=0) by rw [dO];rfl]
  have s1:Sm fm 1:=hb.le (by show (1:Int).natAbs≤_;omega)
  refine iH (fun hz=>?_) (fun hz=>?_)
  ·show pl [mwl ((1,0,M.1.2.2),(0,1,M.2.1.2.2),(0,0,1))] h' _ _
   refine hpl.mt (m:=fm) (.inr rfl) ?_ ⟨⟨s1,Sm.zero,sM.1.2.2⟩,⟨Sm.zero,s1,sM.2.1.2.2⟩,⟨Sm.zero,Sm.zero,s1⟩⟩ (by omega) fun N pN par sN=>q N h' pN ?_ sN r1 o1
   ·simp [det,dt3,crs]
   ·exact par.det.mp (by simp [det,dt3,crs])
  ·show pl [mwl M] h' _ _
   exact hpl.mt (m:=fm) (.inr rfl) hz sM (by omega) fun N pN par sN=>q N h' pN (par.det.mp hz) sN r1 o1
def LedOk (c0:MSp):Prop:=∀ {h:Gh} {M:Mt} {v:Tr} {m:Nat} {Q:WK} {E:XWK},m≤3000→SmM m M→SmT m v→det M≠0→v≠(0,0,0)→(∀ t,Pl t→Par (vm M v) t→SmT (m+m+2) t→Q (tw t) h)→c0 [mw M,tw v] h Q E
def TTROk (c0:MSp):Prop:=∀ {h:Gh} {M:Mt} {v:Tr} {m:Nat} {Q:WK} {E:XWK} (b:Bool),m≤4000→SmM m M→SmT m v→Q (lw (vm M v)) h→c0 [MwB b M,tw v] h Q E
theorem w_ttr {dt ro:MSp}(hdt:DotG dt)(hro:zj ro):TTROk (iU dt ro):=by
 intro h M v m Q E b hm sM sv k
 show ro [MwB b M] h _ _
 refine hro b ?_
 show dt [rwB b M.1,rwB true v] h _ _
 refine hdt b true (by omega) sM.1 sv ?_
 show dt [rwB b M.2.1,rwB true v] h _ _
 refine hdt b true (by omega) sM.2.1 sv ?_
 show dt [rwB b M.2.2,rwB true v] h _ _
 refine hdt b true (by omega) sM.2.2 sv ?_
 exact k
theorem w_led {pl tt:MSp}(hpl:zq pl)(htt:TTROk tt):LedOk (r_led pl tt):=by
 intro h M v m Q E hm sM sv dM hv k
 show tt [MwB true M,tw v] h _ _
 refine htt true (by omega) sM sv ?_
 show pl [lw (vm M v)] h _ _
 exact hpl.tr (u:=vm M v) (m:=m+m+2) (.inr rfl) (vm_ne dM hv) (vm_sm sM sv) (by omega) k
def mL (p q r s:Tr):Mt:=tr (sc (vm (cof (p,q,r)) s).1 p,sc (vm (cof (p,q,r)) s).2.1 q,sc (vm (cof (p,q,r)) s).2.2 r)
structure Leads (A:Mt) (p q r s:Tr):Prop where
 a:Par (vm A (1,0,0)) p
 b:Par (vm A (0,1,0)) q
 c:Par (vm A (0,0,1)) r
 d:Par (vm A (1,1,1)) s
theorem vm_e0 (a b c:Tr):vm (tr (a,b,c)) (1,0,0)=a:=by simp [vm,tr,dt3]
theorem vm_e1 (a b c:Tr):vm (tr (a,b,c)) (0,1,0)=b:=by simp [vm,tr,dt3]
theorem vm_e2 (a b c:Tr):vm (tr (a,b,c)) (0,0,1)=c:=by simp [vm,tr,dt3]
theorem vm_u (X:Mt):vm X (1,1,1)=((vm X (1,0,0)).1+(vm X (0,1,0)).1+(vm X (0,0,1)).1,(vm X (1,0,0)).2.1+(vm X (0,1,0)).2.1+(vm X (0,0,1)).2.1,(vm X (1,0,0)).2.2+(vm X (0,1,0)).2.2+(vm X (0,0,1)).2.2):=by
 obtain ⟨⟨a,b,c⟩,⟨d,e,f⟩,⟨g,h,i⟩⟩:=X
 simp [vm,dt3]
theorem tiles_u (p q r s:Tr):vm (mL p q r s) (1,1,1)=sc (det (p,q,r)) s:=by
 have e:vm (mL p q r s) (1,1,1)=vm (tr (p,q,r)) (vm (cof (p,q,r)) s):=by
  rw [vm_u]
  unfold mL
  rw [vm_e0,vm_e1,vm_e2]
  generalize vm (cof (p,q,r)) s=f
  obtain ⟨f0,f1,f2⟩:=f
  simp only [vm,tr,dt3,sc]
 have k:cof (p,q,r)=tr (adj (p,q,r)):=rfl
 rw [e,←vm_mm,k,←tr_mm,adj_mm,tr_sM,show tr idM=idM from rfl,sM_vm,id_vm]
theorem det_sc3 (a b c:Int)(p q r:Tr):det (tr (sc a p,sc b q,sc c r))=det (p,q,r)*(a*b*c):=by
 rw [det_tr]
 simp only [det]
 rw [crs_sc,yP,qF]
 grind
theorem nz2 {a b:Int}(h1:a≠0)(h2:b≠0):a*b≠0:=fun z=>(Int.mul_eq_zero.mp z).elim h1 h2
theorem ug {p q r s:Tr}(h1:dt3 (crs p q) r≠0)(h2:dt3 (crs p q) s≠0)(h3:dt3 (crs p r) s≠0)(h4:dt3 (crs q r) s≠0):det (mL p q r s)≠0:=by
 unfold mL
 rw [det_sc3]
 refine nz2 h1 (nz2 (nz2 h4 ?_) h2)
 show dt3 (crs r p) s≠0
 intro e
 refine h3 ?_
 have:dt3 (crs p r) s = - dt3 (crs r p) s:=by simp only [dt3,crs];grind
 rw [this,e];rfl
def FromOk (c0:MSp):Prop:=∀ {h:Gh} {p q r s:Tr} {m:Nat} {Q:WK} {E:XWK},m≤1000→SmT m p→SmT m q→SmT m r→SmT m s→dt3 (crs p q) r≠0→dt3 (crs p q) s≠0→dt3 (crs p r) s≠0→dt3 (crs q r) s≠0 →
 (∀ G,PlM G→ParM (mL p q r s) G→SmM (4*m+4) G→Q (mw G) h)→c0 [.lst [tw p,tw q,tw r,tw s]] h Q E
theorem from_at {p q r s f:Tr}{m:Nat}{h:Gh}{Q:WK}(hm:m≤1000)(sp:SmT m p)(sq:SmT m q)(sr:SmT m r)(sf:SmT (3*m+3) f):∀ (i:Nat) (w:W),
  [W.int (f.1*p.1),.int (f.2.1*q.1),.int (f.2.2*r.1),.int (f.1*p.2.1),.int (f.2.1*q.2.1),.int (f.2.2*r.2.1),.int (f.1*p.2.2),.int (f.2.1*q.2.2),.int (f.2.2*r.2.2)][i]?=some w→Q w h →
  mOp cQ (mOp kIx (aB 2) (mOp rP (aB 0) (mC (.int 3)))) (mOp kIx (mOp kIx (aB 1) (mOp rP (aB 0) (mC (.int 3)))) (mOp z6 (aB 0) (mC (.int 3)))) [some (.int (i:Int)),some (.lst [tw p,tw q,tw r,tw s]),some (lw f)] h Q:=by
 have c:∀ {a b:Int},Sm (3*m+3) a→Sm m b→eX a b:=fun h1 h2=>.of h1 h2 (by omega) (by omega)
 have d:CDivBN 0 3:=⟨by decide,64,by decide,.lit rfl⟩
 intro i w e k
 match i,e with
 | 0,e=>cases e;exact And.intro (by decide) (And.intro (by decide) (And.intro d (And.intro (c sf.1 sp.1) k)))
 | 1,e=>cases e;exact And.intro (by decide) (And.intro (by decide) (And.intro d (And.intro (c sf.2.1 sq.1) k)))
 | 2,e=>cases e;exact And.intro (by decide) (And.intro (by decide) (And.intro d (And.intro (c sf.2.2 sr.1) k)))
 | 3,e=>cases e;exact And.intro (by decide) (And.intro (by decide) (And.intro d (And.intro (c sf.1 sp.2.1) k)))
 | 4,e=>cases e;exact And.intro (by decide) (And.intro (by decide) (And.intro d (And.intro (c sf.2.1 sq.2.1) k)))
 | 5,e=>cases e;exact And.intro (by decide) (And.intro (by decide) (And.intro d (And.intro (c sf.2.2 sr.2.1) k)))
 | 6,e=>cases e;exact And.intro (by decide) (And.intro (by decide) (And.intro d (And.intro (c sf.1 sp.2.2) k)))
 | 7,e=>cases e;exact And.intro (by decide) (And.intro (by decide) (And.intro d (And.intro (c sf.2.1 sq.2.2) k)))
 | 8,e=>cases e;exact And.intro (by decide) (And.intro (by decide) (And.intro d (And.intro (c sf.2.2 sr.2.2) k)))
theorem w_from {pl tt tu:MSp}(hpl:zq pl)(htt:TTROk tt)(htu:rQ tu):FromOk (qP pl tt tu):=by
 intro h p q r s m Q E hm sp sq sr ss f1 f2 f3 f4 k
 have sP:SmM m (p,q,r):=⟨sp,sq,sr⟩
 have sf:SmT (3*m+3) (vm (cof (p,q,r)) s):=(vm_sm (cof_sm sP) ss).mono (by omega)
 show tu [MwB true (p,q,r)] h _ _
 refine htu true (by omega) sP ?_
 show tt [MwB true (cof (p,q,r)),tw s] h _ _
 refine htt (m:=m+m+1) true (by omega) (cof_sm sP) (ss.mono (by omega)) ?_
 have hd:=ug f1 f2 f3 f4
 have eT:mL p q r s=tr (sc (vm (cof (p,q,r)) s).1 p,sc (vm (cof (p,q,r)) s).2.1 q,sc (vm (cof (p,q,r)) s).2.2 r):=rfl
 generalize vm (cof (p,q,r)) s=f at sf eT
 show mLC ow1 [0,1] (fM (ao (mC (.int 9)) aJ)) iR (mOp cQ (mOp kIx (aB 2) (mOp rP (aB 0) (mC (.int 3)))) (mOp kIx (mOp kIx (aB 1) (mOp rP (aB 0) (mC (.int 3)))) (mOp z6 (aB 0) (mC (.int 3))))) [some (.lst [tw p,tw q,tw r,tw s]),some (lw f)] h _
 refine lc_rng (j:=9) (fun _=>rfl) (by decide) (by decide) (by decide) (fun i acc h'=>h'=h∧acc=[W.int (f.1*p.1),.int (f.2.1*q.1),.int (f.2.2*r.1),.int (f.1*p.2.1),.int (f.2.1*q.2.1),.int (f.2.2*r.2.1),.int (f.1*p.2.2),.int (f.2.1*q.2.2),.int (f.2.2*r.2.2)].take i) ?_ ?_ ⟨rfl,rfl⟩
 ·rintro i acc h' N hN hlt ⟨rfl,rfl⟩
  refine ⟨[.int (i:Int)],rfl,?_⟩
  have hi:i < [W.int (f.1*p.1),.int (f.2.1*q.1),.int (f.2.2*r.1),.int (f.1*p.2.1),.int (f.2.1*q.2.1),.int (f.2.2*r.2.1),.int (f.1*p.2.2),.int (f.2.1*q.2.2),.int (f.2.2*r.2.2)].length:=hlt
  refine from_at hm sp sq sr sf i _ (List.getElem?_eq_getElem hi) ?_
  refine hN _ _ ⟨rfl,?_⟩
  rw [List.take_succ,List.getElem?_eq_getElem hi]
  rfl
 ·rintro acc h' ⟨rfl,rfl⟩
  have e:mwl (mL p q r s)=.lst [W.int (f.1*p.1),.int (f.2.1*q.1),.int (f.2.2*r.1),.int (f.1*p.2.1),.int (f.2.1*q.2.1),.int (f.2.2*r.2.1),.int (f.1*p.2.2),.int (f.2.1*q.2.2),.int (f.2.2*r.2.2)]:=by
   rw [eT]
   simp only [mwl,tr,sc,Int.mul_comm]
  show pl [.lst [W.int (f.1*p.1),.int (f.2.1*q.1),.int (f.2.2*r.1),.int (f.1*p.2.1),.int (f.2.1*q.2.1),.int (f.2.2*r.2.1),.int (f.1*p.2.2),.int (f.2.1*q.2.2),.int (f.2.2*r.2.2)]] h' _ _
  rw [←e]
  refine hpl.mt (m:=4*m+4) (.inr rfl) hd ?_ (by omega) k
  rw [eT]
  have g:∀ {a b:Int},Sm m a→Sm (3*m+3) b→Sm (4*m+4) (a*b):=fun h1 h2=>(h1.mul h2).mono (by omega)
  exact ⟨⟨g sp.1 sf.1,g sq.1 sf.2.1,g sr.1 sf.2.2⟩,⟨g sp.2.1 sf.1,g sq.2.1 sf.2.1,g sr.2.1 sf.2.2⟩,⟨g sp.2.2 sf.1,g sq.2.2 sf.2.1,g sr.2.2 sf.2.2⟩⟩
structure Four (m:Nat) (p q r s:Tr):Prop where
 a:SmT m p
 b:SmT m q
 c:SmT m r
 d:SmT m s
def tK (Q:Bool→Gh→Prop):WK:=fun w h=>match w with
 | .bl c=>Q c h
 | _=>False
def uK (Q:Bool→Gh→Prop):WK:=fun w h=>match truW h w with
 | some b=>Q b h
 | none=>False
def aK (b:ME)(σ : Sw)(Q:WK):WK:=fun x h=>match x with
 | .bl true=>b σ h Q
 | .bl false=>Q (.bl false) h
 | _=>False
def oK (b:ME)(σ : Sw)(Q:WK):WK:=fun x h=>match x with
 | .bl false=>b σ h Q
 | .bl true=>Q (.bl true) h
 | _=>False
def nK (Q:WK):WK:=fun x h=>match x with
 | .bl c=>Q (.bl (!c)) h
 | _=>False
def iK (R:Src→Gh→Prop):WK:=fun w h=>match yJ h w with
 | some s=>R s h
 | none=>False
def xK (f:Str→Bool)(Q:WK):WK:=fun w h=>match w with
 | .exc n=>Q (.bl (f n)) h
 | .exa n _=>Q (.bl (f n)) h
 | _=>False
def pK (Q:Option Int→Gh→Prop):WK:=fun w h=>match w with
 | .int i=>Q (some i) h
 | _=>False
def forK (g:MG)(b:MS)(D:cC)(σ : Sw):Src→Gh→Prop:=fun s h=>fW s g b D s.ws σ h
def lcK (own:W→Option (List W))(ix:List Nat)(tt:MT)(te:ME)(σ : Sw)(Q:WK):Src→Gh→Prop:=fun s h=>j8 s.ws.length (qj s own ix tt te σ Q s.ws [] h)
def rgK (R:Src→Gh→Prop):List W→Gh→Prop:=fun ws h=>match ws with
 | [.int j]=>zV j (R ⟨rngW 0 j.toNat,none⟩ h)
 | _=>False
def zpK (R:Src→Gh→Prop):List W→Gh→Prop:=fun ws h=>match ws with
 | [x,y]=>(match zipS h x y with
  | some s=>R s h
  | none=>False)
 | _=>False
theorem bU {m u:MS}{D:cC}{σ : Sw}{h:Gh}(x:m { D with nx:=u D } σ h):bF m u D σ h:=x
theorem j7 {N b c:Sw→Gh→Prop}{r:WK}{σ : Sw}{h:Gh}(x:N σ h):cC.nx ⟨N,r,b,c⟩ σ h:=x
theorem bk_s {N b c:Sw→Gh→Prop}{r:WK}{σ : Sw}{h:Gh}(x:b σ h):cC.bk ⟨N,r,b,c⟩ σ h:=x
theorem ct_s {N b c:Sw→Gh→Prop}{r:WK}{σ : Sw}{h:Gh}(x:c σ h):cC.ct ⟨N,r,b,c⟩ σ h:=x
theorem rt_s {N b c:Sw→Gh→Prop}{r:WK}{w:W}{h:Gh}(x:r w h):cC.rt ⟨N,r,b,c⟩ w h:=x
theorem lost_rt {D:cC}{w:W}{h:Gh}(x:D.rt w h):cC.rt (cC.lost D) w h:=x
theorem lost_nx {D:cC}{σ : Sw}{h:Gh}(x:D.nx (σ.map fun _=>none) h):cC.nx (cC.lost D) σ h:=x
theorem mNext_s {D:cC}{σ : Sw}{h:Gh}(x:D.nx σ h):cA D σ h:=x
theorem cT {m:ME}{g:MG}{D:cC}{σ : Sw}{h:Gh}(x:m σ h fun w h1=>g w σ h1 D.nx):bM m g D σ h:=x
theorem xP {m:ME}{D:cC}{σ : Sw}{h:Gh}(x:m σ h fun _ h1=>D.nx σ h1):uT m D σ h:=x
theorem pQ {m:ME}{D:cC}{σ : Sw}{h:Gh}(x:m σ h D.rt):cj m D σ h:=x
theorem mRaise_s {c:Str}{E:XWK}{D:cC}{σ : Sw}{h:Gh}(x:E ⟨c,[]⟩ h):zY c E D σ h:=x
theorem vW {t:MT}{a b:MS}{D:cC}{σ : Sw}{h:Gh}(x:t σ h fun c h1=>br c (a D σ h1) (b D σ h1)):gY t a b D σ h:=x
theorem mIf_s {t:MT}{a b:ME}{Q:WK}{σ : Sw}{h:Gh}(x:t σ h fun c h1=>br c (a σ h1 Q) (b σ h1 Q)):mIf t a b σ h Q:=x
theorem mTry_s {i:Nat}{d:Str}{mb:XWK→MS}{mh:MS}{D:cC}{σ : Sw}{h:Gh}(x:mb (fun x h'=>by2 (isX x.cls d) (mh D.lost (σ.set i (some (excW x))) h') False) D σ h):mTry i d mb mh D σ h:=x
theorem nTup2_s {n:Nat}{g:MGs}{w:W}{ws:List W}{σ : Sw}{h:Gh}{N:Sw→Gh→Prop}(e:w=.tup ws)(b:Nat.beq ws.length n=true)(x:g ws σ h N):pX n g w σ h N:=by
 subst e
 unfold pX
 dsimp only
 rw [b]
 exact x
theorem nTup2_l {n:Nat}{g:MGs}{w:W}{ws:List W}{σ : Sw}{h:Gh}{N:Sw→Gh→Prop}(e:w=.lst ws)(b:Nat.beq ws.length n=true)(x:g ws σ h N):pX n g w σ h N:=by
 subst e
 unfold pX
 dsimp only
 rw [b]
 exact x
theorem nTup_s {n:Nat}{g:MGs}{w:W}{ws:List W}{σ : Sw}{h:Gh}{N:Sw→Gh→Prop}(e:w=.tup ws)(b:Nat.beq ws.length n=true)(x:g ws σ h N):nTup n g w σ h N:=by
 subst e
 unfold nTup
 dsimp only
 rw [b]
 exact x
theorem nCons_s {g:MG}{r:MGs}{w:W}{ws:List W}{σ : Sw}{h:Gh}{N:Sw→Gh→Prop}(x:g w σ h fun σ1 h1=>r ws σ1 h1 N):dX g r (w::ws) σ h N:=x
theorem nNil_s {σ : Sw}{h:Gh}{N:Sw→Gh→Prop}(x:N σ h):nNil [] σ h N:=x
theorem aP {i:Nat}{w:W}{σ : Sw}{h:Gh}{Q:WK}(e:σ[i]?=some (some w))(x:Q w h):aB i σ h Q:=by
 unfold aB
 rw [e]
 exact x
theorem yH {w:W}{σ : Sw}{h:Gh}{Q:WK}(x:Q w h):mC w σ h Q:=x
theorem eV {r:M2}{ma mb:ME}{σ : Sw}{h:Gh}{Q:WK}(x:ma σ h fun a h1=>mb σ h1 fun b h2=>r a b h2 Q):mOp r ma mb σ h Q:=x
theorem mUn_s {r:W→Gh→WK→Prop}{ma:ME}{σ : Sw}{h:Gh}{Q:WK}(x:ma σ h fun a h1=>r a h1 Q):mUn r ma σ h Q:=x
theorem mNeg_s {i:Int}{h:Gh}{Q:WK}(x:Q (.int (-i)) h):mNeg (.int i) h Q:=x
theorem aO {a:ME}{r:MA}{σ : Sw}{h:Gh}{Q:List W→Gh→Prop}(x:a σ h fun w h1=>r σ h1 fun ws h2=>Q (w::ws) h2):ao a r σ h Q:=x
theorem bJ {σ : Sw}{h:Gh}{Q:List W→Gh→Prop}(x:Q [] h):aJ σ h Q:=x
theorem fX {n:Nat}{P:Prop}(e:Nat.ble n 1000=true)(x:P):j8 n P:=by
 unfold j8
 rw [e]
 exact x
theorem oH {t:MA}{σ : Sw}{h:Gh}{Q:WK}(x:t σ h fun ws h1=>j8 ws.length (Q (.tup ws) h1)):j6 t σ h Q:=x
theorem mLst_s {t:MA}{σ : Sw}{h:Gh}{Q:WK}(x:t σ h fun ws h1=>j8 ws.length (Q (.lst ws) h1)):yI t σ h Q:=x
theorem cV {c:MSp}{E:XWK}{ma:MA}{σ : Sw}{h:Gh}{Q:WK}(x:ma σ h fun ws h1=>c ws h1 Q E):aH c E ma σ h Q:=x
theorem xQ {r:MC}{ma:MA}{σ : Sw}{h:Gh}{Q:WK}(x:ma σ h fun ws h1=>r ws h1 Q):mCB r ma σ h Q:=x
theorem nH {m:ME}{σ : Sw}{h:Gh}{Q:Bool→Gh→Prop}(x:m σ h (tK Q)):bK m σ h Q:=x
theorem tK_s {c:Bool}{h:Gh}{Q:Bool→Gh→Prop}(x:Q c h):tK Q (.bl c) h:=x
theorem mTru_s {m:ME}{σ : Sw}{h:Gh}{Q:Bool→Gh→Prop}(x:m σ h (uK Q)):mTru m σ h Q:=x
theorem uK_s {w:W}{b:Bool}{h:Gh}{Q:Bool→Gh→Prop}(e:truW h w=some b)(x:Q b h):uK Q w h:=by
 unfold uK
 rw [e]
 exact x
theorem mNot_s {t:MT}{σ : Sw}{h:Gh}{Q:Bool→Gh→Prop}(x:t σ h fun c h1=>Q (!c) h1):mNot t σ h Q:=x
theorem mAnd_s {t u:MT}{σ : Sw}{h:Gh}{Q:Bool→Gh→Prop}(x:t σ h fun c h1=>br c (u σ h1 Q) (Q false h1)):mAnd t u σ h Q:=x
theorem mOr_s {t u:MT}{σ : Sw}{h:Gh}{Q:Bool→Gh→Prop}(x:t σ h fun c h1=>br c (Q true h1) (u σ h1 Q)):mOr t u σ h Q:=x
theorem zE {σ : Sw}{h:Gh}{Q:Bool→Gh→Prop}(x:Q true h):iR σ h Q:=x
theorem mAndV_s {a b:ME}{σ : Sw}{h:Gh}{Q:WK}(x:a σ h (aK b σ Q)):mAndV a b σ h Q:=x
theorem mOrV_s {a b:ME}{σ : Sw}{h:Gh}{Q:WK}(x:a σ h (oK b σ Q)):mOrV a b σ h Q:=x
theorem mNotV_s {a:ME}{σ : Sw}{h:Gh}{Q:WK}(x:a σ h (nK Q)):mNotV a σ h Q:=x
theorem aK_s {b:ME}{σ : Sw}{h:Gh}{Q:WK}{c:Bool}(x:br c (b σ h Q) (Q (.bl false) h)):aK b σ Q (.bl c) h:=by
 cases c with
 | true=>exact x.1 rfl
 | false=>exact x.2 rfl
theorem oK_s {b:ME}{σ : Sw}{h:Gh}{Q:WK}{c:Bool}(x:br c (Q (.bl true) h) (b σ h Q)):oK b σ Q (.bl c) h:=by
 cases c with
 | true=>exact x.1 rfl
 | false=>exact x.2 rfl
theorem nK_s {h:Gh}{Q:WK}{c:Bool}(x:Q (.bl (!c)) h):nK Q (.bl c) h:=x
theorem mIsX_s {f:Str→Bool}{m:ME}{σ : Sw}{h:Gh}{Q:WK}(x:m σ h (xK f Q)):mIsX f m σ h Q:=x
theorem xK_s {f:Str→Bool}{n:Str}{h:Gh}{Q:WK}(x:Q (.bl (f n)) h):xK f Q (.exc n) h:=x
theorem br_ts {a b:Prop}(x:a):br true a b:=br_t rfl x
theorem br_fs {a b:Prop}(x:b):br false a b:=br_f rfl x
theorem br_nts {a b:Prop}(x:b):br (!true) a b:=br_fs x
theorem br_nfs {a b:Prop}(x:a):br (!false) a b:=br_ts x
theorem yK {a b:Prop}(x:a):by2 true a b:=x
theorem by2_fs {a b:Prop}(x:b):by2 false a b:=x
theorem kSub_s {i j:Int}{h:Gh}{Q:WK}(x:Q (.int (i - j)) h):lV (.int i) (.int j) h Q:=x
theorem kAddA_s {i j:Int}{h:Gh}{Q:WK}(x:Q (.int (i+j)) h):cu (.int i) (.int j) h Q:=x
theorem uQ {i j:Int}{h:Gh}{Q:WK}(c:eX i j)(x:Q (.int (i*j)) h):cQ (.int i) (.int j) h Q:=⟨c,x⟩
theorem vU {i j:Int}{h:Gh}{Q:WK}(c:j≠0)(x:Q (.int (i.fmod j)) h):rP (.int i) (.int j) h Q:=⟨c,x⟩
theorem kLt_s {i j:Int}{h:Gh}{Q:WK}(x:Q (.bl (decide (i<j))) h):kLt (.int i) (.int j) h Q:=x
theorem kGt_s {i j:Int}{h:Gh}{Q:WK}(x:Q (.bl (decide (i>j))) h):kGt (.int i) (.int j) h Q:=x
theorem kEq_i {i j:Int}{h:Gh}{Q:WK}(x:Q (.bl (decide (i=j))) h):kEq (.int i) (.int j) h Q:=by
 have e:eqW (.int i) (.int j)=decide (i=j):=dO i j
 show Q (.bl (eqW (.int i) (.int j))) h
 rw [e]
 exact x
theorem kNe_i {i j:Int}{h:Gh}{Q:WK}(x:Q (.bl (decide (i≠j))) h):kNe (.int i) (.int j) h Q:=by
 have e:(!eqW (.int i) (.int j))=decide (i≠j):=by rw [dO];by_cases z:i=j <;> simp [z]
 show Q (.bl (!eqW (.int i) (.int j))) h
 rw [e]
 exact x
theorem kEq_b {i j:Bool}{h:Gh}{Q:WK}(x:Q (.bl (decide (i=j))) h):kEq (.bl i) (.bl j) h Q:=by
 have e:eqW (.bl i) (.bl j)=decide (i=j):=by rw [eqW];cases i <;> cases j <;> rfl
 show Q (.bl (eqW (.bl i) (.bl j))) h
 rw [e]
 exact x
theorem kNe_b {i j:Bool}{h:Gh}{Q:WK}(x:Q (.bl (decide (i≠j))) h):kNe (.bl i) (.bl j) h Q:=by
 have e:(!eqW (.bl i) (.bl j))=decide (i≠j):=by rw [eqW];cases i <;> cases j <;> rfl
 show Q (.bl (!eqW (.bl i) (.bl j))) h
 rw [e]
 exact x
theorem kEq_t {p q:Tr}{h:Gh}{Q:WK}(x:Q (.bl (decide (p=q))) h):kEq (tw p) (tw q) h Q:=by
 show Q (.bl (eqW (tw p) (tw q))) h
 rw [eq_tw]
 exact x
theorem kNe_t {p q:Tr}{h:Gh}{Q:WK}(x:Q (.bl (decide (p≠q))) h):kNe (tw p) (tw q) h Q:=by
 have e:(!eqW (tw p) (tw q))=decide (p≠q):=by rw [eq_tw];by_cases z:p=q <;> simp [z]
 show Q (.bl (!eqW (tw p) (tw q))) h
 rw [e]
 exact x
theorem kEq_0 {p:Tr}{a b c:Int}{h:Gh}{Q:WK}(x:Q (.bl (decide (p=(a,b,c)))) h):kEq (tw p) (.tup [.int a,.int b,.int c]) h Q:=kEq_t (q:=(a,b,c)) x
theorem kNe_0 {p:Tr}{a b c:Int}{h:Gh}{Q:WK}(x:Q (.bl (decide (p≠(a,b,c)))) h):kNe (tw p) (.tup [.int a,.int b,.int c]) h Q:=kNe_t (q:=(a,b,c)) x
theorem wK {x w:W}{i:Int}{ws:List W}{h:Gh}{Q:WK}(e:view h x=some ws)(a:atI ws i=some w)(k:Q w h):kIx x (.int i) h Q:=by
 unfold kIx
 dsimp only
 rw [e]
 dsimp only
 rw [a]
 exact k
theorem kIsi_s {w:W}{T:String}{b:Bool}{h:Gh}{Q:WK}(e:isiW h w T=some b)(x:Q (.bl b) h):kIsi [w,.ty T] h Q:=by
 unfold kIsi
 dsimp only
 rw [e]
 exact x
theorem kLen_s {w:W}{xs:List W}{h:Gh}{Q:WK}(e:view h w=some xs)(x:Q (.int (xs.length:Int)) h):kLen [w] h Q:=by
 unfold kLen
 dsimp only
 rw [e]
 exact x
theorem kTuple_l {us:List W}{h:Gh}{Q:WK}(x:Q (.tup us) h):vQ [.lst us] h Q:=x
theorem kAny_s {w:W}{us:List W}{bs:List Bool}{h:Gh}{Q:WK}(e:fu h w=some us)(b:blsW us=some bs)(x:Q (.bl (bs.any id)) h):kAny [w] h Q:=by
 unfold kAny
 dsimp only
 rw [e]
 dsimp only
 rw [b]
 exact x
theorem kAll_s {w:W}{us:List W}{bs:List Bool}{h:Gh}{Q:WK}(e:fu h w=some us)(b:blsW us=some bs)(x:Q (.bl (bs.all id)) h):kAll [w] h Q:=by
 unfold kAll
 dsimp only
 rw [e]
 dsimp only
 rw [b]
 exact x
theorem kSum_s {w:W}{us:List W}{ns:List Int}{h:Gh}{Q:WK}(e:fu h w=some us)(b:intsW us=some ns)(x:Q (.int ns.sum) h):kSum [w] h Q:=by
 unfold kSum
 dsimp only
 rw [e]
 dsimp only
 rw [b]
 exact x
theorem kAbs_s {i:Int}{h:Gh}{Q:WK}(x:Q (.int (if i<0 then -i else i)) h):kAbs [.int i] h Q:=x
theorem kInt_b {b:Bool}{h:Gh}{Q:WK}(x:Q (.int (if b then 1 else 0)) h):kInt [.bl b] h Q:=x
theorem je {mi:MI}{g:MG}{b:MS}{D:cC}{σ : Sw}{h:Gh}(x:mi σ h (forK g b D σ)):oN mi g b D σ h:=x
theorem iY {ws:List W}{o:Option (Nat×List W)}{g:MG}{b:MS}{D:cC}{σ : Sw}{h:Gh}(x:fW ⟨ws,o⟩ g b D ws σ h):forK g b D σ ⟨ws,o⟩ h:=x
theorem mForL_n {ws:List W}{g:MG}{b:MS}{D:cC}{σ : Sw}{h:Gh}(x:D.nx σ h):fW ⟨ws,none⟩ g b D [] σ h:=x
theorem mForL_c {ws r:List W}{w:W}{g:MG}{b:MS}{D:cC}{σ : Sw}{h:Gh}(x:g w σ h fun σ1 h1=>b { D with nx:=fW ⟨ws,none⟩ g b D r,ct:=fW ⟨ws,none⟩ g b D r,bk:=D.nx } σ1 h1):fW ⟨ws,none⟩ g b D (w::r) σ h:=x
theorem uZ {m:ME}{R:Src→Gh→Prop}{σ : Sw}{h:Gh}(x:m σ h (iK R)):nIt m σ h R:=x
theorem iK_s {w:W}{ws:List W}{o:Option (Nat×List W)}{h:Gh}{R:Src→Gh→Prop}(e:yJ h w=some ⟨ws,o⟩)(x:R ⟨ws,o⟩ h):iK R w h:=by
 unfold iK
 rw [e]
 exact x
theorem lq {ma:MA}{R:Src→Gh→Prop}{σ : Sw}{h:Gh}(x:ma σ h (rgK R)):fM ma σ h R:=x
theorem rgK_3 {R:Src→Gh→Prop}{h:Gh}(x:R ⟨[.int 0,.int 1,.int 2],none⟩ h):rgK R [.int 3] h:=x
theorem rgK_2 {R:Src→Gh→Prop}{h:Gh}(x:R ⟨[.int 0,.int 1],none⟩ h):rgK R [.int 2] h:=x
theorem nZip_s {ma:MA}{R:Src→Gh→Prop}{σ : Sw}{h:Gh}(x:ma σ h (zpK R)):nZip ma σ h R:=x
theorem zpK_s {a b:W}{as bs:List W}{zs:List W}{R:Src→Gh→Prop}{h:Gh}(e:vg a=some as)(e':vg b=some bs)(z:uX as bs=zs)(x:R ⟨zs,none⟩ h):zpK R [a,b] h:=by
 subst z
 have es:zipS h a b=some ⟨uX as bs,none⟩:=by unfold zipS;rw [e,e']
 unfold zpK
 dsimp only
 rw [es]
 exact x
theorem zpK_c {n:Nat}{b:W}{as bs:List W}{zs:List W}{R:Src→Gh→Prop}{h:Gh}(e:h.c n=some (.lst as))(e':vg b=some bs)(z:uX as bs=zs)(x:R ⟨zs,some (n,as)⟩ h):zpK R [.loc n,b] h:=by
 subst z
 have es:zipS h (.loc n) b=some ⟨uX as bs,some (n,as)⟩:=by unfold zipS;rw [e'];dsimp only [vg];rw [e]
 unfold zpK
 dsimp only
 rw [es]
 exact x
theorem zip0 {bs:List W}:uX [] bs=[]:=by cases bs <;> rfl
theorem zip1 {a:W}{as:List W}:uX (a::as) []=[]:=rfl
theorem zipC {a b:W}{as bs l:List W}(e:uX as bs=l):uX (a::as) (b::bs)=.tup [a,b]::l:=by rw [uX,e]
theorem mLC_s {own:W→Option (List W)}{ix:List Nat}{mi:MI}{tt:MT}{te:ME}{σ : Sw}{h:Gh}{Q:WK}(x:mi σ h (lcK own ix tt te σ Q)):mLC own ix mi tt te σ h Q:=x
theorem lcK_s {ws:List W}{o:Option (Nat×List W)}{own:W→Option (List W)}{ix:List Nat}{tt:MT}{te:ME}{σ : Sw}{h:Gh}{Q:WK}(e:Nat.ble ws.length 1000=true)(x:qj ⟨ws,o⟩ own ix tt te σ Q ws [] h):lcK own ix tt te σ Q ⟨ws,o⟩ h:=fX e x
theorem mLCL_n {ws acc:List W}{own:W→Option (List W)}{ix:List Nat}{tt:MT}{te:ME}{σ : Sw}{h:Gh}{Q:WK}(x:Q (.lst acc) h):qj ⟨ws,none⟩ own ix tt te σ Q [] acc h:=x
theorem mLCL_c {ws r acc vs:List W}{w:W}{own:W→Option (List W)}{ix:List Nat}{tt:MT}{te:ME}{σ : Sw}{h:Gh}{Q:WK}(e:own w=some vs)(x:tt (vs.map some++sV ix σ) h fun c h1=>by2 c (te (vs.map some++sV ix σ) h1 fun v h2=>qj ⟨ws,none⟩ own ix tt te σ Q r (acc++[v]) h2) (qj ⟨ws,none⟩ own ix tt te σ Q r acc h1)):qj ⟨ws,none⟩ own ix tt te σ Q (w::r) acc h:=by
 unfold qj
 show match own w with
  | some vs=>tt (vs.map some++sV ix σ) h fun c h1=>by2 c (te (vs.map some++sV ix σ) h1 fun v h2=>qj ⟨ws,none⟩ own ix tt te σ Q r (acc++[v]) h2) (qj ⟨ws,none⟩ own ix tt te σ Q r acc h1)
  | none=>False
 rw [e]
 exact x
theorem mFn_s {n N:Nat}{body:XWK→MS}{ws:List W}{h:Gh}{Q:WK}{E:XWK}(hl:Nat.beq ws.length n=true)(x:body E { nx:=fun _ h'=>Q .non h',rt:=Q } (ws.map some++List.replicate (N - ws.length) none) h):mFn n N false body ws h Q E:=by
 unfold mFn
 rw [hl]
 exact x
theorem zF {r:W→Option Int→Option Int→Gh→WK→Prop}{m:ME}{l u:MO}{σ : Sw}{h:Gh}{Q:WK}(x:m σ h fun a h1=>l σ h1 fun lo h2=>u σ h2 fun hi h3=>r a lo hi h3 Q):mSl r m l u σ h Q:=x
theorem mPart_s {m:ME}{σ : Sw}{h:Gh}{Q:Option Int→Gh→Prop}(x:m σ h (pK Q)):fG m σ h Q:=x
theorem pK_s {i:Int}{h:Gh}{Q:Option Int→Gh→Prop}(x:Q (some i) h):pK Q (.int i) h:=x
def p3K (i j k:Nat)(D:cC)(σ : Sw):List W→Gh→Prop:=fun ws h=>match ws with
 | [x,y,z]=>D.nx (((σ.set i (some x)).set j (some y)).set k (some z)) h
 | _=>False
theorem mPar3_s {i j k:Nat}{ta:MA}{D:cC}{σ : Sw}{h:Gh}(x:ta σ h (p3K i j k D σ)):mPar3 i j k ta D σ h:=x
theorem br_len {xs:List W}{n:Int}{a b:Prop}(e:decide ((xs.length:Int)≠n)=false)(x:b):br (decide ((xs.length:Int)≠n)) a b:=br_f e x
theorem br_nall {bs:List Bool}{a b:Prop}(e:bs.all id=true)(x:b):br (!(bs.all id)) a b:=br_f (by rw [e];rfl) x
theorem by2_x {n d:Str}{a b:Prop}(e:isX n d=true)(x:a):by2 (isX n d) a b:=by2_t e x
theorem br_xt {n d:Str}{a b:Prop}(e:isX n d=true)(x:a):br (isX n d) a b:=br_t e x
theorem br_xf {n d:Str}{a b:Prop}(e:isX n d=false)(x:b):br (isX n d) a b:=br_f e x
theorem setZ {α : Type}{a x:α}{l:List α}:(a::l).set 0 x=x::l:=rfl
theorem setS {α : Type}{a x:α}{l l':List α}{n:Nat}(e:l.set n x=l'):(a::l).set (n+1) x=a::l':=by rw [List.set_cons_succ,e]
theorem bB {i:Nat}{w:W}{σ σ':Sw}{h:Gh}{N:Sw→Gh→Prop}(e:σ.set i (some w) = σ')(x:N σ' h):nName i w σ h N:=by
 subst e
 exact x
theorem p3K_v {i j k:Nat}{D:cC}{σ σ1 σ2 σ3:Sw}{h:Gh}{x y z:W}(e1:σ.set i (some x) = σ1)(e2:σ1.set j (some y) = σ2)(e3:σ2.set k (some z) = σ3)(q:D.nx σ3 h):p3K i j k D σ [x,y,z] h:=by
 subst e1 e2 e3
 exact q
def ini (ws:List W)(n:Nat):Sw:=ws.map some++List.replicate (n - ws.length) none
theorem ini0:ini [] 0=[]:=rfl
theorem iniN {n:Nat}{l:Sw}(e:ini [] n=l):ini [] (n+1)=none::l:=by
 subst e
 rfl
theorem iniW {n:Nat}{w:W}{ws:List W}{l:Sw}(e:ini ws n=l):ini (w::ws) (n+1)=some w::l:=by
 subst e
 unfold ini
 rw [List.length_cons,Nat.add_sub_add_right]
 rfl
theorem j5 {n N:Nat}{body:XWK→MS}{ws:List W}{σ : Sw}{h:Gh}{Q:WK}{E:XWK}(hl:Nat.beq ws.length n=true)(e:ini ws N = σ)(x:body E { nx:=fun _ h'=>Q .non h',rt:=Q } σ h):mFn n N false body ws h Q E:=by
 subst e
 exact mFn_s hl x
theorem by2_h {i:Nat}{n d:Str}{fs:List (Str×W)}{mh:MS}{D:cC}{σ σ':Sw}{h:Gh}(e:isX n d=true)(s:σ.set i (some (excW ⟨n,fs⟩)) = σ')(x:mh D σ' h):by2 (isX (Xw.mk n fs).cls d) (mh D (σ.set i (some (excW (Xw.mk n fs)))) h) False:=by
 subst s
 exact by2_t e x
theorem mLCM_s {own:W→Option (List W)}{ix:List Nat}{mi:MI}{tt:MT}{te:ME}{σ : Sw}{h:Gh}{Q:WK}(x:mLC own ix mi tt te σ h (thaw Q)):mLCM own ix mi tt te σ h Q:=x
theorem nSub_s {mo mi:ME}{ms:MSet}{w:W}{σ : Sw}{h:Gh}{N:Sw→Gh→Prop}(x:mo σ h fun o h1=>mi σ h1 fun i h2=>ms o i w h2 fun h3=>N σ h3):nSub mo mi ms w σ h N:=x
theorem mForL_cc {ws r us:List W}{n:Nat}{w:W}{g:MG}{b:MS}{D:cC}{σ : Sw}{h:Gh}(e:h.c n=some (.lst us))(x:g w σ h fun σ1 h1=>b { D with nx:=fW ⟨ws,some (n,us)⟩ g b D r,ct:=fW ⟨ws,some (n,us)⟩ g b D r,bk:=D.nx } σ1 h1):fW ⟨ws,some (n,us)⟩ g b D (w::r) σ h:=⟨e,x⟩
theorem mForL_cn {ws us:List W}{n:Nat}{g:MG}{b:MS}{D:cC}{σ : Sw}{h:Gh}(e:h.c n=some (.lst us))(x:D.nx σ h):fW ⟨ws,some (n,us)⟩ g b D [] σ h:=⟨e,x⟩
theorem mLCL_cn {ws us acc:List W}{n:Nat}{own:W→Option (List W)}{ix:List Nat}{tt:MT}{te:ME}{σ : Sw}{h:Gh}{Q:WK}(e:h.c n=some (.lst us))(x:Q (.lst acc) h):qj ⟨ws,some (n,us)⟩ own ix tt te σ Q [] acc h:=⟨e,x⟩
theorem mLCL_cc {ws us r acc vs:List W}{n:Nat}{w:W}{own:W→Option (List W)}{ix:List Nat}{tt:MT}{te:ME}{σ : Sw}{h:Gh}{Q:WK}(ec:h.c n=some (.lst us))(e:own w=some vs)(x:tt (vs.map some++sV ix σ) h fun c h1=>by2 c (te (vs.map some++sV ix σ) h1 fun v h2=>qj ⟨ws,some (n,us)⟩ own ix tt te σ Q r (acc++[v]) h2) (qj ⟨ws,some (n,us)⟩ own ix tt te σ Q r acc h1)):qj ⟨ws,some (n,us)⟩ own ix tt te σ Q (w::r) acc h:=by
 unfold qj
 refine ⟨ec,?_⟩
 show match own w with
  | some vs=>tt (vs.map some++sV ix σ) h fun c h1=>by2 c (te (vs.map some++sV ix σ) h1 fun v h2=>qj ⟨ws,some (n,us)⟩ own ix tt te σ Q r (acc++[v]) h2) (qj ⟨ws,some (n,us)⟩ own ix tt te σ Q r acc h1)
  | none=>False
 rw [e]
 exact x
theorem iK_c {n:Nat}{ws:List W}{h:Gh}{R:Src→Gh→Prop}(e:h.c n=some (.lst ws))(x:R ⟨ws,some (n,ws)⟩ h):iK R (.loc n) h:=iK_s (by simp only [yJ,e]) x
theorem kIx_c {n:Nat}{w:W}{i:Int}{ws:List W}{h:Gh}{Q:WK}(e:h.c n=some (.lst ws))(a:atI ws i=some w)(k:Q w h):kIx (.loc n) (.int i) h Q:=wK (nZ e) a k
theorem mFnT_v {n N:Nat}{body:XWK→MS}{ws:List W}{σ : Sw}{h:Gh}{Q:WK}{E:XWK}(hl:Nat.beq ws.length n=true)(e:ini ws N = σ)(x:body E { nx:=fun _ h'=>xZ true h .non h' Q,rt:=fun w h'=>xZ true h w h' Q } σ h):mFn n N true body ws h Q E:=by
 subst e
 unfold mFn
 rw [hl]
 exact x
theorem kAddA_l {a b:List W}{h:Gh}{Q:WK}(e:Nat.ble (a.length+b.length) 1000=true)(x:Q (.lst (a++b)) h):cu (.lst a) (.lst b) h Q:=fX e x
theorem kIs_b {a b:Bool}{h:Gh}{Q:WK}(x:Q (.bl (a==b)) h):kIs (.bl a) (.bl b) h Q:=x
theorem kIsnt_b {a b:Bool}{h:Gh}{Q:WK}(x:Q (.bl (!(a==b))) h):kIsnt (.bl a) (.bl b) h Q:=x
theorem kEq_s {a b:Str}{h:Gh}{Q:WK}(x:Q (.bl (decide (a=b))) h):kEq (.str a) (.str b) h Q:=by
 have e:eqW (.str a) (.str b)=decide (a=b):=by rw [eqW];by_cases z:a=b <;> simp [z]
 show Q (.bl (eqW (.str a) (.str b))) h
 rw [e]
 exact x
theorem kNe_s {a b:Str}{h:Gh}{Q:WK}(x:Q (.bl (decide (a≠b))) h):kNe (.str a) (.str b) h Q:=by
 have e:(!eqW (.str a) (.str b))=decide (a≠b):=by rw [eqW];by_cases z:a=b <;> simp [z]
 show Q (.bl (!eqW (.str a) (.str b))) h
 rw [e]
 exact x
theorem br_any {bs:List Bool}{a b:Prop}(e:bs.any id=false)(x:b):br (bs.any id) a b:=br_f e x
local macro_rules | `(tactic| rfl') => `(tactic| repeat (first
 | with_reducible refine bU ?_ | with_reducible refine cT ?_ | with_reducible refine cV ?_ | with_reducible refine aO ?_ | with_reducible refine bJ ?_
 | ((with_reducible apply aP);exact rfl) | with_reducible refine yH ?_ | with_reducible refine eV ?_ | with_reducible refine bB (by repeat (first | with_reducible exact setZ | with_reducible apply setS)) ?_ | with_reducible refine lost_rt ?_ | with_reducible refine lost_nx ?_ | with_reducible refine j7 ?_ | with_reducible refine rt_s ?_ | with_reducible refine bk_s ?_ | with_reducible refine ct_s ?_
 | with_reducible refine vW ?_ | with_reducible refine mIf_s ?_ | with_reducible refine pQ ?_ | with_reducible refine xP ?_ | with_reducible refine mNext_s ?_ | with_reducible refine mTry_s ?_ | with_reducible refine mRaise_s ?_
 | with_reducible refine nH ?_ | with_reducible refine tK_s ?_ | with_reducible refine mTru_s ?_ | ((with_reducible apply uK_s);exact rfl) | with_reducible refine mNot_s ?_ | with_reducible refine mAnd_s ?_ | with_reducible refine mOr_s ?_ | with_reducible refine zE ?_
 | with_reducible refine mAndV_s ?_ | with_reducible refine mOrV_s ?_ | with_reducible refine mNotV_s ?_ | with_reducible refine aK_s ?_ | with_reducible refine oK_s ?_ | with_reducible refine nK_s ?_ | with_reducible refine mIsX_s ?_ | with_reducible refine xK_s ?_
 | with_reducible refine br_ts ?_ | with_reducible refine br_fs ?_ | with_reducible refine br_nts ?_ | with_reducible refine br_nfs ?_ | with_reducible refine yK ?_ | with_reducible refine by2_fs ?_
 | with_reducible refine oH ?_ | with_reducible refine mLst_s ?_ | ((with_reducible apply fX);exact rfl) | with_reducible refine xQ ?_ | with_reducible refine mUn_s ?_ | with_reducible refine mNeg_s ?_
 | ((with_reducible apply nTup2_s);exact rfl;exact rfl) | ((with_reducible apply nTup2_l);exact rfl;exact rfl) | ((with_reducible apply nTup_s);exact rfl;exact rfl) | with_reducible refine nCons_s ?_ | with_reducible refine nNil_s ?_
 | with_reducible refine kSub_s ?_ | with_reducible refine kAddA_s ?_ | ((with_reducible apply uQ);exact eX.of (by trivial) (by trivial) (by omega) (by omega)) | with_reducible refine kLt_s ?_ | with_reducible refine kGt_s ?_
 | with_reducible refine kEq_i ?_ | with_reducible refine kNe_i ?_ | with_reducible refine kEq_b ?_ | with_reducible refine kNe_b ?_ | with_reducible refine kEq_t ?_ | with_reducible refine kNe_t ?_ | with_reducible refine kEq_0 ?_ | with_reducible refine kNe_0 ?_
 | ((with_reducible apply wK);exact rfl;exact rfl) | ((with_reducible apply kIsi_s);exact rfl) | ((with_reducible apply kLen_s);exact rfl) | with_reducible refine kTuple_l ?_ | ((with_reducible apply kAny_s);exact rfl;exact rfl) | ((with_reducible apply kAll_s);exact rfl;exact rfl) | ((with_reducible apply kSum_s);exact rfl;exact rfl) | with_reducible refine kInt_b ?_ | with_reducible refine kAbs_s ?_
 | with_reducible refine je ?_ | with_reducible refine iY ?_ | with_reducible refine mForL_n ?_ | with_reducible refine mForL_c ?_ | with_reducible refine uZ ?_ | ((with_reducible apply iK_s);exact rfl) | with_reducible refine lq ?_ | with_reducible refine rgK_3 ?_ | with_reducible refine rgK_2 ?_ | with_reducible refine nZip_s ?_ | ((with_reducible apply zpK_s);exact rfl;exact rfl;(repeat (first | with_reducible exact zip0 | with_reducible exact zip1 | with_reducible apply zipC)))
 | with_reducible refine mLC_s ?_ | ((with_reducible apply lcK_s);exact rfl) | with_reducible refine mLCL_n ?_ | ((with_reducible apply mLCL_c);exact rfl) | ((with_reducible apply j5);exact rfl;repeat (first | with_reducible exact ini0 | with_reducible apply iniW | with_reducible apply iniN)) | with_reducible refine zF ?_ | with_reducible refine mPart_s ?_ | with_reducible refine pK_s ?_ | with_reducible refine mPar3_s ?_ | with_reducible refine p3K_v (by repeat (first | with_reducible exact setZ | with_reducible apply setS)) (by repeat (first | with_reducible exact setZ | with_reducible apply setS)) (by repeat (first | with_reducible exact setZ | with_reducible apply setS)) ?_ | ((with_reducible apply br_len);exact rfl) | ((with_reducible apply br_nall);exact rfl) | ((with_reducible apply by2_h);decide +kernel;(repeat (first | with_reducible exact setZ | with_reducible apply setS))) | ((with_reducible apply by2_x);decide +kernel) | ((with_reducible apply br_xt);decide +kernel) | ((with_reducible apply br_xf);decide +kernel) | with_reducible refine mLCM_s ?_ | with_reducible refine nSub_s ?_ | ((with_reducible apply iK_c);(with_reducible assumption)) | ((with_reducible apply mForL_cc);(with_reducible assumption)) | ((with_reducible apply mForL_cn);(with_reducible assumption)) | ((with_reducible apply mLCL_cn);(with_reducible assumption)) | ((with_reducible apply mLCL_cc);(with_reducible assumption);exact rfl) | ((with_reducible apply kIx_c);(with_reducible assumption);exact rfl) | ((with_reducible apply zpK_c);(with_reducible assumption);exact rfl;(repeat (first | with_reducible exact zip0 | with_reducible exact zip1 | with_reducible apply zipC))) | ((with_reducible apply mFnT_v);exact rfl;(repeat (first | with_reducible exact ini0 | with_reducible apply iniW | with_reducible apply iniN))) | ((with_reducible apply kAddA_l);exact rfl) | with_reducible refine kIs_b ?_ | with_reducible refine kIsnt_b ?_ | with_reducible refine kEq_s ?_ | with_reducible refine kNe_s ?_ | ((with_reducible apply br_any);decide +kernel)))
def q4 (p q r s:Tr):W:=.lst [tw p,tw q,tw r,tw s]
def tH (p q r s:Tr):Bool:=decide (dt3 (crs p q) r≠0)&&(decide (dt3 (crs p q) s≠0)&&(decide (dt3 (crs p r) s≠0)&&decide (dt3 (crs q r) s≠0)))
def Free (p q r s:Tr):Prop:=dt3 (crs p q) r≠0∧dt3 (crs p q) s≠0∧dt3 (crs p r) s≠0∧dt3 (crs q r) s≠0
theorem uE {p q r s:Tr}(h:Free p q r s):tH p q r s=true:=by
 unfold tH
 rw [decide_eq_true h.1,decide_eq_true h.2.1,decide_eq_true h.2.2.1,decide_eq_true h.2.2.2]
 rfl
theorem freeB_i {p q r s:Tr}(h:tH p q r s=true):Free p q r s:=by
 unfold tH at h
 simp only [Bool.and_eq_true,decide_eq_true_eq] at h
 exact h
theorem p8 {p q r s:Tr}(h:¬ Free p q r s):tH p q r s=false:=Bool.eq_false_iff.mpr fun e=>h (freeB_i e)
def FreeX (c0:MSp):Prop:=∀ {h:Gh} {p q r s:Tr} {m:Nat} {Q:WK} {E:XWK},m≤4000→SmT m p→SmT m q→SmT m r→SmT m s→Q (.bl (tH p q r s)) h→c0 [q4 p q r s] h Q E
theorem w_freeX {tu:MSp}(htu:TurnG tu):FreeX (wk tu):=by
 intro h p q r s m Q E hm sp sq sr ss k
 show tu [rwB true p,rwB true q,rwB true r] h _ _
 refine htu true hm sp sq sr ?_
 show tu [rwB true p,rwB true q,rwB true s] h _ _
 refine htu true hm sp sq ss ?_
 show tu [rwB true p,rwB true r,rwB true s] h _ _
 refine htu true hm sp sr ss ?_
 show tu [rwB true q,rwB true r,rwB true s] h _ _
 refine htu true hm sq sr ss ?_
 show Q (.bl (!(([W.int (dt3 (crs p q) r),.int (dt3 (crs p q) s),.int (dt3 (crs p r) s),.int (dt3 (crs q r) s)]).any fun w=>eqW w (.int 0)))) h
 have e:(!(([W.int (dt3 (crs p q) r),.int (dt3 (crs p q) s),.int (dt3 (crs p r) s),.int (dt3 (crs q r) s)]).any fun w=>eqW w (.int 0)))=tH p q r s:=by
  simp only [List.any_cons,List.any_nil,dO,tH]
  by_cases f1:dt3 (crs p q) r=0 <;> by_cases f2:dt3 (crs p q) s=0 <;> by_cases f3:dt3 (crs p r) s=0 <;> by_cases f4:dt3 (crs q r) s=0 <;> simp [f1,f2,f3,f4]
 rw [e]
 exact k
def uw (c0:MSp):Prop:=∀ {h:Gh} {p q r:Tr} {m:Nat} {Q:WK} {E:XWK},m≤4000→SmT m p→SmT m q→SmT m r→Q (.int (dt3 (crs p q) r)) h→c0 [tw p,tw q,tw r] h Q E
theorem w_lturn {cr dt:MSp}(hcr:CrsOk cr)(hdt:DotOk dt):uw (yD cr dt):=by
 intro h p q r m Q E hm sp sq sr k
 unfold yD
 rfl'
 refine hcr (m:=m) (by omega) sp sq ?_
 rfl'
 refine hdt (m:=m+m+1) (by omega) (d7 sp sq) (sr.mono (by omega)) ?_
 rfl'
 exact k
theorem rgK_4 {R:Src→Gh→Prop}{h:Gh}(x:R ⟨[.int 0,.int 1,.int 2,.int 3],none⟩ h):rgK R [.int 4] h:=x
theorem w_lfree {tu:MSp}(htu:uw tu):FreeX (xY tu):=by
 intro h p q r s m Q E hm sp sq sr ss k
 have c1:dt3 (crs r s) p=dt3 (crs p r) s:=by simp only [dt3,crs];grind
 have c2:dt3 (crs s p) q=dt3 (crs p q) s:=by simp only [dt3,crs];grind
 unfold xY q4
 refine j5 rfl (σ:=[some (.lst [tw p,tw q,tw r,tw s]),none]) rfl ?_
 refine bU (je (lq (aO (yH (bJ (rgK_4 (iY ?_)))))))
 rfl'
 refine htu hm sq sr ss ?_
 rfl'
 refine iH (fun z=>?_) fun f4=>?_
 ·rfl'
  rw [p8 fun f=>f.2.2.2 z] at k
  exact k
 rfl'
 refine htu hm sr ss sp ?_
 rw [c1]
 rfl'
 refine iH (fun z=>?_) fun f3=>?_
 ·rfl'
  rw [p8 fun f=>f.2.2.1 z] at k
  exact k
 rfl'
 refine htu hm ss sp sq ?_
 rw [c2]
 rfl'
 refine iH (fun z=>?_) fun f2=>?_
 ·rfl'
  rw [p8 fun f=>f.2.1 z] at k
  exact k
 rfl'
 refine htu hm sp sq sr ?_
 rfl'
 refine iH (fun z=>?_) fun f1=>?_
 ·rfl'
  rw [p8 fun f=>f.1 z] at k
  exact k
 rfl'
 unfold wu
 rfl'
 rw [uE ⟨f1,f2,f3,f4⟩] at k
 exact k
def To (M:Mt)(p o:Tr):Prop:=∃ a b:Int,a≠0∧b≠0∧sc a (vm M p)=sc b o
theorem to_of {G Go N M:Mt}{e p o:Tr}(dG:det G≠0)(h1:To G e p)(h2:To Go e o)(hN:ParM (adj G) N)(hM:ParM (mm Go N) M):To M p o:=by
 obtain ⟨a,b,a0,b0,ea⟩:=h1
 obtain ⟨a',b',a0',b0',eb⟩:=h2
 obtain ⟨k,k0,ek⟩:=hN
 obtain ⟨c,c0,ec⟩:=hM
 have e1:sc (k*b) (vm N p)=sc (det G*a) e:=by
  have:vm (adj G) (sc a (vm G e))=sc a (sc (det G) e):=by rw [kE,←vm_mm,adj_mm,sM_vm,id_vm]
  rw [ea,ek,kE,sM_vm,zR,zR] at this
  exact this
 have e2:sc c (vm M p)=vm Go (vm N p):=by rw [←vm_mm,ec,sM_vm]
 refine ⟨c*(k*b)*a',b'*(det G*a),Int.mul_ne_zero (Int.mul_ne_zero c0 (Int.mul_ne_zero k0 b0)) a0',Int.mul_ne_zero b0' (Int.mul_ne_zero dG a0),?_⟩
 rw [←zR,←zR,e2,←kE,e1,kE,←zR (det G*a) b' o,←eb,zR,zR,Int.mul_comm]
theorem uM {p q r s:Tr}(f:Free p q r s){G:Mt}(h:ParM (mL p q r s) G):To G (1,0,0) p∧To G (0,1,0) q∧To G (0,0,1) r∧To G (1,1,1) s:=by
 obtain ⟨f1,f2,f3,f4⟩:=f
 obtain ⟨k,k0,e⟩:=h
 have g:∀ {v t:Tr} {c:Int},c≠0→vm (mL p q r s) v=sc c t→To G v t:=fun c0 e'=>⟨k,_,k0,c0,by rw [←sM_vm,←e,e']⟩
 refine ⟨g ?_ (vm_e0 _ _ _),g ?_ (vm_e1 _ _ _),g ?_ (vm_e2 _ _ _),g ?_ (tiles_u p q r s)⟩
 ·exact f4
 ·intro z
  refine f3 ?_
  have:dt3 (crs p r) s = - dt3 (crs r p) s:=by simp only [dt3,crs];grind
  rw [this,show dt3 (crs r p) s=0 from z]
  rfl
 ·exact f2
 ·exact f1
def ThenS (c0:MSp):Prop:=∀ {h:Gh} {A B:Mt} {m n:Nat} {Q:WK} {E:XWK},m≤4000→n≤3000→SmM m A→SmM n B→det A≠0→det B≠0→(∀ M,PlM M→ParM (mm B A) M→SmM (m+n+2) M→Q (mw M) h)→c0 [mw A,mw B] h Q E
theorem w_thenS {pl tt:MSp}(hpl:zq pl)(htt:TTTOk tt):ThenS (r_then pl tt):=by
 intro h A B m n Q E hm hn sA sB dA dB k
 show tt [MwB true B,MwB true A] h _ _
 refine htt (m:=max m n) true true (by omega) (sB.mono (by omega)) (sA.mono (by omega)) ?_
 show pl [mwl (mm B A)] h _ _
 refine hpl.mt (m:=m+n+2) (.inr rfl) ?_ (mm_sm sB sA) (by omega) k
 rw [det_mm]
 exact fun h=>(Int.mul_eq_zero.mp h).elim dB dA
def LedS (c0:MSp):Prop:=∀ {h:Gh} {M:Mt} {v:Tr} {m n:Nat} {Q:WK} {E:XWK},m≤4000→n≤3000→SmM m M→SmT n v→det M≠0→v≠(0,0,0)→(∀ t,Pl t→Par (vm M v) t→SmT (m+n+2) t→Q (tw t) h)→c0 [mw M,tw v] h Q E
theorem w_lledS {pl dt:MSp}(hpl:zq pl)(hdt:DotOk dt):LedS (r_l_led pl dt):=by
 intro h M v m n Q E hm hn sM0 sv0 dM hv k
 have sM:=sM0.mono (show m≤max m n by omega)
 have sv:=sv0.mono (show n≤max m n by omega)
 have c:∀ b:Int,Nat.ble (b.natAbs+1) (2^64)=true→eX 3 b:=fun b h2=>.of (m:=64) (n:=64) (Sm.lit rfl) (Sm.lit h2) (by decide) (by decide)
 first | show mLC ow1 [0,1] (fM (ao (mC (.int 3)) aJ)) iR (aH dt E (ao (mSl xr (aB 1) (fG (mOp cQ (mC (.int 3)) (aB 0))) (fG (mOp cu (mOp cQ (mC (.int 3)) (aB 0)) (mC (.int 3))))) (ao (aB 2) aJ))) [some (mw M),some (tw v)] h _ | show mLC ow1 [0,1] (fM (ao (mC (.int 3)) aJ)) iR (aH dt E (ao (mSl kSl (aB 1) (fG (mOp cQ (mC (.int 3)) (aB 0))) (fG (mOp cu (mOp cQ (mC (.int 3)) (aB 0)) (mC (.int 3))))) (ao (aB 2) aJ))) [some (mw M),some (tw v)] h _
 first | refine And.intro (c _ rfl) (And.intro (c _ rfl) (And.intro (by decide:¬ ((0:Nat)=0∧(3:Nat)=9)) ?_)) | refine And.intro (c _ rfl) (And.intro (c _ rfl) ?_)
 show dt [tw M.1,tw v] h _ _
 refine hdt (by omega) sM.1 sv ?_
 first | refine And.intro (c _ rfl) (And.intro (c _ rfl) (And.intro (by decide:¬ ((3:Nat)=0∧(6:Nat)=9)) ?_)) | refine And.intro (c _ rfl) (And.intro (c _ rfl) ?_)
 show dt [tw M.2.1,tw v] h _ _
 refine hdt (by omega) sM.2.1 sv ?_
 first | refine And.intro (c _ rfl) (And.intro (c _ rfl) (And.intro (by decide:¬ ((6:Nat)=0∧(9:Nat)=9)) ?_)) | refine And.intro (c _ rfl) (And.intro (c _ rfl) ?_)
 show dt [tw M.2.2,tw v] h _ _
 refine hdt (by omega) sM.2.2 sv ?_
 show pl [lw (vm M v)] h _ _
 exact hpl.tr (u:=vm M v) (m:=m+n+2) (.inr rfl) (vm_ne dM hv) (vm_sm sM0 sv0) (by omega) k
theorem mBMr_s {r:MM}{mo:ME}{ma:MA}{σ : Sw}{h:Gh}{Q:WK}(x:mo σ h fun x h1=>isLst h1 x (ma σ h1 fun xs h2=>r x xs h2 Q)):mBMr r mo ma σ h Q:=x
theorem isLst_c {n:Nat}{us:List W}{h:Gh}{P:Prop}(e:h.c n=some (.lst us))(p:P):isLst h (.loc n) P:=by
 simp only [isLst,e]
 exact p
theorem mLstM_g {ma:MA}{ws:List W}{σ : Sw}{h:Gh}{Q:WK}(hm:∀ R,ma σ h R=R ws h)(hz:Nat.ble ws.length 1000=true)(x:∀ g:Gh,g.c h.nx=some (.lst ws)→(∀ n,n≠h.nx→g.c n=h.c n)→g.nx=h.nx+1→Q (.loc h.nx) g):uV ma σ h Q:=by
 unfold uV
 rw [hm]
 exact fX hz (x _ (new_c _ _) (fun _ e=>wF e) rfl)
theorem ext_g {h:Gh}{n:Nat}{us zs:List W}{Q:WK}(e:h.c n=some (.lst us))(hz:us.length+zs.length≤1000)(k:∀ g:Gh,g.c n=some (.lst (us++zs))→(∀ m,m≠n→g.c m=h.c m)→g.nx=h.nx→Q .non g):gM (.loc n) [.lst zs] h Q:=
 ext_ok e (Nat.le_trans hz (by decide)) (k _ (mz _ _ _) (fun _ e=>oF e) rfl)
theorem app_g {h:Gh}{n:Nat}{us:List W}{w:W}{Q:WK}(e:h.c n=some (.lst us))(hz:us.length≤1000)(k:∀ g:Gh,g.c n=some (.lst (us++[w]))→(∀ m,m≠n→g.c m=h.c m)→g.nx=h.nx→Q .non g):nj (.loc n) [w] h Q:=
 app_ok e (Nat.lt_of_le_of_lt hz (by decide)) (k _ (mz _ _ _) (fun _ e=>oF e) rfl)
theorem forF0 {α β : Type}{v:α→W}{ws0:List W}{g:MG}{b:MS}{D:cC}(f:α→Option β)(R:β→Prop)(I:Sw→Gh→Prop):∀ (xs:List α),
  (∀ x,x∈xs→∀ σ h N,I σ h→(f x=none→∀ σ' h',I σ' h'→N σ' h')→(∀ y,f x=some y→R y)→g (v x) σ h fun σ1 h1=>b { D with nx:=N,ct:=N,bk:=D.nx } σ1 h1) →
  (xs.findSome? f=none→∀ σ h,I σ h→D.nx σ h)→(∀ y,xs.findSome? f=some y→R y)→∀ (σ : Sw) (h:Gh),I σ h→fW ⟨ws0,none⟩ g b D (xs.map v) σ h
 | [],_,fin,_,σ,h,h0=>fin rfl σ h h0
 | x::xs,step,fin,ret,σ,h,h0=>by
  refine mForL_c (step x List.mem_cons_self σ h _ h0 (fun e σ' h' h1=>?_) fun y e=>ret y ?_)
  ·refine forF0 f R I xs (fun z hz=>step z (List.mem_cons_of_mem _ hz)) (fun e2=>fin ?_) (fun y e2=>ret y ?_) σ' h' h1
   ·rw [List.findSome?_cons,e];exact e2
   ·rw [List.findSome?_cons,e];exact e2
  ·rw [List.findSome?_cons,e]
theorem forF {α β : Type}{v:α→W}{ws0:List W}{g:MG}{b:MS}{D:cC}(f:α→Option β)(R:β→Prop)(I:Sw→Gh→Prop)(xs:List α)
  (step:∀ x,x∈xs→∀ σ h N,I σ h→(f x=none→∀ σ' h',I σ' h'→N σ' h')→(∀ y,f x=some y→R y)→g (v x) σ h fun σ1 h1=>b { D with nx:=N,ct:=N,bk:=D.nx } σ1 h1)
  (fin:xs.findSome? f=none→∀ σ h,I σ h→D.nx σ h) (ret:∀ y,xs.findSome? f=some y→R y) {σ : Sw} {h:Gh} (h0:I σ h):fW ⟨ws0,none⟩ g b D (xs.map v) σ h:=forF0 f R I xs step fin ret σ h h0
def rng (a m:Nat):List Nat:=List.range' a (m - a)
theorem mZ {a m x:Nat}:x∈rng a m↔a≤x∧x<m:=by
 unfold rng
 rw [List.mem_range'_1]
 omega
theorem rngW_rng (a m:Nat):rngW (a:Int) ((m:Int) - (a:Int)).toNat=(rng a m).map fun x:Nat=>W.int (x:Int):=by
 unfold rngW rng
 rw [List.range'_eq_map_range,List.map_map,show ((m:Int) - (a:Int)).toNat=m - a by omega]
 refine List.map_congr_left fun x _=>?_
 simp
theorem rngW_rng0 (m:Nat):rngW 0 ((m:Nat):Int).toNat=(rng 0 m).map fun x:Nat=>W.int (x:Int):=by
 have:=rngW_rng 0 m
 rw [show ((m:Int) - ((0:Nat):Int)).toNat=((m:Nat):Int).toNat by omega] at this
 exact this
def rg2K (R:Src→Gh→Prop):List W→Gh→Prop:=fun ws h=>match ws with
 | [.int i,.int j]=>zV i (zV j (R ⟨rngW i (j - i).toNat,none⟩ h))
 | _=>False
theorem nRng2_s {ma:MA}{R:Src→Gh→Prop}{σ : Sw}{h:Gh}(x:ma σ h (rg2K R)):nRng2 ma σ h R:=x
theorem rg2K_s {R:Src→Gh→Prop}{h:Gh}{a:Int}{m n:Nat}(ha:a=(n:Int))(h1:n≤1000)(h2:m≤1000)(x:R ⟨(rng n m).map fun x:Nat=>W.int (x:Int),none⟩ h):rg2K R [.int a,.int (m:Int)] h:=by
 subst ha
 rw [←rngW_rng] at x
 exact zV.mk (by omega) (by omega) (zV.mk (by omega) (by omega) x)
theorem rgK_s {R:Src→Gh→Prop}{h:Gh}{m:Nat}(h2:m≤1000)(x:R ⟨(rng 0 m).map fun x:Nat=>W.int (x:Int),none⟩ h):rgK R [.int (m:Int)] h:=by
 rw [←rngW_rng0] at x
 exact zV.mk (by omega) (by omega) x
def nxt (l:List Nat):Nat:=match l.getLast? with
 | none=>0
 | some x=>x+1
def grow (m:Nat)(l:List Nat):List (List Nat):=(rng (nxt l) m).map fun p=>l++[p]
def rise (m:Nat):Nat→List (List Nat)
 | 0=>[[]]
 | k+1=>(rise m k).flatMap (grow m)
def cD (l:List Nat):W:=.tup (l.map fun x:Nat=>.int (x:Int))
theorem cF {m:Nat}:∀ {k:Nat} {l:List Nat},l∈rise m k→l.length=k
 | 0,l,h=>by
  rw [rise,List.mem_singleton] at h
  rw [h]
  rfl
 | k+1,l,h=>by
  rw [rise,List.mem_flatMap] at h
  obtain ⟨u,hu,hl⟩:=h
  obtain ⟨p,_,rfl⟩:=List.mem_map.mp hl
  rw [List.length_append,cF hu]
  rfl
theorem nxt_le {m:Nat}:∀ {k:Nat} {l:List Nat},l∈rise m k→nxt l≤m
 | 0,l,h=>by
  rw [rise,List.mem_singleton] at h
  rw [h]
  exact Nat.zero_le _
 | k+1,l,h=>by
  rw [rise,List.mem_flatMap] at h
  obtain ⟨u,hu,hl⟩:=h
  obtain ⟨p,hp,rfl⟩:=List.mem_map.mp hl
  have:=(mZ.mp hp).2
  unfold nxt
  rw [List.getLast?_append]
  simp
  omega
theorem wC:∀ m,m≤12→∀ k,k≤4→(rise m k).length≤1000:=by
 have:(List.range 13).all (fun m=>(List.range 5).all fun k=>decide ((rise m k).length≤1000))=true:=by decide +kernel
 intro m hm k hk
 rw [List.all_eq_true] at this
 have h1:=this m (List.mem_range.mpr (by omega))
 rw [List.all_eq_true] at h1
 exact of_decide_eq_true (h1 k (List.mem_range.mpr (by omega)))
def SrcW (h:Gh)(w:W)(ws:List W):Prop:=w=.lst ws∨∃ n,w=.loc n∧h.c n=some (.lst ws)
theorem for_srcW {i:Nat}{g:MG}{b:MS}{D:cC}{σ : Sw}{h:Gh}{w:W}{α : Type}{v:α→W}{xs:List α}(hv:σ[i]?=some (some w))(e:SrcW h w (xs.map v))(I:Nat→Sw→Gh→Prop)
  (go:∀ i σ h',I i σ h'→SrcW h' w (xs.map v))
  (step:∀ (i:Nat) (x:α) (σ : Sw) (h:Gh) (N:Sw→Gh→Prop),(∀ σ' h',I (i+1) σ' h'→N σ' h')→xs[i]?=some x→I i σ h→g (v x) σ h fun σ1 h1=>b { D with nx:=N,ct:=N,bk:=D.nx } σ1 h1)
  (fin:∀ σ h,I xs.length σ h→D.nx σ h) (h0:I 0 σ h):oN (nIt (aB i)) g b D σ h:=by
 unfold oN nIt aB
 rw [hv]
 dsimp only
 have gen:∀ s:Src,yJ h w=some s→s.ws=xs.map v→(∀ h',SrcW h' w (xs.map v)→∀ P:Prop,P→s.go h' P)→(match yJ h w with
   | some s=>fW s g b D s.ws σ h
   | none=>False):=by
  intro s es ew hg
  rw [es]
  show fW s g b D s.ws σ h
  rw [ew]
  refine for_invS I (fun i σ h' hi=>hg h' (go i σ h' hi)) (fun i w σ h N hN e hi=>?_) (fun σ h q=>fin σ h (by rwa [List.length_map] at q)) h0
  rw [List.getElem?_map] at e
  cases q:xs[i]? with
  | none=>rw [q] at e;cases e
  | some x=>
   rw [q] at e
   cases e
   exact step i x σ h N hN q hi
 rcases e with rfl | ⟨n,rfl,e⟩
 ·exact gen ⟨xs.map v,none⟩ rfl rfl fun _ _ _ p=>p
 ·refine gen ⟨xs.map v,some (n,xs.map v)⟩ (by simp only [yJ,e]) rfl fun h' e' P p=>⟨?_,p⟩
  rcases e' with e' | ⟨n',e',q⟩
  ·cases e'
  ·cases e';exact q
theorem wY {a b:List W}{h:Gh}{Q:WK}(hz:a.length+b.length≤1000)(x:Q (.tup (a++b)) h):cu (.tup a) (.tup b) h Q:=by
 cases a with
 | nil=>exact x
 | cons a0 a=>exact j8.mk (Nat.le_trans (by simpa using hz) (by decide:1000≤sizeLine)) x
theorem lc_grow {m:Nat}{l:List Nat}{σ : Sw}{h:Gh}{Q:WK}(hm:m≤12)(hl:l.length≤4)(hn:nxt l≤m)(h5:σ[5]?=some (some (cD l)))(h6:σ[6]?=some (some (.int (nxt l:Int))))(h0:σ[0]?=some (some (.int (m:Int))))(x:Q (.lst ((grow m l).map cD)) h) :
  mLC ow1 [5] (nRng2 (ao (aB 6) (ao (aB 0) aJ))) iR (mOp cu (aB 1) (j6 (ao (aB 0) aJ))) σ h Q:=by
 refine mLC_s (nRng2_s (aO (aP h6 (aO (aP h0 (bJ ?_))))))
 refine rg2K_s rfl (by omega) (by omega) ?_
 have hb:sV [5] σ = [some (cD l)]:=by
  show [(σ[5]?).getD none]=_
  rw [h5]
  rfl
 have hz:((rng (nxt l) m).map fun x:Nat=>W.int (x:Int)).length≤sizeLine:=by
  rw [List.length_map]
  unfold rng
  rw [List.length_range']
  exact Nat.le_trans (by omega) (by decide:12≤sizeLine)
 refine j8.mk hz ?_
 refine rC (fun i acc h'=>h'=h∧acc=(((rng (nxt l) m).take i).map fun p=>l++[p]).map cD) ?_ ?_ ⟨rfl,rfl⟩
 ·rintro i w acc h' N hN e ⟨rfl,rfl⟩
  rw [List.getElem?_map] at e
  cases q:(rng (nxt l) m)[i]? with
  | none=>rw [q] at e;cases e
  | some p=>
   rw [q] at e
   cases e
   refine ⟨[W.int (p:Int)],rfl,?_⟩
   rw [hb]
   refine zE (yK (eV (aP rfl (oH (aO (aP rfl (bJ (fX rfl ?_))))))))
   refine wY (a:=l.map fun x:Nat=>.int (x:Int)) (by rw [List.length_map];simp;omega) ?_
   refine hN _ _ ⟨rfl,?_⟩
   rw [List.take_succ,q]
   simp [cD]
 ·rintro acc h' ⟨rfl,rfl⟩
  rw [List.length_map,List.take_length]
  exact x
def jF (c0:MSp):Prop:=∀ {h:Gh} {m k:Nat} {Q:WK} {E:XWK},m≤12→k≤4→Q (.lst ((rise m k).map cD)) h→c0 [.int (m:Int),.int (k:Int)] h Q E
theorem atI_lst {l:List Nat}{i:Nat}(h:l.length=i+1):∃ x,l.getLast?=some x∧atI (l.map fun x:Nat=>W.int (x:Int)) (i:Int)=some (.int (x:Int)):=by
 have hi:i<l.length:=by omega
 refine ⟨l[i],?_,?_⟩
 ·rw [List.getLast?_eq_getElem?,h,Nat.add_sub_cancel,List.getElem?_eq_getElem hi]
 ·exact nF (by rw [List.getElem?_map,List.getElem?_eq_getElem hi];rfl)
theorem losN (n:Nat):∀ l:List Nat,Los n (l.map fun x:Nat=>W.int (x:Int))
 | []=>by simp [Los]
 | x::l=>by
  have:=losN n l
  rw [List.map_cons,Los]
  exact ⟨by simp [Lo],this⟩
theorem los_tup (n:Nat)(l:List Nat):Lo n (cD l):=by
 unfold cD
 rw [Lo]
 exact losN n l
theorem oG (n:Nat):∀ ls:List (List Nat),Los n (ls.map cD)
 | []=>by simp [Los]
 | l::ls=>by
  have:=oG n ls
  rw [List.map_cons,Los]
  exact ⟨los_tup n l,this⟩
theorem rng_get {a m i x:Nat}(e:(rng a m)[i]?=some x):x=a+i∧x<m:=by
 have hx:=mZ.mp (List.mem_of_getElem? e)
 unfold rng at e
 have hl:=(List.getElem?_eq_some_iff.mp e).1
 rw [List.length_range'] at hl
 rw [List.getElem?_eq_getElem (by rw [List.length_range'];exact hl),List.getElem_range'] at e
 have:=Option.some.inj e
 omega
theorem w_rising:jF wQ:=by
 intro h m k Q E hm hk q
 unfold wQ
 refine mFnT_v rfl (σ:=[some (.int (m:Int)),some (.int (k:Int)),none,none,none,none,none]) rfl ?_
 refine bU (cT (mLst_s (aO (oH (bJ (fX rfl (bJ (fX rfl ?_))))))))
 refine bB (σ':=[some (.int (m:Int)),some (.int (k:Int)),some (.lst [.tup []]),none,none,none,none]) rfl (j7 ?_)
 refine bU (je (lq (aO (aP rfl (bJ (rgK_s (by omega) (iY ?_)))))))
 refine qd (fun i σ h'=>∃ w s3 s4 s5 s6,σ = [some (.int (m:Int)),some (.int (k:Int)),some w,s3,s4,s5,s6]∧(w=.lst ((rise m i).map cD)∨∃ n,w=.loc n∧h.nx≤n∧n<h'.nx∧h'.c n=some (.lst ((rise m i).map cD)))∧h.nx≤h'.nx∧∀ n,n<h.nx→h'.c n=h.c n) ?_ ?_ ⟨_,_,_,_,_,rfl,.inl rfl,Nat.le_refl _,fun _ _=>rfl⟩
 ·rintro i w0 σ h' N hN e ⟨w,s3,s4,s5,s6,rfl,hw,hx,ho⟩
  rw [List.getElem?_map] at e
  cases qe:(rng 0 k)[i]? with
  | none=>rw [qe] at e;cases e
  | some i'=>
   rw [qe] at e
   cases e
   obtain ⟨ei,hik⟩:=rng_get qe
   rw [Nat.zero_add] at ei
   subst ei
   refine bB (σ':=[some (.int (m:Int)),some (.int (k:Int)),some w,some (.int (i':Int)),s4,s5,s6]) rfl ?_
   refine bU (cT (mLstM_g (ws:=[]) (fun R=>rfl) rfl fun g eg og xg=>?_))
   refine bB (σ':=[some (.int (m:Int)),some (.int (k:Int)),some w,some (.int (i':Int)),some (.loc h'.nx),s5,s6]) rfl (j7 ?_)
   refine bU ?_
   have sw:∀ g':Gh,(∀ n,n≠h'.nx→g'.c n=h'.c n)→SrcW g' w ((rise m i').map cD):=by
    intro g' hg
    rcases hw with rfl | ⟨n,rfl,h1,h2,h3⟩
    ·exact .inl rfl
    ·exact .inr ⟨n,rfl,by rw [hg n (by omega)];exact h3⟩
   refine for_srcW (i:=2) (w:=w) (v:=cD) (xs:=rise m i') rfl (sw g og) (fun j σ g'=>∃ s5 s6,σ = [some (.int (m:Int)),some (.int (k:Int)),some w,some (.int (i':Int)),some (.loc h'.nx),s5,s6]∧g'.c h'.nx=some (.lst ((((rise m i').take j).flatMap (grow m)).map cD))∧g'.nx=h'.nx+1∧∀ n,n≠h'.nx→g'.c n=h'.c n) ?_ ?_ ?_ ⟨_,_,rfl,eg,xg,og⟩
   ·rintro j σ g' ⟨s5,s6,rfl,h1,h2,h3⟩
    exact sw g' h3
   ·rintro j l σ g' N2 hN2 el ⟨s5,s6,rfl,h1,h2,h3⟩
    have ml:=List.mem_of_getElem? el
    have ll:=cF ml
    have ln:=nxt_le ml
    refine bB (σ':=[some (.int (m:Int)),some (.int (k:Int)),some w,some (.int (i':Int)),some (.loc h'.nx),some (cD l),s6]) rfl ?_
    have fin:∀ σ,σ = [some (.int (m:Int)),some (.int (k:Int)),some w,some (.int (i':Int)),some (.loc h'.nx),some (cD l),some (.int (nxt l:Int))]→uT (mBMr gM (aB 4) (ao (mLC ow1 [5] (nRng2 (ao (aB 6) (ao (aB 0) aJ))) iR (mOp cu (aB 1) (j6 (ao (aB 0) aJ)))) aJ)) { nx:=N2,rt:=fun w h'=>xZ true h w h' Q,bk:=fun _ _=>False,ct:=N2 } σ g':=by
     rintro σ rfl
     refine xP (mBMr_s (aP rfl (isLst_c h1 (aO (lc_grow hm (by omega) ln rfl rfl rfl (bJ (ext_g h1 ?_ fun g2 e2 o2 x2=>?_)))))))
     ·rw [List.length_map,List.length_map,←List.length_append,show grow m l=[l].flatMap (grow m) by simp,←List.flatMap_append]
      have hp:(rise m i').take (j+1)=(rise m i').take j++[l]:=by rw [List.take_succ,el];rfl
      rw [←hp]
      have hr:=wC m hm (i'+1) (by omega)
      rw [rise,←List.take_append_drop (j+1) (rise m i'),List.flatMap_append,List.length_append] at hr
      omega
     ·refine hN2 _ _ ⟨_,_,rfl,?_,by rw [x2];exact h2,fun n hn=>by rw [o2 n hn];exact h3 n hn⟩
      rw [e2,List.take_succ,el,List.flatMap_append,List.map_append]
      simp
    refine bU (cT (mIf_s (nH (eV (aP rfl (yH (kGt_s (tK_s ?_))))))))
    refine iH (fun hp=>?_) fun hp=>?_
    ·obtain ⟨x,ex,ax⟩:=atI_lst (l:=l) (i:=i' - 1) (by omega)
     have en:nxt l=x+1:=by unfold nxt;rw [ex]
     refine eV (eV (aP rfl (eV (aP rfl (yH (kSub_s (wK (x:=cD l) (i:=(i':Int) - 1) (w:=.int (x:Int)) rfl ?_ (yH (kAddA_s ?_)))))))))
     ·rw [show (i':Int) - 1=((i' - 1:Nat):Int) by omega]
      exact ax
     ·refine bB (σ':=[some (.int (m:Int)),some (.int (k:Int)),some w,some (.int (i':Int)),some (.loc h'.nx),some (cD l),some (.int (nxt l:Int))]) (by rw [en];rfl) (j7 (fin _ rfl))
    ·have l0:l=[]:=List.eq_nil_of_length_eq_zero (by omega)
     have en:nxt l=0:=by rw [l0];rfl
     refine yH ?_
     refine bB (σ':=[some (.int (m:Int)),some (.int (k:Int)),some w,some (.int (i':Int)),some (.loc h'.nx),some (cD l),some (.int (nxt l:Int))]) (by rw [en];rfl) (j7 (fin _ rfl))
   ·rintro σ g' ⟨s5,s6,rfl,h1,h2,h3⟩
    rw [List.take_length] at h1
    refine j7 ?_
    refine cT ?_
    refine aP rfl ?_
    refine bB (σ':=[some (.int (m:Int)),some (.int (k:Int)),some (.loc h'.nx),some (.int (i':Int)),some (.loc h'.nx),s5,s6]) rfl (j7 ?_)
    exact hN _ _ ⟨_,_,_,_,_,rfl,.inr ⟨_,rfl,hx,by omega,h1⟩,by omega,fun n hn=>by rw [h3 n (by omega)];exact ho n hn⟩
 ·rintro σ h' ⟨w,s3,s4,s5,s6,rfl,hw,hx,ho⟩
  have hl:((rng 0 k).map fun x:Nat=>W.int (x:Int)).length=k:=by
   rw [List.length_map]
   unfold rng
   rw [List.length_range']
   omega
  rw [hl] at hw
  unfold vq
  refine j7 ?_
  refine pQ ?_
  refine aP rfl ?_
  refine rt_s ?_
  refine ⟨fun n c hn e=>by rw [ho n hn];exact e,?_⟩
  rcases hw with rfl | ⟨n,rfl,h1,h2,h3⟩
  ·exact .inl ⟨by rw [Lo];exact oG _ _,q⟩
  ·exact .inr ⟨n,_,rfl,h1,h3,oG _ _,q⟩
def gt (ts:List Tr)(i:Nat):Tr:=ts.getD i (0,0,0)
def OkT (m:Nat)(ts:List Tr):Prop:=∀ t∈ts,Pl t∧SmT m t
theorem gD {ts:List Tr}{i:Nat}(hi:i<ts.length):gt ts i∈ts:=by
 unfold gt
 rw [List.getD_eq_getElem?_getD,List.getElem?_eq_getElem hi]
 exact List.getElem_mem hi
theorem gt_get {ts:List Tr}{i:Nat}(hi:i<ts.length):ts[i]?=some (gt ts i):=by
 unfold gt
 rw [List.getD_eq_getElem?_getD,List.getElem?_eq_getElem hi]
 rfl
theorem iQ.at {h:Gh}{w:W}{ts:List Tr}(e:iQ h w ts){i:Nat}(hi:i<ts.length){Q:WK}(k:Q (tw (gt ts i)) h):kIx w (.int (i:Int)) h Q:=
 wK e.src.1 (nF (by rw [List.getElem?_map,gt_get hi];rfl)) k
theorem j4 {h:Gh}{w:W}{ts:List Tr}(e:iQ h w ts){Q:WK}(k:Q (.int (ts.length:Int)) h):kLen [w] h Q:=by
 refine kLen_s e.src.1 ?_
 rw [List.length_map]
 exact k
def PickX (c0:MSp):Prop:=∀ {h:Gh} {w:W} {ts:List Tr} {l:List Nat} {Q:WK} {E:XWK},iQ h w ts→(∀ i∈l,i<ts.length)→l.length≤1000→Q (.lst ((l.map (gt ts)).map tw)) h→c0 [w,cD l] h Q E
theorem w_picked:PickX xO:=by
 intro h w ts l Q E e hl hz q
 unfold xO
 refine j5 rfl (σ:=[some w,some (cD l)]) rfl (pQ (mLC_s (uZ (aP rfl (iK_s (ws:=l.map fun x:Nat=>.int (x:Int)) (o:=none) rfl ?_)))))
 refine j8.mk (by rw [List.length_map];exact Nat.le_trans hz (by decide)) ?_
 refine rC (fun i acc h'=>h'=h∧acc=((l.take i).map (gt ts)).map tw) ?_ ?_ ⟨rfl,rfl⟩
 ·rintro i w2 acc h' N hN e2 ⟨rfl,rfl⟩
  rw [List.getElem?_map] at e2
  cases qe:l[i]? with
  | none=>rw [qe] at e2;cases e2
  | some p=>
   rw [qe] at e2
   cases e2
   refine ⟨[W.int (p:Int)],rfl,?_⟩
   refine zE (eV (aP rfl (aP rfl (e.at (hl p (List.mem_of_getElem? qe)) ?_))))
   refine hN _ _ ⟨rfl,?_⟩
   rw [List.take_succ,qe]
   simp
 ·rintro acc h' ⟨rfl,rfl⟩
  rw [List.length_map,List.take_length]
  exact rt_s q
theorem fs_fm {α β γ : Type}(f:α→List β)(g:β→Option γ):∀ xs:List α,(xs.flatMap f).findSome? g=xs.findSome? fun x=>(f x).findSome? g
 | []=>rfl
 | x::xs=>by
  rw [List.flatMap_cons,List.findSome?_append,fs_fm f g xs,List.findSome?_cons]
  cases (f x).findSome? g <;> rfl
def pass (P:List Nat→Bool)(l:List Nat):Option (List Nat):=if P l then some l else none
theorem qQ {P:List Nat→Bool}{l:List Nat}(h:P l=true):pass P l=some l:=by
 unfold pass
 rw [h]
 rfl
theorem nP {P:List Nat→Bool}{l:List Nat}(h:P l=false):pass P l=none:=by
 unfold pass
 rw [h]
 rfl
theorem fs_one {α β : Type}(f:α→Option β)(x:α):[x].findSome? f=f x:=by
 rw [List.findSome?_cons]
 cases f x <;> rfl
def srch4 (m:Nat)(P:List Nat→Bool):Option (List Nat):=(rng 0 m).findSome? fun i=>(rng (i+1) m).findSome? fun j=>(rng (j+1) m).findSome? fun k=>(rng (k+1) m).findSome? fun x=>pass P [i,j,k,x]
def srch3 (m:Nat)(P:List Nat→Bool):Option (List Nat):=(rng 0 m).findSome? fun i=>(rng (i+1) m).findSome? fun j=>(rng (j+1) m).findSome? fun k=>pass P [i,j,k]
theorem fs_grow {γ : Type}(m:Nat)(l:List Nat)(g:List Nat→Option γ):(grow m l).findSome? g=(rng (nxt l) m).findSome? fun p=>g (l++[p]):=by
 unfold grow
 rw [List.findSome?_map]
 rfl
theorem rise4 (m:Nat)(P:List Nat→Bool):(rise m 4).findSome? (pass P)=srch4 m P:=by
 simp only [rise,fs_fm,fs_grow,fs_one]
 rfl
theorem fD {m:Nat}:∀ {k:Nat} {l:List Nat},l∈rise m k→∀ i∈l,i<m
 | 0,l,h=>by
  rw [rise,List.mem_singleton] at h
  subst h
  intro i hi
  cases hi
 | k+1,l,h=>by
  rw [rise,List.mem_flatMap] at h
  obtain ⟨u,hu,hl⟩:=h
  obtain ⟨p,hp,rfl⟩:=List.mem_map.mp hl
  intro i hi
  rcases List.mem_append.mp hi with hi | hi
  ·exact fD hu i hi
  ·rw [List.mem_singleton.mp hi]
   exact (mZ.mp hp).2
theorem rise_up {m k a b:Nat}{l r:List Nat}:l++[a,b]++r∈rise m k→a<b:=by
 intro h
 induction k generalizing r with
 | zero=>
  rw [rise,List.mem_singleton] at h
  simp at h
 | succ k ih=>
  rw [rise,List.mem_flatMap] at h
  obtain ⟨u,hu,hl⟩:=h
  obtain ⟨p,hp,e⟩:=List.mem_map.mp hl
  rcases List.eq_nil_or_concat r with rfl | ⟨r',z,rfl⟩
  ·rw [List.append_nil,show l++[a,b]=l++[a]++[b] by simp] at e
   obtain ⟨e1,e2⟩:=List.append_inj' e rfl
   cases e2
   subst e1
   have:=(mZ.mp hp).1
   unfold nxt at this
   rw [List.getLast?_append] at this
   simp at this
   omega
  ·rw [List.concat_eq_append,←List.append_assoc] at e
   obtain ⟨e1,e2⟩:=List.append_inj' e rfl
   subst e1
   exact ih hu
def vZ (ts:List Tr):List Nat→Bool
 | [a,b,c,d]=>tH (gt ts a) (gt ts b) (gt ts c) (gt ts d)
 | _=>false
def FF (ts:List Tr):Option (List Nat):=srch4 ts.length (vZ ts)
def FirstX (c0:MSp):Prop:=∀ {h:Gh} {w:W} {ts:List Tr} {m:Nat} {Q:WK} {E:XWK},m≤4000→iQ h w ts→ts.length≤12→OkT m ts→(FF ts=none→Q .non h)→(∀ l,FF ts=some l→Q (cD l) h)→c0 [w] h Q E
theorem w_first {ri pi fr:MSp}(hri:jF ri)(hpi:PickX pi)(hfr:FreeX fr):FirstX (j9 ri pi fr):=by
 intro h w ts m Q E hm e hl hs k0 k1
 unfold j9
 refine j5 rfl (σ:=[some w,none]) rfl (bU (je (uZ (cV (aO (xQ (aO (aP rfl (bJ (j4 e ?_))))))))))
 refine aO (yH (bJ (hri (m:=ts.length) (k:=4) hl (by decide) (iK_s rfl (iY ?_)))))
 have hff:=rise4 ts.length (vZ ts)
 refine forF (v:=cD) (pass (vZ ts)) (fun l=>Q (cD l) h) (fun σ h'=>∃ s1,σ = [some w,s1]∧h'=h) (rise ts.length 4) ?_ ?_ ?_ ⟨none,rfl,rfl⟩
 ·rintro l ml σ h' N ⟨s1,rfl,rfl⟩ hN hR
  have ll:=cF ml
  have li:=fD ml
  match l,ll with
  | [a,b,c,d],_=>
   have ga:∀ i∈[a,b,c,d],SmT m (gt ts i):=fun i hi=>(hs _ (gD (li i hi))).2
   refine bB (σ':=[some w,some (cD [a,b,c,d])]) rfl ?_
   rfl'
   refine hpi e li (by simp) ?_
   rfl'
   refine hfr (p:=gt ts a) (q:=gt ts b) (r:=gt ts c) (s:=gt ts d) (m:=m) hm (ga a (by simp)) (ga b (by simp)) (ga c (by simp)) (ga d (by simp)) ?_
   cases hb:tH (gt ts a) (gt ts b) (gt ts c) (gt ts d) with
   | true=>
    rfl'
    exact hR [a,b,c,d] (qQ hb)
   | false=>
    rfl'
    exact hN (nP hb) _ _ ⟨_,rfl,rfl⟩
 ·rintro hn σ h' ⟨s1,rfl,rfl⟩
  unfold mG
  rfl'
  exact k0 (hff.symm.trans hn)
 ·intro l hy
  exact k1 l (hff.symm.trans hy)
def unl (ts:List Tr):List Tr:=ts.foldl (fun acc t=>if t∈acc then acc else acc++[t]) []
noncomputable def flatAt (ts:List Tr):List Nat→Bool
 | [a,b,c]=>nY [gt ts a,gt ts b,gt ts c]
 | _=>false
noncomputable def LL (ts:List Tr):Option (List Nat):=srch3 ts.length (flatAt ts)
theorem flat3 (p q r:Tr):nY [p,q,r]=decide (dt3 (crs p q) r=0):=by
 by_cases h:dt3 (crs p q) r=0
 ·rw [decide_eq_true h]
  refine uf (kY fun k j i kj ji a b c ea eb ec=>?_)
  have hi:=(List.getElem?_eq_some_iff.mp ec).1
  simp only [List.length_cons,List.length_nil] at hi
  have hc:k=0∧j=1∧i=2:=by omega
  obtain ⟨rfl,rfl,rfl⟩:=hc
  simp at ea eb ec
  subst ea eb ec
  rw [iM,iM]
  exact h
 ·rw [decide_eq_false h]
  exact qu fun a=>h (a r (by simp) p (by simp) q (by simp))
theorem kPow_s {i j:Int}{h:Gh}{Q:WK}(c:CPow i j)(x:Q (.int (i^j.toNat)) h):kPow (.int i) (.int j) h Q:=⟨c,x⟩
noncomputable def kd (ts:List Tr):Str:=if (FF ts).isSome then "four" else if (LL (unl ts)).isSome then "line" else "few"
def CheckX (c0:MSp):Prop:=∀ {h:Gh} {w:W} {ts:List Tr} {Q:WK} {E:XWK},iQ h w ts→(1≤ts.length→ts.length≤12→Q .non h)→(¬ (1≤ts.length∧ts.length≤12)→E ⟨"NoPicture",[]⟩ h)→c0 [w] h Q E
theorem w_check:CheckX gR:=by
 intro h w ts Q E e k k1
 unfold gR
 refine j5 rfl (σ:=[some w]) rfl ?_
 rfl'
 refine j4 e ?_
 rfl'
 refine iH (fun h1=>?_) fun h1=>?_
 ·rfl'
  exact k1 (by omega)
 ·rfl'
  refine j4 e ?_
  rfl'
  refine iH (fun h2=>?_) fun h2=>?_
  ·rfl'
   exact k1 (by omega)
  ·rfl'
   exact k (by omega) (by omega)
theorem xU {h:Gh}{Q:WK}(k:Q (.bl false) h):kIsnt .non .non h Q:=k
theorem wO {h:Gh}{ws:List W}{Q:WK}(k:Q (.bl true) h):kIsnt (.tup ws) .non h Q:=k
theorem gK {σ : Sw}{h:Gh}{Q:Option Int→Gh→Prop}(x:Q none h):jJ σ h Q:=x
theorem kSl2_l {ws us:List W}{lo hi:Option Int}{h:Gh}{Q:WK}(e:cutW ws lo hi=us)(x:Q (.lst us) h):xr (.lst ws) lo hi h Q:=by
 subst e
 exact x
def lmK (Q:WK):List W→Gh→Prop:=fun ws h1=>j8 ws.length (Q (.loc h1.nx) (h1.new (.lst ws)))
theorem mLstM_s {ma:MA}{σ : Sw}{h:Gh}{Q:WK}(x:ma σ h (lmK Q)):uV ma σ h Q:=x
theorem lmK_g {ws:List W}{h:Gh}{Q:WK}(hz:Nat.ble ws.length 1000=true)(x:∀ g:Gh,g.c h.nx=some (.lst ws)→(∀ n,n≠h.nx→g.c n=h.c n)→g.nx=h.nx+1→Q (.loc h.nx) g):lmK Q ws h:=fX hz (x _ (new_c _ _) (fun _ e=>wF e) rfl)
theorem far9:(20:Int)<10^(9:Int).toNat∧Sm 31 ((10:Int)^(9:Int).toNat):=by
 rw [show (10:Int)^(9:Int).toNat=1000000000 by decide]
 exact ⟨by decide,by unfold Sm;decide +kernel⟩
theorem sm12 {n:Int}(h0:0≤n)(h1:n≤30):Sm 8000 n:=Sm.le (i:=30) (.mono (m:=64) (.lit rfl) (by decide)) (by omega)
theorem sm20 {d:Int}(h0:0≤d)(h1:d<41):Sm 6 (d - 20):=Sm.le (i:=20) (by unfold Sm;decide +kernel) (by omega)
theorem kEq_000 {a b c:Int}{h:Gh}{Q:WK}(k:Q (.bl (decide ((a,b,c)=((0,0,0):Tr)))) h):kEq (.lst [.int a,.int b,.int c]) (.lst [.int 0,.int 0,.int 0]) h Q:=by
 show Q (.bl (eqW (.lst [.int a,.int b,.int c]) (.lst [.int 0,.int 0,.int 0]))) h
 rw [eq000]
 have e:decide (a=0∧b=0∧c=0)=decide ((a,b,c)=((0,0,0):Tr)):=decide_eq_decide.mpr (by simp)
 rw [e]
 exact k
def MixX (c0:MSp):Prop:=∀ {h:Gh} {n m:Nat} {p q:Tr} {Q:WK} {E:XWK},m≤1000→Rs h n→Pl p→SmT m p→SmT m q→(∀ (t:Tr) (h':Gh),Pl t→SmT (m+7) t→Rs h' n→Oth n h h'→Q (tw t) h')→c0 [tw p,tw q,.loc n] h Q E
theorem w_mixed {dg pl:MSp}(hdg:jm dg)(hpl:zq pl):MixX (uD dg pl):=by
 intro h n m p q Q E hm hr pp sp sq k
 unfold uD
 rfl'
 refine hdg (n:=n) (many:=41) hr (by decide) (by unfold Sm;decide +kernel) fun d1 h1 d10 d11 r1 o1=>?_
 rfl'
 refine hdg (n:=n) (many:=41) r1 (by decide) (by unfold Sm;decide +kernel) fun d2 h2 d20 d21 r2 o2=>?_
 have s1:=sm20 d10 d11
 have s2:=sm20 d20 d21
 have kp:=k p h2 pp (sp.mono (by omega)) r2 (o1.trans o2)
 obtain ⟨x1,x2,x3⟩:=p
 obtain ⟨y1,y2,y3⟩:=q
 obtain ⟨a1,a2,a3⟩:=sp
 obtain ⟨b1,b2,b3⟩:=sq
 simp only at a1 a2 a3 b1 b2 b3
 have sv:SmT (m+7) ((d1 - 20)*x1+(d2 - 20)*y1,(d1 - 20)*x2+(d2 - 20)*y2,(d1 - 20)*x3+(d2 - 20)*y3):=⟨((s1.mul a1).add (s2.mul b1)).mono (by omega),((s1.mul a2).add (s2.mul b2)).mono (by omega),((s1.mul a3).add (s2.mul b3)).mono (by omega)⟩
 rfl'
 refine kEq_000 ?_
 rfl'
 refine iH (fun _=>?_) fun nz=>?_
 ·rfl'
  exact kp
 ·rfl'
  unfold uW
  rfl'
  exact hpl.tr (u:=((d1 - 20)*x1+(d2 - 20)*y1,(d1 - 20)*x2+(d2 - 20)*y2,(d1 - 20)*x3+(d2 - 20)*y3)) (m:=m+7) (.inr rfl) nz sv (by omega) fun t pt _ st=>k t h2 pt st r2 (o1.trans o2)
theorem iQ.ati {h:Gh}{w:W}{ts:List Tr}(e:iQ h w ts){d:Int}(h0:0≤d)(h1:d<(ts.length:Int)){Q:WK}(k:∀ t,t∈ts→Q (tw t) h):kIx w (.int d) h Q:=by
 have hi:d.toNat<ts.length:=by omega
 have:=e.at hi (k _ (gD hi))
 rwa [show ((d.toNat:Nat):Int)=d by omega] at this
def NextX (c0:MSp):Prop:=∀ {h:Gh} {n r m:Nat} {ts:List Tr} {st:Int} {Q:WK} {E:XWK},31≤m→m≤900→h.c n=some (.lst (ts.map tw))→n≠r→Rs h r→OkT m ts→1≤ts.length→ts.length≤12→(∀ (t:Tr) (h':Gh),Pl t→SmT (m+7) t→Rs h' r→Oth r h h'→Q (tw t) h')→c0 [.loc n,.int st,.loc r] h Q E
theorem w_next {dg sp mx:MSp}(hdg:jm dg)(hsp:z7 sp)(hmx:MixX mx):NextX (yt dg sp mx):=by
 intro h n r m ts st Q E hm0 hm ec hne hr hs l1 l2 k
 obtain ⟨f0,f1⟩:=far9
 unfold yt
 rfl'
 refine hdg (n:=r) (many:=6) hr (by decide) (by unfold Sm;decide +kernel) fun way h1 w0 w1 r1 o1=>?_
 have ec1:iQ h1 (.loc n) ts:=.inr ⟨n,rfl,by rw [o1.2 _ hne];exact ec⟩
 rfl'
 refine j4 ec1 ?_
 rfl'
 refine hdg (n:=r) (many:=(ts.length:Int)) r1 (by omega) (sm12 (by omega) (by omega)) fun d1 h2 d10 d11 r2 o2=>?_
 have o2:=o1.trans o2
 have ec2:iQ h2 (.loc n) ts:=.inr ⟨n,rfl,by rw [o2.2 _ hne];exact ec⟩
 refine ec2.ati d10 d11 fun one m1=>?_
 rfl'
 refine j4 ec2 ?_
 rfl'
 refine hdg (n:=r) (many:=(ts.length:Int)) r2 (by omega) (sm12 (by omega) (by omega)) fun d2 h3 d20 d21 r3 o3=>?_
 have o3:=o2.trans o3
 have ec3:iQ h3 (.loc n) ts:=.inr ⟨n,rfl,by rw [o3.2 _ hne];exact ec⟩
 refine ec3.ati d20 d21 fun oth m2=>?_
 have k3:∀ (t:Tr) (h':Gh),Pl t→SmT (m+7) t→Rs h' r→Oth r h3 h'→Q (tw t) h':=fun t h' a b c d=>k t h' a b c (o3.trans d)
 have mix:∀ {p q:Tr} {E':XWK},p∈ts→q∈ts→mx [tw p,tw q,.loc r] h3 Q E':=fun hp hq=>hmx (m:=m) (by omega) r3 (hs _ hp).1 (hs _ hp).2 (hs _ hq).2 k3
 have t4:pZ dg sp mx E { nx:=fun _ h'=>Q .non h',rt:=Q } [some (.loc n),some (.int st),some (.loc r),some (.int way),some (tw one),some (tw oth)] h3:=by
  have t5:qH dg sp mx E { nx:=fun _ h'=>Q .non h',rt:=Q } [some (.loc n),some (.int st),some (.loc r),some (.int way),some (tw one),some (tw oth)] h3:=by
   unfold qH
   rfl'
   refine iH (fun _=>?_) fun _=>?_
   ·rfl'
    exact mix m1 m2
   ·rfl'
    unfold vM
    rfl'
    refine kPow_s ⟨by decide,by decide,by decide⟩ ?_
    rfl'
    exact hsp (n:=r) r3 f0 f1 (by decide) fun t h4 pt st r4 o4=>k3 t h4 pt (st.mono (by omega)) r4 o4
  have ko:=k3 one h3 (hs _ m1).1 ((hs _ m1).2.mono (by omega)) r3 (.refl _ _)
  unfold pZ
  rfl'
  refine iH (fun _=>?_) fun _=>?_
  ·rfl'
   refine j4 ec3 ?_
   rfl'
   refine iH (fun _=>?_) fun _=>?_
   ·rfl'
    exact ko
   ·rfl'
    refine iH (fun _=>?_) fun _=>?_
    ·rfl'
     exact ko
    ·rfl'
     exact t5
  ·rfl'
   refine iH (fun _=>?_) fun _=>?_
   ·rfl'
    exact ko
   ·rfl'
    exact t5
 rfl'
 refine iH (fun _=>?_) fun _=>?_
 ·rfl'
  refine j4 ec3 ?_
  rfl'
  refine iH (fun hl=>?_) fun _=>?_
  ·rfl'
   refine iH (fun _=>?_) fun _=>?_
   ·rfl'
    refine ec3.at (i:=0) (by omega) ?_
    rfl'
    refine ec3.at (i:=1) (by omega) ?_
    rfl'
    exact mix (gD (by omega)) (gD (by omega))
   ·rfl'
    exact t4
  ·rfl'
   exact t4
 ·rfl'
  exact t4
theorem rD {r:MM}{mo:ME}{ma:MA}{σ : Sw}{h:Gh}{Q:WK}(x:mo σ h fun x h1=>vH h1 x (ma σ h1 fun xs h2=>r x xs h2 Q)):mBMl r mo ma σ h Q:=x
theorem isL2 {w:W}{us:List W}{h:Gh}{P:Prop}(e:fu h w=some us)(x:P):vH h w P:=by
 unfold vH
 rw [e]
 exact x
def co (i:Int)(t:Tr):Int:=if i=0 then t.1 else if i=1 then t.2.1 else t.2.2
def cn (l:List Tr)(t:Tr):Nat:=l.countP fun u=>decide (u=t)
def kJ (p q r s:Tr):Prop:=(p=q∧q=r)∨(p=q∧q=s)∨(p=r∧r=s)∨(q=r∧r=s)
instance (p q r s:Tr):Decidable (kJ p q r s):=inferInstanceAs (Decidable (_∨_))
theorem Ai {x:W}{ts:List Tr}{t:Tr}{h:Gh}{Q:WK}(e:fu h x=some (ts.map tw))(k:Q (.int (cn ts t:Int)) h):vI x [tw t] h Q:=by
 have ea:(ts.map tw).all (plW 20)=true:=by
  rw [List.all_eq_true]
  intro w hw
  obtain ⟨u,_,rfl⟩:=List.mem_map.mp hw
  exact pl_tw 19 u
 have ec:(ts.map tw).countP (fun u=>eqW u (tw t))=cn ts t:=by
  unfold cn
  rw [List.countP_map]
  congr 1
  funext u
  exact eq_tw u t
 show (match fu h x with
  | some us=>by2 (plW 20 (tw t)&&us.all (plW 20)) (Q (.int (us.countP fun u=>eqW u (tw t))) h) False
  | none=>False)
 rw [e]
 dsimp only
 rw [pl_tw 19,ea,ec]
 exact k
theorem cn4 (p q r s x:Tr):(cn [p,q,r,s] x:Int)=(if p=x then 1 else 0)+(if q=x then 1 else 0)+(if r=x then 1 else 0)+(if s=x then 1 else 0):=by
 simp only [cn,List.countP_cons,List.countP_nil,decide_eq_true_eq]
 by_cases a:p=x <;> by_cases b:q=x <;> by_cases c:r=x <;> by_cases d:s=x <;> simp [a,b,c,d]
theorem cn_eq {p q r s:Tr}{M:Int}(hm:M∈[(cn [p,q,r,s] p:Int),(cn [p,q,r,s] q:Int),(cn [p,q,r,s] r:Int),(cn [p,q,r,s] s:Int)])(hle:∀ a,a∈[(cn [p,q,r,s] p:Int),(cn [p,q,r,s] q:Int),(cn [p,q,r,s] r:Int),(cn [p,q,r,s] s:Int)]→a≤M):decide (M>2)=decide (kJ p q r s):=by
 refine decide_eq_decide.mpr ⟨fun g=>?_,fun g=>?_⟩
 ·have:∃ x,(cn [p,q,r,s] x:Int)=M:=by
   simp only [List.mem_cons,List.not_mem_nil,or_false] at hm
   rcases hm with h | h | h | h <;> exact ⟨_,h.symm⟩
  obtain ⟨x,hx⟩:=this
  rw [cn4] at hx
  by_cases a:p=x <;> by_cases b:q=x <;> by_cases c:r=x <;> by_cases d:s=x <;> first | exact .inl ⟨a.trans b.symm,b.trans c.symm⟩ | exact .inr (.inl ⟨a.trans b.symm,b.trans d.symm⟩) | exact .inr (.inr (.inl ⟨a.trans c.symm,c.trans d.symm⟩)) | exact .inr (.inr (.inr ⟨b.trans c.symm,c.trans d.symm⟩)) | (simp [a,b,c,d] at hx;omega)
 ·have h1:=hle (cn [p,q,r,s] p) (by simp)
  have h2:=hle (cn [p,q,r,s] q) (by simp)
  rw [cn4] at h1 h2
  rcases g with ⟨rfl,rfl⟩ | ⟨rfl,rfl⟩ | ⟨rfl,rfl⟩ | ⟨rfl,rfl⟩
  ·simp only [if_true] at h1;split at h1 <;> omega
  ·simp only [if_true] at h1;split at h1 <;> omega
  ·simp only [if_true] at h1;split at h1 <;> omega
  ·simp only [if_true] at h2;split at h2 <;> omega
def ThreeX (c0:MSp):Prop:=∀ {h:Gh} {p q r s:Tr} {Q:WK} {E:XWK},Q (.bl (decide (kJ p q r s))) h→c0 [q4 p q r s] h Q E
theorem w_three:ThreeX fB:=by
 intro h p q r s Q E k
 unfold fB q4
 rfl'
 refine rD ?_
 rfl'
 refine isL2 (us:=[tw p,tw q,tw r,tw s]) rfl ?_
 rfl'
 refine Ai (ts:=[p,q,r,s]) rfl ?_
 rfl'
 refine rD ?_
 rfl'
 refine isL2 (us:=[tw p,tw q,tw r,tw s]) rfl ?_
 rfl'
 refine Ai (ts:=[p,q,r,s]) rfl ?_
 rfl'
 refine rD ?_
 rfl'
 refine isL2 (us:=[tw p,tw q,tw r,tw s]) rfl ?_
 rfl'
 refine Ai (ts:=[p,q,r,s]) rfl ?_
 rfl'
 refine rD ?_
 rfl'
 refine isL2 (us:=[tw p,tw q,tw r,tw s]) rfl ?_
 rfl'
 refine Ai (ts:=[p,q,r,s]) rfl ?_
 rfl'
 refine ⟨[(cn [p,q,r,s] p:Int),(cn [p,q,r,s] q:Int),(cn [p,q,r,s] r:Int),(cn [p,q,r,s] s:Int)],rfl,Nat.succ_pos _,fun M hM hle=>?_⟩
 rfl'
 rw [cn_eq hM hle]
 exact k
def TurnAt (c0:MSp):Prop:=∀ {h:Gh} {p q:Tr} {i:Int} {m:Nat} {Q:WK} {E:XWK},i=0∨i=1∨i=2→m≤4000→SmT m p→SmT m q→Q (.int (co i (crs p q))) h→c0 [tw p,tw q,.int i] h Q E
theorem w_turnAt:TurnAt uc:=by
 intro h p q i m Q E hi hm sp sq k
 obtain ⟨p1,p2,p3⟩:=p
 obtain ⟨q1,q2,q3⟩:=q
 obtain ⟨a1,a2,a3⟩:=sp
 obtain ⟨b1,b2,b3⟩:=sq
 simp only at a1 a2 a3 b1 b2 b3
 unfold uc
 rcases hi with rfl | rfl | rfl
 ·rfl'
  refine vU (by decide) ?_
  rfl'
  refine vU (by decide) ?_
  rfl'
  exact k
 ·rfl'
  refine vU (by decide) ?_
  rfl'
  refine vU (by decide) ?_
  rfl'
  exact k
 ·rfl'
  refine vU (by decide) ?_
  rfl'
  refine vU (by decide) ?_
  rfl'
  exact k
theorem rH {i:Int}{m:Nat}{t:Tr}(h:SmT m t):Sm m (co i t):=by
 unfold co
 split
 ·exact h.1
 split
 ·exact h.2.1
 ·exact h.2.2
def ix3 (t:Tr):Int:=if t.1≠0 then 0 else if t.2.1≠0 then 1 else 2
theorem ix3_in (t:Tr):ix3 t=0∨ix3 t=1∨ix3 t=2:=by
 unfold ix3
 split
 ·exact .inl rfl
 split
 ·exact .inr (.inl rfl)
 ·exact .inr (.inr rfl)
def fo (p q r s:Tr):Tr:=if q≠p then q else if r≠p then r else s
def ixp (p q r s:Tr):Int:=ix3 (crs p (fo p q r s))
def tn (p q r s:Tr):Int×Int:=(co (ixp p q r s) (crs p r)*co (ixp p q r s) (crs q s),co (ixp p q r s) (crs p s)*co (ixp p q r s) (crs q r))
theorem fo_in (p q r s:Tr):fo p q r s∈[p,q,r,s]:=by
 unfold fo
 split
 ·simp
 split
 ·simp
 ·simp
theorem fo_ne {p q r s:Tr}(h:¬ (q=p∧r=p∧s=p)):fo p q r s≠p:=by
 unfold fo
 split
 ·assumption
 split
 ·assumption
 ·rename_i a b
  rw [Decidable.not_not] at a b
  exact fun c=>h ⟨a,b,c⟩
theorem fo_head {p q r s:Tr}(h:¬ (q=p∧r=p∧s=p)):∃ us,[p,q,r,s].filter (·≠p)=fo p q r s::us:=by
 unfold fo
 by_cases a:q=p
 ·by_cases b:r=p
  ·have c:s≠p:=fun c=>h ⟨a,b,c⟩
   exact ⟨[],by simp [a,b,c]⟩
  ·exact ⟨_,by rw [if_neg (by simp [a]),if_pos b];simp [a,b];rfl⟩
 ·exact ⟨_,by rw [if_pos a];simp [a];rfl⟩
def PlaceY (c0:MSp):Prop:=∀ {h:Gh} {p q r s:Tr} {m:Nat} {Q:WK} {E:XWK},m≤4000→(∀ t∈[p,q,r,s],Pl t∧SmT m t)→¬ (q=p∧r=p∧s=p)→Q (.int (ixp p q r s)) h→c0 [q4 p q r s] h Q E
theorem w_placeY {cr:MSp}(hcr:CrsOk cr):PlaceY (mU cr):=by
 intro h p q r s m Q E hm hs hne k
 obtain ⟨us,eus⟩:=fo_head hne
 have mu:=fo_in p q r s
 have nu:=fo_ne hne
 unfold ixp at k
 unfold mU
 refine j5 rfl (σ:=[some (q4 p q r s),none,none]) rfl (bU (cT ?_))
 refine yV (t0:=p) (r:=[q,r,s]) (.inl rfl) (by simp) ?_
 rw [eus]
 generalize fo p q r s=u at mu nu k eus
 have c0:=crs_ne (hs p (by simp)).1 (hs u mu).1 (Ne.symm nu)
 refine bB (σ':=[some (q4 p q r s),some (.lst (tw u::us.map tw)),none]) rfl (j7 ?_)
 unfold q4
 rfl'
 refine wK (ws:=tw u::us.map tw) (w:=tw u) rfl (nF (j:=0) rfl) ?_
 rfl'
 refine hcr (m:=m) (by omega) (hs p (by simp)).2 (hs u mu).2 ?_
 generalize crs p u=L at c0 k
 obtain ⟨x,y,z⟩:=L
 unfold ix3 at k
 dsimp only at k
 rfl'
 refine by2_d (fun x0=>?_) fun x0=>?_
 ·rw [if_pos x0] at k
  rfl'
  refine by2_d (fun y0=>?_) fun y0=>?_
  ·rfl'
   refine by2_d (fun z0=>?_) fun z0=>?_
   ·rfl'
    exact k
   ·rfl'
    exact k
  ·rfl'
   refine by2_d (fun z0=>?_) fun z0=>?_
   ·rfl'
    exact k
   ·rfl'
    exact k
 ·rw [if_neg x0] at k
  rfl'
  refine by2_d (fun y0=>?_) fun y0=>?_
  ·rw [if_pos y0] at k
   rfl'
   refine by2_d (fun z0=>?_) fun z0=>?_
   ·rfl'
    exact k
   ·rfl'
    exact k
  ·rw [if_neg y0] at k
   rfl'
   refine by2_d (fun z0=>?_) fun z0=>?_
   ·rfl'
    exact k
   ·refine absurd ?_ c0
    rw [Decidable.not_not] at x0 y0 z0
    exact Prod.ext x0 (Prod.ext y0 z0)
def NumY (c0:MSp):Prop:=∀ {h:Gh} {p q r s:Tr} {m:Nat} {Q:WK} {E:XWK},m≤1000→(∀ t∈[p,q,r,s],Pl t∧SmT m t)→¬ (q=p∧r=p∧s=p)→Q (.lst [.int (tn p q r s).1,.int (tn p q r s).2]) h→c0 [q4 p q r s] h Q E
theorem w_numY {po ta:MSp}(hpo:PlaceY po)(hta:TurnAt ta):NumY (gH po ta):=by
 intro h p q r s m Q E hm hs hne k
 have sp:=(hs p (by simp)).2
 have sq:=(hs q (by simp)).2
 have sr:=(hs r (by simp)).2
 have ss:=(hs s (by simp)).2
 unfold gH
 rfl'
 refine hpo (m:=m) (by omega) hs hne ?_
 have hi:=ix3_in (crs p (fo p q r s))
 unfold tn at k
 change ixp p q r s=0∨ixp p q r s=1∨ixp p q r s=2 at hi
 generalize ixp p q r s=i at k hi
 have s1:=rH (i:=i) (d7 sp sr)
 have s2:=rH (i:=i) (d7 sq ss)
 have s3:=rH (i:=i) (d7 sp ss)
 have s4:=rH (i:=i) (d7 sq sr)
 unfold q4
 rfl'
 refine hta hi (by omega) sp sr ?_
 rfl'
 refine hta hi (by omega) sq ss ?_
 rfl'
 refine hta hi (by omega) sp ss ?_
 rfl'
 refine hta hi (by omega) sq sr ?_
 rfl'
 exact k
theorem kNe_nil {l:List Nat}{h:Gh}{Q:WK}(k:Q (.bl (decide (l≠[]))) h):kNe (cD l) (.tup []) h Q:=by
 cases l with
 | nil=>exact k
 | cons x l=>
  have hp:plW 30 (cD (x::l))=true:=by simp [cD,plW]
  show by2 (plW 30 (cD (x::l))&&plW 30 (.tup [])) (Q (.bl (!eqW (cD (x::l)) (.tup []))) h) False
  rw [hp]
  exact k
theorem yc {us:List W}{i:Nat}(h:us.length=i+1):atI us (-1)=atI us (i:Int):=by
 have e1:ixN (i+1) (-1)=some i:=by
  unfold ixN
  repeat' split
  all_goals first | (exfalso;omega) | (congr 1;omega)
 have e2:ixN (i+1) (i:Int)=some i:=by
  unfold ixN
  repeat' split
  all_goals first | (exfalso;omega) | (congr 1)
 unfold atI
 rw [h,e1,e2]
theorem w_places:jF qC:=by
 intro h m k Q E hm hk q
 unfold qC
 refine mFnT_v rfl (σ:=[some (.int (m:Int)),some (.int (k:Int)),none,none,none,none,none]) rfl ?_
 refine bU (cT (mLst_s (aO (oH (bJ (fX rfl (bJ (fX rfl ?_))))))))
 refine bB (σ':=[some (.int (m:Int)),some (.int (k:Int)),some (.lst [.tup []]),none,none,none,none]) rfl (j7 ?_)
 refine bU (je (lq (aO (aP rfl (bJ (rgK_s (by omega) (iY ?_)))))))
 refine qd (fun i σ h'=>∃ w s3 s4 s5 s6,σ = [some (.int (m:Int)),some (.int (k:Int)),some w,s3,s4,s5,s6]∧(w=.lst ((rise m i).map cD)∨∃ n,w=.loc n∧h.nx≤n∧n<h'.nx∧h'.c n=some (.lst ((rise m i).map cD)))∧h.nx≤h'.nx∧∀ n,n<h.nx→h'.c n=h.c n) ?_ ?_ ⟨_,_,_,_,_,rfl,.inl rfl,Nat.le_refl _,fun _ _=>rfl⟩
 ·rintro i w0 σ h' N hN e ⟨w,s3,s4,s5,s6,rfl,hw,hx,ho⟩
  rw [List.getElem?_map] at e
  cases qe:(rng 0 k)[i]? with
  | none=>rw [qe] at e;cases e
  | some i'=>
   rw [qe] at e
   cases e
   obtain ⟨ei,hik⟩:=rng_get qe
   rw [Nat.zero_add] at ei
   subst ei
   refine bB (σ':=[some (.int (m:Int)),some (.int (k:Int)),some w,some (.int (i':Int)),s4,s5,s6]) rfl ?_
   refine bU (cT (mLstM_g (ws:=[]) (fun R=>rfl) rfl fun g eg og xg=>?_))
   refine bB (σ':=[some (.int (m:Int)),some (.int (k:Int)),some w,some (.int (i':Int)),some (.loc h'.nx),s5,s6]) rfl (j7 ?_)
   refine bU ?_
   have sw:∀ g':Gh,(∀ n,n≠h'.nx→g'.c n=h'.c n)→SrcW g' w ((rise m i').map cD):=by
    intro g' hg
    rcases hw with rfl | ⟨n,rfl,h1,h2,h3⟩
    ·exact .inl rfl
    ·exact .inr ⟨n,rfl,by rw [hg n (by omega)];exact h3⟩
   refine for_srcW (i:=2) (w:=w) (v:=cD) (xs:=rise m i') rfl (sw g og) (fun j σ g'=>∃ s5 s6,σ = [some (.int (m:Int)),some (.int (k:Int)),some w,some (.int (i':Int)),some (.loc h'.nx),s5,s6]∧g'.c h'.nx=some (.lst ((((rise m i').take j).flatMap (grow m)).map cD))∧g'.nx=h'.nx+1∧∀ n,n≠h'.nx→g'.c n=h'.c n) ?_ ?_ ?_ ⟨_,_,rfl,eg,xg,og⟩
   ·rintro j σ g' ⟨s5,s6,rfl,h1,h2,h3⟩
    exact sw g' h3
   ·rintro j l σ g' N2 hN2 el ⟨s5,s6,rfl,h1,h2,h3⟩
    have ml:=List.mem_of_getElem? el
    have ll:=cF ml
    have ln:=nxt_le ml
    refine bB (σ':=[some (.int (m:Int)),some (.int (k:Int)),some w,some (.int (i':Int)),some (.loc h'.nx),some (cD l),s6]) rfl ?_
    have fin:∀ σ,σ = [some (.int (m:Int)),some (.int (k:Int)),some w,some (.int (i':Int)),some (.loc h'.nx),some (cD l),some (.int (nxt l:Int))]→uT (mBMr gM (aB 4) (ao (mLC ow1 [5] (nRng2 (ao (aB 6) (ao (aB 0) aJ))) iR (mOp cu (aB 1) (j6 (ao (aB 0) aJ)))) aJ)) { nx:=N2,rt:=fun w h'=>xZ true h w h' Q,bk:=fun _ _=>False,ct:=N2 } σ g':=by
     rintro σ rfl
     refine xP (mBMr_s (aP rfl (isLst_c h1 (aO (lc_grow hm (by omega) ln rfl rfl rfl (bJ (ext_g h1 ?_ fun g2 e2 o2 x2=>?_)))))))
     ·rw [List.length_map,List.length_map,←List.length_append,show grow m l=[l].flatMap (grow m) by simp,←List.flatMap_append]
      have hp:(rise m i').take (j+1)=(rise m i').take j++[l]:=by rw [List.take_succ,el];rfl
      rw [←hp]
      have hr:=wC m hm (i'+1) (by omega)
      rw [rise,←List.take_append_drop (j+1) (rise m i'),List.flatMap_append,List.length_append] at hr
      omega
     ·refine hN2 _ _ ⟨_,_,rfl,?_,by rw [x2];exact h2,fun n hn=>by rw [o2 n hn];exact h3 n hn⟩
      rw [e2,List.take_succ,el,List.flatMap_append,List.map_append]
      simp
    refine bU (cT (yH ?_))
    refine bB (σ':=[some (.int (m:Int)),some (.int (k:Int)),some w,some (.int (i':Int)),some (.loc h'.nx),some (cD l),some (.int 0)]) rfl (j7 (bU (vW (nH (eV (aP rfl (oH (bJ (fX rfl (kNe_nil (tK_s ?_)))))))))))
    refine iH (fun hp=>?_) fun hp=>?_
    ·have hl:l.length=(i' - 1)+1:=by
      have:l.length≠0:=fun z=>hp (List.eq_nil_of_length_eq_zero z)
      omega
     obtain ⟨x,ex,ax⟩:=atI_lst hl
     have en:nxt l=x+1:=by unfold nxt;rw [ex]
     refine cT (eV (eV (aP rfl (mUn_s (yH (mNeg_s (wK (x:=cD l) (i:=-1) (w:=.int (x:Int)) rfl ?_ (yH (kAddA_s ?_)))))))))
     ·rw [←ax]
      exact yc (by rw [List.length_map,hl])
     ·refine bB (σ':=[some (.int (m:Int)),some (.int (k:Int)),some w,some (.int (i':Int)),some (.loc h'.nx),some (cD l),some (.int (nxt l:Int))]) (by rw [en];rfl) (j7 (fin _ rfl))
    ·rw [Decidable.not_not] at hp
     have en:nxt l=0:=by rw [hp];rfl
     exact j7 (fin _ (by rw [en];rfl))
   ·rintro σ g' ⟨s5,s6,rfl,h1,h2,h3⟩
    rw [List.take_length] at h1
    refine j7 ?_
    refine cT ?_
    refine aP rfl ?_
    refine bB (σ':=[some (.int (m:Int)),some (.int (k:Int)),some (.loc h'.nx),some (.int (i':Int)),some (.loc h'.nx),s5,s6]) rfl (j7 ?_)
    exact hN _ _ ⟨_,_,_,_,_,rfl,.inr ⟨_,rfl,hx,by omega,h1⟩,by omega,fun n hn=>by rw [h3 n (by omega)];exact ho n hn⟩
 ·rintro σ h' ⟨w,s3,s4,s5,s6,rfl,hw,hx,ho⟩
  have hl:((rng 0 k).map fun x:Nat=>W.int (x:Int)).length=k:=by
   rw [List.length_map]
   unfold rng
   rw [List.length_range']
   omega
  rw [hl] at hw
  unfold qK
  refine j7 ?_
  refine pQ ?_
  refine aP rfl ?_
  refine rt_s ?_
  refine ⟨fun n c hn e=>by rw [ho n hn];exact e,?_⟩
  rcases hw with rfl | ⟨n,rfl,h1,h2,h3⟩
  ·exact .inl ⟨by rw [Lo];exact oG _ _,q⟩
  ·exact .inr ⟨n,_,rfl,h1,h3,oG _ _,q⟩
theorem all4 {p q r s:Tr}(h1:dt3 (crs q r) s=0)(h2:dt3 (crs r s) p=0)(h3:dt3 (crs s p) q=0)(h4:dt3 (crs p q) r=0):AllP [p,q,r,s]:=by
 refine kY fun k j i kj ji a b c ea eb ec=>?_
 have hi:=(List.getElem?_eq_some_iff.mp ec).1
 simp only [List.length_cons,List.length_nil] at hi
 have hc:(k=0∧j=1∧i=2)∨(k=0∧j=1∧i=3)∨(k=0∧j=2∧i=3)∨(k=1∧j=2∧i=3):=by omega
 rcases hc with ⟨rfl,rfl,rfl⟩ | ⟨rfl,rfl,rfl⟩ | ⟨rfl,rfl,rfl⟩ | ⟨rfl,rfl,rfl⟩ <;> simp at ea eb ec <;> subst ea eb ec
 ·rw [iM,iM];exact h4
 ·rw [iM];exact h3
 ·exact h2
 ·rw [iM,iM];exact h1
def LieY (c0:MSp):Prop:=∀ {h:Gh} {p q r s:Tr} {m:Nat} {Q:WK} {E:XWK},m≤4000→(∀ t∈[p,q,r,s],Pl t∧SmT m t)→Q (.bl (nY [p,q,r,s])) h→c0 [q4 p q r s] h Q E
theorem w_lieY {tu:MSp}(htu:uw tu):LieY (r_l_lie tu):=by
 intro h p q r s m Q E hm hs k
 have sp:=(hs p (by simp)).2
 have sq:=(hs q (by simp)).2
 have sr:=(hs r (by simp)).2
 have ss:=(hs s (by simp)).2
 unfold r_l_lie q4
 refine j5 rfl (σ:=[some (.lst [tw p,tw q,tw r,tw s]),none]) rfl ?_
 refine bU (je (lq (aO (yH (bJ (rgK_4 (iY ?_)))))))
 rfl'
 refine htu hm sq sr ss ?_
 rfl'
 refine iH (fun z=>?_) fun f1=>?_
 ·rfl'
  rw [qu fun a=>z (a s (by simp) q (by simp) r (by simp))] at k
  exact k
 rfl'
 refine htu hm sr ss sp ?_
 rfl'
 refine iH (fun z=>?_) fun f2=>?_
 ·rfl'
  rw [qu fun a=>z (a p (by simp) r (by simp) s (by simp))] at k
  exact k
 rfl'
 refine htu hm ss sp sq ?_
 rfl'
 refine iH (fun z=>?_) fun f3=>?_
 ·rfl'
  rw [qu fun a=>z (a q (by simp) s (by simp) p (by simp))] at k
  exact k
 rfl'
 refine htu hm sp sq sr ?_
 rfl'
 refine iH (fun z=>?_) fun f4=>?_
 ·rfl'
  rw [qu fun a=>z (a r (by simp) p (by simp) q (by simp))] at k
  exact k
 rfl'
 unfold yW
 rfl'
 rw [Decidable.not_not] at f1 f2 f3 f4
 rw [uf (all4 f1 f2 f3 f4)] at k
 exact k
def imv (a b c d s:Tr):Tr:=(dt3 (crs s b) c*dt3 (crs a d) c*dt3 (crs a b) d,dt3 (crs a s) c*dt3 (crs d b) c*dt3 (crs a b) d,dt3 (crs a b) s*dt3 (crs d b) c*dt3 (crs a d) c)
theorem cram (a b c s:Tr):sc (dt3 (crs a b) c) s=(dt3 (crs s b) c*a.1+dt3 (crs a s) c*b.1+dt3 (crs a b) s*c.1,dt3 (crs s b) c*a.2.1+dt3 (crs a s) c*b.2.1+dt3 (crs a b) s*c.2.1,dt3 (crs s b) c*a.2.2+dt3 (crs a s) c*b.2.2+dt3 (crs a b) s*c.2.2):=by
 obtain ⟨a1,a2,a3⟩:=a
 obtain ⟨b1,b2,b3⟩:=b
 obtain ⟨c1,c2,c3⟩:=c
 obtain ⟨s1,s2,s3⟩:=s
 simp only [sc,dt3,crs]
 refine Prod.ext ?_ (Prod.ext ?_ ?_) <;> simp only <;> grind
theorem free_adc {a b c d:Tr}(f:Free a b c d):dt3 (crs a d) c≠0∧dt3 (crs d b) c≠0:=by
 have e1:dt3 (crs a d) c = - dt3 (crs a c) d:=by simp only [dt3,crs];grind
 have e2:dt3 (crs d b) c=dt3 (crs b c) d:=by simp only [dt3,crs];grind
 exact ⟨by rw [e1];exact fun z=>f.2.2.1 (by omega),by rw [e2];exact f.2.2.2⟩
theorem imv_ne {a b c d s:Tr}(f:Free a b c d)(hs:s≠(0,0,0)):imv a b c d s≠(0,0,0):=by
 intro e
 obtain ⟨h1,h2⟩:=free_adc f
 unfold imv at e
 obtain ⟨e1,e2,e3⟩:=by simpa only [Prod.mk.injEq] using e
 have z:∀ {x y w:Int},y≠0→w≠0→x*y*w=0→x=0:=fun hy hw h=>by
  rcases Int.mul_eq_zero.mp h with h | h
  ·exact (Int.mul_eq_zero.mp h).resolve_right hy
  ·exact absurd h hw
 have z1:=z h1 f.2.1 e1
 have z2:=z h2 f.2.1 e2
 have z3:=z h2 h1 e3
 have:=cram a b c s
 rw [z1,z2,z3] at this
 have f1:=f.1
 generalize dt3 (crs a b) c=D at this f1
 obtain ⟨s1,s2,s3⟩:=s
 simp only [sc,Prod.mk.injEq,Int.zero_mul,Int.add_zero] at this
 obtain ⟨g1,g2,g3⟩:=this
 exact hs (by rw [(Int.mul_eq_zero.mp g1).resolve_right f1,(Int.mul_eq_zero.mp g2).resolve_right f1,(Int.mul_eq_zero.mp g3).resolve_right f1])
theorem qg {m:Nat}{p q r:Tr}(sp:SmT m p)(sq:SmT m q)(sr:SmT m r):Sm (3*m+4) (dt3 (crs p q) r):=(dt3_sm (d7 sp sq) sr).mono (by omega)
def ImgX (c0:MSp):Prop:=∀ {h:Gh} {a b c d s:Tr} {m:Nat} {Q:WK} {E:XWK},m≤800→SmT m a→SmT m b→SmT m c→SmT m d→SmT m s→Free a b c d→s≠(0,0,0)→(∀ t,Pl t→Par (imv a b c d s) t→Q (tw t) h)→c0 [q4 a b c d,tw s] h Q E
theorem w_image {pl tu:MSp}(hpl:zq pl)(htu:uw tu):ImgX (uR pl tu):=by
 intro h a b c d s m Q E hm sa sb sc' sd ss f hs k
 have ne:=imv_ne f hs
 have t1:=qg ss sb sc'
 have t2:=qg sa sd sc'
 have t3:=qg sa sb sd
 have t4:=qg sa ss sc'
 have t5:=qg sd sb sc'
 have t6:=qg sa sb ss
 have si:SmT (9*m+12) (imv a b c d s):=⟨((t1.mul t2).mul t3).mono (by omega),((t4.mul t5).mul t3).mono (by omega),((t6.mul t5).mul t2).mono (by omega)⟩
 have c1:∀ {x y:Int},Sm (3*m+4) x→Sm (3*m+4) y→eX x y:=fun hx hy=>.of hx hy (by omega) (by omega)
 have c2:∀ {x y z:Int},Sm (3*m+4) x→Sm (3*m+4) y→Sm (3*m+4) z→eX (x*y) z:=fun hx hy hz=>.of (hx.mul hy) hz (by omega) (by omega)
 unfold uR q4
 rfl'
 refine htu (by omega) ss sb sc' ?_
 rfl'
 refine htu (by omega) sa sd sc' ?_
 refine uQ (c1 t1 t2) ?_
 rfl'
 refine htu (by omega) sa sb sd ?_
 refine uQ (c2 t1 t2 t3) ?_
 rfl'
 refine htu (by omega) sa ss sc' ?_
 rfl'
 refine htu (by omega) sd sb sc' ?_
 refine uQ (c1 t4 t5) ?_
 rfl'
 refine htu (by omega) sa sb sd ?_
 refine uQ (c2 t4 t5 t3) ?_
 rfl'
 refine htu (by omega) sa sb ss ?_
 rfl'
 refine htu (by omega) sd sb sc' ?_
 refine uQ (c1 t6 t5) ?_
 rfl'
 refine htu (by omega) sa sd sc' ?_
 refine uQ (c2 t6 t5 t2) ?_
 rfl'
 exact hpl.tr (u:=imv a b c d s) (.inl rfl) ne si (by omega) fun t pt par _=>k t pt par
def TwosX (c0:MSp):Prop:=∀ {h:Gh} {a b c d:Tr} {Q:WK} {E:XWK},Q (.bl (decide (decide (a=b)≠decide (c=d)))) h→c0 [.lst [tw a,tw b],.lst [tw c,tw d]] h Q E
theorem w_twos:TwosX jf:=by
 intro h a b c d Q E k
 unfold jf
 rfl'
 exact k
def ThreesX (c0:MSp):Prop:=∀ {h:Gh} {p q r p' q' r':Tr} {m:Nat} {Q:WK} {E:XWK},m≤4000→OkT m [p,q,r]→OkT m [p',q',r']→Q (.bl (decide (decide (dt3 (crs p q) r=0)≠decide (dt3 (crs p' q') r'=0)))) h→c0 [.lst [tw p,tw q,tw r],.lst [tw p',tw q',tw r']] h Q E
theorem w_threes {ol:MSp}(hol:qI ol):ThreesX (gC ol):=by
 intro h p q r p' q' r' m Q E hm o1 o2 k
 unfold gC
 rfl'
 refine hol (ts:=[p,q,r]) (M:=m) (.inl rfl) (by simp) hm o1 ?_
 rw [flat3]
 rfl'
 refine hol (ts:=[p',q',r']) (M:=m) (.inl rfl) (by simp) hm o2 ?_
 rw [flat3]
 rfl'
 exact k
noncomputable def thB (p q r s p' q' r' s':Tr):Bool:=nY [p,q,r,s]&&(!decide (kJ p q r s)&&decide ((tn p q r s).1*(tn p' q' r' s').2≠(tn p q r s).2*(tn p' q' r' s').1))
theorem tn_sm {p q r s:Tr}{m:Nat}(h:∀ t∈[p,q,r,s],Pl t∧SmT m t):Sm (4*m+2) (tn p q r s).1∧Sm (4*m+2) (tn p q r s).2:=by
 have sp:=(h p (by simp)).2
 have sq:=(h q (by simp)).2
 have sr:=(h r (by simp)).2
 have ss:=(h s (by simp)).2
 exact ⟨((rH (d7 sp sr)).mul (rH (d7 sq ss))).mono (by omega),((rH (d7 sp ss)).mul (rH (d7 sq sr))).mono (by omega)⟩
theorem not3 {p q r s:Tr}(h:¬ kJ p q r s):¬ (q=p∧r=p∧s=p):=fun ⟨a,b,_⟩=>h (.inl ⟨a.symm,a.trans b.symm⟩)
def ThrowsX (c0:MSp):Prop:=∀ {h:Gh} {p q r s p' q' r' s':Tr} {m:Nat} {Q:WK} {E:XWK},m≤900→OkT m [p,q,r,s]→OkT m [p',q',r',s']→(¬ kJ p q r s→¬ (q'=p'∧r'=p'∧s'=p'))→Q (.bl (thB p q r s p' q' r' s')) h→c0 [q4 p q r s,q4 p' q' r' s'] h Q E
theorem w_throws {ol th tn':MSp}(hol:qI ol)(hth:ThreeX th)(htn:NumY tn'):ThrowsX (gP ol th tn'):=by
 intro h p q r s p' q' r' s' m Q E hm o1 o2 hne k
 unfold thB at k
 obtain ⟨s1,s2⟩:=tn_sm o1
 obtain ⟨s3,s4⟩:=tn_sm o2
 unfold gP
 rfl'
 refine hol (ts:=[p,q,r,s]) (M:=m) (.inl rfl) (by simp) (by omega) o1 ?_
 cases hf:nY [p,q,r,s] with
 | false=>
  rw [hf] at k
  rfl'
  exact k
 | true=>
  rw [hf] at k
  rfl'
  refine hth ?_
  rfl'
  refine iH (fun ha=>?_) fun ha=>?_
  ·rw [decide_eq_true ha] at k
   rfl'
   exact k
  ·rw [decide_eq_false ha] at k
   rfl'
   unfold iT
   rfl'
   refine htn (m:=m) (by omega) o1 (not3 ha) ?_
   rfl'
   refine htn (m:=m) (by omega) o2 (hne ha) ?_
   generalize tn p q r s=u at k s1 s2
   generalize tn p' q' r' s'=v at k s3 s4
   rfl'
   exact k
theorem lcF {vs:List Tr}{ws0:List W}{ix:List Nat}{tt:MT}{σ : Sw}{h:Gh}{Q:WK}(f:Tr→Bool)(ht:∀ t∈vs,∀ (R:Bool→Gh→Prop),R (f t) h→tt ([tw t].map some++sV ix σ) h R)(q:Q (.lst ((vs.filter f).map tw)) h):qj ⟨ws0,none⟩ ow1 ix tt (aB 0) σ Q (vs.map tw) [] h:=by
 refine rC (fun i acc h'=>h'=h∧acc=((vs.take i).filter f).map tw) ?_ ?_ ⟨rfl,rfl⟩
 ·rintro i w acc h' N hN e ⟨rfl,rfl⟩
  obtain ⟨t,et,rfl⟩:=tw_get e
  refine ⟨[tw t],rfl,?_⟩
  refine ht t (List.mem_of_getElem? et) _ ?_
  have es:∀ b,f t=b→((vs.take (i+1)).filter f).map tw=((vs.take i).filter f).map tw++(if b then [tw t] else []):=fun b hb=>by
   rw [List.take_succ,et,List.filter_append,List.map_append]
   cases b <;> simp [hb]
  cases hb:f t with
  | true=>exact yK (aP rfl (hN _ _ ⟨rfl,by rw [es true hb];rfl⟩))
  | false=>exact by2_fs (hN _ _ ⟨rfl,by rw [es false hb];simp⟩)
 ·rintro acc h' ⟨rfl,rfl⟩
  rw [List.length_map,List.take_length]
  exact q
def ei (i:Int):Tr:=if i=0 then (1,0,0) else if i=1 then (0,1,0) else (0,0,1)
theorem dt_ei {i:Int}(t:Tr):dt3 t (ei i)=co i t∧dt3 (ei i) t=co i t:=by
 obtain ⟨a,b,c⟩:=t
 unfold ei co
 split
 ·simp [dt3]
 split
 ·simp [dt3]
 ·simp [dt3]
theorem ei_sm (i:Int){m:Nat}:SmT (m+1) (ei i):=by
 have o:Sm 1 1:=by unfold Sm;decide +kernel
 have z:Sm 1 0:=by unfold Sm;decide +kernel
 have g:SmT 1 (ei i):=by
  unfold ei
  split
  ·exact ⟨o,z,z⟩
  split
  ·exact ⟨z,o,z⟩
  ·exact ⟨z,z,o⟩
 exact g.mono (by omega)
theorem ix3_head {L:Tr}(h:L≠(0,0,0)):∃ us,[ei 0,ei 1,ei 2].filter (fun t=>decide (dt3 t L≠0))=ei (ix3 L)::us:=by
 obtain ⟨x,y,z⟩:=L
 have e0:dt3 (ei 0) (x,y,z)=x:=(dt_ei (i:=0) (x,y,z)).2
 have e1:dt3 (ei 1) (x,y,z)=y:=(dt_ei (i:=1) (x,y,z)).2
 have e2:dt3 (ei 2) (x,y,z)=z:=(dt_ei (i:=2) (x,y,z)).2
 rw [List.filter_cons,List.filter_cons,List.filter_cons,List.filter_nil,e0,e1,e2]
 unfold ix3
 by_cases a:x=0
 ·by_cases b:y=0
  ·have c:z≠0:=fun c=>h (by rw [a,b,c])
   exact ⟨[],by simp [a,b,c]⟩
  ·exact ⟨if decide (z≠0)=true then [ei 2] else [],by simp [a,b]⟩
 ·exact ⟨if decide (y≠0)=true then ei 1::(if decide (z≠0)=true then [ei 2] else []) else (if decide (z≠0)=true then [ei 2] else []),by simp [a]⟩
def LPartsX (c0:MSp):Prop:=∀ {h:Gh} {p q r s:Tr} {m:Nat} {Q:WK} {E:XWK},m≤900→OkT (m+1) [p,q,r,s]→¬ (q=p∧r=p∧s=p)→Q (.tup [.int (tn p q r s).1,.int (tn p q r s).2]) h→c0 [q4 p q r s] h Q E
theorem w_parts {cr dt tu:MSp}(hcr:CrsOk cr)(hdt:DotOk dt)(htu:uw tu):LPartsX (tL cr dt tu):=by
 intro h p q r s m Q E hm hs hne k
 have sp:=(hs p (by simp)).2
 have sq:=(hs q (by simp)).2
 have sr:=(hs r (by simp)).2
 have ss:=(hs s (by simp)).2
 obtain ⟨us,eus⟩:=fo_head hne
 have mu:=fo_in p q r s
 have nu:=fo_ne hne
 have tl:∀ {a b:Tr} {i:Int} {R:WK} {E':XWK},SmT (m+1) a→SmT (m+1) b→R (.int (co i (crs a b))) h→tu [tw a,tw b,tw (ei i)] h R E':=fun {a b i R E'} ha hb k=>htu (m:=m+1) (by omega) ha hb (ei_sm i) (by rw [(dt_ei (crs a b)).1];exact k)
 unfold tn at k
 unfold ixp at k
 have fin:∀ i:Int,i=ix3 (crs p (fo p q r s))→bF (bM (mOp cQ (aH tu E (ao (aB 1) (ao (aB 3) (ao (aB 7) aJ)))) (aH tu E (ao (aB 2) (ao (aB 4) (ao (aB 7) aJ))))) (nName 8))
  (cj (j6 (ao (aB 8) (ao (mOp cQ (aH tu E (ao (aB 1) (ao (aB 4) (ao (aB 7) aJ)))) (aH tu E (ao (aB 2) (ao (aB 3) (ao (aB 7) aJ))))) aJ)))) { nx:=fun _ h'=>Q .non h',rt:=Q } [some (q4 p q r s),some (tw p),some (tw q),some (tw r),some (tw s),some (tw (fo p q r s)),some (tw (crs p (fo p q r s))),some (tw (ei i)),none] h:=by
  intro i ei'
  subst ei'
  generalize ix3 (crs p (fo p q r s))=i at k
  have s1:=rH (i:=i) (d7 sp sr)
  have s2:=rH (i:=i) (d7 sq ss)
  have s3:=rH (i:=i) (d7 sp ss)
  have s4:=rH (i:=i) (d7 sq sr)
  rfl'
  refine tl sp sr ?_
  rfl'
  refine tl sq ss ?_
  rfl'
  refine tl sp ss ?_
  rfl'
  refine tl sq sr ?_
  rfl'
  exact k
 unfold tL
 refine j5 rfl (σ:=[some (q4 p q r s),none,none,none,none,none,none,none,none]) rfl ?_
 have key:∀ (u:MS) {D:cC},u D [some (q4 p q r s),some (tw p),some (tw q),some (tw r),some (tw s),none,none,none,none] h→bF (bM (aB 0) (pX 4 (dX (nName 1) (dX (nName 2) (dX (nName 3) (dX (nName 4) nNil)))))) u D [some (q4 p q r s),none,none,none,none,none,none,none,none] h:=fun u {D} hu=>by
  obtain ⟨D1,D2,D3,D4⟩:=D
  unfold q4
  rfl'
  exact hu
 refine key _ (bU (cT (eV (mLC_s (uZ (aP rfl (iK_s (ws:=[p,q,r,s].map tw) (o:=none) rfl (fX rfl (lcF (fun t=>decide (t≠p)) ?_ ?_)))))))))
 ·intro t _ R hR
  refine nH (eV (aP rfl (aP rfl (kNe_t (tK_s ?_)))))
  exact hR
 refine yH ?_
 show kIx (.lst (([p,q,r,s].filter (·≠p)).map tw)) (.int 0) h _
 rw [eus]
 refine wK (ws:=tw (fo p q r s)::us.map tw) (w:=tw (fo p q r s)) rfl (nF (j:=0) rfl) ?_
 generalize eu:fo p q r s=u at mu nu k fin
 have c0:=crs_ne (hs p (by simp)).1 (hs u mu).1 (Ne.symm nu)
 refine bB (σ':=[some (q4 p q r s),some (tw p),some (tw q),some (tw r),some (tw s),some (tw u),none,none,none]) rfl (j7 (bU (cT (cV (aO (aP rfl (aO (aP rfl (bJ ?_)))))))))
 refine hcr (m:=m+1) (by omega) sp (hs u mu).2 ?_
 have sL:=d7 sp (hs u mu).2
 generalize crs p u=L at c0 k fin sL
 refine bB (σ':=[some (q4 p q r s),some (tw p),some (tw q),some (tw r),some (tw s),some (tw u),some (tw L),none,none]) rfl (j7 (bU (cT (eV (mLC_s ?_)))))
 have ks:∀ (R:Src→Gh→Prop) (σ : Sw),R ⟨[ei 0,ei 1,ei 2].map tw,none⟩ h→nIt (yI (ao (j6 (ao (mC (.int 1)) (ao (mC (.int 0)) (ao (mC (.int 0)) aJ)))) (ao (j6 (ao (mC (.int 0)) (ao (mC (.int 1)) (ao (mC (.int 0)) aJ)))) (ao (j6 (ao (mC (.int 0)) (ao (mC (.int 0)) (ao (mC (.int 1)) aJ)))) aJ)))) σ h R:=fun R σ hR=>by
  rfl'
  exact hR
 obtain ⟨us2,e2⟩:=ix3_head c0
 refine ks _ _ (fX rfl (lcF (fun t=>decide (dt3 t L≠0)) ?_ ?_))
 ·intro t ht R hR
  have st:SmT (m+1+(m+1)+1) t:=by
   simp only [List.mem_cons,List.not_mem_nil,or_false] at ht
   rcases ht with rfl | rfl | rfl <;> exact ei_sm _
  refine nH (eV (cV (aO (aP rfl (aO (aP rfl (bJ ?_)))))))
  exact hdt (m:=m+1+(m+1)+1) (by omega) st sL (yH (kNe_i (tK_s hR)))
 rw [e2]
 refine yH (wK (ws:=tw (ei (ix3 L))::us2.map tw) (w:=tw (ei (ix3 L))) rfl (nF (j:=0) rfl) ?_)
 exact bB rfl (j7 (fin _ rfl))
def e0:Tr:=(1,0,0)
def e1:Tr:=(0,1,0)
def e2:Tr:=(0,0,1)
def e3:Tr:=(1,1,1)
theorem free_tiles:Free e0 e1 e2 e3:=⟨by decide,by decide,by decide,by decide⟩
theorem sm_tiles:SmT 2 e0∧SmT 2 e1∧SmT 2 e2∧SmT 2 e3:=by
 have o:Sm 2 1:=by unfold Sm;decide +kernel
 have z:Sm 2 0:=by unfold Sm;decide +kernel
 exact ⟨⟨o,z,z⟩,⟨z,o,z⟩,⟨z,z,o⟩,⟨o,o,o⟩⟩
def LeadV (p q r s:Tr)(M:Mt):Prop:=det M≠0∧SmM 1623 M∧To M p e0∧To M q e1∧To M r e2∧To M s e3
def MbV (c0:MSp):Prop:=∀ {h:Gh} {p q r s:Tr} {Q:WK} {E:XWK},SmT 200 p→SmT 200 q→SmT 200 r→SmT 200 s→Free p q r s→(∀ M,LeadV p q r s M→Q (mw M) h)→c0 [q4 p q r s,q4 e0 e1 e2 e3] h Q E
theorem w_mbV {th ba fr fm:MSp}(hth:ThenS th)(hba:BackOk ba)(hfr:FreeX fr)(hfm:FromOk fm):MbV (jP th ba fr fm):=by
 intro h p q r s Q E sp sq sr ss f k
 obtain ⟨sa,sb,sc',sd⟩:=sm_tiles
 have g:=free_tiles
 unfold jP
 rfl'
 refine hfr (m:=200) (by decide) sp sq sr ss ?_
 rw [uE f]
 rfl'
 refine hfr (m:=2) (by decide) sa sb sc' sd ?_
 rw [uE g]
 rfl'
 unfold kO
 rfl'
 refine hfm (m:=200) (by decide) sp sq sr ss f.1 f.2.1 f.2.2.1 f.2.2.2 fun G pG parG sG=>?_
 have dG:det G≠0:=parG.det.mp (ug f.1 f.2.1 f.2.2.1 f.2.2.2)
 have sG:SmM 804 G:=sG
 rfl'
 refine hba (m:=804) (by decide) sG dG fun N pN parN sN=>?_
 have dN:det N≠0:=parN.det.mp (det_adj dG)
 rfl'
 refine hfm (m:=2) (by decide) sa sb sc' sd g.1 g.2.1 g.2.2.1 g.2.2.2 fun Go pGo parGo sGo=>?_
 have dGo:det Go≠0:=parGo.det.mp (ug g.1 g.2.1 g.2.2.1 g.2.2.2)
 have sGo:SmM 12 Go:=sGo
 rfl'
 refine hth (m:=1609) (n:=12) (by decide) (by decide) sN sGo dN dGo fun M pM parM sM'=>?_
 have dM:det M≠0:=parM.det.mp (by rw [det_mm];exact Int.mul_ne_zero dGo dN)
 obtain ⟨l1,l2,l3,l4⟩:=uM f parG
 obtain ⟨m1,m2,m3,m4⟩:=uM g parGo
 rfl'
 exact k M ⟨dM,sM'.mono (by decide),to_of dG l1 m1 parN parM,to_of dG l2 m2 parN parM,to_of dG l3 m3 parN parM,to_of dG l4 m4 parN parM⟩
def TilX (c0:MSp):Prop:=∀ {h:Gh} {Q:WK} {E:XWK},Q (q4 e0 e1 e2 e3) h→c0 [] h Q E
theorem w_tilX:TilX r_tiles:=by
 intro h Q E k
 unfold r_tiles
 rfl'
 exact k
theorem vm_lin (M:Mt)(a b c:Tr)(x y z:Int):vm M (x*a.1+y*b.1+z*c.1,x*a.2.1+y*b.2.1+z*c.2.1,x*a.2.2+y*b.2.2+z*c.2.2)=(x*(vm M a).1+y*(vm M b).1+z*(vm M c).1,x*(vm M a).2.1+y*(vm M b).2.1+z*(vm M c).2.1,x*(vm M a).2.2+y*(vm M b).2.2+z*(vm M c).2.2):=by
 obtain ⟨⟨m1,m2,m3⟩,⟨m4,m5,m6⟩,m7,m8,m9⟩:=M
 obtain ⟨a1,a2,a3⟩:=a
 obtain ⟨b1,b2,b3⟩:=b
 obtain ⟨c1,c2,c3⟩:=c
 simp only [vm,dt3]
 refine Prod.ext ?_ (Prod.ext ?_ ?_) <;> simp only <;> grind
def Ray (t w:Tr):Prop:=∃ u v:Int,u≠0∧v≠0∧sc u t=sc v w
theorem Ray.par {t w u:Tr}(h:Ray t w)(p:Par t u):Ray u w:=by
 obtain ⟨a,b,a0,b0,e⟩:=h
 obtain ⟨k,k0,ek⟩:=p
 exact ⟨k*a,b,Int.mul_ne_zero k0 a0,b0,by rw [←zR,←ek];exact e⟩
theorem Ray.of {w u:Tr}(p:Par w u):Ray u w:=by
 obtain ⟨k,k0,ek⟩:=p
 exact ⟨k,1,k0,by decide,by rw [←ek];simp [sc]⟩
theorem ray_iff {t t' w w':Tr}(ht:Pl t)(ht':Pl t')(h:Ray t w)(h':Ray t' w'):t≠t'↔crs w w'≠(0,0,0):=by
 obtain ⟨a,b,a0,b0,e⟩:=h
 obtain ⟨a',b',a0',b0',e'⟩:=h'
 have key:sc (a*a') (crs t t')=sc (b*b') (crs w w'):=by rw [←crs_sc,←crs_sc,e,e']
 refine not_congr ⟨fun q=>?_,fun q=>?_⟩
 ·subst q
  have z:crs t t=(0,0,0):=by
   obtain ⟨x,y,z⟩:=t
   simp only [crs,Prod.mk.injEq]
   exact ⟨by grind,by grind,by grind⟩
  rw [z] at key
  refine (xG (Int.mul_ne_zero b0 b0')).mp (key.symm.trans ?_)
  simp [sc]
 ·rw [q] at key
  refine plain_eq ht ht' ((xG (Int.mul_ne_zero a0 a0')).mp (key.trans ?_))
  simp [sc]
theorem to_ax {M:Mt}{p:Tr}{x y z:Int}(h:To M p (x,y,z)):∃ k:Int,k≠0∧∃ a:Int,a≠0∧a*(vm M p).1=k*x∧a*(vm M p).2.1=k*y∧a*(vm M p).2.2=k*z:=by
 obtain ⟨a,b,a0,b0,e⟩:=h
 simp only [sc,Prod.mk.injEq] at e
 exact ⟨b,b0,a,a0,by grind,by grind,by grind⟩
theorem lead_im {a b c d s:Tr}{M:Mt}(f:Free a b c d)(h:LeadV a b c d M):Ray (vm M s) (imv a b c d s):=by
 obtain ⟨_,_,h1,h2,h3,h4⟩:=h
 obtain ⟨ka,ka0,xa,xa0,a1,a2,a3⟩:=to_ax h1
 obtain ⟨kb,kb0,xb,xb0,b1,b2,b3⟩:=to_ax h2
 obtain ⟨kc,kc0,xc,xc0,c1,c2,c3⟩:=to_ax h3
 obtain ⟨kd,kd0,xd,xd0,d1,d2,d3⟩:=to_ax h4
 have z:∀ {x y k:Int},x≠0→x*y=k*0→y=0:=fun hx e=>(Int.mul_eq_zero.mp (e.trans (Int.mul_zero _))).resolve_left hx
 have za2:=z xa0 a2
 have za3:=z xa0 a3
 have zb1:=z xb0 b1
 have zb3:=z xb0 b3
 have zc1:=z xc0 c1
 have zc2:=z xc0 c2
 have ed2:(vm M d).2.1=(vm M d).1:=Int.eq_of_mul_eq_mul_left xd0 (d2.trans d1.symm)
 have ed3:(vm M d).2.2=(vm M d).1:=Int.eq_of_mul_eq_mul_left xd0 (d3.trans d1.symm)
 have d0:(vm M d).1≠0:=fun e=>by
  rw [e,Int.mul_zero,Int.mul_one] at d1
  exact kd0 d1.symm
 have ls:∀ t,sc (dt3 (crs a b) c) (vm M t)=(dt3 (crs t b) c*(vm M a).1,dt3 (crs a t) c*(vm M b).2.1,dt3 (crs a b) t*(vm M c).2.2):=fun t=>by
  rw [←kE,cram a b c t,vm_lin,za2,za3,zb1,zb3,zc1,zc2]
  simp
 have l1:=ls s
 have l2:=ls d
 obtain ⟨g1,g2⟩:=free_adc f
 refine ⟨dt3 (crs a b) c*(dt3 (crs d b) c*dt3 (crs a d) c*dt3 (crs a b) d),dt3 (crs a b) c*(vm M d).1,Int.mul_ne_zero f.1 (Int.mul_ne_zero (Int.mul_ne_zero g2 g1) f.2.1),Int.mul_ne_zero f.1 d0,?_⟩
 simp only [sc,Prod.mk.injEq] at l1 l2
 rw [ed2,ed3] at l2
 obtain ⟨p1,p2,p3⟩:=l1
 obtain ⟨q1,q2,q3⟩:=l2
 unfold imv
 generalize dt3 (crs a b) c=D at *
 generalize dt3 (crs d b) c=E1 at *
 generalize dt3 (crs a d) c=E2 at *
 generalize dt3 (crs a b) d=E3 at *
 generalize dt3 (crs s b) c=S1 at *
 generalize dt3 (crs a s) c=S2 at *
 generalize dt3 (crs a b) s=S3 at *
 generalize (vm M d).1=V at *
 generalize (vm M a).1=A at *
 generalize (vm M b).2.1=B at *
 generalize (vm M c).2.2=C at *
 simp only [sc]
 refine Prod.ext ?_ (Prod.ext ?_ ?_) <;> simp only
 ·rw [show (vm M s).1*(D*(E1*E2*E3))=(vm M s).1*D*(E1*E2*E3) by grind,p1,show S1*A*(E1*E2*E3)=(E1*A)*(S1*E2*E3) by grind,←q1]
  grind
 ·rw [show (vm M s).2.1*(D*(E1*E2*E3))=(vm M s).2.1*D*(E1*E2*E3) by grind,p2,show S2*B*(E1*E2*E3)=(E2*B)*(S2*E1*E3) by grind,←q2]
  grind
 ·rw [show (vm M s).2.2*(D*(E1*E2*E3))=(vm M s).2.2*D*(E1*E2*E3) by grind,p3,show S3*C*(E1*E2*E3)=(E3*C)*(S3*E1*E2) by grind,←q3]
  grind
def d2 (x y:List Tr):List Nat→Bool
 | [i,j]=>decide (decide (gt x i=gt x j)≠decide (gt y i=gt y j))
 | _=>false
def d3 (x y:List Tr):List Nat→Bool
 | [i,j,k]=>decide (decide (dt3 (crs (gt x i) (gt x j)) (gt x k)=0)≠decide (dt3 (crs (gt y i) (gt y j)) (gt y k)=0))
 | _=>false
noncomputable def d4 (x y:List Tr):List Nat→Bool
 | [a,b,c,d]=>thB (gt x a) (gt x b) (gt x c) (gt x d) (gt y a) (gt y b) (gt y c) (gt y d)
 | _=>false
def d5 (x y:List Tr)(l:List Nat)(k:Nat):Option (List Nat):=match l with
 | [a,b,c,d]=>if crs (imv (gt x a) (gt x b) (gt x c) (gt x d) (gt x k)) (imv (gt y a) (gt y b) (gt y c) (gt y d) (gt y k))≠(0,0,0) then some (l++[k]) else none
 | _=>none
def s2 (x y:List Tr):Option (List Nat):=(rise x.length 2).findSome? (pass (d2 x y))
def s3 (x y:List Tr):Option (List Nat):=(rise x.length 3).findSome? (pass (d3 x y))
noncomputable def s4 (x y:List Tr):Option (List Nat):=(rise x.length 4).findSome? (pass (d4 x y))
def s5 (x y:List Tr):Option (List Nat):=match FF x with
 | none=>none
 | some l=>(rng 0 x.length).findSome? (d5 x y l)
noncomputable def dueN (x y:List Tr):Option (Str×List Nat):=if x.length≠y.length then some ("many",[]) else match s2 x y with
 | some l=>some ("two",l)
 | none=>match s3 x y with
  | some l=>some ("three",l)
  | none=>match s4 x y with
   | some l=>some ("throw",l)
   | none=>match s5 x y with
    | some l=>some ("five",l)
    | none=>none
def dW:Option (Str×List Nat)→W
 | none=>.non
 | some x=>.tup [.str x.1,cD x.2]
theorem none_all {P:List Nat→Bool}{ls:List (List Nat)}(h:ls.findSome? (pass P)=none):∀ l∈ls,P l=false:=fun l hl=>by
 have:=List.findSome?_eq_none_iff.mp h l hl
 cases hb:P l with
 | false=>rfl
 | true=>rw [qQ hb] at this;cases this
theorem yj {m k p:Nat}{l:List Nat}(hl:l∈rise m k)(h1:nxt l≤p)(h2:p<m):l++[p]∈rise m (k+1):=by
 rw [rise,List.mem_flatMap]
 exact ⟨l,hl,List.mem_map.mpr ⟨p,mZ.mpr ⟨h1,h2⟩,rfl⟩⟩
theorem rise_2 {m i j:Nat}(h1:i<j)(h2:j<m):[i,j]∈rise m 2:=
 yj (l:=[i]) (yj (l:=[]) (by rw [rise];simp) (Nat.zero_le _) (by omega)) (show i+1≤j by omega) h2
theorem rise_3 {m i j k:Nat}(h1:i<j)(h2:j<k)(h3:k<m):[i,j,k]∈rise m 3:=yj (l:=[i,j]) (rise_2 h1 (by omega)) (show j+1≤k by omega) h3
theorem same2 {x y:List Tr}(h:s2 x y=none){i j:Nat}(hi:i<x.length)(hj:j<x.length):gt x i=gt x j↔gt y i=gt y j:=by
 have g:∀ {i j:Nat},i<j→j<x.length→(gt x i=gt x j↔gt y i=gt y j):=fun {i j} h1 h2=>by
  have:=none_all h _ (rise_2 h1 h2)
  exact decide_eq_decide.mp (Decidable.not_not.mp (of_decide_eq_false this))
 rcases Nat.lt_trichotomy i j with c | c | c
 ·exact g c hj
 ·subst c;exact ⟨fun _=>rfl,fun _=>rfl⟩
 ·have:=g c hi
  exact ⟨fun e=>(this.mp e.symm).symm,fun e=>(this.mpr e.symm).symm⟩
theorem zZ {x y:List Tr}(h:s3 x y=none){i j k:Nat}(h1:i<j)(h2:j<k)(h3:k<x.length):dt3 (crs (gt x i) (gt x j)) (gt x k)=0↔dt3 (crs (gt y i) (gt y j)) (gt y k)=0:=by
 have:=none_all h _ (rise_3 h1 h2 h3)
 exact decide_eq_decide.mp (Decidable.not_not.mp (of_decide_eq_false this))
theorem up4 {m a b c d:Nat}(h:[a,b,c,d]∈rise m 4):a<b∧b<c∧c<d∧d<m:=⟨rise_up (l:=[]) (r:=[c,d]) h,rise_up (l:=[a]) (r:=[d]) h,rise_up (l:=[a,b]) (r:=[]) h,fD h d (by simp)⟩
theorem ur {x y:List Tr}(h:s3 x y=none){a b c d:Nat}(hr:[a,b,c,d]∈rise x.length 4):Free (gt x a) (gt x b) (gt x c) (gt x d)↔Free (gt y a) (gt y b) (gt y c) (gt y d):=by
 obtain ⟨u1,u2,u3,u4⟩:=up4 hr
 unfold Free
 rw [Ne,Ne,Ne,Ne,zZ h u1 u2 (by omega),zZ h u1 (by omega:b<d) u4,zZ h (by omega:a<c) u3 u4,zZ h u2 u3 u4]
theorem ff_in {x:List Tr}{l:List Nat}(h:FF x=some l):∃ a b c d,l=[a,b,c,d]∧[a,b,c,d]∈rise x.length 4∧Free (gt x a) (gt x b) (gt x c) (gt x d):=by
 unfold FF at h
 rw [←rise4] at h
 obtain ⟨l',ml,e⟩:=List.exists_of_findSome?_eq_some h
 cases hb:vZ x l' with
 | false=>rw [nP hb] at e;cases e
 | true=>
  rw [qQ hb] at e
  cases e
  match l,cF ml with
  | [a,b,c,d],_=>exact ⟨a,b,c,d,rfl,ml,freeB_i hb⟩
theorem mCallV_s {fs:List (Addr×MSp)}{i j:Nat}{ma:MA}{f:Addr}{ms:MSp}{σ : Sw}{h:Gh}{Q:WK}(e:σ[i]?=some (some (.fnv f j)))(e2:fs[j]?=some (f,ms))(k:ma σ h fun ws h1=>ms ws h1 Q EF):yU fs i ma σ h Q:=by
 unfold yU
 rw [e]
 dsimp only
 rw [e2]
 exact ⟨rfl,k⟩
theorem fp_core {ri pi c0 c1 c2:MSp}{F0 F1 F2 F:Addr}{ms:MSp}{j z:Nat}(hri:jF ri)(hpi:PickX pi)(ej:[(F0,c0),(F1,c1),(F2,c2)][j]?=some (F,ms)){h:Gh}{wx wy:W}{xs ys:List Tr}{P:List Nat→Bool}{Q:WK}{E:XWK}
  (ex:iQ h wx xs) (ey:iQ h wy ys) (hl:xs.length=ys.length) (hn:xs.length≤12) (hz:z≤4)
  (hP:∀ l∈rise xs.length z,∀ (R:WK) (E':XWK),R (.bl (P l)) h→ms [.lst ((l.map (gt xs)).map tw),.lst ((l.map (gt ys)).map tw)] h R E')
  (k0:(rise xs.length z).findSome? (pass P)=none→Q .non h) (k1:∀ l,(rise xs.length z).findSome? (pass P)=some l→Q (cD l) h) :
  fJ F0 F1 F2 ri pi c0 c1 c2 [wx,wy,.int (z:Int),.fnv F j] h Q E:=by
 unfold fJ
 refine j5 rfl (σ:=[some wx,some wy,some (.int (z:Int)),some (.fnv F j),none]) rfl (bU (je (uZ (cV (aO (xQ (aO (aP rfl (bJ (j4 ex ?_))))))))))
 refine aO (aP rfl (bJ (hri (m:=xs.length) (k:=z) hn hz (iK_s rfl (iY ?_)))))
 refine forF (v:=cD) (pass P) (fun l=>Q (cD l) h) (fun σ h'=>∃ s1,σ = [some wx,some wy,some (.int (z:Int)),some (.fnv F j),s1]∧h'=h) (rise xs.length z) ?_ ?_ ?_ ⟨none,rfl,rfl⟩
 ·rintro l ml σ h' N ⟨s1,rfl,rfl⟩ hN hR
  have ll:=cF ml
  have li:=fD ml
  refine bB (σ':=[some wx,some wy,some (.int (z:Int)),some (.fnv F j),some (cD l)]) rfl ?_
  refine vW (mTru_s (mCallV_s rfl ej (aO (cV (aO (aP rfl (aO (aP rfl (bJ (hpi ex li (by omega) ?_))))))))))
  refine aO (cV (aO (aP rfl (aO (aP rfl (bJ (hpi ey (by rw [←hl];exact li) (by omega) (bJ (hP l ml _ _ ?_)))))))))
  cases hb:P l with
  | true=>
   rfl'
   exact hR l (qQ hb)
  | false=>
   rfl'
   exact hN (nP hb) _ _ ⟨_,rfl,rfl⟩
 ·rintro hn σ h' ⟨s1,rfl,rfl⟩
  unfold jV
  rfl'
  exact k0 hn
 ·intro l hy
  exact k1 l hy
theorem kW {m:Nat}{x:List Tr}(h:OkT m x){l:List Nat}(hl:∀ i∈l,i<x.length):OkT m (l.map (gt x)):=fun t ht=>by
 obtain ⟨i,hi,rfl⟩:=List.mem_map.mp ht
 exact h _ (gD (hl i hi))
theorem vR {x y:List Tr}(h:s2 x y=none){a b c d:Nat}(hr:[a,b,c,d]∈rise x.length 4):¬ kJ (gt x a) (gt x b) (gt x c) (gt x d)→¬ (gt y b=gt y a∧gt y c=gt y a∧gt y d=gt y a):=by
 have li:=fD hr
 have la:=li a (by simp)
 have lb:=li b (by simp)
 have lc:=li c (by simp)
 intro n ⟨e1,e2,_⟩
 have q1:=(same2 h lb la).mpr e1
 have q2:=(same2 h lc la).mpr e2
 exact n (.inl ⟨q1.symm,q1.trans q2.symm⟩)
structure FpX (F0 F1 F2:Addr) (c0:MSp):Prop where
 two:∀ {h:Gh} {wx wy:W} {x y:List Tr} {Q:WK} {E:XWK},iQ h wx x→iQ h wy y→x.length=y.length→x.length≤12→OkT 200 x→OkT 200 y→(s2 x y=none→Q .non h)→(∀ l,s2 x y=some l→Q (cD l) h)→c0 [wx,wy,.int 2,.fnv F0 0] h Q E
 three:∀ {h:Gh} {wx wy:W} {x y:List Tr} {Q:WK} {E:XWK},iQ h wx x→iQ h wy y→x.length=y.length→x.length≤12→OkT 200 x→OkT 200 y→(s3 x y=none→Q .non h)→(∀ l,s3 x y=some l→Q (cD l) h)→c0 [wx,wy,.int 3,.fnv F1 1] h Q E
 four:∀ {h:Gh} {wx wy:W} {x y:List Tr} {Q:WK} {E:XWK},iQ h wx x→iQ h wy y→x.length=y.length→x.length≤12→OkT 200 x→OkT 200 y→s2 x y=none→(s4 x y=none→Q .non h)→(∀ l,s4 x y=some l→Q (cD l) h)→c0 [wx,wy,.int 4,.fnv F2 2] h Q E
theorem w_fp {ri pi c0 c1 c2:MSp}{F0 F1 F2:Addr}(hri:jF ri)(hpi:PickX pi)(h0:TwosX c0)(h1:ThreesX c1)(h2:ThrowsX c2):FpX F0 F1 F2 (fJ F0 F1 F2 ri pi c0 c1 c2) where
 two:=fun {h wx wy x y Q E} ex ey hl hn ox oy k0 k1=>fp_core (j:=0) (z:=2) (P:=d2 x y) hri hpi rfl ex ey hl hn (by decide) (fun l ml R E' k=>by
  match l,cF ml with
  | [i,j],_=>exact h0 k) k0 k1
 three:=fun {h wx wy x y Q E} ex ey hl hn ox oy k0 k1=>fp_core (j:=1) (z:=3) (P:=d3 x y) hri hpi rfl ex ey hl hn (by decide) (fun l ml R E' k=>by
  have li:=fD ml
  match l,cF ml with
  | [i,j,z],_=>exact h1 (m:=200) (by decide) (kW ox li) (kW (l:=[i,j,z]) oy (by rw [←hl];exact li)) k) k0 k1
 four:=fun {h wx wy x y Q E} ex ey hl hn ox oy hs k0 k1=>fp_core (j:=2) (z:=4) (P:=d4 x y) hri hpi rfl ex ey hl hn (by decide) (fun l ml R E' k=>by
  have li:=fD ml
  match l,cF ml with
  | [a,b,c,d],_=>exact h2 (m:=200) (by decide) (kW ox li) (kW (l:=[a,b,c,d]) oy (by rw [←hl];exact li)) (vR hs ml) k) k0 k1
def FiveX (c0:MSp):Prop:=∀ {h:Gh} {wx wy:W} {x y:List Tr} {Q:WK} {E:XWK},iQ h wx x→iQ h wy y→x.length=y.length→x.length≤12→OkT 200 x→OkT 200 y→s3 x y=none→(s5 x y=none→Q .non h)→(∀ l,s5 x y=some l→Q (cD l) h)→c0 [wx,wy] h Q E
theorem is_non {h:Gh}{Q:WK}(k:Q (.bl true) h):kIs .non .non h Q:=k
theorem is_tup {h:Gh}{ws:List W}{Q:WK}(k:Q (.bl false) h):kIs (.tup ws) .non h Q:=k
theorem pl_ne {t:Tr}(h:Pl t):t≠(0,0,0):=by
 rintro rfl
 exact absurd h (by unfold Pl PlL tl;decide)
theorem w_five {pi le ti mb ff:MSp}(hpi:PickX pi)(hle:LedOk le)(hti:TilX ti)(hmb:MbV mb)(hff:FirstX ff):FiveX (jz pi le ti mb ff):=by
 intro h wx wy x y Q E ex ey hl hn ox oy h3 k0 k1
 unfold jz
 refine j5 rfl (σ:=[some wx,some wy,none,none,none,none]) rfl ?_
 rfl'
 refine hff (m:=200) (by decide) ex hn ox (fun e=>?_) fun l e=>?_
 ·rfl'
  refine is_non ?_
  rfl'
  exact k0 (by unfold s5;rw [e])
 obtain ⟨a,b,c,d,rfl,mr,fx⟩:=ff_in e
 have fy:=(ur h3 mr).mp fx
 have li:=fD mr
 have hs5:s5 x y=(rng 0 x.length).findSome? (d5 x y [a,b,c,d]):=by unfold s5;rw [e]
 rw [hs5] at k0 k1
 have px:∀ i∈[a,b,c,d],SmT 200 (gt x i):=fun i hi=>(ox _ (gD (li i hi))).2
 have py:∀ i∈[a,b,c,d],SmT 200 (gt y i):=fun i hi=>(oy _ (gD (by rw [←hl];exact li i hi))).2
 rfl'
 refine is_tup ?_
 rfl'
 unfold lD
 rfl'
 refine hpi ex li (by simp) ?_
 rfl'
 refine hti ?_
 rfl'
 refine hmb (p:=gt x a) (q:=gt x b) (r:=gt x c) (s:=gt x d) (px a (by simp)) (px b (by simp)) (px c (by simp)) (px d (by simp)) fx fun M hM=>?_
 rfl'
 refine hpi ey (by rw [←hl];exact li) (by simp) ?_
 rfl'
 refine hti ?_
 rfl'
 refine hmb (p:=gt y a) (q:=gt y b) (r:=gt y c) (s:=gt y d) (py a (by simp)) (py b (by simp)) (py c (by simp)) (py d (by simp)) fy fun N hN'=>?_
 refine bB (σ':=[some wx,some wy,some (cD [a,b,c,d]),some (mw M),some (mw N),none]) rfl (j7 (bU (je (lq (aO (xQ (aO (aP rfl (bJ (j4 ex (bJ (rgK_s (by omega) (iY ?_)))))))))))))
 refine forF (v:=fun i:Nat=>W.int (i:Int)) (d5 x y [a,b,c,d]) (fun l=>Q (cD l) h) (fun σ h'=>∃ s1,σ = [some wx,some wy,some (cD [a,b,c,d]),some (mw M),some (mw N),s1]∧h'=h) (rng 0 x.length) ?_ ?_ ?_ ⟨none,rfl,rfl⟩
 ·rintro i mi σ h' N' ⟨s1,rfl,rfl⟩ hN hR
  have hi:=(mZ.mp mi).2
  have hi':i<y.length:=by omega
  obtain ⟨pxi,sxi⟩:=ox _ (gD hi)
  obtain ⟨pyi,syi⟩:=oy _ (gD hi')
  refine bB (σ':=[some wx,some wy,some (cD [a,b,c,d]),some (mw M),some (mw N),some (.int (i:Int))]) rfl ?_
  refine vW (nH (eV (cV (aO (aP rfl (aO (eV (aP rfl (aP rfl (ex.at hi (bJ ?_)))))))))))
  refine hle (m:=1623) (by decide) hM.2.1 (sxi.mono (by decide)) hM.1 (pl_ne pxi) fun t pt part _=>?_
  refine cV (aO (aP rfl (aO (eV (aP rfl (aP rfl (ey.at hi' (bJ ?_))))))))
  refine hle (m:=1623) (by decide) hN'.2.1 (syi.mono (by decide)) hN'.1 (pl_ne pyi) fun t' pt' part' _=>?_
  have key:=ray_iff pt pt' ((lead_im fx hM).par part) ((lead_im fy hN').par part')
  refine kNe_t (tK_s (iH (fun ne=>?_) fun ne=>?_))
  ·refine pQ (eV (aP rfl (oH (aO (aP rfl (bJ (fX rfl ?_)))))))
   refine wY (by simp) ?_
   exact hR ([a,b,c,d]++[i]) (if_pos (key.mp ne))
  ·exact hN (if_neg fun z=>ne (key.mpr z)) _ _ ⟨_,rfl,rfl⟩
 ·rintro hn σ h' ⟨s1,rfl,rfl⟩
  unfold lF
  rfl'
  exact k0 hn
 ·intro l hy
  exact k1 l hy
def ApartX (c0:MSp):Prop:=∀ {h:Gh} {wx wy:W} {x y:List Tr} {Q:WK} {E:XWK},iQ h wx x→iQ h wy y→1≤x.length→x.length≤12→1≤y.length→y.length≤12→OkT 200 x→OkT 200 y→Q (dW (dueN x y)) h→c0 [wx,wy] h Q E
def AmX (c0:MSp):Prop:=∀ {h:Gh} {wx wy:W} {x y:List Tr} {Q:WK} {E:XWK},iQ h wx x→iQ h wy y→x.length=y.length→x.length≤12→OkT 200 x→OkT 200 y→Q (dW (dueN x y)) h→c0 [wx,wy] h Q E
theorem w_am {fp fi:MSp}{F0 F1 F2:Addr}(hfp:FpX F0 F1 F2 fp)(hfi:FiveX fi):AmX (eH F0 F1 F2 fp fi):=by
 intro h wx wy x y Q E ex ey hl hn ox oy k
 unfold dueN at k
 rw [if_neg (by rw [Decidable.not_not];exact hl)] at k
 unfold eH
 refine j5 rfl (σ:=[some wx,some wy,none,none,none,none]) rfl ?_
 rfl'
 refine hfp.two ex ey hl hn ox oy (fun e2=>?_) fun l e2=>?_
 ·rw [e2] at k
  rfl'
  refine xU ?_
  rfl'
  refine hfp.three ex ey hl hn ox oy (fun e3=>?_) fun l e3=>?_
  ·rw [e3] at k
   rfl'
   refine xU ?_
   rfl'
   refine hfp.four ex ey hl hn ox oy e2 (fun e4=>?_) fun l e4=>?_
   ·rw [e4] at k
    rfl'
    refine xU ?_
    rfl'
    unfold fY
    rfl'
    refine hfi ex ey hl hn ox oy e3 (fun e5=>?_) fun l e5=>?_
    ·rw [e5] at k
     rfl'
     refine is_non ?_
     rfl'
     exact k
    ·rw [e5] at k
     rfl'
     refine is_tup ?_
     rfl'
     exact k
   ·rw [e4] at k
    rfl'
    refine wO ?_
    rfl'
    exact k
  ·rw [e3] at k
   rfl'
   refine wO ?_
   rfl'
   exact k
 ·rw [e2] at k
  rfl'
  refine wO ?_
  rfl'
  exact k
theorem w_apart {ch am:MSp}(hch:CheckX ch)(ham:AmX am):ApartX (r_apart ch am):=by
 intro h wx wy x y Q E ex ey hx1 hx2 hy1 hy2 ox oy k
 unfold r_apart
 refine j5 rfl (σ:=[some wx,some wy]) rfl ?_
 rfl'
 refine hch ex (fun _ _=>?_) fun n=>absurd ⟨hx1,hx2⟩ n
 rfl'
 refine hch ey (fun _ _=>?_) fun n=>absurd ⟨hy1,hy2⟩ n
 rfl'
 refine j4 ex ?_
 rfl'
 refine j4 ey ?_
 rfl'
 refine iH (fun ne=>?_) fun ne=>?_
 ·have e:dueN x y=some (("many" : Str),[]):=by unfold dueN;rw [if_pos (by omega)]
  rw [e] at k
  rfl'
  exact k
 ·rfl'
  unfold t_apart_3
  rfl'
  exact ham ex ey (by omega) hx2 ox oy k
theorem for_src {α : Type}{v:α→W}{xs:List α}{i:Nat}{g:MG}{b:MS}{D:cC}{σ : Sw}{h:Gh}(hv:σ[i]?=some (some (.lst (xs.map v))))(x:fW ⟨xs.map v,none⟩ g b D (xs.map v) σ h):oN (nIt (aB i)) g b D σ h:=je (uZ (aP hv (iK_s rfl (iY x))))
def ByPX (c0:MSp):Prop:=∀ {h:Gh} {wx wy:W} {x y:List Tr} {Q:WK} {E:XWK},iQ h wx x→iQ h wy y→x.length=y.length→x.length≤12→OkT 200 x→OkT 200 y→(s2 x y=none→s3 x y=none→Q .non h)→(∀ l,s2 x y=some l→Q (.tup [.str "two",cD l]) h)→(s2 x y=none→∀ l,s3 x y=some l→Q (.tup [.str "three",cD l]) h)→c0 [wx,wy] h Q E
theorem w_byp {tu pl:MSp}(htu:uw tu)(hpl:jF pl):ByPX (jh tu pl):=by
 intro h wx wy x y Q E ex ey hl hn ox oy k0 k2 k3
 unfold jh
 refine j5 rfl (σ:=[some wx,some wy,none,none,none,none]) rfl (bU (je (uZ (cV (aO (xQ (aO (aP rfl (bJ (j4 ex ?_))))))))))
 refine aO (yH (bJ (hpl (m:=x.length) (k:=2) hn (by decide) (iK_s rfl (iY ?_)))))
 refine forF (v:=cD) (pass (d2 x y)) (fun l=>Q (.tup [.str "two",cD l]) h) (fun σ h'=>∃ s1,σ = [some wx,some wy,s1,none,none,none]∧h'=h) (rise x.length 2) ?_ ?_ ?_ ⟨none,rfl,rfl⟩
 ·rintro l ml σ h' N ⟨s1,rfl,rfl⟩ hN hR
  have li:=fD ml
  match l,cF ml with
  | [i,j],_=>
   have hi:=li i (by simp)
   have hj:=li j (by simp)
   refine bB (σ':=[some wx,some wy,some (cD [i,j]),none,none,none]) rfl ?_
   rfl'
   refine ex.at hi ?_
   rfl'
   refine ex.at hj ?_
   rfl'
   refine ey.at (by omega) ?_
   rfl'
   refine ey.at (by omega) ?_
   rfl'
   refine iH (fun z=>?_) fun z=>?_
   ·rfl'
    exact hR [i,j] (qQ (decide_eq_true z))
   ·rfl'
    exact hN (nP (decide_eq_false z)) _ _ ⟨_,rfl,rfl⟩
 ·rintro e2 σ h' ⟨s1,rfl,rfl⟩
  have k0:=k0 e2
  have k3:=k3 e2
  unfold kZ
  refine j7 (bU (je (uZ (cV (aO (xQ (aO (aP rfl (bJ (j4 ex ?_))))))))))
  refine aO (yH (bJ (hpl (m:=x.length) (k:=3) hn (by decide) (iK_s rfl (iY ?_)))))
  refine forF (v:=cD) (pass (d3 x y)) (fun l=>Q (.tup [.str "three",cD l]) h') (fun σ g=>∃ a b c,σ = [some wx,some wy,s1,a,b,c]∧g=h') (rise x.length 3) ?_ ?_ ?_ ⟨none,none,none,rfl,rfl⟩
  ·rintro l ml σ g N ⟨a,b,c,rfl,rfl⟩ hN hR
   have li:=fD ml
   match l,cF ml with
   | [i,j,z],_=>
    have hi:=li i (by simp)
    have hj:=li j (by simp)
    have hz:=li z (by simp)
    have sx:∀ u,u<x.length→SmT 200 (gt x u):=fun u hu=>(ox _ (gD hu)).2
    have sy:∀ u,u<x.length→SmT 200 (gt y u):=fun u hu=>(oy _ (gD (by omega))).2
    unfold cD
    simp only [List.map_cons,List.map_nil]
    rfl'
    refine ex.at hi ?_
    rfl'
    refine ex.at hj ?_
    rfl'
    refine ex.at hz ?_
    rfl'
    refine htu (m:=200) (by decide) (sx i hi) (sx j hj) (sx z hz) ?_
    rfl'
    refine ey.at (by omega) ?_
    rfl'
    refine ey.at (by omega) ?_
    rfl'
    refine ey.at (by omega) ?_
    rfl'
    refine htu (m:=200) (by decide) (sy i hi) (sy j hj) (sy z hz) ?_
    rfl'
    refine iH (fun z=>?_) fun z=>?_
    ·rfl'
     exact hR _ (qQ (decide_eq_true z))
    ·rfl'
     exact hN (nP (decide_eq_false z)) _ _ ⟨_,_,_,rfl,rfl⟩
  ·rintro e3 σ g ⟨a,b,c,rfl,rfl⟩
   unfold lg
   rfl'
   exact k0 e3
  ·intro l hy
   exact k3 l hy
 ·intro l hy
  exact k2 l hy
theorem uI {n:Nat}{σ : Sw}{h:Gh}{w:W}{x:List Tr}{l:List Nat}{Q:WK}(hw:σ[n]?=some (some w))(hv:σ[3]?=some (some (cD l)))(e:iQ h w x)(hl:∀ i∈l,i<x.length)(hz:l.length≤1000)(q:Q (.lst ((l.map (gt x)).map tw)) h):mLC ow1 [n] (nIt (aB 3)) iR (mOp kIx (aB 1) (aB 0)) σ h Q:=by
 refine mLC_s (uZ (aP hv (iK_s (ws:=l.map fun x:Nat=>.int (x:Int)) (o:=none) rfl ?_)))
 refine j8.mk (by rw [List.length_map];exact Nat.le_trans hz (by decide)) ?_
 have hb:sV [n] σ = [some w]:=by
  show [(σ[n]?).getD none]=_
  rw [hw]
  rfl
 refine rC (fun i acc h'=>h'=h∧acc=((l.take i).map (gt x)).map tw) ?_ ?_ ⟨rfl,rfl⟩
 ·rintro i w2 acc h' N hN e2 ⟨rfl,rfl⟩
  rw [List.getElem?_map] at e2
  cases qe:l[i]? with
  | none=>rw [qe] at e2;cases e2
  | some p=>
   rw [qe] at e2
   cases e2
   refine ⟨[W.int (p:Int)],rfl,?_⟩
   rw [hb]
   refine zE (yK (eV (aP rfl (aP rfl (e.at (hl p (List.mem_of_getElem? qe)) ?_)))))
   refine hN _ _ ⟨rfl,?_⟩
   rw [List.take_succ,qe]
   simp
 ·rintro acc h' ⟨rfl,rfl⟩
  rw [List.length_map,List.take_length]
  exact q
theorem lt3 {p q r s:Tr}{M:Int}(hm:M∈[(cn [p,q,r,s] p:Int),(cn [p,q,r,s] q:Int),(cn [p,q,r,s] r:Int),(cn [p,q,r,s] s:Int)])(hle:∀ a,a∈[(cn [p,q,r,s] p:Int),(cn [p,q,r,s] q:Int),(cn [p,q,r,s] r:Int),(cn [p,q,r,s] s:Int)]→a≤M):decide (M<3)=decide (¬ kJ p q r s):=by
 have:=decide_eq_decide.mp (cn_eq hm hle)
 refine decide_eq_decide.mpr ?_
 rw [←this]
 omega
def ByFX (c0:MSp):Prop:=∀ {h:Gh} {wx wy:W} {x y:List Tr} {Q:WK} {E:XWK},iQ h wx x→iQ h wy y→x.length=y.length→x.length≤12→OkT 200 x→OkT 200 y→s2 x y=none→s3 x y=none→(s4 x y=none→s5 x y=none→Q .non h)→(∀ l,s4 x y=some l→Q (.tup [.str "throw",cD l]) h)→(s4 x y=none→∀ l,s5 x y=some l→Q (.tup [.str "five",cD l]) h)→c0 [wx,wy] h Q E
set_option maxHeartbeats 8000000 in
theorem w_byf {fr pl pa li im:MSp}(hfr:FreeX fr)(hpl:jF pl)(hpa:LPartsX pa)(hli:LieY li)(him:ImgX im):ByFX (mV fr pl pa li im):=by
 intro h wx wy x y Q E ex ey hl hn ox oy e2 e3 k0 k4 k5
 unfold mV
 refine j5 rfl (σ:=[some wx,some wy,none,none,none,none,none,none]) rfl (bU (cT (cV (aO (xQ (aO (aP rfl (bJ (j4 ex ?_)))))))))
 refine aO (yH (bJ (hpl (m:=x.length) (k:=4) hn (by decide) ?_)))
 refine bB (σ':=[some wx,some wy,some (.lst ((rise x.length 4).map cD)),none,none,none,none,none]) rfl (j7 (bU ?_))
 refine for_src (i:=2) (xs:=rise x.length 4) rfl ?_
 refine forF (v:=cD) (pass (d4 x y)) (fun l=>Q (.tup [.str "throw",cD l]) h) (fun σ h'=>∃ s3 s4 s5 s6,σ = [some wx,some wy,some (.lst ((rise x.length 4).map cD)),s3,s4,s5,s6,none]∧h'=h) (rise x.length 4) ?_ ?_ ?_ ⟨none,none,none,none,rfl,rfl⟩
 ·rintro l ml σ h' N ⟨t3,t4,t5,t6,rfl,rfl⟩ hN hR
  have lx:=fD ml
  have ly:∀ i∈l,i<y.length:=by rw [←hl];exact lx
  have px:=kW ox lx
  have py:=kW oy ly
  match l,cF ml with
  | [a,b,c,d],_=>
   have al:=vR e2 ml
   refine bB (σ':=[some wx,some wy,some (.lst ((rise x.length 4).map cD)),some (cD [a,b,c,d]),t4,t5,t6,none]) rfl (bU (cT (uI rfl rfl ex lx (by simp) ?_)))
   refine bB (σ':=[some wx,some wy,some (.lst ((rise x.length 4).map cD)),some (cD [a,b,c,d]),some (.lst [tw (gt x a),tw (gt x b),tw (gt x c),tw (gt x d)]),t5,t6,none]) rfl (j7 ?_)
   have px:OkT 200 [gt x a,gt x b,gt x c,gt x d]:=px
   have py:OkT 200 [gt y a,gt y b,gt y c,gt y d]:=py
   have hd:d4 x y [a,b,c,d]=thB (gt x a) (gt x b) (gt x c) (gt x d) (gt y a) (gt y b) (gt y c) (gt y d):=rfl
   unfold thB at hd
   obtain ⟨z1,z2⟩:=tn_sm px
   obtain ⟨z3,z4⟩:=tn_sm py
   rfl'
   refine hli (m:=200) (by decide) px ?_
   cases hf:nY [gt x a,gt x b,gt x c,gt x d] with
   | false=>
    rw [hf] at hd
    rfl'
    exact hN (nP hd) _ _ ⟨_,_,_,_,rfl,rfl⟩
   | true=>
    rw [hf] at hd
    generalize gt x a=p at *
    generalize gt x b=q at *
    generalize gt x c=r at *
    generalize gt x d=s at *
    rfl'
    refine rD ?_
    rfl'
    refine isL2 (us:=[tw p,tw q,tw r,tw s]) rfl ?_
    rfl'
    refine Ai (ts:=[p,q,r,s]) rfl ?_
    rfl'
    refine rD ?_
    rfl'
    refine isL2 (us:=[tw p,tw q,tw r,tw s]) rfl ?_
    rfl'
    refine Ai (ts:=[p,q,r,s]) rfl ?_
    rfl'
    refine rD ?_
    rfl'
    refine isL2 (us:=[tw p,tw q,tw r,tw s]) rfl ?_
    rfl'
    refine Ai (ts:=[p,q,r,s]) rfl ?_
    rfl'
    refine rD ?_
    rfl'
    refine isL2 (us:=[tw p,tw q,tw r,tw s]) rfl ?_
    rfl'
    refine Ai (ts:=[p,q,r,s]) rfl ?_
    rfl'
    refine ⟨[(cn [p,q,r,s] p:Int),(cn [p,q,r,s] q:Int),(cn [p,q,r,s] r:Int),(cn [p,q,r,s] s:Int)],rfl,Nat.succ_pos _,fun M hM hle=>?_⟩
    rfl'
    rw [lt3 hM hle]
    refine iH (fun ha=>?_) fun ha=>?_
    ·rw [decide_eq_false ha] at hd
     rfl'
     refine hpa (m:=199) (by decide) px (not3 ha) ?_
     refine bB (σ':=[some wx,some wy,some (.lst ((rise x.length 4).map cD)),some (cD [a,b,c,d]),some (.lst [tw p,tw q,tw r,tw s]),some (.tup [.int (tn p q r s).1,.int (tn p q r s).2]),t6,none]) rfl (j7 (bU (cT (cV (aO (uI rfl rfl ey ly (by simp) ?_))))))
     refine bJ (hpa (m:=199) (by decide) py (al ha) ?_)
     generalize tn p q r s=u at *
     generalize tn (gt y a) (gt y b) (gt y c) (gt y d)=v at *
     rfl'
     refine iH (fun z=>?_) fun z=>?_
     ·rfl'
      exact hR [a,b,c,d] (qQ (by rw [hd,decide_eq_true z];rfl))
     ·rfl'
      exact hN (nP (by rw [hd,decide_eq_false z];rfl)) _ _ ⟨_,_,_,_,rfl,rfl⟩
    ·rw [decide_eq_true (Decidable.not_not.mp ha)] at hd
     rfl'
     exact hN (nP hd) _ _ ⟨_,_,_,_,rfl,rfl⟩
 ·rintro e4 σ h' ⟨t3,t4,t5,t6,rfl,rfl⟩
  have k0:=k0 e4
  have k5:=k5 e4
  unfold oY
  refine j7 (bU ?_)
  refine for_src (i:=2) (xs:=rise x.length 4) rfl ?_
  have hff:=rise4 x.length (vZ x)
  refine forF (v:=cD) (pass (vZ x)) (fun l=>((rng 0 x.length).findSome? (d5 x y l)=none→Q .non h')∧∀ l',(rng 0 x.length).findSome? (d5 x y l)=some l'→Q (.tup [.str "five",cD l']) h') (fun σ g=>∃ s3 s4 s5 s6 s7,σ = [some wx,some wy,some (.lst ((rise x.length 4).map cD)),s3,s4,s5,s6,s7]∧g=h') (rise x.length 4) ?_ ?_ ?_ ⟨_,_,_,_,_,rfl,rfl⟩
  ·rintro l ml σ g N ⟨t3,t4,t5,t6,t7,rfl,rfl⟩ hN hR
   have lx:=fD ml
   have ly:∀ i∈l,i<y.length:=by rw [←hl];exact lx
   match l,cF ml with
   | [a,b,c,d],_=>
    have px:OkT 200 [gt x a,gt x b,gt x c,gt x d]:=kW (l:=[a,b,c,d]) ox lx
    have py:OkT 200 [gt y a,gt y b,gt y c,gt y d]:=kW (l:=[a,b,c,d]) oy ly
    refine bB (σ':=[some wx,some wy,some (.lst ((rise x.length 4).map cD)),some (cD [a,b,c,d]),t4,t5,t6,t7]) rfl (vW (mTru_s (cV (aO (uI rfl rfl ex lx (by simp) (bJ ?_))))))
    refine hfr (p:=gt x a) (q:=gt x b) (r:=gt x c) (s:=gt x d) (m:=200) (by decide) (px _ (by simp)).2 (px _ (by simp)).2 (px _ (by simp)).2 (px _ (by simp)).2 ?_
    cases hb:tH (gt x a) (gt x b) (gt x c) (gt x d) with
    | false=>
     rfl'
     exact hN (nP hb) _ _ ⟨_,_,_,_,_,rfl,rfl⟩
    | true=>
     obtain ⟨r0,r1⟩:=hR [a,b,c,d] (qQ hb)
     have fx:=freeB_i hb
     have fy:=(ur e3 ml).mp fx
     refine br_t rfl (bU (cT (uI rfl rfl ex lx (by simp) ?_)))
     refine bB (σ':=[some wx,some wy,some (.lst ((rise x.length 4).map cD)),some (cD [a,b,c,d]),t4,some (q4 (gt x a) (gt x b) (gt x c) (gt x d)),t6,t7]) rfl (j7 (bU (cT (uI rfl rfl ey ly (by simp) ?_))))
     refine bB (σ':=[some wx,some wy,some (.lst ((rise x.length 4).map cD)),some (cD [a,b,c,d]),t4,some (q4 (gt x a) (gt x b) (gt x c) (gt x d)),some (q4 (gt y a) (gt y b) (gt y c) (gt y d)),t7]) rfl (j7 (bU (je (lq (aO (xQ (aO (aP rfl (bJ (j4 ex (bJ (rgK_s (by omega) (iY ?_)))))))))))))
     refine forF (v:=fun i:Nat=>W.int (i:Int)) (d5 x y [a,b,c,d]) (fun l=>Q (.tup [.str "five",cD l]) g) (fun σ g'=>∃ s7,σ = [some wx,some wy,some (.lst ((rise x.length 4).map cD)),some (cD [a,b,c,d]),t4,some (q4 (gt x a) (gt x b) (gt x c) (gt x d)),some (q4 (gt y a) (gt y b) (gt y c) (gt y d)),s7]∧g'=g) (rng 0 x.length) ?_ ?_ ?_ ⟨_,rfl,rfl⟩
     ·rintro i mi σ g' N' ⟨s7,rfl,rfl⟩ hN' hR'
      have hi:=(mZ.mp mi).2
      have hi':i<y.length:=by omega
      obtain ⟨pxi,sxi⟩:=ox _ (gD hi)
      obtain ⟨pyi,syi⟩:=oy _ (gD hi')
      refine bB (σ':=[some wx,some wy,some (.lst ((rise x.length 4).map cD)),some (cD [a,b,c,d]),t4,some (q4 (gt x a) (gt x b) (gt x c) (gt x d)),some (q4 (gt y a) (gt y b) (gt y c) (gt y d)),some (.int (i:Int))]) rfl ?_
      refine vW (nH (eV (cV (aO (aP rfl (aO (eV (aP rfl (aP rfl (ex.at hi (bJ ?_)))))))))))
      refine him (m:=200) (by decide) (px _ (by simp)).2 (px _ (by simp)).2 (px _ (by simp)).2 (px _ (by simp)).2 sxi fx (pl_ne pxi) fun t pt part=>?_
      refine cV (aO (aP rfl (aO (eV (aP rfl (aP rfl (ey.at hi' (bJ ?_))))))))
      refine him (m:=200) (by decide) (py _ (by simp)).2 (py _ (by simp)).2 (py _ (by simp)).2 (py _ (by simp)).2 syi fy (pl_ne pyi) fun t' pt' part'=>?_
      have key:=ray_iff pt pt' (.of part) (.of part')
      refine kNe_t (tK_s (iH (fun ne=>?_) fun ne=>?_))
      ·refine pQ (oH (aO (yH (aO (eV (aP rfl (oH (aO (aP rfl (bJ (fX rfl ?_)))))))))))
       refine wY (by simp) (bJ (fX rfl ?_))
       exact hR' ([a,b,c,d]++[i]) (if_pos (key.mp ne))
      ·exact hN' (if_neg fun z=>ne (key.mpr z)) _ _ ⟨_,rfl,rfl⟩
     ·rintro e5 σ g' ⟨s7,rfl,rfl⟩
      rfl'
      exact r0 e5
     ·intro l hy
      exact r1 l hy
  ·rintro hn σ g ⟨t3,t4,t5,t6,t7,rfl,rfl⟩
   unfold oh
   rfl'
   exact k0 (by unfold s5;rw [show FF x=none from hff.symm.trans hn])
  ·intro l hy
   have e:s5 x y=(rng 0 x.length).findSome? (d5 x y l):=by unfold s5;rw [show FF x=some l from hff.symm.trans hy]
   rw [e] at k0 k5
   exact ⟨k0,k5⟩
 ·intro l hy
  exact k4 l hy
def DueX (c0:MSp):Prop:=∀ {h:Gh} {wx wy:W} {x y:List Tr} {Q:WK} {E:XWK},iQ h wx x→iQ h wy y→x.length≤12→OkT 200 x→OkT 200 y→Q (dW (dueN x y)) h→c0 [wx,wy] h Q E
theorem w_due {bp bf:MSp}(hbp:ByPX bp)(hbf:ByFX bf):DueX (r_l_due bp bf):=by
 intro h wx wy x y Q E ex ey hn ox oy k
 unfold r_l_due
 refine j5 rfl (σ:=[some wx,some wy,none]) rfl ?_
 rfl'
 refine j4 ex ?_
 rfl'
 refine j4 ey ?_
 rfl'
 refine iH (fun ne=>?_) fun ne=>?_
 ·have e:dueN x y=some (("many" : Str),[]):=by unfold dueN;rw [if_pos (by omega)]
  rw [e] at k
  rfl'
  exact k
 have hl:x.length=y.length:=by omega
 unfold dueN at k
 rw [if_neg (by rw [Decidable.not_not];exact hl)] at k
 rfl'
 unfold zL
 rfl'
 refine hbp ex ey hl hn ox oy (fun e2 e3=>?_) (fun l e2=>?_) fun e2 l e3=>?_
 ·rw [e2,e3] at k
  rfl'
  refine is_non ?_
  rfl'
  refine hbf ex ey hl hn ox oy e2 e3 (fun e4 e5=>?_) (fun l e4=>?_) fun e4 l e5=>?_
  ·rw [e4,e5] at k
   rfl'
   unfold iW
   rfl'
   exact k
  ·rw [e4] at k
   rfl'
   unfold iW
   rfl'
   exact k
  ·rw [e4,e5] at k
   rfl'
   unfold iW
   rfl'
   exact k
 ·rw [e2] at k
  rfl'
  refine is_tup ?_
  rfl'
  unfold iW
  rfl'
  exact k
 ·rw [e2,e3] at k
  rfl'
  refine is_tup ?_
  rfl'
  unfold iW
  rfl'
  exact k
def PictY (c0:MSp):Prop:=∀ {h:Gh} {r:Nat} {mo:Int} {Q:WK} {E:XWK},Rs h r→r<h.nx→0<mo→mo≤12→(∀ (n:Nat) (ts:List Tr) (h':Gh),h'.c n=some (.lst (ts.map tw))→h.nx≤n→n<h'.nx→1≤ts.length→ts.length≤12→OkT 120 ts→Rs h' r→(∀ k,k≠r→k<h.nx→h'.c k=h.c k)→Q (.loc n) h')→c0 [.loc r,.int mo] h Q E
theorem w_pictY {dg sp ne:MSp}(hdg:jm dg)(hsp:z7 sp)(hne:NextX ne):PictY (mW dg sp ne):=by
 intro h r mo Q E hr hrn hm0 hm1 k
 obtain ⟨f0,f1⟩:=far9
 unfold mW
 rfl'
 refine hdg (n:=r) (many:=mo) hr hm0 (sm12 (by omega) (by omega)) fun many h1 d0 d1 r1 o1=>?_
 obtain ⟨M,rfl⟩:=Int.eq_ofNat_of_zero_le d0
 rfl'
 refine hdg (n:=r) (many:=4) r1 (by decide) (by unfold Sm;decide +kernel) fun st h2 _ _ r2 o2=>?_
 have o2:=o1.trans o2
 refine bB (σ':=[some (.loc r),some (.int mo),some (.int (M:Int)),some (.int st),none,none]) rfl (j7 (bU (cT (mLstM_s ?_))))
 rfl'
 refine kPow_s ⟨by decide,by decide,by decide⟩ ?_
 rfl'
 refine hsp (n:=r) r2 f0 f1 (by decide) fun t h3 pt sth r3 o3=>?_
 have o3:=o2.trans o3
 have x3:h3.nx=h.nx:=o3.1
 rfl'
 refine lmK_g rfl fun g eg og xg=>?_
 refine bB (σ':=[some (.loc r),some (.int mo),some (.int (M:Int)),some (.int st),some (.loc h3.nx),none]) rfl (j7 (bU (je (lq (aO (aP rfl (bJ (rgK_s (by omega) (iY ?_)))))))))
 have rne:h3.nx≠r:=by omega
 refine qd (fun i σ h'=>∃ (ts:List Tr) (s5:Option W),σ = [some (.loc r),some (.int mo),some (.int (M:Int)),some (.int st),some (.loc h3.nx),s5]∧h'.c h3.nx=some (.lst (ts.map tw))∧ts.length=i+1∧OkT (31+7*i) ts∧Rs h' r∧h'.nx=g.nx∧∀ k,k≠r→k<h.nx→h'.c k=h.c k) ?_ ?_ ⟨[t],none,rfl,eg,rfl,fun u hu=>?_,?_,rfl,fun k hk hk2=>by rw [og _ (by omega),o3.2 _ hk]⟩
 ·rintro i w σ h' N hN e ⟨ts,s5,rfl,e1,e2,e3,e4,e5,e7⟩
  have hi:i<M:=by
   have:=(List.getElem?_eq_some_iff.mp e).1
   rw [List.length_map] at this
   unfold rng at this
   rw [List.length_range'] at this
   omega
  refine bB (σ':=[some (.loc r),some (.int mo),some (.int (M:Int)),some (.int st),some (.loc h3.nx),some w]) rfl ?_
  refine xP (mBMr_s (aP rfl (isLst_c e1 ?_)))
  rfl'
  refine hne (m:=31+7*i) (by omega) (by omega) e1 rne e4 e3 (by omega) (by omega) fun u h4 pu su r4 o4=>?_
  have e1':h4.c h3.nx=some (.lst (ts.map tw)):=by rw [o4.2 _ rne];exact e1
  rfl'
  refine app_g e1' (by rw [List.length_map];omega) fun g2 e6 o6 x6=>?_
  refine j7 (hN _ _ ⟨ts++[u],_,rfl,by rw [e6,List.map_append];rfl,by rw [List.length_append,e2];rfl,?_,?_,by rw [x6,o4.1];exact e5,fun k hk hk2=>by rw [o6 _ (by omega),o4.2 _ hk];exact e7 k hk hk2⟩)
  ·intro v hv
   rcases List.mem_append.mp hv with hv | hv
   ·exact ⟨(e3 v hv).1,(e3 v hv).2.mono (by omega)⟩
   ·rw [List.mem_singleton.mp hv]
    exact ⟨pu,su.mono (by omega)⟩
  ·unfold Rs
   rw [o6 _ (Ne.symm rne)]
   exact r4
 ·rintro σ h' ⟨ts,s5,rfl,e1,e2,e3,e4,e5,e7⟩
  have hl:((rng 0 M).map fun x:Nat=>W.int (x:Int)).length=M:=by
   rw [List.length_map]
   unfold rng
   rw [List.length_range']
   omega
  rw [hl] at e2 e3
  unfold n6
  refine j7 ?_
  refine pQ ?_
  refine aP rfl ?_
  refine rt_s ?_
  exact k _ ts h' e1 (by omega) (by rw [e5,xg];omega) (by omega) (by omega) (fun v hv=>⟨(e3 v hv).1,(e3 v hv).2.mono (by omega)⟩) e4 e7
 ·rw [List.mem_singleton.mp hu]
  exact ⟨pt,sth⟩
 ·unfold Rs
  rw [og _ (Ne.symm rne)]
  exact r3
theorem cut_take (us:List W)(k:Nat):cutW us none (some (k:Int))=us.take k:=by
 unfold cutW
 rw [HT.sIx_nat,HT.sIx_none,List.drop_zero,Nat.sub_zero]
 by_cases h:k≤us.length
 ·rw [Nat.min_eq_left h]
 ·rw [Nat.min_eq_right (by omega),List.take_length,List.take_of_length_le (by omega)]
theorem cut_drop (us:List W)(k:Nat):cutW us (some (k:Int)) none=us.drop k:=by
 unfold cutW
 rw [HT.sIx_nat,HT.sIx_none]
 by_cases h:k≤us.length
 ·rw [Nat.min_eq_left h,List.take_of_length_le (by rw [List.length_drop];exact Nat.le_refl _)]
 ·rw [Nat.min_eq_right (by omega),List.drop_length,List.drop_of_length_le (by omega)]
  simp
theorem uP {ts:List Tr}{k:Nat}{h:Gh}{Q:WK}(x:Q (.lst ((ts.take k).map tw)) h):xr (.lst (ts.map tw)) none (some (k:Int)) h Q:=kSl2_l (cut_take _ _) (by rw [←List.map_take];exact x)
theorem sl_drop {ts:List Tr}{k:Nat}{h:Gh}{Q:WK}(x:Q (.lst ((ts.drop k).map tw)) h):xr (.lst (ts.map tw)) (some (k:Int)) none h Q:=kSl2_l (cut_drop _ _) (by rw [←List.map_drop];exact x)
theorem add_tt {as bs:List Tr}{h:Gh}{Q:WK}(hz:as.length+bs.length≤1000)(x:Q (.lst ((as++bs).map tw)) h):cu (.lst (as.map tw)) (.lst (bs.map tw)) h Q:=by
 refine j8.mk (Nat.le_trans (m:=1000) (by rw [List.length_map,List.length_map];exact hz) (by decide)) ?_
 rw [←List.map_append]
 exact x
theorem add_cc {as bs:List Tr}{n k:Nat}{h:Gh}{Q:WK}(en:h.c n=some (.lst (as.map tw)))(em:h.c k=some (.lst (bs.map tw)))(hz:as.length+bs.length≤1000)(x:Q (.lst ((as++bs).map tw)) h):cu (.loc n) (.loc k) h Q:=by
 show (match trkL h (.loc n),trkL h (.loc k) with
  | some a,some b=>j8 (a.length+b.length) (Q (.lst (a++b)) h)
  | _,_=>False)
 rw [show trkL h (.loc n)=some (as.map tw) by simp [trkL,en],show trkL h (.loc k)=some (bs.map tw) by simp [trkL,em]]
 refine j8.mk (Nat.le_trans (m:=1000) (by rw [List.length_map,List.length_map];exact hz) (by decide)) ?_
 rw [←List.map_append]
 exact x
def ChgX (c0:MSp):Prop:=∀ {h:Gh} {r m:Nat} {ts:List Tr} {Q:WK} {E:XWK},31≤m→m≤900→Rs h r→OkT m ts→1≤ts.length→ts.length≤12→(∀ (us:List Tr) (h':Gh),us.length=ts.length→OkT (m+7) us→Rs h' r→Oth r h h'→Q (.lst (us.map tw)) h')→c0 [.lst (ts.map tw),.loc r] h Q E
theorem w_changed {dg sp mx:MSp}(hdg:jm dg)(hsp:z7 sp)(hmx:MixX mx):ChgX (mY dg sp mx):=by
 intro h r m ts Q E hm0 hm hr hs l1 l2 k
 obtain ⟨f0,f1⟩:=far9
 have src:∀ g:Gh,iQ g (.lst (ts.map tw)) ts:=fun _=>.inl rfl
 unfold mY
 refine j5 rfl (σ:=[some (.lst (ts.map tw)),some (.loc r),none,none,none]) rfl ?_
 rfl'
 rw [List.length_map]
 refine hdg (n:=r) (many:=(ts.length:Int)) hr (by omega) (sm12 (by omega) (by omega)) fun at' h1 a0 a1 r1 o1=>?_
 obtain ⟨A,rfl⟩:=Int.eq_ofNat_of_zero_le a0
 rfl'
 refine hdg (n:=r) (many:=3) r1 (by decide) (by unfold Sm;decide +kernel) fun way h2 w0 w1 r2 o2=>?_
 have o2:=o1.trans o2
 rfl'
 rw [List.length_map]
 refine hdg (n:=r) (many:=(ts.length:Int)) r2 (by omega) (sm12 (by omega) (by omega)) fun d h3 d0 d1 r3 o3=>?_
 have o3:=o2.trans o3
 refine (src h3).ati d0 d1 fun one m1=>?_
 have t5:∀ (v:Tr) (h':Gh),Pl v→SmT (m+7) v→Rs h' r→Oth r h h'→jl dg sp mx E { nx:=fun _ h'=>Q .non h',rt:=Q } [some (.lst (ts.map tw)),some (.loc r),some (.int (A:Int)),some (.int way),some (tw v)] h':=by
  intro v h' pv sv r' o'
  unfold jl
  refine pQ (eV (eV (zF (aP rfl (gK ?_)))))
  rfl'
  refine uP ?_
  rfl'
  refine add_tt (bs:=[v]) (by rw [List.length_take];simp;omega) ?_
  refine zF (aP rfl ?_)
  rfl'
  refine gK (sl_drop (k:=A+1) ?_)
  refine add_tt (by rw [List.length_append,List.length_take,List.length_drop];simp;omega) (rt_s (k _ h' ?_ ?_ r' o'))
  ·rw [List.length_append,List.length_append,List.length_take,List.length_drop]
   simp
   omega
  ·intro t ht
   rcases List.mem_append.mp ht with ht | ht
   ·rcases List.mem_append.mp ht with ht | ht
    ·exact ⟨(hs t (List.mem_of_mem_take ht)).1,(hs t (List.mem_of_mem_take ht)).2.mono (by omega)⟩
    ·rw [List.mem_singleton.mp ht]
     exact ⟨pv,sv⟩
   ·exact ⟨(hs t (List.mem_of_mem_drop ht)).1,(hs t (List.mem_of_mem_drop ht)).2.mono (by omega)⟩
 have t4:∀ (v:Tr) (h':Gh),Pl v→SmT (m+7) v→Rs h' r→Oth r h h'→ju dg sp mx E { nx:=fun _ h'=>Q .non h',rt:=Q } [some (.lst (ts.map tw)),some (.loc r),some (.int (A:Int)),some (.int way),some (tw v)] h':=by
  intro v h' pv sv r' o'
  unfold ju
  rfl'
  refine iH (fun _=>?_) fun _=>?_
  ·rfl'
   refine kPow_s ⟨by decide,by decide,by decide⟩ ?_
   rfl'
   refine hsp (n:=r) r' f0 f1 (by decide) fun t h4 pt st r4 o4=>?_
   rfl'
   exact t5 t h4 pt (st.mono (by omega)) r4 (o'.trans o4)
  ·rfl'
   exact t5 v h' pv sv r' o'
 rfl'
 refine iH (fun _=>?_) fun _=>?_
 ·rfl'
  refine (src h3).at (i:=A) (by omega) ?_
  rfl'
  refine hmx (m:=m) (by omega) r3 (hs _ (gD (by omega))).1 (hs _ (gD (by omega))).2 (hs _ m1).2 fun t h4 pt st r4 o4=>?_
  rfl'
  exact t4 t h4 pt st r4 (o3.trans o4)
 ·rfl'
  exact t4 one h3 (hs _ m1).1 ((hs _ m1).2.mono (by omega)) r3 o3
theorem lc_led {le:MSp}(hle:LedS le){M:Mt}{ts:List Tr}{n:Nat}{σ : Sw}{h:Gh}{Q:WK}{E:XWK}(hx:(σ[3]?).getD none=some (mw M))(hv:σ[2]?=some (some (.loc n)))(e:iQ h (.loc n) ts)(hl:ts.length≤100)(hs:OkT 120 ts)(dM:det M≠0)(sM':SmM 31 M)(k:∀ us:List Tr,us.length=ts.length→OkT 153 us→Q (.lst (us.map tw)) h) :
  mLC ow1 [3] (nIt (aB 2)) iR (aH le E (ao (aB 1) (ao (aB 0) aJ))) σ h Q:=by
 refine mLC_s (uZ (aP hv ?_))
 obtain ⟨ev,s,es,ew,go⟩:=e.src
 show (match yJ h (.loc n) with
  | some s=>_
  | none=>False)
 rw [es]
 show j8 s.ws.length (qj s _ _ _ _ _ _ s.ws [] h)
 rw [ew]
 refine j8.mk (by rw [List.length_map];exact Nat.le_trans hl (by decide)) ?_
 refine lc_invS (fun i acc h'=>h'=h∧∃ us:List Tr,acc=us.map tw∧us.length=i∧OkT 153 us) ?_ ?_ ?_ ⟨rfl,[],rfl,rfl,fun t ht=>nomatch ht⟩
 ·rintro i acc h' ⟨rfl,_⟩
  exact go
 ·rintro i w2 acc h' N hN e2 ⟨rfl,us,rfl,ul,ui⟩
  obtain ⟨t,et,rfl⟩:=tw_get e2
  have mt:=List.mem_of_getElem? et
  have hb:sV [3] σ = [some (mw M)]:=by
   show [(σ[3]?).getD none]=_
   rw [hx]
  refine ⟨[tw t],rfl,?_⟩
  rw [hb]
  refine zE (yK (cV (aO (aP rfl (aO (aP rfl (bJ ?_)))))))
  refine hle (m:=31) (n:=120) (by decide) (by decide) sM' (hs t mt).2 dM (hs t mt).1.ne fun u pu paru su=>?_
  refine hN _ _ ⟨rfl,us++[u],by rw [List.map_append];rfl,by rw [List.length_append,ul];rfl,fun v hv=>?_⟩
  rcases List.mem_append.mp hv with hv | hv
  ·exact ui v hv
  ·rw [List.mem_singleton.mp hv]
   exact ⟨pu,su⟩
 ·rintro acc h' ⟨rfl,us,rfl,ul,ui⟩
  rw [List.length_map] at ul
  exact k us ul ui
theorem OkT.mono {m k:Nat}{ts:List Tr}(h:OkT m ts)(hk:m≤k):OkT k ts:=fun t ht=>⟨(h t ht).1,(h t ht).2.mono hk⟩
theorem OkT.app {m:Nat}{as bs:List Tr}(h:OkT m as)(g:OkT m bs):OkT m (as++bs):=fun t ht=>(List.mem_append.mp ht).elim (h t) (g t)
theorem OkT.take {m k:Nat}{ts:List Tr}(h:OkT m ts):OkT m (ts.take k):=fun t ht=>h t (List.mem_of_mem_take ht)
theorem OkT.drop {m k:Nat}{ts:List Tr}(h:OkT m ts):OkT m (ts.drop k):=fun t ht=>h t (List.mem_of_mem_drop ht)
def TwoX (c0:MSp):Prop:=∀ {h:Gh} {ns:List Int} {mo:Int} {Q:WK} {E:XWK},0<mo→mo≤12→(∀ (n:Nat) (x y:List Tr) (h':Gh),h'.c n=some (.lst (x.map tw))→1≤x.length→x.length≤12→OkT 200 x→1≤y.length→y.length≤12→OkT 200 y→Q (.tup [.loc n,.lst (y.map tw)]) h')→c0 [.kls (ns.map .int),.int mo] h Q E
theorem w_two' {rs dg mp le pi ch:MSp}(hrs:RestOk rs)(hdg:jm dg)(hmp:LMapOk mp)(hle:LedS le)(hpi:PictY pi)(hch:ChgX ch):TwoX (r_l_two rs dg mp le pi ch):=by
 intro h ns mo Q E hm0 hm1 k
 obtain ⟨f0,f1⟩:=far9
 unfold r_l_two
 refine j5 rfl (σ:=[some (.kls (ns.map .int)),some (.int mo),none,none,none,none,none]) rfl ?_
 rfl'
 refine hrs (ns:=ns) (by decide) (by decide) fun h1 r1 x1 o1=>?_
 rfl'
 refine hpi r1 (by omega) hm0 hm1 fun n x h2 c2 n1 n2 l1 l2 ox r2 o2=>?_
 rfl'
 refine hrs (ns:=ns) (by decide) (by decide) fun h3 r3 x3 o3=>?_
 have c3:h3.c n=some (.lst (x.map tw)):=by rw [o3 _ (by omega)];exact c2
 rfl'
 refine kPow_s ⟨by decide,by decide,by decide⟩ ?_
 rfl'
 refine hmp (n:=h2.nx) r3 f0 f1 (by decide) fun M h4 pM dM sM r4 o4=>?_
 have c4:h4.c n=some (.lst (x.map tw)):=by rw [o4.2 _ (by omega)];exact c3
 refine bB (σ':=[some (.kls (ns.map .int)),some (.int mo),some (.loc n),some (mw M),none,none,none]) rfl (j7 (bU (cT (lc_led hle rfl rfl (.inr ⟨n,rfl,c4⟩) (by omega) ox dM sM fun us ul ou=>?_))))
 refine bB (σ':=[some (.kls (ns.map .int)),some (.int mo),some (.loc n),some (mw M),some (.lst (us.map tw)),none,none]) rfl (j7 ?_)
 rfl'
 refine hrs (ns:=ns) (by decide) (by decide) fun h5 r5 x5 o5=>?_
 have y4:n<h4.nx:=by rw [o4.1];omega
 have c5:h5.c n=some (.lst (x.map tw)):=by rw [o5 _ (by omega)];exact c4
 rfl'
 refine hdg (n:=h4.nx) (many:=4) r5 (by decide) (by unfold Sm;decide +kernel) fun way h6 w0 w1 r6 o6=>?_
 have c6:h6.c n=some (.lst (x.map tw)):=by rw [o6.2 _ (by omega)];exact c5
 have x6:h6.nx=h4.nx+1:=o6.1.trans x5
 have s7:∀ (y:List Tr) (g:Gh),g.c n=some (.lst (x.map tw))→Rs g h4.nx→1≤y.length→y.length≤12→OkT 170 y→uN rs dg mp le pi ch E { nx:=fun _ h'=>Q .non h',rt:=Q } [some (.kls (ns.map .int)),some (.int mo),some (.loc n),some (mw M),some (.lst (y.map tw)),some (.loc h4.nx),some (.int way)] g:=by
  intro y g cg rg y1 y2 oy
  have s8:∀ (z:List Tr) (g:Gh),g.c n=some (.lst (x.map tw))→1≤z.length→OkT 170 z→tB rs dg mp le pi ch E { nx:=fun _ h'=>Q .non h',rt:=Q } [some (.kls (ns.map .int)),some (.int mo),some (.loc n),some (mw M),some (.lst (z.map tw)),some (.loc h4.nx),some (.int way)] g:=by
   intro z g cg z1 oz
   unfold tB
   refine pQ (oH (aO (aP rfl (aO (zF (aP rfl (gK ?_)))))))
   rfl'
   refine uP (k:=12) ?_
   rfl'
   exact k n x (z.take 12) g cg l1 l2 (ox.mono (by decide)) (by rw [List.length_take];omega) (by rw [List.length_take];omega) (oz.take.mono (by decide))
  unfold uN
  rfl'
  refine hdg (n:=h4.nx) (many:=12) rg (by decide) (by unfold Sm;decide +kernel) fun d g2 d0 d1 rg2 og=>?_
  have cg2:g2.c n=some (.lst (x.map tw)):=by rw [og.2 _ (by omega)];exact cg
  rfl'
  refine iH (fun _=>?_) fun _=>?_
  ·refine cT (eV (eV (zF (aP rfl ?_))))
   rfl'
   refine gK (sl_drop (k:=1) ?_)
   refine zF (aP rfl (gK ?_))
   rfl'
   refine uP (k:=1) ?_
   refine add_tt (by rw [List.length_drop,List.length_take];omega) ?_
   refine zF (aP rfl (gK ?_))
   rfl'
   refine uP (k:=1) ?_
   refine add_tt (by rw [List.length_append,List.length_drop,List.length_take];omega) ?_
   refine bB (σ':=[some (.kls (ns.map .int)),some (.int mo),some (.loc n),some (mw M),some (.lst ((y.drop 1++y.take 1++y.take 1).map tw)),some (.loc h4.nx),some (.int way)]) rfl (j7 ?_)
   exact s8 _ g2 cg2 (by simp;omega) ((oy.drop.app oy.take).app oy.take)
  ·rfl'
   exact s8 y g2 cg2 y1 oy
 have s6:∀ (y:List Tr) (g:Gh),g.c n=some (.lst (x.map tw))→Rs g h4.nx→n<g.nx→h4.nx<g.nx→1≤y.length→y.length≤12→OkT 170 y→nT rs dg mp le pi ch E { nx:=fun _ h'=>Q .non h',rt:=Q } [some (.kls (ns.map .int)),some (.int mo),some (.loc n),some (mw M),some (.lst (y.map tw)),some (.loc h4.nx),some (.int way)] g:=by
  intro y g cg rg xg xg4 y1 y2 oy
  unfold nT
  rfl'
  refine iH (fun _=>?_) fun _=>?_
  ·rfl'
   refine hpi rg xg4 hm0 hm1 fun n' z g2 cz _ _ z1 z2 oz rz og=>?_
   have cg2:g2.c n=some (.lst (x.map tw)):=by rw [og _ (by omega) xg];exact cg
   refine bB (σ':=[some (.kls (ns.map .int)),some (.int mo),some (.loc n),some (mw M),some (.loc n'),some (.loc h4.nx),some (.int way)]) rfl (j7 (cT (zF (eV (aP rfl (aP rfl (add_cc cz cg2 (by omega) (gK ?_))))))))
   refine mPart_s (xQ (aO (aP rfl (bJ (j4 (.inr ⟨n,rfl,cg2⟩) (pK_s (uP ?_)))))))
   refine bB (σ':=[some (.kls (ns.map .int)),some (.int mo),some (.loc n),some (mw M),some (.lst (((z++x).take x.length).map tw)),some (.loc h4.nx),some (.int way)]) rfl (j7 ?_)
   exact s7 _ g2 cg2 rz (by rw [List.length_take,List.length_append];omega) (by rw [List.length_take];omega) ((oz.mono (by decide)).app (ox.mono (by decide))).take
  ·rfl'
   exact s7 y g cg rg y1 y2 oy
 rfl'
 have go:∀ g:Gh,g=h6→bM (aH ch E (ao (aB 4) (ao (aB 5) aJ))) (nName 4) { nx:=nT rs dg mp le pi ch E { nx:=fun _ h'=>Q .non h',rt:=Q },rt:=Q } [some (.kls (ns.map .int)),some (.int mo),some (.loc n),some (mw M),some (.lst (us.map tw)),some (.loc h4.nx),some (.int way)] g:=by
  rintro g rfl
  rfl'
  refine hch (m:=153) (by decide) (by decide) r6 ou (by omega) (by omega) fun vs h7 vl ov r7 o7=>?_
  rfl'
  exact s6 vs h7 (by rw [o7.2 _ (by omega)];exact c6) r7 (by rw [o7.1];omega) (by rw [o7.1];omega) (by omega) (by omega) (ov.mono (by decide))
 refine iH (fun _=>?_) fun _=>?_
 ·rfl'
  exact go _ rfl
 ·rfl'
  refine iH (fun _=>?_) fun _=>?_
  ·rfl'
   exact go _ rfl
  ·rfl'
   exact s6 us h6 c6 r6 (by omega) (by omega) (by omega) (by omega) (ou.mono (by decide))
theorem sI {P P':List Nat→Bool}{ls:List (List Nat)}(h:∀ l∈ls,P l=P' l):ls.findSome? (pass P)=ls.findSome? (pass P'):=by
 induction ls with
 | nil=>rfl
 | cons l ls ih=>
  rw [List.findSome?_cons,List.findSome?_cons,ih fun z hz=>h z (List.mem_cons_of_mem _ hz)]
  unfold pass
  rw [h l List.mem_cons_self]
theorem ne_sym {α : Type} [DecidableEq α] (a b:α):decide (a≠b)=decide (b≠a):=decide_eq_decide.mpr ⟨fun h=>h.symm,fun h=>h.symm⟩
theorem flat4 {p q r s:Tr}:AllP [p,q,r,s]↔dt3 (crs p q) r=0∧dt3 (crs p q) s=0∧dt3 (crs p r) s=0∧dt3 (crs q r) s=0:=by
 have c1:dt3 (crs r s) p=dt3 (crs p r) s:=by simp only [dt3,crs];grind
 have c2:dt3 (crs s p) q=dt3 (crs p q) s:=by simp only [dt3,crs];grind
 refine ⟨fun a=>⟨a r (by simp) p (by simp) q (by simp),a s (by simp) p (by simp) q (by simp),a s (by simp) p (by simp) r (by simp),a s (by simp) q (by simp) r (by simp)⟩,fun ⟨h1,h2,h3,h4⟩=>all4 h4 (c1.trans h3) (c2.trans h2) h1⟩
theorem s4_sym {x y:List Tr}(hl:x.length=y.length)(e2:s2 x y=none)(e3:s3 x y=none):s4 y x=s4 x y:=by
 unfold s4
 rw [←hl]
 refine sI fun l ml=>?_
 have li:=fD ml
 match l,cF ml with
 | [a,b,c,d],_=>
  obtain ⟨u1,u2,u3,u4⟩:=up4 ml
  have la:=li a (by simp)
  have lb:=li b (by simp)
  have lc:=li c (by simp)
  have ld:=li d (by simp)
  show thB _ _ _ _ _ _ _ _=thB _ _ _ _ _ _ _ _
  unfold thB
  have hf:nY [gt y a,gt y b,gt y c,gt y d]=nY [gt x a,gt x b,gt x c,gt x d]:=by
   refine decide_eq_decide.mpr ?_
   rw [flat4,flat4,zZ e3 u1 u2 (by omega),zZ e3 u1 (by omega:b<d) u4,zZ e3 (by omega:a<c) u3 u4,zZ e3 u2 u3 u4]
  have ha:decide (kJ (gt y a) (gt y b) (gt y c) (gt y d))=decide (kJ (gt x a) (gt x b) (gt x c) (gt x d)):=by
   refine decide_eq_decide.mpr ?_
   unfold kJ
   rw [same2 e2 la lb,same2 e2 lb lc,same2 e2 lb ld,same2 e2 la lc,same2 e2 lc ld]
  rw [hf,ha]
  congr 2
  refine decide_eq_decide.mpr (not_congr ?_)
  rw [Int.mul_comm (tn (gt y a) (gt y b) (gt y c) (gt y d)).1,Int.mul_comm (tn (gt y a) (gt y b) (gt y c) (gt y d)).2]
  exact ⟨fun h=>h.symm,fun h=>h.symm⟩
theorem s5_sym {x y:List Tr}(hl:x.length=y.length)(e3:s3 x y=none):s5 y x=s5 x y:=by
 have hF:FF y=FF x:=by
  unfold FF
  rw [←rise4,←rise4,←hl]
  refine sI fun l ml=>?_
  match l,cF ml with
  | [a,b,c,d],_=>
   have:=ur e3 ml
   by_cases f:Free (gt x a) (gt x b) (gt x c) (gt x d)
   ·exact (uE (this.mp f)).trans (uE f).symm
   ·exact (p8 fun g=>f (this.mpr g)).trans (p8 f).symm
 unfold s5
 rw [hF,←hl]
 have hd:∀ l k,d5 y x l k=d5 x y l k:=fun l k=>by
  unfold d5
  split
  ·rename_i a b c d
   generalize imv (gt y a) (gt y b) (gt y c) (gt y d) (gt y k)=u
   generalize imv (gt x a) (gt x b) (gt x c) (gt x d) (gt x k)=v
   have z:crs u v=(0,0,0)↔crs v u=(0,0,0):=by
    obtain ⟨u1,u2,u3⟩:=u
    obtain ⟨v1,v2,v3⟩:=v
    simp only [crs,Prod.mk.injEq]
    constructor
    ·rintro ⟨h1,h2,h3⟩
     exact ⟨by grind,by grind,by grind⟩
    ·rintro ⟨h1,h2,h3⟩
     exact ⟨by grind,by grind,by grind⟩
   by_cases c0:crs u v=(0,0,0)
   ·rw [if_neg (by rw [Decidable.not_not];exact c0),if_neg (by rw [Decidable.not_not];exact z.mp c0)]
   ·rw [if_pos c0,if_pos fun q=>c0 (z.mpr q)]
  ·rfl
 have:(d5 y x)=d5 x y:=by funext l k;exact hd l k
 rw [this]
theorem due_sym (x y:List Tr):dueN y x=dueN x y:=by
 unfold dueN
 by_cases hl:x.length=y.length
 ·rw [if_neg (by rw [Decidable.not_not];exact hl.symm),if_neg (by rw [Decidable.not_not];exact hl)]
  have h2:s2 y x=s2 x y:=by
   unfold s2
   rw [←hl]
   refine sI fun l ml=>?_
   match l,cF ml with
   | [i,j],_=>exact ne_sym _ _
  have h3:s3 y x=s3 x y:=by
   unfold s3
   rw [←hl]
   refine sI fun l ml=>?_
   match l,cF ml with
   | [i,j,k],_=>exact ne_sym _ _
  rw [h2,h3]
  cases e2:s2 x y with
  | some l=>rfl
  | none=>
   cases e3:s3 x y with
   | some l=>rfl
   | none=>rw [s4_sym hl e2 e3,s5_sym hl e3]
 ·rw [if_pos (Ne.symm hl),if_pos hl]
theorem list_s {h:Gh}{w:W}{ts:List Tr}(e:iQ h w ts){Q:WK}(k:Q (.lst (ts.map tw)) h):kList [w] h Q:=by
 rcases e with rfl | ⟨n,rfl,ec⟩
 ·exact k
 ·show (match fu h (.loc n) with
   | some us=>Q (.lst us) h
   | none=>False)
  rw [viewL_loc ec]
  exact k
theorem ne_dW {d:Option (Str×List Nat)}{h:Gh}{Q:WK}(k:Q (.bl false) h):kNe (dW d) (dW d) h Q:=by
 cases d with
 | none=>exact k
 | some x=>
  obtain ⟨s,l⟩:=x
  have hi:∀ l:List Nat,qx (l.map fun x:Nat=>W.int (x:Int)) (l.map fun x:Nat=>W.int (x:Int))=true:=fun l=>by
   induction l with
   | nil=>rfl
   | cons a l ih=>rw [List.map_cons,qx,ih,eqW];simp
  have he:eqW (dW (some (s,l))) (dW (some (s,l)))=true:=by
   unfold dW cD
   simp only [eqW,qx,hi,beq_self_eq_true,Bool.and_self,Bool.and_true]
  have hp:plW 30 (dW (some (s,l)))=true:=by simp [dW,cD,plW]
  show by2 (plW 30 (dW (some (s,l)))&&plW 30 (dW (some (s,l)))) (Q (.bl (!eqW (dW (some (s,l))) (dW (some (s,l))))) h) False
  rw [hp,he]
  exact k
theorem eqs_refl:∀ ts:List Tr,qx (ts.map tw) (ts.map tw)=true
 | []=>rfl
 | t::ts=>by rw [List.map_cons,qx,eqs_refl ts,eq_tw,decide_eq_true rfl];rfl
theorem pl_tws (n:Nat)(ts:List Tr):plW (n+3) (.lst (ts.map tw))=true:=by
 rw [plW,List.all_eq_true]
 intro w hw
 obtain ⟨u,_,rfl⟩:=List.mem_map.mp hw
 exact pl_tw (n+1) u
theorem ne_hand {x y:List Tr}{n:Nat}{h:Gh}{Q:WK}(ec:h.c n=some (.lst (x.map tw)))(k:Q (.bl false) h):kNe3 (.lst [.lst (x.map tw),.lst (y.map tw)]) (.lst [.loc n,.lst (y.map tw)]) h Q:=by
 have e1:rG h (.lst [.lst (x.map tw),.lst (y.map tw)])=some (.lst [.lst (x.map tw),.lst (y.map tw)]):=rfl
 have e2:rG h (.lst [.loc n,.lst (y.map tw)])=some (.lst [.lst (x.map tw),.lst (y.map tw)]):=by simp [rG,vh,datW,ec]
 have hp:plW 30 (.lst [.lst (x.map tw),.lst (y.map tw)])=true:=by
  rw [plW]
  simp only [List.all_cons,List.all_nil,pl_tws 26,Bool.and_self]
 have he:eqW (.lst [.lst (x.map tw),.lst (y.map tw)]) (.lst [.lst (x.map tw),.lst (y.map tw)])=true:=by
  simp only [eqW,qx,eqs_refl,Bool.and_self]
 show (match rG h (.lst [.lst (x.map tw),.lst (y.map tw)]),rG h (.lst [.loc n,.lst (y.map tw)]) with
  | some a,some b=>by2 (plW 30 a&&plW 30 b) (Q (.bl (!eqW a b)) h) False
  | _,_=>False)
 rw [e1,e2]
 dsimp only
 rw [hp,he]
 exact k
theorem kIx_8 {d:Int}{h:Gh}{Q:WK}(h0:0≤d)(h1:d<8)(k:∀ mo:Int,0<mo→mo≤12→Q (.int mo) h):kIx (.lst [.int 9,.int 9,.int 9,.int 9,.int 9,.int 9,.int 9,.int 12]) (.int d) h Q:=by
 have:d=0∨d=1∨d=2∨d=3∨d=4∨d=5∨d=6∨d=7:=by omega
 rcases this with rfl | rfl | rfl | rfl | rfl | rfl | rfl | rfl <;> exact wK rfl rfl (k _ (by decide) (by decide))
theorem kIsiS_t {h:Gh}{s:Str}{Q:WK}(k:Q (.bl true) h):kIsiS [.str s,.ty "str"] h Q:=⟨rfl,k⟩
theorem w_law {ap rs dg tw' du:MSp}(hap:ApartX ap)(hrs:RestOk rs)(hdg:jm dg)(htw:TwoX tw')(hdu:DueX du)(ns:List Int){h':Gh}:r_law ap rs dg tw' du [.kls (ns.map .int)] h' (fun w _=>w=.bl true) EF:=by
 unfold r_law
 refine j5 rfl (σ:=[some (.kls (ns.map .int)),none,none,none,none,none]) rfl ?_
 rfl'
 refine hrs (ns:=ns) (by decide) (by decide) fun h1 r1 x1 o1=>?_
 rfl'
 refine hdg (many:=8) r1 (by decide) (by unfold Sm;decide +kernel) fun d h2 d0 d1 r2 o2=>?_
 refine kIx_8 d0 d1 fun mo m0 m1=>?_
 rfl'
 refine htw m0 m1 fun n x y h3 c l1 l2 ox l3 l4 oy=>?_
 have sx:iQ h3 (.loc n) x:=.inr ⟨n,rfl,c⟩
 have sy:iQ h3 (.lst (y.map tw)) y:=.inl rfl
 have sx':iQ h3 (.lst (x.map tw)) x:=.inl rfl
 rfl'
 refine list_s sx ?_
 rfl'
 refine list_s sy ?_
 rfl'
 refine hdu sx sy l2 ox oy ?_
 rfl'
 refine hap sx' sy l1 l2 l3 l4 ox oy ?_
 rfl'
 refine ne_dW ?_
 rfl'
 refine ne_hand c ?_
 rfl'
 refine hap sy sx' l3 l4 l1 l2 oy ox ?_
 rw [due_sym]
 rfl'
 refine ne_dW ?_
 rfl'
 unfold t_law_5
 generalize dueN y x=D
 cases D with
 | none=>
  rfl'
  refine is_non ?_
  rfl'
  rfl
 | some z=>
  obtain ⟨s,l⟩:=z
  unfold dW
  rfl'
  refine is_tup ?_
  rfl'
  refine kIsiS_t ?_
  rfl'
  rfl
theorem law_ok (F0 F1 F2:Addr)(ns:List Int)(_:ns.length≤63):m_law F0 F1 F2 [.kls (ns.map W.int)] g0 (fun w _=>w=.bl true) EF:=by
 have pl:zq cI:=w_lplainL w_ldivisor
 have dg:jm bx:=w_digit
 have nb:sX eZ:=w_number dg
 have sp:z7 gB:=w_spot nb pl
 have rs:RestOk gj:=w_rest w_cell_at
 have lt:uw bH:=w_lturn w_lcross w_ldot
 have mx:MixX fP:=w_mixed dg pl
 have pc:PictY fC:=w_pictY dg sp (w_next dg sp mx)
 have two:TwoX uF:=w_two' rs dg (w_lmap nb pl w_lsize) (w_lledS pl w_ldot) pc (w_changed dg sp mx)
 have pls:jF dz:=w_places
 have due:DueX tR:=w_due (w_byp lt pls) (w_byf (w_lfree lt) pls (w_parts w_lcross w_ldot lt) (w_lieY lt) (w_image pl lt))
 have pp:zq gG:=w_pplainL (w_divisor w_two) w_endsL
 have ro:zj dF:=w_rows
 have tr:TTROk bQ:=w_ttr w_dotG ro
 have tt:TTTOk bZ:=w_ttt w_dotG ro w_flip
 have tu:rQ jO:=w_turned w_crossG ro
 have fr:FreeX d8:=w_freeX (w_turnG w_dotG w_crossG)
 have mb:MbV dj:=w_mbV (w_thenS pp tt) (w_back pp w_flip tu) fr (w_from pp tr tu)
 have ol:qI fU:=w_on_line (w_share w_dot w_cross)
 have ri:jF jC:=w_rising
 have pk:PickX eN:=w_picked
 have fp:FpX F0 F1 F2 (cO F0 F1 F2):=w_fp ri pk w_twos (w_threes ol) (w_throws ol w_three (w_numY (w_placeY w_cross) w_turnAt))
 have ap:ApartX (qw F0 F1 F2):=w_apart w_check (w_am fp (w_five pk (w_led pp tr) w_tilX mb (w_first ri pk fr)))
 exact w_law ap rs dg two due ns
end My
def PySem.W.Fast.tw11392102539799781548:Unit:=()
def PySem.W.Fast.tw1832856151379149641:Unit:=()
def PySem.W.Fast.tw10705365090718658351:Unit:=()
def PySem.W.Fast.tw16780585979172271611:Unit:=()
def PySem.W.Fast.tw7648765541282013540:Unit:=()
def PySem.W.Fast.tw684574279338053729:Unit:=()
def PySem.W.Fast.tw5078834753207838568:Unit:=()
def PySem.W.Fast.tw5764413470146252461:Unit:=()
def PySem.W.Fast.tw5560546852932072841:Unit:=()
def PySem.W.Fast.tw8486937581534636049:Unit:=()
def PySem.W.Fast.tw10052056360233725726:Unit:=()
def PySem.W.Fast.tw529604265070373205:Unit:=()
def PySem.W.Fast.tw16422305038498095416:Unit:=()
def PySem.W.Fast.tw15332225672246529850:Unit:=()
def PySem.W.Fast.tw5028048967820532151:Unit:=()
def PySem.W.Fast.tw11779744175149465993:Unit:=()
def PySem.W.Fast.tw7470458600418787485:Unit:=()
def PySem.W.Fast.tw1863317141352141390:Unit:=()
def PySem.W.Fast.tw13538190397176001443:Unit:=()
def PySem.W.Fast.tw4049502073980146048:Unit:=()
def PySem.W.Fast.tw17939292491748718578:Unit:=()
open PySem PySem.W PyProof.Rows
set_option maxRecDepth 100000 in
set_option maxHeartbeats 0 in
theorem PySem.Challenge.cw_easelroom_k24_what_tells_apart_holds : PySem.Challenge.rw_easelroom_k24_what_tells_apart.Holds := by
 w_on;o_law;k_head;(case hw=>w_witness2)
 k_fill
 refine My.walk (l:=PySem.Challenge.rw_easelroom_k24_what_tells_apart) rfl rfl (fun w h Y=>PySem.W.kIn_of Y) ?F
 case F=>
  intro w mg fa h KX G hmg
  refine' My.all_mk My.law_ok KX G hmg ?a0 ?l0 ?c0 ?k0 ?a1 ?l1 ?c1 ?k1 ?a2 ?l2 ?c2 ?k2 ?a3 ?l3 ?c3 ?k3 ?a4 ?l4 ?c4 ?k4 ?a5 ?l5 ?c5 ?k5 ?a6 ?l6 ?c6 ?k6 ?a7 ?l7 ?c7 ?k7 ?a8 ?l8 ?c8 ?k8 ?a9 ?l9 ?c9 ?k9 ?a10 ?l10 ?c10 ?k10 ?a11 ?l11 ?c11 ?k11 ?a12 ?l12 ?c12 ?k12 ?a13 ?l13 ?c13 ?k13 ?a14 ?l14 ?c14 ?k14 ?a15 ?l15 ?c15 ?k15 ?a16 ?l16 ?c16 ?k16 ?a17 ?l17 ?c17 ?k17 ?a18 ?l18 ?c18 ?k18 ?a19 ?l19 ?c19 ?k19 ?a20 ?l20 ?c20 ?k20 ?a21 ?l21 ?c21 ?k21 ?a22 ?l22 ?c22 ?k22 ?a23 ?l23 ?c23 ?k23 ?a24 ?l24 ?c24 ?k24 ?a25 ?l25 ?c25 ?k25 ?a26 ?l26 ?c26 ?k26 ?a27 ?l27 ?c27 ?k27 ?a28 ?l28 ?c28 ?k28 ?a29 ?l29 ?c29 ?k29 ?a30 ?l30 ?c30 ?k30 ?a31 ?l31 ?c31 ?k31 ?a32 ?l32 ?c32 ?k32 ?a33 ?l33 ?c33 ?k33 ?a34 ?l34 ?c34 ?k34 ?a35 ?l35 ?c35 ?k35 ?a36 ?l36 ?c36 ?k36 ?a37 ?l37 ?c37 ?k37 ?a38 ?l38 ?c38 ?k38 ?a39 ?l39 ?c39 ?k39 ?a40 ?l40 ?c40 ?k40 ?a41 ?l41 ?c41 ?k41 ?a42 ?l42 ?c42 ?k42 ?a43 ?l43 ?c43 ?k43 ?a44 ?l44 ?c44 ?k44 ?a45 ?l45 ?c45 ?k45 ?a46 ?l46 ?c46 ?k46 ?a47 ?l47 ?c47 ?k47 ?a48 ?l48 ?c48 ?k48 ?a49 ?l49 ?c49 ?k49 ?a50 ?l50 ?c50 ?k50 ?a51 ?l51 ?c51 ?k51 ?a52 ?l52 ?c52 ?k52 ?a53 ?l53 ?c53 ?k53 ?a54 ?l54 ?c54 ?k54 ?a55 ?l55 ?c55 ?k55 ?a56 ?l56 ?c56 ?k56 ?a57 ?l57 ?c57 ?k57 ?a58 ?l58 ?c58 ?k58 ?a59 ?l59 ?c59 ?k59 ?a60 ?l60 ?c60 ?k60 ?a61 ?l61 ?c61 ?k61 ?a62 ?l62 ?c62 ?k62 ?z_abs ?z_all ?z_isinstance ?z_len ?z_list ?z_max ?z_min ?z_range ?z_reversed ?z_str ?z_sum ?z_tuple ?z_zip ?gk_TILES ?lk_TILES ?lk_TILES_0 ?lk_TILES_1 ?lk_TILES_2 ?lk_TILES_3
  (case a0 | l0 | c0 | k0 | a1 | l1 | c1 | k1 | a2 | l2 | c2 | k2 | a3 | l3 | c3 | k3 | a4 | l4 | c4 | k4 | a5 | l5 | c5 | k5 | a6 | l6 | c6 | k6 | a7 | l7 | c7 | k7 | a8 | l8 | c8 | k8 | a9 | l9 | c9 | k9=>k_is)
  (case a10 | l10 | c10 | k10 | a11 | l11 | c11 | k11 | a12 | l12 | c12 | k12 | a13 | l13 | c13 | k13 | a14 | l14 | c14 | k14 | a15 | l15 | c15 | k15 | a16 | l16 | c16 | k16 | a17 | l17 | c17 | k17 | a18 | l18 | c18 | k18 | a19 | l19 | c19 | k19=>k_is)
  (case a20 | l20 | c20 | k20 | a21 | l21 | c21 | k21 | a22 | l22 | c22 | k22 | a23 | l23 | c23 | k23 | a24 | l24 | c24 | k24 | a25 | l25 | c25 | k25 | a26 | l26 | c26 | k26 | a27 | l27 | c27 | k27 | a28 | l28 | c28 | k28 | a29 | l29 | c29 | k29=>k_is)
  (case a30 | l30 | c30 | k30 | a31 | l31 | c31 | k31 | a32 | l32 | c32 | k32 | a33 | l33 | c33 | k33 | a34 | l34 | c34 | k34 | a35 | l35 | c35 | k35 | a36 | l36 | c36 | k36 | a37 | l37 | c37 | k37 | a38 | l38 | c38 | k38 | a39 | l39 | c39 | k39=>k_is)
  (case a40 | l40 | c40 | k40 | a41 | l41 | c41 | k41 | a42 | l42 | c42 | k42 | a43 | l43 | c43 | k43 | a44 | l44 | c44 | k44 | a45 | l45 | c45 | k45 | a46 | l46 | c46 | k46 | a47 | l47 | c47 | k47 | a48 | l48 | c48 | k48 | a49 | l49 | c49 | k49=>k_is)
  (case a50 | l50 | c50 | k50 | a51 | l51 | c51 | k51 | a52 | l52 | c52 | k52 | a53 | l53 | c53 | k53 | a54 | l54 | c54 | k54 | a55 | l55 | c55 | k55 | a56 | l56 | c56 | k56 | a57 | l57 | c57 | k57 | a58 | l58 | c58 | k58 | a59 | l59 | c59 | k59=>k_is)
  (case a60 | l60 | c60 | k60 | a61 | l61 | c61 | k61 | a62 | l62 | c62 | k62 | z_abs | z_all | z_isinstance | z_len | z_list | z_max | z_min | z_range | z_reversed | z_str | z_sum | z_tuple | z_zip | gk_TILES | lk_TILES | lk_TILES_0 | lk_TILES_1 | lk_TILES_2 | lk_TILES_3=>k_is)
