import PyProof.Rows.All
import Wide.All
import OpenK.AllK
import Wide.FinOn
import Lean
import PyProof.EqAt
import PyProof.EqKinds
import PyProof.TupleCall
import PySem.Challenge.RW_easelroom_k23_forms_of_few
set_option Elab.async false
set_option linter.all false
set_option maxRecDepth 100000
namespace L2
open PySem PySem.Spec PyProof.Rows
abbrev Key:=Sum Int Str
def keyIs:Key→Value→Bool
 | .inl k,v=>Value.isInt k v
 | .inr x,v=>Value.isStrOf x v
def keyH (w:World):Key→Int
 | .inl k=>hashInt k
 | .inr x=>hashStr w x
theorem bO:∀ {k:Key} {v:Value},keyIs k v=true→(∃ i t,k=Sum.inl i∧v=Value.int i t)∨(∃ x t,k=Sum.inr x∧v=Value.str x t)
 | .inl i,v,h=>by
  obtain ⟨t,e⟩:=Value.isInt_shape (k:=i) (v:=v) h
  exact .inl ⟨i,t,rfl,e⟩
 | .inr x,v,h=>by
  obtain ⟨t,e⟩:=Value.isStrOf_shape (x:=x) (v:=v) h
  exact .inr ⟨x,t,rfl,e⟩
theorem key_ll (a b:Int):decide ((Sum.inl a:Key)=Sum.inl b)=(a==b):=by
 by_cases e:a=b
 ·subst e;simp
 ·have h:¬ (Sum.inl a:Key)=Sum.inl b:=fun q=>e (Sum.inl.inj q)
  rw [decide_eq_false h]
  exact (beq_eq_false_iff_ne.mpr e).symm
theorem key_rr (a b:Str):decide ((Sum.inr a:Key)=Sum.inr b)=decide (a=b):=by
 by_cases e:a=b
 ·subst e;simp
 ·have h:¬ (Sum.inr a:Key)=Sum.inr b:=fun q=>e (Sum.inr.inj q)
  rw [decide_eq_false h,decide_eq_false e]
theorem key_lr (a:Int)(b:Str):decide ((Sum.inl a:Key)=Sum.inr b)=false:=decide_eq_false (fun q=>nomatch q)
theorem key_rl (a:Str)(b:Int):decide ((Sum.inr a:Key)=Sum.inl b)=false:=decide_eq_false (fun q=>nomatch q)
def yX (prog:Program)(w:World):PySem.KeyKind prog w Key where
 is:=keyIs
 hash:=keyH w
 inj:=fun v a b ha hb=>by
  rcases bO ha with ⟨i,t,rfl,rfl⟩ | ⟨x,t,rfl,rfl⟩
  ·rcases bO hb with ⟨j,u,rfl,e⟩ | ⟨y,u,rfl,e⟩
   ·injection e with e1 _;rw [e1]
   ·exact nomatch e
  ·rcases bO hb with ⟨j,u,rfl,e⟩ | ⟨y,u,rfl,e⟩
   ·exact nomatch e
   ·injection e with e1 _;rw [e1]
 byValue:=fun k v h=>by
  rcases bO h with ⟨i,t,rfl,rfl⟩ | ⟨x,t,rfl,rfl⟩ <;> rfl
 pyHash:=fun hv h=>by
  rcases bO hv with ⟨i,t,rfl,rfl⟩ | ⟨x,t,rfl,rfl⟩
  ·exact wpAny_pyHash_int h
  ·exact wpAny_pyHash_str h
 eqBool:=fun hu hv h=>by
  rcases bO hu with ⟨i,t,rfl,rfl⟩ | ⟨x,t,rfl,rfl⟩
  ·rcases bO hv with ⟨j,u,rfl,rfl⟩ | ⟨y,u,rfl,rfl⟩
   ·rw [key_ll] at h;exact wpAny_eqBool_int h
   ·rw [key_lr] at h;exact SeqAt.EqAt.int_str i t y u _ _ _ _ h
  ·rcases bO hv with ⟨j,u,rfl,rfl⟩ | ⟨y,u,rfl,rfl⟩
   ·rw [key_rl] at h;exact SeqAt.EqAt.str_int x t j u _ _ _ _ h
   ·rw [key_rr] at h;exact wpAny_eqBool_str h
 «strs»:=fun k x t v h=>by
  rcases bO h with ⟨i,u,rfl,e⟩ | ⟨y,u,rfl,e⟩
  ·exact nomatch e
  ·injection e with e1 _
   subst e1
   cases v <;> rfl
end L2
namespace L2
open PySem PySem.Spec PyProof.Rows
inductive V where
 | non | bl (b:Bool) | int (i:Int) | str (x:Str) | byt (b:Array UInt8) | flt (b:UInt64) | ref (a:Addr) | ty (n:String)
 deriving DecidableEq
def RelV:V→Value→Prop
 | .non,u=>u=Value.none
 | .bl b,u=>u=Value.bool b
 | .int i,u=>∃ t,u=Value.int i t
 | .str x,u=>∃ t,u=Value.str x t
 | .byt b,u=>∃ t,u=Value.bytes b t
 | .flt b,u=>∃ t,u=Value.float b t
 | .ref a,u=>u=Value.ref a
 | .ty n,u=>u=Value.type n
abbrev Vals:List V→List Value→Prop:=Paired RelV
theorem Vals.length {xs:List V}{us:List Value}(r:Vals xs us):xs.length=us.length:=Paired.length r
theorem Vals.get:∀ {xs:List V} {us:List Value} {i:Nat} {x:V},Vals xs us→xs[i]?=some x→∃ u,us[i]?=some u∧RelV x u
 | _,_,_,_,.nil,e=>by simp at e
 | _,_,0,_,.cons r _,e=>by simp at e;subst e;exact ⟨_,rfl,r⟩
 | _,_,i+1,x,.cons _ t,e=>by
  obtain ⟨u,h1,h2⟩:=Vals.get (i:=i) (x:=x) t (by simpa using e)
  exact ⟨u,by simpa using h1,h2⟩
theorem Vals.set {x:V}{u:Value}(r:RelV x u):∀ {xs:List V} {us:List Value} (i:Nat),Vals xs us→Vals (xs.set i x) (us.set i u)
 | _,_,_,.nil=>.nil
 | _,_,0,.cons _ t=>.cons r t
 | _,_,i+1,.cons q t=>.cons q (Vals.set r i t)
theorem Vals.append:∀ {xs ys:List V} {us ws:List Value},Vals xs us→Vals ys ws→Vals (xs++ys) (us++ws)
 | _,_,_,_,.nil,s=>s
 | _,_,_,_,.cons r t,s=>.cons r (Vals.append t s)
theorem Vals.take:∀ {xs:List V} {us:List Value} (n:Nat),Vals xs us→Vals (xs.take n) (us.take n)
 | _,_,0,_=>.nil
 | _,_,_+1,.nil=>.nil
 | _,_,n+1,.cons r t=>.cons r (Vals.take n t)
theorem Vals.drop:∀ {xs:List V} {us:List Value} (n:Nat),Vals xs us→Vals (xs.drop n) (us.drop n)
 | _,_,0,r=>r
 | _,_,_+1,.nil=>.nil
 | _,_,n+1,.cons _ t=>Vals.drop n t
def RelO:Option V→Option Value→Prop
 | some v,some u=>RelV v u
 | none,none=>True
 | _,_=>False
def KV {κ : Type}:List (κ×V)→List (κ×Value)→Prop:=Paired fun (p:κ×V) (q:κ×Value)=>p.1=q.1∧RelV p.2 q.2
def kV:Key→V
 | .inl i=>.int i
 | .inr x=>.str x
inductive HO where
 /-- a list -/
 | lst (xs:List V)
 /-- a tuple (never changes) -/
 | tup (xs:List V)
 /-- a dict whose keys are ints and texts; one whose keys are tuples of ints and texts (the empty one is both) -/
 | dK (kvs:List (Key×V)) | dT (kvs:List (List Key×V))
 /-- a set of ints: its members, its size -/
 | set (S:Int→Bool) (n:Nat)
 /-- an instance of the class at C, its dict at dx, its attributes -/
 | ins (C dx:Addr) (fs:List (Str×V))
 /-- the dict of the instance at x -/
 | own (x:Addr)
 /-- the dict of an exception -/
 | xd (fs:List (Str×V))
 /-- a bound method, f of x -/
 | met (f x:Addr)
 /-- a range object lo, lo + 1, .. below hi -/
 | rng (lo hi:Int)
 /-- a thing that is known to the object (the script; a dict while a loop walks it): read, never written while it is so -/
 | frz (o:Obj) (u:HO)
 /-- a code object's table -/
 | tbl (ps:Array Value)
 /-- any other thing, by what is true of its one object (a def of one's own: SetO a S n := HO.ext fun h => ..) -/
 | ext (φ : Heap→Prop)
abbrev Hp:=Addr→Option HO
def upd (H:Hp)(a:Addr)(o:HO):Hp:=fun b=>if b=a then some o else H b
theorem bw {H:Hp}{a:Addr}{o:HO}:upd H a o a=some o:=by unfold upd;rw [if_pos rfl]
theorem aP {H:Hp}{a b:Addr}{o:HO}(h:b≠a):upd H a o b=H b:=by unfold upd;rw [if_neg h]
theorem aW {H:Hp}{a b:Addr}{o:HO}(h:H a=some o)(h':H b=none):a≠b:=by
 intro e;subst e;rw [h] at h';cases h'
section
variable (P:Program)(w:World)
def jm (H:Hp)(h:Heap)(a:Addr):HO→Prop
 | .lst xs=>xs.length≤sizeLine∧∃ (its:List Value) (n:Nat),Vals xs its∧h.get? a=some { cls:=.type "list",data:=.seq its.toArray n }
 | .tup xs=>xs.length≤sizeLine∧∃ its:List Value,Vals xs its∧IsTup h a its.toArray
 | .dK kvs=>kvs.length≤sizeLine∧(a==sysModules)=false∧∃ vs,KV kvs vs∧h.DictOf (yX P w) a vs
 | .dT kvs=>kvs.length≤sizeLine∧(a==sysModules)=false∧∃ xs:List (List Key×Addr×Value),
   Paired (fun (p:List Key×V) (q:List Key×Addr×Value)=>p.1=q.1∧H q.2.1=some (.tup (p.1.map kV))∧RelV p.2 q.2.2) kvs xs ∧
   ∃ o es ep,h.get? a=some o∧o.ExactDict∧o.data=.dict es ep∧es.toList=xs.map (entryOfKey (tupleKind (yX P w)))∧(xs.map (·.1)).Nodup
 | .set S n=>h.SetOf (intKind P w) a S n
 | .ins C dx fs=>H dx=some (.own a)∧fs.length≤1000∧dx≠a∧h.get? a=some (PySem.W.instObj C dx) ∧
   ∃ mA,h.Ns1 dx mA∧(∀ f,RelO (fs.lookup f) (mA f))∧PySem.Within mA (fs.map (·.1))
 | .own _=>∃ o,h.get? a=some o
 | .xd fs=>∃ mA,h.Ns1 a mA∧∀ f,RelO (fs.lookup f) (mA f)
 | .rng lo hi=>∃ t u v,h.get? a=some { cls:=.type "range",data:=.fields #[.int lo t,.int hi u,.int 1 v] }
 | .frz o u=>h.get? a=some o∧jm H h a u
 | .tbl ps=>h.get? a=some { cls:=.none,data:=.fields ps }
 | .met f x=>h.get? a=some (PySem.W.methodObj (.ref f) (.ref x))
 | .ext φ=>φ h∧(∃ o,h.get? a=some o)∧∀ h1 h2:Heap,φ h1→(∀ o,h1.get? a=some o→h2.get? a=some o)→φ h2
def HOk (H:Hp)(h:Heap):Prop:=∀ a o,H a=some o→jm P w H h a o
end
section
variable {P:Program}{w:World}{H H':Hp}{h h':Heap}{a:Addr}{o:HO}
theorem jm.lt (x:jm P w H h a o):a<h.objs.size:=by
 cases o with
 | lst xs=>obtain ⟨_,_,_,_,e⟩:=x;exact Heap.lt_size e
 | tup xs=>obtain ⟨_,_,_,p⟩:=x;exact p.lt
 | dK kvs=>obtain ⟨_,_,_,_,o,_,_,e,_⟩:=x;exact Heap.lt_size e
 | dT kvs=>obtain ⟨_,_,_,_,o,_,_,e,_⟩:=x;exact Heap.lt_size e
 | set S n=>obtain ⟨o,_,_,_,e,_⟩:=x;exact Heap.lt_size e
 | ins C dx fs=>obtain ⟨_,_,_,e,_⟩:=x;exact Heap.lt_size e
 | own y=>obtain ⟨_,e⟩:=x;exact Heap.lt_size e
 | xd fs=>obtain ⟨_,⟨_,_,_,e,_⟩,_⟩:=x;exact Heap.lt_size e
 | rng lo hi=>obtain ⟨_,_,_,e⟩:=x;exact Heap.lt_size e
 | frz ob u=>obtain ⟨e,_⟩:=x;exact Heap.lt_size e
 | tbl ps=>exact Heap.lt_size (show h.get? a=some _ from x)
 | met f y=>exact Heap.lt_size (show h.get? a=some _ from x)
 | ext φ=>obtain ⟨_,⟨_,e⟩,_⟩:=x;exact Heap.lt_size e
theorem Paired.mapP {α β : Type}{F G:α→β→Prop}:∀ {l₁ : List α} {l₂ : List β},Paired F l₁ l₂→(∀ a b,F a b→G a b)→Paired G l₁ l₂
 | _,_,.nil,_=>.nil
 | _,_,.cons r t,f=>.cons (f _ _ r) (Paired.mapP t f)
theorem jm.stay (x:jm P w H h a o)(k:∀ b u,(b=a∨H b=some (.own a))→h.get? b=some u→h'.get? b=some u)
  (ho:∀ b,H b=some (.own a)→H' b=some (.own a)) (ht:∀ b xs,H b=some (.tup xs)→H' b=some (.tup xs)):jm P w H' h' a o:=by
 induction o with
 | lst xs=>obtain ⟨z,its,n,r,e⟩:=x;exact ⟨z,its,n,r,k _ _ (.inl rfl) e⟩
 | tup xs=>obtain ⟨z,its,r,ob,e,c⟩:=x;exact ⟨z,its,r,ob,k _ _ (.inl rfl) e,c⟩
 | dK kvs=>obtain ⟨z,y,vs,r,ob,es,ep,e,c⟩:=x;exact ⟨z,y,vs,r,ob,es,ep,k _ _ (.inl rfl) e,c⟩
 | dT kvs=>
  obtain ⟨z,y,xs,r,ob,es,ep,e,c⟩:=x
  exact ⟨z,y,xs,Paired.mapP r fun p q z=>⟨z.1,ht _ _ z.2.1,z.2.2⟩,ob,es,ep,k _ _ (.inl rfl) e,c⟩
 | set S n=>obtain ⟨ob,es,ep,t,e,c⟩:=x;exact ⟨ob,es,ep,t,k _ _ (.inl rfl) e,c⟩
 | ins C dx fs=>
  obtain ⟨d,z,ne,e,mA,⟨od,es,ep,e2,c⟩,r⟩:=x
  exact ⟨ho _ d,z,ne,k _ _ (.inl rfl) e,mA,⟨od,es,ep,k _ _ (.inr d) e2,c⟩,r⟩
 | own y=>obtain ⟨ob,e⟩:=x;exact ⟨ob,k _ _ (.inl rfl) e⟩
 | xd fs=>obtain ⟨mA,⟨od,es,ep,e,c⟩,r⟩:=x;exact ⟨mA,⟨od,es,ep,k _ _ (.inl rfl) e,c⟩,r⟩
 | rng lo hi=>obtain ⟨t,u,v,e⟩:=x;exact ⟨t,u,v,k _ _ (.inl rfl) e⟩
 | frz ob u ih=>obtain ⟨e,q⟩:=x;exact ⟨k _ _ (.inl rfl) e,ih q⟩
 | tbl ps=>
  have e:h.get? a=some { cls:=.none,data:=.fields ps }:=x
  show h'.get? a=some { cls:=.none,data:=.fields ps }
  exact k a _ (.inl rfl) e
 | met f y=>
  have e:h.get? a=some (PySem.W.methodObj (.ref f) (.ref y)):=x
  show h'.get? a=some (PySem.W.methodObj (.ref f) (.ref y))
  exact k a _ (.inl rfl) e
 | ext φ=>obtain ⟨p,⟨o,e⟩,st⟩:=x;exact ⟨st _ _ p fun o q=>k _ _ (.inl rfl) q,⟨o,k _ _ (.inl rfl) e⟩,st⟩
theorem HOk.lt (x:HOk P w H h)(e:H a=some o):a<h.objs.size:=(x a o e).lt
theorem HOk.fresh (x:HOk P w H h)(e:h.objs.size≤a):H a=none:=by
 cases q:H a with
 | none=>rfl
 | some u=>exact absurd (Nat.lt_of_lt_of_le (x.lt q) e) (Nat.lt_irrefl _)
theorem HOk.kept (x:HOk P w H h)(k:∀ b u,h.get? b=some u→h'.get? b=some u):HOk P w H h':=fun a o e=>
 (x a o e).stay (fun b u _ q=>k b u q) (fun _ q=>q) fun _ _ q=>q
theorem HOk.laid (x:HOk P w H h)(k:∀ b u,h.get? b=some u→h'.get? b=some u)(hp:h.objs.size≤a)(new:jm P w (upd H a o) h' a o):HOk P w (upd H a o) h':=fun b u e=>by
 have hn:=x.fresh hp
 by_cases hb:b=a
 ·subst hb;rw [bw] at e;cases e;exact new
 ·rw [aP hb] at e
  exact (x b u e).stay (fun c v _ q=>k c v q) (fun c q=>by rw [aP (aW q hn)];exact q) fun c xs q=>by rw [aP (aW q hn)];exact q
end
def Rd (H:Hp)(a:Addr)(u:HO):Prop:=H a=some u∨∃ o,H a=some (.frz o u)
theorem Rd.ok {P:Program}{w:World}{H:Hp}{h:Heap}{a:Addr}{u:HO}(r:Rd H a u)(x:HOk P w H h):jm P w H h a u:=by
 rcases r with r | ⟨o,r⟩
 ·exact x a u r
 ·obtain ⟨_,q⟩:=x a _ r
  exact q
def Mut:Option HO→Prop
 | some (.lst _)=>True
 | some (.dK _)=>True
 | some (.dT _)=>True
 | some (.set _ _)=>True
 | some (.ins _ _ _)=>True
 | some (.ext _)=>True
 | _=>False
section
variable {P:Program}{w:World}{H:Hp}{h h':Heap}{x e:Addr}{o':HO}
theorem HOk.write (ok:HOk P w H h)(mu:Mut (H x))(he:e=x∨H e=some (.own x))(k:∀ b u,b≠e→h.get? b=some u→h'.get? b=some u)(heo:∃ u,h'.get? e=some u)
  (new:jm P w (upd H x o') h' x o'):HOk P w (upd H x o') h':=fun b u q=>by
 have nown:∀ c y,H c=some (.own y)→c≠x:=fun c y r z=>by subst z;rw [r] at mu;exact mu
 have ntup:∀ c xs,H c=some (.tup xs)→c≠x:=fun c xs r z=>by subst z;rw [r] at mu;exact mu
 by_cases hb:b=x
 ·subst hb;rw [bw] at q;cases q;exact new
 ·rw [aP hb] at q
  by_cases hbe:b=e
  ·have q':H b=some (.own x):=by
    rcases he with z | z
    ·exact absurd (hbe.trans z) hb
    ·rw [hbe];exact z
   rw [q] at q';cases q'
   obtain ⟨v,hv⟩:=heo
   exact ⟨v,by rw [hbe];exact hv⟩
  ·refine (ok b u q).stay (fun c v hc r=>k c v ?_ r) (fun c r=>by rw [aP (nown c b r)];exact r) fun c xs r=>by rw [aP (ntup c xs r)];exact r
   rcases hc with rfl | hc
   ·exact hbe
   ·rintro rfl
    rcases he with z | z
    ·exact nown c b hc z
    ·rw [hc] at z;cases z;exact hb rfl
end
structure Un (fs ex:List Addr) (H H':Hp) (h h':Heap):Prop where
 keep:∀ b o,h.get? b=some o→H b=none→b∉fs→b∉ex→h'.get? b=some o
 slot:∀ b o,h.get? b=some o→H b=none→b∈fs→b∉ex→∃ sl,h'.get? b=some { o with slots:=sl }
 free:∀ b o,h.get? b=some o→H b=none→b∉ex→H' b=none
 there:∀ b o,h.get? b=some o→b∉ex→∃ o',h'.get? b=some o'
 tups:∀ b xs,H b=some (.tup xs)→H' b=some (.tup xs)
 frzs:∀ b o u,H b=some (.frz o u)→H' b=some (.frz o u)
 tbls:∀ b ps,H b=some (.tbl ps)→∃ more,H' b=some (.tbl (ps++more))
section
variable {fs fs' ex ex':List Addr}{H H1 H2:Hp}{h h1 h2 h':Heap}{a x e:Addr}{o:HO}
theorem Un.any (u:Un fs ex H H1 h h1){b:Addr}{ob:Obj}(q:h.get? b=some ob)(n:H b=none)(hx:b∉ex):∃ sl,h1.get? b=some { ob with slots:=sl }:=by
 by_cases hb:b∈fs
 ·exact u.slot b ob q n hb hx
 ·exact ⟨ob.slots,u.keep b ob q n hb hx⟩
theorem Un.kept (k:∀ b u,h.get? b=some u→h'.get? b=some u):Un fs ex H H h h':=
 ⟨fun b ob q _ _ _=>k b ob q,fun b ob q _ _ _=>⟨ob.slots,k b ob q⟩,fun _ _ _ n _=>n,fun b ob q _=>⟨ob,k b ob q⟩,fun _ _ q=>q,fun _ _ _ q=>q,fun _ ps q=>⟨#[],by rw [q];simp⟩⟩
theorem Un.refl:Un fs ex H H h h:=Un.kept fun _ _ q=>q
theorem Un.laid (k:∀ b u,h.get? b=some u→h'.get? b=some u)(hp:h.objs.size≤a)(hn:H a=none):Un fs ex H (upd H a o) h h' where
 keep:=fun b u q _ _ _=>k b u q
 slot:=fun b u q _ _ _=>⟨u.slots,k b u q⟩
 free:=fun b u q n _=>by rw [aP (Nat.ne_of_lt (Nat.lt_of_lt_of_le (Heap.lt_size q) hp))];exact n
 there:=fun b u q _=>⟨u,k b u q⟩
 tups:=fun b xs q=>by rw [aP (aW q hn)];exact q
 frzs:=fun b u xs q=>by rw [aP (aW q hn)];exact q
 tbls:=fun b ps q=>⟨#[],by rw [aP (aW q hn),q];simp⟩
theorem Un.write (mu:Mut (H x))(he:e=x∨H e=some (.own x))(k:∀ b u,b≠e→h.get? b=some u→h'.get? b=some u)(heo:∃ u,h'.get? e=some u):Un fs ex H (upd H x o) h h':=by
 have hx:∀ b,H b=none→b≠x:=fun b n z=>by subst z;rw [n] at mu;exact mu
 have hb:∀ b,H b=none→b≠e:=fun b n z=>by
  subst z
  rcases he with r | r
  ·exact hx b n r
  ·rw [n] at r;cases r
 have hm:∀ b u,H b=some u→¬ Mut (some u)→b≠x:=fun b u q nm z=>by subst z;rw [q] at mu;exact nm mu
 refine ⟨fun b u q n _ _=>k b u (hb b n) q,fun b u q n _ _=>⟨u.slots,k b u (hb b n) q⟩,fun b u q n _=>by rw [aP (hx b n)];exact n,fun b u q _=>?_,
  fun b xs q=>by rw [aP (hm b _ q fun z=>z)];exact q,fun b u xs q=>by rw [aP (hm b _ q fun z=>z)];exact q,fun b ps q=>⟨#[],by rw [aP (hm b _ q fun z=>z),q];simp⟩⟩
 by_cases hbe:b=e
 ·subst hbe;exact heo
 ·exact ⟨u,k b u hbe q⟩
end
def trk (h:Heap)(H:Hp):List Addr:=(List.range h.objs.size).filter fun a=>(H a).isSome
def hidT (h:Heap)(H:Hp):Heap:=PySem.W.hideAll h (trk h H)
theorem hidT_size (h:Heap)(H:Hp):(hidT h H).objs.size=h.objs.size:=PySem.W.hideAll_size _ _
theorem hidT_get {h:Heap}{H:Hp}{b:Addr}{o:Obj}(e:h.get? b=some o)(n:H b=none):(hidT h H).get? b=some o:=
 PySem.W.hideAll_get _ e fun hm=>by
  have q:(H b).isSome=true:=(List.mem_filter.mp hm).2
  rw [n] at q;simp at q
theorem of_hidT {h:Heap}{H:Hp}{b:Addr}{o:Obj}(e:(hidT h H).get? b=some o):h.get? b=some o∧H b=none:=by
 have e':h.get? b=some o:=PySem.W.of_hideAll (trk h H) e
 refine ⟨e',?_⟩
 cases q:H b with
 | none=>rfl
 | some x=>
  have hm:b∈trk h H:=List.mem_filter.mpr ⟨List.mem_range.mpr (Heap.lt_size e'),by simp [q]⟩
  have z:(hidT h H).get? b=none:=PySem.W.hideAll_none (trk h H) hm
  rw [z] at e;cases e
def allNews (g h:Heap)(L:Addr):List (Addr×Obj):=(List.range h.objs.size).filterMap fun a=>if a=L∨(g.get? a).isSome=true then none else (h.get? a).map fun o=>(a,o)
def rest (g h:Heap)(L d:Addr):List (Addr×Obj):=(allNews g h L).filter fun p=>decide (p.1≠d)
end L2
namespace L2
open PySem PySem.Spec PyProof.Rows
structure Mod (K:PySem.W.Frag) (mg:Str→Option Value) (base:Heap):Prop where
 kin:K.In base
 glob:base.Ns mainGlobals mg
 blt:∃ mb,base.Ns builtinsNs mb∧∀ x:Str,x ≠ "__name__"→mb x=bootBuiltins x
 nolimit:base.NoLimit
structure Cx where
 prog:Program
 w:World
 K:PySem.W.Frag
 mg:Str→Option Value
 base:Heap
 A:Around
 N:List Str
 s₀ : Shared
 H₀ : Hp
 env:Env
 outer:List Env
 stack:List Env
 ex:List Addr
 fn:Str→Bool
 calm:Bool
 pn:List (Addr×Obj)
 xe:Value→Shared→Prop
def frs (l:List Env):List Addr:=l.filterMap (·.frame)
abbrev Cx.fs (X:Cx):List Addr:=frs X.outer
def Vis (sc:Scope)(x:Str):Prop:=sc.names.lookup x=some .local∨sc.names.lookup x=some .cell∨sc.names.lookup x=some .free
def Loc (sc:Scope)(x:Str):Prop:=sc.names.lookup x=some .local∨sc.names.lookup x=some .cell
def Look (env:Env)(h:Heap)(m:Str→Option Value)(x:Str)(u:Value):Prop:=
 (env.kindOf x=some .local∧m x=some u)∨((env.kindOf x=some .cell∨env.kindOf x=some .free)∧∃ c,env.cells.lookup x=some c∧h.IsCell c (some u))
def Still (H:Hp)(v:Value):Prop:=∃ (a:Addr) (o:Obj) (u:HO) (vs:Array Value),v=.ref a∧H a=some (.frz o u)∧o.data=.fields vs∧vs[2]?=some .none
def Quiet (A:Around)(H:Hp):Prop:=∀ v,A.handled=some v→Still H v
structure Cx.Ok (X:Cx):Prop where
 mod:Mod X.K X.mg X.base
 kind:X.env.scope.kind=.function
 glob:X.env.globals=mainGlobals
 blt:X.env.builtins=builtinsNs
 above:X.s₀.heap.objs.size≤X.env.locals
 inj:∀ x y c,X.env.cells.lookup x=some c→X.env.cells.lookup y=some c→x=y
 has:∀ x,(X.env.kindOf x=some .cell∨X.env.kindOf x=some .free)→∃ c,X.env.cells.lookup x=some c
 cab:∀ x c,X.fn x=true→X.env.cells.lookup x=some c→X.s₀.heap.objs.size≤c
 hd:X.calm=true→X.A.handled=none
 qt:Quiet X.A X.H₀
 frames:X.A.frames=some X.stack
 stk:X.stack=X.outer∨(X.stack=X.env::X.outer∧X.env.frame=some X.env.locals)
 exf:∀ b∈X.ex,b≠X.env.locals∧∀ x c,X.env.cells.lookup x=some c→c≠b
 bs:∀ b o,X.base.get? b=some o→X.s₀.heap.get? b=some o∧X.H₀ b=none
 bsz:X.base.objs.size≤X.s₀.heap.objs.size
 noex:∀ b o,X.base.get? b=some o→b∉X.ex
 exfs:∀ b∈X.ex,b∉X.fs
 funs:X.s₀.heap.FunFrames X.base X.outer
 frf:∀ b∈X.fs,X.H₀ b=none
structure Inv (X:Cx) (pins:List (Addr×Obj)) (σ : List (Option V)) (H:Hp) (s:Shared):Prop where
 ok:X.Ok
 os:s.os=X.s₀.os
 bare:AllBare s.gens
 base:Un X.fs X.ex X.H₀ H X.s₀.heap s.heap
 loc:∃ m,s.heap.Ns X.env.locals m∧∀ (i:Nat) (x:Str) (v:V),X.N[i]?=some x→σ[i]?=some (some v)→Vis X.env.scope x→∃ u,RelV v u∧Look X.env s.heap m x u
 cell:∀ x c,X.env.cells.lookup x=some c→∃ v,s.heap.IsCell c v
 free:H X.env.locals=none
 freeC:∀ x c,X.env.cells.lookup x=some c→H c=none
 pin:∀ p∈X.pn++pins,s.heap.get? p.1=some p.2∧H p.1=none∧p.1≠X.env.locals∧p.1∉X.fs∧∀ v,p.2.data≠.cell v
 hok:HOk X.prog X.w H s.heap
 len:σ.length=X.N.length
section
variable {X:Cx}{pins:List (Addr×Obj)}{σ : List (Option V)}{H H':Hp}{s:Shared}{h':Heap}
theorem Cx.Ok.nofr (ok:X.Ok){b:Addr}{o:Obj}(e:X.base.get? b=some o):b∉X.fs:=fun hb=>by
 have:=(ok.funs.mem hb).1
 rw [e] at this;cases this
theorem Inv.bs (I:Inv X pins σ H s):∀ b o,X.base.get? b=some o→s.heap.get? b=some o∧H b=none:=fun b o e=>
 ⟨I.base.keep b o (I.ok.bs b o e).1 (I.ok.bs b o e).2 (I.ok.nofr e) (I.ok.noex b o e),I.base.free b o (I.ok.bs b o e).1 (I.ok.bs b o e).2 (I.ok.noex b o e)⟩
theorem Inv.qt0 (I:Inv X pins σ H s):Quiet X.A H:=fun v e=>let ⟨a,o,u,vs,h1,h2,h3⟩:=I.ok.qt v e;⟨a,o,u,vs,h1,I.base.frzs a o u h2,h3⟩
theorem Inv.bk (I:Inv X pins σ H s):∀ b o,X.base.get? b=some o→s.heap.get? b=some o:=fun b o e=>(I.bs b o e).1
theorem Inv.mod (I:Inv X pins σ H s):Mod X.K X.mg X.base:=I.ok.mod
theorem Inv.kIn (I:Inv X pins σ H s):X.K.In s.heap:=I.ok.mod.kin.keeps I.bk
theorem Inv.lt (I:Inv X pins σ H s):X.env.locals<s.heap.objs.size:=let ⟨_,hn,_⟩:=I.loc;hn.lt
theorem Inv.sz (I:Inv X pins σ H s):X.s₀.heap.objs.size≤s.heap.objs.size:=Nat.le_trans I.ok.above (Nat.le_of_lt I.lt)
theorem Inv.nofs (I:Inv X pins σ H s){a:Addr}(h:s.heap.objs.size≤a):a∉X.fs:=fun hb=>by
 obtain ⟨_,o,ho,_⟩:=I.ok.funs.mem hb
 exact absurd (Nat.lt_of_lt_of_le (Heap.lt_size ho) (Nat.le_trans I.sz h)) (Nat.lt_irrefl _)
theorem Inv.cne (I:Inv X pins σ H s):∀ x c,X.env.cells.lookup x=some c→c≠X.env.locals:=fun x c e z=>by
 obtain ⟨v,o,ho,hd⟩:=I.cell x c e
 obtain ⟨m,⟨o',es,ep,ho',hd',_⟩,_⟩:=I.loc
 rw [z,ho'] at ho;cases ho;rw [hd'] at hd;cases hd
theorem Inv.funs (I:Inv X pins σ H s):s.heap.FunFrames X.base X.outer:=by
 have all:∀ (l:List Env),(∀ b∈frs l,b∈X.fs)→X.s₀.heap.FunFrames X.base l→s.heap.FunFrames X.base l:=by
  intro l
  induction l with
  | nil=>intro _ _;trivial
  | cons env r ih=>
   intro hs hl
   obtain ⟨hk,⟨L,o,hf,hn,ho,hd⟩,hr⟩:=hl
   have hL:L∈X.fs:=hs L (by unfold frs;rw [List.filterMap_cons,hf];exact List.mem_cons_self)
   obtain ⟨sl,e⟩:=I.base.slot L o ho (I.ok.frf L hL) hL fun z=>I.ok.exfs L z hL
   exact ⟨hk,⟨L,_,hf,hn,e,hd⟩,ih (fun b hb=>hs b (by unfold frs;rw [List.filterMap_cons,hf];exact List.mem_cons_of_mem _ hb)) hr⟩
 exact all X.outer (fun _ hb=>hb) I.ok.funs
theorem Inv.stack (I:Inv X pins σ H s):s.heap.FunFrames X.base X.stack:=by
 rcases I.ok.stk with e | ⟨e,hf⟩
 ·rw [e];exact I.funs
 ·rw [e]
  obtain ⟨m,hn,_⟩:=I.loc
  refine .cons (by rw [I.ok.kind];decide) hf hn ?_ I.funs
  exact Heap.get?_none_of_le (Nat.le_trans I.ok.bsz I.ok.above)
theorem Inv.stkSub (I:Inv X pins σ H s):∀ b∈frs X.stack,b∈X.env.locals::X.fs:=fun b hb=>by
 rcases I.ok.stk with e | ⟨e,hf⟩
 ·rw [e] at hb;exact List.mem_cons_of_mem _ hb
 ·rw [e] at hb
  unfold frs at hb
  rw [List.filterMap_cons,hf] at hb
  exact hb
theorem Inv.stkFree (I:Inv X pins σ H s):∀ b∈frs X.stack,H b=none:=fun b hb=>by
 rcases List.mem_cons.mp (I.stkSub b hb) with e | hb
 ·rw [e];exact I.free
 ·obtain ⟨_,o,ho,_⟩:=I.ok.funs.mem hb
  exact I.base.free b o ho (I.ok.frf b hb) fun z=>I.ok.exfs b z hb
theorem Inv.stepG {g':Array GenState}{t':Nat}{d':Drawn}{ch:List Addr}(I:Inv X pins σ H s)
  (hch:∀ b∈ch,(b∈X.ex∨X.s₀.heap.get? b=none)∧b≠X.env.locals∧(∀ x c,X.env.cells.lookup x=some c→c≠b)∧∀ p∈X.pn++pins,p.1≠b)
  (keep:∀ b o,b≠X.env.locals→b∉X.fs→b∉ch→s.heap.get? b=some o→H b=none→h'.get? b=some o)
  (slot:∀ b o,b≠X.env.locals→b∈X.fs→b∉ch→s.heap.get? b=some o→H b=none→∃ sl,h'.get? b=some { o with slots:=sl }) (free:∀ b o,b∉ch→s.heap.get? b=some o→H b=none→H' b=none)
  (there:∀ b o,b∉ch→s.heap.get? b=some o→∃ o',h'.get? b=some o')
  (tups:∀ b xs,H b=some (.tup xs)→H' b=some (.tup xs)) (frzs:∀ b o u,H b=some (.frz o u)→H' b=some (.frz o u)) (tbls:∀ b ps,H b=some (.tbl ps)→∃ more,H' b=some (.tbl (ps++more)))
  (ns:∀ m,s.heap.Ns X.env.locals m→h'.Ns X.env.locals m) (hok:HOk X.prog X.w H' h') (hg:AllBare g') :
  Inv X pins σ H' { s with heap:=h',gens:=g',drawn:=d',toks:=t' }:=by
 have neL:∀ b o,X.s₀.heap.get? b=some o→b≠X.env.locals:=fun b o e=>Nat.ne_of_lt (Nat.lt_of_lt_of_le (Heap.lt_size e) I.ok.above)
 have neC:∀ b o,X.s₀.heap.get? b=some o→b∉X.ex→b∉ch:=fun b o e hx hb=>by
  rcases (hch b hb).1 with z | z
  ·exact hx z
  ·rw [z] at e;cases e
 have cellK:∀ x c,X.env.cells.lookup x=some c→∀ v,s.heap.IsCell c v→h'.IsCell c v:=fun x c e v ⟨o,ho,hd⟩=>by
  have nch:c∉ch:=fun z=>(hch c z).2.2.1 x c e rfl
  by_cases hc:c∈X.fs
  ·obtain ⟨sl,q⟩:=slot c o (I.cne x c e) hc nch ho (I.freeC x c e)
   exact ⟨_,q,hd⟩
  ·exact ⟨o,keep c o (I.cne x c e) hc nch ho (I.freeC x c e),hd⟩
 refine ⟨I.ok,I.os,hg,⟨fun b o e n hb hx=>?_,fun b o e n hb hx=>?_,fun b o e n hx=>?_,fun b o e hx=>?_,fun b xs e=>tups b xs (I.base.tups b xs e),fun b o xs e=>frzs b o xs (I.base.frzs b o xs e),fun b ps e=>?_⟩,?_,fun x c e=>?_,?_,fun x c e=>?_,fun p hp=>?_,hok,I.len⟩
 ·exact keep b o (neL b o e) hb (neC b o e hx) (I.base.keep b o e n hb hx) (I.base.free b o e n hx)
 ·obtain ⟨sl,e1⟩:=I.base.slot b o e n hb hx
  obtain ⟨sl',e2⟩:=slot b _ (neL b o e) hb (neC b o e hx) e1 (I.base.free b o e n hx)
  exact ⟨sl',e2⟩
 ·obtain ⟨o',e1⟩:=I.base.there b o e hx
  exact free b o' (neC b o e hx) e1 (I.base.free b o e n hx)
 ·obtain ⟨o',e1⟩:=I.base.there b o e hx
  exact there b o' (neC b o e hx) e1
 ·obtain ⟨m1,e1⟩:=I.base.tbls b ps e
  obtain ⟨m2,e2⟩:=tbls b _ e1
  exact ⟨m1++m2,by rw [e2,Array.append_assoc]⟩
 ·obtain ⟨m,hn,hl⟩:=I.loc
  refine ⟨m,ns m hn,fun i x v e1 e2 e3=>?_⟩
  obtain ⟨u,r,l⟩:=hl i x v e1 e2 e3
  refine ⟨u,r,?_⟩
  rcases l with l | ⟨k,c,e,z⟩
  ·exact .inl l
  ·exact .inr ⟨k,c,e,cellK x c e _ z⟩
 ·obtain ⟨v,z⟩:=I.cell x c e
  exact ⟨v,cellK x c e v z⟩
 ·obtain ⟨m,⟨o,_,_,ho,_⟩,_⟩:=I.loc
  exact free _ o (fun z=>(hch _ z).2.1 rfl) ho I.free
 ·obtain ⟨v,o,ho,hd⟩:=I.cell x c e
  exact free c o (fun z=>(hch c z).2.2.1 x c e rfl) ho (I.freeC x c e)
 ·obtain ⟨e,n,ne,nf,d⟩:=I.pin p hp
  have nch:p.1∉ch:=fun z=>(hch p.1 z).2.2.2 p hp rfl
  exact ⟨keep p.1 p.2 ne nf nch e n,free p.1 p.2 nch e n,ne,nf,d⟩
theorem Inv.step {g':Array GenState}{t':Nat}{d':Drawn}{ch:List Addr}(I:Inv X pins σ H s)
  (hch:∀ b∈ch,(b∈X.ex∨X.s₀.heap.objs.size≤b)∧b≠X.env.locals∧(∀ x c,X.env.cells.lookup x=some c→c≠b)∧∀ p∈X.pn++pins,p.1≠b)
  (keep:∀ b o,b≠X.env.locals→b∉X.fs→b∉ch→s.heap.get? b=some o→H b=none→h'.get? b=some o)
  (slot:∀ b o,b≠X.env.locals→b∈X.fs→b∉ch→s.heap.get? b=some o→H b=none→∃ sl,h'.get? b=some { o with slots:=sl }) (free:∀ b o,b∉ch→s.heap.get? b=some o→H b=none→H' b=none)
  (there:∀ b o,b∉ch→s.heap.get? b=some o→∃ o',h'.get? b=some o')
  (tups:∀ b xs,H b=some (.tup xs)→H' b=some (.tup xs)) (frzs:∀ b o u,H b=some (.frz o u)→H' b=some (.frz o u)) (tbls:∀ b ps,H b=some (.tbl ps)→∃ more,H' b=some (.tbl (ps++more)))
  (ns:∀ m,s.heap.Ns X.env.locals m→h'.Ns X.env.locals m) (hok:HOk X.prog X.w H' h') (hg:AllBare g') :
  Inv X pins σ H' { s with heap:=h',gens:=g',drawn:=d',toks:=t' }:=
 I.stepG (ch:=ch) (fun b z=>⟨(hch b z).1.imp id fun q=>Heap.get?_none_of_le q,(hch b z).2⟩) keep slot free there tups frzs tbls ns hok hg
theorem Inv.un {t':Nat}(I:Inv X pins σ H s)(u:Un X.fs [] H H' s.heap h')(hok:HOk X.prog X.w H' h'):Inv X pins σ H' { s with heap:=h',toks:=t' }:=by
 obtain ⟨m,⟨o,es,ep,ho,r⟩,_⟩:=id I.loc
 obtain ⟨sl,hL⟩:=u.any ho I.free (by simp)
 exact I.step (g':=s.gens) (d':=s.drawn) (ch:=[]) (fun _ z=>nomatch z) (fun b o _ hb _ e n=>u.keep b o e n hb (by simp)) (fun b o _ hb _ e n=>u.slot b o e n hb (by simp)) (fun b o _ e n=>u.free b o e n (by simp)) (fun b o _ e=>u.there b o e (by simp)) u.tups u.frzs u.tbls (fun m' hm=>by
  obtain ⟨o',es',ep',ho',r'⟩:=hm
  rw [ho] at ho';cases ho'
  exact ⟨_,es',ep',hL,r'⟩) hok I.bare
theorem Inv.call {g':Array GenState}{t':Nat}{d':Drawn}{ch:List Addr}(I:Inv X pins σ H s)(u:Un (frs X.stack) ch H H' s.heap h')(hok:HOk X.prog X.w H' h')(hg:AllBare g')
  (hch:∀ b∈ch,(b∈X.ex∨X.s₀.heap.objs.size≤b)∧b≠X.env.locals∧(∀ x c,X.env.cells.lookup x=some c→c≠b)∧∀ p∈X.pn++pins,p.1≠b) :
  Inv X pins σ H' { s with heap:=h',gens:=g',drawn:=d',toks:=t' }:=by
 obtain ⟨m,⟨o,es,ep,ho,r⟩,_⟩:=id I.loc
 obtain ⟨sl,hL⟩:=u.any ho I.free fun z=>(hch _ z).2.1 rfl
 exact I.step (ch:=ch) hch (fun b o hL hb hc e n=>u.keep b o e n (fun z=>(List.mem_cons.mp (I.stkSub b z)).elim hL hb) hc) (fun b o _ _ hc e n=>u.any e n hc) (fun b o hc e n=>u.free b o e n hc) (fun b o hc e=>u.there b o e hc) u.tups u.frzs u.tbls (fun m' hm=>by
  obtain ⟨o',es',ep',ho',r'⟩:=hm
  rw [ho] at ho';cases ho'
  exact ⟨_,es',ep',hL,r'⟩) hok hg
theorem Inv.turned {t':Nat}{it:Addr}(I:Inv X pins σ H s)(k:∀ b o,b≠it→s.heap.get? b=some o→h'.get? b=some o)(hn:H it=none)(hL:it≠X.env.locals)
  (h1:it∈X.ex∨X.s₀.heap.objs.size≤it) (h2:∀ x c,X.env.cells.lookup x=some c→c≠it) (h3:∀ p∈X.pn++pins,p.1≠it):Inv X pins σ H { s with heap:=h',toks:=t' }:=by
 have nit:∀ b u,H b=some u→b≠it:=fun b u e z=>by rw [z,hn] at e;cases e
 refine I.step (g':=s.gens) (d':=s.drawn) (ch:=[it]) (fun b hb=>?_) (fun b o _ _ hc e _=>k b o (fun z=>hc (by simp [z])) e) (fun b o _ _ hc e _=>⟨o.slots,k b o (fun z=>hc (by simp [z])) e⟩) (fun _ _ _ _ n=>n)
  (fun b o hc e=>⟨o,k b o (fun z=>hc (by simp [z])) e⟩) (fun _ _ e=>e) (fun _ _ _ e=>e) (fun b ps e=>⟨#[],by rw [e];simp⟩) (fun m hm=>?_) (fun b u e=>?_) I.bare
 ·have e:b=it:=by simpa using hb
  subst e
  exact ⟨h1,hL,h2,h3⟩
 ·obtain ⟨o,es,ep,ho,r⟩:=hm
  exact ⟨o,es,ep,k _ o (Ne.symm hL) ho,r⟩
 ·refine (I.hok b u e).stay (fun c v hc q=>k c v ?_ q) (fun _ q=>q) fun _ _ q=>q
  rcases hc with z | z
  ·rw [z];exact nit b u e
  ·exact nit c _ z
theorem Inv.tok (I:Inv X pins σ H s)(t:Nat):Inv X pins σ H { s with toks:=t }:=I.un (h':=s.heap) (t':=t) Un.refl I.hok
theorem Inv.kept {t':Nat}(I:Inv X pins σ H s)(k:∀ b u,s.heap.get? b=some u→h'.get? b=some u):Inv X pins σ H { s with heap:=h',toks:=t' }:=I.un (Un.kept k) (I.hok.kept k)
theorem Inv.laid {a:Addr}{o:HO}{t':Nat}(I:Inv X pins σ H s)(k:∀ b u,s.heap.get? b=some u→h'.get? b=some u)(hp:s.heap.objs.size≤a)(new:jm X.prog X.w (upd H a o) h' a o) :
  Inv X pins σ (upd H a o) { s with heap:=h',toks:=t' }:=I.un (Un.laid k hp (I.hok.fresh hp)) (I.hok.laid k hp new)
theorem Inv.write {x e:Addr}{o:HO}{t':Nat}(I:Inv X pins σ H s)(mu:Mut (H x))(he:e=x∨H e=some (.own x))(k:∀ b u,b≠e→s.heap.get? b=some u→h'.get? b=some u)(heo:∃ u,h'.get? e=some u)
  (new:jm X.prog X.w (upd H x o) h' x o):Inv X pins σ (upd H x o) { s with heap:=h',toks:=t' }:=I.un (Un.write mu he k heo) (I.hok.write mu he k heo new)
theorem Inv.weak {σ':List (Option V)}(I:Inv X pins σ H s)(hl:σ'.length = σ.length)(w:∀ (i:Nat) v,σ'[i]?=some (some v)→σ[i]?=some (some v)):Inv X pins σ' H s:=
 ⟨I.ok,I.os,I.bare,I.base,let ⟨m,hn,hl'⟩:=I.loc;⟨m,hn,fun i x v e1 e2 e3=>hl' i x v e1 (w i v e2) e3⟩,I.cell,I.free,I.freeC,I.pin,I.hok,hl.trans I.len⟩
theorem Inv.pins_of {pins':List (Addr×Obj)}(I:Inv X pins σ H s)(h:∀ p∈pins',s.heap.get? p.1=some p.2∧H p.1=none∧p.1≠X.env.locals∧p.1∉X.fs∧∀ v,p.2.data≠.cell v):Inv X pins' σ H s:=
 ⟨I.ok,I.os,I.bare,I.base,I.loc,I.cell,I.free,I.freeC,fun p hp=>(List.mem_append.mp hp).elim (fun z=>I.pin p (List.mem_append_left _ z)) (h p),I.hok,I.len⟩
theorem nodup_ix {N:List Str}(hN:N.Nodup){i j:Nat}{x:Str}(a:N[i]?=some x)(b:N[j]?=some x):i=j:=by
 obtain ⟨h1,e1⟩:=List.getElem?_eq_some_iff.mp a
 obtain ⟨h2,e2⟩:=List.getElem?_eq_some_iff.mp b
 exact (List.getElem_inj hN).mp (e1.trans e2.symm)
theorem v8 {M:Model}{A:Around}{E:Value→Shared→Prop}{i:Nat}{x:Str}{v:V}{u:Value}{Q:Unit→Shared→Prop}(I:Inv X pins σ H s)(hN:X.N.Nodup)(hi:X.N[i]?=some x)(hx:Loc X.env.scope x)(r:RelV v u)
  (h:∀ s',Inv X pins (σ.set i (some v)) H s'→(∃ a,Heap.SameBut a s.heap s'.heap∧(a=X.env.locals∨X.env.cells.lookup x=some a))→Q () s') (hf:X.fn x=true∨X.env.scope.names.lookup x=some .local:=by first | exact .inl rfl | exact .inr rfl | assumption):wpAny M A (storeName X.env x u) Q E s:=by
 obtain ⟨m,hn,hl⟩:=id I.loc
 have hcls:(X.env.scope.kind==.class||(X.env.scope.kind==.module&&X.env.locals != X.env.globals))=false:=by rw [I.ok.kind];rfl
 have hiσ : i < σ.length:=by rw [I.len];exact (List.getElem?_eq_some_iff.mp hi).1
 have cne:=I.cne
 have tracked:∀ {a:Addr} {h':Heap},(∃ o,s.heap.get? a=some o∧H a=none)→Heap.SameBut a s.heap h'→HOk X.prog X.w H h':=fun {a h'} ha hs b ob e=>by
  obtain ⟨_,_,hfree⟩:=ha
  refine (I.hok b ob e).stay (fun c w' hc q=>(hs.2 c ?_).trans q) (fun _ q=>q) fun _ _ q=>q
  rintro rfl
  rcases hc with rfl | hc
  ·rw [hfree] at e;cases e
  ·rw [hfree] at hc;cases hc
 rcases hx with hk | hk
 ·refine wpAny_storeName_local hk hn (fun h' hn' hs=>?_) hcls
  obtain ⟨oL,_,_,hoL,_⟩:=id hn
  refine h _ ⟨I.ok,I.os,I.bare,⟨fun b o e n hb hx=>?_,fun b o e n hb hx=>?_,I.base.free,fun b o e hx=>?_,I.base.tups,I.base.frzs,I.base.tbls⟩,⟨_,hn',fun j y v' e1 e2 e3=>?_⟩,fun y c e=>?_,I.free,I.freeC,fun p hp=>?_,tracked ⟨oL,hoL,I.free⟩ hs,by simpa using I.len⟩ ⟨_,hs,.inl rfl⟩
  ·exact (hs.2 b (Nat.ne_of_lt (Nat.lt_of_lt_of_le (Heap.lt_size e) I.ok.above))).trans (I.base.keep b o e n hb hx)
  ·obtain ⟨sl,e1⟩:=I.base.slot b o e n hb hx
   exact ⟨sl,(hs.2 b (Nat.ne_of_lt (Nat.lt_of_lt_of_le (Heap.lt_size e) I.ok.above))).trans e1⟩
  ·obtain ⟨o',e1⟩:=I.base.there b o e hx
   exact ⟨o',(hs.2 b (Nat.ne_of_lt (Nat.lt_of_lt_of_le (Heap.lt_size e) I.ok.above))).trans e1⟩
  ·by_cases hj:j=i
   ·subst hj
    rw [hi] at e1;cases e1
    rw [List.getElem?_set_self hiσ] at e2
    cases e2
    exact ⟨u,r,.inl ⟨hk,by simp⟩⟩
   ·rw [List.getElem?_set_ne (Ne.symm hj)] at e2
    obtain ⟨u',r',q⟩:=hl j y v' e1 e2 e3
    refine ⟨u',r',?_⟩
    rcases q with ⟨k,e⟩ | ⟨k,c,e,z⟩
    ·refine .inl ⟨k,?_⟩
     have:y≠x:=fun e=>hj (nodup_ix hN e1 (e ▸ hi))
     simp [this,e]
    ·exact .inr ⟨k,c,e,z.sameBut hs (cne y c e)⟩
  ·obtain ⟨w',z⟩:=I.cell y c e
   exact ⟨w',z.sameBut hs (cne y c e)⟩
  ·obtain ⟨e,n,ne,nf,d⟩:=I.pin p hp
   exact ⟨(hs.2 p.1 ne).trans e,n,ne,nf,d⟩
 ·have hfn:X.fn x=true:=by
   rcases hf with z | z
   ·exact z
   ·rw [z] at hk;cases hk
  obtain ⟨c,hc⟩:=I.ok.has x (.inl hk)
  obtain ⟨w',z⟩:=I.cell x c hc
  refine wpAny_storeName_cell I.ok.kind hk hc z (fun h' hc' hs=>?_)
  obtain ⟨oc,hoc,hocd⟩:=id z
  refine h { s with heap:=h' } ⟨I.ok,I.os,I.bare,⟨fun b o e n hb hx=>?_,fun b o e n hb hx=>?_,I.base.free,fun b o e hx=>?_,I.base.tups,I.base.frzs,I.base.tbls⟩,⟨m,hn.sameBut hs (Ne.symm (cne x c hc)),fun j y v' e1 e2 e3=>?_⟩,fun y c' e=>?_,I.free,I.freeC,fun p hp=>?_,tracked ⟨oc,hoc,I.freeC x c hc⟩ hs,by simpa using I.len⟩ ⟨c,hs,.inr hc⟩
  ·exact (hs.2 b (Nat.ne_of_lt (Nat.lt_of_lt_of_le (Heap.lt_size e) (I.ok.cab x c hfn hc)))).trans (I.base.keep b o e n hb hx)
  ·obtain ⟨sl,e1⟩:=I.base.slot b o e n hb hx
   exact ⟨sl,(hs.2 b (Nat.ne_of_lt (Nat.lt_of_lt_of_le (Heap.lt_size e) (I.ok.cab x c hfn hc)))).trans e1⟩
  ·obtain ⟨o',e1⟩:=I.base.there b o e hx
   exact ⟨o',(hs.2 b (Nat.ne_of_lt (Nat.lt_of_lt_of_le (Heap.lt_size e) (I.ok.cab x c hfn hc)))).trans e1⟩
  ·by_cases hj:j=i
   ·subst hj
    rw [hi] at e1;cases e1
    rw [List.getElem?_set_self hiσ] at e2
    cases e2
    exact ⟨u,r,.inr ⟨.inl hk,c,hc,hc'⟩⟩
   ·rw [List.getElem?_set_ne (Ne.symm hj)] at e2
    obtain ⟨u',r',q⟩:=hl j y v' e1 e2 e3
    refine ⟨u',r',?_⟩
    rcases q with q | ⟨k,c',e,z'⟩
    ·exact .inl q
    ·refine .inr ⟨k,c',e,z'.sameBut hs ?_⟩
     rintro rfl
     exact hj (nodup_ix hN e1 (I.ok.inj _ _ _ e hc ▸ hi))
  ·by_cases hcc:c'=c
   ·subst hcc;exact ⟨_,hc'⟩
   ·obtain ⟨w2,z2⟩:=I.cell y c' e
    exact ⟨w2,z2.sameBut hs hcc⟩
  ·obtain ⟨e,n,ne,nf,d⟩:=I.pin p hp
   refine ⟨(hs.2 p.1 ?_).trans e,n,ne,nf,d⟩
   intro q
   rw [q,hoc] at e
   have q':oc=p.2:=Option.some.inj e
   exact d w' (by rw [←q'];exact hocd)
theorem o9 {M:Model}{A:Around}{E:Value→Shared→Prop}{i:Nat}{x:Str}{v:V}{u:Value}{Q:Unit→Shared→Prop}(I:Inv X pins σ H s)(hN:X.N.Nodup)(hi:X.N[i]?=some x)(hx:Loc X.env.scope x)(r:RelV v u)
  (h:∀ s',Inv X pins (σ.set i (some v)) H s'→Q () s') (hf:X.fn x=true∨X.env.scope.names.lookup x=some .local:=by first | exact .inl rfl | exact .inr rfl | assumption):wpAny M A (storeName X.env x u) Q E s:=
 v8 I hN hi hx r (fun s' I' _=>h s' I') hf
theorem Inv.call' {s':Shared}{ch:List Addr}(I:Inv X pins σ H s)(ho:s'.os=s.os)(u:Un (frs X.stack) ch H H' s.heap s'.heap)(hok:HOk X.prog X.w H' s'.heap)(hg:AllBare s'.gens)
  (hch:∀ b∈ch,(b∈X.ex∨X.s₀.heap.objs.size≤b)∧b≠X.env.locals∧(∀ x c,X.env.cells.lookup x=some c→c≠b)∧∀ p∈X.pn++pins,p.1≠b):Inv X pins σ H' s':=by
 obtain ⟨h',g',d',t',o'⟩:=s'
 have e:o'=s.os:=ho
 subst e
 exact I.call (g':=g') (t':=t') (d':=d') u hok hg hch
end
abbrev XK:=Value→Option Addr→Hp→Prop
abbrev St:=List (Option V)
abbrev VK:=V→Hp→Prop
abbrev TE:=St→Hp→VK→Prop
abbrev TT:=St→Hp→(Bool→Hp→Prop)→Prop
abbrev TA:=St→Hp→(List V→Hp→Prop)→Prop
structure Ends where
 nx:St→Hp→Prop
 rt:VK
 bk:St→Hp→Prop:=fun _ _=>False
 ct:St→Hp→Prop:=fun _ _=>False
abbrev TS:=Ends→St→Hp→Prop
def EP (X:Cx)(pins:List (Addr×Obj))(σ : St)(Q:VK)(u:Value)(s':Shared):Prop:=∃ v H',Inv X pins σ H' s'∧RelV v u∧Q v H'
def TP (X:Cx)(pins:List (Addr×Obj))(σ : St)(Q:Bool→Hp→Prop)(b:Bool)(s':Shared):Prop:=∃ H',Inv X pins σ H' s'∧Q b H'
def AP (X:Cx)(pins:List (Addr×Obj))(σ : St)(Q:List V→Hp→Prop)(us:List Value)(s':Shared):Prop:=∃ vs H',Inv X pins σ H' s'∧Vals vs us∧Q vs H'
def SP (X:Cx)(pins:List (Addr×Obj))(D:Ends)(f:Flow)(s':Shared):Prop:=
 match f with
 | .next=>∃ σ' H',Inv X pins σ' H' s'∧D.nx σ' H'
 | .brk=>∃ σ' H',Inv X pins σ' H' s'∧D.bk σ' H'
 | .cont=>∃ σ' H',Inv X pins σ' H' s'∧D.ct σ' H'
 | .ret u=>∃ v σ' H',Inv X pins σ' H' s'∧RelV v u∧D.rt v H'
def PE (X:Cx)(e:Expr)(t:TE):Prop:=
 ∀ (pins:List (Addr×Obj)) (s:Shared) (σ : St) (H:Hp) (Q:VK),Inv X pins σ H s→t σ H Q→wpAny (model X.prog X.w) X.A (eval e X.env) (EP X pins σ Q) X.xe s
def PT (X:Cx)(e:Expr)(t:TT):Prop:=
 ∀ (pins:List (Addr×Obj)) (s:Shared) (σ : St) (H:Hp) (Q:Bool→Hp→Prop),Inv X pins σ H s→t σ H Q→wpAny (model X.prog X.w) X.A (isTrue e X.env (eval e X.env)) (TP X pins σ Q) X.xe s
def PW (X:Cx)(e:Expr)(t:TT):Prop:=
 ∀ (whole:Sem Value) (pins:List (Addr×Obj)) (s:Shared) (σ : St) (H:Hp) (Q:Bool→Hp→Prop),Inv X pins σ H s→t σ H Q→wpAny (model X.prog X.w) X.A (isTrue e X.env whole) (TP X pins σ Q) X.xe s
theorem PW.pt {X:Cx}{e:Expr}{t:TT}(h:PW X e t):PT X e t:=h _
def PA (X:Cx)(es:List Expr)(t:TA):Prop:=
 ∀ (pos:Pos) (pins:List (Addr×Obj)) (s:Shared) (σ : St) (H:Hp) (Q:List V→Hp→Prop),Inv X pins σ H s→t σ H Q→wpAny (model X.prog X.w) X.A (spliced (backTo pos (starEach es X.env))) (AP X pins σ Q) X.xe s
def PS (X:Cx)(st:Stmt)(t:TS):Prop:=
 ∀ (pins:List (Addr×Obj)) (s:Shared) (σ : St) (H:Hp) (D:Ends),Inv X pins σ H s→t D σ H→wpAny (model X.prog X.w) X.A (exec st X.env) (SP X pins D) X.xe s
def PSs (X:Cx)(st:List Stmt)(t:TS):Prop:=
 ∀ (pins:List (Addr×Obj)) (s:Shared) (σ : St) (H:Hp) (D:Ends),Inv X pins σ H s→t D σ H→wpAny (model X.prog X.w) X.A (execs st X.env) (SP X pins D) X.xe s
theorem thn {α : Type}{t:Sem α}{Q Q':α→Shared→Prop}{M:Model}{A:Around}{E:Value→Shared→Prop}{s:Shared}(h:wpAny M A t Q E s)(hQ:∀ a s,Q a s→Q' a s):wpAny M A t Q' E s:=wpAny_mono h hQ fun _ _ x=>x
end L2
namespace L2
open PySem PySem.Spec PyProof.Rows
section
variable {X:Cx}
def tVar (i:Nat):TE:=fun σ H Q=>∃ v,σ[i]?=some (some v)∧Q v H
def tC (v:V):TE:=fun _ H Q=>Q v H
theorem pe_var {i:Nat}{x:Str}{pos:Pos}(hN:X.N[i]?=some x)(hv:Vis X.env.scope x)(hd:(x==("__debug__" : Str))=false:=by decide)(hcd:(x==("__classdict__" : Str))=false:=by decide):PE X (.Name x pos) (tVar i):=by
 intro pins s σ H Q I h
 obtain ⟨v,e,h⟩:=h
 obtain ⟨m,hn,hl⟩:=I.loc
 obtain ⟨u,r,l⟩:=hl i x v hN e hv
 have fin:EP X pins σ Q u s:=⟨v,H,I,r,h⟩
 rcases l with ⟨hk,hm⟩ | ⟨hk,c,hc,hcell⟩
 ·exact wpAny_Name (wpAny_loadName_local I.ok.kind hk hn hm fin) hd
 ·rcases hk with hk | hk
  ·exact wpAny_Name (wpAny_loadName_cell I.ok.kind hk hc hcell fin) hd
  ·exact wpAny_Name (wpAny_loadName_free I.ok.kind hk hc hcell fin hcd) hd
theorem pe_int {i j pos}:PE X (.Constant (.int i) j pos) (tC (.int i)):=fun _ _ _ H _ I h=>wpAny_Constant_int ⟨.int i,H,I.tok _,⟨_,rfl⟩,h⟩
theorem pe_bl {b j pos}:PE X (.Constant (.bool b) j pos) (tC (.bl b)):=fun _ _ _ H _ I h=>Constant_bool ⟨.bl b,H,I,rfl,h⟩
theorem pe_non {j pos}:PE X (.Constant .none j pos) (tC .non):=fun _ _ _ H _ I h=>Constant_none ⟨.non,H,I,rfl,h⟩
theorem pe_str {x j pos}:PE X (.Constant (.str x) j pos) (tC (.str x)):=fun _ _ _ H _ I h=>Calls.Constant_str ⟨.str x,H,I.tok _,⟨_,rfl⟩,h⟩
def Gl (X:Cx)(x:Str):Prop:=X.env.kindOf x=some .globalImplicit
theorem yU {E:Value→Shared→Prop}{pins:List (Addr×Obj)}{s:Shared}{σ : St}{H:Hp}{x:Str}{u:Value}{pos:Pos}{Q:Value→Shared→Prop}(I:Inv X pins σ H s)(hg:Gl X x)(hm:X.mg x=some u)(h:Q u s)
  (hd:(x==("__debug__" : Str))=false:=by decide):wpAny (model X.prog X.w) X.A (eval (.Name x pos) X.env) Q E s:=
 Calls.Name_function_global I.ok.kind hg (Calls.loadGlobal_global (by rw [I.ok.glob];exact I.mod.glob.keeps I.bk) hm h) hd
theorem qZ {E:Value→Shared→Prop}{pins:List (Addr×Obj)}{s:Shared}{σ : St}{H:Hp}{x:Str}{u:Value}{pos:Pos}{Q:Value→Shared→Prop}(I:Inv X pins σ H s)(hg:Gl X x)(hm:X.mg x=none)(hv:bootBuiltins x=some u)(h:Q u s)
  (hn:x ≠ "__name__":=by decide) (hd:(x==("__debug__" : Str))=false:=by decide):wpAny (model X.prog X.w) X.A (eval (.Name x pos) X.env) Q E s:=by
 obtain ⟨mb,h1,h2⟩:=I.mod.blt
 exact Calls.Name_function_global I.ok.kind hg (Calls.loadGlobal_builtin (by rw [I.ok.glob];exact I.mod.glob.keeps I.bk) hm (by rw [I.ok.blt];exact h1.keeps I.bk) ((h2 x hn).trans hv) h) hd
theorem pe_glob {x:Str}{v:V}{u:Value}{pos:Pos}(hg:Gl X x)(hm:X.mg x=some u)(r:RelV v u)(hd:(x==("__debug__" : Str))=false:=by decide):PE X (.Name x pos) (tC v):=
 fun _ _ _ H _ I h=>yU I hg hm ⟨v,H,I,r,h⟩ hd
theorem ju {x:Str}{v:V}{u:Value}{pos:Pos}(hg:Gl X x)(hm:X.mg x=none)(hv:bootBuiltins x=some u)(r:RelV v u)(hn:x ≠ "__name__":=by decide)(hd:(x==("__debug__" : Str))=false:=by decide):PE X (.Name x pos) (tC v):=
 fun _ _ _ H _ I h=>qZ I hg hm hv ⟨v,H,I,r,h⟩ hn hd
variable {a b:Expr}{ta tb:TE}{pos:Pos}
variable {tA tB':TT}{rest:List Expr}
def tAnd (t u:TT):TT:=fun σ H Q=>t σ H fun c H1=>if c=true then u σ H1 Q else Q false H1
def tOr (t u:TT):TT:=fun σ H Q=>t σ H fun c H1=>if c=true then Q true H1 else u σ H1 Q
def tNot (t:TT):TT:=fun σ H Q=>t σ H fun c H1=>Q (!c) H1
theorem pw_and1 (ha:PT X a tA):PW X (.BoolOp .And [a] pos) tA:=by
 intro wh pins s σ H Q I h
 refine isTrue_and (thn (ha pins s σ H Q I h) fun c s1 e=>?_)
 cases c with
 | true=>exact isTrue_and_nil e
 | false=>exact e
theorem pw_or1 (ha:PT X a tA):PW X (.BoolOp .Or [a] pos) tA:=by
 intro wh pins s σ H Q I h
 refine isTrue_or (thn (ha pins s σ H Q I h) fun c s1 e=>?_)
 cases c with
 | false=>exact isTrue_or_nil e
 | true=>exact e
theorem pw_and (ha:PT X a tA)(hb:PW X (.BoolOp .And (b::rest) pos) tB'):PW X (.BoolOp .And (a::b::rest) pos) (tAnd tA tB'):=by
 intro wh pins s σ H Q I h
 refine isTrue_and (thn (ha pins s σ H _ I h) fun c s1 ⟨H1,I1,q1⟩=>?_)
 cases c with
 | true=>exact hb wh pins s1 σ H1 Q I1 q1
 | false=>exact ⟨H1,I1,q1⟩
theorem pw_or (ha:PT X a tA)(hb:PW X (.BoolOp .Or (b::rest) pos) tB'):PW X (.BoolOp .Or (a::b::rest) pos) (tOr tA tB'):=by
 intro wh pins s σ H Q I h
 refine isTrue_or (thn (ha pins s σ H _ I h) fun c s1 ⟨H1,I1,q1⟩=>?_)
 cases c with
 | true=>exact ⟨H1,I1,q1⟩
 | false=>exact hb wh pins s1 σ H1 Q I1 q1
theorem pt_not (ha:PT X a tA):PT X (.UnaryOp .Not a pos) (tNot tA):=by
 intro pins s σ H Q I h
 exact isTrue_not (ha pins s σ H (fun c H1=>Q (!c) H1) I h)
def tAndV (ta tb:TE):TE:=fun σ H Q=>ta σ H fun x H1=>∃ c,x=.bl c∧if c=true then tb σ H1 Q else Q (.bl false) H1
def tNotV (ta:TE):TE:=fun σ H Q=>ta σ H fun x H1=>∃ c,x=.bl c∧Q (.bl (!c)) H1
theorem pe_one {op}{t:TE}(h:PE X a t):PE X (.BoolOp op [a] pos) t:=fun pins s σ H Q I hw=>BoolOp_one (h pins s σ H Q I hw)
theorem pe_and (ha:PE X a ta)(hb:PE X (.BoolOp .And (b::rest) pos) tb):PE X (.BoolOp .And (a::b::rest) pos) (tAndV ta tb):=by
 intro pins s σ H Q I h
 refine BoolOp_and (thn (ha pins s σ H _ I h) fun v s1 ⟨x,H1,I1,r1,q1⟩=>?_)
 obtain ⟨c,rfl,q1⟩:=q1
 cases r1
 refine wpAny_truthy_bool ?_
 cases c with
 | true=>exact hb pins s1 σ H1 Q I1 q1
 | false=>exact ⟨.bl false,H1,I1,rfl,q1⟩
theorem pe_not (ha:PE X a ta):PE X (.UnaryOp .Not a pos) (tNotV ta):=by
 intro pins s σ H Q I h
 refine UnaryOp_ (thn (ha pins s σ H _ I h) fun v s1 ⟨x,H1,I1,r1,q1⟩=>?_)
 obtain ⟨c,rfl,q1⟩:=q1
 cases r1
 exact not_of (wpAny_truthy_bool ⟨.bl (!c),H1,I1,rfl,q1⟩)
def tIf (t:TT)(ta tb:TE):TE:=fun σ H Q=>t σ H fun c H1=>if c=true then ta σ H1 Q else tb σ H1 Q
theorem pe_ifExp {c:Expr}(hc:PT X c tA)(ha:PE X a ta)(hb:PE X b tb):PE X (.IfExp c a b pos) (tIf tA ta tb):=by
 intro pins s σ H Q I h
 refine wpAny_IfExp (thn (hc pins s σ H _ I h) fun d s1 ⟨H1,I1,q1⟩=>?_)
 cases d with
 | true=>exact ha pins s1 σ H1 Q I1 q1
 | false=>exact hb pins s1 σ H1 Q I1 q1
end
end L2
namespace L2
open PySem PySem.Spec PyProof.Rows
def SqL (K:PySem.W.Frag)(H:Hp)(a:Addr)(xs:List V):Prop:=
 Rd H a (.lst xs) ∨
  ∃ (o:Obj) (its:Array Value) (n:Nat),K.lookup a=some o∧o.cls=.type "list"∧o.dict=none∧o.data=.seq its n∧its.size≤sizeLine∧Vals xs its.toList
def SqT (K:PySem.W.Frag)(H:Hp)(a:Addr)(xs:List V):Prop:=
 Rd H a (.tup xs) ∨
  ∃ (o:Obj) (its:Array Value) (n:Nat),K.lookup a=some o∧o.cls=.type "tuple"∧o.data=.seq its n∧its.size≤sizeLine∧Vals xs its.toList
def absV:Value→Option V
 | .none=>some .non
 | .bool b=>some (.bl b)
 | .int i _=>some (.int i)
 | .str x _=>some (.str x)
 | .bytes b _=>some (.byt b)
 | .float b _=>some (.flt b)
 | .ref a=>some (.ref a)
 | .type n=>some (.ty n)
 | _=>none
theorem RelV.abs {x:V}{u:Value}(r:RelV x u):absV u=some x:=by
 cases x with
 | non=>cases r;rfl
 | bl _=>cases r;rfl
 | int _=>obtain ⟨t,rfl⟩:=r;rfl
 | str _=>obtain ⟨t,rfl⟩:=r;rfl
 | byt _=>obtain ⟨t,rfl⟩:=r;rfl
 | flt _=>obtain ⟨t,rfl⟩:=r;rfl
 | ref _=>cases r;rfl
 | ty _=>cases r;rfl
theorem RelV.inj {x y:V}{u:Value}(r:RelV x u)(q:RelV y u):x=y:=Option.some.inj (r.abs.symm.trans q.abs)
theorem Vals.inj:∀ {xs ys:List V} {us:List Value},Vals xs us→Vals ys us→xs=ys
 | _,_,_,.nil,.nil=>rfl
 | _,_,_,.cons r t,.cons r' t'=>by rw [r.inj r',Vals.inj t t']
section
variable {X:Cx}{pins:List (Addr×Obj)}{σ : St}{H:Hp}{s:Shared}{a:Addr}{xs ys:List V}
theorem SqL.of {K:PySem.W.Frag}(h:H a=some (.lst xs)):SqL K H a xs:=.inl (.inl h)
theorem SqT.of {K:PySem.W.Frag}(h:H a=some (.tup xs)):SqT K H a xs:=.inl (.inl h)
theorem Inv.list (I:Inv X pins σ H s)(h:SqL X.K H a xs):∃ its:List Value,Vals xs its∧PlainL s.heap a its.toArray∧xs.length≤sizeLine:=by
 rcases h with h | ⟨o,its,n,hk,hc,hd,hs,hz,r⟩
 ·obtain ⟨z,its,n,r,e⟩:=h.ok I.hok
  exact ⟨its,r,⟨_,n,e,rfl,rfl,rfl⟩,z⟩
 ·refine ⟨its.toList,r,⟨o,n,I.kIn a o hk,hc,hd,by simpa using hs⟩,?_⟩
  have e:=r.length
  simp only [Array.length_toList] at e
  omega
theorem Inv.tuple (I:Inv X pins σ H s)(h:SqT X.K H a xs):∃ its:List Value,Vals xs its∧IsTup s.heap a its.toArray∧xs.length≤sizeLine:=by
 rcases h with h | ⟨o,its,n,hk,hc,hs,hz,r⟩
 ·obtain ⟨z,its,r,p⟩:=h.ok I.hok
  exact ⟨its,r,p,z⟩
 ·refine ⟨its.toList,r,⟨o,I.kIn a o hk,hc,n,by simpa using hs⟩,?_⟩
  have e:=r.length
  simp only [Array.length_toList] at e
  omega
theorem Inv.list_inj (I:Inv X pins σ H s)(h:SqL X.K H a xs)(h':SqL X.K H a ys):xs=ys:=by
 obtain ⟨its,r,⟨o,n,e,_,_,d⟩,_⟩:=I.list h
 obtain ⟨its',r',⟨o',n',e',_,_,d'⟩,_⟩:=I.list h'
 rw [e] at e';cases e'
 rw [d] at d'
 injection d' with d1 _
 have:its=its':=by simpa using congrArg Array.toList d1
 subst this
 exact r.inj r'
theorem Inv.tuple_inj (I:Inv X pins σ H s)(h:SqT X.K H a xs)(h':SqT X.K H a ys):xs=ys:=by
 obtain ⟨its,r,⟨o,e,_,n,d⟩,_⟩:=I.tuple h
 obtain ⟨its',r',⟨o',e',_,n',d'⟩,_⟩:=I.tuple h'
 rw [e] at e';cases e'
 rw [d] at d'
 injection d' with d1 _
 have:its=its':=by simpa using congrArg Array.toList d1
 subst this
 exact r.inj r'
end
abbrev Cx.wish (X:Cx)(E:Value→Shared→Prop):Cx:={ X with xe:=E }
abbrev Cx.nox (X:Cx):Cx:=X.wish fun _ _=>False
theorem Cx.Ok.wish {X:Cx}(ok:X.Ok)(E:Value→Shared→Prop):(X.wish E).Ok:=
 ⟨ok.mod,ok.kind,ok.glob,ok.blt,ok.above,ok.inj,ok.has,ok.cab,ok.hd,ok.qt,ok.frames,ok.stk,ok.exf,ok.bs,ok.bsz,ok.noex,ok.exfs,ok.funs,ok.frf⟩
theorem Cx.Ok.unwish {X:Cx}{E:Value→Shared→Prop}(ok:(X.wish E).Ok):X.Ok:=
 ⟨ok.mod,ok.kind,ok.glob,ok.blt,ok.above,ok.inj,ok.has,ok.cab,ok.hd,ok.qt,ok.frames,ok.stk,ok.exf,ok.bs,ok.bsz,ok.noex,ok.exfs,ok.funs,ok.frf⟩
section
variable {X:Cx}{pins:List (Addr×Obj)}{σ : St}{H:Hp}{s:Shared}{E:Value→Shared→Prop}
theorem Inv.wish (I:Inv X pins σ H s)(E:Value→Shared→Prop):Inv (X.wish E) pins σ H s:=⟨I.ok.wish E,I.os,I.bare,I.base,I.loc,I.cell,I.free,I.freeC,I.pin,I.hok,I.len⟩
theorem Inv.unwish (I:Inv (X.wish E) pins σ H s):Inv X pins σ H s:=⟨I.ok.unwish,I.os,I.bare,I.base,I.loc,I.cell,I.free,I.freeC,I.pin,I.hok,I.len⟩
theorem SP.unwish {D:Ends}{f:Flow}{s':Shared}(h:SP (X.wish E) pins D f s'):SP X pins D f s':=by
 cases f with
 | next=>obtain ⟨σ',H',I,q⟩:=h;exact ⟨σ',H',I.unwish,q⟩
 | brk=>obtain ⟨σ',H',I,q⟩:=h;exact ⟨σ',H',I.unwish,q⟩
 | cont=>obtain ⟨σ',H',I,q⟩:=h;exact ⟨σ',H',I.unwish,q⟩
 | ret u=>obtain ⟨v,σ',H',I,r,q⟩:=h;exact ⟨v,σ',H',I.unwish,r,q⟩
theorem PSs.nox {st:List Stmt}{t:TS}(h:PSs X.nox st t):PSs X st t:=fun pins s σ H D I hw=>
 wpAny_mono (h pins s σ H D (I.wish _) hw) (fun _ _ q=>q.unwish) fun _ _ z=>False.elim z
end
section
variable {X:Cx}{st:Stmt}{rest:List Stmt}{t u:TS}{e:Expr}{te:TE}{pos:Pos}
def tNext:TS:=fun D σ H=>D.nx σ H
def tSeq (t u:TS):TS:=fun D σ H=>t { D with nx:=u D } σ H
theorem pss_nil:PSs X [] tNext:=fun _ _ σ H _ I h=>wpAny_execs_nil ⟨σ,H,I,h⟩
theorem pss_cons (h1:PS X st t)(h2:PSs X rest u):PSs X (st::rest) (tSeq t u):=by
 intro pins s σ H D I h
 refine wpAny_execs_cons (thn (h1 pins s σ H { D with nx:=u D } I h) fun f s1 q=>?_)
 cases f with
 | next=>
  obtain ⟨σ',H',I',q⟩:=q
  exact h2 pins s1 σ' H' D I' q
 | ret v=>exact q
 | brk=>exact q
 | cont=>exact q
theorem pss_one (h1:PS X st t):PSs X [st] t:=by
 intro pins s σ H D I h
 refine wpAny_execs_cons (thn (h1 pins s σ H D I h) fun f s1 q=>?_)
 cases f with
 | next=>exact wpAny_execs_nil q
 | ret v=>exact q
 | brk=>exact q
 | cont=>exact q
theorem Inv.quiet {pins:List (Addr×Obj)}{σ : St}{H:Hp}{s:Shared}(I:Inv X pins σ H s):interactive X.env=false:=by simp [interactive,I.ok.kind]
def tDrop (te:TE):TS:=fun D σ H=>te σ H fun _ H1=>D.nx σ H1
theorem ps_expr (he:PE X e te)(hs:swapsWith e none pos.line X.env=pure false:=by rfl):PS X (.Expr e pos) (tDrop te):=by
 intro pins s σ H D I h
 exact wpAny_Expr_any (thn (he pins s σ H _ I h) fun v s1 ⟨x,H1,I1,r1,q1⟩=>⟨σ,H1,I1,q1⟩) I.quiet hs
def tRet (te:TE):TS:=fun D σ H=>te σ H D.rt
theorem ps_ret (he:PE X e te):PS X (.Return (some e) pos) (tRet te):=by
 intro pins s σ H D I h
 exact wpAny_Return_some (thn (he pins s σ H _ I h) fun v s1 ⟨x,H1,I1,r1,q1⟩=>⟨x,σ,H1,I1,r1,q1⟩)
def tIfS (c:TT)(t u:TS):TS:=fun D σ H=>c σ H fun b H1=>if b=true then t D σ H1 else u D σ H1
theorem ps_if {c:Expr}{a b:List Stmt}{tc:TT}(hc:PT X c tc)(ha:PSs X a t)(hb:PSs X b u):PS X (.If c a b pos) (tIfS tc t u):=by
 intro pins s σ H D I h
 refine wpAny_If (thn (hc pins s σ H _ I h) fun d s1 ⟨H1,I1,q1⟩=>?_)
 cases d with
 | true=>exact ha pins s1 σ H1 D I1 q1
 | false=>exact hb pins s1 σ H1 D I1 q1
def tNever:TS:=fun _ _ _=>False
theorem ps_never:PS X st tNever:=fun _ _ _ _ _ _ h=>h.elim
end
abbrev TG:=V→St→Hp→(St→Hp→Prop)→Prop
abbrev TGs:=List V→St→Hp→(St→Hp→Prop)→Prop
def PG (X:Cx)(target:Expr)(t:TG):Prop:=
 ∀ (pins:List (Addr×Obj)) (s:Shared) (σ : St) (H:Hp) (v:V) (u:Value) (Q:St→Hp→Prop),Inv X pins σ H s→RelV v u→t v σ H Q →
  wpAny (model X.prog X.w) X.A (assign target X.env u) (fun _ s'=>∃ σ' H',Inv X pins σ' H' s'∧Q σ' H') X.xe s
def PGs (X:Cx)(ts:List Expr)(t:TGs):Prop:=
 ∀ (pins:List (Addr×Obj)) (s:Shared) (σ : St) (H:Hp) (vs:List V) (us:List Value) (Q:St→Hp→Prop),Inv X pins σ H s→Vals vs us→t vs σ H Q →
  wpAny (model X.prog X.w) X.A (assignInOrder ((assignEach ts X.env).map (·.2)) us) (fun _ s'=>∃ σ' H',Inv X pins σ' H' s'∧Q σ' H') X.xe s
abbrev TSet:=V→V→V→Hp→(Hp→Prop)→Prop
def PSet (X:Cx)(t:TSet):Prop:=
 ∀ (pins:List (Addr×Obj)) (s:Shared) (σ : St) (H:Hp) (o i v:V) (ov iv u:Value) (Q:Hp→Prop),Inv X pins σ H s→RelV o ov→RelV i iv→RelV v u→t o i v H Q →
  wpAny (model X.prog X.w) X.A (setItem ov iv u) (fun _ s'=>∃ H',Inv X pins σ H' s'∧Q H') X.xe s
section
variable {X:Cx}{pos:Pos}
def gName (i:Nat):TG:=fun v σ H Q=>Q (σ.set i (some v)) H
theorem bU {i:Nat}{x:Str}(hN:X.N.Nodup)(hi:X.N[i]?=some x)(hx:Loc X.env.scope x)(hf:X.fn x=true∨X.env.scope.names.lookup x=some .local:=by first | exact .inl rfl | exact .inr rfl | assumption):PG X (.Name x pos) (gName i):=by
 intro pins s σ H v u Q I r h
 exact wpAny_assign_Name (o9 I hN hi hx r (fun s' I'=>⟨_,H,I',h⟩) hf)
def gNil:TGs:=fun vs σ H Q=>vs=[]∧Q σ H
def gCons (t:TG)(u:TGs):TGs:=fun vs σ H Q=>∃ v r,vs=v::r∧t v σ H fun σ' H'=>u r σ' H' Q
theorem pgs_nil:PGs X [] gNil:=by
 intro pins s σ H vs us Q I r h
 obtain ⟨e,h⟩:=h
 subst e
 cases r
 exact assignInOrder_nil ⟨σ,H,I,h⟩
theorem zV {e:Expr}{es:List Expr}{t:TG}{u:TGs}(h1:PG X e t)(h2:PGs X es u)
  (hs:(assignEach (e::es) X.env).map (·.2)=assign e X.env::(assignEach es X.env).map (·.2):=by rfl):PGs X (e::es) (gCons t u):=by
 intro pins s σ H vs us Q I r h
 obtain ⟨v,vr,e1,h⟩:=h
 subst e1
 cases r with
 | cons r rr=>
  rw [hs]
  refine assignInOrder_cons (thn (h1 pins s σ H _ _ _ I r h) fun _ s1 ⟨σ1,H1,I1,q1⟩=>?_)
  exact h2 pins s1 σ1 H1 _ _ Q I1 rr q1
def gTup (K:PySem.W.Frag)(n:Nat)(t:TGs):TG:=fun v σ H Q=>∃ a xs,v=.ref a∧SqT K H a xs∧xs.length=n∧t xs σ H Q
theorem pg_tup {es:List Expr}{k:Nat}{t:TGs}{n:Nat}(hc:X.calm=true)(h:PGs X es t)
  (hn:(assignEach es X.env).length=n:=by rfl) (hst:(assignEach es X.env).findIdx? (·.1)=none:=by rfl):PG X (.Tuple es k pos) (gTup X.K n t):=by
 intro pins s σ H v u Q I r hw
 obtain ⟨a,xs,e1,hq,hl,hw⟩:=hw
 subst e1
 cases r
 obtain ⟨its,rv,ht,hz⟩:=I.tuple hq
 refine assign_Tuple_tuple (I.ok.hd hc) ht (by simp [hn,←hl,rv.length]) hst fun h' hx=>?_
 have I1:Inv X pins σ H { s with heap:=h' }:=I.kept (t':=s.toks) fun b o e=>hx b o (Nat.ne_of_lt (Heap.lt_size e)) e
 exact h pins _ σ H xs _ Q I1 (by simpa using rv) hw
def gSub (to ti:TE)(t:TSet):TG:=fun v σ H Q=>to σ H fun o H1=>ti σ H1 fun i H2=>t o i v H2 fun H3=>Q σ H3
theorem pg_sub {o i:Expr}{to ti:TE}{t:TSet}(ho:PE X o to)(hi:PE X i ti)(hs:PSet X t)
  (ha:∀ v,assign (.Subscript o i pos) X.env v=(do
   let ov ←holding [v] (eval o X.env)
   let iv ←holding [v,ov] (eval i X.env)
   standAt pos
   holding [v,ov,iv] (setItem ov iv v)
   release [v,ov,iv] []):=by intro _;rfl):PG X (.Subscript o i pos) (gSub to ti t):=by
 intro pins s σ H v u Q I r h
 rw [ha]
 refine wpAny_bind (wpAny_holding (thn (ho pins s σ H _ I h) fun ov s1 ⟨x,H1,I1,r1,q1⟩=>?_))
 refine wpAny_bind (wpAny_holding (thn (hi pins s1 σ H1 _ I1 q1) fun iv s2 ⟨y,H2,I2,r2,q2⟩=>?_))
 refine wpAny_bind (wpAny_standAt (wpAny_bind (wpAny_holding (thn (hs pins s2 σ H2 x y v ov iv u _ I2 r1 r2 r q2) fun _ s3 ⟨H3,I3,q3⟩=>?_))))
 exact wpAny_release ⟨σ,H3,I3,q3⟩
def tAsg (te:TE)(g:TG):TS:=fun D σ H=>te σ H fun x H1=>g x σ H1 D.nx
theorem ps_asg {tg e:Expr}{te:TE}{g:TG}(he:PE X e te)(hg:PG X tg g)(hs:swapsWithSole [tg] e pos.line X.env=pure false:=by rfl)(hw:swappedStores [tg] e X.env=pure none:=by rfl)
  (h1:(assignEach [tg] X.env).map (·.2)=[assign tg X.env]:=by rfl):PS X (.Assign [tg] e pos) (tAsg te g):=by
 intro pins s σ H D I h
 refine wpAny_Assign_stores (thn (he pins s σ H _ I h) fun v s1 ⟨x,H1,I1,r1,q1⟩=>?_) hs hw
 rw [h1]
 exact thn (hg pins s1 σ H1 x v _ I1 r1 q1) fun _ s2 q=>q
theorem ps_set {i:Nat}{x:Str}{e:Expr}{te:TE}{pos':Pos}(hN:X.N.Nodup)(hi:X.N[i]?=some x)(hx:Loc X.env.scope x)(he:PE X e te)(hs:swapsWith e (some (.Name x pos')) pos.line X.env=pure false:=by rfl)(hf:X.fn x=true∨X.env.scope.names.lookup x=some .local:=by first | exact .inl rfl | exact .inr rfl | assumption) :
  PS X (.Assign [.Name x pos'] e pos) (tAsg te (gName i)):=by
 intro pins s σ H D I h
 refine wpAny_Assign_Name (thn (he pins s σ H _ I h) fun v s1 ⟨y,H1,I1,r1,q1⟩=>?_) hs
 exact o9 I1 hN hi hx r1 (fun s2 I2=>⟨_,H1,I2,q1⟩) hf
def tPar (i j:Nat)(ta:TA):TS:=fun D σ H=>ta σ H fun vs H1=>∃ v w,vs=[v,w]∧D.nx ((σ.set i (some v)).set j (some w)) H1
theorem ps_par {i j:Nat}{x y:Str}{a b:Expr}{ta:TA}{px py pt:Pos}{kt k2 pt2}(hc:X.calm=true)(hN:X.N.Nodup)(hi:X.N[i]?=some x)(hj:X.N[j]?=some y)(hij:i≠j)
  (hx:X.env.scope.names.lookup x=some .local) (hy:X.env.scope.names.lookup y=some .local) (ha:PA X [a,b] ta)
  (hw:swappedStores [.Tuple [.Name x px,.Name y py] kt pt] (.Tuple [a,b] k2 pt2) X.env=pure (some [x,y]))
  (hs:swapsWithSole [.Tuple [.Name x px,.Name y py] kt pt] (.Tuple [a,b] k2 pt2) pos.line X.env=pure false:=by rfl) :
  PS X (.Assign [.Tuple [.Name x px,.Name y py] kt pt] (.Tuple [a,b] k2 pt2) pos) (tPar i j ta):=by
 intro pins s σ H D I h
 rw [exec_Assign_arm]
 refine wpAny_bind (wpAny_standAt ?_)
 rw [hs]
 refine wpAny_bind (wpAny_pure ?_)
 rw [if_neg (by decide)]
 refine wpAny_bind (Tuple_ (thn (ha _ pins s σ H _ I h) fun us s1 ⟨vs,H1,I1,r1,q1⟩=>?_))
 obtain ⟨v,w,e1,q1⟩:=q1
 subst e1
 obtain ⟨u1,u2,rfl,rv,rw'⟩:∃ u1 u2,us=[u1,u2]∧RelV v u1∧RelV w u2:=by
  cases r1 with
  | cons p q=>
   cases q with
   | cons p' q'=>
    cases q'
    exact ⟨_,_,rfl,p,p'⟩
 refine wpAny_newObj_type ?_ (by show 2≤sizeLine;decide)
 have I2:Inv X pins σ H1 { s1 with heap:=s1.heap.push { cls:=.type "tuple",data:=.seq [u1,u2].toArray } }:=I1.kept (t':=s1.toks) fun b o e=>Heap.get?_push_of_some _ e
 rw [hw]
 refine wpAny_bind (wpAny_pure ?_)
 show wpAny (model X.prog X.w) X.A (do rule "assign.swapped-stores";let items ←unpackItems (.ref s1.heap.objs.size) 2 none;assignInOrder [fun v=>bindName X.env y v,fun v=>bindName X.env x v] items.reverse;pure Flow.next) _ _ _
 refine wpAny_bind (wpAny_rule (wpAny_bind (unpackItems_tuple (items:=#[u1,u2]) (I.ok.hd hc) (IsTup.new s1.heap _) fun h' hx'=>?_)))
 have I3:=I2.kept (h':=h') (t':=s1.toks) fun b o e=>hx' b o (Nat.ne_of_lt (Heap.lt_size e)) e
 show wpAny _ _ (assignInOrder [fun v=>bindName X.env y v,fun v=>bindName X.env x v] [u2,u1] >>= fun _=>pure Flow.next) _ _ _
 refine wpAny_bind (assignInOrder_cons (wpAny_bindName (o9 I3 hN hj (.inl hy) rw' (fun s2 I4=>?_) (.inr hy))))
 refine assignInOrder_cons (wpAny_bindName (o9 I4 hN hi (.inl hx) rv (fun s3 I5=>assignInOrder_nil (wpAny_pure ?_)) (.inr hx)))
 rw [List.set_comm _ _ (Ne.symm hij)] at I5
 exact ⟨_,H1,I5,q1⟩
end
section
variable {X:Cx}{pos:Pos}
def tWhile (c:TT)(tb:TS):TS:=fun D σ H=>∃ W:Nat→St→Hp→Prop,(∃ m,W m σ H)∧∀ m σ H,W m σ H →
 c σ H fun b H1=>if b=true then ∃ N:St→Hp→Prop,(∀ σ' H',N σ' H'→∃ m',m'<m∧W m' σ' H')∧tb { D with nx:=N,ct:=N,bk:=D.nx } σ H1 else D.nx σ H1
theorem ps_while {c:Expr}{body:List Stmt}{tc:TT}{tb:TS}(hp:PassesOwn (model X.prog X.w) X.A X.env X.xe)(hc:PT X c tc)(hb:PSs X body tb):PS X (.While c body [] pos) (tWhile tc tb):=by
 intro pins s σ H D I h
 obtain ⟨W,⟨m0,w0⟩,turn⟩:=h
 refine wpAny_While (codeAny_whileLoop (fun n s'=>∃ σ' H',Inv X pins σ' H' s'∧W n σ' H') ?_ m0 ⟨σ,H,I,w0⟩)
 rintro n s1 ⟨σ1,H1,I1,w1⟩
 refine wpAny_passesOwn hp (thn (hc pins s1 σ1 H1 _ I1 (turn n σ1 H1 w1)) fun b s2 ⟨H2,I2,q2⟩=>?_)
 cases b with
 | true=>
  obtain ⟨N,hN,q2⟩:=q2
  rw [if_pos rfl]
  refine wpAny_passesOwn hp (thn (hb pins s2 σ1 H2 _ I2 q2) fun f s3 q3=>?_)
  cases f with
  | next=>
   obtain ⟨σ3,H3,I3,n3⟩:=q3
   obtain ⟨m',hm,w3⟩:=hN σ3 H3 n3
   exact ⟨m',hm,σ3,H3,I3,w3⟩
  | cont=>
   obtain ⟨σ3,H3,I3,n3⟩:=q3
   obtain ⟨m',hm,w3⟩:=hN σ3 H3 n3
   exact ⟨m',hm,σ3,H3,I3,w3⟩
  | brk=>exact q3
  | ret v=>exact q3
 | false=>
  rw [if_neg Bool.false_ne_true]
  exact wpAny_execs_nil ⟨σ1,H2,I2,q2⟩
end
theorem vH:entryFor table "proto.unchain" = some Builtin.«proto.unchain»:=entryFor_of_tree (by kernel_rfl)
def zE (A:Around)(h:Heap):Prop:=∀ v,A.handled=some v→∃ (a:Addr) (o:Obj) (vs:Array Value),v=.ref a∧h.get? a=some o∧o.data=.fields vs∧vs[2]?=some .none
theorem quiet_heap {A:Around}{P:Program}{w:World}{H:Hp}{h:Heap}(q:Quiet A H)(x:HOk P w H h):zE A h:=fun v e=>by
 obtain ⟨a,o,u,vs,h1,h2,h3,h4⟩:=q v e
 exact ⟨a,o,vs,h1,(x a _ h2).1,h3,h4⟩
theorem raise_over {α : Type}{prog:Program}{w:World}{A:Around}{E:Value→Shared→Prop}{s:Shared}{e:Addr}{oe:Obj}{ws:Array Value}{Q:α→Shared→Prop}(hq:zE A s.heap)(he:s.heap.get? e=some oe)(hd:oe.data=.fields ws)(hz:2<ws.size)(hne:∀ v,A.handled=some v→v≠.ref e)
  (h:∀ h',(∀ b,b≠e→h'.get? b=s.heap.get? b)→(∃ o',h'.get? e=some o'∧o'.cls=oe.cls)→E (.ref e) { s with heap:=h' }):wpAny (model prog w) A (raiseNew (.ref e):Sem α) Q E s:=by
 unfold raiseNew
 refine wpAny_bind (wpAny_handled ?_)
 cases hh:A.handled with
 | none=>
  dsimp only
  refine wpAny_bind (wpAny_pure (wpAny_throw ?_))
  exact h s.heap (fun _ _=>rfl) ⟨oe,he,rfl⟩
 | some v=>
  obtain ⟨a,o,vs,rfl,ho,hdo,h2⟩:=hq v hh
  dsimp only
  have ne:(Value.ref a != Value.ref e)=true:=by
   have:=hne _ hh
   simp only [bne_iff_ne,ne_eq]
   exact this
  rw [if_pos ne]
  refine wpAny_bind (wpAny_holding (wpAny_runValue (codeAny_builtin vH ?_)))
  unfold Builtin.«proto.unchain»
  dsimp only
  refine wpAny_bind (wpAny_field ho hdo h2 ?_)
  rw [if_pos (show (Value.none==Value.none)=true from rfl)]
  refine wpAny_bind (wpAny_pure (wpAny_pure ?_))
  dsimp only
  refine wpAny_bind ?_
  unfold updateField
  refine wpAny_bind (wpAny_load he ?_)
  rw [hd]
  dsimp only
  rw [if_pos hz]
  refine wpAny_update he (wpAny_throw ?_)
  have hd3:=Obj.data_mapFields hd (·.setIfInBounds 2 (Value.ref a))
  exact h _ (fun b hb=>Heap.get?_update_other _ _ (Ne.symm hb)) ⟨_,Heap.get?_update_self _ he (Obj.isFreed_of_fields hd3),Obj.cls_mapFields _ _⟩
theorem range_end {prog:Program}{w:World}{A:Around}{E:Value→Shared→Prop}{s:Shared}{it:Addr}{x left step:Int}{Q:Option Value→Shared→Prop}(hh:zE A s.heap)(hit:IsRangeIter s.heap it x left step)(hleft:left≤0)
  (hQ:∀ h',Heap.ExtBut it s.heap h'→Q none { s with heap:=h' }):wpAny (model prog w) A (pyNext (.ref it)) Q E s:=by
 have hT:s.TypeIs (.ref it) "range_iterator":=⟨_,hit,rfl⟩
 unfold pyNext
 refine wpAny_bind (wpAny_attempt (wpAny_callSpecial?_slot (name:=Str.ofString "__next__") hT F.slot_range_iterator_next
  (wpAny_call_entry F.slot_range_iterator_next hT F.entry_range_iterator_next ?_ (F.args_range_iterator_next_1 _))))
 show wpAny _ _ (field (.ref it) 0 >>= _) _ _ s
 refine wpAny_bind (wpAny_field hit rfl (x:=rawInt x) rfl ?_)
 show wpAny _ _ (field (.ref it) 1 >>= _) _ _ s
 refine wpAny_bind (wpAny_field hit rfl (x:=rawInt left) rfl ?_)
 show wpAny _ _ (field (.ref it) 2 >>= _) _ _ s
 refine wpAny_bind (wpAny_field hit rfl (x:=rawInt step) rfl ?_)
 show wpAny _ _ (if left≤0 then _ else _) _ _ s
 rw [if_pos hleft]
 refine wpAny_bind (wpAny_rule ?_)
 refine wpAny_bind ?_
 show wpAny _ _ (newExc (.type "StopIteration") [] >>= _) _ _ _
 refine wpAny_bind ?_
 simp only [newExc,newTuple]
 refine wpAny_bind (wpAny_newObj_type ?_ (by size_fits))
 refine wpAny_bind (m:=firstArgMember _ _) (wpAny_of_eq (a:=Value.none) (by first | rfl | (simp only [firstArgMember];rfl)) ?_)
 refine wpAny_newObj_type ?_ (by size_fits)
 refine raise_over (A:=A.in1) (fun v e=>?_) (Heap.get?_push_size _ rfl) rfl (by simp;omega) (fun v e=>?_) fun h' h1 ⟨o',h2,h3⟩=>?_
 ·obtain ⟨a,o,vs,r1,r2,r3⟩:=hh v e
  exact ⟨a,o,vs,r1,Heap.get?_push_of_some _ (Heap.get?_push_of_some _ r2),r3⟩
 ·obtain ⟨a,o,vs,r1,r2,r3⟩:=hh v e
  rw [r1]
  intro q
  have q:a=_:=Value.ref.inj q
  have:=Heap.lt_size r2
  rw [q] at this
  exact absurd this (Nat.not_lt.mpr (by simp [Heap.push]))
 refine wpAny_bind (wpAny_isInstance (T := "StopIteration") (b:=true) ⟨_,h2,h3⟩ isSubtype_stop ?_)
 refine wpAny_pure (hQ _ fun b o hb e=>?_)
 rw [h1 b ?_]
 ·exact Heap.get?_push_of_some _ (Heap.get?_push_of_some _ e)
 ·have:=Heap.lt_size e
  exact Nat.ne_of_lt (Nat.lt_of_lt_of_le this (by simp [Heap.push]))
structure It where
 go:Nat→Hp→Prop
 yld:Nat→Hp→V→Hp→Prop
 stop:Nat→Hp→Prop
 cm:Bool
def FpOk (X:Cx)(pins:List (Addr×Obj))(H:Hp)(b:Addr):Prop:=
 H b=none∧b≠X.env.locals∧b∉X.fs∧(b∈X.ex∨X.s₀.heap.objs.size≤b)∧(∀ x c,X.env.cells.lookup x=some c→c≠b)∧∀ p∈X.pn++pins,p.1≠b
theorem Inv.fpOk {X:Cx}{pins:List (Addr×Obj)}{σ : St}{H H':Hp}{s:Shared}{b:Addr}(I:Inv X pins σ H s)(hb:s.heap.objs.size≤b)(hn:H' b=none):FpOk X pins H' b:=by
 refine ⟨hn,Nat.ne_of_gt (Nat.lt_of_lt_of_le I.lt hb),I.nofs hb,.inr (Nat.le_trans I.sz hb),fun x c e z=>?_,fun p hp z=>?_⟩
 ·obtain ⟨v,q⟩:=I.cell x c e
  exact absurd (Nat.lt_of_lt_of_le q.lt (by rw [z];exact hb)) (Nat.lt_irrefl _)
 ·exact absurd (Nat.lt_of_lt_of_le (Heap.lt_size (I.pin p hp).1) (by rw [z];exact hb)) (Nat.lt_irrefl _)
structure Turn (P:Program) (w:World) (K:PySem.W.Frag) (tg:Expr) (J:It) (fp:List Addr) (it:Addr) (tn:Nat→Heap→Prop):Prop where
 mem:it∈fp
 obj:∀ i h,tn i h→∀ b∈fp,∃ o,h.get? b=some o∧∀ v,o.data≠.cell v
 keep:∀ i h h',tn i h→(∀ b∈fp,∀ o,h.get? b=some o→h'.get? b=some o)→tn i h'
 item:∀ (X:Cx),X.prog=P→X.w=w→X.K=K→(J.cm=true→X.calm=true)→∀ (i:Nat) (pins:List (Addr×Obj)) (s:Shared) (σ : St) (H:Hp) (E:Value→Shared→Prop),Inv X pins σ H s→(∀ b∈fp,FpOk X pins H b)→tn i s.heap→J.go i H →
  wpAny (model P w) X.A (pyNext (.ref it)) (fun r s1=>∃ u,r=some u ∧
   wpAny (model P w) X.A (letOwnedTupleGo tg (.ref it) u) (fun _ s2=>∃ x H',Inv X pins σ H' s2∧RelV x u∧J.yld i H x H'∧tn (i+1) s2.heap∧∀ b∈fp,H' b=none) E s1) E s
 done:∀ (X:Cx),X.prog=P→X.w=w→X.K=K→(J.cm=true→X.calm=true)→∀ (i:Nat) (pins:List (Addr×Obj)) (s:Shared) (σ : St) (H:Hp) (E:Value→Shared→Prop),Inv X pins σ H s→(∀ b∈fp,FpOk X pins H b)→tn i s.heap→J.stop i H →
  wpAny (model P w) X.A (pyNext (.ref it)) (fun r s1=>r=none∧Inv X pins σ H s1) E s
 self:∀ (A:Around) (i:Nat) (s:Shared) (Q:Value→Shared→Prop) (E:Value→Shared→Prop),tn i s.heap→Q (.ref it) s→wpAny (model P w) A (pyIter (.ref it)) Q E s
abbrev TI:=St→Hp→(It→Hp→Prop)→Prop
def PIE (X:Cx)(pins:List (Addr×Obj))(σ : St)(tg:Expr)(R:It→Hp→Prop)(itv:Value)(s2:Shared):Prop:=
 ∃ (it:Addr) (fp:List Addr) (tn:Nat→Heap→Prop) (J:It) (H':Hp),itv=.ref it∧Inv X pins σ H' s2∧Turn X.prog X.w X.K tg J fp it tn∧tn 0 s2.heap∧(∀ b∈fp,FpOk X pins H' b)∧R J H'
def PI (X:Cx)(tg iter:Expr)(wi:TI):Prop:=
 ∀ (pins:List (Addr×Obj)) (s:Shared) (σ : St) (H:Hp) (R:It→Hp→Prop),Inv X pins σ H s→wi σ H R →
  wpAny (model X.prog X.w) X.A (eval iter X.env) (fun v s1=>wpAny (model X.prog X.w) X.A (pyIter v) (PIE X pins σ tg R) X.xe s1) X.xe s
theorem go_of {M:Model}{A:Around}{E:Value→Shared→Prop}{s:Shared}{tg:Expr}{it:Addr}{u:Value}{o:Obj}{n:String}{vs:Array Value}{Q:Unit→Shared→Prop}(ho:s.heap.get? it=some o)(hc:o.cls=.type n)(hd:o.data=.fields vs)
    (hn:["enumerate", "zip", "dict_itemiterator", "dict_reverseitemiterator", "odict_iterator", "itertools.zip_longest", "itertools.pairwise"].contains n=false) (hQ:Q () s):wpAny M A (letOwnedTupleGo tg (.ref it) u) Q E s:=by
  unfold letOwnedTupleGo
  cases tg <;> first
    | exact wpAny_pure hQ
    | (cases u <;> first
        | exact wpAny_pure hQ
        | (refine wpAny_bind (wpAny_load ho ?_)
           rw [hc,hd]
           show wpAny M A (if (["enumerate", "zip", "dict_itemiterator", "dict_reverseitemiterator", "odict_iterator", "itertools.zip_longest", "itertools.pairwise"].contains n&&vs[0]?==some (rawInt _))=true then _ else _) Q E s
           rw [if_neg (by intro h;rw [hn,Bool.false_and] at h;cases h)]
           exact wpAny_pure hQ))
def Itl (K:PySem.W.Frag)(a:Addr):It:=
 ⟨fun i H=>∃ xs x,SqL K H a xs∧xs[i]?=some x,fun i H x H'=>H'=H∧∀ xs,SqL K H a xs→xs[i]?=some x,fun i H=>∃ xs,SqL K H a xs∧xs.length≤i,true⟩
def Itt (K:PySem.W.Frag)(a:Addr):It:=
 ⟨fun i H=>∃ xs x,SqT K H a xs∧xs[i]?=some x,fun i H x H'=>H'=H∧∀ xs,SqT K H a xs→xs[i]?=some x,fun i H=>∃ xs,SqT K H a xs∧xs.length≤i,true⟩
def Itr (lo:Int)(n:Nat):It:=⟨fun i _=>i<n,fun i H x H'=>H'=H∧x=.int (lo+i),fun i _=>n≤i,false⟩
theorem turn_list {P:Program}{w:World}{K:PySem.W.Frag}{tg:Expr}(a it:Addr):Turn P w K tg (Itl K a) [it] it (fun i h=>h.IsListIter it a i) where
 mem:=by simp
 obj:=fun i h st b hb=>by
  have e:b=it:=by simpa using hb
  subst e
  obtain ⟨o,e,c,d⟩:=st
  exact ⟨o,e,fun v z=>by rw [d] at z;cases z⟩
 keep:=fun i h h' st k=>st.at fun o e=>k it (by simp) o e
 item:=by
  intro X hP hw hK hc i pins s σ H E I hf st hg
  subst hP hw hK
  obtain ⟨xs,x,hq,hx⟩:=hg
  obtain ⟨its,rv,p,hz⟩:=I.list hq
  obtain ⟨u,hu,ru⟩:=rv.get hx
  obtain ⟨f0,f1,f2,f3,f4,f5⟩:=hf it (by simp)
  refine wpAny_pyNext_list_item st p.isList (x:=u) (by simpa using hu) fun h' st' sb=>?_
  have I1:Inv X pins σ H { s with heap:=h' }:=I.turned (t':=s.toks) (fun b o hb e=>(sb.2 b hb).trans e) f0 f1 f3 f4 f5
  obtain ⟨o,e,c,d⟩:=id st'
  exact ⟨u,rfl,go_of (s:={ s with heap:=h' }) e c d (by decide) ⟨x,H,I1,ru,⟨rfl,fun ys hy=>by rw [I.list_inj hy hq];exact hx⟩,st',fun b hb=>(hf b hb).1⟩⟩
 done:=by
  intro X hP hw hK hc i pins s σ H E I hf st hg
  subst hP hw hK
  obtain ⟨xs,hq,hx⟩:=hg
  obtain ⟨its,rv,p,hz⟩:=I.list hq
  obtain ⟨f0,f1,f2,f3,f4,f5⟩:=hf it (by simp)
  have hl:=rv.length
  exact wpAny_pyNext_list_end (I.ok.hd (hc rfl)) st p.isList (by simp;omega) fun h' eb=>⟨rfl,I.turned (t':=s.toks) (fun b o hb e=>eb b o hb e) f0 f1 f3 f4 f5⟩
 self:=fun _ _ _ _ _ st h=>wpAny_pyIter_listiter st h
theorem turn_tuple {P:Program}{w:World}{K:PySem.W.Frag}{tg:Expr}(a it:Addr):Turn P w K tg (Itt K a) [it] it (fun i h=>h.IsTupleIter it a i) where
 mem:=by simp
 obj:=fun i h st b hb=>by
  have e:b=it:=by simpa using hb
  subst e
  obtain ⟨o,e,c,d⟩:=st
  exact ⟨o,e,fun v z=>by rw [d] at z;cases z⟩
 keep:=fun i h h' st k=>st.at fun o e=>k it (by simp) o e
 item:=by
  intro X hP hw hK hc i pins s σ H E I hf st hg
  subst hP hw hK
  obtain ⟨xs,x,hq,hx⟩:=hg
  obtain ⟨its,rv,p,hz⟩:=I.tuple hq
  obtain ⟨u,hu,ru⟩:=rv.get hx
  obtain ⟨f0,f1,f2,f3,f4,f5⟩:=hf it (by simp)
  refine wpAny_pyNext_tuple_item st (show s.heap.IsTuple a its.toArray from p) (x:=u) (by simpa using hu) fun h' st' sb=>?_
  have I1:Inv X pins σ H { s with heap:=h' }:=I.turned (t':=s.toks) (fun b o hb e=>(sb.2 b hb).trans e) f0 f1 f3 f4 f5
  obtain ⟨o,e,c,d⟩:=id st'
  exact ⟨u,rfl,go_of (s:={ s with heap:=h' }) e c d (by decide) ⟨x,H,I1,ru,⟨rfl,fun ys hy=>by rw [I.tuple_inj hy hq];exact hx⟩,st',fun b hb=>(hf b hb).1⟩⟩
 done:=by
  intro X hP hw hK hc i pins s σ H E I hf st hg
  subst hP hw hK
  obtain ⟨xs,hq,hx⟩:=hg
  obtain ⟨its,rv,p,hz⟩:=I.tuple hq
  obtain ⟨f0,f1,f2,f3,f4,f5⟩:=hf it (by simp)
  have hl:=rv.length
  exact wpAny_pyNext_tuple_end (I.ok.hd (hc rfl)) st (show s.heap.IsTuple a its.toArray from p) (by simp;omega) fun h' eb=>⟨rfl,I.turned (t':=s.toks) (fun b o hb e=>eb b o hb e) f0 f1 f3 f4 f5⟩
 self:=fun _ _ _ _ _ st h=>wpAny_pyIter_tupleiter st h
theorem turn_range {P:Program}{w:World}{K:PySem.W.Frag}{tg:Expr}(it:Addr)(lo:Int)(n:Nat):Turn P w K tg (Itr lo n) [it] it (fun i h=>IsRangeIter h it (lo+(i:Nat)*1) ((n:Int) - (i:Nat)) 1) where
 mem:=by simp
 obj:=fun i h st b hb=>by
  have e:b=it:=by simpa using hb
  subst e
  exact ⟨_,st,fun v z=>by
   have z':Data.fields _=Data.cell v:=z
   cases z'⟩
 keep:=fun i h h' st k=>k it (by simp) _ st
 item:=by
  intro X hP hw hK hc i pins s σ H E I hf st hg
  subst hP hw hK
  obtain ⟨f0,f1,f2,f3,f4,f5⟩:=hf it (by simp)
  refine wpAny_pyNext_range_item st (by have:i<n:=hg;omega) fun h' st' kk=>?_
  have I1:Inv X pins σ H { s with heap:=h',toks:=s.toks+1 }:=I.turned (fun b o hb e=>(kk.2 b hb).trans e) f0 f1 f3 f4 f5
  have st2:IsRangeIter h' it (lo+((i+1:Nat):Int)*1) ((n:Int) - ((i+1:Nat):Int)) 1:=by
   have e1:lo+((i+1:Nat):Int)*1=lo+((i:Nat):Int)*1+1:=by omega
   have e2:(n:Int) - ((i+1:Nat):Int)=(n:Int) - ((i:Nat):Int) - 1:=by omega
   rw [e1,e2]
   exact st'
  refine ⟨_,rfl,go_of (s:={ s with heap:=h',toks:=s.toks+1 }) (n := "range_iterator") st' rfl rfl (by decide) ⟨.int (lo+i),H,I1,⟨s.toks,?_⟩,⟨rfl,rfl⟩,st2,fun b hb=>(hf b hb).1⟩⟩
  rw [Int.mul_one]
 done:=by
  intro X hP hw hK hc i pins s σ H E I hf st hg
  subst hP hw hK
  obtain ⟨f0,f1,f2,f3,f4,f5⟩:=hf it (by simp)
  exact range_end (quiet_heap I.qt0 I.hok) st (by have:n≤i:=hg;omega) fun h' eb=>⟨rfl,I.turned (t':=s.toks) (fun b o hb e=>eb b o hb e) f0 f1 f3 f4 f5⟩
 self:=fun _ _ _ _ _ st h=>wpAny_pyIter_rangeiter st h
end L2
namespace L2
open PySem PySem.Spec PyProof.Rows
section
variable {X:Cx}{tg:Expr}
theorem range_it {pins:List (Addr×Obj)}{σ : St}{H:Hp}{s:Shared}{R:It→Hp→Prop}{E:Value→Shared→Prop}{lo hi:Int}{t u v:Tok}{tk:Nat}(I:Inv X pins σ H s)(h1:-(2^62)≤lo)(h2:lo<2^62)(h3:-(2^62)≤hi)(h4:hi<2^62)
  (q:R (Itr lo (hi - lo).toNat) H):wpAny (model X.prog X.w) X.A (pyIter (.ref s.heap.objs.size)) (PIE X pins σ tg R) E { s with heap:=s.heap.push { cls:=.type "range",data:=.fields #[.int lo t,.int hi u,.int 1 v] },toks:=tk }:=by
 refine wpAny_pyIter_range (IsRange.new ..) (small_one h1 h2 h3 h4) ?_
 have I1:Inv X pins σ H { s with heap:=s.heap.push { cls:=.type "range",data:=.fields #[.int lo t,.int hi u,.int 1 v] },toks:=tk }:=I.kept fun b o e=>Heap.get?_push_of_some _ e
 refine ⟨(s.heap.push { cls:=.type "range",data:=.fields #[.int lo t,.int hi u,.int 1 v] }).objs.size,[(s.heap.push { cls:=.type "range",data:=.fields #[.int lo t,.int hi u,.int 1 v] }).objs.size],_,_,H,rfl,
  I1.kept (t':=tk) fun b o e=>Heap.get?_push_of_some _ e,turn_range _ lo (hi - lo).toNat,?_,fun b hb=>?_,q⟩
 ·have e1:lo+((0:Nat):Int)*1=lo:=by simp
  have e2:(((hi - lo).toNat:Nat):Int) - ((0:Nat):Int)=Builtin.Range.rangeSize lo hi 1:=by rw [rangeSize_one];split <;> omega
  show IsRangeIter _ _ (lo+((0:Nat):Int)*1) ((((hi - lo).toNat:Nat):Int) - ((0:Nat):Int)) 1
  rw [e1,e2]
  exact Heap.get?_push_size _ rfl
 ·have e:b=(s.heap.push { cls:=.type "range",data:=.fields #[.int lo t,.int hi u,.int 1 v] }).objs.size:=by simpa using hb
  subst e
  exact I1.fpOk (Nat.le_refl _) (I1.hok.fresh (Nat.le_refl _))
def iRng1 (ta:TA):TI:=fun σ H R=>ta σ H fun vs H1=>∃ j:Int,vs=[.int j]∧-(2^62)≤j∧j<2^62∧R (Itr 0 j.toNat) H1
def iRng2 (ta:TA):TI:=fun σ H R=>ta σ H fun vs H1=>∃ i j:Int,vs=[.int i,.int j]∧(-(2^62)≤i∧i<2^62∧-(2^62)≤j∧j<2^62)∧R (Itr i (j - i).toNat) H1
theorem pi_range1 {a:Expr}{ta:TA}{p pos:Pos}(hg:Gl X "range")(hm:X.mg "range" = none)(ha:PA X [a] ta)(hs:starEach [a] X.env=[(false,eval a X.env)]:=by rfl):PI X tg (.Call (.Name "range" p) [a] [] pos) (iRng1 ta):=by
 intro pins s σ H R I h
 refine Call_ (qZ I hg hm boot_range (PyProof.Rows.callWith_type1 (thn (ha pos pins s σ H _ I h) fun us s1 ⟨vs,H1,I1,r1,q1⟩=>?_) hs rfl))
 obtain ⟨j,e,q1,q2,q⟩:=q1
 subst e
 cases r1 with
 | cons r rr=>
  cases rr
  obtain ⟨t,rfl⟩:=r
  exact call_range_1 (range_it I1 (by omega) (by omega) q1 q2 (by simpa using q))
theorem pi_range2 {a b:Expr}{ta:TA}{p pos:Pos}(hg:Gl X "range")(hm:X.mg "range" = none)(ha:PA X [a,b] ta)(hs:starEach [a,b] X.env=[(false,eval a X.env),(false,eval b X.env)]:=by rfl)(hs2:starEach [b] X.env=[(false,eval b X.env)]:=by rfl) :
  PI X tg (.Call (.Name "range" p) [a,b] [] pos) (iRng2 ta):=by
 intro pins s σ H R I h
 refine Call_ (qZ I hg hm boot_range (PyProof.Rows.callWith_type1 (thn (ha pos pins s σ H _ I h) fun us s1 ⟨vs,H1,I1,r1,q1⟩=>?_) (by rw [hs,hs2]) (by rw [hs2];rfl)))
 obtain ⟨i,j,e,⟨q1,q2,q3,q4⟩,q⟩:=q1
 subst e
 cases r1 with
 | cons r rr=>
  cases rr with
  | cons r' rr=>
   cases rr
   obtain ⟨t,rfl⟩:=r
   obtain ⟨t',rfl⟩:=r'
   exact call_range_2 (range_it I1 q1 q2 q3 q4 q)
def tFor (wi:TI)(g:TG)(tb:TS):TS:=fun D σ H=>wi σ H fun J H1=>∃ W:Nat→Nat→St→Hp→Prop,(∃ m,W 0 m σ H1)∧∀ i m σ H,W i m σ H →
 (J.stop i H∧D.nx σ H)∨(J.go i H∧∃ N:St→Hp→Prop,(∀ σ' H',N σ' H'→∃ m',m'<m∧W (i+1) m' σ' H')∧∀ x H',J.yld i H x H'→g x σ H' fun σ2 H2=>tb { D with nx:=N,ct:=N,bk:=D.nx } σ2 H2)
def wW (fp:List Addr)(h:Heap):List (Addr×Obj):=fp.filterMap fun b=>(h.get? b).map fun o=>(b,o)
theorem jL {fp:List Addr}{h:Heap}{b:Addr}{o:Obj}(hb:b∈fp)(e:h.get? b=some o):(b,o)∈wW fp h:=List.mem_filterMap.mpr ⟨b,hb,by rw [e];rfl⟩
theorem of_pinsAt {fp:List Addr}{h:Heap}{p:Addr×Obj}(hp:p∈wW fp h):p.1∈fp∧h.get? p.1=some p.2:=by
 obtain ⟨b,hb,e⟩:=List.mem_filterMap.mp hp
 cases q:h.get? b with
 | none=>rw [q] at e;cases e
 | some o=>
  rw [q] at e
  have e':(b,o)=p:=Option.some.inj e
  subst e'
  exact ⟨hb,q⟩
theorem Inv.pinned {pins:List (Addr×Obj)}{σ : St}{H:Hp}{s:Shared}{fp:List Addr}(I:Inv X pins σ H s)(hf:∀ b∈fp,FpOk X pins H b)(ho:∀ b∈fp,∃ o,s.heap.get? b=some o∧∀ v,o.data≠.cell v):Inv X (pins++wW fp s.heap) σ H s:=
 I.pins_of fun p hp=>(List.mem_append.mp hp).elim (fun z=>I.pin p (List.mem_append_right _ z)) fun z=>by
  obtain ⟨hb,e⟩:=of_pinsAt z
  obtain ⟨f0,f1,f2,_⟩:=hf p.1 hb
  obtain ⟨o,e',d⟩:=ho p.1 hb
  rw [e] at e';cases e'
  exact ⟨e,f0,f1,f2,d⟩
theorem Inv.unpinned {pins pl:List (Addr×Obj)}{σ : St}{H:Hp}{s:Shared}(I:Inv X (pins++pl) σ H s):Inv X pins σ H s:=I.pins_of fun p hp=>I.pin p (List.mem_append_right _ (List.mem_append_left _ hp))
theorem ps_for {iter:Expr}{body:List Stmt}{wi:TI}{g:TG}{tb:TS}{pos:Pos}(hp:PassesOwn (model X.prog X.w) X.A X.env X.xe)(hc:X.calm=true)(hi:PI X tg iter wi)(hg:PG X tg g)(hb:PSs X body tb)
  (hs:∀ x,foldedSetIterable iter X.env x=pure x:=by intro _;rfl):PS X (.For tg iter body [] pos) (tFor wi g tb):=by
 intro pins s σ H D I h
 refine wpAny_For (thn (hi pins s σ H _ I h) fun v s1 h1=>thn h1 fun itv s2 h2=>?_) hs
 obtain ⟨it,fp,tn,J,H2,e,I2,T,st2,f2,W,⟨m0,w0⟩,turn⟩:=h2
 subst e
 -- what stays true of the iterator's objects through the loop
 have stat:∀ {H':Hp},(∀ b∈fp,H' b=none)→∀ b∈fp,FpOk X pins H' b:=fun hn b hb=>⟨hn b hb,(f2 b hb).2⟩
 refine codeAny_forLoop_any (fun n s'=>∃ i σ' H',Inv X pins σ' H' s'∧tn i s'.heap∧(∀ b∈fp,H' b=none)∧W i n σ' H') ?_ m0 ⟨0,σ,H2,I2,st2,fun b hb=>(f2 b hb).1,w0⟩
 rintro n s3 ⟨i,σ3,H3,I3,st3,fr3,w3⟩
 rcases turn i n σ3 H3 w3 with ⟨stop,qn⟩ | ⟨go,N,hN,step⟩
 ·refine wpAny_passesOwn hp (thn (T.done X rfl rfl rfl (fun _=>hc) i pins s3 σ3 H3 X.xe I3 (stat fr3) st3 stop) fun r s4 ⟨hr,I4⟩=>?_)
  subst hr
  exact wpAny_execs_nil ⟨σ3,H3,I4,qn⟩
 ·refine wpAny_passesOwn hp (thn (T.item X rfl rfl rfl (fun _=>hc) i pins s3 σ3 H3 X.xe I3 (stat fr3) st3 go) fun r s4 ⟨u,hr,h4⟩=>?_)
  subst hr
  refine wpAny_passesOwn hp (thn h4 fun _ s5 ⟨x,H5,I5,r5,y5,st5,fr5⟩=>?_)
  have I5':=I5.pinned (stat fr5) (T.obj _ _ st5)
  refine wpAny_passesOwn hp (thn (hg _ s5 σ3 H5 x u _ I5' r5 (step x H5 y5)) fun _ s6 ⟨σ6,H6,I6,q6⟩=>?_)
  refine wpAny_passesOwn hp (thn (hb _ s6 σ6 H6 _ I6 q6) fun f s7 q7=>?_)
  have again:∀ {σ7:St} {H7:Hp},Inv X (pins++wW fp s5.heap) σ7 H7 s7→N σ7 H7→∃ m,m<n∧∃ i σ' H',Inv X pins σ' H' s7∧tn i s7.heap∧(∀ b∈fp,H' b=none)∧W i m σ' H':=fun {σ7 H7} I7 n7=>by
   obtain ⟨m',hm,w7⟩:=hN σ7 H7 n7
   refine ⟨m',hm,i+1,σ7,H7,I7.unpinned,T.keep _ _ _ st5 fun b hb o e=>(I7.pin (b,o) (List.mem_append_right _ (List.mem_append_right _ (jL hb e)))).1,fun b hb=>?_,w7⟩
   obtain ⟨o,e,d⟩:=T.obj _ _ st5 b hb
   exact (I7.pin (b,o) (List.mem_append_right _ (List.mem_append_right _ (jL hb e)))).2.1
  cases f with
  | next=>obtain ⟨σ7,H7,I7,n7⟩:=q7;exact again I7 n7
  | cont=>obtain ⟨σ7,H7,I7,n7⟩:=q7;exact again I7 n7
  | brk=>obtain ⟨σ7,H7,I7,q7⟩:=q7;exact ⟨σ7,H7,I7.unpinned,q7⟩
  | ret v=>obtain ⟨x7,σ7,H7,I7,r7,q7⟩:=q7;exact ⟨x7,σ7,H7,I7.unpinned,r7,q7⟩
end
end L2
namespace L2
open PySem PySem.Spec PyProof.Rows
abbrev R2:=V→V→Hp→VK→Prop
def OpR (X:Cx)(f:Value→Value→Sem Value)(r:R2):Prop:=
 ∀ (pins:List (Addr×Obj)) (s:Shared) (σ : St) (H:Hp) (x y:V) (v u:Value) (Q:VK),Inv X pins σ H s→RelV x v→RelV y u→r x y H Q →
  wpAny (model X.prog X.w) X.A (f v u) (EP X pins σ Q) X.xe s
def UnR (X:Cx)(f:Value→Sem Value)(r:V→Hp→VK→Prop):Prop:=
 ∀ (pins:List (Addr×Obj)) (s:Shared) (σ : St) (H:Hp) (x:V) (v:Value) (Q:VK),Inv X pins σ H s→RelV x v→r x H Q →
  wpAny (model X.prog X.w) X.A (f v) (EP X pins σ Q) X.xe s
def lO (X:Cx)(f:Value)(r:List V→Hp→VK→Prop):Prop:=
 ∀ (pins:List (Addr×Obj)) (s:Shared) (σ : St) (H:Hp) (xs:List V) (us:List Value) (Q:VK),Inv X pins σ H s→Vals xs us→r xs H Q →
  wpAny (model X.prog X.w) X.A (call f us) (EP X pins σ Q) X.xe s
def TruR (X:Cx)(r:V→Hp→(Bool→Hp→Prop)→Prop):Prop:=
 ∀ (pins:List (Addr×Obj)) (s:Shared) (σ : St) (H:Hp) (x:V) (v:Value) (Q:Bool→Hp→Prop),Inv X pins σ H s→RelV x v→r x H Q →
  wpAny (model X.prog X.w) X.A (truthy v) (TP X pins σ Q) X.xe s
def tOp (r:R2)(ta tb:TE):TE:=fun σ H Q=>ta σ H fun x H1=>tb σ H1 fun y H2=>r x y H2 Q
def tUn (r:V→Hp→VK→Prop)(ta:TE):TE:=fun σ H Q=>ta σ H fun x H1=>r x H1 Q
def rI (C:Int→Int→Prop)(g:Int→Int→V):R2:=fun x y H Q=>∃ i j,x=.int i∧y=.int j∧C i j∧Q (g i j) H
def rI0 (g:Int→Int→V):R2:=fun x y H Q=>∃ i j,x=.int i∧y=.int j∧Q (g i j) H
def rU (g:Int→V):V→Hp→VK→Prop:=fun x H Q=>∃ i,x=.int i∧Q (g i) H
section
variable {X:Cx}{a b c:Expr}{ta tb tc:TE}{pos:Pos}
theorem binT (ha:PE X a ta)(hb:PE X b tb){pins:List (Addr×Obj)}{s:Shared}{σ : St}{H:Hp}{R:V→V→Hp→Prop}(I:Inv X pins σ H s)
  (h:ta σ H fun x H1=>tb σ H1 fun y H2=>R x y H2) {Q:Value→Shared→Prop} {f:Value→Value→Sem Value}
  (hf:∀ v u s2 x y H2,Inv X pins σ H2 s2→RelV x v→RelV y u→R x y H2→wpAny (model X.prog X.w) X.A (f v u) Q X.xe s2) :
  wpAny (model X.prog X.w) X.A (eval a X.env) (fun v s₁=>wpAny (model X.prog X.w) X.A (eval b X.env) (fun u s₂=>wpAny (model X.prog X.w) X.A (f v u) Q X.xe s₂) X.xe s₁) X.xe s:=by
 refine thn (ha pins s σ H _ I h) fun v s1 ⟨x,H1,I1,r1,q1⟩=>?_
 refine thn (hb pins s1 σ H1 _ I1 q1) fun u s2 ⟨y,H2,I2,r2,q2⟩=>?_
 exact hf v u s2 x y H2 I2 r1 r2 q2
theorem pe_op {op:Operator}{r:R2}(ho:OpR X (binaryOp op) r)(ha:PE X a ta)(hb:PE X b tb):PE X (.BinOp a op b pos) (tOp r ta tb):=by
 intro pins s σ H Q I h
 exact wpAny_BinOp (binT ha hb I h fun v u s2 x y H2 I2 rx ry q=>ho pins s2 σ H2 x y v u Q I2 rx ry q)
theorem pe_un {op:UnaryOp}{r:V→Hp→VK→Prop}(ho:UnR X (unaryOp op) r)(ha:PE X a ta):PE X (.UnaryOp op a pos) (tUn r ta):=by
 intro pins s σ H Q I h
 exact UnaryOp_ (thn (ha pins s σ H _ I h) fun v s1 ⟨x,H1,I1,r1,q1⟩=>ho pins s1 σ H1 x v Q I1 r1 q1)
theorem opI {f:Value→Value→Sem Value}{C:Int→Int→Prop}{g:Int→Int→Int}
  (rule:∀ (i j:Int) (t u:Tok) (s:Shared) (Q:Value→Shared→Prop) (E:Value→Shared→Prop),C i j→Q (.int (g i j) s.toks) { s with toks:=s.toks+1 }→wpAny (model X.prog X.w) X.A (f (.int i t) (.int j u)) Q E s) :
  OpR X f (rI C fun i j=>.int (g i j)):=by
 intro pins s σ H x y v u Q I rx ry h
 obtain ⟨i,j,rfl,rfl,hc,q⟩:=h
 obtain ⟨t,rfl⟩:=rx
 obtain ⟨t',rfl⟩:=ry
 exact rule i j t t' s _ _ hc ⟨.int (g i j),H,I.tok _,⟨_,rfl⟩,q⟩
theorem opI0 {f:Value→Value→Sem Value}{g:Int→Int→Int}
  (rule:∀ (i j:Int) (t u:Tok) (s:Shared) (Q:Value→Shared→Prop) (E:Value→Shared→Prop),Q (.int (g i j) s.toks) { s with toks:=s.toks+1 }→wpAny (model X.prog X.w) X.A (f (.int i t) (.int j u)) Q E s) :
  OpR X f (rI0 fun i j=>.int (g i j)):=by
 intro pins s σ H x y v u Q I rx ry h
 obtain ⟨i,j,rfl,rfl,q⟩:=h
 obtain ⟨t,rfl⟩:=rx
 obtain ⟨t',rfl⟩:=ry
 exact rule i j t t' s _ _ ⟨.int (g i j),H,I.tok _,⟨_,rfl⟩,q⟩
theorem opB0 {f:Value→Value→Sem Value}{g:Int→Int→Bool}
  (rule:∀ (i j:Int) (t u:Tok) (s:Shared) (Q:Value→Shared→Prop) (E:Value→Shared→Prop),Q (.bool (g i j)) s→wpAny (model X.prog X.w) X.A (f (.int i t) (.int j u)) Q E s) :
  OpR X f (rI0 fun i j=>.bl (g i j)):=by
 intro pins s σ H x y v u Q I rx ry h
 obtain ⟨i,j,rfl,rfl,q⟩:=h
 obtain ⟨t,rfl⟩:=rx
 obtain ⟨t',rfl⟩:=ry
 exact rule i j t t' s _ _ ⟨.bl (g i j),H,I,rfl,q⟩
def CPow (i j:Int):Prop:=0≤j∧j≤1000000∧i.natAbs<2^64
theorem op_add:OpR X (binaryOp .Add) (rI0 fun i j=>.int (i+j)):=opI0 fun _ _ _ _ _ _ _ q=>add_int q
theorem op_sub:OpR X (binaryOp .Sub) (rI0 fun i j=>.int (i - j)):=opI0 fun _ _ _ _ _ _ _ q=>sub_int q
theorem op_modN:OpR X (binaryOp .Mod) (rI (fun _ j=>j≠0) fun i j=>.int (i.fmod j)):=opI fun _ _ _ _ _ _ _ hc q=>mod_int' hc q
theorem op_pow:OpR X (binaryOp .Pow) (rI CPow fun i j=>.int (i^j.toNat)):=opI fun _ _ _ _ _ _ _ hc q=>pow_int_small hc.1 hc.2.1 hc.2.2 q
theorem unI {f:Value→Sem Value}{g:Int→Int}
  (rule:∀ (i:Int) (t:Tok) (s:Shared) (Q:Value→Shared→Prop) (E:Value→Shared→Prop),Q (.int (g i) s.toks) { s with toks:=s.toks+1 }→wpAny (model X.prog X.w) X.A (f (.int i t)) Q E s) :
  UnR X f (rU fun i=>.int (g i)):=by
 intro pins s σ H x v Q I rx h
 obtain ⟨i,rfl,q⟩:=h
 obtain ⟨t,rfl⟩:=rx
 exact rule i t s _ _ ⟨.int (g i),H,I.tok _,⟨_,rfl⟩,q⟩
theorem un_neg:UnR X (unaryOp .USub) (rU fun i=>.int (-i)):=unI fun _ _ _ _ _ q=>neg_int q
end
section
variable {X:Cx}{a b c:Expr}{ta tb tc:TE}{pos:Pos}
theorem fin_bl {pins:List (Addr×Obj)}{σ : St}{H:Hp}{s:Shared}{Q:VK}{k k':Bool}(I:Inv X pins σ H s)(q:Q (.bl k) H)(e:k=k'):EP X pins σ Q (.bool k') s:=by
 subst e
 exact ⟨.bl k,H,I,rfl,q⟩
theorem op_lt:OpR X (compareOp .Lt) (rI0 fun i j=>.bl (decide (i<j))):=opB0 fun _ _ _ _ _ _ _ q=>lt_int q
theorem op_gt:OpR X (compareOp .Gt) (rI0 fun i j=>.bl (decide (j<i))):=opB0 fun _ _ _ _ _ _ _ q=>gt_int q
theorem op_notN:OpR X (compareOp .IsNot) (fun x y H Q=>y=.non∧Q (.bl (!decide (x=.non))) H):=by
 intro pins s σ H x y v u Q I rx ry h
 obtain ⟨rfl,q⟩:=h
 cases ry
 refine isnot_none_gen (fin_bl I q ?_)
 cases x <;> first
  | (cases rx;rfl)
  | (obtain ⟨t,rfl⟩:=rx;rfl)
theorem OpR.or {f:Value→Value→Sem Value}{r r':R2}(h:OpR X f r)(h':OpR X f r'):OpR X f (fun x y H Q=>r x y H Q∨r' x y H Q):=by
 intro pins s σ H x y v u Q I rx ry q
 rcases q with q | q
 ·exact h pins s σ H x y v u Q I rx ry q
 ·exact h' pins s σ H x y v u Q I rx ry q
theorem aX (b:Expr){op:CmpOp}(h:op≠.In:=by decide)(h2:op≠.NotIn:=by decide):behindInMarks op b=false:=by
 have e1:(op==CmpOp.In)=false:=by cases op <;> first | rfl | exact absurd rfl h
 have e2:(op==CmpOp.NotIn)=false:=by cases op <;> first | rfl | exact absurd rfl h2
 cases b <;> simp [behindInMarks,e1,e2]
theorem pe_cmpR {op:CmpOp}{r:R2}(ho:OpR X (compareOp op) r)(ha:PE X a ta)(hb:PE X b tb)(hm:behindInMarks op b=false):PE X (.Compare a [op] [b] pos) (tOp r ta tb):=by
 intro pins s σ H Q I h
 exact wpAny_Compare1 (binT ha hb I h fun v u s2 x y H2 I2 rx ry q=>ho pins s2 σ H2 x y v u Q I2 rx ry q) hm
def tTest (t:TE):TT:=fun σ H Q=>t σ H fun x H'=>∃ k,x=.bl k∧Q k H'
theorem pt_cmpR {op:CmpOp}{r:R2}(ho:OpR X (compareOp op) r)(ha:PE X a ta)(hb:PE X b tb)(hm:behindInMarks op b=false):PT X (.Compare a [op] [b] pos) (tTest (tOp r ta tb)):=by
 intro pins s σ H Q I h
 refine wpAny_isTrue_Compare1 (thn (ha pins s σ H _ I h) fun v s1 ⟨x,H1,I1,r1,q1⟩=>thn (hb pins s1 σ H1 _ I1 q1) fun u s2 ⟨y,H2,I2,r2,q2⟩=>
  thn (ho pins s2 σ H2 x y v u _ I2 r1 r2 q2) fun c s3 ⟨z,H3,I3,r3,k,e,q3⟩=>?_) hm
 subst e
 cases r3
 exact wpAny_truthy_bool ⟨H3,I3,q3⟩
def TruV (K:PySem.W.Frag)(x:V)(H:Hp)(k:Bool):Prop:=
 match x with
 | .non=>k=false
 | .bl b=>k=b
 | .int i=>k=(i != 0)
 | .str y=>y.length≤sizeLine∧k=((y.length:Int) != 0)
 | .byt y=>y.size≤sizeLine∧k=((y.size:Int) != 0)
 | .ref p=>(∃ xs,SqL K H p xs∧k = !xs.isEmpty)∨(∃ xs,SqT K H p xs∧k = !xs.isEmpty)∨∃ kvs,H p=some (.dK kvs)∧k = !kvs.isEmpty
 | _=>False
theorem isEmpty_kv {κ : Type}{kvs:List (κ×V)}{vs:List (κ×Value)}(r:KV kvs vs):(!vs.isEmpty) = !kvs.isEmpty:=by
 cases r <;> rfl
theorem ud {xs:List V}{its:List Value}(r:Vals xs its):(!its.toArray.isEmpty) = !xs.isEmpty:=by
 cases r <;> simp
theorem ou:(sizeLine:Nat)<2^63:=by rw [sizeLine_eq];decide
theorem tru_ok:TruR X (fun x H Q=>∃ k,TruV X.K x H k∧Q k H):=by
 intro pins s σ H x v Q I rx h
 obtain ⟨k,e,q⟩:=h
 have hl:=ou
 have hs:sizeLine=16777216:=sizeLine_eq
 cases x with
 | non=>
  cases rx
  have e':k=false:=e
  subst e'
  exact truthy_none ⟨H,I,q⟩
 | bl b=>
  cases rx
  have e':k=b:=e
  subst e'
  exact wpAny_truthy_bool ⟨H,I,q⟩
 | int i=>
  obtain ⟨t,rfl⟩:=rx
  have e':k=(i != 0):=e
  subst e'
  exact PySem.P.truthy_int ⟨H,I,q⟩
 | str y=>
  obtain ⟨t,rfl⟩:=rx
  obtain ⟨hy,e'⟩:y.length≤sizeLine∧k=((y.length:Int) != 0):=e
  subst e'
  exact PySem.P.truthy_str (by omega) ⟨H,I.tok _,q⟩
 | byt y=>
  obtain ⟨t,rfl⟩:=rx
  obtain ⟨hy,e'⟩:y.size≤sizeLine∧k=((y.size:Int) != 0):=e
  subst e'
  exact PySem.W.truthy_bytes (by omega) ⟨H,I.tok _,q⟩
 | ref p=>
  cases rx
  have e':(∃ xs,SqL X.K H p xs∧k = !xs.isEmpty)∨(∃ xs,SqT X.K H p xs∧k = !xs.isEmpty)∨∃ kvs,H p=some (.dK kvs)∧k = !kvs.isEmpty:=e
  rcases e' with ⟨xs,hx,e'⟩ | ⟨xs,hx,e'⟩ | ⟨kvs,hx,e'⟩
  ·subst e'
   obtain ⟨its,r,pl,hz⟩:=I.list hx
   have hlen:=r.length
   exact wpAny_truthy_list pl.isList (by simp only [List.size_toArray];omega) ⟨H,I.tok _,by rw [ud r];exact q⟩
  ·subst e'
   obtain ⟨its,r,pl,hz⟩:=I.tuple hx
   have hlen:=r.length
   exact truthy_tuple pl (by simp only [List.size_toArray];omega) ⟨H,I.tok _,by rw [ud r];exact q⟩
  ·subst e'
   obtain ⟨hz,hS,vs,r,m⟩:kvs.length≤sizeLine∧(p==sysModules)=false∧∃ vs,KV kvs vs∧s.heap.DictOf (yX X.prog X.w) p vs:=I.hok p _ hx
   have hlen:kvs.length=vs.length:=Paired.length r
   exact wpAny_truthy_dict hS m (by omega) ⟨H,I.tok _,by rw [isEmpty_kv r];exact q⟩
 | _=>exact (show False from e).elim
theorem pt_truth (ha:PE X a ta)(he:∀ whole,isTrue a X.env whole=(do let v ←whole;standAt a.pos;holding [v] (truthy v))) :
  PT X a (fun σ H Q=>ta σ H fun x H'=>∃ k,TruV X.K x H' k∧Q k H'):=by
 intro pins s σ H Q I h
 exact isTrue_plain (thn (ha pins s σ H _ I h) fun v s1 ⟨x,H1,I1,r1,q1⟩=>tru_ok pins s1 σ H1 x v Q I1 r1 q1) (he _)
theorem vals1 {x:V}{us:List Value}(r:Vals [x] us):∃ u,us=[u]∧RelV x u:=by
 cases r with
 | cons r1 r2=>cases r2;exact ⟨_,rfl,r1⟩
theorem vals2 {x y:V}{us:List Value}(r:Vals [x,y] us):∃ u w',us=[u,w']∧RelV x u∧RelV y w':=by
 cases r with
 | cons r1 r2=>
  cases r2 with
  | cons r3 r4=>cases r4;exact ⟨_,_,rfl,r1,r3⟩
theorem call_abs:lO X (.builtin "abs") (fun xs H Q=>∃ i,xs=[.int i]∧Q (.int (if i<0 then -i else i)) H):=by
 intro pins s σ H xs us Q I r h
 obtain ⟨i,rfl,q⟩:=h
 obtain ⟨u,rfl,t,rfl⟩:=vals1 r
 exact call_abs_int fun u tk=>⟨.int (if i<0 then -i else i),H,I.tok _,⟨_,rfl⟩,q⟩
theorem call_max2 (hc:X.calm=true):lO X (.builtin "max") (fun xs H Q=>∃ i j,xs=[.int i,.int j]∧Q (.int (if j>i then j else i)) H):=by
 intro pins s σ H xs us Q I r h
 obtain ⟨i,j,rfl,q⟩:=h
 obtain ⟨u,w',rfl,⟨t,rfl⟩,⟨t',rfl⟩⟩:=vals2 r
 refine max_two_ints (I.ok.hd hc) fun h' tk k=>⟨_,H,I.kept k,?_,q⟩
 by_cases hj:j>i
 ·rw [if_pos hj,if_pos hj];exact ⟨_,rfl⟩
 ·rw [if_neg hj,if_neg hj];exact ⟨_,rfl⟩
theorem call_min2 (hc:X.calm=true):lO X (.builtin "min") (fun xs H Q=>∃ i j,xs=[.int i,.int j]∧Q (.int (if j<i then j else i)) H):=by
 intro pins s σ H xs us Q I r h
 obtain ⟨i,j,rfl,q⟩:=h
 obtain ⟨u,w',rfl,⟨t,rfl⟩,⟨t',rfl⟩⟩:=vals2 r
 refine min_two_ints (I.ok.hd hc) fun h' tk k=>⟨_,H,I.kept k,?_,q⟩
 by_cases hj:j<i
 ·rw [if_pos hj,if_pos hj];exact ⟨_,rfl⟩
 ·rw [if_neg hj,if_neg hj];exact ⟨_,rfl⟩
end
end L2
namespace L2
open PySem PySem.Spec PyProof.Rows
structure ObjM (h:Heap) (x dx C:Addr) (mA:Str→Option Value):Prop where
 obj:h.get? x=some (PySem.W.instObj C dx)
 ns:h.Ns1 dx mA
 ne:dx≠x
section
variable {prog:Program}{w:World}{A:Around}{E:Value→Shared→Prop}{s:Shared}{K:PySem.W.Frag}{x dx C f:Addr}{mA:Str→Option Value}{name:Str}{v:Value}
end
section
variable {P:Program}{w:World}{H H':Hp}{h h':Heap}{a C dx:Addr}{fs fs':List (Str×V)}
end
structure Cls (K:PySem.W.Frag) (C:Addr):Prop where
 pg:PySem.W.plainGet K C Str.empty=true
 hd:PySem.W.hasDictIn K C=true
 po:PySem.W.plainOver K C=true
 sa:PySem.W.findIn K (.ref C) "__setattr__" = some (some (.builtin "object.__setattr__"))
structure Con (K:PySem.W.Frag) (C:Addr) (f:Str) (v:V) (u:Value):Prop where
 at_:PySem.W.findIn K (.ref C) f=some (some u)
 rel:RelV v u
 get:PySem.W.specialIn K u "__get__" = some none
 cp:PySem.W.copiedNames.contains f=false
structure Meth (K:PySem.W.Frag) (C:Addr) (m:Str) (f:Addr):Prop where
 at_:PySem.W.findIn K (.ref C) m=some (some (.ref f))
 fn:PySem.W.isFn K (.ref f)=true
 kp:PySem.W.keepIn K (.ref f)=true
section
variable {X:Cx}{pins:List (Addr×Obj)}{σ : St}{H:Hp}{s:Shared}{a C dx:Addr}{fs:List (Str×V)}{f:Str}{v:V}{A:Around}{E:Value→Shared→Prop}
end
section
variable {X:Cx}{o e value:Expr}{f:Str}{pos pos' tpos:Pos}{ta tv:TE}
end
section
variable {X:Cx}{pins:List (Addr×Obj)}{σ : St}{H:Hp}{s:Shared}{A:Around}{E:Value→Shared→Prop}{Q:Value→Shared→Prop}{c:Value}{b:Bool}
inductive TyOf (K:PySem.W.Frag) (H:Hp):V→Value→Prop where
 | non:TyOf K H .non (.type "NoneType")
 | bl (x:Bool):TyOf K H (.bl x) (.type "bool")
 | int (i:Int):TyOf K H (.int i) (.type "int")
 | str (x:Str):TyOf K H (.str x) (.type "str")
 | flt (x:UInt64):TyOf K H (.flt x) (.type "float")
 | lst {a:Addr} {xs:List V} (e:H a=some (.lst xs)):TyOf K H (.ref a) (.type "list")
 | frz {a:Addr} {o:Obj} {xs:List V} (e:H a=some (.frz o (.lst xs))):TyOf K H (.ref a) (.type "list")
 | tup {a:Addr} {xs:List V} (e:H a=some (.tup xs)):TyOf K H (.ref a) (.type "tuple")
 | dK {a:Addr} {kvs:List (Key×V)} (e:H a=some (.dK kvs)):TyOf K H (.ref a) (.type "dict")
 | dT {a:Addr} {kvs:List (List Key×V)} (e:H a=some (.dT kvs)):TyOf K H (.ref a) (.type "dict")
 | ins {a C dx:Addr} {fs:List (Str×V)} (e:H a=some (.ins C dx fs)) (cl:Cls K C) (ha:PySem.W.findIn K (.ref C) "__class__" = some (some (.builtin "object.__class__")))
   (hn:PySem.W.specialIn K (.builtin "object.__class__") "__get__" = some (some (.builtin "getset_descriptor.__get__"))) (htk:PySem.W.takesIn K (.builtin "object.__class__")=some true)
   (hm:PySem.W.mroIn K C (.type "object")=some true):TyOf K H (.ref a) (.ref C)
end
end L2
namespace L2
open PySem PySem.Spec PyProof.Rows
structure oU (k:Nat) (A:Around):Prop where
 hd:9≤k→A.handled=none
 dp:A.depth+3*k+5<recursionLimit
 un:A.units+16*k+200<cLine
theorem oU.mono {j k:Nat}{A:Around}(r:oU k A)(h:j≤k):oU j A:=⟨fun z=>r.hd (Nat.le_trans z h),by have:=r.dp;omega,by have:=r.un;omega⟩
theorem oU.deeper {k:Nat}{A:Around}(r:oU (k+1) A)(env:Env):oU k (A.deeper env):=
 ⟨fun z=>r.hd (Nat.le_succ_of_le z),by have:=r.dp;show A.depth+1+3*k+5<_;omega,by have:=r.un;show A.units+3+16*k+200<_;omega⟩
theorem oU.calm {k:Nat}{A:Around}(r:oU k A)(h:9≤k):A.handled.isNone=true:=by rw [r.hd h];rfl
theorem oU.depth {k:Nat}{A:Around}(r:oU k A):A.depth<recursionLimit:=by have:=r.dp;omega
theorem oU.units {k:Nat}{A:Around}(r:oU k A):A.units+64<cLine:=by have:=r.un;omega
def tNil:TA:=fun _ H Q=>Q [] H
def tCons (ta:TE)(tr:TA):TA:=fun σ H Q=>ta σ H fun x H1=>tr σ H1 fun xs H2=>Q (x::xs) H2
section
variable {X:Cx}{e:Expr}{es:List Expr}{te:TE}{t:TA}{pos:Pos}
theorem pa_nil:PA X [] tNil:=fun _ _ _ _ H Q I h=>Calls.spliced_nil ⟨[],H,I,.nil,h⟩
theorem pa_cons (ha:PE X e te)(hr:PA X es t)(hs:starEach (e::es) X.env=(false,eval e X.env)::starEach es X.env:=by rfl):PA X (e::es) (tCons te t):=by
 intro pos pins s σ H Q I h
 rw [hs]
 show wpAny _ _ (spliced ((false,eval e X.env)::backTo pos (starEach es X.env))) _ _ s
 refine Calls.spliced_cons (thn (ha pins s σ H _ I h) fun u s1 ⟨x,H1,I1,r1,q1⟩=>?_)
 exact thn (hr pos pins s1 σ H1 _ I1 q1) fun us s2 ⟨xs,H2,I2,r2,q2⟩=>⟨x::xs,H2,I2,.cons r1 r2,q2⟩
def tTup (t:TA):TE:=fun σ H Q=>t σ H fun xs H1=>xs.length≤sizeLine∧∀ p,H1 p=none→Q (.ref p) (upd H1 p (.tup xs))
def tLst (t:TA):TE:=fun σ H Q=>t σ H fun xs H1=>xs.length≤sizeLine∧∀ p,H1 p=none→Q (.ref p) (upd H1 p (.lst xs))
theorem pe_tup {x1}(h:PA X es t):PE X (.Tuple es x1 pos) (tTup t):=by
 intro pins s σ H Q I hq
 refine wpAny_Tuple_spliced (thn (h pos pins s σ H _ I hq) fun us s1 ⟨xs,H1,I1,r,z,q⟩=>⟨by rw [←r.length];exact z,?_⟩)
 have hf:H1 s1.heap.objs.size=none:=I1.hok.fresh (Nat.le_refl _)
 refine ⟨.ref s1.heap.objs.size,upd H1 s1.heap.objs.size (.tup xs),I1.laid (t':=s1.toks) (fun b u e=>Heap.get?_push_of_some _ e) (Nat.le_refl _) ?_,rfl,q _ hf⟩
 exact ⟨z,us,r,⟨_,Heap.get?_push_size _ rfl,rfl,_,rfl⟩⟩
theorem pe_lst (h:PA X es t):PE X (.List es pos) (tLst t):=by
 intro pins s σ H Q I hq
 refine wpAny_List_spliced (thn (h pos pins s σ H _ I hq) fun us s1 ⟨xs,H1,I1,r,z,q⟩=>⟨by rw [←r.length];exact z,?_⟩)
 have hf:H1 s1.heap.objs.size=none:=I1.hok.fresh (Nat.le_refl _)
 refine ⟨.ref s1.heap.objs.size,upd H1 s1.heap.objs.size (.lst xs),I1.laid (t':=s1.toks) (fun b u e=>Heap.get?_push_of_some _ e) (Nat.le_refl _) ?_,rfl,q _ hf⟩
 exact ⟨z,us,0,r,Heap.get?_push_size _ rfl⟩
end
abbrev Sp:=List V→Hp→VK→XK→Prop
abbrev CXT:=List Env→Hp→Shared→XK→Value→Shared→Prop
structure Env0 (P:Program) (w:World) (K:PySem.W.Frag) (mg:Str→Option Value) (base:Heap) (A:Around) (outer:List Env) (s:Shared) (H:Hp):Prop where
 frames:A.frames=some outer
 mod:Mod K mg base
 bs:∀ b o,base.get? b=some o→s.heap.get? b=some o∧H b=none
 bsz:base.objs.size≤s.heap.objs.size
 funs:s.heap.FunFrames base outer
 frf:∀ b∈frs outer,H b=none
 hok:HOk P w H s.heap
 bare:AllBare s.gens
 qt:Quiet A H
def CE (outer:List Env)(P:Program)(w:World)(H:Hp)(s:Shared)(Q:VK)(u:Value)(s':Shared):Prop:=
 ∃ v H',s'.os=s.os∧AllBare s'.gens∧Un (frs outer) [] H H' s.heap s'.heap∧HOk P w H' s'.heap∧RelV v u∧Q v H'
def CR (CX:CXT)(outer:List Env)(P:Program)(w:World)(H:Hp)(s:Shared)(Q:VK)(E:XK)(r:Result)(s':Shared):Prop:=
 match r with
 | .ok (.ret u)=>CE outer P w H s Q u s'
 | .ok _=>False
 | .error e=>CX outer H s E e s'
structure bQ (P:Program) (w:World) (K:PySem.W.Frag) (mg:Str→Option Value) (base:Heap) (CX:CXT) (k:Nat) (f:Addr) (fd:FuncData) (ps:List Str) (sp:Sp):Prop where
 len:∀ vs H Q E,sp vs H Q E→vs.length=ps.length
 run:∀ (A:Around) (outer:List Env) (s:Shared) (H:Hp) (args:Args) (us:List Value) (vs:List V) (Q:VK) (E:XK),oU k A→Env0 P w K mg base A outer s H→BindsTo s fd args (ps.zip us)→Vals vs us→sp vs H Q E →
  codeAny (model P w) A (.call (.ref f) args) (CR CX outer P w H s Q E) s
theorem bQ.mono {P:Program}{w:World}{K:PySem.W.Frag}{mg:Str→Option Value}{base:Heap}{CX:CXT}{j k:Nat}{f:Addr}{fd:FuncData}{ps:List Str}{sp:Sp}(F:bQ P w K mg base CX j f fd ps sp)(h:j≤k) :
  bQ P w K mg base CX k f fd ps sp:=⟨F.len,fun A outer s H args us vs Q E hr=>F.run A outer s H args us vs Q E (hr.mono h)⟩
theorem bQ.imp {P:Program}{w:World}{K:PySem.W.Frag}{mg:Str→Option Value}{base:Heap}{CX:CXT}{k:Nat}{f:Addr}{fd:FuncData}{ps:List Str}{sp sp':Sp}(F:bQ P w K mg base CX k f fd ps sp)
  (h:∀ vs H Q E,sp' vs H Q E→sp vs H Q E):bQ P w K mg base CX k f fd ps sp':=
 ⟨fun vs H Q E q=>F.len vs H Q E (h _ _ _ _ q),fun A outer s H args us vs Q E hr he hb hv hs=>F.run A outer s H args us vs Q E hr he hb hv (h _ _ _ _ hs)⟩
section
variable {X:Cx}{pins:List (Addr×Obj)}{σ : St}{H:Hp}{s s':Shared}
theorem Inv.env0 (I:Inv X pins σ H s):Env0 X.prog X.w X.K X.mg X.base X.A X.stack s H:=
 ⟨I.ok.frames,I.ok.mod,I.bs,Nat.le_trans I.ok.bsz I.sz,I.stack,I.stkFree,I.hok,I.bare,I.qt0⟩
theorem Inv.after {Q:VK}{u:Value}(I:Inv X pins σ H s)(h:CE X.stack X.prog X.w H s Q u s'):EP X pins σ Q u s':=by
 obtain ⟨v,H',os,bare,un,hok,r,q⟩:=h
 obtain ⟨hh,g,d,t,os'⟩:=s'
 obtain rfl:os'=s.os:=os
 exact ⟨v,H',I.call (h':=hh) (g':=g) (d':=d) (t':=t) (ch:=[]) un hok bare (fun b z=>absurd z (by simp)),r,q⟩
end
def tCall (sp:Sp)(dvs:List V)(E:XK)(t:TA):TE:=fun σ H Q=>t σ H fun vs H1=>sp (vs++dvs) H1 Q E
def Binds (K:PySem.W.Frag)(fd:FuncData)(ps:List Str)(ds:List Value):Prop:=
 ∀ (s:Shared) (us:List Value),K.In s.heap→(us++ds).length=ps.length→BindsTo s fd ⟨us,[]⟩ (ps.zip (us++ds))
theorem Binds.all {K:PySem.W.Frag}{fd:FuncData}{ps:List Str}(h:∀ us:List Value,us.length=ps.length→bindArgs fd ⟨us,[]⟩=pure (ps.zip us)):Binds K fd ps []:=fun s us _ hl=>by
 rw [List.append_nil] at hl ⊢
 exact .of_eq (h us hl)
def Passes (CX:CXT)(X:Cx)(E:XK):Prop:=∀ (pins:List (Addr×Obj)) (σ : St) (H:Hp) (s:Shared) (e:Value) (s':Shared),Inv X pins σ H s→CX X.stack H s E e s'→X.xe e s'
section
variable {X:Cx}{CX:CXT}{k:Nat}{f C:Addr}{fd:FuncData}{ps:List Str}{sp:Sp}{dvs:List V}{ds:List Value}{E:XK}{x m:Str}{p pos apos:Pos}{e o:Expr}{es:List Expr}{ta:TE}{t:TA}
theorem run_fn {pins:List (Addr×Obj)}{σ : St}{H:Hp}{s:Shared}{Q:VK}{us:List Value}{vs:List V}(F:bQ X.prog X.w X.K X.mg X.base CX k f fd ps sp)(hr:oU k X.A)(hb:Binds X.K fd ps ds)(hd:Vals dvs ds)(hx:Passes CX X E)
  (I:Inv X pins σ H s) (r:Vals vs us) (h:sp (vs++dvs) H Q E):wpAny (model X.prog X.w) X.A (call (.ref f) us) (EP X pins σ Q) X.xe s:=by
 have r2:Vals (vs++dvs) (us++ds):=r.append hd
 have hl:(us++ds).length=ps.length:=by rw [←r2.length];exact F.len _ _ _ _ h
 refine wpAny_call (codeAny_mono (F.run X.A X.stack s H ⟨us,[]⟩ (us++ds) (vs++dvs) Q E hr I.env0 (hb s us I.kIn hl) r2 h) fun r s' hq=>?_)
 cases r with
 | error e=>exact hx pins σ H s e s' I hq
 | ok fl=>
  cases fl with
  | ret u=>exact I.after hq
  | next=>exact False.elim hq
  | brk=>exact False.elim hq
  | cont=>exact False.elim hq
theorem pe_call (F:bQ X.prog X.w X.K X.mg X.base CX k f fd ps sp)(hr:oU k X.A)(hg:Gl X x)(hm:X.mg x=some (.ref f))(hk:PySem.W.keepIn X.K (.ref f)=true)(hb:Binds X.K fd ps ds)(hd:Vals dvs ds)(hx:Passes CX X E)
  (ha:PA X (e::es) t) (hdb:(x==("__debug__" : Str))=false:=by decide) (he:starEach (e::es) X.env=(false,eval e X.env)::starEach es X.env:=by rfl) (hpl:(backTo pos (starEach es X.env)).any (·.1)=false:=by rfl) :
  PE X (.Call (.Name x p) (e::es) [] pos) (tCall sp dvs E t):=by
 intro pins s σ H Q I h
 refine wpAny_Call_Name_kw (yU I hg hm ?_ hdb)
 refine PySem.W.callWith_K (h₀:=X.base) I.ok.mod.kin hk (thn (ha pos pins s σ H _ I h) fun us s1 ⟨vs,H1,I1,r,q⟩=>⟨I1.kIn,?_⟩) he hpl
 exact run_fn F hr hb hd hx I1 r q
theorem pe_call0 (F:bQ X.prog X.w X.K X.mg X.base CX k f fd ps sp)(hr:oU k X.A)(hg:Gl X x)(hm:X.mg x=some (.ref f))(hk:PySem.W.keepIn X.K (.ref f)=true)(hb:Binds X.K fd ps ds)(hd:Vals dvs ds)(hx:Passes CX X E)
  (hdb:(x==("__debug__" : Str))=false:=by decide):PE X (.Call (.Name x p) [] [] pos) (tCall sp dvs E tNil):=by
 intro pins s σ H Q I h
 refine wpAny_Call_Name_kw (yU I hg hm ?_ hdb)
 exact PySem.W.callWith_K0 I.kIn hk (run_fn (us:=[]) F hr hb hd hx I .nil h)
structure Mk (K:PySem.W.Frag) (C f:Addr):Prop where
 makes:PySem.W.makesIn K C=true
 init:PySem.W.findIn K (.ref C) "__init__" = some (some (.ref f))
 fn:PySem.W.isFn K (.ref f)=true
 kp:PySem.W.keepIn K (.ref C)=true
end
section
variable {X:Cx}{CX:CXT}{k:Nat}{f C:Addr}{fd:FuncData}{ps ks:List Str}{sp:Sp}{E:XK}{x m:Str}{p pos apos kpos:Pos}{e o:Expr}{es:List Expr}{kws:List Keyword}{te ta:TE}{t tk:TA}{nm:Option Str}
structure KBinds (K:PySem.W.Frag) (fd:FuncData) (ps ks:List Str) (g:List Value→List Value→List Value) (gV:List V→List V→List V):Prop where
 to:∀ (s:Shared) (us ws:List Value),K.In s.heap→(g us ws).length=ps.length→BindsTo s fd ⟨us,ks.zip ws⟩ (ps.zip (g us ws))
 rel:∀ {vs:List V} {us:List Value} {zs:List V} {ws:List Value},Vals vs us→Vals zs ws→Vals (gV vs zs) (g us ws)
variable {g:List Value→List Value→List Value}{gV:List V→List V→List V}
end
structure aJ (N P:List Str) (sc:Scope):Prop where
 kind:sc.kind=.function
 co:sc.isCoroutine=false
 gen:sc.isGenerator=false
 nd:N.Nodup
 pre:N.take P.length=P
 par:∀ x∈P,sc.names.lookup x=some .local∨sc.names.lookup x=some .cell
 nofree:∀ y∈sc.names,y.2≠.free
theorem wJ {kindOf:Str→Option NameKind}{x:Str}:∀ {binds:List (Str×Value)} {m:Str→Option Value},(∀ v,(x,v)∉binds)→bindL kindOf binds m x=m x
 | [],_,_=>rfl
 | (n,v)::r,m,h=>by
  unfold bindL
  rw [wJ fun w hw=>h w (List.mem_cons_of_mem _ hw)]
  split
  ·have:x≠n:=by rintro rfl;exact h v List.mem_cons_self
   simp [this]
  ·rfl
theorem xr {kindOf:Str→Option NameKind}{x:Str}:∀ {binds:List (Str×Value)} {m:Str→Option Value},(∀ v,(x,v)∉binds)→bindC kindOf binds m x=m x
 | [],_,_=>rfl
 | (n,v)::r,m,h=>by
  unfold bindC
  rw [xr fun w hw=>h w (List.mem_cons_of_mem _ hw)]
  split
  ·rfl
  ·have:x≠n:=by rintro rfl;exact h v List.mem_cons_self
   simp [this]
theorem wz {kindOf:Str→Option NameKind}{x:Str}{v:Value}:∀ {P:List Str} {vs:List Value} {i:Nat} {m:Str→Option Value},P.Nodup→P[i]?=some x→vs[i]?=some v→kindOf x=some .local →
  bindL kindOf (P.zip vs) m x=some v
 | [],_,_,_,_,h,_,_=>by simp at h
 | _::_,[],_,_,_,_,h,_=>by simp at h
 | p::P,w::vs,0,m,nd,h1,h2,hk=>by
  simp at h1 h2;subst h1;subst h2
  show bindL kindOf ((p,w)::P.zip vs) m p=_
  unfold bindL
  rw [wJ fun v hv=>(List.nodup_cons.mp nd).1 (List.of_mem_zip hv).1,if_pos hk]
  simp
 | p::P,w::vs,i+1,m,nd,h1,h2,hk=>by
  show bindL kindOf ((p,w)::P.zip vs) m x=_
  unfold bindL
  exact wz (i:=i) (List.nodup_cons.mp nd).2 (by simpa using h1) (by simpa using h2) hk
theorem xT {kindOf:Str→Option NameKind}{x:Str}{v:Value}:∀ {P:List Str} {vs:List Value} {i:Nat} {m:Str→Option Value},P.Nodup→P[i]?=some x→vs[i]?=some v→kindOf x≠some .local →
  bindC kindOf (P.zip vs) m x=some v
 | [],_,_,_,_,h,_,_=>by simp at h
 | _::_,[],_,_,_,_,h,_=>by simp at h
 | p::P,w::vs,0,m,nd,h1,h2,hk=>by
  simp at h1 h2;subst h1;subst h2
  show bindC kindOf ((p,w)::P.zip vs) m p=_
  unfold bindC
  rw [xr fun v hv=>(List.nodup_cons.mp nd).1 (List.of_mem_zip hv).1,if_neg hk]
  simp
 | p::P,w::vs,i+1,m,nd,h1,h2,hk=>by
  show bindC kindOf ((p,w)::P.zip vs) m x=_
  unfold bindC
  exact xT (i:=i) (List.nodup_cons.mp nd).2 (by simpa using h1) (by simpa using h2) hk
def start (N:List Str)(vs:List V):St:=vs.map some++List.replicate (N.length - vs.length) none
def cxOf (CX:CXT)(P:Program)(w:World)(K:PySem.W.Frag)(mg:Str→Option Value)(base:Heap)(N:List Str)(qual:Str)(scope:Scope)(f:Addr)(cd:Value)(A:Around)(outer:List Env)(s:Shared)(H:Hp)(E:XK):Cx where
 prog:=P
 w:=w
 K:=K
 mg:=mg
 base:=base
 A:=A.deeper (envOfC qual scope s.heap.objs.size f cd)
 N:=N
 s₀:=s
 H₀:=H
 env:=envOfC qual scope s.heap.objs.size f cd
 outer:=outer
 stack:=envOfC qual scope s.heap.objs.size f cd::outer
 ex:=[]
 calm:=A.handled.isNone
 fn:=fun _=>true
 pn:=[]
 xe:=fun e s'=>wpAny (model P w) (A.deeper (envOfC qual scope s.heap.objs.size f cd)) (leaving (envOfC qual scope s.heap.objs.size f cd) e) (fun _ s''=>CX outer H s E e s'') (fun e' s''=>CX outer H s E e' s'') s'
theorem cell_has {sc:Scope}{n:Nat}{x:Str}(h:sc.names.lookup x=some .cell):∃ c,(cellsFrom n sc.names []).lookup x=some c:=by
 have q:=PySem.W.cellsFrom_some sc.names n [] (.inl h)
 exact Option.isSome_iff_exists.mp q
theorem inv_start {CX:CXT}{P:Program}{w:World}{K:PySem.W.Frag}{mg:Str→Option Value}{base:Heap}{N ps:List Str}{qual:Str}{scope:Scope}{f:Addr}{cd:Value}{A:Around}{outer:List Env}{s s1:Shared}{H:Hp}{E:XK}{us:List Value}{vs:List V}
  (S:aJ N ps scope) (e0:Env0 P w K mg base A outer s H) (hl:vs.length=ps.length) (r:Vals vs us)
  (x:InCallC s s.heap.objs.size (bindL (envOfC qual scope s.heap.objs.size f cd).kindOf (ps.zip us) fun _=>none) (cellsFrom (s.heap.objs.size+1) scope.names []) (bindC (envOfC qual scope s.heap.objs.size f cd).kindOf (ps.zip us) fun _=>none) s1) :
  Inv (cxOf CX P w K mg base N qual scope f cd A outer s H E) [] (start N vs) H s1:=by
 have hpl:ps.length≤N.length:=by have:=congrArg List.length S.pre;rw [List.length_take] at this;omega
 obtain ⟨h1,tk,rfl,hk⟩:=x.done
 have noA:∀ b:Addr,b∉(cxOf CX P w K mg base N qual scope f cd A outer s H E).ex:=fun b z=>absurd (show b∈([]:List Addr) from z) (by simp)
 refine ⟨⟨e0.mod,S.kind,rfl,rfl,Nat.le_refl _,fun y z c h1 h2=>?_,fun y hy=>?_,fun y c _ h=>?_,fun z=>Option.isNone_iff_eq_none.mp (show A.handled.isNone=true from z),e0.qt,Around.frames_deeper e0.frames,.inr ⟨rfl,rfl⟩,fun b z=>absurd z (noA b),e0.bs,e0.bsz,fun b _ _=>noA b,fun b z=>absurd z (noA b),e0.funs,e0.frf⟩,
  rfl,e0.bare,Un.kept hk,⟨_,x.toInCall.ns,fun i y v h1 h2 h3=>?_⟩,fun y c h=>⟨_,x.cell y c h⟩,e0.hok.fresh (Nat.le_refl _),fun y c h=>?_,fun p hp=>absurd (show p∈([]:List (Addr×Obj)) from hp) (by simp),e0.hok.kept hk,?_⟩
 ·exact name_of_addr x.apart (PySem.mem_of_lookup h1) (PySem.mem_of_lookup h2)
 ·have hy:scope.names.lookup y=some .cell∨scope.names.lookup y=some .free:=hy
  rcases hy with hy | hy
  ·exact cell_has hy
  ·exact absurd rfl (S.nofree _ (PySem.mem_of_lookup hy))
 ·exact Nat.le_of_lt (x.above y c (PySem.mem_of_lookup h))
 ·have hi:i<vs.length:=by
   unfold start at h2
   by_cases hi:i<vs.length
   ·exact hi
   ·rw [List.getElem?_append_right (by simpa using hi)] at h2
    rw [List.getElem?_replicate] at h2
    split at h2 <;> cases h2
  have ha:vs[i]?=some v:=by
   unfold start at h2
   rw [List.getElem?_append_left (by simpa using hi),List.getElem?_map] at h2
   cases e:vs[i]? with
   | none=>rw [e] at h2;cases h2
   | some a=>rw [e] at h2;cases h2;rfl
  obtain ⟨u,hu,rv⟩:=r.get ha
  have hp:ps[i]?=some y:=by
   rw [←S.pre,List.getElem?_take_of_lt (by omega)];exact h1
  have ndP:ps.Nodup:=by rw [←S.pre];exact S.nd.sublist (List.take_sublist _ _)
  refine ⟨u,rv,?_⟩
  rcases S.par y (List.mem_of_getElem? hp) with k | k
  ·exact .inl ⟨k,wz ndP hp hu k⟩
  ·obtain ⟨c,e⟩:=cell_has (n:=s.heap.objs.size+1) k
   refine .inr ⟨.inl k,c,e,?_⟩
   have q:=x.cell y c e
   rw [xT ndP hp hu (by show scope.names.lookup y≠_;rw [k];decide)] at q
   exact q
 ·exact e0.hok.fresh (Nat.le_of_lt (x.above y c (PySem.mem_of_lookup h)))
 ·unfold start
  show _=N.length
  rw [List.length_append,List.length_map,List.length_replicate]
  omega
theorem fn_of {CX:CXT}{P:Program}{w:World}{K:PySem.W.Frag}{mg:Str→Option Value}{base:Heap}{k:Nat}{f:Addr}{name qual:Str}{params:Arguments}{body:List Stmt}{scope:Scope}{dV kV doc pm cdv ct oc:Value}{an od:Option Addr}
  {osl:Array (Option Value)} {N ps:List Str} {sp:Sp} (lk:K.lookup f=some ⟨oc,od,.func (PySem.W.fnOf name qual params body scope dV kV doc pm an cdv ct),osl⟩) (hcd:PySem.W.codeIn K cdv qual=true) (S:aJ N ps scope)
  (len:∀ vs H Q E,sp vs H Q E→vs.length=ps.length)
  (hbody:∀ (A:Around) (outer:List Env) (s:Shared) (H:Hp) (vs:List V) (Q:VK) (E:XK),oU k (A.deeper (envOfC qual scope s.heap.objs.size f cdv))→sp vs H Q E →
   ∃ t,PSs (cxOf CX P w K mg base N qual scope f cdv A outer s H E) body t∧t { nx:=fun _ H'=>Q .non H',rt:=Q } (start N vs) H) :
  bQ P w K mg base CX (k+1) f (PySem.W.fnOf name qual params body scope dV kV doc pm an cdv ct) ps sp:=by
 refine ⟨len,fun A outer s H args us vs Q E hr e0 hb r hsp=>?_⟩
 have hl:=len _ _ _ _ hsp
 have KX:K.In s.heap:=e0.mod.kin.keeps fun b o e=>(e0.bs b o e).1
 have lim:s.heap.NoLimit:=e0.mod.nolimit.keeps fun b o e=>(e0.bs b o e).1
 have hkind:∀ y∈ps.zip us,scope.names.lookup y.1=some .local∨(scope.names.lookup y.1=some .cell∧((cellsFrom (s.heap.objs.size+1) scope.names []).lookup y.1).isSome=true):=fun ⟨n,v⟩ hy=>by
  rcases S.par n (List.of_mem_zip hy).1 with q | q
  ·exact .inl q
  ·exact .inr ⟨q,PySem.W.cellsFrom_some _ _ _ (.inl q)⟩
 refine codeAny_call_function hr.depth (KX _ _ lk) rfl S.co S.gen rfl (PySem.W.codeRec_of KX hcd) (hb _ _ _ _ ?_)
 refine wpAny_newFunctionEnv_cells S.kind hkind fun env he s1 x=>?_
 subst he
 refine ⟨lim.keeps x.toInCall.keep,codeAny_func ?_⟩
 obtain ⟨t,ht,hq⟩:=hbody A outer s H vs Q E (hr.deeper _) hsp
 have I:Inv (cxOf CX P w K mg base N qual scope f cdv A outer s H E) [] (start N vs) H s1:=inv_start S e0 hl r x
 refine wpAny_mono (ht [] s1 (start N vs) H _ I hq) (fun fl s' hs=>?_) fun e s' hs=>hs
 have fin:∀ {σ':St} {H':Hp} {v:V} {u:Value},Inv (cxOf CX P w K mg base N qual scope f cdv A outer s H E) [] σ' H' s'→RelV v u→Q v H'→CE outer P w H s Q u s':=
  fun {σ' H' v u} J rv q=>⟨v,H',J.os,J.bare,J.base,J.hok,rv,q⟩
 cases fl with
 | ret u=>
  obtain ⟨v,σ',H',J,rv,q⟩:=hs
  exact fin J rv q
 | next=>
  obtain ⟨σ',H',J,q⟩:=hs
  exact fin (v:=V.non) (u:=Value.none) J rfl q
 | brk=>
  obtain ⟨_,_,_,q⟩:=hs
  exact False.elim q
 | cont=>
  obtain ⟨_,_,_,q⟩:=hs
  exact False.elim q
end L2
namespace L2
open PySem PySem.Spec PyProof.Rows
section
variable {X:Cx}{x:Str}{p pos:Pos}{e:Expr}{es:List Expr}{t:TA}{id T:String}{r:List V→Hp→VK→Prop}
def tCB (r:List V→Hp→VK→Prop)(t:TA):TE:=fun σ H Q=>t σ H fun vs H1=>r vs H1 Q
theorem pe_callB (hc:lO X (.builtin id) r)(hg:Gl X x)(hm:X.mg x=none)(hv:bootBuiltins x=some (.builtin id))(ha:PA X (e::es) t)(hn:x ≠ "__name__":=by decide)(hdb:(x==("__debug__" : Str))=false:=by decide)
  (he:starEach (e::es) X.env=(false,eval e X.env)::starEach es X.env:=by rfl) (hpl:(backTo pos (starEach es X.env)).any (·.1)=false:=by rfl):PE X (.Call (.Name x p) (e::es) [] pos) (tCB r t):=by
 intro pins s σ H Q I h
 refine wpAny_Call_Name_kw (qZ I hg hm hv ?_ hn hdb)
 exact PyProof.Rows.callWith_builtin1 (thn (ha pos pins s σ H _ I h) fun us s1 ⟨vs,H1,I1,r1,q1⟩=>hc pins s1 σ H1 vs us Q I1 r1 q1) he hpl
theorem pe_callTy (hc:lO X (.type T) r)(hg:Gl X x)(hm:X.mg x=none)(hv:bootBuiltins x=some (.type T))(ha:PA X (e::es) t)(hn:x ≠ "__name__":=by decide)(hdb:(x==("__debug__" : Str))=false:=by decide)
  (he:starEach (e::es) X.env=(false,eval e X.env)::starEach es X.env:=by rfl) (hpl:(backTo pos (starEach es X.env)).any (·.1)=false:=by rfl):PE X (.Call (.Name x p) (e::es) [] pos) (tCB r t):=by
 intro pins s σ H Q I h
 refine wpAny_Call_Name_kw (qZ I hg hm hv ?_ hn hdb)
 exact PyProof.Rows.callWith_type1 (thn (ha pos pins s σ H _ I h) fun us s1 ⟨vs,H1,I1,r1,q1⟩=>hc pins s1 σ H1 vs us Q I1 r1 q1) he hpl
end
end L2
namespace HT
open PySem PyProof.Rows
section
open PySem.SeqAt
open PySem.AutoSeq1 (wpAny_loadPart')
open PySem.MeetsSeq PySem.MeetsSeq2 PySem.MeetsSeq3
end
section
variable {prog:Program}{w:World}{A:Around}{E:Value→Shared→Prop}{s:Shared}
theorem cat_tup {t b:Addr}{vs ws:List Value}{Q:Value→Shared→Prop}(ht:IsTup s.heap t vs.toArray)(hb:IsTup s.heap b ws.toArray)(hv:vs≠[])
  (h1:ws=[]→Q (.ref t) s) (h2:ws≠[]→Q (.ref s.heap.objs.size) { s with heap:=s.heap.push { cls:=.type "tuple",data:=.seq (vs++ws).toArray } })
  (hsz:vs.length+ws.length≤sizeLine):wpAny (model prog w) A (binaryOp .Add (.ref t) (.ref b)) Q E s:=by
 obtain ⟨⟨cls,dd,data,sl⟩,ho,hc,n,hd⟩:=id ht
 obtain ⟨⟨cls2,dd2,data2,sl2⟩,ho2,hc2,n2,hd2⟩:=id hb
 simp only at hc hd hc2 hd2
 subst hc hd hc2 hd2
 have e:vs.toArray++ws.toArray=(vs++ws).toArray:=by simp
 by_cases hw:ws=[]
 ·exact concat_meets ⟨_,ho,rfl⟩ ⟨_,ho2,rfl⟩ noFill_tuple_add seq_tuple_add PySem.F.slot_tuple_add PySem.F.entry_tuple_add (PySem.F.args_tuple_add_2 _ _)
   (tuple_addW1 t b vs.toArray ws.toArray n n2 dd dd2 sl sl2 (by simpa using hv) (by simp [hw])) ⟨ho,ho2,h1 hw⟩
 ·refine concat_meets ⟨_,ho,rfl⟩ ⟨_,ho2,rfl⟩ noFill_tuple_add seq_tuple_add PySem.F.slot_tuple_add PySem.F.entry_tuple_add (PySem.F.args_tuple_add_2 _ _)
   (tuple_addW2 t b vs.toArray ws.toArray n n2 dd dd2 sl sl2 (by simpa using hv) (by simpa using hw) (by rw [List.size_toArray,List.size_toArray];exact hsz)) ⟨ho,ho2,?_⟩
  rw [e]
  exact h2 hw
def sIx (n d:Nat):Option Int→Nat
 | none=>d
 | some v=>if v<0 then (v+(n:Int)).toNat else min v.toNat n
theorem sIx_le (n d:Nat)(hd:d≤n)(o:Option Int):sIx n d o≤n:=by
 cases o with
 | none=>exact hd
 | some v=>
  show (if v<0 then (v+(n:Int)).toNat else min v.toNat n)≤n
  by_cases hv:v<0
  ·rw [if_pos hv];omega
  ·rw [if_neg hv];exact Nat.min_le_right _ _
theorem clip_eq (v:Int)(n d:Nat):(if v<0 then max (v+(n:Int)) 0 else min v (n:Int))=((sIx n d (some v):Nat):Int):=by
 show (if v<0 then max (v+(n:Int)) 0 else min v (n:Int))=(((if v<0 then (v+(n:Int)).toNat else min v.toNat n):Nat):Int)
 by_cases hv:v<0
 ·simp only [if_pos hv];omega
 ·simp only [if_neg hv];omega
theorem adjust_gen (lo hi:Option Int)(n:Nat):Builtin.Slice.sliceAdjust lo hi 1 (n:Int)=(((sIx n 0 lo:Nat):Int),((sIx n n hi:Nat):Int)):=by
 have h1:¬ ((1:Int)<0):=by omega
 unfold Builtin.Slice.sliceAdjust
 simp only [h1,if_false]
 refine Prod.ext ?_ ?_
 ·cases lo with
  | none=>rfl
  | some v=>exact clip_eq v n 0
 ·cases hi with
  | none=>rfl
  | some v=>exact clip_eq v n n
theorem places_gen (i j:Nat):Builtin.Slice.slicePlaces (i:Int) (j:Int) 1=j - i:=by
 unfold Builtin.Slice.slicePlaces
 have h1:(1:Int)>0:=by omega
 simp only [h1,if_true,Int.ediv_one]
 split <;> omega
theorem tG {v:Value}{o:Option Int}{Q:Option Int→Shared→Prop}(p:IsPart v o)(h:Q o s):wpAny (model prog w) A (Builtin.Slice.slicePartIndex v) Q E s:=by
 cases p with
 | none=>exact slicePart_none h
 | int i t=>exact slicePart_int h
theorem iG {sl:Addr}{vl vu:Value}{lo hi:Option Int}{n:Nat}{Q:Int×Int×Nat→Shared→Prop}(hs:s.heap.IsSliceOf sl vl vu .none)(pl:IsPart vl lo)(pu:IsPart vu hi)
  (h:Q (((sIx n 0 lo:Nat):Int),1,sIx n n hi - sIx n 0 lo) s):wpAny (model prog w) A (Builtin.Slice.sliceApplied (.ref sl) (pure (n:Int))) Q E s:=by
 obtain ⟨os,hos,hcs,hds⟩:=id hs
 unfold Builtin.Slice.sliceApplied Builtin.Slice.sliceFields
 refine wpAny_bind (wpAny_bind (wpAny_field hos hds (x:=vl) rfl (wpAny_bind (wpAny_field hos hds (x:=vu) rfl (wpAny_bind (wpAny_field hos hds (x:=.none) rfl (wpAny_pure ?_)))))))
 refine wpAny_bind (slicePart_none ?_)
 show wpAny _ _ (if ((1:Int)==0)=true then _ else _) _ _ s
 rw [if_neg (by decide)]
 refine wpAny_bind (tG pl (wpAny_bind (tG pu (wpAny_bind (wpAny_pure ?_)))))
 show wpAny _ _ (match Builtin.Slice.sliceAdjust lo hi 1 (n:Int) with | (lo,hi)=>pure (lo,(1:Int),Builtin.Slice.slicePlaces lo hi 1)) _ _ s
 rw [adjust_gen lo hi n]
 show wpAny _ _ (pure (((sIx n 0 lo:Nat):Int),(1:Int),Builtin.Slice.slicePlaces ((sIx n 0 lo:Nat):Int) ((sIx n n hi:Nat):Int) 1)) _ _ s
 rw [places_gen]
 exact wpAny_pure h
theorem pick_gen (xs:Array Value)(i k:Nat):((List.range k).filterMap fun (m:Nat)=>xs[((i:Int)+(m:Int)*1).toNat]?).toArray=((xs.toList.drop i).take k).toArray:=by
 have e:(fun (m:Nat)=>xs[((i:Int)+(m:Int)*1).toNat]?)=fun m=>xs[i+m]?:=by
  funext m
  have:((i:Int)+(m:Int)*1).toNat=i+m:=by omega
  rw [this]
 rw [e]
 have:=pick_run xs i k
 rw [List.filterMap_map] at this
 have e2:((fun x=>xs[x]?) ∘ fun x=>i+x)=fun m=>xs[i+m]?:=rfl
 rw [e2] at this
 rw [this]
theorem nO {t sl:Addr}{items:Array Value}{vl vu:Value}{lo hi:Option Int}{Q:Value→Shared→Prop}(ht:IsTup s.heap t items)(hs:s.heap.IsSliceOf sl vl vu .none)(pl:IsPart vl lo)(pu:IsPart vu hi)
  (hw:¬ (sIx items.size 0 lo=0∧sIx items.size items.size hi=items.size))
  (h:Q (.ref s.heap.objs.size) { s with heap:=s.heap.push { cls:=.type "tuple",data:=.seq ((items.toList.drop (sIx items.size 0 lo)).take (sIx items.size items.size hi - sIx items.size 0 lo)).toArray } })
  (hsz:items.size≤sizeLine):wpAny (model prog w) A (getItem (.ref t) (.ref sl)) Q E s:=by
 have htake:sizeOk (.seq ((items.toList.drop (sIx items.size 0 lo)).take (sIx items.size items.size hi - sIx items.size 0 lo)).toArray):=by
  show ((items.toList.drop (sIx items.size 0 lo)).take (sIx items.size items.size hi - sIx items.size 0 lo)).toArray.size≤sizeLine
  rw [List.size_toArray,List.length_take,List.length_drop,Array.length_toList]
  omega
 have hj:sIx items.size items.size hi≤items.size:=sIx_le _ _ (Nat.le_refl _) hi
 obtain ⟨os,hos,hcs,hds⟩:=id hs
 have hTs:s.TypeIs (.ref sl) "slice":=⟨os,hos,hcs⟩
 unfold getItem
 try with_reducible refine wpAny_holding ?_
 first | refine wpAny_bind (wpAny_pure ?_) | skip
 refine wpAny_bind (wpAny_sequenceKey ht.typeIs (by decide) ?_)
 refine wpAny_bind (wpAny_callSpecial?_slot (name:=Str.ofString "__getitem__") ht.typeIs PyProof.Rows.slot_tuple_getitem
  (wpAny_call_entry PyProof.Rows.slot_tuple_getitem ht.typeIs entry_tuple_getitem ?_ (args_tuple_getitem _ _)))
 show wpAny _ _ (Builtin.Tuple.tupleItemsOf (.ref t) >>= _) _ _ s
 refine wpAny_bind (tupleItemsOf_ ht ?_)
 refine wpAny_bind (wpAny_typeOf hTs ?_)
 rw [if_pos (by decide)]
 refine wpAny_bind (iG hs pl pu ?_)
 have hno:¬ ((((sIx items.size 0 lo:Nat):Int)==0&&(1:Int)==1&&(sIx items.size items.size hi - sIx items.size 0 lo)==items.size)=true):=by
  intro q
  rw [Bool.and_eq_true,Bool.and_eq_true] at q
  have q1:((sIx items.size 0 lo:Nat):Int)=0:=eq_of_beq q.1.1
  have q2:sIx items.size items.size hi - sIx items.size 0 lo=items.size:=eq_of_beq q.2
  exact hw ⟨by omega,by omega⟩
 show wpAny _ _ (if (((sIx items.size 0 lo:Nat):Int)==0&&(1:Int)==1&&(sIx items.size items.size hi - sIx items.size 0 lo)==items.size)=true then _ else _) _ _ s
 rw [if_neg hno,pick_gen]
 first
  | exact wpAny_bind (m:=Builtin.Tuple.tupleExact _) (wpAny_newObj_type (wpAny_pure ⟨_,rfl,wpAny_pure h⟩) htake)
  | exact wpAny_bind (m:=Builtin.Tuple.tupleExact _) (wpAny_newObj_type (wpAny_bind (wpAny_pure (wpAny_pure ⟨_,rfl,wpAny_pure h⟩))) htake)
  | exact wpAny_bind (wpAny_bind (m:=Builtin.Tuple.tupleExact _) (wpAny_newObj_type (wpAny_pure (wpAny_pure ⟨_,rfl,wpAny_pure h⟩)) htake))
  | exact wpAny_bind (wpAny_bind (m:=Builtin.Tuple.tupleExact _) (wpAny_newObj_type (wpAny_pure ⟨_,rfl,wpAny_pure h⟩) htake))
end
end HT
namespace L2
open PySem PySem.Spec PyProof.Rows
abbrev TO:=St→Hp→(Option Int→Hp→Prop)→Prop
def PO (X:Cx)(e:Option Expr)(t:TO):Prop:=
 ∀ (pins:List (Addr×Obj)) (s:Shared) (σ : St) (H:Hp) (Q:Option Int→Hp→Prop),Inv X pins σ H s→t σ H Q →
  wpAny (model X.prog X.w) X.A (evalPart e X.env) (fun u s'=>∃ o H',Inv X pins σ H' s'∧IsPart u o∧Q o H') X.xe s
def tNoPart:TO:=fun _ H Q=>Q none H
def tPart (t:TE):TO:=fun σ H Q=>t σ H fun x H1=>∃ i,x=.int i∧Q (some i) H1
section
variable {X:Cx}{e:Expr}{te:TE}{lo hi:Option Expr}{tl th:TO}{pos p2:Pos}
theorem po_none:PO X none tNoPart:=by
 intro pins s σ H Q I h
 rw [evalPart_none]
 exact wpAny_pure ⟨none,H,I,.none,h⟩
theorem po_some (h:PE X e te):PO X (some e) (tPart te):=by
 intro pins s σ H Q I hw
 rw [evalPart_some]
 refine thn (h pins s σ H _ I hw) fun u s1 ⟨x,H1,I1,r1,q1⟩=>?_
 obtain ⟨i,rfl,q⟩:=q1
 obtain ⟨t,rfl⟩:=r1
 exact ⟨some i,H1,I1,.int i t,q⟩
def SlR (X:Cx)(r:V→Option Int→Option Int→Hp→VK→Prop):Prop:=
 ∀ (pins:List (Addr×Obj)) (s:Shared) (σ : St) (H:Hp) (x:V) (v vl vu:Value) (lo hi:Option Int) (sl:Addr) (Q:VK),Inv X pins σ H s→RelV x v→s.heap.IsSliceOf sl vl vu .none→IsPart vl lo→IsPart vu hi→r x lo hi H Q →
  ∃ T id,typeLookup (.type T) "__getitem__" = pure (some (.builtin id))∧s.TypeIs v T∧wpAny (model X.prog X.w) X.A (getItem v (.ref sl)) (EP X pins σ Q) X.xe s
theorem SlR.or {r r':V→Option Int→Option Int→Hp→VK→Prop}(h:SlR X r)(h':SlR X r'):SlR X (fun x lo hi H Q=>r x lo hi H Q∨r' x lo hi H Q):=by
 intro pins s σ H x v vl vu lo hi sl Q I rx hs pl pu q
 rcases q with q | q
 ·exact h pins s σ H x v vl vu lo hi sl Q I rx hs pl pu q
 ·exact h' pins s σ H x v vl vu lo hi sl Q I rx hs pl pu q
def tSl (r:V→Option Int→Option Int→Hp→VK→Prop)(te:TE)(tl th:TO):TE:=fun σ H Q=>te σ H fun x H1=>tl σ H1 fun l H2=>th σ H2 fun u H3=>r x l u H3 Q
theorem pe_slice {r:V→Option Int→Option Int→Hp→VK→Prop}(hr:SlR X r)(he:PE X e te)(hl:PO X lo tl)(hu:PO X hi th):PE X (.Subscript e (.Slice lo hi none p2) pos) (tSl r te tl th):=by
 intro pins s σ H Q I h
 refine Subscript_ (thn (he pins s σ H _ I h) fun v s1 ⟨x,H1,I1,r1,q1⟩=>?_)
 refine wpAny_Slice (thn (hl pins s1 σ H1 _ I1 q1) fun vl s2 ⟨l,H2,I2,pl,q2⟩=>thn (hu pins s2 σ H2 _ I2 q2) fun vu s3 ⟨u,H3,I3,pu,q3⟩=>?_)
 rw [evalPart_none]
 refine wpAny_pure ?_
 have I4:Inv X pins σ H3 { s3 with heap:=s3.heap.push { cls:=.type "slice",data:=.fields #[vl,vu,.none] } }:=I3.kept (t':=s3.toks) fun b ob q=>Heap.get?_push_of_some _ q
 obtain ⟨T,id,hT,ht,hg⟩:=hr pins { s3 with heap:=s3.heap.push { cls:=.type "slice",data:=.fields #[vl,vu,.none] } } σ H3 x v vl vu l u s3.heap.objs.size Q I4 r1 (Heap.IsSliceOf.new ..) pl pu q3
 show wpAny (model X.prog X.w) X.A (subscriptTail e (.Slice lo hi none p2) v (.ref s3.heap.objs.size)) (EP X pins σ Q) X.xe { s3 with heap:=s3.heap.push { cls:=.type "slice",data:=.fields #[vl,vu,.none] } }
 exact tail_any (ops:=[.ref s3.heap.objs.size,v]) ht hT hg (by with_unfolding_all rfl)
def cutV (xs:List V)(lo hi:Option Int):List V:=(xs.drop (HT.sIx xs.length 0 lo)).take (HT.sIx xs.length xs.length hi - HT.sIx xs.length 0 lo)
theorem qX (xs:List V)(lo hi:Option Int):(cutV xs lo hi).length≤xs.length:=by
 unfold cutV
 rw [List.length_take,List.length_drop]
 omega
def rSlT (K:PySem.W.Frag):V→Option Int→Option Int→Hp→VK→Prop:=fun x lo hi H Q=>∃ a xs,x=.ref a∧SqT K H a xs ∧
 ¬ (HT.sIx xs.length 0 lo=0∧HT.sIx xs.length xs.length hi=xs.length)∧∀ p,H p=none→Q (.ref p) (upd H p (.tup (cutV xs lo hi)))
theorem sl_tup:SlR X (rSlT X.K):=by
 intro pins s σ H x v vl vu lo hi sl Q I rx hs pl pu h
 obtain ⟨a,xs,rfl,hx,hw,q⟩:=h
 cases rx
 obtain ⟨its,r,ht,hz⟩:=I.tuple hx
 have hlen:its.toArray.size=xs.length:=by rw [List.size_toArray];exact r.length.symm
 refine ⟨"tuple",_,PyProof.Rows.slot_tuple_getitem.lookup,ht.typeIs,?_⟩
 refine HT.nO ht hs pl pu (by rw [hlen];exact hw) ?_ (by rw [hlen];exact hz)
 rw [hlen]
 refine ⟨.ref s.heap.objs.size,_,I.laid (t':=s.toks) (o:=.tup (cutV xs lo hi)) (fun b ob q=>Heap.get?_push_of_some _ q) (Nat.le_refl _) ?_,rfl,q _ (I.hok.fresh (Nat.le_refl _))⟩
 exact ⟨Nat.le_trans (qX xs lo hi) hz,_,(r.drop (HT.sIx xs.length 0 lo)).take (HT.sIx xs.length xs.length hi - HT.sIx xs.length 0 lo),IsTup.new _ _⟩
def rCatT (K:PySem.W.Frag):R2:=fun x y H Q=>∃ a b xs ys,x=.ref a∧y=.ref b∧SqT K H a xs∧SqT K H b ys∧xs≠[]∧xs.length+ys.length≤sizeLine ∧
 (ys=[]→Q (.ref a) H)∧(ys≠[]→∀ p,H p=none→Q (.ref p) (upd H p (.tup (xs++ys))))
theorem Vals.nil_iff {xs:List V}{us:List Value}(r:Vals xs us):us=[]↔xs=[]:=by
 cases r with
 | nil=>simp
 | cons _ _=>simp
theorem op_catT:OpR X (binaryOp .Add) (rCatT X.K):=by
 intro pins s σ H x y v u Q I rx ry h
 obtain ⟨a,b,xs,ys,rfl,rfl,ha,hb,hx,hz,q1,q2⟩:=h
 cases rx
 cases ry
 obtain ⟨its,r1,p1,_⟩:=I.tuple ha
 obtain ⟨its2,r2,p2,_⟩:=I.tuple hb
 refine HT.cat_tup p1 p2 (fun z=>hx (r1.nil_iff.mp z)) (fun z=>⟨.ref a,H,I,rfl,q1 (r2.nil_iff.mp z)⟩) (fun z=>?_) (by rw [←r1.length,←r2.length];exact hz)
 refine ⟨.ref s.heap.objs.size,_,I.laid (t':=s.toks) (o:=.tup (xs++ys)) (fun b ob q=>Heap.get?_push_of_some _ q) (Nat.le_refl _) ?_,rfl,q2 (fun w=>z (r2.nil_iff.mpr w)) _ (I.hok.fresh (Nat.le_refl _))⟩
 exact ⟨by rw [List.length_append];exact hz,_,r1.append r2,IsTup.new _ _⟩
end
end L2
namespace L2
open PySem PySem.Spec PyProof.Rows
def ixN (n:Nat)(i:Int):Option Nat:=if 0≤i then (if i<n then some i.toNat else none) else if -(n:Int)≤i then some (i+n).toNat else none
def atI {α : Type}(xs:List α)(i:Int):Option α:=(ixN xs.length i).bind fun j=>xs[j]?
theorem ixN_seq {n:Nat}{i:Int}{j:Nat}(h:ixN n i=some j):seqIndex? i n=some j∧j<n∧-(n:Int)≤i∧i<n:=by
 unfold ixN at h
 by_cases h0:0≤i
 ·rw [if_pos h0] at h
  by_cases h1:i<n
  ·rw [if_pos h1] at h
   have e:i.toNat=j:=Option.some.inj h
   exact ⟨by rw [seqIndex_of h0 h1,e],by omega,by omega,h1⟩
  ·rw [if_neg h1] at h;cases h
 ·rw [if_neg h0] at h
  by_cases h1:-(n:Int)≤i
  ·rw [if_pos h1] at h
   have e:(i+n).toNat=j:=Option.some.inj h
   exact ⟨by rw [seqIndex_neg (by omega) h1,e],by omega,h1,by omega⟩
  ·rw [if_neg h1] at h;cases h
theorem zL {α : Type}{xs:List α}{i:Int}{v:α}(h:atI xs i=some v):∃ j,seqIndex? i xs.length=some j∧xs[j]?=some v∧j<xs.length∧-(xs.length:Int)≤i∧i<xs.length:=by
 unfold atI at h
 cases e:ixN xs.length i with
 | none=>rw [e] at h;cases h
 | some j=>
  rw [e] at h
  obtain ⟨h1,h2,h3,h4⟩:=ixN_seq e
  exact ⟨j,h1,h,h2,h3,h4⟩
theorem nu {α : Type}{xs:List α}{j:Nat}{v:α}(h:xs[j]?=some v):atI xs (j:Int)=some v:=by
 have hj:j<xs.length:=(List.getElem?_eq_some_iff.mp h).1
 have e:ixN xs.length (j:Int)=some j:=by
  unfold ixN
  rw [if_pos (by omega),if_pos (by omega)];simp
 unfold atI;rw [e];exact h
theorem atI_last {α : Type}(xs:List α)(v:α):atI (xs++[v]) (-1)=some v:=by
 have hl:(xs++[v]).length=xs.length+1:=by simp
 have e:ixN (xs++[v]).length (-1)=some xs.length:=by
  unfold ixN
  rw [hl,if_neg (by decide),if_pos (by omega)]
  congr 1
  omega
 unfold atI
 rw [e]
 show (xs++[v])[xs.length]?=some v
 simp
def PlainIx (b:Expr):Prop:=∀ o i,subscripted b false o i=operate [o,i] (getItem o i)
def IxR (X:Cx)(r:R2):Prop:=
 ∀ (value slice:Expr) (pins:List (Addr×Obj)) (s:Shared) (σ : St) (H:Hp) (x y:V) (v u:Value) (Q:VK),Inv X pins σ H s→RelV x v→RelV y u→r x y H Q →
  subscripted slice false v u=operate [v,u] (getItem v u)→wpAny (model X.prog X.w) X.A (subscriptTail value slice v u) (EP X pins σ Q) X.xe s
def MtR (X:Cx)(id:String)(r:V→List V→Hp→VK→Prop):Prop:=
 ∀ (pins:List (Addr×Obj)) (s:Shared) (σ : St) (H:Hp) (x:V) (xs:List V) (v:Value) (us:List Value) (Q:VK),Inv X pins σ H s→RelV x v→Vals xs us→r x xs H Q →
  wpAny (model X.prog X.w) X.A (call (.builtin id) (v::us)) (EP X pins σ Q) X.xe s
section
variable {X:Cx}{a b:Expr}{ta tb:TE}{pos:Pos}
theorem IxR.or {r r':R2}(h:IxR X r)(h':IxR X r'):IxR X (fun x y H Q=>r x y H Q∨r' x y H Q):=by
 intro value slice pins s σ H x y v u Q I rx ry q hs
 rcases q with q | q
 ·exact h value slice pins s σ H x y v u Q I rx ry q hs
 ·exact h' value slice pins s σ H x y v u Q I rx ry q hs
theorem pe_ix {r:R2}(hr:IxR X r)(ha:PE X a ta)(hb:PE X b tb)(hs:PlainIx b):PE X (.Subscript a b pos) (tOp r ta tb):=by
 intro pins s σ H Q I h
 exact Subscript_ (binT ha hb I h fun v u s2 x y H2 I2 rx ry q=>hr a b pins s2 σ H2 x y v u Q I2 rx ry q (hs _ _))
def rIxL (K:PySem.W.Frag):R2:=fun x y H Q=>∃ p xs i v,x=.ref p∧y=.int i∧SqL K H p xs∧atI xs i=some v∧Q v H
def rIxT (K:PySem.W.Frag):R2:=fun x y H Q=>∃ p xs i v,x=.ref p∧y=.int i∧SqT K H p xs∧atI xs i=some v∧Q v H
def rIxS:R2:=fun x y H Q=>∃ z i c,x=.str z∧y=.int i∧z.length≤sizeLine∧atI z.cps.toList i=some c∧Q (.str ⟨#[c]⟩) H
theorem ix_list:IxR X (rIxL X.K):=by
 intro value slice pins s σ H x y v u Q I rx ry h hs
 obtain ⟨p,xs,i,z,rfl,rfl,hq,he,q⟩:=h
 cases rx
 obtain ⟨t,rfl⟩:=ry
 obtain ⟨its,r,pl,hz⟩:=I.list hq
 obtain ⟨j,h1,h2,h3,h4,h5⟩:=zL he
 obtain ⟨w,ew,rw'⟩:=r.get h2
 have hl:=r.length
 have hn:=ou
 have fin:EP X pins σ Q w s:=⟨z,H,I,rw',q⟩
 by_cases h0:0≤i
 ·have hj:i.toNat=j:=by
   rw [seqIndex_of h0 h5] at h1
   exact Option.some.inj h1
  exact item_listR pl.isList h0 (by omega) (by rw [hj];simpa using ew) fin hs
 ·have hj:(i+(its.toArray.size:Int)).toNat=j:=by
   rw [seqIndex_neg (by omega) h4] at h1
   rw [List.size_toArray,←hl]
   exact Option.some.inj h1
  exact subscriptTail_builtinR (x:=w) pl.isList.typeIs slot_list_getitem.lookup
   (wpAny_getItem_list_neg (Q:=fun r s'=>r=w∧EP X pins σ Q r s') pl.isList (by omega) (by rw [List.size_toArray] <;> omega) (by omega) (by rw [hj];simpa using ew) ⟨rfl,fin⟩) hs
theorem ix_tup:IxR X (rIxT X.K):=by
 intro value slice pins s σ H x y v u Q I rx ry h hs
 obtain ⟨p,xs,i,z,rfl,rfl,hq,he,q⟩:=h
 cases rx
 obtain ⟨t,rfl⟩:=ry
 obtain ⟨its,r,pl,hz⟩:=I.tuple hq
 obtain ⟨j,h1,h2,h3,h4,h5⟩:=zL he
 obtain ⟨w,ew,rw'⟩:=r.get h2
 have hl:=r.length
 have hn:=ou
 have fin:EP X pins σ Q w s:=⟨z,H,I,rw',q⟩
 exact subscriptTail_builtinR (x:=w) pl.typeIs slot_tuple_getitem.lookup
  (getItem_tuple (j:=j) (Q:=fun r s'=>r=w∧EP X pins σ Q r s') pl (by omega) (by omega) (by rw [List.size_toArray,←hl];exact h1) (by simpa using ew) ⟨rfl,fin⟩) hs
theorem ix_str:IxR X rIxS:=by
 intro value slice pins s σ H x y v u Q I rx ry h hs
 obtain ⟨z,i,c,rfl,rfl,hz,he,q⟩:=h
 obtain ⟨t,rfl⟩:=rx
 obtain ⟨t',rfl⟩:=ry
 obtain ⟨j,h1,h2,h3,h4,h5⟩:=zL he
 have hl:z.cps.toList.length=z.length:=by simp [Str.length]
 rw [hl] at h1 h4 h5
 have hn:=ou
 exact tail_any (typeIs_str s z t) slot_str_getitem.lookup (getItem_str (c:=c) (by
  have e1:decide (i < -(2^63:Int))=false:=decide_eq_false (by omega)
  have e2:decide (i≥2^63)=false:=decide_eq_false (by omega)
  rw [e1,e2,Bool.or_false]) (by rw [h1];simpa using h2) ⟨.str ⟨#[c]⟩,H,I.tok _,⟨_,rfl⟩,q⟩) hs
def rIx (K:PySem.W.Frag):R2:=fun x y H Q=>rIxL K x y H Q∨rIxT K x y H Q∨rIxS x y H Q
theorem ix_seq:IxR X (rIx X.K):=ix_list.or (ix_tup.or ix_str)
theorem mapSeq_set (its:List Value)(n j:Nat)(u:Value):Obj.mapSeq (·.setIfInBounds j u) { cls:=.type "list",data:=.seq its.toArray n } = { cls:=.type "list",data:=.seq (its.set j u).toArray n }:=by
 simp [Obj.mapSeq]
theorem Inv.lst {pins:List (Addr×Obj)}{σ : St}{H:Hp}{s:Shared}{p:Addr}{xs:List V}(I:Inv X pins σ H s)(h:H p=some (.lst xs)) :
  ∃ (its:List Value) (n:Nat),Vals xs its∧s.heap.get? p=some { cls:=.type "list",data:=.seq its.toArray n }∧xs.length≤sizeLine:=by
 obtain ⟨z,its,n,r,e⟩:=I.hok p _ h
 exact ⟨its,n,r,e,z⟩
theorem Inv.lstUpd {pins:List (Addr×Obj)}{σ : St}{H:Hp}{s:Shared}{p:Addr}{xs ys:List V}{its its':List Value}{n n':Nat}{f:Obj→Obj}(I:Inv X pins σ H s)(h:H p=some (.lst xs))
  (ho:s.heap.get? p=some { cls:=.type "list",data:=.seq its.toArray n }) (hf:f { cls:=.type "list",data:=.seq its.toArray n } = { cls:=.type "list",data:=.seq its'.toArray n' }) (r:Vals ys its') (hz:ys.length≤sizeLine) (t:Nat) :
  Inv X pins σ (upd H p (.lst ys)) { s with heap:=s.heap.update p f,toks:=t }:=by
 have e:(s.heap.update p f).get? p=some { cls:=.type "list",data:=.seq its'.toArray n' }:=by
  rw [Heap.get?_update_self f ho (by rw [hf] <;> rfl),hf]
 refine I.write (x:=p) (e:=p) (by rw [h];trivial) (.inl rfl) (fun b u hb q=>(Heap.get?_update_other _ _ (Ne.symm hb)).trans q) ⟨_,e⟩ ?_
 exact ⟨hz,its',n',r,e⟩
def rSetL:V→V→V→Hp→(Hp→Prop)→Prop:=fun o i v H Q=>∃ p xs k j,o=.ref p∧i=.int k∧H p=some (.lst xs)∧ixN xs.length k=some j∧Q (upd H p (.lst (xs.set j v)))
theorem set_list:PSet X rSetL:=by
 intro pins s σ H o i v ov iv u Q I ro ri rv h
 obtain ⟨p,xs,k,j,rfl,rfl,hp,hj,q⟩:=h
 cases ro
 obtain ⟨t,rfl⟩:=ri
 obtain ⟨its,n,r,ho,hz⟩:=I.lst hp
 obtain ⟨h1,h2,h3,h4⟩:=ixN_seq hj
 have hl:=r.length
 have hn:=ou
 have I':Inv X pins σ (upd H p (.lst (xs.set j v))) { s with heap:=s.heap.update p (Obj.mapSeq (·.setIfInBounds j u)) }:=
  I.lstUpd hp ho (mapSeq_set its n j u) (r.set rv j) (by rw [List.length_set];exact hz) s.toks
 by_cases h0:0≤k
 ·have hk:k.toNat=j:=by
   rw [seqIndex_of h0 h4] at h1
   exact Option.some.inj h1
  exact PySem.W.ki_setAt ho h0 (by omega) (by rw [List.size_toArray,←hl];exact h4) (by rw [hk];exact ⟨_,I',q⟩)
 ·have hk:(k+(its.toArray.size:Int)).toNat=j:=by
   rw [seqIndex_neg (by omega) h3] at h1
   rw [List.size_toArray,←hl]
   exact Option.some.inj h1
  exact PySem.W.ki_setBack ho (by omega) (by rw [List.size_toArray,←hl];exact h3) (by omega) (by rw [hk];exact ⟨_,I',q⟩)
theorem wH (lo hi:Option Int)(n:Nat):(sliceBounds lo hi none n).1=((HT.sIx n 0 lo:Nat):Int)∧(sliceBounds lo hi none n).2.1=((HT.sIx n n hi:Nat):Int)∧(sliceBounds lo hi none n).2.2=1:=by
 refine ⟨?_,?_,rfl⟩
 ·cases lo with
  | none=>simp [sliceBounds,HT.sIx]
  | some i=>
   simp only [sliceBounds,HT.sIx,Option.getD_none,show (1:Int)>0 by decide,if_true]
   by_cases h:i<0
   ·simp only [h,if_true] <;> omega
   ·simp only [h,if_false] <;> omega
 ·cases hi with
  | none=>simp [sliceBounds,HT.sIx]
  | some i=>
   simp only [sliceBounds,HT.sIx,Option.getD_none,show (1:Int)>0 by decide,if_true]
   by_cases h:i<0
   ·simp only [h,if_true] <;> omega
   ·simp only [h,if_false] <;> omega
theorem uE (its:List Value)(lo hi:Option Int):slicePick its.toArray lo hi none=((its.drop (HT.sIx its.length 0 lo)).take (HT.sIx its.length its.length hi - HT.sIx its.length 0 lo)).toArray:=by
 obtain ⟨h1,h2,h3⟩:=wH lo hi its.toArray.size
 unfold slicePick
 rw [h1,h2,h3]
 simp only [sliceRange_one,pick_run,List.size_toArray] <;> rfl
def rSlL (K:PySem.W.Frag):V→Option Int→Option Int→Hp→VK→Prop:=fun x lo hi H Q=>∃ a xs,x=.ref a∧SqL K H a xs∧∀ p,H p=none→Q (.ref p) (upd H p (.lst (cutV xs lo hi)))
theorem sl_list:SlR X (rSlL X.K):=by
 intro pins s σ H x v vl vu lo hi sl Q I rx hs pl pu h
 obtain ⟨a,xs,rfl,hx,q⟩:=h
 cases rx
 obtain ⟨its,r,ht,hz⟩:=I.list hx
 have hlen:=r.length
 refine ⟨"list",_,slot_list_getitem.lookup,ht.isList.typeIs,?_⟩
 refine wpAny_getItem_list_slice ht.isList hs pl pu .none (by simp) ?_ (by rw [List.size_toArray] <;> omega)
 rw [uE,←hlen]
 refine ⟨.ref s.heap.objs.size,_,I.laid (t':=s.toks) (o:=.lst (cutV xs lo hi)) (fun b ob q=>Heap.get?_push_of_some _ q) (Nat.le_refl _) ?_,rfl,q _ (I.hok.fresh (Nat.le_refl _))⟩
 exact ⟨Nat.le_trans (qX xs lo hi) hz,_,0,(r.drop (HT.sIx xs.length 0 lo)).take (HT.sIx xs.length xs.length hi - HT.sIx xs.length 0 lo),Heap.get?_push_size _ rfl⟩
def rK:V→Bool
 | .non=>true
 | .bl _=>true
 | .int _=>true
 | .str _=>true
 | _=>false
def eqV:V→V→Bool
 | .non,.non=>true
 | .bl a,.bl b=>a==b
 | .bl a,.int b=>(if a then 1 else 0)==b
 | .int a,.bl b=>a==(if b then 1 else 0)
 | .int a,.int b=>a==b
 | .str a,.str b=>a==b
 | _,_=>false
theorem eqAt_V {A:Around}{s:Shared}{y x:V}{u v:Value}(ry:RelV y u)(rx:RelV x v)(fy:rK y=true)(fx:rK x=true):SeqAt.EqAt A s u v (eqV y x):=by
 cases y with
 | non=>
  cases ry
  cases x with
  | non=>cases rx;exact SeqAt.EqAt.same _
  | bl b=>cases rx;exact SeqAt.EqAt.none_bool b
  | int b=>obtain ⟨t,rfl⟩:=rx;exact SeqAt.EqAt.none_int b t
  | str b=>obtain ⟨t,rfl⟩:=rx;exact SeqAt.EqAt.none_str b t
  | _=>exact absurd (show false=true from fx) Bool.false_ne_true
 | bl a=>
  cases ry
  cases x with
  | non=>cases rx;exact SeqAt.EqAt.bool_none a
  | bl b=>cases rx;exact SeqAt.EqAt.bool_bool a b
  | int b=>obtain ⟨t,rfl⟩:=rx;exact SeqAt.EqAt.bool_int a b t
  | str b=>obtain ⟨t,rfl⟩:=rx;exact SeqAt.EqAt.bool_str a b t
  | _=>exact absurd (show false=true from fx) Bool.false_ne_true
 | int a=>
  obtain ⟨t',rfl⟩:=ry
  cases x with
  | non=>cases rx;exact SeqAt.EqAt.int_none a t'
  | bl b=>cases rx;exact SeqAt.EqAt.int_bool a t' b
  | int b=>obtain ⟨t,rfl⟩:=rx;exact SeqAt.EqAt.int_int a t' b t
  | str b=>obtain ⟨t,rfl⟩:=rx;exact SeqAt.EqAt.int_str a t' b t
  | _=>exact absurd (show false=true from fx) Bool.false_ne_true
 | str a=>
  obtain ⟨t',rfl⟩:=ry
  cases x with
  | non=>cases rx;exact SeqAt.EqAt.str_none a t'
  | bl b=>cases rx;exact SeqAt.EqAt.str_bool a t' b
  | int b=>obtain ⟨t,rfl⟩:=rx;exact SeqAt.EqAt.str_int a t' b t
  | str b=>obtain ⟨t,rfl⟩:=rx;exact SeqAt.EqAt.str_str a t' b t
  | _=>exact absurd (show false=true from fx) Bool.false_ne_true
 | _=>exact absurd (show false=true from fy) Bool.false_ne_true
def eqU (x:V)(u:Value):Bool:=match u with
 | .none=>eqV .non x
 | .bool b=>eqV (.bl b) x
 | .int i _=>eqV (.int i) x
 | .str z _=>eqV (.str z) x
 | _=>false
theorem eqU_of {x y:V}{u:Value}(r:RelV y u)(f:rK y=true):eqU x u=eqV y x:=by
 cases y with
 | non=>cases r;rfl
 | bl b=>cases r;rfl
 | int i=>obtain ⟨t,rfl⟩:=r;rfl
 | str z=>obtain ⟨t,rfl⟩:=r;rfl
 | _=>exact absurd (show false=true from f) Bool.false_ne_true
theorem yN {x:V}:∀ {xs:List V} {us:List Value},Vals xs us→xs.all rK=true→us.any (eqU x)=xs.any fun y=>eqV y x
 | _,_,.nil,_=>rfl
 | y::xs,u::us,.cons r t,f=>by
  rw [List.all_cons,Bool.and_eq_true] at f
  rw [List.any_cons,List.any_cons,eqU_of r f.1,yN t f.2]
theorem vf {A:Around}{s:Shared}{x:V}{v:Value}(rx:RelV x v)(fx:rK x=true):∀ {xs:List V} {us:List Value},Vals xs us→xs.all rK=true→∀ u∈us,SeqAt.EqAt A s u v (eqU x u)
 | _,_,.nil,_=>fun u hu=>by cases hu
 | y::xs,u::us,.cons r t,f=>fun u' hu=>by
  rw [List.all_cons,Bool.and_eq_true] at f
  rcases List.mem_cons.mp hu with rfl | hu
  ·rw [eqU_of r f.1];exact eqAt_V r rx f.1 fx
  ·exact vf rx fx t f.2 u' hu
def inV (x:V)(xs:List V):Bool:=xs.any fun y=>eqV y x
def rIn (K:PySem.W.Frag)(neg:Bool):R2:=fun x y H Q=>∃ p xs,y=.ref p∧(SqL K H p xs∨SqT K H p xs)∧rK x=true∧xs.all rK=true∧Q (.bl (if neg then !inV x xs else inV x xs)) H
theorem yj:OpR X (compareOp .NotIn) (rIn X.K true):=by
 intro pins s σ H x y v u Q I rx ry h
 obtain ⟨p,xs,rfl,hq,fx,fs,q⟩:=h
 cases ry
 rcases hq with hq | hq
 ·obtain ⟨its,r,pl,hz⟩:=I.list hq
  refine SeqAt.notIn_listAt (eqU x) pl.isList (fun w hw=>vf rx fx r fs w (by simpa using hw)) ⟨.bl _,H,I,rfl,?_⟩
  rw [show its.toArray.any (eqU x)=its.any (eqU x) by simp,yN r fs]
  exact q
 ·obtain ⟨its,r,pl,hz⟩:=I.tuple hq
  refine SeqAt.notIn_tupleAt (eqU x) pl (fun w hw=>vf rx fx r fs w (by simpa using hw)) ⟨.bl _,H,I,rfl,?_⟩
  rw [show its.toArray.any (eqU x)=its.any (eqU x) by simp,yN r fs]
  exact q
theorem yt:lO X (.builtin "len") (fun xs H Q=>∃ p ys,xs=[.ref p]∧(SqL X.K H p ys∨SqT X.K H p ys)∧Q (.int ys.length) H):=by
 intro pins s σ H xs us Q I r h
 obtain ⟨p,ys,rfl,hq,q⟩:=h
 obtain ⟨u,rfl,rx⟩:=vals1 r
 cases rx
 have hn:=ou
 rcases hq with hq | hq
 ·obtain ⟨its,r',pl,hz⟩:=I.list hq
  have hlen:=r'.length
  exact Calls.call_len_list pl.isList (by simp only [List.size_toArray] <;> omega) ⟨.int ys.length,H,I.tok _,⟨s.toks+1,by rw [List.size_toArray,hlen]⟩,q⟩
 ·obtain ⟨its,r',pl,hz⟩:=I.tuple hq
  have hlen:=r'.length
  exact len_tuple pl (by simp only [List.size_toArray] <;> omega) ⟨.int ys.length,H,I.tok _,⟨s.toks+1,by rw [List.size_toArray,hlen]⟩,q⟩
theorem oG:lO X (.type "list") (fun xs H Q=>∃ p ys,xs=[.ref p]∧(SqL X.K H p ys∨SqT X.K H p ys)∧∀ l,H l=none→Q (.ref l) (upd H l (.lst ys))):=by
 intro pins s σ H xs us Q I r h
 obtain ⟨p,ys,rfl,hq,q⟩:=h
 obtain ⟨u,rfl,rx⟩:=vals1 r
 cases rx
 have fin:∀ (its:List Value),Vals ys its→ys.length≤sizeLine→∀ (h':Heap) (c':Nat),(∀ b o',s.heap.get? b=some o'→h'.get? b=some o') →
   h'.get? s.heap.objs.size=some { cls:=.type "list",dict:=none,data:=.seq its.toArray c',slots:=#[] }→EP X pins σ Q (.ref s.heap.objs.size) { s with heap:=h' }:=fun its r' hz h' c' kp e=>
  ⟨.ref s.heap.objs.size,_,I.laid (t':=s.toks) kp (Nat.le_refl _) (show jm X.prog X.w _ h' _ (.lst ys) from ⟨hz,its,c',r',e⟩),rfl,q _ (I.hok.fresh (Nat.le_refl _))⟩
 rcases hq with hq | hq
 ·obtain ⟨its,r',pl,hz⟩:=I.list hq
  have hlen:=r'.length
  obtain ⟨o,ho,hc,n,hd⟩:=pl.isList
  exact call_list_seq p (.inl rfl) ho hc hd (fun h' c' kp e=>fin its r' hz h' c' kp e) (by simp only [List.size_toArray] <;> omega)
 ·obtain ⟨its,r',pl,hz⟩:=I.tuple hq
  have hlen:=r'.length
  obtain ⟨o,ho,hc,n,hd⟩:=pl
  exact call_list_seq p (.inr rfl) ho hc hd (fun h' c' kp e=>fin its r' hz h' c' kp e) (by simp only [List.size_toArray] <;> omega)
theorem uV:lO X (.type "tuple") (fun xs H Q=>∃ p ys,xs=[.ref p]∧((SqL X.K H p ys∧∀ l,H l=none→Q (.ref l) (upd H l (.tup ys)))∨(SqT X.K H p ys∧Q (.ref p) H))):=by
 intro pins s σ H xs us Q I r h
 obtain ⟨p,ys,rfl,h⟩:=h
 obtain ⟨u,rfl,rx⟩:=vals1 r
 cases rx
 rcases h with ⟨hq,q⟩ | ⟨hq,q⟩
 ·obtain ⟨its,r',pl,hz⟩:=I.list hq
  have hlen:=r'.length
  refine call_tuple_list pl.isList (fun h' kp=>?_) (by simp only [List.size_toArray] <;> omega)
  have I1:Inv X pins σ H { s with heap:=h' }:=I.kept (t':=s.toks) kp
  have I2:Inv X pins σ (upd H h'.objs.size (.tup ys)) { s with heap:=h'.push { cls:=.type "tuple",data:=.seq its.toArray } }:=
   I1.laid (t':=s.toks) (fun b o e=>Heap.get?_push_of_some _ e) (Nat.le_refl _) (show jm X.prog X.w _ _ _ (.tup ys) from ⟨hz,its,r',IsTup.new _ _⟩)
  exact ⟨.ref h'.objs.size,_,I2,rfl,q _ (I1.hok.fresh (Nat.le_refl _))⟩
 ·obtain ⟨its,r',pl,hz⟩:=I.tuple hq
  exact call_tuple_same pl ⟨.ref p,H,I,rfl,q⟩
def tyV (K:PySem.W.Frag)(T:String)(x:V)(H:Hp):Prop:=match x with
 | .str _=>T = "str"
 | .int _=>T = "int"
 | .ref p=>(T = "list"∧∃ xs,SqL K H p xs)∨(T = "tuple"∧∃ o,K.lookup p=some o∧o.cls=.type "tuple"∧o.dict=none) ∨
   (T = "dict"∧((∃ kvs,H p=some (.dK kvs))∨∃ kvs,H p=some (.dT kvs)))∨(T = "set"∧∃ S n,H p=some (.set S n))
 | _=>False
theorem tyV_is {pins:List (Addr×Obj)}{σ : St}{H:Hp}{s:Shared}{T:String}{x:V}{v:Value}(I:Inv X pins σ H s)(r:RelV x v)(ty:tyV X.K T x H) :
  s.TypeIs v T∧∀ a,v=.ref a→∃ ob,s.heap.get? a=some ob∧ob.dict=none:=by
 cases x with
 | str z=>
  obtain ⟨t,rfl⟩:=r
  cases (show T = "str" from ty)
  exact ⟨typeIs_str s z t,fun _ e=>nomatch e⟩
 | int i=>
  obtain ⟨t,rfl⟩:=r
  cases (show T = "int" from ty)
  exact ⟨typeIs_int s i t,fun _ e=>nomatch e⟩
 | ref p=>
  cases r
  rcases ty with ⟨rfl,xs,hq⟩ | ⟨rfl,o,hk,hc,hd⟩ | ⟨rfl,hk⟩ | ⟨rfl,S,n,hk⟩
  ·obtain ⟨its,_,pl,_⟩:=I.list hq
   refine ⟨pl.isList.typeIs,fun a e=>?_⟩
   cases e
   obtain ⟨o,n,e,c,hd,_⟩:=pl
   exact ⟨o,e,hd⟩
  ·refine ⟨⟨o,I.kIn p o hk,hc⟩,fun a e=>?_⟩
   cases e
   exact ⟨o,I.kIn _ o hk,hd⟩
  ·have z:∃ o,s.heap.get? p=some o∧o.ExactDict:=by
    rcases hk with ⟨kvs,hk⟩ | ⟨kvs,hk⟩
    ·obtain ⟨_,_,_,_,o,_,_,e,ex,_⟩:=I.hok p _ hk
     exact ⟨o,e,ex⟩
    ·obtain ⟨_,_,_,_,o,_,_,e,ex,_⟩:=I.hok p _ hk
     exact ⟨o,e,ex⟩
   obtain ⟨o,e,ex⟩:=z
   refine ⟨⟨o,e,ex.1⟩,fun a e2=>?_⟩
   cases e2
   exact ⟨o,e,ex.2.1⟩
  ·obtain ⟨o,_,_,_,e,ex,_⟩:=I.hok p _ hk
   refine ⟨⟨o,e,ex.1⟩,fun a e2=>?_⟩
   cases e2
   exact ⟨o,e,ex.2.1⟩
 | _=>exact False.elim ty
def tBM0 (K:PySem.W.Frag)(T:String)(r:V→List V→Hp→VK→Prop)(to:TE):TE:=fun σ H Q=>to σ H fun x H1=>tyV K T x H1∧r x [] H1 Q
def tBM (K:PySem.W.Frag)(T:String)(r:V→List V→Hp→VK→Prop)(to:TE)(t:TA):TE:=fun σ H Q=>to σ H fun x H1=>tyV K T x H1∧t σ H1 fun xs H2=>r x xs H2 Q
variable {o e:Expr}{es:List Expr}{to:TE}{t:TA}{name:Str}{apos cpos:Pos}{T id:String}{r:V→List V→Hp→VK→Prop}
theorem pe_bm0 (pa:PlainAttrs T)(slot:Slot T name id)(hty:typeOf (.builtin id)=pure (.type "method_descriptor"))(hm:MtR X id r)(ho:PE X o to)
  (hbase:attributeBase o name X.env (eval o X.env)=eval o X.env:=by rfl) (hline:(apos.endLine==cpos.line)=true:=by rfl):PE X (.Call (.Attribute o name apos) [] [] cpos) (tBM0 X.K T r to):=by
 intro pins s σ H Q I h
 refine wpAny_Call_method0_late hbase hline (thn (ho pins s σ H _ I h) fun v s1 ⟨x,H1,I1,r1,ty,q1⟩=>?_)
 obtain ⟨h1,h2⟩:=tyV_is I1 r1 ty
 exact ⟨T,id,pa,slot,hty,h1,h2,Calls.callWith_builtin rfl (PySem.evalArgs_none (hm pins s1 σ H1 x [] v [] Q I1 r1 .nil q1))⟩
theorem pe_bm (pa:PlainAttrs T)(slot:Slot T name id)(hty:typeOf (.builtin id)=pure (.type "method_descriptor"))(hm:MtR X id r)(ho:PE X o to)(ha:PA X (e::es) t)
  (hbase:attributeBase o name X.env (eval o X.env)=eval o X.env:=by rfl)
  (hfew:((backTo cpos (starEach (e::es) X.env)).all (fun x=>!x.1)&&(backToKw cpos (keywordEach [] X.env)).all (fun x=>x.1.isSome)
   && decide ((e::es).length+([]:List Keyword).length+(if ([]:List Keyword).isEmpty then 0 else 1)<30))=true:=by rfl)
  (hline:(apos.endLine==cpos.line)=true:=by rfl) (hs:starEach (e::es) X.env=(false,eval e X.env)::starEach es X.env:=by rfl) (hplain:(backTo cpos (starEach es X.env)).any (·.1)=false:=by rfl) :
  PE X (.Call (.Attribute o name apos) (e::es) [] cpos) (tBM X.K T r to t):=by
 intro pins s σ H Q I h
 refine wpAny_Call_method_late hbase hfew hline rfl (thn (ho pins s σ H _ I h) fun v s1 ⟨x,H1,I1,r1,ty,q1⟩=>?_)
 obtain ⟨h1,h2⟩:=tyV_is I1 r1 ty
 refine ⟨T,id,pa,slot,hty,h1,h2,?_⟩
 have hA:=ha cpos pins s1 σ H1 _ I1 q1
 rw [hs] at hA ⊢
 refine Calls.callWith_builtin (by show (false||(backTo cpos (starEach es X.env)).any (·.1))=false;rw [hplain] <;> rfl) (Calls.evalArgs_plain ?_)
 exact thn hA fun us s2 ⟨vs,H2,I2,r2,q2⟩=>hm pins s2 σ H2 x vs v us Q I2 r1 r2 q2
/- xs.append(e), list.index on a module's tuple .. are MtR facts of 06m -/
end
end L2
namespace L2
open PySem PySem.Spec PyProof.Rows
def MtM (X:Cx)(id:String)(r:V→List V→Hp→VK→Prop):Prop:=
 ∀ (pins:List (Addr×Obj)) (s:Shared) (σ : St) (H:Hp) (x:V) (xs:List V) (v:Value) (us:List Value) (Q:VK),Inv X pins σ H s→RelV x v→Vals xs us→r x xs H Q →
  wpAny (model X.prog X.w) X.A (call (.builtin id) (v::us)) (EP X pins σ Q) X.xe s
theorem Vals.one:∀ {x:V} {us:List Value},Vals [x] us→∃ u,us=[u]∧RelV x u
 | _,_,.cons r .nil=>⟨_,rfl,r⟩
theorem Vals.zero:∀ {us:List Value},Vals [] us→us=[]
 | _,.nil=>rfl
theorem Vals.dropLast {xs:List V}{us:List Value}(h:Vals xs us):Vals xs.dropLast us.dropLast:=by
 induction h with
 | nil=>exact .nil
 | cons r t ih=>
  cases t with
  | nil=>exact .nil
  | cons q t'=>exact .cons r ih
theorem erase_last {α : Type}(l:List α):l.eraseIdx (l.length - 1)=l.dropLast:=by
 induction l with
 | nil=>rfl
 | cons a r ih=>
  cases r with
  | nil=>rfl
  | cons b r=>
   have e:(a::b::r).length - 1=((b::r).length - 1)+1:=by
    have h1:(a::b::r).length=r.length+2:=rfl
    have h2:(b::r).length=r.length+1:=rfl
    omega
   rw [e,List.eraseIdx_cons_succ,ih]
   all_goals rfl
section
variable {X:Cx}{pins:List (Addr×Obj)}{σ : St}{H:Hp}{s:Shared}{l b:Addr}{xs ys zs:List V}
theorem Inv.lset {its its':List Value}{n:Nat}{f:Array Value→Array Value}{t':Nat}(I:Inv X pins σ H s)(hH:H l=some (.lst xs))
  (e:s.heap.get? l=some { cls:=.type "list",data:=.seq its.toArray n }) (hf:f its.toArray=its'.toArray) (hv:Vals ys its') (hz:ys.length≤sizeLine) :
  Inv X pins σ (upd H l (.lst ys)) { s with heap:=s.heap.update l (Obj.mapSeq f),toks:=t' }:=by
 have q:=PySem.IsL.update e f
 rw [hf] at q
 refine I.write (x:=l) (e:=l) (by rw [hH];exact trivial) (.inl rfl) (fun b' u hb hu=>(Heap.get?_update_other s.heap (Obj.mapSeq f) (Ne.symm hb)).trans hu) ⟨_,q⟩ ?_
 exact ⟨hz,its',_,hv,q⟩
theorem Inv.lnew {its:List Value}{t':Nat}(I:Inv X pins σ H s)(hv:Vals ys its)(hz:ys.length≤sizeLine) :
  Inv X pins σ (upd H s.heap.objs.size (.lst ys)) { s with heap:=s.heap.push { cls:=.type "list",data:=.seq its.toArray },toks:=t' }:=
 I.laid (fun _ _ q=>Heap.get?_push_of_some _ q) (Nat.le_refl _) ⟨hz,its,0,hv,Heap.get?_push_size _ rfl⟩
theorem Inv.fresh (I:Inv X pins σ H s):H s.heap.objs.size=none:=I.hok.fresh (Nat.le_refl _)
theorem Inv.lstM (I:Inv X pins σ H s)(hH:H l=some (.lst xs)):xs.length≤sizeLine∧∃ (its:List Value) (n:Nat),Vals xs its∧xs.length=its.length∧s.heap.get? l=some { cls:=.type "list",data:=.seq its.toArray n }:=by
 obtain ⟨z,its,n,r,e⟩:=I.hok l _ hH
 exact ⟨z,its,n,r,r.length,e⟩
theorem notLongL {n:Nat}(h:n≤sizeLine):Builtin.List.listTooLong n=false:=by
 unfold Builtin.List.listTooLong
 exact decide_eq_false (by omega)
end
section
variable {X:Cx}
def rAppend:V→List V→Hp→VK→Prop:=fun x vs H Q=>∃ l xs y,x=.ref l∧vs=[y]∧H l=some (.lst xs)∧xs.length<sizeLine∧Q .non (upd H l (.lst (xs++[y])))
theorem wG:MtM X "list.append" rAppend:=by
 intro pins s σ H x vs v us Q I rx rv h
 obtain ⟨l,xs,y,rfl,rfl,hH,hz,q⟩:=h
 cases rx
 obtain ⟨u,rfl,ru⟩:=rv.one
 obtain ⟨z,its,n,r,hl,e⟩:=I.lstM hH
 refine call_meets F.slot_list_append ⟨_,e,rfl⟩ F.entry_list_append (F.args_list_append_2 _ _) (PySem.list_append l its.toArray n u (by rw [List.size_toArray];omega)) ⟨e,?_⟩
 refine ⟨.non,_,I.lset (its':=its++[u]) hH e (by simp) (r.append (.cons ru .nil)) ?_,rfl,q⟩
 rw [List.length_append,List.length_singleton]
 omega
def rExtend:V→List V→Hp→VK→Prop:=fun x vs H Q=>∃ l b xs zs,x=.ref l∧vs=[.ref b]∧H l=some (.lst xs)∧H b=some (.lst zs)∧xs.length+zs.length≤sizeLine∧Q .non (upd H l (.lst (xs++zs)))
theorem mt_extend:MtM X "list.extend" rExtend:=by
 intro pins s σ H x vs v us Q I rx rv h
 obtain ⟨l,b,xs,zs,rfl,rfl,hH,hB,hz,q⟩:=h
 cases rx
 obtain ⟨u,rfl,ru⟩:=rv.one
 cases ru
 obtain ⟨z,its,n,r,hl,e⟩:=I.lstM hH
 obtain ⟨z2,its2,n2,r2,hl2,e2⟩:=I.lstM hB
 have hsz:its.toArray.size+its2.toArray.size≤sizeLine:=by rw [List.size_toArray,List.size_toArray];omega
 have hlong:¬ (!its.toArray.isEmpty&&Builtin.List.listTooLong (its.toArray.size+its2.toArray.size))=true:=by
  rw [notLongL hsz,Bool.and_false]
  exact Bool.false_ne_true
 refine call_meets F.slot_list_extend ⟨_,e,rfl⟩ F.entry_list_extend (F.args_list_extend_2 _ _)
  (AutoSeq1.list_extend_list_list_0 l its.toArray n b its2.toArray n2 hlong (by rw [List.size_toArray];omega) (by omega)) ⟨e,e2,?_⟩
 refine ⟨.non,_,I.lset (its':=its++its2) hH e (by simp) (r.append r2) ?_,rfl,q⟩
 rw [List.length_append]
 omega
def rPop:V→List V→Hp→VK→Prop:=fun x vs H Q=>∃ l xs y,x=.ref l∧vs=[]∧H l=some (.lst xs)∧xs[xs.length - 1]?=some y∧Q y (upd H l (.lst xs.dropLast))
theorem mt_pop:MtM X "list.pop" rPop:=by
 intro pins s σ H x vs v us Q I rx rv h
 obtain ⟨l,xs,y,rfl,rfl,hH,hy,q⟩:=h
 cases rx
 have hus:=rv.zero
 subst hus
 obtain ⟨z,its,n,r,hl,e⟩:=I.lstM hH
 obtain ⟨u,hu,ru⟩:=r.get hy
 have hy':its.toArray[its.toArray.size - 1]?=some u:=by
  show its.toArray[its.length - 1]?=some u
  rw [←Array.getElem?_toList,←hl]
  exact hu
 refine call_meets F.slot_list_pop ⟨_,e,rfl⟩ F.entry_list_pop (F.args_list_pop_1 _) (MeetsSeq.list_pop_last l its.toArray n u hy' (by rw [List.size_toArray];omega)) ⟨e,?_⟩
 refine ⟨y,_,I.lset (its':=its.dropLast) hH e ?_ r.dropLast ?_,ru,q⟩
 ·show its.toArray.eraseIdxIfInBounds (its.toArray.size - 1)=its.dropLast.toArray
  rw [List.size_toArray,List.eraseIdxIfInBounds_toArray,erase_last]
 ·rw [List.length_dropLast]
  omega
def rClear:V→List V→Hp→VK→Prop:=fun x vs H Q=>∃ l xs,x=.ref l∧vs=[]∧H l=some (.lst xs)∧Q .non (upd H l (.lst []))
theorem mt_clear:MtM X "list.clear" rClear:=by
 intro pins s σ H x vs v us Q I rx rv h
 obtain ⟨l,xs,rfl,rfl,hH,q⟩:=h
 cases rx
 have hus:=rv.zero
 subst hus
 obtain ⟨z,its,n,r,hl,e⟩:=I.lstM hH
 refine call_meets F.slot_list_clear ⟨_,e,rfl⟩ F.entry_list_clear (F.args_list_clear_1 _) (AutoSeq1.list_clear_list_0 l its.toArray n (by rw [List.size_toArray];omega)) ⟨e,?_⟩
 exact ⟨.non,_,I.lset (its':=[]) (ys:=[]) hH e rfl .nil (Nat.zero_le _),rfl,q⟩
def rCat:R2:=fun x y H Q=>∃ l b xs zs,x=.ref l∧y=.ref b∧H l=some (.lst xs)∧H b=some (.lst zs)∧xs.length+zs.length≤sizeLine∧∀ p,H p=none→Q (.ref p) (upd H p (.lst (xs++zs)))
theorem op_cat:OpR X (binaryOp .Add) rCat:=by
 intro pins s σ H x y v u Q I rx ry h
 obtain ⟨l,b,xs,zs,rfl,rfl,hH,hB,hz,q⟩:=h
 cases rx
 cases ry
 obtain ⟨z,its,n,r,hl,e⟩:=I.lstM hH
 obtain ⟨z2,its2,n2,r2,hl2,e2⟩:=I.lstM hB
 refine PySem.P.add_list e e2 ?_ (by rw [List.size_toArray,List.size_toArray];omega)
 have ea:its.toArray++its2.toArray=(its++its2).toArray:=by simp
 rw [ea]
 exact ⟨.ref _,_,I.lnew (t':=s.toks) (r.append r2) (by rw [List.length_append];omega),rfl,q _ I.fresh⟩
end
section
variable {prog:Program}{w:World}{A:Around}{E:Value→Shared→Prop}{s:Shared}
end
section
variable {X:Cx}
end
end L2
namespace Att
open PySem PySem.W PySem.Calls PyProof.Rows
theorem qp {P:Params}{h:Heap}:∀ (ns:List Int) (vs:List Value),WellAll P h vs (ns.map WData.int)→IntsAre vs ns:=by
 intro ns
 induction ns with
 | nil=>
  intro vs w
  rw [List.map_nil] at w
  cases w
  exact .nil
 | cons n ns ih=>
  intro vs w
  rw [List.map_cons] at w
  cases w with
  | cons a b=>
   cases a
   exact .cons _ _ (ih _ b)
theorem script_of {l:OpenLaw}{n:Nat}(hn:l.most=some n){P:Params}{h:Heap}{args:List WData}{vals:List Value}
  (hpre:l.row.toRowW.claim.pre args=true) (hwl:WellAll P h vals args) :
  ∃ a vs ns,vals=[Value.ref a]∧args=[WData.list (ns.map WData.int)]∧h.get? a=some { cls:=.type "list",data:=.seq vs.toArray }∧IntsAre vs ns∧ns.length≤n:=by
 have hsh:WShape.hasAll [] args [.list .int]=true:=(pre_splitW hpre).1
 have hc:l.pre.holds [] { args:=args }=true:=(pre_splitW hpre).2
 obtain ⟨d,r,rfl,h1,h2⟩:=hasAllW_cons hsh
 obtain rfl:=hasAllW_nil h2
 obtain ⟨xs,rfl,h3⟩:=hasW_list h1
 obtain ⟨ns,rfl⟩:=items_int h3
 have hlen:ns.length≤n:=by
  unfold OpenLaw.pre at hc
  have h4:(WTm.not (.lt (.lit (.int (n:Int))) (.len (.arg 0)))).holds [] { args:=[.list (ns.map .int)] }=true:=by
   have h4:=(holds_andW hc).1
   rw [hn] at h4
   exact h4
  have h5:=condW_of h4 (w_not (w_lt w_lit (w_len_list (w_arg rfl))))
  rw [List.length_map] at h5
  refine Nat.le_of_not_lt fun q=>?_
  have q':(n:Int)<((ns.length:Nat):Int):=by omega
  first
   | (rw [decide_eq_true q'] at h5;exact absurd h5 (by decide))
   | (simp at h5;omega)
 cases hwl with
 | cons w1 w2=>
  cases w2
  cases w1 with
  | list ho hall=>exact ⟨_,_,ns,rfl,rfl,ho,qp ns _ hall,hlen⟩
theorem post_true (l:OpenLaw)(args:List WData):l.row.toRowW.claim.post args (.bool true) args=true:=
 postW_of (r:=l.row.toRowW) (X:=(true==true))
  (show WShape.has [] (.bool true) .bool=true by first | rfl | decide | simp [WShape.has,WShape.arms,WShape.armsAll])
  (show (WTm.eq .res (.lit (.bool true))).value [] { args:=args,res:=some (.bool true),after:=args }=some (.bool (true==true)) from w_eq_bool (w_res rfl) w_lit) rfl
theorem zu {l:OpenLaw}{n:Nat}{q:Program}{loose:List Str}{XP:(Str→Option Value)→Heap→Prop}{YP:World→Heap→Prop}{d:DefRec}
  (hn:l.most=some n) (hdf:d.params.defaults=[])
  (call:∀ (w:World) (s₀ s₁ : Shared) (mg mb:Str→Option Value) (fa:Addr) (o:Obj) (pm cd doc:Value) (a:Addr) (vs:List Value) (ns:List Int),
   Ground q loose [] XP w s₀ mg mb s₁.heap→YP w s₁.heap →
   s₁.heap.get? fa=some o→o.data=.func (docDef d.name d.params d.body d.scope pm cd doc)→s₁.heap.CodeRec cd d.name→mg d.name=some (.ref fa) →
   s₁.heap.get? a=some { cls:=.type "list",data:=.seq vs.toArray }→IntsAre vs ns→ns.length≤n→s₁.gens = #[] →
   codeAny (model l.prog w) callerA (.call (.ref fa) ⟨[.ref a],[]⟩) (fun r s'=>r=.ok (.ret (.bool true))∧OldK s₁.heap s'.heap∧s'.os=s₁.os∧AllBare s'.gens) s₁) :
  WalkO q loose XP YP l.row.toRowW d [] (fun f vs=>PySem.call f vs):=by
 intro w s₀ s₁ mg mb G Y fa o pm cd doc dV kV ho hd hcd hD hmg hg args vals as hpre hlay hrd hwl hlo
 obtain rfl:dV=.none:=Dflts.none hD hdf
 obtain rfl:kV=.none:=Dflts.noKw hD
 obtain ⟨a,vs,ns,rfl,rfl,hobj,hints,hlen⟩:=script_of hn hpre hwl
 refine enter_call (codeAny_mono (call w s₀ s₁ mg mb fa o pm cd doc a vs ns G Y ho (fd_plain hd) hcd hmg hobj hints hlen hg) fun r s' hq=>?_)
 obtain ⟨rfl,h2,h3,h4⟩:=hq
 exact ⟨.inl ⟨.bool true,.bool true,[],rfl,fun _=>rfl,.bool true,post_true l _,fun _=>⟨List.Pairwise.nil,fun _ hm=>(nomatch hm)⟩⟩,h2,h3,h4⟩
section
variable {prog:Program}{w:World}{A:Around}{E:Value→Shared→Prop}{s:Shared}{K:Frag}
def ledger (h:Heap)(L d:Addr):List (Addr×Obj):=(List.range h.objs.size).filterMap fun a=>if a=L∨a=d then none else (h.get? a).map fun o=>(a,o)
end
end Att
namespace L2
open PySem PySem.Spec PyProof.Rows
theorem wA:∀ {vs:List Value} {ns:List Int},IntsAre vs ns→Vals (ns.map V.int) vs
 | _,_,.nil=>.nil
 | _,_,.cons n t h=>.cons ⟨t,rfl⟩ (wA h)
def Only (H:Hp):Prop:=∀ b,H b=none∨∃ o xs,H b=some (.frz o (.lst xs))
theorem law_call {P:Program}{w:World}{K:PySem.W.Frag}{mg mb:Str→Option Value}{CX:CXT}{k:Nat}{fa a:Addr}{fd:FuncData}{x:Str}{sp:Sp}{s₁ : Shared}{vs:List Value}{ns:List Int}
  (KX:K.In s₁.heap) (hns:s₁.heap.Ns mainGlobals mg) (hb:s₁.heap.Ns builtinsNs mb) (hbb:∀ x:Str,x ≠ "__name__"→mb x=bootBuiltins x) (hlim:s₁.heap.NoLimit) (hg:s₁.gens = #[])
  (ha:s₁.heap.get? a=some { cls:=.type "list",data:=.seq vs.toArray }) (hi:IntsAre vs ns) (hl:ns.length≤sizeLine) (hr:oU k callerA)
  (F:∀ base:Heap,K.In base→base.Ns mainGlobals mg→bQ P w K mg base CX k fa fd [x] sp) (hbind:∀ (s:Shared) (u:Value),BindsTo s fd ⟨[u],[]⟩ [(x,u)])
  (hsp:∀ H:Hp,Only H→SqL K H a (ns.map V.int)→sp [.ref a] H (fun v _=>v=.bl true) fun _ _ _=>False)
  (hCX:∀ H e s',CX [] H s₁ (fun _ _ _=>False) e s'→False) :
  codeAny (model P w) callerA (.call (.ref fa) ⟨[.ref a],[]⟩) (fun r s'=>r=.ok (.ret (.bool true))∧OldK s₁.heap s'.heap∧s'.os=s₁.os∧AllBare s'.gens) s₁:=by
 have rv:=wA hi
 have lenV:=hi.length
 -- from an abstract heap in which nothing but the script may be tracked
 have core:∀ H:Hp,Only H→SqL K H a (ns.map V.int)→HOk P w H s₁.heap→(∀ b,H b≠none→b=a)→(H a≠none→K.lookup a=none) →
   codeAny (model P w) callerA (.call (.ref fa) ⟨[.ref a],[]⟩) (fun r s'=>r=.ok (.ret (.bool true))∧OldK s₁.heap s'.heap∧s'.os=s₁.os∧AllBare s'.gens) s₁:=by
  intro H hO hS hok hA hK
  have base_of:∀ {b:Addr} {o:Obj},s₁.heap.get? b=some o→H b=none→(hidT s₁.heap H).get? b=some o:=fun e n=>hidT_get e n
  have noA:∀ {b:Addr} {o:Obj} {es:Array DictEntry} {ep:Nat},s₁.heap.get? b=some o→o.data=.dict es ep→H b=none:=fun {b o es ep} e d=>by
   cases q:H b with
   | none=>rfl
   | some u=>
    have e':b=a:=hA b (by rw [q];simp)
    subst e'
    rw [ha] at e;cases e
    have d':Data.seq vs.toArray _=Data.dict es ep:=d
    cases d'
  have nsK:∀ {b:Addr} {m:Str→Option Value},s₁.heap.Ns b m→(hidT s₁.heap H).Ns b m:=fun {b m} ⟨o,es,ep,e,d,r⟩=>⟨o,es,ep,base_of e (noA e d),d,r⟩
  have hKb:K.In (hidT s₁.heap H):=fun b o e=>base_of (KX b o e) (by
   cases q:H b with
   | none=>rfl
   | some u=>
    have e':b=a:=hA b (by rw [q];simp)
    subst e'
    rw [hK (by rw [q];simp)] at e;cases e)
  have hM:Mod K mg (hidT s₁.heap H):=⟨hKb,nsK hns,⟨mb,nsK hb,hbb⟩,let ⟨mc,h1,h2⟩:=hlim;⟨mc,nsK h1,h2⟩⟩
  have e0:Env0 P w K mg (hidT s₁.heap H) callerA [] s₁ H:=⟨rfl,hM,fun b o e=>of_hidT e,Nat.le_of_eq (hidT_size _ _),trivial,fun b hb=>absurd (show b∈([]:List Addr) from hb) (by simp),hok,.of_eq hg,fun v e=>(nomatch e)⟩
  refine codeAny_mono ((F _ hKb (nsK hns)).run callerA [] s₁ H ⟨[.ref a],[]⟩ [.ref a] [.ref a] _ _ hr e0 (hbind s₁ (.ref a)) (.cons rfl .nil) (hsp H hO hS)) fun r s' h=>?_
  cases r with
  | error e=>exact (hCX H e s' h).elim
  | ok fl=>
   cases fl with
   | next=>exact False.elim h
   | brk=>exact False.elim h
   | cont=>exact False.elim h
   | ret u=>
    obtain ⟨v,H',os,bare,un,hok',r',q⟩:=h
    have q':v=.bl true:=q
    subst q'
    obtain rfl:u=Value.bool true:=r'
    refine ⟨rfl,OldK.of_keep fun b o e=>?_,os,bare⟩
    cases q:H b with
    | none=>exact un.keep b o e q (by intro z;exact absurd (show b∈([]:List Addr) from z) (by simp)) (by simp)
    | some u=>
     rcases hO b with z | ⟨ob,xs,z⟩
     ·rw [q] at z;cases z
     ·have z2:=un.frzs b ob _ z
      obtain ⟨e1,_⟩:=hok b _ z
      obtain ⟨e2,_⟩:=hok' b _ z2
      rw [e] at e1;cases e1
      exact e2
 cases hk:K.lookup a with
 | some o=>
  -- the script is one of the module's own objects
  have e:=KX a o hk
  rw [ha] at e
  cases e
  refine core (fun _=>none) (fun _=>.inl rfl) (.inr ⟨_,vs.toArray,_,hk,rfl,rfl,rfl,by rw [List.size_toArray,lenV];exact hl,by simpa using rv⟩) (fun b u z=>by have z':(none:Option HO)=some u:=z;cases z') (fun b z=>absurd rfl z) fun z=>absurd rfl z
 | none=>
  refine core (fun b=>if b=a then some (.frz { cls:=.type "list",data:=.seq vs.toArray } (.lst (ns.map V.int))) else none) (fun b=>?_) (.inl (.inr ⟨{ cls:=.type "list",data:=.seq vs.toArray },if_pos rfl⟩)) (fun b u z=>?_) (fun b z=>?_) fun _=>hk
  ·by_cases hb:b=a
   ·exact .inr ⟨_,_,if_pos hb⟩
   ·exact .inl (if_neg hb)
  ·by_cases hb:b=a
   ·have z':=(if_pos hb).symm.trans z
    cases z'
    subst hb
    exact ⟨ha,by rw [List.length_map];exact hl,vs,_,rv,ha⟩
   ·have z':=(if_neg hb).symm.trans z
    cases z'
  ·by_cases hb:b=a
   ·exact hb
   ·exact absurd (if_neg hb) z
end L2
namespace L2
open PySem PySem.Spec PyProof.Rows
theorem walk_of {l:PySem.W.OpenLaw}{n k:Nat}{q:Program}{loose:List Str}{XP:(Str→Option Value)→Heap→Prop}{YP:World→Heap→Prop}{d:DefRec}{K:Params→PySem.W.Frag}{CX:World→CXT}{sp:World→Sp}{x:Str}
  (hn:l.most=some n) (hn2:n≤sizeLine) (hdf:d.params.defaults=[]) (hr:oU k callerA)
  (hY:∀ (w:World) (h:Heap),YP w h→(K w.params).In h)
  (F:∀ (w:World) (mg:Str→Option Value) (fa:Addr) (h:Heap),(K w.params).In h→h.Ns mainGlobals mg→mg d.name=some (.ref fa) →
   ∃ fd:FuncData,(∀ (s:Shared) (u:Value),BindsTo s fd ⟨[u],[]⟩ [(x,u)]) ∧
    ∀ base:Heap,(K w.params).In base→base.Ns mainGlobals mg→bQ l.prog w (K w.params) mg base (CX w) k fa fd [x] (sp w))
  (hsp:∀ (w:World) (H:Hp) (a:Addr) (ns:List Int),ns.length≤n→Only H→SqL (K w.params) H a (ns.map V.int)→sp w [.ref a] H (fun v _=>v=.bl true) fun _ _ _=>False)
  (hCX:∀ (w:World) (H:Hp) (s:Shared) (e:Value) (s':Shared),CX w [] H s (fun _ _ _=>False) e s'→False) :
  PySem.W.WalkO q loose XP YP l.row.toRowW d [] (fun f vs=>PySem.call f vs):=by
 refine Att.zu hn hdf fun w s₀ s₁ mg mb fa o pm cd doc a vs ns G Y ho hd hcd hmg hobj hints hlen hg=>?_
 have KX:=hY w _ Y
 obtain ⟨fd,hb,hF⟩:=F w mg fa _ KX G.T.g hmg
 exact law_call KX G.T.g G.T.b G.T.builtins G.T.nolimit hg hobj hints (Nat.le_trans hlen hn2) hr hF hb (fun H hO hS=>hsp w H a ns hlen hO hS) fun H e s'=>hCX w H s₁ e s'
end L2
/- THE LAST THEOREM (shape; LID, My.* are yours):
   My.Adr: a structure of the addresses that your layer names (classes,functions);My.Txt K t: a structure (Prop) of the equations over K;
   My.txt_mk:{K} {implicit addresses ..} (e1:nsIn K mainGlobals "law" = some (some (.ref f))) (e2:K.lookup f=some ⟨oc,od,.func (fnOf "law" "law" params body scope dV kV doc pm an cdv ct),sl⟩) (e3:codeIn K cdv "law" = true) .. : ∃ t,My.Txt K t
set_option maxRecDepth 100000 in
set_option maxHeartbeats 0 in
theorem PySem.Challenge.cw_LID_holds : PySem.Challenge.rw_LID.Holds := by
 w_on;o_law;k_head;(case hw=>w_witness2)
 k_fill
 refine L2.walk_of (l:=PySem.Challenge.rw_LID) (n:=63) (k:=40) (x := "script") (CX:=fun w=>..) (sp:=fun _=>My.sp_law) rfl (by decide) rfl ⟨rfl,by decide,by decide⟩ (fun w h Y=>PySem.W.kIn_of Y) ?F ?S ?C
 case F=>
  intro w mg fa h KX G hmg
  have T:∃ t,My.Txt (L2.KOf KX) t:=by
   dsimp only [L2.KOf]                          -- K must stand as «<heap const> w.params» for k_is
   refine' My.txt_mk ?e1 ?e2 ?e3 ..
   (case e1=>PySem.W.k_is)                    -- in the order: a name -> its address -> its object -> its parts
   (case e2=>PySem.W.k_is)
   ..
  obtain ⟨t,T⟩:=T
  have e0:=hmg.symm.trans (PySem.W.mg_of KX G T.law)
  cases e0                                       -- fa is the law's own address
  exact ⟨_,fun s u=>.of_eq rfl,fun base kb nb=>My.law_fn T kb nb⟩     -- if «.of_eq rfl» comes too early: refine' ⟨_,?b,fun base kb nb=>My.law_fn T kb nb⟩;exact fun s u=>.of_eq rfl
 case S=>exact fun w H a ns hl hO hS=>..
 case C=>exact ..
(the tactic k_is has no namespace: write k_is) -/
namespace L2
open PySem PySem.Spec PyProof.Rows
def qJ (s:Stmt):Arguments:=match s with
 | .FunctionDef _ a _ _ _ _ _ _ _ _=>a
 | _=>{ posonlyargs:=[],args:=[],vararg:=none,kwonlyargs:=[],kw_defaults:=[],kwarg:=none,defaults:=[] }
def j8 (s:Stmt):List Stmt:=match s with
 | .FunctionDef _ _ b _ _ _ _ _ _ _=>b
 | _=>[]
def aF (s:Stmt):Scope:=match s with
 | .FunctionDef _ _ _ _ _ _ sc _ _ _=>sc
 | _=>{ kind:=.function,names:=[],isGenerator:=false,isCoroutine:=false }
abbrev CX0:CXT:=fun _ _ _ _ _ _=>False
abbrev E0:XK:=fun _ _ _=>False
theorem pass0 {X:Cx}:Passes CX0 X E0:=fun _ _ _ _ _ _ _ h=>h.elim
structure Fun (K:PySem.W.Frag) (x qual:Str) (st:Stmt) (f:Addr) (fd:FuncData):Prop where
 ex:∃ (oc:Value) (od:Option Addr) (kV doc pm:Value) (an:Option Addr) (cdv ct:Value) (osl:Array (Option Value)),
  fd=PySem.W.fnOf x qual (qJ st) (j8 st) (aF st) .none kV doc pm an cdv ct∧K.lookup f=some ⟨oc,od,.func fd,osl⟩∧PySem.W.codeIn K cdv qual=true
 kp:PySem.W.keepIn K (.ref f)=true
section
variable {P:Program}{w:World}{K:PySem.W.Frag}{mg:Str→Option Value}{base:Heap}
theorem Fun.ok {x qual:Str}{st:Stmt}{f:Addr}{fd:FuncData}{N ps:List Str}{k:Nat}{sp:Sp}(F:Fun K x qual st f fd)(S:aJ N ps (aF st))(len:∀ vs H Q E,sp vs H Q E→vs.length=ps.length)
  (hbody:∀ (cdv:Value) (A:Around) (outer:List Env) (s:Shared) (H:Hp) (vs:List V) (Q:VK) (E:XK),oU k (A.deeper (envOfC qual (aF st) s.heap.objs.size f cdv))→sp vs H Q E →
   ∃ t,PSs (cxOf CX0 P w K mg base N qual (aF st) f cdv A outer s H E).nox (j8 st) t∧t { nx:=fun _ H'=>Q .non H',rt:=Q } (start N vs) H):bQ P w K mg base CX0 (k+1) f fd ps sp:=by
 obtain ⟨oc,od,kV,doc,pm,an,cdv,ct,osl,rfl,lk,hcd⟩:=F.ex
 refine fn_of lk hcd S len fun A outer s H vs Q E hr hsp=>?_
 obtain ⟨t,h,q⟩:=hbody cdv A outer s H vs Q E hr hsp
 exact ⟨t,h.nox,q⟩
theorem Fun.binds {x qual:Str}{st:Stmt}{f:Addr}{fd:FuncData}{ps:List Str}(F:Fun K x qual st f fd)
  (h:∀ (kV doc pm:Value) (an:Option Addr) (cdv ct:Value) (us:List Value),us.length=ps.length→bindArgs (PySem.W.fnOf x qual (qJ st) (j8 st) (aF st) .none kV doc pm an cdv ct) ⟨us,[]⟩=pure (ps.zip us)):Binds K fd ps []:=by
 obtain ⟨oc,od,kV,doc,pm,an,cdv,ct,osl,rfl,lk,hcd⟩:=F.ex
 exact .all (h kV doc pm an cdv ct)
theorem aO {x qual:Str}{st:Stmt}{f:Addr}{oc:Value}{od an:Option Addr}{osl:Array (Option Value)}{kV doc pm cdv ct:Value}(l:K.lookup f=some ⟨oc,od,.func (PySem.W.fnOf x qual (qJ st) (j8 st) (aF st) .none kV doc pm an cdv ct),osl⟩)
  (c:PySem.W.codeIn K cdv qual=true) (k:PySem.W.keepIn K (.ref f)=true):Fun K x qual st f (PySem.W.fnOf x qual (qJ st) (j8 st) (aF st) .none kV doc pm an cdv ct):=⟨⟨oc,od,kV,doc,pm,an,cdv,ct,osl,rfl,l,c⟩,k⟩
end
section
variable {X:Cx}
theorem pv (i:Nat){x:Str}{pos:Pos}(hN:X.N[i]?=some x:=by rfl)(hv:Vis X.env.scope x:=by first | exact Or.inl rfl | exact Or.inr (Or.inl rfl) | exact Or.inr (Or.inr rfl))(hd:(x==("__debug__" : Str))=false:=by decide)
  (hcd:(x==("__classdict__" : Str))=false:=by decide):PE X (.Name x pos) (tVar i):=pe_var hN hv hd hcd
end
end L2
namespace L2
open PySem PySem.Spec PyProof.Rows
end L2
namespace L2
open PySem PySem.Spec PyProof.Rows
def clGo (env:Env):List (Str×NameKind)→List (Str×Addr)→List (Str×Addr)
 | [],cs=>cs
 | (n,k)::r,cs=>clGo env r (if (k==NameKind.free)=true then (n,(env.cells.lookup n).getD 0)::cs else cs)
def clOf (scope:Scope)(env:Env):List (Str×Addr):=clGo env scope.names []
theorem vh {env:Env}{p:Str×Addr}:∀ (l:List (Str×NameKind)) (cs:List (Str×Addr)),p∈clGo env l cs→p∈cs∨((p.1,NameKind.free)∈l∧p.2=(env.cells.lookup p.1).getD 0)
 | [],cs,h=>.inl h
 | (n,k)::r,cs,h=>by
  rcases vh r _ h with h | ⟨h1,h2⟩
  ·by_cases hk:(k==NameKind.free)=true
   ·rw [if_pos hk] at h
    rcases List.mem_cons.mp h with rfl | h
    ·have e:k=NameKind.free:=by simpa using hk
     subst e
     exact .inr ⟨List.mem_cons_self,rfl⟩
    ·exact .inl h
   ·rw [if_neg hk] at h
    exact .inl h
  ·exact .inr ⟨List.mem_cons_of_mem _ h1,h2⟩
theorem Ab {env:Env}{x:Str}:∀ (l:List (Str×NameKind)) (cs:List (Str×Addr)),((x,NameKind.free)∈l∨∃ c,(x,c)∈cs)→∃ c,(x,c)∈clGo env l cs
 | [],cs,h=>by
  rcases h with h | h
  ·exact absurd h (by simp)
  ·exact h
 | (n,k)::r,cs,h=>by
  refine Ab r _ ?_
  rcases h with h | ⟨c,h⟩
  ·rcases List.mem_cons.mp h with e | h
   ·injection e with e1 e2
    subst e1;subst e2
    exact .inr ⟨_,by rw [if_pos (by rfl)];exact List.mem_cons_self⟩
   ·exact .inl h
  ·refine .inr ⟨c,?_⟩
   by_cases hk:(k==NameKind.free)=true
   ·rw [if_pos hk];exact List.mem_cons_of_mem _ h
   ·rw [if_neg hk];exact h
theorem gP {x:Str}{c:Addr}:∀ {l:List (Str×Addr)},(x,c)∈l→∃ c',l.lookup x=some c'
 | [],h=>absurd h (by simp)
 | (n,d)::r,h=>by
  by_cases e:x=n
  ·subst e
   exact ⟨d,by simp [List.lookup_cons]⟩
  ·rcases List.mem_cons.mp h with q | q
   ·injection q with q1 _
    exact absurd q1 e
   ·obtain ⟨c',h'⟩:=gP q
    refine ⟨c',?_⟩
    have e':(x==n)=false:=beq_eq_false_iff_ne.mpr e
    rw [List.lookup_cons,e']
    exact h'
theorem clos_of {scope:Scope}{env:Env}(h:∀ y∈scope.names,y.2=NameKind.free→∃ c,env.cells.lookup y.1=some c):closureFor scope env=pure (clOf scope env):=by
 unfold closureFor clOf
 have key:∀ (l:List (Str×NameKind)) (cs:List (Str×Addr)),(∀ y∈l,y.2=NameKind.free→∃ c,env.cells.lookup y.1=some c) →
   (forIn l cs (fun (x:Str×NameKind) (cs:List (Str×Addr))=>(if (x.2==NameKind.free)=true then cellOf env x.1 >>= fun c=>pure (ForInStep.yield ((x.1,c)::cs)) else pure (ForInStep.yield cs):Sem (ForInStep (List (Str×Addr))))))=pure (clGo env l cs):=by
  intro l
  induction l with
  | nil=>intro cs _;rfl
  | cons x r ih=>
   intro cs hl
   obtain ⟨n,k⟩:=x
   rw [List.forIn_cons]
   have hr:∀ y∈r,y.2=NameKind.free→∃ c,env.cells.lookup y.1=some c:=fun y hy=>hl y (List.mem_cons_of_mem _ hy)
   by_cases hk:(k==NameKind.free)=true
   ·obtain ⟨c,hc⟩:=hl (n,k) List.mem_cons_self (by simpa using hk)
    have hc':env.cells.lookup n=some c:=hc
    have e1:cellOf env n=pure c:=by unfold cellOf;rw [hc']
    simp only [hk,if_true,e1,pure_bind]
    rw [ih _ hr]
    simp only [clGo,hk,if_true,hc',Option.getD_some]
   ·simp only [hk,if_false,pure_bind,Bool.false_eq_true]
    rw [ih _ hr]
    simp only [clGo,hk,if_false,Bool.false_eq_true]
 have q:=key scope.names [] h
 simpa using q
theorem ji {y:Str}{c:Addr}:∀ {names:List (Str×NameKind)} {n:Nat} {acc:List (Str×Addr)},(y,c)∈cellsFrom n names acc↔(y,c)∈acc∨(y,c)∈cellsFrom n names []
 | [],n,acc=>by simp [cellsFrom]
 | (name,kind)::r,n,acc=>by
  unfold cellsFrom
  split
  ·rw [ji (acc:=(name,n)::acc),ji (acc:=[(name,n)])]
   simp only [List.mem_cons,List.not_mem_nil,or_false]
   exact ⟨fun h=>h.elim (fun h=>h.elim (fun h=>.inr (.inl h)) .inl) fun h=>.inr (.inr h),fun h=>h.elim (fun h=>.inl (.inr h)) fun h=>h.elim (fun h=>.inl (.inl h)) .inr⟩
  ·exact ji
theorem yP {y:Str}{c:Addr}:∀ {names:List (Str×NameKind)} {n:Nat},(y,c)∈cellsFrom n names []→(y,NameKind.cell)∈names
 | [],n,h=>by simp [cellsFrom] at h
 | (name,kind)::r,n,h=>by
  unfold cellsFrom at h
  split at h
  ·rename_i hk
   rcases ji.mp h with q | q
   ·have hk':kind=.cell:=by simpa using hk
    simp only [List.mem_cons,List.not_mem_nil,or_false,Prod.mk.injEq] at q
    rw [q.1,hk']
    exact List.mem_cons_self
   ·exact List.mem_cons_of_mem _ (yP q)
  ·exact List.mem_cons_of_mem _ (yP h)
theorem cf_has {y:Str}:∀ {names:List (Str×NameKind)} {n:Nat},(y,NameKind.cell)∈names→∃ c,(y,c)∈cellsFrom n names []
 | [],n,h=>by simp at h
 | (name,kind)::r,n,h=>by
  unfold cellsFrom
  rcases List.mem_cons.mp h with q | q
  ·cases q
   rw [if_pos (by rfl)]
   exact ⟨n,ji.mpr (.inl List.mem_cons_self)⟩
  ·split
   ·obtain ⟨c,hc⟩:=cf_has (n:=n+1) q
    exact ⟨c,ji.mpr (.inr hc)⟩
   ·exact cf_has q
theorem cf_new {h:Heap}{names:List (Str×NameKind)}{y:Str}{c:Addr}(e:(y,c)∈cellsFrom h.objs.size names []):(pushCells h names).IsCell c none∧h.objs.size≤c:=
 (cellsFrom_ok names h h.objs.size [] ⟨fun _ _ z=>by simp at z,List.Pairwise.nil⟩ (Nat.le_refl _)).empty y c e
theorem cf_apart {n:Nat}{names:List (Str×NameKind)}{y z:Str}{c:Addr}(e:(y,c)∈cellsFrom n names [])(e':(z,c)∈cellsFrom n names []):y=z:=by
 have key:∀ (k:Nat),∃ h:Heap,h.objs.size=k:=fun k=>by
  induction k with
  | zero=>exact ⟨{ (default:Heap) with objs:=#[] },rfl⟩
  | succ k ih=>
   obtain ⟨h,e⟩:=ih
   exact ⟨h.push { cls:=.type "cell",data:=.cell none },by rw [Heap.size_push,e]⟩
 obtain ⟨h,rfl⟩:=key n
 exact name_of_addr (cellsFrom_ok names h h.objs.size [] ⟨fun _ _ z=>by simp at z,List.Pairwise.nil⟩ (Nat.le_refl _)).apart e e'
theorem nfe_cells {M:Model}{A:Around}{E:Value→Shared→Prop}{s:Shared}{scope:Scope}{globals:Addr}{closure:List (Str×Addr)}{qual:Str}{func:Option Addr}{code:Value}{ar:Env}{builtins:Addr}{Q:Env→Shared→Prop}
  (hQ:Q { scope:=scope,locals:=s.heap.objs.size,globals:=globals,cells:=cellsFrom (s.heap.objs.size+1) scope.names closure,qual:=qual,func:=func,code:=ar.code,frame:=ar.frame,builtins:=ar.builtins } { s with heap:=pushCells (s.heap.push { cls:=.type "dict",data:=.dict #[] }) scope.names }) :
  wpAny M A (newFunctionEnv scope globals closure [] qual func code (some ar) builtins) Q E s:=by
 simp only [newFunctionEnv,Option.isSome_some,if_true]
 refine wpAny_bind (wpAny_alloc ?_)
 refine wpAny_bind (wpAny_layCells _ (fun name kind cells=>by cases hkc:kind==NameKind.cell <;> simp [hkc]) _ _ _ _ ?_)
 rw [show ({ s with heap:=s.heap.push { cls:=.type "dict",data:=.dict #[] } }:Shared).heap.objs.size=s.heap.objs.size+1 from Heap.size_push ..]
 rw [List.forIn_nil]
 exact wpAny_bind (wpAny_pure (wpAny_pure hQ))
def blk (X:Cx)(scope:Scope)(N':List Str)(C:Addr)(s:Shared)(H:Hp)(ex:List Addr):Cx where
 prog:=X.prog
 w:=X.w
 K:=X.K
 mg:=X.mg
 base:=X.base
 A:=X.A
 N:=N'
 s₀:=s
 H₀:=H
 env:=compEnvC scope (cellsFrom (C+1) scope.names (clOf scope X.env)) C X.env
 outer:=X.stack
 stack:=X.stack
 ex:=ex
 fn:=fun y=>decide (scope.names.lookup y=some .cell)
 calm:=X.calm
 pn:=[]
 xe:=fun _ _=>False
structure jN (X:Cx) (scope:Scope) (x:List Str) (ix:List Nat):Prop where
 kind:scope.kind=.function
 own:∀ y∈x,scope.names.lookup y=some .local∨scope.names.lookup y=some .cell
 names:∀ y∈scope.names,scope.names.lookup y.1=some y.2
 free:∀ y∈scope.names,y.2=.free→X.env.scope.names.lookup y.1=some .cell∨X.env.scope.names.lookup y.1=some .free
 ixs:∀ i∈ix,scope.names.lookup (X.N.getD i "")=some .free
 nd:(x++ix.map fun i=>X.N.getD i "").Nodup
def nodupB:List Str→Bool
 | []=>true
 | x::r=>!(r.contains x)&&nodupB r
def blkB (sc:Scope)(N:List Str)(scope:Scope)(x:List Str)(ix:List Nat):Bool:=
 decide (scope.kind=.function)&&x.all (fun y=>decide (scope.names.lookup y=some .local)||decide (scope.names.lookup y=some .cell)) &&
 scope.names.all (fun y=>decide (scope.names.lookup y.1=some y.2)) &&
 scope.names.all (fun y=>!decide (y.2=.free)||decide (sc.names.lookup y.1=some .cell)||decide (sc.names.lookup y.1=some .free)) &&
 ix.all (fun i=>decide (scope.names.lookup (N.getD i "")=some .free))&&nodupB (x++ix.map fun i=>N.getD i "")
theorem yC:∀ {l:List Str},nodupB l=true→l.Nodup
 | [],_=>List.nodup_nil
 | x::r,h=>by
  unfold nodupB at h
  rw [Bool.and_eq_true] at h
  refine List.nodup_cons.mpr ⟨fun hm=>?_,yC h.2⟩
  have:r.contains x=true:=List.contains_iff_mem.mpr hm
  rw [this] at h
  exact absurd h.1 (by decide)
theorem aR {X:Cx}{scope:Scope}{x:List Str}{ix:List Nat}(h:blkB X.env.scope X.N scope x ix=true):jN X scope x ix:=by
 unfold blkB at h
 simp only [Bool.and_eq_true,List.all_eq_true,decide_eq_true_eq,Bool.or_eq_true,Bool.not_eq_true',decide_eq_false_iff_not] at h
 obtain ⟨⟨⟨⟨⟨h1,h3⟩,h4⟩,h5⟩,h6⟩,h7⟩:=h
 refine ⟨h1,fun y hy=>h3 y hy,fun y hy=>h4 y hy,fun y hy hk=>?_,fun i hi=>h6 i hi,yC h7⟩
 ·rcases h5 y hy with (q | q) | q
  ·exact absurd hk q
  ·exact .inl q
  ·exact .inr q
def blkσ (ix:List Nat)(σ : St):St:=ix.map fun i=>(σ[i]?).getD none
abbrev iM (X:Cx)(x:List Str)(ix:List Nat):List Str:=x++ix.map fun i=>X.N.getD i ""
theorem fQ {scope:Scope}{env:Env}{x:Str}:∀ {names:List (Str×NameKind)} {k:NameKind},
  (names.map fun (p:Str×NameKind)=>if (p.2==NameKind.free&&env.scope.kind==.function&&env.kindOf p.1==some .cell)=true then (p.1,NameKind.cell) else (p.1,p.2)).lookup x=some k →
  names.lookup x=some k∨(k=.cell∧names.lookup x=some .free)
 | [],k,h=>by simp at h
 | (n,k')::r,k,h=>by
  rw [List.map_cons] at h
  cases hx:x==n with
  | true=>
   by_cases hc:(k'==NameKind.free&&env.scope.kind==.function&&env.kindOf n==some .cell)=true
   ·rw [if_pos hc] at h
    simp only [List.lookup_cons,hx] at h
    have hk:k'=.free:=by
     have:=(Bool.and_eq_true_iff.mp (Bool.and_eq_true_iff.mp hc).1).1
     simpa using this
    subst hk
    cases h
    exact .inr ⟨rfl,by simp [List.lookup_cons,hx]⟩
   ·rw [if_neg hc] at h
    simp only [List.lookup_cons,hx] at h
    cases h
    exact .inl (by simp [List.lookup_cons,hx])
  | false=>
   have h':(r.map fun (p:Str×NameKind)=>if (p.2==NameKind.free&&env.scope.kind==.function&&env.kindOf p.1==some .cell)=true then (p.1,NameKind.cell) else (p.1,p.2)).lookup x=some k:=by
    by_cases hc:(k'==NameKind.free&&env.scope.kind==.function&&env.kindOf n==some .cell)=true
    ·rw [if_pos hc] at h;simpa only [List.lookup_cons,hx] using h
    ·rw [if_neg hc] at h;simpa only [List.lookup_cons,hx] using h
   rcases fQ (scope:=scope) (env:=env) h' with q | ⟨q1,q2⟩
   ·exact .inl (by simpa only [List.lookup_cons,hx] using q)
   ·exact .inr ⟨q1,by simpa only [List.lookup_cons,hx] using q2⟩
theorem oJ {env:Env}{x:Str}:∀ {names:List (Str×NameKind)},names.lookup x=some .free →
  (names.map fun (p:Str×NameKind)=>if (p.2==NameKind.free&&env.scope.kind==.function&&env.kindOf p.1==some .cell)=true then (p.1,NameKind.cell) else (p.1,p.2)).lookup x=some .cell ∨
  (names.map fun (p:Str×NameKind)=>if (p.2==NameKind.free&&env.scope.kind==.function&&env.kindOf p.1==some .cell)=true then (p.1,NameKind.cell) else (p.1,p.2)).lookup x=some .free
 | [],h=>by simp at h
 | (n,k')::r,h=>by
  rw [List.map_cons]
  cases hx:x==n with
  | true=>
   simp only [List.lookup_cons,hx] at h
   cases h
   by_cases hc:(NameKind.free==NameKind.free&&env.scope.kind==.function&&env.kindOf n==some .cell)=true
   ·rw [if_pos hc];exact .inl (by simp [List.lookup_cons,hx])
   ·rw [if_neg hc];exact .inr (by simp [List.lookup_cons,hx])
  | false=>
   have h':r.lookup x=some .free:=by simpa only [List.lookup_cons,hx] using h
   have ih:=oJ (env:=env) h'
   by_cases hc:(k'==NameKind.free&&env.scope.kind==.function&&env.kindOf n==some .cell)=true
   ·rw [if_pos hc];simpa only [List.lookup_cons,hx] using ih
   ·rw [if_neg hc];simpa only [List.lookup_cons,hx] using ih
theorem nU {env:Env}{x:Str}:∀ {names:List (Str×NameKind)},names.lookup x=some .cell →
  (names.map fun (p:Str×NameKind)=>if (p.2==NameKind.free&&env.scope.kind==.function&&env.kindOf p.1==some .cell)=true then (p.1,NameKind.cell) else (p.1,p.2)).lookup x=some .cell
 | [],h=>by simp at h
 | (n,k')::r,h=>by
  rw [List.map_cons]
  cases hx:x==n with
  | true=>
   simp only [List.lookup_cons,hx] at h
   cases h
   rw [if_neg (by simp)]
   simp [List.lookup_cons,hx]
  | false=>
   have ih:=nU (env:=env) (show r.lookup x=some .cell by simpa only [List.lookup_cons,hx] using h)
   split
   ·simpa only [List.lookup_cons,hx] using ih
   ·simpa only [List.lookup_cons,hx] using ih
section
variable {X:Cx}{pins:List (Addr×Obj)}{σ : St}{H:Hp}{s:Shared}{scope:Scope}{x:List Str}{ix:List Nat}{C:Addr}{fp:List Addr}
theorem own_ok (B:jN X scope x ix){y:Str}(hy:y∈x):Loc (relabel scope X.env) y∧(decide (scope.names.lookup y=some .cell)=true∨(relabel scope X.env).names.lookup y=some .local):=by
 rcases B.own y hy with q | q
 ·have:=lookup_relabel_local (env:=X.env) q
  exact ⟨.inl this,.inr this⟩
 ·exact ⟨.inr (nU (env:=X.env) q),.inl (decide_eq_true q)⟩
theorem vN (I:Inv X pins σ H s)(B:jN X scope x ix):∀ y∈scope.names,y.2=NameKind.free→∃ c,X.env.cells.lookup y.1=some c:=fun y hy hk=>I.ok.has y.1 (B.free y hy hk)
theorem cl_old (I:Inv X pins σ H s)(B:jN X scope x ix){y:Str}{c:Addr}(h:(y,c)∈clOf scope X.env):X.env.cells.lookup y=some c:=by
 rcases vh scope.names [] h with q | ⟨q1,q2⟩
 ·exact absurd q (by simp)
 ·obtain ⟨c',e⟩:=vN I B _ q1 rfl
  have e':X.env.cells.lookup y=some c':=e
  have q2':c=(X.env.cells.lookup y).getD 0:=q2
  rw [e',Option.getD_some] at q2'
  rw [e',q2']
theorem nQ (I:Inv X pins σ H s)(B:jN X scope x ix){y:Str}{c:Addr}(h:(cellsFrom (C+1) scope.names (clOf scope X.env)).lookup y=some c):X.env.cells.lookup y=some c∨(y,c)∈cellsFrom (C+1) scope.names []:=
 (ji.mp (PySem.mem_of_lookup h)).imp_left (cl_old I B)
theorem cf_ge {n:Nat}{names:List (Str×NameKind)}{y:Str}{c:Addr}(e:(y,c)∈cellsFrom n names []):n≤c:=by
 have key:∀ (names:List (Str×NameKind)) (n:Nat),(y,c)∈cellsFrom n names []→n≤c:=by
  intro names
  induction names with
  | nil=>intro n h;simp [cellsFrom] at h
  | cons a r ih=>
   intro n h
   obtain ⟨name,kind⟩:=a
   unfold cellsFrom at h
   split at h
   ·rcases ji.mp h with q | q
    ·simp only [List.mem_cons,List.not_mem_nil,or_false,Prod.mk.injEq] at q
     exact Nat.le_of_eq q.2.symm
    ·exact Nat.le_trans (Nat.le_succ n) (ih (n+1) q)
   ·exact ih n h
 exact key names n e
theorem cl_free (B:jN X scope x ix){y:Str}{c:Addr}(hf:scope.names.lookup y=some .free)(h:(y,c)∈cellsFrom (C+1) scope.names []):False:=by
 have:=B.names _ (yP h)
 simp only at this
 rw [hf] at this
 cases this
theorem cl_has {y:Str}(h:scope.names.lookup y=some .free∨scope.names.lookup y=some .cell):∃ c,(cellsFrom (C+1) scope.names (clOf scope X.env)).lookup y=some c:=by
 rcases h with h | h
 ·obtain ⟨c,hc⟩:=Ab (env:=X.env) scope.names [] (.inl (PySem.mem_of_lookup h))
  exact gP (ji.mpr (.inl hc))
 ·obtain ⟨c,hc⟩:=cf_has (n:=C+1) (PySem.mem_of_lookup h)
  exact gP (ji.mpr (.inr hc))
theorem blk_ok (I:Inv X pins σ H s)(B:jN X scope x ix)(hC:s.heap.objs.size≤C)(hf:∀ b∈fp,FpOk X pins H b)(ho:∀ b∈fp,∃ o,s.heap.get? b=some o) :
  (blk X scope (iM X x ix) C s H fp).Ok where
 mod:=I.ok.mod
 kind:=B.kind
 glob:=I.ok.glob
 blt:=I.ok.blt
 above:=hC
 inj:=fun y z c h1 h2=>by
  have far:∀ {y z:Str},X.env.cells.lookup y=some c→(z,c)∈cellsFrom (C+1) scope.names []→False:=fun {y z} e q=>by
   obtain ⟨v,w⟩:=I.cell y c e
   exact absurd (Nat.lt_of_lt_of_le w.lt (Nat.le_trans (Nat.le_trans hC (Nat.le_succ C)) (cf_ge q))) (Nat.lt_irrefl _)
  rcases nQ I B h1 with q1 | q1
  ·rcases nQ I B h2 with q2 | q2
   ·exact I.ok.inj y z c q1 q2
   ·exact (far q1 q2).elim
  ·rcases nQ I B h2 with q2 | q2
   ·exact (far q2 q1).elim
   ·exact cf_apart q1 q2
 has:=fun y hy=>by
  have hy':(relabel scope X.env).names.lookup y=some .cell∨(relabel scope X.env).names.lookup y=some .free:=hy
  rcases hy' with q | q
  ·rcases fQ (scope:=scope) (env:=X.env) q with r | ⟨_,r⟩
   ·exact cl_has (.inr r)
   ·exact cl_has (.inl r)
  ·rcases fQ (scope:=scope) (env:=X.env) q with r | ⟨r,_⟩
   ·exact cl_has (.inl r)
   ·cases r
 cab:=fun y c hf h=>by
  have hf':scope.names.lookup y=some .cell:=of_decide_eq_true hf
  rcases ji.mp (PySem.mem_of_lookup h) with q | q
  ·rcases vh scope.names [] q with q | ⟨q1,_⟩
   ·exact absurd q (by simp)
   ·have:=B.names _ q1
    simp only at this
    rw [hf'] at this
    cases this
  ·exact Nat.le_trans (Nat.le_trans hC (Nat.le_succ C)) (cf_ge q)
 hd:=I.ok.hd
 qt:=I.qt0
 frames:=I.ok.frames
 stk:=.inl rfl
 exf:=fun b hb=>by
  obtain ⟨o,e⟩:=ho b hb
  refine ⟨Nat.ne_of_lt (Nat.lt_of_lt_of_le (Heap.lt_size e) hC),fun y c h=>?_⟩
  rcases nQ I B h with q | q
  ·exact (hf b hb).2.2.2.2.1 y c q
  ·intro z
   rw [z] at q
   exact absurd (Nat.lt_of_lt_of_le (Heap.lt_size e) (Nat.le_trans (Nat.le_trans hC (Nat.le_succ C)) (cf_ge q))) (Nat.lt_irrefl _)
 bs:=I.bs
 bsz:=Nat.le_trans I.ok.bsz I.sz
 noex:=fun b o e hb=>by
  rcases (hf b hb).2.2.2.1 with q | q
  ·exact I.ok.noex b o e q
  ·exact absurd (Nat.lt_of_lt_of_le (Heap.lt_size e) (Nat.le_trans I.ok.bsz q)) (Nat.lt_irrefl _)
 exfs:=fun b hb z=>by
  obtain ⟨_,h1,h2,_⟩:=hf b hb
  rcases List.mem_cons.mp (I.stkSub b z) with e | e
  ·exact h1 e
  ·exact h2 e
 funs:=I.stack
 frf:=I.stkFree
theorem blk_inv {D:Addr}{h1:Heap}{tk:Nat}{m:Str→Option Value}(I:Inv X pins σ H s)(B:jN X scope x ix)(ok:(blk X scope (iM X x ix) C s H fp).Ok)
  (hD:D=s.heap.objs.size) (k:∀ b o,s.heap.get? b=some o→h1.get? b=some o) (hl:h1.get? D=some { cls:=.type "list",data:=.seq #[] }) (hns:h1.Ns C m) (hCD:C≠D) (hC:s.heap.objs.size≤C) (hce:∀ y c,(y,c)∈cellsFrom (C+1) scope.names []→h1.IsCell c none) :
  Inv (blk X scope (iM X x ix) C s H fp) [] (List.replicate x.length none++blkσ ix σ) (upd H D (.lst [])) { s with heap:=h1,toks:=tk } where
 ok:=ok
 os:=rfl
 bare:=I.bare
 base:=Un.laid k (by rw [hD];exact Nat.le_refl _) (I.hok.fresh (by rw [hD];exact Nat.le_refl _))
 loc:=by
  refine ⟨m,hns,fun i y v e1 e2 e3=>?_⟩
  by_cases hix:i<x.length
  ·rw [List.getElem?_append_left (by simpa using hix),List.getElem?_replicate,if_pos hix] at e2
   cases e2
  ·rw [List.getElem?_append_right (by simpa using hix),List.length_replicate] at e2
   have e1':(ix.map fun i=>X.N.getD i "")[i - x.length]?=some y:=by
    have z:(x++ix.map fun i=>X.N.getD i "")[i]?=some y:=e1
    rwa [List.getElem?_append_right (by simpa using hix)] at z
   generalize i - x.length=j at e1' e2
   unfold blkσ at e2
   rw [List.getElem?_map] at e1' e2
   cases hj:ix[j]? with
   | none=>rw [hj] at e2;cases e2
   | some i'=>
    rw [hj] at e1' e2
    simp only [Option.map_some,Option.some.injEq] at e1' e2
    have hi:σ[i']?=some (some v):=by
     cases q:σ[i']? with
     | none=>rw [q] at e2;cases e2
     | some z=>rw [q] at e2;exact congrArg some e2
    have hlt:i'<X.N.length:=by
     have:=(List.getElem?_eq_some_iff.mp hi).1
     rw [I.len] at this
     exact this
    have hn:X.N[i']?=some y:=by
     rw [List.getD_eq_getElem?_getD,List.getElem?_eq_getElem hlt,Option.getD_some] at e1'
     rw [List.getElem?_eq_getElem hlt,e1']
    have hfree:scope.names.lookup y=some .free:=by
     have:=B.ixs i' (List.mem_of_getElem? hj)
     rw [e1'] at this
     exact this
    have kx:=B.free _ (PySem.mem_of_lookup hfree) rfl
    have vis:Vis X.env.scope y:=by
     rcases kx with q | q
     ·exact .inr (.inl q)
     ·exact .inr (.inr q)
    obtain ⟨m',_,hl'⟩:=I.loc
    obtain ⟨u,r,lk⟩:=hl' i' y v hn hi vis
    refine ⟨u,r,?_⟩
    rcases lk with ⟨q,_⟩ | ⟨_,c,hc,hcell⟩
    ·have q':X.env.scope.names.lookup y=some .local:=q
     rcases kx with z | z <;> (rw [q'] at z;cases z)
    ·obtain ⟨c',hc'⟩:=cl_has (X:=X) (C:=C) (.inl hfree)
     have e:=(nQ I B hc').resolve_right fun z=>cl_free B hfree z
     rw [hc] at e
     cases e
     refine .inr ⟨oJ (env:=X.env) hfree,c,hc',?_⟩
     obtain ⟨o,ho,hd⟩:=hcell
     exact ⟨o,k c o ho,hd⟩
 cell:=fun y c h=>by
  rcases nQ I B h with q | q
  ·obtain ⟨v,o,ho,hd⟩:=I.cell y c q
   exact ⟨v,o,k c o ho,hd⟩
  ·exact ⟨none,hce y c q⟩
 free:=by
  show upd H D (.lst []) C=none
  rw [aP hCD]
  exact I.hok.fresh hC
 freeC:=fun y c h=>by
  show upd H D (.lst []) c=none
  rcases nQ I B h with q | q
  ·obtain ⟨v,o,ho,hd⟩:=I.cell y c q
   rw [aP (by rw [hD];exact Nat.ne_of_lt (Heap.lt_size ho))]
   exact I.freeC y c q
  ·have g:s.heap.objs.size<c:=Nat.lt_of_lt_of_le (Nat.lt_succ_of_le hC) (cf_ge q)
   rw [aP (by rw [hD];exact Nat.ne_of_gt g)]
   exact I.hok.fresh (Nat.le_of_lt g)
 pin:=fun p hp=>absurd (show p∈([]:List (Addr×Obj)) from hp) (by simp)
 hok:=I.hok.laid k (by rw [hD];exact Nat.le_refl _) ⟨Nat.zero_le _,[],0,.nil,hl⟩
 len:=by
  show (List.replicate x.length none++blkσ ix σ).length=(iM X x ix).length
  simp [blkσ]
theorem blk_out {σ':St}{H':Hp}{s':Shared}{h':Heap}{p':List (Addr×Obj)}(I:Inv X pins σ H s)(hC:s.heap.objs.size≤C)(hf:∀ b∈fp,FpOk X pins H b)(J:Inv (blk X scope (iM X x ix) C s H fp) p' σ' H' s')
  (hs:Heap.SameBut C s'.heap h'):Inv X pins σ H' { s' with heap:=h' }:=by
 have I1:Inv X pins σ H' s':=I.call' (ch:=fp) J.os J.base J.hok J.bare fun b hb=>⟨(hf b hb).2.2.2.1,(hf b hb).2.1,(hf b hb).2.2.2.2.1,(hf b hb).2.2.2.2.2⟩
 refine I1.turned (it:=C) (t':=s'.toks) (fun b o hb e=>(hs.2 b hb).trans e) J.free (Nat.ne_of_gt (Nat.lt_of_lt_of_le I.lt hC)) (.inr (Nat.le_trans I.sz hC)) (fun y c e z=>?_) (fun p hp z=>?_)
 ·obtain ⟨v,q⟩:=I.cell y c e
  exact absurd (Nat.lt_of_lt_of_le q.lt (by rw [z];exact hC)) (Nat.lt_irrefl _)
 ·exact absurd (Nat.lt_of_lt_of_le (Heap.lt_size (I.pin p hp).1) (by rw [z];exact hC)) (Nat.lt_irrefl _)
end
def PIfs (X:Cx)(ifs:List Expr)(t:TT):Prop:=
 ∀ (pins:List (Addr×Obj)) (s:Shared) (σ : St) (H:Hp) (Q:Bool→Hp→Prop),Inv X pins σ H s→t σ H Q →
  wpAny (model X.prog X.w) X.A (forIn ifs true fun c r=>if r=true then do let ok ←isTrue c X.env (eval c X.env);pure (ForInStep.yield ok) else pure (ForInStep.yield r)) (TP X pins σ Q) X.xe s
def tYes:TT:=fun _ H Q=>Q true H
theorem pif_nil {X:Cx}:PIfs X [] tYes:=fun _ _ _ H _ I h=>wpAny_pure ⟨H,I,h⟩
theorem pif_one {X:Cx}{c:Expr}{t:TT}(h:PT X c t):PIfs X [c] t:=fun pins s σ H Q I hq=>by
 rw [List.forIn_cons]
 refine wpAny_bind ?_
 rw [if_pos rfl]
 refine wpAny_bind (thn (h pins s σ H Q I hq) fun b s1 q=>wpAny_pure ?_)
 exact wpAny_pure q
def wLCat (n:Nat)(own:V→Hp→List V→Prop)(ix:List Nat)(tt:TT)(te:TE)(σ : St)(Q:VK)(J:It)(H1:Hp)(D:Addr):Prop:=∃ W:Nat→Nat→List V→Hp→Prop,(∃ m,W 0 m [] (upd H1 D (.lst [])))∧∀ i m ys H,W i m ys H→H D=some (.lst ys) →
 (J.stop i H∧Q (.ref D) H)∨(J.go i H∧ys.length<sizeLine∧∀ x H',J.yld i H x H'→∃ vs,own x H' vs∧vs.length=n∧tt (vs.map some++blkσ ix σ) H' fun b H2=>
  if b=true then te (vs.map some++blkσ ix σ) H2 (fun v H3=>H3 D=some (.lst ys)∧∃ m',m'<m∧W (i+1) m' (ys++[v]) (upd H3 D (.lst (ys++[v]))))
  else H2 D=some (.lst ys)∧∃ m',m'<m∧W (i+1) m' ys H2)
def wLC (n:Nat)(own:V→Hp→List V→Prop)(ix:List Nat)(tt:TT)(te:TE)(σ : St)(Q:VK)(J:It)(H1:Hp):Prop:=∀ D,H1 D=none→wLCat n own ix tt te σ Q J H1 D
def tLC (n:Nat)(own:V→Hp→List V→Prop)(ix:List Nat)(wi:TI)(tt:TT)(te:TE):TE:=fun σ H Q=>wi σ H fun J H1=>wLC n own ix tt te σ Q J H1
def gOwn (n:Nat)(own:V→Hp→List V→Prop):TG:=fun v σ H N=>∃ vs,own v H vs∧vs.length=n∧N (vs.map some++σ.drop n) H
theorem comp_loop {P:Program}{w:World}{A:Around}{R:Result→Shared→Prop}{s:Shared}{elt target iter:Expr}{ifs:List Expr}{scope:Scope}{pos:Pos}{it acc:Value}{env:Env}(Iv:Nat→Shared→Prop)
  (turn:∀ n s,Iv n s→wpAny (model P w) A (pyNext it) (fun r s₁=>match r with
   | none=>R (.ok .next) s₁
   | some v=>wpAny (model P w) A (letOwnedTupleGo target it v) (fun _ t₁=>wpAny (model P w) A (assign target env v) (fun _ s₂=>
     wpAny (model P w) A (forIn ifs true fun c r=>if r=true then do let ok ←isTrue c env (eval c env);pure (ForInStep.yield ok) else pure (ForInStep.yield r)) (fun ok s₃=>
      if ok=true then wpAny (model P w) A (eval elt env) (fun x s₄=>
       wpAny (model P w) A (call (.builtin "list.append") [acc,x]) (fun _ s₅=>∃ m,m<n∧Iv m s₅) (notedBy (model P w) A env fun e s'=>R (.error e) s') s₄) (notedBy (model P w) A env fun e s'=>R (.error e) s') s₃
      else ∃ m,m<n∧Iv m s₃) (notedBy (model P w) A env fun e s'=>R (.error e) s') s₂) (notedBy (model P w) A env fun e s'=>R (.error e) s') t₁) (notedBy (model P w) A env fun e s'=>R (.error e) s') s₁) (notedBy (model P w) A env fun e s'=>R (.error e) s') s)
  (n:Nat) (h:Iv n s):codeAny (model P w) A (.compLoop (.ListComp elt [⟨target,iter,ifs,0⟩] scope pos) 0 it acc env) R s:=by
 refine codeAny_loop rfl Iv (fun n s hI=>?_) n h
 show wpAny _ A ((compTurn (.ListComp elt [⟨target,iter,ifs,0⟩] scope pos) 0 it acc env).onRaise (fun x=>do noteFrame x env;theTreesLotGoes x)) _ _ s
 refine wpAny_noted ?_
 rw [compTurn_list]
 refine wpAny_bind (wpAny_standAt (wpAny_bind (wpAny_mono (turn n s hI) (fun r s₁ k₁=>?_) fun _ _ z=>z)))
 cases r with
 | none=>exact wpAny_pure k₁
 | some v=>
  refine wpAny_bind (wpAny_mono k₁ (fun _ t₁ k₂=>wpAny_bind (wpAny_mono k₂ (fun _ s₂ k₃=>wpAny_bind (wpAny_mono k₃ (fun ok s₃ k₄=>?_) fun _ _ z=>z)) fun _ _ z=>z)) fun _ _ z=>z)
  cases ok with
  | false=>exact wpAny_pure ⟨rfl,k₄⟩
  | true=>exact wpAny_bind (wpAny_bind (wpAny_mono k₄ (fun x s₄ k₅=>wpAny_bind (wpAny_mono k₅ (fun _ s₅ k₆=>wpAny_pure (wpAny_pure ⟨rfl,k₆⟩)) fun _ _ z=>z)) fun _ _ z=>z))
section
variable {X:Cx}{scope:Scope}{x:List Str}{ix:List Nat}{elt iter tg:Expr}{ifs:List Expr}{px pos:Pos}{wi:TI}{tt:TT}{te:TE}{own:V→Hp→List V→Prop}
theorem lc_core {pins:List (Addr×Obj)}{σ : St}{s₂ : Shared}{H2:Hp}{it:Addr}{fp:List Addr}{tn:Nat→Heap→Prop}{J:It}{Q:VK}{E:Value→Shared→Prop}{RR:Value→Addr→Result→Shared→Prop}
  (hc:J.cm=true→X.calm=true) (B:jN X scope x ix) (hg:∀ C s H fp,PG (blk X scope (iM X x ix) C s H fp) tg (gOwn x.length own)) (ht:∀ C s H fp,PIfs (blk X scope (iM X x ix) C s H fp) ifs tt) (he:∀ C s H fp,PE (blk X scope (iM X x ix) C s H fp) elt te)
  (I2:Inv X pins σ H2 s₂) (T:Turn X.prog X.w X.K tg J fp it tn) (st2:tn 0 s₂.heap) (f2:∀ b∈fp,FpOk X pins H2 b) (hq:wLC x.length own ix tt te σ Q J H2)
  (hRR:∀ D C s' σ' H' p',s₂.heap.objs.size≤C→Inv (blk X scope (iM X x ix) C s₂ H2 fp) p' σ' H' s'→Q (.ref D) H'→RR (.ref D) C (.ok .next) s') :
  wpAny (model X.prog X.w) X.A (newList []) (fun acc s₃=>wpAny (model X.prog X.w) X.A (newFunctionEnv scope X.env.globals (clOf scope X.env) [] X.env.qual none .none (some X.env)) (fun cenv s₄=>
   codeAny (model X.prog X.w) X.A (.compStart (.ListComp elt [⟨tg,iter,ifs,0⟩] scope pos) 0 (.ref it) acc { cenv with scope:=relabel scope X.env }) (RR acc cenv.locals) s₄) E s₃) E s₂:=by
 refine wpAny_newObj_type (nfe_cells ?_)
 dsimp only
 generalize hH2:s₂.heap.push { cls:=.type "list",dict:=none,data:=.seq ([]:List Value).toArray }=HH
 generalize hh1:pushCells (HH.push { cls:=.type "dict",data:=.dict #[] }) scope.names=h₁
 have hns₁ : h₁.Ns HH.objs.size (fun _=>none):=by
  obtain ⟨o,es,ep,ho,r⟩:=Heap.Ns.new HH (.type "dict")
  exact ⟨o,es,ep,by rw [←hh1];exact pushCells_keeps _ _ _ _ ho,r⟩
 have hkeep:∀ b o,HH.get? b=some o→h₁.get? b=some o:=fun b o e=>by rw [←hh1];exact pushCells_keeps _ _ _ _ (Heap.get?_push_of_some _ e)
 have hce:∀ y c,(y,c)∈cellsFrom (HH.objs.size+1) scope.names []→h₁.IsCell c none:=fun y c e=>by
  rw [←hh1]
  exact (cf_new (h:=HH.push { cls:=.type "dict",data:=.dict #[] }) (by rw [Heap.size_push];exact e)).1
 have hC:HH.objs.size=s₂.heap.objs.size+1:=by rw [←hH2,Heap.size_push]
 have hDC:s₂.heap.objs.size≠HH.objs.size:=by rw [hC];exact Nat.ne_of_lt (Nat.lt_succ_self _)
 have hCle:s₂.heap.objs.size≤HH.objs.size:=by rw [hC];exact Nat.le_succ _
 have old:∀ b o,s₂.heap.get? b=some o→h₁.get? b=some o:=fun b o e=>hkeep b o (hH2 ▸ Heap.get?_push_of_some _ e)
 have hacc:h₁.get? s₂.heap.objs.size=some { cls:=.type "list",data:=.seq #[] }:=hkeep _ _ (hH2 ▸ Heap.get?_push_size _ rfl)
 have hob:∀ b∈fp,∃ o,s₂.heap.get? b=some o:=fun b hb=>let ⟨o,e,_⟩:=T.obj 0 _ st2 b hb;⟨o,e⟩
 have ok:=blk_ok (C:=HH.objs.size) I2 B hCle f2 hob
 obtain ⟨W,⟨m0,w0⟩,turn⟩:=hq s₂.heap.objs.size (I2.hok.fresh (Nat.le_refl _))
 -- the iterator's records, in the block
 have stat:∀ {H':Hp},(∀ b∈fp,H' b=none)→∀ b∈fp,FpOk (blk X scope (iM X x ix) HH.objs.size s₂ H2 fp) [] H' b:=fun {H'} hn b hb=>by
  obtain ⟨o,e⟩:=hob b hb
  obtain ⟨_,g1,g2,g3,g4,g5⟩:=f2 b hb
  refine ⟨hn b hb,Nat.ne_of_lt (Nat.lt_of_lt_of_le (Heap.lt_size e) hCle),fun z=>?_,.inl hb,fun y c h=>?_,fun p hp=>absurd (show p∈([]:List (Addr×Obj)) from hp) (by simp)⟩
  ·rcases List.mem_cons.mp (I2.stkSub b z) with q | q
   ·exact g1 q
   ·exact g2 q
  ·rcases nQ I2 B h with q | q
   ·exact g4 y c q
   ·intro z
    rw [z] at q
    exact absurd (Nat.lt_of_lt_of_le (Heap.lt_size e) (Nat.le_trans (Nat.le_trans hCle (Nat.le_succ _)) (cf_ge q))) (Nat.lt_irrefl _)
 have loop:∀ s₃ : Shared,s₃ = { s₂ with heap:=h₁ } →
   codeAny (model X.prog X.w) X.A (.compLoop (.ListComp elt [⟨tg,iter,ifs,0⟩] scope pos) 0 (.ref it) (.ref s₂.heap.objs.size) (compEnvC scope (cellsFrom (HH.objs.size+1) scope.names (clOf scope X.env)) HH.objs.size X.env))
    (RR (.ref s₂.heap.objs.size) HH.objs.size) s₃:=by
  rintro s₃ rfl
  have J0:=blk_inv (fp:=fp) (C:=HH.objs.size) (tk:=s₂.toks) I2 B ok rfl old hacc hns₁ (Ne.symm hDC) hCle hce
  have fr0:∀ b∈fp,upd H2 s₂.heap.objs.size (.lst []) b=none:=fun b hb=>by
   obtain ⟨o,e⟩:=hob b hb
   rw [aP (Nat.ne_of_lt (Heap.lt_size e))]
   exact (f2 b hb).1
  refine comp_loop (fun k s'=>∃ i ys H',Inv (blk X scope (iM X x ix) HH.objs.size s₂ H2 fp) [] (List.replicate x.length none++blkσ ix σ) H' s'∧tn i s'.heap∧(∀ b∈fp,H' b=none)∧H' s₂.heap.objs.size=some (.lst ys)∧W i k ys H') ?_ m0
   ⟨0,[],_,J0,T.keep 0 _ _ st2 (fun b _ o e=>old b o e),fr0,bw,w0⟩
  rintro n s₄ ⟨i,ys,H4,I4,st4,fr4,hD4,w4⟩
  rcases turn i n ys H4 w4 hD4 with ⟨stop,qn⟩ | ⟨go,hz,step⟩
  ·refine thn (T.done (blk X scope (iM X x ix) HH.objs.size s₂ H2 fp) rfl rfl rfl hc i [] s₄ _ H4 _ I4 (stat fr4) st4 stop) fun r s5 ⟨hr,I5⟩=>?_
   subst hr
   exact hRR _ _ s5 _ H4 [] hCle I5 qn
  ·refine thn (T.item (blk X scope (iM X x ix) HH.objs.size s₂ H2 fp) rfl rfl rfl hc i [] s₄ _ H4 _ I4 (stat fr4) st4 go) fun r s5 ⟨u,hr,h5⟩=>?_
   subst hr
   refine wpAny_mono h5 (fun _ s6 ⟨xv,H6,I6,r6,y6,st6,fr6⟩=>?_) fun _ _ z=>z
   have I6':=I6.pinned (stat fr6) (T.obj _ _ st6)
   obtain ⟨vs,hov,hvl,q7⟩:=step xv H6 y6
   have fgt:∀ {σ9:St} {H9:Hp} {s9:Shared} {p9:List (Addr×Obj)},σ9.length=x.length→Inv (blk X scope (iM X x ix) HH.objs.size s₂ H2 fp) p9 (σ9++blkσ ix σ) H9 s9→Inv (blk X scope (iM X x ix) HH.objs.size s₂ H2 fp) p9 (List.replicate x.length none++blkσ ix σ) H9 s9:=fun {σ9 H9 s9 p9} hl I9=>
    I9.weak (by simp [hl]) fun k v e=>by
     by_cases hk:k<x.length
     ·rw [List.getElem?_append_left (by simpa using hk),List.getElem?_replicate,if_pos hk] at e
      cases e
     ·rw [List.getElem?_append_right (by simpa using hk),List.length_replicate] at e
      rw [List.getElem?_append_right (by rw [hl];omega),hl]
      exact e
   refine wpAny_mono (hg _ _ _ _ _ s6 _ H6 xv u (fun σ9 H9=>σ9=vs.map some++(List.replicate x.length (none:Option V)++blkσ ix σ).drop x.length∧H9=H6) I6' r6 ⟨vs,hov,hvl,rfl,rfl⟩) (fun _ s7 ⟨σ7,H7,I7,e7,e8⟩=>?_) fun _ _ z=>z.elim
   subst e7 e8
   rw [List.drop_left' (by simp)] at I7
   have hml:(vs.map some).length=x.length:=by rw [List.length_map];exact hvl
   refine wpAny_mono (ht _ _ _ _ _ s7 _ H7 _ I7 q7) (fun b s8 ⟨H8,I8,q8⟩=>?_) fun _ _ z=>z.elim
   have pinned:∀ {H9:Hp} {s9:Shared} {σ9:St},Inv (blk X scope (iM X x ix) HH.objs.size s₂ H2 fp) ([]++wW fp s6.heap) σ9 H9 s9→tn (i+1) s9.heap∧∀ b∈fp,H9 b=none:=fun {H9 s9 σ9} I9=>by
    refine ⟨T.keep _ _ _ st6 fun b hb o e=>(I9.pin (b,o) (List.mem_append_right _ (List.mem_append_right _ (jL hb e)))).1,fun b hb=>?_⟩
    obtain ⟨o,e,d⟩:=T.obj _ _ st6 b hb
    exact (I9.pin (b,o) (List.mem_append_right _ (List.mem_append_right _ (jL hb e)))).2.1
   cases b with
   | false=>
    rw [if_neg Bool.false_ne_true] at q8 ⊢
    obtain ⟨hD8,m',hm,w8⟩:=q8
    obtain ⟨t8,f8⟩:=pinned I8
    exact ⟨m',hm,i+1,ys,H8,fgt hml I8.unpinned,t8,f8,hD8,w8⟩
   | true=>
    rw [if_pos rfl] at q8 ⊢
    refine wpAny_mono (he _ _ _ _ _ s8 _ H8 _ I8 q8) (fun u9 s9 ⟨v9,H9,I9,r9,hD9,m',hm,w9⟩=>?_) fun _ _ z=>z.elim
    refine wpAny_mono (wG (X:=blk X scope (iM X x ix) HH.objs.size s₂ H2 fp) _ s9 _ H9 (.ref s₂.heap.objs.size) [v9] _ [u9] (fun _ H'=>H'=upd H9 s₂.heap.objs.size (.lst (ys++[v9]))) I9 rfl (.cons r9 .nil) ⟨_,ys,v9,rfl,rfl,hD9,hz,rfl⟩) (fun _ s10 ⟨_,H10,I10,_,e10⟩=>?_) fun _ _ z=>z.elim
    subst e10
    obtain ⟨t10,f10⟩:=pinned I10
    exact ⟨m',hm,i+1,ys++[v9],_,fgt hml I10.unpinned,t10,f10,bw,w9⟩
 exact codeAny_compStart_list (loop _ rfl) (T.self _ 0 _ _ _ (T.keep 0 _ _ st2 (fun b _ o e=>old b o e)) (loop _ rfl))
theorem pe_lc (ix:List Nat)(hc:X.calm=true)(B:jN X scope x ix)(hg:∀ C s H fp,PG (blk X scope (iM X x ix) C s H fp) tg (gOwn x.length own))(hi:PI X tg iter wi)(ht:∀ C s H fp,PIfs (blk X scope (iM X x ix) C s H fp) ifs tt)(he:∀ C s H fp,PE (blk X scope (iM X x ix) C s H fp) elt te)
  (hs:∀ v,foldedSetIterable iter X.env v=pure v:=by intro _;rfl):PE X (.ListComp elt [⟨tg,iter,ifs,0⟩] scope pos) (tLC x.length own ix wi tt te):=by
 intro pins s σ H Q I h
 rw [eval_ListComp]
 refine wpAny_comprehension_free (use:=none) rfl hs (clos_of (vN I B)) B.kind (fun y hy hk=>by rw [B.names y hy,hk]) ?_
 refine thn (hi pins s σ H _ I h) fun v s1 h1=>thn h1 fun itv s2 h2=>?_
 obtain ⟨it,fp,tn,J,H2,e,I2,T,st2,f2,hq⟩:=h2
 subst e
 refine lc_core (RR:=fun acc C=>compPost (model X.prog X.w) X.A X.xe none (EP X pins σ Q) acc C) (fun _=>hc) B hg ht he I2 T st2 f2 hq fun D C s' σ' H' p' hC I' q'=>?_
 obtain ⟨m,hn,_⟩:=I'.loc
 exact ⟨m,hn,fun h' hs'=>⟨.ref D,H',blk_out I2 hC f2 I' hs',rfl,q'⟩⟩
theorem ps_lc (ix:List Nat){i:Nat}{y:Str}{py spos:Pos}(hN:X.N.Nodup)(hi':X.N[i]?=some y)(hy:Loc X.env.scope y)(hc:X.calm=true)(B:jN X scope x ix)(hg:∀ C s H fp,PG (blk X scope (iM X x ix) C s H fp) tg (gOwn x.length own))(hi:PI X tg iter wi)
  (ht:∀ C s H fp,PIfs (blk X scope (iM X x ix) C s H fp) ifs tt) (he:∀ C s H fp,PE (blk X scope (iM X x ix) C s H fp) elt te)
  (hsw:swapsWith (.ListComp elt [⟨tg,iter,ifs,0⟩] scope pos) (some (.Name y py)) spos.line X.env=pure true:=by rfl)
  (hf:X.fn y=true∨X.env.scope.names.lookup y=some .local:=by first | exact .inl rfl | exact .inr rfl | assumption)
  (hs:∀ v,foldedSetIterable iter X.env v=pure v:=by intro _;rfl):PS X (.Assign [.Name y py] (.ListComp elt [⟨tg,iter,ifs,0⟩] scope pos) spos) (tAsg (tLC x.length own ix wi tt te) (gName i)):=by
 intro pins s σ H D I h
 rw [exec_Assign_Name_used _ _ _ _ hsw]
 refine wpAny_bind (wpAny_standAt (wpAny_bind ?_))
 show wpAny _ X.A (do let _ ←comprehension (.ListComp elt [⟨tg,iter,ifs,0⟩] scope pos) scope X.env _ (newList []) false (eval iter X.env) (some (assign (.Name y py) X.env))) _ _ s
 refine wpAny_bind (wpAny_mono (wpAny_comprehension_free (use:=some (assign (.Name y py) X.env)) (Q:=fun _ s'=>SP X pins D .next s') rfl hs (clos_of (vN I B)) B.kind (fun y hy hk=>by rw [B.names y hy,hk]) ?_) (fun _ s' hq=>wpAny_pure (wpAny_pure hq)) fun _ _ e=>e)
 refine thn (hi pins s σ H _ I h) fun v s1 h1=>thn h1 fun itv s2 h2=>?_
 obtain ⟨it,fp,tn,J,H2,e,I2,T,st2,f2,hq⟩:=h2
 subst e
 refine lc_core (RR:=fun acc C=>compPost (model X.prog X.w) X.A X.xe (some (assign (.Name y py) X.env)) (fun _ s'=>SP X pins D .next s') acc C) (fun _=>hc) B hg ht he I2 T st2 f2 hq fun D' C s' σ' H' p' hC I' q'=>?_
 obtain ⟨m,hn,_⟩:=I'.loc
 have I3:Inv X pins σ H' s':=blk_out (h':=s'.heap) I2 hC f2 I' (.refl ..)
 show wpAny _ X.A (assign (.Name y py) X.env (.ref D')) _ _ s'
 have cneC:∀ z c,X.env.cells.lookup z=some c→c≠C:=fun z c e q=>by
  obtain ⟨v,w⟩:=I2.cell z c e
  exact absurd (Nat.lt_of_lt_of_le w.lt (by rw [q];exact hC)) (Nat.lt_irrefl _)
 have lneC:X.env.locals≠C:=Nat.ne_of_lt (Nat.lt_of_lt_of_le I2.lt hC)
 refine wpAny_assign_Name (v8 (v:=.ref D') I3 hN hi' hy rfl (fun s'' I'' hsb=>?_) hf)
 obtain ⟨a,hsb,ha⟩:=hsb
 have haC:C≠a:=by
  rcases ha with rfl | ha
  ·exact Ne.symm lneC
  ·exact Ne.symm (cneC _ _ ha)
 refine ⟨m,hn.sameBut hsb haC,fun h' hs'=>⟨_,H',?_,q'⟩⟩
 refine I''.turned (it:=C) (t':=s''.toks) (fun b o hb e=>(hs'.2 b hb).trans e) I'.free (Ne.symm lneC) (.inr (Nat.le_trans I2.sz hC)) cneC (fun p hp z=>?_)
 exact absurd (Nat.lt_of_lt_of_le (Heap.lt_size (I2.pin p hp).1) (by rw [z];exact hC)) (Nat.lt_irrefl _)
end
end L2
namespace L2
open PySem PySem.Spec PyProof.Rows
def Sm (n:Nat)(i:Int):Prop:=i.natAbs<2^n
theorem Sm.bits {n:Nat}{i:Int}(h:Sm n i):Builtin.Int.intBits i≤n:=by
 unfold Builtin.Int.intBits
 by_cases e:i=0
 ·subst e;exact Nat.zero_le _
 ·have e':(i==0)=false:=beq_eq_false_iff_ne.mpr e
  rw [e']
  have h0:i.natAbs≠0:=by omega
  have:=(Nat.log2_lt h0).mpr h
  simp only [Bool.false_eq_true,if_false]
  omega
theorem Sm.mono {m n:Nat}{i:Int}(h:Sm m i)(hmn:m≤n):Sm n i:=Nat.lt_of_lt_of_le h (Nat.pow_le_pow_right (by decide) hmn)
theorem Sm.mul {m n:Nat}{i j:Int}(h:Sm m i)(h':Sm n j):Sm (m+n) (i*j):=by
 unfold Sm at *
 rw [Int.natAbs_mul,Nat.pow_add]
 by_cases e:j.natAbs=0
 ·rw [e,Nat.mul_zero]
  exact Nat.mul_pos (Nat.pow_pos (by decide)) (Nat.pow_pos (by decide))
 ·exact Nat.lt_of_lt_of_le (Nat.mul_lt_mul_of_pos_right h (Nat.pos_of_ne_zero e)) (Nat.mul_le_mul_left _ (Nat.le_of_lt h'))
theorem Sm.add {m n:Nat}{i j:Int}(h:Sm m i)(h':Sm n j):Sm (max m n+1) (i+j):=by
 have h1:=h.mono (Nat.le_max_left m n)
 have h2:=h'.mono (Nat.le_max_right m n)
 unfold Sm at *
 rw [Nat.pow_succ]
 omega
theorem Sm.neg {n:Nat}{i:Int}(h:Sm n i):Sm n (-i):=by unfold Sm at *;rw [Int.natAbs_neg];exact h
theorem Sm.sub {m n:Nat}{i j:Int}(h:Sm m i)(h':Sm n j):Sm (max m n+1) (i - j):=by
 rw [Int.sub_eq_add_neg];exact h.add h'.neg
theorem Sm.zero {n:Nat}:Sm n 0:=Nat.pow_pos (by decide)
theorem sy {n:Nat}{i:Int}(h1:-(2^n:Int)<i)(h2:i<(2^n:Int)):Sm n i:=by
 unfold Sm
 have e:((2^n:Nat):Int)=(2:Int)^n:=by simp
 omega
theorem Sm.le {n:Nat}{i j:Int}(h:Sm n i)(hj:j.natAbs≤i.natAbs):Sm n j:=Nat.lt_of_le_of_lt hj h
def dR (i j:Int):Prop:=∃ m n,m≤1000000∧n≤1000000∧Sm m i∧Sm n j
theorem dR.ok {i j:Int}(h:dR i j):IntMulOk i j:=by
 obtain ⟨m,n,hm,hn,h1,h2⟩:=h
 have e:(2:Nat)^20=1048576:=by decide
 exact .of_bits (by have:=h1.bits;omega) (by have:=h2.bits;omega)
def CDivBN (_ j:Int):Prop:=j≠0∧∃ n,n≤8000∧Sm n j
theorem sm_log2 {n:Nat}{j:Int}(hn:n≤8000)(h:Sm n j):j.natAbs.log2<9000:=by
 by_cases e:j.natAbs=0
 ·rw [e];decide
 ·have:=(Nat.log2_lt e).mpr h
  omega
section
variable {X:Cx}
theorem op_mulB:OpR X (binaryOp .Mult) (rI dR fun i j=>.int (i*j)):=opI fun _ _ _ _ _ _ _ hc q=>mul_int q hc.ok
theorem op_fdivBN:OpR X (binaryOp .FloorDiv) (rI CDivBN fun i j=>.int (i.fdiv j)):=opI fun i j _ _ _ _ _ hc q=>by
 obtain ⟨h1,n,hn,h2⟩:=hc
 exact floordiv_int h1 q (.inl (PyProof.noPylong_of_log2 (sm_log2 hn h2)))
theorem rm:∀ {bs:List Bool} {its:List Value} {i:Nat} {v:Value},Vals (bs.map V.bl) its→its[i]?=some v→∃ b,bs[i]?=some b∧v=.bool b
 | [],_,_,_,.nil,e=>by simp at e
 | b::bs,_,0,_,.cons r _,e=>by simp at e;subst e;exact ⟨b,rfl,r⟩
 | _::bs,_,i+1,v,.cons _ t,e=>by
  obtain ⟨b,h1,h2⟩:=rm (i:=i) (v:=v) t (by simpa using e)
  exact ⟨b,by simpa using h1,h2⟩
theorem range_allB:∀ (bs:List Bool),((List.range bs.length).all fun i=>(bs[i]?).getD true)=bs.all id:=fun bs=>by
 rw [Bool.eq_iff_iff,List.all_eq_true,List.all_eq_true]
 constructor
 ·intro h b hb
  obtain ⟨i,hi,rfl⟩:=List.mem_iff_getElem.mp hb
  have:=h i (List.mem_range.mpr hi)
  simpa [hi] using this
 ·intro h i hi
  have hi':=List.mem_range.mp hi
  have:=h bs[i] (List.getElem_mem hi')
  simpa [hi'] using this
theorem call_allB (hc:X.calm=true):lO X (.builtin "all") (fun xs H Q=>∃ (p:Addr) (bs:List Bool),xs=[.ref p]∧SqL X.K H p (bs.map V.bl)∧Q (.bl (bs.all id)) H):=by
 intro pins s σ H xs us Q I r h
 obtain ⟨p,bs,rfl,hS,q⟩:=h
 obtain ⟨u,rfl,ru⟩:=vals1 r
 cases ru
 obtain ⟨its,rv,pl,hz⟩:=I.list hS
 have hlen:its.length=bs.length:=by rw [←rv.length,List.length_map]
 have hl:=pl.isList
 have hlt:p<s.heap.objs.size:=by obtain ⟨_,e,_⟩:=hl;exact Heap.lt_size e
 refine call_all_walk (wpAny_pyIter_list hl ?_)
 refine ⟨s.heap.objs.size,[s.heap.objs.size,p],[s.heap.objs.size],its.toArray.size,_,_,fun i=>(bs[i]?).getD true,rfl,Walks.list (A:=X.A.in1) (I.ok.hd hc) _ p (Nat.ne_of_lt hlt) its.toArray,
  ⟨⟨_,Heap.get?_push_size _ rfl,rfl,rfl⟩,hl.push _⟩,fun i v s' Q' E' hP hQ=>?_,fun h' tk hk=>?_⟩
 ·obtain ⟨b,e,rfl⟩:=rm rv (by simpa using hP)
  simp only [e,Option.getD_some] at hQ
  exact wpAny_truthy_bool hQ
 ·have e:((List.range its.toArray.size).all fun i=>(bs[i]?).getD true)=bs.all id:=by
   rw [List.size_toArray,hlen];exact range_allB bs
  rw [e]
  refine ⟨.bl (bs.all id),H,I.kept (h':=h') (t':=tk) (fun b x e=>?_),rfl,q⟩
  exact hk b x (fun hm=>by rw [List.mem_singleton.mp hm] at e;exact Nat.lt_irrefl _ (Heap.lt_size e)) (Heap.get?_push_of_some _ e)
def isiV (K:PySem.W.Frag)(H:Hp):V→String→Bool→Prop
 | .int _,T,b=>(T = "int"∧b=true)∨(T = "bool"∧b=false)∨(T = "tuple"∧b=false)∨(T = "list"∧b=false)
 | .bl _,T,b=>(T = "int"∧b=true)∨(T = "bool"∧b=true)∨(T = "tuple"∧b=false)∨(T = "list"∧b=false)
 | .str _,T,b=>(T = "int"∧b=false)∨(T = "bool"∧b=false)∨(T = "tuple"∧b=false)∨(T = "list"∧b=false)
 | .non,T,b=>(T = "int"∧b=false)∨(T = "bool"∧b=false)∨(T = "tuple"∧b=false)∨(T = "list"∧b=false)
 | .ref p,T,b=>(∃ xs,SqT K H p xs∧((T = "int"∧b=false)∨(T = "bool"∧b=false)∨(T = "tuple"∧b=true)∨(T = "list"∧b=false))) ∨
   (∃ xs,SqL K H p xs∧((T = "int"∧b=false)∨(T = "bool"∧b=false)∨(T = "tuple"∧b=false)∨(T = "list"∧b=true)))
 | _,_,_=>False
theorem call_isi:lO X (.builtin "isinstance") (fun xs H Q=>∃ x T b,xs=[x,.ty T]∧isiV X.K H x T b∧Q (.bl b) H):=by
 intro pins s σ H xs us Q I r h
 obtain ⟨x,T,b,rfl,hi,q⟩:=h
 obtain ⟨u,w',rfl,rx,ru⟩:=vals2 r
 cases ru
 have k0:EP X pins σ Q (.bool b) s:=⟨.bl b,H,I,rfl,q⟩
 have k1:EP X pins σ Q (.bool b) { s with toks:=s.toks+1 }:=⟨.bl b,H,I.tok _,rfl,q⟩
 cases x with
 | int i=>
  obtain ⟨t,rfl⟩:=rx
  rcases hi with ⟨rfl,rfl⟩ | ⟨rfl,rfl⟩ | ⟨rfl,rfl⟩ | ⟨rfl,rfl⟩
  ·exact IsiPair.int_int k0
  ·exact IsiPair.int_bool k1
  ·exact IsiPair.int_tuple k1
  ·exact IsiPair.int_list k1
 | bl i=>
  cases rx
  rcases hi with ⟨rfl,rfl⟩ | ⟨rfl,rfl⟩ | ⟨rfl,rfl⟩ | ⟨rfl,rfl⟩
  ·first | exact IsiPair.bool_int k0 | exact IsiPair.bool_int k1
  ·first | exact IsiPair.bool_bool k0 | exact IsiPair.bool_bool k1
  ·exact IsiPair.bool_tuple k1
  ·exact IsiPair.bool_list k1
 | str i=>
  obtain ⟨t,rfl⟩:=rx
  rcases hi with ⟨rfl,rfl⟩ | ⟨rfl,rfl⟩ | ⟨rfl,rfl⟩ | ⟨rfl,rfl⟩
  ·exact IsiPair.str_int k1
  ·exact IsiPair.str_bool k1
  ·exact IsiPair.str_tuple k1
  ·exact IsiPair.str_list k1
 | non=>
  cases rx
  rcases hi with ⟨rfl,rfl⟩ | ⟨rfl,rfl⟩ | ⟨rfl,rfl⟩ | ⟨rfl,rfl⟩
  ·exact IsiPair.NoneType_int k1
  ·exact IsiPair.NoneType_bool k1
  ·exact IsiPair.NoneType_tuple k1
  ·exact IsiPair.NoneType_list k1
 | ref p=>
  cases rx
  rcases hi with ⟨xs,hS,hi⟩ | ⟨xs,hS,hi⟩
  ·obtain ⟨its,_,⟨o,e,c,_⟩,_⟩:=I.tuple hS
   rcases hi with ⟨rfl,rfl⟩ | ⟨rfl,rfl⟩ | ⟨rfl,rfl⟩ | ⟨rfl,rfl⟩
   ·exact IsiPair.tuple_int e c k1
   ·exact IsiPair.tuple_bool e c k1
   ·exact IsiPair.tuple_tuple e c k0
   ·exact IsiPair.tuple_list e c k1
  ·obtain ⟨its,_,pl,_⟩:=I.list hS
   obtain ⟨o,e,c,_⟩:=pl.isList
   rcases hi with ⟨rfl,rfl⟩ | ⟨rfl,rfl⟩ | ⟨rfl,rfl⟩ | ⟨rfl,rfl⟩
   ·exact IsiPair.list_int e c k1
   ·exact IsiPair.list_bool e c k1
   ·exact IsiPair.list_tuple e c k1
   ·exact IsiPair.list_list e c k0
 | _=>exact (show False from hi).elim
end
end L2
namespace L2
open PySem PySem.Spec PyProof.Rows
inductive W where
 | non | bl (b:Bool) | int (i:Int) | str (x:Str) | ty (n:String) | tup (ws:List W) | lst (ws:List W) | loc (n:Nat) | kls (ws:List W) | exc (n:Str)
inductive Cell where
 | lst (ws:List W) | obj (C:Addr) (fs:List (Str×W)) | dct (kvs:List (Key×W))
 /-- a dict whose keys are tuples of ints -/
 | dtt (kvs:List (List Int×W))
structure Gh where
 nx:Nat
 c:Nat→Option Cell
structure Mu where
 f:Nat→Option Addr
 hid:Addr→Prop
def KLst (K:PySem.W.Frag)(p:Addr)(xs:List V):Prop:=
 ∃ (o:Obj) (its:Array Value) (n:Nat),K.lookup p=some o∧o.cls=.type "list"∧o.dict=none∧o.data=.seq its n∧its.size≤sizeLine∧Vals xs its.toList
def Frz (H:Hp)(μ : Mu)(p:Addr)(xs:List V):Prop:=H p=some (.lst xs)∧(∀ n,μ.f n≠some p)∧¬ μ.hid p
def Frk (K:PySem.W.Frag)(H:Hp)(p:Addr)(xs:List V):Prop:=(∃ o,H p=some (.frz o (.lst xs)))∨KLst K p xs
theorem Frz.sq {K:PySem.W.Frag}{H:Hp}{μ : Mu}{p:Addr}{xs:List V}(h:Frz H μ p xs):SqL K H p xs:=.inl (.inl h.1)
theorem Frk.sq {K:PySem.W.Frag}{H:Hp}{p:Addr}{xs:List V}(h:Frk K H p xs):SqL K H p xs:=by
 rcases h with h | h
 ·exact .inl (.inr h)
 ·exact .inr h
def vmB:List Value:=[.type "ValueError",.type "Exception",.type "BaseException",.type "object"]
def xdIn (K:PySem.W.Frag)(C:Addr)(n:Str):Bool:=PySem.W.nsIn K mainGlobals n==some (some (.ref C))&&PySem.W.typeIn K (.ref C)==some (.type "type")&&match PySem.W.clsIn K C with
 | some cd=>cd.name==n&&cd.mro.contains (.type "BaseException")
 | none=>false
def xcIn (K:PySem.W.Frag)(C:Addr)(n:Str):Bool:=xdIn K C n&&(match PySem.W.clsIn K C with
 | some cd=>(match cd.mro with
  | [.ref C',.ref R,a,b,c,d]=>C'==C&&[a,b,c,d]==vmB&&PySem.W.nsIn K mainGlobals "EaselError"==some (some (.ref R))&&(PySem.W.clsIn K R).any (fun c=>c.name==("EaselError" : Str))
  | _=>false)
 | none=>false)&&PySem.W.findIn K (.ref C) "__getattribute__"==some (some (.builtin "BaseException.__getattribute__"))&&PySem.W.findIn K (.ref C) "__getattr__"==some none&&PySem.W.findIn K (.ref C) "__class__"==some (some (.builtin "object.__class__"))&&PySem.W.specialIn K (.builtin "object.__class__") "__get__"==some (some (.builtin "getset_descriptor.__get__"))
 && PySem.W.takesIn K (.builtin "object.__class__")==some true
def Xob (K:PySem.W.Frag)(o:Obj)(n:Str):Prop:=∃ C,o.cls=.ref C∧o.dict=none∧PySem.W.notCls o=true∧xcIn K C n=true
mutual
def Rep (K:PySem.W.Frag)(H:Hp)(μ : Mu):W→V→Prop
 | .non,v=>v=.non
 | .bl b,v=>v=.bl b
 | .int i,v=>v=.int i
 | .str x,v=>v=.str x
 | .ty n,v=>v=.ty n
 | .tup ws,v=>∃ p xs,v=.ref p∧SqT K H p xs∧aN K H μ ws xs
 | .lst ws,v=>∃ p xs,v=.ref p∧Frz H μ p xs∧aN K H μ ws xs
 | .kls ws,v=>∃ p xs,v=.ref p∧Frk K H p xs∧aN K H μ ws xs
 | .loc n,v=>∃ p,v=.ref p∧μ.f n=some p
 | .exc n,v=>∃ p o u,v=.ref p∧H p=some (.frz o u)∧Xob K o n
def aN (K:PySem.W.Frag)(H:Hp)(μ : Mu):List W→List V→Prop
 | [],xs=>xs=[]
 | w::ws,xs=>∃ v vs,xs=v::vs∧Rep K H μ w v∧aN K H μ ws vs
end
section
variable {K:PySem.W.Frag}{H H' H1 H2:Hp}{μ μ' μ1 μ2:Mu}{h h':Gh}{w:W}{ws:List W}{v:V}{xs:List V}
theorem aN.len:∀ {ws:List W} {xs:List V},aN K H μ ws xs→ws.length=xs.length
 | [],xs,h=>by
  have e:xs=[]:=by rw [aN] at h;exact h
  rw [e];rfl
 | w::ws,xs,h=>by
  rw [aN] at h
  obtain ⟨v,vs,e,_,h⟩:=h
  rw [e,List.length_cons,List.length_cons,aN.len h]
theorem aN.get:∀ {ws:List W} {xs:List V} {i:Nat} {w:W},aN K H μ ws xs→ws[i]?=some w→∃ v,xs[i]?=some v∧Rep K H μ w v
 | [],_,_,_,_,e=>by simp at e
 | a::ws,xs,0,w,h,e=>by
  rw [aN] at h
  obtain ⟨v,vs,e1,r,_⟩:=h
  simp at e;subst e;subst e1
  exact ⟨v,rfl,r⟩
 | a::ws,xs,i+1,w,h,e=>by
  rw [aN] at h
  obtain ⟨v,vs,e1,_,h⟩:=h
  subst e1
  obtain ⟨u,h1,h2⟩:=aN.get (i:=i) (w:=w) h (by simpa using e)
  exact ⟨u,by simpa using h1,h2⟩
theorem aN.nil:aN K H μ [] []:=by rw [aN]
theorem aN.cons (r:Rep K H μ w v)(h:aN K H μ ws xs):aN K H μ (w::ws) (v::xs):=by
 rw [aN];exact ⟨v,xs,rfl,r,h⟩
theorem aN.append:∀ {ws:List W} {xs:List V} {us:List W} {ys:List V},aN K H μ ws xs→aN K H μ us ys→aN K H μ (ws++us) (xs++ys)
 | [],xs,us,ys,h,g=>by
  rw [aN] at h;subst h;exact g
 | w::ws,xs,us,ys,h,g=>by
  rw [aN] at h
  obtain ⟨v,vs,e,r,h⟩:=h
  subst e
  exact aN.cons r (aN.append h g)
theorem aN.one (r:Rep K H μ w v):aN K H μ [w] [v]:=aN.cons r aN.nil
theorem aN.set (r:Rep K H μ w v):∀ {ws:List W} {xs:List V} (i:Nat),aN K H μ ws xs→aN K H μ (ws.set i w) (xs.set i v)
 | [],xs,i,h=>by rw [aN] at h;subst h;exact aN.nil
 | a::ws,xs,0,h=>by
  rw [aN] at h
  obtain ⟨u,vs,e,_,h⟩:=h
  subst e
  exact aN.cons r h
 | a::ws,xs,i+1,h=>by
  rw [aN] at h
  obtain ⟨u,vs,e,q,h⟩:=h
  subst e
  exact aN.cons q (aN.set r i h)
theorem aN.take:∀ {ws:List W} {xs:List V} (n:Nat),aN K H μ ws xs→aN K H μ (ws.take n) (xs.take n)
 | _,_,0,_=>by simp only [List.take_zero];exact aN.nil
 | [],xs,n+1,h=>by rw [aN] at h;subst h;exact aN.nil
 | a::ws,xs,n+1,h=>by
  rw [aN] at h
  obtain ⟨u,vs,e,q,h⟩:=h
  subst e
  exact aN.cons q (aN.take n h)
theorem aN.drop:∀ {ws:List W} {xs:List V} (n:Nat),aN K H μ ws xs→aN K H μ (ws.drop n) (xs.drop n)
 | _,_,0,h=>h
 | [],xs,n+1,h=>by rw [aN] at h;subst h;exact aN.nil
 | a::ws,xs,n+1,h=>by
  rw [aN] at h
  obtain ⟨u,vs,e,q,h⟩:=h
  subst e
  exact aN.drop n h
structure Ex0 (K:PySem.W.Frag) (H:Hp) (μ : Mu) (H':Hp) (μ':Mu):Prop where
 t:∀ p xs,SqT K H p xs→SqT K H' p xs
 l:∀ p xs,Frz H μ p xs→Frz H' μ' p xs
 k:∀ p xs,Frk K H p xs→Frk K H' p xs
 m:∀ n p,μ.f n=some p→μ'.f n=some p
 x:∀ p o u,H p=some (.frz o u)→H' p=some (.frz o u)
structure Ex (K:PySem.W.Frag) (H:Hp) (μ : Mu) (H':Hp) (μ':Mu):Prop extends Ex0 K H μ H' μ' where
 o:∀ p u,μ.hid p→H p=some u→μ'.hid p∧H' p=some u
mutual
theorem Rep.ex (e:Ex0 K H μ H' μ'):∀ {w:W} {v:V},Rep K H μ w v→Rep K H' μ' w v
 | .non,_,h=>by rw [Rep] at h ⊢;exact h
 | .bl _,_,h=>by rw [Rep] at h ⊢;exact h
 | .int _,_,h=>by rw [Rep] at h ⊢;exact h
 | .str _,_,h=>by rw [Rep] at h ⊢;exact h
 | .ty _,_,h=>by rw [Rep] at h ⊢;exact h
 | .tup ws,_,h=>by
  rw [Rep] at h ⊢
  obtain ⟨p,xs,e1,hs,hr⟩:=h
  exact ⟨p,xs,e1,e.t _ _ hs,aN.ex e hr⟩
 | .lst ws,_,h=>by
  rw [Rep] at h ⊢
  obtain ⟨p,xs,e1,hs,hr⟩:=h
  exact ⟨p,xs,e1,e.l _ _ hs,aN.ex e hr⟩
 | .kls ws,_,h=>by
  rw [Rep] at h ⊢
  obtain ⟨p,xs,e1,hs,hr⟩:=h
  exact ⟨p,xs,e1,e.k _ _ hs,aN.ex e hr⟩
 | .loc n,_,h=>by
  rw [Rep] at h ⊢
  obtain ⟨p,e1,hm⟩:=h
  exact ⟨p,e1,e.m _ _ hm⟩
 | .exc n,_,h=>by
  rw [Rep] at h ⊢
  obtain ⟨p,o,u,e1,hm,hx⟩:=h
  exact ⟨p,o,u,e1,e.x _ _ _ hm,hx⟩
theorem aN.ex (e:Ex0 K H μ H' μ'):∀ {ws:List W} {xs:List V},aN K H μ ws xs→aN K H' μ' ws xs
 | [],_,h=>by rw [aN] at h ⊢;exact h
 | w::ws,_,h=>by
  rw [aN] at h ⊢
  obtain ⟨v,vs,e1,r,h⟩:=h
  exact ⟨v,vs,e1,Rep.ex e r,aN.ex e h⟩
end
structure Ext (K:PySem.W.Frag) (H:Hp) (μ : Mu) (H':Hp) (μ':Mu):Prop where
 r:∀ w v,Rep K H μ w v→Rep K H' μ' w v
 o:∀ p u,μ.hid p→H p=some u→μ'.hid p∧H' p=some u
theorem Ext.refl:Ext K H μ H μ:=⟨fun _ _ h=>h,fun _ _ h g=>⟨h,g⟩⟩
theorem Ext.trans (a:Ext K H μ H1 μ1)(b:Ext K H1 μ1 H2 μ2):Ext K H μ H2 μ2:=
 ⟨fun w v h=>b.r w v (a.r w v h),fun p u h g=>let ⟨h1,g1⟩:=a.o p u h g;b.o p u h1 g1⟩
theorem Ex.ext (e:Ex K H μ H' μ'):Ext K H μ H' μ':=⟨fun _ _ h=>Rep.ex e.toEx0 h,e.o⟩
theorem Ext.s (e:Ext K H μ H' μ'):∀ {ws:List W} {xs:List V},aN K H μ ws xs→aN K H' μ' ws xs
 | [],_,h=>by rw [aN] at h ⊢;exact h
 | w::ws,_,h=>by
  rw [aN] at h ⊢
  obtain ⟨v,vs,e1,r,h⟩:=h
  exact ⟨v,vs,e1,e.r _ _ r,Ext.s e h⟩
def MutO:Option HO→Prop
 | some (.lst _)=>True
 | some (.dK _)=>True
 | some (.ins _ _ _)=>True
 | some (.ext _)=>True
 | _=>False
def RepF {κ : Type}(K:PySem.W.Frag)(H:Hp)(μ : Mu):List (κ×W)→List (κ×V)→Prop:=Paired fun (p:κ×W) (q:κ×V)=>p.1=q.1∧Rep K H μ p.2 q.2
def entI (x:List Int×Addr×Value):DictEntry:=⟨reduceHash (Builtin.Tuple.tupleHashOf (x.1.map hashInt)),.ref x.2.1,x.2.2⟩
def DicT (a:Addr)(xs:List (List Int×Addr×Value))(h:Heap):Prop:=xs.length≤sizeLine∧(a==sysModules)=false∧(xs.map (·.1)).Nodup∧∃ o es ep,h.get? a=some o∧o.ExactDict∧o.data=.dict es ep∧es.toList=xs.map entI
def uh (K:PySem.W.Frag)(H:Hp)(μ : Mu)(p:Addr):Cell→Prop
 | .lst ws=>∃ xs,H p=some (.lst xs)∧aN K H μ ws xs
 | .obj C fs=>∃ dx fvs,H p=some (.ins C dx fvs)∧RepF K H μ fs fvs
 | .dct kvs=>∃ kvv,H p=some (.dK kvv)∧RepF K H μ kvs kvv
 | .dtt kvs=>∃ xs vs,H p=some (.ext (DicT p xs))∧kvs.map (·.1)=xs.map (·.1)∧Vals vs (xs.map (·.2.2))∧aN K H μ (kvs.map fun x=>W.tup (x.1.map W.int)) (xs.map fun x=>V.ref x.2.1)∧aN K H μ (kvs.map (·.2)) vs
structure Rel (K:PySem.W.Frag) (μ : Mu) (H:Hp) (h:Gh):Prop where
 inj:∀ m n p,μ.f m=some p→μ.f n=some p→m=n
 dom:∀ n p,μ.f n=some p→n<h.nx
 trk:∀ n p,μ.f n=some p→MutO (H p)
 cel:∀ n c,h.c n=some c→∃ p,μ.f n=some p∧uh K H μ p c
 hd:∀ p,μ.hid p→(∃ xs,H p=some (.lst xs))∧∀ n,μ.f n≠some p
theorem uh.ext {p:Addr}{c:Cell}(e:Ext K H μ H' μ')(hp:H' p=H p)(x:uh K H μ p c):uh K H' μ' p c:=by
 cases c with
 | lst ws=>obtain ⟨xs,a,b⟩:=x;exact ⟨xs,hp.trans a,e.s b⟩
 | obj C fs=>obtain ⟨dx,fvs,a,b⟩:=x;exact ⟨dx,fvs,hp.trans a,Paired.mapP b fun _ _ z=>⟨z.1,e.r _ _ z.2⟩⟩
 | dct kvs=>obtain ⟨kvv,a,b⟩:=x;exact ⟨kvv,hp.trans a,Paired.mapP b fun _ _ z=>⟨z.1,e.r _ _ z.2⟩⟩
 | dtt kvs=>obtain ⟨xs,vs,a,b,c,d,f⟩:=x;exact ⟨xs,vs,hp.trans a,b,c,e.s d,e.s f⟩
theorem Rd.laid {p q:Addr}{o u:HO}(hp:H p=none)(r:Rd H q u):Rd (upd H p o) q u:=by
 have ne:q≠p:=by
  rcases r with r | ⟨_,r⟩
  ·exact aW r hp
  ·exact aW r hp
 unfold Rd
 rw [aP ne]
 exact r
theorem Ex.laid {p:Addr}{o:HO}(hp:H p=none):Ex K H μ (upd H p o) μ where
 t:=fun q xs h=>by
  rcases h with h | h
  ·exact .inl (h.laid hp)
  ·exact .inr h
 l:=fun q xs h=>⟨by rw [aP (aW h.1 hp)];exact h.1,h.2⟩
 k:=fun q xs h=>by
  rcases h with ⟨o',h⟩ | h
  ·exact .inl ⟨o',by rw [aP (aW h hp)];exact h⟩
  ·exact .inr h
 m:=fun _ _ h=>h
 x:=fun q o' u e=>by rw [aP (aW e hp)];exact e
 o:=fun q u z e=>⟨z,by rw [aP (aW e hp)];exact e⟩
theorem Rel.laid {p:Addr}{o:HO}(R:Rel K μ H h)(hp:H p=none):Rel K μ (upd H p o) h where
 inj:=R.inj
 dom:=R.dom
 trk:=fun n q e=>by
  have:=R.trk n q e
  have ne:q≠p:=fun z=>by subst z;rw [hp] at this;exact this
  rw [aP ne];exact this
 cel:=fun n c e=>by
  obtain ⟨q,e1,x⟩:=R.cel n c e
  have:=R.trk n q e1
  have ne:q≠p:=fun z=>by subst z;rw [hp] at this;exact this
  exact ⟨q,e1,x.ext (Ex.laid hp).ext (aP ne)⟩
 hd:=fun q z=>by
  obtain ⟨⟨xs,e⟩,g⟩:=R.hd q z
  exact ⟨⟨xs,by rw [aP (aW e hp)];exact e⟩,g⟩
theorem Rep.tupNew {p:Addr}(hp:H p=none)(r:aN K H μ ws xs):Rep K (upd H p (.tup xs)) μ (.tup ws) (.ref p):=by
 rw [Rep]
 exact ⟨p,xs,rfl,SqT.of bw,(Ex.laid hp).ext.s r⟩
theorem Rep.lstNew {p:Addr}(R:Rel K μ H h)(hp:H p=none)(r:aN K H μ ws xs):Rep K (upd H p (.lst xs)) μ (.lst ws) (.ref p):=by
 rw [Rep]
 refine ⟨p,xs,rfl,⟨bw,fun n e=>?_,fun z=>?_⟩,(Ex.laid hp).ext.s r⟩
 ·have:=R.trk n p e
  rw [hp] at this
  exact this
 ·obtain ⟨⟨xs,e⟩,_⟩:=R.hd p z
  rw [hp] at e
  cases e
def Mu.put (μ : Mu)(n:Nat)(p:Addr):Mu:=⟨fun m=>if m=n then some p else μ.f m,μ.hid⟩
theorem Mu.put_same {n:Nat}{p:Addr}:(μ.put n p).f n=some p:=by show (if n=n then some p else μ.f n)=_;rw [if_pos rfl]
theorem Mu.put_ne {m n:Nat}{p:Addr}(e:m≠n):(μ.put n p).f m = μ.f m:=by show (if m=n then some p else μ.f m)=_;rw [if_neg e]
def Gh.new (h:Gh)(c:Cell):Gh:=⟨h.nx+1,fun m=>if m=h.nx then some c else h.c m⟩
def Gh.set (h:Gh)(n:Nat)(c:Cell):Gh:=⟨h.nx,fun m=>if m=n then some c else h.c m⟩
theorem Rel.dead (R:Rel K μ H h){n:Nat}(hn:h.nx≤n):μ.f n=none:=by
 cases e:μ.f n with
 | none=>rfl
 | some p=>exact absurd (R.dom n p e) (by omega)
theorem Ex.newCell {p:Addr}{o:HO}(R:Rel K μ H h)(hp:H p=none):Ex K H μ (upd H p o) (μ.put h.nx p) where
 t:=fun q xs z=>(Ex.laid (μ:=μ) hp).t q xs z
 l:=fun q xs z=>by
  have nq:=aW z.1 hp
  refine ⟨by rw [aP nq];exact z.1,fun n e=>?_,z.2.2⟩
  by_cases hn:n=h.nx
  ·subst hn
   rw [Mu.put_same] at e
   exact nq (Option.some.inj e).symm
  ·rw [Mu.put_ne hn] at e
   exact z.2.1 n e
 k:=fun q xs z=>(Ex.laid (μ:=μ) hp).k q xs z
 m:=fun n q e=>by
  have hn:n≠h.nx:=fun z=>by subst z;rw [R.dead (Nat.le_refl _)] at e;cases e
  rw [Mu.put_ne hn];exact e
 x:=fun q o' u e=>by rw [aP (aW e hp)];exact e
 o:=fun q u z e=>⟨z,by rw [aP (aW e hp)];exact e⟩
theorem Rel.newCell {p:Addr}{o:HO}{c:Cell}(R:Rel K μ H h)(hp:H p=none)(mo:MutO (some o))(ck:uh K (upd H p o) (μ.put h.nx p) p c):Rel K (μ.put h.nx p) (upd H p o) (h.new c) where
 inj:=fun m n q em en=>by
  by_cases hm:m=h.nx
  ·by_cases hn:n=h.nx
   ·rw [hm,hn]
   ·rw [hm,Mu.put_same] at em
    rw [Mu.put_ne hn] at en
    have e:p=q:=Option.some.inj em
    subst e
    have:=R.trk n _ en
    rw [hp] at this
    exact this.elim
  ·rw [Mu.put_ne hm] at em
   by_cases hn:n=h.nx
   ·rw [hn,Mu.put_same] at en
    have e:p=q:=Option.some.inj en
    subst e
    have:=R.trk m _ em
    rw [hp] at this
    exact this.elim
   ·rw [Mu.put_ne hn] at en
    exact R.inj m n q em en
 dom:=fun n q e=>by
  show n<h.nx+1
  by_cases hn:n=h.nx
  ·omega
  ·rw [Mu.put_ne hn] at e
   have:=R.dom n q e
   omega
 trk:=fun n q e=>by
  by_cases hn:n=h.nx
  ·rw [hn,Mu.put_same] at e
   have e:p=q:=Option.some.inj e
   subst e
   rw [bw];exact mo
  ·rw [Mu.put_ne hn] at e
   have:=R.trk n q e
   have ne:q≠p:=fun z=>by subst z;rw [hp] at this;exact this
   rw [aP ne];exact this
 cel:=fun n d e=>by
  have e:(if n=h.nx then some c else h.c n)=some d:=e
  by_cases hn:n=h.nx
  ·rw [if_pos hn] at e
   have e:c=d:=Option.some.inj e
   subst e
   exact ⟨p,by rw [hn,Mu.put_same],ck⟩
  ·rw [if_neg hn] at e
   obtain ⟨q,e1,x⟩:=R.cel n d e
   have:=R.trk n q e1
   have ne:q≠p:=fun z=>by subst z;rw [hp] at this;exact this
   exact ⟨q,by rw [Mu.put_ne hn];exact e1,x.ext (Ex.newCell R hp).ext (aP ne)⟩
 hd:=fun q z=>by
  obtain ⟨⟨xs,e⟩,g⟩:=R.hd q z
  have ne:=aW e hp
  refine ⟨⟨xs,by rw [aP ne];exact e⟩,fun n en=>?_⟩
  by_cases hn:n=h.nx
  ·rw [hn,Mu.put_same] at en
   exact ne (Option.some.inj en).symm
  ·rw [Mu.put_ne hn] at en
   exact g n en
theorem Rd.kept {p q:Addr}{o u:HO}(mo:MutO (H p))(r:Rd H q u)(hn:q≠p):Rd (upd H p o) q u:=by
 unfold Rd
 rw [aP hn]
 exact r
theorem Ex.write {n:Nat}{p:Addr}{o:HO}(R:Rel K μ H h)(hn:μ.f n=some p):Ex K H μ (upd H p o) μ where
 t:=fun q xs z=>by
  rcases z with z | z
  ·refine .inl (z.kept (R.trk n p hn) fun e=>?_)
   subst e
   have:=R.trk n q hn
   rcases z with r | ⟨_,r⟩ <;> rw [r] at this <;> exact this
  ·exact .inr z
 l:=fun q xs z=>⟨by rw [aP (fun e=>z.2.1 n (by rw [e];exact hn))];exact z.1,z.2⟩
 k:=fun q xs z=>by
  rcases z with ⟨o',z⟩ | z
  ·refine .inl ⟨o',?_⟩
   rw [aP (fun e=>?_)]
   ·exact z
   ·subst e
    have:=R.trk n q hn
    rw [z] at this
    exact this
  ·exact .inr z
 m:=fun _ _ e=>e
 x:=fun q o' u e=>by
  rw [aP (fun y=>?_)]
  ·exact e
  ·subst y
   have:=R.trk n q hn
   rw [e] at this
   exact this
 o:=fun q u z e=>⟨z,by rw [aP (fun y=>(R.hd q z).2 n (by rw [y];exact hn))];exact e⟩
theorem Rel.write {n:Nat}{p:Addr}{o:HO}{c:Cell}(R:Rel K μ H h)(hn:μ.f n=some p)(mo:MutO (some o))(ck:uh K (upd H p o) μ p c):Rel K μ (upd H p o) (h.set n c) where
 inj:=R.inj
 dom:=R.dom
 trk:=fun m q e=>by
  by_cases z:q=p
  ·subst z;rw [bw];exact mo
  ·rw [aP z];exact R.trk m q e
 cel:=fun m d e=>by
  have e:(if m=n then some c else h.c m)=some d:=e
  by_cases hm:m=n
  ·rw [if_pos hm] at e
   have e:c=d:=Option.some.inj e
   subst e
   exact ⟨p,by rw [hm];exact hn,ck⟩
  ·rw [if_neg hm] at e
   obtain ⟨q,e1,x⟩:=R.cel m d e
   have ne:q≠p:=fun z=>by subst z;exact hm (R.inj m n q e1 hn)
   exact ⟨q,e1,x.ext (Ex.write R hn).ext (aP ne)⟩
 hd:=fun q z=>by
  obtain ⟨⟨xs,e⟩,g⟩:=R.hd q z
  exact ⟨⟨xs,by rw [aP (fun y=>g n (by rw [y];exact hn))];exact e⟩,g⟩
mutual
def Lo (k:Nat):W→Prop
 | .tup ws=>Los k ws
 | .lst ws=>Los k ws
 | .kls ws=>Los k ws
 | .loc n=>n<k
 | _=>True
def Los (k:Nat):List W→Prop
 | []=>True
 | w::ws=>Lo k w∧Los k ws
end
mutual
theorem Rep.lo {k:Nat}(hd:∀ n p,μ.f n=some p→n<k):∀ {w:W} {v:V},Rep K H μ w v→Lo k w
 | .non,_,_=>by rw [Lo] <;> first | trivial | (intros;contradiction)
 | .bl _,_,_=>by rw [Lo] <;> first | trivial | (intros;contradiction)
 | .int _,_,_=>by rw [Lo] <;> first | trivial | (intros;contradiction)
 | .str _,_,_=>by rw [Lo] <;> first | trivial | (intros;contradiction)
 | .ty _,_,_=>by rw [Lo] <;> first | trivial | (intros;contradiction)
 | .exc _,_,_=>by rw [Lo] <;> first | trivial | (intros;contradiction)
 | .tup ws,_,h=>by
  rw [Rep] at h
  obtain ⟨p,xs,_,_,hr⟩:=h
  rw [Lo]
  exact aN.lo hd hr
 | .lst ws,_,h=>by
  rw [Rep] at h
  obtain ⟨p,xs,_,_,hr⟩:=h
  rw [Lo]
  exact aN.lo hd hr
 | .kls ws,_,h=>by
  rw [Rep] at h
  obtain ⟨p,xs,_,_,hr⟩:=h
  rw [Lo]
  exact aN.lo hd hr
 | .loc n,_,h=>by
  rw [Rep] at h
  obtain ⟨p,_,hm⟩:=h
  rw [Lo]
  exact hd n p hm
theorem aN.lo {k:Nat}(hd:∀ n p,μ.f n=some p→n<k):∀ {ws:List W} {xs:List V},aN K H μ ws xs→Los k ws
 | [],_,_=>by rw [Los];trivial
 | w::ws,_,h=>by
  rw [aN] at h
  obtain ⟨v,vs,_,r,h⟩:=h
  rw [Los]
  exact ⟨Rep.lo hd r,aN.lo hd h⟩
end
def Mu.cut (μ : Mu)(k:Nat):Mu:=⟨fun n=>if n<k then μ.f n else none,μ.hid⟩
theorem Mu.cut_some {k n:Nat}{p:Addr}(e:(μ.cut k).f n=some p):n<k∧μ.f n=some p:=by
 have e:(if n<k then μ.f n else none)=some p:=e
 by_cases hn:n<k
 ·rw [if_pos hn] at e;exact ⟨hn,e⟩
 ·rw [if_neg hn] at e;cases e
mutual
theorem Rep.cut {k:Nat}:∀ {w:W} {v:V},Rep K H μ w v→Lo k w→Rep K H (μ.cut k) w v
 | .non,_,h,_=>by rw [Rep] at h ⊢;exact h
 | .bl _,_,h,_=>by rw [Rep] at h ⊢;exact h
 | .int _,_,h,_=>by rw [Rep] at h ⊢;exact h
 | .str _,_,h,_=>by rw [Rep] at h ⊢;exact h
 | .ty _,_,h,_=>by rw [Rep] at h ⊢;exact h
 | .exc _,_,h,_=>by rw [Rep] at h ⊢;exact h
 | .tup ws,_,h,l=>by
  rw [Rep] at h ⊢
  rw [Lo] at l
  obtain ⟨p,xs,e1,hs,hr⟩:=h
  exact ⟨p,xs,e1,hs,aN.cut hr l⟩
 | .lst ws,_,h,l=>by
  rw [Rep] at h ⊢
  rw [Lo] at l
  obtain ⟨p,xs,e1,hs,hr⟩:=h
  exact ⟨p,xs,e1,⟨hs.1,fun n e=>hs.2.1 n (Mu.cut_some e).2,hs.2.2⟩,aN.cut hr l⟩
 | .kls ws,_,h,l=>by
  rw [Rep] at h ⊢
  rw [Lo] at l
  obtain ⟨p,xs,e1,hs,hr⟩:=h
  exact ⟨p,xs,e1,hs,aN.cut hr l⟩
 | .loc n,_,h,l=>by
  rw [Rep] at h ⊢
  rw [Lo] at l
  obtain ⟨p,e1,hm⟩:=h
  refine ⟨p,e1,?_⟩
  show (if n<k then μ.f n else none)=some p
  rw [if_pos l]
  exact hm
theorem aN.cut {k:Nat}:∀ {ws:List W} {xs:List V},aN K H μ ws xs→Los k ws→aN K H (μ.cut k) ws xs
 | [],_,h,_=>by rw [aN] at h ⊢;exact h
 | w::ws,_,h,l=>by
  rw [aN] at h ⊢
  rw [Los] at l
  obtain ⟨v,vs,e1,r,h⟩:=h
  exact ⟨v,vs,e1,Rep.cut r l.1,aN.cut h l.2⟩
end
end
end L2
namespace L2
open PySem PySem.Spec PyProof.Rows
section
variable {K:PySem.W.Frag}{H H' H1 H2:Hp}{μ μ' μ1 μ2:Mu}{h h':Gh}{w:W}{ws:List W}{v:V}{xs ys:List V}{p:Addr}
def Mu.hide (μ : Mu)(p:Addr):Mu:=⟨μ.f,fun q=>q=p∨μ.hid q⟩
def Mu.unhide (μ : Mu)(p:Addr):Mu:=⟨μ.f,fun q=>q≠p∧μ.hid q⟩
structure ExtX (p:Addr) (K:PySem.W.Frag) (H:Hp) (μ : Mu) (H':Hp) (μ':Mu):Prop where
 r:∀ w v,Rep K H μ w v→Rep K H' μ' w v
 o:∀ q u,q≠p→μ.hid q→H q=some u→μ'.hid q∧H' q=some u
theorem Ext.x (a:Ext K H μ H1 μ1)(hp:¬ μ.hid p)(b:ExtX p K H1 μ1 H2 μ2):Ext K H μ H2 μ2:=
 ⟨fun w v z=>b.r w v (a.r w v z),fun q u z e=>let ⟨z1,e1⟩:=a.o q u z e;b.o q u (fun y=>hp (by rw [←y];exact z)) z1 e1⟩
theorem Ext.hide {o:HO}(hp:H p=none):Ext K H μ (upd H p o) (μ.hide p):=Ex.ext {
 t:=fun q xs z=>(Ex.laid (μ:=μ) hp).t q xs z
 l:=fun q xs z=>by
  have nq:=aW z.1 hp
  refine ⟨by rw [aP nq];exact z.1,z.2.1,fun y=>?_⟩
  rcases y with y | y
  ·exact nq y
  ·exact z.2.2 y
 k:=fun q xs z=>(Ex.laid (μ:=μ) hp).k q xs z
 m:=fun _ _ e=>e
 x:=fun q o' u e=>by rw [aP (aW e hp)];exact e
 o:=fun q u z e=>⟨.inr z,by rw [aP (aW e hp)];exact e⟩ }
theorem Rel.nohid (R:Rel K μ H h)(hp:H p=none):¬ μ.hid p:=fun z=>by
 obtain ⟨⟨xs,e⟩,_⟩:=R.hd p z
 rw [hp] at e;cases e
theorem Rel.hide (R:Rel K μ H h)(hp:H p=none):Rel K (μ.hide p) (upd H p (.lst xs)) h where
 inj:=R.inj
 dom:=R.dom
 trk:=(R.laid hp).trk
 cel:=fun n c e=>by
  obtain ⟨q,e1,x⟩:=R.cel n c e
  have:=R.trk n q e1
  have ne:q≠p:=fun z=>by subst z;rw [hp] at this;exact this
  exact ⟨q,e1,x.ext (Ext.hide hp) (aP ne)⟩
 hd:=fun q z=>by
  rcases z with z | z
  ·subst z
   refine ⟨⟨xs,bw⟩,fun n e=>?_⟩
   have:=R.trk n q e
   rw [hp] at this
   exact this
  ·exact (R.laid (o:=.lst xs) hp).hd q z
theorem Ex0.grow (R:Rel K μ H h)(hp:μ.hid p):Ex0 K H μ (upd H p (.lst ys)) μ where
 t:=fun q xs z=>by
  rcases z with z | z
  ·refine .inl ?_
   unfold Rd
   rw [aP (fun y=>?_)]
   ·exact z
   ·subst y
    obtain ⟨⟨xs',e⟩,_⟩:=R.hd q hp
    rcases z with r | ⟨_,r⟩ <;> rw [e] at r <;> cases r
  ·exact .inr z
 l:=fun q xs z=>⟨by rw [aP (fun y=>z.2.2 (by rw [y];exact hp))];exact z.1,z.2⟩
 k:=fun q xs z=>by
  rcases z with ⟨o',z⟩ | z
  ·refine .inl ⟨o',?_⟩
   rw [aP (fun y=>?_)]
   ·exact z
   ·subst y
    obtain ⟨⟨xs',e⟩,_⟩:=R.hd q hp
    rw [e] at z
    cases z
  ·exact .inr z
 m:=fun _ _ e=>e
 x:=fun q o' u e=>by
  rw [aP (fun y=>?_)]
  ·exact e
  ·subst y
   obtain ⟨⟨xs',e'⟩,_⟩:=R.hd q hp
   rw [e'] at e
   cases e
theorem ExtX.grow (R:Rel K μ H h)(hp:μ.hid p):ExtX p K H μ (upd H p (.lst ys)) μ:=
 ⟨fun _ _ z=>Rep.ex (Ex0.grow R hp) z,fun q u ne z e=>⟨z,by rw [aP ne];exact e⟩⟩
theorem Rel.grow (R:Rel K μ H h)(hp:μ.hid p):Rel K μ (upd H p (.lst ys)) h where
 inj:=R.inj
 dom:=R.dom
 trk:=fun n q e=>by
  have ne:q≠p:=fun z=>(R.hd p hp).2 n (by rw [←z];exact e)
  rw [aP ne];exact R.trk n q e
 cel:=fun n c e=>by
  obtain ⟨q,e1,x⟩:=R.cel n c e
  have ne:q≠p:=fun z=>(R.hd p hp).2 n (by rw [←z];exact e1)
  refine ⟨q,e1,?_⟩
  cases c with
  | lst ws=>obtain ⟨xs,a,b⟩:=x;exact ⟨xs,(aP ne).trans a,aN.ex (Ex0.grow R hp) b⟩
  | obj C fs=>obtain ⟨dx,fvs,a,b⟩:=x;exact ⟨dx,fvs,(aP ne).trans a,Paired.mapP b fun _ _ z=>⟨z.1,Rep.ex (Ex0.grow R hp) z.2⟩⟩
  | dct kvs=>obtain ⟨kvv,a,b⟩:=x;exact ⟨kvv,(aP ne).trans a,Paired.mapP b fun _ _ z=>⟨z.1,Rep.ex (Ex0.grow R hp) z.2⟩⟩
  | dtt kvs=>obtain ⟨xs,vs,a,b,c,d,f⟩:=x;exact ⟨xs,vs,(aP ne).trans a,b,c,aN.ex (Ex0.grow R hp) d,aN.ex (Ex0.grow R hp) f⟩
 hd:=fun q z=>by
  by_cases e:q=p
  ·subst e;exact ⟨⟨ys,bw⟩,(R.hd q hp).2⟩
  ·rw [aP e];exact R.hd q z
theorem Ex0.unhide:Ex0 K H μ H (μ.unhide p) where
 t:=fun _ _ z=>z
 l:=fun q xs z=>⟨z.1,z.2.1,fun y=>z.2.2 y.2⟩
 k:=fun _ _ z=>z
 m:=fun _ _ e=>e
 x:=fun _ _ _ e=>e
theorem ExtX.unhide:ExtX p K H μ H (μ.unhide p):=⟨fun _ _ z=>Rep.ex Ex0.unhide z,fun q u ne z e=>⟨⟨ne,z⟩,e⟩⟩
theorem Rel.unhide (R:Rel K μ H h):Rel K (μ.unhide p) H h where
 inj:=R.inj
 dom:=R.dom
 trk:=R.trk
 cel:=fun n c e=>by
  obtain ⟨q,e1,x⟩:=R.cel n c e
  refine ⟨q,e1,?_⟩
  cases c with
  | lst ws=>obtain ⟨xs,a,b⟩:=x;exact ⟨xs,a,aN.ex Ex0.unhide b⟩
  | obj C fs=>obtain ⟨dx,fvs,a,b⟩:=x;exact ⟨dx,fvs,a,Paired.mapP b fun _ _ z=>⟨z.1,Rep.ex Ex0.unhide z.2⟩⟩
  | dct kvs=>obtain ⟨kvv,a,b⟩:=x;exact ⟨kvv,a,Paired.mapP b fun _ _ z=>⟨z.1,Rep.ex Ex0.unhide z.2⟩⟩
  | dtt kvs=>obtain ⟨xs,vs,a,b,c,d,f⟩:=x;exact ⟨xs,vs,a,b,c,aN.ex Ex0.unhide d,aN.ex Ex0.unhide f⟩
 hd:=fun q z=>R.hd q z.2
theorem Rep.built (R:Rel K μ H h)(hp:μ.hid p)(e:H p=some (.lst xs))(r:aN K H μ ws xs):Rep K H (μ.unhide p) (.lst ws) (.ref p):=by
 rw [Rep]
 exact ⟨p,xs,rfl,⟨e,(R.hd p hp).2,fun z=>z.1 rfl⟩,aN.ex Ex0.unhide r⟩
end
abbrev Sw:=List (Option W)
abbrev WK:=W→Gh→Prop
abbrev ME:=Sw→Gh→WK→Prop
abbrev MT:=Sw→Gh→(Bool→Gh→Prop)→Prop
abbrev MA:=Sw→Gh→(List W→Gh→Prop)→Prop
structure bD where
 nx:Sw→Gh→Prop
 rt:WK
 bk:Sw→Gh→Prop:=fun _ _=>False
 ct:Sw→Gh→Prop:=fun _ _=>False
abbrev MS:=bD→Sw→Gh→Prop
abbrev MG:=W→Sw→Gh→(Sw→Gh→Prop)→Prop
abbrev MGs:=List W→Sw→Gh→(Sw→Gh→Prop)→Prop
structure Xw where
 cls:Str
 fs:List (Str×W)
abbrev XWK:=Xw→Gh→Prop
abbrev MSp:=List W→Gh→WK→XWK→Prop
def EF:XWK:=fun _ _=>False
structure Slots (K:PySem.W.Frag) (H:Hp) (μ : Mu) (σw:Sw) (σ : St):Prop where
 len:σw.length = σ.length
 get:∀ (i:Nat) (w:W),σw[i]?=some (some w)→∃ v,σ[i]?=some (some v)∧Rep K H μ w v
def DQ (K:PySem.W.Frag)(H:Hp)(μ : Mu)(Q:WK):VK:=fun v H'=>∃ μ' w h',Ext K H μ H' μ'∧Rel K μ' H' h'∧Rep K H' μ' w v∧Q w h'
def DB (K:PySem.W.Frag)(H:Hp)(μ : Mu)(Q:Bool→Gh→Prop):Bool→Hp→Prop:=fun b H'=>∃ μ' h',Ext K H μ H' μ'∧Rel K μ' H' h'∧Q b h'
def DA (K:PySem.W.Frag)(H:Hp)(μ : Mu)(Q:List W→Gh→Prop):List V→Hp→Prop:=fun vs H'=>∃ μ' ws h',Ext K H μ H' μ'∧Rel K μ' H' h'∧aN K H' μ' ws vs∧Q ws h'
def DN (K:PySem.W.Frag)(H:Hp)(μ : Mu)(N:Sw→Gh→Prop):St→Hp→Prop:=fun σ' H'=>∃ μ' σw' h',Ext K H μ H' μ'∧Rel K μ' H' h'∧Slots K H' μ' σw' σ'∧N σw' h'
section
variable {K:PySem.W.Frag}{H H' H1 H2:Hp}{μ μ' μ1 μ2:Mu}{h h' h1:Gh}{w:W}{v:V}{σ : St}{σw:Sw}
theorem Slots.ext (S:Slots K H μ σw σ)(e:Ext K H μ H' μ'):Slots K H' μ' σw σ:=⟨S.len,fun i w q=>let ⟨v,a,b⟩:=S.get i w q;⟨v,a,e.r _ _ b⟩⟩
theorem Slots.set (S:Slots K H μ σw σ)(r:Rep K H μ w v)(i:Nat):Slots K H μ (σw.set i (some w)) (σ.set i (some v)):=by
 refine ⟨by rw [List.length_set,List.length_set,S.len],fun j u q=>?_⟩
 rw [List.getElem?_set] at q ⊢
 by_cases hij:i=j
 ·rw [if_pos hij] at q ⊢
  by_cases hl:i < σw.length
  ·rw [if_pos hl] at q
   rw [if_pos (by rw [←S.len];exact hl)]
   have e:w=u:=by injection q with q;injection q
   subst e
   exact ⟨v,rfl,r⟩
  ·rw [if_neg hl] at q;cases q
 ·rw [if_neg hij] at q ⊢
  exact S.get j u q
theorem DQ.trans {Q:WK}(e:Ext K H μ H1 μ1)(q:DQ K H1 μ1 Q v H'):DQ K H μ Q v H':=let ⟨μ',w,h',a,b⟩:=q;⟨μ',w,h',e.trans a,b⟩
theorem DB.trans {Q:Bool→Gh→Prop}{b:Bool}(e:Ext K H μ H1 μ1)(q:DB K H1 μ1 Q b H'):DB K H μ Q b H':=let ⟨μ',h',a,b⟩:=q;⟨μ',h',e.trans a,b⟩
theorem DN.trans {N:Sw→Gh→Prop}{σ':St}(e:Ext K H μ H1 μ1)(q:DN K H1 μ1 N σ' H'):DN K H μ N σ' H':=let ⟨μ',w,h',a,b⟩:=q;⟨μ',w,h',e.trans a,b⟩
end
def tD (K:PySem.W.Frag)(m:ME):TE:=fun σ H Q=>∃ μ h σw Qw,Rel K μ H h∧Slots K H μ σw σ∧m σw h Qw∧∀ v H',DQ K H μ Qw v H'→Q v H'
def tDT (K:PySem.W.Frag)(m:MT):TT:=fun σ H Q=>∃ μ h σw Qw,Rel K μ H h∧Slots K H μ σw σ∧m σw h Qw∧∀ b H',DB K H μ Qw b H'→Q b H'
def tDA (K:PySem.W.Frag)(m:MA):TA:=fun σ H Q=>∃ μ h σw Qw,Rel K μ H h∧Slots K H μ σw σ∧m σw h Qw∧∀ vs H',DA K H μ Qw vs H'→Q vs H'
def tDG (K:PySem.W.Frag)(g:MG):TG:=fun v σ H N=>∃ μ h σw w Nw,Rel K μ H h∧Slots K H μ σw σ∧Rep K H μ w v∧g w σw h Nw∧∀ σ' H',DN K H μ Nw σ' H'→N σ' H'
structure EndsOk (K:PySem.W.Frag) (H:Hp) (μ : Mu) (Dw:bD) (D:Ends):Prop where
 nx:∀ σ' H',DN K H μ Dw.nx σ' H'→D.nx σ' H'
 rt:∀ v H',DQ K H μ Dw.rt v H'→D.rt v H'
 bk:∀ σ' H',DN K H μ Dw.bk σ' H'→D.bk σ' H'
 ct:∀ σ' H',DN K H μ Dw.ct σ' H'→D.ct σ' H'
def tDS (K:PySem.W.Frag)(m:MS):TS:=fun D σ H=>∃ μ h σw Dw,Rel K μ H h∧Slots K H μ σw σ∧m Dw σw h∧EndsOk K H μ Dw D
theorem EndsOk.trans {K:PySem.W.Frag}{H H1:Hp}{μ μ1:Mu}{Dw:bD}{D:Ends}(k:EndsOk K H μ Dw D)(e:Ext K H μ H1 μ1):EndsOk K H1 μ1 Dw D:=
 ⟨fun _ _ q=>k.nx _ _ (q.trans e),fun _ _ q=>k.rt _ _ (q.trans e),fun _ _ q=>k.bk _ _ (q.trans e),fun _ _ q=>k.ct _ _ (q.trans e)⟩
section
variable {X:Cx}{e:Expr}{es:List Expr}{st:Stmt}{sts:List Stmt}
theorem PE.of {t t':TE}(h:PE X e t)(k:∀ σ H Q,t' σ H Q→t σ H Q):PE X e t':=fun pins s σ H Q I q=>h pins s σ H Q I (k σ H Q q)
theorem PT.of {t t':TT}(h:PT X e t)(k:∀ σ H Q,t' σ H Q→t σ H Q):PT X e t':=fun pins s σ H Q I q=>h pins s σ H Q I (k σ H Q q)
theorem PW.of {t t':TT}(h:PW X e t)(k:∀ σ H Q,t' σ H Q→t σ H Q):PW X e t':=fun wh pins s σ H Q I q=>h wh pins s σ H Q I (k σ H Q q)
theorem PA.of {t t':TA}(h:PA X es t)(k:∀ σ H Q,t' σ H Q→t σ H Q):PA X es t':=fun pos pins s σ H Q I q=>h pos pins s σ H Q I (k σ H Q q)
theorem PG.of {t t':TG}(h:PG X e t)(k:∀ v σ H Q,t' v σ H Q→t v σ H Q):PG X e t':=fun pins s σ H v u Q I r q=>h pins s σ H v u Q I r (k v σ H Q q)
theorem PS.of {t t':TS}(h:PS X st t)(k:∀ D σ H,t' D σ H→t D σ H):PS X st t':=fun pins s σ H D I q=>h pins s σ H D I (k D σ H q)
theorem PSs.of {t t':TS}(h:PSs X sts t)(k:∀ D σ H,t' D σ H→t D σ H):PSs X sts t':=fun pins s σ H D I q=>h pins s σ H D I (k D σ H q)
end
abbrev DE (X:Cx)(e:Expr)(m:ME):Prop:=PE X e (tD X.K m)
abbrev DT (X:Cx)(e:Expr)(m:MT):Prop:=PT X e (tDT X.K m)
abbrev DWt (X:Cx)(e:Expr)(m:MT):Prop:=PW X e (tDT X.K m)
abbrev DAs (X:Cx)(es:List Expr)(m:MA):Prop:=PA X es (tDA X.K m)
abbrev DG (X:Cx)(e:Expr)(m:MG):Prop:=PG X e (tDG X.K m)
abbrev DS (X:Cx)(st:Stmt)(m:MS):Prop:=PS X st (tDS X.K m)
abbrev DSs (X:Cx)(st:List Stmt)(m:MS):Prop:=PSs X st (tDS X.K m)
section
variable {X:Cx}{e a b c:Expr}{ma mb mc:ME}{pos:Pos}
def aB (i:Nat):ME:=fun σ h Q=>match σ[i]? with
 | some (some w)=>Q w h
 | _=>False
def mC (w:W):ME:=fun _ h Q=>Q w h
theorem dv (i:Nat)(he:PE X e (tVar i)):DE X e (aB i):=he.of fun σ H Q ⟨μ,h,σw,Qw,R,S,m,k⟩=>by
 unfold aB at m
 cases q:σw[i]? with
 | none=>rw [q] at m;exact m.elim
 | some o=>
  rw [q] at m
  cases o with
  | none=>exact m.elim
  | some w=>
   obtain ⟨v,h1,h2⟩:=S.get i w q
   exact ⟨v,h1,k _ _ ⟨μ,w,h,.refl,R,h2,m⟩⟩
theorem dc {w:W}{v:V}(he:PE X e (tC v))(r:∀ H μ,Rep X.K H μ w v):DE X e (mC w):=he.of fun σ H Q ⟨μ,h,σw,Qw,R,S,m,k⟩=>k _ _ ⟨μ,w,h,.refl,R,r H μ,m⟩
theorem aD {i:Int}{j pos}:DE X (.Constant (.int i) j pos) (mC (.int i)):=dc pe_int fun _ _=>by rw [Rep]
theorem d_bl {i:Bool}{j pos}:DE X (.Constant (.bool i) j pos) (mC (.bl i)):=dc pe_bl fun _ _=>by rw [Rep]
theorem rH {j pos}:DE X (.Constant .none j pos) (mC .non):=dc pe_non fun _ _=>by rw [Rep]
theorem d_str {i:Str}{j pos}:DE X (.Constant (.str i) j pos) (mC (.str i)):=dc pe_str fun _ _=>by rw [Rep]
abbrev M2:=W→W→Gh→WK→Prop
def mOp (r:M2)(ma mb:ME):ME:=fun σ h Q=>ma σ h fun x h1=>mb σ h1 fun y h2=>r x y h2 Q
def Sim2 (K:PySem.W.Frag)(r:R2)(mr:M2):Prop:=∀ {H:Hp} {μ : Mu} {h:Gh} {x y:V} {wx wy:W} {Qw:WK} {Q:VK},Rel K μ H h→Rep K H μ wx x→Rep K H μ wy y→mr wx wy h Qw →
 (∀ v H',DQ K H μ Qw v H'→Q v H')→r x y H Q
theorem two {K:PySem.W.Frag}{σ : St}{H:Hp}{Q:VK}{mr:M2}{R2':V→V→Hp→Prop}(h:tD K (mOp mr ma mb) σ H Q)
  (k:∀ {H2:Hp} {μ2:Mu} {h2:Gh} {x y:V} {wx wy:W} {Qw:WK},Rel K μ2 H2 h2→Rep K H2 μ2 wx x→Rep K H2 μ2 wy y→mr wx wy h2 Qw→(∀ v H',DQ K H2 μ2 Qw v H'→Q v H')→R2' x y H2) :
  tD K ma σ H fun x H1=>tD K mb σ H1 fun y H2=>R2' x y H2:=by
 obtain ⟨μ,g,σw,Qw,R,S,m,q⟩:=h
 refine ⟨μ,g,σw,_,R,S,m,fun x H1 ⟨μ1,wx,h1,e1,R1,r1,m1⟩=>?_⟩
 refine ⟨μ1,h1,σw,_,R1,S.ext e1,m1,fun y H2 ⟨μ2,wy,h2,e2,R2,r2,m2⟩=>?_⟩
 exact k R2 (e2.r _ _ r1) r2 m2 fun v H' z=>q _ _ ((z.trans e2).trans e1)
def DOp (X:Cx)(f:Value→Value→Sem Value)(mr:M2):Prop:=∃ r,OpR X f r∧Sim2 X.K r mr
theorem bJ {op:Operator}{mr:M2}(ho:DOp X (binaryOp op) mr)(ha:DE X a ma)(hb:DE X b mb):DE X (.BinOp a op b pos) (mOp mr ma mb):=by
 obtain ⟨r,o,s⟩:=ho
 exact (pe_op o ha hb).of fun σ H Q h=>two h fun R r1 r2 m k=>s R r1 r2 m k
theorem vM {op:CmpOp}{mr:M2}(ho:DOp X (compareOp op) mr)(ha:DE X a ma)(hb:DE X b mb)(hm:behindInMarks op b=false):DE X (.Compare a [op] [b] pos) (mOp mr ma mb):=by
 obtain ⟨r,o,s⟩:=ho
 exact (pe_cmpR o ha hb hm).of fun σ H Q h=>two h fun R r1 r2 m k=>s R r1 r2 m k
def bA (m:ME):MT:=fun σ h Q=>m σ h fun w h1=>match w with
 | .bl c=>Q c h1
 | _=>False
theorem test_of {K:PySem.W.Frag}{σ : St}{H:Hp}{m:ME}{Q:Bool→Hp→Prop}(h:tDT K (bA m) σ H Q):tD K m σ H fun x H'=>∃ k,x=.bl k∧Q k H':=by
 obtain ⟨μ,g,σw,Qw,R,S,mm,q⟩:=h
 refine ⟨μ,g,σw,_,R,S,mm,fun v H' ⟨μ1,w,h1,e1,R1,r1,m1⟩=>?_⟩
 cases w with
 | bl c=>rw [Rep] at r1;exact ⟨c,r1,q _ _ ⟨μ1,h1,e1,R1,m1⟩⟩
 | _=>exact m1.elim
theorem aY {op:CmpOp}{mr:M2}(ho:DOp X (compareOp op) mr)(ha:DE X a ma)(hb:DE X b mb)(hm:behindInMarks op b=false):DT X (.Compare a [op] [b] pos) (bA (mOp mr ma mb)):=by
 obtain ⟨r,o,s⟩:=ho
 exact (pt_cmpR o ha hb hm).of fun σ H Q h=>two (test_of h) fun R r1 r2 m k=>s R r1 r2 m k
def by2 (c:Bool)(a b:Prop):Prop:=match c with
 | true=>a
 | false=>b
def br (c:Bool)(a b:Prop):Prop:=(c=true→a)∧(c=false→b)
theorem tE {c:Bool}{a b:Prop}(e:c=true)(x:a):br c a b:=⟨fun _=>x,fun z=>by rw [e] at z;cases z⟩
theorem nJ {c:Bool}{a b:Prop}(e:c=false)(x:b):br c a b:=⟨fun z=>(by rw [e] at z;cases z),fun _=>x⟩
theorem br_d {c:Prop} [Decidable c] {a b:Prop} (x:c→a) (y:¬ c→b):br (decide c) a b:=⟨fun e=>x (of_decide_eq_true e),fun e=>y (of_decide_eq_false e)⟩
def mAnd (t u:MT):MT:=fun σ h Q=>t σ h fun c h1=>br c (u σ h1 Q) (Q false h1)
def mOr (t u:MT):MT:=fun σ h Q=>t σ h fun c h1=>br c (Q true h1) (u σ h1 Q)
def mNot (t:MT):MT:=fun σ h Q=>t σ h fun c h1=>Q (!c) h1
variable {tA tB':MT}{rest:List Expr}
theorem qQ (ha:DT X a tA):DWt X (.BoolOp .And [a] pos) tA:=pw_and1 ha
theorem qd (ha:DT X a tA):DWt X (.BoolOp .Or [a] pos) tA:=pw_or1 ha
theorem yJ (ha:DT X a tA)(hb:DWt X (.BoolOp .And (b::rest) pos) tB'):DWt X (.BoolOp .And (a::b::rest) pos) (mAnd tA tB'):=(pw_and ha hb).of fun σ H Q ⟨μ,g,σw,Qw,R,S,m,q⟩=>by
 refine ⟨μ,g,σw,_,R,S,m,fun c H1 ⟨μ1,h1,e1,R1,m1⟩=>?_⟩
 cases c with
 | true=>
  rw [if_pos rfl]
  exact ⟨μ1,h1,σw,_,R1,S.ext e1,m1.1 rfl,fun b H' z=>q _ _ (z.trans e1)⟩
 | false=>
  rw [if_neg Bool.false_ne_true]
  exact q _ _ ⟨μ1,h1,e1,R1,m1.2 rfl⟩
theorem rP (ha:DT X a tA)(hb:DWt X (.BoolOp .Or (b::rest) pos) tB'):DWt X (.BoolOp .Or (a::b::rest) pos) (mOr tA tB'):=(pw_or ha hb).of fun σ H Q ⟨μ,g,σw,Qw,R,S,m,q⟩=>by
 refine ⟨μ,g,σw,_,R,S,m,fun c H1 ⟨μ1,h1,e1,R1,m1⟩=>?_⟩
 cases c with
 | true=>
  rw [if_pos rfl]
  exact q _ _ ⟨μ1,h1,e1,R1,m1.1 rfl⟩
 | false=>
  rw [if_neg Bool.false_ne_true]
  exact ⟨μ1,h1,σw,_,R1,S.ext e1,m1.2 rfl,fun b H' z=>q _ _ (z.trans e1)⟩
theorem iT (ha:DT X a tA):DT X (.UnaryOp .Not a pos) (mNot tA):=(pt_not ha).of fun σ H Q ⟨μ,g,σw,Qw,R,S,m,q⟩=>
 ⟨μ,g,σw,_,R,S,m,fun c H1 ⟨μ1,h1,e1,R1,m1⟩=>q _ _ ⟨μ1,h1,e1,R1,m1⟩⟩
def zf (a b:ME):ME:=fun σ h Q=>a σ h fun x h1=>match x with
 | .bl true=>b σ h1 Q
 | .bl false=>Q (.bl false) h1
 | _=>False
def mOrV (a b:ME):ME:=fun σ h Q=>a σ h fun x h1=>match x with
 | .bl false=>b σ h1 Q
 | .bl true=>Q (.bl true) h1
 | _=>False
def mNotV (a:ME):ME:=fun σ h Q=>a σ h fun x h1=>match x with
 | .bl c=>Q (.bl (!c)) h1
 | _=>False
theorem d_one {op}(h:DE X a ma):DE X (.BoolOp op [a] pos) ma:=pe_one h
theorem d_and (ha:DE X a ma)(hb:DE X (.BoolOp .And (b::rest) pos) mb):DE X (.BoolOp .And (a::b::rest) pos) (zf ma mb):=(pe_and ha hb).of fun σ H Q ⟨μ,g,σw,Qw,R,S,m,q⟩=>by
 refine ⟨μ,g,σw,_,R,S,m,fun v H1 ⟨μ1,w,h1,e1,R1,r1,m1⟩=>?_⟩
 cases w with
 | bl c=>
  rw [Rep] at r1
  refine ⟨c,r1,?_⟩
  cases c with
  | true=>rw [if_pos rfl];exact ⟨μ1,h1,σw,_,R1,S.ext e1,m1,fun b H' z=>q _ _ (z.trans e1)⟩
  | false=>rw [if_neg Bool.false_ne_true];exact q _ _ ⟨μ1,.bl false,h1,e1,R1,by rw [Rep],m1⟩
 | _=>exact m1.elim
theorem d_not (ha:DE X a ma):DE X (.UnaryOp .Not a pos) (mNotV ma):=(pe_not ha).of fun σ H Q ⟨μ,g,σw,Qw,R,S,m,q⟩=>by
 refine ⟨μ,g,σw,_,R,S,m,fun v H1 ⟨μ1,w,h1,e1,R1,r1,m1⟩=>?_⟩
 cases w with
 | bl c=>rw [Rep] at r1;exact ⟨c,r1,q _ _ ⟨μ1,.bl (!c),h1,e1,R1,by rw [Rep],m1⟩⟩
 | _=>exact m1.elim
def mIf (t:MT)(a b:ME):ME:=fun σ h Q=>t σ h fun c h1=>br c (a σ h1 Q) (b σ h1 Q)
theorem d_if (hc:DT X c tA)(ha:DE X a ma)(hb:DE X b mb):DE X (.IfExp c a b pos) (mIf tA ma mb):=(pe_ifExp hc ha hb).of fun σ H Q ⟨μ,g,σw,Qw,R,S,m,q⟩=>by
 refine ⟨μ,g,σw,_,R,S,m,fun c H1 ⟨μ1,h1,e1,R1,m1⟩=>?_⟩
 cases c with
 | true=>
  rw [if_pos rfl]
  exact ⟨μ1,h1,σw,_,R1,S.ext e1,m1.1 rfl,fun b H' z=>q _ _ (z.trans e1)⟩
 | false=>
  rw [if_neg Bool.false_ne_true]
  exact ⟨μ1,h1,σw,_,R1,S.ext e1,m1.2 rfl,fun b H' z=>q _ _ (z.trans e1)⟩
def mUn (r:W→Gh→WK→Prop)(a:ME):ME:=fun σ h Q=>a σ h fun x h1=>r x h1 Q
def mNeg:W→Gh→WK→Prop:=fun x h Q=>match x with
 | .int i=>Q (.int (-i)) h
 | _=>False
theorem d_neg (ha:DE X a ma):DE X (.UnaryOp .USub a pos) (mUn mNeg ma):=(pe_un un_neg ha).of fun σ H Q ⟨μ,g,σw,Qw,R,S,m,q⟩=>by
 refine ⟨μ,g,σw,_,R,S,m,fun v H1 ⟨μ1,w,h1,e1,R1,r1,m1⟩=>?_⟩
 cases w with
 | int i=>rw [Rep] at r1;exact ⟨i,r1,q _ _ ⟨μ1,.int (-i),h1,e1,R1,by rw [Rep],m1⟩⟩
 | _=>exact m1.elim
def aL:MA:=fun _ h Q=>Q [] h
def aq (a:ME)(r:MA):MA:=fun σ h Q=>a σ h fun x h1=>r σ h1 fun xs h2=>Q (x::xs) h2
variable {es:List Expr}{mr:MA}
theorem au:DAs X [] aL:=pa_nil.of fun σ H Q ⟨μ,g,σw,Qw,R,S,m,q⟩=>q _ _ ⟨μ,[],g,.refl,R,.nil,m⟩
theorem ak (ha:DE X e ma)(hr:DAs X es mr)(hs:starEach (e::es) X.env=(false,eval e X.env)::starEach es X.env:=by rfl):DAs X (e::es) (aq ma mr):=(pa_cons ha hr hs).of fun σ H Q ⟨μ,g,σw,Qw,R,S,m,q⟩=>by
 refine ⟨μ,g,σw,_,R,S,m,fun v H1 ⟨μ1,w,h1,e1,R1,r1,m1⟩=>?_⟩
 refine ⟨μ1,h1,σw,_,R1,S.ext e1,m1,fun vs H2 ⟨μ2,ws,h2,e2,R2,r2,m2⟩=>?_⟩
 exact q _ _ ⟨μ2,w::ws,h2,e1.trans e2,R2,.cons (e2.r _ _ r1) r2,m2⟩
def iU (n:Nat)(P:Prop):Prop:=by2 (Nat.ble n 1000) P (n≤sizeLine∧P)
theorem iU.ok {n:Nat}{P:Prop}(h:iU n P):n≤sizeLine∧P:=by
 unfold iU at h
 cases e:Nat.ble n 1000 with
 | true=>rw [e] at h;exact ⟨Nat.le_trans (Nat.le_of_ble_eq_true e) (by decide),h⟩
 | false=>rw [e] at h;exact h
theorem iU.mk {n:Nat}{P:Prop}(hn:n≤sizeLine)(h:P):iU n P:=by
 unfold iU
 cases e:Nat.ble n 1000 with
 | true=>exact h
 | false=>exact ⟨hn,h⟩
def vV (t:MA):ME:=fun σ h Q=>t σ h fun ws h1=>iU ws.length (Q (.tup ws) h1)
def mLst (t:MA):ME:=fun σ h Q=>t σ h fun ws h1=>iU ws.length (Q (.lst ws) h1)
def qU (t:MA):ME:=fun σ h Q=>t σ h fun ws h1=>iU ws.length (Q (.loc h1.nx) (h1.new (.lst ws)))
theorem iY {x1}(h:DAs X es mr):DE X (.Tuple es x1 pos) (vV mr):=(pe_tup h).of fun σ H Q ⟨μ,g,σw,Qw,R,S,m,q⟩=>
 ⟨μ,g,σw,_,R,S,m,fun vs H1 ⟨μ1,ws,h1,e1,R1,r1,sz⟩=>⟨by rw [←r1.len];exact sz.ok.1,fun p hp=>q _ _ ⟨μ1,.tup ws,h1,e1.trans (Ex.laid hp).ext,R1.laid hp,.tupNew hp r1,sz.ok.2⟩⟩⟩
theorem lU (h:DAs X es mr):DE X (.List es pos) (mLst mr):=(pe_lst h).of fun σ H Q ⟨μ,g,σw,Qw,R,S,m,q⟩=>
 ⟨μ,g,σw,_,R,S,m,fun vs H1 ⟨μ1,ws,h1,e1,R1,r1,sz⟩=>⟨by rw [←r1.len];exact sz.ok.1,fun p hp=>q _ _ ⟨μ1,.lst ws,h1,e1.trans (Ex.laid hp).ext,R1.laid hp,.lstNew R1 hp r1,sz.ok.2⟩⟩⟩
theorem newLst {K:PySem.W.Frag}{H:Hp}{μ : Mu}{h:Gh}{p:Addr}{ws:List W}{xs:List V}(R:Rel K μ H h)(hp:H p=none)(r:aN K H μ ws xs) :
  Rel K (μ.put h.nx p) (upd H p (.lst xs)) (h.new (.lst ws)):=R.newCell hp trivial ⟨xs,bw,(Ex.newCell R hp).ext.s r⟩
theorem lR (h:DAs X es mr):DE X (.List es pos) (qU mr):=(pe_lst h).of fun σ H Q ⟨μ,g,σw,Qw,R,S,m,q⟩=>
 ⟨μ,g,σw,_,R,S,m,fun vs H1 ⟨μ1,ws,h1,e1,R1,r1,sz⟩=>⟨by rw [←r1.len];exact sz.ok.1,fun p hp=>q _ _ ⟨μ1.put h1.nx p,.loc h1.nx,h1.new (.lst ws),e1.trans (Ex.newCell R1 hp).ext,newLst R1 hp r1,by rw [Rep];exact ⟨p,rfl,Mu.put_same⟩,sz.ok.2⟩⟩⟩
def lift (K:PySem.W.Frag)(ms:MSp):Sp:=fun vs H Q _=>∃ μ h ws Qw,Rel K μ H h∧aN K H μ ws vs∧ms ws h Qw EF∧∀ v H',DQ K H μ Qw v H'→Q v H'
def aH (ms:MSp)(E:XWK)(ma:MA):ME:=fun σ h Q=>ma σ h fun ws h1=>ms ws h1 Q E
theorem call_of {K:PySem.W.Frag}{σ : St}{H:Hp}{Q:VK}{E:XK}{ms:MSp}{ma:MA}(h:tD K (aH ms EF ma) σ H Q):tCall (lift K ms) [] E (tDA K ma) σ H Q:=by
 obtain ⟨μ,g,σw,Qw,R,S,m,q⟩:=h
 refine ⟨μ,g,σw,_,R,S,m,fun vs H1 ⟨μ1,ws,h1,e1,R1,r1,m1⟩=>?_⟩
 show lift K ms (vs++[]) H1 Q E
 rw [List.append_nil]
 exact ⟨μ1,h1,ws,Qw,R1,r1,m1,fun v H' z=>q _ _ (z.trans e1)⟩
theorem aG {k:Nat}{f:Addr}{fd:FuncData}{ps:List Str}{ms:MSp}{x:Str}{p:Pos}(F:bQ X.prog X.w X.K X.mg X.base CX0 k f fd ps (lift X.K ms))(hr:oU k X.A)(hg:Gl X x)(hm:X.mg x=some (.ref f))(hk:PySem.W.keepIn X.K (.ref f)=true)
  (hb:Binds X.K fd ps []) (ha:DAs X (e::es) mr) (hdb:(x==("__debug__" : Str))=false:=by decide) (he:starEach (e::es) X.env=(false,eval e X.env)::starEach es X.env:=by rfl) (hpl:(backTo pos (starEach es X.env)).any (·.1)=false:=by rfl) :
  DE X (.Call (.Name x p) (e::es) [] pos) (aH ms EF mr):=(pe_call F hr hg hm hk hb .nil pass0 ha hdb he hpl).of fun _ _ _ h=>call_of h
theorem j5 {k:Nat}{f:Addr}{fd:FuncData}{ps:List Str}{ms:MSp}{x:Str}{p:Pos}(F:bQ X.prog X.w X.K X.mg X.base CX0 k f fd ps (lift X.K ms))(hr:oU k X.A)(hg:Gl X x)(hm:X.mg x=some (.ref f))(hk:PySem.W.keepIn X.K (.ref f)=true)
  (hb:Binds X.K fd ps []) (hdb:(x==("__debug__" : Str))=false:=by decide):DE X (.Call (.Name x p) [] [] pos) (aH ms EF aL):=(pe_call0 F hr hg hm hk hb .nil pass0 hdb).of fun σ H Q ⟨μ,g,σw,Qw,R,S,m,q⟩=>
 ⟨μ,g,[],Qw,R,.nil,m,q⟩
def truW (h:Gh)(w:W):Option Bool:=match w with
 | .non=>some false
 | .bl b=>some b
 | .int i=>some (i != 0)
 | .tup ws=>some (!ws.isEmpty)
 | .lst ws=>some (!ws.isEmpty)
 | .kls ws=>some (!ws.isEmpty)
 | .loc n=>(match h.c n with
  | some (.lst ws)=>some (!ws.isEmpty)
  | _=>none)
 | _=>none
def vW (m:ME):MT:=fun σ h Q=>m σ h fun w h1=>match truW h1 w with
 | some b=>Q b h1
 | none=>False
theorem aN.emp {K:PySem.W.Frag}{H:Hp}{μ : Mu}{ws:List W}{xs:List V}(r:aN K H μ ws xs):ws.isEmpty=xs.isEmpty:=by
 have:=r.len
 cases ws <;> cases xs <;> first | rfl | cases this
theorem dW (he:DE X e ma)(h:∀ whole,isTrue e X.env whole=(do let v ←whole;standAt e.pos;holding [v] (truthy v)):=by intro _;rfl):DT X e (vW ma):=(pt_truth he h).of fun σ H Q ⟨μ,g,σw,Qw,R,S,m,q⟩=>by
 refine ⟨μ,g,σw,_,R,S,m,fun v H1 ⟨μ1,w,h1,e1,R1,r1,m1⟩=>?_⟩
 dsimp only at m1
 split at m1
 ·rename_i b eb
  refine ⟨b,?_,q _ _ ⟨μ1,h1,e1,R1,m1⟩⟩
  cases w with
  | non=>rw [Rep] at r1;subst r1;cases eb;rfl
  | bl c=>rw [Rep] at r1;subst r1;cases eb;rfl
  | int c=>rw [Rep] at r1;subst r1;cases eb;rfl
  | tup ws=>
   rw [Rep] at r1
   obtain ⟨p,xs,ev,hs,rs⟩:=r1
   subst ev
   cases eb
   exact .inr (.inl ⟨xs,hs,by rw [rs.emp]⟩)
  | lst ws=>
   rw [Rep] at r1
   obtain ⟨p,xs,ev,hs,rs⟩:=r1
   subst ev
   cases eb
   exact .inl ⟨xs,hs.sq,by rw [rs.emp]⟩
  | kls ws=>
   rw [Rep] at r1
   obtain ⟨p,xs,ev,hs,rs⟩:=r1
   subst ev
   cases eb
   exact .inl ⟨xs,hs.sq,by rw [rs.emp]⟩
  | loc n=>
   rw [Rep] at r1
   obtain ⟨p,ev,hm⟩:=r1
   subst ev
   unfold truW at eb
   dsimp only at eb
   cases ec:h1.c n with
   | none=>rw [ec] at eb;cases eb
   | some cl=>
    rw [ec] at eb
    cases cl with
    | lst ws=>
     cases eb
     obtain ⟨p',hm',xs,hx,rs⟩:=R1.cel n _ ec
     have ep:p'=p:=by rw [hm] at hm';exact (Option.some.inj hm').symm
     subst ep
     exact .inl ⟨xs,.of hx,by rw [rs.emp]⟩
    | _=>cases eb
  | _=>cases eb
 ·exact m1.elim
abbrev MC:=List W→Gh→WK→Prop
def mCB (r:MC)(ma:MA):ME:=fun σ h Q=>ma σ h fun ws h1=>r ws h1 Q
def SimC (K:PySem.W.Frag)(r:List V→Hp→VK→Prop)(mr:MC):Prop:=∀ {H:Hp} {μ : Mu} {h:Gh} {vs:List V} {ws:List W} {Qw:WK} {Q:VK},Rel K μ H h→aN K H μ ws vs→mr ws h Qw→(∀ v H',DQ K H μ Qw v H'→Q v H')→r vs H Q
def lg (X:Cx)(f:Value)(mr:MC):Prop:=∃ r,lO X f r∧SimC X.K r mr
theorem cb_of {K:PySem.W.Frag}{σ : St}{H:Hp}{Q:VK}{r:List V→Hp→VK→Prop}{mc:MC}{ma:MA}(s:SimC K r mc)(h:tD K (mCB mc ma) σ H Q):tCB r (tDA K ma) σ H Q:=by
 obtain ⟨μ,g,σw,Qw,R,S,m,q⟩:=h
 exact ⟨μ,g,σw,_,R,S,m,fun vs H1 ⟨μ1,ws,h1,e1,R1,r1,m1⟩=>s R1 r1 m1 fun v H' z=>q _ _ (z.trans e1)⟩
theorem aU {x:Str}{p:Pos}{id:String}{mc:MC}(hc:lg X (.builtin id) mc)(hg:Gl X x)(hm:X.mg x=none)(hv:bootBuiltins x=some (.builtin id))(ha:DAs X (e::es) mr)(hn:x ≠ "__name__":=by decide)(hdb:(x==("__debug__" : Str))=false:=by decide)
  (he:starEach (e::es) X.env=(false,eval e X.env)::starEach es X.env:=by rfl) (hpl:(backTo pos (starEach es X.env)).any (·.1)=false:=by rfl):DE X (.Call (.Name x p) (e::es) [] pos) (mCB mc mr):=by
 obtain ⟨r,c,s⟩:=hc
 exact (pe_callB c hg hm hv ha hn hdb he hpl).of fun _ _ _ h=>cb_of s h
theorem gK {x:Str}{p:Pos}{T:String}{mc:MC}(hc:lg X (.type T) mc)(hg:Gl X x)(hm:X.mg x=none)(hv:bootBuiltins x=some (.type T))(ha:DAs X (e::es) mr)(hn:x ≠ "__name__":=by decide)(hdb:(x==("__debug__" : Str))=false:=by decide)
  (he:starEach (e::es) X.env=(false,eval e X.env)::starEach es X.env:=by rfl) (hpl:(backTo pos (starEach es X.env)).any (·.1)=false:=by rfl):DE X (.Call (.Name x p) (e::es) [] pos) (mCB mc mr):=by
 obtain ⟨r,c,s⟩:=hc
 exact (pe_callTy c hg hm hv ha hn hdb he hpl).of fun _ _ _ h=>cb_of s h
end
end L2
namespace L2
open PySem PySem.Spec PyProof.Rows
section
variable {X:Cx}{e a b c tg:Expr}{ma mb mc:ME}{pos:Pos}{es:List Expr}
def nName (i:Nat):MG:=fun w σ h N=>N (σ.set i (some w)) h
theorem cQ {i:Nat}(hg:PG X e (gName i)):DG X e (nName i):=hg.of fun v σ H N ⟨μ,h,σw,w,Nw,R,S,r,m,k⟩=>k _ _ ⟨μ,σw.set i (some w),h,.refl,R,S.set r i,m⟩
def nNil:MGs:=fun ws σ h N=>match ws with
 | []=>N σ h
 | _=>False
def nCons (g:MG)(r:MGs):MGs:=fun ws σ h N=>match ws with
 | w::ws'=>g w σ h fun σ1 h1=>r ws' σ1 h1 N
 | []=>False
def nTup (n:Nat)(g:MGs):MG:=fun w σ h N=>match w with
 | .tup ws=>by2 (Nat.beq ws.length n) (g ws σ h N) False
 | _=>False
abbrev MSet:=W→W→W→Gh→(Gh→Prop)→Prop
def SimSet (K:PySem.W.Frag)(t:TSet)(ms:MSet):Prop:=∀ {H:Hp} {μ : Mu} {h:Gh} {o i v:V} {wo wi w:W} {Nw:Gh→Prop} {N:Hp→Prop},Rel K μ H h→Rep K H μ wo o→Rep K H μ wi i→Rep K H μ w v→ms wo wi w h Nw →
 (∀ H',(∃ μ' h',Ext K H μ H' μ'∧Rel K μ' H' h'∧Nw h')→N H')→t o i v H N
def nSub (mo mi:ME)(ms:MSet):MG:=fun w σ h N=>mo σ h fun o h1=>mi σ h1 fun i h2=>ms o i w h2 fun h3=>N σ h3
theorem dg_sub {o i:Expr}{mo mi:ME}{t:TSet}{ms:MSet}(ho:DE X o mo)(hi:DE X i mi)(hs:PSet X t)(hm:SimSet X.K t ms)
  (ha:∀ v,assign (.Subscript o i pos) X.env v=(do
   let ov ←holding [v] (eval o X.env)
   let iv ←holding [v,ov] (eval i X.env)
   standAt pos
   holding [v,ov,iv] (setItem ov iv v)
   release [v,ov,iv] []):=by intro _;rfl):DG X (.Subscript o i pos) (nSub mo mi ms):=
 (pg_sub ho hi hs ha).of fun v σ H N ⟨μ,h,σw,w,Nw,R,S,r,m,k⟩=>by
  refine ⟨μ,h,σw,_,R,S,m,fun o H1 ⟨μ1,wo,h1,e1,R1,r1,m1⟩=>?_⟩
  refine ⟨μ1,h1,σw,_,R1,S.ext e1,m1,fun i H2 ⟨μ2,wi,h2,e2,R2,r2,m2⟩=>?_⟩
  refine hm R2 (e2.r _ _ r1) r2 (e2.r _ _ (e1.r _ _ r)) m2 fun H3 ⟨μ3,h3,e3,R3,m3⟩=>?_
  exact k _ _ ⟨μ3,σw,h3,(e1.trans e2).trans e3,R3,S.ext ((e1.trans e2).trans e3),m3⟩
def sSetL:MSet:=fun o i w h N=>match o,i with
 | .loc n,.int k=>(match h.c n with
  | some (.lst ws)=>(match ixN ws.length k with
   | some j=>N (h.set n (.lst (ws.set j w)))
   | none=>False)
  | _=>False)
 | _,_=>False
theorem Rel.lstAt {K:PySem.W.Frag}{μ : Mu}{H:Hp}{h:Gh}{n:Nat}{ws:List W}(R:Rel K μ H h)(e:h.c n=some (.lst ws)):∃ p xs,μ.f n=some p∧H p=some (.lst xs)∧aN K H μ ws xs:=by
 obtain ⟨p,e1,xs,e2,r⟩:=R.cel n _ e
 exact ⟨p,xs,e1,e2,r⟩
theorem zU {K:PySem.W.Frag}:SimSet K rSetL sSetL:=by
 intro H μ h o i v wo wi w Nw N R ro ri r m k
 cases wo with
 | loc n=>
  cases wi with
  | int z=>
   rw [Rep] at ro
   rw [Rep] at ri
   obtain ⟨p,eo,hp⟩:=ro
   unfold sSetL at m
   dsimp only at m
   cases ec:h.c n with
   | none=>rw [ec] at m;exact m.elim
   | some cl=>
    rw [ec] at m
    cases cl with
    | lst ws=>
     dsimp only at m
     obtain ⟨p',xs,hp',hx,rs⟩:=R.lstAt ec
     have ep:p'=p:=by rw [hp] at hp';exact (Option.some.inj hp').symm
     subst ep
     cases ej:ixN ws.length z with
     | none=>rw [ej] at m;exact m.elim
     | some j=>
      rw [ej] at m
      refine ⟨p',xs,z,j,eo,ri,hx,by rw [←rs.len];exact ej,k _ ⟨μ,_,(Ex.write R hp).ext,R.write hp trivial ?_,m⟩⟩
      exact ⟨_,bw,aN.set ((Ex.write R hp).ext.r _ _ r) j ((Ex.write R hp).ext.s rs)⟩
    | _=>exact m.elim
  | _=>exact m.elim
 | _=>exact m.elim
variable {st:Stmt}{rest body:List Stmt}{m1 m2:MS}{t:MT}
def bW:MS:=fun D σ h=>D.nx σ h
def bx (m u:MS):MS:=fun D σ h=>m { D with nx:=u D } σ h
theorem aV:DSs X [] bW:=pss_nil.of fun D σ H ⟨μ,h,σw,Dw,R,S,m,k⟩=>k.nx _ _ ⟨μ,σw,h,.refl,R,S,m⟩
theorem aC (h1:DS X st m1):DSs X [st] m1:=pss_one h1
theorem aA (h1:DS X st m1)(h2:DSs X rest m2):DSs X (st::rest) (bx m1 m2):=(pss_cons h1 h2).of fun D σ H ⟨μ,h,σw,Dw,R,S,m,k⟩=>by
 refine ⟨μ,h,σw,_,R,S,m,?_,k.rt,k.bk,k.ct⟩
 intro σ' H' ⟨μ1,σw1,h1,e1,R1,S1,m1⟩
 exact ⟨μ1,h1,σw1,Dw,R1,S1,m1,k.trans e1⟩
def ni (m:ME):MS:=fun D σ h=>m σ h fun _ h1=>D.nx σ h1
theorem fU (he:DE X e ma)(hs:swapsWith e none pos.line X.env=pure false:=by rfl):DS X (.Expr e pos) (ni ma):=(ps_expr he hs).of fun D σ H ⟨μ,h,σw,Dw,R,S,m,k⟩=>
 ⟨μ,h,σw,_,R,S,m,fun v H1 ⟨μ1,w,h1,e1,R1,_,m1⟩=>k.nx _ _ ⟨μ1,σw,h1,e1,R1,S.ext e1,m1⟩⟩
def bK (m:ME):MS:=fun D σ h=>m σ h D.rt
theorem aM (he:DE X e ma):DS X (.Return (some e) pos) (bK ma):=(ps_ret he).of fun D σ H ⟨μ,h,σw,Dw,R,S,m,k⟩=>⟨μ,h,σw,_,R,S,m,k.rt⟩
def iZ (t:MT)(a b:MS):MS:=fun D σ h=>t σ h fun c h1=>br c (a D σ h1) (b D σ h1)
theorem cB {a b:List Stmt}(hc:DT X c t)(ha:DSs X a m1)(hb:DSs X b m2):DS X (.If c a b pos) (iZ t m1 m2):=(ps_if hc ha hb).of fun D σ H ⟨μ,h,σw,Dw,R,S,m,k⟩=>by
 refine ⟨μ,h,σw,_,R,S,m,fun b H1 ⟨μ1,h1,e1,R1,q⟩=>?_⟩
 cases b with
 | true=>rw [if_pos rfl];exact ⟨μ1,h1,σw,Dw,R1,S.ext e1,q.1 rfl,k.trans e1⟩
 | false=>rw [if_neg Bool.false_ne_true];exact ⟨μ1,h1,σw,Dw,R1,S.ext e1,q.2 rfl,k.trans e1⟩
def uy (x:Str)(E:XWK):MS:=fun _ _ h=>E ⟨x,[]⟩ h
theorem oV {x:Str}:DS X st (uy x EF):=ps_never.of fun _ _ _ ⟨_,_,_,_,_,_,m,_⟩=>m.elim
def bR (m:ME)(g:MG):MS:=fun D σ h=>m σ h fun w h1=>g w σ h1 D.nx
theorem asg_of {K:PySem.W.Frag}{σ : St}{H:Hp}{D:Ends}{m:ME}{g:MG}(q:tDS K (bR m g) D σ H):tAsg (tD K m) (tDG K g) D σ H:=by
 obtain ⟨μ,h,σw,Dw,R,S,m,k⟩:=q
 exact ⟨μ,h,σw,_,R,S,m,fun v H1 ⟨μ1,w,h1,e1,R1,r1,m1⟩=>⟨μ1,h1,σw,w,_,R1,S.ext e1,r1,m1,fun σ' H' z=>k.nx _ _ (z.trans e1)⟩⟩
theorem ds_asg {g:MG}(he:DE X e ma)(hg:DG X tg g)(hs:swapsWithSole [tg] e pos.line X.env=pure false:=by rfl)(hw:swappedStores [tg] e X.env=pure none:=by rfl)
  (h1:(assignEach [tg] X.env).map (·.2)=[assign tg X.env]:=by rfl):DS X (.Assign [tg] e pos) (bR ma g):=(ps_asg he hg hs hw h1).of fun _ _ _ q=>asg_of q
theorem set_of {K:PySem.W.Frag}{σ : St}{H:Hp}{D:Ends}{m:ME}{t:TE}{i:Nat}(ht:∀ σ H Q,tD K m σ H Q→t σ H Q)(q:tDS K (bR m (nName i)) D σ H):tAsg t (gName i) D σ H:=by
 obtain ⟨μ,h,σw,Dw,R,S,m,k⟩:=q
 exact ht _ _ _ ⟨μ,h,σw,_,R,S,m,fun v H1 ⟨μ1,w,h1,e1,R1,r1,m1⟩=>k.nx _ _ ⟨μ1,σw.set i (some w),h1,e1,R1,(S.ext e1).set r1 i,m1⟩⟩
theorem aQ {i:Nat}{x:Str}{pos':Pos}(hN:X.N.Nodup)(hi:X.N[i]?=some x)(hx:Loc X.env.scope x)(he:DE X e ma)(hs:swapsWith e (some (.Name x pos')) pos.line X.env=pure false:=by rfl)
  (hf:X.fn x=true∨X.env.scope.names.lookup x=some .local:=by first | exact .inl rfl | exact .inr rfl | assumption) :
  DS X (.Assign [.Name x pos'] e pos) (bR ma (nName i)):=(ps_set hN hi hx he hs hf).of fun _ _ _ q=>set_of (fun _ _ _ z=>z) q
def mPar (i j:Nat)(ta:MA):MS:=fun D σ h=>ta σ h fun ws h1=>match ws with
 | [v,w]=>D.nx ((σ.set i (some v)).set j (some w)) h1
 | _=>False
theorem ds_par_of {i j:Nat}{ta:MA}(hp:PS X st (tPar i j (tDA X.K ta))):DS X st (mPar i j ta):=hp.of fun D σ H ⟨μ,h,σw,Dw,R,S,m,k⟩=>by
 refine ⟨μ,h,σw,_,R,S,m,fun vs H1 ⟨μ1,ws,h1,e1,R1,r1,m1⟩=>?_⟩
 dsimp only at m1
 split at m1
 ·rename_i a b
  rw [aN] at r1
  obtain ⟨v,vr,ev,ra,r2⟩:=r1
  rw [aN] at r2
  obtain ⟨v',vr',ev',rb,r3⟩:=r2
  rw [aN] at r3
  subst r3
  subst ev'
  subst ev
  exact ⟨v,v',rfl,k.nx _ _ ⟨μ1,_,h1,e1,R1,((S.ext e1).set ra i).set rb j,m1⟩⟩
 ·exact m1.elim
def mWhile (t:MT)(b:MS):MS:=fun D σ h=>∃ Wm:Nat→Sw→Gh→Prop,(∃ m,Wm m σ h)∧∀ m σ h,Wm m σ h →
 t σ h fun c h1=>br c (b { D with nx:=fun σ' h'=>∃ m',m'<m∧Wm m' σ' h',ct:=fun σ' h'=>∃ m',m'<m∧Wm m' σ' h',bk:=D.nx } σ h1) (D.nx σ h1)
theorem ds_while {body:List Stmt}{pos:Pos}(hp:PassesOwn (model X.prog X.w) X.A X.env X.xe)(hc:DT X c t)(hb:DSs X body m1):DS X (.While c body [] pos) (mWhile t m1):=(ps_while hp hc hb).of fun D σ H ⟨μ,h,σw,Dw,R,S,m,k⟩=>by
 obtain ⟨Wm,⟨m0,w0⟩,turn⟩:=m
 refine ⟨fun n σ' H'=>DN X.K H μ (Wm n) σ' H',⟨m0,μ,σw,h,.refl,R,S,w0⟩,fun n σ1 H1 ⟨μ1,σw1,h1,e1,R1,S1,w1⟩=>?_⟩
 refine ⟨μ1,h1,σw1,_,R1,S1,turn n σw1 h1 w1,fun b H2 ⟨μ2,h2,e2,R2,q⟩=>?_⟩
 have e12:=e1.trans e2
 cases b with
 | true=>
  dsimp only
  rw [if_pos rfl]
  refine ⟨fun σ' H'=>∃ m',m'<n∧DN X.K H μ (Wm m') σ' H',fun _ _ z=>z,μ2,h2,σw1,_,R2,S1.ext e2,q.1 rfl,?_⟩
  have again:∀ (σ':St) (H':Hp),DN X.K H2 μ2 (fun σ' h'=>∃ m',m'<n∧Wm m' σ' h') σ' H'→∃ m',m'<n∧DN X.K H μ (Wm m') σ' H':=fun σ' H' ⟨μ3,σw3,h3,e3,R3,S3,m',hm,w3⟩=>
   ⟨m',hm,μ3,σw3,h3,e12.trans e3,R3,S3,w3⟩
  exact ⟨again,fun v H' z=>k.rt _ _ (z.trans e12),fun σ' H' z=>k.nx _ _ (z.trans e12),again⟩
 | false=>
  dsimp only
  rw [if_neg Bool.false_ne_true]
  exact k.nx _ _ ⟨μ2,σw1,h2,e12,R2,S1.ext e2,q.2 rfl⟩
structure Src where
 ws:List W
 cell:Option (Nat×List W)
def Src.chk (s:Src)(h:Gh):Prop:=match s.cell with
 | none=>True
 | some n=>h.c n.1=some (.lst n.2)
abbrev MI:=Sw→Gh→(Src→Gh→Prop)→Prop
def ItOk (K:PySem.W.Frag)(J:It)(src:Src)(H:Hp)(μ : Mu):Prop:=∀ {H2:Hp} {μ2:Mu} {h2:Gh} {i:Nat},Ext K H μ H2 μ2→Rel K μ2 H2 h2→src.chk h2 →
 (∀ w,src.ws[i]?=some w→J.go i H2∧∀ x H3,J.yld i H2 x H3→∃ μ3,Ext K H2 μ2 H3 μ3∧Rel K μ3 H3 h2∧Rep K H3 μ3 w x)∧(src.ws.length≤i→J.stop i H2)
def DI (K:PySem.W.Frag)(H:Hp)(μ : Mu)(Rw:Src→Gh→Prop):It→Hp→Prop:=fun J H'=>∃ μ' src h',Ext K H μ H' μ'∧Rel K μ' H' h'∧ItOk K J src H' μ'∧Rw src h'
def tDI (K:PySem.W.Frag)(mi:MI):TI:=fun σ H R=>∃ μ h σw Rw,Rel K μ H h∧Slots K H μ σw σ∧mi σw h Rw∧∀ J H',DI K H μ Rw J H'→R J H'
abbrev DIt (X:Cx)(tg iter:Expr)(mi:MI):Prop:=PI X tg iter (tDI X.K mi)
theorem PI.of {iter:Expr}{t t':TI}(h:PI X tg iter t)(k:∀ σ H R,t' σ H R→t σ H R):PI X tg iter t':=fun pins s σ H R I q=>h pins s σ H R I (k σ H R q)
def fC (h:Gh):W→Option (List W)
 | .lst ws=>some ws
 | .kls ws=>some ws
 | .loc n=>(match h.c n with
  | some (.lst ws)=>some ws
  | _=>none)
 | _=>none
def view (h:Gh):W→Option (List W)
 | .tup ws=>some ws
 | .lst ws=>some ws
 | .kls ws=>some ws
 | .loc n=>fC h (.loc n)
 | _=>none
def pZ (h:Gh):W→Option Src
 | .tup ws=>some ⟨ws,none⟩
 | .lst ws=>some ⟨ws,none⟩
 | .kls ws=>some ⟨ws,none⟩
 | .loc n=>(match h.c n with
  | some (.lst ws)=>some ⟨ws,some (n,ws)⟩
  | _=>none)
 | _=>none
theorem itl_frz {K:PySem.W.Frag}{H:Hp}{μ : Mu}{p:Addr}{ws:List W}(r:Rep K H μ (.lst ws) (.ref p)):ItOk K (Itl K p) ⟨ws,none⟩ H μ:=by
 intro H2 μ2 h2 i e R2 _
 have r2:=e.r _ _ r
 rw [Rep] at r2
 obtain ⟨q,xs,eq,hf,rs⟩:=r2
 cases eq
 refine ⟨fun w ew=>?_,fun hl=>⟨xs,hf.sq,by rw [←rs.len];exact hl⟩⟩
 obtain ⟨v,ev,rv⟩:=rs.get ew
 refine ⟨⟨xs,v,hf.sq,ev⟩,fun x H3 ⟨e3,y⟩=>?_⟩
 subst e3
 have:=y xs hf.sq
 rw [ev] at this
 cases this
 exact ⟨μ2,.refl,R2,rv⟩
theorem itl_kls {K:PySem.W.Frag}{H:Hp}{μ : Mu}{p:Addr}{ws:List W}(r:Rep K H μ (.kls ws) (.ref p)):ItOk K (Itl K p) ⟨ws,none⟩ H μ:=by
 intro H2 μ2 h2 i e R2 _
 have r2:=e.r _ _ r
 rw [Rep] at r2
 obtain ⟨q,xs,eq,hf,rs⟩:=r2
 cases eq
 refine ⟨fun w ew=>?_,fun hl=>⟨xs,hf.sq,by rw [←rs.len];exact hl⟩⟩
 obtain ⟨v,ev,rv⟩:=rs.get ew
 refine ⟨⟨xs,v,hf.sq,ev⟩,fun x H3 ⟨e3,y⟩=>?_⟩
 subst e3
 have:=y xs hf.sq
 rw [ev] at this
 cases this
 exact ⟨μ2,.refl,R2,rv⟩
theorem itl_cell {K:PySem.W.Frag}{H:Hp}{μ : Mu}{p:Addr}{n:Nat}{ws:List W}(r:Rep K H μ (.loc n) (.ref p)):ItOk K (Itl K p) ⟨ws,some (n,ws)⟩ H μ:=by
 intro H2 μ2 h2 i e R2 ck
 have r2:=e.r _ _ r
 rw [Rep] at r2
 obtain ⟨q,eq,hm⟩:=r2
 cases eq
 obtain ⟨p',xs,hm',hx,rs⟩:=R2.lstAt (show h2.c n=some (.lst ws) from ck)
 have ep:p'=p:=by rw [hm] at hm';exact (Option.some.inj hm').symm
 subst ep
 refine ⟨fun w ew=>?_,fun hl=>⟨xs,.of hx,by rw [←rs.len];exact hl⟩⟩
 obtain ⟨v,ev,rv⟩:=rs.get ew
 refine ⟨⟨xs,v,.of hx,ev⟩,fun x H3 ⟨e3,y⟩=>?_⟩
 subst e3
 have:=y xs (.of hx)
 rw [ev] at this
 cases this
 exact ⟨μ2,.refl,R2,rv⟩
theorem itt_tup {K:PySem.W.Frag}{H:Hp}{μ : Mu}{p:Addr}{ws:List W}(r:Rep K H μ (.tup ws) (.ref p)):ItOk K (Itt K p) ⟨ws,none⟩ H μ:=by
 intro H2 μ2 h2 i e R2 _
 have r2:=e.r _ _ r
 rw [Rep] at r2
 obtain ⟨q,xs,eq,hf,rs⟩:=r2
 cases eq
 refine ⟨fun w ew=>?_,fun hl=>⟨xs,hf,by rw [←rs.len];exact hl⟩⟩
 obtain ⟨v,ev,rv⟩:=rs.get ew
 refine ⟨⟨xs,v,hf,ev⟩,fun x H3 ⟨e3,y⟩=>?_⟩
 subst e3
 have:=y xs hf
 rw [ev] at this
 cases this
 exact ⟨μ2,.refl,R2,rv⟩
def iSeq (K:PySem.W.Frag)(tl:TE):TI:=fun σ H R=>tl σ H fun x H1=>(∃ a,x=.ref a∧(∃ xs,SqL K H1 a xs)∧R (Itl K a) H1)∨(∃ a,x=.ref a∧(∃ xs,SqT K H1 a xs)∧R (Itt K a) H1)
theorem pi_seq {l:Expr}{tl:TE}(hl:PE X l tl):PI X tg l (iSeq X.K tl):=by
 intro pins s σ H R I h
 refine thn (hl pins s σ H _ I h) fun v s1 ⟨x,H1,I1,r1,q1⟩=>?_
 rcases q1 with ⟨a,e,⟨xs,hq⟩,q⟩ | ⟨a,e,⟨xs,hq⟩,q⟩
 ·subst e
  cases r1
  obtain ⟨its,rv,p,hz⟩:=I1.list hq
  refine wpAny_pyIter_list p.isList ?_
  refine ⟨s1.heap.objs.size,[s1.heap.objs.size],_,_,H1,rfl,I1.kept (t':=s1.toks) fun b o e=>Heap.get?_push_of_some _ e,turn_list a _,⟨_,Heap.get?_push_size _ rfl,rfl,rfl⟩,fun b hb=>?_,q⟩
  have e:b=s1.heap.objs.size:=by simpa using hb
  subst e
  exact I1.fpOk (Nat.le_refl _) (I1.hok.fresh (Nat.le_refl _))
 ·subst e
  cases r1
  obtain ⟨its,rv,p,hz⟩:=I1.tuple hq
  refine wpAny_pyIter_tuple (show s1.heap.IsTuple a its.toArray from p) ?_
  refine ⟨s1.heap.objs.size,[s1.heap.objs.size],_,_,H1,rfl,I1.kept (t':=s1.toks) fun b o e=>Heap.get?_push_of_some _ e,turn_tuple a _,⟨_,Heap.get?_push_size _ rfl,rfl,rfl⟩,fun b hb=>?_,q⟩
  have e:b=s1.heap.objs.size:=by simpa using hb
  subst e
  exact I1.fpOk (Nat.le_refl _) (I1.hok.fresh (Nat.le_refl _))
def nIt (m:ME):MI:=fun σ h R=>m σ h fun w h1=>match pZ h1 w with
 | some s=>R s h1
 | none=>False
theorem bI {l:Expr}(hl:DE X l ma):DIt X tg l (nIt ma):=PI.of (pi_seq hl) fun σ H Q ⟨μ,h,σw,Rw,R,S,m,k⟩=>by
 refine ⟨μ,h,σw,_,R,S,m,fun v H1 ⟨μ1,w,h1,e1,R1,r1,m1⟩=>?_⟩
 cases w with
 | tup ws=>
  have r1':=r1
  rw [Rep] at r1
  obtain ⟨p,xs,ev,hs,_⟩:=r1
  subst ev
  exact .inr ⟨p,rfl,⟨xs,hs⟩,k _ _ ⟨μ1,⟨ws,none⟩,h1,e1,R1,itt_tup r1',m1⟩⟩
 | lst ws=>
  have r1':=r1
  rw [Rep] at r1
  obtain ⟨p,xs,ev,hs,_⟩:=r1
  subst ev
  exact .inl ⟨p,rfl,⟨xs,hs.sq⟩,k _ _ ⟨μ1,⟨ws,none⟩,h1,e1,R1,itl_frz r1',m1⟩⟩
 | kls ws=>
  have r1':=r1
  rw [Rep] at r1
  obtain ⟨p,xs,ev,hs,_⟩:=r1
  subst ev
  exact .inl ⟨p,rfl,⟨xs,hs.sq⟩,k _ _ ⟨μ1,⟨ws,none⟩,h1,e1,R1,itl_kls r1',m1⟩⟩
 | loc n=>
  have r1':=r1
  rw [Rep] at r1
  obtain ⟨p,ev,hm⟩:=r1
  subst ev
  unfold pZ at m1
  dsimp only at m1
  cases ec:h1.c n with
  | none=>rw [ec] at m1;exact m1.elim
  | some cl=>
   rw [ec] at m1
   cases cl with
   | lst ws=>
    obtain ⟨p',xs,hm',hx,rs⟩:=R1.lstAt ec
    have ep:p'=p:=by rw [hm] at hm';exact (Option.some.inj hm').symm
    subst ep
    exact .inl ⟨p',rfl,⟨xs,.of hx⟩,k _ _ ⟨μ1,⟨ws,some (n,ws)⟩,h1,e1,R1,itl_cell r1',m1⟩⟩
   | _=>exact m1.elim
 | _=>exact m1.elim
def yK (lo:Int)(n:Nat):List W:=(List.range n).map fun (k:Nat)=>.int (lo+(k:Int))
theorem itr_ok {K:PySem.W.Frag}{H:Hp}{μ : Mu}{lo:Int}{n:Nat}:ItOk K (Itr lo n) ⟨yK lo n,none⟩ H μ:=by
 intro H2 μ2 h2 i e R2 _
 refine ⟨fun w ew=>?_,fun hl=>?_⟩
 ·have hi:i<n:=by
   have:=(List.getElem?_eq_some_iff.mp ew).1
   simpa [yK] using this
  have ew':w=.int (lo+(i:Int)):=by
   unfold yK at ew
   rw [List.getElem?_map,List.getElem?_range hi] at ew
   exact (Option.some.inj ew).symm
  subst ew'
  refine ⟨hi,fun x H3 ⟨e3,y⟩=>?_⟩
  subst e3
  exact ⟨μ2,.refl,R2,by rw [Rep];exact y⟩
 ·have:n≤i:=by simpa [yK] using hl
  exact this
def w6 (j:Int)(P:Prop):Prop:=by2 (decide (-1000≤j)&&decide (j≤1000)) P ((-(2^62)≤j∧j<2^62)∧P)
theorem w6.ok {j:Int}{P:Prop}(h:w6 j P):(-(2^62)≤j∧j<2^62)∧P:=by
 unfold w6 at h
 cases e:(decide (-1000≤j)&&decide (j≤1000)) with
 | true=>
  rw [e] at h
  rw [Bool.and_eq_true,decide_eq_true_iff,decide_eq_true_iff] at e
  exact ⟨⟨by omega,by omega⟩,h⟩
 | false=>rw [e] at h;exact h
theorem w6.mk {j:Int}{P:Prop}(h1:-(2^62)≤j)(h2:j<2^62)(h:P):w6 j P:=by
 unfold w6
 cases e:(decide (-1000≤j)&&decide (j≤1000)) with
 | true=>exact h
 | false=>exact ⟨⟨h1,h2⟩,h⟩
def gk (ma:MA):MI:=fun σ h R=>ma σ h fun ws h1=>match ws with
 | [.int j]=>w6 j (R ⟨yK 0 j.toNat,none⟩ h1)
 | _=>False
def nRng2 (ma:MA):MI:=fun σ h R=>ma σ h fun ws h1=>match ws with
 | [.int i,.int j]=>w6 i (w6 j (R ⟨yK i (j - i).toNat,none⟩ h1))
 | _=>False
theorem cI {a:Expr}{mr:MA}{p pos:Pos}(hg:Gl X "range")(hm:X.mg "range" = none)(ha:DAs X [a] mr)(hs:starEach [a] X.env=[(false,eval a X.env)]:=by rfl):DIt X tg (.Call (.Name "range" p) [a] [] pos) (gk mr):=
 PI.of (pi_range1 hg hm ha hs) fun σ H Q ⟨μ,h,σw,Rw,R,S,m,k⟩=>by
  refine ⟨μ,h,σw,_,R,S,m,fun vs H1 ⟨μ1,ws,h1,e1,R1,r1,m1⟩=>?_⟩
  dsimp only at m1
  split at m1
  ·rename_i j
   rw [aN] at r1
   obtain ⟨v,vr,ev,ra,r1⟩:=r1
   rw [aN] at r1
   rw [Rep] at ra
   subst ev r1 ra
   exact ⟨j,rfl,m1.ok.1.1,m1.ok.1.2,k _ _ ⟨μ1,_,h1,e1,R1,itr_ok,m1.ok.2⟩⟩
  ·exact m1.elim
theorem di_range2 {a b:Expr}{mr:MA}{p pos:Pos}(hg:Gl X "range")(hm:X.mg "range" = none)(ha:DAs X [a,b] mr)(hs:starEach [a,b] X.env=[(false,eval a X.env),(false,eval b X.env)]:=by rfl)(hs2:starEach [b] X.env=[(false,eval b X.env)]:=by rfl) :
  DIt X tg (.Call (.Name "range" p) [a,b] [] pos) (nRng2 mr):=
 PI.of (pi_range2 hg hm ha hs hs2) fun σ H Q ⟨μ,h,σw,Rw,R,S,m,k⟩=>by
  refine ⟨μ,h,σw,_,R,S,m,fun vs H1 ⟨μ1,ws,h1,e1,R1,r1,m1⟩=>?_⟩
  dsimp only at m1
  split at m1
  ·rename_i i j
   rw [aN] at r1
   obtain ⟨v,vr,ev,ra,r1⟩:=r1
   rw [aN] at r1
   obtain ⟨v',vr',ev',rb,r1⟩:=r1
   rw [aN] at r1
   rw [Rep] at ra rb
   subst ev ev' r1 ra rb
   exact ⟨i,j,rfl,⟨m1.ok.1.1,m1.ok.1.2,m1.ok.2.ok.1.1,m1.ok.2.ok.1.2⟩,k _ _ ⟨μ1,_,h1,e1,R1,itr_ok,m1.ok.2.ok.2⟩⟩
  ·exact m1.elim
def Src.go (s:Src)(h:Gh)(P:Prop):Prop:=match s.cell with
 | none=>P
 | some n=>h.c n.1=some (.lst n.2)∧P
theorem Src.go_ok {s:Src}{h:Gh}{P:Prop}(x:s.go h P):s.chk h∧P:=by
 unfold Src.go at x
 unfold Src.chk
 cases e:s.cell with
 | none=>rw [e] at x;exact ⟨trivial,x⟩
 | some n=>rw [e] at x;exact x
def dD (s:Src)(g:MG)(b:MS)(D:bD):List W→Sw→Gh→Prop
 | [],σ,h=>s.go h (D.nx σ h)
 | w::r,σ,h=>s.go h (g w σ h fun σ1 h1=>b { D with nx:=dD s g b D r,ct:=dD s g b D r,bk:=D.nx } σ1 h1)
def p8 (mi:MI)(g:MG)(b:MS):MS:=fun D σ h=>mi σ h fun s h1=>dD s g b D s.ws σ h1
theorem eH {iter:Expr}{body:List Stmt}{mi:MI}{g:MG}{mb0:MS}{pos:Pos}(hp:PassesOwn (model X.prog X.w) X.A X.env X.xe)(hc:X.calm=true)(hi:DIt X tg iter mi)(hg:DG X tg g)(hb:DSs X body mb0)
  (hs:∀ x,foldedSetIterable iter X.env x=pure x:=by intro _;rfl):DS X (.For tg iter body [] pos) (p8 mi g mb0):=(ps_for hp hc hi hg hb hs).of fun D σ H ⟨μ,h,σw,Dw,R,S,m,k⟩=>by
 refine ⟨μ,h,σw,_,R,S,m,fun J H1 ⟨μ1,src,h1,e1,R1,ok,m1⟩=>?_⟩
 refine ⟨fun i n σ' H'=>n=src.ws.length - i∧i≤src.ws.length∧DN X.K H1 μ1 (dD src g mb0 Dw (src.ws.drop i)) σ' H',⟨src.ws.length,by simp,Nat.zero_le _,μ1,σw,h1,.refl,R1,S.ext e1,by rw [List.drop_zero];exact m1⟩,?_⟩
 rintro i n σ2 H2 ⟨hn,hle,μ2,σw2,h2,e2,R2,S2,m2⟩
 by_cases hlt:i<src.ws.length
 ·rw [List.drop_eq_getElem_cons hlt] at m2
  obtain ⟨ck,m2⟩:=Src.go_ok m2
  obtain ⟨hgo,hy⟩:=(ok e2 R2 ck).1 src.ws[i] (List.getElem?_eq_getElem hlt)
  refine .inr ⟨hgo,fun σ' H'=>DN X.K H2 μ2 (dD src g mb0 Dw (src.ws.drop (i+1))) σ' H',fun σ' H' z=>⟨src.ws.length - (i+1),by omega,rfl,hlt,z.trans e2⟩,fun x H3 y=>?_⟩
  obtain ⟨μ3,e3,R3,rx⟩:=hy x H3 y
  refine ⟨μ3,h2,σw2,src.ws[i],_,R3,S2.ext e3,rx,m2,fun σ4 H4 ⟨μ4,σw4,h4,e4,R4,S4,m4⟩=>?_⟩
  have e24:=e3.trans e4
  have e14:=(e1.trans e2).trans e24
  exact ⟨μ4,h4,σw4,_,R4,S4,m4,fun σ' H' z=>z.trans e24,fun v H' z=>k.rt _ _ (z.trans e14),fun σ' H' z=>k.nx _ _ (z.trans e14),fun σ' H' z=>z.trans e24⟩
 ·have ei:i=src.ws.length:=by omega
  subst ei
  rw [List.drop_length] at m2
  obtain ⟨ck,m2⟩:=Src.go_ok m2
  exact .inl ⟨(ok e2 R2 ck).2 (Nat.le_refl _),k.nx _ _ ⟨μ2,σw2,h2,e1.trans e2,R2,S2,m2⟩⟩
def rC (ix:List Nat)(σ : Sw):Sw:=ix.map fun i=>(σ[i]?).getD none
theorem Slots.blk {K:PySem.W.Frag}{H:Hp}{μ : Mu}{σw:Sw}{σ : St}{ix:List Nat}(S:Slots K H μ σw σ):∀ {ws:List W} {vs:List V},aN K H μ ws vs→Slots K H μ (ws.map some++rC ix σw) (vs.map some++blkσ ix σ):=by
 intro ws vs r
 have hl:=r.len
 refine ⟨by simp [rC,blkσ,hl],fun i u q=>?_⟩
 by_cases hi:i<ws.length
 ·rw [List.getElem?_append_left (by simpa using hi),List.getElem?_map] at q
  have q':ws[i]?=some u:=by
   cases e:ws[i]? with
   | none=>rw [e] at q;cases q
   | some a=>rw [e] at q;simpa using q
  obtain ⟨v,hv,rv⟩:=r.get q'
  refine ⟨v,?_,rv⟩
  rw [List.getElem?_append_left (by rw [List.length_map];omega),List.getElem?_map,hv]
  rfl
 ·rw [List.getElem?_append_right (by simpa using hi),List.length_map] at q
  rw [List.getElem?_append_right (by rw [List.length_map];omega),List.length_map,←hl]
  generalize i - ws.length=i at q ⊢
  unfold rC at q
  unfold blkσ
  rw [List.getElem?_map] at q ⊢
  cases e:ix[i]? with
  | none=>rw [e] at q;cases q
  | some j=>
   rw [e] at q
   cases e2:σw[j]? with
   | none=>simp [e2] at q
   | some o=>
    have eo:o=some u:=by simpa [e2] using q
    subst eo
    obtain ⟨v',h1,h2⟩:=S.get j u e2
    exact ⟨v',by simp [h1],h2⟩
def fX:MT:=fun _ h Q=>Q true h
def nC (s:Src)(own:W→Option (List W))(ix:List Nat)(tt:MT)(te:ME)(σ : Sw)(Q:WK):List W→List W→Gh→Prop
 | [],acc,h=>s.go h (Q (.lst acc) h)
 | w::r,acc,h=>s.go h (match own w with
  | some vs=>tt (vs.map some++rC ix σ) h fun c h1=>by2 c (te (vs.map some++rC ix σ) h1 fun v h2=>nC s own ix tt te σ Q r (acc++[v]) h2) (nC s own ix tt te σ Q r acc h1)
  | none=>False)
def mLC (own:W→Option (List W))(ix:List Nat)(mi:MI)(tt:MT)(te:ME):ME:=fun σ h Q=>mi σ h fun s h1=>iU s.ws.length (nC s own ix tt te σ Q s.ws [] h1)
def zN (K:PySem.W.Frag)(n:Nat)(own:V→Hp→List V→Prop)(ow:W→Option (List W)):Prop:=∀ {H:Hp} {μ : Mu} {w:W} {v:V} {ws:List W},Rep K H μ w v→ow w=some ws→∃ vs,own v H vs∧vs.length=n∧aN K H μ ws vs
def ow1 (w:W):Option (List W):=some [w]
def owT (n:Nat)(w:W):Option (List W):=match w with
 | .tup ws=>(match Nat.beq ws.length n with
  | true=>some ws
  | false=>none)
 | _=>none
def ov1:V→Hp→List V→Prop:=fun v _ vs=>vs=[v]
def ovT (K:PySem.W.Frag):V→Hp→List V→Prop:=fun v H vs=>∃ a,v=.ref a∧SqT K H a vs
theorem d7 {K:PySem.W.Frag}:zN K 1 ov1 ow1:=by
 intro H μ w v ws r e
 cases (show some [w]=some ws from e)
 exact ⟨[v],rfl,rfl,.one r⟩
theorem own_T {K:PySem.W.Frag}{n:Nat}:zN K n (ovT K) (owT n):=by
 intro H μ w v ws r e
 cases w with
 | tup us=>
  unfold owT at e
  dsimp only at e
  cases en:Nat.beq us.length n with
  | false=>rw [en] at e;cases e
  | true=>
   rw [en] at e
   cases (show some us=some ws from e)
   rw [Rep] at r
   obtain ⟨p,xs,ev,hs,rs⟩:=r
   exact ⟨xs,⟨p,ev,hs⟩,by rw [←rs.len];exact Nat.eq_of_beq_eq_true en,rs⟩
 | _=>cases e
abbrev DIfs (X:Cx)(ifs:List Expr)(m:MT):Prop:=PIfs X ifs (tDT X.K m)
theorem bF:DIfs X [] fX:=fun pins s σ H Q I ⟨μ,h,σw,Qw,R,S,m,k⟩=>pif_nil pins s σ H Q I (k _ _ ⟨μ,h,.refl,R,m⟩)
theorem uI (h:DT X c t):DIfs X [c] t:=pif_one h
theorem lc_of {K:PySem.W.Frag}{σ : St}{H:Hp}{Q:VK}{n:Nat}{own:V→Hp→List V→Prop}{ow:W→Option (List W)}{ix:List Nat}{mi:MI}{tt:MT}{te:ME}(oo:zN K n own ow)(q:tD K (mLC ow ix mi tt te) σ H Q):tLC n own ix (tDI K mi) (tDT K tt) (tD K te) σ H Q:=by
 obtain ⟨μ,h,σw,Qw,R,S,m,k⟩:=q
 refine ⟨μ,h,σw,_,R,S,m,fun J H1 ⟨μ1,src,h1,e1,R1,ok,hz0⟩=>?_⟩
 obtain ⟨hz,m1⟩:=hz0.ok
 intro D hD
 have nD:=R1.nohid hD
 have hD1:Ext K H1 μ1 (upd H1 D (.lst [])) (μ1.hide D):=Ext.hide hD
 refine ⟨fun i n ys H'=>n=src.ws.length - i∧i≤src.ws.length∧ys.length≤i∧H' D=some (.lst ys)∧∃ μ' acc h',Ext K H1 μ1 H' μ'∧Rel K μ' H' h'∧μ'.hid D∧aN K H' μ' acc ys∧nC src ow ix tt te σw Qw (src.ws.drop i) acc h',
  ⟨src.ws.length,by simp,Nat.zero_le _,Nat.le_refl _,bw,μ1.hide D,[],h1,hD1,R1.hide hD,.inl rfl,.nil,by rw [List.drop_zero];exact m1⟩,?_⟩
 rintro i n' ys H2 ⟨hn,hle,hys,hH2,μ2,acc,h2,e2,R2,hid2,ra,m2⟩ _
 by_cases hlt:i<src.ws.length
 ·rw [List.drop_eq_getElem_cons hlt] at m2
  obtain ⟨ck,m2⟩:=Src.go_ok m2
  obtain ⟨hgo,hy⟩:=(ok e2 R2 ck).1 src.ws[i] (List.getElem?_eq_getElem hlt)
  refine .inr ⟨hgo,by omega,fun x H3 y=>?_⟩
  obtain ⟨μ3,e3,R3,rx⟩:=hy x H3 y
  have e13:=e2.trans e3
  cases eo:ow src.ws[i] with
  | none=>rw [eo] at m2;exact m2.elim
  | some us=>
   rw [eo] at m2
   obtain ⟨vs,hov,hvl,rvs⟩:=oo rx eo
   have S3:=(S.ext (e1.trans e13)).blk (ix:=ix) rvs
   refine ⟨vs,hov,hvl,μ3,h2,_,_,R3,S3,m2,fun b H4 ⟨μ4,h4,e4,R4,m4⟩=>?_⟩
   have e24:=e3.trans e4
   obtain ⟨hid4,hH4⟩:=e24.o D _ hid2 hH2
   cases b with
   | false=>
    dsimp only
    rw [if_neg Bool.false_ne_true]
    exact ⟨hH4,src.ws.length - (i+1),by omega,rfl,hlt,by omega,hH4,μ4,acc,h4,e2.trans e24,R4,hid4,e24.s ra,m4⟩
   | true=>
    dsimp only
    rw [if_pos rfl]
    refine ⟨μ4,h4,_,_,R4,S3.ext e4,m4,fun v H5 ⟨μ5,w5,h5,e5,R5,r5,m5⟩=>?_⟩
    have e25:=e24.trans e5
    obtain ⟨hid5,hH5⟩:=e25.o D _ hid2 hH2
    have g:=ExtX.grow (ys:=ys++[v]) R5 hid5
    have rs:aN K (upd H5 D (.lst (ys++[v]))) μ5 (acc++[w5]) (ys++[v]):=aN.ex (Ex0.grow R5 hid5) (aN.append (e25.s ra) (aN.one r5))
    exact ⟨hH5,src.ws.length - (i+1),by omega,rfl,hlt,by rw [List.length_append];simp;omega,bw,μ5,acc++[w5],h5,(e2.trans e25).x nD g,R5.grow hid5,hid5,rs,m5⟩
 ·have ei:i=src.ws.length:=by omega
  subst ei
  rw [List.drop_length] at m2
  obtain ⟨ck,m2⟩:=Src.go_ok m2
  exact .inl ⟨(ok e2 R2 ck).2 (Nat.le_refl _),k _ _ ⟨μ2.unhide D,.lst acc,h2,e1.trans (e2.x nD .unhide),R2.unhide,Rep.built R2 hid2 hH2 ra,m2⟩⟩
variable {scope:Scope}{x:Str}{xs:List Str}{ix:List Nat}{elt iter:Expr}{ifs:List Expr}{px:Pos}{mi:MI}{tt:MT}{te:ME}
theorem dZ (B:jN X scope [x] ix)(C:Addr)(s:Shared)(H:Hp)(fp:List Addr):PG (blk X scope (iM X [x] ix) C s H fp) (.Name x px) (gOwn 1 ov1):=by
 obtain ⟨o1,o2⟩:=own_ok B (y:=x) (by simp)
 intro pins s' σ H' v u Q I r ⟨vs,hv,hl,q⟩
 cases hv
 refine bU (X:=blk X scope (iM X [x] ix) C s H fp) (i:=0) B.nd rfl o1 o2 pins s' σ H' v u Q I r ?_
 have hlen:σ.length=(iM X [x] ix).length:=I.len
 cases σ with
 | nil=>simp at hlen
 | cons o σ=>exact q
theorem pgo_2 {y:Str}{py pt:Pos}{kt:Nat}(hc:X.calm=true)(B:jN X scope [x,y] ix)(C:Addr)(s:Shared)(H:Hp)(fp:List Addr)
  (h1:∀ env,(assignEach [.Name x px,.Name y py] env).map (·.2)=assign (.Name x px) env::(assignEach [.Name y py] env).map (·.2):=by intro _;rfl)
  (h2:∀ env,(assignEach [.Name y py] env).map (·.2)=assign (.Name y py) env::(assignEach [] env).map (·.2):=by intro _;rfl)
  (h3:∀ env,(assignEach [.Name x px,.Name y py] env).length=2:=by intro _;rfl) (h4:∀ env,(assignEach [.Name x px,.Name y py] env).findIdx? (·.1)=none:=by intro _;rfl) :
  PG (blk X scope (iM X [x,y] ix) C s H fp) (.Tuple [.Name x px,.Name y py] kt pt) (gOwn 2 (ovT X.K)):=by
 obtain ⟨o1,u1⟩:=own_ok B (y:=x) (by simp)
 obtain ⟨o2,u2⟩:=own_ok B (y:=y) (by simp)
 intro pins s' σ H' v u Q I r ⟨vs,⟨a,ea,ha⟩,hl,q⟩
 have hlen:σ.length=(iM X [x,y] ix).length:=I.len
 refine pg_tup (X:=blk X scope (iM X [x,y] ix) C s H fp) (n:=2) hc (zV (bU (i:=0) B.nd rfl o1 u1) (zV (bU (i:=1) B.nd rfl o2 u2) pgs_nil (h2 _)) (h1 _)) (h3 _) (h4 _) pins s' σ H' v u Q I r ?_
 refine ⟨a,vs,ea,ha,hl,?_⟩
 match vs,hl,q with
 | [v1,v2],_,q=>
  match σ,hlen,q with
  | [],hlen,_=>simp at hlen
  | [_],hlen,_=>simp at hlen
  | _::_::σ,_,q=>exact ⟨v1,[v2],rfl,v2,[],rfl,rfl,q⟩
theorem uJ {own:V→Hp→List V→Prop}{ow:W→Option (List W)}(ix:List Nat)(hc:X.calm=true)(B:jN X scope xs ix)(oo:zN X.K xs.length own ow)(hg:∀ C s H fp,PG (blk X scope (iM X xs ix) C s H fp) tg (gOwn xs.length own))(hi:DIt X tg iter mi)
  (ht:∀ C s H fp,DIfs (blk X scope (iM X xs ix) C s H fp) ifs tt) (he:∀ C s H fp,DE (blk X scope (iM X xs ix) C s H fp) elt te)
  (hs:∀ v,foldedSetIterable iter X.env v=pure v:=by intro _;rfl):DE X (.ListComp elt [⟨tg,iter,ifs,0⟩] scope pos) (mLC ow ix mi tt te):=(pe_lc ix hc B hg hi ht he hs).of fun _ _ _ q=>lc_of oo q
theorem ds_lc {own:V→Hp→List V→Prop}{ow:W→Option (List W)}(ix:List Nat){i:Nat}{y:Str}{py spos:Pos}(hN:X.N.Nodup)(hi':X.N[i]?=some y)(hy:Loc X.env.scope y)(hc:X.calm=true)(B:jN X scope xs ix)(oo:zN X.K xs.length own ow)
  (hg:∀ C s H fp,PG (blk X scope (iM X xs ix) C s H fp) tg (gOwn xs.length own)) (hi:DIt X tg iter mi)
  (ht:∀ C s H fp,DIfs (blk X scope (iM X xs ix) C s H fp) ifs tt) (he:∀ C s H fp,DE (blk X scope (iM X xs ix) C s H fp) elt te)
  (hsw:swapsWith (.ListComp elt [⟨tg,iter,ifs,0⟩] scope pos) (some (.Name y py)) spos.line X.env=pure true:=by rfl)
  (hf:X.fn y=true∨X.env.scope.names.lookup y=some .local:=by first | exact .inl rfl | exact .inr rfl | assumption)
  (hs:∀ v,foldedSetIterable iter X.env v=pure v:=by intro _;rfl):DS X (.Assign [.Name y py] (.ListComp elt [⟨tg,iter,ifs,0⟩] scope pos) spos) (bR (mLC ow ix mi tt te) (nName i)):=
 (ps_lc ix hN hi' hy hc B hg hi ht he hsw hf hs).of fun _ _ _ q=>set_of (fun _ _ _ z=>lc_of oo z) q
theorem cutF {κ : Type}{K:PySem.W.Frag}{H0 H:Hp}{μ0 μ : Mu}{k:Nat}(hd:∀ n p,μ0.f n=some p→n<k):∀ {fs:List (κ×W)} {f0 fv:List (κ×V)},RepF K H0 μ0 fs f0→RepF K H μ fs fv→RepF K H (μ.cut k) fs fv
 | [],_,_,_,.nil=>.nil
 | _::_,_,_,.cons a b,.cons c d=>.cons ⟨c.1,Rep.cut c.2 (Rep.lo hd a.2)⟩ (cutF hd b d)
def yp (pure:Bool)(h:Gh)(w:W)(h':Gh)(Q:WK):Prop:=match pure with
 | false=>Q w h'
 | true=>(∀ n c,n<h.nx→h.c n=some c→h'.c n=some c)∧((Lo h.nx w∧Q w h)∨∃ n ws,w=.loc n∧h.nx≤n∧h'.c n=some (.lst ws)∧Los h.nx ws∧Q (.lst ws) h)
def mFn (n N:Nat)(pure:Bool)(body:XWK→MS):MSp:=fun ws h Q E=>by2 (Nat.beq ws.length n)
 (body E { nx:=fun _ h'=>yp pure h .non h' Q,rt:=fun w h'=>yp pure h w h' Q } (ws.map some++List.replicate (N - ws.length) none) h) False
theorem mFn_ok {n N:Nat}{pure:Bool}{body:XWK→MS}{ws:List W}{h:Gh}{Q:WK}{E:XWK}(x:mFn n N pure body ws h Q E):ws.length=n ∧
  body E { nx:=fun _ h'=>yp pure h .non h' Q,rt:=fun w h'=>yp pure h w h' Q } (ws.map some++List.replicate (N - ws.length) none) h:=by
 unfold mFn at x
 cases e:Nat.beq ws.length n with
 | true=>rw [e] at x;exact ⟨Nat.eq_of_beq_eq_true e,x⟩
 | false=>rw [e] at x;exact (show False from x).elim
theorem Rel.cut {K:PySem.W.Frag}{H H':Hp}{μ μ':Mu}{h h':Gh}(R:Rel K μ H h)(R':Rel K μ' H' h')(e:Ext K H μ H' μ')(hc:∀ n c,h.c n=some c→h'.c n=some c):Rel K (μ'.cut h.nx) H' h where
 inj:=fun m n p a b=>R'.inj m n p (Mu.cut_some a).2 (Mu.cut_some b).2
 dom:=fun n p a=>(Mu.cut_some a).1
 trk:=fun n p a=>R'.trk n p (Mu.cut_some a).2
 cel:=fun n c a=>by
  obtain ⟨p0,m0,x0⟩:=R.cel n c a
  obtain ⟨p,m,x⟩:=R'.cel n c (hc n c a)
  have hn:=R.dom n p0 m0
  refine ⟨p,by show (if n<h.nx then μ'.f n else none)=some p;rw [if_pos hn];exact m,?_⟩
  cases c with
  | lst ws=>
   obtain ⟨xs0,_,r0⟩:=x0
   obtain ⟨xs,hx,r⟩:=x
   exact ⟨xs,hx,aN.cut r (aN.lo R.dom r0)⟩
  | obj C fs=>
   obtain ⟨dx0,f0,_,r0⟩:=x0
   obtain ⟨dx,fv,hx,r⟩:=x
   exact ⟨dx,fv,hx,cutF R.dom r0 r⟩
  | dct kvs=>
   obtain ⟨f0,_,r0⟩:=x0
   obtain ⟨fv,hx,r⟩:=x
   exact ⟨fv,hx,cutF R.dom r0 r⟩
  | dtt kvs=>
   obtain ⟨_,_,_,_,_,d0,f0⟩:=x0
   obtain ⟨xs,vs,a,b,c,d,f⟩:=x
   exact ⟨xs,vs,a,b,c,aN.cut d (aN.lo R.dom d0),aN.cut f (aN.lo R.dom f0)⟩
 hd:=fun p z=>⟨(R'.hd p z).1,fun n a=>(R'.hd p z).2 n (Mu.cut_some a).2⟩
theorem Ext.cut {K:PySem.W.Frag}{H H':Hp}{μ μ':Mu}{h:Gh}(R:Rel K μ H h)(e:Ext K H μ H' μ'):Ext K H μ H' (μ'.cut h.nx):=
 ⟨fun w v r=>Rep.cut (e.r w v r) (Rep.lo R.dom r),fun p u z a=>e.o p u z a⟩
theorem exit_ok {K:PySem.W.Frag}{H H':Hp}{μ μ':Mu}{h h':Gh}{w:W}{v:V}{Q:WK}{pure:Bool}(R:Rel K μ H h)(e:Ext K H μ H' μ')(R':Rel K μ' H' h')(r:Rep K H' μ' w v)(x:yp pure h w h' Q):DQ K H μ Q v H':=by
 cases pure with
 | false=>exact ⟨μ',w,h',e,R',r,x⟩
 | true=>
  obtain ⟨hc0,⟨lo,q⟩ | ⟨n,ws,ew,hn,ec,lo,q⟩⟩:=x
  all_goals have hc:∀ n c,h.c n=some c→h'.c n=some c:=fun n c a=>hc0 n c (let ⟨p,m,_⟩:=R.cel n c a;R.dom n p m) a
  ·exact ⟨μ'.cut h.nx,w,h,e.cut R,R.cut R' e hc,Rep.cut r lo,q⟩
  ·subst ew
   refine ⟨μ'.cut h.nx,.lst ws,h,e.cut R,R.cut R' e hc,?_,q⟩
   rw [Rep] at r
   rw [Rep]
   obtain ⟨p,ev,hm⟩:=r
   obtain ⟨p',xs,hm',hx,rs⟩:=R'.lstAt ec
   have ep:p'=p:=by rw [hm] at hm';exact (Option.some.inj hm').symm
   subst ep
   refine ⟨p',xs,ev,⟨hx,fun m a=>?_,fun z=>(R'.hd p' z).2 n hm⟩,aN.cut rs lo⟩
   obtain ⟨a1,a2⟩:=Mu.cut_some a
   have:=R'.inj m n p' a2 hm
   omega
theorem zx {K:PySem.W.Frag}{H:Hp}{μ : Mu}{N:List Str}:∀ {ws:List W} {vs:List V},aN K H μ ws vs→Slots K H μ (ws.map some++List.replicate (N.length - ws.length) none) (start N vs):=by
 intro ws vs r
 have hl:=r.len
 refine ⟨by simp [start,hl],fun i w q=>?_⟩
 by_cases hi:i<ws.length
 ·rw [List.getElem?_append_left (by simpa using hi),List.getElem?_map] at q
  have q':ws[i]?=some w:=by
   cases e:ws[i]? with
   | none=>rw [e] at q;cases q
   | some a=>rw [e] at q;simpa using q
  obtain ⟨v,hv,rv⟩:=r.get q'
  refine ⟨v,?_,rv⟩
  unfold start
  rw [List.getElem?_append_left (by rw [List.length_map];omega),List.getElem?_map,hv]
  rfl
 ·rw [List.getElem?_append_right (by simpa using hi),List.getElem?_replicate] at q
  split at q <;> cases q
theorem cX {P:Program}{w:World}{K:PySem.W.Frag}{mg:Str→Option Value}{base:Heap}{x qual:Str}{st:Stmt}{f:Addr}{fd:FuncData}{N ps:List Str}{k:Nat}{pure:Bool}{body:XWK→MS}(F:Fun K x qual st f fd)(S:aJ N ps (aF st))
  (hb:∀ (cdv:Value) (A:Around) (outer:List Env) (s:Shared) (H:Hp) (E:XK),oU k (A.deeper (envOfC qual (aF st) s.heap.objs.size f cdv)) →
   DSs (cxOf CX0 P w K mg base N qual (aF st) f cdv A outer s H E).nox (j8 st) (body EF)):bQ P w K mg base CX0 (k+1) f fd ps (lift K (mFn ps.length N.length pure body)):=by
 refine F.ok S (fun vs H Q E ⟨μ,h,ws,Qw,R,r,m,k⟩=>by rw [←r.len];exact (mFn_ok m).1) (fun cdv A outer s H vs Q E hr ⟨μ,h,ws,Qw,R,r,m0,k⟩=>?_)
 obtain ⟨hl,m⟩:=mFn_ok m0
 refine ⟨_,hb cdv A outer s H E hr,μ,h,_,_,R,zx r,m,?_,?_,?_,?_⟩
 ·rintro σ' H' ⟨μ1,σw1,h1,e1,R1,S1,m1⟩
  exact k _ _ (exit_ok (w:=.non) R e1 R1 (by rw [Rep]) m1)
 ·rintro v H' ⟨μ1,w1,h1,e1,R1,r1,m1⟩
  exact k _ _ (exit_ok R e1 R1 r1 m1)
 ·rintro σ' H' ⟨μ1,σw1,h1,e1,R1,S1,m1⟩
  exact m1.elim
 ·rintro σ' H' ⟨μ1,σw1,h1,e1,R1,S1,m1⟩
  exact m1.elim
end
end L2
namespace L2
open PySem PySem.Spec PyProof.Rows
section
variable {X:Cx}{K:PySem.W.Frag}
theorem DQ.int {H:Hp}{μ : Mu}{h:Gh}{i:Int}{Q:WK}(R:Rel K μ H h)(q:Q (.int i) h):DQ K H μ Q (.int i) H:=⟨μ,.int i,h,.refl,R,by rw [Rep],q⟩
theorem DQ.bl {H:Hp}{μ : Mu}{h:Gh}{i:Bool}{Q:WK}(R:Rel K μ H h)(q:Q (.bl i) h):DQ K H μ Q (.bl i) H:=⟨μ,.bl i,h,.refl,R,by rw [Rep],q⟩
def kI (C:Int→Int→Prop)(g:Int→Int→Int):M2:=fun x y h Q=>match x,y with
 | .int i,.int j=>C i j∧Q (.int (g i j)) h
 | _,_=>False
def xq:M2:=fun x y h Q=>match x,y with
 | .int i,.int j=>Q (.int (i - j)) h
 | _,_=>False
theorem lC:DOp X (binaryOp .Sub) xq:=⟨_,op_sub,by
 intro H μ h x y wx wy Qw Q R rx ry m k
 unfold xq at m
 split at m
 ·rw [Rep] at rx ry
  exact ⟨_,_,rx,ry,k _ _ (.int R m)⟩
 ·exact m.elim⟩
def jc:M2:=fun x y h Q=>match x,y with
 | .int i,.int j=>dR i j∧Q (.int (i*j)) h
 | _,_=>False
theorem dJ:DOp X (binaryOp .Mult) jc:=⟨_,op_mulB,by
 intro H μ h x y wx wy Qw Q R rx ry m k
 unfold jc at m
 split at m
 ·rw [Rep] at rx ry
  exact ⟨_,_,rx,ry,m.1,k _ _ (.int R m.2)⟩
 ·exact m.elim⟩
def wg:M2:=fun x y h Q=>match x,y with
 | .int i,.int j=>CDivBN i j∧Q (.int (i.fdiv j)) h
 | _,_=>False
theorem yW:DOp X (binaryOp .FloorDiv) wg:=⟨_,op_fdivBN,by
 intro H μ h x y wx wy Qw Q R rx ry m k
 unfold wg at m
 split at m
 ·rw [Rep] at rx ry
  exact ⟨_,_,rx,ry,m.1,k _ _ (.int R m.2)⟩
 ·exact m.elim⟩
def rZ:M2:=fun x y h Q=>match x,y with
 | .int i,.int j=>j≠0∧Q (.int (i.fmod j)) h
 | _,_=>False
theorem qC:DOp X (binaryOp .Mod) rZ:=⟨_,op_modN,by
 intro H μ h x y wx wy Qw Q R rx ry m k
 unfold rZ at m
 split at m
 ·rw [Rep] at rx ry
  exact ⟨_,_,rx,ry,m.1,k _ _ (.int R m.2)⟩
 ·exact m.elim⟩
def kPow:M2:=fun x y h Q=>match x,y with
 | .int i,.int j=>CPow i j∧Q (.int (i^j.toNat)) h
 | _,_=>False
theorem o_pow:DOp X (binaryOp .Pow) kPow:=⟨_,op_pow,by
 intro H μ h x y wx wy Qw Q R rx ry m k
 unfold kPow at m
 split at m
 ·rw [Rep] at rx ry
  exact ⟨_,_,rx,ry,m.1,k _ _ (.int R m.2)⟩
 ·exact m.elim⟩
def kLt:M2:=fun x y h Q=>match x,y with
 | .int i,.int j=>Q (.bl (decide (i<j))) h
 | _,_=>False
theorem o_lt:DOp X (compareOp .Lt) kLt:=⟨_,op_lt,by
 intro H μ h x y wx wy Qw Q R rx ry m k
 unfold kLt at m
 split at m
 ·rw [Rep] at rx ry
  exact ⟨_,_,rx,ry,k _ _ (.bl R m)⟩
 ·exact m.elim⟩
def kGt:M2:=fun x y h Q=>match x,y with
 | .int i,.int j=>Q (.bl (decide (j<i))) h
 | _,_=>False
theorem o_gt:DOp X (compareOp .Gt) kGt:=⟨_,op_gt,by
 intro H μ h x y wx wy Qw Q R rx ry m k
 unfold kGt at m
 split at m
 ·rw [Rep] at rx ry
  exact ⟨_,_,rx,ry,k _ _ (.bl R m)⟩
 ·exact m.elim⟩
theorem aN.ne_nil {H:Hp}{μ : Mu}{ws:List W}{xs:List V}(r:aN K H μ ws xs):xs=[]↔ws=[]:=by
 have:=r.len
 constructor
 ·intro e;subst e;exact List.eq_nil_of_length_eq_zero this
 ·intro e;subst e;exact List.eq_nil_of_length_eq_zero this.symm
def kIx:M2:=fun x y h Q=>match y with
 | .int i=>(match view h x with
  | some ws=>(match atI ws i with
   | some w=>Q w h
   | none=>False)
  | none=>False)
 | _=>False
theorem aN.at {H:Hp}{μ : Mu}{ws:List W}{xs:List V}{i:Int}{w:W}(r:aN K H μ ws xs)(e:atI ws i=some w):∃ v,atI xs i=some v∧Rep K H μ w v:=by
 unfold atI at e ⊢
 rw [←r.len]
 cases q:ixN ws.length i with
 | none=>rw [q] at e;cases e
 | some j=>rw [q] at e;exact r.get e
theorem dh {H:Hp}{μ : Mu}{h:Gh}{w:W}{v:V}{ws:List W}(R:Rel K μ H h)(r:Rep K H μ w v)(e:fC h w=some ws):∃ p xs,v=.ref p∧SqL K H p xs∧aN K H μ ws xs:=by
 cases w with
 | lst us=>
  rw [Rep] at r
  obtain ⟨p,xs,ev,hs,rs⟩:=r
  cases (show some us=some ws from e)
  exact ⟨p,xs,ev,hs.sq,rs⟩
 | kls us=>
  rw [Rep] at r
  obtain ⟨p,xs,ev,hs,rs⟩:=r
  cases (show some us=some ws from e)
  exact ⟨p,xs,ev,hs.sq,rs⟩
 | loc n=>
  rw [Rep] at r
  obtain ⟨p,ev,hm⟩:=r
  unfold fC at e
  dsimp only at e
  cases ec:h.c n with
  | none=>rw [ec] at e;cases e
  | some cl=>
   rw [ec] at e
   cases cl with
   | lst us=>
    cases (show some us=some ws from e)
    obtain ⟨p',xs,hm',hx,rs⟩:=R.lstAt ec
    have ep:p'=p:=by rw [hm] at hm';exact (Option.some.inj hm').symm
    subst ep
    exact ⟨p',xs,ev,.of hx,rs⟩
   | _=>cases e
 | _=>cases e
theorem qW {H:Hp}{μ : Mu}{h:Gh}{w:W}{v:V}{ws:List W}(R:Rel K μ H h)(r:Rep K H μ w v)(e:view h w=some ws):∃ p xs,v=.ref p∧(SqL K H p xs∨SqT K H p xs)∧aN K H μ ws xs:=by
 cases w with
 | tup us=>
  rw [Rep] at r
  obtain ⟨p,xs,ev,hs,rs⟩:=r
  cases (show some us=some ws from e)
  exact ⟨p,xs,ev,.inr hs,rs⟩
 | lst us=>
  obtain ⟨p,xs,ev,hs,rs⟩:=dh (ws:=ws) R r e
  exact ⟨p,xs,ev,.inl hs,rs⟩
 | kls us=>
  obtain ⟨p,xs,ev,hs,rs⟩:=dh (ws:=ws) R r e
  exact ⟨p,xs,ev,.inl hs,rs⟩
 | loc n=>
  obtain ⟨p,xs,ev,hs,rs⟩:=dh (ws:=ws) R r e
  exact ⟨p,xs,ev,.inl hs,rs⟩
 | _=>cases e
theorem sim_ix:Sim2 K (rIx K) kIx:=by
 intro H μ h x y wx wy Qw Q R rx ry m k
 unfold kIx at m
 split at m
 ·rename_i i
  split at m
  ·rename_i ws ev
   split at m
   ·rename_i w ew
    obtain ⟨p,xs,ex,hs,rs⟩:=qW R rx ev
    obtain ⟨v,hv,rv⟩:=rs.at ew
    rw [Rep] at ry
    have fin:=k _ _ ⟨μ,w,h,.refl,R,rv,m⟩
    rcases hs with hs | hs
    ·exact .inl ⟨p,xs,i,v,ex,ry,hs,hv,fin⟩
    ·exact .inr (.inl ⟨p,xs,i,v,ex,ry,hs,hv,fin⟩)
   ·exact m.elim
  ·exact m.elim
 ·exact m.elim
theorem bC {a b:Expr}{ma mb:ME}{pos:Pos}(ha:DE X a ma)(hb:DE X b mb)(hs:PlainIx b):DE X (.Subscript a b pos) (mOp kIx ma mb):=(pe_ix ix_seq ha hb hs).of fun σ H Q h=>two h fun R r1 r2 m k=>sim_ix R r1 r2 m k
abbrev MO:=Sw→Gh→(Option Int→Gh→Prop)→Prop
def tDO (K:PySem.W.Frag)(m:MO):TO:=fun σ H Q=>∃ μ h σw Qw,Rel K μ H h∧Slots K H μ σw σ∧m σw h Qw∧∀ o H',(∃ μ' h',Ext K H μ H' μ'∧Rel K μ' H' h'∧Qw o h')→Q o H'
abbrev DO (X:Cx)(e:Option Expr)(m:MO):Prop:=PO X e (tDO X.K m)
theorem PO.of {e:Option Expr}{t t':TO}(h:PO X e t)(k:∀ σ H Q,t' σ H Q→t σ H Q):PO X e t':=by
 unfold PO at h ⊢
 intros
 apply h <;> first | assumption | (apply k;assumption)
def mNoPart:MO:=fun _ h Q=>Q none h
def jZ (m:ME):MO:=fun σ h Q=>m σ h fun w h1=>match w with
 | .int i=>Q (some i) h1
 | _=>False
theorem do_none:DO X none mNoPart:=PO.of po_none fun σ H Q ⟨μ,h,σw,Qw,R,S,m,k⟩=>k _ _ ⟨μ,h,.refl,R,m⟩
theorem g8 {e:Expr}{ma:ME}(he:DE X e ma):DO X (some e) (jZ ma):=PO.of (po_some he) fun σ H Q ⟨μ,h,σw,Qw,R,S,m,k⟩=>by
 refine ⟨μ,h,σw,_,R,S,m,fun v H1 ⟨μ1,w,h1,e1,R1,r1,m1⟩=>?_⟩
 dsimp only at m1
 split at m1
 ·rw [Rep] at r1;exact ⟨_,r1,k _ _ ⟨μ1,h1,e1,R1,m1⟩⟩
 ·exact m1.elim
def cutW (xs:List W)(lo hi:Option Int):List W:=(xs.drop (HT.sIx xs.length 0 lo)).take (HT.sIx xs.length xs.length hi - HT.sIx xs.length 0 lo)
def kSl (x:W)(lo hi:Option Int)(h:Gh)(Q:WK):Prop:=match x with
 | .tup ws=>¬ (HT.sIx ws.length 0 lo=0∧HT.sIx ws.length ws.length hi=ws.length)∧Q (.tup (cutW ws lo hi)) h
 | x=>(match fC h x with
  | some ws=>Q (.lst (cutW ws lo hi)) h
  | none=>False)
def mSl (r:W→Option Int→Option Int→Gh→WK→Prop)(m:ME)(l u:MO):ME:=fun σ h Q=>m σ h fun x h1=>l σ h1 fun lo h2=>u σ h2 fun hi h3=>r x lo hi h3 Q
theorem aN.cutv {H:Hp}{μ : Mu}{ws:List W}{xs:List V}(r:aN K H μ ws xs)(lo hi:Option Int):aN K H μ (cutW ws lo hi) (cutV xs lo hi):=by
 unfold cutW cutV
 rw [←r.len]
 exact (r.drop _).take _
end
end L2
namespace L2
open PySem PySem.Spec PyProof.Rows
mutual
def eqW:W→W→Bool
 | .non,.non=>true
 | .bl a,.bl b=>a==b
 | .bl a,.int b=>(if a then 1 else 0)==b
 | .int a,.bl b=>a==(if b then 1 else 0)
 | .int a,.int b=>a==b
 | .str a,.str b=>a==b
 | .tup a,.tup b=>mY a b
 | .lst a,.lst b=>mY a b
 | _,_=>false
def mY:List W→List W→Bool
 | [],[]=>true
 | a::as,b::bs=>eqW a b&&mY as bs
 | _,_=>false
end
def plW:Nat→W→Bool
 | _,.non=>true
 | _,.bl _=>true
 | _,.int _=>true
 | _,.str _=>true
 | n+1,.tup ws=>ws.all (plW n)
 | n+1,.lst ws=>ws.all (plW n)
 | _,_=>false
mutual
def Dt (K:PySem.W.Frag)(H:Hp):W→V→Prop
 | .non,v=>v=.non
 | .bl b,v=>v=.bl b
 | .int i,v=>v=.int i
 | .str x,v=>v=.str x
 | .tup ws,v=>∃ p xs,v=.ref p∧SqT K H p xs∧Dts K H ws xs
 | .lst ws,v=>∃ p xs,v=.ref p∧SqL K H p xs∧Dts K H ws xs
 | .ty _,_=>False
 | .kls _,_=>False
 | .loc _,_=>False
 | .exc _,_=>False
def Dts (K:PySem.W.Frag)(H:Hp):List W→List V→Prop
 | [],xs=>xs=[]
 | w::ws,xs=>∃ v vs,xs=v::vs∧Dt K H w v∧Dts K H ws vs
end
section
variable {X:Cx}{K:PySem.W.Frag}{H:Hp}{μ : Mu}{h:Gh}
theorem Dts.len:∀ {ws:List W} {xs:List V},Dts K H ws xs→ws.length=xs.length
 | [],xs,h=>by
  have e:xs=[]:=by rw [Dts] at h;exact h
  rw [e];rfl
 | w::ws,xs,h=>by
  rw [Dts] at h
  obtain ⟨v,vs,e,_,h⟩:=h
  rw [e,List.length_cons,List.length_cons,Dts.len h]
theorem Dts.get:∀ {ws:List W} {xs:List V} {i:Nat} {w:W},Dts K H ws xs→ws[i]?=some w→∃ v,xs[i]?=some v∧Dt K H w v
 | [],_,_,_,_,e=>by simp at e
 | a::ws,xs,0,w,h,e=>by
  rw [Dts] at h
  obtain ⟨v,vs,e1,r,_⟩:=h
  simp at e;subst e;subst e1
  exact ⟨v,rfl,r⟩
 | a::ws,xs,i+1,w,h,e=>by
  rw [Dts] at h
  obtain ⟨v,vs,e1,_,h⟩:=h
  subst e1
  obtain ⟨u,h1,h2⟩:=Dts.get (i:=i) (w:=w) h (by simpa using e)
  exact ⟨u,by simpa using h1,h2⟩
theorem xu {n:Nat}(one:∀ {w:W} {v:V},Rep K H μ w v→plW n w=true→Dt K H w v):∀ {ws:List W} {xs:List V},aN K H μ ws xs→ws.all (plW n)=true→Dts K H ws xs
 | [],_,h,_=>by rw [aN] at h;rw [Dts];exact h
 | w::ws,_,h,p=>by
  rw [aN] at h
  rw [Dts]
  obtain ⟨v,vs,e,r,h⟩:=h
  rw [List.all_cons,Bool.and_eq_true] at p
  exact ⟨v,vs,e,one r p.1,xu one h p.2⟩
theorem dt_of:∀ (n:Nat) {w:W} {v:V},Rep K H μ w v→plW n w=true→Dt K H w v:=by
 intro n
 induction n with
 | zero=>
  intro w v r p
  cases w with
  | non=>rw [Rep] at r;rw [Dt];exact r
  | bl _=>rw [Rep] at r;rw [Dt];exact r
  | int _=>rw [Rep] at r;rw [Dt];exact r
  | str _=>rw [Rep] at r;rw [Dt];exact r
  | _=>simp [plW] at p
 | succ n ih=>
  intro w v r p
  cases w with
  | non=>rw [Rep] at r;rw [Dt];exact r
  | bl _=>rw [Rep] at r;rw [Dt];exact r
  | int _=>rw [Rep] at r;rw [Dt];exact r
  | str _=>rw [Rep] at r;rw [Dt];exact r
  | tup ws=>
   rw [Rep] at r;rw [Dt]
   obtain ⟨p',xs,e,hs,rs⟩:=r
   exact ⟨p',xs,e,hs,xu ih rs (by simpa [plW] using p)⟩
  | lst ws=>
   rw [Rep] at r;rw [Dt]
   obtain ⟨p',xs,e,hs,rs⟩:=r
   exact ⟨p',xs,e,hs.sq,xu ih rs (by simpa [plW] using p)⟩
  | _=>simp [plW] at p
theorem lK:∀ {a b:List W},a.length≠b.length→mY a b=false
 | [],[],h=>absurd rfl h
 | [],_::_,_=>by simp [mY]
 | _::_,[],_=>by simp [mY]
 | a::as,b::bs,h=>by
  rw [mY,lK (a:=as) (b:=bs) (by simpa using h),Bool.and_false]
def eqJW (a b:List W)(j:Nat):Bool:=eqW (a.getD j .non) (b.getD j .non)
theorem lW:∀ {a b:List W},a.length=b.length→(List.range a.length).all (eqJW a b)=mY a b
 | [],[],_=>by simp [mY]
 | [],_::_,h=>by simp at h
 | _::_,[],h=>by simp at h
 | a::as,b::bs,h=>by
  rw [mY,←lW (a:=as) (b:=bs) (by simpa using h),List.length_cons,List.range_succ_eq_map,List.all_cons,List.all_map]
  rfl
mutual
theorem vD {pins:List (Addr×Obj)}{s:Shared}{σ : St}(I:Inv X pins σ H s):∀ {w u:W} {v:V},Dt X.K H w v→Dt X.K H u v→eqW w u=true
 | .non,u,v,h,g=>by rw [Dt] at h;subst h;cases u <;> rw [Dt] at g <;> first | rfl | exact g.elim | (obtain ⟨_,_,g,_⟩:=g;cases g;done) | (cases g;done)
 | .bl b,u,v,h,g=>by rw [Dt] at h;subst h;cases u <;> rw [Dt] at g <;> first | (injection g with g;simp [eqW,g];done) | exact g.elim | (obtain ⟨_,_,g,_⟩:=g;cases g;done) | (cases g;done)
 | .int b,u,v,h,g=>by rw [Dt] at h;subst h;cases u <;> rw [Dt] at g <;> first | (injection g with g;simp [eqW,g];done) | exact g.elim | (obtain ⟨_,_,g,_⟩:=g;cases g;done) | (cases g;done)
 | .str b,u,v,h,g=>by rw [Dt] at h;subst h;cases u <;> rw [Dt] at g <;> first | (injection g with g;simp [eqW,g];done) | exact g.elim | (obtain ⟨_,_,g,_⟩:=g;cases g;done) | (cases g;done)
 | .tup ws,u,v,h,g=>by
  rw [Dt] at h
  obtain ⟨p,xs,e,hs,ds⟩:=h
  subst e
  cases u with
  | tup us=>
   rw [Dt] at g
   obtain ⟨p',xs',e',hs',ds'⟩:=g
   cases e'
   have:=I.tuple_inj hs hs'
   subst this
   rw [eqW]
   exact pW I ds ds'
  | lst us=>
   rw [Dt] at g
   obtain ⟨p',xs',e',hs',ds'⟩:=g
   cases e'
   obtain ⟨_,_,t,_⟩:=I.tuple hs
   obtain ⟨_,_,l,_⟩:=I.list hs'
   exact absurd rfl (SeqAt.ne_of_list_tuple l.isList (show s.heap.IsTuple _ _ from t))
  | ty _=>rw [Dt] at g;exact g.elim
  | loc _=>rw [Dt] at g;exact g.elim
  | kls _=>rw [Dt] at g;exact g.elim
  | _=>rw [Dt] at g;cases g
 | .lst ws,u,v,h,g=>by
  rw [Dt] at h
  obtain ⟨p,xs,e,hs,ds⟩:=h
  subst e
  cases u with
  | lst us=>
   rw [Dt] at g
   obtain ⟨p',xs',e',hs',ds'⟩:=g
   cases e'
   have:=I.list_inj hs hs'
   subst this
   rw [eqW]
   exact pW I ds ds'
  | tup us=>
   rw [Dt] at g
   obtain ⟨p',xs',e',hs',ds'⟩:=g
   cases e'
   obtain ⟨_,_,t,_⟩:=I.tuple hs'
   obtain ⟨_,_,l,_⟩:=I.list hs
   exact absurd rfl (SeqAt.ne_of_list_tuple l.isList (show s.heap.IsTuple _ _ from t))
  | ty _=>rw [Dt] at g;exact g.elim
  | loc _=>rw [Dt] at g;exact g.elim
  | kls _=>rw [Dt] at g;exact g.elim
  | _=>rw [Dt] at g;cases g
 | .ty _,_,_,h,_=>by rw [Dt] at h;exact h.elim
 | .loc _,_,_,h,_=>by rw [Dt] at h;exact h.elim
 | .exc _,_,_,h,_=>by rw [Dt] at h;exact h.elim
 | .kls _,_,_,h,_=>by rw [Dt] at h;exact h.elim
theorem pW {pins:List (Addr×Obj)}{s:Shared}{σ : St}(I:Inv X pins σ H s):∀ {ws us:List W} {vs:List V},Dts X.K H ws vs→Dts X.K H us vs→mY ws us=true
 | [],us,vs,h,g=>by
  rw [Dts] at h;subst h
  cases us with
  | nil=>rfl
  | cons _ _=>rw [Dts] at g;obtain ⟨_,_,g,_⟩:=g;cases g
 | w::ws,us,vs,h,g=>by
  rw [Dts] at h
  obtain ⟨v,vs',e,h1,h2⟩:=h
  subst e
  cases us with
  | nil=>rw [Dts] at g;cases g
  | cons u us=>
   rw [Dts] at g
   obtain ⟨v',vs'',e',g1,g2⟩:=g
   cases e'
   rw [mY,vD I h1 g1,pW I h2 g2]
   rfl
end
theorem in1_units {A:Around}:A.in1.units=A.units+1:=rfl
theorem qY {n:Nat}{ws:List W}(h:plW n (.tup ws)=true):∃ m,n=m+1∧ws.all (plW m)=true:=by
 cases n with
 | zero=>simp [plW] at h
 | succ m=>exact ⟨m,rfl,by simpa [plW] using h⟩
theorem qI {n:Nat}{ws:List W}(h:plW n (.lst ws)=true):∃ m,n=m+1∧ws.all (plW m)=true:=by
 cases n with
 | zero=>simp [plW] at h
 | succ m=>exact ⟨m,rfl,by simpa [plW] using h⟩
theorem jC {s:Shared}{A:Around}{n:Nat}{ws us:List W}{xs ys:List V}{its jts:List Value}(d1:Dts K H ws xs)(d2:Dts K H us ys)(p1:ws.all (plW n)=true)(p2:us.all (plW n)=true)(r1:Vals xs its)(r2:Vals ys jts)
  (one:∀ {w u:W} {v x:V} {a b:Value},Dt K H w v→Dt K H u x→plW n w=true→plW n u=true→RelV v a→RelV x b→SeqAt.EqAt A s a b (eqW w u)) :
  ∀ j (h1:j<its.toArray.size) (h2:j<jts.toArray.size),SeqAt.EqAt A s its.toArray[j] jts.toArray[j] (eqJW ws us j):=by
 intro j h1 h2
 have l1:j<ws.length:=by rw [d1.len,r1.length];simpa using h1
 have l2:j<us.length:=by rw [d2.len,r2.length];simpa using h2
 obtain ⟨v,ev,dv⟩:=d1.get (List.getElem?_eq_getElem l1)
 obtain ⟨x,ex,dx⟩:=d2.get (List.getElem?_eq_getElem l2)
 obtain ⟨a,ea,ra⟩:=r1.get ev
 obtain ⟨b,eb,rb⟩:=r2.get ex
 have ea':its.toArray[j]=a:=by simpa using (List.getElem?_eq_some_iff.mp ea).2
 have eb':jts.toArray[j]=b:=by simpa using (List.getElem?_eq_some_iff.mp eb).2
 have e:eqJW ws us j=eqW ws[j] us[j]:=by
  unfold eqJW
  rw [List.getD_eq_getElem?_getD,List.getD_eq_getElem?_getD,List.getElem?_eq_getElem l1,List.getElem?_eq_getElem l2]
  rfl
 rw [ea',eb',e]
 exact one dv dx (List.all_eq_true.mp p1 _ (List.getElem_mem l1)) (List.all_eq_true.mp p2 _ (List.getElem_mem l2)) ra rb
theorem size_of {ws:List W}{xs:List V}{its:List Value}(d:Dts K H ws xs)(r:Vals xs its):its.toArray.size=ws.length:=by
 rw [d.len,r.length];simp
theorem zc {ws us:List W}:((List.range (min ws.length us.length)).all (eqJW ws us)&&ws.length==us.length)=mY ws us:=by
 by_cases e:ws.length=us.length
 ·rw [←e,Nat.min_self,lW e];simp
 ·rw [lK e]
  have e2:(ws.length==us.length)=false:=beq_eq_false_iff_ne.mpr e
  rw [e2,Bool.and_false]
inductive Kd (s:Shared):W→Value→Prop where
 | non:Kd s .non .none
 | bl (b:Bool):Kd s (.bl b) (.bool b)
 | int (i:Int) (t:Tok):Kd s (.int i) (.int i t)
 | str (x:Str) (t:Tok):Kd s (.str x) (.str x t)
 | tup (ws:List W) {p:Addr} {its:Array Value} (q:s.heap.IsTuple p its):Kd s (.tup ws) (.ref p)
 | lst (ws:List W) {p:Addr} {its:Array Value} (q:s.heap.IsList p its):Kd s (.lst ws) (.ref p)
theorem kd_of {pins:List (Addr×Obj)}{s:Shared}{σ : St}(I:Inv X pins σ H s){w:W}{v:V}{a:Value}(d:Dt X.K H w v)(r:RelV v a):Kd s w a:=by
 cases w with
 | non=>rw [Dt] at d;subst d;cases r;exact .non
 | bl b=>rw [Dt] at d;subst d;cases r;exact .bl b
 | int b=>rw [Dt] at d;subst d;obtain ⟨t,rfl⟩:=r;exact .int b t
 | str b=>rw [Dt] at d;subst d;obtain ⟨t,rfl⟩:=r;exact .str b t
 | tup ws=>rw [Dt] at d;obtain ⟨p,xs,e,hs,_⟩:=d;subst e;cases r;obtain ⟨its,_,q,_⟩:=I.tuple hs;exact .tup ws q
 | lst ws=>rw [Dt] at d;obtain ⟨p,xs,e,hs,_⟩:=d;subst e;cases r;obtain ⟨its,_,q,_⟩:=I.list hs;exact .lst ws q.isList
 | _=>rw [Dt] at d;exact d.elim
def twoSq:W→W→Bool
 | .tup _,.tup _=>true
 | .lst _,.lst _=>true
 | _,_=>false
def flt2:W→W→Bool
 | .tup _,_=>false
 | .lst _,_=>false
 | _,.tup _=>false
 | _,.lst _=>false
 | _,_=>true
theorem eq_mix {s:Shared}{A:Around}{w u:W}{a b:Value}(hu:A.units<cLine)(k1:Kd s w a)(k2:Kd s u b)(h:twoSq w u=false)(f:flt2 w u=false):SeqAt.EqAt A s a b (eqW w u):=by
 cases k1 with
 | non=>
  cases k2 with
  | non=>cases f
  | bl _=>cases f
  | int _ _=>cases f
  | str _ _=>cases f
  | tup _ q3=>apply SeqAt.EqAt.none_tuple <;> assumption
  | lst _ q4=>apply SeqAt.EqAt.none_list <;> assumption
 | bl _=>
  cases k2 with
  | non=>cases f
  | bl _=>cases f
  | int _ _=>cases f
  | str _ _=>cases f
  | tup _ q3=>apply SeqAt.EqAt.bool_tuple <;> assumption
  | lst _ q4=>apply SeqAt.EqAt.bool_list <;> assumption
 | int _ _=>
  cases k2 with
  | non=>cases f
  | bl _=>cases f
  | int _ _=>cases f
  | str _ _=>cases f
  | tup _ q3=>apply SeqAt.EqAt.int_tuple <;> assumption
  | lst _ q4=>apply SeqAt.EqAt.int_list <;> assumption
 | str _ _=>
  cases k2 with
  | non=>cases f
  | bl _=>cases f
  | int _ _=>cases f
  | str _ _=>cases f
  | tup _ q3=>apply SeqAt.EqAt.str_tuple <;> assumption
  | lst _ q4=>apply SeqAt.EqAt.str_list <;> assumption
 | tup _ q1=>
  cases k2 with
  | non=>apply SeqAt.EqAt.tuple_none <;> assumption
  | bl _=>apply SeqAt.EqAt.tuple_bool <;> assumption
  | int _ _=>apply SeqAt.EqAt.tuple_int <;> assumption
  | str _ _=>apply SeqAt.EqAt.tuple_str <;> assumption
  | tup _ q3=>cases h
  | lst _ q4=>apply SeqAt.EqAt.tuple_list <;> assumption
 | lst _ q2=>
  cases k2 with
  | non=>apply SeqAt.EqAt.list_none <;> assumption
  | bl _=>apply SeqAt.EqAt.list_bool <;> assumption
  | int _ _=>apply SeqAt.EqAt.list_int <;> assumption
  | str _ _=>apply SeqAt.EqAt.list_str <;> assumption
  | tup _ q3=>apply SeqAt.EqAt.list_tuple <;> assumption
  | lst _ q4=>cases h
theorem rc_mix {s:Shared}{A:Around}{w u:W}{a b:Value}(hu:A.units<cLine)(k1:Kd s w a)(k2:Kd s u b)(h:twoSq w u=false):SeqAt.RcAt A s a b (eqW w u):=by
 cases k1 with
 | non=>
  cases k2 with
  | non=>apply SeqAt.RcAt.none_none <;> assumption
  | bl _=>apply SeqAt.RcAt.none_bool <;> assumption
  | int _ _=>apply SeqAt.RcAt.none_int <;> assumption
  | str _ _=>apply SeqAt.RcAt.none_str <;> assumption
  | tup _ q3=>apply SeqAt.RcAt.none_tuple <;> assumption
  | lst _ q4=>apply SeqAt.RcAt.none_list <;> assumption
 | bl _=>
  cases k2 with
  | non=>apply SeqAt.RcAt.bool_none <;> assumption
  | bl _=>apply SeqAt.RcAt.bool_bool <;> assumption
  | int _ _=>apply SeqAt.RcAt.bool_int <;> assumption
  | str _ _=>apply SeqAt.RcAt.bool_str <;> assumption
  | tup _ q3=>apply SeqAt.RcAt.bool_tuple <;> assumption
  | lst _ q4=>apply SeqAt.RcAt.bool_list <;> assumption
 | int _ _=>
  cases k2 with
  | non=>apply SeqAt.RcAt.int_none <;> assumption
  | bl _=>apply SeqAt.RcAt.int_bool <;> assumption
  | int _ _=>apply SeqAt.RcAt.int_int <;> assumption
  | str _ _=>apply SeqAt.RcAt.int_str <;> assumption
  | tup _ q3=>apply SeqAt.RcAt.int_tuple <;> assumption
  | lst _ q4=>apply SeqAt.RcAt.int_list <;> assumption
 | str _ _=>
  cases k2 with
  | non=>apply SeqAt.RcAt.str_none <;> assumption
  | bl _=>apply SeqAt.RcAt.str_bool <;> assumption
  | int _ _=>apply SeqAt.RcAt.str_int <;> assumption
  | str _ _=>apply SeqAt.RcAt.str_str <;> assumption
  | tup _ q3=>apply SeqAt.RcAt.str_tuple <;> assumption
  | lst _ q4=>apply SeqAt.RcAt.str_list <;> assumption
 | tup _ q1=>
  cases k2 with
  | non=>apply SeqAt.RcAt.tuple_none <;> assumption
  | bl _=>apply SeqAt.RcAt.tuple_bool <;> assumption
  | int _ _=>apply SeqAt.RcAt.tuple_int <;> assumption
  | str _ _=>apply SeqAt.RcAt.tuple_str <;> assumption
  | tup _ q3=>cases h
  | lst _ q4=>apply SeqAt.RcAt.tuple_list <;> assumption
 | lst _ q2=>
  cases k2 with
  | non=>apply SeqAt.RcAt.list_none <;> assumption
  | bl _=>apply SeqAt.RcAt.list_bool <;> assumption
  | int _ _=>apply SeqAt.RcAt.list_int <;> assumption
  | str _ _=>apply SeqAt.RcAt.list_str <;> assumption
  | tup _ q3=>apply SeqAt.RcAt.list_tuple <;> assumption
  | lst _ q4=>cases h
theorem ne_mix {s:Shared}{A:Around}{w u:W}{a b:Value}(hu:A.units<cLine)(k1:Kd s w a)(k2:Kd s u b)(h:twoSq w u=false):SeqAt.RcNeAt A s a b (!eqW w u):=by
 cases k1 with
 | non=>
  cases k2 with
  | non=>apply SeqAt.RcNeAt.none_none <;> assumption
  | bl _=>apply SeqAt.RcNeAt.none_bool <;> assumption
  | int _ _=>apply SeqAt.RcNeAt.none_int <;> assumption
  | str _ _=>apply SeqAt.RcNeAt.none_str <;> assumption
  | tup _ q3=>apply SeqAt.RcNeAt.none_tuple <;> assumption
  | lst _ q4=>apply SeqAt.RcNeAt.none_list <;> assumption
 | bl _=>
  cases k2 with
  | non=>apply SeqAt.RcNeAt.bool_none <;> assumption
  | bl _=>apply SeqAt.RcNeAt.bool_bool <;> assumption
  | int _ _=>apply SeqAt.RcNeAt.bool_int <;> assumption
  | str _ _=>apply SeqAt.RcNeAt.bool_str <;> assumption
  | tup _ q3=>apply SeqAt.RcNeAt.bool_tuple <;> assumption
  | lst _ q4=>apply SeqAt.RcNeAt.bool_list <;> assumption
 | int _ _=>
  cases k2 with
  | non=>apply SeqAt.RcNeAt.int_none <;> assumption
  | bl _=>apply SeqAt.RcNeAt.int_bool <;> assumption
  | int _ _=>apply SeqAt.RcNeAt.int_int <;> assumption
  | str _ _=>apply SeqAt.RcNeAt.int_str <;> assumption
  | tup _ q3=>apply SeqAt.RcNeAt.int_tuple <;> assumption
  | lst _ q4=>apply SeqAt.RcNeAt.int_list <;> assumption
 | str _ _=>
  cases k2 with
  | non=>apply SeqAt.RcNeAt.str_none <;> assumption
  | bl _=>apply SeqAt.RcNeAt.str_bool <;> assumption
  | int _ _=>apply SeqAt.RcNeAt.str_int <;> assumption
  | str _ _=>apply SeqAt.RcNeAt.str_str <;> assumption
  | tup _ q3=>apply SeqAt.RcNeAt.str_tuple <;> assumption
  | lst _ q4=>apply SeqAt.RcNeAt.str_list <;> assumption
 | tup _ q1=>
  cases k2 with
  | non=>apply SeqAt.RcNeAt.tuple_none <;> assumption
  | bl _=>apply SeqAt.RcNeAt.tuple_bool <;> assumption
  | int _ _=>apply SeqAt.RcNeAt.tuple_int <;> assumption
  | str _ _=>apply SeqAt.RcNeAt.tuple_str <;> assumption
  | tup _ q3=>cases h
  | lst _ q4=>apply SeqAt.RcNeAt.tuple_list <;> assumption
 | lst _ q2=>
  cases k2 with
  | non=>apply SeqAt.RcNeAt.list_none <;> assumption
  | bl _=>apply SeqAt.RcNeAt.list_bool <;> assumption
  | int _ _=>apply SeqAt.RcNeAt.list_int <;> assumption
  | str _ _=>apply SeqAt.RcNeAt.list_str <;> assumption
  | tup _ q3=>apply SeqAt.RcNeAt.list_tuple <;> assumption
  | lst _ q4=>cases h
theorem eqAtW {pins:List (Addr×Obj)}{s:Shared}{σ : St}(I:Inv X pins σ H s):∀ (n:Nat) {A:Around} {w u:W} {v x:V} {a b:Value},A.units+n<cLine→Dt X.K H w v→Dt X.K H u x→plW n w=true→plW n u=true→RelV v a→RelV x b→SeqAt.EqAt A s a b (eqW w u):=by
 intro n
 induction n with
 | zero=>
  intro A w u v x a b hu dw du pw pu ra rb
  cases w <;> first | (simp [plW] at pw;done) | skip
  all_goals cases u <;> first | (simp [plW] at pu;done) | (rw [Dt] at dw;rw [Dt] at du;subst dw;subst du;exact eqAt_V ra rb rfl rfl)
 | succ n ih=>
  intro A w u v x a b hu dw du pw pu ra rb
  have hu':A.units<cLine:=by omega
  have hu1:A.in1.units+n<cLine:=by rw [in1_units];omega
  by_cases h2:twoSq w u=true
  ·cases w <;> cases u <;> first | (cases h2;done) | skip
   ·rename_i ws us
    have dw0:=dw;have du0:=du
    rw [Dt] at dw;obtain ⟨p1,xs1,e1,hs1,ds1⟩:=dw;subst e1;cases ra;obtain ⟨its1,rv1,pl1,hz1⟩:=I.tuple hs1;have q1:s.heap.IsTuple p1 its1.toArray:=pl1
    rw [Dt] at du;obtain ⟨p2,xs2,e2,hs2,ds2⟩:=du;subst e2;cases rb;obtain ⟨its2,rv2,pl2,hz2⟩:=I.tuple hs2;have q2:s.heap.IsTuple p2 its2.toArray:=pl2
    have pw:ws.all (plW n)=true:=by simpa [plW] using pw
    have pu:us.all (plW n)=true:=by simpa [plW] using pu
    by_cases hp:p1=p2
    ·subst hp;rw [vD I dw0 du0];exact SeqAt.EqAt.same _
    ·refine SeqAt.EqAt.of_refs hp ?_
     have z:=SeqAt.RcAt.tuples q1 q2 hu' (jC ds1 ds2 pw pu rv1 rv2 (fun a b c d e f=>ih hu1 a b c d e f))
     rw [size_of ds1 rv1,size_of ds2 rv2,zc] at z
     rw [eqW];exact z
   ·rename_i ws us
    have dw0:=dw;have du0:=du
    rw [Dt] at dw;obtain ⟨p1,xs1,e1,hs1,ds1⟩:=dw;subst e1;cases ra;obtain ⟨its1,rv1,pl1,hz1⟩:=I.list hs1;have q1:=pl1.isList
    rw [Dt] at du;obtain ⟨p2,xs2,e2,hs2,ds2⟩:=du;subst e2;cases rb;obtain ⟨its2,rv2,pl2,hz2⟩:=I.list hs2;have q2:=pl2.isList
    have pw:ws.all (plW n)=true:=by simpa [plW] using pw
    have pu:us.all (plW n)=true:=by simpa [plW] using pu
    by_cases hp:p1=p2
    ·subst hp;rw [vD I dw0 du0];exact SeqAt.EqAt.same _
    ·refine SeqAt.EqAt.of_refs hp ?_
     rw [eqW]
     by_cases hl:ws.length=us.length
     ·have z:=SeqAt.RcAt.lists q1 q2 (by rw [size_of ds1 rv1,size_of ds2 rv2,hl]) hu' (jC ds1 ds2 pw pu rv1 rv2 (fun a b c d e f=>ih hu1 a b c d e f))
      rw [size_of ds1 rv1,lW hl] at z
      exact z
     ·rw [lK hl];exact SeqAt.RcAt.lists_lengths q1 q2 (by rw [size_of ds1 rv1,size_of ds2 rv2];simpa using hl) hu'
  ·by_cases hf:flt2 w u=true
   ·cases w <;> cases u <;> first | (cases hf;done) | (simp [plW] at pw;done) | (simp [plW] at pu;done) | (rw [Dt] at dw;rw [Dt] at du;subst dw;subst du;exact eqAt_V ra rb rfl rfl)
   ·exact eq_mix hu' (kd_of I dw ra) (kd_of I du rb) (by simpa using h2) (by simpa using hf)
theorem rcAtW {pins:List (Addr×Obj)}{s:Shared}{σ : St}(I:Inv X pins σ H s)(n:Nat){A:Around}{w u:W}{v x:V}{a b:Value}(hu:A.units+n<cLine)(dw:Dt X.K H w v)(du:Dt X.K H u x)(pw:plW n w=true)(pu:plW n u=true)(ra:RelV v a)(rb:RelV x b):SeqAt.RcAt A s a b (eqW w u):=by
 have hu':A.units<cLine:=by omega
 by_cases h2:twoSq w u=true
 ·cases w <;> cases u <;> first | (cases h2;done) | skip
  ·obtain ⟨m,hm,pw⟩:=qY pw
   subst hm
   obtain ⟨m',hm',pu⟩:=qY pu
   cases hm'
   have hu1:A.in1.units+m<cLine:=by rw [in1_units];omega
   rw [Dt] at dw;obtain ⟨p1,xs1,e1,hs1,ds1⟩:=dw;subst e1;cases ra;obtain ⟨its1,rv1,pl1,hz1⟩:=I.tuple hs1;have q1:s.heap.IsTuple p1 its1.toArray:=pl1
   rw [Dt] at du;obtain ⟨p2,xs2,e2,hs2,ds2⟩:=du;subst e2;cases rb;obtain ⟨its2,rv2,pl2,hz2⟩:=I.tuple hs2;have q2:s.heap.IsTuple p2 its2.toArray:=pl2
   rw [eqW]
   have z:=SeqAt.RcAt.tuples q1 q2 hu' (jC ds1 ds2 pw pu rv1 rv2 (fun a b c d e f=>eqAtW I m hu1 a b c d e f))
   rw [size_of ds1 rv1,size_of ds2 rv2,zc] at z
   exact z
  ·rename_i ws us
   obtain ⟨m,hm,pw⟩:=qI pw
   subst hm
   obtain ⟨m',hm',pu⟩:=qI pu
   cases hm'
   have hu1:A.in1.units+m<cLine:=by rw [in1_units];omega
   rw [Dt] at dw;obtain ⟨p1,xs1,e1,hs1,ds1⟩:=dw;subst e1;cases ra;obtain ⟨its1,rv1,pl1,hz1⟩:=I.list hs1;have q1:=pl1.isList
   rw [Dt] at du;obtain ⟨p2,xs2,e2,hs2,ds2⟩:=du;subst e2;cases rb;obtain ⟨its2,rv2,pl2,hz2⟩:=I.list hs2;have q2:=pl2.isList
   rw [eqW]
   by_cases hl:ws.length=us.length
   ·have z:=SeqAt.RcAt.lists q1 q2 (by rw [size_of ds1 rv1,size_of ds2 rv2,hl]) hu' (jC ds1 ds2 pw pu rv1 rv2 (fun a b c d e f=>eqAtW I m hu1 a b c d e f))
    rw [size_of ds1 rv1,lW hl] at z
    exact z
   ·rw [lK hl];exact SeqAt.RcAt.lists_lengths q1 q2 (by rw [size_of ds1 rv1,size_of ds2 rv2];simpa using hl) hu'
 ·exact rc_mix hu' (kd_of I dw ra) (kd_of I du rb) (by simpa using h2)
theorem rcNeAtW {pins:List (Addr×Obj)}{s:Shared}{σ : St}(I:Inv X pins σ H s)(n:Nat){A:Around}{w u:W}{v x:V}{a b:Value}(hu:A.units+n<cLine)(dw:Dt X.K H w v)(du:Dt X.K H u x)(pw:plW n w=true)(pu:plW n u=true)(ra:RelV v a)(rb:RelV x b):SeqAt.RcNeAt A s a b (!eqW w u):=by
 have hu':A.units<cLine:=by omega
 by_cases h2:twoSq w u=true
 ·cases w <;> cases u <;> first | (cases h2;done) | skip
  ·obtain ⟨m,hm,pw⟩:=qY pw
   subst hm
   obtain ⟨m',hm',pu⟩:=qY pu
   cases hm'
   have hu1:A.in1.units+m<cLine:=by rw [in1_units];omega
   rw [Dt] at dw;obtain ⟨p1,xs1,e1,hs1,ds1⟩:=dw;subst e1;cases ra;obtain ⟨its1,rv1,pl1,hz1⟩:=I.tuple hs1;have q1:s.heap.IsTuple p1 its1.toArray:=pl1
   rw [Dt] at du;obtain ⟨p2,xs2,e2,hs2,ds2⟩:=du;subst e2;cases rb;obtain ⟨its2,rv2,pl2,hz2⟩:=I.tuple hs2;have q2:s.heap.IsTuple p2 its2.toArray:=pl2
   rw [eqW]
   have z:=SeqAt.RcNeAt.tuples q1 q2 hu' (jC ds1 ds2 pw pu rv1 rv2 (fun a b c d e f=>eqAtW I m hu1 a b c d e f))
   rw [size_of ds1 rv1,size_of ds2 rv2,zc] at z
   exact z
  ·rename_i ws us
   obtain ⟨m,hm,pw⟩:=qI pw
   subst hm
   obtain ⟨m',hm',pu⟩:=qI pu
   cases hm'
   have hu1:A.in1.units+m<cLine:=by rw [in1_units];omega
   rw [Dt] at dw;obtain ⟨p1,xs1,e1,hs1,ds1⟩:=dw;subst e1;cases ra;obtain ⟨its1,rv1,pl1,hz1⟩:=I.list hs1;have q1:=pl1.isList
   rw [Dt] at du;obtain ⟨p2,xs2,e2,hs2,ds2⟩:=du;subst e2;cases rb;obtain ⟨its2,rv2,pl2,hz2⟩:=I.list hs2;have q2:=pl2.isList
   rw [eqW]
   by_cases hl:ws.length=us.length
   ·have z:=SeqAt.RcNeAt.lists q1 q2 (by rw [size_of ds1 rv1,size_of ds2 rv2,hl]) hu' (jC ds1 ds2 pw pu rv1 rv2 (fun a b c d e f=>eqAtW I m hu1 a b c d e f))
    rw [size_of ds1 rv1,lW hl] at z
    exact z
   ·rw [lK hl];exact SeqAt.RcNeAt.lists_lengths q1 q2 (by rw [size_of ds1 rv1,size_of ds2 rv2];simpa using hl) hu'
 ·exact ne_mix hu' (kd_of I dw ra) (kd_of I du rb) (by simpa using h2)
def uT (h:Gh):W→Option W
 | .loc n=>(match h.c n with
  | some (.lst ws)=>some (.lst ws)
  | _=>none)
 | w=>some w
theorem nj {w d:W}{v:V}{n:Nat}(R:Rel K μ H h)(r:Rep K H μ w v)(e:uT h w=some d)(p:plW n d=true):Dt K H d v:=by
 have other:uT h w=some w→Dt K H d v:=fun z=>by
  rw [z] at e;cases e;exact dt_of n r p
 cases w with
 | loc m=>
  unfold uT at e
  dsimp only at e
  cases ec:h.c m with
  | none=>rw [ec] at e;cases e
  | some cl=>
   rw [ec] at e
   cases cl with
   | lst us=>
    cases (show some (W.lst us)=some d from e)
    obtain ⟨p',xs,hm',hx,rs⟩:=R.lstAt ec
    rw [Rep] at r
    obtain ⟨q,ev,hm⟩:=r
    have ep:p'=q:=by rw [hm] at hm';exact (Option.some.inj hm').symm
    subst ep
    obtain ⟨k,rfl,p⟩:=qI p
    rw [Dt]
    exact ⟨p',xs,ev,.of hx,xu (dt_of k) rs p⟩
   | _=>cases e
 | _=>exact other rfl
def rEqD (K:PySem.W.Frag)(neg:Bool):R2:=fun x y H Q=>∃ w u,Dt K H w x∧Dt K H u y∧plW 30 w=true∧plW 30 u=true∧Q (.bl (if neg then !eqW w u else eqW w u)) H
theorem op_eqD (hu:X.A.units+30<cLine):OpR X (compareOp .Eq) (rEqD X.K false):=by
 intro pins s σ H x y v u Q I rx ry ⟨w,w',d1,d2,p1,p2,q⟩
 exact rcAtW I 30 hu d1 d2 p1 p2 rx ry X.prog X.w X.xe _ (fin_bl I q rfl)
theorem op_neD (hu:X.A.units+30<cLine):OpR X (compareOp .NotEq) (rEqD X.K true):=by
 intro pins s σ H x y v u Q I rx ry ⟨w,w',d1,d2,p1,p2,q⟩
 exact rcNeAtW I 30 hu d1 d2 p1 p2 rx ry X.prog X.w X.xe _ (fin_bl I q rfl)
def kEq:M2:=fun x y h Q=>match uT h x,uT h y with
 | some a,some b=>by2 (plW 30 a&&plW 30 b) (Q (.bl (eqW a b)) h) False
 | _,_=>False
def kNe:M2:=fun x y h Q=>match uT h x,uT h y with
 | some a,some b=>by2 (plW 30 a&&plW 30 b) (Q (.bl (!eqW a b)) h) False
 | _,_=>False
theorem wj (hu:X.A.units+30<cLine):DOp X (compareOp .Eq) kEq:=⟨_,op_eqD hu,by
 intro H μ h x y wx wy Qw Q R rx ry m k
 unfold kEq at m
 split at m
 ·rename_i a b ea eb
  cases hp:(plW 30 a&&plW 30 b) with
  | true=>
   rw [hp] at m
   rw [Bool.and_eq_true] at hp
   exact ⟨a,b,nj R rx ea hp.1,nj R ry eb hp.2,hp.1,hp.2,k _ _ (.bl R m)⟩
  | false=>rw [hp] at m;exact (show False from m).elim
 ·exact m.elim⟩
theorem o_ne (hu:X.A.units+30<cLine):DOp X (compareOp .NotEq) kNe:=⟨_,op_neD hu,by
 intro H μ h x y wx wy Qw Q R rx ry m k
 unfold kNe at m
 split at m
 ·rename_i a b ea eb
  cases hp:(plW 30 a&&plW 30 b) with
  | true=>
   rw [hp] at m
   rw [Bool.and_eq_true] at hp
   exact ⟨a,b,nj R rx ea hp.1,nj R ry eb hp.2,hp.1,hp.2,k _ _ (.bl R m)⟩
  | false=>rw [hp] at m;exact (show False from m).elim
 ·exact m.elim⟩
theorem iI {A:Around}{k:Nat}(hr:oU k A):A.units+30<cLine:=by have:=hr.units;omega
end
end L2
namespace L2
open PySem PySem.Spec PyProof.Rows
section
variable {X:Cx}{K:PySem.W.Frag}
theorem mR {H:Hp}{μ : Mu}{w:W}{vs:List V}(r:aN K H μ [w] vs):∃ v,vs=[v]∧Rep K H μ w v:=by
 rw [aN] at r
 obtain ⟨v,vr,ev,ra,r⟩:=r
 rw [aN] at r
 subst r
 exact ⟨v,ev,ra⟩
theorem reps2 {H:Hp}{μ : Mu}{w u:W}{vs:List V}(r:aN K H μ [w,u] vs):∃ v x,vs=[v,x]∧Rep K H μ w v∧Rep K H μ u x:=by
 rw [aN] at r
 obtain ⟨v,vr,ev,ra,r⟩:=r
 obtain ⟨x,e,rb⟩:=mR r
 subst e
 exact ⟨v,x,ev,ra,rb⟩
theorem dR.of {i j:Int}{m n:Nat}(hi:Sm m i)(hj:Sm n j)(hm:m≤1000000)(hn:n≤1000000):dR i j:=⟨m,n,hm,hn,hi,hj⟩
theorem Sm.lit {i:Int}(h:Nat.ble (i.natAbs+1) (2^64)=true):Sm 64 i:=by
 have:=Nat.le_of_ble_eq_true h
 unfold Sm
 omega
def kLen:MC:=fun ws h Q=>match ws with
 | [w]=>(match view h w with
  | some xs=>Q (.int (xs.length:Int)) h
  | none=>False)
 | _=>False
theorem lM:lg X (.builtin "len") kLen:=⟨_,yt,by
 intro H μ h vs ws Qw Q R r m k
 unfold kLen at m
 split at m
 ·split at m
  ·rename_i w _ xs ev
   obtain ⟨v,e,rv⟩:=mR r
   obtain ⟨p,ys,ex,hs,rs⟩:=qW R rv ev
   subst e ex
   exact ⟨p,ys,rfl,hs,by rw [←rs.len];exact k _ _ (.int R m)⟩
  ·exact m.elim
 ·exact m.elim⟩
def kAbs:MC:=fun ws h Q=>match ws with
 | [.int i]=>Q (.int (if i<0 then -i else i)) h
 | _=>False
theorem c_abs:lg X (.builtin "abs") kAbs:=⟨_,call_abs,by
 intro H μ h vs ws Qw Q R r m k
 unfold kAbs at m
 split at m
 ·obtain ⟨v,e,rv⟩:=mR r
  rw [Rep] at rv
  subst e rv
  exact ⟨_,rfl,k _ _ (.int R m)⟩
 ·exact m.elim⟩
def kMax:MC:=fun ws h Q=>match ws with
 | [.int i,.int j]=>Q (.int (if j>i then j else i)) h
 | _=>False
theorem c_max (hc:X.calm=true):lg X (.builtin "max") kMax:=⟨_,call_max2 hc,by
 intro H μ h vs ws Qw Q R r m k
 unfold kMax at m
 split at m
 ·obtain ⟨v,x,e,rv,rx⟩:=reps2 r
  rw [Rep] at rv rx
  subst e rv rx
  exact ⟨_,_,rfl,k _ _ (.int R m)⟩
 ·exact m.elim⟩
def kMin:MC:=fun ws h Q=>match ws with
 | [.int i,.int j]=>Q (.int (if j<i then j else i)) h
 | _=>False
theorem c_min (hc:X.calm=true):lg X (.builtin "min") kMin:=⟨_,call_min2 hc,by
 intro H μ h vs ws Qw Q R r m k
 unfold kMin at m
 split at m
 ·obtain ⟨v,x,e,rv,rx⟩:=reps2 r
  rw [Rep] at rv rx
  subst e rv rx
  exact ⟨_,_,rfl,k _ _ (.int R m)⟩
 ·exact m.elim⟩
def blsW:List W→Option (List Bool)
 | []=>some []
 | .bl b::ws=>(blsW ws).map (b::·)
 | _=>none
theorem zG {H:Hp}{μ : Mu}:∀ {ws:List W} {xs:List V} {bs:List Bool},aN K H μ ws xs→blsW ws=some bs→xs=bs.map V.bl
 | [],xs,bs,r,e=>by
  rw [aN] at r
  cases (show some []=some bs from e)
  exact r
 | w::ws,xs,bs,r,e=>by
  rw [aN] at r
  obtain ⟨v,vr,ev,ra,r⟩:=r
  cases w with
  | bl b=>
   rw [Rep] at ra
   rw [blsW] at e
   cases q:blsW ws with
   | none=>rw [q] at e;cases e
   | some cs=>
    rw [q] at e
    cases (show some (b::cs)=some bs from e)
    rw [ev,ra,zG r q]
    rfl
  | _=>cases e
def kAll:MC:=fun ws h Q=>match ws with
 | [w]=>(match fC h w with
  | some us=>(match blsW us with
   | some bs=>Q (.bl (bs.all id)) h
   | none=>False)
  | none=>False)
 | _=>False
theorem c_all (hc:X.calm=true):lg X (.builtin "all") kAll:=⟨_,call_allB hc,by
 intro H μ h vs ws Qw Q R r m k
 unfold kAll at m
 split at m
 ·split at m
  ·split at m
   ·rename_i w _ us ev _ bs eb
    obtain ⟨v,e,rv⟩:=mR r
    obtain ⟨p,ys,ex,hs,rs⟩:=dh R rv ev
    subst e ex
    exact ⟨p,bs,rfl,by rw [←zG rs eb];exact hs,k _ _ (.bl R m)⟩
   ·exact m.elim
  ·exact m.elim
 ·exact m.elim⟩
def isiW (h:Gh)(w:W)(T:String):Option Bool:=match w with
 | .int _=>if T = "int" then some true else if T = "bool"∨T = "tuple"∨T = "list" then some false else none
 | .bl _=>if T = "int"∨T = "bool" then some true else if T = "tuple"∨T = "list" then some false else none
 | .str _=>if T = "int"∨T = "bool"∨T = "tuple"∨T = "list" then some false else none
 | .non=>if T = "int"∨T = "bool"∨T = "tuple"∨T = "list" then some false else none
 | .tup _=>if T = "tuple" then some true else if T = "int"∨T = "bool"∨T = "list" then some false else none
 | w=>(match fC h w with
  | some _=>if T = "list" then some true else if T = "int"∨T = "bool"∨T = "tuple" then some false else none
  | none=>none)
theorem isiW_ok {H:Hp}{μ : Mu}{h:Gh}{w:W}{v:V}{T:String}{b:Bool}(R:Rel K μ H h)(r:Rep K H μ w v)(e:isiW h w T=some b):isiV K H v T b:=by
 unfold isiW at e
 split at e
 ·rw [Rep] at r;subst r
  split at e
  ·rename_i t;subst t;cases e;exact .inl ⟨rfl,rfl⟩
  ·split at e
   ·rename_i t;cases e
    rcases t with t | t | t <;> subst t
    ·exact .inr (.inl ⟨rfl,rfl⟩)
    ·exact .inr (.inr (.inl ⟨rfl,rfl⟩))
    ·exact .inr (.inr (.inr ⟨rfl,rfl⟩))
   ·cases e
 ·rw [Rep] at r;subst r
  split at e
  ·rename_i t;cases e
   rcases t with t | t <;> subst t
   ·exact .inl ⟨rfl,rfl⟩
   ·exact .inr (.inl ⟨rfl,rfl⟩)
  ·split at e
   ·rename_i t;cases e
    rcases t with t | t <;> subst t
    ·exact .inr (.inr (.inl ⟨rfl,rfl⟩))
    ·exact .inr (.inr (.inr ⟨rfl,rfl⟩))
   ·cases e
 ·rw [Rep] at r;subst r
  split at e
  ·rename_i t;cases e
   rcases t with t | t | t | t <;> subst t
   ·exact .inl ⟨rfl,rfl⟩
   ·exact .inr (.inl ⟨rfl,rfl⟩)
   ·exact .inr (.inr (.inl ⟨rfl,rfl⟩))
   ·exact .inr (.inr (.inr ⟨rfl,rfl⟩))
  ·cases e
 ·rw [Rep] at r;subst r
  split at e
  ·rename_i t;cases e
   rcases t with t | t | t | t <;> subst t
   ·exact .inl ⟨rfl,rfl⟩
   ·exact .inr (.inl ⟨rfl,rfl⟩)
   ·exact .inr (.inr (.inl ⟨rfl,rfl⟩))
   ·exact .inr (.inr (.inr ⟨rfl,rfl⟩))
  ·cases e
 ·rw [Rep] at r
  obtain ⟨p,xs,ev,hs,_⟩:=r
  subst ev
  refine .inl ⟨xs,hs,?_⟩
  split at e
  ·rename_i t;subst t;cases e;exact .inr (.inr (.inl ⟨rfl,rfl⟩))
  ·split at e
   ·rename_i t;cases e
    rcases t with t | t | t <;> subst t
    ·exact .inl ⟨rfl,rfl⟩
    ·exact .inr (.inl ⟨rfl,rfl⟩)
    ·exact .inr (.inr (.inr ⟨rfl,rfl⟩))
   ·cases e
 ·split at e
  ·rename_i ws ev
   obtain ⟨p,xs,ex,hs,_⟩:=dh R r ev
   subst ex
   refine .inr ⟨xs,hs,?_⟩
   split at e
   ·rename_i t;subst t;cases e;exact .inr (.inr (.inr ⟨rfl,rfl⟩))
   ·split at e
    ·rename_i t;cases e
     rcases t with t | t | t <;> subst t
     ·exact .inl ⟨rfl,rfl⟩
     ·exact .inr (.inl ⟨rfl,rfl⟩)
     ·exact .inr (.inr (.inl ⟨rfl,rfl⟩))
    ·cases e
  ·cases e
def kIsi:MC:=fun ws h Q=>match ws with
 | [w,.ty T]=>(match isiW h w T with
  | some b=>Q (.bl b) h
  | none=>False)
 | _=>False
theorem xX:lg X (.builtin "isinstance") kIsi:=⟨_,call_isi,by
 intro H μ h vs ws Qw Q R r m k
 unfold kIsi at m
 split at m
 ·split at m
  ·rename_i w T _ b eb
   obtain ⟨v,x,e,rv,rx⟩:=reps2 r
   have hi:=isiW_ok R rv eb
   rw [Rep] at rx
   subst e rx
   exact ⟨v,T,b,rfl,hi,k _ _ (.bl R m)⟩
  ·exact m.elim
 ·exact m.elim⟩
def sW:MC:=fun ws h Q=>match ws with
 | [.tup us]=>Q (.tup us) h
 | [w]=>(match fC h w with
  | some us=>Q (.tup us) h
  | none=>False)
 | _=>False
theorem yO:lg X (.type "tuple") sW:=⟨_,uV,by
 intro H μ h vs ws Qw Q R r m k
 unfold sW at m
 split at m
 ·obtain ⟨v,e,rv⟩:=mR r
  have rv':=rv
  rw [Rep] at rv
  obtain ⟨p,xs,ex,hs,rs⟩:=rv
  subst e ex
  exact ⟨p,xs,rfl,.inr ⟨hs,k _ _ ⟨μ,_,h,.refl,R,rv',m⟩⟩⟩
 ·split at m
  ·rename_i w _ _ us ev
   obtain ⟨v,e,rv⟩:=mR r
   obtain ⟨p,ys,ex,hs,rs⟩:=dh R rv ev
   subst e ex
   exact ⟨p,ys,rfl,.inl ⟨hs,fun l hl=>k _ _ ⟨μ,_,h,(Ex.laid hl).ext,R.laid hl,.tupNew hl rs,m⟩⟩⟩
  ·exact m.elim
 ·exact m.elim⟩
def kList:MC:=fun ws h Q=>match ws with
 | [w]=>(match view h w with
  | some us=>Q (.lst us) h
  | none=>False)
 | _=>False
def kListM:MC:=fun ws h Q=>match ws with
 | [w]=>(match view h w with
  | some us=>Q (.loc h.nx) (h.new (.lst us))
  | none=>False)
 | _=>False
theorem c_list:lg X (.type "list") kList:=⟨_,oG,by
 intro H μ h vs ws Qw Q R r m k
 unfold kList at m
 split at m
 ·split at m
  ·rename_i w _ xs ev
   obtain ⟨v,e,rv⟩:=mR r
   obtain ⟨p,ys,ex,hs,rs⟩:=qW R rv ev
   subst e ex
   exact ⟨p,ys,rfl,hs,fun l hl=>k _ _ ⟨μ,_,h,(Ex.laid hl).ext,R.laid hl,.lstNew R hl rs,m⟩⟩
  ·exact m.elim
 ·exact m.elim⟩
theorem c_listM:lg X (.type "list") kListM:=⟨_,oG,by
 intro H μ h vs ws Qw Q R r m k
 unfold kListM at m
 split at m
 ·split at m
  ·rename_i w _ xs ev
   obtain ⟨v,e,rv⟩:=mR r
   obtain ⟨p,ys,ex,hs,rs⟩:=qW R rv ev
   subst e ex
   exact ⟨p,ys,rfl,hs,fun l hl=>k _ _ ⟨μ.put h.nx l,.loc h.nx,h.new (.lst xs),(Ex.newCell R hl).ext,newLst R hl rs,by rw [Rep];exact ⟨l,rfl,Mu.put_same⟩,m⟩⟩
  ·exact m.elim
 ·exact m.elim⟩
abbrev MM:=W→List W→Gh→WK→Prop
def SimM (K:PySem.W.Frag)(r:V→List V→Hp→VK→Prop)(mr:MM):Prop:=∀ {H:Hp} {μ : Mu} {h:Gh} {x:V} {vs:List V} {wx:W} {ws:List W} {Qw:WK} {Q:VK},Rel K μ H h→Rep K H μ wx x→aN K H μ ws vs→mr wx ws h Qw→(∀ v H',DQ K H μ Qw v H'→Q v H')→r x vs H Q
def rW (h:Gh)(w:W)(P:Prop):Prop:=match w with
 | .loc n=>(match h.c n with
  | some (.lst _)=>P
  | _=>False)
 | _=>False
theorem pA {H:Hp}{μ : Mu}{h:Gh}{w:W}{v:V}{P:Prop}(R:Rel K μ H h)(r:Rep K H μ w v)(e:rW h w P):tyV K "list" v H∧P:=by
 unfold rW at e
 split at e
 ·split at e
  ·rename_i n _ ws ec
   rw [Rep] at r
   obtain ⟨p,ev,hm⟩:=r
   obtain ⟨p',xs,hm',hx,rs⟩:=R.lstAt ec
   have ep:p'=p:=by rw [hm] at hm';exact (Option.some.inj hm').symm
   subst ep ev
   exact ⟨.inl ⟨rfl,xs,.of hx⟩,e⟩
  ·exact e.elim
 ·exact e.elim
def mBMr (r:MM)(mo:ME)(ma:MA):ME:=fun σ h Q=>mo σ h fun x h1=>rW h1 x (ma σ h1 fun xs h2=>r x xs h2 Q)
def mBMr0 (r:MM)(mo:ME):ME:=fun σ h Q=>mo σ h fun x h1=>rW h1 x (r x [] h1 Q)
variable {o e:Expr}{es:List Expr}{mo:ME}{ma:MA}{name:Str}{apos cpos:Pos}{id:String}{r:V→List V→Hp→VK→Prop}{mr:MM}
theorem d_bm (slot:Slot "list" name id)(hty:typeOf (.builtin id)=pure (.type "method_descriptor"))(hm:MtR X id r)(hs:SimM X.K r mr)(ho:DE X o mo)(ha:DAs X (e::es) ma)
  (hbase:attributeBase o name X.env (eval o X.env)=eval o X.env:=by rfl)
  (hfew:((backTo cpos (starEach (e::es) X.env)).all (fun x=>!x.1)&&(backToKw cpos (keywordEach [] X.env)).all (fun x=>x.1.isSome)
   && decide ((e::es).length+([]:List Keyword).length+(if ([]:List Keyword).isEmpty then 0 else 1)<30))=true:=by rfl)
  (hline:(apos.endLine==cpos.line)=true:=by rfl) (hst:starEach (e::es) X.env=(false,eval e X.env)::starEach es X.env:=by rfl) (hplain:(backTo cpos (starEach es X.env)).any (·.1)=false:=by rfl) :
  DE X (.Call (.Attribute o name apos) (e::es) [] cpos) (mBMr mr mo ma):=(pe_bm PySem.F.plainAttrs_list slot hty hm ho ha hbase hfew hline hst hplain).of fun σ H Q ⟨μ,h,σw,Qw,R,S,m,k⟩=>by
 refine ⟨μ,h,σw,_,R,S,m,fun v H1 ⟨μ1,w,h1,e1,R1,r1,il⟩=>⟨(pA R1 r1 il).1,?_⟩⟩
 have m1:=(pA R1 r1 il).2
 exact ⟨μ1,h1,σw,_,R1,S.ext e1,m1,fun vs H2 ⟨μ2,ws,h2,e2,R2,r2,m2⟩=>hs R2 (e2.r _ _ r1) r2 m2 fun v H' z=>k _ _ ((z.trans e2).trans e1)⟩
theorem d_bm0 (slot:Slot "list" name id)(hty:typeOf (.builtin id)=pure (.type "method_descriptor"))(hm:MtR X id r)(hs:SimM X.K r mr)(ho:DE X o mo)
  (hbase:attributeBase o name X.env (eval o X.env)=eval o X.env:=by rfl) (hline:(apos.endLine==cpos.line)=true:=by rfl) :
  DE X (.Call (.Attribute o name apos) [] [] cpos) (mBMr0 mr mo):=(pe_bm0 PySem.F.plainAttrs_list slot hty hm ho hbase hline).of fun σ H Q ⟨μ,h,σw,Qw,R,S,m,k⟩=>by
 refine ⟨μ,h,σw,_,R,S,m,fun v H1 ⟨μ1,w,h1,e1,R1,r1,il⟩=>⟨(pA R1 r1 il).1,?_⟩⟩
 have m1:=(pA R1 r1 il).2
 exact hs R1 r1 .nil m1 fun v H' z=>k _ _ (z.trans e1)
def eV:MM:=fun x ws h Q=>match x,ws with
 | .loc n,[w]=>(match h.c n with
  | some (.lst us)=>us.length<sizeLine∧Q .non (h.set n (.lst (us++[w])))
  | _=>False)
 | _,_=>False
theorem locAt {H:Hp}{μ : Mu}{h:Gh}{n:Nat}{v:V}{us:List W}(R:Rel K μ H h)(r:Rep K H μ (.loc n) v)(ec:h.c n=some (.lst us)):∃ p xs,v=.ref p∧μ.f n=some p∧H p=some (.lst xs)∧aN K H μ us xs:=by
 rw [Rep] at r
 obtain ⟨p,ev,hm⟩:=r
 obtain ⟨p',xs,hm',hx,rs⟩:=R.lstAt ec
 have ep:p'=p:=by rw [hm] at hm';exact (Option.some.inj hm').symm
 subst ep
 exact ⟨p',xs,ev,hm,hx,rs⟩
theorem DQ.wrote {H:Hp}{μ : Mu}{h:Gh}{n:Nat}{p:Addr}{us:List W}{xs:List V}{Q:WK}{w:W}{v:V}(R:Rel K μ H h)(hm:μ.f n=some p)(rs:aN K H μ us xs)(rw':Rep K H μ w v)(q:Q w (h.set n (.lst us))):DQ K H μ Q v (upd H p (.lst xs)):=
 ⟨μ,w,h.set n (.lst us),(Ex.write R hm).ext,R.write hm trivial ⟨xs,bw,(Ex.write R hm).ext.s rs⟩,(Ex.write R hm).ext.r _ _ rw',q⟩
theorem s_append:SimM K rAppend eV:=by
 intro H μ h x vs wx ws Qw Q R rx rs m k
 unfold eV at m
 split at m
 ·split at m
  ·rename_i n w _ us ec
   obtain ⟨p,xs,ex,hm,hx,r1⟩:=locAt R rx ec
   obtain ⟨v,ev,rv⟩:=mR rs
   exact ⟨p,xs,v,ex,ev,hx,by rw [←r1.len];exact m.1,k _ _ (.wrote R hm (r1.append (.one rv)) (by rw [Rep]) m.2)⟩
  ·exact m.elim
 ·exact m.elim
def kPop:MM:=fun x ws h Q=>match x,ws with
 | .loc n,[]=>(match h.c n with
  | some (.lst us)=>(match us[us.length - 1]? with
   | some w=>Q w (h.set n (.lst us.dropLast))
   | none=>False)
  | _=>False)
 | _,_=>False
theorem aN.dropLast {H:Hp}{μ : Mu}{ws:List W}{xs:List V}(r:aN K H μ ws xs):aN K H μ ws.dropLast xs.dropLast:=by
 rw [List.dropLast_eq_take,List.dropLast_eq_take,←r.len]
 exact r.take _
theorem s_pop:SimM K rPop kPop:=by
 intro H μ h x vs wx ws Qw Q R rx rs m k
 unfold kPop at m
 split at m
 ·split at m
  ·split at m
   ·rename_i n _ us ec _ w ew
    obtain ⟨p,xs,ex,hm,hx,r1⟩:=locAt R rx ec
    rw [aN] at rs
    obtain ⟨v,ev,rv⟩:=r1.get ew
    exact ⟨p,xs,v,ex,rs,hx,by rw [←r1.len];exact ev,k _ _ (.wrote R hm r1.dropLast rv m)⟩
   ·exact m.elim
  ·exact m.elim
 ·exact m.elim
theorem lF (ho:DE X o mo)(ha:DAs X [e] ma)
  (hbase:attributeBase o "append" X.env (eval o X.env)=eval o X.env:=by rfl)
  (hfew:((backTo cpos (starEach [e] X.env)).all (fun x=>!x.1)&&(backToKw cpos (keywordEach [] X.env)).all (fun x=>x.1.isSome)
   && decide (([e]:List Expr).length+([]:List Keyword).length+(if ([]:List Keyword).isEmpty then 0 else 1)<30))=true:=by rfl)
  (hline:(apos.endLine==cpos.line)=true:=by rfl) (hst:starEach [e] X.env=(false,eval e X.env)::starEach [] X.env:=by rfl) (hplain:(backTo cpos (starEach [] X.env)).any (·.1)=false:=by rfl) :
  DE X (.Call (.Attribute o "append" apos) [e] [] cpos) (mBMr eV mo ma):=d_bm PySem.F.slot_list_append PySem.F.type_list_append wG s_append ho ha hbase hfew hline hst hplain
theorem d_pop (ho:DE X o mo)(hbase:attributeBase o "pop" X.env (eval o X.env)=eval o X.env:=by rfl)(hline:(apos.endLine==cpos.line)=true:=by rfl) :
  DE X (.Call (.Attribute o "pop" apos) [] [] cpos) (mBMr0 kPop mo):=d_bm0 PySem.F.slot_list_pop PySem.F.type_list_pop mt_pop s_pop ho hbase hline
end
end L2
namespace L2
open PySem PySem.Spec PyProof.Rows
section
variable {X:Cx}{K:PySem.W.Frag}
theorem op_isntB:OpR X (compareOp .IsNot) (fun x y H Q=>∃ c b,x=.bl c∧y=.bl b∧Q (.bl (!(c==b))) H):=by
 intro pins s σ H x y v u Q I rx ry ⟨c,b,ex,ey,q⟩
 subst ex ey
 cases rx
 cases ry
 exact wpAny_pure (fin_bl I q (by cases c <;> cases b <;> rfl))
def isNon:W→Bool
 | .non=>true
 | _=>false
theorem isNon_v {H:Hp}{μ : Mu}{w:W}{v:V}(r:Rep K H μ w v):decide (v=.non)=isNon w:=by
 cases w with
 | non=>rw [Rep] at r;subst r;rfl
 | bl _=>rw [Rep] at r;subst r;rfl
 | int _=>rw [Rep] at r;subst r;rfl
 | str _=>rw [Rep] at r;subst r;rfl
 | ty _=>rw [Rep] at r;subst r;rfl
 | tup _=>rw [Rep] at r;obtain ⟨_,_,e,_⟩:=r;subst e;rfl
 | lst _=>rw [Rep] at r;obtain ⟨_,_,e,_⟩:=r;subst e;rfl
 | kls _=>rw [Rep] at r;obtain ⟨_,_,e,_⟩:=r;subst e;rfl
 | loc _=>rw [Rep] at r;obtain ⟨_,e,_⟩:=r;subst e;rfl
 | exc _=>rw [Rep] at r;obtain ⟨_,_,_,e,_⟩:=r;subst e;rfl
def kIs:M2:=fun x y h Q=>match x,y with
 | .bl c,.bl b=>Q (.bl (c==b)) h
 | w,.non=>Q (.bl (isNon w)) h
 | _,_=>False
def rR:M2:=fun x y h Q=>match x,y with
 | .bl c,.bl b=>Q (.bl (!(c==b))) h
 | w,.non=>Q (.bl (!isNon w)) h
 | _,_=>False
theorem wN:DOp X (compareOp .IsNot) rR:=⟨_,op_isntB.or op_notN,by
 intro H μ h x y wx wy Qw Q R rx ry m k
 unfold rR at m
 split at m
 ·rw [Rep] at rx ry
  exact .inl ⟨_,_,rx,ry,k _ _ (.bl R m)⟩
 ·rw [←isNon_v rx] at m
  rw [Rep] at ry
  exact .inr ⟨ry,k _ _ (.bl R m)⟩
 ·exact m.elim⟩
theorem range_anyB (bs:List Bool):((List.range bs.length).any fun i=>(bs[i]?).getD true)=bs.any id:=by
 rw [Bool.eq_iff_iff,List.any_eq_true,List.any_eq_true]
 constructor
 ·rintro ⟨i,hi,e⟩
  have hi':=List.mem_range.mp hi
  exact ⟨bs[i],List.getElem_mem hi',by simpa [hi'] using e⟩
 ·rintro ⟨b,hb,e⟩
  obtain ⟨i,hi,rfl⟩:=List.mem_iff_getElem.mp hb
  exact ⟨i,List.mem_range.mpr hi,by simpa [hi] using e⟩
theorem call_anyB (hc:X.calm=true):lO X (.builtin "any") (fun xs H Q=>∃ (p:Addr) (bs:List Bool),xs=[.ref p]∧SqL X.K H p (bs.map V.bl)∧Q (.bl (bs.any id)) H):=by
 intro pins s σ H xs us Q I r ⟨p,bs,e,hS,q⟩
 subst e
 obtain ⟨u,rfl,ru⟩:=vals1 r
 cases ru
 obtain ⟨its,rv,pl,hz⟩:=I.list hS
 have hlen:its.length=bs.length:=by rw [←rv.length,List.length_map]
 have hl:=pl.isList
 have hlt:p<s.heap.objs.size:=by obtain ⟨_,e,_⟩:=hl;exact Heap.lt_size e
 refine call_any_walk (wpAny_pyIter_list hl ?_)
 refine ⟨s.heap.objs.size,[s.heap.objs.size,p],[s.heap.objs.size],its.toArray.size,_,_,fun i=>(bs[i]?).getD true,rfl,Walks.list (A:=X.A.in1) (I.ok.hd hc) _ p (Nat.ne_of_lt hlt) its.toArray,
  ⟨⟨_,Heap.get?_push_size _ rfl,rfl,rfl⟩,hl.push _⟩,fun i v s' Q' E' hP hQ=>?_,fun h' tk hk=>?_⟩
 ·obtain ⟨b,e,rfl⟩:=rm rv (by simpa using hP)
  simp only [e,Option.getD_some] at hQ
  exact wpAny_truthy_bool hQ
 ·have e:((List.range its.toArray.size).any fun i=>(bs[i]?).getD true)=bs.any id:=by
   rw [List.size_toArray,hlen];exact range_anyB bs
  rw [e]
  refine ⟨.bl (bs.any id),H,I.kept (h':=h') (t':=tk) (fun b x e=>?_),rfl,q⟩
  exact hk b x (fun hm=>by rw [List.mem_singleton.mp hm] at e;exact Nat.lt_irrefl _ (Heap.lt_size e)) (Heap.get?_push_of_some _ e)
def kAny:MC:=fun ws h Q=>match ws with
 | [w]=>(match fC h w with
  | some us=>(match blsW us with
   | some bs=>Q (.bl (bs.any id)) h
   | none=>False)
  | none=>False)
 | _=>False
theorem c_any (hc:X.calm=true):lg X (.builtin "any") kAny:=⟨_,call_anyB hc,by
 intro H μ h vs ws Qw Q R r m k
 unfold kAny at m
 split at m
 ·split at m
  ·split at m
   ·rename_i w _ us ev _ bs eb
    obtain ⟨v,e,rv⟩:=mR r
    obtain ⟨p,ys,ex,hs,rs⟩:=dh R rv ev
    subst e ex
    exact ⟨p,bs,rfl,by rw [←zG rs eb];exact hs,k _ _ (.bl R m)⟩
   ·exact m.elim
  ·exact m.elim
 ·exact m.elim⟩
def rE:W→Bool
 | .non=>true
 | .bl _=>true
 | .int _=>true
 | .str _=>true
 | _=>false
theorem flat_v {H:Hp}{μ : Mu}{w:W}{v:V}(r:Rep K H μ w v)(f:rE w=true):rK v=true:=by
 cases w <;> first | (rw [Rep] at r;subst r;rfl) | cases f
theorem flat_vs {H:Hp}{μ : Mu}:∀ {ws:List W} {vs:List V},aN K H μ ws vs→ws.all rE=true→vs.all rK=true
 | [],_,r,_=>by rw [aN] at r;subst r;rfl
 | w::ws,_,r,f=>by
  rw [aN] at r
  obtain ⟨v,vs,e,r1,r2⟩:=r
  subst e
  rw [List.all_cons,Bool.and_eq_true] at f ⊢
  exact ⟨flat_v r1 f.1,flat_vs r2 f.2⟩
theorem eq_v {H:Hp}{μ : Mu}{w u:W}{v x:V}(r:Rep K H μ w v)(q:Rep K H μ u x)(f:rE w=true)(g:rE u=true):eqV v x=eqW w u:=by
 cases w <;> cases u <;> first
  | (rw [Rep] at r;rw [Rep] at q;subst r;subst q;rfl)
  | (cases f;done)
  | (cases g;done)
theorem in_vs {H:Hp}{μ : Mu}{u:W}{x:V}(q:Rep K H μ u x)(g:rE u=true):∀ {ws:List W} {vs:List V},aN K H μ ws vs→ws.all rE=true→inV x vs=ws.any fun w=>eqW w u
 | [],_,r,_=>by rw [aN] at r;subst r;rfl
 | w::ws,_,r,f=>by
  rw [aN] at r
  obtain ⟨v,vs,e,r1,r2⟩:=r
  subst e
  rw [List.all_cons,Bool.and_eq_true] at f
  have:=in_vs q g r2 f.2
  unfold inV at this ⊢
  rw [List.any_cons,List.any_cons,this,eq_v r1 q f.1 g]
def kNin:M2:=fun x y h Q=>match view h y with
 | some ws=>by2 (rE x&&ws.all rE) (Q (.bl (!(ws.any fun w=>eqW w x))) h) False
 | none=>False
theorem o_nin:DOp X (compareOp .NotIn) kNin:=⟨_,yj,by
 intro H μ h x y wx wy Qw Q R rx ry m k
 unfold kNin at m
 split at m
 ·rename_i ws ev
  obtain ⟨p,xs,ey,hs,rs⟩:=qW R ry ev
  cases hp:(rE wx&&ws.all rE) with
  | true=>
   rw [hp] at m
   rw [Bool.and_eq_true] at hp
   exact ⟨p,xs,ey,hs,flat_v rx hp.1,flat_vs rs hp.2,k _ _ (by rw [if_pos rfl,in_vs rx hp.1 rs hp.2];exact .bl R m)⟩
  | false=>rw [hp] at m;exact (show False from m).elim
 ·exact m.elim⟩
theorem op_catT0:OpR X (binaryOp .Add) (fun x y H Q=>∃ a b ys,x=.ref a∧y=.ref b∧SqT X.K H a []∧SqT X.K H b ys∧Q (.ref b) H):=by
 intro pins s σ H x y v u Q I rx ry ⟨a,b,ys,ex,ey,ha,hb,q⟩
 subst ex ey
 cases rx
 cases ry
 obtain ⟨its,r1,p1,_⟩:=I.tuple ha
 obtain ⟨jts,r2,p2,_⟩:=I.tuple hb
 cases r1
 obtain ⟨⟨cls,dd,data,sl⟩,ho,hc,n,hd⟩:=id p1
 obtain ⟨⟨cls2,dd2,data2,sl2⟩,ho2,hc2,n2,hd2⟩:=id p2
 simp only at hc hd hc2 hd2
 subst hc hd hc2 hd2
 exact concat_meets ⟨_,ho,rfl⟩ ⟨_,ho2,rfl⟩ noFill_tuple_add seq_tuple_add PySem.F.slot_tuple_add PySem.F.entry_tuple_add (PySem.F.args_tuple_add_2 _ _)
  (tuple_addW0 a b _ _ n n2 dd dd2 sl sl2 (by simp)) ⟨ho,ho2,⟨.ref b,H,I,rfl,q⟩⟩
def trkL (h:Gh):W→Option (List W)
 | .lst ws=>some ws
 | .loc n=>(match h.c n with
  | some (.lst ws)=>some ws
  | _=>none)
 | _=>none
theorem zK {H:Hp}{μ : Mu}{h:Gh}{w:W}{v:V}{ws:List W}(R:Rel K μ H h)(r:Rep K H μ w v)(e:trkL h w=some ws):∃ p xs,v=.ref p∧H p=some (.lst xs)∧aN K H μ ws xs:=by
 cases w with
 | lst us=>
  rw [Rep] at r
  obtain ⟨p,xs,ev,hs,rs⟩:=r
  cases (show some us=some ws from e)
  exact ⟨p,xs,ev,hs.1,rs⟩
 | loc n=>
  unfold trkL at e
  dsimp only at e
  cases ec:h.c n with
  | none=>rw [ec] at e;cases e
  | some cl=>
   rw [ec] at e
   cases cl with
   | lst us=>
    cases (show some us=some ws from e)
    obtain ⟨p,xs,ev,_,hx,rs⟩:=locAt R r ec
    exact ⟨p,xs,ev,hx,rs⟩
   | _=>cases e
 | _=>cases e
def cC:M2:=fun x y h Q=>match x,y with
 | .int i,.int j=>Q (.int (i+j)) h
 | .tup [],.tup b=>Q (.tup b) h
 | .tup (a0::a),.tup b=>iU (a.length+1+b.length) (Q (.tup (a0::a++b)) h)
 | x,y=>(match trkL h x,trkL h y with
  | some a,some b=>iU (a.length+b.length) (Q (.lst (a++b)) h)
  | _,_=>False)
theorem cH:DOp X (binaryOp .Add) cC:=⟨_,(op_add.or (op_catT0.or op_catT)).or op_cat,by
 intro H μ h x y wx wy Qw Q R rx ry m k
 unfold cC at m
 split at m
 ·rw [Rep] at rx ry
  exact .inl (.inl ⟨_,_,rx,ry,k _ _ (.int R m)⟩)
 ·rename_i b
  have ry':=ry
  rw [Rep] at rx ry
  obtain ⟨p,xs,ex,hx,r1⟩:=rx
  obtain ⟨q,ys,ey,hy,r2⟩:=ry
  rw [aN] at r1
  subst r1
  rw [ey] at ry'
  exact .inl (.inr (.inl ⟨p,q,ys,ex,ey,hx,hy,k _ _ ⟨μ,_,h,.refl,R,ry',m⟩⟩))
 ·rename_i a0 a b
  have rx':=rx
  rw [Rep] at rx ry
  obtain ⟨p,xs,ex,hx,r1⟩:=rx
  obtain ⟨q,ys,ey,hy,r2⟩:=ry
  have sz:=m.ok.1
  refine .inl (.inr (.inr ⟨p,q,xs,ys,ex,ey,hx,hy,fun z=>(by have:=r1.ne_nil.mp z;cases this),by rw [←r1.len,←r2.len];exact sz,fun z=>?_,fun z l hl=>?_⟩))
  ·have eb:b=[]:=r2.ne_nil.mp z
   subst eb
   refine k _ _ ⟨μ,.tup (a0::a++[]),h,.refl,R,?_,m.ok.2⟩
   rw [List.append_nil,←ex]
   exact rx'
  ·exact k _ _ ⟨μ,_,h,(Ex.laid hl).ext,R.laid hl,.tupNew hl (r1.append r2),m.ok.2⟩
 ·split at m
  ·rename_i a b ea eb
   obtain ⟨p,xs,ex,hx,r1⟩:=zK R rx ea
   obtain ⟨q,ys,ey,hy,r2⟩:=zK R ry eb
   have sz:=m.ok.1
   exact .inr ⟨p,q,xs,ys,ex,ey,hx,hy,by rw [←r1.len,←r2.len];exact sz,fun l hl=>k _ _ ⟨μ,_,h,(Ex.laid hl).ext,R.laid hl,.lstNew R hl (r1.append r2),m.ok.2⟩⟩
  ·exact m.elim⟩
def gM:MM:=fun x ws h Q=>match x,ws with
 | .loc n,[w]=>(match h.c n,trkL h w with
  | some (.lst us),some zs=>iU (us.length+zs.length) (Q .non (h.set n (.lst (us++zs))))
  | _,_=>False)
 | _,_=>False
theorem s_extend:SimM K rExtend gM:=by
 intro H μ h x vs wx ws Qw Q R rx rs m k
 unfold gM at m
 split at m
 ·split at m
  ·rename_i n w _ _ us zs ec ez
   obtain ⟨p,xs,ex,hm,hx,r1⟩:=locAt R rx ec
   obtain ⟨v,ev,rv⟩:=mR rs
   obtain ⟨q,ys,ey,hy,r2⟩:=zK R rv ez
   subst ey
   have sz:=m.ok.1
   exact ⟨p,q,xs,ys,ex,ev,hx,hy,by rw [←r1.len,←r2.len];exact sz,k _ _ (.wrote R hm (r1.append r2) (by rw [Rep]) m.ok.2)⟩
  ·exact m.elim
 ·exact m.elim
variable {o e:Expr}{mo:ME}{ma:MA}{apos cpos:Pos}
theorem zZ (ho:DE X o mo)(ha:DAs X [e] ma)
  (hbase:attributeBase o "extend" X.env (eval o X.env)=eval o X.env:=by rfl)
  (hfew:((backTo cpos (starEach [e] X.env)).all (fun x=>!x.1)&&(backToKw cpos (keywordEach [] X.env)).all (fun x=>x.1.isSome)
   && decide (([e]:List Expr).length+([]:List Keyword).length+(if ([]:List Keyword).isEmpty then 0 else 1)<30))=true:=by rfl)
  (hline:(apos.endLine==cpos.line)=true:=by rfl) (hst:starEach [e] X.env=(false,eval e X.env)::starEach [] X.env:=by rfl) (hplain:(backTo cpos (starEach [] X.env)).any (·.1)=false:=by rfl) :
  DE X (.Call (.Attribute o "extend" apos) [e] [] cpos) (mBMr gM mo ma):=d_bm PySem.F.slot_list_extend PySem.F.type_list_extend mt_extend s_extend ho ha hbase hfew hline hst hplain
end
end L2
namespace L2
open PySem PySem.Spec PyProof.Rows
def spLaw (K:PySem.W.Frag):Sp:=fun vs H Q _=>∃ (a:Addr) (ns:List Int),vs=[.ref a]∧SqL K H a (ns.map V.int)∧Only H∧ns.length≤63∧∀ H',Q (.bl true) H'
def g0:Gh:=⟨0,fun _=>none⟩
def μ0:Mu:=⟨fun _=>none,fun _=>False⟩
theorem rel0 {K:PySem.W.Frag}{H:Hp}:Rel K μ0 H g0 where
 inj:=fun m n p h=>by cases (show (none:Option Addr)=some p from h)
 dom:=fun n p h=>by cases (show (none:Option Addr)=some p from h)
 trk:=fun n p h=>by cases (show (none:Option Addr)=some p from h)
 cel:=fun n c h=>by cases (show (none:Option Cell)=some c from h)
 hd:=fun p h=>False.elim h
theorem wO {K:PySem.W.Frag}{H:Hp}{μ : Mu}:∀ ns:List Int,aN K H μ (ns.map W.int) (ns.map V.int)
 | []=>.nil
 | n::ns=>.cons (by rw [Rep]) (wO ns)
theorem law_imp {P:Program}{w:World}{K:PySem.W.Frag}{mg:Str→Option Value}{base:Heap}{k:Nat}{f:Addr}{fd:FuncData}{ps:List Str}{ms:MSp}
  (hm:∀ ns:List Int,ns.length≤63→ms [.kls (ns.map W.int)] g0 (fun w _=>w=.bl true) EF) (F:bQ P w K mg base CX0 k f fd ps (lift K ms)):bQ P w K mg base CX0 k f fd ps (spLaw K):=
 F.imp fun vs H Q E ⟨a,ns,e,hS,hO,hl,q⟩=>by
  subst e
  refine ⟨μ0,g0,[.kls (ns.map W.int)],_,rel0,.one ?_,hm ns hl,fun v H' ⟨μ',w',h',_,_,r,e⟩=>?_⟩
  ·rw [Rep]
   refine ⟨a,ns.map V.int,rfl,?_,wO ns⟩
   rcases hS with (hS | hS) | hS
   ·rcases hO a with z | ⟨o,xs,z⟩ <;> rw [hS] at z <;> cases z
   ·exact .inl hS
   ·exact .inr hS
  ·subst e
   rw [Rep] at r
   subst r
   exact q H'
end L2
namespace L2
open PySem PySem.Spec PyProof.Rows
inductive Sk where
 | l | t
def Sk.sq (k:Sk)(h:Heap)(a:Addr)(its:Array Value):Prop:=match k with
 | .l=>h.IsList a its
 | .t=>h.IsTuple a its
def Sk.it (k:Sk)(h:Heap)(i a:Addr)(n:Nat):Prop:=match k with
 | .l=>h.IsListIter i a n
 | .t=>h.IsTupleIter i a n
def Sk.nm:Sk→String
 | .l => "list_iterator"
 | .t => "tuple_iterator"
section
variable {P:Program}{w:World}{A:Around}{E:Value→Shared→Prop}{s:Shared}{k k1 k2:Sk}
theorem Sk.it_at {h h':Heap}{i a:Addr}{n:Nat}(x:k.it h i a n)(e:∀ o,h.get? i=some o→h'.get? i=some o):k.it h' i a n:=by
 cases k with
 | l=>obtain ⟨o,ho,r⟩:=x;exact ⟨o,e o ho,r⟩
 | t=>obtain ⟨o,ho,r⟩:=x;exact ⟨o,e o ho,r⟩
theorem Sk.sq_at {h h':Heap}{a:Addr}{its:Array Value}(x:k.sq h a its)(e:∀ o,h.get? a=some o→h'.get? a=some o):k.sq h' a its:=by
 cases k with
 | l=>obtain ⟨o,ho,r⟩:=x;exact ⟨o,e o ho,r⟩
 | t=>obtain ⟨o,ho,r⟩:=x;exact ⟨o,e o ho,r⟩
theorem Sk.it_obj {h:Heap}{i a:Addr}{n:Nat}(x:k.it h i a n):∃ o,h.get? i=some o∧o.cls=.type k.nm∧o.data=.fields #[.ref a,.int n 0]:=by
 cases k with
 | l=>exact x
 | t=>exact x
theorem next_tup {it t:Addr}{i:Nat}{its:Array Value}{x:Value}{Q:Value→Shared→Prop}(hi:s.heap.IsTupleIter it t i)(ht:s.heap.IsTuple t its)(hx:its[i]?=some x)
  (q:∀ h',h'.IsTupleIter it t (i+1)→Heap.SameBut it s.heap h'→Q x { s with heap:=h' }):wpAny (model P w) A (Builtin.SmallTypes.nextOf (.ref it)) Q E s:=by
 obtain ⟨o,go,gc,gd⟩:=id hi
 obtain ⟨ol,gol,_,nl,gdl⟩:=ht
 unfold Builtin.SmallTypes.nextOf
 refine wpAny_bind (wpAny_callSpecial?_slot (name:=Str.ofString "__next__") hi.typeIs PySem.F.slot_tuple_iterator_next
  (wpAny_call_entry PySem.F.slot_tuple_iterator_next hi.typeIs PySem.F.entry_tuple_iterator_next ?_ (PySem.F.args_tuple_iterator_next_1 _)))
 show wpAny _ _ (field (.ref it) 0 >>= _) _ _ s
 refine wpAny_bind (wpAny_field go gd (x:=.ref t) rfl ?_)
 show wpAny _ _ (if (Value.ref t==Value.none)=true then _ else _) _ _ s
 rw [if_neg (by exact Bool.false_ne_true)]
 show wpAny _ _ (field (.ref it) 1 >>= _) _ _ s
 refine wpAny_bind (wpAny_field go gd (x:=.int i 0) rfl ?_)
 show wpAny _ _ (seqItems? (.ref t) >>= _) _ _ s
 refine wpAny_bind (wpAny_seqItems gol gdl ?_)
 simp only [Int.toNat_natCast,hx]
 refine wpAny_bind (wpAny_setField go gd (by simp) (wpAny_pure ⟨x,rfl,wpAny_pure (q _ ?_ (Heap.SameBut.update ..))⟩))
 exact ⟨_,Heap.get?_update_self _ go (Obj.isFreed_of_fields (Obj.data_mapFields gd _)),(Obj.cls_mapFields ..).trans gc,by rw [Obj.data_mapFields gd];simp [rawInt]⟩
theorem vX {it t:Addr}{i:Nat}{its:Array Value}{Q:Value→Shared→Prop}(hh:A.handled=none)(hi:s.heap.IsTupleIter it t i)(ht:s.heap.IsTuple t its)(hx:its[i]?=none)
  (q:∀ h' e,Heap.ExtBut it s.heap h'→(∃ o,h'.get? e=some o∧o.cls=.type "StopIteration")→E (.ref e) { s with heap:=h' }):wpAny (model P w) A (Builtin.SmallTypes.nextOf (.ref it)) Q E s:=by
 obtain ⟨o,go,gc,gd⟩:=id hi
 obtain ⟨ol,gol,_,nl,gdl⟩:=ht
 unfold Builtin.SmallTypes.nextOf
 refine wpAny_bind (wpAny_callSpecial?_slot (name:=Str.ofString "__next__") hi.typeIs PySem.F.slot_tuple_iterator_next
  (wpAny_call_entry PySem.F.slot_tuple_iterator_next hi.typeIs PySem.F.entry_tuple_iterator_next ?_ (PySem.F.args_tuple_iterator_next_1 _)))
 show wpAny _ _ (field (.ref it) 0 >>= _) _ _ s
 refine wpAny_bind (wpAny_field go gd (x:=.ref t) rfl ?_)
 show wpAny _ _ (if (Value.ref t==Value.none)=true then _ else _) _ _ s
 rw [if_neg (by exact Bool.false_ne_true)]
 show wpAny _ _ (field (.ref it) 1 >>= _) _ _ s
 refine wpAny_bind (wpAny_field go gd (x:=.int i 0) rfl ?_)
 show wpAny _ _ (seqItems? (.ref t) >>= _) _ _ s
 refine wpAny_bind (wpAny_seqItems gol gdl ?_)
 simp only [Int.toNat_natCast,hx]
 refine wpAny_bind (wpAny_rule (wpAny_bind (wpAny_setField go gd (by simp) ?_)))
 show wpAny _ _ (newExc (.type "StopIteration") [] >>= _) _ _ _
 refine wpAny_bind ?_
 simp only [newExc,newTuple]
 refine wpAny_bind (wpAny_newObj_type ?_ (by size_fits))
 refine wpAny_bind (m:=firstArgMember _ _) (wpAny_of_eq (a:=Value.none) (by first | rfl | (simp only [firstArgMember];rfl)) ?_)
 refine wpAny_newObj_type ?_ (by size_fits)
 simp only [raiseNew]
 refine wpAny_bind (wpAny_handled ?_)
 first | rw [show A.in1.handled=none from hh] | rw [hh]
 refine wpAny_bind (wpAny_pure (wpAny_throw ?_))
 exact q _ _ (((Heap.SameBut.update ..).extBut.push _).push _) ⟨_,Heap.get?_push_size _ rfl,rfl⟩
theorem Sk.next {it a:Addr}{i:Nat}{its:Array Value}{x:Value}{Q:Value→Shared→Prop}(hi:k.it s.heap it a i)(hs:k.sq s.heap a its)(hx:its[i]?=some x)
  (q:∀ h',k.it h' it a (i+1)→Heap.SameBut it s.heap h'→Q x { s with heap:=h' }):wpAny (model P w) A (Builtin.SmallTypes.nextOf (.ref it)) Q E s:=by
 cases k with
 | l=>exact wpAny_nextOf_list_item hi hs hx q
 | t=>exact next_tup hi hs hx q
theorem Sk.stop {it a:Addr}{i:Nat}{its:Array Value}{Q:Value→Shared→Prop}(hh:A.handled=none)(hi:k.it s.heap it a i)(hs:k.sq s.heap a its)(hx:its[i]?=none)
  (q:∀ h' e,Heap.ExtBut it s.heap h'→(∃ o,h'.get? e=some o∧o.cls=.type "StopIteration")→E (.ref e) { s with heap:=h' }):wpAny (model P w) A (Builtin.SmallTypes.nextOf (.ref it)) Q E s:=by
 cases k with
 | l=>exact wpAny_nextOf_list_end hh hi hs hx q
 | t=>exact vX hh hi hs hx q
theorem Sk.iter {a:Addr}{its:Array Value}{Q:Value→Shared→Prop}(hs:k.sq s.heap a its)
  (q:Q (.ref s.heap.objs.size) { s with heap:=s.heap.push { cls:=.type k.nm,data:=.fields #[.ref a,.int 0 0] } }):wpAny (model P w) A (pyIter (.ref a)) Q E s:=by
 cases k with
 | l=>exact wpAny_pyIter_list hs q
 | t=>exact wpAny_pyIter_tuple hs q
structure Zap (z TI TO i1 i2:Addr):Prop where
 a1:TI≠z
 a2:TO≠z
 a3:i1≠z
 a4:i2≠z
 a5:TI≠TO
 a6:TI≠i1
 a7:TI≠i2
 a8:TO≠i1
 a9:TO≠i2
 b1:i1≠i2
structure Off (a z TO i1 i2:Addr):Prop where
 z:a≠z
 o:a≠TO
 i:a≠i1
 j:a≠i2
theorem zip_item {z TI TO i1 i2 l1 l2:Addr}{n1 n2:Nat}{xs ys:Array Value}{x y a b:Value}{Q:Option Value→Shared→Prop}(D:Zap z TI TO i1 i2)(o1:Off l1 z TO i1 i2)(o2:Off l2 z TO i1 i2)
  (gz:IsZip s.heap z TI TO .none) (gI:IsPair s.heap TI (.ref i1) (.ref i2)) (gO:IsPair s.heap TO a b) (g1:k1.it s.heap i1 l1 n1) (g2:k2.it s.heap i2 l2 n2) (gx:k1.sq s.heap l1 xs) (gy:k2.sq s.heap l2 ys)
  (hx:xs[n1]?=some x) (hy:ys[n2]?=some y)
  (q:∀ h',IsZip h' z TI TO (rawInt s.heap.objs.size)→IsPair h' TO x y→k1.it h' i1 l1 (n1+1)→k2.it h' i2 l2 (n2+1)→IsPair h' s.heap.objs.size x y→h'.objs.size=s.heap.objs.size+1 →
   (∀ c o,c≠z→c≠TO→c≠i1→c≠i2→s.heap.get? c=some o→h'.get? c=some o)→Q (some (.ref s.heap.objs.size)) { s with heap:=h' }) :
  wpAny (model P w) A (pyNext (.ref z)) Q E s:=by
 have gT:s.TypeIs (.ref z) "zip":=⟨_,gz,rfl⟩
 unfold pyNext
 refine wpAny_bind (wpAny_attempt (wpAny_callSpecial?_slot (name:=Str.ofString "__next__") gT PySem.F.slot_zip_next (wpAny_call_entry PySem.F.slot_zip_next gT PySem.F.entry_zip_next ?_ (PySem.F.args_zip_next_1 _))))
 show wpAny _ _ (field (.ref z) 2 >>= _) _ _ _
 refine wpAny_bind (wpAny_field gz rfl (x:=.bool false) rfl ?_)
 show wpAny _ _ (field (.ref z) 3 >>= _) _ _ _
 refine wpAny_bind (wpAny_field gz rfl (x:=.ref TI) rfl ?_)
 refine wpAny_bind (wpAny_seqItems gI rfl ?_)
 show wpAny _ _ (Builtin.SmallTypes.ownedTupleIsFree (.ref z) >>= _) _ _ _
 refine wpAny_bind ?_
 unfold Builtin.SmallTypes.ownedTupleIsFree
 refine wpAny_bind (wpAny_field gz rfl (x:=.none) rfl (wpAny_pure ?_))
 simp only [if_true]
 refine wpAny_bind (wpAny_rule ?_)
 refine wpAny_bind (wpAny_field gz rfl (x:=.ref TO) rfl ?_)
 refine wpAny_bind (wpAny_setField_rec gz (by simp) fun h₁ z₁ s₁=>?_)
 replace z₁ : IsZip h₁ z TI TO .ellipsis:=z₁
 refine wpAny_bind ?_
 simp only [List.zipIdx_cons,List.zipIdx_nil,List.forIn_cons,List.forIn_nil]
 -- the first one
 refine wpAny_bind (wpAny_bind (wpAny_onRaise ?_))
 show wpAny _ _ (Builtin.SmallTypes.nextOf (.ref i1) >>= _) _ _ _
 refine wpAny_bind (Sk.next (k:=k1) (s:={ s with heap:=h₁ }) (Sk.it_at g1 fun o e=>s₁.extBut _ o D.a3 e) (Sk.sq_at gx fun o e=>s₁.extBut _ o o1.z e) hx fun h₂ g1₂ s₂=>wpAny_pure ?_)
 have gO₂ : IsPair h₂ TO a b:=s₂.extBut _ _ D.a8 (s₁.extBut _ _ D.a2 gO)
 refine wpAny_bind (wpAny_seqItems gO₂ rfl ?_)
 refine wpAny_bind (wpAny_updateSeq_pair gO₂ fun h₃ gO₃ s₃=>?_)
 replace gO₃ : IsPair h₃ TO x b:=gO₃
 refine wpAny_bind (wpAny_letGo (wpAny_pure ?_))
 -- the second one
 refine wpAny_bind (wpAny_bind (wpAny_onRaise ?_))
 show wpAny _ _ (Builtin.SmallTypes.nextOf (.ref i2) >>= _) _ _ _
 refine wpAny_bind (Sk.next (k:=k2) (s:={ s with heap:=h₃ }) (Sk.it_at g2 fun o e=>s₃.extBut _ o D.a9.symm (s₂.extBut _ o D.b1.symm (s₁.extBut _ o D.a4 e)))
  (Sk.sq_at gy fun o e=>s₃.extBut _ o o2.o (s₂.extBut _ o o2.i (s₁.extBut _ o o2.z e))) hy fun h₄ g2₄ s₄=>wpAny_pure ?_)
 have gO₄ : IsPair h₄ TO x b:=s₄.extBut _ _ D.a9 gO₃
 refine wpAny_bind (wpAny_seqItems gO₄ rfl ?_)
 refine wpAny_bind (wpAny_updateSeq_pair gO₄ fun h₅ gO₅ s₅=>?_)
 replace gO₅ : IsPair h₅ TO x y:=gO₅
 refine wpAny_bind (wpAny_letGo (wpAny_pure (wpAny_pure ?_)))
 -- the pair is handed out
 refine wpAny_bind (wpAny_seqItems gO₅ rfl ?_)
 refine wpAny_bind (wpAny_newTuple ?_)
 have size:h₅.objs.size=s.heap.objs.size:=by rw [s₅.1,s₄.1,s₃.1,s₂.1,s₁.1]
 have z₅ : IsZip h₅ z TI TO .ellipsis:=s₅.extBut _ _ D.a2.symm (s₄.extBut _ _ D.a4.symm (s₃.extBut _ _ D.a2.symm (s₂.extBut _ _ D.a3.symm z₁)))
 have all₅ : ∀ c o,c≠z→c≠TO→c≠i1→c≠i2→s.heap.get? c=some o→h₅.get? c=some o:=fun c o c1 c2 c3 c4 e=>s₅.extBut _ _ c2 (s₄.extBut _ _ c4 (s₃.extBut _ _ c2 (s₂.extBut _ _ c3 (s₁.extBut _ _ c1 e))))
 have g1₅ : k1.it h₅ i1 l1 (n1+1):=Sk.it_at g1₂ fun o e=>s₅.extBut _ o D.a8.symm (s₄.extBut _ o D.b1 (s₃.extBut _ o D.a8.symm e))
 have g2₅ : k2.it h₅ i2 l2 (n2+1):=Sk.it_at g2₄ fun o e=>s₅.extBut _ o D.a9.symm e
 have zlt:z<h₅.objs.size:=Heap.lt_size z₅
 show wpAny _ _ (Builtin.SmallTypes.ownedTupleHandOut (.ref z) (.ref h₅.objs.size) >>= _) _ _ _
 refine wpAny_bind ?_
 unfold Builtin.SmallTypes.ownedTupleHandOut
 have z₆ : IsZip (h₅.push { cls:=.type "tuple",data:=.seq #[x,y] }) z TI TO .ellipsis:=Heap.get?_push_of_some _ z₅
 refine wpAny_bind (wpAny_setField_rec z₆ (by simp) fun h₇ z₇ s₇=>?_)
 replace z₇ : IsZip h₇ z TI TO (rawInt h₅.objs.size):=z₇
 refine wpAny_setField_rec z₇ (by simp) fun h₈ z₈ s₈=>?_
 replace z₈ : IsZip h₈ z TI TO (rawInt h₅.objs.size):=z₈
 have up:∀ c o,c≠z→h₅.get? c=some o→h₈.get? c=some o:=fun c o c1 e=>s₈.extBut _ _ c1 (s₇.extBut _ _ c1 (Heap.get?_push_of_some _ e))
 have T₈ : IsPair h₈ h₅.objs.size x y:=s₈.extBut _ _ (Nat.ne_of_gt zlt) (s₇.extBut _ _ (Nat.ne_of_gt zlt) (Heap.get?_push_size _ rfl))
 have size8:h₈.objs.size=h₅.objs.size+1:=by rw [s₈.1,s₇.1,Heap.size_push]
 rw [size] at z₈ T₈ size8
 refine wpAny_pure ⟨_,rfl,wpAny_pure ?_⟩
 show Q (some (.ref h₅.objs.size)) _
 rw [size]
 exact q h₈ z₈ (up _ _ D.a2 gO₅) (Sk.it_at g1₅ fun o e=>up _ o D.a3 e) (Sk.it_at g2₅ fun o e=>up _ o D.a4 e) T₈ size8 fun c o c1 c2 c3 c4 e=>up c o c1 (all₅ c o c1 c2 c3 c4 e)
theorem zip_stop {z TI TO i1 i2 l1 l2:Addr}{n1 n2:Nat}{xs ys:Array Value}{a b:Value}{Q:Option Value→Shared→Prop}(hh:A.handled=none)(D:Zap z TI TO i1 i2)(o1:Off l1 z TO i1 i2)(o2:Off l2 z TO i1 i2)
  (gz:IsZip s.heap z TI TO .none) (gI:IsPair s.heap TI (.ref i1) (.ref i2)) (gO:IsPair s.heap TO a b) (g1:k1.it s.heap i1 l1 n1) (g2:k2.it s.heap i2 l2 n2) (gx:k1.sq s.heap l1 xs) (gy:k2.sq s.heap l2 ys)
  (hend:xs[n1]?=none∨ys[n2]?=none)
  (q:∀ h',(∀ c o,c≠z→c≠TO→c≠i1→c≠i2→s.heap.get? c=some o→h'.get? c=some o)→Q none { s with heap:=h' }):wpAny (model P w) A (pyNext (.ref z)) Q E s:=by
 have gT:s.TypeIs (.ref z) "zip":=⟨_,gz,rfl⟩
 have fin:∀ (h':Heap) (e:Addr),(∀ c o,c≠z→c≠TO→c≠i1→c≠i2→s.heap.get? c=some o→h'.get? c=some o)→(∃ o,h'.get? e=some o∧o.cls=.type "StopIteration") →
   wpAny (model P w) A (do if ←isInstance (.ref e) (.type "StopIteration") then pure none else throw (.ref e)) Q E { s with heap:=h' }:=fun h' e all ⟨o,ho,hc⟩=>
  wpAny_bind (wpAny_isInstance (T := "StopIteration") (b:=true) ⟨o,ho,hc⟩ isSubtype_stop (wpAny_pure (q _ all)))
 unfold pyNext
 refine wpAny_bind (wpAny_attempt (wpAny_callSpecial?_slot (name:=Str.ofString "__next__") gT PySem.F.slot_zip_next (wpAny_call_entry PySem.F.slot_zip_next gT PySem.F.entry_zip_next ?_ (PySem.F.args_zip_next_1 _))))
 show wpAny _ _ (field (.ref z) 2 >>= _) _ _ _
 refine wpAny_bind (wpAny_field gz rfl (x:=.bool false) rfl ?_)
 show wpAny _ _ (field (.ref z) 3 >>= _) _ _ _
 refine wpAny_bind (wpAny_field gz rfl (x:=.ref TI) rfl ?_)
 refine wpAny_bind (wpAny_seqItems gI rfl ?_)
 show wpAny _ _ (Builtin.SmallTypes.ownedTupleIsFree (.ref z) >>= _) _ _ _
 refine wpAny_bind ?_
 unfold Builtin.SmallTypes.ownedTupleIsFree
 refine wpAny_bind (wpAny_field gz rfl (x:=.none) rfl (wpAny_pure ?_))
 simp only [if_true]
 refine wpAny_bind (wpAny_rule ?_)
 refine wpAny_bind (wpAny_field gz rfl (x:=.ref TO) rfl ?_)
 refine wpAny_bind (wpAny_setField_rec gz (by simp) fun h₁ z₁ s₁=>?_)
 replace z₁ : IsZip h₁ z TI TO .ellipsis:=z₁
 refine wpAny_bind ?_
 simp only [List.zipIdx_cons,List.zipIdx_nil,List.forIn_cons,List.forIn_nil]
 refine wpAny_bind (wpAny_bind (wpAny_onRaise ?_))
 show wpAny _ _ (Builtin.SmallTypes.nextOf (.ref i1) >>= _) _ _ _
 have g1₁ : k1.it h₁ i1 l1 n1:=Sk.it_at g1 fun o e=>s₁.extBut _ o D.a3 e
 have gx₁ : k1.sq h₁ l1 xs:=Sk.sq_at gx fun o e=>s₁.extBut _ o o1.z e
 cases hx:xs[n1]? with
 | none=>
  refine wpAny_bind (Sk.stop (k:=k1) (s:={ s with heap:=h₁ }) hh g1₁ gx₁ hx fun h₂ e s₂ he=>?_)
  obtain ⟨oe,hoe,hce⟩:=he
  have z₂ : IsZip h₂ z TI TO .ellipsis:=s₂ _ _ D.a3.symm z₁
  have ez:e≠z:=fun y=>by subst y;rw [z₂] at hoe;cases hoe;simp at hce
  refine wpAny_setField_rec z₂ (by simp) fun h₃ _ s₃=>fin h₃ e (fun c o c1 _ c3 _ y=>s₃.extBut _ _ c1 (s₂ _ _ c3 (s₁.extBut _ _ c1 y))) ⟨oe,s₃.extBut _ _ ez hoe,hce⟩
 | some x=>
  have hy:ys[n2]?=none:=by
   rcases hend with h | h
   ·rw [hx] at h;cases h
   ·exact h
  refine wpAny_bind (Sk.next (k:=k1) (s:={ s with heap:=h₁ }) g1₁ gx₁ hx fun h₂ g1₂ s₂=>wpAny_pure ?_)
  have gO₂ : IsPair h₂ TO a b:=s₂.extBut _ _ D.a8 (s₁.extBut _ _ D.a2 gO)
  refine wpAny_bind (wpAny_seqItems gO₂ rfl ?_)
  refine wpAny_bind (wpAny_updateSeq_pair gO₂ fun h₃ gO₃ s₃=>?_)
  refine wpAny_bind (wpAny_letGo (wpAny_pure ?_))
  refine wpAny_bind (wpAny_bind (wpAny_onRaise ?_))
  show wpAny _ _ (Builtin.SmallTypes.nextOf (.ref i2) >>= _) _ _ _
  refine wpAny_bind (Sk.stop (k:=k2) (s:={ s with heap:=h₃ }) hh (Sk.it_at g2 fun o e=>s₃.extBut _ o D.a9.symm (s₂.extBut _ o D.b1.symm (s₁.extBut _ o D.a4 e)))
   (Sk.sq_at gy fun o e=>s₃.extBut _ o o2.o (s₂.extBut _ o o2.i (s₁.extBut _ o o2.z e))) hy fun h₄ e s₄ he=>?_)
  obtain ⟨oe,hoe,hce⟩:=he
  have z₄ : IsZip h₄ z TI TO .ellipsis:=s₄ _ _ D.a4.symm (s₃.extBut _ _ D.a2.symm (s₂.extBut _ _ D.a3.symm z₁))
  have ez:e≠z:=fun y=>by subst y;rw [z₄] at hoe;cases hoe;simp at hce
  refine wpAny_setField_rec z₄ (by simp) fun h₅ _ s₅=>fin h₅ e (fun c o c1 c2 c3 c4 y=>s₅.extBut _ _ c1 (s₄ _ _ c4 (s₃.extBut _ _ c2 (s₂.extBut _ _ c3 (s₁.extBut _ _ c1 y))))) ⟨oe,s₅.extBut _ _ ez hoe,hce⟩
abbrev zh1 (k1:Sk)(h:Heap)(l1:Addr):Heap:=h.push { cls:=.type k1.nm,data:=.fields #[.ref l1,.int 0 0] }
abbrev zh2 (k1 k2:Sk)(h:Heap)(l1 l2:Addr):Heap:=(zh1 k1 h l1).push { cls:=.type k2.nm,data:=.fields #[.ref l2,.int 0 0] }
abbrev zh3 (k1 k2:Sk)(h:Heap)(l1 l2:Addr):Heap:=(zh2 k1 k2 h l1 l2).push { cls:=.type "tuple",data:=.seq #[.ref h.objs.size,.ref (zh1 k1 h l1).objs.size] }
abbrev zh4 (k1 k2:Sk)(h:Heap)(l1 l2:Addr):Heap:=(zh3 k1 k2 h l1 l2).push { cls:=.type "tuple",data:=.seq #[.none,.none] }
abbrev zh5 (k1 k2:Sk)(h:Heap)(l1 l2:Addr):Heap:=(zh4 k1 k2 h l1 l2).push { cls:=.type "zip",data:=.fields #[.none,.bool false,.bool false,.ref (zh2 k1 k2 h l1 l2).objs.size,.ref (zh3 k1 k2 h l1 l2).objs.size] }
theorem zip_new (l1 l2:Addr)(xs ys:Array Value):Meets (Builtin.«zip.__new__» ⟨[.type "zip",.ref l1,.ref l2],[]⟩) (fun _ R s=>k1.sq s.heap l1 xs∧k2.sq s.heap l2 ys ∧
   R (.ok (.ret (.ref (zh4 k1 k2 s.heap l1 l2).objs.size))) { s with heap:=zh5 k1 k2 s.heap l1 l2 }):=
 .of_wp fun prog w A R s h=>by
  obtain ⟨hp,g,d,tk,os⟩:=s;obtain ⟨gl1,gl2,h⟩:=h
  have hsub:=sub_zip
  have L1:k1.sq (Shared.heap ⟨hp,g,d,tk,os⟩) l1 xs:=gl1
  have L2':k2.sq (Shared.heap ⟨hp.push { cls:=.type k1.nm,data:=.fields #[.ref l1,.int 0 0] },g,d,tk,os⟩) l2 ys:=Sk.sq_at gl2 fun o e=>Heap.get?_push_of_some _ e
  wp_walk using Sk.iter L1,Sk.iter L2'
  exact ⟨_,rfl,h⟩
theorem call_zip {l1 l2:Addr}{xs ys:Array Value}{Q:Value→Shared→Prop}(gl1:k1.sq s.heap l1 xs)(gl2:k2.sq s.heap l2 ys)
  (q:∀ h',IsZip h' (s.heap.objs.size+4) (s.heap.objs.size+2) (s.heap.objs.size+3) .none→IsPair h' (s.heap.objs.size+2) (.ref s.heap.objs.size) (.ref (s.heap.objs.size+1)) →
   IsPair h' (s.heap.objs.size+3) .none .none→k1.it h' s.heap.objs.size l1 0→k2.it h' (s.heap.objs.size+1) l2 0→h'.objs.size=s.heap.objs.size+5 →
   (∀ c o,s.heap.get? c=some o→h'.get? c=some o)→Q (.ref (s.heap.objs.size+4)) { s with heap:=h' }):wpAny (model P w) A (call (.type "zip") [.ref l1,.ref l2]) Q E s:=by
 refine callType_new PySem.F.called_zip (by decide) (PySem.F.typeCall_zip_2 _ _) (PySem.F.newCall_zip_2 _ _) (fun obj=>PySem.F.args_object_init_3 obj _ _) PySem.F.entry_zip_new (zip_new (k1:=k1) (k2:=k2) l1 l2 xs ys) ⟨gl1,gl2,?_⟩
 have e1:(zh1 k1 s.heap l1).objs.size=s.heap.objs.size+1:=Heap.size_push ..
 have e2:(zh2 k1 k2 s.heap l1 l2).objs.size=s.heap.objs.size+2:=by rw [Heap.size_push,e1]
 have e3:(zh3 k1 k2 s.heap l1 l2).objs.size=s.heap.objs.size+3:=by rw [Heap.size_push,e2]
 have e4:(zh4 k1 k2 s.heap l1 l2).objs.size=s.heap.objs.size+4:=by rw [Heap.size_push,e3]
 have e5:(zh5 k1 k2 s.heap l1 l2).objs.size=s.heap.objs.size+5:=by rw [Heap.size_push,e4]
 have f5:(zh5 k1 k2 s.heap l1 l2).get? (zh4 k1 k2 s.heap l1 l2).objs.size=some _:=Heap.get?_push_size _ rfl
 have f4:(zh5 k1 k2 s.heap l1 l2).get? (zh3 k1 k2 s.heap l1 l2).objs.size=some _:=Heap.get?_push_of_some _ (Heap.get?_push_size _ rfl)
 have f3:(zh5 k1 k2 s.heap l1 l2).get? (zh2 k1 k2 s.heap l1 l2).objs.size=some _:=Heap.get?_push_of_some _ (Heap.get?_push_of_some _ (Heap.get?_push_size _ rfl))
 have f2:(zh5 k1 k2 s.heap l1 l2).get? (zh1 k1 s.heap l1).objs.size=some _:=Heap.get?_push_of_some _ (Heap.get?_push_of_some _ (Heap.get?_push_of_some _ (Heap.get?_push_size _ rfl)))
 have f1:(zh5 k1 k2 s.heap l1 l2).get? s.heap.objs.size=some _:=Heap.get?_push_of_some _ (Heap.get?_push_of_some _ (Heap.get?_push_of_some _ (Heap.get?_push_of_some _ (Heap.get?_push_size _ rfl))))
 show _∧_
 rw [e2,e3,e4] at f5
 rw [e1,e2] at f3
 rw [e3] at f4
 rw [e1] at f2
 rw [e4]
 refine ⟨⟨_,f5,rfl⟩,q _ f5 f3 f4 ?_ ?_ e5 fun c o x=>Heap.get?_push_of_some _ (Heap.get?_push_of_some _ (Heap.get?_push_of_some _ (Heap.get?_push_of_some _ (Heap.get?_push_of_some _ x))))⟩
 ·cases k1 with
  | l=>exact ⟨_,f1,rfl,rfl⟩
  | t=>exact ⟨_,f1,rfl,rfl⟩
 ·cases k2 with
  | l=>exact ⟨_,f2,rfl,rfl⟩
  | t=>exact ⟨_,f2,rfl,rfl⟩
end
end L2
namespace L2
open PySem PySem.Spec PyProof.Rows
section
variable {X:Cx}{pins:List (Addr×Obj)}{σ : St}{H:Hp}{s:Shared}{h':Heap}
theorem Inv.turnedL {t':Nat}{ch:List Addr}(I:Inv X pins σ H s)(k:∀ b o,b∉ch→s.heap.get? b=some o→h'.get? b=some o)(hf:∀ b∈ch,FpOk X pins H b):Inv X pins σ H { s with heap:=h',toks:=t' }:=by
 have nit:∀ b u,H b=some u→b∉ch:=fun b u e z=>by rw [(hf b z).1] at e;cases e
 refine I.step (g':=s.gens) (d':=s.drawn) (ch:=ch) (fun b hb=>?_) (fun b o _ _ hc e _=>k b o hc e) (fun b o _ _ hc e _=>⟨o.slots,k b o hc e⟩) (fun _ _ _ _ n=>n)
  (fun b o hc e=>⟨o,k b o hc e⟩) (fun _ _ e=>e) (fun _ _ _ e=>e) (fun b ps e=>⟨#[],by rw [e];simp⟩) (fun m hm=>?_) (fun b u e=>?_) I.bare
 ·obtain ⟨_,f1,_,f3,f4,f5⟩:=hf b hb
  exact ⟨f3,f1,f4,f5⟩
 ·obtain ⟨o,es,ep,ho,r⟩:=hm
  exact ⟨o,es,ep,k _ o (fun z=>(hf _ z).2.1 rfl) ho,r⟩
 ·refine (I.hok b u e).stay (fun c v hc q=>k c v ?_ q) (fun _ q=>q) fun _ _ q=>q
  rcases hc with z | z
  ·rw [z];exact nit b u e
  ·exact nit c _ z
end
def Sk.v (k:Sk)(K:PySem.W.Frag)(H:Hp)(a:Addr)(xs:List V):Prop:=match k with
 | .l=>SqL K H a xs
 | .t=>SqT K H a xs
theorem Inv.sk {X:Cx}{pins:List (Addr×Obj)}{σ : St}{H:Hp}{s:Shared}{k:Sk}{a:Addr}{xs:List V}(I:Inv X pins σ H s)(h:k.v X.K H a xs):∃ its:List Value,Vals xs its∧k.sq s.heap a its.toArray:=by
 cases k with
 | l=>obtain ⟨its,r,p,_⟩:=I.list h;exact ⟨its,r,p.isList⟩
 | t=>obtain ⟨its,r,p,_⟩:=I.tuple h;exact ⟨its,r,p⟩
theorem Inv.sk_inj {X:Cx}{pins:List (Addr×Obj)}{σ : St}{H:Hp}{s:Shared}{k:Sk}{a:Addr}{xs ys:List V}(I:Inv X pins σ H s)(h:k.v X.K H a xs)(g:k.v X.K H a ys):xs=ys:=by
 cases k with
 | l=>exact I.list_inj h g
 | t=>exact I.tuple_inj h g
def Itz (K:PySem.W.Frag)(k1 k2:Sk)(l1 l2:Addr):It:=
  ⟨fun i H=>∃ xs ys x y,k1.v K H l1 xs∧k2.v K H l2 ys∧xs[i]?=some x∧ys[i]?=some y,
   fun i H v H'=>∃ p x y,H p=none∧v=.ref p∧H'=upd H p (.tup [x,y])∧(∀ xs,k1.v K H l1 xs→xs[i]?=some x)∧∀ ys,k2.v K H l2 ys→ys[i]?=some y,
   fun i H=>∃ xs ys,k1.v K H l1 xs∧k2.v K H l2 ys∧(xs.length≤i∨ys.length≤i),true⟩
def zipSt (k1 k2:Sk)(z TI TO i1 i2 l1 l2:Addr)(n:Nat)(h:Heap):Prop:=IsZip h z TI TO .none∧IsPair h TI (.ref i1) (.ref i2)∧(∃ a b,IsPair h TO a b)∧k1.it h i1 l1 n∧k2.it h i2 l2 n
theorem turn_zip {P:Program}{w:World}{K:PySem.W.Frag}{elts:List Expr}{kt:Nat}{pos:Pos}{k1 k2:Sk}{z TI TO i1 i2 l1 l2:Addr}(D:Zap z TI TO i1 i2)(o1:Off l1 z TO i1 i2)(o2:Off l2 z TO i1 i2) :
  Turn P w K (.Tuple elts kt pos) (Itz K k1 k2 l1 l2) [z,TI,TO,i1,i2] z (zipSt k1 k2 z TI TO i1 i2 l1 l2) where
 mem:=by simp
 obj:=fun i h st b hb=>by
  obtain ⟨gz,gI,⟨a,b',gO⟩,g1,g2⟩:=st
  simp only [List.mem_cons,List.not_mem_nil,or_false] at hb
  rcases hb with rfl | rfl | rfl | rfl | rfl
  ·exact ⟨_,gz,fun v y=>by cases y⟩
  ·exact ⟨_,gI,fun v y=>by cases y⟩
  ·exact ⟨_,gO,fun v y=>by cases y⟩
  ·obtain ⟨o,e,_,d⟩:=Sk.it_obj g1;exact ⟨o,e,fun v y=>by rw [d] at y;cases y⟩
  ·obtain ⟨o,e,_,d⟩:=Sk.it_obj g2;exact ⟨o,e,fun v y=>by rw [d] at y;cases y⟩
 keep:=fun i h h' st k=>by
  obtain ⟨gz,gI,⟨a,b,gO⟩,g1,g2⟩:=st
  exact ⟨k z (by simp) _ gz,k TI (by simp) _ gI,⟨a,b,k TO (by simp) _ gO⟩,Sk.it_at g1 fun o e=>k i1 (by simp) o e,Sk.it_at g2 fun o e=>k i2 (by simp) o e⟩
 item:=by
  intro X hP hw hK hc i pins s σ H E I hf st hg
  subst hP hw hK
  obtain ⟨gz,gI,⟨a,b,gO⟩,g1,g2⟩:=st
  obtain ⟨xs,ys,x,y,hx,hy,ex,ey⟩:=hg
  obtain ⟨its,r1,p1⟩:=I.sk hx
  obtain ⟨jts,r2,p2⟩:=I.sk hy
  obtain ⟨u,hu,ru⟩:=r1.get ex
  obtain ⟨v,hv,rv⟩:=r2.get ey
  refine zip_item D o1 o2 gz gI gO g1 g2 p1 p2 (x:=u) (y:=v) (by simpa using hu) (by simpa using hv) fun h1 z1 O1 g1' g2' T1 size1 all1=>⟨_,rfl,?_⟩
  have pz:s.heap.objs.size≠z:=Nat.ne_of_gt (Heap.lt_size gz)
  have lt:∀ b∈[z,TI,TO,i1,i2],s.heap.objs.size≠b:=fun b hb=>by
   simp only [List.mem_cons,List.not_mem_nil,or_false] at hb
   rcases hb with rfl | rfl | rfl | rfl | rfl
   ·exact pz
   ·exact Nat.ne_of_gt (Heap.lt_size gI)
   ·exact Nat.ne_of_gt (Heap.lt_size gO)
   ·obtain ⟨o,e,_⟩:=Sk.it_obj g1;exact Nat.ne_of_gt (Heap.lt_size e)
   ·obtain ⟨o,e,_⟩:=Sk.it_obj g2;exact Nat.ne_of_gt (Heap.lt_size e)
  have all:∀ c o,c∉[z,TI,TO,i1,i2]→s.heap.get? c=some o→h1.get? c=some o:=fun c o hc e=>
   all1 c o (fun q=>hc (by simp [q])) (fun q=>hc (by simp [q])) (fun q=>hc (by simp [q])) (fun q=>hc (by simp [q])) e
  refine wpAny_letOwnedTupleGo_zip (s:={ s with heap:=h1 }) z1 fun h2 z2 sb=>?_
  have fr:H s.heap.objs.size=none:=I.hok.fresh (Nat.le_refl _)
  have I1:Inv X pins σ (upd H s.heap.objs.size (.tup [x,y])) { s with heap:=s.heap.push { cls:=.type "tuple",data:=.seq #[u,v] } }:=
   I.laid (t':=s.toks) (fun b o e=>Heap.get?_push_of_some _ e) (Nat.le_refl _) ⟨(by show 2≤sizeLine;decide),[u,v],.cons ru (.cons rv .nil),⟨_,Heap.get?_push_size _ rfl,rfl,_,rfl⟩⟩
  have hf1:∀ b∈[z,TI,TO,i1,i2],FpOk X pins (upd H s.heap.objs.size (.tup [x,y])) b:=fun b hb=>⟨by rw [aP (Ne.symm (lt b hb))];exact (hf b hb).1,(hf b hb).2⟩
  have I2:Inv X pins σ (upd H s.heap.objs.size (.tup [x,y])) { s with heap:=h2 }:=by
   refine Inv.turnedL (s:={ s with heap:=s.heap.push { cls:=.type "tuple",data:=.seq #[u,v] } }) (h':=h2) (t':=s.toks) (ch:=[z,TI,TO,i1,i2]) I1 (fun b o hb e=>?_) hf1
   have bz:b≠z:=fun q=>hb (by simp [q])
   rcases Heap.get?_push_cases e with ⟨rfl,rfl⟩ | e'
   ·exact sb.extBut _ _ bz T1
   ·exact sb.extBut _ _ bz (all b o hb e')
  refine ⟨.ref s.heap.objs.size,_,I2,rfl,⟨s.heap.objs.size,x,y,fr,rfl,rfl,fun xs' q=>by rw [I.sk_inj q hx];exact ex,fun ys' q=>by rw [I.sk_inj q hy];exact ey⟩,?_,fun b hb=>(hf1 b hb).1⟩
  exact ⟨z2,sb.extBut _ _ D.a1 (all1 _ _ D.a1 D.a5 D.a6 D.a7 gI),⟨u,v,sb.extBut _ _ D.a2 O1⟩,Sk.it_at g1' fun o e=>sb.extBut _ o D.a3 e,Sk.it_at g2' fun o e=>sb.extBut _ o D.a4 e⟩
 done:=by
  intro X hP hw hK hc i pins s σ H E I hf st hg
  subst hP hw hK
  obtain ⟨gz,gI,⟨a,b,gO⟩,g1,g2⟩:=st
  obtain ⟨xs,ys,hx,hy,hend⟩:=hg
  obtain ⟨its,r1,p1⟩:=I.sk hx
  obtain ⟨jts,r2,p2⟩:=I.sk hy
  have l1:=r1.length
  have l2:=r2.length
  refine zip_stop (I.ok.hd (hc rfl)) D o1 o2 gz gI gO g1 g2 p1 p2 (hend.imp (fun q=>by simp;omega) fun q=>by simp;omega) fun h1 all1=>⟨rfl,I.turnedL (t':=s.toks) (ch:=[z,TI,TO,i1,i2]) (fun c o hc e=>?_) hf⟩
  exact all1 c o (fun q=>hc (by simp [q])) (fun q=>hc (by simp [q])) (fun q=>hc (by simp [q])) (fun q=>hc (by simp [q])) e
 self:=fun _ _ _ _ _ st h=>wpAny_pyIter_zip st.1 h
section
variable {X:Cx}{K:PySem.W.Frag}
def sqk (K:PySem.W.Frag)(H:Hp)(x:V)(k:Sk)(a:Addr):Prop:=x=.ref a∧∃ xs,k.v K H a xs
def iZip (K:PySem.W.Frag)(ta:TA):TI:=fun σ H R=>ta σ H fun vs H1=>∃ x y k1 k2 a b,vs=[x,y]∧sqk K H1 x k1 a∧sqk K H1 y k2 b∧R (Itz K k1 k2 a b) H1
theorem Sk.sq_lt {k:Sk}{h:Heap}{a:Addr}{its:Array Value}(x:k.sq h a its):a<h.objs.size:=by
 cases k with
 | l=>obtain ⟨o,e,_⟩:=x;exact Heap.lt_size e
 | t=>obtain ⟨o,e,_⟩:=x;exact Heap.lt_size e
theorem lJ {a b:Nat}(h:a≠b):(show Addr from a)≠(show Addr from b):=h
theorem zap_of (n:Nat):Zap (n+4) (n+2) (n+3) n (n+1) where
 a1:=lJ (show n+2≠n+4 by omega)
 a2:=lJ (show n+3≠n+4 by omega)
 a3:=lJ (show n≠n+4 by omega)
 a4:=lJ (show n+1≠n+4 by omega)
 a5:=lJ (show n+2≠n+3 by omega)
 a6:=lJ (show n+2≠n by omega)
 a7:=lJ (show n+2≠n+1 by omega)
 a8:=lJ (show n+3≠n by omega)
 a9:=lJ (show n+3≠n+1 by omega)
 b1:=lJ (show n≠n+1 by omega)
theorem off_of {a n:Nat}(h:a<n):Off a (n+4) (n+3) n (n+1) where
 z:=lJ (show a≠n+4 by omega)
 o:=lJ (show a≠n+3 by omega)
 i:=lJ (show a≠n by omega)
 j:=lJ (show a≠n+1 by omega)
theorem ge_of {n c:Nat}(h:c∈([n+4,n+2,n+3,n,n+1]:List Nat)):n≤c:=by
 simp only [List.mem_cons,List.not_mem_nil,or_false] at h
 omega
theorem pi_zip {e1 e2:Expr}{ta:TA}{p pos tpos:Pos}{elts:List Expr}{kt:Nat}(hg:Gl X "zip")(hm:X.mg "zip" = none)(ha:PA X [e1,e2] ta)
  (hs:starEach [e1,e2] X.env=(false,eval e1 X.env)::starEach [e2] X.env:=by rfl) (hpl:(backTo pos (starEach [e2] X.env)).any (·.1)=false:=by rfl) :
  PI X (.Tuple elts kt tpos) (.Call (.Name "zip" p) [e1,e2] [] pos) (iZip X.K ta):=by
 intro pins s σ H R I h
 refine wpAny_Call_Name_kw (qZ I hg hm boot_zip ?_ (by decide) (by decide))
 refine PyProof.Rows.callWith_type1 (thn (ha pos pins s σ H _ I h) fun us s1 ⟨vs,H1,I1,r1,q1⟩=>?_) hs hpl
 obtain ⟨x,y,k1,k2,a,b,ev,⟨ex,xs,hx⟩,⟨ey,ys,hy⟩,q⟩:=q1
 subst ev ex ey
 obtain ⟨u1,u2,eu,ru1,ru2⟩:=vals2 r1
 subst eu
 cases ru1
 cases ru2
 obtain ⟨its,r1,p1⟩:=I1.sk hx
 obtain ⟨jts,r2,p2⟩:=I1.sk hy
 have la:=Sk.sq_lt p1
 have lb:=Sk.sq_lt p2
 refine call_zip p1 p2 fun h' gz gI gO g1 g2 size all=>?_
 refine wpAny_pyIter_zip gz ?_
 have I2:Inv X pins σ H1 { s1 with heap:=h' }:=I1.kept (t':=s1.toks) all
 generalize hn:s1.heap.objs.size=n at gz gI gO g1 g2 size la lb ⊢
 refine ⟨n+4,[n+4,n+2,n+3,n,n+1],_,_,H1,rfl,I2,turn_zip (zap_of n) (off_of la) (off_of lb),⟨gz,gI,⟨_,_,gO⟩,g1,g2⟩,fun c hc=>?_,q⟩
 have hc':n≤c:=ge_of hc
 exact I1.fpOk (by rw [hn];exact hc') (I1.hok.fresh (by rw [hn];exact hc'))
def rD:List W→List W→List W
 | a::as,b::bs=>.tup [a,b]::rD as bs
 | _,_=>[]
theorem zipW_get:∀ {as bs:List W} {i:Nat} {w:W},(rD as bs)[i]?=some w→∃ a b,as[i]?=some a∧bs[i]?=some b∧w=.tup [a,b]
 | [],_,_,_,e=>by simp [rD] at e
 | _::_,[],_,_,e=>by simp [rD] at e
 | a::as,b::bs,0,w,e=>by
  have e:some (W.tup [a,b])=some w:=e
  exact ⟨a,b,rfl,rfl,(Option.some.inj e).symm⟩
 | a::as,b::bs,i+1,w,e=>by
  obtain ⟨x,y,h1,h2,h3⟩:=zipW_get (as:=as) (bs:=bs) (i:=i) (w:=w) (by simpa [rD] using e)
  exact ⟨x,y,by simpa using h1,by simpa using h2,h3⟩
theorem zipW_len:∀ {as bs:List W},(rD as bs).length=min as.length bs.length
 | [],bs=>by simp [rD]
 | _::_,[]=>by simp [rD]
 | a::as,b::bs=>by rw [rD,List.length_cons,zipW_len,List.length_cons,List.length_cons];omega
def rN:W→Option (List W)
 | .tup ws=>some ws
 | .lst ws=>some ws
 | .kls ws=>some ws
 | _=>none
theorem z7 {H:Hp}{μ : Mu}{w:W}{v:V}{ws:List W}(r:Rep K H μ w v)(e:rN w=some ws):∃ k a,v=.ref a∧∀ {H2:Hp} {μ2:Mu},Ext K H μ H2 μ2→∃ xs,Sk.v k K H2 a xs∧aN K H2 μ2 ws xs:=by
 cases w with
 | tup us=>
  cases (show some us=some ws from e)
  have r0:=r
  rw [Rep] at r
  obtain ⟨p,xs,ev,hs,rs⟩:=r
  subst ev
  refine ⟨.t,p,rfl,fun {H2 μ2} x=>?_⟩
  have r2:=x.r _ _ r0
  rw [Rep] at r2
  obtain ⟨q,ys,ev,hs,rs⟩:=r2
  cases ev
  exact ⟨ys,hs,rs⟩
 | lst us=>
  cases (show some us=some ws from e)
  have r0:=r
  rw [Rep] at r
  obtain ⟨p,xs,ev,hs,rs⟩:=r
  subst ev
  refine ⟨.l,p,rfl,fun {H2 μ2} x=>?_⟩
  have r2:=x.r _ _ r0
  rw [Rep] at r2
  obtain ⟨q,ys,ev,hs,rs⟩:=r2
  cases ev
  exact ⟨ys,hs.sq,rs⟩
 | kls us=>
  cases (show some us=some ws from e)
  have r0:=r
  rw [Rep] at r
  obtain ⟨p,xs,ev,hs,rs⟩:=r
  subst ev
  refine ⟨.l,p,rfl,fun {H2 μ2} x=>?_⟩
  have r2:=x.r _ _ r0
  rw [Rep] at r2
  obtain ⟨q,ys,ev,hs,rs⟩:=r2
  cases ev
  exact ⟨ys,hs.sq,rs⟩
 | _=>cases e
def zipS (h:Gh)(x y:W):Option Src:=match rN x,rN y with
 | some as,some bs=>some ⟨rD as bs,none⟩
 | none,some bs=>(match x with
  | .loc n=>(match h.c n with
   | some (.lst as)=>some ⟨rD as bs,some (n,as)⟩
   | _=>none)
  | _=>none)
 | _,_=>none
theorem stay_at {H:Hp}{μ : Mu}{h:Gh}{w:W}{v:V}{ws:List W}{o:Option (Nat×List W)}(R:Rel K μ H h)(r:Rep K H μ w v)(e:(rN w=some ws∧o=none)∨∃ n,w=.loc n∧h.c n=some (.lst ws)∧o=some (n,ws)) :
  ∃ k a,v=.ref a∧∀ {H2:Hp} {μ2:Mu} {h2:Gh},Ext K H μ H2 μ2→Rel K μ2 H2 h2→Src.chk ⟨ws,o⟩ h2→∃ xs,Sk.v k K H2 a xs∧aN K H2 μ2 ws xs:=by
 rcases e with ⟨e,rfl⟩ | ⟨n,rfl,ec,rfl⟩
 ·obtain ⟨k,a,ev,f⟩:=z7 r e
  exact ⟨k,a,ev,fun x _ _=>f x⟩
 ·have r0:=r
  rw [Rep] at r
  obtain ⟨p,ev,hm⟩:=r
  subst ev
  refine ⟨.l,p,rfl,fun {H2 μ2 h2} x R2 ck=>?_⟩
  have r2:=x.r _ _ r0
  rw [Rep] at r2
  obtain ⟨q,eq,hm2⟩:=r2
  cases eq
  obtain ⟨p',xs,hm',hx,rs⟩:=R2.lstAt (show h2.c n=some (.lst ws) from ck)
  have ep:p'=p:=by rw [hm2] at hm';exact (Option.some.inj hm').symm
  subst ep
  exact ⟨xs,.of hx,rs⟩
theorem zipS_ok {h:Gh}{x y:W}{s:Src}(e:zipS h x y=some s):∃ as bs o,s=⟨rD as bs,o⟩∧((rN x=some as∧o=none)∨∃ n,x=.loc n∧h.c n=some (.lst as)∧o=some (n,as))∧rN y=some bs:=by
 unfold zipS at e
 split at e
 ·rename_i as bs ea eb
  exact ⟨as,bs,none,(Option.some.inj e).symm,.inl ⟨ea,rfl⟩,eb⟩
 ·rename_i bs ea eb
  split at e
  ·split at e
   ·rename_i n _ as ec
    exact ⟨as,bs,_,(Option.some.inj e).symm,.inr ⟨n,rfl,ec,rfl⟩,eb⟩
   ·cases e
  ·cases e
 ·cases e
def nZip (ma:MA):MI:=fun σ h R=>ma σ h fun ws h1=>match ws with
 | [x,y]=>(match zipS h1 x y with
  | some s=>R s h1
  | none=>False)
 | _=>False
theorem di_zip {e1 e2:Expr}{mr:MA}{p pos tpos:Pos}{elts:List Expr}{kt:Nat}(hg:Gl X "zip")(hm:X.mg "zip" = none)(ha:DAs X [e1,e2] mr)
  (hs:starEach [e1,e2] X.env=(false,eval e1 X.env)::starEach [e2] X.env:=by rfl) (hpl:(backTo pos (starEach [e2] X.env)).any (·.1)=false:=by rfl) :
  DIt X (.Tuple elts kt tpos) (.Call (.Name "zip" p) [e1,e2] [] pos) (nZip mr):=PI.of (pi_zip hg hm ha hs hpl) fun σ H Q ⟨μ,h,σw,Rw,R,S,m,k⟩=>by
 refine ⟨μ,h,σw,_,R,S,m,fun vs H1 ⟨μ1,ws,h1,e1,R1,r1,m1⟩=>?_⟩
 dsimp only at m1
 split at m1
 ·split at m1
  ·rename_i x y _ s es
   obtain ⟨as,bs,o,rfl,ea,eb⟩:=zipS_ok es
   obtain ⟨v,u,ev,rv,ru⟩:=reps2 r1
   obtain ⟨ka,a,e3,fa⟩:=stay_at R1 rv ea
   obtain ⟨kb,b,e4,fb⟩:=z7 ru eb
   have ck1:Src.chk ⟨as,o⟩ h1:=by
    rcases ea with ⟨_,rfl⟩ | ⟨n,_,ec,rfl⟩
    ·exact trivial
    ·exact ec
   obtain ⟨xs,hxs,_⟩:=fa .refl R1 ck1
   obtain ⟨ys,hys,_⟩:=fb .refl
   refine ⟨v,u,ka,kb,a,b,ev,⟨e3,xs,hxs⟩,⟨e4,ys,hys⟩,k _ _ ⟨μ1,⟨rD as bs,o⟩,h1,e1,R1,?_,m1⟩⟩
   intro H2 μ2 h2 i e2 R2 ck
   obtain ⟨xs2,hxs2,rxs⟩:=fa e2 R2 ck
   obtain ⟨ys2,hys2,rys⟩:=fb e2
   refine ⟨fun w ew=>?_,fun hl=>⟨xs2,ys2,hxs2,hys2,?_⟩⟩
   ·obtain ⟨p1,p2,ep1,ep2,rfl⟩:=zipW_get ew
    obtain ⟨q1,eq1,rq1⟩:=rxs.get ep1
    obtain ⟨q2,eq2,rq2⟩:=rys.get ep2
    refine ⟨⟨xs2,ys2,q1,q2,hxs2,hys2,eq1,eq2⟩,fun x' H3 ⟨pa,x1,x2,hp,ex',eH3,f1,f2⟩=>?_⟩
    have g1:=f1 xs2 hxs2
    have g2:=f2 ys2 hys2
    rw [eq1] at g1
    rw [eq2] at g2
    cases g1
    cases g2
    subst ex' eH3
    exact ⟨μ2,(Ex.laid hp).ext,R2.laid hp,.tupNew hp (.cons rq1 (.one rq2))⟩
   ·have l1:=rxs.len
    have l2:=rys.len
    have:min as.length bs.length≤i:=by rw [←zipW_len];exact hl
    omega
  ·exact m1.elim
 ·exact m1.elim
end
end L2
namespace L2
open PySem PySem.Spec PyProof.Rows
section
variable {X:Cx}{K:PySem.W.Frag}
theorem ints_at:∀ {ns:List Int} {its:List Value} {i:Nat} {v:Value},Vals (ns.map V.int) its→its[i]?=some v→∃ t,v=.int (ns.getD i 0) t
 | [],_,_,_,.nil,e=>by simp at e
 | n::ns,_,0,_,.cons r _,e=>by
  simp at e
  subst e
  exact r
 | _::ns,_,i+1,v,.cons _ t,e=>by
  obtain ⟨t',h⟩:=ints_at (i:=i) (v:=v) t (by simpa using e)
  exact ⟨t',by simpa using h⟩
theorem qN (ns:List Int):∀ k,k≤ns.length→preSum (fun i=>ns.getD i 0) k=(ns.take k).sum
 | 0,_=>by simp [preSum]
 | k+1,h=>by
  rw [preSum,qN ns k (by omega),List.take_succ,List.sum_append,List.getElem?_eq_getElem (by omega),List.getD_eq_getElem?_getD,List.getElem?_eq_getElem (by omega)]
  show _=_+(ns[k]+0)
  rw [Int.add_zero]
  rfl
theorem call_sumI (hc:X.calm=true):lO X (.builtin "sum") (fun xs H Q=>∃ (p:Addr) (ns:List Int),xs=[.ref p]∧SqL X.K H p (ns.map V.int)∧Q (.int ns.sum) H):=by
 intro pins s σ H xs us Q I r ⟨p,ns,e,hS,q⟩
 subst e
 obtain ⟨u,rfl,ru⟩:=vals1 r
 cases ru
 obtain ⟨its,rv,pl,hz⟩:=I.list hS
 have hlen:its.length=ns.length:=by rw [←rv.length,List.length_map]
 have hl:=pl.isList
 have hlt:p<s.heap.objs.size:=by obtain ⟨_,e,_⟩:=hl;exact Heap.lt_size e
 refine call_sum_walkAnyS (wpAny_pyIter_list hl ?_)
 refine ⟨s.heap.objs.size,[s.heap.objs.size,p],[s.heap.objs.size],_,its.toArray.size,_,_,fun i=>ns.getD i 0,rfl,(Walks.list (A:=X.A.in1) (I.ok.hd hc) _ p (Nat.ne_of_lt hlt) its.toArray).toS,
  ⟨⟨_,Heap.get?_push_size _ rfl,rfl,rfl⟩,hl.push _⟩,fun b hb=>?_,fun i v hP=>ints_at rv (by simpa using hP),fun s' t' hm=>?_⟩
 ·rw [Heap.size_push]
  simp only [List.mem_cons,List.not_mem_nil,or_false] at hb
  rcases hb with rfl | rfl
  ·exact Nat.lt_succ_self _
  ·exact Nat.lt_succ_of_lt hlt
 ·have e:preSum (fun i=>ns.getD i 0) its.toArray.size=ns.sum:=by rw [List.size_toArray,hlen,qN ns _ (Nat.le_refl _),List.take_length]
  rw [e]
  obtain ⟨hh,gg,dd,tt,oo⟩:=s'
  have hg:gg=s.gens:=hm.gens
  have hd:dd=s.drawn:=hm.drawn
  have ho:oo=s.os:=hm.os
  subst hg hd ho
  refine ⟨.int ns.sum,H,I.kept (h':=hh) (t':=tt) (fun b x e=>?_),⟨t',rfl⟩,q⟩
  exact hm.heap b x (fun hm=>by rw [List.mem_singleton.mp hm] at e;exact Nat.lt_irrefl _ (Heap.lt_size e)) (Heap.get?_push_of_some _ e)
def zQ:List W→Option (List Int)
 | []=>some []
 | .int i::ws=>(zQ ws).map (i::·)
 | _=>none
theorem vC {H:Hp}{μ : Mu}:∀ {ws:List W} {xs:List V} {ns:List Int},aN K H μ ws xs→zQ ws=some ns→xs=ns.map V.int
 | [],xs,ns,r,e=>by
  rw [aN] at r
  cases (show some []=some ns from e)
  exact r
 | w::ws,xs,ns,r,e=>by
  rw [aN] at r
  obtain ⟨v,vr,ev,ra,r⟩:=r
  cases w with
  | int b=>
   rw [Rep] at ra
   rw [zQ] at e
   cases q:zQ ws with
   | none=>rw [q] at e;cases e
   | some cs=>
    rw [q] at e
    cases (show some (b::cs)=some ns from e)
    rw [ev,ra,vC r q]
    rfl
  | _=>cases e
def kSum:MC:=fun ws h Q=>match ws with
 | [w]=>(match fC h w with
  | some us=>(match zQ us with
   | some ns=>Q (.int ns.sum) h
   | none=>False)
  | none=>False)
 | _=>False
theorem c_sum (hc:X.calm=true):lg X (.builtin "sum") kSum:=⟨_,call_sumI hc,by
 intro H μ h vs ws Qw Q R r m k
 unfold kSum at m
 split at m
 ·split at m
  ·split at m
   ·rename_i w _ us ev _ ns eb
    obtain ⟨v,e,rv⟩:=mR r
    obtain ⟨p,ys,ex,hs,rs⟩:=dh R rv ev
    subst e ex
    exact ⟨p,ns,rfl,by rw [←vC rs eb];exact hs,k _ _ (.int R m)⟩
   ·exact m.elim
  ·exact m.elim
 ·exact m.elim⟩
end
end L2
namespace L2
open PySem PySem.Spec PyProof.Rows
theorem rv_owner:Manifest.owners.lookup (String.ofList ['d','e','s','r','e','v','e','r'].reverse)=some Manifest.sig_reversed:=by kernel_rfl
theorem rv_mro:mroOf (.type "reversed")=pure [.type "reversed",.type "object"]:=by
 rw [mroOf_type]
 kernel_rfl
theorem rv_new:typeLookup (.type "reversed") "__new__" = pure (some (.builtin "reversed.__new__")):=by
 rw [typeLookup_type,builtinLookup_eq_fast]
 kernel_rfl
theorem dI:Slot "reversed" "__next__" "reversed.__next__":=
  .of (owner := "reversed") (n := "__next__")
    (by rw [typeLookup_type,builtinLookup_eq_fast]
        kernel_rfl)
    (by decide +kernel) (by decide +kernel)
    (by decide +kernel)
    (by first
        | exact .inl (by decide +kernel)
        | exact .inr (by decide +kernel))
    (by rw [isSubtype_type]
        kernel_rfl)
theorem mV:entryFor table "reversed.__next__" = some Builtin.«reversed.__next__»:=entryFor_of_tree (by kernel_rfl)
theorem n6 (a:Value):argsOk "reversed.__next__" ⟨[a],[]⟩:=by
 unfold argsOk
 rw [signature?_of (id := "reversed.__next__") (n:=['_','_','t','x','e','n','_','_']) (o:=['d','e','s','r','e','v','e','r']) (by kernel_rfl) rv_owner]
 kernel_rfl
theorem nY:Slot "reversed" "__iter__" "reversed.__iter__":=
  .of (owner := "reversed") (n := "__iter__")
    (by rw [typeLookup_type,builtinLookup_eq_fast]
        kernel_rfl)
    (by decide +kernel) (by decide +kernel)
    (by decide +kernel)
    (by first
        | exact .inl (by decide +kernel)
        | exact .inr (by decide +kernel))
    (by rw [isSubtype_type]
        kernel_rfl)
theorem xU (a:Value):argsOk "reversed.__iter__" ⟨[a],[]⟩:=by
 unfold argsOk
 rw [signature?_of (id := "reversed.__iter__") (n:=['_','_','r','e','t','i','_','_']) (o:=['d','e','s','r','e','v','e','r']) (by kernel_rfl) rv_owner]
 kernel_rfl
theorem uO:entryFor table "reversed.__iter__" = some Builtin.«dict_keyiterator.__iter__»:=
  entryFor_alias (id' := "dict_keyiterator.__iter__") (by kernel_rfl)
    (by first
        | rfl
        | decide +kernel
        | (unfold String.splitOn;simp +decide [String.splitOnAux]))
    (by decide +kernel) (by kernel_rfl)
theorem yL (a:Value):checkTypeCall "reversed" ⟨[a],[]⟩=pure ():=by kernel_rfl
theorem rv_newCall (a:Value):checkBuiltinCall "reversed.__new__" ⟨[.type "reversed",a],[]⟩=pure ():=by kernel_rfl
theorem xG:entryFor table "reversed.__new__" = some Builtin.«reversed.__new__»:=entryFor_of_tree (by kernel_rfl)
theorem rv_sub:isSubtype (.type "reversed") (.type "reversed")=pure true:=by
 rw [isSubtype_type]
 kernel_rfl
theorem zp:typeLookup (.type "tuple") "__reversed__" = pure none:=by
 rw [typeLookup_type,builtinLookup_eq_fast]
 kernel_rfl
theorem zT:isSubtype (.type "tuple") (.type "dict")=pure false:=by
 rw [isSubtype_type]
 kernel_rfl
end L2
namespace L2
open PySem PySem.Spec PyProof.Rows
def rvObj (l:Addr)(i:Int):Obj:={ cls:=.type "reversed",data:=.fields #[.ref l,rawInt i] }
def RvAt (h:Heap)(a l:Addr)(i:Int):Prop:=∃ o,h.get? a=some o∧o.cls=.type "reversed"∧o.data=.fields #[.ref l,rawInt i]
section
variable {P:Program}{w:World}{A:Around}{E:Value→Shared→Prop}{s:Shared}
theorem RvAt.typeIs {a l:Addr}{i:Int}(x:RvAt s.heap a l i):s.TypeIs (.ref a) "reversed":=let ⟨o,g,c,_⟩:=x;⟨o,g,c⟩
theorem RvAt.at {h h':Heap}{a l:Addr}{i:Int}(x:RvAt h a l i)(e:∀ o,h.get? a=some o→h'.get? a=some o):RvAt h' a l i:=let ⟨o,g,r⟩:=x;⟨o,e _ g,r⟩
theorem rv_class (a:Value):Builtin.SmallTypes.newClass "reversed" ⟨[.type "reversed",a],[]⟩=pure (.type "reversed",[a]):=by
 unfold Builtin.SmallTypes.newClass
 simp only [isType,rv_sub,pure_bind,Bool.not_true,Bool.false_eq_true]
 rfl
theorem rv_init:Slot "reversed" "__init__" "object.__init__":=
  .of (owner := "object") (n := "__init__")
    (by rw [typeLookup_type,builtinLookup_eq_fast]
        kernel_rfl)
    (by decide +kernel) (by decide +kernel)
    (by decide +kernel)
    (by first
        | exact .inl (by decide +kernel)
        | exact .inr (by decide +kernel))
    (by rw [isSubtype_type]
        kernel_rfl)
theorem rv_called:TypeCalled "reversed" "reversed.__new__" "object.__init__":=
  ⟨by decide +kernel,by decide +kernel,⟨_,_,rv_mro⟩,madeBy_type rv_mro rv_new (by decide +kernel),by decide +kernel,
    by rw [isSubtype_type]
       kernel_rfl,rv_init⟩
theorem rv_make (l:Addr)(xs:Array Value):Meets (Builtin.«reversed.__new__» ⟨[.type "reversed",.ref l],[]⟩) (fun _ R s=>IsTup s.heap l xs∧(xs.size:Int)<2^63 ∧
   R (.ok (.ret (.ref s.heap.objs.size))) { s with heap:=s.heap.push (rvObj l ((xs.size:Int) - 1)),toks:=s.toks+1+1 }):=by
 refine .of_wp fun prog w A R s ⟨ht,hfit,q⟩=>?_
 unfold Builtin.«reversed.__new__»
 refine wpAny_bind (wpAny_of_eq (rv_class _) ?_)
 try dsimp only
 refine wpAny_bind (wpAny_of_eq (a:=()) (by rfl) ?_)
 refine wpAny_bind (wpAny_of_eq (a:=()) (by rfl) ?_)
 try dsimp only
 refine wpAny_bind (wpAny_specialOf ht.typeIs zp ?_)
 try dsimp only
 refine wpAny_bind ?_
 refine wpAny_bind (wpAny_isInstance (U := "dict") (b:=false) ht.typeIs zT ?_)
 rw [if_neg Bool.false_ne_true]
 refine wpAny_bind (wpAny_specialOf ht.typeIs PyProof.Rows.slot_tuple_getitem.lookup ?_)
 show wpAny _ _ (if (_:Bool)=true then pure true else _) _ _ _
 rw [if_pos (by decide +kernel)]
 refine wpAny_pure ?_
 rw [if_neg (by decide)]
 refine wpAny_bind (len_tuple ht hfit ?_)
 refine wpAny_bind (wpAny_of_eq (a:=some (xs.size:Int)) (by rfl) ?_)
 try dsimp only
 refine wpAny_bind ?_
 show wpAny _ _ (newObj (.type "reversed") (.fields #[.ref l,rawInt ((xs.size:Int) - 1)])) _ _ _
 exact wpAny_newObj_type (wpAny_pure ⟨_,rfl,q⟩) (by size_fits)
theorem call_rvT {l:Addr}{xs:Array Value}{Q:Value→Shared→Prop}(ht:IsTup s.heap l xs)(hfit:(xs.size:Int)<2^63)
  (q:Q (.ref s.heap.objs.size) { s with heap:=s.heap.push (rvObj l ((xs.size:Int) - 1)),toks:=s.toks+1+1 }):wpAny (model P w) A (call (.type "reversed") [.ref l]) Q E s:=by
 refine callType_new rv_called (by decide) (yL _) (rv_newCall _) (fun obj=>PySem.F.args_object_init_2 obj _) xG (rv_make l xs) ⟨ht,hfit,?_⟩
 exact ⟨⟨_,Heap.get?_push_size _ rfl,rfl⟩,q⟩
theorem next_rvT {it l:Addr}{i:Nat}{xs:Array Value}{x:Value}{Q:Option Value→Shared→Prop}(hi:RvAt s.heap it l (i:Int))(ht:IsTup s.heap l xs)(hfit:(xs.size:Int)<2^63)(hx:xs[i]?=some x)
  (q:∀ h',RvAt h' it l ((i:Int) - 1)→Heap.SameBut it s.heap h'→Q (some x) { s with heap:=h',toks:=s.toks+1 }):wpAny (model P w) A (pyNext (.ref it)) Q E s:=by
 obtain ⟨o,go,gc,gd⟩:=id hi
 have hlt:i<xs.size:=(Array.getElem?_eq_some_iff.mp hx).1
 unfold pyNext
 refine wpAny_bind (wpAny_attempt (wpAny_callSpecial?_slot (name:=Str.ofString "__next__") hi.typeIs dI
  (wpAny_call_entry dI hi.typeIs mV ?_ (n6 _))))
 unfold Builtin.«reversed.__next__»
 refine wpAny_bind (wpAny_of_eq (a:=(Value.ref it,([]:List Value))) (by rfl) ?_)
 try dsimp only
 refine wpAny_bind (wpAny_field go gd (x:=.ref l) rfl ?_)
 refine wpAny_bind (wpAny_field go gd (x:=rawInt (i:Int)) rfl ?_)
 show wpAny _ _ (if (i:Int)<0 then _ else _) _ _ s
 rw [if_neg (by omega)]
 refine wpAny_bind (wpAny_specialOf ht.typeIs PyProof.Rows.slot_tuple_getitem.lookup ?_)
 rw [if_neg (by decide)]
 refine wpAny_bind (wpAny_mkInt ?_)
 refine wpAny_bind (wpAny_attempt (getItem_tuple (s:={ s with toks:=s.toks+1 }) ht (by omega) (by omega) (j:=i) ?_ hx ?_))
 ·have e:=seqIndex_of (k:=(i:Int)) (n:=xs.size) (by omega) (by omega)
  rw [Int.toNat_natCast] at e
  exact e
 try dsimp only
 refine wpAny_bind (wpAny_field go gd (x:=rawInt (i:Int)) rfl ?_)
 refine wpAny_bind (wpAny_setField go gd (by simp) ?_)
 refine wpAny_pure ⟨x,rfl,wpAny_pure (q _ ?_ (Heap.SameBut.update ..))⟩
 exact ⟨_,Heap.get?_update_self _ go (Obj.isFreed_of_fields (Obj.data_mapFields gd _)),(Obj.cls_mapFields ..).trans gc,by rw [Obj.data_mapFields gd];simp⟩
theorem yu {it l:Addr}{Q:Option Value→Shared→Prop}(hh:A.handled=none)(hi:RvAt s.heap it l (-1))
  (q:∀ h',Heap.ExtBut it s.heap h'→Q none { s with heap:=h' }):wpAny (model P w) A (pyNext (.ref it)) Q E s:=by
 obtain ⟨o,go,gc,gd⟩:=id hi
 unfold pyNext
 refine wpAny_bind (wpAny_attempt (wpAny_callSpecial?_slot (name:=Str.ofString "__next__") hi.typeIs dI
  (wpAny_call_entry dI hi.typeIs mV ?_ (n6 _))))
 unfold Builtin.«reversed.__next__»
 refine wpAny_bind (wpAny_of_eq (a:=(Value.ref it,([]:List Value))) (by rfl) ?_)
 try dsimp only
 refine wpAny_bind (wpAny_field go gd (x:=.ref l) rfl ?_)
 refine wpAny_bind (wpAny_field go gd (x:=rawInt (-1)) rfl ?_)
 show wpAny _ _ (if (-1:Int)<0 then _ else _) _ _ s
 rw [if_pos (by decide)]
 refine wpAny_bind (wpAny_rule ?_)
 refine wpAny_bind ?_
 refine wpAny_bind (wpAny_setField go gd (by simp) ?_)
 have g1:=Heap.get?_update_self (fun o=>o.mapFields fun x=>x.setIfInBounds 1 (rawInt (-1))) go (Obj.isFreed_of_fields (Obj.data_mapFields gd _))
 refine wpAny_setField g1 (Obj.data_mapFields gd _) (by simp) ?_
 refine wpAny_bind ?_
 show wpAny _ _ (newExc (.type "StopIteration") [] >>= fun e0=>raiseNew e0) _ _ _
 refine wpAny_bind ?_
 simp only [newExc,newTuple,raiseNew]
 refine wpAny_bind (wpAny_newObj_type (by
  refine wpAny_bind (m:=firstArgMember _ _) (wpAny_of_eq (a:=Value.none) (by rfl) (wpAny_newObj_type ?_ (by size_fits)))
  refine wpAny_bind (wpAny_handled (by
   first
    | rw [show A.in1.handled=none from hh]
    | rw [hh]
   refine wpAny_bind (wpAny_pure (wpAny_throw ?_))
   refine wpAny_bind (wpAny_isInstance (T := "StopIteration") (b:=true) ⟨_,Heap.get?_push_size _ rfl,rfl⟩ isSubtype_stop (wpAny_pure (q _ ?_)))
   intro b ob hb eb
   exact Heap.get?_push_of_some _ (Heap.get?_push_of_some _ ((Heap.SameBut.update ..).extBut b ob hb ((Heap.SameBut.update ..).extBut b ob hb eb))))) ) (by size_fits))
theorem iter_rvT {it l:Addr}{i:Int}{Q:Value→Shared→Prop}(hi:RvAt s.heap it l i)(q:Q (.ref it) s):wpAny (model P w) A (pyIter (.ref it)) Q E s:=by
 refine wpAny_pyIter_slot hi.typeIs nY (wpAny_call_entry nY hi.typeIs uO ?_ (xU _))
 show wpAny _ _ (ret (.ref it)) _ _ s
 exact wpAny_pure ⟨_,rfl, "reversed",_,hi.typeIs,dI.lookup,q⟩
end
end L2
namespace L2
open PySem PySem.Spec PyProof.Rows
def Itv (K:PySem.W.Frag)(n:Nat)(l:Addr):It:=
  ⟨fun i H=>i<n∧∃ xs x,SqT K H l xs∧xs.length=n∧xs[n - 1 - i]?=some x,
   fun i H v H'=>H'=H∧∀ xs,SqT K H l xs→xs[n - 1 - i]?=some v,
   fun i _=>n≤i,true⟩
def rvSt (n:Nat)(it l:Addr)(i:Nat)(h:Heap):Prop:=i≤n∧RvAt h it l ((n:Int) - 1 - (i:Int))
theorem turn_rev {P:Program}{w:World}{K:PySem.W.Frag}{tg:Expr}{n:Nat}{it l:Addr}(hne:l≠it):Turn P w K tg (Itv K n l) [it] it (rvSt n it l) where
 mem:=by simp
 obj:=fun i h st b hb=>by
  obtain ⟨_,o,g,_,d⟩:=st
  rw [List.mem_singleton] at hb
  subst hb
  exact ⟨o,g,fun v y=>by rw [d] at y;cases y⟩
 keep:=fun i h h' st k=>⟨st.1,st.2.at fun o e=>k it (by simp) o e⟩
 item:=by
  intro X hP hw hK hc i pins s σ H E I hf st hg
  subst hP hw hK
  obtain ⟨hin,xs,x,hx,hlen,ex⟩:=hg
  obtain ⟨its,r,pl,hz⟩:=I.tuple hx
  obtain ⟨u,hu,ru⟩:=r.get ex
  have hl:=r.length
  have e1:(n:Int) - 1 - (i:Int)=((n - 1 - i:Nat):Int):=by omega
  have hi:=st.2
  rw [e1] at hi
  have hn:=ou
  refine next_rvT hi pl (by simp only [List.size_toArray];omega) (x:=u) (by simpa using hu) fun h1 g1 sb=>⟨u,rfl,?_⟩
  have e2:((n - 1 - i:Nat):Int) - 1=(n:Int) - 1 - ((i+1:Nat):Int):=by omega
  rw [e2] at g1
  obtain ⟨o,go,gc,gd⟩:=id g1
  refine go_of (s:={ s with heap:=h1,toks:=s.toks+1 }) go gc gd (by decide) ⟨x,H,I.turnedL (t':=s.toks+1) (ch:=[it]) (fun b o hb e=>sb.extBut b o (fun q=>hb (by simp [q])) e) hf,ru,⟨rfl,fun ys hy=>?_⟩,⟨hin,g1⟩,fun b hb=>(hf b hb).1⟩
  rw [I.tuple_inj hy hx]
  exact ex
 done:=by
  intro X hP hw hK hc i pins s σ H E I hf st hg
  subst hP hw hK
  have hi:=st.2
  have e1:(n:Int) - 1 - (i:Int) = -1:=by
   have:=st.1
   have:n≤i:=hg
   omega
  rw [e1] at hi
  exact yu (I.ok.hd (hc rfl)) hi fun h1 eb=>⟨rfl,I.turnedL (t':=s.toks) (ch:=[it]) (fun b o hb e=>eb b o (fun q=>hb (by simp [q])) e) hf⟩
 self:=fun _ _ _ _ _ st h=>iter_rvT st.2 h
section
variable {X:Cx}{K:PySem.W.Frag}
end
end L2
namespace L2
open PySem PySem.Spec PyProof.Rows
section
variable {X:Cx}
def mPar3 (i j k:Nat)(ta:MA):MS:=fun D σ h=>ta σ h fun ws h1=>match ws with
 | [a,b,c]=>D.nx (((σ.set i (some a)).set j (some b)).set k (some c)) h1
 | _=>False
end
end L2
namespace L2
open PySem PySem.Spec PyProof.Rows
def Itw (K:PySem.W.Frag)(n:Nat)(l:Addr):It:=
  ⟨fun i H=>i<n∧∃ xs x,SqL K H l xs∧xs.length=n∧xs[n - 1 - i]?=some x,
   fun i H v H'=>H'=H∧∀ xs,SqL K H l xs→xs[n - 1 - i]?=some v,
   fun i _=>n≤i,true⟩
def rwSt (n:Nat)(it l:Addr)(i:Nat)(h:Heap):Prop:=i≤n∧h.IsRevIter it l ((n:Int) - 1 - (i:Int))
theorem turn_revL {P:Program}{w:World}{K:PySem.W.Frag}{tg:Expr}{n:Nat}{it l:Addr}(hne:l≠it):Turn P w K tg (Itw K n l) [it] it (rwSt n it l) where
 mem:=by simp
 obj:=fun i h st b hb=>by
  obtain ⟨_,o,g,_,d⟩:=st
  rw [List.mem_singleton] at hb
  subst hb
  exact ⟨o,g,fun v y=>by rw [d] at y;cases y⟩
 keep:=fun i h h' st k=>⟨st.1,st.2.at fun o e=>k it (by simp) o e⟩
 item:=by
  intro X hP hw hK hc i pins s σ H E I hf st hg
  subst hP hw hK
  obtain ⟨hin,xs,x,hx,hlen,ex⟩:=hg
  obtain ⟨its,r,pl,hz⟩:=I.list hx
  obtain ⟨u,hu,ru⟩:=r.get ex
  have hl:=r.length
  have e1:(n:Int) - 1 - (i:Int)=((n - 1 - i:Nat):Int):=by omega
  have hi:=st.2
  rw [e1] at hi
  refine wpAny_pyNext_rev_item hi pl.isList (x:=u) (by simpa using hu) fun h1 g1 sb=>⟨u,rfl,?_⟩
  have e2:((n - 1 - i:Nat):Int) - 1=(n:Int) - 1 - ((i+1:Nat):Int):=by omega
  rw [e2] at g1
  obtain ⟨o,go,gc,gd⟩:=id g1
  refine go_of (s:={ s with heap:=h1 }) go gc gd (by decide) ⟨x,H,I.turnedL (t':=s.toks) (ch:=[it]) (fun b o hb e=>sb.extBut b o (fun q=>hb (by simp [q])) e) hf,ru,⟨rfl,fun ys hy=>?_⟩,⟨hin,g1⟩,fun b hb=>(hf b hb).1⟩
  rw [I.list_inj hy hx]
  exact ex
 done:=by
  intro X hP hw hK hc i pins s σ H E I hf st hg
  subst hP hw hK
  have hi:=st.2
  have e1:(n:Int) - 1 - (i:Int) = -1:=by
   have:=st.1
   have:n≤i:=hg
   omega
  rw [e1] at hi
  exact wpAny_pyNext_rev_end (I.ok.hd (hc rfl)) hi fun h1 eb=>⟨rfl,I.turnedL (t':=s.toks) (ch:=[it]) (fun b o hb e=>eb b o (fun q=>hb (by simp [q])) e) hf⟩
 self:=fun _ _ _ _ _ st h=>wpAny_pyIter_revIter st.2 h
section
variable {X:Cx}{K:PySem.W.Frag}
def iRev2 (K:PySem.W.Frag)(ta:TA):TI:=fun σ H R=>ta σ H fun vs H1=>∃ a xs,vs=[.ref a]∧((SqT K H1 a xs∧R (Itv K xs.length a) H1)∨(SqL K H1 a xs∧R (Itw K xs.length a) H1))
theorem pi_rev2 {tg e1:Expr}{ta:TA}{p pos:Pos}(hg:Gl X "reversed")(hm:X.mg "reversed" = none)(ha:PA X [e1] ta)
  (hs:starEach [e1] X.env=(false,eval e1 X.env)::starEach [] X.env:=by rfl) (hpl:(backTo pos (starEach [] X.env)).any (·.1)=false:=by rfl) :
  PI X tg (.Call (.Name "reversed" p) [e1] [] pos) (iRev2 X.K ta):=by
 intro pins s σ H R I h
 refine wpAny_Call_Name_kw (qZ I hg hm boot_reversed ?_ (by decide) (by decide))
 refine PyProof.Rows.callWith_type1 (thn (ha pos pins s σ H _ I h) fun us s1 ⟨vs,H1,I1,r1,q1⟩=>?_) hs hpl
 obtain ⟨a,xs,ev,hx⟩:=q1
 subst ev
 obtain ⟨u1,eu,ru1⟩:=vals1 r1
 subst eu
 cases ru1
 rcases hx with ⟨hx,q⟩ | ⟨hx,q⟩
 ·obtain ⟨its,r,pl,hz⟩:=I1.tuple hx
  have hl:=r.length
  have hn:=ou
  refine call_rvT pl (by simp only [List.size_toArray];omega) ?_
  have gi:RvAt (s1.heap.push (rvObj a ((its.toArray.size:Int) - 1))) s1.heap.objs.size a ((xs.length:Int) - 1 - ((0:Nat):Int)):=by
   refine ⟨_,Heap.get?_push_size _ rfl,rfl,?_⟩
   show Data.fields #[.ref a,rawInt ((its.toArray.size:Int) - 1)]=_
   rw [List.size_toArray,←hl]
   simp
  have la:a<s1.heap.objs.size:=by obtain ⟨_,e,_⟩:=pl;exact Heap.lt_size e
  refine iter_rvT gi ?_
  refine ⟨_,[s1.heap.objs.size],_,_,H1,rfl,I1.kept (t':=s1.toks+1+1) (fun b o e=>Heap.get?_push_of_some _ e),turn_rev (Nat.ne_of_lt la),⟨Nat.zero_le _,gi⟩,fun c hc=>?_,q⟩
  rw [List.mem_singleton] at hc
  subst hc
  exact I1.fpOk (Nat.le_refl _) (I1.hok.fresh (Nat.le_refl _))
 ·obtain ⟨its,r,pl,hz⟩:=I1.list hx
  have hl:=r.length
  refine call_reversed_list pl.isList ?_
  have gi:(s1.heap.push (revObj a ((its.toArray.size:Int) - 1))).IsRevIter s1.heap.objs.size a ((xs.length:Int) - 1 - ((0:Nat):Int)):=by
   refine ⟨_,Heap.get?_push_size _ rfl,rfl,?_⟩
   show Data.fields #[.ref a,rawInt ((its.toArray.size:Int) - 1)]=_
   rw [List.size_toArray,←hl]
   simp
  have la:a<s1.heap.objs.size:=by obtain ⟨_,e,_⟩:=pl.isList;exact Heap.lt_size e
  refine wpAny_pyIter_revIter gi ?_
  refine ⟨_,[s1.heap.objs.size],_,_,H1,rfl,I1.kept (t':=s1.toks) (fun b o e=>Heap.get?_push_of_some _ e),turn_revL (Nat.ne_of_lt la),⟨Nat.zero_le _,gi⟩,fun c hc=>?_,q⟩
  rw [List.mem_singleton] at hc
  subst hc
  exact I1.fpOk (Nat.le_refl _) (I1.hok.fresh (Nat.le_refl _))
def nRev2 (ma:MA):MI:=fun σ h R=>ma σ h fun ws h1=>match ws with
 | [.tup us]=>R ⟨us.reverse,none⟩ h1
 | [.lst us]=>R ⟨us.reverse,none⟩ h1
 | _=>False
theorem di_rev2 {tg e1:Expr}{mr:MA}{p pos:Pos}(hg:Gl X "reversed")(hm:X.mg "reversed" = none)(ha:DAs X [e1] mr)
  (hs:starEach [e1] X.env=(false,eval e1 X.env)::starEach [] X.env:=by rfl) (hpl:(backTo pos (starEach [] X.env)).any (·.1)=false:=by rfl) :
  DIt X tg (.Call (.Name "reversed" p) [e1] [] pos) (nRev2 mr):=PI.of (pi_rev2 hg hm ha hs hpl) fun σ H Q ⟨μ,h,σw,Rw,R,S,m,k⟩=>by
 refine ⟨μ,h,σw,_,R,S,m,fun vs H1 ⟨μ1,ws,h1,e1,R1,r1,m1⟩=>?_⟩
 dsimp only at m1
 split at m1
 ·rename_i us
  obtain ⟨v,ev,rv⟩:=mR r1
  have rv0:=rv
  rw [Rep] at rv
  obtain ⟨a,xs,ea,hx,rs⟩:=rv
  subst ev ea
  have hl:=rs.len
  refine ⟨a,xs,rfl,.inl ⟨hx,k _ _ ⟨μ1,⟨us.reverse,none⟩,h1,e1,R1,?_,m1⟩⟩⟩
  intro H2 μ2 h2 i e2 R2 _
  have r2:=e2.r _ _ rv0
  rw [Rep] at r2
  obtain ⟨b,ys,eb,hy,ry⟩:=r2
  cases eb
  have hl2:=ry.len
  refine ⟨fun w ew=>?_,fun hle=>?_⟩
  ·have hi:i<us.length:=by
    have:=(List.getElem?_eq_some_iff.mp ew).1
    simpa using this
   rw [List.getElem?_reverse hi] at ew
   obtain ⟨v,hv,rv⟩:=ry.get ew
   refine ⟨⟨by omega,ys,v,hy,by omega,by rw [show xs.length - 1 - i=us.length - 1 - i by omega];exact hv⟩,fun x H3 ⟨e3,y⟩=>?_⟩
   subst e3
   have:=y ys hy
   rw [show xs.length - 1 - i=us.length - 1 - i by omega,hv] at this
   cases this
   exact ⟨μ2,.refl,R2,rv⟩
  ·have:us.length≤i:=by simpa using hle
   show xs.length≤i
   omega
 ·rename_i us
  obtain ⟨v,ev,rv⟩:=mR r1
  have rv0:=rv
  rw [Rep] at rv
  obtain ⟨a,xs,ea,hx,rs⟩:=rv
  subst ev ea
  have hl:=rs.len
  refine ⟨a,xs,rfl,.inr ⟨hx.sq,k _ _ ⟨μ1,⟨us.reverse,none⟩,h1,e1,R1,?_,m1⟩⟩⟩
  intro H2 μ2 h2 i e2 R2 _
  have r2:=e2.r _ _ rv0
  rw [Rep] at r2
  obtain ⟨b,ys,eb,hy,ry⟩:=r2
  cases eb
  have hl2:=ry.len
  refine ⟨fun w ew=>?_,fun hle=>?_⟩
  ·have hi:i<us.length:=by
    have:=(List.getElem?_eq_some_iff.mp ew).1
    simpa using this
   rw [List.getElem?_reverse hi] at ew
   obtain ⟨v,hv,rv⟩:=ry.get ew
   refine ⟨⟨by omega,ys,v,hy.sq,by omega,by rw [show xs.length - 1 - i=us.length - 1 - i by omega];exact hv⟩,fun x H3 ⟨e3,y⟩=>?_⟩
   subst e3
   have:=y ys hy.sq
   rw [show xs.length - 1 - i=us.length - 1 - i by omega,hv] at this
   cases this
   exact ⟨μ2,.refl,R2,rv⟩
  ·have:us.length≤i:=by simpa using hle
   show xs.length≤i
   omega
 ·exact m1.elim
end
end L2
namespace L2
open PySem PySem.Spec PyProof.Rows
theorem repsN {K:PySem.W.Frag}{H:Hp}{μ : Mu}:aN K H μ [] []:=by rw [aN]
theorem jO {K:PySem.W.Frag}{H:Hp}{μ : Mu}{w:W}{v:V}{ws:List W}{vs:List V}(h:Rep K H μ w v)(t:aN K H μ ws vs):aN K H μ (w::ws) (v::vs):=by rw [aN];exact ⟨v,vs,rfl,h,t⟩
theorem repI {K:PySem.W.Frag}{H:Hp}{μ : Mu}{i:Int}:Rep K H μ (.int i) (.int i):=by rw [Rep]
theorem lV {K:PySem.W.Frag}{a:Addr}{od:Option Addr}{sl:Array (Option Value)}{its:Array Value}{n:Nat}{xs:List V}{ws:List W}(h:K.lookup a=some ⟨.type "tuple",od,.seq its n,sl⟩)(hz:its.size≤sizeLine)(hv:Vals xs its.toList)(hr:∀ H μ,aN K H μ ws xs):∀ H μ,Rep K H μ (.tup ws) (.ref a):=by
 intro H μ
 rw [Rep]
 exact ⟨a,xs,rfl,.inr ⟨_,its,n,h,rfl,rfl,hz,hv⟩,hr H μ⟩
theorem relI {i:Int}{t}:RelV (.int i) (.int i t):=⟨t,rfl⟩
theorem relR {a:Addr}:RelV (.ref a) (.ref a):=rfl
end L2
namespace L2
open PySem PySem.Spec PyProof.Rows
section
variable {prog:Program}{w:World}{A:Around}{E:Value→Shared→Prop}{s:Shared}
end
section
variable {X:Cx}{pos:Pos}
def nTup2 (n:Nat)(g:MGs):MG:=fun w σ h N=>match w with
 | .tup ws=>by2 (Nat.beq ws.length n) (g ws σ h N) False
 | .lst ws=>by2 (Nat.beq ws.length n) (g ws σ h N) False
 | .loc j=>(match h.c j with
  | some (.lst ws)=>by2 (Nat.beq ws.length n) (g ws σ h N) False
  | _=>False)
 | _=>False
end
end L2
namespace L2
open PySem PySem.Spec PyProof.Rows
section
variable {K:PySem.W.Frag}{H:Hp}{μ : Mu}{h:Gh}{p:Addr}{ws:List W}{xs:List V}
theorem Ex0.own (R:Rel K μ H h)(hp:μ.hid p):Ex0 K H μ H ((μ.unhide p).put h.nx p) where
 t:=fun _ _ z=>z
 l:=fun q ys z=>by
  refine ⟨z.1,fun m e=>?_,fun y=>z.2.2 y.2⟩
  by_cases hm:m=h.nx
  ·rw [hm,Mu.put_same] at e
   have e':p=q:=Option.some.inj e
   subst e'
   exact z.2.2 hp
  ·rw [Mu.put_ne hm] at e
   exact z.2.1 m e
 k:=fun _ _ z=>z
 m:=fun m q e=>by
  have hm:m≠h.nx:=fun y=>by rw [y,R.dead (Nat.le_refl _)] at e;cases e
  rw [Mu.put_ne hm]
  exact e
 x:=fun _ _ _ e=>e
theorem ExtX.own (R:Rel K μ H h)(hp:μ.hid p):ExtX p K H μ H ((μ.unhide p).put h.nx p):=⟨fun _ _ z=>Rep.ex (Ex0.own R hp) z,fun q u ne z e=>⟨⟨ne,z⟩,e⟩⟩
theorem Rel.own (R:Rel K μ H h)(hp:μ.hid p)(e:H p=some (.lst xs))(r:aN K H μ ws xs):Rel K ((μ.unhide p).put h.nx p) H (h.new (.lst ws)) where
 inj:=fun m n q em en=>by
  have key:∀ n,n≠h.nx→((μ.unhide p).put h.nx p).f n=some q→p=q→False:=fun n hn en e=>by
   rw [Mu.put_ne hn] at en
   subst e
   exact (R.hd p hp).2 n en
  by_cases hm:m=h.nx
  ·by_cases hn:n=h.nx
   ·rw [hm,hn]
   ·rw [hm,Mu.put_same] at em
    exact (key n hn en (Option.some.inj em)).elim
  ·by_cases hn:n=h.nx
   ·rw [hn,Mu.put_same] at en
    exact (key m hm em (Option.some.inj en)).elim
   ·rw [Mu.put_ne hm] at em
    rw [Mu.put_ne hn] at en
    exact R.inj m n q em en
 dom:=fun n q en=>by
  by_cases hn:n=h.nx
  ·rw [hn];exact Nat.lt_succ_self _
  ·rw [Mu.put_ne hn] at en
   exact Nat.lt_succ_of_lt (R.dom n q en)
 trk:=fun n q en=>by
  by_cases hn:n=h.nx
  ·rw [hn,Mu.put_same] at en
   cases en
   rw [e];trivial
  ·rw [Mu.put_ne hn] at en
   exact R.trk n q en
 cel:=fun n c en=>by
  by_cases hn:n=h.nx
  ·subst hn
   have ec:(h.new (.lst ws)).c h.nx=some (.lst ws):=by show (if h.nx=h.nx then some _ else _)=_;rw [if_pos rfl]
   rw [ec] at en
   cases en
   exact ⟨p,Mu.put_same,xs,e,aN.ex (Ex0.own R hp) r⟩
  ·have ec:(h.new (.lst ws)).c n=h.c n:=by show (if n=h.nx then some _ else _)=_;rw [if_neg hn]
   rw [ec] at en
   obtain ⟨q,e1,x⟩:=R.cel n c en
   refine ⟨q,by rw [Mu.put_ne hn];exact e1,?_⟩
   have ex:=Ex0.own R hp
   cases c with
   | lst ws=>obtain ⟨xs,a,b⟩:=x;exact ⟨xs,a,aN.ex ex b⟩
   | obj C fs=>obtain ⟨dx,fvs,a,b⟩:=x;exact ⟨dx,fvs,a,Paired.mapP b fun _ _ z=>⟨z.1,Rep.ex ex z.2⟩⟩
   | dct kvs=>obtain ⟨kvv,a,b⟩:=x;exact ⟨kvv,a,Paired.mapP b fun _ _ z=>⟨z.1,Rep.ex ex z.2⟩⟩
   | dtt kvs=>obtain ⟨xs,vs,a,b,c,d,f⟩:=x;exact ⟨xs,vs,a,b,c,aN.ex ex d,aN.ex ex f⟩
 hd:=fun q z=>by
  refine ⟨(R.hd q z.2).1,fun n en=>?_⟩
  by_cases hn:n=h.nx
  ·rw [hn,Mu.put_same] at en
   exact z.1 (Option.some.inj en).symm
  ·rw [Mu.put_ne hn] at en
   exact (R.hd q z.2).2 n en
end
def thaw (Q:WK):WK:=fun w h=>match w with
 | .lst ws=>Q (.loc h.nx) (h.new (.lst ws))
 | _=>False
def mLCM (own:W→Option (List W))(ix:List Nat)(mi:MI)(tt:MT)(te:ME):ME:=fun σ h Q=>mLC own ix mi tt te σ h (thaw Q)
section
variable {X:Cx}{tg iter elt:Expr}{ifs:List Expr}{pos:Pos}{scope:Scope}{xs:List Str}{mi:MI}{tt:MT}{te:ME}
theorem lcM_of {K:PySem.W.Frag}{σ : St}{H:Hp}{Q:VK}{n:Nat}{own:V→Hp→List V→Prop}{ow:W→Option (List W)}{ix:List Nat}{mi:MI}{tt:MT}{te:ME}(oo:zN K n own ow)(q:tD K (mLCM ow ix mi tt te) σ H Q):tLC n own ix (tDI K mi) (tDT K tt) (tD K te) σ H Q:=by
 obtain ⟨μ,h,σw,Qw0,R,S,m,k⟩:=q
 generalize hQw:thaw Qw0=Qw at *
 have m:mLC ow ix mi tt te σw h Qw:=by rw [←hQw];exact m
 refine ⟨μ,h,σw,_,R,S,m,fun J H1 ⟨μ1,src,h1,e1,R1,ok,hz0⟩=>?_⟩
 obtain ⟨hz,m1⟩:=hz0.ok
 intro D hD
 have nD:=R1.nohid hD
 have hD1:Ext K H1 μ1 (upd H1 D (.lst [])) (μ1.hide D):=Ext.hide hD
 refine ⟨fun i n ys H'=>n=src.ws.length - i∧i≤src.ws.length∧ys.length≤i∧H' D=some (.lst ys)∧∃ μ' acc h',Ext K H1 μ1 H' μ'∧Rel K μ' H' h'∧μ'.hid D∧aN K H' μ' acc ys∧nC src ow ix tt te σw Qw (src.ws.drop i) acc h',
  ⟨src.ws.length,by simp,Nat.zero_le _,Nat.le_refl _,bw,μ1.hide D,[],h1,hD1,R1.hide hD,.inl rfl,.nil,by rw [List.drop_zero];exact m1⟩,?_⟩
 rintro i n' ys H2 ⟨hn,hle,hys,hH2,μ2,acc,h2,e2,R2,hid2,ra,m2⟩ _
 by_cases hlt:i<src.ws.length
 ·rw [List.drop_eq_getElem_cons hlt] at m2
  obtain ⟨ck,m2⟩:=Src.go_ok m2
  obtain ⟨hgo,hy⟩:=(ok e2 R2 ck).1 src.ws[i] (List.getElem?_eq_getElem hlt)
  refine .inr ⟨hgo,by omega,fun x H3 y=>?_⟩
  obtain ⟨μ3,e3,R3,rx⟩:=hy x H3 y
  have e13:=e2.trans e3
  cases eo:ow src.ws[i] with
  | none=>rw [eo] at m2;exact m2.elim
  | some us=>
   rw [eo] at m2
   obtain ⟨vs,hov,hvl,rvs⟩:=oo rx eo
   have S3:=(S.ext (e1.trans e13)).blk (ix:=ix) rvs
   refine ⟨vs,hov,hvl,μ3,h2,_,_,R3,S3,m2,fun b H4 ⟨μ4,h4,e4,R4,m4⟩=>?_⟩
   have e24:=e3.trans e4
   obtain ⟨hid4,hH4⟩:=e24.o D _ hid2 hH2
   cases b with
   | false=>
    dsimp only
    rw [if_neg Bool.false_ne_true]
    exact ⟨hH4,src.ws.length - (i+1),by omega,rfl,hlt,by omega,hH4,μ4,acc,h4,e2.trans e24,R4,hid4,e24.s ra,m4⟩
   | true=>
    dsimp only
    rw [if_pos rfl]
    refine ⟨μ4,h4,_,_,R4,S3.ext e4,m4,fun v H5 ⟨μ5,w5,h5,e5,R5,r5,m5⟩=>?_⟩
    have e25:=e24.trans e5
    obtain ⟨hid5,hH5⟩:=e25.o D _ hid2 hH2
    have g:=ExtX.grow (ys:=ys++[v]) R5 hid5
    have rs:aN K (upd H5 D (.lst (ys++[v]))) μ5 (acc++[w5]) (ys++[v]):=aN.ex (Ex0.grow R5 hid5) (aN.append (e25.s ra) (aN.one r5))
    exact ⟨hH5,src.ws.length - (i+1),by omega,rfl,hlt,by rw [List.length_append];simp;omega,bw,μ5,acc++[w5],h5,(e2.trans e25).x nD g,R5.grow hid5,hid5,rs,m5⟩
 ·have ei:i=src.ws.length:=by omega
  subst ei
  rw [List.drop_length] at m2
  obtain ⟨ck,m2⟩:=Src.go_ok m2
  have m2:Qw0 (.loc h2.nx) (h2.new (.lst acc)):=by rw [←hQw] at m2;exact m2
  exact .inl ⟨(ok e2 R2 ck).2 (Nat.le_refl _),k _ _ ⟨(μ2.unhide D).put h2.nx D,.loc h2.nx,h2.new (.lst acc),e1.trans (e2.x nD (ExtX.own R2 hid2)),R2.own hid2 hH2 ra,by rw [Rep];exact ⟨D,rfl,Mu.put_same⟩,m2⟩⟩
end
end L2
namespace L2
open PySem PySem.Spec PyProof.Rows
def isStar:Expr→Bool
 | .Starred _ _=>true
 | _=>false
theorem aj {e:Expr}{es:List Expr}{env:Env}(h:isStar e=false):starEach (e::es) env=(false,eval e env)::starEach es env:=by
 cases e <;> first | rfl | cases h
theorem jl {e:Expr}{env:Env}(h:isStar e=false):starEach [e] env=[(false,eval e env)]:=(aj h).trans rfl
def noStar:List Expr→Bool
 | []=>true
 | e::r=>!isStar e&&noStar r
theorem ao {pos:Pos}{env:Env}:∀ {es:List Expr},noStar es=true→(backTo pos (starEach es env)).any (·.1)=false
 | [],_=>rfl
 | e::r,h=>by
  rw [noStar,Bool.and_eq_true,Bool.not_eq_true'] at h
  rw [aj h.1]
  show (false||(backTo pos (starEach r env)).any (·.1))=false
  rw [ao h.2]
  rfl
theorem zA {cpos:Pos}{e:Expr}{env:Env}(h:isStar e=false):((backTo cpos (starEach [e] env)).all (fun x=>!x.1)&&(backToKw cpos (keywordEach [] env)).all (fun x=>x.1.isSome)
   && decide (([e]:List Expr).length+([]:List Keyword).length+(if ([]:List Keyword).isEmpty then 0 else 1)<30))=true:=by
 rw [jl h];rfl
end L2
namespace L2
open PySem PySem.Spec PyProof.Rows
section
variable {prog:Program}{w:World}{A:Around}{E:Value→Shared→Prop}{s:Shared}
open HT in
theorem j6 {t sl:Addr}{items:Array Value}{vl vu:Value}{lo hi:Option Int}{Q:Value→Shared→Prop}(ht:IsTup s.heap t items)(hs:s.heap.IsSliceOf sl vl vu .none)(pl:IsPart vl lo)(pu:IsPart vu hi)
  (h0:sIx items.size 0 lo=0) (h1:sIx items.size items.size hi=items.size) (h:Q (.ref t) s):wpAny (model prog w) A (getItem (.ref t) (.ref sl)) Q E s:=by
 obtain ⟨os,hos,hcs,hds⟩:=id hs
 have hTs:s.TypeIs (.ref sl) "slice":=⟨os,hos,hcs⟩
 unfold getItem
 try with_reducible refine wpAny_holding ?_
 first | refine wpAny_bind (wpAny_pure ?_) | skip
 refine wpAny_bind (wpAny_sequenceKey ht.typeIs (by decide) ?_)
 refine wpAny_bind (wpAny_callSpecial?_slot (name:=Str.ofString "__getitem__") ht.typeIs PyProof.Rows.slot_tuple_getitem
  (wpAny_call_entry PyProof.Rows.slot_tuple_getitem ht.typeIs entry_tuple_getitem ?_ (args_tuple_getitem _ _)))
 show wpAny _ _ (Builtin.Tuple.tupleItemsOf (.ref t) >>= _) _ _ s
 refine wpAny_bind (tupleItemsOf_ ht ?_)
 refine wpAny_bind (wpAny_typeOf hTs ?_)
 rw [if_pos (by decide)]
 refine wpAny_bind (iG hs pl pu ?_)
 have hyes:((((sIx items.size 0 lo:Nat):Int)==0&&(1:Int)==1&&(sIx items.size items.size hi - sIx items.size 0 lo)==items.size)=true):=by
  rw [h0,h1]
  simp
 show wpAny _ _ (if (((sIx items.size 0 lo:Nat):Int)==0&&(1:Int)==1&&(sIx items.size items.size hi - sIx items.size 0 lo)==items.size)=true then _ else _) _ _ s
 rw [if_pos hyes]
 unfold Builtin.Tuple.tupleIsExact
 refine wpAny_bind (wpAny_bind (wpAny_typeOf ht.typeIs (wpAny_pure ?_)))
 rw [if_pos (by decide)]
 refine wpAny_bind (wpAny_rule ?_)
 first
  | exact wpAny_pure ⟨_,rfl,wpAny_pure h⟩
  | exact wpAny_bind (wpAny_pure (wpAny_pure ⟨_,rfl,wpAny_pure h⟩))
end
section
variable {X:Cx}
def rSlW (K:PySem.W.Frag):V→Option Int→Option Int→Hp→VK→Prop:=fun x lo hi H Q=>∃ a xs,x=.ref a∧SqT K H a xs ∧
 HT.sIx xs.length 0 lo=0∧HT.sIx xs.length xs.length hi=xs.length∧Q x H
theorem sl_whole:SlR X (rSlW X.K):=by
 intro pins s σ H x v vl vu lo hi sl Q I rx hs pl pu h
 obtain ⟨a,xs,rfl,hx,h0,h1,q⟩:=h
 cases rx
 obtain ⟨its,r,ht,hz⟩:=I.tuple hx
 have hlen:its.toArray.size=xs.length:=by rw [List.size_toArray];exact r.length.symm
 refine ⟨"tuple",_,PyProof.Rows.slot_tuple_getitem.lookup,ht.typeIs,?_⟩
 refine j6 ht hs pl pu (by rw [hlen];exact h0) (by rw [hlen];exact h1) ?_
 exact ⟨.ref a,H,I,rfl,q⟩
def kSl2 (x:W)(lo hi:Option Int)(h:Gh)(Q:WK):Prop:=match x with
 | .tup ws=>Q (.tup (cutW ws lo hi)) h
 | x=>(match fC h x with
  | some ws=>Q (.lst (cutW ws lo hi)) h
  | none=>False)
theorem d_sl2 {e:Expr}{lo hi:Option Expr}{ma:ME}{ml mh:MO}{p2 pos:Pos}(he:DE X e ma)(hl:DO X lo ml)(hu:DO X hi mh):DE X (.Subscript e (.Slice lo hi none p2) pos) (mSl kSl2 ma ml mh):=
 (pe_slice (SlR.or (SlR.or sl_list sl_tup) sl_whole) he hl hu).of fun σ H Q ⟨μ,h,σw,Qw,R,S,m,k⟩=>by
  refine ⟨μ,h,σw,_,R,S,m,fun x H1 ⟨μ1,wx,h1,e1,R1,r1,m1⟩=>?_⟩
  refine ⟨μ1,h1,σw,_,R1,S.ext e1,m1,fun lo H2 ⟨μ2,h2,e2,R2,m2⟩=>?_⟩
  refine ⟨μ2,h2,σw,_,R2,(S.ext e1).ext e2,m2,fun hi H3 ⟨μ3,h3,e3,R3,m3⟩=>?_⟩
  have e13:=(e1.trans e2).trans e3
  have r3:=e3.r _ _ (e2.r _ _ r1)
  have oth:∀ wy,Rep X.K H3 μ3 wy x→(match fC h3 wy with
    | some ws=>Qw (.lst (cutW ws lo hi)) h3
    | none=>False)→∃ p xs,x=.ref p∧SqL X.K H3 p xs∧∀ l,H3 l=none→Q (.ref l) (upd H3 l (.lst (cutV xs lo hi))):=by
   intro wy ry my
   split at my
   ·rename_i ws ev
    obtain ⟨p,xs,ex,hs,rs⟩:=dh R3 ry ev
    exact ⟨p,xs,ex,hs,fun l hl=>k _ _ ⟨μ3,_,h3,e13.trans (Ex.laid hl).ext,R3.laid hl,.lstNew R3 hl (rs.cutv lo hi),my⟩⟩
   ·exact my.elim
  cases wx with
  | tup ws=>
   have m3:Qw (.tup (cutW ws lo hi)) h3:=m3
   have r30:=r3
   rw [Rep] at r3
   obtain ⟨p,xs,ex,hx,rs⟩:=r3
   have hl:=rs.len
   by_cases hw:HT.sIx xs.length 0 lo=0∧HT.sIx xs.length xs.length hi=xs.length
   ·have ec:cutW ws lo hi=ws:=by
     unfold cutW
     rw [hl,hw.1,hw.2,List.drop_zero,Nat.sub_zero,←hl,List.take_length]
    rw [ec] at m3
    exact .inr ⟨p,xs,ex,hx,hw.1,hw.2,k _ _ ⟨μ3,.tup ws,h3,e13,R3,r30,m3⟩⟩
   ·exact .inl (.inr ⟨p,xs,ex,hx,hw,fun q hq=>k _ _ ⟨μ3,.tup (cutW ws lo hi),h3,e13.trans (Ex.laid hq).ext,R3.laid hq,.tupNew hq (rs.cutv lo hi),m3⟩⟩)
  | _=>exact .inl (.inl (oth _ r3 m3))
end
end L2
namespace L2
open PySem PySem.Spec PyProof.Rows
section
variable {X:Cx}
def kInt:MC:=fun ws h Q=>match ws with
 | [.int i]=>Q (.int i) h
 | [.bl b]=>Q (.int (if b then 1 else 0)) h
 | _=>False
end
end L2
namespace L2
open PySem PySem.Spec PyProof.Rows
section
variable {X:Cx}
end
end L2
namespace L2
open PySem PySem.Spec PyProof.Rows
section
variable {X:Cx}
end
end L2
namespace L2
open PySem PySem.Spec PyProof.Rows
def XO (h:Heap)(P:Addr→Prop)(e C:Addr):Prop:=P e∧∃ (oe:Obj) (vs:Array Value),h.get? e=some oe∧oe.cls=.ref C∧oe.dict=none∧oe.data=.fields vs∧vs.size≤1000∧vs[2]?=some .none ∧
 (vs[1]?=some .none∨∃ (T:Addr) (oT:Obj) (ts:Array Value),vs[1]?=some (.ref T)∧T≠e∧P T∧h.get? T=some oT∧oT.data=.fields ts∧3<ts.size)
def XN (h:Heap)(P:Addr→Prop)(e C:Addr):Prop:=P e∧∃ (oe:Obj) (vs:Array Value),h.get? e=some oe∧oe.cls=.ref C∧oe.dict=none∧oe.data=.fields vs∧vs.size≤1000∧vs[2]?=some .none ∧
 ∃ (T:Addr) (oT:Obj) (ts:Array Value),vs[1]?=some (.ref T)∧T≠e∧P T∧h.get? T=some oT∧oT.data=.fields ts∧3<ts.size
structure Stp (P:Addr→Prop) (fs:List Addr) (h h':Heap):Prop where
 keep:∀ b o,¬ P b→b∉fs→h.get? b=some o→h'.get? b=some o
 slot:∀ b o,¬ P b→h.get? b=some o→∃ sl,h'.get? b=some { o with slots:=sl }
 there:∀ b o,h.get? b=some o→∃ o',h'.get? b=some o'
section
variable {M:Model}{A:Around}{E:Value→Shared→Prop}{s:Shared}{P:Addr→Prop}{e C:Addr}
end
end L2
namespace L2
open PySem PySem.Spec PyProof.Rows
section
variable {X:Cx}{pins:List (Addr×Obj)}{σ : St}{H H':Hp}{s s':Shared}{b e C:Addr}
structure New (X:Cx) (pins:List (Addr×Obj)) (H:Hp) (b:Addr):Prop where
 h:H b=none
 s:b∈X.ex∨X.s₀.heap.get? b=none
 l:b≠X.env.locals
 c:∀ x c,X.env.cells.lookup x=some c→c≠b
 p:∀ p∈X.pn++pins,p.1≠b
 f:b∉X.fs
structure FX (X:Cx) (pins:List (Addr×Obj)) (σ : St) (H:Hp) (s:Shared) (e C:Addr):Prop where
 inv:Inv X pins σ H s
 xo:XO s.heap (New X pins H) e C
structure FN (X:Cx) (pins:List (Addr×Obj)) (σ : St) (H:Hp) (s:Shared) (e C:Addr):Prop where
 inv:Inv X pins σ H s
 xn:XN s.heap (New X pins H) e C
end
section
variable {X:Cx}{pins:List (Addr×Obj)}{σ : St}{H:Hp}{s:Shared}{C:Addr}{x:Str}{np cpos pos:Pos}{e:Expr}{es:List Expr}{t:TA}
end
end L2
namespace L2
open PySem PySem.Spec PyProof.Rows
section
variable {X:Cx}{Γ : St→Prop}{e c:Expr}{es:List Expr}{mr:MA}{pos:Pos}{st:Stmt}{rest:List Stmt}
end
end L2
namespace L2
open PySem PySem.Spec PyProof.Rows
section
variable {X:Cx}{pins pins':List (Addr×Obj)}{σ : St}{H:Hp}{s:Shared}{xe:Value→Shared→Prop}{a C:Addr}{o:Obj}{u:HO}
end
end L2
namespace L2
open PySem PySem.Spec PyProof.Rows
section
variable {prog:Program}{w:World}{A:Around}{E:Value→Shared→Prop}{s:Shared}{K:PySem.W.Frag}{x D:Addr}{ox:Obj}
end
def isX (n d:Str):Bool:=n==d||d == "EaselError"
section
variable {K:PySem.W.Frag}{C D:Addr}{n d:Str}
def CsOk (K:PySem.W.Frag)(v:V)(f:Str→Bool):Prop:=∀ (u:Value),RelV v u→∀ (C:Addr) (n:Str),xcIn K C n=true→PySem.W.kitOne K (.ref C) u=some (f n)
end
end L2
namespace L2
open PySem PySem.Spec PyProof.Rows
def bD.lost (D:bD):bD:={ D with nx:=fun σ h=>D.nx (σ.map fun _=>none) h,bk:=fun σ h=>D.bk (σ.map fun _=>none) h,ct:=fun σ h=>D.ct (σ.map fun _=>none) h }
def mTry (i:Nat)(d:Str)(mb:XWK→MS)(mh:MS):MS:=fun D σ h=>mb (fun x h'=>by2 (isX x.cls d) (mh D.lost (σ.set i (some (.exc x.cls))) h') False) D σ h
section
variable {X:Cx}{body:List Stmt}{b₀ : Stmt}{suite:List Stmt}{y d:Str}{np hpos pos:Pos}{i:Nat}{D:Addr}{mb:XWK→MS}{mh:MS}
end
end L2
namespace L2
open PySem PySem.Spec PyProof.Rows
section
variable {X:Cx}{a:Expr}{ma:ME}{pos p:Pos}
def mIsX (f:Str→Bool)(m:ME):ME:=fun σ h Q=>m σ h fun w h1=>match w with
 | .exc n=>Q (.bl (f n)) h1
 | _=>False
inductive PCs (X:Cx):List Expr→List V→(Str→Bool)→Prop
 | nil:PCs X [] [] (fun _=>false)
 | cons {e:Expr} {es:List Expr} {v:V} {vs:List V} {f g:Str→Bool}:PE X e (tC v)→CsOk X.K v f→PCs X es vs g→starEach (e::es) X.env=(false,eval e X.env)::starEach es X.env→PCs X (e::es) (v::vs) (fun n=>f n||g n)
end
section
variable {X:Cx}{tg elt:Expr}{ifs:List Expr}{scope:Scope}{xs:List Str}{tt:MT}{te:ME}{pos p ppos:Pos}
end
end L2
namespace L2
open PySem PySem.Spec PyProof.Rows
section
variable {prog:Program}{w:World}{A:Around}{E:Value→Shared→Prop}{s:Shared}
end
section
variable {X:Cx}
end
end L2
namespace L2
open PySem PySem.Spec PyProof.Rows
section
variable {X:Cx}{K:PySem.W.Frag}{o e:Expr}{mo:ME}{ma:MA}{apos cpos:Pos}
def uz:MM:=fun x ws h Q=>match x,ws with
 | .loc n,[]=>(match h.c n with
  | some (.lst _)=>Q .non (h.set n (.lst []))
  | _=>False)
 | _,_=>False
theorem s_clear:SimM K rClear uz:=by
 intro H μ h x vs wx ws Qw Q R rx rs m k
 unfold uz at m
 split at m
 ·split at m
  ·rename_i n _ us ec
   obtain ⟨p,xs,ex,hm,hx,r1⟩:=locAt R rx ec
   rw [aN] at rs
   exact ⟨p,xs,ex,rs,hx,k _ _ (.wrote R hm (by rw [aN]) (by rw [Rep]) m)⟩
  ·exact m.elim
 ·exact m.elim
theorem d_clear (ho:DE X o mo)(hbase:attributeBase o "clear" X.env (eval o X.env)=eval o X.env:=by rfl)(hline:(apos.endLine==cpos.line)=true:=by rfl) :
  DE X (.Call (.Attribute o "clear" apos) [] [] cpos) (mBMr0 uz mo):=d_bm0 PySem.F.slot_list_clear PySem.F.type_list_clear mt_clear s_clear ho hbase hline
variable {H:Hp}{pins:List (Addr×Obj)}{s:Shared}{σ : St}
mutual
theorem Dt_uniq (I:Inv X pins σ H s):∀ {w u:W} {v:V},Dt X.K H w v→Dt X.K H u v→w=u
 | .non,u,v,h,g=>by rw [Dt] at h;subst h;cases u <;> rw [Dt] at g <;> first | rfl | exact g.elim | (obtain ⟨_,_,g,_⟩:=g;cases g;done) | (cases g;done)
 | .bl b,u,v,h,g=>by rw [Dt] at h;subst h;cases u <;> rw [Dt] at g <;> first | (injection g with g;rw [g];done) | exact g.elim | (obtain ⟨_,_,g,_⟩:=g;cases g;done) | (cases g;done)
 | .int b,u,v,h,g=>by rw [Dt] at h;subst h;cases u <;> rw [Dt] at g <;> first | (injection g with g;rw [g];done) | exact g.elim | (obtain ⟨_,_,g,_⟩:=g;cases g;done) | (cases g;done)
 | .str b,u,v,h,g=>by rw [Dt] at h;subst h;cases u <;> rw [Dt] at g <;> first | (injection g with g;rw [g];done) | exact g.elim | (obtain ⟨_,_,g,_⟩:=g;cases g;done) | (cases g;done)
 | .tup ws,u,v,h,g=>by
  rw [Dt] at h
  obtain ⟨p,xs,e,hs,ds⟩:=h
  subst e
  cases u with
  | tup us=>
   rw [Dt] at g
   obtain ⟨p',xs',e',hs',ds'⟩:=g
   cases e'
   have:=I.tuple_inj hs hs'
   subst this
   rw [uY I ds ds']
  | lst us=>
   rw [Dt] at g
   obtain ⟨p',xs',e',hs',ds'⟩:=g
   cases e'
   obtain ⟨_,_,t,_⟩:=I.tuple hs
   obtain ⟨_,_,l,_⟩:=I.list hs'
   exact absurd rfl (SeqAt.ne_of_list_tuple l.isList (show s.heap.IsTuple _ _ from t))
  | ty _=>rw [Dt] at g;exact g.elim
  | loc _=>rw [Dt] at g;exact g.elim
  | kls _=>rw [Dt] at g;exact g.elim
  | exc _=>rw [Dt] at g;exact g.elim
  | _=>rw [Dt] at g;cases g
 | .lst ws,u,v,h,g=>by
  rw [Dt] at h
  obtain ⟨p,xs,e,hs,ds⟩:=h
  subst e
  cases u with
  | lst us=>
   rw [Dt] at g
   obtain ⟨p',xs',e',hs',ds'⟩:=g
   cases e'
   have:=I.list_inj hs hs'
   subst this
   rw [uY I ds ds']
  | tup us=>
   rw [Dt] at g
   obtain ⟨p',xs',e',hs',ds'⟩:=g
   cases e'
   obtain ⟨_,_,t,_⟩:=I.tuple hs'
   obtain ⟨_,_,l,_⟩:=I.list hs
   exact absurd rfl (SeqAt.ne_of_list_tuple l.isList (show s.heap.IsTuple _ _ from t))
  | ty _=>rw [Dt] at g;exact g.elim
  | loc _=>rw [Dt] at g;exact g.elim
  | kls _=>rw [Dt] at g;exact g.elim
  | exc _=>rw [Dt] at g;exact g.elim
  | _=>rw [Dt] at g;cases g
 | .ty _,_,_,h,_=>by rw [Dt] at h;exact h.elim
 | .kls _,_,_,h,_=>by rw [Dt] at h;exact h.elim
 | .loc _,_,_,h,_=>by rw [Dt] at h;exact h.elim
 | .exc _,_,_,h,_=>by rw [Dt] at h;exact h.elim
theorem uY (I:Inv X pins σ H s):∀ {ws us:List W} {vs:List V},Dts X.K H ws vs→Dts X.K H us vs→ws=us
 | [],us,vs,h,g=>by
  have e:vs=[]:=by rw [Dts] at h;exact h
  subst e
  cases us with
  | nil=>rfl
  | cons u us=>rw [Dts] at g;obtain ⟨_,_,e,_⟩:=g;cases e
 | w::ws,us,vs,h,g=>by
  rw [Dts] at h
  obtain ⟨v,vs',e,d,ds⟩:=h
  subst e
  cases us with
  | nil=>
   have e:v::vs'=[]:=by rw [Dts] at g;exact g
   cases e
  | cons u us=>
   rw [Dts] at g
   obtain ⟨v2,vs2,e2,d2,ds2⟩:=g
   cases e2
   rw [Dt_uniq I d d2,uY I ds ds2]
end
theorem zip_dt:∀ {us:List W} {xs:List V} {its:List Value},Dts X.K H us xs→Vals xs its→∀ a u,(a,u)∈its.zip us→∃ v,RelV v a∧Dt X.K H u v∧u∈us
 | [],_,its,_,_,a,u,m=>by rw [List.zip_nil_right] at m;exact absurd m (by simp)
 | w::us,xs,its,d,r,a,u,m=>by
  rw [Dts] at d
  obtain ⟨v,vs,e,d1,ds⟩:=d
  subst e
  cases r with
  | cons r1 rs=>
   rw [List.zip_cons_cons] at m
   rcases List.mem_cons.mp m with m | m
   ·cases m
    exact ⟨v,r1,d1,List.mem_cons_self⟩
   ·obtain ⟨v',q1,q2,q3⟩:=zip_dt ds rs a u m
    exact ⟨v',q1,q2,List.mem_cons_of_mem _ q3⟩
theorem sI {α β : Type}:∀ {xs:List α} {ys:List β},xs.length=ys.length→∀ a∈xs,∃ b,(a,b)∈xs.zip ys
 | [],_,_,a,m=>absurd m (by simp)
 | _::_,[],h,_,_=>by cases h
 | x::xs,y::ys,h,a,m=>by
  rw [List.zip_cons_cons]
  rcases List.mem_cons.mp m with rfl | m
  ·exact ⟨y,List.mem_cons_self⟩
  ·obtain ⟨b,q⟩:=sI (Nat.succ.inj h) a m
   exact ⟨b,List.mem_cons_of_mem _ q⟩
def kCount:MM:=fun x ws h Q=>match ws with
 | [w]=>(match fC h x with
  | some us=>by2 (plW 20 w&&us.all (plW 20)) (Q (.int (us.countP fun u=>eqW u w)) h) False
  | none=>False)
 | _=>False
end
section
variable {X:Cx}{elt iter tg:Expr}{ifs:List Expr}{scope:Scope}{pos:Pos}{xs:List Str}{mi:MI}{tt:MT}{te:ME}
theorem d_lcM {own:V→Hp→List V→Prop}{ow:W→Option (List W)}(ix:List Nat)(hc:X.calm=true)(B:jN X scope xs ix)(oo:zN X.K xs.length own ow)(hg:∀ C s H fp,PG (blk X scope (iM X xs ix) C s H fp) tg (gOwn xs.length own))(hi:DIt X tg iter mi)
  (ht:∀ C s H fp,DIfs (blk X scope (iM X xs ix) C s H fp) ifs tt) (he:∀ C s H fp,DE (blk X scope (iM X xs ix) C s H fp) elt te)
  (hs:∀ v,foldedSetIterable iter X.env v=pure v:=by intro _;rfl):DE X (.ListComp elt [⟨tg,iter,ifs,0⟩] scope pos) (mLCM ow ix mi tt te):=(pe_lc ix hc B hg hi ht he hs).of fun _ _ _ q=>lcM_of oo q
end
end L2
namespace L2
open PySem PySem.Spec PyProof.Rows
section
variable {X:Cx}{Γ : St→Prop}{e:Expr}{es:List Expr}{pos:Pos}
variable {mr:XWK→MA}
end
end L2
namespace L2
open PySem PySem.Spec PyProof.Rows
section
variable {X:Cx}{K:PySem.W.Frag}{H:Hp}{pins:List (Addr×Obj)}{s:Shared}{σ : St}
theorem any_zip {α β : Type}{p:α→Bool}{q:β→Bool}:∀ {xs:List α} {ys:List β},xs.length=ys.length→(∀ a b,(a,b)∈xs.zip ys→p a=q b)→xs.any p=ys.any q
 | [],[],_,_=>rfl
 | [],_::_,h,_=>by cases h
 | _::_,[],h,_=>by cases h
 | a::xs,b::ys,h,e=>by
  rw [List.any_cons,List.any_cons,any_zip (Nat.succ.inj h) fun a' b' m=>e a' b' (by rw [List.zip_cons_cons];exact List.mem_cons_of_mem _ m),e a b (by rw [List.zip_cons_cons];exact List.mem_cons_self)]
theorem deep_ev (I:Inv X pins σ H s){us:List W}{xs:List V}{its:List Value}{w:W}{y:V}{b:Value}(hd:Dts X.K H us xs)(r:Vals xs its)(hw:Dt X.K H w y)(rb:RelV y b)(pl1:us.all (plW 20)=true)(pl2:plW 20 w=true){A:Around}(hu:A.units+20<cLine) :
  ∃ ev:Value→Bool,(∀ a,a∈its→SeqAt.EqAt A s a b (ev a))∧its.any ev=us.any (fun u=>eqW u w):=by
 have hl:its.length=us.length:=by rw [←r.length,hd.len]
 let ev:Value→Bool:=fun a=>@decide (∃ u,(a,u)∈its.zip us∧eqW u w=true) (Classical.propDecidable _)
 have hev:∀ a u,(a,u)∈its.zip us→ev a=eqW u w:=by
  intro a u m
  cases c:eqW u w with
  | true=>exact (@decide_eq_true_iff _ (Classical.propDecidable _)).mpr ⟨u,m,c⟩
  | false=>
   refine (@decide_eq_false_iff_not _ (Classical.propDecidable _)).mpr fun ⟨u2,m2,c2⟩=>?_
   obtain ⟨v1,r1,d1,_⟩:=zip_dt hd r a u m
   obtain ⟨v2,r2,d2,_⟩:=zip_dt hd r a u2 m2
   have ev:v1=v2:=r1.inj r2
   subst ev
   rw [Dt_uniq I d1 d2,c2] at c
   cases c
 refine ⟨ev,fun a ha=>?_,any_zip hl hev⟩
 obtain ⟨u,m⟩:=sI hl a ha
 obtain ⟨v,r1,d1,mu⟩:=zip_dt hd r a u m
 rw [hev a u m]
 exact eqAtW I 20 hu d1 hw (List.all_eq_true.mp pl1 u mu) pl2 r1 rb
def rInD (K:PySem.W.Frag)(neg:Bool):R2:=fun x y H Q=>∃ p xs us w,y=.ref p∧SqL K H p xs∧Dts K H us xs∧Dt K H w x∧us.all (plW 20)=true∧plW 20 w=true∧Q (.bl (if neg then !(us.any fun u=>eqW u w) else us.any fun u=>eqW u w)) H
theorem op_ninD (hu:X.A.units+30<cLine):OpR X (compareOp .NotIn) (rInD X.K true):=by
 intro pins s σ H x y v u Q I rx ry h
 obtain ⟨p,xs,us,w,rfl,hq,hd,hw,p1,p2,q⟩:=h
 cases ry
 obtain ⟨its,r,pl,hz⟩:=I.list hq
 obtain ⟨ev,he,ea⟩:=deep_ev I hd r hw rx p1 p2 (A:=X.A.in1) (by show X.A.units+1+20<cLine;omega)
 refine SeqAt.notIn_listAt ev pl.isList (fun w hw=>he w (by simpa using hw)) ⟨.bl _,H,I,rfl,?_⟩
 rw [show its.toArray.any ev=its.any ev by simp,ea]
 exact q
def kNinD:M2:=fun x y h Q=>match fC h y with
 | some us=>by2 (plW 20 x&&us.all (plW 20)) (Q (.bl (!(us.any fun u=>eqW u x))) h) False
 | none=>False
theorem o_ninD (hu:X.A.units+30<cLine):DOp X (compareOp .NotIn) kNinD:=⟨_,op_ninD hu,by
 intro H μ h x y wx wy Qw Q R rx ry m k
 unfold kNinD at m
 split at m
 ·rename_i us eu
  obtain ⟨p,xs,ex,hs,rr⟩:=dh R ry eu
  cases c:(plW 20 wx&&us.all (plW 20)) with
  | true=>
   rw [c] at m
   rw [Bool.and_eq_true] at c
   exact ⟨p,xs,us,wx,ex,hs,xu (dt_of 20) rr c.2,dt_of 20 rx c.1,c.2,c.1,k _ _ (.bl R m)⟩
  | false=>rw [c] at m;exact (show False from m).elim
 ·exact m.elim⟩
end
end L2
namespace L2
open PySem PySem.Spec PyProof.Rows
section
variable {X:Cx}{K:PySem.W.Frag}{H:Hp}{μ : Mu}{h:Gh}
def wZ (h:Gh):List W→Option (List W)
 | []=>some []
 | w::ws=>match uT h w,wZ h ws with
  | some d,some ds=>some (d::ds)
  | _,_=>none
def rG (h:Gh)(w:W):Option W:=match w with
 | .tup ws=>(match wZ h ws with
  | some ds=>some (.tup ds)
  | none=>none)
 | w=>uT h w
theorem datsW_ok {n:Nat}(R:Rel K μ H h):∀ {ws ds:List W} {vs:List V},aN K H μ ws vs→wZ h ws=some ds→ds.all (plW n)=true→Dts K H ds vs
 | [],ds,vs,r,e,_=>by
  rw [wZ] at e
  cases e
  rw [aN] at r
  subst r
  rw [Dts]
 | w::ws,ds,vs,r,e,p=>by
  rw [wZ] at e
  cases e1:uT h w with
  | none=>rw [e1] at e;cases e
  | some d=>
   cases e2:wZ h ws with
   | none=>rw [e1,e2] at e;cases e
   | some ds'=>
    rw [e1,e2] at e
    cases e
    rw [List.all_cons,Bool.and_eq_true] at p
    rw [aN] at r
    obtain ⟨v,vs',ev,r1,r2⟩:=r
    subst ev
    rw [Dts]
    exact ⟨v,vs',rfl,nj R r1 e1 p.1,datsW_ok R r2 e2 p.2⟩
theorem datW2_ok {w d:W}{v:V}{n:Nat}(R:Rel K μ H h)(r:Rep K H μ w v)(e:rG h w=some d)(p:plW n d=true):Dt K H d v:=by
 cases w with
 | tup ws=>
  unfold rG at e
  dsimp only at e
  cases e1:wZ h ws with
  | none=>rw [e1] at e;cases e
  | some ds=>
   rw [e1] at e
   cases e
   rw [Rep] at r
   obtain ⟨q,xs,ev,hs,rs⟩:=r
   obtain ⟨m,rfl,p⟩:=qY p
   rw [Dt]
   exact ⟨q,xs,ev,hs,datsW_ok R rs e1 p⟩
 | _=>exact nj R r e p
def kEq2:M2:=fun x y h Q=>match rG h x,rG h y with
 | some a,some b=>by2 (plW 30 a&&plW 30 b) (Q (.bl (eqW a b)) h) False
 | _,_=>False
def kNe2:M2:=fun x y h Q=>match rG h x,rG h y with
 | some a,some b=>by2 (plW 30 a&&plW 30 b) (Q (.bl (!eqW a b)) h) False
 | _,_=>False
theorem o_ne2 (hu:X.A.units+30<cLine):DOp X (compareOp .NotEq) kNe2:=⟨_,op_neD hu,by
 intro H μ h x y wx wy Qw Q R rx ry m k
 unfold kNe2 at m
 split at m
 ·rename_i a b ea eb
  cases hp:(plW 30 a&&plW 30 b) with
  | true=>
   rw [hp] at m
   rw [Bool.and_eq_true] at hp
   exact ⟨a,b,datW2_ok R rx ea hp.1,datW2_ok R ry eb hp.2,hp.1,hp.2,k _ _ (.bl R m)⟩
  | false=>rw [hp] at m;exact (show False from m).elim
 ·exact m.elim⟩
end
end L2
namespace L2
open PySem PySem.Spec PyProof.Rows
section
variable {X:Cx}{K:PySem.W.Frag}{o e e':Expr}{mo:ME}{ma:MA}{apos cpos:Pos}
end
end L2
namespace L2
open PySem PySem.Spec PyProof.Rows
def plL (m:Nat):List Nat:=(List.range 8).filter fun j=>m.testBit j
def rk (m j:Nat):Nat:=((List.range j).filter fun i=>m.testBit i).length
def pq (h:Int):Nat→Nat×Nat
 | 0=>(SetTable.bits h % 8,SetTable.bits h)
 | n+1=>SetTable.leap 7 (pq h n).1 (pq h n).2
def pb (h:Int)(n:Nat):SetTable.Probe:=⟨(pq h n).1,0,(pq h n).1,(pq h n).2,none⟩
theorem pq_lt (h:Int):∀ n,(pq h n).1<8
 | 0=>Nat.mod_lt _ (by decide)
 | n+1=>Nat.mod_lt _ (by decide)
theorem pq_pert (h:Int):∀ n,(pq h n).2=SetTable.bits h / 32^n
 | 0=>by simp [pq]
 | n+1=>by
  show (pq h n).2 / 32=_
  rw [pq_pert h n,Nat.div_div_eq_div_mul,Nat.pow_succ]
theorem pq_zero (h:Int)(n:Nat)(hn:13≤n):(pq h n).2=0:=by
 rw [pq_pert]
 apply Nat.div_eq_of_lt
 have h1:SetTable.bits h<2^64:=by
  unfold SetTable.bits
  have a:=Int.emod_lt_of_pos h (show (0:Int)<2^64 by decide)
  have b:=Int.emod_nonneg h (show (2^64:Int)≠0 by decide)
  omega
 have h2:32^13≤32^n:=Nat.pow_le_pow_right (by decide) hn
 have h3:(2:Nat)^64<32^13:=by decide
 omega
def lcg:Nat→Nat→Nat
 | i,0=>i
 | i,k+1=>(lcg i k*5+1) % 8
theorem pq_lcg (h:Int):∀ k,(pq h (13+k)).1=lcg (pq h 13).1 k
 | 0=>rfl
 | k+1=>by
  show ((pq h (13+k)).1*5+1+(pq h (13+k)).2 / 32) % (7+1)=_
  rw [pq_zero h _ (by omega),pq_lcg h k]
  rfl
theorem lcg_all:∀ i:Fin 8,∀ j:Fin 8,∃ k:Fin 8,lcg i k=j.val:=by decide +kernel
theorem pq_all (h:Int){j:Nat}(hj:j<8):∃ n,n<21∧(pq h n).1=j:=by
 obtain ⟨k,e⟩:=lcg_all ⟨(pq h 13).1,pq_lt h 13⟩ ⟨j,hj⟩
 exact ⟨13+k.val,by omega,by rw [pq_lcg];exact e⟩
theorem least {P:Nat→Bool}:∀ (B:Nat),(∃ n,n<B∧P n=true)→∃ N,N<B∧P N=true∧∀ n,n<N→P n=false
 | 0,⟨n,h,_⟩=>absurd h (Nat.not_lt_zero _)
 | B+1,⟨n,h,e⟩=>by
  by_cases q:∃ n,n<B∧P n=true
  ·obtain ⟨N,a,b,c⟩:=least B q
   exact ⟨N,by omega,b,c⟩
  ·refine ⟨n,h,e,fun i hi=>?_⟩
   cases r:P i with
   | false=>rfl
   | true=>exact absurd ⟨i,by omega,r⟩ q
theorem road {m:Nat}(h:Int)(hf:∃ j,j<8∧m.testBit j=false):∃ N,N<21∧m.testBit (pq h N).1=false∧∀ n,n<N→m.testBit (pq h n).1=true:=by
 obtain ⟨j,hj,e⟩:=hf
 obtain ⟨n,hn,en⟩:=pq_all h hj
 obtain ⟨N,a,b,c⟩:=least (P:=fun n=>!m.testBit (pq h n).1) 21 ⟨n,hn,by simp [en,e]⟩
 exact ⟨N,a,by simpa using b,fun n hn=>by simpa using c n hn⟩
end L2
namespace L2
open PySem PySem.Spec PyProof.Rows
section
variable {prog:Program}{w:World}{A:Around}{E:Value→Shared→Prop}{s:Shared}{m:Nat}{ka:Nat→List Int}{ad:Nat→Addr}{t:SetTable}{a b:Addr}{k:List Int}
abbrev TK (prog:Program)(w:World)(h:Heap)(k:List Int)(a:Addr):Prop:=IsTupleKey (intKind prog w) h k a
def hT (prog:Program)(w:World)(k:List Int):Int:=tupleKeyHash (intKind prog w) k
def elL (prog:Program)(w:World)(m:Nat)(ka:Nat→List Int)(ad:Nat→Addr):List (Int×Value):=(plL m).map fun j=>(hT prog w (ka j),Value.ref (ad j))
structure TTab (prog:Program) (w:World) (h:Heap) (m:Nat) (ka:Nat→List Int) (ad:Nat→Addr) (t:SetTable):Prop where
 mask:t.mask=7
 place:t.place=(plL m).toArray
 dum:t.dummies = #[]
 m8:m<256
 few:(plL m).length≤4
 key:∀ j,j∈plL m→TK prog w h (ka j) (ad j)
 way:∀ j,j∈plL m→∃ n,(pq (hT prog w (ka j)) n).1=j∧∀ i,i<n→m.testBit (pq (hT prog w (ka j)) i).1=true
def setO (es:Array (Int×Value))(ep:Nat)(t:SetTable):Obj:={ cls:=.type "set",dict:=none,data:=.set es ep t }
def TupSet (prog:Program)(w:World)(h:Heap)(a:Addr)(m:Nat)(ka:Nat→List Int)(ad:Nat→Addr):Prop:=∃ ep t,h.get? a=some (setO (elL prog w m ka ad).toArray ep t)∧TTab prog w h m ka ad t
end
end L2
namespace L2
open PySem PySem.Spec PyProof.Rows
section
variable {prog:Program}{w:World}{A:Around}{E:Value→Shared→Prop}{R:Result→Shared→Prop}
structure Bears (prog:Program) (w:World) (z:Nat) (h:Heap) (S:Addr) (seen:List (List Int)) (m:Nat) (ka:Nat→List Int) (ad:Nat→Addr):Prop where
 set:TupSet prog w h S m ka ad
 low:∀ j,j∈plL m→ad j<z
 mem:∀ k,k∈seen↔∃ j,j∈plL m∧ka j=k
 len:(plL m).length=seen.length
end
end L2
namespace L2
open PySem PySem.Spec PyProof.Rows
section
variable {prog:Program}{w:World}{A:Around}{E:Value→Shared→Prop}{s:Shared}
end
end L2
namespace L2
open PySem PySem.Spec PyProof.Rows
section
variable {X:Cx}{K:PySem.W.Frag}
theorem items_of {prog:Program}{w:World}:∀ {k:List Int} {us:List Value},Vals (k.map V.int) us→ItemsAre (intKind prog w) k us
 | [],_,.nil=>.nil
 | i::k,_,.cons r t=>by
  obtain ⟨tk,rfl⟩:=r
  exact .cons (intKind_is _ _ _ _) (items_of t)
end
end L2
namespace L2
open PySem PySem.Spec PyProof.Rows
section
variable {X:Cx}{K:PySem.W.Frag}
end
end L2
namespace L2
open PySem PySem.Spec PyProof.Rows
section
variable {κ : Type} [DecidableEq κ]
end
section
variable {P:Program}{w:World}{H:Hp}{h:Heap}{a:Addr}
end
section
variable {X:Cx}{pins:List (Addr×Obj)}{σ : St}{H:Hp}{s:Shared}{a:Addr}{y v:V}{u r:Value}{o:Option V}{A:Around}{E:Value→Shared→Prop}
theorem Inv.big (I:Inv X pins σ H s):sysModules<s.heap.objs.size:=by
 have h:mainGlobals<s.heap.objs.size:=(I.mod.glob.keeps I.bk).lt
 exact Nat.lt_trans (by decide) h
theorem d_write {h':Heap}{t':Nat}{ob:HO}(I:Inv X pins σ H s)(mu:Mut (H a))(hs:Heap.SameBut a s.heap h')(he:∃ q,h'.get? a=some q)(new:jm X.prog X.w (upd H a ob) h' a ob) :
  Inv X pins σ (upd H a ob) { s with heap:=h',toks:=t' }:=
 I.write (x:=a) (e:=a) mu (.inl rfl) (fun b q hb z=>(hs.2 b hb).trans z) he new
end
section
variable {X:Cx}{pins:List (Addr×Obj)}{σ : St}{H:Hp}{s:Shared}{a:Addr}{kvs:List (Key×V)}{k:Key}{u:Value}{A:Around}{E:Value→Shared→Prop}
end
def NoSl (i:Expr):Prop:=∀ ov iv,subscripted i false ov iv=operate [ov,iv] (getItem ov iv)
theorem subD_of {prog:Program}{w:World}{A:Around}{E:Value→Shared→Prop}{s:Shared}{env:Env}{value slice:Expr}{pos:Pos}{T id:String}{Q:Value→Shared→Prop}
  (hl:typeLookup (.type T) "__getitem__" = pure (some (.builtin id))) (hs:NoSl slice)
  (h:wpAny (model prog w) A (eval value env) (fun o s₁=>wpAny (model prog w) A (eval slice env) (fun i s₂=>s₂.TypeIs o T∧wpAny (model prog w) A (getItem o i) Q E s₂) E s₁) E s) :
  wpAny (model prog w) A (eval (.Subscript value slice pos) env) Q E s:=by
 refine Subscript_ (wpAny_mono h (fun o s₁ h₁=>wpAny_mono h₁ (fun i s₂ h₂=>?_) fun _ _ x=>x) fun _ _ x=>x)
 obtain ⟨hT,h₂⟩:=h₂
 unfold subscriptTail
 refine wpAny_bind ?_
 rw [getitemInPython_of_ne hT.not_modules]
 refine wpAny_bind (wpAny_specialOf hT hl ?_)
 have fin:wpAny (model prog w) A (subscripted slice false o i) (fun r s₃=>wpAny (model prog w) A (letTemporaryGo value o r >>= fun _=>pure r) Q E s₃) E s₂:=by
  rw [hs o i]
  exact wpAny_operating (wpAny_mono h₂ (fun r s₃ h₃=>wpAny_bind (wpAny_letTemporaryGo (wpAny_pure h₃))) fun _ _ x=>x)
 first
  | exact wpAny_pure (wpAny_bind fin)
  | exact wpAny_bind (wpAny_pure (wpAny_bind fin))
  | exact wpAny_bind fin
section
variable {X:Cx}{o i e value:Expr}{pos pos' tpos:Pos}{td ty tv:TE}
end
theorem dt_empty {P:Program}{w:World}{H:Hp}(h:Heap)(hb:sysModules<h.objs.size):jm P w H (h.push { cls:=.type "dict",data:=.dict #[] }) h.objs.size (.dT []):=
 ⟨Nat.zero_le _,beq_eq_false_iff_ne.mpr (Ne.symm (Nat.ne_of_lt hb)),[],.nil,_,#[],0,Heap.get?_push_size _ rfl,⟨rfl,rfl,rfl⟩,rfl,rfl,List.nodup_nil⟩
section
variable {X:Cx}{pos:Pos}
end
end L2
namespace L2
open PySem PySem.Spec PyProof.Rows
section
variable {K:PySem.W.Frag}{H:Hp}{μ : Mu}{kvs:List (Key×W)}{kvv:List (Key×V)}{k:Key}{w:W}{v:V}
end
section
variable {X:Cx}{a b:Expr}{ma mb:ME}{pos:Pos}
inductive DDs (X:Cx):List (Option Expr)→List Expr→List (Key×ME)→Prop
 | nil:DDs X [] [] []
 | cons {x:Str} {j pos} {v:Expr} {m:ME} {ks:List (Option Expr)} {vs:List Expr} {r:List (Key×ME)} (h:DE X v m) (t:DDs X ks vs r):DDs X (some (.Constant (.str x) j pos)::ks) (v::vs) ((.inr x,m)::r)
end
inductive TabE (w:World) (K:PySem.W.Frag):List DictEntry→List (Key×W)→Prop
 | nil:TabE w K [] []
 | cons {x:Str} {t} {v:V} {u:Value} {d:W} {es:List DictEntry} {tbl:List (Key×W)} (r:RelV v u) (q:∀ H μ,Rep K H μ d v) (h:TabE w K es tbl):TabE w K (⟨PyData.keyHash w.params x,.str x t,u⟩::es) ((.inr x,d)::tbl)
section
variable {X:Cx}{b:Expr}{mb:ME}{pos p:Pos}{x:Str}{a:Addr}{tbl:List (Key×W)}
end
end L2
namespace L2
open PySem PySem.Spec PyProof.Rows
section
variable {X:Cx}{pos p p':Pos}{x:Str}{a:Addr}{tbl:List (Key×W)}
end
end L2
namespace L2
open PySem PySem.Spec PyProof.Rows
section
variable {X:Cx}
end
end L2
namespace L2
open PySem PySem.Spec PyProof.Rows
section
variable {X:Cx}{K:PySem.W.Frag}{H:Hp}{μ : Mu}{h:Gh}
end
end L2
namespace L2
open PySem PySem.Spec PyProof.Rows
section
variable {X:Cx}{a b c:Expr}{ma mb mc:ME}{pos:Pos}
end
end L2
namespace L2
open PySem PySem.Spec PyProof.Rows
section
variable {K:PySem.W.Frag}{H:Hp}{μ : Mu}{fs:List (Str×W)}{fvs:List (Str×V)}{f:Str}{w:W}{v:V}
end
section
variable {X:Cx}{e o value:Expr}{es:List Expr}{ma mo mv:ME}{mr:MA}{f:Str}{C:Addr}{pos pos' apos:Pos}
end
end L2
namespace L2
open PySem PySem.Spec PyProof.Rows
section
variable {prog:Program}{w:World}{A:Around}{E:Value→Shared→Prop}{s:Shared}
end
section
variable {X:Cx}
end
section
variable {X:Cx}{e:Expr}{me:ME}{x:Str}{a:Addr}{tbl:List (Key×W)}{p pos:Pos}
end
end L2
namespace L2
open PySem PySem.Spec PyProof.Rows
section
variable {X:Cx}{Γ : St→Prop}{C:Addr}{o e:Expr}{es:List Expr}{mo:ME}{mr:MA}{pos apos:Pos}
end
end L2
namespace L2
open PySem PySem.Spec PyProof.Rows
def tY (kvs:List (List Int×W))(k:List Int):Option W:=(kvs.find? fun x=>decide (x.1=k)).map (·.2)
def putT (kvs:List (List Int×W))(k:List Int)(w:W):List (List Int×W):=if (tY kvs k).isSome then kvs.map (fun x=>if x.1=k then (x.1,w) else x) else kvs++[(k,w)]
section
variable {X:Cx}{pins:List (Addr×Obj)}{σ : St}{H:Hp}{s:Shared}{K:PySem.W.Frag}{μ : Mu}
def KeysT (K:PySem.W.Frag)(H:Hp)(xs:List (List Int×Addr×Value)):Prop:=∀ x∈xs,SqT K H x.2.1 (x.1.map V.int)
theorem key_sq {b:Addr}{k:List Int}(I:Inv X pins σ H s)(hb:SqT X.K H b (k.map V.int)):(tupleKind (intKind X.prog X.w)).is s.heap k b:=by
 obtain ⟨its2,r2,⟨o,ho,hcl,n,hd⟩,_⟩:=I.tuple hb
 exact ⟨o,_,_,ho,hcl,hd,items_of r2⟩
theorem uH {a:Addr}{xs:List (List Int×Addr×Value)}(I:Inv X pins σ H s)(e:H a=some (.ext (DicT a xs)))(hk:KeysT X.K H xs):xs.length≤sizeLine∧(a==sysModules)=false∧s.heap.DictOfH (tupleKind (intKind X.prog X.w)) a xs:=by
 obtain ⟨⟨z,y,nd,o,es,ep,h1,h2,h3,h4⟩,_⟩:=I.hok a _ e
 exact ⟨z,y,o,es,ep,h1,h2,h3,h4,fun x hx=>key_sq I (hk x hx),nd⟩
theorem dicT_ok {P:Program}{w:World}{H':Hp}{a:Addr}{xs:List (List Int×Addr×Value)}{h:Heap}(z:xs.length≤sizeLine)(y:(a==sysModules)=false)(d:h.DictOfH (tupleKind (intKind P w)) a xs):jm P w H' h a (.ext (DicT a xs)):=by
 obtain ⟨o,es,ep,h1,h2,h3,h4,_,h5⟩:=d
 exact ⟨⟨z,y,h5,o,es,ep,h1,h2,h3,h4⟩,⟨o,h1⟩,fun g1 g2 ⟨z,y,nd,o,es,ep,a1,a2,a3,a4⟩ k=>⟨z,y,nd,o,es,ep,k o a1,a2,a3,a4⟩⟩
theorem at_cons {x:List Int×Addr×Value}{xs:List (List Int×Addr×Value)}{k:List Int}:atKey (x::xs) k=if x.1=k then some x.2 else atKey xs k:=by
 unfold atKey
 rw [List.find?_cons]
 by_cases e:x.1=k
 ·rw [if_pos e];simp [e]
 ·rw [if_neg e];simp [e]
theorem gU {x:List Int×W}{kvs:List (List Int×W)}{k:List Int}:tY (x::kvs) k=if x.1=k then some x.2 else tY kvs k:=by
 unfold tY
 rw [List.find?_cons]
 by_cases e:x.1=k
 ·rw [if_pos e];simp [e]
 ·rw [if_neg e];simp [e]
theorem uP:∀ {kvs:List (List Int×W)} {xs:List (List Int×Addr×Value)} {vs:List V},kvs.map (·.1)=xs.map (·.1)→Vals vs (xs.map (·.2.2))→aN K H μ (kvs.map (·.2)) vs→∀ k:List Int,
  (∀ w,tY kvs k=some w→∃ p v,atKey xs k=some p∧RelV v p.2∧Rep K H μ w v)∧(tY kvs k).isSome=(atKey xs k).isSome
 | [],[],_,_,_,_,k=>⟨fun w e=>by simp [tY] at e,rfl⟩
 | [],_::_,_,e,_,_,_=>by simp at e
 | _::_,[],_,e,_,_,_=>by simp at e
 | x::kvs,y::xs,vs,e,hv,hr,k=>by
  rw [List.map_cons,List.map_cons] at e
  obtain ⟨e1,e2⟩:=List.cons.inj e
  rw [List.map_cons,aN] at hr
  obtain ⟨v,vs',rfl,r1,r2⟩:=hr
  rw [List.map_cons] at hv
  cases hv with
  | cons a b=>
   obtain ⟨i1,i2⟩:=uP e2 b r2 k
   rw [gU,at_cons,e1]
   by_cases z:y.1=k
   ·rw [if_pos z,if_pos z]
    exact ⟨fun w ew=>by cases ew;exact ⟨_,v,rfl,a,r1⟩,rfl⟩
   ·rw [if_neg z,if_neg z]
    exact ⟨i1,i2⟩
theorem Rel.dttAt {h:Gh}{n:Nat}{kvs:List (List Int×W)}(R:Rel K μ H h)(e:h.c n=some (.dtt kvs)):∃ p xs vs,μ.f n=some p∧H p=some (.ext (DicT p xs))∧kvs.map (·.1)=xs.map (·.1)∧Vals vs (xs.map (·.2.2))∧aN K H μ (kvs.map fun x=>W.tup (x.1.map W.int)) (xs.map fun x=>V.ref x.2.1)∧aN K H μ (kvs.map (·.2)) vs:=by
 obtain ⟨p,e1,xs,vs,a,b,c,d,f⟩:=R.cel n _ e
 exact ⟨p,xs,vs,e1,a,b,c,d,f⟩
theorem reps_int:∀ {k:List Int} {vs:List V},aN K H μ (k.map W.int) vs→vs=k.map V.int
 | [],_,h=>by rw [List.map_nil,aN] at h;exact h
 | i::k,_,h=>by
  rw [List.map_cons,aN] at h
  obtain ⟨v,vs,rfl,r,t⟩:=h
  rw [Rep] at r
  rw [r,reps_int t]
  rfl
theorem rep_key {k:List Int}{b:Addr}(r:Rep K H μ (.tup (k.map .int)) (.ref b)):SqT K H b (k.map V.int):=by
 rw [Rep] at r
 obtain ⟨p,xs,e,hs,hr⟩:=r
 cases e
 rw [reps_int hr] at hs
 exact hs
theorem mj:∀ {kvs:List (List Int×W)} {xs:List (List Int×Addr×Value)},kvs.map (·.1)=xs.map (·.1)→aN K H μ (kvs.map fun x=>W.tup (x.1.map W.int)) (xs.map fun x=>V.ref x.2.1)→KeysT K H xs
 | [],[],_,_=>fun x hx=>nomatch hx
 | [],_::_,e,_=>by simp at e
 | _::_,[],e,_=>by simp at e
 | x::kvs,y::xs,e,hr=>by
  rw [List.map_cons,List.map_cons] at e
  obtain ⟨e1,e2⟩:=List.cons.inj e
  rw [List.map_cons,List.map_cons,aN] at hr
  obtain ⟨v,vs',ev,r1,r2⟩:=hr
  obtain ⟨rfl,rfl⟩:=List.cons.inj ev
  intro z hz
  rcases List.mem_cons.mp hz with rfl | hz
  ·rw [e1] at r1
   exact rep_key r1
  ·exact mj e2 r2 z hz
end
section
variable {X:Cx}{a b o i:Expr}{ma mb:ME}{td ty:TE}{pos:Pos}
def tKey:W→Option (List Int)
 | .tup ws=>zQ ws
 | _=>none
def kTIx:M2:=fun x y h Q=>match x,tKey y with
 | .loc n,some k=>(match h.c n with
  | some (.dtt kvs)=>(match tY kvs k with
   | some w=>Q w h
   | none=>False)
  | _=>False)
 | _,_=>False
theorem pe_dgetT (hu:X.A.units+30<cLine)(ho:PE X o td)(hi:PE X i ty)(hs:NoSl i):PE X (.Subscript o i pos) (fun σ H Q=>td σ H fun x H1=>ty σ H1 fun y H2=>∃ a xs k b p v,x=.ref a∧H2 a=some (.ext (DicT a xs))∧KeysT X.K H2 xs∧y=.ref b∧SqT X.K H2 b (k.map V.int)∧atKey xs k=some p∧RelV v p.2∧Q v H2):=by
 intro pins s σ H Q I h
 refine subD_of PySem.F.slot_dict_getitem.lookup hs (thn (ho pins s σ H _ I h) fun u s1 ⟨x,H1,I1,rx,q1⟩=>thn (hi pins s1 σ H1 _ I1 q1) fun iv s2 ⟨y,H2,I2,ry,a,xs,k,b,p,v,ex,e,hk,ey,hb,l,rv,q2⟩=>?_)
 subst ex ey
 obtain rfl:u=Value.ref a:=rx
 obtain rfl:iv=Value.ref b:=ry
 obtain ⟨z,hd,dd⟩:=uH I2 e hk
 exact ⟨dd.typeIs,wpAny_getItem_heap (tupleKind_room_in1 (by omega)) (key_sq I2 hb) dd l ⟨v,H2,I2.tok _,rv,q2⟩⟩
theorem uL {K:PySem.W.Frag}{H:Hp}{μ : Mu}{y:W}{v:V}{k:List Int}(r:Rep K H μ y v)(e:tKey y=some k):∃ b,v=.ref b∧SqT K H b (k.map V.int):=by
 unfold tKey at e
 split at e
 ·rw [Rep] at r
  obtain ⟨p,xs,e1,hs,hr⟩:=r
  rw [vC hr e] at hs
  exact ⟨p,e1,hs⟩
 ·cases e
theorem d_tix (hu:X.A.units+30<cLine)(ha:DE X a ma)(hb:DE X b mb)(hs:NoSl b):DE X (.Subscript a b pos) (mOp kTIx ma mb):=(pe_dgetT hu ha hb hs).of fun σ H Q h=>two h fun {H2 μ2 h2 x y wx wy Qw} R r1 r2 m k=>by
 unfold kTIx at m
 split at m
 ·rename_i n kk e
  split at m
  ·rename_i kvs ec
   split at m
   ·rename_i w ev
    obtain ⟨p,xs,vs,hp,hx,e1,e2,r3,r4⟩:=R.dttAt ec
    rw [Rep] at r1
    obtain ⟨p',ex,hp'⟩:=r1
    have ep:p'=p:=by rw [hp] at hp';exact (Option.some.inj hp').symm
    subst ep
    obtain ⟨b',eb,hb'⟩:=uL r2 e
    obtain ⟨q,v,h3,h4,h5⟩:=(uP e1 e2 r4 kk).1 w ev
    exact ⟨p',xs,kk,b',q,v,ex,hx,mj e1 r3,eb,hb',h3,h4,k _ _ ⟨μ2,w,h2,.refl,R,h5,m⟩⟩
   ·exact m.elim
  ·exact m.elim
 ·exact m.elim
def kInT (neg:Bool):M2:=fun y x h Q=>match x,tKey y with
 | .loc n,some k=>(match h.c n with
  | some (.dtt kvs)=>Q (.bl (neg ^^ (tY kvs k).isSome)) h
  | _=>False)
 | _,_=>False
def rInT (K:PySem.W.Frag)(neg:Bool):R2:=fun y x H Q=>∃ a xs k b,x=.ref a∧H a=some (.ext (DicT a xs))∧KeysT K H xs∧y=.ref b∧SqT K H b (k.map V.int)∧Q (.bl (neg ^^ (atKey xs k).isSome)) H
theorem op_ninT (hu:X.A.units+30<cLine):OpR X (compareOp .NotIn) (rInT X.K true):=by
 intro pins s σ H y x v u Q I ry rx ⟨a,xs,k,b,ex,e,hk,ey,hb,q⟩
 subst ex ey
 obtain rfl:u=Value.ref a:=rx
 obtain rfl:v=Value.ref b:=ry
 obtain ⟨z,hd,dd⟩:=uH I e hk
 refine wpAny_notIn_heap (tupleKind_room_in1 (by omega)) (key_sq I hb) hd dd ⟨.bl (!(atKey xs k).isSome),H,I.tok _,rfl,?_⟩
 simpa using q
theorem sim_inT {K:PySem.W.Frag}{neg:Bool}:Sim2 K (rInT K neg) (kInT neg):=by
 intro H μ h y x wy wx Qw Q R ry rx m k
 unfold kInT at m
 split at m
 ·rename_i n kk e
  split at m
  ·rename_i kvs ec
   obtain ⟨p,xs,vs,hp,hx,e1,e2,r3,r4⟩:=R.dttAt ec
   rw [Rep] at rx
   obtain ⟨p',ex,hp'⟩:=rx
   have ep:p'=p:=by rw [hp] at hp';exact (Option.some.inj hp').symm
   subst ep
   obtain ⟨b',eb,hb'⟩:=uL ry e
   refine ⟨p',xs,kk,b',ex,hx,mj e1 r3,eb,hb',k _ _ ⟨μ,_,h,.refl,R,?_,m⟩⟩
   rw [Rep,(uP e1 e2 r4 kk).2]
  ·exact m.elim
 ·exact m.elim
theorem o_ninT (hu:X.A.units+30<cLine):DOp X (compareOp .NotIn) (kInT true):=⟨_,op_ninT hu,sim_inT⟩
theorem xY {k:List Int}{v:Value}:∀ {xs:List (List Int×Addr×Value)},(xs.map (putAt k v)).map (·.1)=xs.map (·.1)
 | []=>rfl
 | x::xs=>by
  rw [List.map_cons,List.map_cons,List.map_cons,xY]
  congr 1
  unfold putAt
  by_cases e:x.1=k
  ·rw [if_pos e]
  ·rw [if_neg e]
theorem yg {k:List Int}{v:Value}:∀ {xs:List (List Int×Addr×Value)},(xs.map (putAt k v)).map (fun x=>V.ref x.2.1)=xs.map (fun x=>V.ref x.2.1)
 | []=>rfl
 | x::xs=>by
  rw [List.map_cons,List.map_cons,List.map_cons,yg]
  congr 1
  unfold putAt
  by_cases e:x.1=k
  ·rw [if_pos e]
  ·rw [if_neg e]
def rSetT (K:PySem.W.Frag):TSet:=fun o i v H N=>∃ a xs k b,o=.ref a∧H a=some (.ext (DicT a xs))∧KeysT K H xs∧i=.ref b∧SqT K H b (k.map V.int)∧xs.length<sizeLine∧∀ u,RelV v u→N (upd H a (.ext (DicT a (storedH xs k b u))))
theorem stored_len {xs:List (List Int×Addr×Value)}{k:List Int}{b:Addr}{u:Value}:(storedH xs k b u).length≤xs.length+1:=by
 unfold storedH
 split
 ·rw [List.length_map];omega
 ·rw [List.length_append];exact Nat.le_refl _
theorem v7 (hu:X.A.units+30<cLine):PSet X (rSetT X.K):=by
 intro pins s σ H o i v ov iv u Q I ro ri rv ⟨a,xs,k,b,eo,e,hk,ei,hb,l,q⟩
 subst eo ei
 obtain rfl:ov=Value.ref a:=ro
 obtain rfl:iv=Value.ref b:=ri
 obtain ⟨z,hd,dd⟩:=uH I e hk
 refine wpAny_setItem_heap (hsz:=z) (tupleKind_room_in1 (by omega)) (key_sq I hb) dd fun h' dd' hs=>⟨_,?_,q u rv⟩
 have he:∃ q,h'.get? a=some q:=let ⟨q,_,_,hq,_⟩:=dd';⟨q,hq⟩
 exact d_write I (by rw [e];exact True.intro) hs he (dicT_ok (by have:=stored_len (xs:=xs) (k:=k) (b:=b) (u:=u);omega) hd dd')
def mNewT:ME:=fun _ h Q=>Q (.loc h.nx) (h.new (.dtt []))
theorem pe_dnewT2:PE X (.Dict [] [] pos) (fun _ H Q=>∀ p,H p=none→Q (.ref p) (upd H p (.ext (DicT p [])))):=fun pins s σ H Q I h=>
 wpAny_Dict_empty ⟨.ref s.heap.objs.size,_,I.laid (a:=s.heap.objs.size) (o:=.ext (DicT s.heap.objs.size [])) (t':=s.toks) (fun _ _ q=>Heap.get?_push_of_some _ q) (Nat.le_refl _) (by
  obtain ⟨_,y,_⟩:=dt_empty (P:=X.prog) (w:=X.w) (H:=H) s.heap I.big
  exact dicT_ok (P:=X.prog) (w:=X.w) (Nat.zero_le _) y ⟨_,#[],0,Heap.get?_push_size _ rfl,⟨rfl,rfl,rfl⟩,rfl,rfl,(fun x hx=>absurd hx List.not_mem_nil),List.nodup_nil⟩),rfl,h _ (I.hok.fresh (Nat.le_refl _))⟩
theorem d_newT:DE X (.Dict [] [] pos) mNewT:=pe_dnewT2.of fun σ H Q ⟨μ,g,σw,Qw,R,S,m,q⟩ p hp=>by
 have R1:Rel X.K (μ.put g.nx p) (upd H p (.ext (DicT p []))) (g.new (.dtt [])):=R.newCell hp trivial ⟨[],[],bw,rfl,.nil,by rw [List.map_nil,List.map_nil,aN],by rw [List.map_nil,aN]⟩
 exact q _ _ ⟨_,.loc g.nx,_,(Ex.newCell R hp).ext,R1,by rw [Rep];exact ⟨p,rfl,Mu.put_same⟩,m⟩
def sSetT:MSet:=fun o i w h N=>match o,tKey i with
 | .loc n,some k=>(match h.c n with
  | some (.dtt kvs)=>iU (kvs.length+1) (N (h.set n (.dtt (putT kvs k w))))
  | _=>False)
 | _,_=>False
theorem dtt_put {K:PySem.W.Frag}{H:Hp}{μ : Mu}{k:List Int}{w:W}{v:V}{u:Value}(rv:RelV v u)(r:Rep K H μ w v):∀ {kvs:List (List Int×W)} {xs:List (List Int×Addr×Value)} {vs:List V},kvs.map (·.1)=xs.map (·.1)→Vals vs (xs.map (·.2.2))→aN K H μ (kvs.map (·.2)) vs →
  ∃ vs',Vals vs' ((xs.map (putAt k u)).map (·.2.2))∧aN K H μ ((kvs.map (fun x=>if x.1=k then (x.1,w) else x)).map (·.2)) vs'
 | [],[],_,_,_,_=>⟨[],.nil,by rw [List.map_nil,List.map_nil,aN]⟩
 | [],_::_,_,e,_,_=>by simp at e
 | _::_,[],_,e,_,_=>by simp at e
 | x::kvs,y::xs,vs,e,hv,hr=>by
  rw [List.map_cons,List.map_cons] at e
  obtain ⟨e1,e2⟩:=List.cons.inj e
  rw [List.map_cons,aN] at hr
  obtain ⟨v1,vs',rfl,r1,r2⟩:=hr
  rw [List.map_cons] at hv
  cases hv with
  | cons a b=>
   obtain ⟨vs2,i1,i2⟩:=dtt_put rv r e2 b r2
   by_cases z:y.1=k
   ·refine ⟨v::vs2,?_,?_⟩
    ·rw [List.map_cons,List.map_cons]
     refine .cons ?_ i1
     unfold putAt
     rw [if_pos z]
     exact rv
    ·rw [List.map_cons,List.map_cons,aN]
     refine ⟨v,vs2,rfl,?_,i2⟩
     rw [if_pos (e1.trans z)]
     exact r
   ·refine ⟨v1::vs2,?_,?_⟩
    ·rw [List.map_cons,List.map_cons]
     refine .cons ?_ i1
     unfold putAt
     rw [if_neg z]
     exact a
    ·rw [List.map_cons,List.map_cons,aN]
     refine ⟨v1,vs2,rfl,?_,i2⟩
     rw [if_neg (fun q=>z (e1.symm.trans q))]
     exact r1
theorem put_fst {k:List Int}{w:W}:∀ {kvs:List (List Int×W)},(kvs.map (fun x=>if x.1=k then (x.1,w) else x)).map (·.1)=kvs.map (·.1)
 | []=>rfl
 | x::kvs=>by
  rw [List.map_cons,List.map_cons,List.map_cons,put_fst]
  congr 1
  by_cases e:x.1=k
  ·rw [if_pos e]
  ·rw [if_neg e]
theorem put_key {k:List Int}{w:W}:∀ {kvs:List (List Int×W)},(kvs.map (fun x=>if x.1=k then (x.1,w) else x)).map (fun x=>W.tup (x.1.map W.int))=kvs.map (fun x=>W.tup (x.1.map W.int))
 | []=>rfl
 | x::kvs=>by
  rw [List.map_cons,List.map_cons,List.map_cons,put_key]
  congr 1
  by_cases e:x.1=k
  ·rw [if_pos e]
  ·rw [if_neg e]
theorem aN.snoc {K:PySem.W.Frag}{H:Hp}{μ : Mu}{w:W}{v:V}(r:Rep K H μ w v):∀ {ws:List W} {vs:List V},aN K H μ ws vs→aN K H μ (ws++[w]) (vs++[v])
 | [],_,h=>by
  rw [aN] at h
  rw [h,List.nil_append,List.nil_append,aN]
  exact ⟨v,[],rfl,r,by rw [aN]⟩
 | a::ws,_,h=>by
  rw [aN] at h
  obtain ⟨b,bs,rfl,h1,h2⟩:=h
  rw [List.cons_append,List.cons_append,aN]
  exact ⟨b,bs++[v],rfl,h1,aN.snoc r h2⟩
theorem int_vals {K:PySem.W.Frag}{H:Hp}{μ : Mu}:∀ k:List Int,aN K H μ (k.map W.int) (k.map V.int)
 | []=>by rw [List.map_nil,List.map_nil,aN]
 | i::k=>by
  rw [List.map_cons,List.map_cons,aN]
  exact ⟨_,_,rfl,by rw [Rep],int_vals k⟩
theorem sim_setT {K:PySem.W.Frag}:SimSet K (rSetT K) sSetT:=by
 intro H μ h o i v wo wi w Nw N R ro ri r m k
 unfold sSetT at m
 split at m
 ·rename_i n kk e
  split at m
  ·rename_i kvs ec
   obtain ⟨p,xs,vs,hp,hx,e1,e2,r3,r4⟩:=R.dttAt ec
   rw [Rep] at ro
   obtain ⟨p',ex,hp'⟩:=ro
   have ep:p'=p:=by rw [hp] at hp';exact (Option.some.inj hp').symm
   subst ep
   obtain ⟨b,eb,hb⟩:=uL ri e
   have hlen:kvs.length=xs.length:=by have:=congrArg List.length e1;rwa [List.length_map,List.length_map] at this
   have we:=fun (o:HO)=>(Ex.write (o:=o) R hp).ext
   have rk:Rep K H μ (.tup (kk.map W.int)) (.ref b):=by rw [Rep];exact ⟨b,_,rfl,hb,int_vals kk⟩
   refine ⟨p',xs,kk,b,ex,hx,mj e1 r3,eb,hb,by have:=m.ok.1;omega,fun u ru=>k _ ⟨μ,_,we _,R.write (c:=.dtt (putT kvs kk w)) hp trivial ?_,m.ok.2⟩⟩
   have hs:=(uP e1 e2 r4 kk).2
   cases ea:atKey xs kk with
   | some q=>
    rw [ea] at hs
    obtain ⟨vs',i1,i2⟩:=dtt_put (k:=kk) ru r e1 e2 r4
    rw [storedH_old ea]
    unfold putT
    rw [if_pos (show (tY kvs kk).isSome=true from hs)]
    exact ⟨_,vs',bw,put_fst.trans (e1.trans xY.symm),i1,by rw [put_key,yg];exact (we _).s r3,(we _).s i2⟩
   | none=>
    rw [ea] at hs
    rw [storedH_new ea]
    unfold putT
    rw [if_neg (show ¬ (tY kvs kk).isSome=true from by rw [hs];decide)]
    refine ⟨_,vs++[v],bw,?_,?_,?_,?_⟩
    ·rw [List.map_append,List.map_append,e1];rfl
    ·rw [List.map_append];exact Vals.append e2 (.cons ru .nil)
    ·rw [List.map_append,List.map_append];exact (we _).s (aN.snoc rk r3)
    ·rw [List.map_append];exact (we _).s (aN.snoc r r4)
  ·exact m.elim
 ·exact m.elim
end
section
variable {prog:Program}{w:World}{A:Around}{E:Value→Shared→Prop}{s:Shared}
theorem meets_lenH {d:Addr}(hd:(d==sysModules)=false) :
  MeetsIn prog w (Builtin.«dict.__len__» ⟨[.ref d],[]⟩) (fun _ R s=>∃ xs:List (List Int×Addr×Value),s.heap.DictOfH (tupleKind (intKind prog w)) d xs∧R (.ok (.ret (.int xs.length s.toks))) { s with toks:=s.toks+1 }):=
 .of_wp fun A R s ⟨xs,hm,h⟩=>by
  obtain ⟨o,es,ep,ho,hc,hdat,hk,hp,hn⟩:=hm
  show wpAny _ _ (dictSize d >>= _) _ _ s
  unfold dictSize
  refine wpAny_bind (wpAny_bind (wpAny_dictEntries ho hdat (wpAny_pure ?_)))
  show wpAny _ _ (Builtin.Dict.pendingCount d >>= _) _ _ s
  refine wpAny_bind (wpAny_pendingCount_other hd ?_)
  refine wpAny_ret_mkInt ?_
  have:es.size=xs.length:=by have:=congrArg List.length hk;rw [List.length_map] at this;simpa using this
  rw [Nat.add_zero,this];exact h
theorem call_lenH {d:Addr}{xs:List (List Int×Addr×Value)}{Q:Value→Shared→Prop}(hd:(d==sysModules)=false)(hm:s.heap.DictOfH (tupleKind (intKind prog w)) d xs)(hfit:(xs.length:Int)<2^63)
  (h:Q (.int xs.length (s.toks+1)) { s with toks:=s.toks+1+1 }):wpAny (model prog w) A (call (.builtin "len") [.ref d]) Q E s:=by
 refine Calls.call_function_entry kind_len plain_len entry_len (args_len1 _) ?_
 unfold Builtin.«len»
 refine wpAny_bind (m:=oneArg "len" _) (wpAny_pure ?_)
 refine wpAny_bind (m:=callSpecial? (.ref d) (Str.ofString "__len__")) (wpAny_callSpecial?_slot (name:=Str.ofString "__len__") hm.typeIs F.slot_dict_len
  (call_meetsIn F.slot_dict_len hm.typeIs F.entry_dict_len (F.args_dict_len_1 _) (meets_lenH hd) ⟨xs,hm,?_⟩))
 show wpAny _ _ _ _ _ { s with toks:=s.toks+1 }
 refine wpAny_bind (wpAny_holding (wpAny_pure ?_))
 refine wpAny_bind (wpAny_letGo ?_)
 show wpAny _ _ (if ((xs.length:Nat):Int)<0 then _ else _) _ _ _
 rw [if_neg (by omega)]
 show wpAny _ _ (if ((xs.length:Nat):Int)≥2^63 then _ else _) _ _ _
 rw [if_neg (by omega)]
 exact wpAny_bind (wpAny_mkInt (wpAny_pure ⟨_,rfl,h⟩))
end
section
variable {X:Cx}
theorem call_lenT:lO X (.builtin "len") (fun xs H Q=>∃ (a:Addr) (ys:List (List Int×Addr×Value)),xs=[.ref a]∧H a=some (.ext (DicT a ys))∧KeysT X.K H ys∧Q (.int ys.length) H):=by
 intro pins s σ H xs us Q I r h
 obtain ⟨a,ys,rfl,hq,hk,q⟩:=h
 obtain ⟨u,rfl,rx⟩:=vals1 r
 cases rx
 obtain ⟨z,hd,dd⟩:=uH I hq hk
 exact call_lenH hd dd (by rw [sizeLine_eq] at z;omega) ⟨.int ys.length,H,I.tok _,⟨_,rfl⟩,q⟩
def kLenT:MC:=fun ws h Q=>match ws with
 | [.loc n]=>(match h.c n with
  | some (.dtt kvs)=>Q (.int kvs.length) h
  | _=>False)
 | _=>False
theorem c_lenT:lg X (.builtin "len") kLenT:=⟨_,call_lenT,by
 intro H μ h vs ws Qw Q R r m k
 unfold kLenT at m
 split at m
 ·rename_i n
  split at m
  ·rename_i kvs ec
   obtain ⟨p,xs,vs',hp,hx,e1,e2,r3,r4⟩:=R.dttAt ec
   rw [aN] at r
   obtain ⟨v,vs2,rfl,r1,r2⟩:=r
   rw [aN] at r2
   subst r2
   rw [Rep] at r1
   obtain ⟨p',rfl,hp'⟩:=r1
   have ep:p'=p:=by rw [hp] at hp';exact (Option.some.inj hp').symm
   subst ep
   have hlen:kvs.length=xs.length:=by have:=congrArg List.length e1;rwa [List.length_map,List.length_map] at this
   rw [hlen] at m
   exact ⟨p',xs,rfl,hx,mj e1 r3,k _ _ ⟨μ,_,h,.refl,R,by rw [Rep],m⟩⟩
  ·exact m.elim
 ·exact m.elim⟩
end
end L2
namespace My
set_option maxHeartbeats 4000000
open PySem L2 PyProof.Rows
def m6:W:=(.tup [(.tup [(.int 1),(.int 0),(.int 0)]),(.tup [(.int 0),(.int 1),(.int 0)]),(.tup [(.int 0),(.int 0),(.int 1)]),(.tup [(.int 1),(.int 1),(.int 1)])])
def top (i:Nat):Stmt:=PySem.Challenge.pw_easelroom_k23_forms_of_few.main.body.getD i (.Pass ⟨0,0,0,0⟩)
abbrev jK:Stmt:=top 7
theorem qb:aJ ["thing"] ["thing"] (aF jK):=⟨rfl,rfl,rfl,by decide +kernel,rfl,by decide +kernel,by decide +kernel⟩
abbrev cL:Stmt:=top 8
theorem fY:aJ ["one", "other", "rest"] ["one", "other"] (aF cL):=⟨rfl,rfl,rfl,by decide +kernel,rfl,by decide +kernel,by decide +kernel⟩
abbrev lq:Stmt:=top 9
theorem sJ:aJ ["numbers", "found", "number"] ["numbers"] (aF lq):=⟨rfl,rfl,rfl,by decide +kernel,rfl,by decide +kernel,by decide +kernel⟩
abbrev fL:Stmt:=top 10
theorem kJ:aJ ["numbers", "number"] ["numbers"] (aF fL):=⟨rfl,rfl,rfl,by decide +kernel,rfl,by decide +kernel,by decide +kernel⟩
abbrev vo:Stmt:=top 11
theorem sc_plain:aJ ["numbers", "factor"] ["numbers"] (aF vo):=⟨rfl,rfl,rfl,by decide +kernel,rfl,by decide +kernel,by decide +kernel⟩
abbrev jJ:Stmt:=top 12
theorem pX:aJ ["thing", "many"] ["thing", "many"] (aF jJ):=⟨rfl,rfl,rfl,by decide +kernel,rfl,by decide +kernel,by decide +kernel⟩
abbrev s_dot:Stmt:=top 14
theorem sc_dot:aJ ["one", "other"] ["one", "other"] (aF s_dot):=⟨rfl,rfl,rfl,by decide +kernel,rfl,by decide +kernel,by decide +kernel⟩
abbrev vP:Stmt:=top 15
theorem sc_cross:aJ ["one", "other"] ["one", "other"] (aF vP):=⟨rfl,rfl,rfl,by decide +kernel,rfl,by decide +kernel,by decide +kernel⟩
abbrev s_turn:Stmt:=top 16
theorem sc_turn:aJ ["one", "other", "third"] ["one", "other", "third"] (aF s_turn):=⟨rfl,rfl,rfl,by decide +kernel,rfl,by decide +kernel,by decide +kernel⟩
abbrev mQ:Stmt:=top 17
theorem tU:aJ ["spot", "line"] ["spot", "line"] (aF mQ):=⟨rfl,rfl,rfl,by decide +kernel,rfl,by decide +kernel,by decide +kernel⟩
abbrev gY:Stmt:=top 18
theorem oh:aJ ["rows", "unlike", "shared"] ["rows"] (aF gY):=⟨rfl,rfl,rfl,by decide +kernel,rfl,by decide +kernel,by decide +kernel⟩
abbrev lN:Stmt:=top 19
theorem uf:aJ ["spots"] ["spots"] (aF lN):=⟨rfl,rfl,rfl,by decide +kernel,rfl,by decide +kernel,by decide +kernel⟩
abbrev d8:Stmt:=top 20
theorem jQ:aJ ["one", "other"] ["one", "other"] (aF d8):=⟨rfl,rfl,rfl,by decide +kernel,rfl,by decide +kernel,by decide +kernel⟩
abbrev z8:Stmt:=top 21
theorem sc_join:aJ ["one", "other"] ["one", "other"] (aF z8):=⟨rfl,rfl,rfl,by decide +kernel,rfl,by decide +kernel,by decide +kernel⟩
abbrev oX:Stmt:=top 23
theorem xM:aJ ["many", "size", "found", "taken", "longer", "places", "first"] ["many", "size"] (aF oX):=⟨rfl,rfl,rfl,by decide +kernel,rfl,by decide +kernel,by decide +kernel⟩
abbrev oZ:Stmt:=top 24
theorem wD:aJ ["things", "places"] ["things", "places"] (aF oZ):=⟨rfl,rfl,rfl,by decide +kernel,rfl,by decide +kernel,by decide +kernel⟩
abbrev lG:Stmt:=top 27
theorem tX:aJ ["table"] ["table"] (aF lG):=⟨rfl,rfl,rfl,by decide +kernel,rfl,by decide +kernel,by decide +kernel⟩
abbrev lE:Stmt:=top 28
theorem tW:aJ ["numbers", "rows"] ["numbers"] (aF lE):=⟨rfl,rfl,rfl,by decide +kernel,rfl,by decide +kernel,by decide +kernel⟩
abbrev pI:Stmt:=top 29
theorem xP:aJ ["thing"] ["thing"] (aF pI):=⟨rfl,rfl,rfl,by decide +kernel,rfl,by decide +kernel,by decide +kernel⟩
abbrev cD:Stmt:=top 30
theorem fJ:aJ ["table", "row"] ["table", "row"] (aF cD):=⟨rfl,rfl,rfl,by decide +kernel,rfl,by decide +kernel,by decide +kernel⟩
abbrev lD:Stmt:=top 31
theorem sZ:aJ ["table"] ["table"] (aF lD):=⟨rfl,rfl,rfl,by decide +kernel,rfl,by decide +kernel,by decide +kernel⟩
abbrev bM:Stmt:=top 32
theorem dX:aJ ["one", "other", "columns", "numbers", "row"] ["one", "other"] (aF bM):=⟨rfl,rfl,rfl,by decide +kernel,rfl,by decide +kernel,by decide +kernel⟩
abbrev pH:Stmt:=top 33
theorem yc:aJ ["table", "rows"] ["table"] (aF pH):=⟨rfl,rfl,rfl,by decide +kernel,rfl,by decide +kernel,by decide +kernel⟩
abbrev s_led:Stmt:=top 34
theorem sc_led:aJ ["by", "spot"] ["by", "spot"] (aF s_led):=⟨rfl,rfl,rfl,by decide +kernel,rfl,by decide +kernel,by decide +kernel⟩
abbrev s_then:Stmt:=top 35
theorem sc_then:aJ ["one", "other"] ["one", "other"] (aF s_then):=⟨rfl,rfl,rfl,by decide +kernel,rfl,by decide +kernel,by decide +kernel⟩
abbrev z9:Stmt:=top 36
theorem sc_back:aJ ["by"] ["by"] (aF z9):=⟨rfl,rfl,rfl,by decide +kernel,rfl,by decide +kernel,by decide +kernel⟩
abbrev vI:Stmt:=top 37
theorem sc_tiles:aJ [] [] (aF vI):=⟨rfl,rfl,rfl,by decide +kernel,rfl,by decide +kernel,by decide +kernel⟩
abbrev jM:Stmt:=top 38
theorem pU:aJ ["four", "turns"] ["four"] (aF jM):=⟨rfl,rfl,rfl,by decide +kernel,rfl,by decide +kernel,by decide +kernel⟩
abbrev fD:Stmt:=top 39
theorem lX:aJ ["four", "factors"] ["four"] (aF fD):=⟨rfl,rfl,rfl,by decide +kernel,rfl,by decide +kernel,by decide +kernel⟩
abbrev d9:Stmt:=top 40
theorem jU:aJ ["four", "others"] ["four", "others"] (aF d9):=⟨rfl,rfl,rfl,by decide +kernel,rfl,by decide +kernel,by decide +kernel⟩
abbrev cW:Stmt:=top 42
theorem iJ:aJ ["picture"] ["picture"] (aF cW):=⟨rfl,rfl,rfl,by decide +kernel,rfl,by decide +kernel,by decide +kernel⟩
abbrev fK:Stmt:=top 43
theorem lQ:aJ ["picture", "places"] ["picture"] (aF fK):=⟨rfl,rfl,rfl,by decide +kernel,rfl,by decide +kernel,by decide +kernel⟩
abbrev dj:Stmt:=top 44
theorem jw:aJ ["picture", "found", "spot"] ["picture"] (aF dj):=⟨rfl,rfl,rfl,by decide +kernel,rfl,by decide +kernel,by decide +kernel⟩
abbrev cU:Stmt:=top 45
theorem iH:aJ ["unlike", "places", "three"] ["unlike"] (aF cU):=⟨rfl,rfl,rfl,by decide +kernel,rfl,by decide +kernel,by decide +kernel⟩
abbrev kW:Stmt:=top 46
theorem tO:aJ ["picture"] ["picture"] (aF kW):=⟨rfl,rfl,rfl,by decide +kernel,rfl,by decide +kernel,by decide +kernel⟩
abbrev vB:Stmt:=top 47
theorem zW:aJ [] [] (aF vB):=⟨rfl,rfl,rfl,by decide +kernel,rfl,by decide +kernel,by decide +kernel⟩
abbrev cZ:Stmt:=top 48
theorem jg:aJ ["spots"] ["spots"] (aF cZ):=⟨rfl,rfl,rfl,by decide +kernel,rfl,by decide +kernel,by decide +kernel⟩
abbrev cG:Stmt:=top 49
theorem fH:aJ ["unlike", "line", "on", "off"] ["unlike", "line"] (aF cG):=⟨rfl,rfl,rfl,by decide +kernel,rfl,by decide +kernel,by decide +kernel⟩
abbrev gJ:Stmt:=top 50
theorem nR:aJ ["unlike", "three", "unit"] ["unlike"] (aF gJ):=⟨rfl,rfl,rfl,by decide +kernel,rfl,by decide +kernel,by decide +kernel⟩
abbrev cN:Stmt:=top 51
theorem gb:aJ ["unlike", "three"] ["unlike"] (aF cN):=⟨rfl,rfl,rfl,by decide +kernel,rfl,by decide +kernel,by decide +kernel⟩
abbrev kZ:Stmt:=top 52
theorem ug:aJ ["picture", "places", "unlike", "line"] ["picture"] (aF kZ):=⟨rfl,rfl,rfl,by decide +kernel,rfl,by decide +kernel,by decide +kernel⟩
abbrev dY:Stmt:=top 53
theorem jT:aJ ["by", "picture"] ["by", "picture"] (aF dY):=⟨rfl,rfl,rfl,by decide +kernel,rfl,by decide +kernel,by decide +kernel⟩
abbrev s_form:Stmt:=top 54
theorem sc_form:aJ ["picture"] ["picture"] (aF s_form):=⟨rfl,rfl,rfl,by decide +kernel,rfl,by decide +kernel,by decide +kernel⟩
abbrev gW:Stmt:=top 56
theorem oH:aJ ["_law_script", "_law_k"] ["_law_script", "_law_k"] (aF gW):=⟨rfl,rfl,rfl,by decide +kernel,rfl,by decide +kernel,by decide +kernel⟩
abbrev oN:Stmt:=top 57
theorem vZ:aJ ["_law_script", "_law_k", "_law_cell", "_law_one", "_law_big", "_law_j"] ["_law_script", "_law_k"] (aF oN):=⟨rfl,rfl,rfl,by decide +kernel,rfl,by decide +kernel,by decide +kernel⟩
abbrev kO:Stmt:=top 58
theorem tL:aJ ["_law_rest_here", "_law_many", "_law_digit_here"] ["_law_rest_here", "_law_many"] (aF kO):=⟨rfl,rfl,rfl,by decide +kernel,rfl,by decide +kernel,by decide +kernel⟩
abbrev jz:Stmt:=top 59
theorem qz:aJ ["_law_rest_here", "_law_far", "_law_way"] ["_law_rest_here", "_law_far"] (aF jz):=⟨rfl,rfl,rfl,by decide +kernel,rfl,by decide +kernel,by decide +kernel⟩
abbrev mL:Stmt:=top 60
theorem ur:aJ ["_law_found"] ["_law_found"] (aF mL):=⟨rfl,rfl,rfl,by decide +kernel,rfl,by decide +kernel,by decide +kernel⟩
abbrev gZ:Stmt:=top 61
theorem nZ:aJ ["_law_numbers", "_law_found", "_law_number_here", "_law_one", "_law_other"] ["_law_numbers"] (aF gZ):=⟨rfl,rfl,rfl,by decide +kernel,rfl,by decide +kernel,by decide +kernel⟩
abbrev lY:Stmt:=top 62
theorem sV:aJ ["_law_numbers", "_law_by"] ["_law_numbers"] (aF lY):=⟨rfl,rfl,rfl,by decide +kernel,rfl,by decide +kernel,by decide +kernel⟩
abbrev jD:Stmt:=top 63
theorem qO:aJ ["_law_found", "_law_many"] ["_law_found", "_law_many"] (aF jD):=⟨rfl,rfl,rfl,by decide +kernel,rfl,by decide +kernel,by decide +kernel⟩
abbrev oR:Stmt:=top 64
theorem yh:aJ ["_law_rest_here", "_law_far", "_law_numbers"] ["_law_rest_here", "_law_far"] (aF oR):=⟨rfl,rfl,rfl,by decide +kernel,rfl,by decide +kernel,by decide +kernel⟩
abbrev mJ:Stmt:=top 65
theorem uw:aJ ["_law_one", "_law_other", "_law_found", "_law_k"] ["_law_one", "_law_other"] (aF mJ):=⟨rfl,rfl,rfl,by decide +kernel,rfl,by decide +kernel,by decide +kernel⟩
abbrev vL:Stmt:=top 66
theorem z6:aJ ["_law_one", "_law_other"] ["_law_one", "_law_other"] (aF vL):=⟨rfl,rfl,rfl,by decide +kernel,rfl,by decide +kernel,by decide +kernel⟩
abbrev vg:Stmt:=top 67
theorem sc_l_led:aJ ["_law_by", "_law_spot_here"] ["_law_by", "_law_spot_here"] (aF vg):=⟨rfl,rfl,rfl,by decide +kernel,rfl,by decide +kernel,by decide +kernel⟩
abbrev pC:Stmt:=top 68
theorem yD:aJ ["_law_spots"] ["_law_spots"] (aF pC):=⟨rfl,rfl,rfl,by decide +kernel,rfl,by decide +kernel,by decide +kernel⟩
abbrev oY:Stmt:=top 69
theorem xQ:aJ ["_law_spots", "_law_handed", "_law_found", "_law_by", "_law_images"] ["_law_spots"] (aF oY):=⟨rfl,rfl,rfl,by decide +kernel,rfl,by decide +kernel,by decide +kernel⟩
abbrev s_law:Stmt:=top 70
theorem sc_law:aJ ["_law_script", "_law_rest_here", "_law_some", "_law_k", "_law_spot_here", "_law_spots", "_law_images", "_law_marks"] ["_law_script"] (aF s_law):=⟨rfl,rfl,rfl,by decide +kernel,rfl,by decide +kernel,by decide +kernel⟩
def ux:MSp:=mFn 1 1 false fun E=>
  (bK (zf (mCB kIsi (aq (aB 0) (aq (mC (.ty "int")) aL))) (mNotV (mCB kIsi (aq (aB 0) (aq (mC (.ty "bool")) aL))))))
def jA:MSp:=ux
def kY (E:XWK):MS:=
  (bK (aB 0))
def iC:MSp:=mFn 2 3 false fun E=>
  (bx (bR (mCB kAbs (aq (aB 0) aL)) (nName 0))
  (bx (bR (mCB kAbs (aq (aB 1) aL)) (nName 1))
  (bx (mWhile (bA (mOp kNe (aB 1) (mC (.int 0)))) (bx (bR (mOp rZ (aB 0) (aB 1)) (nName 2))
  (bx (bR (aB 1) (nName 0))
  (bR (aB 2) (nName 1)))))
  (kY E))))
def cM:MSp:=iC
def q9 (c_divisor_of_two:MSp)(E:XWK):MS:=
  (bK (aB 1))
def wV (c_divisor_of_two:MSp):MSp:=mFn 1 3 false fun E=>
  (bx (bR (mC (.int 0)) (nName 1))
  (bx (p8 (nIt (aB 0)) (nName 2) (bR (aH c_divisor_of_two E (aq (aB 2) (aq (aB 1) aL))) (nName 1)))
  (q9 c_divisor_of_two E)))
def gq:MSp:=wV cM
def jV (E:XWK):MS:=
  (bK (mC (.bl false)))
def oF:MSp:=mFn 1 2 false fun E=>
  (bx (p8 (nRev2 (aq (aB 0) aL)) (nName 1) (iZ (bA (mOp kNe (aB 1) (mC (.int 0)))) (bK (mOp kLt (aB 1) (mC (.int 0)))) bW))
  (jV E))
def cT:MSp:=oF
def xV (c_divisor c_ends_below:MSp)(E:XWK):MS:=
  (bK (mCB sW (aq (mLC ow1 [1] (nIt (aB 0)) fX (mOp wg (aB 0) (aB 1))) aL)))
def t_plain_2 (c_divisor c_ends_below:MSp)(E:XWK):MS:=
  (bx (iZ (vW (aH c_ends_below E (aq (aB 0) aL))) (bR (mUn mNeg (aB 1)) (nName 1)) bW)
  (xV c_divisor c_ends_below E))
def r_plain (c_divisor c_ends_below:MSp):MSp:=mFn 1 2 false fun E=>
  (bx (bR (aH c_divisor E (aq (aB 0) aL)) (nName 1))
  (bx (iZ (bA (mOp kEq (aB 1) (mC (.int 0)))) (uy "Nothing" E) bW)
  (t_plain_2 c_divisor c_ends_below E)))
def cP:MSp:=r_plain gq cT
def wR (c_is_whole c_divisor c_ends_below:MSp)(E:XWK):MS:=
  (bK (zf (mOp kEq (aH c_divisor E (aq (aB 0) aL)) (mC (.int 1))) (mNotV (aH c_ends_below E (aq (aB 0) aL)))))
def yr (c_is_whole c_divisor c_ends_below:MSp)(E:XWK):MS:=
  (bx (iZ (mNot (vW (mCB kAll (aq (mLC ow1 [] (nIt (aB 0)) fX (aH c_is_whole E (aq (aB 0) aL))) aL)))) (bK (mC (.bl false))) bW)
  (wR c_is_whole c_divisor c_ends_below E))
def tH (c_is_whole c_divisor c_ends_below:MSp):MSp:=mFn 2 2 false fun E=>
  (bx (iZ (mOr (mNot (vW (mCB kIsi (aq (aB 0) (aq (mC (.ty "tuple")) aL))))) (bA (mOp kNe (mCB kLen (aq (aB 0) aL)) (aB 1)))) (bK (mC (.bl false))) bW)
  (yr c_is_whole c_divisor c_ends_below E))
def jG:MSp:=tH jA gq cT
def r_dot:MSp:=mFn 2 2 false fun E=>
  (bK (mOp cC (mOp cC (mOp jc (mOp kIx (aB 0) (mC (.int 0))) (mOp kIx (aB 1) (mC (.int 0)))) (mOp jc (mOp kIx (aB 0) (mC (.int 1))) (mOp kIx (aB 1) (mC (.int 1))))) (mOp jc (mOp kIx (aB 0) (mC (.int 2))) (mOp kIx (aB 1) (mC (.int 2))))))
def oM:MSp:=r_dot
def za:MSp:=mFn 2 2 false fun E=>
  (bK (vV (aq (mOp xq (mOp jc (mOp kIx (aB 0) (mC (.int 1))) (mOp kIx (aB 1) (mC (.int 2)))) (mOp jc (mOp kIx (aB 0) (mC (.int 2))) (mOp kIx (aB 1) (mC (.int 1))))) (aq (mOp xq (mOp jc (mOp kIx (aB 0) (mC (.int 2))) (mOp kIx (aB 1) (mC (.int 0)))) (mOp jc (mOp kIx (aB 0) (mC (.int 0))) (mOp kIx (aB 1) (mC (.int 2))))) (aq (mOp xq (mOp jc (mOp kIx (aB 0) (mC (.int 0))) (mOp kIx (aB 1) (mC (.int 1)))) (mOp jc (mOp kIx (aB 0) (mC (.int 1))) (mOp kIx (aB 1) (mC (.int 0))))) aL)))))
def dO:MSp:=za
def r_turn (c_dot c_cross:MSp):MSp:=mFn 3 3 false fun E=>
  (bK (aH c_dot E (aq (aH c_cross E (aq (aB 0) (aq (aB 1) aL))) (aq (aB 2) aL))))
def mK:MSp:=r_turn oM dO
def r_lies_on (c_dot:MSp):MSp:=mFn 2 2 false fun E=>
  (bK (mOp kEq (aH c_dot E (aq (aB 0) (aq (aB 1) aL))) (mC (.int 0))))
def jh:MSp:=r_lies_on oM
def uQ (c_dot c_cross:MSp)(E:XWK):MS:=
  (bx (bR (aH c_cross E (aq (mOp kIx (aB 0) (mC (.int 0))) (aq (mOp kIx (aB 1) (mC (.int 0))) aL))) (nName 2))
  (bK (mCB kAll (aq (mLC ow1 [2] (nIt (aB 1)) fX (mOp kEq (aH c_dot E (aq (aB 1) (aq (aB 0) aL))) (mC (.int 0)))) aL))))
def qG (c_dot c_cross:MSp):MSp:=mFn 1 3 false fun E=>
  (bx (bR (mLC ow1 [0] (nIt (aB 0)) (bA (mOp kNe (aB 0) (mOp kIx (aB 1) (mC (.int 0))))) (aB 0)) (nName 1))
  (bx (iZ (mNot (vW (aB 1))) (bK (mC (.bl true))) bW)
  (uQ c_dot c_cross E)))
def gR:MSp:=qG oM dO
def wU (c_share_one:MSp):MSp:=mFn 1 1 false fun E=>
  (bK (aH c_share_one E (aq (aB 0) aL)))
def fB:MSp:=wU gR
def rB (c_plain c_cross:MSp)(E:XWK):MS:=
  (bK (aH c_plain E (aq (aH c_cross E (aq (aB 0) (aq (aB 1) aL))) aL)))
def mD (c_plain c_cross:MSp):MSp:=mFn 2 2 false fun E=>
  (bx (iZ (bA (mOp kEq (aB 0) (aB 1))) (uy "Alike" E) bW)
  (rB c_plain c_cross E))
def eE:MSp:=mD cP dO
def r_join (c_plain_cross:MSp):MSp:=mFn 2 2 false fun E=>
  (bK (aH c_plain_cross E (aq (aB 0) (aq (aB 1) aL))))
def yF:MSp:=r_join eE
def uo (E:XWK):MS:=
  (bK (aB 2))
def uM:MSp:=mFn 2 7 true fun E=>
  (bx (bR (mLst (aq (vV aL) aL)) (nName 2))
  (bx (p8 (gk (aq (aB 1) aL)) (nName 3) (bx (bR (qU aL) (nName 4))
  (bx (p8 (nIt (aB 2)) (nName 5) (bx (bR (mIf (bA (mOp kGt (aB 3) (mC (.int 0)))) (mOp cC (mOp kIx (aB 5) (mOp xq (aB 3) (mC (.int 1)))) (mC (.int 1))) (mC (.int 0))) (nName 6))
  (ni (mBMr gM (aB 4) (aq (mLC ow1 [5] (nRng2 (aq (aB 6) (aq (aB 0) aL))) fX (mOp cC (aB 1) (vV (aq (aB 0) aL)))) aL)))))
  (bR (aB 4) (nName 2)))))
  (uo E)))
def gG:MSp:=uM
def vR:MSp:=mFn 2 2 false fun E=>
  (bK (mLC ow1 [0] (nIt (aB 1)) fX (mOp kIx (aB 1) (aB 0))))
def fG:MSp:=vR
def wM:MSp:=mFn 1 1 false fun E=>
  (bK (mLst (aq (mSl kSl2 (aB 0) (jZ (mC (.int 0))) (jZ (mC (.int 3)))) (aq (mSl kSl2 (aB 0) (jZ (mC (.int 3))) (jZ (mC (.int 6)))) (aq (mSl kSl2 (aB 0) (jZ (mC (.int 6))) (jZ (mC (.int 9)))) aL)))))
def cj:MSp:=wM
def yw (c_turn c_rows_of:MSp):MSp:=mFn 1 2 false fun E=>
  (bx (bR (aH c_rows_of E (aq (aB 0) aL)) (nName 1))
  (bK (aH c_turn E (aq (mOp kIx (aB 1) (mC (.int 0))) (aq (mOp kIx (aB 1) (mC (.int 1))) (aq (mOp kIx (aB 1) (mC (.int 2))) aL))))))
def mq:MSp:=yw mK cj
def r_is_map (c_is_plain c_size_of:MSp):MSp:=mFn 1 1 false fun E=>
  (bK (zf (aH c_is_plain E (aq (aB 0) (aq (mC (.int 9)) aL))) (mOp kNe (aH c_size_of E (aq (aB 0) aL)) (mC (.int 0)))))
def lA:MSp:=r_is_map jG mq
def gw (c_dot c_rows_of:MSp):MSp:=mFn 2 2 false fun E=>
  (bK (mLC ow1 [1] (nIt (aH c_rows_of E (aq (aB 0) aL))) fX (aH c_dot E (aq (aB 0) (aq (aB 1) aL)))))
def aZ:MSp:=gw oM cj
def xZ:MSp:=mFn 1 1 false fun E=>
  (bK (mLC ow1 [0] (gk (aq (mC (.int 9)) aL)) fX (mOp kIx (aB 1) (mOp cC (mOp jc (mC (.int 3)) (mOp rZ (aB 0) (mC (.int 3)))) (mOp wg (aB 0) (mC (.int 3)))))))
def gB:MSp:=xZ
def je (c_dot c_rows_of c_flipped:MSp)(E:XWK):MS:=
  (bK (aB 3))
def fu (c_dot c_rows_of c_flipped:MSp):MSp:=mFn 2 5 true fun E=>
  (bx (bR (aH c_rows_of E (aq (aH c_flipped E (aq (aB 1) aL)) aL)) (nName 2))
  (bx (bR (qU aL) (nName 3))
  (bx (p8 (nIt (aH c_rows_of E (aq (aB 0) aL))) (nName 4) (ni (mBMr gM (aB 3) (aq (mLC ow1 [4] (nIt (aB 2)) fX (aH c_dot E (aq (aB 1) (aq (aB 0) aL)))) aL))))
  (je c_dot c_rows_of c_flipped E))))
def bN:MSp:=fu oM cj gB
def zY (c_cross c_rows_of:MSp):MSp:=mFn 1 2 false fun E=>
  (bx (bR (aH c_rows_of E (aq (aB 0) aL)) (nName 1))
  (bK (mOp cC (mOp cC (aH c_cross E (aq (mOp kIx (aB 1) (mC (.int 1))) (aq (mOp kIx (aB 1) (mC (.int 2))) aL))) (aH c_cross E (aq (mOp kIx (aB 1) (mC (.int 2))) (aq (mOp kIx (aB 1) (mC (.int 0))) aL)))) (aH c_cross E (aq (mOp kIx (aB 1) (mC (.int 0))) (aq (mOp kIx (aB 1) (mC (.int 1))) aL))))))
def iy:MSp:=zY dO cj
def r_led (c_plain c_table_times_row:MSp):MSp:=mFn 2 2 false fun E=>
  (bK (aH c_plain E (aq (aH c_table_times_row E (aq (aB 0) (aq (aB 1) aL))) aL)))
def m_led:MSp:=r_led cP aZ
def r_then (c_plain c_table_times_table:MSp):MSp:=mFn 2 2 false fun E=>
  (bK (aH c_plain E (aq (aH c_table_times_table E (aq (aB 1) (aq (aB 0) aL))) aL)))
def m_then:MSp:=r_then cP bN
def r_back (c_plain c_flipped c_turned:MSp):MSp:=mFn 1 1 false fun E=>
  (bK (aH c_plain E (aq (aH c_flipped E (aq (aH c_turned E (aq (aB 0) aL)) aL)) aL)))
def m_back:MSp:=r_back cP gB iy
def zP:MSp:=mFn 0 0 false fun E=>
  (bK (mCB kList (aq (mC m6) aL)))
def eZ:MSp:=zP
def uc (c_turn:MSp):MSp:=mFn 1 2 false fun E=>
  (bx (bR (mLst (aq (aH c_turn E (aq (mOp kIx (aB 0) (mC (.int 0))) (aq (mOp kIx (aB 0) (mC (.int 1))) (aq (mOp kIx (aB 0) (mC (.int 2))) aL)))) (aq (aH c_turn E (aq (mOp kIx (aB 0) (mC (.int 0))) (aq (mOp kIx (aB 0) (mC (.int 1))) (aq (mOp kIx (aB 0) (mC (.int 3))) aL)))) (aq (aH c_turn E (aq (mOp kIx (aB 0) (mC (.int 0))) (aq (mOp kIx (aB 0) (mC (.int 2))) (aq (mOp kIx (aB 0) (mC (.int 3))) aL)))) (aq (aH c_turn E (aq (mOp kIx (aB 0) (mC (.int 1))) (aq (mOp kIx (aB 0) (mC (.int 2))) (aq (mOp kIx (aB 0) (mC (.int 3))) aL)))) aL))))) (nName 1))
  (bK (mOp kNin (mC (.int 0)) (aB 1))))
def cR:MSp:=uc mK
def oE (c_plain c_table_times_row c_turned:MSp):MSp:=mFn 1 2 false fun E=>
  (bx (bR (aH c_table_times_row E (aq (aH c_turned E (aq (mOp cC (mOp cC (mOp kIx (aB 0) (mC (.int 0))) (mOp kIx (aB 0) (mC (.int 1)))) (mOp kIx (aB 0) (mC (.int 2)))) aL)) (aq (mOp kIx (aB 0) (mC (.int 3))) aL))) (nName 1))
  (bK (aH c_plain E (aq (mLC ow1 [0,1] (gk (aq (mC (.int 9)) aL)) fX (mOp jc (mOp kIx (aB 2) (mOp rZ (aB 0) (mC (.int 3)))) (mOp kIx (mOp kIx (aB 1) (mOp rZ (aB 0) (mC (.int 3)))) (mOp wg (aB 0) (mC (.int 3)))))) aL))))
def dF:MSp:=oE cP aZ iy
def jq (c_then c_back c_are_free c_from_tiles:MSp)(E:XWK):MS:=
  (bK (aH c_then E (aq (aH c_back E (aq (aH c_from_tiles E (aq (aB 0) aL)) aL)) (aq (aH c_from_tiles E (aq (aB 1) aL)) aL))))
def gQ (c_then c_back c_are_free c_from_tiles:MSp):MSp:=mFn 2 2 false fun E=>
  (bx (iZ (mOr (mNot (vW (aH c_are_free E (aq (aB 0) aL)))) (mNot (vW (aH c_are_free E (aq (aB 1) aL))))) (uy "NotFree" E) bW)
  (jq c_then c_back c_are_free c_from_tiles E))
def bf:MSp:=gQ m_then m_back cR dF
def eY:MSp:=mFn 1 1 false fun E=>
  (iZ (mOr (bA (mOp kLt (mCB kLen (aq (aB 0) aL)) (mC (.int 1)))) (bA (mOp kGt (mCB kLen (aq (aB 0) aL)) (mC (.int 12))))) (uy "NoPicture" E) bW)
def bH:MSp:=eY
def jR (c_rising c_picked c_are_free:MSp)(E:XWK):MS:=
  (bK (mC .non))
def jd (c_rising c_picked c_are_free:MSp):MSp:=mFn 1 2 false fun E=>
  (bx (p8 (nIt (aH c_rising E (aq (mCB kLen (aq (aB 0) aL)) (aq (mC (.int 4)) aL)))) (nName 1) (iZ (vW (aH c_are_free E (aq (aH c_picked E (aq (aB 0) (aq (aB 1) aL))) aL))) (bK (aB 1)) bW))
  (jR c_rising c_picked c_are_free E))
def bZ:MSp:=jd gG fG cR
def iB (E:XWK):MS:=
  (bK (aB 1))
def fW:MSp:=mFn 1 3 true fun E=>
  (bx (bR (qU aL) (nName 1))
  (bx (p8 (nIt (aB 0)) (nName 2) (iZ (bA (mOp kNinD (aB 2) (aB 1))) (ni (mBMr eV (aB 1) (aq (aB 2) aL))) bW))
  (iB E)))
def bT:MSp:=fW
def gA (c_on_line c_join c_rising c_picked:MSp)(E:XWK):MS:=
  (bK (mC .non))
def eO (c_on_line c_join c_rising c_picked:MSp):MSp:=mFn 1 3 false fun E=>
  (bx (p8 (nIt (aH c_rising E (aq (mCB kLen (aq (aB 0) aL)) (aq (mC (.int 3)) aL)))) (nName 1) (bx (bR (aH c_picked E (aq (aB 0) (aq (aB 1) aL))) (nName 2))
  (iZ (vW (aH c_on_line E (aq (aB 2) aL))) (bK (aH c_join E (aq (mOp kIx (aB 2) (mC (.int 0))) (aq (mOp kIx (aB 2) (mC (.int 1))) aL)))) bW)))
  (gA c_on_line c_join c_rising c_picked E))
def bB:MSp:=eO fB yF gG fG
def pL (c_check_picture c_first_free c_unlike_spots c_line_of_three:MSp)(E:XWK):MS:=
  (bK (mC (.str "few")))
def qM (c_check_picture c_first_free c_unlike_spots c_line_of_three:MSp)(E:XWK):MS:=
  (bx (iZ (bA (mOp rR (aH c_line_of_three E (aq (aH c_unlike_spots E (aq (aB 0) aL)) aL)) (mC .non))) (bK (mC (.str "line"))) bW)
  (pL c_check_picture c_first_free c_unlike_spots c_line_of_three E))
def qw (c_check_picture c_first_free c_unlike_spots c_line_of_three:MSp):MSp:=mFn 1 1 false fun E=>
  (bx (ni (aH c_check_picture E (aq (aB 0) aL)))
  (bx (iZ (bA (mOp rR (aH c_first_free E (aq (aB 0) aL)) (mC .non))) (bK (mC (.str "four"))) bW)
  (qM c_check_picture c_first_free c_unlike_spots c_line_of_three E)))
def jt:MSp:=qw bH bZ bT bB
def zR (c_tiles:MSp):MSp:=mFn 0 0 false fun E=>
  (bK (mSl kSl2 (aH c_tiles E aL) mNoPart (jZ (mC (.int 3)))))
def nG:MSp:=zR eZ
def fV (c_plain:MSp):MSp:=mFn 1 1 false fun E=>
  (bK (aH c_plain E (aq (mLC ow1 [0] (gk (aq (mC (.int 3)) aL)) fX (mCB kSum (aq (mLC ow1 [0] (nIt (aB 1)) fX (mOp kIx (aB 0) (aB 1))) aL))) aL)))
def bG:MSp:=fV cP
def mZ (c_lies_on c_tiles c_map_between c_units c_spot_between:MSp):MSp:=mFn 2 4 false fun E=>
  (bx (bR (mLC ow1 [1] (nIt (aB 0)) (vW (aH c_lies_on E (aq (aB 0) (aq (aB 1) aL)))) (aB 0)) (nName 2))
  (bx (bR (mLC ow1 [1] (nIt (mOp cC (aB 0) (aH c_units E aL))) (mNot (vW (aH c_lies_on E (aq (aB 0) (aq (aB 1) aL))))) (aB 0)) (nName 3))
  (bK (aH c_map_between E (aq (mLst (aq (mOp kIx (aB 2) (mC (.int 0))) (aq (mOp kIx (aB 2) (mC (.int 1))) (aq (mOp kIx (aB 3) (mC (.int 0))) (aq (aH c_spot_between E (aq (mLst (aq (mOp kIx (aB 3) (mC (.int 0))) (aq (mOp kIx (aB 2) (mC (.int 2))) aL))) aL)) aL))))) (aq (aH c_tiles E aL) aL))))))
def cF:MSp:=mZ jh eZ bf nG bG
def mU (c_on_line c_units:MSp)(E:XWK):MS:=
  (bK (aB 1))
def j4 (c_on_line c_units:MSp):MSp:=mFn 1 3 true fun E=>
  (bx (bR (mCB kListM (aq (aB 0) aL)) (nName 1))
  (bx (p8 (nIt (aH c_units E aL)) (nName 2) (iZ (mAnd (bA (mOp kEq (mCB kLen (aq (aB 1) aL)) (mC (.int 1)))) (bA (mOp kNe (aB 2) (mOp kIx (aB 1) (mC (.int 0)))))) (ni (mBMr eV (aB 1) (aq (aB 2) aL))) (iZ (mAnd (bA (mOp kEq (mCB kLen (aq (aB 1) aL)) (mC (.int 2)))) (mNot (vW (aH c_on_line E (aq (mOp cC (aB 1) (mLst (aq (aB 2) aL))) aL))))) (ni (mBMr eV (aB 1) (aq (aB 2) aL))) bW)))
  (mU c_on_line c_units E)))
def iz:MSp:=j4 fB nG
def dU (c_tiles c_map_between c_spot_between c_filled_up:MSp):MSp:=mFn 1 2 false fun E=>
  (bx (bR (aH c_filled_up E (aq (aB 0) aL)) (nName 1))
  (bK (aH c_map_between E (aq (mOp cC (aB 1) (mLst (aq (aH c_spot_between E (aq (aB 1) aL)) aL))) (aq (aH c_tiles E aL) aL)))))
def cJ:MSp:=dU eZ bf bG iz
def ql (c_picked c_tiles c_map_between c_check_picture c_first_free c_unlike_spots c_line_of_three c_leading_of_line c_leading_of_few:MSp)(E:XWK):MS:=
  (bK (aH c_leading_of_few E (aq (aB 2) aL)))
def qP (c_picked c_tiles c_map_between c_check_picture c_first_free c_unlike_spots c_line_of_three c_leading_of_line c_leading_of_few:MSp)(E:XWK):MS:=
  (bx (bR (aH c_unlike_spots E (aq (aB 0) aL)) (nName 2))
  (bx (bR (aH c_line_of_three E (aq (aB 2) aL)) (nName 3))
  (bx (iZ (bA (mOp rR (aB 3) (mC .non))) (bK (aH c_leading_of_line E (aq (aB 2) (aq (aB 3) aL)))) bW)
  (ql c_picked c_tiles c_map_between c_check_picture c_first_free c_unlike_spots c_line_of_three c_leading_of_line c_leading_of_few E))))
def qm (c_picked c_tiles c_map_between c_check_picture c_first_free c_unlike_spots c_line_of_three c_leading_of_line c_leading_of_few:MSp):MSp:=mFn 1 4 false fun E=>
  (bx (ni (aH c_check_picture E (aq (aB 0) aL)))
  (bx (bR (aH c_first_free E (aq (aB 0) aL)) (nName 1))
  (bx (iZ (bA (mOp rR (aB 1) (mC .non))) (bK (aH c_map_between E (aq (aH c_picked E (aq (aB 0) (aq (aB 1) aL))) (aq (aH c_tiles E aL) aL)))) bW)
  (qP c_picked c_tiles c_map_between c_check_picture c_first_free c_unlike_spots c_line_of_three c_leading_of_line c_leading_of_few E))))
def eX:MSp:=qm fG eZ bf bH bZ bT bB cF cJ
def gH (c_led:MSp):MSp:=mFn 2 2 false fun E=>
  (bK (mLCM ow1 [0] (nIt (aB 1)) fX (aH c_led E (aq (aB 1) (aq (aB 0) aL)))))
def eG:MSp:=gH m_led
def r_form (c_kind_of c_leading c_led_picture:MSp):MSp:=mFn 1 1 false fun E=>
  (bK (vV (aq (aH c_kind_of E (aq (aB 0) aL)) (aq (aH c_led_picture E (aq (aH c_leading E (aq (aB 0) aL)) (aq (aB 0) aL))) aL))))
def tV:MSp:=r_form jt eX eG
def uZ (E:XWK):MS:=
  (bK (mC (.int 0)))
def qT:MSp:=mFn 2 2 false fun E=>
  (bx (iZ (bA (mOp kLt (aB 1) (mCB kLen (aq (aB 0) aL)))) (bK (mOp kIx (aB 0) (aB 1))) bW)
  (uZ E))
def iu:MSp:=qT
def t_l_rest_5 (c_l_cell_at:MSp)(E:XWK):MS:=
  (bK (qU (aq (mOp wg (aB 2) (mC (.int 2))) (aq (aB 4) aL))))
def t_l_rest_4 (c_l_cell_at:MSp)(E:XWK):MS:=
  (bx (iZ (bA (mOp kEq (mOp rZ (aB 2) (mC (.int 2))) (mC (.int 0)))) (bK (qU (aq (aB 4) aL))) bW)
  (t_l_rest_5 c_l_cell_at E))
def r_l_rest (c_l_cell_at:MSp):MSp:=mFn 2 6 false fun E=>
  (bx (bR (aH c_l_cell_at E (aq (aB 0) (aq (aB 1) aL))) (nName 2))
  (bx (bR (mOp rZ (mOp jc (mOp cC (mOp cC (mOp rZ (mOp wg (aB 2) (mC (.int 2))) (mOp kPow (mC (.int 10)) (mC (.int 18)))) (mOp jc (mOp jc (mC (.int 7919)) (aB 1)) (aB 1))) (mC (.int 1))) (mC (.int 48271))) (mC (.int 999999000001))) (nName 3))
  (bx (bR (mC (.int 0)) (nName 4))
  (bx (p8 (gk (aq (mC (.int 60)) aL)) (nName 5) (bx (bR (mOp rZ (mOp cC (mOp cC (mOp jc (aB 3) (mC (.int 69621))) (mOp jc (aB 5) (aB 5))) (mC (.int 1))) (mC (.int 999999000001))) (nName 3))
  (bR (mOp cC (mOp jc (aB 4) (mOp kPow (mC (.int 10)) (mC (.int 12)))) (mOp rZ (mOp jc (aB 3) (mOp cC (aB 3) (mOp jc (mC (.int 31)) (aB 5)))) (mC (.int 1000000000039)))) (nName 4))))
  (t_l_rest_4 c_l_cell_at E)))))
def mH:MSp:=r_l_rest iu
def zq (E:XWK):MS:=
  (bx (bR (mOp rZ (mOp kIx (aB 0) (mC (.int 0))) (aB 1)) (nName 2))
  (bx (bR (mOp wg (mOp kIx (aB 0) (mC (.int 0))) (aB 1)) (nSub (aB 0) (mC (.int 0)) sSetL))
  (bK (aB 2))))
def xR:MSp:=mFn 2 3 false fun E=>
  (bx (iZ (mAnd (bA (mOp kLt (mOp kIx (aB 0) (mC (.int 0))) (mC (.int 2)))) (bA (mOp kGt (mCB kLen (aq (aB 0) aL)) (mC (.int 1))))) (bR (mBMr0 kPop (aB 0)) (nSub (aB 0) (mC (.int 0)) sSetL)) bW)
  (zq E))
def cg:MSp:=xR
def wF (c_l_digit:MSp)(E:XWK):MS:=
  (bK (mOp cC (mOp xq (aH c_l_digit E (aq (aB 0) (aq (mOp xq (mOp jc (mC (.int 2)) (aB 1)) (mC (.int 1))) aL))) (aB 1)) (mC (.int 1))))
def wI (c_l_digit:MSp)(E:XWK):MS:=
  (bx (iZ (bA (mOp kEq (aB 2) (mC (.int 1)))) (bK (mOp xq (aH c_l_digit E (aq (aB 0) (aq (mC (.int 41)) aL))) (mC (.int 20)))) bW)
  (wF c_l_digit E))
def tB (c_l_digit:MSp):MSp:=mFn 2 3 false fun E=>
  (bx (bR (aH c_l_digit E (aq (aB 0) (aq (mC (.int 3)) aL))) (nName 2))
  (bx (iZ (bA (mOp kEq (aB 2) (mC (.int 0)))) (bK (mOp xq (aH c_l_digit E (aq (aB 0) (aq (mC (.int 7)) aL))) (mC (.int 3)))) bW)
  (wI c_l_digit E)))
def gj:MSp:=tB cg
def wC:MSp:=mFn 1 1 false fun E=>
  (bK (zf (mCB kIsi (aq (aB 0) (aq (mC (.ty "int")) aL))) (mNotV (mCB kIsi (aq (aB 0) (aq (mC (.ty "bool")) aL))))))
def mz:MSp:=wC
def mO (E:XWK):MS:=
  (bK (aB 1))
def qg:MSp:=mFn 1 5 false fun E=>
  (bx (bR (mC (.int 0)) (nName 1))
  (bx (p8 (nIt (aB 0)) (nName 2) (bx (bR (mCB kMax (aq (aB 1) (aq (mCB kAbs (aq (aB 2) aL)) aL))) (nName 3))
  (bx (bR (mCB kMin (aq (aB 1) (aq (mCB kAbs (aq (aB 2) aL)) aL))) (nName 4))
  (bx (mWhile (bA (mOp kGt (aB 4) (mC (.int 0)))) (mPar 3 4 (aq (aB 4) (aq (mOp rZ (aB 3) (aB 4)) aL))))
  (bR (aB 3) (nName 1))))))
  (mO E)))
def gD:MSp:=qg
def qF (c_l_divisor:MSp)(E:XWK):MS:=
  (bK (mCB sW (aq (mLC ow1 [1] (nIt (aB 0)) fX (mOp wg (aB 0) (aB 1))) aL)))
def wQ (c_l_divisor:MSp):MSp:=mFn 1 2 false fun E=>
  (bx (bR (aH c_l_divisor E (aq (aB 0) aL)) (nName 1))
  (bx (iZ (bA (mOp kLt (mOp kIx (mLC ow1 [] (nIt (aB 0)) (bA (mOp kNe (aB 0) (mC (.int 0)))) (aB 0)) (mUn mNeg (mC (.int 1)))) (mC (.int 0)))) (bR (mOp xq (mC (.int 0)) (aB 1)) (nName 1)) bW)
  (qF c_l_divisor E)))
def cV:MSp:=wQ gD
def wB (c_l_whole c_l_plain:MSp)(E:XWK):MS:=
  (bK (zf (mCB kAny (aq (mLC ow1 [] (nIt (aB 0)) fX (mOp kNe (aB 0) (mC (.int 0)))) aL)) (mOp kEq (aH c_l_plain E (aq (aB 0) aL)) (aB 0))))
def tM (c_l_whole c_l_plain:MSp):MSp:=mFn 2 2 false fun E=>
  (bx (iZ (mOr (mNot (vW (mCB kIsi (aq (aB 0) (aq (mC (.ty "tuple")) aL))))) (mOr (bA (mOp kNe (mCB kLen (aq (aB 0) aL)) (aB 1))) (mNot (vW (mCB kAll (aq (mLC ow1 [] (nIt (aB 0)) fX (aH c_l_whole E (aq (aB 0) aL))) aL)))))) (bK (mC (.bl false))) bW)
  (wB c_l_whole c_l_plain E))
def jE:MSp:=tM mz cV
def t_l_spot_2 (c_l_number c_l_plain:MSp)(E:XWK):MS:=
  (bK (aH c_l_plain E (aq (aB 2) aL)))
def uF (c_l_number c_l_plain:MSp):MSp:=mFn 2 3 false fun E=>
  (bx (bR (mLC ow1 [0,1] (gk (aq (mC (.int 3)) aL)) fX (aH c_l_number E (aq (aB 1) (aq (aB 2) aL)))) (nName 2))
  (bx (iZ (bA (mOp kEq (aB 2) (mLst (aq (mC (.int 0)) (aq (mC (.int 0)) (aq (mC (.int 0)) aL)))))) (bR (mLst (aq (mC (.int 0)) (aq (mC (.int 0)) (aq (mC (.int 1)) aL)))) (nName 2)) bW)
  (t_l_spot_2 c_l_number c_l_plain E)))
def lH:MSp:=uF gj cV
def zF (E:XWK):MS:=
  (bK (mCB sW (aq (aB 2) aL)))
def wY:MSp:=mFn 2 4 true fun E=>
  (bx (bR (qU aL) (nName 2))
  (bx (p8 (gk (aq (mC (.int 3)) aL)) (nName 3) (ni (mBMr eV (aB 2) (aq (mOp xq (mOp jc (mOp kIx (aB 0) (mOp xq (aB 3) (mC (.int 2)))) (mOp kIx (aB 1) (mOp xq (aB 3) (mC (.int 1))))) (mOp jc (mOp kIx (aB 0) (mOp xq (aB 3) (mC (.int 1)))) (mOp kIx (aB 1) (mOp xq (aB 3) (mC (.int 2)))))) aL))))
  (zF E)))
def jy:MSp:=wY
def r_l_dot:MSp:=mFn 2 2 false fun E=>
  (bK (mCB kSum (aq (mLC (owT 2) [] (nZip (aq (aB 0) (aq (aB 1) aL))) fX (mOp jc (aB 0) (aB 1))) aL)))
def jY:MSp:=r_l_dot
def r_l_led (c_l_plain c_l_dot:MSp):MSp:=mFn 2 2 false fun E=>
  (bK (aH c_l_plain E (aq (mLC ow1 [0,1] (gk (aq (mC (.int 3)) aL)) fX (aH c_l_dot E (aq (mSl kSl2 (aB 1) (jZ (mOp jc (mC (.int 3)) (aB 0))) (jZ (mOp cC (mOp jc (mC (.int 3)) (aB 0)) (mC (.int 3))))) (aq (aB 2) aL)))) aL)))
def u5:MSp:=r_l_led cV jY
def vO:MSp:=mFn 1 1 false fun E=>
  (bK (mC (.str "few")))
def pB:MSp:=vO
def sY (c_is_map c_leading c_form c_l_is_row c_l_led c_l_kind:MSp)(E:XWK):MS:=
  (bK (aB 4))
def sS (c_is_map c_leading c_form c_l_is_row c_l_led c_l_kind:MSp)(E:XWK):MS:=
  (bx (bR (mCB kList (aq (mOp kIx (aB 2) (mC (.int 1))) aL)) (nName 4))
  (bx (ni (mBMr0 uz (mOp kIx (aB 2) (mC (.int 1)))))
  (bx (iZ (bA (mOp kNe2 (aH c_form E (aq (aB 1) aL)) (vV (aq (mOp kIx (aB 2) (mC (.int 0))) (aq (aB 4) aL))))) (bK (mC .non)) bW)
  (sY c_is_map c_leading c_form c_l_is_row c_l_led c_l_kind E))))
def tZ (c_is_map c_leading c_form c_l_is_row c_l_led c_l_kind:MSp)(E:XWK):MS:=
  (bx (iZ (mOr (mNot (vW (mCB kIsi (aq (mOp kIx (aB 2) (mC (.int 1))) (aq (mC (.ty "list")) aL))))) (bA (mOp kNe (mOp kIx (aB 2) (mC (.int 1))) (mLC ow1 [3] (nIt (aB 0)) fX (aH c_l_led E (aq (aB 1) (aq (aB 0) aL))))))) (bK (mC .non)) bW)
  (sS c_is_map c_leading c_form c_l_is_row c_l_led c_l_kind E))
def tQ (c_is_map c_leading c_form c_l_is_row c_l_led c_l_kind:MSp)(E:XWK):MS:=
  (bx (iZ (mOr (mNot (vW (mCB kIsi (aq (aB 2) (aq (mC (.ty "tuple")) aL))))) (mOr (bA (mOp kNe (mCB kLen (aq (aB 2) aL)) (mC (.int 2)))) (bA (mOp kNe (mOp kIx (aB 2) (mC (.int 0))) (aH c_l_kind E (aq (aB 0) aL)))))) (bK (mC .non)) bW)
  (tZ c_is_map c_leading c_form c_l_is_row c_l_led c_l_kind E))
def uX (c_is_map c_leading c_form c_l_is_row c_l_led c_l_kind:MSp):MSp:=mFn 1 5 true fun E=>
  (bx (bR (mCB kList (aq (aB 0) aL)) (nName 1))
  (bx (bR (aH c_form E (aq (aB 1) aL)) (nName 2))
  (bx (bR (aH c_leading E (aq (aB 1) aL)) (nName 3))
  (bx (iZ (mOr (bA (mOp kNe (aB 1) (aB 0))) (mOr (mNot (vW (aH c_l_is_row E (aq (aB 3) (aq (mC (.int 9)) aL))))) (bA (mOp rR (aH c_is_map E (aq (aB 3) aL)) (mC (.bl true)))))) (bK (mC .non)) bW)
  (tQ c_is_map c_leading c_form c_l_is_row c_l_led c_l_kind E)))))
def oW:MSp:=uX lA eX tV jE u5 pB
def vq (c_l_rest c_l_digit c_l_spot c_l_cross c_l_dot c_l_told:MSp)(E:XWK):MS:=
  (bK (mOp kEq (aB 6) (mLC ow1 [7] (nIt (aB 5)) fX (mOp kTIx (aB 1) (aB 0)))))
def yR (c_l_rest c_l_digit c_l_spot c_l_cross c_l_dot c_l_told:MSp)(E:XWK):MS:=
  (bx (bR (aH c_l_rest E (aq (aB 0) (aq (mC (.int 1)) aL))) (nName 1))
  (bx (bR (mLC ow1 [1,2] (gk (aq (mOp cC (mC (.int 1)) (aH c_l_digit E (aq (aB 1) (aq (mC (.int 12)) aL)))) aL)) fX (mOp kIx (aB 2) (aH c_l_digit E (aq (aB 1) (aq (mCB kLen (aq (aB 2) aL)) aL))))) (nName 5))
  (bx (bR (aH c_l_told E (aq (aB 5) aL)) (nName 6))
  (bx (bR mNewT (nName 7))
  (bx (p8 (nIt (aB 5)) (nName 4) (iZ (bA (mOp (kInT true) (aB 4) (aB 7))) (bR (mOp kIx (mLst (aq (vV (aq (mC (.int 1)) (aq (mC (.int 0)) (aq (mC (.int 0)) aL)))) (aq (vV (aq (mC (.int 0)) (aq (mC (.int 1)) (aq (mC (.int 0)) aL)))) (aq (vV (aq (mC (.int 0)) (aq (mC (.int 0)) (aq (mC (.int 1)) aL)))) aL)))) (mCB kLenT (aq (aB 7) aL))) (nSub (aB 7) (aB 4) sSetT)) bW))
  (vq c_l_rest c_l_digit c_l_spot c_l_cross c_l_dot c_l_told E))))))
def zy (c_l_rest c_l_digit c_l_spot c_l_cross c_l_dot c_l_told:MSp)(E:XWK):MS:=
  (bx (iZ (mAnd (bA (mOp kEq (mCB kLen (aq (aB 2) aL)) (mC (.int 3)))) (bA (mOp kEq (aH c_l_dot E (aq (aH c_l_cross E (aq (mOp kIx (aB 2) (mC (.int 0))) (aq (mOp kIx (aB 2) (mC (.int 1))) aL))) (aq (mOp kIx (aB 2) (mC (.int 2))) aL))) (mC (.int 0))))) (bR (qU (aq (vV (aq (mC (.int 1)) (aq (mC (.int 0)) (aq (mC (.int 0)) aL)))) (aq (vV (aq (mC (.int 0)) (aq (mC (.int 1)) (aq (mC (.int 0)) aL)))) (aq (vV (aq (mC (.int 0)) (aq (mC (.int 0)) (aq (mC (.int 1)) aL)))) aL)))) (nName 2)) bW)
  (yR c_l_rest c_l_digit c_l_spot c_l_cross c_l_dot c_l_told E))
def r_law (c_l_rest c_l_digit c_l_spot c_l_cross c_l_dot c_l_told:MSp):MSp:=mFn 1 8 false fun E=>
  (bx (bR (aH c_l_rest E (aq (aB 0) (aq (mC (.int 0)) aL))) (nName 1))
  (bx (bR (qU aL) (nName 2))
  (bx (p8 (gk (aq (mOp cC (mC (.int 1)) (aH c_l_digit E (aq (aB 1) (aq (mC (.int 3)) aL)))) aL)) (nName 3) (bx (bR (aH c_l_spot E (aq (aB 1) (aq (mOp kPow (mC (.int 10)) (mC (.int 30))) aL))) (nName 4))
  (iZ (bA (mOp kNinD (aB 4) (aB 2))) (ni (mBMr eV (aB 2) (aq (aB 4) aL))) bW)))
  (zy c_l_rest c_l_digit c_l_spot c_l_cross c_l_dot c_l_told E))))
def m_law:MSp:=r_law mH cg lH jy jY oW
structure Ad where
 f_is_whole:Addr
 d_is_whole:FuncData
 f_divisor_of_two:Addr
 d_divisor_of_two:FuncData
 f_divisor:Addr
 d_divisor:FuncData
 f_ends_below:Addr
 d_ends_below:FuncData
 f_plain:Addr
 d_plain:FuncData
 f_is_plain:Addr
 d_is_plain:FuncData
 f_dot:Addr
 d_dot:FuncData
 f_cross:Addr
 d_cross:FuncData
 f_turn:Addr
 d_turn:FuncData
 f_lies_on:Addr
 d_lies_on:FuncData
 f_share_one:Addr
 d_share_one:FuncData
 f_on_line:Addr
 d_on_line:FuncData
 f_plain_cross:Addr
 d_plain_cross:FuncData
 f_join:Addr
 d_join:FuncData
 f_rising:Addr
 d_rising:FuncData
 f_picked:Addr
 d_picked:FuncData
 f_rows_of:Addr
 d_rows_of:FuncData
 f_size_of:Addr
 d_size_of:FuncData
 f_is_map:Addr
 d_is_map:FuncData
 f_table_times_row:Addr
 d_table_times_row:FuncData
 f_flipped:Addr
 d_flipped:FuncData
 f_table_times_table:Addr
 d_table_times_table:FuncData
 f_turned:Addr
 d_turned:FuncData
 f_led:Addr
 d_led:FuncData
 f_then:Addr
 d_then:FuncData
 f_back:Addr
 d_back:FuncData
 f_tiles:Addr
 d_tiles:FuncData
 f_are_free:Addr
 d_are_free:FuncData
 f_from_tiles:Addr
 d_from_tiles:FuncData
 f_map_between:Addr
 d_map_between:FuncData
 f_check_picture:Addr
 d_check_picture:FuncData
 f_first_free:Addr
 d_first_free:FuncData
 f_unlike_spots:Addr
 d_unlike_spots:FuncData
 f_line_of_three:Addr
 d_line_of_three:FuncData
 f_kind_of:Addr
 d_kind_of:FuncData
 f_units:Addr
 d_units:FuncData
 f_spot_between:Addr
 d_spot_between:FuncData
 f_leading_of_line:Addr
 d_leading_of_line:FuncData
 f_filled_up:Addr
 d_filled_up:FuncData
 f_leading_of_few:Addr
 d_leading_of_few:FuncData
 f_leading:Addr
 d_leading:FuncData
 f_led_picture:Addr
 d_led_picture:FuncData
 f_form:Addr
 d_form:FuncData
 f_l_cell_at:Addr
 d_l_cell_at:FuncData
 f_l_rest:Addr
 d_l_rest:FuncData
 f_l_digit:Addr
 d_l_digit:FuncData
 f_l_number:Addr
 d_l_number:FuncData
 f_l_whole:Addr
 d_l_whole:FuncData
 f_l_divisor:Addr
 d_l_divisor:FuncData
 f_l_plain:Addr
 d_l_plain:FuncData
 f_l_is_row:Addr
 d_l_is_row:FuncData
 f_l_spot:Addr
 d_l_spot:FuncData
 f_l_cross:Addr
 d_l_cross:FuncData
 f_l_dot:Addr
 d_l_dot:FuncData
 f_l_led:Addr
 d_l_led:FuncData
 f_l_kind:Addr
 d_l_kind:FuncData
 f_l_told:Addr
 d_l_told:FuncData
 f_law:Addr
 d_law:FuncData
 a_TILES:Addr
structure Txt (K:PySem.W.Frag) (mg:Str→Option Value) (t:Ad):Prop where
 F_is_whole:Fun K "is_whole" "is_whole" jK t.f_is_whole t.d_is_whole
 jA:mg "is_whole" = some (.ref t.f_is_whole)
 b_is_whole:Binds K t.d_is_whole ["thing"] []
 F_divisor_of_two:Fun K "divisor_of_two" "divisor_of_two" cL t.f_divisor_of_two t.d_divisor_of_two
 cM:mg "divisor_of_two" = some (.ref t.f_divisor_of_two)
 b_divisor_of_two:Binds K t.d_divisor_of_two ["one", "other"] []
 F_divisor:Fun K "divisor" "divisor" lq t.f_divisor t.d_divisor
 gq:mg "divisor" = some (.ref t.f_divisor)
 b_divisor:Binds K t.d_divisor ["numbers"] []
 F_ends_below:Fun K "ends_below" "ends_below" fL t.f_ends_below t.d_ends_below
 cT:mg "ends_below" = some (.ref t.f_ends_below)
 b_ends_below:Binds K t.d_ends_below ["numbers"] []
 F_plain:Fun K "plain" "plain" vo t.f_plain t.d_plain
 cP:mg "plain" = some (.ref t.f_plain)
 b_plain:Binds K t.d_plain ["numbers"] []
 F_is_plain:Fun K "is_plain" "is_plain" jJ t.f_is_plain t.d_is_plain
 jG:mg "is_plain" = some (.ref t.f_is_plain)
 b_is_plain:Binds K t.d_is_plain ["thing", "many"] []
 F_dot:Fun K "dot" "dot" s_dot t.f_dot t.d_dot
 oM:mg "dot" = some (.ref t.f_dot)
 b_dot:Binds K t.d_dot ["one", "other"] []
 F_cross:Fun K "cross" "cross" vP t.f_cross t.d_cross
 dO:mg "cross" = some (.ref t.f_cross)
 b_cross:Binds K t.d_cross ["one", "other"] []
 F_turn:Fun K "turn" "turn" s_turn t.f_turn t.d_turn
 mK:mg "turn" = some (.ref t.f_turn)
 b_turn:Binds K t.d_turn ["one", "other", "third"] []
 F_lies_on:Fun K "lies_on" "lies_on" mQ t.f_lies_on t.d_lies_on
 jh:mg "lies_on" = some (.ref t.f_lies_on)
 b_lies_on:Binds K t.d_lies_on ["spot", "line"] []
 F_share_one:Fun K "share_one" "share_one" gY t.f_share_one t.d_share_one
 gR:mg "share_one" = some (.ref t.f_share_one)
 b_share_one:Binds K t.d_share_one ["rows"] []
 F_on_line:Fun K "on_line" "on_line" lN t.f_on_line t.d_on_line
 fB:mg "on_line" = some (.ref t.f_on_line)
 b_on_line:Binds K t.d_on_line ["spots"] []
 F_plain_cross:Fun K "plain_cross" "plain_cross" d8 t.f_plain_cross t.d_plain_cross
 eE:mg "plain_cross" = some (.ref t.f_plain_cross)
 b_plain_cross:Binds K t.d_plain_cross ["one", "other"] []
 F_join:Fun K "join" "join" z8 t.f_join t.d_join
 yF:mg "join" = some (.ref t.f_join)
 b_join:Binds K t.d_join ["one", "other"] []
 F_rising:Fun K "rising" "rising" oX t.f_rising t.d_rising
 gG:mg "rising" = some (.ref t.f_rising)
 b_rising:Binds K t.d_rising ["many", "size"] []
 F_picked:Fun K "picked" "picked" oZ t.f_picked t.d_picked
 fG:mg "picked" = some (.ref t.f_picked)
 b_picked:Binds K t.d_picked ["things", "places"] []
 F_rows_of:Fun K "rows_of" "rows_of" lG t.f_rows_of t.d_rows_of
 cj:mg "rows_of" = some (.ref t.f_rows_of)
 b_rows_of:Binds K t.d_rows_of ["table"] []
 F_size_of:Fun K "size_of" "size_of" lE t.f_size_of t.d_size_of
 mq:mg "size_of" = some (.ref t.f_size_of)
 b_size_of:Binds K t.d_size_of ["numbers"] []
 F_is_map:Fun K "is_map" "is_map" pI t.f_is_map t.d_is_map
 lA:mg "is_map" = some (.ref t.f_is_map)
 b_is_map:Binds K t.d_is_map ["thing"] []
 F_table_times_row:Fun K "table_times_row" "table_times_row" cD t.f_table_times_row t.d_table_times_row
 aZ:mg "table_times_row" = some (.ref t.f_table_times_row)
 b_table_times_row:Binds K t.d_table_times_row ["table", "row"] []
 F_flipped:Fun K "flipped" "flipped" lD t.f_flipped t.d_flipped
 gB:mg "flipped" = some (.ref t.f_flipped)
 b_flipped:Binds K t.d_flipped ["table"] []
 F_table_times_table:Fun K "table_times_table" "table_times_table" bM t.f_table_times_table t.d_table_times_table
 bN:mg "table_times_table" = some (.ref t.f_table_times_table)
 b_table_times_table:Binds K t.d_table_times_table ["one", "other"] []
 F_turned:Fun K "turned" "turned" pH t.f_turned t.d_turned
 iy:mg "turned" = some (.ref t.f_turned)
 b_turned:Binds K t.d_turned ["table"] []
 F_led:Fun K "led" "led" s_led t.f_led t.d_led
 m_led:mg "led" = some (.ref t.f_led)
 b_led:Binds K t.d_led ["by", "spot"] []
 F_then:Fun K "then" "then" s_then t.f_then t.d_then
 m_then:mg "then" = some (.ref t.f_then)
 b_then:Binds K t.d_then ["one", "other"] []
 F_back:Fun K "back" "back" z9 t.f_back t.d_back
 m_back:mg "back" = some (.ref t.f_back)
 b_back:Binds K t.d_back ["by"] []
 F_tiles:Fun K "tiles" "tiles" vI t.f_tiles t.d_tiles
 eZ:mg "tiles" = some (.ref t.f_tiles)
 b_tiles:Binds K t.d_tiles [] []
 F_are_free:Fun K "are_free" "are_free" jM t.f_are_free t.d_are_free
 cR:mg "are_free" = some (.ref t.f_are_free)
 b_are_free:Binds K t.d_are_free ["four"] []
 F_from_tiles:Fun K "from_tiles" "from_tiles" fD t.f_from_tiles t.d_from_tiles
 dF:mg "from_tiles" = some (.ref t.f_from_tiles)
 b_from_tiles:Binds K t.d_from_tiles ["four"] []
 F_map_between:Fun K "map_between" "map_between" d9 t.f_map_between t.d_map_between
 bf:mg "map_between" = some (.ref t.f_map_between)
 b_map_between:Binds K t.d_map_between ["four", "others"] []
 F_check_picture:Fun K "check_picture" "check_picture" cW t.f_check_picture t.d_check_picture
 bH:mg "check_picture" = some (.ref t.f_check_picture)
 b_check_picture:Binds K t.d_check_picture ["picture"] []
 F_first_free:Fun K "first_free" "first_free" fK t.f_first_free t.d_first_free
 bZ:mg "first_free" = some (.ref t.f_first_free)
 b_first_free:Binds K t.d_first_free ["picture"] []
 F_unlike_spots:Fun K "unlike_spots" "unlike_spots" dj t.f_unlike_spots t.d_unlike_spots
 bT:mg "unlike_spots" = some (.ref t.f_unlike_spots)
 b_unlike_spots:Binds K t.d_unlike_spots ["picture"] []
 F_line_of_three:Fun K "line_of_three" "line_of_three" cU t.f_line_of_three t.d_line_of_three
 bB:mg "line_of_three" = some (.ref t.f_line_of_three)
 b_line_of_three:Binds K t.d_line_of_three ["unlike"] []
 F_kind_of:Fun K "kind_of" "kind_of" kW t.f_kind_of t.d_kind_of
 jt:mg "kind_of" = some (.ref t.f_kind_of)
 b_kind_of:Binds K t.d_kind_of ["picture"] []
 F_units:Fun K "units" "units" vB t.f_units t.d_units
 nG:mg "units" = some (.ref t.f_units)
 b_units:Binds K t.d_units [] []
 F_spot_between:Fun K "spot_between" "spot_between" cZ t.f_spot_between t.d_spot_between
 bG:mg "spot_between" = some (.ref t.f_spot_between)
 b_spot_between:Binds K t.d_spot_between ["spots"] []
 F_leading_of_line:Fun K "leading_of_line" "leading_of_line" cG t.f_leading_of_line t.d_leading_of_line
 cF:mg "leading_of_line" = some (.ref t.f_leading_of_line)
 b_leading_of_line:Binds K t.d_leading_of_line ["unlike", "line"] []
 F_filled_up:Fun K "filled_up" "filled_up" gJ t.f_filled_up t.d_filled_up
 iz:mg "filled_up" = some (.ref t.f_filled_up)
 b_filled_up:Binds K t.d_filled_up ["unlike"] []
 F_leading_of_few:Fun K "leading_of_few" "leading_of_few" cN t.f_leading_of_few t.d_leading_of_few
 cJ:mg "leading_of_few" = some (.ref t.f_leading_of_few)
 b_leading_of_few:Binds K t.d_leading_of_few ["unlike"] []
 F_leading:Fun K "leading" "leading" kZ t.f_leading t.d_leading
 eX:mg "leading" = some (.ref t.f_leading)
 b_leading:Binds K t.d_leading ["picture"] []
 F_led_picture:Fun K "led_picture" "led_picture" dY t.f_led_picture t.d_led_picture
 eG:mg "led_picture" = some (.ref t.f_led_picture)
 b_led_picture:Binds K t.d_led_picture ["by", "picture"] []
 F_form:Fun K "form" "form" s_form t.f_form t.d_form
 tV:mg "form" = some (.ref t.f_form)
 b_form:Binds K t.d_form ["picture"] []
 F_l_cell_at:Fun K "_law_cell_at" "_law_cell_at" gW t.f_l_cell_at t.d_l_cell_at
 iu:mg "_law_cell_at" = some (.ref t.f_l_cell_at)
 b_l_cell_at:Binds K t.d_l_cell_at ["_law_script", "_law_k"] []
 F_l_rest:Fun K "_law_rest" "_law_rest" oN t.f_l_rest t.d_l_rest
 mH:mg "_law_rest" = some (.ref t.f_l_rest)
 b_l_rest:Binds K t.d_l_rest ["_law_script", "_law_k"] []
 F_l_digit:Fun K "_law_digit" "_law_digit" kO t.f_l_digit t.d_l_digit
 cg:mg "_law_digit" = some (.ref t.f_l_digit)
 b_l_digit:Binds K t.d_l_digit ["_law_rest_here", "_law_many"] []
 F_l_number:Fun K "_law_number" "_law_number" jz t.f_l_number t.d_l_number
 gj:mg "_law_number" = some (.ref t.f_l_number)
 b_l_number:Binds K t.d_l_number ["_law_rest_here", "_law_far"] []
 F_l_whole:Fun K "_law_whole" "_law_whole" mL t.f_l_whole t.d_l_whole
 mz:mg "_law_whole" = some (.ref t.f_l_whole)
 b_l_whole:Binds K t.d_l_whole ["_law_found"] []
 F_l_divisor:Fun K "_law_divisor" "_law_divisor" gZ t.f_l_divisor t.d_l_divisor
 gD:mg "_law_divisor" = some (.ref t.f_l_divisor)
 b_l_divisor:Binds K t.d_l_divisor ["_law_numbers"] []
 F_l_plain:Fun K "_law_plain" "_law_plain" lY t.f_l_plain t.d_l_plain
 cV:mg "_law_plain" = some (.ref t.f_l_plain)
 b_l_plain:Binds K t.d_l_plain ["_law_numbers"] []
 F_l_is_row:Fun K "_law_is_row" "_law_is_row" jD t.f_l_is_row t.d_l_is_row
 jE:mg "_law_is_row" = some (.ref t.f_l_is_row)
 b_l_is_row:Binds K t.d_l_is_row ["_law_found", "_law_many"] []
 F_l_spot:Fun K "_law_spot" "_law_spot" oR t.f_l_spot t.d_l_spot
 lH:mg "_law_spot" = some (.ref t.f_l_spot)
 b_l_spot:Binds K t.d_l_spot ["_law_rest_here", "_law_far"] []
 F_l_cross:Fun K "_law_cross" "_law_cross" mJ t.f_l_cross t.d_l_cross
 jy:mg "_law_cross" = some (.ref t.f_l_cross)
 b_l_cross:Binds K t.d_l_cross ["_law_one", "_law_other"] []
 F_l_dot:Fun K "_law_dot" "_law_dot" vL t.f_l_dot t.d_l_dot
 jY:mg "_law_dot" = some (.ref t.f_l_dot)
 b_l_dot:Binds K t.d_l_dot ["_law_one", "_law_other"] []
 F_l_led:Fun K "_law_led" "_law_led" vg t.f_l_led t.d_l_led
 u5:mg "_law_led" = some (.ref t.f_l_led)
 b_l_led:Binds K t.d_l_led ["_law_by", "_law_spot_here"] []
 F_l_kind:Fun K "_law_kind" "_law_kind" pC t.f_l_kind t.d_l_kind
 pB:mg "_law_kind" = some (.ref t.f_l_kind)
 b_l_kind:Binds K t.d_l_kind ["_law_spots"] []
 F_l_told:Fun K "_law_told" "_law_told" oY t.f_l_told t.d_l_told
 oW:mg "_law_told" = some (.ref t.f_l_told)
 b_l_told:Binds K t.d_l_told ["_law_spots"] []
 F_law:Fun K "law" "law" s_law t.f_law t.d_law
 m_law:mg "law" = some (.ref t.f_law)
 b_law:Binds K t.d_law ["_law_script"] []
 z_abs:mg "abs" = none
 z_all:mg "all" = none
 z_any:mg "any" = none
 z_bool:mg "bool" = none
 z_int:mg "int" = none
 z_isinstance:mg "isinstance" = none
 z_len:mg "len" = none
 z_list:mg "list" = none
 z_max:mg "max" = none
 z_min:mg "min" = none
 z_range:mg "range" = none
 z_reversed:mg "reversed" = none
 z_sum:mg "sum" = none
 z_tuple:mg "tuple" = none
 z_zip:mg "zip" = none
 g_TILES:mg "TILES" = some (.ref t.a_TILES)
 r_TILES:∀ H μ,Rep K H μ m6 (.ref t.a_TILES)
section
variable {P:Program}{w:World}{K:PySem.W.Frag}{mg:Str→Option Value}{base:Heap}{t:Ad}
theorem zM (T:Txt K mg t):bQ P w K mg base CX0 10 t.f_is_whole t.d_is_whole ["thing"] (lift K jA):=by
 have nd:=qb.nd
 refine cX (k:=9) T.F_is_whole qb fun cdv A outer s H E hr=>?_
 have hc:=hr.calm (by decide)
 refine aC ?_
 exact (aM (d_and (aU xX (by rfl) (by exact T.z_isinstance) boot_isinstance (ak (dv 0 (pv 0)) (ak (dc (ju (v:=.ty "int") (by rfl) (by exact T.z_int) boot_int (by rfl)) (fun _ _=>by rw [Rep])) au (aj (by rfl))) (aj (by rfl))) (by decide) (by decide) (aj (by rfl)) (ao (by rfl))) (d_one (d_not (aU xX (by rfl) (by exact T.z_isinstance) boot_isinstance (ak (dv 0 (pv 0)) (ak (dc (ju (v:=.ty "bool") (by rfl) (by exact T.z_bool) boot_bool (by rfl)) (fun _ _=>by rw [Rep])) au (aj (by rfl))) (aj (by rfl))) (by decide) (by decide) (aj (by rfl)) (ao (by rfl)))))))
theorem nA (T:Txt K mg t):bQ P w K mg base CX0 10 t.f_divisor_of_two t.d_divisor_of_two ["one", "other"] (lift K cM):=by
 have nd:=fY.nd
 refine cX (k:=9) T.F_divisor_of_two fY fun cdv A outer s H E hr=>?_
 have hc:=hr.calm (by decide)
 refine aA ?_ ?_
 ·exact (aQ (i:=0) nd (by rfl) (by exact Or.inl rfl) (aU c_abs (by rfl) (by exact T.z_abs) boot_abs (ak (dv 0 (pv 0)) au (aj (by rfl))) (by decide) (by decide) (aj (by rfl)) (ao (by rfl))))
 refine aA ?_ ?_
 ·exact (aQ (i:=1) nd (by rfl) (by exact Or.inl rfl) (aU c_abs (by rfl) (by exact T.z_abs) boot_abs (ak (dv 1 (pv 1)) au (aj (by rfl))) (by decide) (by decide) (aj (by rfl)) (ao (by rfl))))
 refine aA ?_ ?_
 ·exact (ds_while PassesOwn.never (aY (o_ne (iI hr)) (dv 1 (pv 1)) aD (aX _)) (aA (aQ (i:=2) nd (by rfl) (by exact Or.inl rfl) (bJ qC (dv 0 (pv 0)) (dv 1 (pv 1))))
  (aA (aQ (i:=0) nd (by rfl) (by exact Or.inl rfl) (dv 1 (pv 1)))
  (aC (aQ (i:=1) nd (by rfl) (by exact Or.inl rfl) (dv 2 (pv 2)))))))
 refine aC ?_
 exact (aM (dv 0 (pv 0)))
theorem sE (T:Txt K mg t):bQ P w K mg base CX0 11 t.f_divisor t.d_divisor ["numbers"] (lift K gq):=by
 have nd:=sJ.nd
 refine cX (k:=10) T.F_divisor sJ fun cdv A outer s H E hr=>?_
 have hc:=hr.calm (by decide)
 refine aA ?_ ?_
 ·exact (aQ (i:=1) nd (by rfl) (by exact Or.inl rfl) aD)
 refine aA ?_ ?_
 ·exact (eH PassesOwn.never hc (bI (dv 0 (pv 0))) (cQ (bU (i:=2) nd (by rfl) (by exact Or.inl rfl))) (aC (aQ (i:=1) nd (by rfl) (by exact Or.inl rfl) (aG ((nA T).mono (by decide)) hr (by rfl) (by exact T.cM) (by exact T.F_divisor_of_two.kp) (by exact T.b_divisor_of_two) (ak (dv 2 (pv 2)) (ak (dv 1 (pv 1)) au (aj (by rfl))) (aj (by rfl))) (by decide) (aj (by rfl)) (ao (by rfl))))))
 refine aC ?_
 exact (aM (dv 1 (pv 1)))
theorem lB (T:Txt K mg t):bQ P w K mg base CX0 10 t.f_ends_below t.d_ends_below ["numbers"] (lift K cT):=by
 have nd:=kJ.nd
 refine cX (k:=9) T.F_ends_below kJ fun cdv A outer s H E hr=>?_
 have hc:=hr.calm (by decide)
 refine aA ?_ ?_
 ·exact (eH PassesOwn.never hc (di_rev2 (by rfl) (by exact T.z_reversed) (ak (dv 0 (pv 0)) au (aj (by rfl))) (aj (by rfl)) (ao (by rfl))) (cQ (bU (i:=1) nd (by rfl) (by exact Or.inl rfl))) (aC (cB (aY (o_ne (iI hr)) (dv 1 (pv 1)) aD (aX _)) (aC (aM (vM o_lt (dv 1 (pv 1)) aD (aX _)))) aV)))
 refine aC ?_
 exact (aM d_bl)
theorem jB (T:Txt K mg t):bQ P w K mg base CX0 12 t.f_plain t.d_plain ["numbers"] (lift K cP):=by
 have nd:=sc_plain.nd
 refine cX (k:=11) T.F_plain sc_plain fun cdv A outer s H E hr=>?_
 have hc:=hr.calm (by decide)
 refine aA ?_ ?_
 ·exact (aQ (i:=1) nd (by rfl) (by exact Or.inr rfl) (aG ((sE T).mono (by decide)) hr (by rfl) (by exact T.gq) (by exact T.F_divisor.kp) (by exact T.b_divisor) (ak (dv 0 (pv 0)) au (aj (by rfl))) (by decide) (aj (by rfl)) (ao (by rfl))))
 refine aA ?_ ?_
 ·exact (cB (aY (wj (iI hr)) (dv 1 (pv 1)) aD (aX _)) (aC oV) aV)
 refine aA ?_ ?_
 ·exact (cB (dW (aG ((lB T).mono (by decide)) hr (by rfl) (by exact T.cT) (by exact T.F_ends_below.kp) (by exact T.b_ends_below) (ak (dv 0 (pv 0)) au (aj (by rfl))) (by decide) (aj (by rfl)) (ao (by rfl)))) (aC (aQ (i:=1) nd (by rfl) (by exact Or.inr rfl) (d_neg (dv 1 (pv 1))))) aV)
 refine aC ?_
 exact (aM (gK yO (by rfl) (by exact T.z_tuple) boot_tuple (ak (uJ [1] hc (aR (by rfl)) d7 (dZ (aR (by rfl))) (bI (dv 0 (pv 0))) (fun _ _ _ _=>bF) (fun _ _ _ _=>(bJ yW (dv 0 (pv 0)) (dv 1 (pv 1))))) au (aj (by rfl))) (by decide) (by decide) (aj (by rfl)) (ao (by rfl))))
theorem zm (T:Txt K mg t):bQ P w K mg base CX0 12 t.f_is_plain t.d_is_plain ["thing", "many"] (lift K jG):=by
 have nd:=pX.nd
 refine cX (k:=11) T.F_is_plain pX fun cdv A outer s H E hr=>?_
 have hc:=hr.calm (by decide)
 refine aA ?_ ?_
 ·exact (cB (rP (iT (dW (aU xX (by rfl) (by exact T.z_isinstance) boot_isinstance (ak (dv 0 (pv 0)) (ak (dc (ju (v:=.ty "tuple") (by rfl) (by exact T.z_tuple) boot_tuple (by rfl)) (fun _ _=>by rw [Rep])) au (aj (by rfl))) (aj (by rfl))) (by decide) (by decide) (aj (by rfl)) (ao (by rfl))))) (qd (aY (o_ne (iI hr)) (aU lM (by rfl) (by exact T.z_len) PySem.boot_len (ak (dv 0 (pv 0)) au (aj (by rfl))) (by decide) (by decide) (aj (by rfl)) (ao (by rfl))) (dv 1 (pv 1)) (aX _)))).pt (aC (aM d_bl)) aV)
 refine aA ?_ ?_
 ·exact (cB (iT (dW (aU (c_all hc) (by rfl) (by exact T.z_all) boot_all (ak (uJ [] hc (aR (by rfl)) d7 (dZ (aR (by rfl))) (bI (dv 0 (pv 0))) (fun _ _ _ _=>bF) (fun _ _ _ _=>(aG ((zM T).mono (by decide)) hr (by rfl) (by exact T.jA) (by exact T.F_is_whole.kp) (by exact T.b_is_whole) (ak (dv 0 (pv 0)) au (aj (by rfl))) (by decide) (aj (by rfl)) (ao (by rfl))))) au (aj (by rfl))) (by decide) (by decide) (aj (by rfl)) (ao (by rfl))))) (aC (aM d_bl)) aV)
 refine aC ?_
 exact (aM (d_and (vM (wj (iI hr)) (aG ((sE T).mono (by decide)) hr (by rfl) (by exact T.gq) (by exact T.F_divisor.kp) (by exact T.b_divisor) (ak (dv 0 (pv 0)) au (aj (by rfl))) (by decide) (aj (by rfl)) (ao (by rfl))) aD (aX _)) (d_one (d_not (aG ((lB T).mono (by decide)) hr (by rfl) (by exact T.cT) (by exact T.F_ends_below.kp) (by exact T.b_ends_below) (ak (dv 0 (pv 0)) au (aj (by rfl))) (by decide) (aj (by rfl)) (ao (by rfl)))))))
theorem wu (T:Txt K mg t):bQ P w K mg base CX0 10 t.f_dot t.d_dot ["one", "other"] (lift K oM):=by
 have nd:=sc_dot.nd
 refine cX (k:=9) T.F_dot sc_dot fun cdv A outer s H E hr=>?_
 have hc:=hr.calm (by decide)
 refine aC ?_
 exact (aM (bJ cH (bJ cH (bJ dJ (bC (dv 0 (pv 0)) aD (by intro _ _;rfl)) (bC (dv 1 (pv 1)) aD (by intro _ _;rfl))) (bJ dJ (bC (dv 0 (pv 0)) aD (by intro _ _;rfl)) (bC (dv 1 (pv 1)) aD (by intro _ _;rfl)))) (bJ dJ (bC (dv 0 (pv 0)) aD (by intro _ _;rfl)) (bC (dv 1 (pv 1)) aD (by intro _ _;rfl)))))
theorem jH (T:Txt K mg t):bQ P w K mg base CX0 10 t.f_cross t.d_cross ["one", "other"] (lift K dO):=by
 have nd:=sc_cross.nd
 refine cX (k:=9) T.F_cross sc_cross fun cdv A outer s H E hr=>?_
 have hc:=hr.calm (by decide)
 refine aC ?_
 exact (aM (iY (ak (bJ lC (bJ dJ (bC (dv 0 (pv 0)) aD (by intro _ _;rfl)) (bC (dv 1 (pv 1)) aD (by intro _ _;rfl))) (bJ dJ (bC (dv 0 (pv 0)) aD (by intro _ _;rfl)) (bC (dv 1 (pv 1)) aD (by intro _ _;rfl)))) (ak (bJ lC (bJ dJ (bC (dv 0 (pv 0)) aD (by intro _ _;rfl)) (bC (dv 1 (pv 1)) aD (by intro _ _;rfl))) (bJ dJ (bC (dv 0 (pv 0)) aD (by intro _ _;rfl)) (bC (dv 1 (pv 1)) aD (by intro _ _;rfl)))) (ak (bJ lC (bJ dJ (bC (dv 0 (pv 0)) aD (by intro _ _;rfl)) (bC (dv 1 (pv 1)) aD (by intro _ _;rfl))) (bJ dJ (bC (dv 0 (pv 0)) aD (by intro _ _;rfl)) (bC (dv 1 (pv 1)) aD (by intro _ _;rfl)))) au (aj (by rfl))) (aj (by rfl))) (aj (by rfl)))))
theorem qD (T:Txt K mg t):bQ P w K mg base CX0 11 t.f_turn t.d_turn ["one", "other", "third"] (lift K mK):=by
 have nd:=sc_turn.nd
 refine cX (k:=10) T.F_turn sc_turn fun cdv A outer s H E hr=>?_
 have hc:=hr.calm (by decide)
 refine aC ?_
 exact (aM (aG ((wu T).mono (by decide)) hr (by rfl) (by exact T.oM) (by exact T.F_dot.kp) (by exact T.b_dot) (ak (aG ((jH T).mono (by decide)) hr (by rfl) (by exact T.dO) (by exact T.F_cross.kp) (by exact T.b_cross) (ak (dv 0 (pv 0)) (ak (dv 1 (pv 1)) au (aj (by rfl))) (aj (by rfl))) (by decide) (aj (by rfl)) (ao (by rfl))) (ak (dv 2 (pv 2)) au (aj (by rfl))) (aj (by rfl))) (by decide) (aj (by rfl)) (ao (by rfl))))
theorem uD (T:Txt K mg t):bQ P w K mg base CX0 11 t.f_lies_on t.d_lies_on ["spot", "line"] (lift K jh):=by
 have nd:=tU.nd
 refine cX (k:=10) T.F_lies_on tU fun cdv A outer s H E hr=>?_
 have hc:=hr.calm (by decide)
 refine aC ?_
 exact (aM (vM (wj (iI hr)) (aG ((wu T).mono (by decide)) hr (by rfl) (by exact T.oM) (by exact T.F_dot.kp) (by exact T.b_dot) (ak (dv 0 (pv 0)) (ak (dv 1 (pv 1)) au (aj (by rfl))) (aj (by rfl))) (by decide) (aj (by rfl)) (ao (by rfl))) aD (aX _)))
theorem wK (T:Txt K mg t):bQ P w K mg base CX0 11 t.f_share_one t.d_share_one ["rows"] (lift K gR):=by
 have nd:=oh.nd
 refine cX (k:=10) T.F_share_one oh fun cdv A outer s H E hr=>?_
 have hc:=hr.calm (by decide)
 refine aA ?_ ?_
 ·exact (ds_lc [0] (i:=1) nd (by rfl) (by exact Or.inl rfl) hc (aR (by rfl)) d7 (dZ (aR (by rfl))) (bI (dv 0 (pv 0))) (fun _ _ _ _=>(uI (aY (o_ne (iI hr)) (dv 0 (pv 0)) (bC (dv 1 (pv 1)) aD (by intro _ _;rfl)) (aX _)))) (fun _ _ _ _=>(dv 0 (pv 0))))
 refine aA ?_ ?_
 ·exact (cB (iT (dW (dv 1 (pv 1)))) (aC (aM d_bl)) aV)
 refine aA ?_ ?_
 ·exact (aQ (i:=2) nd (by rfl) (by exact Or.inr rfl) (aG ((jH T).mono (by decide)) hr (by rfl) (by exact T.dO) (by exact T.F_cross.kp) (by exact T.b_cross) (ak (bC (dv 0 (pv 0)) aD (by intro _ _;rfl)) (ak (bC (dv 1 (pv 1)) aD (by intro _ _;rfl)) au (aj (by rfl))) (aj (by rfl))) (by decide) (aj (by rfl)) (ao (by rfl))))
 refine aC ?_
 exact (aM (aU (c_all hc) (by rfl) (by exact T.z_all) boot_all (ak (uJ [2] hc (aR (by rfl)) d7 (dZ (aR (by rfl))) (bI (dv 1 (pv 1))) (fun _ _ _ _=>bF) (fun _ _ _ _=>(vM (wj (iI hr)) (aG ((wu T).mono (by decide)) hr (by rfl) (by exact T.oM) (by exact T.F_dot.kp) (by exact T.b_dot) (ak (dv 1 (pv 1)) (ak (dv 0 (pv 0)) au (aj (by rfl))) (aj (by rfl))) (by decide) (aj (by rfl)) (ao (by rfl))) aD (aX _)))) au (aj (by rfl))) (by decide) (by decide) (aj (by rfl)) (ao (by rfl))))
theorem tR (T:Txt K mg t):bQ P w K mg base CX0 12 t.f_on_line t.d_on_line ["spots"] (lift K fB):=by
 have nd:=uf.nd
 refine cX (k:=11) T.F_on_line uf fun cdv A outer s H E hr=>?_
 have hc:=hr.calm (by decide)
 refine aC ?_
 exact (aM (aG ((wK T).mono (by decide)) hr (by rfl) (by exact T.gR) (by exact T.F_share_one.kp) (by exact T.b_share_one) (ak (dv 0 (pv 0)) au (aj (by rfl))) (by decide) (aj (by rfl)) (ao (by rfl))))
theorem rF (T:Txt K mg t):bQ P w K mg base CX0 13 t.f_plain_cross t.d_plain_cross ["one", "other"] (lift K eE):=by
 have nd:=jQ.nd
 refine cX (k:=12) T.F_plain_cross jQ fun cdv A outer s H E hr=>?_
 have hc:=hr.calm (by decide)
 refine aA ?_ ?_
 ·exact (cB (aY (wj (iI hr)) (dv 0 (pv 0)) (dv 1 (pv 1)) (aX _)) (aC oV) aV)
 refine aC ?_
 exact (aM (aG ((jB T).mono (by decide)) hr (by rfl) (by exact T.cP) (by exact T.F_plain.kp) (by exact T.b_plain) (ak (aG ((jH T).mono (by decide)) hr (by rfl) (by exact T.dO) (by exact T.F_cross.kp) (by exact T.b_cross) (ak (dv 0 (pv 0)) (ak (dv 1 (pv 1)) au (aj (by rfl))) (aj (by rfl))) (by decide) (aj (by rfl)) (ao (by rfl))) au (aj (by rfl))) (by decide) (aj (by rfl)) (ao (by rfl))))
theorem ok_join (T:Txt K mg t):bQ P w K mg base CX0 14 t.f_join t.d_join ["one", "other"] (lift K yF):=by
 have nd:=sc_join.nd
 refine cX (k:=13) T.F_join sc_join fun cdv A outer s H E hr=>?_
 have hc:=hr.calm (by decide)
 refine aC ?_
 exact (aM (aG ((rF T).mono (by decide)) hr (by rfl) (by exact T.eE) (by exact T.F_plain_cross.kp) (by exact T.b_plain_cross) (ak (dv 0 (pv 0)) (ak (dv 1 (pv 1)) au (aj (by rfl))) (aj (by rfl))) (by decide) (aj (by rfl)) (ao (by rfl))))
theorem yI (T:Txt K mg t):bQ P w K mg base CX0 10 t.f_rising t.d_rising ["many", "size"] (lift K gG):=by
 have nd:=xM.nd
 refine cX (k:=9) T.F_rising xM fun cdv A outer s H E hr=>?_
 have hc:=hr.calm (by decide)
 refine aA ?_ ?_
 ·first
  | (with_reducible exact (aQ (hs:=by with_unfolding_all rfl) (hf:=by with_unfolding_all first | exact .inl rfl | exact .inr rfl) (i:=2) (by with_unfolding_all exact nd) (by with_unfolding_all rfl) (by with_unfolding_all exact Or.inl rfl) (lU (ak (iY au) au (aj (by with_unfolding_all rfl))))))
  | (exact (aQ (i:=2) nd (by rfl) (by exact Or.inl rfl) (lU (ak (iY au) au (aj (by rfl))))))
 refine aA ?_ ?_
 ·exact (eH PassesOwn.never hc (cI (by rfl) (by exact T.z_range) (ak (dv 1 (pv 1)) au (aj (by rfl))) (jl (by rfl))) (cQ (bU (i:=3) nd (by rfl) (by exact Or.inl rfl))) (aA (aQ (i:=4) nd (by rfl) (by exact Or.inl rfl) (lR au))
  (aA (eH PassesOwn.never hc (bI (dv 2 (pv 2))) (cQ (bU (i:=5) nd (by rfl) (by exact Or.inr rfl))) (aA (aQ (i:=6) nd (by rfl) (by exact Or.inl rfl) (d_if (aY o_gt (dv 3 (pv 3)) aD (aX _)) (bJ cH (bC (dv 5 (pv 5)) (bJ lC (dv 3 (pv 3)) aD) (by intro _ _;rfl)) aD) aD))
  (aC (fU (zZ (dv 4 (pv 4)) (ak (uJ [5] hc (aR (by rfl)) d7 (dZ (aR (by rfl))) (di_range2 (by rfl) (by exact T.z_range) (ak (dv 6 (pv 6)) (ak (dv 0 (pv 0)) au (aj (by rfl))) (aj (by rfl)))) (fun _ _ _ _=>bF) (fun _ _ _ _=>(bJ cH (dv 1 (pv 1)) (iY (ak (dv 0 (pv 0)) au (aj (by rfl))))))) au (aj (by rfl))) (by rfl) (zA (by rfl)) (by rfl) (aj (by rfl)) (by rfl))))))
  (aC (aQ (i:=2) nd (by rfl) (by exact Or.inl rfl) (dv 4 (pv 4)))))))
 refine aC ?_
 exact (aM (dv 2 (pv 2)))
theorem pY (T:Txt K mg t):bQ P w K mg base CX0 10 t.f_picked t.d_picked ["things", "places"] (lift K fG):=by
 have nd:=wD.nd
 refine cX (k:=9) T.F_picked wD fun cdv A outer s H E hr=>?_
 have hc:=hr.calm (by decide)
 refine aC ?_
 exact (aM (uJ [0] hc (aR (by rfl)) d7 (dZ (aR (by rfl))) (bI (dv 1 (pv 1))) (fun _ _ _ _=>bF) (fun _ _ _ _=>(bC (dv 1 (pv 1)) (dv 0 (pv 0)) (by intro _ _;rfl)))))
theorem gC (T:Txt K mg t):bQ P w K mg base CX0 10 t.f_rows_of t.d_rows_of ["table"] (lift K cj):=by
 have nd:=tX.nd
 refine cX (k:=9) T.F_rows_of tX fun cdv A outer s H E hr=>?_
 have hc:=hr.calm (by decide)
 refine aC ?_
 exact (aM (lU (ak (d_sl2 (dv 0 (pv 0)) (g8 aD) (g8 aD)) (ak (d_sl2 (dv 0 (pv 0)) (g8 aD) (g8 aD)) (ak (d_sl2 (dv 0 (pv 0)) (g8 aD) (g8 aD)) au (aj (by rfl))) (aj (by rfl))) (aj (by rfl)))))
theorem ok_size_of (T:Txt K mg t):bQ P w K mg base CX0 12 t.f_size_of t.d_size_of ["numbers"] (lift K mq):=by
 have nd:=tW.nd
 refine cX (k:=11) T.F_size_of tW fun cdv A outer s H E hr=>?_
 have hc:=hr.calm (by decide)
 refine aA ?_ ?_
 ·exact (aQ (i:=1) nd (by rfl) (by exact Or.inl rfl) (aG ((gC T).mono (by decide)) hr (by rfl) (by exact T.cj) (by exact T.F_rows_of.kp) (by exact T.b_rows_of) (ak (dv 0 (pv 0)) au (aj (by rfl))) (by decide) (aj (by rfl)) (ao (by rfl))))
 refine aC ?_
 exact (aM (aG ((qD T).mono (by decide)) hr (by rfl) (by exact T.mK) (by exact T.F_turn.kp) (by exact T.b_turn) (ak (bC (dv 1 (pv 1)) aD (by intro _ _;rfl)) (ak (bC (dv 1 (pv 1)) aD (by intro _ _;rfl)) (ak (bC (dv 1 (pv 1)) aD (by intro _ _;rfl)) au (aj (by rfl))) (aj (by rfl))) (aj (by rfl))) (by decide) (aj (by rfl)) (ao (by rfl))))
theorem ok_is_map (T:Txt K mg t):bQ P w K mg base CX0 13 t.f_is_map t.d_is_map ["thing"] (lift K lA):=by
 have nd:=xP.nd
 refine cX (k:=12) T.F_is_map xP fun cdv A outer s H E hr=>?_
 have hc:=hr.calm (by decide)
 refine aC ?_
 exact (aM (d_and (aG ((zm T).mono (by decide)) hr (by rfl) (by exact T.jG) (by exact T.F_is_plain.kp) (by exact T.b_is_plain) (ak (dv 0 (pv 0)) (ak aD au (aj (by rfl))) (aj (by rfl))) (by decide) (aj (by rfl)) (ao (by rfl))) (d_one (vM (o_ne (iI hr)) (aG ((ok_size_of T).mono (by decide)) hr (by rfl) (by exact T.mq) (by exact T.F_size_of.kp) (by exact T.b_size_of) (ak (dv 0 (pv 0)) au (aj (by rfl))) (by decide) (aj (by rfl)) (ao (by rfl))) aD (aX _)))))
theorem fM (T:Txt K mg t):bQ P w K mg base CX0 11 t.f_table_times_row t.d_table_times_row ["table", "row"] (lift K aZ):=by
 have nd:=fJ.nd
 refine cX (k:=10) T.F_table_times_row fJ fun cdv A outer s H E hr=>?_
 have hc:=hr.calm (by decide)
 refine aC ?_
 exact (aM (uJ [1] hc (aR (by rfl)) d7 (dZ (aR (by rfl))) (bI (aG ((gC T).mono (by decide)) hr (by rfl) (by exact T.cj) (by exact T.F_rows_of.kp) (by exact T.b_rows_of) (ak (dv 0 (pv 0)) au (aj (by rfl))) (by decide) (aj (by rfl)) (ao (by rfl)))) (fun _ _ _ _=>bF) (fun _ _ _ _=>(aG ((wu T).mono (by decide)) hr (by rfl) (by exact T.oM) (by exact T.F_dot.kp) (by exact T.b_dot) (ak (dv 0 (pv 0)) (ak (dv 1 (pv 1)) au (aj (by rfl))) (aj (by rfl))) (by decide) (aj (by rfl)) (ao (by rfl))))))
theorem sU (T:Txt K mg t):bQ P w K mg base CX0 10 t.f_flipped t.d_flipped ["table"] (lift K gB):=by
 have nd:=sZ.nd
 refine cX (k:=9) T.F_flipped sZ fun cdv A outer s H E hr=>?_
 have hc:=hr.calm (by decide)
 refine aC ?_
 exact (aM (uJ [0] hc (aR (by rfl)) d7 (dZ (aR (by rfl))) (cI (by rfl) (by exact T.z_range) (ak aD au (aj (by rfl))) (jl (by rfl))) (fun _ _ _ _=>bF) (fun _ _ _ _=>(bC (dv 1 (pv 1)) (bJ cH (bJ dJ aD (bJ qC (dv 0 (pv 0)) aD)) (bJ yW (dv 0 (pv 0)) aD)) (by intro _ _;rfl)))))
theorem jP (T:Txt K mg t):bQ P w K mg base CX0 11 t.f_table_times_table t.d_table_times_table ["one", "other"] (lift K bN):=by
 have nd:=dX.nd
 refine cX (k:=10) T.F_table_times_table dX fun cdv A outer s H E hr=>?_
 have hc:=hr.calm (by decide)
 refine aA ?_ ?_
 ·exact (aQ (i:=2) nd (by rfl) (by exact Or.inl rfl) (aG ((gC T).mono (by decide)) hr (by rfl) (by exact T.cj) (by exact T.F_rows_of.kp) (by exact T.b_rows_of) (ak (aG ((sU T).mono (by decide)) hr (by rfl) (by exact T.gB) (by exact T.F_flipped.kp) (by exact T.b_flipped) (ak (dv 1 (pv 1)) au (aj (by rfl))) (by decide) (aj (by rfl)) (ao (by rfl))) au (aj (by rfl))) (by decide) (aj (by rfl)) (ao (by rfl))))
 refine aA ?_ ?_
 ·exact (aQ (i:=3) nd (by rfl) (by exact Or.inl rfl) (lR au))
 refine aA ?_ ?_
 ·exact (eH PassesOwn.never hc (bI (aG ((gC T).mono (by decide)) hr (by rfl) (by exact T.cj) (by exact T.F_rows_of.kp) (by exact T.b_rows_of) (ak (dv 0 (pv 0)) au (aj (by rfl))) (by decide) (aj (by rfl)) (ao (by rfl)))) (cQ (bU (i:=4) nd (by rfl) (by exact Or.inr rfl))) (aC (fU (zZ (dv 3 (pv 3)) (ak (uJ [4] hc (aR (by rfl)) d7 (dZ (aR (by rfl))) (bI (dv 2 (pv 2))) (fun _ _ _ _=>bF) (fun _ _ _ _=>(aG ((wu T).mono (by decide)) hr (by rfl) (by exact T.oM) (by exact T.F_dot.kp) (by exact T.b_dot) (ak (dv 1 (pv 1)) (ak (dv 0 (pv 0)) au (aj (by rfl))) (aj (by rfl))) (by decide) (aj (by rfl)) (ao (by rfl))))) au (aj (by rfl))) (by rfl) (zA (by rfl)) (by rfl) (aj (by rfl)) (by rfl)))))
 refine aC ?_
 exact (aM (dv 3 (pv 3)))
theorem vY (T:Txt K mg t):bQ P w K mg base CX0 11 t.f_turned t.d_turned ["table"] (lift K iy):=by
 have nd:=yc.nd
 refine cX (k:=10) T.F_turned yc fun cdv A outer s H E hr=>?_
 have hc:=hr.calm (by decide)
 refine aA ?_ ?_
 ·exact (aQ (i:=1) nd (by rfl) (by exact Or.inl rfl) (aG ((gC T).mono (by decide)) hr (by rfl) (by exact T.cj) (by exact T.F_rows_of.kp) (by exact T.b_rows_of) (ak (dv 0 (pv 0)) au (aj (by rfl))) (by decide) (aj (by rfl)) (ao (by rfl))))
 refine aC ?_
 exact (aM (bJ cH (bJ cH (aG ((jH T).mono (by decide)) hr (by rfl) (by exact T.dO) (by exact T.F_cross.kp) (by exact T.b_cross) (ak (bC (dv 1 (pv 1)) aD (by intro _ _;rfl)) (ak (bC (dv 1 (pv 1)) aD (by intro _ _;rfl)) au (aj (by rfl))) (aj (by rfl))) (by decide) (aj (by rfl)) (ao (by rfl))) (aG ((jH T).mono (by decide)) hr (by rfl) (by exact T.dO) (by exact T.F_cross.kp) (by exact T.b_cross) (ak (bC (dv 1 (pv 1)) aD (by intro _ _;rfl)) (ak (bC (dv 1 (pv 1)) aD (by intro _ _;rfl)) au (aj (by rfl))) (aj (by rfl))) (by decide) (aj (by rfl)) (ao (by rfl)))) (aG ((jH T).mono (by decide)) hr (by rfl) (by exact T.dO) (by exact T.F_cross.kp) (by exact T.b_cross) (ak (bC (dv 1 (pv 1)) aD (by intro _ _;rfl)) (ak (bC (dv 1 (pv 1)) aD (by intro _ _;rfl)) au (aj (by rfl))) (aj (by rfl))) (by decide) (aj (by rfl)) (ao (by rfl)))))
theorem ok_led (T:Txt K mg t):bQ P w K mg base CX0 13 t.f_led t.d_led ["by", "spot"] (lift K m_led):=by
 have nd:=sc_led.nd
 refine cX (k:=12) T.F_led sc_led fun cdv A outer s H E hr=>?_
 have hc:=hr.calm (by decide)
 refine aC ?_
 exact (aM (aG ((jB T).mono (by decide)) hr (by rfl) (by exact T.cP) (by exact T.F_plain.kp) (by exact T.b_plain) (ak (aG ((fM T).mono (by decide)) hr (by rfl) (by exact T.aZ) (by exact T.F_table_times_row.kp) (by exact T.b_table_times_row) (ak (dv 0 (pv 0)) (ak (dv 1 (pv 1)) au (aj (by rfl))) (aj (by rfl))) (by decide) (aj (by rfl)) (ao (by rfl))) au (aj (by rfl))) (by decide) (aj (by rfl)) (ao (by rfl))))
theorem ok_then (T:Txt K mg t):bQ P w K mg base CX0 13 t.f_then t.d_then ["one", "other"] (lift K m_then):=by
 have nd:=sc_then.nd
 refine cX (k:=12) T.F_then sc_then fun cdv A outer s H E hr=>?_
 have hc:=hr.calm (by decide)
 refine aC ?_
 exact (aM (aG ((jB T).mono (by decide)) hr (by rfl) (by exact T.cP) (by exact T.F_plain.kp) (by exact T.b_plain) (ak (aG ((jP T).mono (by decide)) hr (by rfl) (by exact T.bN) (by exact T.F_table_times_table.kp) (by exact T.b_table_times_table) (ak (dv 1 (pv 1)) (ak (dv 0 (pv 0)) au (aj (by rfl))) (aj (by rfl))) (by decide) (aj (by rfl)) (ao (by rfl))) au (aj (by rfl))) (by decide) (aj (by rfl)) (ao (by rfl))))
theorem ok_back (T:Txt K mg t):bQ P w K mg base CX0 13 t.f_back t.d_back ["by"] (lift K m_back):=by
 have nd:=sc_back.nd
 refine cX (k:=12) T.F_back sc_back fun cdv A outer s H E hr=>?_
 have hc:=hr.calm (by decide)
 refine aC ?_
 exact (aM (aG ((jB T).mono (by decide)) hr (by rfl) (by exact T.cP) (by exact T.F_plain.kp) (by exact T.b_plain) (ak (aG ((sU T).mono (by decide)) hr (by rfl) (by exact T.gB) (by exact T.F_flipped.kp) (by exact T.b_flipped) (ak (aG ((vY T).mono (by decide)) hr (by rfl) (by exact T.iy) (by exact T.F_turned.kp) (by exact T.b_turned) (ak (dv 0 (pv 0)) au (aj (by rfl))) (by decide) (aj (by rfl)) (ao (by rfl))) au (aj (by rfl))) (by decide) (aj (by rfl)) (ao (by rfl))) au (aj (by rfl))) (by decide) (aj (by rfl)) (ao (by rfl))))
theorem mW (T:Txt K mg t):bQ P w K mg base CX0 10 t.f_tiles t.d_tiles [] (lift K eZ):=by
 have nd:=sc_tiles.nd
 refine cX (k:=9) T.F_tiles sc_tiles fun cdv A outer s H E hr=>?_
 have hc:=hr.calm (by decide)
 refine aC ?_
 exact (aM (gK c_list (by rfl) (by exact T.z_list) boot_list (ak (dc (v:=.ref t.a_TILES) (pe_glob (by rfl) T.g_TILES (by rfl)) T.r_TILES) au (aj (by rfl))) (by decide) (by decide) (aj (by rfl)) (ao (by rfl))))
theorem kh (T:Txt K mg t):bQ P w K mg base CX0 12 t.f_are_free t.d_are_free ["four"] (lift K cR):=by
 have nd:=pU.nd
 refine cX (k:=11) T.F_are_free pU fun cdv A outer s H E hr=>?_
 have hc:=hr.calm (by decide)
 refine aA ?_ ?_
 ·exact (aQ (i:=1) nd (by rfl) (by exact Or.inl rfl) (lU (ak (aG ((qD T).mono (by decide)) hr (by rfl) (by exact T.mK) (by exact T.F_turn.kp) (by exact T.b_turn) (ak (bC (dv 0 (pv 0)) aD (by intro _ _;rfl)) (ak (bC (dv 0 (pv 0)) aD (by intro _ _;rfl)) (ak (bC (dv 0 (pv 0)) aD (by intro _ _;rfl)) au (aj (by rfl))) (aj (by rfl))) (aj (by rfl))) (by decide) (aj (by rfl)) (ao (by rfl))) (ak (aG ((qD T).mono (by decide)) hr (by rfl) (by exact T.mK) (by exact T.F_turn.kp) (by exact T.b_turn) (ak (bC (dv 0 (pv 0)) aD (by intro _ _;rfl)) (ak (bC (dv 0 (pv 0)) aD (by intro _ _;rfl)) (ak (bC (dv 0 (pv 0)) aD (by intro _ _;rfl)) au (aj (by rfl))) (aj (by rfl))) (aj (by rfl))) (by decide) (aj (by rfl)) (ao (by rfl))) (ak (aG ((qD T).mono (by decide)) hr (by rfl) (by exact T.mK) (by exact T.F_turn.kp) (by exact T.b_turn) (ak (bC (dv 0 (pv 0)) aD (by intro _ _;rfl)) (ak (bC (dv 0 (pv 0)) aD (by intro _ _;rfl)) (ak (bC (dv 0 (pv 0)) aD (by intro _ _;rfl)) au (aj (by rfl))) (aj (by rfl))) (aj (by rfl))) (by decide) (aj (by rfl)) (ao (by rfl))) (ak (aG ((qD T).mono (by decide)) hr (by rfl) (by exact T.mK) (by exact T.F_turn.kp) (by exact T.b_turn) (ak (bC (dv 0 (pv 0)) aD (by intro _ _;rfl)) (ak (bC (dv 0 (pv 0)) aD (by intro _ _;rfl)) (ak (bC (dv 0 (pv 0)) aD (by intro _ _;rfl)) au (aj (by rfl))) (aj (by rfl))) (aj (by rfl))) (by decide) (aj (by rfl)) (ao (by rfl))) au (aj (by rfl))) (aj (by rfl))) (aj (by rfl))) (aj (by rfl)))))
 refine aC ?_
 exact (aM (vM o_nin aD (dv 1 (pv 1)) (by with_unfolding_all rfl)))
theorem mX (T:Txt K mg t):bQ P w K mg base CX0 13 t.f_from_tiles t.d_from_tiles ["four"] (lift K dF):=by
 have nd:=lX.nd
 refine cX (k:=12) T.F_from_tiles lX fun cdv A outer s H E hr=>?_
 have hc:=hr.calm (by decide)
 refine aA ?_ ?_
 ·exact (aQ (i:=1) nd (by rfl) (by exact Or.inr rfl) (aG ((fM T).mono (by decide)) hr (by rfl) (by exact T.aZ) (by exact T.F_table_times_row.kp) (by exact T.b_table_times_row) (ak (aG ((vY T).mono (by decide)) hr (by rfl) (by exact T.iy) (by exact T.F_turned.kp) (by exact T.b_turned) (ak (bJ cH (bJ cH (bC (dv 0 (pv 0)) aD (by intro _ _;rfl)) (bC (dv 0 (pv 0)) aD (by intro _ _;rfl))) (bC (dv 0 (pv 0)) aD (by intro _ _;rfl))) au (aj (by rfl))) (by decide) (aj (by rfl)) (ao (by rfl))) (ak (bC (dv 0 (pv 0)) aD (by intro _ _;rfl)) au (aj (by rfl))) (aj (by rfl))) (by decide) (aj (by rfl)) (ao (by rfl))))
 refine aC ?_
 exact (aM (aG ((jB T).mono (by decide)) hr (by rfl) (by exact T.cP) (by exact T.F_plain.kp) (by exact T.b_plain) (ak (uJ [0,1] hc (aR (by rfl)) d7 (dZ (aR (by rfl))) (cI (by rfl) (by exact T.z_range) (ak aD au (aj (by rfl))) (jl (by rfl))) (fun _ _ _ _=>bF) (fun _ _ _ _=>(bJ dJ (bC (dv 2 (pv 2)) (bJ qC (dv 0 (pv 0)) aD) (by intro _ _;rfl)) (bC (bC (dv 1 (pv 1)) (bJ qC (dv 0 (pv 0)) aD) (by intro _ _;rfl)) (bJ yW (dv 0 (pv 0)) aD) (by intro _ _;rfl))))) au (aj (by rfl))) (by decide) (aj (by rfl)) (ao (by rfl))))
theorem dz (T:Txt K mg t):bQ P w K mg base CX0 14 t.f_map_between t.d_map_between ["four", "others"] (lift K bf):=by
 have nd:=jU.nd
 refine cX (k:=13) T.F_map_between jU fun cdv A outer s H E hr=>?_
 have hc:=hr.calm (by decide)
 refine aA ?_ ?_
 ·exact (cB (rP (iT (dW (aG ((kh T).mono (by decide)) hr (by rfl) (by exact T.cR) (by exact T.F_are_free.kp) (by exact T.b_are_free) (ak (dv 0 (pv 0)) au (aj (by rfl))) (by decide) (aj (by rfl)) (ao (by rfl))))) (qd (iT (dW (aG ((kh T).mono (by decide)) hr (by rfl) (by exact T.cR) (by exact T.F_are_free.kp) (by exact T.b_are_free) (ak (dv 1 (pv 1)) au (aj (by rfl))) (by decide) (aj (by rfl)) (ao (by rfl))))))).pt (aC oV) aV)
 refine aC ?_
 exact (aM (aG ((ok_then T).mono (by decide)) hr (by rfl) (by exact T.m_then) (by exact T.F_then.kp) (by exact T.b_then) (ak (aG ((ok_back T).mono (by decide)) hr (by rfl) (by exact T.m_back) (by exact T.F_back.kp) (by exact T.b_back) (ak (aG ((mX T).mono (by decide)) hr (by rfl) (by exact T.dF) (by exact T.F_from_tiles.kp) (by exact T.b_from_tiles) (ak (dv 0 (pv 0)) au (aj (by rfl))) (by decide) (aj (by rfl)) (ao (by rfl))) au (aj (by rfl))) (by decide) (aj (by rfl)) (ao (by rfl))) (ak (aG ((mX T).mono (by decide)) hr (by rfl) (by exact T.dF) (by exact T.F_from_tiles.kp) (by exact T.b_from_tiles) (ak (dv 1 (pv 1)) au (aj (by rfl))) (by decide) (aj (by rfl)) (ao (by rfl))) au (aj (by rfl))) (aj (by rfl))) (by decide) (aj (by rfl)) (ao (by rfl))))
theorem iV (T:Txt K mg t):bQ P w K mg base CX0 10 t.f_check_picture t.d_check_picture ["picture"] (lift K bH):=by
 have nd:=iJ.nd
 refine cX (k:=9) T.F_check_picture iJ fun cdv A outer s H E hr=>?_
 have hc:=hr.calm (by decide)
 refine aC ?_
 exact (cB (rP (aY o_lt (aU lM (by rfl) (by exact T.z_len) PySem.boot_len (ak (dv 0 (pv 0)) au (aj (by rfl))) (by decide) (by decide) (aj (by rfl)) (ao (by rfl))) aD (aX _)) (qd (aY o_gt (aU lM (by rfl) (by exact T.z_len) PySem.boot_len (ak (dv 0 (pv 0)) au (aj (by rfl))) (by decide) (by decide) (aj (by rfl)) (ao (by rfl))) aD (aX _)))).pt (aC oV) aV)
theorem kE (T:Txt K mg t):bQ P w K mg base CX0 13 t.f_first_free t.d_first_free ["picture"] (lift K bZ):=by
 have nd:=lQ.nd
 refine cX (k:=12) T.F_first_free lQ fun cdv A outer s H E hr=>?_
 have hc:=hr.calm (by decide)
 refine aA ?_ ?_
 ·exact (eH PassesOwn.never hc (bI (aG ((yI T).mono (by decide)) hr (by rfl) (by exact T.gG) (by exact T.F_rising.kp) (by exact T.b_rising) (ak (aU lM (by rfl) (by exact T.z_len) PySem.boot_len (ak (dv 0 (pv 0)) au (aj (by rfl))) (by decide) (by decide) (aj (by rfl)) (ao (by rfl))) (ak aD au (aj (by rfl))) (aj (by rfl))) (by decide) (aj (by rfl)) (ao (by rfl)))) (cQ (bU (i:=1) nd (by rfl) (by exact Or.inl rfl))) (aC (cB (dW (aG ((kh T).mono (by decide)) hr (by rfl) (by exact T.cR) (by exact T.F_are_free.kp) (by exact T.b_are_free) (ak (aG ((pY T).mono (by decide)) hr (by rfl) (by exact T.fG) (by exact T.F_picked.kp) (by exact T.b_picked) (ak (dv 0 (pv 0)) (ak (dv 1 (pv 1)) au (aj (by rfl))) (aj (by rfl))) (by decide) (aj (by rfl)) (ao (by rfl))) au (aj (by rfl))) (by decide) (aj (by rfl)) (ao (by rfl)))) (aC (aM (dv 1 (pv 1)))) aV)))
 refine aC ?_
 exact (aM rH)
theorem jk (T:Txt K mg t):bQ P w K mg base CX0 10 t.f_unlike_spots t.d_unlike_spots ["picture"] (lift K bT):=by
 have nd:=jw.nd
 refine cX (k:=9) T.F_unlike_spots jw fun cdv A outer s H E hr=>?_
 have hc:=hr.calm (by decide)
 refine aA ?_ ?_
 ·exact (aQ (i:=1) nd (by rfl) (by exact Or.inl rfl) (lR au))
 refine aA ?_ ?_
 ·exact (eH PassesOwn.never hc (bI (dv 0 (pv 0))) (cQ (bU (i:=2) nd (by rfl) (by exact Or.inl rfl))) (aC (cB (aY (o_ninD (iI hr)) (dv 2 (pv 2)) (dv 1 (pv 1)) (by with_unfolding_all rfl)) (aC (fU (lF (dv 1 (pv 1)) (ak (dv 2 (pv 2)) au (aj (by rfl))) (by rfl) (zA (by rfl)) (by rfl) (aj (by rfl)) (by rfl)))) aV)))
 refine aC ?_
 exact (aM (dv 1 (pv 1)))
theorem iR (T:Txt K mg t):bQ P w K mg base CX0 15 t.f_line_of_three t.d_line_of_three ["unlike"] (lift K bB):=by
 have nd:=iH.nd
 refine cX (k:=14) T.F_line_of_three iH fun cdv A outer s H E hr=>?_
 have hc:=hr.calm (by decide)
 refine aA ?_ ?_
 ·exact (eH PassesOwn.never hc (bI (aG ((yI T).mono (by decide)) hr (by rfl) (by exact T.gG) (by exact T.F_rising.kp) (by exact T.b_rising) (ak (aU lM (by rfl) (by exact T.z_len) PySem.boot_len (ak (dv 0 (pv 0)) au (aj (by rfl))) (by decide) (by decide) (aj (by rfl)) (ao (by rfl))) (ak aD au (aj (by rfl))) (aj (by rfl))) (by decide) (aj (by rfl)) (ao (by rfl)))) (cQ (bU (i:=1) nd (by rfl) (by exact Or.inl rfl))) (aA (aQ (i:=2) nd (by rfl) (by exact Or.inl rfl) (aG ((pY T).mono (by decide)) hr (by rfl) (by exact T.fG) (by exact T.F_picked.kp) (by exact T.b_picked) (ak (dv 0 (pv 0)) (ak (dv 1 (pv 1)) au (aj (by rfl))) (aj (by rfl))) (by decide) (aj (by rfl)) (ao (by rfl))))
  (aC (cB (dW (aG ((tR T).mono (by decide)) hr (by rfl) (by exact T.fB) (by exact T.F_on_line.kp) (by exact T.b_on_line) (ak (dv 2 (pv 2)) au (aj (by rfl))) (by decide) (aj (by rfl)) (ao (by rfl)))) (aC (aM (aG ((ok_join T).mono (by decide)) hr (by rfl) (by exact T.yF) (by exact T.F_join.kp) (by exact T.b_join) (ak (bC (dv 2 (pv 2)) aD (by intro _ _;rfl)) (ak (bC (dv 2 (pv 2)) aD (by intro _ _;rfl)) au (aj (by rfl))) (aj (by rfl))) (by decide) (aj (by rfl)) (ao (by rfl))))) aV))))
 refine aC ?_
 exact (aM rH)
theorem ok_kind_of (T:Txt K mg t):bQ P w K mg base CX0 16 t.f_kind_of t.d_kind_of ["picture"] (lift K jt):=by
 have nd:=tO.nd
 refine cX (k:=15) T.F_kind_of tO fun cdv A outer s H E hr=>?_
 have hc:=hr.calm (by decide)
 refine aA ?_ ?_
 ·exact (fU (aG ((iV T).mono (by decide)) hr (by rfl) (by exact T.bH) (by exact T.F_check_picture.kp) (by exact T.b_check_picture) (ak (dv 0 (pv 0)) au (aj (by rfl))) (by decide) (aj (by rfl)) (ao (by rfl))))
 refine aA ?_ ?_
 ·exact (cB (aY wN (aG ((kE T).mono (by decide)) hr (by rfl) (by exact T.bZ) (by exact T.F_first_free.kp) (by exact T.b_first_free) (ak (dv 0 (pv 0)) au (aj (by rfl))) (by decide) (aj (by rfl)) (ao (by rfl))) rH (aX _)) (aC (aM d_str)) aV)
 refine aA ?_ ?_
 ·exact (cB (aY wN (aG ((iR T).mono (by decide)) hr (by rfl) (by exact T.bB) (by exact T.F_line_of_three.kp) (by exact T.b_line_of_three) (ak (aG ((jk T).mono (by decide)) hr (by rfl) (by exact T.bT) (by exact T.F_unlike_spots.kp) (by exact T.b_unlike_spots) (ak (dv 0 (pv 0)) au (aj (by rfl))) (by decide) (aj (by rfl)) (ao (by rfl))) au (aj (by rfl))) (by decide) (aj (by rfl)) (ao (by rfl))) rH (aX _)) (aC (aM d_str)) aV)
 refine aC ?_
 exact (aM d_str)
theorem ok_units (T:Txt K mg t):bQ P w K mg base CX0 11 t.f_units t.d_units [] (lift K nG):=by
 have nd:=zW.nd
 refine cX (k:=10) T.F_units zW fun cdv A outer s H E hr=>?_
 have hc:=hr.calm (by decide)
 refine aC ?_
 exact (aM (d_sl2 (j5 ((mW T).mono (by decide)) hr (by rfl) (by exact T.eZ) (by exact T.F_tiles.kp) (by exact T.b_tiles)) do_none (g8 aD)))
theorem fj (T:Txt K mg t):bQ P w K mg base CX0 13 t.f_spot_between t.d_spot_between ["spots"] (lift K bG):=by
 have nd:=jg.nd
 refine cX (k:=12) T.F_spot_between jg fun cdv A outer s H E hr=>?_
 have hc:=hr.calm (by decide)
 refine aC ?_
 exact (aM (aG ((jB T).mono (by decide)) hr (by rfl) (by exact T.cP) (by exact T.F_plain.kp) (by exact T.b_plain) (ak (uJ [0] hc (aR (by rfl)) d7 (dZ (aR (by rfl))) (cI (by rfl) (by exact T.z_range) (ak aD au (aj (by rfl))) (jl (by rfl))) (fun _ _ _ _=>bF) (fun _ _ _ _=>(aU (c_sum hc) (by rfl) (by exact T.z_sum) boot_sum (ak (uJ [0] hc (aR (by rfl)) d7 (dZ (aR (by rfl))) (bI (dv 1 (pv 1))) (fun _ _ _ _=>bF) (fun _ _ _ _=>(bC (dv 0 (pv 0)) (dv 1 (pv 1)) (by intro _ _;rfl)))) au (aj (by rfl))) (by decide) (by decide) (aj (by rfl)) (ao (by rfl))))) au (aj (by rfl))) (by decide) (aj (by rfl)) (ao (by rfl))))
theorem mF (T:Txt K mg t):bQ P w K mg base CX0 15 t.f_leading_of_line t.d_leading_of_line ["unlike", "line"] (lift K cF):=by
 have nd:=fH.nd
 refine cX (k:=14) T.F_leading_of_line fH fun cdv A outer s H E hr=>?_
 have hc:=hr.calm (by decide)
 refine aA ?_ ?_
 ·exact (ds_lc [1] (i:=2) nd (by rfl) (by exact Or.inl rfl) hc (aR (by rfl)) d7 (dZ (aR (by rfl))) (bI (dv 0 (pv 0))) (fun _ _ _ _=>(uI (dW (aG ((uD T).mono (by decide)) hr (by rfl) (by exact T.jh) (by exact T.F_lies_on.kp) (by exact T.b_lies_on) (ak (dv 0 (pv 0)) (ak (dv 1 (pv 1)) au (aj (by rfl))) (aj (by rfl))) (by decide) (aj (by rfl)) (ao (by rfl)))))) (fun _ _ _ _=>(dv 0 (pv 0))))
 refine aA ?_ ?_
 ·exact (ds_lc [1] (i:=3) nd (by rfl) (by exact Or.inl rfl) hc (aR (by rfl)) d7 (dZ (aR (by rfl))) (bI (bJ cH (dv 0 (pv 0)) (j5 ((ok_units T).mono (by decide)) hr (by rfl) (by exact T.nG) (by exact T.F_units.kp) (by exact T.b_units)))) (fun _ _ _ _=>(uI (iT (dW (aG ((uD T).mono (by decide)) hr (by rfl) (by exact T.jh) (by exact T.F_lies_on.kp) (by exact T.b_lies_on) (ak (dv 0 (pv 0)) (ak (dv 1 (pv 1)) au (aj (by rfl))) (aj (by rfl))) (by decide) (aj (by rfl)) (ao (by rfl))))))) (fun _ _ _ _=>(dv 0 (pv 0))))
 refine aC ?_
 first
  | (with_reducible exact (aM (aG (k:=14) (by with_unfolding_all exact (dz T).mono (by decide)) (by with_unfolding_all exact hr) (by with_unfolding_all rfl) (by with_unfolding_all exact T.bf) (by with_unfolding_all exact T.F_map_between.kp) (by with_unfolding_all exact T.b_map_between) (ak (lU (ak (bC (dv 2 (by with_unfolding_all exact pv 2)) aD (by with_unfolding_all (intro _ _;rfl))) (ak (bC (dv 2 (by with_unfolding_all exact pv 2)) aD (by with_unfolding_all (intro _ _;rfl))) (ak (bC (dv 3 (by with_unfolding_all exact pv 3)) aD (by with_unfolding_all (intro _ _;rfl))) (ak (aG (k:=14) (by with_unfolding_all exact (fj T).mono (by decide)) (by with_unfolding_all exact hr) (by with_unfolding_all rfl) (by with_unfolding_all exact T.bG) (by with_unfolding_all exact T.F_spot_between.kp) (by with_unfolding_all exact T.b_spot_between) (ak (lU (ak (bC (dv 3 (by with_unfolding_all exact pv 3)) aD (by with_unfolding_all (intro _ _;rfl))) (ak (bC (dv 2 (by with_unfolding_all exact pv 2)) aD (by with_unfolding_all (intro _ _;rfl))) au (aj (by with_unfolding_all rfl))) (aj (by with_unfolding_all rfl)))) au (aj (by with_unfolding_all rfl))) (by decide) (aj (by with_unfolding_all rfl)) (ao (by with_unfolding_all rfl))) au (aj (by with_unfolding_all rfl))) (aj (by with_unfolding_all rfl))) (aj (by with_unfolding_all rfl))) (aj (by with_unfolding_all rfl)))) (ak (j5 (k:=14) (by with_unfolding_all exact (mW T).mono (by decide)) (by with_unfolding_all exact hr) (by with_unfolding_all rfl) (by with_unfolding_all exact T.eZ) (by with_unfolding_all exact T.F_tiles.kp) (by with_unfolding_all exact T.b_tiles)) au (aj (by with_unfolding_all rfl))) (aj (by with_unfolding_all rfl))) (by decide) (aj (by with_unfolding_all rfl)) (ao (by with_unfolding_all rfl)))))
  | (exact (aM (aG ((dz T).mono (by decide)) hr (by rfl) (by exact T.bf) (by exact T.F_map_between.kp) (by exact T.b_map_between) (ak (lU (ak (bC (dv 2 (pv 2)) aD (by intro _ _;rfl)) (ak (bC (dv 2 (pv 2)) aD (by intro _ _;rfl)) (ak (bC (dv 3 (pv 3)) aD (by intro _ _;rfl)) (ak (aG ((fj T).mono (by decide)) hr (by rfl) (by exact T.bG) (by exact T.F_spot_between.kp) (by exact T.b_spot_between) (ak (lU (ak (bC (dv 3 (pv 3)) aD (by intro _ _;rfl)) (ak (bC (dv 2 (pv 2)) aD (by intro _ _;rfl)) au (aj (by rfl))) (aj (by rfl)))) au (aj (by rfl))) (by decide) (aj (by rfl)) (ao (by rfl))) au (aj (by rfl))) (aj (by rfl))) (aj (by rfl))) (aj (by rfl)))) (ak (j5 ((mW T).mono (by decide)) hr (by rfl) (by exact T.eZ) (by exact T.F_tiles.kp) (by exact T.b_tiles)) au (aj (by rfl))) (aj (by rfl))) (by decide) (aj (by rfl)) (ao (by rfl)))))
theorem yH (T:Txt K mg t):bQ P w K mg base CX0 13 t.f_filled_up t.d_filled_up ["unlike"] (lift K iz):=by
 have nd:=nR.nd
 refine cX (k:=12) T.F_filled_up nR fun cdv A outer s H E hr=>?_
 have hc:=hr.calm (by decide)
 refine aA ?_ ?_
 ·exact (aQ (i:=1) nd (by rfl) (by exact Or.inl rfl) (gK c_listM (by rfl) (by exact T.z_list) boot_list (ak (dv 0 (pv 0)) au (aj (by rfl))) (by decide) (by decide) (aj (by rfl)) (ao (by rfl))))
 refine aA ?_ ?_
 ·exact (eH PassesOwn.never hc (bI (j5 ((ok_units T).mono (by decide)) hr (by rfl) (by exact T.nG) (by exact T.F_units.kp) (by exact T.b_units))) (cQ (bU (i:=2) nd (by rfl) (by exact Or.inl rfl))) (aC (cB (yJ (aY (wj (iI hr)) (aU lM (by rfl) (by exact T.z_len) PySem.boot_len (ak (dv 1 (pv 1)) au (aj (by rfl))) (by decide) (by decide) (aj (by rfl)) (ao (by rfl))) aD (aX _)) (qQ (aY (o_ne (iI hr)) (dv 2 (pv 2)) (bC (dv 1 (pv 1)) aD (by intro _ _;rfl)) (aX _)))).pt (aC (fU (lF (dv 1 (pv 1)) (ak (dv 2 (pv 2)) au (aj (by rfl))) (by rfl) (zA (by rfl)) (by rfl) (aj (by rfl)) (by rfl)))) (aC (cB (yJ (aY (wj (iI hr)) (aU lM (by rfl) (by exact T.z_len) PySem.boot_len (ak (dv 1 (pv 1)) au (aj (by rfl))) (by decide) (by decide) (aj (by rfl)) (ao (by rfl))) aD (aX _)) (qQ (iT (dW (aG ((tR T).mono (by decide)) hr (by rfl) (by exact T.fB) (by exact T.F_on_line.kp) (by exact T.b_on_line) (ak (bJ cH (dv 1 (pv 1)) (lU (ak (dv 2 (pv 2)) au (aj (by rfl))))) au (aj (by rfl))) (by decide) (aj (by rfl)) (ao (by rfl))))))).pt (aC (fU (lF (dv 1 (pv 1)) (ak (dv 2 (pv 2)) au (aj (by rfl))) (by rfl) (zA (by rfl)) (by rfl) (aj (by rfl)) (by rfl)))) aV)))))
 refine aC ?_
 exact (aM (dv 1 (pv 1)))
theorem nH (T:Txt K mg t):bQ P w K mg base CX0 15 t.f_leading_of_few t.d_leading_of_few ["unlike"] (lift K cJ):=by
 have nd:=gb.nd
 refine cX (k:=14) T.F_leading_of_few gb fun cdv A outer s H E hr=>?_
 have hc:=hr.calm (by decide)
 refine aA ?_ ?_
 ·exact (aQ (i:=1) nd (by rfl) (by exact Or.inl rfl) (aG ((yH T).mono (by decide)) hr (by rfl) (by exact T.iz) (by exact T.F_filled_up.kp) (by exact T.b_filled_up) (ak (dv 0 (pv 0)) au (aj (by rfl))) (by decide) (aj (by rfl)) (ao (by rfl))))
 refine aC ?_
 exact (aM (aG ((dz T).mono (by decide)) hr (by rfl) (by exact T.bf) (by exact T.F_map_between.kp) (by exact T.b_map_between) (ak (bJ cH (dv 1 (pv 1)) (lU (ak (aG ((fj T).mono (by decide)) hr (by rfl) (by exact T.bG) (by exact T.F_spot_between.kp) (by exact T.b_spot_between) (ak (dv 1 (pv 1)) au (aj (by rfl))) (by decide) (aj (by rfl)) (ao (by rfl))) au (aj (by rfl))))) (ak (j5 ((mW T).mono (by decide)) hr (by rfl) (by exact T.eZ) (by exact T.F_tiles.kp) (by exact T.b_tiles)) au (aj (by rfl))) (aj (by rfl))) (by decide) (aj (by rfl)) (ao (by rfl))))
theorem sH (T:Txt K mg t):bQ P w K mg base CX0 16 t.f_leading t.d_leading ["picture"] (lift K eX):=by
 have nd:=ug.nd
 refine cX (k:=15) T.F_leading ug fun cdv A outer s H E hr=>?_
 have hc:=hr.calm (by decide)
 refine aA ?_ ?_
 ·exact (fU (aG ((iV T).mono (by decide)) hr (by rfl) (by exact T.bH) (by exact T.F_check_picture.kp) (by exact T.b_check_picture) (ak (dv 0 (pv 0)) au (aj (by rfl))) (by decide) (aj (by rfl)) (ao (by rfl))))
 refine aA ?_ ?_
 ·exact (aQ (i:=1) nd (by rfl) (by exact Or.inl rfl) (aG ((kE T).mono (by decide)) hr (by rfl) (by exact T.bZ) (by exact T.F_first_free.kp) (by exact T.b_first_free) (ak (dv 0 (pv 0)) au (aj (by rfl))) (by decide) (aj (by rfl)) (ao (by rfl))))
 refine aA ?_ ?_
 ·exact (cB (aY wN (dv 1 (pv 1)) rH (aX _)) (aC (aM (aG ((dz T).mono (by decide)) hr (by rfl) (by exact T.bf) (by exact T.F_map_between.kp) (by exact T.b_map_between) (ak (aG ((pY T).mono (by decide)) hr (by rfl) (by exact T.fG) (by exact T.F_picked.kp) (by exact T.b_picked) (ak (dv 0 (pv 0)) (ak (dv 1 (pv 1)) au (aj (by rfl))) (aj (by rfl))) (by decide) (aj (by rfl)) (ao (by rfl))) (ak (j5 ((mW T).mono (by decide)) hr (by rfl) (by exact T.eZ) (by exact T.F_tiles.kp) (by exact T.b_tiles)) au (aj (by rfl))) (aj (by rfl))) (by decide) (aj (by rfl)) (ao (by rfl))))) aV)
 refine aA ?_ ?_
 ·exact (aQ (i:=2) nd (by rfl) (by exact Or.inl rfl) (aG ((jk T).mono (by decide)) hr (by rfl) (by exact T.bT) (by exact T.F_unlike_spots.kp) (by exact T.b_unlike_spots) (ak (dv 0 (pv 0)) au (aj (by rfl))) (by decide) (aj (by rfl)) (ao (by rfl))))
 refine aA ?_ ?_
 ·exact (aQ (i:=3) nd (by rfl) (by exact Or.inl rfl) (aG ((iR T).mono (by decide)) hr (by rfl) (by exact T.bB) (by exact T.F_line_of_three.kp) (by exact T.b_line_of_three) (ak (dv 2 (pv 2)) au (aj (by rfl))) (by decide) (aj (by rfl)) (ao (by rfl))))
 refine aA ?_ ?_
 ·exact (cB (aY wN (dv 3 (pv 3)) rH (aX _)) (aC (aM (aG ((mF T).mono (by decide)) hr (by rfl) (by exact T.cF) (by exact T.F_leading_of_line.kp) (by exact T.b_leading_of_line) (ak (dv 2 (pv 2)) (ak (dv 3 (pv 3)) au (aj (by rfl))) (aj (by rfl))) (by decide) (aj (by rfl)) (ao (by rfl))))) aV)
 refine aC ?_
 exact (aM (aG ((nH T).mono (by decide)) hr (by rfl) (by exact T.cJ) (by exact T.F_leading_of_few.kp) (by exact T.b_leading_of_few) (ak (dv 2 (pv 2)) au (aj (by rfl))) (by decide) (aj (by rfl)) (ao (by rfl))))
theorem rY (T:Txt K mg t):bQ P w K mg base CX0 14 t.f_led_picture t.d_led_picture ["by", "picture"] (lift K eG):=by
 have nd:=jT.nd
 refine cX (k:=13) T.F_led_picture jT fun cdv A outer s H E hr=>?_
 have hc:=hr.calm (by decide)
 refine aC ?_
 exact (aM (d_lcM [0] hc (aR (by rfl)) d7 (dZ (aR (by rfl))) (bI (dv 1 (pv 1))) (fun _ _ _ _=>bF) (fun _ _ _ _=>(aG ((ok_led T).mono (by decide)) hr (by rfl) (by exact T.m_led) (by exact T.F_led.kp) (by exact T.b_led) (ak (dv 1 (pv 1)) (ak (dv 0 (pv 0)) au (aj (by rfl))) (aj (by rfl))) (by decide) (aj (by rfl)) (ao (by rfl))))))
theorem ok_form (T:Txt K mg t):bQ P w K mg base CX0 17 t.f_form t.d_form ["picture"] (lift K tV):=by
 have nd:=sc_form.nd
 refine cX (k:=16) T.F_form sc_form fun cdv A outer s H E hr=>?_
 have hc:=hr.calm (by decide)
 refine aC ?_
 exact (aM (iY (ak (aG ((ok_kind_of T).mono (by decide)) hr (by rfl) (by exact T.jt) (by exact T.F_kind_of.kp) (by exact T.b_kind_of) (ak (dv 0 (pv 0)) au (aj (by rfl))) (by decide) (aj (by rfl)) (ao (by rfl))) (ak (aG ((rY T).mono (by decide)) hr (by rfl) (by exact T.eG) (by exact T.F_led_picture.kp) (by exact T.b_led_picture) (ak (aG ((sH T).mono (by decide)) hr (by rfl) (by exact T.eX) (by exact T.F_leading.kp) (by exact T.b_leading) (ak (dv 0 (pv 0)) au (aj (by rfl))) (by decide) (aj (by rfl)) (ao (by rfl))) (ak (dv 0 (pv 0)) au (aj (by rfl))) (aj (by rfl))) (by decide) (aj (by rfl)) (ao (by rfl))) au (aj (by rfl))) (aj (by rfl)))))
theorem xO (T:Txt K mg t):bQ P w K mg base CX0 10 t.f_l_cell_at t.d_l_cell_at ["_law_script", "_law_k"] (lift K iu):=by
 have nd:=oH.nd
 refine cX (k:=9) T.F_l_cell_at oH fun cdv A outer s H E hr=>?_
 have hc:=hr.calm (by decide)
 refine aA ?_ ?_
 ·exact (cB (aY o_lt (dv 1 (pv 1)) (aU lM (by rfl) (by exact T.z_len) PySem.boot_len (ak (dv 0 (pv 0)) au (aj (by rfl))) (by decide) (by decide) (aj (by rfl)) (ao (by rfl))) (aX _)) (aC (aM (bC (dv 0 (pv 0)) (dv 1 (pv 1)) (by intro _ _;rfl)))) aV)
 refine aC ?_
 exact (aM aD)
theorem yd (T:Txt K mg t):bQ P w K mg base CX0 11 t.f_l_rest t.d_l_rest ["_law_script", "_law_k"] (lift K mH):=by
 have nd:=vZ.nd
 refine cX (k:=10) T.F_l_rest vZ fun cdv A outer s H E hr=>?_
 have hc:=hr.calm (by decide)
 refine aA ?_ ?_
 ·exact (aQ (i:=2) nd (by rfl) (by exact Or.inl rfl) (aG ((xO T).mono (by decide)) hr (by rfl) (by exact T.iu) (by exact T.F_l_cell_at.kp) (by exact T.b_l_cell_at) (ak (dv 0 (pv 0)) (ak (dv 1 (pv 1)) au (aj (by rfl))) (aj (by rfl))) (by decide) (aj (by rfl)) (ao (by rfl))))
 refine aA ?_ ?_
 ·exact (aQ (i:=3) nd (by rfl) (by exact Or.inl rfl) (bJ qC (bJ dJ (bJ cH (bJ cH (bJ qC (bJ yW (dv 2 (pv 2)) aD) (bJ o_pow aD aD)) (bJ dJ (bJ dJ aD (dv 1 (pv 1))) (dv 1 (pv 1)))) aD) aD) aD))
 refine aA ?_ ?_
 ·exact (aQ (i:=4) nd (by rfl) (by exact Or.inl rfl) aD)
 refine aA ?_ ?_
 ·exact (eH PassesOwn.never hc (cI (by rfl) (by exact T.z_range) (ak aD au (aj (by rfl))) (jl (by rfl))) (cQ (bU (i:=5) nd (by rfl) (by exact Or.inl rfl))) (aA (aQ (i:=3) nd (by rfl) (by exact Or.inl rfl) (bJ qC (bJ cH (bJ cH (bJ dJ (dv 3 (pv 3)) aD) (bJ dJ (dv 5 (pv 5)) (dv 5 (pv 5)))) aD) aD))
  (aC (aQ (i:=4) nd (by rfl) (by exact Or.inl rfl) (bJ cH (bJ dJ (dv 4 (pv 4)) (bJ o_pow aD aD)) (bJ qC (bJ dJ (dv 3 (pv 3)) (bJ cH (dv 3 (pv 3)) (bJ dJ aD (dv 5 (pv 5))))) aD))))))
 refine aA ?_ ?_
 ·exact (cB (aY (wj (iI hr)) (bJ qC (dv 2 (pv 2)) aD) aD (aX _)) (aC (aM (lR (ak (dv 4 (pv 4)) au (aj (by rfl)))))) aV)
 refine aC ?_
 exact (aM (lR (ak (bJ yW (dv 2 (pv 2)) aD) (ak (dv 4 (pv 4)) au (aj (by rfl))) (aj (by rfl)))))
theorem cY (T:Txt K mg t):bQ P w K mg base CX0 10 t.f_l_digit t.d_l_digit ["_law_rest_here", "_law_many"] (lift K cg):=by
 have nd:=tL.nd
 refine cX (k:=9) T.F_l_digit tL fun cdv A outer s H E hr=>?_
 have hc:=hr.calm (by decide)
 refine aA ?_ ?_
 ·exact (cB (yJ (aY o_lt (bC (dv 0 (pv 0)) aD (by intro _ _;rfl)) aD (aX _)) (qQ (aY o_gt (aU lM (by rfl) (by exact T.z_len) PySem.boot_len (ak (dv 0 (pv 0)) au (aj (by rfl))) (by decide) (by decide) (aj (by rfl)) (ao (by rfl))) aD (aX _)))).pt (aC (ds_asg (d_pop (dv 0 (pv 0))) (dg_sub (dv 0 (pv 0)) aD set_list zU))) aV)
 refine aA ?_ ?_
 ·exact (aQ (i:=2) nd (by rfl) (by exact Or.inl rfl) (bJ qC (bC (dv 0 (pv 0)) aD (by intro _ _;rfl)) (dv 1 (pv 1))))
 refine aA ?_ ?_
 ·exact (ds_asg (bJ yW (bC (dv 0 (pv 0)) aD (by intro _ _;rfl)) (dv 1 (pv 1))) (dg_sub (dv 0 (pv 0)) aD set_list zU))
 refine aC ?_
 exact (aM (dv 2 (pv 2)))
theorem zH (T:Txt K mg t):bQ P w K mg base CX0 11 t.f_l_number t.d_l_number ["_law_rest_here", "_law_far"] (lift K gj):=by
 have nd:=qz.nd
 refine cX (k:=10) T.F_l_number qz fun cdv A outer s H E hr=>?_
 have hc:=hr.calm (by decide)
 refine aA ?_ ?_
 ·exact (aQ (i:=2) nd (by rfl) (by exact Or.inl rfl) (aG ((cY T).mono (by decide)) hr (by rfl) (by exact T.cg) (by exact T.F_l_digit.kp) (by exact T.b_l_digit) (ak (dv 0 (pv 0)) (ak aD au (aj (by rfl))) (aj (by rfl))) (by decide) (aj (by rfl)) (ao (by rfl))))
 refine aA ?_ ?_
 ·exact (cB (aY (wj (iI hr)) (dv 2 (pv 2)) aD (aX _)) (aC (aM (bJ lC (aG ((cY T).mono (by decide)) hr (by rfl) (by exact T.cg) (by exact T.F_l_digit.kp) (by exact T.b_l_digit) (ak (dv 0 (pv 0)) (ak aD au (aj (by rfl))) (aj (by rfl))) (by decide) (aj (by rfl)) (ao (by rfl))) aD))) aV)
 refine aA ?_ ?_
 ·exact (cB (aY (wj (iI hr)) (dv 2 (pv 2)) aD (aX _)) (aC (aM (bJ lC (aG ((cY T).mono (by decide)) hr (by rfl) (by exact T.cg) (by exact T.F_l_digit.kp) (by exact T.b_l_digit) (ak (dv 0 (pv 0)) (ak aD au (aj (by rfl))) (aj (by rfl))) (by decide) (aj (by rfl)) (ao (by rfl))) aD))) aV)
 refine aC ?_
 exact (aM (bJ cH (bJ lC (aG ((cY T).mono (by decide)) hr (by rfl) (by exact T.cg) (by exact T.F_l_digit.kp) (by exact T.b_l_digit) (ak (dv 0 (pv 0)) (ak (bJ lC (bJ dJ aD (dv 1 (pv 1))) aD) au (aj (by rfl))) (aj (by rfl))) (by decide) (aj (by rfl)) (ao (by rfl))) (dv 1 (pv 1))) aD))
theorem ok_l_whole (T:Txt K mg t):bQ P w K mg base CX0 10 t.f_l_whole t.d_l_whole ["_law_found"] (lift K mz):=by
 have nd:=ur.nd
 refine cX (k:=9) T.F_l_whole ur fun cdv A outer s H E hr=>?_
 have hc:=hr.calm (by decide)
 refine aC ?_
 exact (aM (d_and (aU xX (by rfl) (by exact T.z_isinstance) boot_isinstance (ak (dv 0 (pv 0)) (ak (dc (ju (v:=.ty "int") (by rfl) (by exact T.z_int) boot_int (by rfl)) (fun _ _=>by rw [Rep])) au (aj (by rfl))) (aj (by rfl))) (by decide) (by decide) (aj (by rfl)) (ao (by rfl))) (d_one (d_not (aU xX (by rfl) (by exact T.z_isinstance) boot_isinstance (ak (dv 0 (pv 0)) (ak (dc (ju (v:=.ty "bool") (by rfl) (by exact T.z_bool) boot_bool (by rfl)) (fun _ _=>by rw [Rep])) au (aj (by rfl))) (aj (by rfl))) (by decide) (by decide) (aj (by rfl)) (ao (by rfl)))))))
theorem xH (T:Txt K mg t):bQ P w K mg base CX0 10 t.f_l_divisor t.d_l_divisor ["_law_numbers"] (lift K gD):=by
 have nd:=nZ.nd
 refine cX (k:=9) T.F_l_divisor nZ fun cdv A outer s H E hr=>?_
 have hc:=hr.calm (by decide)
 refine aA ?_ ?_
 ·exact (aQ (i:=1) nd (by rfl) (by exact Or.inl rfl) aD)
 refine aA ?_ ?_
 ·exact (eH PassesOwn.never hc (bI (dv 0 (pv 0))) (cQ (bU (i:=2) nd (by rfl) (by exact Or.inl rfl))) (aA (aQ (i:=3) nd (by rfl) (by exact Or.inl rfl) (aU (c_max hc) (by rfl) (by exact T.z_max) boot_max (ak (dv 1 (pv 1)) (ak (aU c_abs (by rfl) (by exact T.z_abs) boot_abs (ak (dv 2 (pv 2)) au (aj (by rfl))) (by decide) (by decide) (aj (by rfl)) (ao (by rfl))) au (aj (by rfl))) (aj (by rfl))) (by decide) (by decide) (aj (by rfl)) (ao (by rfl))))
  (aA (aQ (i:=4) nd (by rfl) (by exact Or.inl rfl) (aU (c_min hc) (by rfl) (by exact T.z_min) boot_min (ak (dv 1 (pv 1)) (ak (aU c_abs (by rfl) (by exact T.z_abs) boot_abs (ak (dv 2 (pv 2)) au (aj (by rfl))) (by decide) (by decide) (aj (by rfl)) (ao (by rfl))) au (aj (by rfl))) (aj (by rfl))) (by decide) (by decide) (aj (by rfl)) (ao (by rfl))))
  (aA (ds_while PassesOwn.never (aY o_gt (dv 4 (pv 4)) aD (aX _)) (aC (ds_par_of (ps_par (i:=3) (j:=4) hc nd (by rfl) (by rfl) (by decide) (by rfl) (by rfl) (ak (dv 4 (pv 4)) (ak (bJ qC (dv 3 (pv 3)) (dv 4 (pv 4))) au (aj (by rfl))) (aj (by rfl))) (by rfl)))))
  (aC (aQ (i:=1) nd (by rfl) (by exact Or.inl rfl) (dv 3 (pv 3))))))))
 refine aC ?_
 exact (aM (dv 1 (pv 1)))
theorem m9 (T:Txt K mg t):bQ P w K mg base CX0 11 t.f_l_plain t.d_l_plain ["_law_numbers"] (lift K cV):=by
 have nd:=sV.nd
 refine cX (k:=10) T.F_l_plain sV fun cdv A outer s H E hr=>?_
 have hc:=hr.calm (by decide)
 refine aA ?_ ?_
 ·exact (aQ (i:=1) nd (by rfl) (by exact Or.inr rfl) (aG ((xH T).mono (by decide)) hr (by rfl) (by exact T.gD) (by exact T.F_l_divisor.kp) (by exact T.b_l_divisor) (ak (dv 0 (pv 0)) au (aj (by rfl))) (by decide) (aj (by rfl)) (ao (by rfl))))
 refine aA ?_ ?_
 ·exact (cB (aY o_lt (bC (uJ [] hc (aR (by rfl)) d7 (dZ (aR (by rfl))) (bI (dv 0 (pv 0))) (fun _ _ _ _=>(uI (aY (o_ne (iI hr)) (dv 0 (pv 0)) aD (aX _)))) (fun _ _ _ _=>(dv 0 (pv 0)))) (d_neg aD) (by intro _ _;rfl)) aD (aX _)) (aC (aQ (i:=1) nd (by rfl) (by exact Or.inr rfl) (bJ lC aD (dv 1 (pv 1))))) aV)
 refine aC ?_
 exact (aM (gK yO (by rfl) (by exact T.z_tuple) boot_tuple (ak (uJ [1] hc (aR (by rfl)) d7 (dZ (aR (by rfl))) (bI (dv 0 (pv 0))) (fun _ _ _ _=>bF) (fun _ _ _ _=>(bJ yW (dv 0 (pv 0)) (dv 1 (pv 1))))) au (aj (by rfl))) (by decide) (by decide) (aj (by rfl)) (ao (by rfl))))
theorem zJ (T:Txt K mg t):bQ P w K mg base CX0 12 t.f_l_is_row t.d_l_is_row ["_law_found", "_law_many"] (lift K jE):=by
 have nd:=qO.nd
 refine cX (k:=11) T.F_l_is_row qO fun cdv A outer s H E hr=>?_
 have hc:=hr.calm (by decide)
 refine aA ?_ ?_
 ·exact (cB (rP (iT (dW (aU xX (by rfl) (by exact T.z_isinstance) boot_isinstance (ak (dv 0 (pv 0)) (ak (dc (ju (v:=.ty "tuple") (by rfl) (by exact T.z_tuple) boot_tuple (by rfl)) (fun _ _=>by rw [Rep])) au (aj (by rfl))) (aj (by rfl))) (by decide) (by decide) (aj (by rfl)) (ao (by rfl))))) (rP (aY (o_ne (iI hr)) (aU lM (by rfl) (by exact T.z_len) PySem.boot_len (ak (dv 0 (pv 0)) au (aj (by rfl))) (by decide) (by decide) (aj (by rfl)) (ao (by rfl))) (dv 1 (pv 1)) (aX _)) (qd (iT (dW (aU (c_all hc) (by rfl) (by exact T.z_all) boot_all (ak (uJ [] hc (aR (by rfl)) d7 (dZ (aR (by rfl))) (bI (dv 0 (pv 0))) (fun _ _ _ _=>bF) (fun _ _ _ _=>(aG ((ok_l_whole T).mono (by decide)) hr (by rfl) (by exact T.mz) (by exact T.F_l_whole.kp) (by exact T.b_l_whole) (ak (dv 0 (pv 0)) au (aj (by rfl))) (by decide) (aj (by rfl)) (ao (by rfl))))) au (aj (by rfl))) (by decide) (by decide) (aj (by rfl)) (ao (by rfl)))))))).pt (aC (aM d_bl)) aV)
 refine aC ?_
 exact (aM (d_and (aU (c_any hc) (by rfl) (by exact T.z_any) boot_any (ak (uJ [] hc (aR (by rfl)) d7 (dZ (aR (by rfl))) (bI (dv 0 (pv 0))) (fun _ _ _ _=>bF) (fun _ _ _ _=>(vM (o_ne (iI hr)) (dv 0 (pv 0)) aD (aX _)))) au (aj (by rfl))) (by decide) (by decide) (aj (by rfl)) (ao (by rfl))) (d_one (vM (wj (iI hr)) (aG ((m9 T).mono (by decide)) hr (by rfl) (by exact T.cV) (by exact T.F_l_plain.kp) (by exact T.b_l_plain) (ak (dv 0 (pv 0)) au (aj (by rfl))) (by decide) (aj (by rfl)) (ao (by rfl))) (dv 0 (pv 0)) (aX _)))))
theorem ok_l_spot (T:Txt K mg t):bQ P w K mg base CX0 12 t.f_l_spot t.d_l_spot ["_law_rest_here", "_law_far"] (lift K lH):=by
 have nd:=yh.nd
 refine cX (k:=11) T.F_l_spot yh fun cdv A outer s H E hr=>?_
 have hc:=hr.calm (by decide)
 refine aA ?_ ?_
 ·exact (ds_lc [0,1] (i:=2) nd (by rfl) (by exact Or.inl rfl) hc (aR (by rfl)) d7 (dZ (aR (by rfl))) (cI (by rfl) (by exact T.z_range) (ak aD au (aj (by rfl))) (jl (by rfl))) (fun _ _ _ _=>bF) (fun _ _ _ _=>(aG ((zH T).mono (by decide)) hr (by rfl) (by exact T.gj) (by exact T.F_l_number.kp) (by exact T.b_l_number) (ak (dv 1 (pv 1)) (ak (dv 2 (pv 2)) au (aj (by rfl))) (aj (by rfl))) (by decide) (aj (by rfl)) (ao (by rfl)))))
 refine aA ?_ ?_
 ·exact (cB (aY (wj (iI hr)) (dv 2 (pv 2)) (lU (ak aD (ak aD (ak aD au (aj (by rfl))) (aj (by rfl))) (aj (by rfl)))) (aX _)) (aC (aQ (i:=2) nd (by rfl) (by exact Or.inl rfl) (lU (ak aD (ak aD (ak aD au (aj (by rfl))) (aj (by rfl))) (aj (by rfl)))))) aV)
 refine aC ?_
 exact (aM (aG ((m9 T).mono (by decide)) hr (by rfl) (by exact T.cV) (by exact T.F_l_plain.kp) (by exact T.b_l_plain) (ak (dv 2 (pv 2)) au (aj (by rfl))) (by decide) (aj (by rfl)) (ao (by rfl))))
theorem sO (T:Txt K mg t):bQ P w K mg base CX0 10 t.f_l_cross t.d_l_cross ["_law_one", "_law_other"] (lift K jy):=by
 have nd:=uw.nd
 refine cX (k:=9) T.F_l_cross uw fun cdv A outer s H E hr=>?_
 have hc:=hr.calm (by decide)
 refine aA ?_ ?_
 ·exact (aQ (i:=2) nd (by rfl) (by exact Or.inl rfl) (lR au))
 refine aA ?_ ?_
 ·exact (eH PassesOwn.never hc (cI (by rfl) (by exact T.z_range) (ak aD au (aj (by rfl))) (jl (by rfl))) (cQ (bU (i:=3) nd (by rfl) (by exact Or.inl rfl))) (aC (fU (lF (dv 2 (pv 2)) (ak (bJ lC (bJ dJ (bC (dv 0 (pv 0)) (bJ lC (dv 3 (pv 3)) aD) (by intro _ _;rfl)) (bC (dv 1 (pv 1)) (bJ lC (dv 3 (pv 3)) aD) (by intro _ _;rfl))) (bJ dJ (bC (dv 0 (pv 0)) (bJ lC (dv 3 (pv 3)) aD) (by intro _ _;rfl)) (bC (dv 1 (pv 1)) (bJ lC (dv 3 (pv 3)) aD) (by intro _ _;rfl)))) au (aj (by rfl))) (by rfl) (zA (by rfl)) (by rfl) (aj (by rfl)) (by rfl)))))
 refine aC ?_
 exact (aM (gK yO (by rfl) (by exact T.z_tuple) boot_tuple (ak (dv 2 (pv 2)) au (aj (by rfl))) (by decide) (by decide) (aj (by rfl)) (ao (by rfl))))
theorem uW (T:Txt K mg t):bQ P w K mg base CX0 10 t.f_l_dot t.d_l_dot ["_law_one", "_law_other"] (lift K jY):=by
 have nd:=z6.nd
 refine cX (k:=9) T.F_l_dot z6 fun cdv A outer s H E hr=>?_
 have hc:=hr.calm (by decide)
 refine aC ?_
 exact (aM (aU (c_sum hc) (by rfl) (by exact T.z_sum) boot_sum (ak (uJ [] hc (aR (by rfl)) own_T (pgo_2 hc (aR (by rfl))) (di_zip (by rfl) (by exact T.z_zip) (ak (dv 0 (pv 0)) (ak (dv 1 (pv 1)) au (aj (by rfl))) (aj (by rfl))) (aj (by rfl)) (ao (by rfl))) (fun _ _ _ _=>bF) (fun _ _ _ _=>(bJ dJ (dv 0 (pv 0)) (dv 1 (pv 1))))) au (aj (by rfl))) (by decide) (by decide) (aj (by rfl)) (ao (by rfl))))
theorem ok_l_led (T:Txt K mg t):bQ P w K mg base CX0 12 t.f_l_led t.d_l_led ["_law_by", "_law_spot_here"] (lift K u5):=by
 have nd:=sc_l_led.nd
 refine cX (k:=11) T.F_l_led sc_l_led fun cdv A outer s H E hr=>?_
 have hc:=hr.calm (by decide)
 refine aC ?_
 exact (aM (aG ((m9 T).mono (by decide)) hr (by rfl) (by exact T.cV) (by exact T.F_l_plain.kp) (by exact T.b_l_plain) (ak (uJ [0,1] hc (aR (by rfl)) d7 (dZ (aR (by rfl))) (cI (by rfl) (by exact T.z_range) (ak aD au (aj (by rfl))) (jl (by rfl))) (fun _ _ _ _=>bF) (fun _ _ _ _=>(aG ((uW T).mono (by decide)) hr (by rfl) (by exact T.jY) (by exact T.F_l_dot.kp) (by exact T.b_l_dot) (ak (d_sl2 (dv 1 (pv 1)) (g8 (bJ dJ aD (dv 0 (pv 0)))) (g8 (bJ cH (bJ dJ aD (dv 0 (pv 0))) aD))) (ak (dv 2 (pv 2)) au (aj (by rfl))) (aj (by rfl))) (by decide) (aj (by rfl)) (ao (by rfl))))) au (aj (by rfl))) (by decide) (aj (by rfl)) (ao (by rfl))))
theorem ok_l_kind (T:Txt K mg t):bQ P w K mg base CX0 10 t.f_l_kind t.d_l_kind ["_law_spots"] (lift K pB):=by
 have nd:=yD.nd
 refine cX (k:=9) T.F_l_kind yD fun cdv A outer s H E hr=>?_
 have hc:=hr.calm (by decide)
 refine aC ?_
 exact (aM d_str)
theorem ok_l_told (T:Txt K mg t):bQ P w K mg base CX0 18 t.f_l_told t.d_l_told ["_law_spots"] (lift K oW):=by
 have nd:=xQ.nd
 refine cX (k:=17) T.F_l_told xQ fun cdv A outer s H E hr=>?_
 have hc:=hr.calm (by decide)
 refine aA ?_ ?_
 ·exact (aQ (i:=1) nd (by rfl) (by exact Or.inl rfl) (gK c_list (by rfl) (by exact T.z_list) boot_list (ak (dv 0 (pv 0)) au (aj (by rfl))) (by decide) (by decide) (aj (by rfl)) (ao (by rfl))))
 refine aA ?_ ?_
 ·exact (aQ (i:=2) nd (by rfl) (by exact Or.inl rfl) (aG ((ok_form T).mono (by decide)) hr (by rfl) (by exact T.tV) (by exact T.F_form.kp) (by exact T.b_form) (ak (dv 1 (pv 1)) au (aj (by rfl))) (by decide) (aj (by rfl)) (ao (by rfl))))
 refine aA ?_ ?_
 ·exact (aQ (i:=3) nd (by rfl) (by exact Or.inr rfl) (aG ((sH T).mono (by decide)) hr (by rfl) (by exact T.eX) (by exact T.F_leading.kp) (by exact T.b_leading) (ak (dv 1 (pv 1)) au (aj (by rfl))) (by decide) (aj (by rfl)) (ao (by rfl))))
 refine aA ?_ ?_
 ·exact (cB (rP (aY (o_ne (iI hr)) (dv 1 (pv 1)) (dv 0 (pv 0)) (aX _)) (rP (iT (dW (aG ((zJ T).mono (by decide)) hr (by rfl) (by exact T.jE) (by exact T.F_l_is_row.kp) (by exact T.b_l_is_row) (ak (dv 3 (pv 3)) (ak aD au (aj (by rfl))) (aj (by rfl))) (by decide) (aj (by rfl)) (ao (by rfl))))) (qd (aY wN (aG ((ok_is_map T).mono (by decide)) hr (by rfl) (by exact T.lA) (by exact T.F_is_map.kp) (by exact T.b_is_map) (ak (dv 3 (pv 3)) au (aj (by rfl))) (by decide) (aj (by rfl)) (ao (by rfl))) d_bl (aX _))))).pt (aC (aM rH)) aV)
 refine aA ?_ ?_
 ·exact (cB (rP (iT (dW (aU xX (by rfl) (by exact T.z_isinstance) boot_isinstance (ak (dv 2 (pv 2)) (ak (dc (ju (v:=.ty "tuple") (by rfl) (by exact T.z_tuple) boot_tuple (by rfl)) (fun _ _=>by rw [Rep])) au (aj (by rfl))) (aj (by rfl))) (by decide) (by decide) (aj (by rfl)) (ao (by rfl))))) (rP (aY (o_ne (iI hr)) (aU lM (by rfl) (by exact T.z_len) PySem.boot_len (ak (dv 2 (pv 2)) au (aj (by rfl))) (by decide) (by decide) (aj (by rfl)) (ao (by rfl))) aD (aX _)) (qd (aY (o_ne (iI hr)) (bC (dv 2 (pv 2)) aD (by intro _ _;rfl)) (aG ((ok_l_kind T).mono (by decide)) hr (by rfl) (by exact T.pB) (by exact T.F_l_kind.kp) (by exact T.b_l_kind) (ak (dv 0 (pv 0)) au (aj (by rfl))) (by decide) (aj (by rfl)) (ao (by rfl))) (aX _))))).pt (aC (aM rH)) aV)
 refine aA ?_ ?_
 ·exact (cB (rP (iT (dW (aU xX (by rfl) (by exact T.z_isinstance) boot_isinstance (ak (bC (dv 2 (pv 2)) aD (by intro _ _;rfl)) (ak (dc (ju (v:=.ty "list") (by rfl) (by exact T.z_list) boot_list (by rfl)) (fun _ _=>by rw [Rep])) au (aj (by rfl))) (aj (by rfl))) (by decide) (by decide) (aj (by rfl)) (ao (by rfl))))) (qd (aY (o_ne (iI hr)) (bC (dv 2 (pv 2)) aD (by intro _ _;rfl)) (uJ [3] hc (aR (by rfl)) d7 (dZ (aR (by rfl))) (bI (dv 0 (pv 0))) (fun _ _ _ _=>bF) (fun _ _ _ _=>(aG ((ok_l_led T).mono (by decide)) hr (by rfl) (by exact T.u5) (by exact T.F_l_led.kp) (by exact T.b_l_led) (ak (dv 1 (pv 1)) (ak (dv 0 (pv 0)) au (aj (by rfl))) (aj (by rfl))) (by decide) (aj (by rfl)) (ao (by rfl))))) (aX _)))).pt (aC (aM rH)) aV)
 refine aA ?_ ?_
 ·exact (aQ (i:=4) nd (by rfl) (by exact Or.inl rfl) (gK c_list (by rfl) (by exact T.z_list) boot_list (ak (bC (dv 2 (pv 2)) aD (by intro _ _;rfl)) au (aj (by rfl))) (by decide) (by decide) (aj (by rfl)) (ao (by rfl))))
 refine aA ?_ ?_
 ·exact (fU (d_clear (bC (dv 2 (pv 2)) aD (by intro _ _;rfl))))
 refine aA ?_ ?_
 ·exact (cB (aY (o_ne2 (iI hr)) (aG ((ok_form T).mono (by decide)) hr (by rfl) (by exact T.tV) (by exact T.F_form.kp) (by exact T.b_form) (ak (dv 1 (pv 1)) au (aj (by rfl))) (by decide) (aj (by rfl)) (ao (by rfl))) (iY (ak (bC (dv 2 (pv 2)) aD (by intro _ _;rfl)) (ak (dv 4 (pv 4)) au (aj (by rfl))) (aj (by rfl)))) (aX _)) (aC (aM rH)) aV)
 refine aC ?_
 exact (aM (dv 4 (pv 4)))
theorem ok_law (T:Txt K mg t):bQ P w K mg base CX0 19 t.f_law t.d_law ["_law_script"] (lift K m_law):=by
 have nd:=sc_law.nd
 refine cX (k:=18) T.F_law sc_law fun cdv A outer s H E hr=>?_
 have hc:=hr.calm (by decide)
 refine aA ?_ ?_
 ·exact (aQ (i:=1) nd (by rfl) (by exact Or.inr rfl) (aG ((yd T).mono (by decide)) hr (by rfl) (by exact T.mH) (by exact T.F_l_rest.kp) (by exact T.b_l_rest) (ak (dv 0 (pv 0)) (ak aD au (aj (by rfl))) (aj (by rfl))) (by decide) (aj (by rfl)) (ao (by rfl))))
 refine aA ?_ ?_
 ·exact (aQ (i:=2) nd (by rfl) (by exact Or.inr rfl) (lR au))
 refine aA ?_ ?_
 ·exact (eH PassesOwn.never hc (cI (by rfl) (by exact T.z_range) (ak (bJ cH aD (aG ((cY T).mono (by decide)) hr (by rfl) (by exact T.cg) (by exact T.F_l_digit.kp) (by exact T.b_l_digit) (ak (dv 1 (pv 1)) (ak aD au (aj (by rfl))) (aj (by rfl))) (by decide) (aj (by rfl)) (ao (by rfl)))) au (aj (by rfl))) (jl (by rfl))) (cQ (bU (i:=3) nd (by rfl) (by exact Or.inl rfl))) (aA (aQ (i:=4) nd (by rfl) (by exact Or.inl rfl) (aG ((ok_l_spot T).mono (by decide)) hr (by rfl) (by exact T.lH) (by exact T.F_l_spot.kp) (by exact T.b_l_spot) (ak (dv 1 (pv 1)) (ak (bJ o_pow aD aD) au (aj (by rfl))) (aj (by rfl))) (by decide) (aj (by rfl)) (ao (by rfl))))
  (aC (cB (aY (o_ninD (iI hr)) (dv 4 (pv 4)) (dv 2 (pv 2)) (by with_unfolding_all rfl)) (aC (fU (lF (dv 2 (pv 2)) (ak (dv 4 (pv 4)) au (aj (by rfl))) (by rfl) (zA (by rfl)) (by rfl) (aj (by rfl)) (by rfl)))) aV))))
 refine aA ?_ ?_
 ·first
  | (with_reducible exact (cB (yJ (aY (wj (by with_unfolding_all exact iI hr)) (aU lM (by with_unfolding_all rfl) (by with_unfolding_all exact T.z_len) PySem.boot_len (ak (dv 2 (by with_unfolding_all exact pv 2)) au (aj (by with_unfolding_all rfl))) (by decide) (by decide) (aj (by with_unfolding_all rfl)) (ao (by with_unfolding_all rfl))) aD (by with_unfolding_all exact aX _)) (qQ (aY (wj (by with_unfolding_all exact iI hr)) (aG (k:=18) (by with_unfolding_all exact (uW T).mono (by decide)) (by with_unfolding_all exact hr) (by with_unfolding_all rfl) (by with_unfolding_all exact T.jY) (by with_unfolding_all exact T.F_l_dot.kp) (by with_unfolding_all exact T.b_l_dot) (ak (aG (k:=18) (by with_unfolding_all exact (sO T).mono (by decide)) (by with_unfolding_all exact hr) (by with_unfolding_all rfl) (by with_unfolding_all exact T.jy) (by with_unfolding_all exact T.F_l_cross.kp) (by with_unfolding_all exact T.b_l_cross) (ak (bC (dv 2 (by with_unfolding_all exact pv 2)) aD (by with_unfolding_all (intro _ _;rfl))) (ak (bC (dv 2 (by with_unfolding_all exact pv 2)) aD (by with_unfolding_all (intro _ _;rfl))) au (aj (by with_unfolding_all rfl))) (aj (by with_unfolding_all rfl))) (by decide) (aj (by with_unfolding_all rfl)) (ao (by with_unfolding_all rfl))) (ak (bC (dv 2 (by with_unfolding_all exact pv 2)) aD (by with_unfolding_all (intro _ _;rfl))) au (aj (by with_unfolding_all rfl))) (aj (by with_unfolding_all rfl))) (by decide) (aj (by with_unfolding_all rfl)) (ao (by with_unfolding_all rfl))) aD (by with_unfolding_all exact aX _)))).pt (aC (aQ (hs:=by with_unfolding_all rfl) (hf:=by with_unfolding_all first | exact .inl rfl | exact .inr rfl) (i:=2) (by with_unfolding_all exact nd) (by with_unfolding_all rfl) (by with_unfolding_all exact Or.inr rfl) (lR (ak (iY (ak aD (ak aD (ak aD au (aj (by with_unfolding_all rfl))) (aj (by with_unfolding_all rfl))) (aj (by with_unfolding_all rfl)))) (ak (iY (ak aD (ak aD (ak aD au (aj (by with_unfolding_all rfl))) (aj (by with_unfolding_all rfl))) (aj (by with_unfolding_all rfl)))) (ak (iY (ak aD (ak aD (ak aD au (aj (by with_unfolding_all rfl))) (aj (by with_unfolding_all rfl))) (aj (by with_unfolding_all rfl)))) au (aj (by with_unfolding_all rfl))) (aj (by with_unfolding_all rfl))) (aj (by with_unfolding_all rfl)))))) aV))
  | (exact (cB (yJ (aY (wj (iI hr)) (aU lM (by rfl) (by exact T.z_len) PySem.boot_len (ak (dv 2 (pv 2)) au (aj (by rfl))) (by decide) (by decide) (aj (by rfl)) (ao (by rfl))) aD (aX _)) (qQ (aY (wj (iI hr)) (aG ((uW T).mono (by decide)) hr (by rfl) (by exact T.jY) (by exact T.F_l_dot.kp) (by exact T.b_l_dot) (ak (aG ((sO T).mono (by decide)) hr (by rfl) (by exact T.jy) (by exact T.F_l_cross.kp) (by exact T.b_l_cross) (ak (bC (dv 2 (pv 2)) aD (by intro _ _;rfl)) (ak (bC (dv 2 (pv 2)) aD (by intro _ _;rfl)) au (aj (by rfl))) (aj (by rfl))) (by decide) (aj (by rfl)) (ao (by rfl))) (ak (bC (dv 2 (pv 2)) aD (by intro _ _;rfl)) au (aj (by rfl))) (aj (by rfl))) (by decide) (aj (by rfl)) (ao (by rfl))) aD (aX _)))).pt (aC (aQ (i:=2) nd (by rfl) (by exact Or.inr rfl) (lR (ak (iY (ak aD (ak aD (ak aD au (aj (by rfl))) (aj (by rfl))) (aj (by rfl)))) (ak (iY (ak aD (ak aD (ak aD au (aj (by rfl))) (aj (by rfl))) (aj (by rfl)))) (ak (iY (ak aD (ak aD (ak aD au (aj (by rfl))) (aj (by rfl))) (aj (by rfl)))) au (aj (by rfl))) (aj (by rfl))) (aj (by rfl)))))) aV))
 refine aA ?_ ?_
 ·exact (aQ (i:=1) nd (by rfl) (by exact Or.inr rfl) (aG ((yd T).mono (by decide)) hr (by rfl) (by exact T.mH) (by exact T.F_l_rest.kp) (by exact T.b_l_rest) (ak (dv 0 (pv 0)) (ak aD au (aj (by rfl))) (aj (by rfl))) (by decide) (aj (by rfl)) (ao (by rfl))))
 refine aA ?_ ?_
 ·exact (ds_lc [1,2] (i:=5) nd (by rfl) (by exact Or.inl rfl) hc (aR (by rfl)) d7 (dZ (aR (by rfl))) (cI (by rfl) (by exact T.z_range) (ak (bJ cH aD (aG ((cY T).mono (by decide)) hr (by rfl) (by exact T.cg) (by exact T.F_l_digit.kp) (by exact T.b_l_digit) (ak (dv 1 (pv 1)) (ak aD au (aj (by rfl))) (aj (by rfl))) (by decide) (aj (by rfl)) (ao (by rfl)))) au (aj (by rfl))) (jl (by rfl))) (fun _ _ _ _=>bF) (fun _ _ _ _=>(bC (dv 2 (pv 2)) (aG ((cY T).mono (by decide)) hr (by rfl) (by exact T.cg) (by exact T.F_l_digit.kp) (by exact T.b_l_digit) (ak (dv 1 (pv 1)) (ak (aU lM (by rfl) (by exact T.z_len) PySem.boot_len (ak (dv 2 (pv 2)) au (aj (by rfl))) (by decide) (by decide) (aj (by rfl)) (ao (by rfl))) au (aj (by rfl))) (aj (by rfl))) (by decide) (aj (by rfl)) (ao (by rfl))) (by intro _ _;rfl))))
 refine aA ?_ ?_
 ·exact (aQ (i:=6) nd (by rfl) (by exact Or.inl rfl) (aG ((ok_l_told T).mono (by decide)) hr (by rfl) (by exact T.oW) (by exact T.F_l_told.kp) (by exact T.b_l_told) (ak (dv 5 (pv 5)) au (aj (by rfl))) (by decide) (aj (by rfl)) (ao (by rfl))))
 refine aA ?_ ?_
 ·first
  | (with_reducible exact (aQ (hs:=by with_unfolding_all rfl) (hf:=by with_unfolding_all first | exact .inl rfl | exact .inr rfl) (i:=7) (by with_unfolding_all exact nd) (by with_unfolding_all rfl) (by with_unfolding_all exact Or.inr rfl) d_newT))
  | (exact (aQ (i:=7) nd (by rfl) (by exact Or.inr rfl) d_newT))
 refine aA ?_ ?_
 ·first
  | (with_reducible exact (eH (hs:=by with_unfolding_all (intro _;rfl)) (by with_unfolding_all exact PassesOwn.never) (by with_unfolding_all exact hc) (bI (dv 5 (by with_unfolding_all exact pv 5))) (cQ (bU (i:=4) (by with_unfolding_all exact nd) (by with_unfolding_all rfl) (by with_unfolding_all exact Or.inl rfl))) (aC (cB (aY (o_ninT (by with_unfolding_all exact iI hr)) (dv 4 (by with_unfolding_all exact pv 4)) (dv 7 (by with_unfolding_all exact pv 7)) (by with_unfolding_all rfl)) (aC (ds_asg (hs:=by with_unfolding_all rfl) (hw:=by with_unfolding_all rfl) (h1:=by with_unfolding_all rfl) (bC (lU (ak (iY (ak aD (ak aD (ak aD au (aj (by with_unfolding_all rfl))) (aj (by with_unfolding_all rfl))) (aj (by with_unfolding_all rfl)))) (ak (iY (ak aD (ak aD (ak aD au (aj (by with_unfolding_all rfl))) (aj (by with_unfolding_all rfl))) (aj (by with_unfolding_all rfl)))) (ak (iY (ak aD (ak aD (ak aD au (aj (by with_unfolding_all rfl))) (aj (by with_unfolding_all rfl))) (aj (by with_unfolding_all rfl)))) au (aj (by with_unfolding_all rfl))) (aj (by with_unfolding_all rfl))) (aj (by with_unfolding_all rfl)))) (aU c_lenT (by with_unfolding_all rfl) (by with_unfolding_all exact T.z_len) PySem.boot_len (ak (dv 7 (by with_unfolding_all exact pv 7)) au (aj (by with_unfolding_all rfl))) (by decide) (by decide) (aj (by with_unfolding_all rfl)) (ao (by with_unfolding_all rfl))) (by with_unfolding_all (intro _ _;rfl))) (dg_sub (ha:=by with_unfolding_all (intro _;rfl)) (dv 7 (by with_unfolding_all exact pv 7)) (dv 4 (by with_unfolding_all exact pv 4)) (v7 (by with_unfolding_all exact iI hr)) sim_setT))) aV))))
  | (exact (eH PassesOwn.never hc (bI (dv 5 (pv 5))) (cQ (bU (i:=4) nd (by rfl) (by exact Or.inl rfl))) (aC (cB (aY (o_ninT (iI hr)) (dv 4 (pv 4)) (dv 7 (pv 7)) (by with_unfolding_all rfl)) (aC (ds_asg (bC (lU (ak (iY (ak aD (ak aD (ak aD au (aj (by rfl))) (aj (by rfl))) (aj (by rfl)))) (ak (iY (ak aD (ak aD (ak aD au (aj (by rfl))) (aj (by rfl))) (aj (by rfl)))) (ak (iY (ak aD (ak aD (ak aD au (aj (by rfl))) (aj (by rfl))) (aj (by rfl)))) au (aj (by rfl))) (aj (by rfl))) (aj (by rfl)))) (aU c_lenT (by rfl) (by exact T.z_len) PySem.boot_len (ak (dv 7 (pv 7)) au (aj (by rfl))) (by decide) (by decide) (aj (by rfl)) (ao (by rfl))) (by intro _ _;rfl)) (dg_sub (dv 7 (pv 7)) (dv 4 (pv 4)) (v7 (iI hr)) sim_setT))) aV))))
 refine aC ?_
 exact (aM (vM (wj (iI hr)) (dv 6 (pv 6)) (uJ [7] hc (aR (by rfl)) d7 (dZ (aR (by rfl))) (bI (dv 5 (pv 5))) (fun _ _ _ _=>bF) (fun _ _ _ _=>(d_tix (iI hr) (dv 1 (pv 1)) (dv 0 (pv 0)) (by intro _ _;rfl)))) (aX _)))
end
def fO (x:Str)(s:Stmt)(oc:Value)(od:Option Addr)(kV dc pm:Value)(an:Option Addr)(cd ct:Value)(sl:Array (Option Value)):Option Obj:=some ⟨oc,od,.func (PySem.W.fnOf x x (qJ s) (j8 s) (aF s) .none kV dc pm an cd ct),sl⟩
def sR (f:Addr):Option (Option Value):=some (some (.ref f))
open PySem.W (nsIn codeIn keepIn) in
theorem all_mk {l:PySem.W.OpenLaw}{w:World}{K:PySem.W.Frag}{h:Heap}{mg:Str→Option Value}{fa:Addr}(hlaw:∀ ns:List Int,ns.length≤63→m_law [.kls (ns.map W.int)] g0 (fun w _=>w=.bl true) EF)(X:K.In h)(G:h.Ns mainGlobals mg)(hfa:mg "law" = some (.ref fa))
  {f0 f1 f2 f3 f4 f5 f6 f7 f8 f9 f10 f11 f12 f13 f14 f15 f16 f17 f18 f19 f20 f21 f22 f23 f24 f25 f26 f27 f28 f29 f30 f31 f32 f33 f34 f35 f36 f37 f38 f39 f40 f41 f42 f43 f44 f45 f46 f47 f48 f49 f50 f51 f52 f53 f54 f55 f56 f57:Addr} {od0 an0 od1 an1 od2 an2 od3 an3 od4 an4 od5 an5 od6 an6 od7 an7 od8 an8 od9 an9 od10 an10 od11 an11 od12 an12 od13 an13 od14 an14 od15 an15 od16 an16 od17 an17 od18 an18 od19 an19 od20 an20 od21 an21 od22 an22 od23 an23 od24 an24 od25 an25 od26 an26 od27 an27 od28 an28 od29 an29 od30 an30 od31 an31 od32 an32 od33 an33 od34 an34 od35 an35 od36 an36 od37 an37 od38 an38 od39 an39 od40 an40 od41 an41 od42 an42 od43 an43 od44 an44 od45 an45 od46 an46 od47 an47 od48 an48 od49 an49 od50 an50 od51 an51 od52 an52 od53 an53 od54 an54 od55 an55 od56 an56 od57 an57:Option Addr} {sl0 sl1 sl2 sl3 sl4 sl5 sl6 sl7 sl8 sl9 sl10 sl11 sl12 sl13 sl14 sl15 sl16 sl17 sl18 sl19 sl20 sl21 sl22 sl23 sl24 sl25 sl26 sl27 sl28 sl29 sl30 sl31 sl32 sl33 sl34 sl35 sl36 sl37 sl38 sl39 sl40 sl41 sl42 sl43 sl44 sl45 sl46 sl47 sl48 sl49 sl50 sl51 sl52 sl53 sl54 sl55 sl56 sl57:Array (Option Value)} {oc0 kV0 dc0 pm0 cd0 ct0 oc1 kV1 dc1 pm1 cd1 ct1 oc2 kV2 dc2 pm2 cd2 ct2 oc3 kV3 dc3 pm3 cd3 ct3 oc4 kV4 dc4 pm4 cd4 ct4 oc5 kV5 dc5 pm5 cd5 ct5 oc6 kV6 dc6 pm6 cd6 ct6 oc7 kV7 dc7 pm7 cd7 ct7 oc8 kV8 dc8 pm8 cd8 ct8 oc9 kV9 dc9 pm9 cd9 ct9 oc10 kV10 dc10 pm10 cd10 ct10 oc11 kV11 dc11 pm11 cd11 ct11 oc12 kV12 dc12 pm12 cd12 ct12 oc13 kV13 dc13 pm13 cd13 ct13 oc14 kV14 dc14 pm14 cd14 ct14 oc15 kV15 dc15 pm15 cd15 ct15 oc16 kV16 dc16 pm16 cd16 ct16 oc17 kV17 dc17 pm17 cd17 ct17 oc18 kV18 dc18 pm18 cd18 ct18 oc19 kV19 dc19 pm19 cd19 ct19 oc20 kV20 dc20 pm20 cd20 ct20 oc21 kV21 dc21 pm21 cd21 ct21 oc22 kV22 dc22 pm22 cd22 ct22 oc23 kV23 dc23 pm23 cd23 ct23 oc24 kV24 dc24 pm24 cd24 ct24 oc25 kV25 dc25 pm25 cd25 ct25 oc26 kV26 dc26 pm26 cd26 ct26 oc27 kV27 dc27 pm27 cd27 ct27 oc28 kV28 dc28 pm28 cd28 ct28 oc29 kV29 dc29 pm29 cd29 ct29 oc30 kV30 dc30 pm30 cd30 ct30 oc31 kV31 dc31 pm31 cd31 ct31 oc32 kV32 dc32 pm32 cd32 ct32 oc33 kV33 dc33 pm33 cd33 ct33 oc34 kV34 dc34 pm34 cd34 ct34 oc35 kV35 dc35 pm35 cd35 ct35 oc36 kV36 dc36 pm36 cd36 ct36 oc37 kV37 dc37 pm37 cd37 ct37 oc38 kV38 dc38 pm38 cd38 ct38 oc39 kV39 dc39 pm39 cd39 ct39 oc40 kV40 dc40 pm40 cd40 ct40 oc41 kV41 dc41 pm41 cd41 ct41 oc42 kV42 dc42 pm42 cd42 ct42 oc43 kV43 dc43 pm43 cd43 ct43 oc44 kV44 dc44 pm44 cd44 ct44 oc45 kV45 dc45 pm45 cd45 ct45 oc46 kV46 dc46 pm46 cd46 ct46 oc47 kV47 dc47 pm47 cd47 ct47 oc48 kV48 dc48 pm48 cd48 ct48 oc49 kV49 dc49 pm49 cd49 ct49 oc50 kV50 dc50 pm50 cd50 ct50 oc51 kV51 dc51 pm51 cd51 ct51 oc52 kV52 dc52 pm52 cd52 ct52 oc53 kV53 dc53 pm53 cd53 ct53 oc54 kV54 dc54 pm54 cd54 ct54 oc55 kV55 dc55 pm55 cd55 ct55 oc56 kV56 dc56 pm56 cd56 ct56 oc57 kV57 dc57 pm57 cd57 ct57:Value}
  {m6:Addr} {odk_TILES:Option Addr} {slk_TILES:Array (Option Value)} {nk_TILES:Nat} {k_TILES_0:Addr} {odk_TILES_0:Option Addr} {slk_TILES_0:Array (Option Value)} {nk_TILES_0:Nat} {t_TILES_0_0:_} {t_TILES_0_1:_} {t_TILES_0_2:_} {k_TILES_1:Addr} {odk_TILES_1:Option Addr} {slk_TILES_1:Array (Option Value)} {nk_TILES_1:Nat} {t_TILES_1_0:_} {t_TILES_1_1:_} {t_TILES_1_2:_} {k_TILES_2:Addr} {odk_TILES_2:Option Addr} {slk_TILES_2:Array (Option Value)} {nk_TILES_2:Nat} {t_TILES_2_0:_} {t_TILES_2_1:_} {t_TILES_2_2:_} {k_TILES_3:Addr} {odk_TILES_3:Option Addr} {slk_TILES_3:Array (Option Value)} {nk_TILES_3:Nat} {t_TILES_3_0:_} {t_TILES_3_1:_} {t_TILES_3_2:_}
  (a0:nsIn K mainGlobals "is_whole" = sR f0) (l0:K.lookup f0=fO "is_whole" jK oc0 od0 kV0 dc0 pm0 an0 cd0 ct0 sl0) (c0:codeIn K cd0 "is_whole" = true) (k0:keepIn K (.ref f0)=true)
  (a1:nsIn K mainGlobals "divisor_of_two" = sR f1) (l1:K.lookup f1=fO "divisor_of_two" cL oc1 od1 kV1 dc1 pm1 an1 cd1 ct1 sl1) (c1:codeIn K cd1 "divisor_of_two" = true) (k1:keepIn K (.ref f1)=true)
  (a2:nsIn K mainGlobals "divisor" = sR f2) (l2:K.lookup f2=fO "divisor" lq oc2 od2 kV2 dc2 pm2 an2 cd2 ct2 sl2) (c2:codeIn K cd2 "divisor" = true) (k2:keepIn K (.ref f2)=true)
  (a3:nsIn K mainGlobals "ends_below" = sR f3) (l3:K.lookup f3=fO "ends_below" fL oc3 od3 kV3 dc3 pm3 an3 cd3 ct3 sl3) (c3:codeIn K cd3 "ends_below" = true) (k3:keepIn K (.ref f3)=true)
  (a4:nsIn K mainGlobals "plain" = sR f4) (l4:K.lookup f4=fO "plain" vo oc4 od4 kV4 dc4 pm4 an4 cd4 ct4 sl4) (c4:codeIn K cd4 "plain" = true) (k4:keepIn K (.ref f4)=true)
  (a5:nsIn K mainGlobals "is_plain" = sR f5) (l5:K.lookup f5=fO "is_plain" jJ oc5 od5 kV5 dc5 pm5 an5 cd5 ct5 sl5) (c5:codeIn K cd5 "is_plain" = true) (k5:keepIn K (.ref f5)=true)
  (a6:nsIn K mainGlobals "dot" = sR f6) (l6:K.lookup f6=fO "dot" s_dot oc6 od6 kV6 dc6 pm6 an6 cd6 ct6 sl6) (c6:codeIn K cd6 "dot" = true) (k6:keepIn K (.ref f6)=true)
  (a7:nsIn K mainGlobals "cross" = sR f7) (l7:K.lookup f7=fO "cross" vP oc7 od7 kV7 dc7 pm7 an7 cd7 ct7 sl7) (c7:codeIn K cd7 "cross" = true) (k7:keepIn K (.ref f7)=true)
  (a8:nsIn K mainGlobals "turn" = sR f8) (l8:K.lookup f8=fO "turn" s_turn oc8 od8 kV8 dc8 pm8 an8 cd8 ct8 sl8) (c8:codeIn K cd8 "turn" = true) (k8:keepIn K (.ref f8)=true)
  (a9:nsIn K mainGlobals "lies_on" = sR f9) (l9:K.lookup f9=fO "lies_on" mQ oc9 od9 kV9 dc9 pm9 an9 cd9 ct9 sl9) (c9:codeIn K cd9 "lies_on" = true) (k9:keepIn K (.ref f9)=true)
  (a10:nsIn K mainGlobals "share_one" = sR f10) (l10:K.lookup f10=fO "share_one" gY oc10 od10 kV10 dc10 pm10 an10 cd10 ct10 sl10) (c10:codeIn K cd10 "share_one" = true) (k10:keepIn K (.ref f10)=true)
  (a11:nsIn K mainGlobals "on_line" = sR f11) (l11:K.lookup f11=fO "on_line" lN oc11 od11 kV11 dc11 pm11 an11 cd11 ct11 sl11) (c11:codeIn K cd11 "on_line" = true) (k11:keepIn K (.ref f11)=true)
  (a12:nsIn K mainGlobals "plain_cross" = sR f12) (l12:K.lookup f12=fO "plain_cross" d8 oc12 od12 kV12 dc12 pm12 an12 cd12 ct12 sl12) (c12:codeIn K cd12 "plain_cross" = true) (k12:keepIn K (.ref f12)=true)
  (a13:nsIn K mainGlobals "join" = sR f13) (l13:K.lookup f13=fO "join" z8 oc13 od13 kV13 dc13 pm13 an13 cd13 ct13 sl13) (c13:codeIn K cd13 "join" = true) (k13:keepIn K (.ref f13)=true)
  (a14:nsIn K mainGlobals "rising" = sR f14) (l14:K.lookup f14=fO "rising" oX oc14 od14 kV14 dc14 pm14 an14 cd14 ct14 sl14) (c14:codeIn K cd14 "rising" = true) (k14:keepIn K (.ref f14)=true)
  (a15:nsIn K mainGlobals "picked" = sR f15) (l15:K.lookup f15=fO "picked" oZ oc15 od15 kV15 dc15 pm15 an15 cd15 ct15 sl15) (c15:codeIn K cd15 "picked" = true) (k15:keepIn K (.ref f15)=true)
  (a16:nsIn K mainGlobals "rows_of" = sR f16) (l16:K.lookup f16=fO "rows_of" lG oc16 od16 kV16 dc16 pm16 an16 cd16 ct16 sl16) (c16:codeIn K cd16 "rows_of" = true) (k16:keepIn K (.ref f16)=true)
  (a17:nsIn K mainGlobals "size_of" = sR f17) (l17:K.lookup f17=fO "size_of" lE oc17 od17 kV17 dc17 pm17 an17 cd17 ct17 sl17) (c17:codeIn K cd17 "size_of" = true) (k17:keepIn K (.ref f17)=true)
  (a18:nsIn K mainGlobals "is_map" = sR f18) (l18:K.lookup f18=fO "is_map" pI oc18 od18 kV18 dc18 pm18 an18 cd18 ct18 sl18) (c18:codeIn K cd18 "is_map" = true) (k18:keepIn K (.ref f18)=true)
  (a19:nsIn K mainGlobals "table_times_row" = sR f19) (l19:K.lookup f19=fO "table_times_row" cD oc19 od19 kV19 dc19 pm19 an19 cd19 ct19 sl19) (c19:codeIn K cd19 "table_times_row" = true) (k19:keepIn K (.ref f19)=true)
  (a20:nsIn K mainGlobals "flipped" = sR f20) (l20:K.lookup f20=fO "flipped" lD oc20 od20 kV20 dc20 pm20 an20 cd20 ct20 sl20) (c20:codeIn K cd20 "flipped" = true) (k20:keepIn K (.ref f20)=true)
  (a21:nsIn K mainGlobals "table_times_table" = sR f21) (l21:K.lookup f21=fO "table_times_table" bM oc21 od21 kV21 dc21 pm21 an21 cd21 ct21 sl21) (c21:codeIn K cd21 "table_times_table" = true) (k21:keepIn K (.ref f21)=true)
  (a22:nsIn K mainGlobals "turned" = sR f22) (l22:K.lookup f22=fO "turned" pH oc22 od22 kV22 dc22 pm22 an22 cd22 ct22 sl22) (c22:codeIn K cd22 "turned" = true) (k22:keepIn K (.ref f22)=true)
  (a23:nsIn K mainGlobals "led" = sR f23) (l23:K.lookup f23=fO "led" s_led oc23 od23 kV23 dc23 pm23 an23 cd23 ct23 sl23) (c23:codeIn K cd23 "led" = true) (k23:keepIn K (.ref f23)=true)
  (a24:nsIn K mainGlobals "then" = sR f24) (l24:K.lookup f24=fO "then" s_then oc24 od24 kV24 dc24 pm24 an24 cd24 ct24 sl24) (c24:codeIn K cd24 "then" = true) (k24:keepIn K (.ref f24)=true)
  (a25:nsIn K mainGlobals "back" = sR f25) (l25:K.lookup f25=fO "back" z9 oc25 od25 kV25 dc25 pm25 an25 cd25 ct25 sl25) (c25:codeIn K cd25 "back" = true) (k25:keepIn K (.ref f25)=true)
  (a26:nsIn K mainGlobals "tiles" = sR f26) (l26:K.lookup f26=fO "tiles" vI oc26 od26 kV26 dc26 pm26 an26 cd26 ct26 sl26) (c26:codeIn K cd26 "tiles" = true) (k26:keepIn K (.ref f26)=true)
  (a27:nsIn K mainGlobals "are_free" = sR f27) (l27:K.lookup f27=fO "are_free" jM oc27 od27 kV27 dc27 pm27 an27 cd27 ct27 sl27) (c27:codeIn K cd27 "are_free" = true) (k27:keepIn K (.ref f27)=true)
  (a28:nsIn K mainGlobals "from_tiles" = sR f28) (l28:K.lookup f28=fO "from_tiles" fD oc28 od28 kV28 dc28 pm28 an28 cd28 ct28 sl28) (c28:codeIn K cd28 "from_tiles" = true) (k28:keepIn K (.ref f28)=true)
  (a29:nsIn K mainGlobals "map_between" = sR f29) (l29:K.lookup f29=fO "map_between" d9 oc29 od29 kV29 dc29 pm29 an29 cd29 ct29 sl29) (c29:codeIn K cd29 "map_between" = true) (k29:keepIn K (.ref f29)=true)
  (a30:nsIn K mainGlobals "check_picture" = sR f30) (l30:K.lookup f30=fO "check_picture" cW oc30 od30 kV30 dc30 pm30 an30 cd30 ct30 sl30) (c30:codeIn K cd30 "check_picture" = true) (k30:keepIn K (.ref f30)=true)
  (a31:nsIn K mainGlobals "first_free" = sR f31) (l31:K.lookup f31=fO "first_free" fK oc31 od31 kV31 dc31 pm31 an31 cd31 ct31 sl31) (c31:codeIn K cd31 "first_free" = true) (k31:keepIn K (.ref f31)=true)
  (a32:nsIn K mainGlobals "unlike_spots" = sR f32) (l32:K.lookup f32=fO "unlike_spots" dj oc32 od32 kV32 dc32 pm32 an32 cd32 ct32 sl32) (c32:codeIn K cd32 "unlike_spots" = true) (k32:keepIn K (.ref f32)=true)
  (a33:nsIn K mainGlobals "line_of_three" = sR f33) (l33:K.lookup f33=fO "line_of_three" cU oc33 od33 kV33 dc33 pm33 an33 cd33 ct33 sl33) (c33:codeIn K cd33 "line_of_three" = true) (k33:keepIn K (.ref f33)=true)
  (a34:nsIn K mainGlobals "kind_of" = sR f34) (l34:K.lookup f34=fO "kind_of" kW oc34 od34 kV34 dc34 pm34 an34 cd34 ct34 sl34) (c34:codeIn K cd34 "kind_of" = true) (k34:keepIn K (.ref f34)=true)
  (a35:nsIn K mainGlobals "units" = sR f35) (l35:K.lookup f35=fO "units" vB oc35 od35 kV35 dc35 pm35 an35 cd35 ct35 sl35) (c35:codeIn K cd35 "units" = true) (k35:keepIn K (.ref f35)=true)
  (a36:nsIn K mainGlobals "spot_between" = sR f36) (l36:K.lookup f36=fO "spot_between" cZ oc36 od36 kV36 dc36 pm36 an36 cd36 ct36 sl36) (c36:codeIn K cd36 "spot_between" = true) (k36:keepIn K (.ref f36)=true)
  (a37:nsIn K mainGlobals "leading_of_line" = sR f37) (l37:K.lookup f37=fO "leading_of_line" cG oc37 od37 kV37 dc37 pm37 an37 cd37 ct37 sl37) (c37:codeIn K cd37 "leading_of_line" = true) (k37:keepIn K (.ref f37)=true)
  (a38:nsIn K mainGlobals "filled_up" = sR f38) (l38:K.lookup f38=fO "filled_up" gJ oc38 od38 kV38 dc38 pm38 an38 cd38 ct38 sl38) (c38:codeIn K cd38 "filled_up" = true) (k38:keepIn K (.ref f38)=true)
  (a39:nsIn K mainGlobals "leading_of_few" = sR f39) (l39:K.lookup f39=fO "leading_of_few" cN oc39 od39 kV39 dc39 pm39 an39 cd39 ct39 sl39) (c39:codeIn K cd39 "leading_of_few" = true) (k39:keepIn K (.ref f39)=true)
  (a40:nsIn K mainGlobals "leading" = sR f40) (l40:K.lookup f40=fO "leading" kZ oc40 od40 kV40 dc40 pm40 an40 cd40 ct40 sl40) (c40:codeIn K cd40 "leading" = true) (k40:keepIn K (.ref f40)=true)
  (a41:nsIn K mainGlobals "led_picture" = sR f41) (l41:K.lookup f41=fO "led_picture" dY oc41 od41 kV41 dc41 pm41 an41 cd41 ct41 sl41) (c41:codeIn K cd41 "led_picture" = true) (k41:keepIn K (.ref f41)=true)
  (a42:nsIn K mainGlobals "form" = sR f42) (l42:K.lookup f42=fO "form" s_form oc42 od42 kV42 dc42 pm42 an42 cd42 ct42 sl42) (c42:codeIn K cd42 "form" = true) (k42:keepIn K (.ref f42)=true)
  (a43:nsIn K mainGlobals "_law_cell_at" = sR f43) (l43:K.lookup f43=fO "_law_cell_at" gW oc43 od43 kV43 dc43 pm43 an43 cd43 ct43 sl43) (c43:codeIn K cd43 "_law_cell_at" = true) (k43:keepIn K (.ref f43)=true)
  (a44:nsIn K mainGlobals "_law_rest" = sR f44) (l44:K.lookup f44=fO "_law_rest" oN oc44 od44 kV44 dc44 pm44 an44 cd44 ct44 sl44) (c44:codeIn K cd44 "_law_rest" = true) (k44:keepIn K (.ref f44)=true)
  (a45:nsIn K mainGlobals "_law_digit" = sR f45) (l45:K.lookup f45=fO "_law_digit" kO oc45 od45 kV45 dc45 pm45 an45 cd45 ct45 sl45) (c45:codeIn K cd45 "_law_digit" = true) (k45:keepIn K (.ref f45)=true)
  (a46:nsIn K mainGlobals "_law_number" = sR f46) (l46:K.lookup f46=fO "_law_number" jz oc46 od46 kV46 dc46 pm46 an46 cd46 ct46 sl46) (c46:codeIn K cd46 "_law_number" = true) (k46:keepIn K (.ref f46)=true)
  (a47:nsIn K mainGlobals "_law_whole" = sR f47) (l47:K.lookup f47=fO "_law_whole" mL oc47 od47 kV47 dc47 pm47 an47 cd47 ct47 sl47) (c47:codeIn K cd47 "_law_whole" = true) (k47:keepIn K (.ref f47)=true)
  (a48:nsIn K mainGlobals "_law_divisor" = sR f48) (l48:K.lookup f48=fO "_law_divisor" gZ oc48 od48 kV48 dc48 pm48 an48 cd48 ct48 sl48) (c48:codeIn K cd48 "_law_divisor" = true) (k48:keepIn K (.ref f48)=true)
  (a49:nsIn K mainGlobals "_law_plain" = sR f49) (l49:K.lookup f49=fO "_law_plain" lY oc49 od49 kV49 dc49 pm49 an49 cd49 ct49 sl49) (c49:codeIn K cd49 "_law_plain" = true) (k49:keepIn K (.ref f49)=true)
  (a50:nsIn K mainGlobals "_law_is_row" = sR f50) (l50:K.lookup f50=fO "_law_is_row" jD oc50 od50 kV50 dc50 pm50 an50 cd50 ct50 sl50) (c50:codeIn K cd50 "_law_is_row" = true) (k50:keepIn K (.ref f50)=true)
  (a51:nsIn K mainGlobals "_law_spot" = sR f51) (l51:K.lookup f51=fO "_law_spot" oR oc51 od51 kV51 dc51 pm51 an51 cd51 ct51 sl51) (c51:codeIn K cd51 "_law_spot" = true) (k51:keepIn K (.ref f51)=true)
  (a52:nsIn K mainGlobals "_law_cross" = sR f52) (l52:K.lookup f52=fO "_law_cross" mJ oc52 od52 kV52 dc52 pm52 an52 cd52 ct52 sl52) (c52:codeIn K cd52 "_law_cross" = true) (k52:keepIn K (.ref f52)=true)
  (a53:nsIn K mainGlobals "_law_dot" = sR f53) (l53:K.lookup f53=fO "_law_dot" vL oc53 od53 kV53 dc53 pm53 an53 cd53 ct53 sl53) (c53:codeIn K cd53 "_law_dot" = true) (k53:keepIn K (.ref f53)=true)
  (a54:nsIn K mainGlobals "_law_led" = sR f54) (l54:K.lookup f54=fO "_law_led" vg oc54 od54 kV54 dc54 pm54 an54 cd54 ct54 sl54) (c54:codeIn K cd54 "_law_led" = true) (k54:keepIn K (.ref f54)=true)
  (a55:nsIn K mainGlobals "_law_kind" = sR f55) (l55:K.lookup f55=fO "_law_kind" pC oc55 od55 kV55 dc55 pm55 an55 cd55 ct55 sl55) (c55:codeIn K cd55 "_law_kind" = true) (k55:keepIn K (.ref f55)=true)
  (a56:nsIn K mainGlobals "_law_told" = sR f56) (l56:K.lookup f56=fO "_law_told" oY oc56 od56 kV56 dc56 pm56 an56 cd56 ct56 sl56) (c56:codeIn K cd56 "_law_told" = true) (k56:keepIn K (.ref f56)=true)
  (a57:nsIn K mainGlobals "law" = sR f57) (l57:K.lookup f57=fO "law" s_law oc57 od57 kV57 dc57 pm57 an57 cd57 ct57 sl57) (c57:codeIn K cd57 "law" = true) (k57:keepIn K (.ref f57)=true)
  (z_abs:PySem.W.nsIn K mainGlobals "abs" = some none)
  (z_all:PySem.W.nsIn K mainGlobals "all" = some none)
  (z_any:PySem.W.nsIn K mainGlobals "any" = some none)
  (z_bool:PySem.W.nsIn K mainGlobals "bool" = some none)
  (z_int:PySem.W.nsIn K mainGlobals "int" = some none)
  (z_isinstance:PySem.W.nsIn K mainGlobals "isinstance" = some none)
  (z_len:PySem.W.nsIn K mainGlobals "len" = some none)
  (z_list:PySem.W.nsIn K mainGlobals "list" = some none)
  (z_max:PySem.W.nsIn K mainGlobals "max" = some none)
  (z_min:PySem.W.nsIn K mainGlobals "min" = some none)
  (z_range:PySem.W.nsIn K mainGlobals "range" = some none)
  (z_reversed:PySem.W.nsIn K mainGlobals "reversed" = some none)
  (z_sum:PySem.W.nsIn K mainGlobals "sum" = some none)
  (z_tuple:PySem.W.nsIn K mainGlobals "tuple" = some none)
  (z_zip:PySem.W.nsIn K mainGlobals "zip" = some none)
  (gk_TILES:PySem.W.nsIn K mainGlobals "TILES" = some (some (.ref m6)))
  (lk_TILES:K.lookup m6=some ⟨.type "tuple",odk_TILES,.seq #[(.ref k_TILES_0),(.ref k_TILES_1),(.ref k_TILES_2),(.ref k_TILES_3)] nk_TILES,slk_TILES⟩)
  (lk_TILES_0:K.lookup k_TILES_0=some ⟨.type "tuple",odk_TILES_0,.seq #[(.int 1 t_TILES_0_0),(.int 0 t_TILES_0_1),(.int 0 t_TILES_0_2)] nk_TILES_0,slk_TILES_0⟩)
  (lk_TILES_1:K.lookup k_TILES_1=some ⟨.type "tuple",odk_TILES_1,.seq #[(.int 0 t_TILES_1_0),(.int 1 t_TILES_1_1),(.int 0 t_TILES_1_2)] nk_TILES_1,slk_TILES_1⟩)
  (lk_TILES_2:K.lookup k_TILES_2=some ⟨.type "tuple",odk_TILES_2,.seq #[(.int 0 t_TILES_2_0),(.int 0 t_TILES_2_1),(.int 1 t_TILES_2_2)] nk_TILES_2,slk_TILES_2⟩)
  (lk_TILES_3:K.lookup k_TILES_3=some ⟨.type "tuple",odk_TILES_3,.seq #[(.int 1 t_TILES_3_0),(.int 1 t_TILES_3_1),(.int 1 t_TILES_3_2)] nk_TILES_3,slk_TILES_3⟩)
  : ∃ fd:FuncData,(∀ (s:Shared) (v:Value),BindsTo s fd ⟨[v],[]⟩ [("_law_script",v)])∧∀ base:Heap,K.In base→base.Ns mainGlobals mg→bQ l.prog w K mg base CX0 19 fa fd ["_law_script"] (spLaw K):=by
 have e:=hfa.symm.trans (PySem.W.mg_of X G a57)
 cases e
 have F0:=aO (st:=jK) l0 c0 k0
 have b0:=F0.binds (ps:=["thing"]) fun _ _ _ _ _ _ us hl=>match us,hl with | [_],_=>rfl
 have F1:=aO (st:=cL) l1 c1 k1
 have b1:=F1.binds (ps:=["one", "other"]) fun _ _ _ _ _ _ us hl=>match us,hl with | [_,_],_=>rfl
 have F2:=aO (st:=lq) l2 c2 k2
 have b2:=F2.binds (ps:=["numbers"]) fun _ _ _ _ _ _ us hl=>match us,hl with | [_],_=>rfl
 have F3:=aO (st:=fL) l3 c3 k3
 have b3:=F3.binds (ps:=["numbers"]) fun _ _ _ _ _ _ us hl=>match us,hl with | [_],_=>rfl
 have F4:=aO (st:=vo) l4 c4 k4
 have b4:=F4.binds (ps:=["numbers"]) fun _ _ _ _ _ _ us hl=>match us,hl with | [_],_=>rfl
 have F5:=aO (st:=jJ) l5 c5 k5
 have b5:=F5.binds (ps:=["thing", "many"]) fun _ _ _ _ _ _ us hl=>match us,hl with | [_,_],_=>rfl
 have F6:=aO (st:=s_dot) l6 c6 k6
 have b6:=F6.binds (ps:=["one", "other"]) fun _ _ _ _ _ _ us hl=>match us,hl with | [_,_],_=>rfl
 have F7:=aO (st:=vP) l7 c7 k7
 have b7:=F7.binds (ps:=["one", "other"]) fun _ _ _ _ _ _ us hl=>match us,hl with | [_,_],_=>rfl
 have F8:=aO (st:=s_turn) l8 c8 k8
 have b8:=F8.binds (ps:=["one", "other", "third"]) fun _ _ _ _ _ _ us hl=>match us,hl with | [_,_,_],_=>rfl
 have F9:=aO (st:=mQ) l9 c9 k9
 have b9:=F9.binds (ps:=["spot", "line"]) fun _ _ _ _ _ _ us hl=>match us,hl with | [_,_],_=>rfl
 have F10:=aO (st:=gY) l10 c10 k10
 have b10:=F10.binds (ps:=["rows"]) fun _ _ _ _ _ _ us hl=>match us,hl with | [_],_=>rfl
 have F11:=aO (st:=lN) l11 c11 k11
 have b11:=F11.binds (ps:=["spots"]) fun _ _ _ _ _ _ us hl=>match us,hl with | [_],_=>rfl
 have F12:=aO (st:=d8) l12 c12 k12
 have b12:=F12.binds (ps:=["one", "other"]) fun _ _ _ _ _ _ us hl=>match us,hl with | [_,_],_=>rfl
 have F13:=aO (st:=z8) l13 c13 k13
 have b13:=F13.binds (ps:=["one", "other"]) fun _ _ _ _ _ _ us hl=>match us,hl with | [_,_],_=>rfl
 have F14:=aO (st:=oX) l14 c14 k14
 have b14:=F14.binds (ps:=["many", "size"]) fun _ _ _ _ _ _ us hl=>match us,hl with | [_,_],_=>rfl
 have F15:=aO (st:=oZ) l15 c15 k15
 have b15:=F15.binds (ps:=["things", "places"]) fun _ _ _ _ _ _ us hl=>match us,hl with | [_,_],_=>rfl
 have F16:=aO (st:=lG) l16 c16 k16
 have b16:=F16.binds (ps:=["table"]) fun _ _ _ _ _ _ us hl=>match us,hl with | [_],_=>rfl
 have F17:=aO (st:=lE) l17 c17 k17
 have b17:=F17.binds (ps:=["numbers"]) fun _ _ _ _ _ _ us hl=>match us,hl with | [_],_=>rfl
 have F18:=aO (st:=pI) l18 c18 k18
 have b18:=F18.binds (ps:=["thing"]) fun _ _ _ _ _ _ us hl=>match us,hl with | [_],_=>rfl
 have F19:=aO (st:=cD) l19 c19 k19
 have b19:=F19.binds (ps:=["table", "row"]) fun _ _ _ _ _ _ us hl=>match us,hl with | [_,_],_=>rfl
 have F20:=aO (st:=lD) l20 c20 k20
 have b20:=F20.binds (ps:=["table"]) fun _ _ _ _ _ _ us hl=>match us,hl with | [_],_=>rfl
 have F21:=aO (st:=bM) l21 c21 k21
 have b21:=F21.binds (ps:=["one", "other"]) fun _ _ _ _ _ _ us hl=>match us,hl with | [_,_],_=>rfl
 have F22:=aO (st:=pH) l22 c22 k22
 have b22:=F22.binds (ps:=["table"]) fun _ _ _ _ _ _ us hl=>match us,hl with | [_],_=>rfl
 have F23:=aO (st:=s_led) l23 c23 k23
 have b23:=F23.binds (ps:=["by", "spot"]) fun _ _ _ _ _ _ us hl=>match us,hl with | [_,_],_=>rfl
 have F24:=aO (st:=s_then) l24 c24 k24
 have b24:=F24.binds (ps:=["one", "other"]) fun _ _ _ _ _ _ us hl=>match us,hl with | [_,_],_=>rfl
 have F25:=aO (st:=z9) l25 c25 k25
 have b25:=F25.binds (ps:=["by"]) fun _ _ _ _ _ _ us hl=>match us,hl with | [_],_=>rfl
 have F26:=aO (st:=vI) l26 c26 k26
 have b26:=F26.binds (ps:=[]) fun _ _ _ _ _ _ us hl=>match us,hl with | [],_=>rfl
 have F27:=aO (st:=jM) l27 c27 k27
 have b27:=F27.binds (ps:=["four"]) fun _ _ _ _ _ _ us hl=>match us,hl with | [_],_=>rfl
 have F28:=aO (st:=fD) l28 c28 k28
 have b28:=F28.binds (ps:=["four"]) fun _ _ _ _ _ _ us hl=>match us,hl with | [_],_=>rfl
 have F29:=aO (st:=d9) l29 c29 k29
 have b29:=F29.binds (ps:=["four", "others"]) fun _ _ _ _ _ _ us hl=>match us,hl with | [_,_],_=>rfl
 have F30:=aO (st:=cW) l30 c30 k30
 have b30:=F30.binds (ps:=["picture"]) fun _ _ _ _ _ _ us hl=>match us,hl with | [_],_=>rfl
 have F31:=aO (st:=fK) l31 c31 k31
 have b31:=F31.binds (ps:=["picture"]) fun _ _ _ _ _ _ us hl=>match us,hl with | [_],_=>rfl
 have F32:=aO (st:=dj) l32 c32 k32
 have b32:=F32.binds (ps:=["picture"]) fun _ _ _ _ _ _ us hl=>match us,hl with | [_],_=>rfl
 have F33:=aO (st:=cU) l33 c33 k33
 have b33:=F33.binds (ps:=["unlike"]) fun _ _ _ _ _ _ us hl=>match us,hl with | [_],_=>rfl
 have F34:=aO (st:=kW) l34 c34 k34
 have b34:=F34.binds (ps:=["picture"]) fun _ _ _ _ _ _ us hl=>match us,hl with | [_],_=>rfl
 have F35:=aO (st:=vB) l35 c35 k35
 have b35:=F35.binds (ps:=[]) fun _ _ _ _ _ _ us hl=>match us,hl with | [],_=>rfl
 have F36:=aO (st:=cZ) l36 c36 k36
 have b36:=F36.binds (ps:=["spots"]) fun _ _ _ _ _ _ us hl=>match us,hl with | [_],_=>rfl
 have F37:=aO (st:=cG) l37 c37 k37
 have b37:=F37.binds (ps:=["unlike", "line"]) fun _ _ _ _ _ _ us hl=>match us,hl with | [_,_],_=>rfl
 have F38:=aO (st:=gJ) l38 c38 k38
 have b38:=F38.binds (ps:=["unlike"]) fun _ _ _ _ _ _ us hl=>match us,hl with | [_],_=>rfl
 have F39:=aO (st:=cN) l39 c39 k39
 have b39:=F39.binds (ps:=["unlike"]) fun _ _ _ _ _ _ us hl=>match us,hl with | [_],_=>rfl
 have F40:=aO (st:=kZ) l40 c40 k40
 have b40:=F40.binds (ps:=["picture"]) fun _ _ _ _ _ _ us hl=>match us,hl with | [_],_=>rfl
 have F41:=aO (st:=dY) l41 c41 k41
 have b41:=F41.binds (ps:=["by", "picture"]) fun _ _ _ _ _ _ us hl=>match us,hl with | [_,_],_=>rfl
 have F42:=aO (st:=s_form) l42 c42 k42
 have b42:=F42.binds (ps:=["picture"]) fun _ _ _ _ _ _ us hl=>match us,hl with | [_],_=>rfl
 have F43:=aO (st:=gW) l43 c43 k43
 have b43:=F43.binds (ps:=["_law_script", "_law_k"]) fun _ _ _ _ _ _ us hl=>match us,hl with | [_,_],_=>rfl
 have F44:=aO (st:=oN) l44 c44 k44
 have b44:=F44.binds (ps:=["_law_script", "_law_k"]) fun _ _ _ _ _ _ us hl=>match us,hl with | [_,_],_=>rfl
 have F45:=aO (st:=kO) l45 c45 k45
 have b45:=F45.binds (ps:=["_law_rest_here", "_law_many"]) fun _ _ _ _ _ _ us hl=>match us,hl with | [_,_],_=>rfl
 have F46:=aO (st:=jz) l46 c46 k46
 have b46:=F46.binds (ps:=["_law_rest_here", "_law_far"]) fun _ _ _ _ _ _ us hl=>match us,hl with | [_,_],_=>rfl
 have F47:=aO (st:=mL) l47 c47 k47
 have b47:=F47.binds (ps:=["_law_found"]) fun _ _ _ _ _ _ us hl=>match us,hl with | [_],_=>rfl
 have F48:=aO (st:=gZ) l48 c48 k48
 have b48:=F48.binds (ps:=["_law_numbers"]) fun _ _ _ _ _ _ us hl=>match us,hl with | [_],_=>rfl
 have F49:=aO (st:=lY) l49 c49 k49
 have b49:=F49.binds (ps:=["_law_numbers"]) fun _ _ _ _ _ _ us hl=>match us,hl with | [_],_=>rfl
 have F50:=aO (st:=jD) l50 c50 k50
 have b50:=F50.binds (ps:=["_law_found", "_law_many"]) fun _ _ _ _ _ _ us hl=>match us,hl with | [_,_],_=>rfl
 have F51:=aO (st:=oR) l51 c51 k51
 have b51:=F51.binds (ps:=["_law_rest_here", "_law_far"]) fun _ _ _ _ _ _ us hl=>match us,hl with | [_,_],_=>rfl
 have F52:=aO (st:=mJ) l52 c52 k52
 have b52:=F52.binds (ps:=["_law_one", "_law_other"]) fun _ _ _ _ _ _ us hl=>match us,hl with | [_,_],_=>rfl
 have F53:=aO (st:=vL) l53 c53 k53
 have b53:=F53.binds (ps:=["_law_one", "_law_other"]) fun _ _ _ _ _ _ us hl=>match us,hl with | [_,_],_=>rfl
 have F54:=aO (st:=vg) l54 c54 k54
 have b54:=F54.binds (ps:=["_law_by", "_law_spot_here"]) fun _ _ _ _ _ _ us hl=>match us,hl with | [_,_],_=>rfl
 have F55:=aO (st:=pC) l55 c55 k55
 have b55:=F55.binds (ps:=["_law_spots"]) fun _ _ _ _ _ _ us hl=>match us,hl with | [_],_=>rfl
 have F56:=aO (st:=oY) l56 c56 k56
 have b56:=F56.binds (ps:=["_law_spots"]) fun _ _ _ _ _ _ us hl=>match us,hl with | [_],_=>rfl
 have F57:=aO (st:=s_law) l57 c57 k57
 have b57:=F57.binds (ps:=["_law_script"]) fun _ _ _ _ _ _ us hl=>match us,hl with | [_],_=>rfl
 have T:Txt K mg ⟨f0,_,f1,_,f2,_,f3,_,f4,_,f5,_,f6,_,f7,_,f8,_,f9,_,f10,_,f11,_,f12,_,f13,_,f14,_,f15,_,f16,_,f17,_,f18,_,f19,_,f20,_,f21,_,f22,_,f23,_,f24,_,f25,_,f26,_,f27,_,f28,_,f29,_,f30,_,f31,_,f32,_,f33,_,f34,_,f35,_,f36,_,f37,_,f38,_,f39,_,f40,_,f41,_,f42,_,f43,_,f44,_,f45,_,f46,_,f47,_,f48,_,f49,_,f50,_,f51,_,f52,_,f53,_,f54,_,f55,_,f56,_,fa,_,m6⟩:=⟨F0,PySem.W.mg_of X G a0,b0,F1,PySem.W.mg_of X G a1,b1,F2,PySem.W.mg_of X G a2,b2,F3,PySem.W.mg_of X G a3,b3,F4,PySem.W.mg_of X G a4,b4,F5,PySem.W.mg_of X G a5,b5,F6,PySem.W.mg_of X G a6,b6,F7,PySem.W.mg_of X G a7,b7,F8,PySem.W.mg_of X G a8,b8,F9,PySem.W.mg_of X G a9,b9,F10,PySem.W.mg_of X G a10,b10,F11,PySem.W.mg_of X G a11,b11,F12,PySem.W.mg_of X G a12,b12,F13,PySem.W.mg_of X G a13,b13,F14,PySem.W.mg_of X G a14,b14,F15,PySem.W.mg_of X G a15,b15,F16,PySem.W.mg_of X G a16,b16,F17,PySem.W.mg_of X G a17,b17,F18,PySem.W.mg_of X G a18,b18,F19,PySem.W.mg_of X G a19,b19,F20,PySem.W.mg_of X G a20,b20,F21,PySem.W.mg_of X G a21,b21,F22,PySem.W.mg_of X G a22,b22,F23,PySem.W.mg_of X G a23,b23,F24,PySem.W.mg_of X G a24,b24,F25,PySem.W.mg_of X G a25,b25,F26,PySem.W.mg_of X G a26,b26,F27,PySem.W.mg_of X G a27,b27,F28,PySem.W.mg_of X G a28,b28,F29,PySem.W.mg_of X G a29,b29,F30,PySem.W.mg_of X G a30,b30,F31,PySem.W.mg_of X G a31,b31,F32,PySem.W.mg_of X G a32,b32,F33,PySem.W.mg_of X G a33,b33,F34,PySem.W.mg_of X G a34,b34,F35,PySem.W.mg_of X G a35,b35,F36,PySem.W.mg_of X G a36,b36,F37,PySem.W.mg_of X G a37,b37,F38,PySem.W.mg_of X G a38,b38,F39,PySem.W.mg_of X G a39,b39,F40,PySem.W.mg_of X G a40,b40,F41,PySem.W.mg_of X G a41,b41,F42,PySem.W.mg_of X G a42,b42,F43,PySem.W.mg_of X G a43,b43,F44,PySem.W.mg_of X G a44,b44,F45,PySem.W.mg_of X G a45,b45,F46,PySem.W.mg_of X G a46,b46,F47,PySem.W.mg_of X G a47,b47,F48,PySem.W.mg_of X G a48,b48,F49,PySem.W.mg_of X G a49,b49,F50,PySem.W.mg_of X G a50,b50,F51,PySem.W.mg_of X G a51,b51,F52,PySem.W.mg_of X G a52,b52,F53,PySem.W.mg_of X G a53,b53,F54,PySem.W.mg_of X G a54,b54,F55,PySem.W.mg_of X G a55,b55,F56,PySem.W.mg_of X G a56,b56,F57,PySem.W.mg_of X G a57,b57,PySem.W.mg_none_of X G z_abs,PySem.W.mg_none_of X G z_all,PySem.W.mg_none_of X G z_any,PySem.W.mg_none_of X G z_bool,PySem.W.mg_none_of X G z_int,PySem.W.mg_none_of X G z_isinstance,PySem.W.mg_none_of X G z_len,PySem.W.mg_none_of X G z_list,PySem.W.mg_none_of X G z_max,PySem.W.mg_none_of X G z_min,PySem.W.mg_none_of X G z_range,PySem.W.mg_none_of X G z_reversed,PySem.W.mg_none_of X G z_sum,PySem.W.mg_none_of X G z_tuple,PySem.W.mg_none_of X G z_zip,PySem.W.mg_of X G gk_TILES,fun _ _=>((lV lk_TILES (by simp <;> decide) (.cons relR (.cons relR (.cons relR (.cons relR .nil)))) fun _ _=>(jO ((lV lk_TILES_0 (by simp <;> decide) (.cons relI (.cons relI (.cons relI .nil))) fun _ _=>(jO repI (jO repI (jO repI repsN)))) _ _) (jO ((lV lk_TILES_1 (by simp <;> decide) (.cons relI (.cons relI (.cons relI .nil))) fun _ _=>(jO repI (jO repI (jO repI repsN)))) _ _) (jO ((lV lk_TILES_2 (by simp <;> decide) (.cons relI (.cons relI (.cons relI .nil))) fun _ _=>(jO repI (jO repI (jO repI repsN)))) _ _) (jO ((lV lk_TILES_3 (by simp <;> decide) (.cons relI (.cons relI (.cons relI .nil))) fun _ _=>(jO repI (jO repI (jO repI repsN)))) _ _) repsN))))) _ _)⟩
 exact ⟨_,fun s v=>.of_eq rfl,fun base _ _=>law_imp hlaw (ok_law T)⟩
theorem walk {l:PySem.W.OpenLaw}{q:Program}{loose:List Str}{XP:(Str→Option Value)→Heap→Prop}{YP:World→Heap→Prop}{d:DefRec}{K:Params→PySem.W.Frag}(hn:l.most=some 63)(hdf:d.params.defaults=[])
  (hY:∀ (w:World) (h:Heap),YP w h→(K w.params).In h)
  (F:∀ (w:World) (mg:Str→Option Value) (fa:Addr) (h:Heap),(K w.params).In h→h.Ns mainGlobals mg→mg d.name=some (.ref fa) →
   ∃ fd:FuncData,(∀ (s:Shared) (u:Value),BindsTo s fd ⟨[u],[]⟩ [("_law_script",u)])∧∀ base:Heap,(K w.params).In base→base.Ns mainGlobals mg→bQ l.prog w (K w.params) mg base CX0 19 fa fd ["_law_script"] (spLaw (K w.params))) :
  PySem.W.WalkO q loose XP YP l.row.toRowW d [] (fun f vs=>PySem.call f vs):=
 L2.walk_of (n:=63) (k:=19) (x := "_law_script") (CX:=fun _=>CX0) (sp:=fun w=>spLaw (K w.params)) hn (by decide) hdf ⟨fun _=>rfl,by decide,by decide⟩ hY F (fun _ _ a ns hl hO hS=>⟨a,ns,rfl,hS,hO,hl,fun _=>rfl⟩) fun _ _ _ _ _ z=>z
local macro_rules | `(tactic| trivial) => `(tactic| with_reducible exact Sm.lit (by decide))
local macro_rules | `(tactic| trivial) => `(tactic| with_reducible exact Sm.zero)
local macro_rules | `(tactic| trivial) => `(tactic| with_reducible exact Sm.neg (by trivial))
local macro_rules | `(tactic| trivial) => `(tactic| with_reducible exact Sm.sub (by trivial) (by trivial))
local macro_rules | `(tactic| trivial) => `(tactic| with_reducible exact Sm.add (by trivial) (by trivial))
local macro_rules | `(tactic| trivial) => `(tactic| with_reducible exact Sm.mul (by trivial) (by trivial))
local macro_rules | `(tactic| trivial) => `(tactic| with_reducible assumption)
theorem iW (h:Gh)(n:Nat)(c:Cell):(h.set n c).c n=some c:=by show (if n=n then some c else h.c n)=some c;rw [if_pos rfl]
theorem iQ {h:Gh}{n m:Nat}{c:Cell}(e:m≠n):(h.set n c).c m=h.c m:=by show (if m=n then some c else h.c m)=_;rw [if_neg e]
theorem rJ (h:Gh)(c:Cell):(h.new c).c h.nx=some c:=by show (if h.nx=h.nx then some c else h.c h.nx)=some c;rw [if_pos rfl]
theorem nW {h:Gh}{m:Nat}{c:Cell}(e:m≠h.nx):(h.new c).c m=h.c m:=by show (if m=h.nx then some c else h.c m)=_;rw [if_neg e]
theorem bV {h:Gh}{n:Nat}{ws:List W}(e:h.c n=some (.lst ws)):view h (.loc n)=some ws:=by simp only [view,fC,e]
def Rs (h:Gh)(n:Nat):Prop:=(∃ a,h.c n=some (.lst [.int a]))∨∃ a b,h.c n=some (.lst [.int a,.int b])
def Oth (n:Nat)(h h':Gh):Prop:=h'.nx=h.nx∧∀ m,m≠n→h'.c m=h.c m
theorem Oth.trans {n:Nat}{a b c:Gh}(x:Oth n a b)(y:Oth n b c):Oth n a c:=⟨y.1.trans x.1,fun m e=>(y.2 m e).trans (x.2 m e)⟩
theorem Oth.set {n:Nat}{h:Gh}{c:Cell}:Oth n h (h.set n c):=⟨rfl,fun _ e=>iQ e⟩
theorem lZ {a b:Int}(h:0<b):a.fmod b=a % b:=Int.fmod_eq_emod_of_nonneg a (Int.le_of_lt h)
theorem by2_t {A B:Prop}{c:Bool}(e:c=true)(h:A):by2 c A B:=by subst e;exact h
theorem by2_f {A B:Prop}{c:Bool}(e:c=false)(h:B):by2 c A B:=by subst e;exact h
theorem iw {h:Gh}{n:Nat}{a many:Int}{r:List W}{Q:WK}(hr:r=[]∨∃ b,r=[.int b])(e:h.c n=some (.lst (.int a::r)))(hm:0<many)(hb:Sm 8000 many)(k:∀ d h',0≤d→d<many→Rs h' n→Oth n h h'→Q (.int d) h') :
  bx (bR (mOp rZ (mOp kIx (aB 0) (mC (.int 0))) (aB 1)) (nName 2)) (bx (bR (mOp wg (mOp kIx (aB 0) (mC (.int 0))) (aB 1)) (nSub (aB 0) (mC (.int 0)) sSetL)) (bK (aB 2)))
   { nx:=fun _ h'=>Q .non h',rt:=fun w h'=>Q w h' } [some (.loc n),some (.int many),none] h:=by
 have hm0:many≠0:=by omega
 have ev:=bV e
 rcases hr with rfl | ⟨b,rfl⟩
 all_goals
  conv=>whnf
  rw [ev]
  conv=>whnf
  refine ⟨hm0,?_⟩
  conv=>whnf
  rw [ev]
  conv=>whnf
  refine ⟨⟨hm0,8000,by decide,hb⟩,?_⟩
  conv=>whnf
  rw [e]
  show Q (.int (a.fmod many)) (h.set n _)
  rw [lZ hm]
  refine k _ _ (Int.emod_nonneg _ hm0) (Int.emod_lt_of_pos _ hm) ?_ Oth.set
 ·exact .inl ⟨_,iW _ _ _⟩
 ·exact .inr ⟨_,_,iW _ _ _⟩
def qx (c:MSp):Prop:=∀ {h:Gh} {n:Nat} {many:Int} {Q:WK} {E:XWK},Rs h n→0<many→Sm 8000 many→(∀ d h',0≤d→d<many→Rs h' n→Oth n h h'→Q (.int d) h')→c [.loc n,.int many] h Q E
theorem w_digit:qx xR:=by
 intro h n many Q E e hm hb k
 rcases e with ⟨a,e⟩ | ⟨a,b,e⟩
 ·have ev:=bV e
  conv=>whnf
  rw [ev]
  show br (decide (a<2)) _ _
  refine br_d (fun _=>?_) (fun _=>?_)
  ·conv=>whnf
   rw [ev]
   refine nJ rfl ?_
   exact iw (r:=[]) (.inl rfl) e hm hb k
  ·refine nJ rfl ?_
   exact iw (r:=[]) (.inl rfl) e hm hb k
 ·have ev:=bV e
  conv=>whnf
  rw [ev]
  show br (decide (a<2)) _ _
  refine br_d (fun _=>?_) (fun _=>?_)
  ·conv=>whnf
   rw [ev]
   refine tE rfl ?_
   conv=>whnf
   rw [e]
   conv=>whnf
   rw [e]
   conv=>whnf
   rw [iW]
   refine iw (r:=[]) (h:=(h.set n (.lst [.int a])).set n (.lst [.int b])) (.inl rfl) (iW _ _ _) hm hb fun d h' d0 d1 r o=>?_
   exact k d h' d0 d1 r (Oth.set.trans (Oth.set.trans o))
  ·refine nJ rfl ?_
   exact iw (r:=[.int b]) (.inr ⟨b,rfl⟩) e hm hb k
def vK (c:MSp):Prop:=∀ {h:Gh} {n:Nat} {far:Int} {Q:WK} {E:XWK},Rs h n→20<far→Sm 7000 far→(∀ x h',-far<x→x<far→Rs h' n→Oth n h h'→Q (.int x) h')→c [.loc n,.int far] h Q E
theorem w_number {dg:MSp}(hd:qx dg):vK (tB dg):=by
 intro h n far Q E e hf hb k
 conv=>whnf
 refine hd (n:=n) (many:=3) e (by decide) (by unfold Sm;decide +kernel) fun d h1 d0 d1 r1 o1=>?_
 refine ⟨fun h0=>?_,fun h0=>?_⟩
 ·conv=>whnf
  refine hd (n:=n) (many:=7) r1 (by decide) (by unfold Sm;decide +kernel) fun d h2 e0 e1 r2 o2=>?_
  exact k _ _ (by omega) (by omega) r2 (o1.trans o2)
 ·refine ⟨fun h0=>?_,fun h0=>?_⟩
  ·conv=>whnf
   refine hd (n:=n) (many:=41) r1 (by decide) (by unfold Sm;decide +kernel) fun d h2 e0 e1 r2 o2=>?_
   exact k _ _ (by omega) (by omega) r2 (o1.trans o2)
  ·conv=>whnf
   refine ⟨⟨3,7000,by decide,by decide,by unfold Sm;decide +kernel,hb⟩,?_⟩
   conv=>whnf
   refine hd (n:=n) (many:=2*far - 1) r1 (by omega) ?_ fun d h2 e0 e1 r2 o2=>?_
   ·have:Sm 7004 (2*far - 1):=(Sm.sub (m:=7003) (n:=1) (Sm.mul (m:=3) (n:=7000) (by unfold Sm;decide +kernel) hb) (by unfold Sm;decide +kernel))
    exact this.mono (by decide)
   ·exact k _ _ (by omega) (by omega) r2 (o1.trans o2)
theorem j9 {ws ws0:List W}{g:MG}{b:MS}{D:bD}(I:Nat→Sw→Gh→Prop)
  (step:∀ (i:Nat) (w:W) (σ : Sw) (h:Gh) (N:Sw→Gh→Prop),(∀ σ' h',I (i+1) σ' h'→N σ' h')→ws[i]?=some w→I i σ h→g w σ h fun σ1 h1=>b { D with nx:=N,ct:=N,bk:=D.nx } σ1 h1)
  (fin:∀ σ h,I ws.length σ h→D.nx σ h):∀ {σ : Sw} {h:Gh},I 0 σ h→dD ⟨ws0,none⟩ g b D ws σ h:=by
 induction ws generalizing I with
 | nil=>intro σ h h0;exact fin σ h h0
 | cons w ws ih=>
  intro σ h h0
  refine step 0 w σ h _ (fun σ' h' q=>?_) rfl h0
  exact ih (fun i=>I (i+1)) (fun i w σ h N hN e hi=>step (i+1) w σ h N hN (by simpa using e) hi) (fun σ h q=>fin σ h q) q
theorem jX {ws ws0:List W}{own:W→Option (List W)}{ix:List Nat}{tt:MT}{te:ME}{σ : Sw}{Q:WK}(I:Nat→List W→Gh→Prop)
  (step:∀ (i:Nat) (w:W) (acc:List W) (h:Gh) (N:List W→Gh→Prop),(∀ acc' h',I (i+1) acc' h'→N acc' h')→ws[i]?=some w→I i acc h →
   ∃ vs,own w=some vs∧tt (vs.map some++rC ix σ) h fun c h1=>by2 c (te (vs.map some++rC ix σ) h1 fun v h2=>N (acc++[v]) h2) (N acc h1))
  (fin:∀ acc h,I ws.length acc h→Q (.lst acc) h):∀ {acc:List W} {h:Gh},I 0 acc h→nC ⟨ws0,none⟩ own ix tt te σ Q ws acc h:=by
 induction ws generalizing I with
 | nil=>intro acc h h0;exact fin acc h h0
 | cons w ws ih=>
  intro acc h h0
  obtain ⟨vs,ev,q⟩:=step 0 w acc h _ (fun acc' h' q=>ih (fun i=>I (i+1)) (fun i w acc h N hN e hi=>step (i+1) w acc h N hN (by simpa using e) hi) (fun acc h q=>fin acc h q) q) rfl h0
  show (match own w with
   | some vs=>_
   | none=>False)
  rw [ev]
  exact q
theorem rngW_get {lo:Int}{n i:Nat}{w:W}(e:(yK lo n)[i]?=some w):i<n∧w=.int (lo+(i:Int)):=by
 have hi:i<n:=by
  have:=(List.getElem?_eq_some_iff.mp e).1
  simpa [yK] using this
 unfold yK at e
 rw [List.getElem?_map,List.getElem?_range hi] at e
 exact ⟨hi,(Option.some.inj e).symm⟩
theorem vG {lo:Int}{n:Nat}:(yK lo n).length=n:=by simp [yK]
theorem for_rng {ma:MA}{j:Int}{g:MG}{b:MS}{D:bD}{σ : Sw}{h:Gh}(hm:∀ R,ma σ h R=R [.int j] h)(h1:-(2^62)≤j)(h2:j<2^62)(I:Nat→Sw→Gh→Prop)
  (step:∀ (i:Nat) (σ : Sw) (h:Gh) (N:Sw→Gh→Prop),(∀ σ' h',I (i+1) σ' h'→N σ' h')→i<j.toNat→I i σ h→g (.int (i:Int)) σ h fun σ1 h1=>b { D with nx:=N,ct:=N,bk:=D.nx } σ1 h1)
  (fin:∀ σ h,I j.toNat σ h→D.nx σ h) (h0:I 0 σ h):p8 (gk ma) g b D σ h:=by
 unfold p8 gk
 rw [hm]
 refine w6.mk h1 h2 ?_
 refine j9 I (fun i w σ h N hN e hi=>?_) (fun σ h q=>fin σ h (by rw [vG] at q;exact q)) h0
 obtain ⟨hlt,rfl⟩:=rngW_get e
 rw [Int.zero_add]
 exact step i σ h N hN hlt hi
theorem atI_ints {ns:List Int}{k:Int}(h0:0≤k)(h1:k<((ns.map W.int).length:Int)):atI (ns.map W.int) k=some (.int (ns.getD k.toNat 0)):=by
 have hk:k.toNat<ns.length:=by rw [List.length_map] at h1;omega
 have e:(ns.map W.int)[k.toNat]?=some (.int (ns.getD k.toNat 0)):=by
  rw [List.getElem?_map,List.getElem?_eq_getElem hk,List.getD_eq_getElem?_getD,List.getElem?_eq_getElem hk];rfl
 have:=nu e
 rwa [show ((k.toNat:Nat):Int)=k by omega] at this
def CellAtOk (c:MSp):Prop:=∀ {h:Gh} {ns:List Int} {k:Int} {Q:WK} {E:XWK},0≤k→Q (.int (ns.getD k.toNat 0)) h→c [.kls (ns.map .int),.int k] h Q E
theorem w_cell_at:CellAtOk qT:=by
 intro h ns k Q E h0 q
 show br (decide (k<((ns.map W.int).length:Int))) _ _
 refine br_d (fun hk=>?_) (fun hk=>?_)
 ·conv=>whnf
  rw [atI_ints h0 hk]
  exact q
 ·have e:ns.getD k.toNat 0=0:=by
   rw [List.getD_eq_getElem?_getD,List.getElem?_eq_none (by rw [List.length_map] at hk;omega)];rfl
  rw [e] at q
  exact q
def RestOk (c:MSp):Prop:=∀ {h:Gh} {ns:List Int} {k:Int} {Q:WK} {E:XWK},0≤k→k≤1000→(∀ h',Rs h' h.nx→h'.nx=h.nx+1→(∀ m,m≠h.nx→h'.c m=h.c m)→Q (.loc h.nx) h')→c [.kls (ns.map .int),.int k] h Q E
theorem big_step {big one j:Int}{i:Nat}(h0:0≤big)(h1:Sm (50*i) big)(m0:0≤one)(m1:one<1000000000039):0≤big*10^12+one∧Sm (50*(i+1)) (big*10^12+one):=by
 have e:(2:Nat)^(50*(i+1))=2^(50*i)*2^50:=by rw [Nat.mul_add,Nat.pow_add]
 unfold Sm at h1 ⊢
 rw [e]
 have p:(10:Int)^12=1000000000000:=by decide
 rw [p]
 have q:(2:Nat)^50=1125899906842624:=by decide
 rw [q]
 generalize 2^(50*i)=t at h1 ⊢
 refine ⟨by omega,by omega⟩
theorem w_rest {ca:MSp}(hca:CellAtOk ca):RestOk (r_l_rest ca):=by
 intro h ns k Q E h0 h1 q
 conv=>whnf
 refine hca h0 ?_
 generalize ns.getD k.toNat 0=cell
 have c1:(10:Int)^(18:Int).toNat=1000000000000000000:=by decide
 have c2:(10:Int)^(12:Int).toNat=1000000000000:=by decide
 conv=>whnf
 refine ⟨⟨by decide,64,by decide,.lit rfl⟩,?_⟩
 conv=>whnf
 refine ⟨⟨by decide,by decide,by decide⟩,?_⟩
 conv=>whnf
 refine ⟨by decide,?_⟩
 conv=>whnf
 rw [c1,lZ (by decide)]
 have y0:=Int.emod_nonneg (cell.fdiv 2) (show (1000000000000000000:Int)≠0 by decide)
 have y1:=Int.emod_lt_of_pos (cell.fdiv 2) (show (0:Int)<1000000000000000000 by decide)
 generalize cell.fdiv 2 % 1000000000000000000=y at y0 y1 ⊢
 refine ⟨.of (n:=10) (.lit rfl) (sy (by omega) (by omega)) (by decide) (by decide),?_⟩
 conv=>whnf
 refine ⟨.of (m:=23) (n:=10) (sy (by omega) (by omega)) (sy (by omega) (by omega)) (by decide) (by decide),?_⟩
 conv=>whnf
 have k0:0≤k*k:=Int.mul_nonneg h0 h0
 have k1:k*k≤1000*1000:=Int.mul_le_mul h1 h1 h0 (by decide)
 have kk:7919*k*k=7919*(k*k):=Int.mul_assoc ..
 rw [kk]
 generalize k*k=k2 at k0 k1 ⊢
 refine ⟨.of (m:=64) (sy (by omega) (by omega)) (.lit rfl) (by decide) (by decide),?_⟩
 conv=>whnf
 refine ⟨by decide,?_⟩
 rw [lZ (by decide)]
 generalize hz:(y+7919*k2+1)*48271 % 999999000001=one
 have z0:0≤one:=by omega
 have z1:one<999999000001:=by omega
 dsimp only [nName,bx,bR,mC]
 refine for_rng (j:=60) (fun _=>rfl) (by decide) (by decide) (fun i σ h'=>h'=h∧∃ one big o,σ = [some (.kls (ns.map .int)),some (.int k),some (.int cell),some (.int one),some (.int big),o]∧0≤one∧one<999999000001∧0≤big∧Sm (50*i) big) ?_ ?_ ⟨rfl,one,0,none,rfl,z0,z1,Int.le_refl _,Sm.zero⟩
 ·rintro i σ h' N hN hi ⟨rfl,one,big,o,rfl,o0,o1,b0,b1⟩
  have hi:i<60:=hi
  conv=>whnf
  refine ⟨.of (m:=40) (sy (by omega) (by omega)) (.lit rfl) (by decide) (by decide),?_⟩
  conv=>whnf
  refine ⟨.of (m:=6) (n:=6) (sy (by omega) (by omega)) (sy (by omega) (by omega)) (by decide) (by decide),?_⟩
  conv=>whnf
  refine ⟨by decide,?_⟩
  rw [lZ (by decide)]
  generalize hj:(i:Int)*(i:Int)=jj
  generalize hz:(one*69621+jj+1) % 999999000001=one'
  have z0:0≤one':=by omega
  have z1:one'<999999000001:=by omega
  conv=>whnf
  refine ⟨⟨by decide,by decide,by decide⟩,?_⟩
  conv=>whnf
  rw [c2]
  refine ⟨.of (m:=50*i) b1 (.lit rfl) (by omega) (by decide),?_⟩
  conv=>whnf
  refine ⟨.of (n:=6) (.lit rfl) (sy (by omega) (by omega)) (by decide) (by decide),?_⟩
  conv=>whnf
  refine ⟨.of (m:=40) (n:=41) (sy (by omega) (by omega)) (sy (by omega) (by omega)) (by decide) (by decide),?_⟩
  conv=>whnf
  refine ⟨by decide,?_⟩
  rw [lZ (by decide)]
  generalize hm:one'*(one'+31*(i:Int)) % 1000000000039=m
  obtain ⟨g0,g1⟩:=big_step (one:=m) (i:=i) (j:=0) b0 b1 (by omega) (by omega)
  have g2:(10:Int)^12=1000000000000:=by decide
  rw [g2] at g0 g1
  exact hN _ _ ⟨rfl,one',_,_,rfl,z0,z1,g0,g1⟩
 ·rintro σ h' ⟨rfl,one,big,o,rfl,o0,o1,b0,b1⟩
  conv=>whnf
  refine ⟨by decide,?_⟩
  refine ⟨fun _=>?_,fun _=>?_⟩
  ·exact q _ (.inl ⟨_,rJ _ _⟩) rfl fun m hm=>nW hm
  ·conv=>whnf
   refine ⟨⟨by decide,64,by decide,.lit rfl⟩,?_⟩
   exact q _ (.inr ⟨_,_,rJ _ _⟩) rfl fun m hm=>nW hm
def gF (f n:Int):Int:=((Int.gcd n f:Nat):Int)
def gL (ns:List Int):Int:=ns.foldl gF 0
theorem gL_snoc (ns:List Int)(n:Int):gL (ns++[n])=gF (gL ns) n:=by unfold gL;rw [List.foldl_append];rfl
theorem gF_nn (f n:Int):0≤gF f n:=Int.natCast_nonneg _
theorem gL_nn (ns:List Int):0≤gL ns:=by
 rcases List.eq_nil_or_concat ns with rfl | ⟨l,a,rfl⟩
 ·exact Int.le_refl _
 ·rw [List.concat_eq_append,gL_snoc];exact gF_nn _ _
theorem gcd_step {x y:Int}(hx:0≤x)(hy:0<y):Int.gcd y (x.fmod y)=Int.gcd x y∧0≤x.fmod y∧x.fmod y<y:=by
 rw [Int.fmod_eq_emod_of_nonneg x (Int.le_of_lt hy)]
 refine ⟨?_,Int.emod_nonneg _ (by omega),Int.emod_lt_of_pos _ hy⟩
 obtain ⟨m,rfl⟩:=Int.eq_ofNat_of_zero_le hx
 obtain ⟨n,rfl⟩:=Int.eq_ofNat_of_zero_le (Int.le_of_lt hy)
 rw [←Int.natCast_emod,Int.gcd_natCast_natCast,Int.gcd_natCast_natCast,Nat.gcd_comm m n,Nat.gcd_rec n m,Nat.gcd_comm]
theorem abs_nn (a:Int):0≤(if a<0 then -a else a):=by split <;> omega
theorem abs_eq (a:Int):(if a<0 then -a else a)=(a.natAbs:Int):=by split <;> omega
theorem gcd_abs (a b:Int):Int.gcd (if a<0 then -a else a) (if b<0 then -b else b)=Int.gcd a b:=by
 rw [abs_eq,abs_eq];simp [Int.gcd]
theorem rA {x:Int}(h:0≤x):((Int.gcd x 0:Nat):Int)=x:=by
 rw [Int.gcd_zero_right];omega
def TwoOk (c:MSp):Prop:=∀ {h:Gh} {a b:Int} {Q:WK} {E:XWK},Q (.int (gF b a)) h→c [.int a,.int b] h Q E
theorem w_two:TwoOk iC:=by
 intro h a b Q E q
 conv=>whnf
 refine ⟨fun m σ h'=>h'=h∧∃ x y r,σ = [some (.int x),some (.int y),r]∧0≤x∧0≤y∧Int.gcd x y=Int.gcd a b∧m=y.toNat,⟨_,rfl,_,_,none,rfl,abs_nn a,abs_nn b,gcd_abs a b,rfl⟩,?_⟩
 rintro m σ h' ⟨rfl,x,y,r,rfl,x0,y0,hg,rfl⟩
 refine ⟨fun e=>?_,fun e=>?_⟩
 ·have hy:y≠0:=by simpa [eqW] using e
  obtain ⟨g1,g2,g3⟩:=gcd_step x0 (by omega:0<y)
  conv=>whnf
  refine ⟨hy,?_⟩
  refine ⟨(x.fmod y).toNat,by omega,rfl,y,x.fmod y,_,rfl,y0,g2,g1.trans hg,rfl⟩
 ·have hy:y=0:=by simpa [eqW] using e
  subst hy
  have:gF b a=x:=by unfold gF;rw [←hg];exact rA x0
  rw [this] at q
  exact q
def Ints (w:W)(ns:List Int):Prop:=w=.lst (ns.map .int)∨w=.tup (ns.map .int)
def jf (c:MSp):Prop:=∀ {h:Gh} {w:W} {ns:List Int} {Q:WK} {E:XWK},Ints w ns→Q (.int (gL ns)) h→c [w] h Q E
theorem ints_get {ns:List Int}{i:Nat}{w:W}(e:(ns.map W.int)[i]?=some w):∃ n,ns[i]?=some n∧w=.int n:=by
 rw [List.getElem?_map] at e
 cases q:ns[i]? with
 | none=>rw [q] at e;cases e
 | some n=>rw [q] at e;exact ⟨n,rfl,(Option.some.inj e).symm⟩
theorem gL_take {ns:List Int}{i:Nat}{n:Int}(e:ns[i]?=some n):gL (ns.take (i+1))=gF (gL (ns.take i)) n:=by
 rw [List.take_succ,e,←gL_snoc];rfl
theorem yE {tw:MSp}(ht:TwoOk tw):jf (wV tw):=by
 intro h w ns Q E hw q
 have key:dD ⟨ns.map .int,none⟩ (nName 2) (bR (aH tw E (aq (aB 2) (aq (aB 1) aL))) (nName 1)) { nx:=q9 tw E { nx:=fun _ h'=>Q .non h',rt:=fun w h'=>Q w h' },rt:=fun w h'=>Q w h' } (ns.map .int) [some w,some (.int 0),none] h:=by
  refine j9 (fun i σ h'=>h'=h∧∃ o,σ = [some w,some (.int (gL (ns.take i))),o]) ?_ ?_ ⟨rfl,none,rfl⟩
  ·rintro i x σ h' N hN e ⟨rfl,o,rfl⟩
   obtain ⟨n,en,rfl⟩:=ints_get e
   conv=>whnf
   refine ht ?_
   refine hN _ _ ⟨rfl,some (.int n),?_⟩
   rw [gL_take en]
   rfl
  ·rintro σ h' ⟨rfl,o,rfl⟩
   rw [List.length_map,List.take_length]
   exact q
 rcases hw with rfl | rfl <;> exact key
theorem gF_max (f n:Int)(hf:0≤f):Int.gcd (if (if n<0 then -n else n)>f then (if n<0 then -n else n) else f) (if (if n<0 then -n else n)<f then (if n<0 then -n else n) else f)=Int.gcd n f:=by
 rw [abs_eq]
 have e:Int.gcd (n.natAbs:Int) f=Int.gcd n f:=by simp [Int.gcd]
 rw [←e]
 generalize (n.natAbs:Int)=m
 by_cases h1:m>f
 ·rw [if_pos h1,if_neg (by omega)]
 ·rw [if_neg h1]
  by_cases h2:m<f
  ·rw [if_pos h2,Int.gcd_comm]
  ·rw [if_neg h2,show m=f by omega]
theorem w_ldivisor:jf qg:=by
 intro h w ns Q E hw q
 have key:∀ D:bD,D.nx=mO E { nx:=fun _ h'=>Q .non h',rt:=fun w h'=>Q w h' } →
   dD ⟨ns.map .int,none⟩ (nName 2) (bx (bR (mCB kMax (aq (aB 1) (aq (mCB kAbs (aq (aB 2) aL)) aL))) (nName 3))
    (bx (bR (mCB kMin (aq (aB 1) (aq (mCB kAbs (aq (aB 2) aL)) aL))) (nName 4))
    (bx (mWhile (bA (mOp kGt (aB 4) (mC (.int 0)))) (mPar 3 4 (aq (aB 4) (aq (mOp rZ (aB 3) (aB 4)) aL))))
    (bR (aB 3) (nName 1))))) D (ns.map .int) [some w,some (.int 0),none,none,none] h:=by
  intro D hD
  refine j9 (fun i σ h'=>h'=h∧∃ o p r,σ = [some w,some (.int (gL (ns.take i))),o,p,r]) ?_ ?_ ⟨rfl,none,none,none,rfl⟩
  ·rintro i x σ h' N hN e ⟨rfl,o,p,r,rfl⟩
   obtain ⟨n,en,rfl⟩:=ints_get e
   have f0:=gL_nn (ns.take i)
   generalize hf:gL (ns.take i)=f at f0
   conv=>whnf
   refine ⟨fun m σ h2=>h2=h'∧∃ x y,σ = [some w,some (.int f),some (.int n),some (.int x),some (.int y)]∧0≤x∧0≤y∧Int.gcd x y=Int.gcd n f∧m=y.toNat,⟨_,rfl,_,_,rfl,?_,?_,gF_max f n f0,rfl⟩,?_⟩
   ·have:=abs_nn n;split <;> omega
   ·have:=abs_nn n;split <;> omega
   ·rintro m σ h2 ⟨rfl,x,y,rfl,x0,y0,hg,rfl⟩
    refine ⟨fun e=>?_,fun e=>?_⟩
    ·have hy:0<y:=by simpa using e
     obtain ⟨g1,g2,g3⟩:=gcd_step x0 hy
     conv=>whnf
     refine ⟨by omega,?_⟩
     refine ⟨(x.fmod y).toNat,by omega,rfl,y,x.fmod y,rfl,y0,g2,g1.trans hg,rfl⟩
    ·have hy:y=0:=by
      have:¬ 0<y:=by simpa using e
      omega
     subst hy
     refine hN _ _ ⟨rfl,some (.int n),some (.int x),some (.int 0),?_⟩
     have:gL (ns.take (i+1))=x:=by rw [gL_take en,hf];unfold gF;rw [←hg];exact rA x0
     rw [this]
     rfl
  ·rintro σ h' ⟨rfl,o,p,r,rfl⟩
   rw [List.length_map,List.take_length]
   rw [hD]
   exact q
 rcases hw with rfl | rfl <;> exact key _ rfl
theorem gF_mul (f n k:Int)(hf:0≤f):gF (f*(k.natAbs:Int)) (n*k)=gF f n*(k.natAbs:Int):=by
 unfold gF
 rw [←Int.natCast_mul]
 congr 1
 unfold Int.gcd
 rw [Int.natAbs_mul,Int.natAbs_mul,Int.natAbs_natCast,Nat.gcd_mul_right]
theorem gL_mul (k:Int)(ns:List Int):gL (ns.map (· * k))=gL ns*(k.natAbs:Int):=by
 have:∀ (ns:List Int) (f:Int),0≤f→(ns.map (· * k)).foldl gF (f*(k.natAbs:Int))=ns.foldl gF f*(k.natAbs:Int):=by
  intro ns
  induction ns with
  | nil=>intro f _;rfl
  | cons n ns ih=>intro f hf;rw [List.map_cons,List.foldl_cons,List.foldl_cons,gF_mul f n k hf];exact ih _ (gF_nn _ _)
 have h:=this ns 0 (Int.le_refl _)
 rw [Int.zero_mul] at h
 exact h
theorem gF_sm {m:Nat}{f n:Int}(hf:Sm m f)(hn:Sm m n):Sm m (gF f n):=by
 unfold gF Sm at *
 rw [Int.natAbs_natCast]
 unfold Int.gcd
 by_cases e:n.natAbs=0
 ·rw [e,Nat.gcd_zero_left];exact hf
 ·exact Nat.lt_of_le_of_lt (Nat.gcd_le_left _ (Nat.pos_of_ne_zero e)) hn
theorem gL_sm {m:Nat}{ns:List Int}(h:∀ n∈ns,Sm m n):Sm m (gL ns):=by
 have:∀ (ns:List Int) (f:Int),Sm m f→(∀ n∈ns,Sm m n)→Sm m (ns.foldl gF f):=by
  intro ns
  induction ns with
  | nil=>intro f hf _;exact hf
  | cons n ns ih=>intro f hf h;exact ih _ (gF_sm hf (h n (by simp))) fun x hx=>h x (by simp [hx])
 exact this ns 0 Sm.zero h
def j7:List Int→Int
 | []=>0
 | n::ns=>if n=0 then j7 ns else n
def eF (ns:List Int):Int:=j7 ns.reverse
def PlL (ns:List Int):Prop:=gL ns=1∧0<eF ns
def NZ (ns:List Int):Prop:=∃ n∈ns,n≠0
theorem bY {k:Int}(hk:k≠0)(x:Int):x*k=0↔x=0:=by
 rw [Int.mul_eq_zero];exact ⟨fun h=>h.elim id fun h=>absurd h hk,.inl⟩
theorem wk {k:Int}(hk:k≠0):∀ ns:List Int,j7 (ns.map (· * k))=j7 ns*k
 | []=>(Int.zero_mul k).symm
 | n::ns=>by
  rw [List.map_cons,j7,j7]
  by_cases h:n=0
  ·rw [if_pos h,if_pos ((bY hk n).mpr h),wk hk ns]
  ·rw [if_neg h,if_neg (fun e=>h ((bY hk n).mp e))]
theorem qL {k:Int}(hk:k≠0)(ns:List Int):eF (ns.map (· * k))=eF ns*k:=by
 unfold eF;rw [←List.map_reverse,wk hk]
theorem fstNZ_ne {ns:List Int}(h:NZ ns):j7 ns≠0:=by
 induction ns with
 | nil=>obtain ⟨n,hn,_⟩:=h;cases hn
 | cons a ns ih=>
  rw [j7]
  by_cases e:a=0
  ·rw [if_pos e]
   refine ih ?_
   obtain ⟨n,hn,n0⟩:=h
   rcases List.mem_cons.mp hn with rfl | hn
   ·exact absurd e n0
   ·exact ⟨n,hn,n0⟩
  ·rw [if_neg e];exact e
theorem vU {ns:List Int}(h:NZ ns):eF ns≠0:=by
 obtain ⟨n,hn,n0⟩:=h
 exact fstNZ_ne ⟨n,List.mem_reverse.mpr hn,n0⟩
theorem gF_dvd (f n:Int):gF f n ∣ f∧gF f n ∣ n:=⟨Int.gcd_dvd_right ..,Int.gcd_dvd_left ..⟩
theorem gL_dvd {ns:List Int}:∀ n∈ns,gL ns ∣ n:=by
 have:∀ (ns:List Int) (f:Int),ns.foldl gF f ∣ f∧∀ n∈ns,ns.foldl gF f ∣ n:=by
  intro ns
  induction ns with
  | nil=>intro f;exact ⟨Int.dvd_refl _,fun n hn=>absurd hn (by simp)⟩
  | cons a ns ih=>
   intro f
   obtain ⟨h1,h2⟩:=ih (gF f a)
   refine ⟨Int.dvd_trans h1 (gF_dvd f a).1,fun n hn=>?_⟩
   rcases List.mem_cons.mp hn with rfl | hn
   ·exact Int.dvd_trans h1 (gF_dvd f n).2
   ·exact h2 n hn
 exact (this ns 0).2
theorem gL_ne {ns:List Int}(h:NZ ns):0<gL ns:=by
 have h0:=gL_nn ns
 obtain ⟨n,hn,n0⟩:=h
 have hd:=gL_dvd n hn
 by_cases e:gL ns=0
 ·rw [e] at hd;exact absurd (Int.zero_dvd.mp hd) n0
 ·omega
theorem PlL.nz {ns:List Int}(h:PlL ns):NZ ns:=by
 have:∀ l:List Int,0<j7 l→NZ l:=by
  intro l
  induction l with
  | nil=>intro h;exact absurd h (by decide)
  | cons a l ih=>
   intro h
   rw [j7] at h
   by_cases e:a=0
   ·rw [if_pos e] at h
    obtain ⟨n,hn,n0⟩:=ih h
    exact ⟨n,List.mem_cons_of_mem _ hn,n0⟩
   ·exact ⟨a,by simp,e⟩
 obtain ⟨n,hn,n0⟩:=this _ h.2
 exact ⟨n,List.mem_reverse.mp hn,n0⟩
theorem plainL {ns:List Int}{by':Int}(h:NZ ns)(hb:by'=if eF ns<0 then 0 - gL ns else gL ns) :
  by'≠0∧PlL (ns.map (·.fdiv by'))∧ns=(ns.map (·.fdiv by')).map (· * by'):=by
 have g0:=gL_ne h
 have hn:by'≠0:=by rw [hb];split <;> omega
 have hd:∀ t,gL ns ∣ t→by' ∣ t:=fun t ht=>by
  rw [hb]
  split
  ·rw [Int.zero_sub];exact Int.neg_dvd.mpr ht
  ·exact ht
 have e:ns=(ns.map (·.fdiv by')).map (· * by'):=by
  rw [List.map_map]
  conv=>lhs;rw [←List.map_id ns]
  refine List.map_congr_left fun n hn'=>?_
  obtain ⟨m,hm⟩:=hd n (gL_dvd n hn')
  show n=n.fdiv by'*by'
  conv=>lhs;rw [hm]
  conv=>rhs;rw [hm]
  rw [Int.mul_fdiv_cancel_left _ hn,Int.mul_comm]
 refine ⟨hn,?_,e⟩
 generalize hms:ns.map (·.fdiv by')=ms at e
 have e1:gL ns=gL ms*(by'.natAbs:Int):=by rw [e];exact gL_mul by' ms
 have e2:(by'.natAbs:Int)=gL ns:=by rw [hb];split <;> omega
 have e3:eF ns=eF ms*by':=by rw [e];exact qL hn ms
 have l0:=vU h
 refine ⟨?_,?_⟩
 ·rw [e2] at e1
  have e1':gL ms*gL ns=1*gL ns:=by rw [←e1,Int.one_mul]
  exact Int.eq_of_mul_eq_mul_right (by omega) e1'
 ·by_cases hs:eF ns<0
  ·rw [if_pos hs] at hb
   have:by'<0:=by omega
   rw [e3] at hs
   by_cases q:0<eF ms
   ·exact q
   ·have:=Int.mul_nonneg_of_nonpos_of_nonpos (show eF ms≤0 by omega) (Int.le_of_lt this)
    omega
  ·rw [if_neg hs] at hb
   have:0<by':=by omega
   have hp:0<eF ns:=by omega
   rw [e3] at hp
   by_cases q:0<eF ms
   ·exact q
   ·have:=Int.mul_nonpos_of_nonpos_of_nonneg (show eF ms≤0 by omega) (Int.le_of_lt this)
    omega
theorem qH {k:Int}(hk:k≠0):∀ {ns ms:List Int},ns.map (· * k)=ms.map (· * k)→ns=ms
 | [],[],_=>rfl
 | [],_::_,h=>by simp at h
 | _::_,[],h=>by simp at h
 | a::ns,b::ms,h=>by
  rw [List.map_cons,List.map_cons] at h
  obtain ⟨h1,h2⟩:=List.cons.inj h
  rw [Int.eq_of_mul_eq_mul_right hk h1,qH hk h2]
theorem plL_eq {ns ms:List Int}(hn:PlL ns)(hm:PlL ms){s t:Int}(hs:s≠0)(ht:t≠0)(h:ns.map (· * s)=ms.map (· * t)):ns=ms:=by
 have e1:gL ns*(s.natAbs:Int)=gL ms*(t.natAbs:Int):=by rw [←gL_mul,←gL_mul,h]
 rw [hn.1,hm.1] at e1
 have e2:eF ns*s=eF ms*t:=by rw [←qL hs,←qL ht,h]
 have a:=hn.2
 have b:=hm.2
 have st:s=t:=by
  rcases Int.lt_or_gt_of_ne hs with s0 | s0 <;> rcases Int.lt_or_gt_of_ne ht with t0 | t0
  ·omega
  ·have x:=Int.mul_neg_of_pos_of_neg a s0
   have y:=Int.mul_pos b t0
   omega
  ·have x:=Int.mul_pos a s0
   have y:=Int.mul_neg_of_pos_of_neg b t0
   omega
  ·omega
 subst st
 exact qH hs h
def wX (c0:MSp):Prop:=∀ {h:Gh} {w:W} {ns:List Int} {m:Nat} {Q:WK} {E:XWK},Ints w ns→NZ ns→(∀ n∈ns,Sm m n)→m≤8000→ns.length≤1000 →
 (∀ (ms:List Int) (k:Int),k≠0→ns=ms.map (· * k)→PlL ms→(∀ n∈ms,Sm m n)→Q (.tup (ms.map .int)) h)→c0 [w] h Q E
theorem cA (a b:Int):eqW (.int a) (.int b)=(a==b):=by rw [eqW]
theorem sm_part {m:Nat}{a a' k:Int}(h:Sm m a)(e:a=a'*k)(hk:k≠0):Sm m a':=by
 refine h.le ?_
 rw [e,Int.natAbs_mul]
 exact Nat.le_mul_of_pos_right _ (by omega)
theorem sm_parts {m:Nat}{ns ms:List Int}{k:Int}(h:∀ n∈ns,Sm m n)(hk:k≠0)(e:ns=ms.map (· * k)):∀ n∈ms,Sm m n:=fun n hn=>
 sm_part (h (n*k) (by rw [e];exact List.mem_map.mpr ⟨n,hn,rfl⟩)) rfl hk
theorem lc_nz {ix:List Nat}{i:Nat}{σ : Sw}{h:Gh}{Q:WK}{w:W}{ns:List Int}(hv:σ[i]?=some (some w))(hs:pZ h w=some ⟨ns.map .int,none⟩)(hz:ns.length≤sizeLine)(k:Q (.lst ((ns.filter (·≠0)).map .int)) h) :
  mLC ow1 ix (nIt (aB i)) (bA (mOp kNe (aB 0) (mC (.int 0)))) (aB 0) σ h Q:=by
 unfold mLC nIt aB
 rw [hv]
 dsimp only
 rw [hs]
 refine iU.mk (by rw [List.length_map];exact hz) ?_
 refine jX (fun i acc h'=>h'=h∧acc=((ns.take i).filter (·≠0)).map W.int) ?_ ?_ ⟨rfl,rfl⟩
 ·rintro i w acc h' N hN e ⟨rfl,rfl⟩
  obtain ⟨n,en,rfl⟩:=ints_get e
  refine ⟨[.int n],rfl,?_⟩
  show by2 (!eqW (.int n) (.int 0)) (N (_++[W.int n]) h') _
  rw [cA]
  by_cases h0:n=0
  ·refine by2_f (by simp [h0]) (hN _ _ ⟨rfl,?_⟩)
   rw [List.take_succ,en]
   simp [h0]
  ·refine by2_t (by simp [h0]) (hN _ _ ⟨rfl,?_⟩)
   rw [List.take_succ,en]
   simp [h0]
 ·rintro acc h' ⟨rfl,rfl⟩
  rw [List.length_map,List.take_length]
  exact k
theorem last_nzL {ns:List Int}(h:NZ ns):atI ((ns.filter (·≠0)).map W.int) (-1)=some (.int (eF ns)):=by
 have key:∀ l:List Int,j7 l≠0→∃ r,l.filter (·≠0)=j7 l::r:=by
  intro l
  induction l with
  | nil=>intro h;exact absurd rfl h
  | cons a l ih=>
   intro h
   rw [j7] at h ⊢
   by_cases e:a=0
   ·rw [if_pos e] at h ⊢
    obtain ⟨r,hr⟩:=ih h
    exact ⟨r,by rw [List.filter_cons,if_neg (by simp [e])];exact hr⟩
   ·rw [if_neg e]
    exact ⟨_,by rw [List.filter_cons,if_pos (by simp [e])]⟩
 obtain ⟨r,hr⟩:=key ns.reverse (vU h)
 have hf:ns.filter (·≠0)=r.reverse++[eF ns]:=by
  rw [List.filter_reverse] at hr
  have:=congrArg List.reverse hr
  rw [List.reverse_reverse,List.reverse_cons] at this
  exact this
 rw [hf,List.map_append]
 exact atI_last _ _
theorem lc_div {ix:List Nat}{σ : Sw}{h:Gh}{Q:WK}{w:W}{ns:List Int}{by':Int}{m:Nat}(hs:pZ h w=some ⟨ns.map .int,none⟩)(hb:by'≠0)(hm:m≤8000)(hs':Sm m by')(hz:ns.length≤sizeLine)(hv:σ[0]?=some (some w))(hx:rC ix σ = [some (.int by')])(k:Q (.lst ((ns.map (·.fdiv by')).map .int)) h) :
  mLC ow1 ix (nIt (aB 0)) fX (mOp wg (aB 0) (aB 1)) σ h Q:=by
 unfold mLC nIt aB
 rw [hv]
 dsimp only
 rw [hs]
 refine iU.mk (by rw [List.length_map];exact hz) ?_
 refine jX (fun i acc h'=>h'=h∧acc=((ns.take i).map (·.fdiv by')).map W.int) ?_ ?_ ⟨rfl,rfl⟩
 ·rintro i w acc h' N hN e ⟨rfl,rfl⟩
  obtain ⟨n,en,rfl⟩:=ints_get e
  refine ⟨[.int n],rfl,?_⟩
  rw [hx]
  refine ⟨⟨hb,m,hm,hs'⟩,?_⟩
  refine hN _ _ ⟨rfl,?_⟩
  rw [List.take_succ,en]
  simp
 ·rintro acc h' ⟨rfl,rfl⟩
  rw [List.length_map,List.take_length]
  exact k
theorem w_lplainL {ld:MSp}(hld:jf ld):wX (wQ ld):=by
 intro h w ns m Q E hw h0 hs hm hl q
 have hg0:=gL_ne h0
 have hgs:Sm m (gL ns):=gL_sm hs
 have hz:ns.length≤sizeLine:=Nat.le_trans hl (by decide)
 have src:pZ h w=some ⟨ns.map .int,none⟩:=by rcases hw with rfl | rfl <;> rfl
 have fin:∀ by',(by'=if eF ns<0 then 0 - gL ns else gL ns)→qF ld E { nx:=fun _ h'=>Q .non h',rt:=fun w h'=>Q w h' } [some w,some (.int by')] h:=by
  intro by' e
  obtain ⟨hn,pl,eq⟩:=plainL h0 e
  have hbs:Sm m by':=by refine hgs.le ?_;rw [e];split <;> omega
  show mLC ow1 [1] (nIt (aB 0)) fX (mOp wg (aB 0) (aB 1)) [some w,some (.int by')] h _
  refine lc_div (w:=w) (ns:=ns) src hn hm hbs hz rfl rfl ?_
  exact q _ by' hn eq pl (sm_parts hs hn eq)
 refine hld hw ?_
 show mLC ow1 [] (nIt (aB 0)) (bA (mOp kNe (aB 0) (mC (.int 0)))) (aB 0) [some w,some (.int (gL ns))] h _
 refine lc_nz (ns:=ns) (w:=w) (i:=0) rfl src hz ?_
 have el:=last_nzL h0
 generalize (ns.filter (·≠0)).map W.int=F at el
 show (match atI F (-1) with
   | some w=>_
   | none=>False)
 rw [el]
 refine br_d (fun hl=>?_) (fun hl=>?_)
 ·exact fin _ (by rw [if_pos hl])
 ·exact fin _ (by rw [if_neg hl])
def EndsL (c0:MSp):Prop:=∀ {h:Gh} {w:W} {ns:List Int} {Q:WK} {E:XWK},Ints w ns→Q (.bl (decide (eF ns<0))) h→c0 [w] h Q E
theorem w_endsL:EndsL oF:=by
 intro h w ns Q E hw q
 have key:∀ (l:List Int) (s:Src) (o:Option W),s.cell=none→Q (.bl (decide (j7 l<0))) h→dD s (nName 1) (iZ (bA (mOp kNe (aB 1) (mC (.int 0)))) (bK (mOp kLt (aB 1) (mC (.int 0)))) bW)
   { nx:=jV E { nx:=fun _ h'=>Q .non h',rt:=fun w h'=>Q w h' },rt:=fun w h'=>Q w h' } (l.map .int) [some w,o] h:=by
  intro l
  induction l with
  | nil=>
   intro s o hs q
   obtain ⟨ws,ix⟩:=s
   cases hs
   exact q
  | cons n l ih=>
   intro s o hs q
   obtain ⟨ws,ix⟩:=s
   cases hs
   rw [j7] at q
   refine ⟨fun e=>?_,fun e=>?_⟩
   ·rw [cA] at e
    rw [if_neg (by simpa using e)] at q
    exact q
   ·rw [cA] at e
    rw [if_pos (by simpa using e)] at q
    exact ih _ _ rfl q
 have k2:=key ns.reverse ⟨(ns.map .int).reverse,none⟩ none rfl q
 rw [List.map_reverse] at k2
 rcases hw with rfl | rfl <;> exact k2
theorem w_pplainL {dv en:MSp}(hdv:jf dv)(hen:EndsL en):wX (r_plain dv en):=by
 intro h w ns m Q E hw h0 hs hm hl q
 have hg0:=gL_ne h0
 have hgs:Sm m (gL ns):=gL_sm hs
 have hz:ns.length≤sizeLine:=Nat.le_trans hl (by decide)
 have src:pZ h w=some ⟨ns.map .int,none⟩:=by rcases hw with rfl | rfl <;> rfl
 have fin:∀ by',(by'=if eF ns<0 then 0 - gL ns else gL ns)→xV dv en E { nx:=fun _ h'=>Q .non h',rt:=fun w h'=>Q w h' } [some w,some (.int by')] h:=by
  intro by' e
  obtain ⟨hn,pl,eq⟩:=plainL h0 e
  have hbs:Sm m by':=by refine hgs.le ?_;rw [e];split <;> omega
  show mLC ow1 [1] (nIt (aB 0)) fX (mOp wg (aB 0) (aB 1)) [some w,some (.int by')] h _
  refine lc_div (w:=w) (ns:=ns) src hn hm hbs hz rfl rfl ?_
  exact q _ by' hn eq pl (sm_parts hs hn eq)
 refine hdv hw ?_
 refine nJ (by rw [cA];simp;omega) ?_
 refine hen hw ?_
 refine br_d (fun hl=>?_) (fun hl=>?_)
 ·exact fin _ (by rw [if_pos hl,Int.zero_sub])
 ·exact fin _ (by rw [if_neg hl])
abbrev Tr:=Int×Int×Int
def tl (t:Tr):List Int:=[t.1,t.2.1,t.2.2]
def tw (t:Tr):W:=.tup [.int t.1,.int t.2.1,.int t.2.2]
def Pl (t:Tr):Prop:=PlL (tl t)
def SmT (m:Nat)(t:Tr):Prop:=Sm m t.1∧Sm m t.2.1∧Sm m t.2.2
def sc (k:Int)(t:Tr):Tr:=(t.1*k,t.2.1*k,t.2.2*k)
def Par (u t:Tr):Prop:=∃ k,k≠0∧u=sc k t
def crs (p q:Tr):Tr:=(p.2.1*q.2.2 - p.2.2*q.2.1,p.2.2*q.1 - p.1*q.2.2,p.1*q.2.1 - p.2.1*q.1)
def dt3 (p q:Tr):Int:=p.1*q.1+p.2.1*q.2.1+p.2.2*q.2.2
theorem SmT.mono {m n:Nat}{t:Tr}(h:SmT m t)(e:m≤n):SmT n t:=⟨h.1.mono e,h.2.1.mono e,h.2.2.mono e⟩
theorem SmT.all {m:Nat}{t:Tr}(h:SmT m t):∀ n∈tl t,Sm m n:=by
 intro n hn
 simp only [tl,List.mem_cons,List.not_mem_nil,or_false] at hn
 rcases hn with rfl | rfl | rfl
 ·exact h.1
 ·exact h.2.1
 ·exact h.2.2
theorem yM {t:Tr}:t=(0,0,0)↔t.1=0∧t.2.1=0∧t.2.2=0:=by
 obtain ⟨a,b,c⟩:=t
 simp
theorem tl_nz {t:Tr}(h:t≠(0,0,0)):NZ (tl t):=by
 by_cases a:t.1=0
 ·by_cases b:t.2.1=0
  ·by_cases c:t.2.2=0
   ·exact absurd (yM.mpr ⟨a,b,c⟩) h
   ·exact ⟨_,by simp [tl],c⟩
  ·exact ⟨_,by simp [tl],b⟩
 ·exact ⟨_,by simp [tl],a⟩
theorem tl_map {t:Tr}{k:Int}{ms:List Int}(e:tl t=ms.map (· * k)):∃ u:Tr,ms=tl u∧t=sc k u:=by
 match ms,congrArg List.length e,e with
 | [a,b,c],_,e=>
  simp only [tl,List.map_cons,List.map_nil,List.cons.injEq,and_true] at e
  exact ⟨(a,b,c),rfl,by obtain ⟨x,y,z⟩:=t;simp only [sc];simp only at e;rw [e.1,e.2.1,e.2.2]⟩
theorem wX.tr {c0:MSp}(hc:wX c0){h:Gh}{w:W}{u:Tr}{m:Nat}{Q:WK}{E:XWK}(hw:w=tw u∨w=.lst [.int u.1,.int u.2.1,.int u.2.2])(h0:u≠(0,0,0))(hs:SmT m u)(hm:m≤8000)
  (q:∀ t:Tr,Pl t→Par u t→SmT m t→Q (tw t) h):c0 [w] h Q E:=by
 refine hc (ns:=tl u) (m:=m) ?_ (tl_nz h0) hs.all hm (show 3≤1000 by decide) fun ms k hk e pl sm=>?_
 ·rcases hw with rfl | rfl
  ·exact .inr rfl
  ·exact .inl rfl
 ·obtain ⟨t,rfl,e'⟩:=tl_map e
  exact q t pl ⟨k,hk,e'⟩ ⟨sm _ (by simp [tl]),sm _ (by simp [tl]),sm _ (by simp [tl])⟩
theorem sc_zero {k:Int}{t:Tr}(hk:k≠0):sc k t=(0,0,0)↔t=(0,0,0):=by
 rw [yM,yM]
 show (t.1*k=0∧t.2.1*k=0∧t.2.2*k=0)↔_
 rw [bY hk,bY hk,bY hk]
theorem Pl.ne {t:Tr}(h:Pl t):t≠(0,0,0):=by
 rintro rfl
 obtain ⟨n,hn,n0⟩:=h.nz
 simp [tl] at hn
 exact n0 hn
theorem Ae {u p q:Tr}(hp:Pl p)(hq:Pl q)(h1:Par u p)(h2:Par u q):p=q:=by
 obtain ⟨s,hs,e⟩:=h1
 obtain ⟨t,ht,e'⟩:=h2
 have h:sc s p=sc t q:=by rw [←e,←e']
 have:=plL_eq hp hq hs ht (by
  have:=congrArg tl h
  simpa [tl,sc] using this)
 obtain ⟨a,b,c⟩:=p
 obtain ⟨x,y,z⟩:=q
 simp only [tl,List.cons.injEq,and_true] at this
 rw [this.1,this.2.1,this.2.2]
theorem Par.refl (t:Tr):Par t t:=⟨1,by decide,by simp [sc]⟩
theorem rQ (a b:Int)(t:Tr):sc a (sc b t)=sc (b*a) t:=by simp only [sc,Int.mul_assoc]
theorem ray {p q:Tr}(hp:p≠(0,0,0))(h:crs p q=(0,0,0)):∃ s t:Int,s≠0∧sc s q=sc t p:=by
 obtain ⟨a,b,c⟩:=p
 obtain ⟨x,y,z⟩:=q
 have h1:b*z - c*y=0:=congrArg (·.1) h
 have h2:c*x - a*z=0:=congrArg (·.2.1) h
 have h3:a*y - b*x=0:=congrArg (·.2.2) h
 by_cases ha:a=0
 ·by_cases hb:b=0
  ·by_cases hc:c=0
   ·exact absurd (by rw [ha,hb,hc]) hp
   ·refine ⟨c,z,hc,?_⟩
    simp only [sc]
    refine Prod.ext ?_ (Prod.ext ?_ ?_) <;> simp only <;> grind
  ·refine ⟨b,y,hb,?_⟩
   simp only [sc]
   refine Prod.ext ?_ (Prod.ext ?_ ?_) <;> simp only <;> grind
 ·refine ⟨a,x,ha,?_⟩
  simp only [sc]
  refine Prod.ext ?_ (Prod.ext ?_ ?_) <;> simp only <;> grind
theorem zX {p q:Tr}(hp:Pl p)(hq:Pl q)(h:crs p q=(0,0,0)):p=q:=by
 obtain ⟨s,t,hs,e⟩:=ray hp.ne h
 have ht:t≠0:=by
  rintro rfl
  have:sc s q=(0,0,0):=by rw [e];simp [sc]
  exact hq.ne ((sc_zero hs).mp this)
 exact Ae (u:=sc t p) hp hq ⟨t,ht,rfl⟩ ⟨s,hs,e.symm⟩
theorem crs_ne {p q:Tr}(hp:Pl p)(hq:Pl q)(h:p≠q):crs p q≠(0,0,0):=fun e=>h (zX hp hq e)
theorem flat {n p q r:Tr}(hn:n≠(0,0,0))(hp:dt3 n p=0)(hq:dt3 n q=0)(hr:dt3 n r=0):dt3 (crs p q) r=0:=by
 obtain ⟨n1,n2,n3⟩:=n
 obtain ⟨p1,p2,p3⟩:=p
 obtain ⟨q1,q2,q3⟩:=q
 obtain ⟨r1,r2,r3⟩:=r
 simp only [dt3,crs] at *
 generalize hd:(p2*q3 - p3*q2)*r1+(p3*q1 - p1*q3)*r2+(p1*q2 - p2*q1)*r3=d
 have e1:n1*d=0:=by grind
 have e2:n2*d=0:=by grind
 have e3:n3*d=0:=by grind
 by_cases h:d=0
 ·exact h
 ·have f:∀ x:Int,x*d=0→x=0:=fun x e=>by
   rcases Int.mul_eq_zero.mp e with e | e
   ·exact e
   ·exact absurd e h
  exact absurd (by rw [f _ e1,f _ e2,f _ e3]) hn
theorem dt3_comm (p q:Tr):dt3 p q=dt3 q p:=by simp only [dt3,Int.mul_comm]
theorem wL (k:Int)(p q:Tr):dt3 (sc k p) q=dt3 p q*k:=by simp only [dt3,sc];grind
theorem kj (k:Int)(p q:Tr):dt3 p (sc k q)=dt3 p q*k:=by simp only [dt3,sc];grind
theorem yZ {u t n:Tr}(h:Par u t):dt3 n u=0↔dt3 n t=0:=by
 obtain ⟨k,hk,rfl⟩:=h
 rw [kj,bY hk]
theorem yG (k l:Int)(p q:Tr):crs (sc k p) (sc l q)=sc (k*l) (crs p q):=by
 simp only [crs,sc]
 refine Prod.ext ?_ (Prod.ext ?_ ?_) <;> simp only <;> grind
theorem crs_self (a:Tr):crs a a=(0,0,0):=by
 simp only [crs]
 refine Prod.ext ?_ (Prod.ext ?_ ?_) <;> simp only <;> grind
theorem vd (p q:Tr):dt3 (crs p q) p=0:=by simp only [dt3,crs];grind
theorem o7 (p q:Tr):dt3 (crs p q) q=0:=by simp only [dt3,crs];grind
theorem qu {m:Nat}{p q:Tr}(hp:SmT m p)(hq:SmT m q):SmT (m+m+1) (crs p q):=
 ⟨(hp.2.1.mul hq.2.2).sub (hp.2.2.mul hq.2.1) |>.mono (by omega),(hp.2.2.mul hq.1).sub (hp.1.mul hq.2.2) |>.mono (by omega),(hp.1.mul hq.2.1).sub (hp.2.1.mul hq.1) |>.mono (by omega)⟩
theorem yS (p q:Tr):eqW (tw p) (tw q)=decide (p=q):=by
 obtain ⟨a,b,c⟩:=p
 obtain ⟨x,y,z⟩:=q
 unfold tw
 rw [eqW,mY,mY,mY,mY,cA,cA,cA]
 by_cases ha:a=x <;> by_cases hb:b=y <;> by_cases hc:c=z <;> simp [ha,hb,hc]
theorem eq000 (a b c:Int):eqW (.lst [.int a,.int b,.int c]) (.lst [.int 0,.int 0,.int 0])=decide (a=0∧b=0∧c=0):=by
 rw [eqW,mY,mY,mY,mY,cA,cA,cA]
 by_cases ha:a=0 <;> by_cases hb:b=0 <;> by_cases hc:c=0 <;> simp [ha,hb,hc]
def CrsOk (c0:MSp):Prop:=∀ {h:Gh} {p q:Tr} {m:Nat} {Q:WK} {E:XWK},m≤10000→SmT m p→SmT m q→Q (tw (crs p q)) h→c0 [tw p,tw q] h Q E
def DotOk (c0:MSp):Prop:=∀ {h:Gh} {p q:Tr} {m:Nat} {Q:WK} {E:XWK},m≤10000→SmT m p→SmT m q→Q (.int (dt3 p q)) h→c0 [tw p,tw q] h Q E
theorem qK {h:Gh}{n:Nat}{ws:List W}(e:h.c n=some (.lst ws)):fC h (.loc n)=some ws:=by simp only [fC,e]
theorem w_cross:CrsOk za:=by
 intro h p q m Q E hm hp hq k
 obtain ⟨a,b,c⟩:=p
 obtain ⟨x,y,z⟩:=q
 obtain ⟨ha,hb,hc⟩:=hp
 obtain ⟨hx,hy,hz⟩:=hq
 simp only at ha hb hc hx hy hz
 ((conv=>whnf);repeat (refine And.intro (by exact dR.of (by trivial) (by trivial) (by omega) (by omega)) ?_;conv=>whnf))
 exact k
theorem w_dot:DotOk r_dot:=by
 intro h p q m Q E hm hp hq k
 obtain ⟨a,b,c⟩:=p
 obtain ⟨x,y,z⟩:=q
 obtain ⟨ha,hb,hc⟩:=hp
 obtain ⟨hx,hy,hz⟩:=hq
 simp only at ha hb hc hx hy hz
 ((conv=>whnf);repeat (refine And.intro (by exact dR.of (by trivial) (by trivial) (by omega) (by omega)) ?_;conv=>whnf))
 exact k
theorem w_ldot:DotOk r_l_dot:=by
 intro h p q m Q E hm hp hq k
 obtain ⟨a,b,c⟩:=p
 obtain ⟨x,y,z⟩:=q
 obtain ⟨ha,hb,hc⟩:=hp
 obtain ⟨hx,hy,hz⟩:=hq
 simp only at ha hb hc hx hy hz
 ((conv=>whnf);repeat (refine And.intro (by exact dR.of (by trivial) (by trivial) (by omega) (by omega)) ?_;conv=>whnf))
 show Q (.int (a*x+(b*y+(c*z+0)))) h
 have e:a*x+(b*y+(c*z+0))=dt3 (a,b,c) (x,y,z):=by simp only [dt3];omega
 rw [e]
 exact k
theorem w_lcross:CrsOk wY:=by
 intro h p q m Q E hm hp hq k
 obtain ⟨a,b,c⟩:=p
 obtain ⟨x,y,z⟩:=q
 obtain ⟨ha,hb,hc⟩:=hp
 obtain ⟨hx,hy,hz⟩:=hq
 simp only at ha hb hc hx hy hz
 conv=>whnf
 rw [rJ]
 ((conv=>whnf);repeat (refine And.intro (by exact dR.of (by trivial) (by trivial) (by omega) (by omega)) ?_;conv=>whnf))
 rw [rJ]
 conv=>whnf
 refine ⟨by decide,?_⟩
 conv=>whnf
 rw [iW]
 ((conv=>whnf);repeat (refine And.intro (by exact dR.of (by trivial) (by trivial) (by omega) (by omega)) ?_;conv=>whnf))
 rw [iW]
 conv=>whnf
 refine ⟨by simp;decide,?_⟩
 conv=>whnf
 rw [iW]
 ((conv=>whnf);repeat (refine And.intro (by exact dR.of (by trivial) (by trivial) (by omega) (by omega)) ?_;conv=>whnf))
 rw [iW]
 conv=>whnf
 refine ⟨by simp;decide,?_⟩
 conv=>whnf
 rw [qK (iW _ _ _)]
 refine ⟨fun n c hn e=>?_,.inl ⟨by simp [Lo,Los],k⟩⟩
 rw [iQ (by omega),iQ (by omega),iQ (by omega),nW (by omega)]
 exact e
theorem sm_far {fm:Nat}{far x:Int}(h:Sm fm far)(h0:-far<x)(h1:x<far):Sm fm x:=h.le (by omega)
def SpotOk (c0:MSp):Prop:=∀ {h:Gh} {n:Nat} {far:Int} {fm:Nat} {Q:WK} {E:XWK},Rs h n→20<far→Sm fm far→fm≤7000→(∀ t h',Pl t→SmT fm t→Rs h' n→Oth n h h'→Q (tw t) h')→c0 [.loc n,.int far] h Q E
theorem w_spot {nb pl:MSp}(hnb:vK nb)(hpl:wX pl):SpotOk (uF nb pl):=by
 intro h n far fm Q E hr hf hb hm q
 have f1:Sm 7000 far:=hb.mono hm
 unfold uF
 conv=>whnf
 refine hnb (n:=n) hr hf f1 fun a h1 a0 a1 r1 o1=>?_
 conv=>whnf
 refine hnb (n:=n) r1 hf f1 fun b h2 b0 b1 r2 o2=>?_
 conv=>whnf
 refine hnb (n:=n) r2 hf f1 fun c h3 c0 c1 r3 o3=>?_
 have ha:=sm_far hb a0 a1
 have hb':=sm_far hb b0 b1
 have hc:=sm_far hb c0 c1
 have o:=o1.trans (o2.trans o3)
 show br (eqW (.lst [.int a,.int b,.int c]) (.lst [.int 0,.int 0,.int 0])) _ _
 rw [eq000]
 refine br_d (fun hz=>?_) (fun hz=>?_)
 ·exact hpl.tr (u:=(0,0,1)) (m:=fm) (.inr rfl) (by decide) ⟨Sm.zero,Sm.zero,hb.le (by show (1:Int).natAbs≤_;omega)⟩ (by omega) fun t p _ s=>q t h3 p s r3 o
 ·exact hpl.tr (u:=(a,b,c)) (m:=fm) (.inr rfl) (fun e=>hz (by simpa using e)) ⟨ha,hb',hc⟩ (by omega) fun t p _ s=>q t h3 p s r3 o
def JoinOk (c0:MSp):Prop:=∀ {h:Gh} {p q:Tr} {m:Nat} {Q:WK} {E:XWK},m≤3900→SmT m p→SmT m q→Pl p→Pl q→p≠q→(∀ t:Tr,Pl t→Par (crs p q) t→SmT (m+m+1) t→Q (tw t) h)→c0 [tw p,tw q] h Q E
theorem w_pcross {pl cr:MSp}(hpl:wX pl)(hcr:CrsOk cr):JoinOk (mD pl cr):=by
 intro h p q m Q E hm sp sq pp pq hne k
 show br (eqW (tw p) (tw q)) _ _
 rw [yS]
 refine nJ (decide_eq_false hne) ?_
 show cr [tw p,tw q] h _ _
 refine hcr (m:=m) (by omega) sp sq ?_
 show pl [tw (crs p q)] h _ _
 exact hpl.tr (u:=crs p q) (m:=m+m+1) (.inl rfl) (crs_ne pp pq hne) (qu sp sq) (by omega) k
theorem w_join {pc:MSp}(hpc:JoinOk pc):JoinOk (r_join pc):=by
 intro h p q m Q E hm sp sq pp pq hne k
 show pc [tw p,tw q] h _ _
 exact hpc hm sp sq pp pq hne k
def AllP (ts:List Tr):Prop:=∀ p∈ts,∀ q∈ts,∀ r∈ts,dt3 (crs q r) p=0
def Z3 (ts:List Tr)(a b c:Nat):Prop:=∀ p q r,ts[a]?=some p→ts[b]?=some q→ts[c]?=some r→dt3 (crs q r) p=0
open Classical in
noncomputable def rM (ts:List Tr):Bool:=decide (AllP ts)
open Classical in
theorem vp {ts:List Tr}(h:AllP ts):rM ts=true:=by unfold rM;exact decide_eq_true h
open Classical in
theorem flatB_f {ts:List Tr}(h:¬ AllP ts):rM ts=false:=by unfold rM;exact decide_eq_false h
theorem yV (p q r:Tr):dt3 (crs q r) p=dt3 (crs r p) q:=by simp only [dt3,crs];grind
theorem det_swap (p q r:Tr):dt3 (crs q r) p = - dt3 (crs r q) p:=by simp only [dt3,crs];grind
theorem mG (p q:Tr):dt3 (crs q q) p=0:=by simp only [dt3,crs];grind
theorem n8 {ts:List Tr}(H:∀ k j i,k<j→j<i→Z3 ts k j i):AllP ts:=by
 intro p hp q hq r hr
 obtain ⟨a,ea⟩:=List.getElem?_of_mem hp
 obtain ⟨b,eb⟩:=List.getElem?_of_mem hq
 obtain ⟨c,ec⟩:=List.getElem?_of_mem hr
 have rot:∀ {p q r:Tr},dt3 (crs q r) p=0→dt3 (crs r p) q=0:=fun {p q r} h=>by rw [←yV];exact h
 have sw:∀ {p q r:Tr},dt3 (crs q r) p=0→dt3 (crs r q) p=0:=fun {p q r} h=>by rw [det_swap,h];rfl
 have ab:a=b→p=q:=fun e=>by subst e;rw [ea] at eb;exact Option.some.inj eb
 have bc:b=c→q=r:=fun e=>by subst e;rw [eb] at ec;exact Option.some.inj ec
 have ac:a=c→p=r:=fun e=>by subst e;rw [ea] at ec;exact Option.some.inj ec
 by_cases h1:a=b
 ·rw [ab h1];exact rot (mG r q)
 by_cases h2:b=c
 ·rw [bc h2];exact mG p r
 by_cases h3:a=c
 ·rw [ac h3];exact rot (rot (mG q r))
 by_cases l1:a<b
 ·by_cases l2:b<c
  ·exact H a b c l1 l2 _ _ _ ea eb ec
  ·by_cases l3:a<c
   ·exact sw (H a c b l3 (by omega) _ _ _ ea ec eb)
   ·exact rot (H c a b (by omega) l1 _ _ _ ec ea eb)
 ·by_cases l2:b<c
  ·by_cases l3:a<c
   ·exact sw (rot (H b a c (by omega) l3 _ _ _ eb ea ec))
   ·exact rot (rot (H b c a l2 (by omega) _ _ _ eb ec ea))
  ·exact sw (rot (rot (H c b a (by omega) (by omega) _ _ _ ec eb ea)))
theorem all_two (ts:List Tr)(h:ts.length≤2):AllP ts:=by
 refine n8 fun k j i h1 h2 p q r _ _ e=>?_
 have:=(List.getElem?_eq_some_iff.mp e).1
 omega
theorem share_iff {ts:List Tr}{t0 u:Tr}(h0:t0∈ts)(hu:u∈ts)(hne:u≠t0)(hp:∀ t∈ts,Pl t):(∀ t∈ts,t≠t0→dt3 (crs t0 u) t=0)↔AllP ts:=by
 refine ⟨fun H=>?_,fun H t ht _=>H t ht t0 h0 u hu⟩
 have hn:=crs_ne (hp _ h0) (hp _ hu) (Ne.symm hne)
 have H':∀ t∈ts,dt3 (crs t0 u) t=0:=fun t ht=>by
  by_cases e:t=t0
  ·subst e
   rw [yV,yV];exact mG _ _
  ·exact H t ht e
 intro p hp q hq r hr
 exact flat hn (H' q hq) (H' r hr) (H' p hp)
theorem all_same {ts:List Tr}{t0:Tr}(H:∀ t∈ts,t=t0):AllP ts:=by
 intro p hp q hq r hr
 rw [H q hq,H r hr]
 exact mG _ _
theorem tw_get {ts:List Tr}{i:Nat}{w:W}(e:(ts.map tw)[i]?=some w):∃ t,ts[i]?=some t∧w=tw t:=by
 rw [List.getElem?_map] at e
 cases q:ts[i]? with
 | none=>rw [q] at e;cases e
 | some n=>rw [q] at e;exact ⟨n,rfl,(Option.some.inj e).symm⟩
theorem eqs_tw:∀ ts:List Tr,mY (ts.map tw) (ts.map tw)=true
 | []=>rfl
 | t::ts=>by rw [List.map_cons,mY,eqs_tw ts,yS,Bool.and_true,decide_eq_true rfl]
theorem pl_tw (n:Nat)(t:Tr):plW (n+1) (tw t)=true:=by cases n <;> rfl
theorem pls_tw (n:Nat)(ts:List Tr):plW (n+2) (.lst (ts.map tw))=true:=by
 show (ts.map tw).all (plW (n+1))=true
 rw [List.all_eq_true]
 intro w hw
 obtain ⟨t,_,rfl⟩:=List.mem_map.mp hw
 exact pl_tw n t
theorem uU:∀ bs:List Bool,blsW (bs.map W.bl)=some bs
 | []=>rfl
 | b::bs=>by rw [List.map_cons,blsW,uU bs];rfl
theorem lc_invS {s:Src}{ws:List W}{own:W→Option (List W)}{ix:List Nat}{tt:MT}{te:ME}{σ : Sw}{Q:WK}(I:Nat→List W→Gh→Prop)
  (go:∀ i acc h,I i acc h→∀ P:Prop,P→s.go h P)
  (step:∀ (i:Nat) (w:W) (acc:List W) (h:Gh) (N:List W→Gh→Prop),(∀ acc' h',I (i+1) acc' h'→N acc' h')→ws[i]?=some w→I i acc h →
   ∃ vs,own w=some vs∧tt (vs.map some++rC ix σ) h fun c h1=>by2 c (te (vs.map some++rC ix σ) h1 fun v h2=>N (acc++[v]) h2) (N acc h1))
  (fin:∀ acc h,I ws.length acc h→Q (.lst acc) h):∀ {acc:List W} {h:Gh},I 0 acc h→nC s own ix tt te σ Q ws acc h:=by
 induction ws generalizing I with
 | nil=>intro acc h h0;exact go 0 acc h h0 _ (fin acc h h0)
 | cons w ws ih=>
  intro acc h h0
  obtain ⟨vs,ev,q⟩:=step 0 w acc h _ (fun acc' h' q=>ih (fun i=>I (i+1)) (fun i=>go (i+1)) (fun i w acc h N hN e hi=>step (i+1) w acc h N hN (by simpa using e) hi) (fun acc h q=>fin acc h q) q) rfl h0
  refine go 0 acc h h0 _ ?_
  show (match own w with
   | some vs=>_
   | none=>False)
  rw [ev]
  exact q
theorem w_lcS {own:W→Option (List W)}{i:Nat}{ix:List Nat}{te:ME}{σ : Sw}{h:Gh}{Q:WK}{w:W}{ws:List W}(hv:σ[i]?=some (some w))(hs:pZ h w=some ⟨ws,none⟩)(hz:ws.length≤sizeLine)(k:nC ⟨ws,none⟩ own ix fX te σ Q ws [] h):mLC own ix (nIt (aB i)) fX te σ h Q:=by
 unfold mLC nIt aB
 rw [hv]
 dsimp only
 rw [hs]
 exact iU.mk hz k
def sX (h:Gh)(w:W)(ts:List Tr):Prop:=w=.lst (ts.map tw)∨∃ n,w=.loc n∧h.c n=some (.lst (ts.map tw))
theorem sX.src {h:Gh}{w:W}{ts:List Tr}(e:sX h w ts):view h w=some (ts.map tw)∧∃ s:Src,pZ h w=some s∧s.ws=ts.map tw∧∀ P:Prop,P→s.go h P:=by
 rcases e with rfl | ⟨n,rfl,e⟩
 ·exact ⟨rfl,_,rfl,rfl,fun _ p=>p⟩
 ·refine ⟨bV e,⟨ts.map tw,some (n,ts.map tw)⟩,by simp only [pZ,e],rfl,fun P p=>⟨e,p⟩⟩
theorem zB (t0:Tr)(r:List Tr):atI ((t0::r).map tw) 0=some (tw t0):=nu (j:=0) rfl
theorem lc_unlike {h:Gh}{w:W}{t0:Tr}{r:List Tr}{o1 o2:Option W}{Q:WK}(e:sX h w (t0::r))(hl:(t0::r).length≤1000)(q:Q (.lst (((t0::r).filter (·≠t0)).map tw)) h) :
  mLC ow1 [0] (nIt (aB 0)) (bA (mOp kNe (aB 0) (mOp kIx (aB 1) (mC (.int 0))))) (aB 0) [some w,o1,o2] h Q:=by
 obtain ⟨ev,s,es,ew,go⟩:=e.src
 generalize hts:t0::r=ts at *
 have a0:atI (ts.map tw) 0=some (tw t0):=by rw [←hts];exact zB _ _
 show (match pZ h w with
  | some s=>_
  | none=>False)
 rw [es]
 show iU s.ws.length (nC s _ _ _ _ _ _ s.ws [] h)
 rw [ew]
 refine iU.mk (by rw [List.length_map];exact Nat.le_trans hl (by decide)) ?_
 refine lc_invS (fun i acc h'=>h'=h∧acc=((ts.take i).filter (·≠t0)).map tw) ?_ ?_ ?_ ⟨rfl,rfl⟩
 ·rintro i acc h' ⟨rfl,_⟩
  exact go
 ·rintro i w2 acc h' N hN e2 ⟨rfl,rfl⟩
  obtain ⟨t,et,rfl⟩:=tw_get e2
  refine ⟨[tw t],rfl,?_⟩
  show (match view h' w with
   | some ws=>(match atI ws 0 with
    | some w=>_
    | none=>False)
   | none=>False)
  rw [ev]
  dsimp only
  rw [a0]
  show by2 (plW 30 (tw t)&&plW 30 (tw t0)) (by2 (!eqW (tw t) (tw t0)) (N (_++[tw t]) h') _) False
  rw [pl_tw 29,pl_tw 29,yS]
  show by2 (!decide (t=t0)) _ _
  by_cases h0:t=t0
  ·refine by2_f (by simp [h0]) (hN _ _ ⟨rfl,?_⟩)
   rw [List.take_succ,et]
   simp [h0]
  ·refine by2_t (by simp [h0]) (hN _ _ ⟨rfl,?_⟩)
   rw [List.take_succ,et]
   simp [h0]
 ·rintro acc h' ⟨rfl,rfl⟩
  rw [List.length_map,List.take_length]
  exact q
def nF (c0:MSp):Prop:=∀ {h:Gh} {w:W} {ts:List Tr} {M:Nat} {Q:WK} {E:XWK},sX h w ts→ts.length≤1000→M≤4000→(∀ t∈ts,Pl t∧SmT M t)→Q (.bl (rM ts)) h→c0 [w] h Q E
theorem w_share {dot cr:MSp}(hdot:DotOk dot)(hcr:CrsOk cr):nF (qG dot cr):=by
 intro h w ts M Q E e hl hM hs q
 show mLC ow1 [0] (nIt (aB 0)) (bA (mOp kNe (aB 0) (mOp kIx (aB 1) (mC (.int 0))))) (aB 0) [some w,none,none] h _
 match ts,e,hl,hs,q with
 | [],e,hl,hs,q=>
  obtain ⟨ev,s,es,ew,go⟩:=e.src
  rw [vp (all_two [] (by decide))] at q
  show (match pZ h w with
   | some s=>_
   | none=>False)
  rw [es]
  show iU s.ws.length (nC s _ _ _ _ _ _ s.ws [] h)
  rw [ew]
  show s.go h _
  refine go _ ?_
  exact tE rfl q
 | t0::r,e,hl,hs,q=>
  refine lc_unlike e hl ?_
  generalize hts:t0::r=ts at *
  have m0:t0∈ts:=by rw [←hts];simp
  have hus:∀ t,t∈ts.filter (·≠t0)↔t∈ts∧t≠t0:=fun t=>by rw [List.mem_filter];simp
  have hlu:(ts.filter (·≠t0)).length≤ts.length:=List.length_filter_le ..
  generalize ts.filter (·≠t0)=us at hus hlu
  match us,hus,hlu with
  | [],hus,_=>
   rw [vp (all_same (t0:=t0) fun t ht=>by
    by_cases e:t=t0
    ·exact e
    ·exact absurd ((hus t).mpr ⟨ht,e⟩) (by simp))] at q
   exact tE rfl q
  | u::us,hus,hlu=>
   have hu:=(hus u).mp (by simp)
   refine nJ rfl ?_
   obtain ⟨ev,s,es,ew,go⟩:=e.src
   show (match view h w with
    | some ws=>(match atI ws 0 with
     | some w=>_
     | none=>False)
    | none=>False)
   rw [ev]
   dsimp only
   rw [show atI (ts.map tw) 0=some (tw t0) by rw [←hts];exact zB _ _]
   show (match atI ((u::us).map tw) 0 with
    | some w=>_
    | none=>False)
   rw [zB]
   show cr [tw t0,tw u] h _ _
   refine hcr (m:=M) (by omega) (hs _ m0).2 (hs _ hu.1).2 ?_
   have sc:=qu (hs _ m0).2 (hs _ hu.1).2
   have it:=share_iff (u:=u) m0 hu.1 hu.2 fun t ht=>(hs t ht).1
   generalize crs t0 u=n at sc it
   generalize hvs:u::us=vs at *
   show mLC ow1 [2] (nIt (aB 1)) fX (mOp kEq (aH dot E (aq (aB 1) (aq (aB 0) aL))) (mC (.int 0))) [some w,some (.lst (vs.map tw)),some (tw n)] h _
   refine w_lcS (w:=.lst (vs.map tw)) (ws:=vs.map tw) rfl rfl (by rw [List.length_map];exact Nat.le_trans (Nat.le_trans hlu hl) (by decide)) ?_
   refine jX (fun i acc h'=>h'=h∧acc=((vs.take i).map fun t=>dt3 n t==0).map W.bl) ?_ ?_ ⟨rfl,rfl⟩
   ·rintro i w2 acc h' N hN e2 ⟨rfl,rfl⟩
    obtain ⟨t,et,rfl⟩:=tw_get e2
    have mt:=(hus t).mp (List.mem_of_getElem? et)
    refine ⟨[tw t],rfl,?_⟩
    show dot [tw n,tw t] h' _ _
    refine hdot (m:=M+M+1) (by omega) sc ((hs t mt.1).2.mono (by omega)) ?_
    show N (_++[W.bl (eqW (.int (dt3 n t)) (.int 0))]) h'
    rw [cA]
    refine hN _ _ ⟨rfl,?_⟩
    rw [List.take_succ,et]
    simp
   ·rintro acc h' ⟨rfl,rfl⟩
    rw [List.length_map,List.take_length]
    show (match blsW ((vs.map fun t=>dt3 n t==0).map W.bl) with
     | some bs=>Q (.bl (bs.all id)) h'
     | none=>False)
    rw [uU]
    have ef:(vs.map fun t=>dt3 n t==0).all id=rM ts:=by
     by_cases H:AllP ts
     ·rw [vp H,List.all_eq_true]
      intro b hb
      obtain ⟨t,ht,rfl⟩:=List.mem_map.mp hb
      have:=it.mpr H t ((hus t).mp ht).1 ((hus t).mp ht).2
      simp [this]
     ·rw [flatB_f H]
      refine Bool.eq_false_iff.mpr fun hb=>H (it.mp fun t ht hne=>?_)
      rw [List.all_eq_true] at hb
      have:=hb _ (List.mem_map.mpr ⟨t,(hus t).mpr ⟨ht,hne⟩,rfl⟩)
      simpa using this
    dsimp only
    rw [ef]
    exact q
theorem w_on_line {sh:MSp}(hsh:nF sh):nF (wU sh):=by
 intro h w ts M Q E e hl hM hs q
 show sh [w] h _ _
 exact hsh e hl hM hs q
theorem for_invS {s:Src}{ws:List W}{g:MG}{b:MS}{D:bD}(I:Nat→Sw→Gh→Prop)(go:∀ i σ h,I i σ h→∀ P:Prop,P→s.go h P)
  (step:∀ (i:Nat) (w:W) (σ : Sw) (h:Gh) (N:Sw→Gh→Prop),(∀ σ' h',I (i+1) σ' h'→N σ' h')→ws[i]?=some w→I i σ h→g w σ h fun σ1 h1=>b { D with nx:=N,ct:=N,bk:=D.nx } σ1 h1)
  (fin:∀ σ h,I ws.length σ h→D.nx σ h):∀ {σ : Sw} {h:Gh},I 0 σ h→dD s g b D ws σ h:=by
 induction ws generalizing I with
 | nil=>intro σ h h0;exact go 0 σ h h0 _ (fin σ h h0)
 | cons w ws ih=>
  intro σ h h0
  refine go 0 σ h h0 _ ?_
  refine step 0 w σ h _ (fun σ' h' q=>?_) rfl h0
  exact ih (fun i=>I (i+1)) (fun i=>go (i+1)) (fun i w σ h N hN e hi=>step (i+1) w σ h N hN (by simpa using e) hi) (fun σ h q=>fin σ h q) q
theorem for_seen {i:Nat}{g:MG}{b:MS}{D:bD}{σ : Sw}{h:Gh}{w:W}{ts:List Tr}(hv:σ[i]?=some (some w))(e:sX h w ts)(I:Nat→Sw→Gh→Prop)
  (go:∀ i σ h',I i σ h'→sX h' w ts)
  (step:∀ (i:Nat) (t:Tr) (σ : Sw) (h:Gh) (N:Sw→Gh→Prop),(∀ σ' h',I (i+1) σ' h'→N σ' h')→ts[i]?=some t→I i σ h→g (tw t) σ h fun σ1 h1=>b { D with nx:=N,ct:=N,bk:=D.nx } σ1 h1)
  (fin:∀ σ h,I ts.length σ h→D.nx σ h) (h0:I 0 σ h):p8 (nIt (aB i)) g b D σ h:=by
 unfold p8 nIt aB
 rw [hv]
 dsimp only
 have gen:∀ s:Src,pZ h w=some s→s.ws=ts.map tw→(∀ h',sX h' w ts→∀ P:Prop,P→s.go h' P)→(match pZ h w with
   | some s=>dD s g b D s.ws σ h
   | none=>False):=by
  intro s es ew hg
  rw [es]
  show dD s g b D s.ws σ h
  rw [ew]
  refine for_invS I (fun i σ h' hi=>hg h' (go i σ h' hi)) (fun i w σ h N hN e hi=>?_) (fun σ h q=>fin σ h (by rwa [List.length_map] at q)) h0
  obtain ⟨t,et,rfl⟩:=tw_get e
  exact step i t σ h N hN et hi
 rcases e with rfl | ⟨n,rfl,e⟩
 ·exact gen ⟨ts.map tw,none⟩ rfl rfl fun _ _ _ p=>p
 ·refine gen ⟨ts.map tw,some (n,ts.map tw)⟩ (by simp only [pZ,e]) rfl fun h' e' P p=>⟨?_,p⟩
  rcases e' with e' | ⟨n',e',q⟩
  ·cases e'
  ·cases e';exact q
theorem app_ok {h:Gh}{n:Nat}{us:List W}{w:W}{Q:WK}(e:h.c n=some (.lst us))(hz:us.length<sizeLine)(k:Q .non (h.set n (.lst (us++[w])))):eV (.loc n) [w] h Q:=by
 show (match h.c n with
  | some (Cell.lst us)=>_
  | _=>False)
 rw [e]
 exact ⟨hz,k⟩
theorem ext_ok {h:Gh}{n:Nat}{us zs:List W}{Q:WK}(e:h.c n=some (.lst us))(hz:us.length+zs.length≤sizeLine)(k:Q .non (h.set n (.lst (us++zs)))):gM (.loc n) [.lst zs] h Q:=by
 dsimp only [gM]
 rw [e]
 exact iU.mk hz k
theorem lc_rng {ma:MA}{j:Int}{own:W→Option (List W)}{ix:List Nat}{tt:MT}{te:ME}{σ : Sw}{h:Gh}{Q:WK}(hm:∀ R,ma σ h R=R [.int j] h)(h1:-(2^62)≤j)(h2:j<2^62)(hz:j.toNat≤sizeLine)(I:Nat→List W→Gh→Prop)
  (step:∀ (i:Nat) (acc:List W) (h:Gh) (N:List W→Gh→Prop),(∀ acc' h',I (i+1) acc' h'→N acc' h')→i<j.toNat→I i acc h →
   ∃ vs,own (.int (i:Int))=some vs∧tt (vs.map some++rC ix σ) h fun c h1=>by2 c (te (vs.map some++rC ix σ) h1 fun v h2=>N (acc++[v]) h2) (N acc h1))
  (fin:∀ acc h,I j.toNat acc h→Q (.lst acc) h) (h0:I 0 [] h):mLC own ix (gk ma) tt te σ h Q:=by
 unfold mLC gk
 rw [hm]
 refine w6.mk h1 h2 (iU.mk (by rw [vG];exact hz) ?_)
 refine jX I (fun i w acc h N hN e hi=>?_) (fun acc h q=>fin acc h (by rw [vG] at q;exact q)) h0
 obtain ⟨hlt,rfl⟩:=rngW_get e
 rw [Int.zero_add]
 exact step i acc h N hN hlt hi
abbrev Mt:=Tr×Tr×Tr
def vm (M:Mt)(v:Tr):Tr:=(dt3 M.1 v,dt3 M.2.1 v,dt3 M.2.2 v)
def tr (M:Mt):Mt:=((M.1.1,M.2.1.1,M.2.2.1),(M.1.2.1,M.2.1.2.1,M.2.2.2.1),(M.1.2.2,M.2.1.2.2,M.2.2.2.2))
def mm (M N:Mt):Mt:=(vm (tr N) M.1,vm (tr N) M.2.1,vm (tr N) M.2.2)
def cof (M:Mt):Mt:=(crs M.2.1 M.2.2,crs M.2.2 M.1,crs M.1 M.2.1)
def adj (M:Mt):Mt:=tr (cof M)
def det (M:Mt):Int:=dt3 (crs M.1 M.2.1) M.2.2
def sM (k:Int)(M:Mt):Mt:=(sc k M.1,sc k M.2.1,sc k M.2.2)
def idM:Mt:=((1,0,0),(0,1,0),(0,0,1))
theorem tr3 {p q:Tr}(h1:p.1=q.1)(h2:p.2.1=q.2.1)(h3:p.2.2=q.2.2):p=q:=Prod.ext h1 (Prod.ext h2 h3)
theorem mt3 {M N:Mt}(h1:M.1=N.1)(h2:M.2.1=N.2.1)(h3:M.2.2=N.2.2):M=N:=Prod.ext h1 (Prod.ext h2 h3)
theorem dt3_vm (x:Tr)(N:Mt)(v:Tr):dt3 (vm (tr N) x) v=dt3 x (vm N v):=by
 simp only [dt3,vm,tr]
 grind
theorem vm_mm (M N:Mt)(v:Tr):vm (mm M N) v=vm M (vm N v):=by
 simp only [mm]
 exact tr3 (dt3_vm _ _ _) (dt3_vm _ _ _) (dt3_vm _ _ _)
theorem tr_mm (M N:Mt):tr (mm M N)=mm (tr N) (tr M):=by
 simp only [mm,tr,vm]
 refine mt3 (tr3 ?_ ?_ ?_) (tr3 ?_ ?_ ?_) (tr3 ?_ ?_ ?_) <;> exact dt3_comm _ _
theorem eU (M:Mt)(k:Int)(v:Tr):vm M (sc k v)=sc k (vm M v):=tr3 (kj _ _ _) (kj _ _ _) (kj _ _ _)
theorem rO (M:Mt)(k:Int)(v:Tr):vm (sM k M) v=sc k (vm M v):=tr3 (wL _ _ _) (wL _ _ _) (wL _ _ _)
theorem tr_sM (M:Mt)(k:Int):tr (sM k M)=sM k (tr M):=rfl
theorem mm_sl (k:Int)(M N:Mt):mm (sM k M) N=sM k (mm M N):=mt3 (eU _ _ _) (eU _ _ _) (eU _ _ _)
theorem mm_sr (k:Int)(M N:Mt):mm M (sM k N)=sM k (mm M N):=by
 simp only [mm,tr_sM]
 exact mt3 (rO _ _ _) (rO _ _ _) (rO _ _ _)
theorem id_vm (v:Tr):vm idM v=v:=by
 obtain ⟨a,b,c⟩:=v
 simp [vm,idM,dt3]
theorem mm_adj (M:Mt):mm M (adj M)=sM (det M) idM:=by
 obtain ⟨⟨a,b,c⟩,⟨d,e,f⟩,⟨g,h,i⟩⟩:=M
 simp only [mm,vm,adj,tr,cof,det,sM,idM,sc,dt3,crs]
 refine mt3 (tr3 ?_ ?_ ?_) (tr3 ?_ ?_ ?_) (tr3 ?_ ?_ ?_) <;> simp only <;> grind
theorem adj_mm (M:Mt):mm (adj M) M=sM (det M) idM:=by
 obtain ⟨⟨a,b,c⟩,⟨d,e,f⟩,⟨g,h,i⟩⟩:=M
 simp only [mm,vm,adj,tr,cof,det,sM,idM,sc,dt3,crs]
 refine mt3 (tr3 ?_ ?_ ?_) (tr3 ?_ ?_ ?_) (tr3 ?_ ?_ ?_) <;> simp only <;> grind
theorem crs_vm (M:Mt)(p q:Tr):crs (vm M p) (vm M q)=vm (cof M) (crs p q):=by
 obtain ⟨⟨a,b,c⟩,⟨d,e,f⟩,⟨g,h,i⟩⟩:=M
 obtain ⟨p1,p2,p3⟩:=p
 obtain ⟨q1,q2,q3⟩:=q
 simp only [vm,cof,dt3,crs]
 refine tr3 ?_ ?_ ?_ <;> simp only <;> grind
theorem dt3_cof (M:Mt)(x v:Tr):dt3 (vm (cof M) x) (vm M v)=det M*dt3 x v:=by
 show dt3 (vm (tr (adj M)) x) (vm M v)=_
 rw [dt3_vm,←vm_mm,adj_mm,rO,id_vm,kj,Int.mul_comm]
theorem det_vm (M:Mt)(p q r:Tr):dt3 (crs (vm M p) (vm M q)) (vm M r)=det M*dt3 (crs p q) r:=by rw [crs_vm,dt3_cof]
theorem det_tr (M:Mt):det (tr M)=det M:=by
 obtain ⟨⟨a,b,c⟩,⟨d,e,f⟩,⟨g,h,i⟩⟩:=M
 simp only [det,tr,dt3,crs]
 grind
theorem det_mm (M N:Mt):det (mm M N)=det M*det N:=by
 show dt3 (crs (vm (tr N) M.1) (vm (tr N) M.2.1)) (vm (tr N) M.2.2)=_
 rw [det_vm,det_tr,Int.mul_comm]
 rfl
theorem det_sM (k:Int)(M:Mt):det (sM k M)=det M*(k*k*k):=by
 simp only [det,sM]
 rw [yG,wL,kj]
 grind
theorem det_sM_ne {k:Int}{M:Mt}(hk:k≠0):det (sM k M)≠0↔det M≠0:=by
 rw [det_sM]
 have:k*k*k≠0:=fun h=>(Int.mul_eq_zero.mp h).elim (fun h=>(Int.mul_eq_zero.mp h).elim hk hk) hk
 rw [ne_eq,bY this]
theorem det_id:det idM=1:=by decide
theorem cof_sM (k:Int)(M:Mt):cof (sM k M)=sM (k*k) (cof M):=mt3 (yG _ _ _ _) (yG _ _ _ _) (yG _ _ _ _)
theorem adj_sM (k:Int)(M:Mt):adj (sM k M)=sM (k*k) (adj M):=by unfold adj;rw [cof_sM];rfl
theorem yq (a b:Int)(M:Mt):sM a (sM b M)=sM (b*a) M:=mt3 (rQ _ _ _) (rQ _ _ _) (rQ _ _ _)
theorem sM_one (M:Mt):sM 1 M=M:=by simp [sM,sc]
theorem det_adj {M:Mt}(h:det M≠0):det (adj M)≠0:=by
 have e:=det_mm M (adj M)
 rw [mm_adj,det_sM,det_id] at e
 intro z
 rw [z,Int.mul_zero,Int.one_mul] at e
 exact (Int.mul_eq_zero.mp e).elim (fun e=>(Int.mul_eq_zero.mp e).elim h h) h
theorem vm_ne {M:Mt}{v:Tr}(h:det M≠0)(hv:v≠(0,0,0)):vm M v≠(0,0,0):=by
 intro e
 have e2:vm (adj M) (vm M v)=(0,0,0):=by rw [e];simp [vm,dt3]
 rw [←vm_mm,adj_mm,rO,id_vm] at e2
 exact hv ((sc_zero h).mp e2)
def ml (M:Mt):List Int:=tl M.1++(tl M.2.1++tl M.2.2)
def mw (M:Mt):W:=.tup [.int M.1.1,.int M.1.2.1,.int M.1.2.2,.int M.2.1.1,.int M.2.1.2.1,.int M.2.1.2.2,.int M.2.2.1,.int M.2.2.2.1,.int M.2.2.2.2]
def mwl (M:Mt):W:=.lst [.int M.1.1,.int M.1.2.1,.int M.1.2.2,.int M.2.1.1,.int M.2.1.2.1,.int M.2.1.2.2,.int M.2.2.1,.int M.2.2.2.1,.int M.2.2.2.2]
def PlM (M:Mt):Prop:=PlL (ml M)
def SmM (m:Nat)(M:Mt):Prop:=SmT m M.1∧SmT m M.2.1∧SmT m M.2.2
def ParM (U M:Mt):Prop:=∃ k,k≠0∧U=sM k M
theorem SmM.mono {m n:Nat}{M:Mt}(h:SmM m M)(e:m≤n):SmM n M:=⟨h.1.mono e,h.2.1.mono e,h.2.2.mono e⟩
theorem SmM.all {m:Nat}{M:Mt}(h:SmM m M):∀ n∈ml M,Sm m n:=by
 intro n hn
 unfold ml at hn
 rcases List.mem_append.mp hn with hn | hn
 ·exact h.1.all n hn
 ·rcases List.mem_append.mp hn with hn | hn
  ·exact h.2.1.all n hn
  ·exact h.2.2.all n hn
theorem ml_nz {M:Mt}(h:det M≠0):NZ (ml M):=by
 by_cases h1:M.1=(0,0,0)
 ·exact absurd (by unfold det;rw [h1];simp [crs,dt3]) h
 ·obtain ⟨n,hn,n0⟩:=tl_nz h1
  exact ⟨n,List.mem_append_left _ hn,n0⟩
theorem ml_map {M:Mt}{k:Int}{ms:List Int}(e:ml M=ms.map (· * k)):∃ N:Mt,ms=ml N∧M=sM k N:=by
 match ms,congrArg List.length e,e with
 | [a,b,c,d,e',f,g,h,i],_,e=>
  simp only [ml,tl,List.cons_append,List.nil_append,List.map_cons,List.map_nil,List.cons.injEq,and_true] at e
  refine ⟨((a,b,c),(d,e',f),(g,h,i)),rfl,?_⟩
  obtain ⟨e1,e2,e3,e4,e5,e6,e7,e8,e9⟩:=e
  exact mt3 (tr3 e1 e2 e3) (tr3 e4 e5 e6) (tr3 e7 e8 e9)
theorem ml_inj {M N:Mt}(h:ml M=ml N):M=N:=by
 simp only [ml,tl,List.cons_append,List.nil_append,List.cons.injEq,and_true] at h
 obtain ⟨e1,e2,e3,e4,e5,e6,e7,e8,e9⟩:=h
 exact mt3 (tr3 e1 e2 e3) (tr3 e4 e5 e6) (tr3 e7 e8 e9)
theorem ml_sM (k:Int)(M:Mt):ml (sM k M)=(ml M).map (· * k):=rfl
theorem plM_eq {M N:Mt}(hM:PlM M)(hN:PlM N){s t:Int}(hs:s≠0)(ht:t≠0)(h:sM s M=sM t N):M=N:=
 ml_inj (plL_eq hM hN hs ht (by rw [←ml_sM,←ml_sM,h]))
theorem ParM.det {U M:Mt}(h:ParM U M):My.det U≠0↔My.det M≠0:=by
 obtain ⟨k,hk,rfl⟩:=h
 exact det_sM_ne hk
theorem wX.mt {c0:MSp}(hc:wX c0){h:Gh}{w:W}{U:Mt}{m:Nat}{Q:WK}{E:XWK}(hw:w=mw U∨w=mwl U)(h0:My.det U≠0)(hs:SmM m U)(hm:m≤8000)
  (q:∀ M:Mt,PlM M→ParM U M→SmM m M→Q (mw M) h):c0 [w] h Q E:=by
 refine hc (ns:=ml U) (m:=m) ?_ (ml_nz h0) hs.all hm (show 9≤1000 by decide) fun ms k hk e pl sm=>?_
 ·rcases hw with rfl | rfl
  ·exact .inr rfl
  ·exact .inl rfl
 ·obtain ⟨M,rfl,e'⟩:=ml_map e
  refine q M pl ⟨k,hk,e'⟩ ⟨⟨sm _ ?_,sm _ ?_,sm _ ?_⟩,⟨sm _ ?_,sm _ ?_,sm _ ?_⟩,⟨sm _ ?_,sm _ ?_,sm _ ?_⟩⟩ <;> simp [ml,tl]
theorem dt3_sm {m n:Nat}{p q:Tr}(hp:SmT m p)(hq:SmT n q):Sm (m+n+2) (dt3 p q):=
 ((hp.1.mul hq.1).add (hp.2.1.mul hq.2.1)).add (hp.2.2.mul hq.2.2) |>.mono (by omega)
theorem tr_sm {m:Nat}{M:Mt}(h:SmM m M):SmM m (tr M):=⟨⟨h.1.1,h.2.1.1,h.2.2.1⟩,⟨h.1.2.1,h.2.1.2.1,h.2.2.2.1⟩,⟨h.1.2.2,h.2.1.2.2,h.2.2.2.2⟩⟩
theorem vm_sm {m n:Nat}{M:Mt}{v:Tr}(h:SmM m M)(hv:SmT n v):SmT (m+n+2) (vm M v):=⟨dt3_sm h.1 hv,dt3_sm h.2.1 hv,dt3_sm h.2.2 hv⟩
theorem mm_sm {m n:Nat}{M N:Mt}(h:SmM m M)(h':SmM n N):SmM (n+m+2) (mm M N):=⟨vm_sm (tr_sm h') h.1,vm_sm (tr_sm h') h.2.1,vm_sm (tr_sm h') h.2.2⟩
theorem cof_sm {m:Nat}{M:Mt}(h:SmM m M):SmM (m+m+1) (cof M):=⟨qu h.2.1 h.2.2,qu h.2.2 h.1,qu h.1 h.2.1⟩
theorem adj_sm {m:Nat}{M:Mt}(h:SmM m M):SmM (m+m+1) (adj M):=tr_sm (cof_sm h)
def simpW:W→Bool
 | .non | .bl _ | .int _ | .str _ | .tup _ | .lst _=>true
 | _=>false
def jr:W→Bool
 | .int _=>true
 | _=>false
def pQ (c0:MSp):Prop:=∀ {h:Gh} {w:W} {Q:WK} {E:XWK},simpW w=true→Q (.bl (jr w)) h→c0 [w] h Q E
theorem w_whole:pQ ux:=by
 intro h w Q E hs q
 cases w <;> first | exact q | cases hs
theorem w_lwhole:pQ wC:=by
 intro h w Q E hs q
 cases w <;> first | exact q | cases hs
def intsOf:List W→Option (List Int)
 | []=>some []
 | .int n::ws=>(intsOf ws).map (n::·)
 | _=>none
theorem nP:∀ ns:List Int,intsOf (ns.map W.int)=some ns
 | []=>rfl
 | n::ns=>by rw [List.map_cons,intsOf,nP ns];rfl
theorem jx:∀ {ws:List W},ws.all jr=true→∃ ns:List Int,ws=ns.map W.int
 | [],_=>⟨[],rfl⟩
 | w::ws,h=>by
  rw [List.all_cons,Bool.and_eq_true] at h
  obtain ⟨ns,rfl⟩:=jx h.2
  cases w with
  | int n=>exact ⟨n::ns,rfl⟩
  | _=>exact absurd h.1 Bool.false_ne_true
theorem nM:∀ {ws:List W},ws.all jr=false→intsOf ws=none
 | [],h=>by simp at h
 | w::ws,h=>by
  cases w with
  | int n=>
   have:ws.all jr=false:=by simpa [List.all_cons,jr] using h
   rw [intsOf,nM this];rfl
  | _=>rfl
instance (ns:List Int):Decidable (PlL ns):=inferInstanceAs (Decidable (_∧_))
def rowB (many:Int):W→Bool
 | .tup ws=>decide ((ws.length:Int)=many)&&(match intsOf ws with
  | some ns=>decide (PlL ns)
  | none=>false)
 | _=>false
def okW (m:Nat):W→Prop
 | .tup ws=>ws.length≤1000∧m≤8000∧(∀ w∈ws,simpW w=true)∧∀ n,W.int n∈ws→Sm m n
 | w=>simpW w=true
theorem lc_whole {wh:MSp}(hwh:pQ wh){ix:List Nat}{i:Nat}{σ : Sw}{h:Gh}{E:XWK}{Q:WK}{w:W}{ws:List W}(hv:σ[i]?=some (some w))(hs:pZ h w=some ⟨ws,none⟩)(hz:ws.length≤sizeLine)(hw:∀ w∈ws,simpW w=true)(k:Q (.lst ((ws.map jr).map .bl)) h) :
  mLC ow1 ix (nIt (aB i)) fX (aH wh E (aq (aB 0) aL)) σ h Q:=by
 unfold mLC nIt aB
 rw [hv]
 dsimp only
 rw [hs]
 refine iU.mk hz ?_
 refine jX (fun i acc h'=>h'=h∧acc=((ws.take i).map jr).map W.bl) ?_ ?_ ⟨rfl,rfl⟩
 ·rintro i w acc h' N hN e ⟨rfl,rfl⟩
  refine ⟨[w],rfl,?_⟩
  refine hwh (hw w (List.mem_of_getElem? e)) ?_
  refine hN _ _ ⟨rfl,?_⟩
  rw [List.take_succ,e]
  simp
 ·rintro acc h' ⟨rfl,rfl⟩
  rw [List.take_length]
  exact k
theorem all_bls {us:List Bool}{h:Gh}{Q:WK}(k:Q (.bl (us.all id)) h):kAll [.lst (us.map .bl)] h Q:=by
 show (match blsW (us.map W.bl) with
  | some bs=>Q (.bl (bs.all id)) h
  | none=>False)
 rw [uU]
 exact k
theorem any_bls {us:List Bool}{h:Gh}{Q:WK}(k:Q (.bl (us.any id)) h):kAny [.lst (us.map .bl)] h Q:=by
 show (match blsW (us.map W.bl) with
  | some bs=>Q (.bl (bs.any id)) h
  | none=>False)
 rw [uU]
 exact k
theorem all_id (ws:List W):(ws.map jr).all id=ws.all jr:=by rw [List.all_map];rfl
def RowOk (c0:MSp):Prop:=∀ {h:Gh} {w:W} {many:Int} {m:Nat} {Q:WK} {E:XWK},okW m w→Q (.bl (rowB many w)) h→c0 [w,.int many] h Q E
theorem decN {a b:Int}:(!eqW (.int a) (.int b)) = !decide (a=b):=by rw [cA];rfl
theorem w_is_plain {wh dv en:MSp}(hwh:pQ wh)(hdv:jf dv)(hen:EndsL en):RowOk (tH wh dv en):=by
 intro h w many m Q E ok q
 cases w with
 | tup ws=>
  obtain ⟨hl,hm,hs,hn⟩:=ok
  refine nJ rfl ?_
  show br (!eqW (.int (ws.length:Int)) (.int many)) _ _
  rw [decN]
  dsimp only [rowB] at q
  by_cases e:(ws.length:Int)=many
  ·rw [decide_eq_true e,Bool.true_and] at q
   refine nJ (by rw [decide_eq_true e];rfl) ?_
   show mLC ow1 [] (nIt (aB 0)) fX (aH wh E (aq (aB 0) aL)) [some (.tup ws),some (.int many)] h _
   refine lc_whole hwh (w:=.tup ws) rfl rfl (Nat.le_trans hl (by decide)) hs ?_
   dsimp only [aL]
   refine all_bls ?_
   rw [all_id]
   cases ea:ws.all jr with
   | false=>
    rw [nM ea] at q
    exact tE rfl q
   | true=>
    refine nJ rfl ?_
    obtain ⟨ns,rfl⟩:=jx ea
    rw [nP] at q
    show dv [.tup (ns.map .int)] h _ _
    refine hdv (.inr rfl) ?_
    show (match W.bl (eqW (.int (gL ns)) (.int 1)) with
     | .bl true=>_
     | .bl false=>_
     | _=>False)
    rw [cA]
    by_cases e1:gL ns=1
    ·rw [show (gL ns==1)=true by simpa using e1]
     show en [.tup (ns.map .int)] h _ _
     refine hen (.inr rfl) ?_
     have e2:decide (PlL ns) = !decide (eF ns<0):=by
      have l0:eF ns≠0:=vU (by
       by_cases z:NZ ns
       ·exact z
       ·exfalso
        have:∀ l:List Int,(¬ NZ l)→gL l=0:=by
         intro l hl
         have hz:∀ n∈l,n=0:=fun n hn=>by
          by_cases e:n=0
          ·exact e
          ·exact absurd ⟨n,hn,e⟩ hl
         have:l=l.map (· * 0):=by
          conv=>lhs;rw [←List.map_id l]
          exact List.map_congr_left fun n hn=>by rw [hz n hn];rfl
         rw [this,gL_mul]
         simp
        rw [this ns z] at e1
        exact absurd e1 (by decide))
      by_cases e3:eF ns<0
      ·rw [decide_eq_true e3]
       exact decide_eq_false fun z=>by have:=z.2;omega
      ·rw [decide_eq_false e3]
       exact decide_eq_true ⟨e1,by omega⟩
     dsimp only at q
     rw [e2] at q
     exact q
    ·rw [show (gL ns==1)=false by simpa using e1]
     dsimp only at q
     rw [decide_eq_false fun z=>e1 z.1] at q
     exact q
  ·rw [decide_eq_false e,Bool.false_and] at q
   exact tE (by rw [decide_eq_false e];rfl) q
 | _=>first | (refine tE rfl (tE rfl ?_);exact q) | cases ok
theorem plW_ints (n:Nat)(ns:List Int):plW (n+1) (.tup (ns.map W.int))=true:=by
 show (ns.map W.int).all (plW n)=true
 rw [List.all_map,List.all_eq_true]
 intro x _
 cases n <;> rfl
theorem eqs_ints:∀ ns ms:List Int,mY (ns.map W.int) (ms.map W.int)=decide (ns=ms)
 | [],[]=>rfl
 | [],_::_=>rfl
 | _::_,[]=>rfl
 | a::ns,b::ms=>by
  rw [List.map_cons,List.map_cons,mY,cA,eqs_ints ns ms]
  by_cases e:a=b <;> by_cases e':ns=ms <;> simp [e,e']
theorem eq_ints (ns ms:List Int):eqW (.tup (ns.map W.int)) (.tup (ms.map W.int))=decide (ns=ms):=by rw [eqW,eqs_ints]
theorem kEq_ints {ns ms:List Int}{h:Gh}{Q:WK}(k:Q (.bl (decide (ns=ms))) h):kEq (.tup (ns.map .int)) (.tup (ms.map .int)) h Q:=by
 show by2 (plW 30 (.tup (ns.map W.int))&&plW 30 (.tup (ms.map W.int))) (Q (.bl (eqW (.tup (ns.map W.int)) (.tup (ms.map W.int)))) h) False
 rw [plW_ints 29,plW_ints 29,eq_ints]
 exact k
theorem lc_ne0 {ix:List Nat}{i:Nat}{σ : Sw}{h:Gh}{Q:WK}{w:W}{ns:List Int}(hv:σ[i]?=some (some w))(hs:pZ h w=some ⟨ns.map .int,none⟩)(hz:ns.length≤sizeLine)(k:Q (.lst ((ns.map fun n=>decide (n≠0)).map .bl)) h) :
  mLC ow1 ix (nIt (aB i)) fX (mOp kNe (aB 0) (mC (.int 0))) σ h Q:=by
 unfold mLC nIt aB
 rw [hv]
 dsimp only
 rw [hs]
 refine iU.mk (by rw [List.length_map];exact hz) ?_
 refine jX (fun i acc h'=>h'=h∧acc=((ns.take i).map fun n=>decide (n≠0)).map W.bl) ?_ ?_ ⟨rfl,rfl⟩
 ·rintro i w acc h' N hN e ⟨rfl,rfl⟩
  obtain ⟨n,en,rfl⟩:=ints_get e
  refine ⟨[.int n],rfl,?_⟩
  show N (_++[W.bl (!eqW (.int n) (.int 0))]) h'
  refine hN _ _ ⟨rfl,?_⟩
  rw [List.take_succ,en,decN]
  simp
 ·rintro acc h' ⟨rfl,rfl⟩
  rw [List.length_map,List.take_length]
  exact k
theorem nz_any (ns:List Int):(ns.map fun n=>decide (n≠0)).any id=true↔NZ ns:=by
 rw [List.any_map,List.any_eq_true]
 exact ⟨fun ⟨n,hn,h⟩=>⟨n,hn,by simpa using h⟩,fun ⟨n,hn,h⟩=>⟨n,hn,by simpa using h⟩⟩
theorem w_is_row {wh pl:MSp}(hwh:pQ wh)(hpl:wX pl):RowOk (tM wh pl):=by
 intro h w many m Q E ok q
 cases w with
 | tup ws=>
  obtain ⟨hl,hm,hs,hn⟩:=ok
  have hz:ws.length≤sizeLine:=Nat.le_trans hl (by decide)
  refine nJ rfl ?_
  show br (!eqW (.int (ws.length:Int)) (.int many)) _ _
  rw [decN]
  dsimp only [rowB] at q
  by_cases e:(ws.length:Int)=many
  ·rw [decide_eq_true e,Bool.true_and] at q
   refine nJ (by rw [decide_eq_true e];rfl) ?_
   show mLC ow1 [] (nIt (aB 0)) fX (aH wh E (aq (aB 0) aL)) [some (.tup ws),some (.int many)] h _
   refine lc_whole hwh (w:=.tup ws) rfl rfl hz hs ?_
   dsimp only [aL]
   refine all_bls ?_
   rw [all_id]
   cases ea:ws.all jr with
   | false=>
    rw [nM ea] at q
    exact tE rfl q
   | true=>
    refine nJ rfl ?_
    obtain ⟨ns,rfl⟩:=jx ea
    rw [nP] at q
    rw [List.length_map] at hz hl
    show mLC ow1 [] (nIt (aB 0)) fX (mOp kNe (aB 0) (mC (.int 0))) [some (.tup (ns.map .int)),some (.int many)] h _
    refine lc_ne0 (w:=.tup (ns.map .int)) rfl rfl hz ?_
    dsimp only [aL]
    refine any_bls ?_
    by_cases z:NZ ns
    ·rw [(nz_any ns).mpr z]
     show pl [.tup (ns.map .int)] h _ _
     refine hpl (.inr rfl) z (fun n hn'=>hn n (List.mem_map.mpr ⟨n,hn',rfl⟩)) hm hl fun ms k hk em pm sm=>?_
     refine kEq_ints ?_
     have:(ms=ns)↔PlL ns:=⟨fun e=>e ▸ pm,fun p=>plL_eq pm p (s:=k) (t:=1) hk (by decide) (by rw [←em];simp)⟩
     rw [show decide (ms=ns)=decide (PlL ns) from decide_eq_decide.mpr this]
     exact q
    ·have:(ns.map fun n=>decide (n≠0)).any id=false:=Bool.eq_false_iff.mpr fun e=>z ((nz_any ns).mp e)
     rw [this]
     dsimp only at q
     rw [decide_eq_false fun p=>z p.nz] at q
     exact q
  ·rw [decide_eq_false e,Bool.false_and] at q
   exact tE (by rw [decide_eq_false e];rfl) (tE rfl q)
 | _=>first | (refine tE rfl (tE rfl ?_);exact q) | cases ok
def lw (t:Tr):W:=.lst [.int t.1,.int t.2.1,.int t.2.2]
def rwB (b:Bool)(t:Tr):W:=if b then tw t else lw t
def MwB (b:Bool)(M:Mt):W:=if b then mw M else mwl M
def CrsG (c0:MSp):Prop:=∀ {h:Gh} {p q:Tr} {m:Nat} {Q:WK} {E:XWK} (b b':Bool),m≤10000→SmT m p→SmT m q→Q (tw (crs p q)) h→c0 [rwB b p,rwB b' q] h Q E
def DotG (c0:MSp):Prop:=∀ {h:Gh} {p q:Tr} {m:Nat} {Q:WK} {E:XWK} (b b':Bool),m≤10000→SmT m p→SmT m q→Q (.int (dt3 p q)) h→c0 [rwB b p,rwB b' q] h Q E
theorem uG:CrsG za:=by
 intro h p q m Q E b b' hm hp hq k
 obtain ⟨x,y,z⟩:=q
 obtain ⟨a,b2,c⟩:=p
 obtain ⟨ha,hb,hc⟩:=hp
 obtain ⟨hx,hy,hz⟩:=hq
 simp only at ha hb hc hx hy hz
 cases b <;> cases b'
 ·((conv=>whnf);repeat (refine And.intro (by exact dR.of (by trivial) (by trivial) (by omega) (by omega)) ?_;conv=>whnf))
  exact k
 ·((conv=>whnf);repeat (refine And.intro (by exact dR.of (by trivial) (by trivial) (by omega) (by omega)) ?_;conv=>whnf))
  exact k
 ·((conv=>whnf);repeat (refine And.intro (by exact dR.of (by trivial) (by trivial) (by omega) (by omega)) ?_;conv=>whnf))
  exact k
 ·((conv=>whnf);repeat (refine And.intro (by exact dR.of (by trivial) (by trivial) (by omega) (by omega)) ?_;conv=>whnf))
  exact k
theorem Aa:DotG r_dot:=by
 intro h p q m Q E b b' hm hp hq k
 obtain ⟨x,y,z⟩:=q
 obtain ⟨a,b2,c⟩:=p
 obtain ⟨ha,hb,hc⟩:=hp
 obtain ⟨hx,hy,hz⟩:=hq
 simp only at ha hb hc hx hy hz
 cases b <;> cases b'
 ·((conv=>whnf);repeat (refine And.intro (by exact dR.of (by trivial) (by trivial) (by omega) (by omega)) ?_;conv=>whnf))
  exact k
 ·((conv=>whnf);repeat (refine And.intro (by exact dR.of (by trivial) (by trivial) (by omega) (by omega)) ?_;conv=>whnf))
  exact k
 ·((conv=>whnf);repeat (refine And.intro (by exact dR.of (by trivial) (by trivial) (by omega) (by omega)) ?_;conv=>whnf))
  exact k
 ·((conv=>whnf);repeat (refine And.intro (by exact dR.of (by trivial) (by trivial) (by omega) (by omega)) ?_;conv=>whnf))
  exact k
def yx (c0:MSp):Prop:=∀ {h:Gh} {M:Mt} {Q:WK} {E:XWK} (b:Bool),Q (.lst [rwB b M.1,rwB b M.2.1,rwB b M.2.2]) h→c0 [MwB b M] h Q E
theorem Af:yx wM:=by
  intro h M Q E b k
  cases b
  · exact k
  · first
    | exact k
    | (refine And.intro (by decide:¬ ((0:Nat)=0∧(3:Nat)=9)) (And.intro (by decide:¬ ((3:Nat)=0∧(6:Nat)=9)) (And.intro (by decide:¬ ((6:Nat)=0∧(9:Nat)=9)) ?_))
       exact k)
def o8 (c0:MSp):Prop:=∀ {h:Gh} {M:Mt} {m:Nat} {Q:WK} {E:XWK} (b:Bool),m≤10000→SmM m M→Q (mw (cof M)) h→c0 [MwB b M] h Q E
theorem w_turned {cr ro:MSp}(hcr:CrsG cr)(hro:yx ro):o8 (zY cr ro):=by
 intro h M m Q E b hm hs k
 show ro [MwB b M] h _ _
 refine hro b ?_
 show cr [rwB b M.2.1,rwB b M.2.2] h _ _
 refine hcr b b hm hs.2.1 hs.2.2 ?_
 show cr [rwB b M.2.2,rwB b M.1] h _ _
 refine hcr b b hm hs.2.2 hs.1 ?_
 show cr [rwB b M.1,rwB b M.2.1] h _ _
 refine hcr b b hm hs.1 hs.2.1 ?_
 exact k
def SizeOk (c0:MSp):Prop:=∀ {h:Gh} {M:Mt} {m:Nat} {Q:WK} {E:XWK} (b:Bool),m≤4000→SmM m M→Q (.int (det M)) h→c0 [MwB b M] h Q E
def TurnG (c0:MSp):Prop:=∀ {h:Gh} {p q r:Tr} {m:Nat} {Q:WK} {E:XWK} (b:Bool),m≤4000→SmT m p→SmT m q→SmT m r→Q (.int (dt3 (crs p q) r)) h→c0 [rwB b p,rwB b q,rwB b r] h Q E
theorem w_turnG {dt cr:MSp}(hdt:DotG dt)(hcr:CrsG cr):TurnG (r_turn dt cr):=by
 intro h p q r m Q E b hm hp hq hr k
 show cr [rwB b p,rwB b q] h _ _
 refine hcr (m:=m) b b (by omega) hp hq ?_
 show dt [rwB true (crs p q),rwB b r] h _ _
 exact hdt (m:=m+m+1) true b (by omega) (qu hp hq) (hr.mono (by omega)) k
theorem w_size {tu ro:MSp}(htu:TurnG tu)(hro:yx ro):SizeOk (yw tu ro):=by
 intro h M m Q E b hm hs k
 show ro [MwB b M] h _ _
 refine hro b ?_
 show tu [rwB b M.1,rwB b M.2.1,rwB b M.2.2] h _ _
 exact htu b hm hs.1 hs.2.1 hs.2.2 k
def FlipOk (c0:MSp):Prop:=∀ {h:Gh} {M:Mt} {Q:WK} {E:XWK} (b:Bool),Q (mwl (tr M)) h→c0 [MwB b M] h Q E
theorem flip_at {b:Bool}{M:Mt}{h:Gh}{Q:WK}:∀ (i:Nat) (w:W),[W.int M.1.1,.int M.2.1.1,.int M.2.2.1,.int M.1.2.1,.int M.2.1.2.1,.int M.2.2.2.1,.int M.1.2.2,.int M.2.1.2.2,.int M.2.2.2.2][i]?=some w→Q w h →
  mOp kIx (aB 1) (mOp cC (mOp jc (mC (.int 3)) (mOp rZ (aB 0) (mC (.int 3)))) (mOp wg (aB 0) (mC (.int 3)))) [some (.int (i:Int)),some (MwB b M)] h Q:=by
 have c:∀ a b:Int,Nat.ble (a.natAbs+1) (2^64)=true→Nat.ble (b.natAbs+1) (2^64)=true→dR a b:=fun a b h1 h2=>.of (Sm.lit h1) (Sm.lit h2) (by decide) (by decide)
 have d:CDivBN 0 3:=⟨by decide,64,by decide,.lit rfl⟩
 intro i w e q
 match i,e with
 | 0,e | 1,e | 2,e | 3,e | 4,e | 5,e | 6,e | 7,e | 8,e=>
  have e':=Option.some.inj e
  subst e'
  refine And.intro (by decide) (And.intro (c _ _ rfl rfl) (And.intro d ?_))
  cases b
  ·exact q
  ·exact q
theorem w_flip:FlipOk xZ:=by
 intro h M Q E b k
 show mLC ow1 [0] (gk (aq (mC (.int 9)) aL)) fX (mOp kIx (aB 1) (mOp cC (mOp jc (mC (.int 3)) (mOp rZ (aB 0) (mC (.int 3)))) (mOp wg (aB 0) (mC (.int 3))))) [some (MwB b M)] h _
 refine lc_rng (j:=9) (fun _=>rfl) (by decide) (by decide) (by decide) (fun i acc h'=>h'=h∧acc=[W.int M.1.1,.int M.2.1.1,.int M.2.2.1,.int M.1.2.1,.int M.2.1.2.1,.int M.2.2.2.1,.int M.1.2.2,.int M.2.1.2.2,.int M.2.2.2.2].take i) ?_ ?_ ⟨rfl,rfl⟩
 ·rintro i acc h' N hN hlt ⟨rfl,rfl⟩
  refine ⟨[.int (i:Int)],rfl,?_⟩
  have hi:i < [W.int M.1.1,.int M.2.1.1,.int M.2.2.1,.int M.1.2.1,.int M.2.1.2.1,.int M.2.2.2.1,.int M.1.2.2,.int M.2.1.2.2,.int M.2.2.2.2].length:=hlt
  refine flip_at (b:=b) (M:=M) i _ (List.getElem?_eq_getElem hi) ?_
  refine hN _ _ ⟨rfl,?_⟩
  rw [List.take_succ,List.getElem?_eq_getElem hi]
  rfl
 ·rintro acc h' ⟨rfl,rfl⟩
  exact k
def TTTOk (c0:MSp):Prop:=∀ {h:Gh} {M N:Mt} {m:Nat} {Q:WK} {E:XWK} (b b':Bool),m≤4000→SmM m M→SmM m N→Q (mwl (mm M N)) h→c0 [MwB b M,MwB b' N] h Q E
theorem w_ttt {dt ro fl:MSp}(hdt:DotG dt)(hro:yx ro)(hfl:FlipOk fl):TTTOk (fu dt ro fl):=by
 intro h M N m Q E b b' hm hM hN k
 have hT:=tr_sm hN
 show fl [MwB b' N] h _ _
 refine hfl b' ?_
 show ro [MwB false (tr N)] h _ _
 refine hro false ?_
 show ro [MwB b M] (h.new (.lst [])) _ _
 refine hro b ?_
 have dots:∀ (g:Gh) (r:Tr) (s0 s1 s3:Option W) (Q':WK),SmT m r→Q' (.lst [.int (dt3 r (tr N).1),.int (dt3 r (tr N).2.1),.int (dt3 r (tr N).2.2)]) g →
   mLC ow1 [4] (nIt (aB 2)) fX (aH dt E (aq (aB 1) (aq (aB 0) aL))) [s0,s1,some (.lst [lw (tr N).1,lw (tr N).2.1,lw (tr N).2.2]),s3,some (rwB b r)] g Q':=by
  intro g r s0 s1 s3 Q' hr q
  show dt [rwB b r,rwB false (tr N).1] g _ _
  refine hdt b false (by omega) hr hT.1 ?_
  show dt [rwB b r,rwB false (tr N).2.1] g _ _
  refine hdt b false (by omega) hr hT.2.1 ?_
  show dt [rwB b r,rwB false (tr N).2.2] g _ _
  refine hdt b false (by omega) hr hT.2.2 ?_
  exact q
 show (match (h.new (.lst [])).c h.nx with
  | some (Cell.lst us)=>_
  | _=>False)
 rw [rJ]
 refine dots _ _ _ _ _ _ hM.1 ?_
 dsimp only [aL]
 refine ext_ok (rJ _ _) (by simp;decide) ?_
 show (match ((h.new (.lst [])).set h.nx _).c h.nx with
  | some (Cell.lst us)=>_
  | _=>False)
 rw [iW]
 refine dots _ _ _ _ _ _ hM.2.1 ?_
 dsimp only [aL]
 refine ext_ok (iW _ _ _) (by simp;decide) ?_
 show (match (((h.new (.lst [])).set h.nx _).set h.nx _).c h.nx with
  | some (Cell.lst us)=>_
  | _=>False)
 rw [iW]
 refine dots _ _ _ _ _ _ hM.2.2 ?_
 dsimp only [aL]
 refine ext_ok (iW _ _ _) (by simp;decide) ?_
 refine ⟨fun n c hn e=>?_,.inr ⟨h.nx,_,rfl,Nat.le_refl _,iW _ _ _,?_,?_⟩⟩
 ·rw [iQ (by omega),iQ (by omega),iQ (by omega),nW (by omega)]
  exact e
 ·simp [Lo,Los]
 ·have e:mwl (mm M N)=.lst [.int (dt3 M.1 (tr N).1),.int (dt3 M.1 (tr N).2.1),.int (dt3 M.1 (tr N).2.2),.int (dt3 M.2.1 (tr N).1),.int (dt3 M.2.1 (tr N).2.1),.int (dt3 M.2.1 (tr N).2.2),.int (dt3 M.2.2 (tr N).1),.int (dt3 M.2.2 (tr N).2.1),.int (dt3 M.2.2 (tr N).2.2)]:=by
   simp only [mwl,mm,vm,dt3_comm]
  rw [e] at k
  exact k
def BackOk (c0:MSp):Prop:=∀ {h:Gh} {M:Mt} {m:Nat} {Q:WK} {E:XWK},m≤3000→SmM m M→det M≠0→(∀ N,PlM N→ParM (adj M) N→SmM (m+m+1) N→Q (mw N) h)→c0 [mw M] h Q E
theorem w_back {pl fl tu:MSp}(hpl:wX pl)(hfl:FlipOk fl)(htu:o8 tu):BackOk (r_back pl fl tu):=by
 intro h M m Q E hm sM dM k
 show tu [MwB true M] h _ _
 refine htu true (by omega) sM ?_
 show fl [MwB true (cof M)] h _ _
 refine hfl true ?_
 show pl [mwl (adj M)] h _ _
 exact hpl.mt (m:=m+m+1) (.inr rfl) (det_adj dM) (adj_sm sM) (by omega) k
theorem rowM {M:Mt}(h:PlM M):rowB 9 (mw M)=true:=by
 show (decide ((9:Int)=9)&&decide (PlL (ml M)))=true
 rw [decide_eq_true (p:=PlL (ml M)) h];rfl
theorem okM {m:Nat}{M:Mt}(hm:m≤8000)(h:SmM m M):okW m (mw M):=by
 refine ⟨show 9≤1000 by decide,hm,fun w hw=>?_,fun n hn=>?_⟩
 ·simp only [List.mem_cons,List.not_mem_nil,or_false] at hw
  rcases hw with rfl | rfl | rfl | rfl | rfl | rfl | rfl | rfl | rfl <;> rfl
 ·refine h.all n ?_
  simp only [List.mem_cons,List.not_mem_nil,or_false,W.int.injEq] at hn
  simp only [ml,tl,List.cons_append,List.nil_append,List.mem_cons,List.not_mem_nil,or_false]
  exact hn
theorem RowOk.m {c0:MSp}(hc:RowOk c0){h:Gh}{M:Mt}{m:Nat}{Q:WK}{E:XWK}(hm:m≤8000)(hs:SmM m M)(hp:PlM M)(q:Q (.bl true) h):c0 [mw M,.int 9] h Q E:=hc (okM hm hs) (by rw [rowM hp];exact q)
def yQ (c0:MSp):Prop:=∀ {h:Gh} {M:Mt} {m:Nat} {Q:WK} {E:XWK},m≤4000→SmM m M→PlM M→det M≠0→Q (.bl true) h→c0 [mw M] h Q E
theorem w_is_map {ip sz:MSp}(hip:RowOk ip)(hsz:SizeOk sz):yQ (r_is_map ip sz):=by
 intro h M m Q E hm hs hp hd q
 show ip [mw M,.int 9] h _ _
 refine hip.m (by omega) hs hp ?_
 show sz [MwB true M] h _ _
 refine hsz true hm hs ?_
 show Q (.bl (!eqW (.int (det M)) (.int 0))) h
 rw [decN,decide_eq_false hd]
 exact q
def LedOk (c0:MSp):Prop:=∀ {h:Gh} {M:Mt} {v:Tr} {m:Nat} {Q:WK} {E:XWK},m≤3000→SmM m M→SmT m v→det M≠0→v≠(0,0,0)→(∀ t,Pl t→Par (vm M v) t→SmT (m+m+2) t→Q (tw t) h)→c0 [mw M,tw v] h Q E
theorem w_lled {pl dt:MSp}(hpl:wX pl)(hdt:DotOk dt):LedOk (r_l_led pl dt):=by
 intro h M v m Q E hm sM sv dM hv k
 have c:∀ b:Int,Nat.ble (b.natAbs+1) (2^64)=true→dR 3 b:=fun b h2=>.of (m:=64) (n:=64) (Sm.lit rfl) (Sm.lit h2) (by decide) (by decide)
 first | show mLC ow1 [0,1] (gk (aq (mC (.int 3)) aL)) fX (aH dt E (aq (mSl kSl2 (aB 1) (jZ (mOp jc (mC (.int 3)) (aB 0))) (jZ (mOp cC (mOp jc (mC (.int 3)) (aB 0)) (mC (.int 3))))) (aq (aB 2) aL))) [some (mw M),some (tw v)] h _ | show mLC ow1 [0,1] (gk (aq (mC (.int 3)) aL)) fX (aH dt E (aq (mSl kSl (aB 1) (jZ (mOp jc (mC (.int 3)) (aB 0))) (jZ (mOp cC (mOp jc (mC (.int 3)) (aB 0)) (mC (.int 3))))) (aq (aB 2) aL))) [some (mw M),some (tw v)] h _
 first | refine And.intro (c _ rfl) (And.intro (c _ rfl) (And.intro (by decide:¬ ((0:Nat)=0∧(3:Nat)=9)) ?_)) | refine And.intro (c _ rfl) (And.intro (c _ rfl) ?_)
 show dt [tw M.1,tw v] h _ _
 refine hdt (by omega) sM.1 sv ?_
 first | refine And.intro (c _ rfl) (And.intro (c _ rfl) (And.intro (by decide:¬ ((3:Nat)=0∧(6:Nat)=9)) ?_)) | refine And.intro (c _ rfl) (And.intro (c _ rfl) ?_)
 show dt [tw M.2.1,tw v] h _ _
 refine hdt (by omega) sM.2.1 sv ?_
 first | refine And.intro (c _ rfl) (And.intro (c _ rfl) (And.intro (by decide:¬ ((6:Nat)=0∧(9:Nat)=9)) ?_)) | refine And.intro (c _ rfl) (And.intro (c _ rfl) ?_)
 show dt [tw M.2.2,tw v] h _ _
 refine hdt (by omega) sM.2.2 sv ?_
 show pl [lw (vm M v)] h _ _
 exact hpl.tr (u:=vm M v) (m:=m+m+2) (.inr rfl) (vm_ne dM hv) (vm_sm sM sv) (by omega) k
def TTROk (c0:MSp):Prop:=∀ {h:Gh} {M:Mt} {v:Tr} {m:Nat} {Q:WK} {E:XWK} (b:Bool),m≤4000→SmM m M→SmT m v→Q (lw (vm M v)) h→c0 [MwB b M,tw v] h Q E
theorem w_ttr {dt ro:MSp}(hdt:DotG dt)(hro:yx ro):TTROk (gw dt ro):=by
 intro h M v m Q E b hm sM sv k
 show ro [MwB b M] h _ _
 refine hro b ?_
 show dt [rwB b M.1,rwB true v] h _ _
 refine hdt b true (by omega) sM.1 sv ?_
 show dt [rwB b M.2.1,rwB true v] h _ _
 refine hdt b true (by omega) sM.2.1 sv ?_
 show dt [rwB b M.2.2,rwB true v] h _ _
 refine hdt b true (by omega) sM.2.2 sv ?_
 exact k
theorem w_led {pl tt:MSp}(hpl:wX pl)(htt:TTROk tt):LedOk (r_led pl tt):=by
 intro h M v m Q E hm sM sv dM hv k
 show tt [MwB true M,tw v] h _ _
 refine htt true (by omega) sM sv ?_
 show pl [lw (vm M v)] h _ _
 exact hpl.tr (u:=vm M v) (m:=m+m+2) (.inr rfl) (vm_ne dM hv) (vm_sm sM sv) (by omega) k
def kfl (n:Str):List Bool:=[isX n "Nothing",isX n "Alike",isX n "NoMap",isX n "NotFree",isX n "NotOnLine",isX n "NoThrow",isX n "NoPicture",isX n "Apart"]
def tells (n:Str)(d:Int):Bool:=match kfl n with
 | [b0,b1,b2,b3,b4,b5,b6,b7]=>b0==decide (0=d)&&(b1==decide (1=d)&&(b2==decide (2=d)&&(b3==decide (3=d)&&(b4==decide (4=d)&&(b5==decide (5=d)&&(b6==decide (6=d)&&b7==decide (7=d)))))))
 | _=>false
def iD (p q r s:Tr):Mt:=tr (sc (vm (cof (p,q,r)) s).1 p,sc (vm (cof (p,q,r)) s).2.1 q,sc (vm (cof (p,q,r)) s).2.2 r)
structure Leads (A:Mt) (p q r s:Tr):Prop where
 a:Par (vm A (1,0,0)) p
 b:Par (vm A (0,1,0)) q
 c:Par (vm A (0,0,1)) r
 d:Par (vm A (1,1,1)) s
theorem vm_e0 (a b c:Tr):vm (tr (a,b,c)) (1,0,0)=a:=by simp [vm,tr,dt3]
theorem vm_e1 (a b c:Tr):vm (tr (a,b,c)) (0,1,0)=b:=by simp [vm,tr,dt3]
theorem vm_e2 (a b c:Tr):vm (tr (a,b,c)) (0,0,1)=c:=by simp [vm,tr,dt3]
theorem vm_u (X:Mt):vm X (1,1,1)=((vm X (1,0,0)).1+(vm X (0,1,0)).1+(vm X (0,0,1)).1,(vm X (1,0,0)).2.1+(vm X (0,1,0)).2.1+(vm X (0,0,1)).2.1,(vm X (1,0,0)).2.2+(vm X (0,1,0)).2.2+(vm X (0,0,1)).2.2):=by
 obtain ⟨⟨a,b,c⟩,⟨d,e,f⟩,⟨g,h,i⟩⟩:=X
 simp [vm,dt3]
theorem tiles_u (p q r s:Tr):vm (iD p q r s) (1,1,1)=sc (det (p,q,r)) s:=by
 have e:vm (iD p q r s) (1,1,1)=vm (tr (p,q,r)) (vm (cof (p,q,r)) s):=by
  rw [vm_u]
  unfold iD
  rw [vm_e0,vm_e1,vm_e2]
  generalize vm (cof (p,q,r)) s=f
  obtain ⟨f0,f1,f2⟩:=f
  simp only [vm,tr,dt3,sc]
 have k:cof (p,q,r)=tr (adj (p,q,r)):=rfl
 rw [e,←vm_mm,k,←tr_mm,adj_mm,tr_sM,show tr idM=idM from rfl,rO,id_vm]
theorem det_sc3 (a b c:Int)(p q r:Tr):det (tr (sc a p,sc b q,sc c r))=det (p,q,r)*(a*b*c):=by
 rw [det_tr]
 simp only [det]
 rw [yG,wL,kj]
 grind
theorem nz2 {a b:Int}(h1:a≠0)(h2:b≠0):a*b≠0:=fun z=>(Int.mul_eq_zero.mp z).elim h1 h2
theorem pP {p q r s:Tr}(h1:dt3 (crs p q) r≠0)(h2:dt3 (crs p q) s≠0)(h3:dt3 (crs p r) s≠0)(h4:dt3 (crs q r) s≠0):det (iD p q r s)≠0:=by
 unfold iD
 rw [det_sc3]
 refine nz2 h1 (nz2 (nz2 h4 ?_) h2)
 show dt3 (crs r p) s≠0
 intro e
 refine h3 ?_
 have:dt3 (crs p r) s = - dt3 (crs r p) s:=by simp only [dt3,crs];grind
 rw [this,e];rfl
theorem between_of {A C G Go N M:Mt}{a b a' b':Int}(ha:a≠0)(hb:b≠0)(ha':a'≠0)(hb':b'≠0)(e:sM a G=sM b A)(e':sM a' Go=sM b' C)(hN:ParM (adj G) N)(hM:ParM (mm Go N) M):∃ u v,u≠0∧v≠0∧sM u (mm C (adj A))=sM v M:=by
 obtain ⟨k,hk,eN⟩:=hN
 obtain ⟨c,hc,eM⟩:=hM
 have e1:sM (b*b) (adj A)=sM (k*(a*a)) N:=by rw [←adj_sM,←e,adj_sM,eN,yq]
 have e2:mm (sM b' C) (sM (b*b) (adj A))=mm (sM a' Go) (sM (k*(a*a)) N):=by rw [e1,e']
 rw [mm_sl,mm_sr,mm_sl,mm_sr,eM,yq,yq,yq] at e2
 exact ⟨b*b*b',_,nz2 (nz2 hb hb) hb',nz2 hc (nz2 (nz2 hk (nz2 ha ha)) ha'),e2⟩
def FromOk (c0:MSp):Prop:=∀ {h:Gh} {p q r s:Tr} {m:Nat} {Q:WK} {E:XWK},m≤1000→SmT m p→SmT m q→SmT m r→SmT m s→dt3 (crs p q) r≠0→dt3 (crs p q) s≠0→dt3 (crs p r) s≠0→dt3 (crs q r) s≠0 →
 (∀ G,PlM G→ParM (iD p q r s) G→SmM (4*m+4) G→Q (mw G) h)→c0 [.lst [tw p,tw q,tw r,tw s]] h Q E
theorem from_at {p q r s f:Tr}{m:Nat}{h:Gh}{Q:WK}(hm:m≤1000)(sp:SmT m p)(sq:SmT m q)(sr:SmT m r)(sf:SmT (3*m+3) f):∀ (i:Nat) (w:W),
  [W.int (f.1*p.1),.int (f.2.1*q.1),.int (f.2.2*r.1),.int (f.1*p.2.1),.int (f.2.1*q.2.1),.int (f.2.2*r.2.1),.int (f.1*p.2.2),.int (f.2.1*q.2.2),.int (f.2.2*r.2.2)][i]?=some w→Q w h →
  mOp jc (mOp kIx (aB 2) (mOp rZ (aB 0) (mC (.int 3)))) (mOp kIx (mOp kIx (aB 1) (mOp rZ (aB 0) (mC (.int 3)))) (mOp wg (aB 0) (mC (.int 3)))) [some (.int (i:Int)),some (.lst [tw p,tw q,tw r,tw s]),some (lw f)] h Q:=by
 have c:∀ {a b:Int},Sm (3*m+3) a→Sm m b→dR a b:=fun h1 h2=>.of h1 h2 (by omega) (by omega)
 have d:CDivBN 0 3:=⟨by decide,64,by decide,.lit rfl⟩
 intro i w e k
 match i,e with
 | 0,e=>cases e;exact And.intro (by decide) (And.intro (by decide) (And.intro d (And.intro (c sf.1 sp.1) k)))
 | 1,e=>cases e;exact And.intro (by decide) (And.intro (by decide) (And.intro d (And.intro (c sf.2.1 sq.1) k)))
 | 2,e=>cases e;exact And.intro (by decide) (And.intro (by decide) (And.intro d (And.intro (c sf.2.2 sr.1) k)))
 | 3,e=>cases e;exact And.intro (by decide) (And.intro (by decide) (And.intro d (And.intro (c sf.1 sp.2.1) k)))
 | 4,e=>cases e;exact And.intro (by decide) (And.intro (by decide) (And.intro d (And.intro (c sf.2.1 sq.2.1) k)))
 | 5,e=>cases e;exact And.intro (by decide) (And.intro (by decide) (And.intro d (And.intro (c sf.2.2 sr.2.1) k)))
 | 6,e=>cases e;exact And.intro (by decide) (And.intro (by decide) (And.intro d (And.intro (c sf.1 sp.2.2) k)))
 | 7,e=>cases e;exact And.intro (by decide) (And.intro (by decide) (And.intro d (And.intro (c sf.2.1 sq.2.2) k)))
 | 8,e=>cases e;exact And.intro (by decide) (And.intro (by decide) (And.intro d (And.intro (c sf.2.2 sr.2.2) k)))
theorem w_from {pl tt tu:MSp}(hpl:wX pl)(htt:TTROk tt)(htu:o8 tu):FromOk (oE pl tt tu):=by
 intro h p q r s m Q E hm sp sq sr ss f1 f2 f3 f4 k
 have sP:SmM m (p,q,r):=⟨sp,sq,sr⟩
 have sf:SmT (3*m+3) (vm (cof (p,q,r)) s):=(vm_sm (cof_sm sP) ss).mono (by omega)
 show tu [MwB true (p,q,r)] h _ _
 refine htu true (by omega) sP ?_
 show tt [MwB true (cof (p,q,r)),tw s] h _ _
 refine htt (m:=m+m+1) true (by omega) (cof_sm sP) (ss.mono (by omega)) ?_
 have hd:=pP f1 f2 f3 f4
 have eT:iD p q r s=tr (sc (vm (cof (p,q,r)) s).1 p,sc (vm (cof (p,q,r)) s).2.1 q,sc (vm (cof (p,q,r)) s).2.2 r):=rfl
 generalize vm (cof (p,q,r)) s=f at sf eT
 show mLC ow1 [0,1] (gk (aq (mC (.int 9)) aL)) fX (mOp jc (mOp kIx (aB 2) (mOp rZ (aB 0) (mC (.int 3)))) (mOp kIx (mOp kIx (aB 1) (mOp rZ (aB 0) (mC (.int 3)))) (mOp wg (aB 0) (mC (.int 3))))) [some (.lst [tw p,tw q,tw r,tw s]),some (lw f)] h _
 refine lc_rng (j:=9) (fun _=>rfl) (by decide) (by decide) (by decide) (fun i acc h'=>h'=h∧acc=[W.int (f.1*p.1),.int (f.2.1*q.1),.int (f.2.2*r.1),.int (f.1*p.2.1),.int (f.2.1*q.2.1),.int (f.2.2*r.2.1),.int (f.1*p.2.2),.int (f.2.1*q.2.2),.int (f.2.2*r.2.2)].take i) ?_ ?_ ⟨rfl,rfl⟩
 ·rintro i acc h' N hN hlt ⟨rfl,rfl⟩
  refine ⟨[.int (i:Int)],rfl,?_⟩
  have hi:i < [W.int (f.1*p.1),.int (f.2.1*q.1),.int (f.2.2*r.1),.int (f.1*p.2.1),.int (f.2.1*q.2.1),.int (f.2.2*r.2.1),.int (f.1*p.2.2),.int (f.2.1*q.2.2),.int (f.2.2*r.2.2)].length:=hlt
  refine from_at hm sp sq sr sf i _ (List.getElem?_eq_getElem hi) ?_
  refine hN _ _ ⟨rfl,?_⟩
  rw [List.take_succ,List.getElem?_eq_getElem hi]
  rfl
 ·rintro acc h' ⟨rfl,rfl⟩
  have e:mwl (iD p q r s)=.lst [W.int (f.1*p.1),.int (f.2.1*q.1),.int (f.2.2*r.1),.int (f.1*p.2.1),.int (f.2.1*q.2.1),.int (f.2.2*r.2.1),.int (f.1*p.2.2),.int (f.2.1*q.2.2),.int (f.2.2*r.2.2)]:=by
   rw [eT]
   simp only [mwl,tr,sc,Int.mul_comm]
  show pl [.lst [W.int (f.1*p.1),.int (f.2.1*q.1),.int (f.2.2*r.1),.int (f.1*p.2.1),.int (f.2.1*q.2.1),.int (f.2.2*r.2.1),.int (f.1*p.2.2),.int (f.2.1*q.2.2),.int (f.2.2*r.2.2)]] h' _ _
  rw [←e]
  refine hpl.mt (m:=4*m+4) (.inr rfl) hd ?_ (by omega) k
  rw [eT]
  have g:∀ {a b:Int},Sm m a→Sm (3*m+3) b→Sm (4*m+4) (a*b):=fun h1 h2=>(h1.mul h2).mono (by omega)
  exact ⟨⟨g sp.1 sf.1,g sq.1 sf.2.1,g sr.1 sf.2.2⟩,⟨g sp.2.1 sf.1,g sq.2.1 sf.2.1,g sr.2.1 sf.2.2⟩,⟨g sp.2.2 sf.1,g sq.2.2 sf.2.1,g sr.2.2 sf.2.2⟩⟩
structure Four (m:Nat) (p q r s:Tr):Prop where
 a:SmT m p
 b:SmT m q
 c:SmT m r
 d:SmT m s
def tK (Q:Bool→Gh→Prop):WK:=fun w h=>match w with
 | .bl c=>Q c h
 | _=>False
def uK (Q:Bool→Gh→Prop):WK:=fun w h=>match truW h w with
 | some b=>Q b h
 | none=>False
def aK (b:ME)(σ : Sw)(Q:WK):WK:=fun x h=>match x with
 | .bl true=>b σ h Q
 | .bl false=>Q (.bl false) h
 | _=>False
def oK (b:ME)(σ : Sw)(Q:WK):WK:=fun x h=>match x with
 | .bl false=>b σ h Q
 | .bl true=>Q (.bl true) h
 | _=>False
def nK (Q:WK):WK:=fun x h=>match x with
 | .bl c=>Q (.bl (!c)) h
 | _=>False
def iK (R:Src→Gh→Prop):WK:=fun w h=>match pZ h w with
 | some s=>R s h
 | none=>False
def xK (f:Str→Bool)(Q:WK):WK:=fun w h=>match w with
 | .exc n=>Q (.bl (f n)) h
 | _=>False
def pK (Q:Option Int→Gh→Prop):WK:=fun w h=>match w with
 | .int i=>Q (some i) h
 | _=>False
def forK (g:MG)(b:MS)(D:bD)(σ : Sw):Src→Gh→Prop:=fun s h=>dD s g b D s.ws σ h
def lcK (own:W→Option (List W))(ix:List Nat)(tt:MT)(te:ME)(σ : Sw)(Q:WK):Src→Gh→Prop:=fun s h=>iU s.ws.length (nC s own ix tt te σ Q s.ws [] h)
def rgK (R:Src→Gh→Prop):List W→Gh→Prop:=fun ws h=>match ws with
 | [.int j]=>w6 j (R ⟨yK 0 j.toNat,none⟩ h)
 | _=>False
def zpK (R:Src→Gh→Prop):List W→Gh→Prop:=fun ws h=>match ws with
 | [x,y]=>(match zipS h x y with
  | some s=>R s h
  | none=>False)
 | _=>False
theorem fZ {m u:MS}{D:bD}{σ : Sw}{h:Gh}(x:m { D with nx:=u D } σ h):bx m u D σ h:=x
theorem nx_s {N b c:Sw→Gh→Prop}{r:WK}{σ : Sw}{h:Gh}(x:N σ h):bD.nx ⟨N,r,b,c⟩ σ h:=x
theorem bk_s {N b c:Sw→Gh→Prop}{r:WK}{σ : Sw}{h:Gh}(x:b σ h):bD.bk ⟨N,r,b,c⟩ σ h:=x
theorem ct_s {N b c:Sw→Gh→Prop}{r:WK}{σ : Sw}{h:Gh}(x:c σ h):bD.ct ⟨N,r,b,c⟩ σ h:=x
theorem rt_s {N b c:Sw→Gh→Prop}{r:WK}{w:W}{h:Gh}(x:r w h):bD.rt ⟨N,r,b,c⟩ w h:=x
theorem lost_rt {D:bD}{w:W}{h:Gh}(x:D.rt w h):bD.rt (bD.lost D) w h:=x
theorem lost_nx {D:bD}{σ : Sw}{h:Gh}(x:D.nx (σ.map fun _=>none) h):bD.nx (bD.lost D) σ h:=x
theorem mNext_s {D:bD}{σ : Sw}{h:Gh}(x:D.nx σ h):bW D σ h:=x
theorem nT {m:ME}{g:MG}{D:bD}{σ : Sw}{h:Gh}(x:m σ h fun w h1=>g w σ h1 D.nx):bR m g D σ h:=x
theorem rz {m:ME}{D:bD}{σ : Sw}{h:Gh}(x:m σ h fun _ h1=>D.nx σ h1):ni m D σ h:=x
theorem pO {m:ME}{D:bD}{σ : Sw}{h:Gh}(x:m σ h D.rt):bK m D σ h:=x
theorem mRaise_s {c:Str}{E:XWK}{D:bD}{σ : Sw}{h:Gh}(x:E ⟨c,[]⟩ h):uy c E D σ h:=x
theorem mIfS_s {t:MT}{a b:MS}{D:bD}{σ : Sw}{h:Gh}(x:t σ h fun c h1=>br c (a D σ h1) (b D σ h1)):iZ t a b D σ h:=x
theorem mIf_s {t:MT}{a b:ME}{Q:WK}{σ : Sw}{h:Gh}(x:t σ h fun c h1=>br c (a σ h1 Q) (b σ h1 Q)):mIf t a b σ h Q:=x
theorem mTry_s {i:Nat}{d:Str}{mb:XWK→MS}{mh:MS}{D:bD}{σ : Sw}{h:Gh}(x:mb (fun x h'=>by2 (isX x.cls d) (mh D.lost (σ.set i (some (.exc x.cls))) h') False) D σ h):mTry i d mb mh D σ h:=x
theorem nTup2_s {n:Nat}{g:MGs}{w:W}{ws:List W}{σ : Sw}{h:Gh}{N:Sw→Gh→Prop}(e:w=.tup ws)(b:Nat.beq ws.length n=true)(x:g ws σ h N):nTup2 n g w σ h N:=by
 subst e
 unfold nTup2
 dsimp only
 rw [b]
 exact x
theorem nTup2_l {n:Nat}{g:MGs}{w:W}{ws:List W}{σ : Sw}{h:Gh}{N:Sw→Gh→Prop}(e:w=.lst ws)(b:Nat.beq ws.length n=true)(x:g ws σ h N):nTup2 n g w σ h N:=by
 subst e
 unfold nTup2
 dsimp only
 rw [b]
 exact x
theorem nTup_s {n:Nat}{g:MGs}{w:W}{ws:List W}{σ : Sw}{h:Gh}{N:Sw→Gh→Prop}(e:w=.tup ws)(b:Nat.beq ws.length n=true)(x:g ws σ h N):nTup n g w σ h N:=by
 subst e
 unfold nTup
 dsimp only
 rw [b]
 exact x
theorem nCons_s {g:MG}{r:MGs}{w:W}{ws:List W}{σ : Sw}{h:Gh}{N:Sw→Gh→Prop}(x:g w σ h fun σ1 h1=>r ws σ1 h1 N):nCons g r (w::ws) σ h N:=x
theorem nNil_s {σ : Sw}{h:Gh}{N:Sw→Gh→Prop}(x:N σ h):nNil [] σ h N:=x
theorem bL {i:Nat}{w:W}{σ : Sw}{h:Gh}{Q:WK}(e:σ[i]?=some (some w))(x:Q w h):aB i σ h Q:=by
 unfold aB
 rw [e]
 exact x
theorem mC_s {w:W}{σ : Sw}{h:Gh}{Q:WK}(x:Q w h):mC w σ h Q:=x
theorem xW {r:M2}{ma mb:ME}{σ : Sw}{h:Gh}{Q:WK}(x:ma σ h fun a h1=>mb σ h1 fun b h2=>r a b h2 Q):mOp r ma mb σ h Q:=x
theorem mUn_s {r:W→Gh→WK→Prop}{ma:ME}{σ : Sw}{h:Gh}{Q:WK}(x:ma σ h fun a h1=>r a h1 Q):mUn r ma σ h Q:=x
theorem mNeg_s {i:Int}{h:Gh}{Q:WK}(x:Q (.int (-i)) h):mNeg (.int i) h Q:=x
theorem cu {a:ME}{r:MA}{σ : Sw}{h:Gh}{Q:List W→Gh→Prop}(x:a σ h fun w h1=>r σ h1 fun ws h2=>Q (w::ws) h2):aq a r σ h Q:=x
theorem fP {σ : Sw}{h:Gh}{Q:List W→Gh→Prop}(x:Q [] h):aL σ h Q:=x
theorem qy {n:Nat}{P:Prop}(e:Nat.ble n 1000=true)(x:P):iU n P:=by
 unfold iU
 rw [e]
 exact x
theorem mTup_s {t:MA}{σ : Sw}{h:Gh}{Q:WK}(x:t σ h fun ws h1=>iU ws.length (Q (.tup ws) h1)):vV t σ h Q:=x
theorem mLst_s {t:MA}{σ : Sw}{h:Gh}{Q:WK}(x:t σ h fun ws h1=>iU ws.length (Q (.lst ws) h1)):mLst t σ h Q:=x
theorem pR {c:MSp}{E:XWK}{ma:MA}{σ : Sw}{h:Gh}{Q:WK}(x:ma σ h fun ws h1=>c ws h1 Q E):aH c E ma σ h Q:=x
theorem mCB_s {r:MC}{ma:MA}{σ : Sw}{h:Gh}{Q:WK}(x:ma σ h fun ws h1=>r ws h1 Q):mCB r ma σ h Q:=x
theorem mTest_s {m:ME}{σ : Sw}{h:Gh}{Q:Bool→Gh→Prop}(x:m σ h (tK Q)):bA m σ h Q:=x
theorem tK_s {c:Bool}{h:Gh}{Q:Bool→Gh→Prop}(x:Q c h):tK Q (.bl c) h:=x
theorem mTru_s {m:ME}{σ : Sw}{h:Gh}{Q:Bool→Gh→Prop}(x:m σ h (uK Q)):vW m σ h Q:=x
theorem uK_s {w:W}{b:Bool}{h:Gh}{Q:Bool→Gh→Prop}(e:truW h w=some b)(x:Q b h):uK Q w h:=by
 unfold uK
 rw [e]
 exact x
theorem mNot_s {t:MT}{σ : Sw}{h:Gh}{Q:Bool→Gh→Prop}(x:t σ h fun c h1=>Q (!c) h1):mNot t σ h Q:=x
theorem mAnd_s {t u:MT}{σ : Sw}{h:Gh}{Q:Bool→Gh→Prop}(x:t σ h fun c h1=>br c (u σ h1 Q) (Q false h1)):mAnd t u σ h Q:=x
theorem mOr_s {t u:MT}{σ : Sw}{h:Gh}{Q:Bool→Gh→Prop}(x:t σ h fun c h1=>br c (Q true h1) (u σ h1 Q)):mOr t u σ h Q:=x
theorem mYes_s {σ : Sw}{h:Gh}{Q:Bool→Gh→Prop}(x:Q true h):fX σ h Q:=x
theorem mAndV_s {a b:ME}{σ : Sw}{h:Gh}{Q:WK}(x:a σ h (aK b σ Q)):zf a b σ h Q:=x
theorem mOrV_s {a b:ME}{σ : Sw}{h:Gh}{Q:WK}(x:a σ h (oK b σ Q)):mOrV a b σ h Q:=x
theorem mNotV_s {a:ME}{σ : Sw}{h:Gh}{Q:WK}(x:a σ h (nK Q)):mNotV a σ h Q:=x
theorem aK_s {b:ME}{σ : Sw}{h:Gh}{Q:WK}{c:Bool}(x:br c (b σ h Q) (Q (.bl false) h)):aK b σ Q (.bl c) h:=by
 cases c with
 | true=>exact x.1 rfl
 | false=>exact x.2 rfl
theorem oK_s {b:ME}{σ : Sw}{h:Gh}{Q:WK}{c:Bool}(x:br c (Q (.bl true) h) (b σ h Q)):oK b σ Q (.bl c) h:=by
 cases c with
 | true=>exact x.1 rfl
 | false=>exact x.2 rfl
theorem nK_s {h:Gh}{Q:WK}{c:Bool}(x:Q (.bl (!c)) h):nK Q (.bl c) h:=x
theorem mIsX_s {f:Str→Bool}{m:ME}{σ : Sw}{h:Gh}{Q:WK}(x:m σ h (xK f Q)):mIsX f m σ h Q:=x
theorem xK_s {f:Str→Bool}{n:Str}{h:Gh}{Q:WK}(x:Q (.bl (f n)) h):xK f Q (.exc n) h:=x
theorem br_ts {a b:Prop}(x:a):br true a b:=tE rfl x
theorem br_fs {a b:Prop}(x:b):br false a b:=nJ rfl x
theorem br_nts {a b:Prop}(x:b):br (!true) a b:=br_fs x
theorem br_nfs {a b:Prop}(x:a):br (!false) a b:=br_ts x
theorem by2_ts {a b:Prop}(x:a):by2 true a b:=x
theorem by2_fs {a b:Prop}(x:b):by2 false a b:=x
theorem kSub_s {i j:Int}{h:Gh}{Q:WK}(x:Q (.int (i - j)) h):xq (.int i) (.int j) h Q:=x
theorem kAddA_s {i j:Int}{h:Gh}{Q:WK}(x:Q (.int (i+j)) h):cC (.int i) (.int j) h Q:=x
theorem kMul_s {i j:Int}{h:Gh}{Q:WK}(c:dR i j)(x:Q (.int (i*j)) h):jc (.int i) (.int j) h Q:=⟨c,x⟩
theorem kLt_s {i j:Int}{h:Gh}{Q:WK}(x:Q (.bl (decide (i<j))) h):kLt (.int i) (.int j) h Q:=x
theorem kGt_s {i j:Int}{h:Gh}{Q:WK}(x:Q (.bl (decide (i>j))) h):kGt (.int i) (.int j) h Q:=x
theorem kEq_i {i j:Int}{h:Gh}{Q:WK}(x:Q (.bl (decide (i=j))) h):kEq (.int i) (.int j) h Q:=by
 have e:eqW (.int i) (.int j)=decide (i=j):=cA i j
 show Q (.bl (eqW (.int i) (.int j))) h
 rw [e]
 exact x
theorem kNe_i {i j:Int}{h:Gh}{Q:WK}(x:Q (.bl (decide (i≠j))) h):kNe (.int i) (.int j) h Q:=by
 have e:(!eqW (.int i) (.int j))=decide (i≠j):=by rw [cA];by_cases z:i=j <;> simp [z]
 show Q (.bl (!eqW (.int i) (.int j))) h
 rw [e]
 exact x
theorem kEq_b {i j:Bool}{h:Gh}{Q:WK}(x:Q (.bl (decide (i=j))) h):kEq (.bl i) (.bl j) h Q:=by
 have e:eqW (.bl i) (.bl j)=decide (i=j):=by rw [eqW];cases i <;> cases j <;> rfl
 show Q (.bl (eqW (.bl i) (.bl j))) h
 rw [e]
 exact x
theorem kNe_b {i j:Bool}{h:Gh}{Q:WK}(x:Q (.bl (decide (i≠j))) h):kNe (.bl i) (.bl j) h Q:=by
 have e:(!eqW (.bl i) (.bl j))=decide (i≠j):=by rw [eqW];cases i <;> cases j <;> rfl
 show Q (.bl (!eqW (.bl i) (.bl j))) h
 rw [e]
 exact x
theorem kEq_t {p q:Tr}{h:Gh}{Q:WK}(x:Q (.bl (decide (p=q))) h):kEq (tw p) (tw q) h Q:=by
 show Q (.bl (eqW (tw p) (tw q))) h
 rw [yS]
 exact x
theorem kNe_t {p q:Tr}{h:Gh}{Q:WK}(x:Q (.bl (decide (p≠q))) h):kNe (tw p) (tw q) h Q:=by
 have e:(!eqW (tw p) (tw q))=decide (p≠q):=by rw [yS];by_cases z:p=q <;> simp [z]
 show Q (.bl (!eqW (tw p) (tw q))) h
 rw [e]
 exact x
theorem kEq_0 {p:Tr}{a b c:Int}{h:Gh}{Q:WK}(x:Q (.bl (decide (p=(a,b,c)))) h):kEq (tw p) (.tup [.int a,.int b,.int c]) h Q:=kEq_t (q:=(a,b,c)) x
theorem kNe_0 {p:Tr}{a b c:Int}{h:Gh}{Q:WK}(x:Q (.bl (decide (p≠(a,b,c)))) h):kNe (tw p) (.tup [.int a,.int b,.int c]) h Q:=kNe_t (q:=(a,b,c)) x
theorem kIx_s {x w:W}{i:Int}{ws:List W}{h:Gh}{Q:WK}(e:view h x=some ws)(a:atI ws i=some w)(k:Q w h):kIx x (.int i) h Q:=by
 unfold kIx
 dsimp only
 rw [e]
 dsimp only
 rw [a]
 exact k
theorem kIsi_s {w:W}{T:String}{b:Bool}{h:Gh}{Q:WK}(e:isiW h w T=some b)(x:Q (.bl b) h):kIsi [w,.ty T] h Q:=by
 unfold kIsi
 dsimp only
 rw [e]
 exact x
theorem jW {w:W}{xs:List W}{h:Gh}{Q:WK}(e:view h w=some xs)(x:Q (.int (xs.length:Int)) h):kLen [w] h Q:=by
 unfold kLen
 dsimp only
 rw [e]
 exact x
theorem kTuple_l {us:List W}{h:Gh}{Q:WK}(x:Q (.tup us) h):sW [.lst us] h Q:=x
theorem kAny_s {w:W}{us:List W}{bs:List Bool}{h:Gh}{Q:WK}(e:fC h w=some us)(b:blsW us=some bs)(x:Q (.bl (bs.any id)) h):kAny [w] h Q:=by
 unfold kAny
 dsimp only
 rw [e]
 dsimp only
 rw [b]
 exact x
theorem kAll_s {w:W}{us:List W}{bs:List Bool}{h:Gh}{Q:WK}(e:fC h w=some us)(b:blsW us=some bs)(x:Q (.bl (bs.all id)) h):kAll [w] h Q:=by
 unfold kAll
 dsimp only
 rw [e]
 dsimp only
 rw [b]
 exact x
theorem kSum_s {w:W}{us:List W}{ns:List Int}{h:Gh}{Q:WK}(e:fC h w=some us)(b:zQ us=some ns)(x:Q (.int ns.sum) h):kSum [w] h Q:=by
 unfold kSum
 dsimp only
 rw [e]
 dsimp only
 rw [b]
 exact x
theorem kAbs_s {i:Int}{h:Gh}{Q:WK}(x:Q (.int (if i<0 then -i else i)) h):kAbs [.int i] h Q:=x
theorem kInt_b {b:Bool}{h:Gh}{Q:WK}(x:Q (.int (if b then 1 else 0)) h):kInt [.bl b] h Q:=x
theorem mFor_s {mi:MI}{g:MG}{b:MS}{D:bD}{σ : Sw}{h:Gh}(x:mi σ h (forK g b D σ)):p8 mi g b D σ h:=x
theorem uq {ws:List W}{o:Option (Nat×List W)}{g:MG}{b:MS}{D:bD}{σ : Sw}{h:Gh}(x:dD ⟨ws,o⟩ g b D ws σ h):forK g b D σ ⟨ws,o⟩ h:=x
theorem mForL_n {ws:List W}{g:MG}{b:MS}{D:bD}{σ : Sw}{h:Gh}(x:D.nx σ h):dD ⟨ws,none⟩ g b D [] σ h:=x
theorem mForL_c {ws r:List W}{w:W}{g:MG}{b:MS}{D:bD}{σ : Sw}{h:Gh}(x:g w σ h fun σ1 h1=>b { D with nx:=dD ⟨ws,none⟩ g b D r,ct:=dD ⟨ws,none⟩ g b D r,bk:=D.nx } σ1 h1):dD ⟨ws,none⟩ g b D (w::r) σ h:=x
theorem nIt_s {m:ME}{R:Src→Gh→Prop}{σ : Sw}{h:Gh}(x:m σ h (iK R)):nIt m σ h R:=x
theorem iK_s {w:W}{ws:List W}{o:Option (Nat×List W)}{h:Gh}{R:Src→Gh→Prop}(e:pZ h w=some ⟨ws,o⟩)(x:R ⟨ws,o⟩ h):iK R w h:=by
 unfold iK
 rw [e]
 exact x
theorem nRng1_s {ma:MA}{R:Src→Gh→Prop}{σ : Sw}{h:Gh}(x:ma σ h (rgK R)):gk ma σ h R:=x
theorem rgK_3 {R:Src→Gh→Prop}{h:Gh}(x:R ⟨[.int 0,.int 1,.int 2],none⟩ h):rgK R [.int 3] h:=x
theorem rgK_2 {R:Src→Gh→Prop}{h:Gh}(x:R ⟨[.int 0,.int 1],none⟩ h):rgK R [.int 2] h:=x
theorem nZip_s {ma:MA}{R:Src→Gh→Prop}{σ : Sw}{h:Gh}(x:ma σ h (zpK R)):nZip ma σ h R:=x
theorem zpK_s {a b:W}{as bs:List W}{zs:List W}{R:Src→Gh→Prop}{h:Gh}(e:rN a=some as)(e':rN b=some bs)(z:rD as bs=zs)(x:R ⟨zs,none⟩ h):zpK R [a,b] h:=by
 subst z
 have es:zipS h a b=some ⟨rD as bs,none⟩:=by unfold zipS;rw [e,e']
 unfold zpK
 dsimp only
 rw [es]
 exact x
theorem zpK_c {n:Nat}{b:W}{as bs:List W}{zs:List W}{R:Src→Gh→Prop}{h:Gh}(e:h.c n=some (.lst as))(e':rN b=some bs)(z:rD as bs=zs)(x:R ⟨zs,some (n,as)⟩ h):zpK R [.loc n,b] h:=by
 subst z
 have es:zipS h (.loc n) b=some ⟨rD as bs,some (n,as)⟩:=by unfold zipS;rw [e'];dsimp only [rN];rw [e]
 unfold zpK
 dsimp only
 rw [es]
 exact x
theorem zip0 {bs:List W}:rD [] bs=[]:=by cases bs <;> rfl
theorem zip1 {a:W}{as:List W}:rD (a::as) []=[]:=rfl
theorem zipC {a b:W}{as bs l:List W}(e:rD as bs=l):rD (a::as) (b::bs)=.tup [a,b]::l:=by rw [rD,e]
theorem mLC_s {own:W→Option (List W)}{ix:List Nat}{mi:MI}{tt:MT}{te:ME}{σ : Sw}{h:Gh}{Q:WK}(x:mi σ h (lcK own ix tt te σ Q)):mLC own ix mi tt te σ h Q:=x
theorem lcK_s {ws:List W}{o:Option (Nat×List W)}{own:W→Option (List W)}{ix:List Nat}{tt:MT}{te:ME}{σ : Sw}{h:Gh}{Q:WK}(e:Nat.ble ws.length 1000=true)(x:nC ⟨ws,o⟩ own ix tt te σ Q ws [] h):lcK own ix tt te σ Q ⟨ws,o⟩ h:=qy e x
theorem mLCL_n {ws acc:List W}{own:W→Option (List W)}{ix:List Nat}{tt:MT}{te:ME}{σ : Sw}{h:Gh}{Q:WK}(x:Q (.lst acc) h):nC ⟨ws,none⟩ own ix tt te σ Q [] acc h:=x
theorem mLCL_c {ws r acc vs:List W}{w:W}{own:W→Option (List W)}{ix:List Nat}{tt:MT}{te:ME}{σ : Sw}{h:Gh}{Q:WK}(e:own w=some vs)(x:tt (vs.map some++rC ix σ) h fun c h1=>by2 c (te (vs.map some++rC ix σ) h1 fun v h2=>nC ⟨ws,none⟩ own ix tt te σ Q r (acc++[v]) h2) (nC ⟨ws,none⟩ own ix tt te σ Q r acc h1)):nC ⟨ws,none⟩ own ix tt te σ Q (w::r) acc h:=by
 unfold nC
 show match own w with
  | some vs=>tt (vs.map some++rC ix σ) h fun c h1=>by2 c (te (vs.map some++rC ix σ) h1 fun v h2=>nC ⟨ws,none⟩ own ix tt te σ Q r (acc++[v]) h2) (nC ⟨ws,none⟩ own ix tt te σ Q r acc h1)
  | none=>False
 rw [e]
 exact x
theorem mFn_s {n N:Nat}{body:XWK→MS}{ws:List W}{h:Gh}{Q:WK}{E:XWK}(hl:Nat.beq ws.length n=true)(x:body E { nx:=fun _ h'=>Q .non h',rt:=Q } (ws.map some++List.replicate (N - ws.length) none) h):mFn n N false body ws h Q E:=by
 unfold mFn
 rw [hl]
 exact x
theorem mSl_s {r:W→Option Int→Option Int→Gh→WK→Prop}{m:ME}{l u:MO}{σ : Sw}{h:Gh}{Q:WK}(x:m σ h fun a h1=>l σ h1 fun lo h2=>u σ h2 fun hi h3=>r a lo hi h3 Q):mSl r m l u σ h Q:=x
theorem mPart_s {m:ME}{σ : Sw}{h:Gh}{Q:Option Int→Gh→Prop}(x:m σ h (pK Q)):jZ m σ h Q:=x
theorem pK_s {i:Int}{h:Gh}{Q:Option Int→Gh→Prop}(x:Q (some i) h):pK Q (.int i) h:=x
def p3K (i j k:Nat)(D:bD)(σ : Sw):List W→Gh→Prop:=fun ws h=>match ws with
 | [x,y,z]=>D.nx (((σ.set i (some x)).set j (some y)).set k (some z)) h
 | _=>False
theorem mPar3_s {i j k:Nat}{ta:MA}{D:bD}{σ : Sw}{h:Gh}(x:ta σ h (p3K i j k D σ)):mPar3 i j k ta D σ h:=x
theorem br_len {xs:List W}{n:Int}{a b:Prop}(e:decide ((xs.length:Int)≠n)=false)(x:b):br (decide ((xs.length:Int)≠n)) a b:=nJ e x
theorem br_nall {bs:List Bool}{a b:Prop}(e:bs.all id=true)(x:b):br (!(bs.all id)) a b:=nJ (by rw [e];rfl) x
theorem by2_x {n d:Str}{a b:Prop}(e:isX n d=true)(x:a):by2 (isX n d) a b:=by2_t e x
theorem br_xt {n d:Str}{a b:Prop}(e:isX n d=true)(x:a):br (isX n d) a b:=tE e x
theorem br_xf {n d:Str}{a b:Prop}(e:isX n d=false)(x:b):br (isX n d) a b:=nJ e x
theorem setZ {α : Type}{a x:α}{l:List α}:(a::l).set 0 x=x::l:=rfl
theorem setS {α : Type}{a x:α}{l l':List α}{n:Nat}(e:l.set n x=l'):(a::l).set (n+1) x=a::l':=by rw [List.set_cons_succ,e]
theorem cO {i:Nat}{w:W}{σ σ':Sw}{h:Gh}{N:Sw→Gh→Prop}(e:σ.set i (some w) = σ')(x:N σ' h):nName i w σ h N:=by
 subst e
 exact x
theorem p3K_v {i j k:Nat}{D:bD}{σ σ1 σ2 σ3:Sw}{h:Gh}{x y z:W}(e1:σ.set i (some x) = σ1)(e2:σ1.set j (some y) = σ2)(e3:σ2.set k (some z) = σ3)(q:D.nx σ3 h):p3K i j k D σ [x,y,z] h:=by
 subst e1 e2 e3
 exact q
def ini (ws:List W)(n:Nat):Sw:=ws.map some++List.replicate (n - ws.length) none
theorem ini0:ini [] 0=[]:=rfl
theorem iniN {n:Nat}{l:Sw}(e:ini [] n=l):ini [] (n+1)=none::l:=by
 subst e
 rfl
theorem iniW {n:Nat}{w:W}{ws:List W}{l:Sw}(e:ini ws n=l):ini (w::ws) (n+1)=some w::l:=by
 subst e
 unfold ini
 rw [List.length_cons,Nat.add_sub_add_right]
 rfl
theorem rT {n N:Nat}{body:XWK→MS}{ws:List W}{σ : Sw}{h:Gh}{Q:WK}{E:XWK}(hl:Nat.beq ws.length n=true)(e:ini ws N = σ)(x:body E { nx:=fun _ h'=>Q .non h',rt:=Q } σ h):mFn n N false body ws h Q E:=by
 subst e
 exact mFn_s hl x
theorem by2_h {i:Nat}{n d:Str}{fs:List (Str×W)}{mh:MS}{D:bD}{σ σ':Sw}{h:Gh}(e:isX n d=true)(s:σ.set i (some (.exc n)) = σ')(x:mh D σ' h):by2 (isX (Xw.mk n fs).cls d) (mh D (σ.set i (some (.exc (Xw.mk n fs).cls))) h) False:=by
 subst s
 exact by2_t e x
theorem mLCM_s {own:W→Option (List W)}{ix:List Nat}{mi:MI}{tt:MT}{te:ME}{σ : Sw}{h:Gh}{Q:WK}(x:mLC own ix mi tt te σ h (thaw Q)):mLCM own ix mi tt te σ h Q:=x
theorem thaw_g {us:List W}{h:Gh}{Q:WK}(x:∀ g:Gh,g.c h.nx=some (.lst us)→(∀ n,n≠h.nx→g.c n=h.c n)→g.nx=h.nx+1→Q (.loc h.nx) g):thaw Q (.lst us) h:=x _ (rJ _ _) (fun _ e=>nW e) rfl
theorem nSub_s {mo mi:ME}{ms:MSet}{w:W}{σ : Sw}{h:Gh}{N:Sw→Gh→Prop}(x:mo σ h fun o h1=>mi σ h1 fun i h2=>ms o i w h2 fun h3=>N σ h3):nSub mo mi ms w σ h N:=x
theorem mForL_cc {ws r us:List W}{n:Nat}{w:W}{g:MG}{b:MS}{D:bD}{σ : Sw}{h:Gh}(e:h.c n=some (.lst us))(x:g w σ h fun σ1 h1=>b { D with nx:=dD ⟨ws,some (n,us)⟩ g b D r,ct:=dD ⟨ws,some (n,us)⟩ g b D r,bk:=D.nx } σ1 h1):dD ⟨ws,some (n,us)⟩ g b D (w::r) σ h:=⟨e,x⟩
theorem mForL_cn {ws us:List W}{n:Nat}{g:MG}{b:MS}{D:bD}{σ : Sw}{h:Gh}(e:h.c n=some (.lst us))(x:D.nx σ h):dD ⟨ws,some (n,us)⟩ g b D [] σ h:=⟨e,x⟩
theorem mLCL_cn {ws us acc:List W}{n:Nat}{own:W→Option (List W)}{ix:List Nat}{tt:MT}{te:ME}{σ : Sw}{h:Gh}{Q:WK}(e:h.c n=some (.lst us))(x:Q (.lst acc) h):nC ⟨ws,some (n,us)⟩ own ix tt te σ Q [] acc h:=⟨e,x⟩
theorem mLCL_cc {ws us r acc vs:List W}{n:Nat}{w:W}{own:W→Option (List W)}{ix:List Nat}{tt:MT}{te:ME}{σ : Sw}{h:Gh}{Q:WK}(ec:h.c n=some (.lst us))(e:own w=some vs)(x:tt (vs.map some++rC ix σ) h fun c h1=>by2 c (te (vs.map some++rC ix σ) h1 fun v h2=>nC ⟨ws,some (n,us)⟩ own ix tt te σ Q r (acc++[v]) h2) (nC ⟨ws,some (n,us)⟩ own ix tt te σ Q r acc h1)):nC ⟨ws,some (n,us)⟩ own ix tt te σ Q (w::r) acc h:=by
 unfold nC
 refine ⟨ec,?_⟩
 show match own w with
  | some vs=>tt (vs.map some++rC ix σ) h fun c h1=>by2 c (te (vs.map some++rC ix σ) h1 fun v h2=>nC ⟨ws,some (n,us)⟩ own ix tt te σ Q r (acc++[v]) h2) (nC ⟨ws,some (n,us)⟩ own ix tt te σ Q r acc h1)
  | none=>False
 rw [e]
 exact x
theorem iK_c {n:Nat}{ws:List W}{h:Gh}{R:Src→Gh→Prop}(e:h.c n=some (.lst ws))(x:R ⟨ws,some (n,ws)⟩ h):iK R (.loc n) h:=iK_s (by simp only [pZ,e]) x
theorem kIx_c {n:Nat}{w:W}{i:Int}{ws:List W}{h:Gh}{Q:WK}(e:h.c n=some (.lst ws))(a:atI ws i=some w)(k:Q w h):kIx (.loc n) (.int i) h Q:=kIx_s (bV e) a k
theorem mFnT_v {n N:Nat}{body:XWK→MS}{ws:List W}{σ : Sw}{h:Gh}{Q:WK}{E:XWK}(hl:Nat.beq ws.length n=true)(e:ini ws N = σ)(x:body E { nx:=fun _ h'=>yp true h .non h' Q,rt:=fun w h'=>yp true h w h' Q } σ h):mFn n N true body ws h Q E:=by
 subst e
 unfold mFn
 rw [hl]
 exact x
theorem kAddA_l {a b:List W}{h:Gh}{Q:WK}(e:Nat.ble (a.length+b.length) 1000=true)(x:Q (.lst (a++b)) h):cC (.lst a) (.lst b) h Q:=qy e x
theorem kIs_b {a b:Bool}{h:Gh}{Q:WK}(x:Q (.bl (a==b)) h):kIs (.bl a) (.bl b) h Q:=x
theorem kIsnt_b {a b:Bool}{h:Gh}{Q:WK}(x:Q (.bl (!(a==b))) h):rR (.bl a) (.bl b) h Q:=x
theorem kEq_s {a b:Str}{h:Gh}{Q:WK}(x:Q (.bl (decide (a=b))) h):kEq (.str a) (.str b) h Q:=by
 have e:eqW (.str a) (.str b)=decide (a=b):=by rw [eqW];by_cases z:a=b <;> simp [z]
 show Q (.bl (eqW (.str a) (.str b))) h
 rw [e]
 exact x
theorem kNe_s {a b:Str}{h:Gh}{Q:WK}(x:Q (.bl (decide (a≠b))) h):kNe (.str a) (.str b) h Q:=by
 have e:(!eqW (.str a) (.str b))=decide (a≠b):=by rw [eqW];by_cases z:a=b <;> simp [z]
 show Q (.bl (!eqW (.str a) (.str b))) h
 rw [e]
 exact x
theorem br_any {bs:List Bool}{a b:Prop}(e:bs.any id=false)(x:b):br (bs.any id) a b:=nJ e x
local macro_rules | `(tactic| rfl') => `(tactic| repeat (first
 | with_reducible refine fZ ?_ | with_reducible refine nT ?_ | with_reducible refine pR ?_ | with_reducible refine cu ?_ | with_reducible refine fP ?_
 | ((with_reducible apply bL);exact rfl) | with_reducible refine mC_s ?_ | with_reducible refine xW ?_ | with_reducible refine cO (by repeat (first | with_reducible exact setZ | with_reducible apply setS)) ?_ | with_reducible refine lost_rt ?_ | with_reducible refine lost_nx ?_ | with_reducible refine nx_s ?_ | with_reducible refine rt_s ?_ | with_reducible refine bk_s ?_ | with_reducible refine ct_s ?_
 | with_reducible refine mIfS_s ?_ | with_reducible refine mIf_s ?_ | with_reducible refine pO ?_ | with_reducible refine rz ?_ | with_reducible refine mNext_s ?_ | with_reducible refine mTry_s ?_ | with_reducible refine mRaise_s ?_
 | with_reducible refine mTest_s ?_ | with_reducible refine tK_s ?_ | with_reducible refine mTru_s ?_ | ((with_reducible apply uK_s);exact rfl) | with_reducible refine mNot_s ?_ | with_reducible refine mAnd_s ?_ | with_reducible refine mOr_s ?_ | with_reducible refine mYes_s ?_
 | with_reducible refine mAndV_s ?_ | with_reducible refine mOrV_s ?_ | with_reducible refine mNotV_s ?_ | with_reducible refine aK_s ?_ | with_reducible refine oK_s ?_ | with_reducible refine nK_s ?_ | with_reducible refine mIsX_s ?_ | with_reducible refine xK_s ?_
 | with_reducible refine br_ts ?_ | with_reducible refine br_fs ?_ | with_reducible refine br_nts ?_ | with_reducible refine br_nfs ?_ | with_reducible refine by2_ts ?_ | with_reducible refine by2_fs ?_
 | with_reducible refine mTup_s ?_ | with_reducible refine mLst_s ?_ | ((with_reducible apply qy);exact rfl) | with_reducible refine mCB_s ?_ | with_reducible refine mUn_s ?_ | with_reducible refine mNeg_s ?_
 | ((with_reducible apply nTup2_s);exact rfl;exact rfl) | ((with_reducible apply nTup2_l);exact rfl;exact rfl) | ((with_reducible apply nTup_s);exact rfl;exact rfl) | with_reducible refine nCons_s ?_ | with_reducible refine nNil_s ?_
 | with_reducible refine kSub_s ?_ | with_reducible refine kAddA_s ?_ | ((with_reducible apply kMul_s);exact dR.of (by trivial) (by trivial) (by omega) (by omega)) | with_reducible refine kLt_s ?_ | with_reducible refine kGt_s ?_
 | with_reducible refine kEq_i ?_ | with_reducible refine kNe_i ?_ | with_reducible refine kEq_b ?_ | with_reducible refine kNe_b ?_ | with_reducible refine kEq_t ?_ | with_reducible refine kNe_t ?_ | with_reducible refine kEq_0 ?_ | with_reducible refine kNe_0 ?_
 | ((with_reducible apply kIx_s);exact rfl;exact rfl) | ((with_reducible apply kIsi_s);exact rfl) | ((with_reducible apply jW);exact rfl) | with_reducible refine kTuple_l ?_ | ((with_reducible apply kAny_s);exact rfl;exact rfl) | ((with_reducible apply kAll_s);exact rfl;exact rfl) | ((with_reducible apply kSum_s);exact rfl;exact rfl) | with_reducible refine kInt_b ?_ | with_reducible refine kAbs_s ?_
 | with_reducible refine mFor_s ?_ | with_reducible refine uq ?_ | with_reducible refine mForL_n ?_ | with_reducible refine mForL_c ?_ | with_reducible refine nIt_s ?_ | ((with_reducible apply iK_s);exact rfl) | with_reducible refine nRng1_s ?_ | with_reducible refine rgK_3 ?_ | with_reducible refine rgK_2 ?_ | with_reducible refine nZip_s ?_ | ((with_reducible apply zpK_s);exact rfl;exact rfl;(repeat (first | with_reducible exact zip0 | with_reducible exact zip1 | with_reducible apply zipC)))
 | with_reducible refine mLC_s ?_ | ((with_reducible apply lcK_s);exact rfl) | with_reducible refine mLCL_n ?_ | ((with_reducible apply mLCL_c);exact rfl) | ((with_reducible apply rT);exact rfl;repeat (first | with_reducible exact ini0 | with_reducible apply iniW | with_reducible apply iniN)) | with_reducible refine mSl_s ?_ | with_reducible refine mPart_s ?_ | with_reducible refine pK_s ?_ | with_reducible refine mPar3_s ?_ | with_reducible refine p3K_v (by repeat (first | with_reducible exact setZ | with_reducible apply setS)) (by repeat (first | with_reducible exact setZ | with_reducible apply setS)) (by repeat (first | with_reducible exact setZ | with_reducible apply setS)) ?_ | ((with_reducible apply br_len);exact rfl) | ((with_reducible apply br_nall);exact rfl) | ((with_reducible apply by2_h);decide +kernel;(repeat (first | with_reducible exact setZ | with_reducible apply setS))) | ((with_reducible apply by2_x);decide +kernel) | ((with_reducible apply br_xt);decide +kernel) | ((with_reducible apply br_xf);decide +kernel) | with_reducible refine mLCM_s ?_ | with_reducible refine nSub_s ?_ | ((with_reducible apply iK_c);(with_reducible assumption)) | ((with_reducible apply mForL_cc);(with_reducible assumption)) | ((with_reducible apply mForL_cn);(with_reducible assumption)) | ((with_reducible apply mLCL_cn);(with_reducible assumption)) | ((with_reducible apply mLCL_cc);(with_reducible assumption);exact rfl) | ((with_reducible apply kIx_c);(with_reducible assumption);exact rfl) | ((with_reducible apply zpK_c);(with_reducible assumption);exact rfl;(repeat (first | with_reducible exact zip0 | with_reducible exact zip1 | with_reducible apply zipC))) | ((with_reducible apply mFnT_v);exact rfl;(repeat (first | with_reducible exact ini0 | with_reducible apply iniW | with_reducible apply iniN))) | ((with_reducible apply kAddA_l);exact rfl) | with_reducible refine kIs_b ?_ | with_reducible refine kIsnt_b ?_ | with_reducible refine kEq_s ?_ | with_reducible refine kNe_s ?_ | ((with_reducible apply br_any);decide +kernel)))
def q4 (p q r s:Tr):W:=.lst [tw p,tw q,tw r,tw s]
def uN (p q r s:Tr):Bool:=decide (dt3 (crs p q) r≠0)&&(decide (dt3 (crs p q) s≠0)&&(decide (dt3 (crs p r) s≠0)&&decide (dt3 (crs q r) s≠0)))
def Free (p q r s:Tr):Prop:=dt3 (crs p q) r≠0∧dt3 (crs p q) s≠0∧dt3 (crs p r) s≠0∧dt3 (crs q r) s≠0
theorem freeB_t {p q r s:Tr}(h:Free p q r s):uN p q r s=true:=by
 unfold uN
 rw [decide_eq_true h.1,decide_eq_true h.2.1,decide_eq_true h.2.2.1,decide_eq_true h.2.2.2]
 rfl
theorem freeB_i {p q r s:Tr}(h:uN p q r s=true):Free p q r s:=by
 unfold uN at h
 simp only [Bool.and_eq_true,decide_eq_true_eq] at h
 exact h
def FreeX (c0:MSp):Prop:=∀ {h:Gh} {p q r s:Tr} {m:Nat} {Q:WK} {E:XWK},m≤4000→SmT m p→SmT m q→SmT m r→SmT m s→Q (.bl (uN p q r s)) h→c0 [q4 p q r s] h Q E
theorem w_freeX {tu:MSp}(htu:TurnG tu):FreeX (uc tu):=by
 intro h p q r s m Q E hm sp sq sr ss k
 show tu [rwB true p,rwB true q,rwB true r] h _ _
 refine htu true hm sp sq sr ?_
 show tu [rwB true p,rwB true q,rwB true s] h _ _
 refine htu true hm sp sq ss ?_
 show tu [rwB true p,rwB true r,rwB true s] h _ _
 refine htu true hm sp sr ss ?_
 show tu [rwB true q,rwB true r,rwB true s] h _ _
 refine htu true hm sq sr ss ?_
 show Q (.bl (!(([W.int (dt3 (crs p q) r),.int (dt3 (crs p q) s),.int (dt3 (crs p r) s),.int (dt3 (crs q r) s)]).any fun w=>eqW w (.int 0)))) h
 have e:(!(([W.int (dt3 (crs p q) r),.int (dt3 (crs p q) s),.int (dt3 (crs p r) s),.int (dt3 (crs q r) s)]).any fun w=>eqW w (.int 0)))=uN p q r s:=by
  simp only [List.any_cons,List.any_nil,cA,uN]
  by_cases f1:dt3 (crs p q) r=0 <;> by_cases f2:dt3 (crs p q) s=0 <;> by_cases f3:dt3 (crs p r) s=0 <;> by_cases f4:dt3 (crs q r) s=0 <;> simp [f1,f2,f3,f4]
 rw [e]
 exact k
def To (M:Mt)(p o:Tr):Prop:=∃ a b:Int,a≠0∧b≠0∧sc a (vm M p)=sc b o
theorem to_of {G Go N M:Mt}{e p o:Tr}(dG:det G≠0)(h1:To G e p)(h2:To Go e o)(hN:ParM (adj G) N)(hM:ParM (mm Go N) M):To M p o:=by
 obtain ⟨a,b,a0,b0,ea⟩:=h1
 obtain ⟨a',b',a0',b0',eb⟩:=h2
 obtain ⟨k,k0,ek⟩:=hN
 obtain ⟨c,c0,ec⟩:=hM
 have e1:sc (k*b) (vm N p)=sc (det G*a) e:=by
  have:vm (adj G) (sc a (vm G e))=sc a (sc (det G) e):=by rw [eU,←vm_mm,adj_mm,rO,id_vm]
  rw [ea,ek,eU,rO,rQ,rQ] at this
  exact this
 have e2:sc c (vm M p)=vm Go (vm N p):=by rw [←vm_mm,ec,rO]
 refine ⟨c*(k*b)*a',b'*(det G*a),Int.mul_ne_zero (Int.mul_ne_zero c0 (Int.mul_ne_zero k0 b0)) a0',Int.mul_ne_zero b0' (Int.mul_ne_zero dG a0),?_⟩
 rw [←rQ,←rQ,e2,←eU,e1,eU,←rQ (det G*a) b' o,←eb,rQ,rQ,Int.mul_comm]
theorem qj {p q r s:Tr}(f:Free p q r s){G:Mt}(h:ParM (iD p q r s) G):To G (1,0,0) p∧To G (0,1,0) q∧To G (0,0,1) r∧To G (1,1,1) s:=by
 obtain ⟨f1,f2,f3,f4⟩:=f
 obtain ⟨k,k0,e⟩:=h
 have g:∀ {v t:Tr} {c:Int},c≠0→vm (iD p q r s) v=sc c t→To G v t:=fun c0 e'=>⟨k,_,k0,c0,by rw [←rO,←e,e']⟩
 refine ⟨g ?_ (vm_e0 _ _ _),g ?_ (vm_e1 _ _ _),g ?_ (vm_e2 _ _ _),g ?_ (tiles_u p q r s)⟩
 ·exact f4
 ·intro z
  refine f3 ?_
  have:dt3 (crs p r) s = - dt3 (crs r p) s:=by simp only [dt3,crs];grind
  rw [this,show dt3 (crs r p) s=0 from z]
  rfl
 ·exact f2
 ·exact f1
def ThenS (c0:MSp):Prop:=∀ {h:Gh} {A B:Mt} {m n:Nat} {Q:WK} {E:XWK},m≤4000→n≤3000→SmM m A→SmM n B→det A≠0→det B≠0→(∀ M,PlM M→ParM (mm B A) M→SmM (m+n+2) M→Q (mw M) h)→c0 [mw A,mw B] h Q E
theorem w_thenS {pl tt:MSp}(hpl:wX pl)(htt:TTTOk tt):ThenS (r_then pl tt):=by
 intro h A B m n Q E hm hn sA sB dA dB k
 show tt [MwB true B,MwB true A] h _ _
 refine htt (m:=max m n) true true (by omega) (sB.mono (by omega)) (sA.mono (by omega)) ?_
 show pl [mwl (mm B A)] h _ _
 refine hpl.mt (m:=m+n+2) (.inr rfl) ?_ (mm_sm sB sA) (by omega) k
 rw [det_mm]
 exact fun h=>(Int.mul_eq_zero.mp h).elim dB dA
theorem xJ {r:MM}{mo:ME}{ma:MA}{σ : Sw}{h:Gh}{Q:WK}(x:mo σ h fun x h1=>rW h1 x (ma σ h1 fun xs h2=>r x xs h2 Q)):mBMr r mo ma σ h Q:=x
theorem pJ {n:Nat}{us:List W}{h:Gh}{P:Prop}(e:h.c n=some (.lst us))(p:P):rW h (.loc n) P:=by
 simp only [rW,e]
 exact p
theorem vJ {ma:MA}{ws:List W}{σ : Sw}{h:Gh}{Q:WK}(hm:∀ R,ma σ h R=R ws h)(hz:Nat.ble ws.length 1000=true)(x:∀ g:Gh,g.c h.nx=some (.lst ws)→(∀ n,n≠h.nx→g.c n=h.c n)→g.nx=h.nx+1→Q (.loc h.nx) g):qU ma σ h Q:=by
 unfold qU
 rw [hm]
 exact qy hz (x _ (rJ _ _) (fun _ e=>nW e) rfl)
theorem ext_g {h:Gh}{n:Nat}{us zs:List W}{Q:WK}(e:h.c n=some (.lst us))(hz:us.length+zs.length≤1000)(k:∀ g:Gh,g.c n=some (.lst (us++zs))→(∀ m,m≠n→g.c m=h.c m)→g.nx=h.nx→Q .non g):gM (.loc n) [.lst zs] h Q:=
 ext_ok e (Nat.le_trans hz (by decide)) (k _ (iW _ _ _) (fun _ e=>iQ e) rfl)
theorem app_g {h:Gh}{n:Nat}{us:List W}{w:W}{Q:WK}(e:h.c n=some (.lst us))(hz:us.length≤1000)(k:∀ g:Gh,g.c n=some (.lst (us++[w]))→(∀ m,m≠n→g.c m=h.c m)→g.nx=h.nx→Q .non g):eV (.loc n) [w] h Q:=
 app_ok e (Nat.lt_of_le_of_lt hz (by decide)) (k _ (iW _ _ _) (fun _ e=>iQ e) rfl)
theorem forF0 {α β : Type}{v:α→W}{ws0:List W}{g:MG}{b:MS}{D:bD}(f:α→Option β)(R:β→Prop)(I:Sw→Gh→Prop):∀ (xs:List α),
  (∀ x,x∈xs→∀ σ h N,I σ h→(f x=none→∀ σ' h',I σ' h'→N σ' h')→(∀ y,f x=some y→R y)→g (v x) σ h fun σ1 h1=>b { D with nx:=N,ct:=N,bk:=D.nx } σ1 h1) →
  (xs.findSome? f=none→∀ σ h,I σ h→D.nx σ h)→(∀ y,xs.findSome? f=some y→R y)→∀ (σ : Sw) (h:Gh),I σ h→dD ⟨ws0,none⟩ g b D (xs.map v) σ h
 | [],_,fin,_,σ,h,h0=>fin rfl σ h h0
 | x::xs,step,fin,ret,σ,h,h0=>by
  refine mForL_c (step x List.mem_cons_self σ h _ h0 (fun e σ' h' h1=>?_) fun y e=>ret y ?_)
  ·refine forF0 f R I xs (fun z hz=>step z (List.mem_cons_of_mem _ hz)) (fun e2=>fin ?_) (fun y e2=>ret y ?_) σ' h' h1
   ·rw [List.findSome?_cons,e];exact e2
   ·rw [List.findSome?_cons,e];exact e2
  ·rw [List.findSome?_cons,e]
theorem forF {α β : Type}{v:α→W}{ws0:List W}{g:MG}{b:MS}{D:bD}(f:α→Option β)(R:β→Prop)(I:Sw→Gh→Prop)(xs:List α)
  (step:∀ x,x∈xs→∀ σ h N,I σ h→(f x=none→∀ σ' h',I σ' h'→N σ' h')→(∀ y,f x=some y→R y)→g (v x) σ h fun σ1 h1=>b { D with nx:=N,ct:=N,bk:=D.nx } σ1 h1)
  (fin:xs.findSome? f=none→∀ σ h,I σ h→D.nx σ h) (ret:∀ y,xs.findSome? f=some y→R y) {σ : Sw} {h:Gh} (h0:I σ h):dD ⟨ws0,none⟩ g b D (xs.map v) σ h:=forF0 f R I xs step fin ret σ h h0
def rng (a m:Nat):List Nat:=List.range' a (m - a)
theorem uR {a m x:Nat}:x∈rng a m↔a≤x∧x<m:=by
 unfold rng
 rw [List.mem_range'_1]
 omega
theorem rngW_rng (a m:Nat):yK (a:Int) ((m:Int) - (a:Int)).toNat=(rng a m).map fun x:Nat=>W.int (x:Int):=by
 unfold yK rng
 rw [List.range'_eq_map_range,List.map_map,show ((m:Int) - (a:Int)).toNat=m - a by omega]
 refine List.map_congr_left fun x _=>?_
 simp
theorem rngW_rng0 (m:Nat):yK 0 ((m:Nat):Int).toNat=(rng 0 m).map fun x:Nat=>W.int (x:Int):=by
 have:=rngW_rng 0 m
 rw [show ((m:Int) - ((0:Nat):Int)).toNat=((m:Nat):Int).toNat by omega] at this
 exact this
def rg2K (R:Src→Gh→Prop):List W→Gh→Prop:=fun ws h=>match ws with
 | [.int i,.int j]=>w6 i (w6 j (R ⟨yK i (j - i).toNat,none⟩ h))
 | _=>False
theorem nRng2_s {ma:MA}{R:Src→Gh→Prop}{σ : Sw}{h:Gh}(x:ma σ h (rg2K R)):nRng2 ma σ h R:=x
theorem rg2K_s {R:Src→Gh→Prop}{h:Gh}{a:Int}{m n:Nat}(ha:a=(n:Int))(h1:n≤1000)(h2:m≤1000)(x:R ⟨(rng n m).map fun x:Nat=>W.int (x:Int),none⟩ h):rg2K R [.int a,.int (m:Int)] h:=by
 subst ha
 rw [←rngW_rng] at x
 exact w6.mk (by omega) (by omega) (w6.mk (by omega) (by omega) x)
theorem rgK_s {R:Src→Gh→Prop}{h:Gh}{m:Nat}(h2:m≤1000)(x:R ⟨(rng 0 m).map fun x:Nat=>W.int (x:Int),none⟩ h):rgK R [.int (m:Int)] h:=by
 rw [←rngW_rng0] at x
 exact w6.mk (by omega) (by omega) x
def nxt (l:List Nat):Nat:=match l.getLast? with
 | none=>0
 | some x=>x+1
def grow (m:Nat)(l:List Nat):List (List Nat):=(rng (nxt l) m).map fun p=>l++[p]
def rise (m:Nat):Nat→List (List Nat)
 | 0=>[[]]
 | k+1=>(rise m k).flatMap (grow m)
def m7 (l:List Nat):W:=.tup (l.map fun x:Nat=>.int (x:Int))
theorem jF {m:Nat}:∀ {k:Nat} {l:List Nat},l∈rise m k→l.length=k
 | 0,l,h=>by
  rw [rise,List.mem_singleton] at h
  rw [h]
  rfl
 | k+1,l,h=>by
  rw [rise,List.mem_flatMap] at h
  obtain ⟨u,hu,hl⟩:=h
  obtain ⟨p,_,rfl⟩:=List.mem_map.mp hl
  rw [List.length_append,jF hu]
  rfl
theorem nxt_le {m:Nat}:∀ {k:Nat} {l:List Nat},l∈rise m k→nxt l≤m
 | 0,l,h=>by
  rw [rise,List.mem_singleton] at h
  rw [h]
  exact Nat.zero_le _
 | k+1,l,h=>by
  rw [rise,List.mem_flatMap] at h
  obtain ⟨u,hu,hl⟩:=h
  obtain ⟨p,hp,rfl⟩:=List.mem_map.mp hl
  have:=(uR.mp hp).2
  unfold nxt
  rw [List.getLast?_append]
  simp
  omega
theorem rise_small:∀ m,m≤12→∀ k,k≤4→(rise m k).length≤1000:=by
 have:(List.range 13).all (fun m=>(List.range 5).all fun k=>decide ((rise m k).length≤1000))=true:=by decide +kernel
 intro m hm k hk
 rw [List.all_eq_true] at this
 have h1:=this m (List.mem_range.mpr (by omega))
 rw [List.all_eq_true] at h1
 exact of_decide_eq_true (h1 k (List.mem_range.mpr (by omega)))
def SrcW (h:Gh)(w:W)(ws:List W):Prop:=w=.lst ws∨∃ n,w=.loc n∧h.c n=some (.lst ws)
theorem for_srcW {i:Nat}{g:MG}{b:MS}{D:bD}{σ : Sw}{h:Gh}{w:W}{α : Type}{v:α→W}{xs:List α}(hv:σ[i]?=some (some w))(e:SrcW h w (xs.map v))(I:Nat→Sw→Gh→Prop)
  (go:∀ i σ h',I i σ h'→SrcW h' w (xs.map v))
  (step:∀ (i:Nat) (x:α) (σ : Sw) (h:Gh) (N:Sw→Gh→Prop),(∀ σ' h',I (i+1) σ' h'→N σ' h')→xs[i]?=some x→I i σ h→g (v x) σ h fun σ1 h1=>b { D with nx:=N,ct:=N,bk:=D.nx } σ1 h1)
  (fin:∀ σ h,I xs.length σ h→D.nx σ h) (h0:I 0 σ h):p8 (nIt (aB i)) g b D σ h:=by
 unfold p8 nIt aB
 rw [hv]
 dsimp only
 have gen:∀ s:Src,pZ h w=some s→s.ws=xs.map v→(∀ h',SrcW h' w (xs.map v)→∀ P:Prop,P→s.go h' P)→(match pZ h w with
   | some s=>dD s g b D s.ws σ h
   | none=>False):=by
  intro s es ew hg
  rw [es]
  show dD s g b D s.ws σ h
  rw [ew]
  refine for_invS I (fun i σ h' hi=>hg h' (go i σ h' hi)) (fun i w σ h N hN e hi=>?_) (fun σ h q=>fin σ h (by rwa [List.length_map] at q)) h0
  rw [List.getElem?_map] at e
  cases q:xs[i]? with
  | none=>rw [q] at e;cases e
  | some x=>
   rw [q] at e
   cases e
   exact step i x σ h N hN q hi
 rcases e with rfl | ⟨n,rfl,e⟩
 ·exact gen ⟨xs.map v,none⟩ rfl rfl fun _ _ _ p=>p
 ·refine gen ⟨xs.map v,some (n,xs.map v)⟩ (by simp only [pZ,e]) rfl fun h' e' P p=>⟨?_,p⟩
  rcases e' with e' | ⟨n',e',q⟩
  ·cases e'
  ·cases e';exact q
theorem kAddA_tp {a b:List W}{h:Gh}{Q:WK}(hz:a.length+b.length≤1000)(x:Q (.tup (a++b)) h):cC (.tup a) (.tup b) h Q:=by
 cases a with
 | nil=>exact x
 | cons a0 a=>exact iU.mk (Nat.le_trans (by simpa using hz) (by decide:1000≤sizeLine)) x
theorem lc_grow {m:Nat}{l:List Nat}{σ : Sw}{h:Gh}{Q:WK}(hm:m≤12)(hl:l.length≤4)(hn:nxt l≤m)(h5:σ[5]?=some (some (m7 l)))(h6:σ[6]?=some (some (.int (nxt l:Int))))(h0:σ[0]?=some (some (.int (m:Int))))(x:Q (.lst ((grow m l).map m7)) h) :
  mLC ow1 [5] (nRng2 (aq (aB 6) (aq (aB 0) aL))) fX (mOp cC (aB 1) (vV (aq (aB 0) aL))) σ h Q:=by
 refine mLC_s (nRng2_s (cu (bL h6 (cu (bL h0 (fP ?_))))))
 refine rg2K_s rfl (by omega) (by omega) ?_
 have hb:rC [5] σ = [some (m7 l)]:=by
  show [(σ[5]?).getD none]=_
  rw [h5]
  rfl
 have hz:((rng (nxt l) m).map fun x:Nat=>W.int (x:Int)).length≤sizeLine:=by
  rw [List.length_map]
  unfold rng
  rw [List.length_range']
  exact Nat.le_trans (by omega) (by decide:12≤sizeLine)
 refine iU.mk hz ?_
 refine jX (fun i acc h'=>h'=h∧acc=(((rng (nxt l) m).take i).map fun p=>l++[p]).map m7) ?_ ?_ ⟨rfl,rfl⟩
 ·rintro i w acc h' N hN e ⟨rfl,rfl⟩
  rw [List.getElem?_map] at e
  cases q:(rng (nxt l) m)[i]? with
  | none=>rw [q] at e;cases e
  | some p=>
   rw [q] at e
   cases e
   refine ⟨[W.int (p:Int)],rfl,?_⟩
   rw [hb]
   refine mYes_s (by2_ts (xW (bL rfl (mTup_s (cu (bL rfl (fP (qy rfl ?_))))))))
   refine kAddA_tp (a:=l.map fun x:Nat=>.int (x:Int)) (by rw [List.length_map];simp;omega) ?_
   refine hN _ _ ⟨rfl,?_⟩
   rw [List.take_succ,q]
   simp [m7]
 ·rintro acc h' ⟨rfl,rfl⟩
  rw [List.length_map,List.take_length]
  exact x
def vQ (c0:MSp):Prop:=∀ {h:Gh} {m k:Nat} {Q:WK} {E:XWK},m≤12→k≤4→Q (.lst ((rise m k).map m7)) h→c0 [.int (m:Int),.int (k:Int)] h Q E
theorem atI_lst {l:List Nat}{i:Nat}(h:l.length=i+1):∃ x,l.getLast?=some x∧atI (l.map fun x:Nat=>W.int (x:Int)) (i:Int)=some (.int (x:Int)):=by
 have hi:i<l.length:=by omega
 refine ⟨l[i],?_,?_⟩
 ·rw [List.getLast?_eq_getElem?,h,Nat.add_sub_cancel,List.getElem?_eq_getElem hi]
 ·exact nu (by rw [List.getElem?_map,List.getElem?_eq_getElem hi];rfl)
theorem losN (n:Nat):∀ l:List Nat,Los n (l.map fun x:Nat=>W.int (x:Int))
 | []=>by simp [Los]
 | x::l=>by
  have:=losN n l
  rw [List.map_cons,Los]
  exact ⟨by simp [Lo],this⟩
theorem los_tup (n:Nat)(l:List Nat):Lo n (m7 l):=by
 unfold m7
 rw [Lo]
 exact losN n l
theorem u6 (n:Nat):∀ ls:List (List Nat),Los n (ls.map m7)
 | []=>by simp [Los]
 | l::ls=>by
  have:=u6 n ls
  rw [List.map_cons,Los]
  exact ⟨los_tup n l,this⟩
theorem rng_get {a m i x:Nat}(e:(rng a m)[i]?=some x):x=a+i∧x<m:=by
 have hx:=uR.mp (List.mem_of_getElem? e)
 unfold rng at e
 have hl:=(List.getElem?_eq_some_iff.mp e).1
 rw [List.length_range'] at hl
 rw [List.getElem?_eq_getElem (by rw [List.length_range'];exact hl),List.getElem_range'] at e
 have:=Option.some.inj e
 omega
theorem w_rising:vQ uM:=by
 intro h m k Q E hm hk q
 unfold uM
 refine mFnT_v rfl (σ:=[some (.int (m:Int)),some (.int (k:Int)),none,none,none,none,none]) rfl ?_
 refine fZ (nT (mLst_s (cu (mTup_s (fP (qy rfl (fP (qy rfl ?_))))))))
 refine cO (σ':=[some (.int (m:Int)),some (.int (k:Int)),some (.lst [.tup []]),none,none,none,none]) rfl (nx_s ?_)
 refine fZ (mFor_s (nRng1_s (cu (bL rfl (fP (rgK_s (by omega) (uq ?_)))))))
 refine j9 (fun i σ h'=>∃ w s3 s4 s5 s6,σ = [some (.int (m:Int)),some (.int (k:Int)),some w,s3,s4,s5,s6]∧(w=.lst ((rise m i).map m7)∨∃ n,w=.loc n∧h.nx≤n∧n<h'.nx∧h'.c n=some (.lst ((rise m i).map m7)))∧h.nx≤h'.nx∧∀ n,n<h.nx→h'.c n=h.c n) ?_ ?_ ⟨_,_,_,_,_,rfl,.inl rfl,Nat.le_refl _,fun _ _=>rfl⟩
 ·rintro i w0 σ h' N hN e ⟨w,s3,s4,s5,s6,rfl,hw,hx,ho⟩
  rw [List.getElem?_map] at e
  cases qe:(rng 0 k)[i]? with
  | none=>rw [qe] at e;cases e
  | some i'=>
   rw [qe] at e
   cases e
   obtain ⟨ei,hik⟩:=rng_get qe
   rw [Nat.zero_add] at ei
   subst ei
   refine cO (σ':=[some (.int (m:Int)),some (.int (k:Int)),some w,some (.int (i':Int)),s4,s5,s6]) rfl ?_
   refine fZ (nT (vJ (ws:=[]) (fun R=>rfl) rfl fun g eg og xg=>?_))
   refine cO (σ':=[some (.int (m:Int)),some (.int (k:Int)),some w,some (.int (i':Int)),some (.loc h'.nx),s5,s6]) rfl (nx_s ?_)
   refine fZ ?_
   have sw:∀ g':Gh,(∀ n,n≠h'.nx→g'.c n=h'.c n)→SrcW g' w ((rise m i').map m7):=by
    intro g' hg
    rcases hw with rfl | ⟨n,rfl,h1,h2,h3⟩
    ·exact .inl rfl
    ·exact .inr ⟨n,rfl,by rw [hg n (by omega)];exact h3⟩
   refine for_srcW (i:=2) (w:=w) (v:=m7) (xs:=rise m i') rfl (sw g og) (fun j σ g'=>∃ s5 s6,σ = [some (.int (m:Int)),some (.int (k:Int)),some w,some (.int (i':Int)),some (.loc h'.nx),s5,s6]∧g'.c h'.nx=some (.lst ((((rise m i').take j).flatMap (grow m)).map m7))∧g'.nx=h'.nx+1∧∀ n,n≠h'.nx→g'.c n=h'.c n) ?_ ?_ ?_ ⟨_,_,rfl,eg,xg,og⟩
   ·rintro j σ g' ⟨s5,s6,rfl,h1,h2,h3⟩
    exact sw g' h3
   ·rintro j l σ g' N2 hN2 el ⟨s5,s6,rfl,h1,h2,h3⟩
    have ml:=List.mem_of_getElem? el
    have ll:=jF ml
    have ln:=nxt_le ml
    refine cO (σ':=[some (.int (m:Int)),some (.int (k:Int)),some w,some (.int (i':Int)),some (.loc h'.nx),some (m7 l),s6]) rfl ?_
    have fin:∀ σ,σ = [some (.int (m:Int)),some (.int (k:Int)),some w,some (.int (i':Int)),some (.loc h'.nx),some (m7 l),some (.int (nxt l:Int))]→ni (mBMr gM (aB 4) (aq (mLC ow1 [5] (nRng2 (aq (aB 6) (aq (aB 0) aL))) fX (mOp cC (aB 1) (vV (aq (aB 0) aL)))) aL)) { nx:=N2,rt:=fun w h'=>yp true h w h' Q,bk:=fun _ _=>False,ct:=N2 } σ g':=by
     rintro σ rfl
     refine rz (xJ (bL rfl (pJ h1 (cu (lc_grow hm (by omega) ln rfl rfl rfl (fP (ext_g h1 ?_ fun g2 e2 o2 x2=>?_)))))))
     ·rw [List.length_map,List.length_map,←List.length_append,show grow m l=[l].flatMap (grow m) by simp,←List.flatMap_append]
      have hp:(rise m i').take (j+1)=(rise m i').take j++[l]:=by rw [List.take_succ,el];rfl
      rw [←hp]
      have hr:=rise_small m hm (i'+1) (by omega)
      rw [rise,←List.take_append_drop (j+1) (rise m i'),List.flatMap_append,List.length_append] at hr
      omega
     ·refine hN2 _ _ ⟨_,_,rfl,?_,by rw [x2];exact h2,fun n hn=>by rw [o2 n hn];exact h3 n hn⟩
      rw [e2,List.take_succ,el,List.flatMap_append,List.map_append]
      simp
    refine fZ (nT (mIf_s (mTest_s (xW (bL rfl (mC_s (kGt_s (tK_s ?_))))))))
    refine br_d (fun hp=>?_) fun hp=>?_
    ·obtain ⟨x,ex,ax⟩:=atI_lst (l:=l) (i:=i' - 1) (by omega)
     have en:nxt l=x+1:=by unfold nxt;rw [ex]
     refine xW (xW (bL rfl (xW (bL rfl (mC_s (kSub_s (kIx_s (x:=m7 l) (i:=(i':Int) - 1) (w:=.int (x:Int)) rfl ?_ (mC_s (kAddA_s ?_)))))))))
     ·rw [show (i':Int) - 1=((i' - 1:Nat):Int) by omega]
      exact ax
     ·refine cO (σ':=[some (.int (m:Int)),some (.int (k:Int)),some w,some (.int (i':Int)),some (.loc h'.nx),some (m7 l),some (.int (nxt l:Int))]) (by rw [en];rfl) (nx_s (fin _ rfl))
    ·have l0:l=[]:=List.eq_nil_of_length_eq_zero (by omega)
     have en:nxt l=0:=by rw [l0];rfl
     refine mC_s ?_
     refine cO (σ':=[some (.int (m:Int)),some (.int (k:Int)),some w,some (.int (i':Int)),some (.loc h'.nx),some (m7 l),some (.int (nxt l:Int))]) (by rw [en];rfl) (nx_s (fin _ rfl))
   ·rintro σ g' ⟨s5,s6,rfl,h1,h2,h3⟩
    rw [List.take_length] at h1
    refine nx_s ?_
    refine nT ?_
    refine bL rfl ?_
    refine cO (σ':=[some (.int (m:Int)),some (.int (k:Int)),some (.loc h'.nx),some (.int (i':Int)),some (.loc h'.nx),s5,s6]) rfl (nx_s ?_)
    exact hN _ _ ⟨_,_,_,_,_,rfl,.inr ⟨_,rfl,hx,by omega,h1⟩,by omega,fun n hn=>by rw [h3 n (by omega)];exact ho n hn⟩
 ·rintro σ h' ⟨w,s3,s4,s5,s6,rfl,hw,hx,ho⟩
  have hl:((rng 0 k).map fun x:Nat=>W.int (x:Int)).length=k:=by
   rw [List.length_map]
   unfold rng
   rw [List.length_range']
   omega
  rw [hl] at hw
  unfold uo
  refine nx_s ?_
  refine pO ?_
  refine bL rfl ?_
  refine rt_s ?_
  refine ⟨fun n c hn e=>by rw [ho n hn];exact e,?_⟩
  rcases hw with rfl | ⟨n,rfl,h1,h2,h3⟩
  ·exact .inl ⟨by rw [Lo];exact u6 _ _,q⟩
  ·exact .inr ⟨n,_,rfl,h1,h3,u6 _ _,q⟩
def gt (ts:List Tr)(i:Nat):Tr:=ts.getD i (0,0,0)
def SrcN (h:Gh)(w:W)(ts:List Tr):Prop:=w=.lst (ts.map tw)∨∃ n,w=.loc n∧n<h.nx∧h.c n=some (.lst (ts.map tw))
theorem SrcN.t {h:Gh}{w:W}{ts:List Tr}(e:SrcN h w ts):sX h w ts:=by
 rcases e with e | ⟨n,e,_,q⟩
 ·exact .inl e
 ·exact .inr ⟨n,e,q⟩
def OkT (m:Nat)(ts:List Tr):Prop:=∀ t∈ts,Pl t∧SmT m t
theorem Ac {ts:List Tr}{i:Nat}(hi:i<ts.length):gt ts i∈ts:=by
 unfold gt
 rw [List.getD_eq_getElem?_getD,List.getElem?_eq_getElem hi]
 exact List.getElem_mem hi
theorem oA {ts:List Tr}{i:Nat}(hi:i<ts.length):ts[i]?=some (gt ts i):=by
 unfold gt
 rw [List.getD_eq_getElem?_getD,List.getElem?_eq_getElem hi]
 rfl
theorem sX.at {h:Gh}{w:W}{ts:List Tr}(e:sX h w ts){i:Nat}(hi:i<ts.length){Q:WK}(k:Q (tw (gt ts i)) h):kIx w (.int (i:Int)) h Q:=
 kIx_s e.src.1 (nu (by rw [List.getElem?_map,oA hi];rfl)) k
theorem len_s {h:Gh}{w:W}{ts:List Tr}(e:sX h w ts){Q:WK}(k:Q (.int (ts.length:Int)) h):kLen [w] h Q:=by
 refine jW e.src.1 ?_
 rw [List.length_map]
 exact k
def PickX (c0:MSp):Prop:=∀ {h:Gh} {w:W} {ts:List Tr} {l:List Nat} {Q:WK} {E:XWK},sX h w ts→(∀ i∈l,i<ts.length)→l.length≤1000→Q (.lst ((l.map (gt ts)).map tw)) h→c0 [w,m7 l] h Q E
theorem w_picked:PickX vR:=by
 intro h w ts l Q E e hl hz q
 unfold vR
 refine rT rfl (σ:=[some w,some (m7 l)]) rfl (pO (mLC_s (nIt_s (bL rfl (iK_s (ws:=l.map fun x:Nat=>.int (x:Int)) (o:=none) rfl ?_)))))
 refine iU.mk (by rw [List.length_map];exact Nat.le_trans hz (by decide)) ?_
 refine jX (fun i acc h'=>h'=h∧acc=((l.take i).map (gt ts)).map tw) ?_ ?_ ⟨rfl,rfl⟩
 ·rintro i w2 acc h' N hN e2 ⟨rfl,rfl⟩
  rw [List.getElem?_map] at e2
  cases qe:l[i]? with
  | none=>rw [qe] at e2;cases e2
  | some p=>
   rw [qe] at e2
   cases e2
   refine ⟨[W.int (p:Int)],rfl,?_⟩
   refine mYes_s (xW (bL rfl (bL rfl (e.at (hl p (List.mem_of_getElem? qe)) ?_))))
   refine hN _ _ ⟨rfl,?_⟩
   rw [List.take_succ,qe]
   simp
 ·rintro acc h' ⟨rfl,rfl⟩
  rw [List.length_map,List.take_length]
  exact rt_s q
theorem fs_fm {α β γ : Type}(f:α→List β)(g:β→Option γ):∀ xs:List α,(xs.flatMap f).findSome? g=xs.findSome? fun x=>(f x).findSome? g
 | []=>rfl
 | x::xs=>by
  rw [List.flatMap_cons,List.findSome?_append,fs_fm f g xs,List.findSome?_cons]
  cases (f x).findSome? g <;> rfl
def pass (P:List Nat→Bool)(l:List Nat):Option (List Nat):=if P l then some l else none
theorem pass_t {P:List Nat→Bool}{l:List Nat}(h:P l=true):pass P l=some l:=by
 unfold pass
 rw [h]
 rfl
theorem pass_f {P:List Nat→Bool}{l:List Nat}(h:P l=false):pass P l=none:=by
 unfold pass
 rw [h]
 rfl
theorem fs_one {α β : Type}(f:α→Option β)(x:α):[x].findSome? f=f x:=by
 rw [List.findSome?_cons]
 cases f x <;> rfl
def srch4 (m:Nat)(P:List Nat→Bool):Option (List Nat):=(rng 0 m).findSome? fun i=>(rng (i+1) m).findSome? fun j=>(rng (j+1) m).findSome? fun k=>(rng (k+1) m).findSome? fun x=>pass P [i,j,k,x]
def srch3 (m:Nat)(P:List Nat→Bool):Option (List Nat):=(rng 0 m).findSome? fun i=>(rng (i+1) m).findSome? fun j=>(rng (j+1) m).findSome? fun k=>pass P [i,j,k]
theorem fs_grow {γ : Type}(m:Nat)(l:List Nat)(g:List Nat→Option γ):(grow m l).findSome? g=(rng (nxt l) m).findSome? fun p=>g (l++[p]):=by
 unfold grow
 rw [List.findSome?_map]
 rfl
theorem rise4 (m:Nat)(P:List Nat→Bool):(rise m 4).findSome? (pass P)=srch4 m P:=by
 simp only [rise,fs_fm,fs_grow,fs_one]
 rfl
theorem rise3 (m:Nat)(P:List Nat→Bool):(rise m 3).findSome? (pass P)=srch3 m P:=by
 simp only [rise,fs_fm,fs_grow,fs_one]
 rfl
theorem qR {m:Nat}:∀ {k:Nat} {l:List Nat},l∈rise m k→∀ i∈l,i<m
 | 0,l,h=>by
  rw [rise,List.mem_singleton] at h
  subst h
  intro i hi
  cases hi
 | k+1,l,h=>by
  rw [rise,List.mem_flatMap] at h
  obtain ⟨u,hu,hl⟩:=h
  obtain ⟨p,hp,rfl⟩:=List.mem_map.mp hl
  intro i hi
  rcases List.mem_append.mp hi with hi | hi
  ·exact qR hu i hi
  ·rw [List.mem_singleton.mp hi]
   exact (uR.mp hp).2
theorem zj {m k a b:Nat}{l r:List Nat}:l++[a,b]++r∈rise m k→a<b:=by
 intro h
 induction k generalizing r with
 | zero=>
  rw [rise,List.mem_singleton] at h
  simp at h
 | succ k ih=>
  rw [rise,List.mem_flatMap] at h
  obtain ⟨u,hu,hl⟩:=h
  obtain ⟨p,hp,e⟩:=List.mem_map.mp hl
  rcases List.eq_nil_or_concat r with rfl | ⟨r',z,rfl⟩
  ·rw [List.append_nil,show l++[a,b]=l++[a]++[b] by simp] at e
   obtain ⟨e1,e2⟩:=List.append_inj' e rfl
   cases e2
   subst e1
   have:=(uR.mp hp).1
   unfold nxt at this
   rw [List.getLast?_append] at this
   simp at this
   omega
  ·rw [List.concat_eq_append,←List.append_assoc] at e
   obtain ⟨e1,e2⟩:=List.append_inj' e rfl
   subst e1
   exact ih hu
def freeAt (ts:List Tr):List Nat→Bool
 | [a,b,c,d]=>uN (gt ts a) (gt ts b) (gt ts c) (gt ts d)
 | _=>false
def FF (ts:List Tr):Option (List Nat):=srch4 ts.length (freeAt ts)
def FirstX (c0:MSp):Prop:=∀ {h:Gh} {w:W} {ts:List Tr} {m:Nat} {Q:WK} {E:XWK},m≤4000→sX h w ts→ts.length≤12→OkT m ts→(FF ts=none→Q .non h)→(∀ l,FF ts=some l→Q (m7 l) h)→c0 [w] h Q E
theorem w_first {ri pi fr:MSp}(hri:vQ ri)(hpi:PickX pi)(hfr:FreeX fr):FirstX (jd ri pi fr):=by
 intro h w ts m Q E hm e hl hs k0 k1
 unfold jd
 refine rT rfl (σ:=[some w,none]) rfl (fZ (mFor_s (nIt_s (pR (cu (mCB_s (cu (bL rfl (fP (len_s e ?_))))))))))
 refine cu (mC_s (fP (hri (m:=ts.length) (k:=4) hl (by decide) (iK_s rfl (uq ?_)))))
 have hff:=rise4 ts.length (freeAt ts)
 refine forF (v:=m7) (pass (freeAt ts)) (fun l=>Q (m7 l) h) (fun σ h'=>∃ s1,σ = [some w,s1]∧h'=h) (rise ts.length 4) ?_ ?_ ?_ ⟨none,rfl,rfl⟩
 ·rintro l ml σ h' N ⟨s1,rfl,rfl⟩ hN hR
  have ll:=jF ml
  have li:=qR ml
  match l,ll with
  | [a,b,c,d],_=>
   have ga:∀ i∈[a,b,c,d],SmT m (gt ts i):=fun i hi=>(hs _ (Ac (li i hi))).2
   refine cO (σ':=[some w,some (m7 [a,b,c,d])]) rfl ?_
   rfl'
   refine hpi e li (by simp) ?_
   rfl'
   refine hfr (p:=gt ts a) (q:=gt ts b) (r:=gt ts c) (s:=gt ts d) (m:=m) hm (ga a (by simp)) (ga b (by simp)) (ga c (by simp)) (ga d (by simp)) ?_
   cases hb:uN (gt ts a) (gt ts b) (gt ts c) (gt ts d) with
   | true=>
    rfl'
    exact hR [a,b,c,d] (pass_t hb)
   | false=>
    rfl'
    exact hN (pass_f hb) _ _ ⟨_,rfl,rfl⟩
 ·rintro hn σ h' ⟨s1,rfl,rfl⟩
  unfold jR
  rfl'
  exact k0 (hff.symm.trans hn)
 ·intro l hy
  exact k1 l (hff.symm.trans hy)
def unl (ts:List Tr):List Tr:=ts.foldl (fun acc t=>if t∈acc then acc else acc++[t]) []
theorem pF (ts:List Tr)(t:Tr):unl (ts++[t])=if t∈unl ts then unl ts else unl ts++[t]:=by
 unfold unl
 rw [List.foldl_append]
 rfl
theorem p7 (ts:List Tr):(unl ts).Nodup∧(∀ t,t∈unl ts↔t∈ts)∧(unl ts).length≤ts.length:=by
 have:∀ n,(unl (ts.take n)).Nodup∧(∀ t,t∈unl (ts.take n)↔t∈ts.take n)∧(unl (ts.take n)).length≤(ts.take n).length:=by
  intro n
  induction n with
  | zero=>exact ⟨List.nodup_nil,fun t=>Iff.rfl,Nat.le_refl _⟩
  | succ n ih=>
   obtain ⟨h1,h2,h3⟩:=ih
   rw [List.take_succ]
   cases e:ts[n]? with
   | none=>
    rw [Option.toList_none,List.append_nil]
    exact ⟨h1,h2,h3⟩
   | some t=>
    rw [Option.toList_some,pF]
    by_cases hm:t∈unl (ts.take n)
    ·rw [if_pos hm]
     refine ⟨h1,fun u=>?_,by rw [List.length_append];omega⟩
     rw [h2,List.mem_append,List.mem_singleton]
     refine ⟨.inl,fun h=>h.elim id fun e=>?_⟩
     rw [e,←h2]
     exact hm
    ·rw [if_neg hm]
     refine ⟨?_,fun u=>?_,by rw [List.length_append,List.length_append];simp only [List.length_singleton];omega⟩
     ·rw [List.nodup_append]
      refine ⟨h1,by simp,fun a ha b hb=>?_⟩
      rw [List.mem_singleton] at hb
      subst hb
      intro e
      subst e
      exact hm ha
     ·rw [List.mem_append,List.mem_append,h2]
 have:=this ts.length
 rwa [List.take_length] at this
theorem nin_s {y:W}{us:List Tr}{t:Tr}{h:Gh}{Q:WK}(e:fC h y=some (us.map tw))(k:Q (.bl (!decide (t∈us))) h):kNinD (tw t) y h Q:=by
 have ea:(us.map tw).all (plW 20)=true:=by
  rw [List.all_eq_true]
  intro w hw
  obtain ⟨u,_,rfl⟩:=List.mem_map.mp hw
  exact pl_tw 19 u
 have ec:(us.map tw).any (fun u=>eqW u (tw t))=decide (t∈us):=by
  rw [List.any_map]
  by_cases hm:t∈us
  ·rw [decide_eq_true hm,List.any_eq_true]
   exact ⟨t,hm,by show eqW (tw t) (tw t)=true;rw [yS];exact decide_eq_true rfl⟩
  ·rw [decide_eq_false hm,List.any_eq_false]
   intro u hu
   show ¬ eqW (tw u) (tw t)=true
   rw [yS,decide_eq_true_eq]
   intro e
   subst e
   exact hm hu
 show (match fC h y with
  | some us=>by2 (plW 20 (tw t)&&us.all (plW 20)) (Q (.bl (!(us.any fun u=>eqW u (tw t)))) h) False
  | none=>False)
 rw [e]
 dsimp only
 rw [pl_tw 19,ea,ec]
 exact k
theorem lo_tws (n:Nat):∀ ts:List Tr,Los n (ts.map tw)
 | []=>by simp [Los]
 | t::ts=>by
  have:=lo_tws n ts
  rw [List.map_cons,Los]
  exact ⟨by unfold tw;simp [Lo,Los],this⟩
def UnX (c0:MSp):Prop:=∀ {h:Gh} {w:W} {ts:List Tr} {Q:WK} {E:XWK},SrcN h w ts→ts.length≤100→Q (.lst ((unl ts).map tw)) h→c0 [w] h Q E
theorem w_unlike:UnX fW:=by
 intro h w ts Q E e hl q
 unfold fW
 refine mFnT_v rfl (σ:=[some w,none,none]) rfl ?_
 refine fZ (nT (vJ (ws:=[]) (fun R=>rfl) rfl fun g eg og xg=>?_))
 refine cO (σ':=[some w,some (.loc h.nx),none]) rfl (nx_s (fZ ?_))
 have sw:∀ g':Gh,(∀ n,n≠h.nx→g'.c n=h.c n)→sX g' w ts:=by
  intro g' hg
  rcases e with e | ⟨n,e,hn,ec⟩
  ·exact .inl e
  ·exact .inr ⟨n,e,by rw [hg n (by omega)];exact ec⟩
 refine for_seen (i:=0) (w:=w) (ts:=ts) rfl (sw g og) (fun i σ h'=>∃ s2,σ = [some w,some (.loc h.nx),s2]∧h'.c h.nx=some (.lst ((unl (ts.take i)).map tw))∧h'.nx=h.nx+1∧∀ n,n≠h.nx→h'.c n=h.c n) ?_ ?_ ?_ ⟨none,rfl,eg,xg,og⟩
 ·rintro i σ h' ⟨s2,rfl,h1,h2,h3⟩
  exact sw h' h3
 ·rintro i t σ h' N hN et ⟨s2,rfl,h1,h2,h3⟩
  have hu:unl (ts.take (i+1))=if t∈unl (ts.take i) then unl (ts.take i) else unl (ts.take i)++[t]:=by
   rw [List.take_succ,et,Option.toList_some,pF]
  have hz:=(p7 (ts.take i)).2.2
  have hz2:(ts.take i).length≤ts.length:=by rw [List.length_take];omega
  refine cO (σ':=[some w,some (.loc h.nx),some (tw t)]) rfl ?_
  rfl'
  refine nin_s (qK h1) ?_
  by_cases hm:t∈unl (ts.take i)
  ·rw [decide_eq_true hm]
   rw [if_pos hm] at hu
   rfl'
   exact hN _ _ ⟨_,rfl,by rw [hu];exact h1,h2,h3⟩
  ·rw [decide_eq_false hm]
   rw [if_neg hm] at hu
   rfl'
   refine xJ (bL rfl (pJ h1 (cu (bL rfl (fP (app_g h1 (by rw [List.length_map];omega) fun g2 e2 o2 x2=>?_))))))
   rfl'
   exact hN _ _ ⟨_,rfl,by rw [hu,e2,List.map_append];rfl,by rw [x2];exact h2,fun n hn=>by rw [o2 n hn];exact h3 n hn⟩
 ·rintro σ h' ⟨s2,rfl,h1,h2,h3⟩
  rw [List.take_length] at h1
  unfold iB
  refine nx_s ?_
  refine pO ?_
  refine bL rfl ?_
  refine rt_s ?_
  exact ⟨fun n c hn ec=>by rw [h3 n (by omega)];exact ec,.inr ⟨h.nx,_,rfl,Nat.le_refl _,h1,lo_tws _ _,q⟩⟩
noncomputable def flatAt (ts:List Tr):List Nat→Bool
 | [a,b,c]=>rM [gt ts a,gt ts b,gt ts c]
 | _=>false
noncomputable def LL (ts:List Tr):Option (List Nat):=srch3 ts.length (flatAt ts)
def L3X (c0:MSp):Prop:=∀ {h:Gh} {w:W} {us:List Tr} {m:Nat} {Q:WK} {E:XWK},m≤3900→sX h w us→us.length≤12→OkT m us→us.Nodup→(LL us=none→Q .non h)→(∀ l t,LL us=some l→Q (tw t) h)→c0 [w] h Q E
theorem w_line3 {ol jo ri pi:MSp}(hol:nF ol)(hjo:JoinOk jo)(hri:vQ ri)(hpi:PickX pi):L3X (eO ol jo ri pi):=by
 intro h w us m Q E hm e hl hs nd k0 k1
 unfold eO
 refine rT rfl (σ:=[some w,none,none]) rfl (fZ (mFor_s (nIt_s (pR (cu (mCB_s (cu (bL rfl (fP (len_s e ?_))))))))))
 refine cu (mC_s (fP (hri (m:=us.length) (k:=3) hl (by decide) (iK_s rfl (uq ?_)))))
 have hff:=rise3 us.length (flatAt us)
 refine forF (v:=m7) (pass (flatAt us)) (fun l=>∀ t,Q (tw t) h) (fun σ h'=>∃ s1 s2,σ = [some w,s1,s2]∧h'=h) (rise us.length 3) ?_ ?_ ?_ ⟨none,none,rfl,rfl⟩
 ·rintro l ml σ h' N ⟨s1,s2,rfl,rfl⟩ hN hR
  have ll:=jF ml
  have li:=qR ml
  match l,ll with
  | [a,b,c],_=>
   have ga:∀ i∈[a,b,c],Pl (gt us i)∧SmT m (gt us i):=fun i hi=>hs _ (Ac (li i hi))
   have hab:a<b:=zj (l:=[]) (r:=[c]) ml
   have la:=li a (by simp)
   have lb:=li b (by simp)
   have hne:gt us a≠gt us b:=by
    intro e
    have e1:=oA la
    have e2:=oA lb
    rw [e,←e2] at e1
    exact absurd ((List.getElem?_inj la nd).mp e1) (by omega)
   refine cO (σ':=[some w,some (m7 [a,b,c]),s2]) rfl ?_
   rfl'
   refine hpi e li (by simp) ?_
   rfl'
   refine hol (ts:=[gt us a,gt us b,gt us c]) (M:=m) (.inl rfl) (by simp) (by omega) ?_ ?_
   ·intro t ht
    simp only [List.mem_cons,List.not_mem_nil,or_false] at ht
    rcases ht with rfl | rfl | rfl
    ·exact ga a (by simp)
    ·exact ga b (by simp)
    ·exact ga c (by simp)
   cases hb:rM [gt us a,gt us b,gt us c] with
   | true=>
    rfl'
    refine hjo (p:=gt us a) (q:=gt us b) hm (ga a (by simp)).2 (ga b (by simp)).2 (ga a (by simp)).1 (ga b (by simp)).1 hne fun t _ _ _=>?_
    rfl'
    exact hR [a,b,c] (pass_t hb) t
   | false=>
    rfl'
    exact hN (pass_f hb) _ _ ⟨_,_,rfl,rfl⟩
 ·rintro hn σ h' ⟨s1,s2,rfl,rfl⟩
  unfold gA
  rfl'
  exact k0 (hff.symm.trans hn)
 ·intro l hy t
  exact k1 l t (hff.symm.trans hy)
theorem kPow_s {i j:Int}{h:Gh}{Q:WK}(c:CPow i j)(x:Q (.int (i^j.toNat)) h):kPow (.int i) (.int j) h Q:=⟨c,x⟩
noncomputable def kd (ts:List Tr):Str:=if (FF ts).isSome then "four" else if (LL (unl ts)).isSome then "line" else "few"
def CheckX (c0:MSp):Prop:=∀ {h:Gh} {w:W} {ts:List Tr} {Q:WK} {E:XWK},sX h w ts→(1≤ts.length→ts.length≤12→Q .non h)→(¬ (1≤ts.length∧ts.length≤12)→E ⟨"NoPicture",[]⟩ h)→c0 [w] h Q E
theorem w_check:CheckX eY:=by
 intro h w ts Q E e k k1
 unfold eY
 refine rT rfl (σ:=[some w]) rfl ?_
 rfl'
 refine len_s e ?_
 rfl'
 refine br_d (fun h1=>?_) fun h1=>?_
 ·rfl'
  exact k1 (by omega)
 ·rfl'
  refine len_s e ?_
  rfl'
  refine br_d (fun h2=>?_) fun h2=>?_
  ·rfl'
   exact k1 (by omega)
  ·rfl'
   exact k (by omega) (by omega)
theorem pD {h:Gh}{Q:WK}(k:Q (.bl false) h):rR .non .non h Q:=k
theorem isnt_tup {h:Gh}{ws:List W}{Q:WK}(k:Q (.bl true) h):rR (.tup ws) .non h Q:=k
def KindX (c0:MSp):Prop:=∀ {h:Gh} {w:W} {ts:List Tr} {m:Nat} {Q:WK} {E:XWK},m≤3900→SrcN h w ts→OkT m ts→(1≤ts.length→ts.length≤12→Q (.str (kd ts)) h)→(¬ (1≤ts.length∧ts.length≤12)→E ⟨"NoPicture",[]⟩ h)→c0 [w] h Q E
theorem w_kind_of {ch ff un l3:MSp}(hch:CheckX ch)(hff:FirstX ff)(hun:UnX un)(hl3:L3X l3):KindX (qw ch ff un l3):=by
 intro h w ts m Q E hm e hs k k1
 obtain ⟨u1,u2,u3⟩:=p7 ts
 unfold qw
 refine rT rfl (σ:=[some w]) rfl ?_
 rfl'
 refine hch e.t (fun a b=>?_) k1
 rfl'
 have k:=k a b
 refine hff (m:=m) (by omega) e.t b hs (fun e0=>?_) fun l e0=>?_
 ·rfl'
  refine pD ?_
  rfl'
  unfold qM
  rfl'
  refine hun e (by omega) ?_
  rfl'
  refine hl3 (m:=m) hm (.inl rfl) (by omega) (fun t ht=>hs t ((u2 t).mp ht)) u1 (fun e1=>?_) fun l t e1=>?_
  ·rfl'
   refine pD ?_
   rfl'
   unfold pL
   rfl'
   unfold kd at k
   rw [e0,e1] at k
   exact k
  ·rfl'
   refine isnt_tup ?_
   rfl'
   unfold kd at k
   rw [e0,e1] at k
   exact k
 ·rfl'
  refine isnt_tup ?_
  rfl'
  unfold kd at k
  rw [e0] at k
  exact k
theorem srch4_ne {m:Nat}{P:List Nat→Bool}{l:List Nat}(h:srch4 m P=some l):l∈rise m 4∧P l=true:=by
 rw [←rise4] at h
 obtain ⟨u,hu,e⟩:=List.exists_of_findSome?_eq_some h
 unfold pass at e
 split at e
 ·cases e
  rename_i hp
  exact ⟨hu,hp⟩
 ·cases e
def e0:Tr:=(1,0,0)
def e1:Tr:=(0,1,0)
def e2:Tr:=(0,0,1)
def e3:Tr:=(1,1,1)
def Lead (p q r s:Tr)(M:Mt):Prop:=PlM M∧det M≠0∧SmM 1200 M∧To M p e0∧To M q e1∧To M r e2∧To M s e3∧∃ u v:Int,u≠0∧v≠0∧sM u (mm (iD e0 e1 e2 e3) (adj (iD p q r s)))=sM v M
theorem Lead.uniq {p q r s:Tr}{M N:Mt}(h1:Lead p q r s M)(h2:Lead p q r s N):M=N:=by
 obtain ⟨p1,_,_,_,_,_,_,u,v,u0,v0,e⟩:=h1
 obtain ⟨p2,_,_,_,_,_,_,u',v',u0',v0',e'⟩:=h2
 refine plM_eq p1 p2 (s:=v*u') (t:=v'*u) (Int.mul_ne_zero v0 u0') (Int.mul_ne_zero v0' u0) ?_
 rw [←yq,←yq,←e,←e',yq,yq,Int.mul_comm]
theorem free_tiles:Free e0 e1 e2 e3:=⟨by decide,by decide,by decide,by decide⟩
theorem sm_tiles:SmT 2 e0∧SmT 2 e1∧SmT 2 e2∧SmT 2 e3:=by
 have o:Sm 2 1:=by unfold Sm;decide +kernel
 have z:Sm 2 0:=by unfold Sm;decide +kernel
 exact ⟨⟨o,z,z⟩,⟨z,o,z⟩,⟨z,z,o⟩,⟨o,o,o⟩⟩
def MbU (c0:MSp):Prop:=∀ {h:Gh} {p q r s:Tr} {Q:WK} {E:XWK},SmT 131 p→SmT 131 q→SmT 131 r→SmT 131 s→Free p q r s→(∀ M,Lead p q r s M→Q (mw M) h)→c0 [q4 p q r s,q4 e0 e1 e2 e3] h Q E
theorem w_mbU {th ba fr fm:MSp}(hth:ThenS th)(hba:BackOk ba)(hfr:FreeX fr)(hfm:FromOk fm):MbU (gQ th ba fr fm):=by
 intro h p q r s Q E sp sq sr ss f k
 obtain ⟨sa,sb,sc',sd⟩:=sm_tiles
 have g:=free_tiles
 unfold gQ
 rfl'
 refine hfr (m:=131) (by decide) sp sq sr ss ?_
 rw [freeB_t f]
 rfl'
 refine hfr (m:=2) (by decide) sa sb sc' sd ?_
 rw [freeB_t g]
 rfl'
 unfold jq
 rfl'
 refine hfm (m:=131) (by decide) sp sq sr ss f.1 f.2.1 f.2.2.1 f.2.2.2 fun G pG parG sG=>?_
 have dG:det G≠0:=parG.det.mp (pP f.1 f.2.1 f.2.2.1 f.2.2.2)
 have sG:SmM 528 G:=sG
 rfl'
 refine hba (m:=528) (by decide) sG dG fun N pN parN sN=>?_
 have dN:det N≠0:=parN.det.mp (det_adj dG)
 rfl'
 refine hfm (m:=2) (by decide) sa sb sc' sd g.1 g.2.1 g.2.2.1 g.2.2.2 fun Go pGo parGo sGo=>?_
 have dGo:det Go≠0:=parGo.det.mp (pP g.1 g.2.1 g.2.2.1 g.2.2.2)
 have sGo:SmM 12 Go:=sGo
 rfl'
 refine hth (m:=1057) (n:=12) (by decide) (by decide) sN sGo dN dGo fun M pM parM sM'=>?_
 have dM:det M≠0:=parM.det.mp (by rw [det_mm];exact Int.mul_ne_zero dGo dN)
 obtain ⟨l1,l2,l3,l4⟩:=qj f parG
 obtain ⟨m1,m2,m3,m4⟩:=qj g parGo
 have id:∀ {A B:Mt},ParM A B→∃ k:Int,k≠0∧sM k B=sM 1 A:=fun ⟨k,k0,e⟩=>⟨k,k0,by rw [sM_one,e]⟩
 obtain ⟨k1,k10,ek1⟩:=id parG
 obtain ⟨k2,k20,ek2⟩:=id parGo
 have bt:=between_of k10 (by decide) k20 (by decide) ek1 ek2 parN parM
 rfl'
 exact k M ⟨pM,dM,sM'.mono (by decide),to_of dG l1 m1 parN parM,to_of dG l2 m2 parN parM,to_of dG l3 m3 parN parM,to_of dG l4 m4 parN parM,bt⟩
def TilX (c0:MSp):Prop:=∀ {h:Gh} {Q:WK} {E:XWK},Q (q4 e0 e1 e2 e3) h→c0 [] h Q E
theorem w_tilX:TilX zP:=by
 intro h Q E k
 unfold zP
 rfl'
 exact k
def Im (M:Mt)(t u:Tr):Prop:=Pl u∧Par (vm M t) u∧SmT 2402 u
def Ims (M:Mt)(ts us:List Tr):Prop:=us.length=ts.length∧∀ i,i<ts.length→Im M (gt ts i) (gt us i)
theorem Ims.uniq {M:Mt}{ts us vs:List Tr}(h1:Ims M ts us)(h2:Ims M ts vs):us=vs:=by
 refine List.ext_getElem? fun i=>?_
 by_cases hi:i<ts.length
 ·rw [oA (by rw [h1.1];exact hi),oA (by rw [h2.1];exact hi),Ae (h1.2 i hi).1 (h2.2 i hi).1 (h1.2 i hi).2.1 (h2.2 i hi).2.1]
 ·rw [List.getElem?_eq_none (by rw [h1.1];omega),List.getElem?_eq_none (by rw [h2.1];omega)]
theorem gt_snoc {us:List Tr}{u:Tr}{i:Nat}:gt (us++[u]) i=if i<us.length then gt us i else if i=us.length then u else gt (us++[u]) i:=by
 unfold gt
 by_cases h:i<us.length
 ·rw [if_pos h,List.getD_eq_getElem?_getD,List.getD_eq_getElem?_getD,List.getElem?_append_left h]
 ·rw [if_neg h]
  by_cases e:i=us.length
  ·subst e
   rw [if_pos rfl,List.getD_eq_getElem?_getD,List.getElem?_append_right (Nat.le_refl _)]
   simp
  ·rw [if_neg e]
theorem lc_led0 {le:MSp}(hle:LedOk le){M:Mt}{ts:List Tr}{w:W}{ix:Nat}{σ : Sw}{h:Gh}{Q:WK}{E:XWK}(hx:(σ[ix]?).getD none=some (mw M))(e:sX h w ts)(hl:ts.length≤100)(hs:OkT 130 ts)(dM:det M≠0)(sM':SmM 1200 M)(k:∀ us,Ims M ts us→Q (.lst (us.map tw)) h) :
  iK (lcK ow1 [ix] fX (aH le E (aq (aB 1) (aq (aB 0) aL))) σ Q) w h:=by
 obtain ⟨ev,s,es,ew,go⟩:=e.src
 show (match pZ h w with
  | some s=>_
  | none=>False)
 rw [es]
 show iU s.ws.length (nC s _ _ _ _ _ _ s.ws [] h)
 rw [ew]
 refine iU.mk (by rw [List.length_map];exact Nat.le_trans hl (by decide)) ?_
 refine lc_invS (fun i acc h'=>h'=h∧∃ us:List Tr,acc=us.map tw∧us.length=i∧∀ n,n<i→n<ts.length→Im M (gt ts n) (gt us n)) ?_ ?_ ?_ ⟨rfl,[],rfl,rfl,fun n hn=>by omega⟩
 ·rintro i acc h' ⟨rfl,_⟩
  exact go
 ·rintro i w2 acc h' N hN e2 ⟨rfl,us,rfl,ul,ui⟩
  obtain ⟨t,et,rfl⟩:=tw_get e2
  have mt:=List.mem_of_getElem? et
  have hb:rC [ix] σ = [some (mw M)]:=by
   show [(σ[ix]?).getD none]=_
   rw [hx]
  refine ⟨[tw t],rfl,?_⟩
  rw [hb]
  refine mYes_s (by2_ts (pR (cu (bL rfl (cu (bL rfl (fP ?_)))))))
  refine hle (m:=1200) (by decide) sM' ((hs t mt).2.mono (by decide)) dM (hs t mt).1.ne fun u pu paru su=>?_
  refine hN _ _ ⟨rfl,us++[u],by rw [List.map_append];rfl,by rw [List.length_append,ul];rfl,fun n hn hn2=>?_⟩
  rw [gt_snoc,ul]
  by_cases h1:n<i
  ·rw [if_pos h1]
   exact ui n h1 hn2
  ·have h2:n=i:=by omega
   rw [if_neg h1,if_pos h2]
   have:gt ts n=t:=by
    have:=oA hn2
    rw [h2,et] at this
    rw [h2]
    exact (Option.some.inj this).symm
   rw [this]
   exact ⟨pu,paru,su⟩
 ·rintro acc h' ⟨rfl,us,rfl,ul,ui⟩
  rw [List.length_map] at ul ui
  exact k us ⟨ul,fun n hn=>ui n hn hn⟩
def LedPX (c0:MSp):Prop:=∀ {h:Gh} {M:Mt} {ts:List Tr} {Q:WK} {E:XWK},ts.length≤100→OkT 130 ts→det M≠0→SmM 1200 M→(∀ (us:List Tr) (g:Gh),Ims M ts us→g.c h.nx=some (.lst (us.map tw))→g.nx=h.nx+1→(∀ n,n≠h.nx→g.c n=h.c n)→Q (.loc h.nx) g)→c0 [mw M,.lst (ts.map tw)] h Q E
theorem w_ledp {le:MSp}(hle:LedOk le):LedPX (gH le):=by
 intro h M ts Q E hl hs dM sM' k
 unfold gH
 refine rT rfl (σ:=[some (mw M),some (.lst (ts.map tw))]) rfl (pO (mLCM_s (mLC_s (nIt_s (bL rfl ?_)))))
 refine lc_led0 hle (ix:=0) rfl (.inl rfl) hl hs dM sM' fun us hu=>?_
 exact thaw_g fun g eg og xg=>rt_s (k us g hu eg xg og)
theorem isi_loc {h:Gh}{n:Nat}{us:List W}{Q:WK}(e:h.c n=some (.lst us))(k:Q (.bl true) h):kIsi [.loc n,.ty "list"] h Q:=by
 have:isiW h (.loc n) "list" = some true:=by simp only [isiW,fC,e];rfl
 show (match isiW h (.loc n) "list" with
  | some b=>Q (.bl b) h
  | none=>False)
 rw [this]
 exact k
theorem mBMr0_s {r:MM}{mo:ME}{σ : Sw}{h:Gh}{Q:WK}(x:mo σ h fun x h1=>rW h1 x (r x [] h1 Q)):mBMr0 r mo σ h Q:=x
theorem clr_g {h:Gh}{n:Nat}{us:List W}{Q:WK}(e:h.c n=some (.lst us))(k:∀ g:Gh,g.nx=h.nx→(∀ m,m≠n→g.c m=h.c m)→Q .non g):rW h (.loc n) (uz (.loc n) [] h Q):=by
 simp only [rW,uz,e]
 exact k _ rfl fun m hm=>iQ hm
theorem vA (ts:List Tr):eqW (.lst (ts.map tw)) (.lst (ts.map tw))=true:=by rw [eqW,eqs_tw]
theorem ne_src {h:Gh}{w:W}{ts:List Tr}{Q:WK}(e:sX h w ts)(k:Q (.bl false) h):kNe (.lst (ts.map tw)) w h Q:=by
 have d:uT h w=some (.lst (ts.map tw)):=by
  rcases e with rfl | ⟨n,rfl,e⟩
  ·rfl
  ·simp only [uT,e]
 show (match uT h (.lst (ts.map tw)),uT h w with
  | some a,some b=>by2 (plW 30 a&&plW 30 b) (Q (.bl (!eqW a b)) h) False
  | _,_=>False)
 rw [d]
 show by2 (plW 30 (.lst (ts.map tw))&&plW 30 (.lst (ts.map tw))) (Q (.bl (!eqW (.lst (ts.map tw)) (.lst (ts.map tw)))) h) False
 rw [pls_tw 28,vA]
 exact k
theorem ne_rev {h:Gh}{n:Nat}{ts:List Tr}{Q:WK}(e:h.c n=some (.lst (ts.map tw)))(k:Q (.bl false) h):kNe (.loc n) (.lst (ts.map tw)) h Q:=by
 have d:uT h (.loc n)=some (.lst (ts.map tw)):=by simp only [uT,e]
 show (match uT h (.loc n),uT h (.lst (ts.map tw)) with
  | some a,some b=>by2 (plW 30 a&&plW 30 b) (Q (.bl (!eqW a b)) h) False
  | _,_=>False)
 rw [d]
 show by2 (plW 30 (.lst (ts.map tw))&&plW 30 (.lst (ts.map tw))) (Q (.bl (!eqW (.lst (ts.map tw)) (.lst (ts.map tw)))) h) False
 rw [pls_tw 28,vA]
 exact k
theorem ne2_rev {h:Gh}{n:Nat}{s:Str}{ts:List Tr}{Q:WK}(e:h.c n=some (.lst (ts.map tw)))(k:Q (.bl false) h):kNe2 (.tup [.str s,.loc n]) (.tup [.str s,.lst (ts.map tw)]) h Q:=by
 have d:rG h (.tup [.str s,.loc n])=some (.tup [.str s,.lst (ts.map tw)]):=by simp only [rG,wZ,uT,e]
 show (match rG h (.tup [.str s,.loc n]),rG h (.tup [.str s,.lst (ts.map tw)]) with
  | some a,some b=>by2 (plW 30 a&&plW 30 b) (Q (.bl (!eqW a b)) h) False
  | _,_=>False)
 rw [d]
 have h1:plW 30 (.tup [.str s,.lst (ts.map tw)])=true:=by
  show (plW 29 (.str s)&&(plW 29 (.lst (ts.map tw))&&true))=true
  rw [pls_tw 27]
  rfl
 have h2:eqW (.tup [.str s,.lst (ts.map tw)]) (.tup [.str s,.lst (ts.map tw)])=true:=by
  rw [eqW,mY,mY,mY,vA]
  simp [eqW]
 show by2 (plW 30 (.tup [.str s,.lst (ts.map tw)])&&plW 30 (.tup [.str s,.lst (ts.map tw)])) (Q (.bl (!eqW (.tup [.str s,.lst (ts.map tw)]) (.tup [.str s,.lst (ts.map tw)]))) h) False
 rw [h1,h2]
 exact k
theorem list_s {h:Gh}{w:W}{ts:List Tr}(e:sX h w ts){Q:WK}(k:Q (.lst (ts.map tw)) h):kList [w] h Q:=by
 show (match view h w with
  | some us=>Q (.lst us) h
  | none=>False)
 rw [e.src.1]
 exact k
theorem SrcN.go {h g:Gh}{w:W}{ts:List Tr}(e:SrcN h w ts)(hn:h.nx≤g.nx)(hg:∀ n,n<h.nx→g.c n=h.c n):SrcN g w ts:=by
 rcases e with e | ⟨n,e,h1,h2⟩
 ·exact .inl e
 ·exact .inr ⟨n,e,by omega,by rw [hg n h1];exact h2⟩
def TlX (c0:MSp):Prop:=∀ {h:Gh} {Q:WK} {E:XWK},Q (.lst [tw e0,tw e1,tw e2]) h→c0 [] h Q E
theorem w_units {ti:MSp}(hti:TilX ti):TlX (zR ti):=by
 intro h Q E k
 unfold zR
 refine rT rfl (σ:=[]) rfl (pO (mSl_s ?_))
 refine hti ?_
 exact rt_s k
def oO (p q:Tr):Tr:=(p.1+q.1,p.2.1+q.2.1,p.2.2+q.2.2)
theorem srch3_ne {m:Nat}{P:List Nat→Bool}{l:List Nat}(h:srch3 m P=some l):l∈rise m 3∧P l=true:=by
 rw [←rise3] at h
 obtain ⟨u,hu,e⟩:=List.exists_of_findSome?_eq_some h
 unfold pass at e
 split at e
 ·cases e
  rename_i hp
  exact ⟨hu,hp⟩
 ·cases e
theorem e_ok:∀ t∈[e0,e1,e2],Pl t∧SmT 130 t:=by
 obtain ⟨s0,s1,s2,_⟩:=sm_tiles
 intro t ht
 simp only [List.mem_cons,List.not_mem_nil,or_false] at ht
 rcases ht with rfl | rfl | rfl
 ·exact ⟨by unfold Pl;decide +kernel,s0.mono (by decide)⟩
 ·exact ⟨by unfold Pl;decide +kernel,s1.mono (by decide)⟩
 ·exact ⟨by unfold Pl;decide +kernel,s2.mono (by decide)⟩
def Btw3 (c0:MSp):Prop:=∀ {h:Gh} {p q r:Tr} {Q:WK} {E:XWK},SmT 129 p→SmT 129 q→SmT 129 r→oO (oO p q) r≠(0,0,0)→(∀ s,Pl s→Par (oO (oO p q) r) s→SmT 131 s→Q (tw s) h)→c0 [.lst [tw p,tw q,tw r]] h Q E
theorem w_btw3 {pl:MSp}(hpl:wX pl):Btw3 (fV pl):=by
 intro h p q r Q E sp sq sr h0 k
 have sv:SmT 131 (oO (oO p q) r):=⟨(sp.1.add sq.1).add (sr.1.mono (show 129≤130 by decide)),(sp.2.1.add sq.2.1).add (sr.2.1.mono (show 129≤130 by decide)),(sp.2.2.add sq.2.2).add (sr.2.2.mono (show 129≤130 by decide))⟩
 unfold fV
 rfl'
 exact hpl.tr (u:=oO (oO p q) r) (m:=131) (.inr (by simp [oO,Int.add_assoc])) h0 sv (by decide) fun t pt part st=>k t pt part st
def dH (acc:List Tr)(u:Tr):List Tr:=match acc with
 | [a]=>if u≠a then [a,u] else [a]
 | [a,b]=>if dt3 (crs a b) u≠0 then [a,b,u] else [a,b]
 | acc=>acc
def fill (us:List Tr):List Tr:=[e0,e1,e2].foldl dH us
theorem crs_nz {a b:Tr}(pa:Pl a)(pb:Pl b)(ne:a≠b):crs a b≠(0,0,0):=fun e=>ne (zX pa pb e)
theorem dt_e0 (v:Tr):dt3 v e0=v.1:=by simp [dt3,e0]
theorem dt_e1 (v:Tr):dt3 v e1=v.2.1:=by simp [dt3,e1]
theorem dt_e2 (v:Tr):dt3 v e2=v.2.2:=by simp [dt3,e2]
theorem fill_2 {a b:Tr}(pa:Pl a)(pb:Pl b)(ne:a≠b):∃ c,fill [a,b]=[a,b,c]∧dt3 (crs a b) c≠0∧(c=e0∨c=e1∨c=e2):=by
 have h:=crs_nz pa pb ne
 show ∃ c,dH (dH (dH [a,b] e0) e1) e2=[a,b,c]∧_
 by_cases h0:dt3 (crs a b) e0=0
 ·by_cases h1:dt3 (crs a b) e1=0
  ·have h2:dt3 (crs a b) e2≠0:=fun h2=>h (by
    rw [dt_e0] at h0
    rw [dt_e1] at h1
    rw [dt_e2] at h2
    exact Prod.ext h0 (Prod.ext h1 h2))
   exact ⟨e2,by simp [dH,h0,h1,h2],h2,.inr (.inr rfl)⟩
  ·exact ⟨e1,by simp [dH,h0,h1],h1,.inr (.inl rfl)⟩
 ·exact ⟨e0,by simp [dH,h0],h0,.inl rfl⟩
theorem flat3C {p q r:Tr}:rM [p,q,r]=decide (dt3 (crs p q) r=0):=by
 by_cases e:dt3 (crs p q) r=0
 ·rw [decide_eq_true e]
  refine vp ?_
  refine n8 fun k j i h1 h2=>?_
  intro a b c ea eb ec
  have:i<3:=by have:=(List.getElem?_eq_some_iff.mp ec).1;simpa using this
  have:k=0:=by omega
  have:j=1:=by omega
  have:i=2:=by omega
  subst k j i
  simp at ea eb ec
  subst ea eb ec
  rw [←e]
  simp only [dt3,crs]
  grind
 ·rw [decide_eq_false e]
  refine flatB_f fun h=>e ?_
  have:=h r (by simp) p (by simp) q (by simp)
  exact this
theorem fstep_len {us:List Tr}{u:Tr}(h1:1≤us.length)(h3:us.length≤3):1≤(dH us u).length∧(dH us u).length≤3:=by
 match us,h1,h3 with
 | [a],_,_=>unfold dH;dsimp only;split <;> simp
 | [a,b],_,_=>unfold dH;dsimp only;split <;> simp
 | [a,b,c],_,_=>simp [dH]
theorem fstep_mem {us:List Tr}{u t:Tr}(h:t∈dH us u):t∈us∨t=u:=by
 unfold dH at h
 split at h
 ·split at h
  ·simp at h;rcases h with h | h
   ·exact .inl (by simp [h])
   ·exact .inr h
  ·exact .inl h
 ·split at h
  ·simp at h;rcases h with h | h | h
   ·exact .inl (by simp [h])
   ·exact .inl (by simp [h])
   ·exact .inr h
  ·exact .inl h
 ·exact .inl h
def FilX (c0:MSp):Prop:=∀ {h:Gh} {us:List Tr} {Q:WK} {E:XWK},1≤us.length→us.length≤3→OkT 130 us→Q (.lst ((fill us).map tw)) h→c0 [.lst (us.map tw)] h Q E
theorem kListM_l {us:List W}{h:Gh}{Q:WK}(k:∀ g:Gh,g.c h.nx=some (.lst us)→(∀ m,m≠h.nx→g.c m=h.c m)→g.nx=h.nx+1→Q (.loc h.nx) g):kListM [.lst us] h Q:=k _ (rJ _ _) (fun _ e=>nW e) rfl
theorem tw_lo2 {L:Nat}{t:Tr}:Lo L (tw t):=by
 show Lo L (.tup [.int t.1,.int t.2.1,.int t.2.2])
 simp only [Lo,Los,and_self]
theorem tws_lo {L:Nat}:∀ ts:List Tr,Los L (ts.map tw)
 | []=>by simp only [List.map_nil,Los]
 | t::ts=>by
  rw [List.map_cons,Los]
  exact ⟨tw_lo2,tws_lo ts⟩
theorem app_k {h:Gh}{n:Nat}{us:List W}{w:W}{Q:WK}(e:h.c n=some (.lst us))(hz:us.length≤900)(k:∀ g:Gh,g.c n=some (.lst (us++[w]))→(∀ m,m≠n→g.c m=h.c m)→g.nx=h.nx→Q .non g):eV (.loc n) [w] h Q:=
 app_ok e (Nat.lt_of_le_of_lt hz (by rw [sizeLine_eq];decide)) (k _ (iW _ _ _) (fun _ e=>iQ e) rfl)
theorem addCl {a us:List W}{n:Nat}{h:Gh}{Q:WK}(e:h.c n=some (.lst us))(hz:us.length+a.length≤1000)(k:Q (.lst (us++a)) h):cC (.loc n) (.lst a) h Q:=by
 have t:trkL h (.loc n)=some us:=by simp only [trkL,e]
 unfold cC
 dsimp only
 rw [t]
 exact iU.mk (Nat.le_trans hz (by decide:1000≤sizeLine)) k
theorem w_filled {ol un:MSp}(hol:nF ol)(hun:TlX un):FilX (j4 ol un):=by
 intro h us Q E l1 l3 hs q
 unfold j4
 rfl'
 refine kListM_l fun g gc go gn=>?_
 rfl'
 refine hun ?_
 refine iK_s rfl (uq ?_)
 have oke:∀ t∈[e0,e1,e2],Pl t∧SmT 130 t:=e_ok
 refine j9 (fun i σ h'=>∃ a2 acc,σ = [some (.lst (us.map tw)),some (.loc h.nx),a2]∧acc=([e0,e1,e2].take i).foldl dH us∧1≤acc.length∧acc.length≤3∧OkT 130 acc∧h'.c h.nx=some (.lst (acc.map tw))∧∀ m,m<h.nx→h'.c m=h.c m) ?_ ?_ ⟨none,us,rfl,rfl,l1,l3,hs,gc,fun m hm=>go m (Nat.ne_of_lt hm)⟩
 ·rintro i w σ h1 N hN ew ⟨a2,acc,rfl,ea,n1,n3,ok,c1,o1⟩
  have ew':([e0,e1,e2].map tw)[i]?=some w:=ew
  rw [List.getElem?_map] at ew'
  obtain ⟨u,eu,rfl⟩:=Option.map_eq_some_iff.mp ew'
  have pu:=oke u (List.mem_of_getElem? eu)
  have nxt:∀ h2:Gh,h2.c h.nx=some (.lst ((dH acc u).map tw))→(∀ m,m<h.nx→h2.c m=h.c m)→N [some (.lst (us.map tw)),some (.loc h.nx),some (tw u)] h2:=fun h2 c2 o2=>by
   obtain ⟨m1,m3⟩:=fstep_len (u:=u) n1 n3
   refine hN _ _ ⟨_,dH acc u,rfl,?_,m1,m3,fun t ht=>?_,c2,o2⟩
   ·rw [List.take_succ,eu,List.foldl_append,←ea];rfl
   ·rcases fstep_mem ht with ht | rfl
    ·exact ok t ht
    ·exact pu
  match acc,n1,n3,c1,nxt,ok with
  | [a],_,_,c1,nxt,ok=>
   rfl'
   refine jW (bV c1) ?_
   rfl'
   refine tE (by simp) ?_
   rfl'
   refine br_d (fun ne=>?_) (fun eq=>?_)
   ·rfl'
    refine rz (xJ ?_)
    rfl'
    refine pJ c1 ?_
    rfl'
    refine app_k c1 (by simp) fun h2 c2 o2 _=>?_
    refine nxt h2 ?_ fun m hm=>(o2 m (Nat.ne_of_lt hm)).trans (o1 m hm)
    rw [c2]
    simp only [dH]
    rw [if_pos (by simpa using ne)]
    rfl
   ·rfl'
    refine jW (bV c1) ?_
    rfl'
    refine nJ (by simp) ?_
    rfl'
    refine nxt h1 ?_ o1
    rw [c1]
    simp only [dH]
    rw [if_neg (by simpa using eq)]
  | [a,b],_,_,c1,nxt,ok=>
   rfl'
   refine jW (bV c1) ?_
   rfl'
   refine nJ (by simp) ?_
   rfl'
   refine jW (bV c1) ?_
   rfl'
   refine tE (by simp) ?_
   rfl'
   refine addCl c1 (by simp) ?_
   rfl'
   refine hol (ts:=[a,b,u]) (M:=130) (.inl rfl) (by simp) (by decide) (fun t ht=>?_) ?_
   ·simp only [List.mem_cons,List.not_mem_nil,or_false] at ht
    rcases ht with rfl | rfl | rfl
    ·exact ok _ (by simp)
    ·exact ok _ (by simp)
    ·exact pu
   rw [flat3C]
   rfl'
   by_cases z:dt3 (crs a b) u=0
   ·refine nJ (by simp [z]) ?_
    rfl'
    refine nxt h1 ?_ o1
    rw [c1]
    simp only [dH]
    rw [if_neg (by simpa using z)]
   ·refine tE (by simp [z]) ?_
    rfl'
    refine rz (xJ ?_)
    rfl'
    refine pJ c1 ?_
    rfl'
    refine app_k c1 (by simp) fun h2 c2 o2 _=>?_
    refine nxt h2 ?_ fun m hm=>(o2 m (Nat.ne_of_lt hm)).trans (o1 m hm)
    rw [c2]
    simp only [dH]
    rw [if_pos z]
    rfl
  | [a,b,c],_,_,c1,nxt,ok=>
   rfl'
   refine jW (bV c1) ?_
   rfl'
   refine nJ (by simp) ?_
   rfl'
   refine jW (bV c1) ?_
   rfl'
   refine nJ (by simp) ?_
   rfl'
   refine nxt h1 ?_ o1
   rw [c1]
   rfl
 ·rintro σ h1 ⟨a2,acc,rfl,ea,n1,n3,ok,c1,o1⟩
  rfl'
  unfold mU
  rfl'
  exact ⟨fun m c hm e=>(o1 m hm).trans e,.inr ⟨_,_,rfl,Nat.le_refl _,c1,tws_lo _,by rw [ea];exact q⟩⟩
theorem fill_1 {a:Tr}(pa:Pl a):∃ b c,fill [a]=[a,b,c]∧dt3 (crs a b) c≠0∧(b=e0∨b=e1)∧(c=e1∨c=e2):=by
 have p0:Pl e0:=(e_ok e0 (by simp)).1
 show ∃ b c,dH (dH (dH [a] e0) e1) e2=[a,b,c]∧_
 by_cases h0:e0=a
 ·subst h0
  exact ⟨e1,e2,by decide,by decide,.inr rfl,.inr rfl⟩
 ·have h:=crs_nz pa p0 (Ne.symm h0)
  have z0:(crs a e0).1=0:=by simp [crs,e0]
  by_cases h1:dt3 (crs a e0) e1=0
  ·have h2:dt3 (crs a e0) e2≠0:=fun h2=>h (by
    rw [dt_e1] at h1
    rw [dt_e2] at h2
    exact Prod.ext z0 (Prod.ext h1 h2))
   exact ⟨e0,e2,by simp [dH,h0,h1,h2],h2,.inl rfl,.inr rfl⟩
  ·exact ⟨e0,e1,by simp [dH,h0,h1],h1,.inl rfl,.inl rfl⟩
def Few (us:List Tr):Prop:=us.Nodup∧1≤us.length∧us.length≤3∧∀ a b c,us=[a,b,c]→dt3 (crs a b) c≠0
theorem fill_ok {us:List Tr}(hf:Few us)(hp:OkT 129 us):∃ a b c,fill us=[a,b,c]∧dt3 (crs a b) c≠0∧us=[a,b,c].take us.length∧OkT 129 [a,b,c]:=by
 have eo:∀ t,t=e0∨t=e1∨t=e2→Pl t∧SmT 129 t:=fun t ht=>by
  have:=e_ok t (by rcases ht with rfl | rfl | rfl <;> simp)
  refine ⟨this.1,?_⟩
  rcases ht with rfl | rfl | rfl <;> exact ⟨Sm.lit rfl |>.mono (by decide),Sm.lit rfl |>.mono (by decide),Sm.lit rfl |>.mono (by decide)⟩
 obtain ⟨nd,l1,l3,hd⟩:=hf
 match us,l1,l3,nd,hp,hd with
 | [a],_,_,_,hp,_=>
  obtain ⟨b,c,e,d,hb,hc⟩:=fill_1 (hp a (by simp)).1
  refine ⟨a,b,c,e,d,rfl,fun t ht=>?_⟩
  simp only [List.mem_cons,List.not_mem_nil,or_false] at ht
  rcases ht with rfl | rfl | rfl
  ·exact hp _ (by simp)
  ·exact eo _ (by rcases hb with rfl | rfl <;> simp)
  ·exact eo _ (by rcases hc with rfl | rfl <;> simp)
 | [a,b],_,_,nd,hp,_=>
  have ne:a≠b:=by simpa using nd
  obtain ⟨c,e,d,hc⟩:=fill_2 (hp a (by simp)).1 (hp b (by simp)).1 ne
  refine ⟨a,b,c,e,d,rfl,fun t ht=>?_⟩
  simp only [List.mem_cons,List.not_mem_nil,or_false] at ht
  rcases ht with rfl | rfl | rfl
  ·exact hp _ (by simp)
  ·exact hp _ (by simp)
  ·exact eo _ hc
 | [a,b,c],_,_,_,hp,hd=>exact ⟨a,b,c,rfl,hd a b c rfl,rfl,hp⟩
theorem free_few {a b c s:Tr}(d:dt3 (crs a b) c≠0)(hs:Par (oO (oO a b) c) s):Free a b c s∧oO (oO a b) c≠(0,0,0):=by
 have m1:dt3 (crs a b) (oO (oO a b) c)=dt3 (crs a b) c:=by simp only [dt3,crs,oO];grind
 have m2:dt3 (crs a c) (oO (oO a b) c) = - dt3 (crs a b) c:=by simp only [dt3,crs,oO];grind
 have m3:dt3 (crs b c) (oO (oO a b) c)=dt3 (crs a b) c:=by simp only [dt3,crs,oO];grind
 refine ⟨⟨d,fun z=>?_,fun z=>?_,fun z=>?_⟩,fun z=>?_⟩
 ·have:=(yZ hs).mpr z;rw [m1] at this;exact d this
 ·have:=(yZ hs).mpr z;rw [m2] at this;omega
 ·have:=(yZ hs).mpr z;rw [m3] at this;exact d this
 ·rw [z] at m1
  refine d (m1.symm.trans ?_)
  simp [dt3]
def FwM (us:List Tr)(M:Mt):Prop:=∃ a b c s,fill us=[a,b,c]∧Pl s∧Par (oO (oO a b) c) s∧Lead a b c s M
theorem FwM.uniq {us:List Tr}{M N:Mt}(h1:FwM us M)(h2:FwM us N):M=N:=by
 obtain ⟨a,b,c,s,e,ps,par,l⟩:=h1
 obtain ⟨a',b',c',s',e',ps',par',l'⟩:=h2
 rw [e] at e'
 simp only [List.cons.injEq,and_true] at e'
 obtain ⟨rfl,rfl,rfl⟩:=e'
 rw [Ae ps ps' par par'] at l
 exact l.uniq l'
def LofX (c0:MSp):Prop:=∀ {h:Gh} {us:List Tr} {Q:WK} {E:XWK},Few us→OkT 129 us→(∀ M,FwM us M→Q (mw M) h)→c0 [.lst (us.map tw)] h Q E
theorem w_lof {ti mb bt fi:MSp}(hti:TilX ti)(hmb:MbU mb)(hbt:Btw3 bt)(hfi:FilX fi):LofX (dU ti mb bt fi):=by
 intro h us Q E hf hs k
 obtain ⟨a,b,c,e,d,et,ok⟩:=fill_ok hf hs
 obtain ⟨pa,sa⟩:=ok a (by simp)
 obtain ⟨pb,sb⟩:=ok b (by simp)
 obtain ⟨pc,sc'⟩:=ok c (by simp)
 unfold dU
 rfl'
 refine hfi hf.2.1 hf.2.2.1 (fun t ht=>⟨(hs t ht).1,(hs t ht).2.mono (by decide)⟩) ?_
 rw [e]
 rfl'
 refine hbt sa sb sc' (free_few d (Par.refl _)).2 fun s ps par ss=>?_
 rfl'
 refine hti ?_
 rfl'
 refine hmb (p:=a) (q:=b) (r:=c) (s:=s) (sa.mono (by decide)) (sb.mono (by decide)) (sc'.mono (by decide)) ss (free_few d par).1 fun M hM=>?_
 exact k M ⟨a,b,c,s,e,ps,par,hM⟩
theorem FwM.ok {us:List Tr}{M:Mt}(h:FwM us M):PlM M∧det M≠0∧SmM 1200 M:=by
 obtain ⟨_,_,_,_,_,_,_,l⟩:=h
 exact ⟨l.1,l.2.1,l.2.2.1⟩
theorem kd_few {ts:List Tr}(e:FF ts=none)(e':LL (unl ts)=none):kd ts = "few":=by
 unfold kd
 rw [e,e']
 rfl
def LeadF (c0:MSp):Prop:=∀ {h:Gh} {ts:List Tr} {Q:WK} {E:XWK},1≤ts.length→ts.length≤12→OkT 129 ts→FF ts=none→LL (unl ts)=none→Few (unl ts)→(∀ M,FwM (unl ts) M→Q (mw M) h)→c0 [.lst (ts.map tw)] h Q E
theorem w_leadF {pi ti mb ch ff un l3 ll lf:MSp}(hch:CheckX ch)(hff:FirstX ff)(hun:UnX un)(hl3:L3X l3)(hlf:LofX lf):LeadF (qm pi ti mb ch ff un l3 ll lf):=by
 intro h ts Q E l1 l2 hs e e' ew k
 have hs0:OkT 130 ts:=fun t ht=>⟨(hs t ht).1,(hs t ht).2.mono (by decide)⟩
 obtain ⟨u1,u2,u3⟩:=p7 ts
 have hs':OkT 129 (unl ts):=fun t ht=>hs t ((u2 t).mp ht)
 have hs1:OkT 130 (unl ts):=fun t ht=>hs0 t ((u2 t).mp ht)
 have src:sX h (.lst (ts.map tw)) ts:=.inl rfl
 unfold qm
 refine rT rfl (σ:=[some (.lst (ts.map tw)),none,none,none]) rfl ?_
 rfl'
 refine hch src (fun _ _=>?_) fun z=>absurd ⟨l1,l2⟩ z
 rfl'
 refine hff (m:=130) (by decide) src l2 hs0 (fun _=>?_) fun l z=>by rw [e] at z;cases z
 rfl'
 refine pD ?_
 rfl'
 unfold qP
 rfl'
 refine hun (.inl rfl) (by omega) ?_
 rfl'
 refine hl3 (m:=130) (by decide) (.inl rfl) (by omega) hs1 u1 (fun _=>?_) fun l t z=>by rw [e'] at z;cases z
 rfl'
 refine pD ?_
 rfl'
 unfold ql
 rfl'
 exact hlf ew hs' fun M hM=>k M hM
def LkF (c0:MSp):Prop:=∀ {h:Gh} {w:W} {Q:WK} {E:XWK},Q (.str "few") h→c0 [w] h Q E
theorem w_lkF:LkF vO:=by
 intro h w Q E q
 unfold vO
 rfl'
 exact q
def FormF (c0:MSp):Prop:=∀ {h:Gh} {ts:List Tr} {Q:WK} {E:XWK},1≤ts.length→ts.length≤12→OkT 129 ts→FF ts=none→LL (unl ts)=none→Few (unl ts)→(∀ (M:Mt) (us:List Tr) (g:Gh),FwM (unl ts) M→Ims M ts us→g.c h.nx=some (.lst (us.map tw))→g.nx=h.nx+1→(∀ n,n≠h.nx→g.c n=h.c n)→Q (.tup [.str "few",.loc h.nx]) g)→c0 [.lst (ts.map tw)] h Q E
theorem w_formF {ko le lp:MSp}(hko:KindX ko)(hle:LeadF le)(hlp:LedPX lp):FormF (r_form ko le lp):=by
 intro h ts Q E l1 l2 hs e e' ew k
 have hs0:OkT 130 ts:=fun t ht=>⟨(hs t ht).1,(hs t ht).2.mono (by decide)⟩
 unfold r_form
 refine rT rfl (σ:=[some (.lst (ts.map tw))]) rfl ?_
 rfl'
 refine hko (m:=130) (by decide) (.inl rfl) hs0 (fun _ _=>?_) fun z=>absurd ⟨l1,l2⟩ z
 rw [kd_few e e']
 rfl'
 refine hle l1 l2 hs e e' ew fun M hM=>?_
 rfl'
 refine hlp (by omega) hs0 hM.ok.2.1 hM.ok.2.2 fun us g hu eg xg og=>?_
 rfl'
 exact k M us g hM hu eg xg og
def ToldW (c0:MSp):Prop:=∀ {h:Gh} {w:W} {ts:List Tr} {Q:WK} {E:XWK},SrcN h w ts→1≤ts.length→ts.length≤12→OkT 129 ts→FF ts=none→LL (unl ts)=none→Few (unl ts)→(∀ (M:Mt) (us:List Tr),FwM (unl ts) M→Ims M ts us→Q (.lst (us.map tw)) h)→c0 [w] h Q E
theorem w_toldW {im le fo ir ll lk:MSp}(him:yQ im)(hle:LeadF le)(hfo:FormF fo)(hir:RowOk ir)(hll:LedOk ll)(hlk:LkF lk):ToldW (uX im le fo ir ll lk):=by
 intro h w ts Q E e l1 l2 hs ef ef' ew k
 have hs0:OkT 130 ts:=fun t ht=>⟨(hs t ht).1,(hs t ht).2.mono (by decide)⟩
 unfold uX
 refine mFnT_v rfl (σ:=[some w,none,none,none,none]) rfl ?_
 rfl'
 refine list_s e.t ?_
 rfl'
 refine hfo l1 l2 hs ef ef' ew fun M us g hM hu eg xg og=>?_
 have sg:SrcN g w ts:=e.go (by omega) fun n hn=>og n (by omega)
 obtain ⟨pM,dM,sM'⟩:=hM.ok
 rfl'
 refine hle l1 l2 hs ef ef' ew fun M2 hM2=>?_
 have:=FwM.uniq hM2 hM
 subst this
 rfl'
 refine ne_src sg.t ?_
 rfl'
 refine hir.m (m:=1200) (by decide) sM' pM ?_
 rfl'
 refine him (m:=1200) (by decide) sM' pM dM ?_
 rfl'
 refine nJ rfl ?_
 rfl'
 unfold tQ
 rfl'
 refine hlk ?_
 rfl'
 refine nJ (decide_eq_false fun z=>z rfl) ?_
 rfl'
 unfold tZ
 rfl'
 refine isi_loc eg ?_
 rfl'
 refine lc_led0 hll (ix:=3) rfl sg.t (by omega) hs0 dM sM' fun vs hv=>?_
 have:=Ims.uniq hv hu
 subst this
 rfl'
 refine ne_rev eg ?_
 rfl'
 unfold sS
 rfl'
 refine list_s (ts:=vs) (.inr ⟨_,rfl,eg⟩) ?_
 rfl'
 refine mBMr0_s ?_
 rfl'
 refine clr_g eg fun g2 x2 o2=>?_
 rfl'
 refine hfo l1 l2 hs ef ef' ew fun M3 us3 g3 hM3 hu3 eg3 xg3 og3=>?_
 have:=FwM.uniq hM3 hM
 subst this
 have:=Ims.uniq hu3 hu
 subst this
 rfl'
 refine ne2_rev eg3 ?_
 rfl'
 unfold sY
 rfl'
 exact ⟨fun n c' hn ec=>by rw [og3 n (by omega),o2 n (by omega),og n (by omega)];exact ec,.inl ⟨by rw [Lo];exact lo_tws _ _,k _ _ hM hu⟩⟩
theorem pig {x y z p q r s:Tr}(hp:p=x∨p=y∨p=z)(hq:q=x∨q=y∨q=z)(hr:r=x∨r=y∨r=z)(hs:s=x∨s=y∨s=z):p=q∨p=r∨p=s∨q=r∨q=s∨r=s:=by
 grind
theorem pad {S:List Tr}(h1:1≤S.length)(h3:S.length≤3):∃ x y z,∀ t,t∈S→t=x∨t=y∨t=z:=by
 match S,h1,h3 with
 | [x],_,_=>exact ⟨x,x,x,fun t ht=>by simp at ht;simp [ht]⟩
 | [x,y],_,_=>exact ⟨x,y,y,fun t ht=>by simp at ht;rcases ht with h | h <;> simp [h]⟩
 | [x,y,z],_,_=>exact ⟨x,y,z,fun t ht=>by simpa using ht⟩
theorem ff_few {S ts:List Tr}(h1:1≤S.length)(h3:S.length≤3)(hs:∀ t∈ts,t∈S):FF ts=none:=by
 obtain ⟨x,y,z,hx⟩:=pad h1 h3
 cases e:FF ts with
 | none=>rfl
 | some l=>
  have hl:=srch4_ne e
  have ll:=jF hl.1
  have li:=qR hl.1
  match l,ll with
  | [a,b,c,d],_=>
   have on:∀ i∈[a,b,c,d],gt ts i=x∨gt ts i=y∨gt ts i=z:=fun i h=>hx _ (hs _ (Ac (li i h)))
   obtain ⟨f1,f2,f3,f4⟩:=freeB_i hl.2
   have z1:∀ x y:Tr,dt3 (crs x x) y=0:=fun x y=>by rw [crs_self];simp [dt3]
   rcases pig (on a (by simp)) (on b (by simp)) (on c (by simp)) (on d (by simp)) with h | h | h | h | h | h
   ·exact absurd (by rw [h];exact z1 _ _) f1
   ·exact absurd (by rw [h];exact vd _ _) f1
   ·exact absurd (by rw [h];exact vd _ _) f2
   ·exact absurd (by rw [h];exact o7 _ _) f1
   ·exact absurd (by rw [h];exact o7 _ _) f2
   ·exact absurd (by rw [h];exact o7 _ _) f3
theorem few_sub {S l:List Tr}(hS:Few S)(hl:∀ t∈l,t∈S)(nd:l.Nodup)(l1:1≤l.length):Few l:=by
 obtain ⟨ndS,s1,s3,sd⟩:=hS
 obtain ⟨x,y,z,hx⟩:=pad s1 s3
 refine ⟨nd,l1,?_,?_⟩
 ·match l,nd,hl with
  | [],_,_=>simp
  | [_],_,_=>simp
  | [_,_],_,_=>simp
  | [_,_,_],_,_=>simp
  | p::q::r::s::l,nd,hl=>
   have h:=pig (hx p (hl p (by simp))) (hx q (hl q (by simp))) (hx r (hl r (by simp))) (hx s (hl s (by simp)))
   simp only [List.nodup_cons,List.mem_cons,not_or] at nd
   grind
 ·rintro a b c rfl
  simp only [List.nodup_cons,List.mem_cons,not_or,List.not_mem_nil,or_false] at nd
  have ha:=hl a (by simp)
  have hb:=hl b (by simp)
  have hc:=hl c (by simp)
  match S,s1,s3,sd with
  | [x],_,_,_=>simp at ha hb;rw [ha,hb] at nd;simp at nd
  | [x,y],_,_,_=>simp at ha hb hc;grind
  | [x,y,z],_,_,sd=>
   have d:=sd x y z rfl
   simp only [List.mem_cons,List.not_mem_nil,or_false] at ha hb hc
   have d1:dt3 (crs x z) y = - dt3 (crs x y) z:=by simp only [dt3,crs];grind
   have d2:dt3 (crs y x) z = - dt3 (crs x y) z:=by simp only [dt3,crs];grind
   have d3:dt3 (crs y z) x=dt3 (crs x y) z:=by simp only [dt3,crs];grind
   have d4:dt3 (crs z x) y=dt3 (crs x y) z:=by simp only [dt3,crs];grind
   have d5:dt3 (crs z y) x = - dt3 (crs x y) z:=by simp only [dt3,crs];grind
   rcases ha with rfl | rfl | rfl <;> rcases hb with rfl | rfl | rfl <;> rcases hc with rfl | rfl | rfl <;> first | (exact absurd rfl nd.1.1) | (exact absurd rfl nd.1.2) | (exact absurd rfl nd.2.1) | omega
theorem ll_few {us:List Tr}(hf:Few us):LL us=none:=by
 obtain ⟨_,_,l3,hd⟩:=hf
 cases e:LL us with
 | none=>rfl
 | some l=>
  have hl:=srch3_ne e
  have ll:=jF hl.1
  have li:=qR hl.1
  match l,ll with
  | [a,b,c],_=>
   have h1:a<b:=zj (l:=[]) (r:=[c]) hl.1
   have h2:b<c:=zj (l:=[a]) (r:=[]) hl.1
   have h3:c<us.length:=li c (by simp)
   have hlen:us.length=3:=by omega
   obtain ⟨rfl,rfl,rfl⟩:a=0∧b=1∧c=2:=by omega
   match us,hlen with
   | [x,y,z],_=>
    have hz:=hl.2
    have:rM [x,y,z]=true:=hz
    rw [flat3C] at this
    exact absurd (of_decide_eq_true this) (hd x y z rfl)
def mks:List Tr:=[e0,e1,e2]
def mkOf (U:List Tr)(t:Tr):Tr:=if t=gt U 0 then e0 else if t=gt U 1 then e1 else e2
theorem to_im {M:Mt}{p o u:Tr}(h:To M p o)(po:Pl o)(i:Im M p u):u=o:=by
 obtain ⟨a,b,a0,b0,e⟩:=h
 obtain ⟨pu,par,_⟩:=i
 obtain ⟨k,k0,ek⟩:=par
 refine Ae pu po (u:=sc a (vm M p)) ⟨a*k,Int.mul_ne_zero a0 k0,?_⟩ ⟨b,b0,e⟩
 rw [ek]
 simp only [sc]
 grind
theorem im_mk {U:List Tr}{M:Mt}{t u:Tr}(hf:Few U)(hp:OkT 129 U)(hM:FwM U M)(ht:t∈U)(i:Im M t u):u=mkOf U t:=by
 obtain ⟨a,b,c,s,e,ps,par,l⟩:=hM
 obtain ⟨a',b',c',e',d,et,ok⟩:=fill_ok hf hp
 rw [e] at e'
 simp only [List.cons.injEq,and_true] at e'
 obtain ⟨rfl,rfl,rfl⟩:=e'
 have p0:=(e_ok e0 (by simp)).1
 have p1:=(e_ok e1 (by simp)).1
 have p2:=(e_ok e2 (by simp)).1
 have hab:a≠b:=fun z=>d (by rw [z,crs_self];simp [dt3])
 have hac:a≠c:=fun z=>d (by rw [z];exact vd _ _)
 have hbc:b≠c:=fun z=>d (by rw [z];exact o7 _ _)
 have ta:t=a→u=e0:=fun z=>to_im (z ▸ l.2.2.2.1) p0 i
 have tb:t=b→u=e1:=fun z=>to_im (z ▸ l.2.2.2.2.1) p1 i
 have tc:t=c→u=e2:=fun z=>to_im (z ▸ l.2.2.2.2.2.1) p2 i
 obtain ⟨_,l1,l3,_⟩:=hf
 unfold mkOf
 match U,l1,l3,et,ht with
 | [x],_,_,et,ht=>
  simp only [List.length_cons,List.length_nil,List.take_succ_cons,List.take_zero,List.cons.injEq,and_true] at et
  simp only [List.mem_cons,List.not_mem_nil,or_false] at ht
  subst et ht
  exact (ta rfl).trans (if_pos rfl).symm
 | [x,y],_,_,et,ht=>
  simp only [List.length_cons,List.length_nil,List.take_succ_cons,List.take_zero,List.cons.injEq,and_true] at et
  simp only [List.mem_cons,List.not_mem_nil,or_false] at ht
  obtain ⟨rfl,rfl⟩:=et
  rcases ht with rfl | rfl
  ·exact (ta rfl).trans (if_pos rfl).symm
  ·exact (tb rfl).trans ((if_neg (Ne.symm hab)).trans (if_pos rfl)).symm
 | [x,y,z],_,_,et,ht=>
  simp only [List.length_cons,List.length_nil,List.take_succ_cons,List.take_zero,List.cons.injEq,and_true] at et
  simp only [List.mem_cons,List.not_mem_nil,or_false] at ht
  obtain ⟨rfl,rfl,rfl⟩:=et
  rcases ht with rfl | rfl | rfl
  ·exact (ta rfl).trans (if_pos rfl).symm
  ·exact (tb rfl).trans ((if_neg (Ne.symm hab)).trans (if_pos rfl)).symm
  ·exact (tc rfl).trans ((if_neg (Ne.symm hac)).trans (if_neg (Ne.symm hbc))).symm
def mkv (U:List Tr):List (List Int×W):=(U.zip mks).map fun x=>(tl x.1,tw x.2)
theorem tl_inj {a b:Tr}(h:tl a=tl b):a=b:=by
 obtain ⟨x,y,z⟩:=a
 obtain ⟨p,q,r⟩:=b
 simp only [tl,List.cons.injEq,and_true] at h
 obtain ⟨rfl,rfl,rfl⟩:=h
 rfl
theorem zO {U:List Tr}{t:Tr}(h3:U.length≤3):tY (mkv U) (tl t)=if t∈U then some (tw (mkOf U t)) else none:=by
 have ti:∀ {a:Tr},tl a=tl t↔t=a:=⟨fun h=>(tl_inj h).symm,fun h=>by rw [h]⟩
 match U,h3 with
 | [],_=>rfl
 | [a],_=>
  show tY [(tl a,tw e0)] (tl t)=_
  rw [gU]
  by_cases ha:t=a
  ·rw [if_pos (ti.mpr ha),if_pos (by simp [ha])]
   exact congrArg some (congrArg tw (if_pos ha).symm)
  ·rw [if_neg (fun z=>ha (ti.mp z)),if_neg (by simp [ha])]
   rfl
 | [a,b],_=>
  show tY [(tl a,tw e0),(tl b,tw e1)] (tl t)=_
  rw [gU,gU]
  by_cases ha:t=a
  ·rw [if_pos (ti.mpr ha),if_pos (by simp [ha])]
   exact congrArg some (congrArg tw (if_pos ha).symm)
  ·rw [if_neg (fun z=>ha (ti.mp z))]
   by_cases hb:t=b
   ·rw [if_pos (ti.mpr hb),if_pos (by simp [hb])]
    exact congrArg some (congrArg tw ((if_neg ha).trans (if_pos hb)).symm)
   ·rw [if_neg (fun z=>hb (ti.mp z)),if_neg (by simp [ha,hb])]
    rfl
 | [a,b,c],_=>
  show tY [(tl a,tw e0),(tl b,tw e1),(tl c,tw e2)] (tl t)=_
  rw [gU,gU,gU]
  by_cases ha:t=a
  ·rw [if_pos (ti.mpr ha),if_pos (by simp [ha])]
   exact congrArg some (congrArg tw (if_pos ha).symm)
  ·rw [if_neg (fun z=>ha (ti.mp z))]
   by_cases hb:t=b
   ·rw [if_pos (ti.mpr hb),if_pos (by simp [hb])]
    exact congrArg some (congrArg tw ((if_neg ha).trans (if_pos hb)).symm)
   ·rw [if_neg (fun z=>hb (ti.mp z))]
    by_cases hc:t=c
    ·rw [if_pos (ti.mpr hc),if_pos (by simp [hc])]
     exact congrArg some (congrArg tw ((if_neg ha).trans (if_neg hb)).symm)
    ·rw [if_neg (fun z=>hc (ti.mp z)),if_neg (by simp [ha,hb,hc])]
     rfl
theorem put_mkv {U:List Tr}{t e:Tr}(h2:U.length≤2)(ht:t∉U)(he:mks[U.length]?=some e):putT (mkv U) (tl t) (tw e)=mkv (U++[t]):=by
 have hv:tY (mkv U) (tl t)=none:=by rw [zO (by omega),if_neg ht]
 unfold putT
 rw [hv]
 match U,h2,he with
 | [],_,he=>cases he;rfl
 | [a],_,he=>cases he;rfl
 | [a,b],_,he=>cases he;rfl
theorem inT_s {neg:Bool}{t:Tr}{n:Nat}{kvs:List (List Int×W)}{h:Gh}{Q:WK}(e:h.c n=some (.dtt kvs))(k:Q (.bl (neg ^^ (tY kvs (tl t)).isSome)) h):kInT neg (tw t) (.loc n) h Q:=by
 unfold kInT
 show (match h.c n with
  | some (.dtt kvs)=>Q (.bl (neg ^^ (tY kvs (tl t)).isSome)) h
  | _=>False)
 rw [e]
 exact k
theorem tix_s {t:Tr}{n:Nat}{kvs:List (List Int×W)}{w:W}{h:Gh}{Q:WK}(e:h.c n=some (.dtt kvs))(v:tY kvs (tl t)=some w)(k:Q w h):kTIx (.loc n) (tw t) h Q:=by
 unfold kTIx
 show (match h.c n with
  | some (.dtt kvs)=>(match tY kvs (tl t) with
   | some w=>Q w h
   | none=>False)
  | _=>False)
 rw [e]
 dsimp only
 rw [v]
 exact k
theorem lenT_s {n:Nat}{kvs:List (List Int×W)}{h:Gh}{Q:WK}(e:h.c n=some (.dtt kvs))(k:Q (.int kvs.length) h):kLenT [.loc n] h Q:=by
 unfold kLenT
 dsimp only
 rw [e]
 exact k
theorem setT_s {t:Tr}{n:Nat}{kvs:List (List Int×W)}{w:W}{h:Gh}{N:Gh→Prop}(e:h.c n=some (.dtt kvs))(hl:kvs.length≤900)(k:∀ g:Gh,g.c n=some (.dtt (putT kvs (tl t) w))→(∀ m,m≠n→g.c m=h.c m)→g.nx=h.nx→N g):sSetT (.loc n) (tw t) w h N:=by
 unfold sSetT
 show (match h.c n with
  | some (.dtt kvs)=>iU (kvs.length+1) (N (h.set n (.dtt (putT kvs (tl t) w))))
  | _=>False)
 rw [e]
 exact iU.mk (Nat.le_trans (Nat.succ_le_succ hl) (by decide:901≤sizeLine)) (k _ (iW _ _ _) (fun _ e=>iQ e) rfl)
theorem newT_s {σ : Sw}{h:Gh}{Q:WK}(k:∀ g:Gh,g.c h.nx=some (.dtt [])→(∀ m,m≠h.nx→g.c m=h.c m)→g.nx=h.nx+1→Q (.loc h.nx) g):mNewT σ h Q:=k _ (rJ _ _) (fun _ e=>nW e) rfl
theorem mkv_len {U:List Tr}(h:U.length≤3):(mkv U).length=U.length:=by
 unfold mkv
 rw [List.length_map,List.length_zip]
 show min U.length 3=_
 omega
def markL:MS:=p8 (nIt (aB 5)) (nName 4) (iZ (bA (mOp (kInT true) (aB 4) (aB 7))) (bR (mOp kIx (mLst (aq (vV (aq (mC (.int 1)) (aq (mC (.int 0)) (aq (mC (.int 0)) aL)))) (aq (vV (aq (mC (.int 0)) (aq (mC (.int 1)) (aq (mC (.int 0)) aL)))) (aq (vV (aq (mC (.int 0)) (aq (mC (.int 0)) (aq (mC (.int 1)) aL)))) aL)))) (mCB kLenT (aq (aB 7) aL))) (nSub (aB 7) (aB 4) sSetT)) bW)
theorem unl_take {ts:List Tr}{i:Nat}{t:Tr}(e:ts[i]?=some t):unl (ts.take (i+1))=if t∈unl (ts.take i) then unl (ts.take i) else unl (ts.take i)++[t]:=by
 rw [List.take_succ,e]
 exact pF _ _
theorem unl_app:∀ (r l:List Tr),(unl l).length≤(unl (l++r)).length
 | [],l=>by rw [List.append_nil];exact Nat.le_refl _
 | x::r,l=>by
  have h:=unl_app r (l++[x])
  rw [List.append_assoc] at h
  refine Nat.le_trans ?_ h
  rw [pF]
  split
  ·exact Nat.le_refl _
  ·rw [List.length_append];omega
theorem unl_le {ts:List Tr}(i:Nat):(unl (ts.take i)).length≤(unl ts).length:=by
 have:=unl_app (ts.drop i) (ts.take i)
 rwa [List.take_append_drop] at this
theorem w_marks {ts:List Tr}{n:Nat}{h:Gh}{a0 a1 a2 a3 a4 a6:Option W}{N0 B0 C0:Sw→Gh→Prop}{R0:WK}(hu:(unl ts).length≤3)(e:h.c n=some (.dtt []))
  (k:∀ h' a4,h'.c n=some (.dtt (mkv (unl ts)))→(∀ m,m≠n→h'.c m=h.c m)→N0 [a0,a1,a2,a3,a4,some (.lst (ts.map tw)),a6,some (.loc n)] h') :
  markL ⟨N0,R0,B0,C0⟩ [a0,a1,a2,a3,a4,some (.lst (ts.map tw)),a6,some (.loc n)] h:=by
 unfold markL
 rfl'
 refine j9 (fun i σ h'=>∃ a4,σ = [a0,a1,a2,a3,a4,some (.lst (ts.map tw)),a6,some (.loc n)]∧h'.c n=some (.dtt (mkv (unl (ts.take i))))∧∀ m,m≠n→h'.c m=h.c m) ?_ ?_ ⟨_,rfl,by rw [e];rfl,fun _ _=>rfl⟩
 ·rintro i w σ h1 N hN ew ⟨a4,rfl,c1,o1⟩
  rw [List.getElem?_map] at ew
  obtain ⟨t,et,rfl⟩:=Option.map_eq_some_iff.mp ew
  have hl:=unl_le (ts:=ts) (i+1)
  have hl0:=unl_le (ts:=ts) i
  have nx:=unl_take et
  generalize unl (ts.take i)=U at *
  rfl'
  refine inT_s c1 ?_
  rw [zO (by omega)]
  by_cases ht:t∈U
  ·rw [if_pos ht]
   rw [if_pos ht] at nx
   rfl'
   refine nJ rfl ?_
   rfl'
   refine hN _ _ ⟨_,rfl,?_,o1⟩
   rw [nx]
   exact c1
  ·rw [if_neg ht]
   rw [if_neg ht] at nx
   have h2:U.length≤2:=by
    rw [nx,List.length_append] at hl
    have:[t].length=1:=rfl
    omega
   obtain ⟨m,em⟩:∃ m,mks[U.length]?=some m:=⟨_,List.getElem?_eq_getElem (show U.length<mks.length from Nat.lt_succ_of_le h2)⟩
   rfl'
   refine tE rfl ?_
   rfl'
   refine lenT_s c1 ?_
   rw [mkv_len (by omega)]
   refine kIx_s (ws:=mks.map tw) (w:=tw m) rfl (nu (by rw [List.getElem?_map,em];rfl)) ?_
   rfl'
   refine setT_s c1 (by rw [mkv_len (by omega)];omega) fun g gc go _=>?_
   refine hN _ _ ⟨_,rfl,?_,fun m hm=>(go m hm).trans (o1 m hm)⟩
   rw [gc,put_mkv h2 ht em,nx]
 ·rintro σ h1 ⟨a4,rfl,c1,o1⟩
  rw [List.length_map,List.take_length] at c1
  exact k h1 a4 c1 o1
theorem kEq_ss {ts:List Tr}{h:Gh}{Q:WK}(k:Q (.bl true) h):kEq (.lst (ts.map tw)) (.lst (ts.map tw)) h Q:=by
 unfold kEq
 show by2 (plW 30 (.lst (ts.map tw))&&plW 30 (.lst (ts.map tw))) (Q (.bl (eqW (.lst (ts.map tw)) (.lst (ts.map tw)))) h) False
 rw [pls_tw 28,vA]
 exact k
theorem w_law9 {c0 c1 c2 c3 c4 c5:MSp}{ts:List Tr}{n:Nat}{h:Gh}{a0 a1 a2 a3 a4:Option W}(hu:(unl ts).length≤3)(hl:ts.length≤12)(e:h.c n=some (.dtt (mkv (unl ts)))) :
  vq c0 c1 c2 c3 c4 c5 EF { nx:=fun _ _=>W.non=.bl true,rt:=fun w _=>w=.bl true } [a0,a1,a2,a3,a4,some (.lst (ts.map tw)),some (.lst ((ts.map (mkOf (unl ts))).map tw)),some (.loc n)] h:=by
 obtain ⟨u1,u2,u3⟩:=p7 ts
 unfold vq
 refine pO (xW (bL rfl ?_))
 refine mLC_s (nIt_s (bL rfl (iK_s (ws:=ts.map tw) (o:=none) rfl ?_)))
 refine iU.mk (by rw [List.length_map];exact Nat.le_trans hl (by decide)) ?_
 refine jX (fun i acc h'=>h'=h∧acc=((ts.take i).map (mkOf (unl ts))).map tw) ?_ ?_ ⟨rfl,rfl⟩
 ·rintro i w acc h' N hN ew ⟨rfl,rfl⟩
  rw [List.getElem?_map] at ew
  obtain ⟨t,et,rfl⟩:=Option.map_eq_some_iff.mp ew
  have ht:t∈unl ts:=(u2 t).mpr (List.mem_of_getElem? et)
  refine ⟨[tw t],rfl,?_⟩
  rfl'
  refine tix_s e (w:=tw (mkOf (unl ts) t)) (by rw [zO hu,if_pos ht]) ?_
  refine hN _ _ ⟨rfl,?_⟩
  rw [List.take_succ,et]
  simp
 ·rintro acc h' ⟨rfl,rfl⟩
  rw [List.length_map,List.take_length]
  exact kEq_ss rfl
theorem w_lawM {c0 c1 c2 c3 c4 cto:MSp}(hto:ToldW cto){ts S:List Tr}{h:Gh}{a0 a1 a2 a3 a4:Option W}(hS:Few S)(hs:∀ t∈ts,t∈S)(hok:OkT 129 S)(l1:1≤ts.length)(l2:ts.length≤12) :
  bx (bR (aH cto EF (aq (aB 5) aL)) (nName 6)) (bx (bR mNewT (nName 7)) (bx markL (vq c0 c1 c2 c3 c4 cto EF))) { nx:=fun _ _=>W.non=.bl true,rt:=fun w _=>w=.bl true } [a0,a1,a2,a3,a4,some (.lst (ts.map tw)),none,none] h:=by
 obtain ⟨u1,u2,u3⟩:=p7 ts
 have ok:OkT 129 ts:=fun t ht=>hok t (hs t ht)
 have hu:∀ t∈unl ts,t∈S:=fun t ht=>hs t ((u2 t).mp ht)
 have lu:1≤(unl ts).length:=by
  match ts,l1 with
  | t::_,_=>exact List.length_pos_of_mem ((u2 t).mpr (by simp))
 have hf:=few_sub hS hu u1 lu
 have oku:OkT 129 (unl ts):=fun t ht=>hok t (hu t ht)
 refine fZ (nT (pR (cu (bL rfl (fP ?_)))))
 refine hto (.inl rfl) l1 l2 ok (ff_few hS.2.1 hS.2.2.1 hs) (ll_few hf) hf fun M us hM hi=>?_
 have eus:us=ts.map (mkOf (unl ts)):=by
  refine List.ext_getElem? fun i=>?_
  rw [List.getElem?_map]
  by_cases hlt:i<ts.length
  ·have h1:=hi.2 i hlt
   have hlt':i<us.length:=by rw [hi.1];exact hlt
   rw [oA hlt',oA hlt,Option.map_some]
   exact congrArg some (im_mk hf oku hM ((u2 _).mpr (Ac hlt)) h1)
  ·rw [List.getElem?_eq_none (by rw [hi.1];omega),List.getElem?_eq_none (by omega)]
   rfl
 subst eus
 refine cO rfl (nx_s (fZ (nT (newT_s fun g gc go gn=>?_))))
 refine cO rfl (nx_s (fZ ?_))
 refine w_marks hf.2.2.1 gc fun h' a4 c o=>?_
 exact w_law9 hf.2.2.1 l2 c
theorem w_law4 {crs' cdg csp cxx cdt cto:MSp}(hrs:RestOk crs')(hdg:qx cdg)(hto:ToldW cto){ns:List Int}{S:List Tr}{h:Gh}{n2:Nat}{a1 a3 a4:Option W}(hS:Few S)(hok:OkT 129 S)(e2:h.c n2=some (.lst (S.map tw)))(l2:n2<h.nx) :
  yR crs' cdg csp cxx cdt cto EF { nx:=fun _ _=>W.non=.bl true,rt:=fun w _=>w=.bl true } [some (.kls (ns.map .int)),a1,some (.loc n2),a3,a4,none,none,none] h:=by
 unfold yR
 rfl'
 refine hrs (by decide) (by decide) fun g r x p=>?_
 have e2g:g.c n2=some (.lst (S.map tw)):=(p n2 (Nat.ne_of_lt l2)).trans e2
 have ne2:n2≠h.nx:=Nat.ne_of_lt l2
 generalize h.nx=n1 at *
 rfl'
 refine hdg (n:=n1) (many:=12) r (by decide) (by unfold Sm;decide +kernel) fun dm g4 m0 m1 r4 o4=>?_
 obtain ⟨K,rfl⟩:∃ K:Nat,dm=(K:Int):=⟨dm.toNat,by omega⟩
 have e24:g4.c n2=some (.lst (S.map tw)):=(o4.2 n2 ne2).trans e2g
 rfl'
 rw [show (1:Int)+((K:Nat):Int)=((K+1:Nat):Int) by omega]
 refine rgK_s (m:=K+1) (by omega) ?_
 have hlen:((rng 0 (K+1)).map fun x:Nat=>W.int (x:Int)).length=K+1:=by rw [List.length_map];unfold rng;rw [List.length_range'];omega
 refine lcK_s (Nat.ble_eq_true_of_le (by rw [hlen];omega)) ?_
 refine jX (fun i acc h'=>∃ ts:List Tr,acc=ts.map tw∧ts.length=i∧(∀ t∈ts,t∈S)∧Rs h' n1∧h'.c n2=some (.lst (S.map tw))) ?_ ?_ ⟨[],rfl,rfl,fun _ hx=>absurd hx List.not_mem_nil,r4,e24⟩
 ·rintro i w acc h' N hN ew ⟨ts,rfl,hl,hm,r',e'⟩
  rw [List.getElem?_map] at ew
  obtain ⟨j,ej,rfl⟩:=Option.map_eq_some_iff.mp ew
  refine ⟨[.int (j:Int)],rfl,?_⟩
  rfl'
  refine jW (bV e') ?_
  rw [List.length_map]
  refine hdg (n:=n1) (many:=(S.length:Int)) r' (by have:=hS.2.1;omega) (by have:=hS.2.2.1;unfold Sm;omega) fun d h2 d0 d1 r2 o2=>?_
  obtain ⟨q,rfl⟩:∃ q:Nat,d=(q:Int):=⟨d.toNat,by omega⟩
  have hq:q<S.length:=by omega
  refine kIx_s (w:=tw S[q]) (bV ((o2.2 n2 ne2).trans e')) (nu (by rw [List.getElem?_map,List.getElem?_eq_getElem hq];rfl)) ?_
  refine hN _ _ ⟨ts++[S[q]],by rw [List.map_append];rfl,by rw [List.length_append,hl];rfl,fun t ht=>?_,r2,(o2.2 n2 ne2).trans e'⟩
  rcases List.mem_append.mp ht with ht | ht
  ·exact hm t ht
  ·rw [List.mem_singleton.mp ht];exact List.getElem_mem hq
 ·rintro acc h' ⟨ts,rfl,hl,hm,r',e'⟩
  rw [hlen] at hl
  refine cO rfl (nx_s ?_)
  exact w_lawM hto hS hm hok (by omega) (by omega)
theorem few_e:Few [e0,e1,e2]:=⟨by decide,by decide,by decide,fun a b c h=>by
 simp only [List.cons.injEq,and_true] at h
 obtain ⟨rfl,rfl,rfl⟩:=h
 decide⟩
theorem ok_e:OkT 129 [e0,e1,e2]:=fun t ht=>by
 refine ⟨(e_ok t ht).1,?_⟩
 simp only [List.mem_cons,List.not_mem_nil,or_false] at ht
 rcases ht with rfl | rfl | rfl <;> exact ⟨Sm.lit rfl |>.mono (by decide),Sm.lit rfl |>.mono (by decide),Sm.lit rfl |>.mono (by decide)⟩
set_option maxHeartbeats 2000000 in
theorem w_law3 {crs' cdg csp cxx cdt cto:MSp}(hrs:RestOk crs')(hdg:qx cdg)(hxx:CrsOk cxx)(hdt:DotOk cdt)(hto:ToldW cto){ns:List Int}{S:List Tr}{h:Gh}{n2:Nat}{a1 a3 a4:Option W}(nd:S.Nodup)(l1:1≤S.length)(l3:S.length≤3)(hok:OkT 129 S)(ec:h.c n2=some (.lst (S.map tw)))(l2:n2<h.nx) :
  zy crs' cdg csp cxx cdt cto EF { nx:=fun _ _=>W.non=.bl true,rt:=fun w _=>w=.bl true } [some (.kls (ns.map .int)),a1,some (.loc n2),a3,a4,none,none,none] h:=by
 unfold zy
 rfl'
 refine jW (bV ec) ?_
 rw [List.length_map]
 rfl'
 by_cases h3:S.length=3
 ·match S,h3,nd,hok,ec with
  | [a,b,c],_,nd,hok,ec=>
   obtain ⟨pa,sa⟩:=hok a (by simp)
   obtain ⟨pb,sb⟩:=hok b (by simp)
   obtain ⟨pc,sc'⟩:=hok c (by simp)
   refine tE (by simp) ?_
   rfl'
   refine hxx (m:=129) (by decide) sa sb ?_
   rfl'
   refine hdt (m:=259) (by decide) (qu sa sb) (sc'.mono (by decide)) ?_
   rfl'
   refine br_d (fun z=>?_) (fun z=>?_)
   ·rfl'
    refine vJ (ws:=[tw e0,tw e1,tw e2]) (fun R=>rfl) rfl fun g gc go gn=>?_
    rfl'
    exact w_law4 hrs hdg hto few_e ok_e gc (by rw [gn];exact Nat.lt_succ_self _)
   ·rfl'
    refine w_law4 hrs hdg hto ⟨nd,by simp,by simp,fun x y z h=>?_⟩ hok ec l2
    simp only [List.cons.injEq,and_true] at h
    obtain ⟨rfl,rfl,rfl⟩:=h
    simpa using z
 ·refine nJ (by simp;omega) ?_
  rfl'
  exact w_law4 hrs hdg hto ⟨nd,l1,l3,fun x y z h=>absurd (by rw [h];rfl) h3⟩ hok ec l2
set_option maxHeartbeats 2000000 in
theorem w_law {crs' cdg csp cxx cdt cto:MSp}(hrs:RestOk crs')(hdg:qx cdg)(hsp:SpotOk csp)(hxx:CrsOk cxx)(hdt:DotOk cdt)(hto:ToldW cto)(ns:List Int):r_law crs' cdg csp cxx cdt cto [.kls (ns.map W.int)] g0 (fun w _=>w=.bl true) EF:=by
 have f0:(20:Int)<10^(30:Int).toNat:=by rw [show (10:Int)^(30:Int).toNat=1000000000000000000000000000000 by decide];decide
 have f1:Sm 100 ((10:Int)^(30:Int).toNat):=by rw [show (10:Int)^(30:Int).toNat=1000000000000000000000000000000 by decide];unfold Sm;decide +kernel
 unfold r_law
 rfl'
 refine hrs (by decide) (by decide) fun g1 r1 x1 p1=>?_
 have hl1:g0.nx<g1.nx:=by rw [x1];exact Nat.lt_succ_self _
 generalize g0.nx=n1 at *
 rfl'
 refine vJ (ws:=[]) (fun R=>rfl) rfl fun g2 c2 o2 x2=>?_
 have ne2:n1≠g1.nx:=Nat.ne_of_lt hl1
 have r2:Rs g2 n1:=by
  rcases r1 with ⟨a,e⟩ | ⟨a,b,e⟩
  ·exact .inl ⟨a,(o2 n1 ne2).trans e⟩
  ·exact .inr ⟨a,b,(o2 n1 ne2).trans e⟩
 have hl2:g1.nx<g2.nx:=by rw [x2];exact Nat.lt_succ_self _
 generalize g1.nx=n2 at *
 rfl'
 refine hdg (n:=n1) (many:=3) r2 (by decide) (by unfold Sm;decide +kernel) fun dm g4 m0 m1 r4 o4=>?_
 obtain ⟨K,rfl⟩:∃ K:Nat,dm=(K:Int):=⟨dm.toNat,by omega⟩
 rfl'
 rw [show (1:Int)+((K:Nat):Int)=((K+1:Nat):Int) by omega]
 refine rgK_s (m:=K+1) (by omega) (uq ?_)
 have hlen:((rng 0 (K+1)).map fun x:Nat=>W.int (x:Int)).length=K+1:=by rw [List.length_map];unfold rng;rw [List.length_range'];omega
 refine j9 (fun i σ h'=>∃ S a3 a4,σ = [some (.kls (ns.map .int)),some (.loc n1),some (.loc n2),a3,a4,none,none,none]∧S.Nodup∧(1≤i→1≤S.length)∧S.length≤i∧OkT 129 S∧h'.c n2=some (.lst (S.map tw))∧n2<h'.nx∧Rs h' n1) ?_ ?_ ⟨[],none,none,rfl,List.nodup_nil,fun h=>absurd h (by decide),Nat.le_refl _,fun _ hx=>absurd hx List.not_mem_nil,(o4.2 n2 (Ne.symm ne2)).trans c2,by rw [o4.1];exact hl2,r4⟩
 ·rintro i w σ h1 N hN ew ⟨S,a3,a4,rfl,nd,s1,s2,ok,e,l,r⟩
  rw [List.getElem?_map] at ew
  obtain ⟨j,ej,rfl⟩:=Option.map_eq_some_iff.mp ew
  obtain ⟨ej1,ej2⟩:=rng_get ej
  rfl'
  refine kPow_s ⟨by decide,by decide,by decide⟩ ?_
  rfl'
  refine hsp (n:=n1) (fm:=100) r f0 f1 (by decide) fun t h2 pt st r2 o2=>?_
  have e2:h2.c n2=some (.lst (S.map tw)):=(o2.2 n2 (Ne.symm ne2)).trans e
  have l2:n2<h2.nx:=by rw [o2.1];exact l
  rfl'
  refine nin_s (qK e2) ?_
  rfl'
  by_cases ht:t∈S
  ·refine nJ (by simp [ht]) ?_
   rfl'
   exact hN _ _ ⟨S,_,_,rfl,nd,fun _=>List.length_pos_of_mem ht,by omega,ok,e2,l2,r2⟩
  ·refine tE (by simp [ht]) ?_
   rfl'
   refine rz (xJ ?_)
   rfl'
   refine pJ e2 ?_
   rfl'
   refine app_k e2 (by rw [List.length_map];omega) fun h3 c3 o3 x3=>?_
   refine hN _ _ ⟨S++[t],_,_,rfl,?_,fun _=>by rw [List.length_append];exact Nat.le_add_left _ _,by rw [List.length_append];exact Nat.succ_le_succ s2,fun u hu=>?_,by rw [c3,List.map_append];rfl,by rw [x3];exact l2,?_⟩
   ·rw [List.nodup_append]
    refine ⟨nd,by simp,fun a ha b hb=>?_⟩
    rw [List.mem_singleton.mp hb]
    exact fun z=>ht (z ▸ ha)
   ·rcases List.mem_append.mp hu with hu | hu
    ·exact ok u hu
    ·rw [List.mem_singleton.mp hu];exact ⟨pt,st.mono (by decide)⟩
   ·rcases r2 with ⟨a,e⟩ | ⟨a,b,e⟩
    ·exact .inl ⟨a,(o3 n1 ne2).trans e⟩
    ·exact .inr ⟨a,b,(o3 n1 ne2).trans e⟩
 ·rintro σ h1 ⟨S,a3,a4,rfl,nd,s1,s2,ok,e,l,r⟩
  rw [hlen] at s1 s2
  exact w_law3 hrs hdg hxx hdt hto nd (s1 (by omega)) (by omega) ok e l
theorem law_ok (ns:List Int)(_:ns.length≤63):m_law [.kls (ns.map W.int)] g0 (fun w _=>w=.bl true) EF:=by
 have p4:wX cV:=w_lplainL w_ldivisor
 have pp:wX cP:=w_pplainL (yE w_two) w_endsL
 have nb:vK gj:=w_number w_digit
 have sp:SpotOk lH:=w_spot nb p4
 have fr:FreeX cR:=w_freeX (w_turnG Aa uG)
 have ri:vQ gG:=w_rising
 have ff:FirstX bZ:=w_first ri w_picked fr
 have jo:JoinOk yF:=w_join (w_pcross pp w_cross)
 have ol:nF fB:=w_on_line (w_share w_dot w_cross)
 have l3:L3X bB:=w_line3 ol jo ri w_picked
 have ko:KindX jt:=w_kind_of w_check ff w_unlike l3
 have td:o8 iy:=w_turned uG Af
 have tt:TTROk aZ:=w_ttr Aa Af
 have mb:MbU bf:=w_mbU (w_thenS pp (w_ttt Aa Af w_flip)) (w_back pp w_flip td) fr (w_from pp tt td)
 have le:LeadF eX:=w_leadF w_check ff w_unlike l3 (w_lof w_tilX mb (w_btw3 pp) (w_filled ol (w_units w_tilX)))
 have fo:FormF tV:=w_formF ko le (w_ledp (w_led pp tt))
 have im:yQ lA:=w_is_map (w_is_plain w_whole (yE w_two) w_endsL) (w_size (w_turnG Aa uG) Af)
 exact w_law (w_rest w_cell_at) w_digit sp w_lcross w_ldot (w_toldW im le fo (w_is_row w_lwhole p4) (w_lled p4 w_ldot) w_lkF) ns
end My
def PySem.W.Fast.tw16171452011941801815:Unit:=()
def PySem.W.Fast.tw15342750114833707875:Unit:=()
def PySem.W.Fast.tw16886879882430262517:Unit:=()
def PySem.W.Fast.tw16354869401327634591:Unit:=()
def PySem.W.Fast.tw13536359468445372681:Unit:=()
def PySem.W.Fast.tw58121877867727632:Unit:=()
def PySem.W.Fast.tw4764887291226242847:Unit:=()
def PySem.W.Fast.tw11983680303836974868:Unit:=()
def PySem.W.Fast.tw12166214340196653812:Unit:=()
def PySem.W.Fast.tw990555143403923703:Unit:=()
def PySem.W.Fast.tw9043549815763193658:Unit:=()
def PySem.W.Fast.tw6331614992526885484:Unit:=()
def PySem.W.Fast.tw3580320693294453354:Unit:=()
def PySem.W.Fast.tw2761322845165846362:Unit:=()
def PySem.W.Fast.tw3080933594315664393:Unit:=()
def PySem.W.Fast.tw16640109310433953718:Unit:=()
def PySem.W.Fast.tw15082613167003010321:Unit:=()
def PySem.W.Fast.tw16781117118154876535:Unit:=()
def PySem.W.Fast.tw640000157234833933:Unit:=()
def PySem.W.Fast.tw6366209514743077912:Unit:=()
def PySem.W.Fast.tw18328635263085404781:Unit:=()
def PySem.W.Fast.tw2348156234550546165:Unit:=()
def PySem.W.Fast.tw1523746232630485822:Unit:=()
open PySem PySem.W PyProof.Rows
set_option maxRecDepth 100000 in
set_option maxHeartbeats 0 in
theorem PySem.Challenge.cw_easelroom_k23_forms_of_few_holds : PySem.Challenge.rw_easelroom_k23_forms_of_few.Holds := by
 w_on;o_law;k_head;(case hw=>w_witness2)
 k_fill
 refine My.walk (l:=PySem.Challenge.rw_easelroom_k23_forms_of_few) rfl rfl (fun w h Y=>PySem.W.kIn_of Y) ?F
 case F=>
  intro w mg fa h KX G hmg
  refine' My.all_mk My.law_ok KX G hmg ?a0 ?l0 ?c0 ?k0 ?a1 ?l1 ?c1 ?k1 ?a2 ?l2 ?c2 ?k2 ?a3 ?l3 ?c3 ?k3 ?a4 ?l4 ?c4 ?k4 ?a5 ?l5 ?c5 ?k5 ?a6 ?l6 ?c6 ?k6 ?a7 ?l7 ?c7 ?k7 ?a8 ?l8 ?c8 ?k8 ?a9 ?l9 ?c9 ?k9 ?a10 ?l10 ?c10 ?k10 ?a11 ?l11 ?c11 ?k11 ?a12 ?l12 ?c12 ?k12 ?a13 ?l13 ?c13 ?k13 ?a14 ?l14 ?c14 ?k14 ?a15 ?l15 ?c15 ?k15 ?a16 ?l16 ?c16 ?k16 ?a17 ?l17 ?c17 ?k17 ?a18 ?l18 ?c18 ?k18 ?a19 ?l19 ?c19 ?k19 ?a20 ?l20 ?c20 ?k20 ?a21 ?l21 ?c21 ?k21 ?a22 ?l22 ?c22 ?k22 ?a23 ?l23 ?c23 ?k23 ?a24 ?l24 ?c24 ?k24 ?a25 ?l25 ?c25 ?k25 ?a26 ?l26 ?c26 ?k26 ?a27 ?l27 ?c27 ?k27 ?a28 ?l28 ?c28 ?k28 ?a29 ?l29 ?c29 ?k29 ?a30 ?l30 ?c30 ?k30 ?a31 ?l31 ?c31 ?k31 ?a32 ?l32 ?c32 ?k32 ?a33 ?l33 ?c33 ?k33 ?a34 ?l34 ?c34 ?k34 ?a35 ?l35 ?c35 ?k35 ?a36 ?l36 ?c36 ?k36 ?a37 ?l37 ?c37 ?k37 ?a38 ?l38 ?c38 ?k38 ?a39 ?l39 ?c39 ?k39 ?a40 ?l40 ?c40 ?k40 ?a41 ?l41 ?c41 ?k41 ?a42 ?l42 ?c42 ?k42 ?a43 ?l43 ?c43 ?k43 ?a44 ?l44 ?c44 ?k44 ?a45 ?l45 ?c45 ?k45 ?a46 ?l46 ?c46 ?k46 ?a47 ?l47 ?c47 ?k47 ?a48 ?l48 ?c48 ?k48 ?a49 ?l49 ?c49 ?k49 ?a50 ?l50 ?c50 ?k50 ?a51 ?l51 ?c51 ?k51 ?a52 ?l52 ?c52 ?k52 ?a53 ?l53 ?c53 ?k53 ?a54 ?l54 ?c54 ?k54 ?a55 ?l55 ?c55 ?k55 ?a56 ?l56 ?c56 ?k56 ?a57 ?l57 ?c57 ?k57 ?z_abs ?z_all ?z_any ?z_bool ?z_int ?z_isinstance ?z_len ?z_list ?z_max ?z_min ?z_range ?z_reversed ?z_sum ?z_tuple ?z_zip ?gk_TILES ?lk_TILES ?lk_TILES_0 ?lk_TILES_1 ?lk_TILES_2 ?lk_TILES_3
  (case a0 | l0 | c0 | k0 | a1 | l1 | c1 | k1 | a2 | l2 | c2 | k2 | a3 | l3 | c3 | k3 | a4 | l4 | c4 | k4 | a5 | l5 | c5 | k5 | a6 | l6 | c6 | k6 | a7 | l7 | c7 | k7 | a8 | l8 | c8 | k8 | a9 | l9 | c9 | k9=>k_is)
  (case a10 | l10 | c10 | k10 | a11 | l11 | c11 | k11 | a12 | l12 | c12 | k12 | a13 | l13 | c13 | k13 | a14 | l14 | c14 | k14 | a15 | l15 | c15 | k15 | a16 | l16 | c16 | k16 | a17 | l17 | c17 | k17 | a18 | l18 | c18 | k18 | a19 | l19 | c19 | k19=>k_is)
  (case a20 | l20 | c20 | k20 | a21 | l21 | c21 | k21 | a22 | l22 | c22 | k22 | a23 | l23 | c23 | k23 | a24 | l24 | c24 | k24 | a25 | l25 | c25 | k25 | a26 | l26 | c26 | k26 | a27 | l27 | c27 | k27 | a28 | l28 | c28 | k28 | a29 | l29 | c29 | k29=>k_is)
  (case a30 | l30 | c30 | k30 | a31 | l31 | c31 | k31 | a32 | l32 | c32 | k32 | a33 | l33 | c33 | k33 | a34 | l34 | c34 | k34 | a35 | l35 | c35 | k35 | a36 | l36 | c36 | k36 | a37 | l37 | c37 | k37 | a38 | l38 | c38 | k38 | a39 | l39 | c39 | k39=>k_is)
  (case a40 | l40 | c40 | k40 | a41 | l41 | c41 | k41 | a42 | l42 | c42 | k42 | a43 | l43 | c43 | k43 | a44 | l44 | c44 | k44 | a45 | l45 | c45 | k45 | a46 | l46 | c46 | k46 | a47 | l47 | c47 | k47 | a48 | l48 | c48 | k48 | a49 | l49 | c49 | k49=>k_is)
  (case a50 | l50 | c50 | k50 | a51 | l51 | c51 | k51 | a52 | l52 | c52 | k52 | a53 | l53 | c53 | k53 | a54 | l54 | c54 | k54 | a55 | l55 | c55 | k55 | a56 | l56 | c56 | k56 | a57 | l57 | c57 | k57 | z_abs | z_all | z_any | z_bool | z_int | z_isinstance | z_len | z_list=>k_is)
  (case z_max | z_min | z_range | z_reversed | z_sum | z_tuple | z_zip | gk_TILES | lk_TILES | lk_TILES_0 | lk_TILES_1 | lk_TILES_2 | lk_TILES_3=>k_is)
