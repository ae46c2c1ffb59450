import PyProof.Rows.All
import Wide.All
import OpenK.AllK
import Wide.FinOn
import Lean
import PyProof.EqAt
import PyProof.EqKinds
import PyProof.TupleCall
import PySem.Challenge.RW_easelroom_k54_worths_go_along
set_option Elab.async false
set_option linter.all false
set_option maxRecDepth 100000
namespace L2
open PySem PySem.Spec PyProof.Rows
abbrev Key:=Sum Int Str
def xu:Key→Value→Bool
 | .inl k,v=>Value.isInt k v
 | .inr x,v=>Value.isStrOf x v
def keyH (w:World):Key→Int
 | .inl k=>hashInt k
 | .inr x=>hashStr w x
theorem bF:∀ {k:Key} {v:Value},xu k v=true→(∃ i t,k=Sum.inl i∧v=Value.int i t)∨(∃ x t,k=Sum.inr x∧v=Value.str x t)
 | .inl i,v,h=>by
  obtain ⟨t,e⟩:=Value.isInt_shape (k:=i) (v:=v) h
  exact .inl ⟨i,t,rfl,e⟩
 | .inr x,v,h=>by
  obtain ⟨t,e⟩:=Value.isStrOf_shape (x:=x) (v:=v) h
  exact .inr ⟨x,t,rfl,e⟩
theorem keyIs_int (i:Int)(t:Tok):xu (.inl i) (.int i t)=true:=by simp [xu,Value.isInt]
theorem yL (x:Str)(t:Tok):xu (.inr x) (.str x t)=true:=by simp [xu,Value.isStrOf]
theorem key_ll (a b:Int):decide ((Sum.inl a:Key)=Sum.inl b)=(a==b):=by
 by_cases e:a=b
 ·subst e;simp
 ·have h:¬ (Sum.inl a:Key)=Sum.inl b:=fun q=>e (Sum.inl.inj q)
  rw [decide_eq_false h]
  exact (beq_eq_false_iff_ne.mpr e).symm
theorem key_rr (a b:Str):decide ((Sum.inr a:Key)=Sum.inr b)=decide (a=b):=by
 by_cases e:a=b
 ·subst e;simp
 ·have h:¬ (Sum.inr a:Key)=Sum.inr b:=fun q=>e (Sum.inr.inj q)
  rw [decide_eq_false h,decide_eq_false e]
theorem key_lr (a:Int)(b:Str):decide ((Sum.inl a:Key)=Sum.inr b)=false:=decide_eq_false (fun q=>nomatch q)
theorem key_rl (a:Str)(b:Int):decide ((Sum.inr a:Key)=Sum.inl b)=false:=decide_eq_false (fun q=>nomatch q)
def dB (prog:Program)(w:World):PySem.KeyKind prog w Key where
 is:=xu
 hash:=keyH w
 inj:=fun v a b ha hb=>by
  rcases bF ha with ⟨i,t,rfl,rfl⟩ | ⟨x,t,rfl,rfl⟩
  ·rcases bF hb with ⟨j,u,rfl,e⟩ | ⟨y,u,rfl,e⟩
   ·injection e with e1 _;rw [e1]
   ·exact nomatch e
  ·rcases bF hb with ⟨j,u,rfl,e⟩ | ⟨y,u,rfl,e⟩
   ·exact nomatch e
   ·injection e with e1 _;rw [e1]
 byValue:=fun k v h=>by
  rcases bF h with ⟨i,t,rfl,rfl⟩ | ⟨x,t,rfl,rfl⟩ <;> rfl
 pyHash:=fun hv h=>by
  rcases bF hv with ⟨i,t,rfl,rfl⟩ | ⟨x,t,rfl,rfl⟩
  ·exact wpAny_pyHash_int h
  ·exact wpAny_pyHash_str h
 eqBool:=fun hu hv h=>by
  rcases bF hu with ⟨i,t,rfl,rfl⟩ | ⟨x,t,rfl,rfl⟩
  ·rcases bF hv with ⟨j,u,rfl,rfl⟩ | ⟨y,u,rfl,rfl⟩
   ·rw [key_ll] at h;exact wpAny_eqBool_int h
   ·rw [key_lr] at h;exact SeqAt.EqAt.int_str i t y u _ _ _ _ h
  ·rcases bF hv with ⟨j,u,rfl,rfl⟩ | ⟨y,u,rfl,rfl⟩
   ·rw [key_rl] at h;exact SeqAt.EqAt.str_int x t j u _ _ _ _ h
   ·rw [key_rr] at h;exact wpAny_eqBool_str h
 «strs»:=fun k x t v h=>by
  rcases bF h with ⟨i,u,rfl,e⟩ | ⟨y,u,rfl,e⟩
  ·exact nomatch e
  ·injection e with e1 _
   subst e1
   cases v <;> rfl
theorem uh (prog:Program)(w:World)(i:Int)(t:Tok):(dB prog w).is (.inl i) (.int i t)=true:=keyIs_int i t
theorem tG (prog:Program)(w:World)(x:Str)(t:Tok):(dB prog w).is (.inr x) (.str x t)=true:=yL x t
end L2
namespace L2
open PySem PySem.Spec PyProof.Rows
inductive V where
 | non | bl (b:Bool) | int (i:Int) | str (x:Str) | byt (b:Array UInt8) | flt (b:UInt64) | ref (a:Addr) | ty (n:String)
 deriving DecidableEq
def RelV:V→Value→Prop
 | .non,u=>u=Value.none
 | .bl b,u=>u=Value.bool b
 | .int i,u=>∃ t,u=Value.int i t
 | .str x,u=>∃ t,u=Value.str x t
 | .byt b,u=>∃ t,u=Value.bytes b t
 | .flt b,u=>∃ t,u=Value.float b t
 | .ref a,u=>u=Value.ref a
 | .ty n,u=>u=Value.type n
abbrev Vals:List V→List Value→Prop:=Paired RelV
theorem Vals.length {xs:List V}{us:List Value}(r:Vals xs us):xs.length=us.length:=Paired.length r
theorem Vals.get:∀ {xs:List V} {us:List Value} {i:Nat} {x:V},Vals xs us→xs[i]?=some x→∃ u,us[i]?=some u∧RelV x u
 | _,_,_,_,.nil,e=>by simp at e
 | _,_,0,_,.cons r _,e=>by simp at e;subst e;exact ⟨_,rfl,r⟩
 | _,_,i+1,x,.cons _ t,e=>by
  obtain ⟨u,h1,h2⟩:=Vals.get (i:=i) (x:=x) t (by simpa using e)
  exact ⟨u,by simpa using h1,h2⟩
theorem Vals.append:∀ {xs ys:List V} {us ws:List Value},Vals xs us→Vals ys ws→Vals (xs++ys) (us++ws)
 | _,_,_,_,.nil,s=>s
 | _,_,_,_,.cons r t,s=>.cons r (Vals.append t s)
def RelO:Option V→Option Value→Prop
 | some v,some u=>RelV v u
 | none,none=>True
 | _,_=>False
def KV {κ : Type}:List (κ×V)→List (κ×Value)→Prop:=Paired fun (p:κ×V) (q:κ×Value)=>p.1=q.1∧RelV p.2 q.2
def kV:Key→V
 | .inl i=>.int i
 | .inr x=>.str x
inductive HO where
 /-- a list -/
 | lst (xs:List V)
 /-- a tuple (never changes) -/
 | tup (xs:List V)
 /-- a dict whose keys are ints and texts; one whose keys are tuples of ints and texts (the empty one is both) -/
 | dK (kvs:List (Key×V)) | dT (kvs:List (List Key×V))
 /-- a set of ints: its members, its size -/
 | set (S:Int→Bool) (n:Nat)
 /-- an instance of the class at C, its dict at dx, its attributes -/
 | ins (C dx:Addr) (fs:List (Str×V))
 /-- the dict of the instance at x -/
 | own (x:Addr)
 /-- the dict of an exception -/
 | xd (fs:List (Str×V))
 /-- a bound method, f of x -/
 | met (f x:Addr)
 /-- a range object lo, lo + 1, .. below hi -/
 | rng (lo hi:Int)
 /-- a thing that is known to the object (the script; a dict while a loop walks it): read, never written while it is so -/
 | frz (o:Obj) (u:HO)
 /-- a code object's table -/
 | tbl (ps:Array Value)
 /-- any other thing, by what is true of its one object (a def of one's own: SetO a S n := HO.ext fun h => ..) -/
 | ext (φ : Heap→Prop)
abbrev Hp:=Addr→Option HO
def upd (H:Hp)(a:Addr)(o:HO):Hp:=fun b=>if b=a then some o else H b
theorem bA {H:Hp}{a:Addr}{o:HO}:upd H a o a=some o:=by unfold upd;rw [if_pos rfl]
theorem aJ {H:Hp}{a b:Addr}{o:HO}(h:b≠a):upd H a o b=H b:=by unfold upd;rw [if_neg h]
theorem aM {H:Hp}{a b:Addr}{o:HO}(h:H a=some o)(h':H b=none):a≠b:=by
 intro e;subst e;rw [h] at h';cases h'
section
variable (P:Program)(w:World)
def TupO (h:Heap)(a:Addr)(items:Array Value):Prop:=∃ o,h.get? a=some o∧o.cls=.type "tuple"∧(∃ n,o.data=.seq items n)∧o.dict=none
theorem TupO.tup {h:Heap}{a:Addr}{items:Array Value}(x:TupO h a items):IsTup h a items:=let ⟨o,ho,hc,hd,_⟩:=x;⟨o,ho,hc,hd⟩
theorem TupO.new (h:Heap)(items:Array Value):TupO (h.push { cls:=.type "tuple",data:=.seq items }) h.objs.size items:=⟨_,Heap.get?_push_size _ rfl,rfl,⟨_,rfl⟩,rfl⟩
def dF (H:Hp)(h:Heap)(a:Addr):HO→Prop
 | .lst xs=>xs.length≤sizeLine∧∃ (its:List Value) (n:Nat),Vals xs its∧h.get? a=some { cls:=.type "list",data:=.seq its.toArray n }
 | .tup xs=>xs.length≤sizeLine∧∃ its:List Value,Vals xs its∧TupO h a its.toArray
 | .dK kvs=>kvs.length≤sizeLine∧(a==sysModules)=false∧∃ vs,KV kvs vs∧h.DictOf (dB P w) a vs
 | .dT kvs=>kvs.length≤sizeLine∧(a==sysModules)=false∧∃ xs:List (List Key×Addr×Value),
   Paired (fun (p:List Key×V) (q:List Key×Addr×Value)=>p.1=q.1∧H q.2.1=some (.tup (p.1.map kV))∧RelV p.2 q.2.2) kvs xs ∧
   ∃ o es ep,h.get? a=some o∧o.ExactDict∧o.data=.dict es ep∧es.toList=xs.map (entryOfKey (tupleKind (dB P w)))∧(xs.map (·.1)).Nodup
 | .set S n=>h.SetOf (intKind P w) a S n
 | .ins C dx fs=>H dx=some (.own a)∧fs.length≤1000∧dx≠a∧h.get? a=some (PySem.W.instObj C dx) ∧
   ∃ mA,h.Ns1 dx mA∧(∀ f,RelO (fs.lookup f) (mA f))∧PySem.Within mA (fs.map (·.1))
 | .own _=>∃ o,h.get? a=some o
 | .xd fs=>∃ mA,h.Ns1 a mA∧∀ f,RelO (fs.lookup f) (mA f)
 | .rng lo hi=>∃ t u v,h.get? a=some { cls:=.type "range",data:=.fields #[.int lo t,.int hi u,.int 1 v] }
 | .frz o u=>h.get? a=some o∧dF H h a u
 | .tbl ps=>h.get? a=some { cls:=.none,data:=.fields ps }
 | .met f x=>h.get? a=some (PySem.W.methodObj (.ref f) (.ref x))
 | .ext φ=>φ h∧(∃ o,h.get? a=some o)∧∀ h1 h2:Heap,φ h1→(∀ o,h1.get? a=some o→h2.get? a=some o)→φ h2
def HOk (H:Hp)(h:Heap):Prop:=∀ a o,H a=some o→dF P w H h a o
end
section
variable {P:Program}{w:World}{H H':Hp}{h h':Heap}{a:Addr}{o:HO}
theorem dF.lt (x:dF P w H h a o):a<h.objs.size:=by
 cases o with
 | lst xs=>obtain ⟨_,_,_,_,e⟩:=x;exact Heap.lt_size e
 | tup xs=>obtain ⟨_,_,_,p⟩:=x;exact p.tup.lt
 | dK kvs=>obtain ⟨_,_,_,_,o,_,_,e,_⟩:=x;exact Heap.lt_size e
 | dT kvs=>obtain ⟨_,_,_,_,o,_,_,e,_⟩:=x;exact Heap.lt_size e
 | set S n=>obtain ⟨o,_,_,_,e,_⟩:=x;exact Heap.lt_size e
 | ins C dx fs=>obtain ⟨_,_,_,e,_⟩:=x;exact Heap.lt_size e
 | own y=>obtain ⟨_,e⟩:=x;exact Heap.lt_size e
 | xd fs=>obtain ⟨_,⟨_,_,_,e,_⟩,_⟩:=x;exact Heap.lt_size e
 | rng lo hi=>obtain ⟨_,_,_,e⟩:=x;exact Heap.lt_size e
 | frz ob u=>obtain ⟨e,_⟩:=x;exact Heap.lt_size e
 | tbl ps=>exact Heap.lt_size (show h.get? a=some _ from x)
 | met f y=>exact Heap.lt_size (show h.get? a=some _ from x)
 | ext φ=>obtain ⟨_,⟨_,e⟩,_⟩:=x;exact Heap.lt_size e
theorem Paired.mapP {α β : Type}{F G:α→β→Prop}:∀ {l₁ : List α} {l₂ : List β},Paired F l₁ l₂→(∀ a b,F a b→G a b)→Paired G l₁ l₂
 | _,_,.nil,_=>.nil
 | _,_,.cons r t,f=>.cons (f _ _ r) (Paired.mapP t f)
theorem dF.stay (x:dF P w H h a o)(k:∀ b u,(b=a∨H b=some (.own a))→h.get? b=some u→h'.get? b=some u)
  (ho:∀ b,H b=some (.own a)→H' b=some (.own a)) (ht:∀ b xs,H b=some (.tup xs)→H' b=some (.tup xs)):dF P w H' h' a o:=by
 induction o with
 | lst xs=>obtain ⟨z,its,n,r,e⟩:=x;exact ⟨z,its,n,r,k _ _ (.inl rfl) e⟩
 | tup xs=>obtain ⟨z,its,r,ob,e,c⟩:=x;exact ⟨z,its,r,ob,k _ _ (.inl rfl) e,c⟩
 | dK kvs=>obtain ⟨z,y,vs,r,ob,es,ep,e,c⟩:=x;exact ⟨z,y,vs,r,ob,es,ep,k _ _ (.inl rfl) e,c⟩
 | dT kvs=>
  obtain ⟨z,y,xs,r,ob,es,ep,e,c⟩:=x
  exact ⟨z,y,xs,Paired.mapP r fun p q z=>⟨z.1,ht _ _ z.2.1,z.2.2⟩,ob,es,ep,k _ _ (.inl rfl) e,c⟩
 | set S n=>obtain ⟨ob,es,ep,t,e,c⟩:=x;exact ⟨ob,es,ep,t,k _ _ (.inl rfl) e,c⟩
 | ins C dx fs=>
  obtain ⟨d,z,ne,e,mA,⟨od,es,ep,e2,c⟩,r⟩:=x
  exact ⟨ho _ d,z,ne,k _ _ (.inl rfl) e,mA,⟨od,es,ep,k _ _ (.inr d) e2,c⟩,r⟩
 | own y=>obtain ⟨ob,e⟩:=x;exact ⟨ob,k _ _ (.inl rfl) e⟩
 | xd fs=>obtain ⟨mA,⟨od,es,ep,e,c⟩,r⟩:=x;exact ⟨mA,⟨od,es,ep,k _ _ (.inl rfl) e,c⟩,r⟩
 | rng lo hi=>obtain ⟨t,u,v,e⟩:=x;exact ⟨t,u,v,k _ _ (.inl rfl) e⟩
 | frz ob u ih=>obtain ⟨e,q⟩:=x;exact ⟨k _ _ (.inl rfl) e,ih q⟩
 | tbl ps=>
  have e:h.get? a=some { cls:=.none,data:=.fields ps }:=x
  show h'.get? a=some { cls:=.none,data:=.fields ps }
  exact k a _ (.inl rfl) e
 | met f y=>
  have e:h.get? a=some (PySem.W.methodObj (.ref f) (.ref y)):=x
  show h'.get? a=some (PySem.W.methodObj (.ref f) (.ref y))
  exact k a _ (.inl rfl) e
 | ext φ=>obtain ⟨p,⟨o,e⟩,st⟩:=x;exact ⟨st _ _ p fun o q=>k _ _ (.inl rfl) q,⟨o,k _ _ (.inl rfl) e⟩,st⟩
theorem HOk.lt (x:HOk P w H h)(e:H a=some o):a<h.objs.size:=(x a o e).lt
theorem HOk.fresh (x:HOk P w H h)(e:h.objs.size≤a):H a=none:=by
 cases q:H a with
 | none=>rfl
 | some u=>exact absurd (Nat.lt_of_lt_of_le (x.lt q) e) (Nat.lt_irrefl _)
theorem HOk.kept (x:HOk P w H h)(k:∀ b u,h.get? b=some u→h'.get? b=some u):HOk P w H h':=fun a o e=>
 (x a o e).stay (fun b u _ q=>k b u q) (fun _ q=>q) fun _ _ q=>q
theorem HOk.laid (x:HOk P w H h)(k:∀ b u,h.get? b=some u→h'.get? b=some u)(hp:h.objs.size≤a)(new:dF P w (upd H a o) h' a o):HOk P w (upd H a o) h':=fun b u e=>by
 have hn:=x.fresh hp
 by_cases hb:b=a
 ·subst hb;rw [bA] at e;cases e;exact new
 ·rw [aJ hb] at e
  exact (x b u e).stay (fun c v _ q=>k c v q) (fun c q=>by rw [aJ (aM q hn)];exact q) fun c xs q=>by rw [aJ (aM q hn)];exact q
end
def Rd (H:Hp)(a:Addr)(u:HO):Prop:=H a=some u∨∃ o,H a=some (.frz o u)
theorem Rd.ok {P:Program}{w:World}{H:Hp}{h:Heap}{a:Addr}{u:HO}(r:Rd H a u)(x:HOk P w H h):dF P w H h a u:=by
 rcases r with r | ⟨o,r⟩
 ·exact x a u r
 ·obtain ⟨_,q⟩:=x a _ r
  exact q
def Mut:Option HO→Prop
 | some (.lst _)=>True
 | some (.dK _)=>True
 | some (.dT _)=>True
 | some (.set _ _)=>True
 | some (.ins _ _ _)=>True
 | some (.ext _)=>True
 | _=>False
section
variable {P:Program}{w:World}{H:Hp}{h h':Heap}{x e:Addr}{o':HO}
theorem HOk.write (ok:HOk P w H h)(mu:Mut (H x))(he:e=x∨H e=some (.own x))(k:∀ b u,b≠e→h.get? b=some u→h'.get? b=some u)(heo:∃ u,h'.get? e=some u)
  (new:dF P w (upd H x o') h' x o'):HOk P w (upd H x o') h':=fun b u q=>by
 have nown:∀ c y,H c=some (.own y)→c≠x:=fun c y r z=>by subst z;rw [r] at mu;exact mu
 have ntup:∀ c xs,H c=some (.tup xs)→c≠x:=fun c xs r z=>by subst z;rw [r] at mu;exact mu
 by_cases hb:b=x
 ·subst hb;rw [bA] at q;cases q;exact new
 ·rw [aJ hb] at q
  by_cases hbe:b=e
  ·have q':H b=some (.own x):=by
    rcases he with z | z
    ·exact absurd (hbe.trans z) hb
    ·rw [hbe];exact z
   rw [q] at q';cases q'
   obtain ⟨v,hv⟩:=heo
   exact ⟨v,by rw [hbe];exact hv⟩
  ·refine (ok b u q).stay (fun c v hc r=>k c v ?_ r) (fun c r=>by rw [aJ (nown c b r)];exact r) fun c xs r=>by rw [aJ (ntup c xs r)];exact r
   rcases hc with rfl | hc
   ·exact hbe
   ·rintro rfl
    rcases he with z | z
    ·exact nown c b hc z
    ·rw [hc] at z;cases z;exact hb rfl
end
structure Un (fs ex:List Addr) (H H':Hp) (h h':Heap):Prop where
 keep:∀ b o,h.get? b=some o→H b=none→b∉fs→b∉ex→h'.get? b=some o
 slot:∀ b o,h.get? b=some o→H b=none→b∈fs→b∉ex→∃ sl,h'.get? b=some { o with slots:=sl }
 free:∀ b o,h.get? b=some o→H b=none→b∉ex→H' b=none
 there:∀ b o,h.get? b=some o→b∉ex→∃ o',h'.get? b=some o'
 tups:∀ b xs,H b=some (.tup xs)→H' b=some (.tup xs)
 frzs:∀ b o u,H b=some (.frz o u)→H' b=some (.frz o u)
 tbls:∀ b ps,H b=some (.tbl ps)→∃ more,H' b=some (.tbl (ps++more))
section
variable {fs fs' ex ex':List Addr}{H H1 H2:Hp}{h h1 h2 h':Heap}{a x e:Addr}{o:HO}
theorem Un.any (u:Un fs ex H H1 h h1){b:Addr}{ob:Obj}(q:h.get? b=some ob)(n:H b=none)(hx:b∉ex):∃ sl,h1.get? b=some { ob with slots:=sl }:=by
 by_cases hb:b∈fs
 ·exact u.slot b ob q n hb hx
 ·exact ⟨ob.slots,u.keep b ob q n hb hx⟩
theorem Un.kept (k:∀ b u,h.get? b=some u→h'.get? b=some u):Un fs ex H H h h':=
 ⟨fun b ob q _ _ _=>k b ob q,fun b ob q _ _ _=>⟨ob.slots,k b ob q⟩,fun _ _ _ n _=>n,fun b ob q _=>⟨ob,k b ob q⟩,fun _ _ q=>q,fun _ _ _ q=>q,fun _ ps q=>⟨#[],by rw [q];simp⟩⟩
theorem Un.refl:Un fs ex H H h h:=Un.kept fun _ _ q=>q
theorem Un.laid (k:∀ b u,h.get? b=some u→h'.get? b=some u)(hp:h.objs.size≤a)(hn:H a=none):Un fs ex H (upd H a o) h h' where
 keep:=fun b u q _ _ _=>k b u q
 slot:=fun b u q _ _ _=>⟨u.slots,k b u q⟩
 free:=fun b u q n _=>by rw [aJ (Nat.ne_of_lt (Nat.lt_of_lt_of_le (Heap.lt_size q) hp))];exact n
 there:=fun b u q _=>⟨u,k b u q⟩
 tups:=fun b xs q=>by rw [aJ (aM q hn)];exact q
 frzs:=fun b u xs q=>by rw [aJ (aM q hn)];exact q
 tbls:=fun b ps q=>⟨#[],by rw [aJ (aM q hn),q];simp⟩
theorem Un.write (mu:Mut (H x))(he:e=x∨H e=some (.own x))(k:∀ b u,b≠e→h.get? b=some u→h'.get? b=some u)(heo:∃ u,h'.get? e=some u):Un fs ex H (upd H x o) h h':=by
 have hx:∀ b,H b=none→b≠x:=fun b n z=>by subst z;rw [n] at mu;exact mu
 have hb:∀ b,H b=none→b≠e:=fun b n z=>by
  subst z
  rcases he with r | r
  ·exact hx b n r
  ·rw [n] at r;cases r
 have hm:∀ b u,H b=some u→¬ Mut (some u)→b≠x:=fun b u q nm z=>by subst z;rw [q] at mu;exact nm mu
 refine ⟨fun b u q n _ _=>k b u (hb b n) q,fun b u q n _ _=>⟨u.slots,k b u (hb b n) q⟩,fun b u q n _=>by rw [aJ (hx b n)];exact n,fun b u q _=>?_,
  fun b xs q=>by rw [aJ (hm b _ q fun z=>z)];exact q,fun b u xs q=>by rw [aJ (hm b _ q fun z=>z)];exact q,fun b ps q=>⟨#[],by rw [aJ (hm b _ q fun z=>z),q];simp⟩⟩
 by_cases hbe:b=e
 ·subst hbe;exact heo
 ·exact ⟨u,k b u hbe q⟩
end
def trk (h:Heap)(H:Hp):List Addr:=(List.range h.objs.size).filter fun a=>(H a).isSome
def hidT (h:Heap)(H:Hp):Heap:=PySem.W.hideAll h (trk h H)
theorem Ab (h:Heap)(H:Hp):(hidT h H).objs.size=h.objs.size:=PySem.W.hideAll_size _ _
theorem hidT_get {h:Heap}{H:Hp}{b:Addr}{o:Obj}(e:h.get? b=some o)(n:H b=none):(hidT h H).get? b=some o:=
 PySem.W.hideAll_get _ e fun hm=>by
  have q:(H b).isSome=true:=(List.mem_filter.mp hm).2
  rw [n] at q;simp at q
theorem of_hidT {h:Heap}{H:Hp}{b:Addr}{o:Obj}(e:(hidT h H).get? b=some o):h.get? b=some o∧H b=none:=by
 have e':h.get? b=some o:=PySem.W.of_hideAll (trk h H) e
 refine ⟨e',?_⟩
 cases q:H b with
 | none=>rfl
 | some x=>
  have hm:b∈trk h H:=List.mem_filter.mpr ⟨List.mem_range.mpr (Heap.lt_size e'),by simp [q]⟩
  have z:(hidT h H).get? b=none:=PySem.W.hideAll_none (trk h H) hm
  rw [z] at e;cases e
def allNews (g h:Heap)(L:Addr):List (Addr×Obj):=(List.range h.objs.size).filterMap fun a=>if a=L∨(g.get? a).isSome=true then none else (h.get? a).map fun o=>(a,o)
def rest (g h:Heap)(L d:Addr):List (Addr×Obj):=(allNews g h L).filter fun p=>decide (p.1≠d)
end L2
namespace L2
open PySem PySem.Spec PyProof.Rows
structure Mod (K:PySem.W.Frag) (mg:Str→Option Value) (base:Heap):Prop where
 kin:K.In base
 glob:base.Ns mainGlobals mg
 blt:∃ mb,base.Ns builtinsNs mb∧∀ x:Str,x ≠ "__name__"→mb x=bootBuiltins x
 nolimit:base.NoLimit
structure Cx where
 prog:Program
 w:World
 K:PySem.W.Frag
 mg:Str→Option Value
 base:Heap
 A:Around
 N:List Str
 s₀ : Shared
 H₀ : Hp
 env:Env
 outer:List Env
 stack:List Env
 ex:List Addr
 fn:Str→Bool
 calm:Bool
 pn:List (Addr×Obj)
 xe:Value→Shared→Prop
def frs (l:List Env):List Addr:=l.filterMap (·.frame)
abbrev Cx.fs (X:Cx):List Addr:=frs X.outer
def Vis (sc:Scope)(x:Str):Prop:=sc.names.lookup x=some .local∨sc.names.lookup x=some .cell∨sc.names.lookup x=some .free
def Loc (sc:Scope)(x:Str):Prop:=sc.names.lookup x=some .local∨sc.names.lookup x=some .cell
def Look (env:Env)(h:Heap)(m:Str→Option Value)(x:Str)(u:Value):Prop:=
 (env.kindOf x=some .local∧m x=some u)∨((env.kindOf x=some .cell∨env.kindOf x=some .free)∧∃ c,env.cells.lookup x=some c∧h.IsCell c (some u))
def Still (H:Hp)(v:Value):Prop:=∃ (a:Addr) (o:Obj) (u:HO) (vs:Array Value),v=.ref a∧H a=some (.frz o u)∧o.data=.fields vs∧vs[2]?=some .none
def Quiet (A:Around)(H:Hp):Prop:=∀ v,A.handled=some v→Still H v
structure Cx.Ok (X:Cx):Prop where
 mod:Mod X.K X.mg X.base
 kind:X.env.scope.kind=.function
 glob:X.env.globals=mainGlobals
 blt:X.env.builtins=builtinsNs
 above:X.s₀.heap.objs.size≤X.env.locals
 inj:∀ x y c,X.env.cells.lookup x=some c→X.env.cells.lookup y=some c→x=y
 has:∀ x,(X.env.kindOf x=some .cell∨X.env.kindOf x=some .free)→∃ c,X.env.cells.lookup x=some c
 cab:∀ x c,X.fn x=true→X.env.cells.lookup x=some c→X.s₀.heap.objs.size≤c
 hd:X.calm=true→X.A.handled=none
 qt:Quiet X.A X.H₀
 frames:X.A.frames=some X.stack
 stk:X.stack=X.outer∨(X.stack=X.env::X.outer∧X.env.frame=some X.env.locals)
 exf:∀ b∈X.ex,b≠X.env.locals∧∀ x c,X.env.cells.lookup x=some c→c≠b
 bs:∀ b o,X.base.get? b=some o→X.s₀.heap.get? b=some o∧X.H₀ b=none
 bsz:X.base.objs.size≤X.s₀.heap.objs.size
 noex:∀ b o,X.base.get? b=some o→b∉X.ex
 exfs:∀ b∈X.ex,b∉X.fs
 funs:X.s₀.heap.FunFrames X.base X.outer
 frf:∀ b∈X.fs,X.H₀ b=none
structure Inv (X:Cx) (pins:List (Addr×Obj)) (σ : List (Option V)) (H:Hp) (s:Shared):Prop where
 ok:X.Ok
 os:s.os=X.s₀.os
 bare:AllBare s.gens
 base:Un X.fs X.ex X.H₀ H X.s₀.heap s.heap
 loc:∃ m,s.heap.Ns X.env.locals m∧∀ (i:Nat) (x:Str) (v:V),X.N[i]?=some x→σ[i]?=some (some v)→Vis X.env.scope x→∃ u,RelV v u∧Look X.env s.heap m x u
 cell:∀ x c,X.env.cells.lookup x=some c→∃ v,s.heap.IsCell c v
 free:H X.env.locals=none
 freeC:∀ x c,X.env.cells.lookup x=some c→H c=none
 pin:∀ p∈X.pn++pins,s.heap.get? p.1=some p.2∧H p.1=none∧p.1≠X.env.locals∧p.1∉X.fs∧∀ v,p.2.data≠.cell v
 hok:HOk X.prog X.w H s.heap
 len:σ.length=X.N.length
section
variable {X:Cx}{pins:List (Addr×Obj)}{σ : List (Option V)}{H H':Hp}{s:Shared}{h':Heap}
theorem Cx.Ok.nofr (ok:X.Ok){b:Addr}{o:Obj}(e:X.base.get? b=some o):b∉X.fs:=fun hb=>by
 have:=(ok.funs.mem hb).1
 rw [e] at this;cases this
theorem Inv.bs (I:Inv X pins σ H s):∀ b o,X.base.get? b=some o→s.heap.get? b=some o∧H b=none:=fun b o e=>
 ⟨I.base.keep b o (I.ok.bs b o e).1 (I.ok.bs b o e).2 (I.ok.nofr e) (I.ok.noex b o e),I.base.free b o (I.ok.bs b o e).1 (I.ok.bs b o e).2 (I.ok.noex b o e)⟩
theorem Inv.qt0 (I:Inv X pins σ H s):Quiet X.A H:=fun v e=>let ⟨a,o,u,vs,h1,h2,h3⟩:=I.ok.qt v e;⟨a,o,u,vs,h1,I.base.frzs a o u h2,h3⟩
theorem Inv.bk (I:Inv X pins σ H s):∀ b o,X.base.get? b=some o→s.heap.get? b=some o:=fun b o e=>(I.bs b o e).1
theorem Inv.mod (I:Inv X pins σ H s):Mod X.K X.mg X.base:=I.ok.mod
theorem Inv.kIn (I:Inv X pins σ H s):X.K.In s.heap:=I.ok.mod.kin.keeps I.bk
theorem Inv.lt (I:Inv X pins σ H s):X.env.locals<s.heap.objs.size:=let ⟨_,hn,_⟩:=I.loc;hn.lt
theorem Inv.sz (I:Inv X pins σ H s):X.s₀.heap.objs.size≤s.heap.objs.size:=Nat.le_trans I.ok.above (Nat.le_of_lt I.lt)
theorem Inv.nofs (I:Inv X pins σ H s){a:Addr}(h:s.heap.objs.size≤a):a∉X.fs:=fun hb=>by
 obtain ⟨_,o,ho,_⟩:=I.ok.funs.mem hb
 exact absurd (Nat.lt_of_lt_of_le (Heap.lt_size ho) (Nat.le_trans I.sz h)) (Nat.lt_irrefl _)
theorem Inv.cne (I:Inv X pins σ H s):∀ x c,X.env.cells.lookup x=some c→c≠X.env.locals:=fun x c e z=>by
 obtain ⟨v,o,ho,hd⟩:=I.cell x c e
 obtain ⟨m,⟨o',es,ep,ho',hd',_⟩,_⟩:=I.loc
 rw [z,ho'] at ho;cases ho;rw [hd'] at hd;cases hd
theorem Inv.funs (I:Inv X pins σ H s):s.heap.FunFrames X.base X.outer:=by
 have all:∀ (l:List Env),(∀ b∈frs l,b∈X.fs)→X.s₀.heap.FunFrames X.base l→s.heap.FunFrames X.base l:=by
  intro l
  induction l with
  | nil=>intro _ _;trivial
  | cons env r ih=>
   intro hs hl
   obtain ⟨hk,⟨L,o,hf,hn,ho,hd⟩,hr⟩:=hl
   have hL:L∈X.fs:=hs L (by unfold frs;rw [List.filterMap_cons,hf];exact List.mem_cons_self)
   obtain ⟨sl,e⟩:=I.base.slot L o ho (I.ok.frf L hL) hL fun z=>I.ok.exfs L z hL
   exact ⟨hk,⟨L,_,hf,hn,e,hd⟩,ih (fun b hb=>hs b (by unfold frs;rw [List.filterMap_cons,hf];exact List.mem_cons_of_mem _ hb)) hr⟩
 exact all X.outer (fun _ hb=>hb) I.ok.funs
theorem Inv.stack (I:Inv X pins σ H s):s.heap.FunFrames X.base X.stack:=by
 rcases I.ok.stk with e | ⟨e,hf⟩
 ·rw [e];exact I.funs
 ·rw [e]
  obtain ⟨m,hn,_⟩:=I.loc
  refine .cons (by rw [I.ok.kind];decide) hf hn ?_ I.funs
  exact Heap.get?_none_of_le (Nat.le_trans I.ok.bsz I.ok.above)
theorem Inv.stkSub (I:Inv X pins σ H s):∀ b∈frs X.stack,b∈X.env.locals::X.fs:=fun b hb=>by
 rcases I.ok.stk with e | ⟨e,hf⟩
 ·rw [e] at hb;exact List.mem_cons_of_mem _ hb
 ·rw [e] at hb
  unfold frs at hb
  rw [List.filterMap_cons,hf] at hb
  exact hb
theorem Inv.stkFree (I:Inv X pins σ H s):∀ b∈frs X.stack,H b=none:=fun b hb=>by
 rcases List.mem_cons.mp (I.stkSub b hb) with e | hb
 ·rw [e];exact I.free
 ·obtain ⟨_,o,ho,_⟩:=I.ok.funs.mem hb
  exact I.base.free b o ho (I.ok.frf b hb) fun z=>I.ok.exfs b z hb
theorem Inv.stepG {g':Array GenState}{t':Nat}{d':Drawn}{ch:List Addr}(I:Inv X pins σ H s)
  (hch:∀ b∈ch,(b∈X.ex∨X.s₀.heap.get? b=none)∧b≠X.env.locals∧(∀ x c,X.env.cells.lookup x=some c→c≠b)∧∀ p∈X.pn++pins,p.1≠b)
  (keep:∀ b o,b≠X.env.locals→b∉X.fs→b∉ch→s.heap.get? b=some o→H b=none→h'.get? b=some o)
  (slot:∀ b o,b≠X.env.locals→b∈X.fs→b∉ch→s.heap.get? b=some o→H b=none→∃ sl,h'.get? b=some { o with slots:=sl }) (free:∀ b o,b∉ch→s.heap.get? b=some o→H b=none→H' b=none)
  (there:∀ b o,b∉ch→s.heap.get? b=some o→∃ o',h'.get? b=some o')
  (tups:∀ b xs,H b=some (.tup xs)→H' b=some (.tup xs)) (frzs:∀ b o u,H b=some (.frz o u)→H' b=some (.frz o u)) (tbls:∀ b ps,H b=some (.tbl ps)→∃ more,H' b=some (.tbl (ps++more)))
  (ns:∀ m,s.heap.Ns X.env.locals m→h'.Ns X.env.locals m) (hok:HOk X.prog X.w H' h') (hg:AllBare g') :
  Inv X pins σ H' { s with heap:=h',gens:=g',drawn:=d',toks:=t' }:=by
 have neL:∀ b o,X.s₀.heap.get? b=some o→b≠X.env.locals:=fun b o e=>Nat.ne_of_lt (Nat.lt_of_lt_of_le (Heap.lt_size e) I.ok.above)
 have neC:∀ b o,X.s₀.heap.get? b=some o→b∉X.ex→b∉ch:=fun b o e hx hb=>by
  rcases (hch b hb).1 with z | z
  ·exact hx z
  ·rw [z] at e;cases e
 have cellK:∀ x c,X.env.cells.lookup x=some c→∀ v,s.heap.IsCell c v→h'.IsCell c v:=fun x c e v ⟨o,ho,hd⟩=>by
  have nch:c∉ch:=fun z=>(hch c z).2.2.1 x c e rfl
  by_cases hc:c∈X.fs
  ·obtain ⟨sl,q⟩:=slot c o (I.cne x c e) hc nch ho (I.freeC x c e)
   exact ⟨_,q,hd⟩
  ·exact ⟨o,keep c o (I.cne x c e) hc nch ho (I.freeC x c e),hd⟩
 refine ⟨I.ok,I.os,hg,⟨fun b o e n hb hx=>?_,fun b o e n hb hx=>?_,fun b o e n hx=>?_,fun b o e hx=>?_,fun b xs e=>tups b xs (I.base.tups b xs e),fun b o xs e=>frzs b o xs (I.base.frzs b o xs e),fun b ps e=>?_⟩,?_,fun x c e=>?_,?_,fun x c e=>?_,fun p hp=>?_,hok,I.len⟩
 ·exact keep b o (neL b o e) hb (neC b o e hx) (I.base.keep b o e n hb hx) (I.base.free b o e n hx)
 ·obtain ⟨sl,e1⟩:=I.base.slot b o e n hb hx
  obtain ⟨sl',e2⟩:=slot b _ (neL b o e) hb (neC b o e hx) e1 (I.base.free b o e n hx)
  exact ⟨sl',e2⟩
 ·obtain ⟨o',e1⟩:=I.base.there b o e hx
  exact free b o' (neC b o e hx) e1 (I.base.free b o e n hx)
 ·obtain ⟨o',e1⟩:=I.base.there b o e hx
  exact there b o' (neC b o e hx) e1
 ·obtain ⟨m1,e1⟩:=I.base.tbls b ps e
  obtain ⟨m2,e2⟩:=tbls b _ e1
  exact ⟨m1++m2,by rw [e2,Array.append_assoc]⟩
 ·obtain ⟨m,hn,hl⟩:=I.loc
  refine ⟨m,ns m hn,fun i x v e1 e2 e3=>?_⟩
  obtain ⟨u,r,l⟩:=hl i x v e1 e2 e3
  refine ⟨u,r,?_⟩
  rcases l with l | ⟨k,c,e,z⟩
  ·exact .inl l
  ·exact .inr ⟨k,c,e,cellK x c e _ z⟩
 ·obtain ⟨v,z⟩:=I.cell x c e
  exact ⟨v,cellK x c e v z⟩
 ·obtain ⟨m,⟨o,_,_,ho,_⟩,_⟩:=I.loc
  exact free _ o (fun z=>(hch _ z).2.1 rfl) ho I.free
 ·obtain ⟨v,o,ho,hd⟩:=I.cell x c e
  exact free c o (fun z=>(hch c z).2.2.1 x c e rfl) ho (I.freeC x c e)
 ·obtain ⟨e,n,ne,nf,d⟩:=I.pin p hp
  have nch:p.1∉ch:=fun z=>(hch p.1 z).2.2.2 p hp rfl
  exact ⟨keep p.1 p.2 ne nf nch e n,free p.1 p.2 nch e n,ne,nf,d⟩
theorem Inv.step {g':Array GenState}{t':Nat}{d':Drawn}{ch:List Addr}(I:Inv X pins σ H s)
  (hch:∀ b∈ch,(b∈X.ex∨X.s₀.heap.objs.size≤b)∧b≠X.env.locals∧(∀ x c,X.env.cells.lookup x=some c→c≠b)∧∀ p∈X.pn++pins,p.1≠b)
  (keep:∀ b o,b≠X.env.locals→b∉X.fs→b∉ch→s.heap.get? b=some o→H b=none→h'.get? b=some o)
  (slot:∀ b o,b≠X.env.locals→b∈X.fs→b∉ch→s.heap.get? b=some o→H b=none→∃ sl,h'.get? b=some { o with slots:=sl }) (free:∀ b o,b∉ch→s.heap.get? b=some o→H b=none→H' b=none)
  (there:∀ b o,b∉ch→s.heap.get? b=some o→∃ o',h'.get? b=some o')
  (tups:∀ b xs,H b=some (.tup xs)→H' b=some (.tup xs)) (frzs:∀ b o u,H b=some (.frz o u)→H' b=some (.frz o u)) (tbls:∀ b ps,H b=some (.tbl ps)→∃ more,H' b=some (.tbl (ps++more)))
  (ns:∀ m,s.heap.Ns X.env.locals m→h'.Ns X.env.locals m) (hok:HOk X.prog X.w H' h') (hg:AllBare g') :
  Inv X pins σ H' { s with heap:=h',gens:=g',drawn:=d',toks:=t' }:=
 I.stepG (ch:=ch) (fun b z=>⟨(hch b z).1.imp id fun q=>Heap.get?_none_of_le q,(hch b z).2⟩) keep slot free there tups frzs tbls ns hok hg
theorem Inv.un {t':Nat}(I:Inv X pins σ H s)(u:Un X.fs [] H H' s.heap h')(hok:HOk X.prog X.w H' h'):Inv X pins σ H' { s with heap:=h',toks:=t' }:=by
 obtain ⟨m,⟨o,es,ep,ho,r⟩,_⟩:=id I.loc
 obtain ⟨sl,hL⟩:=u.any ho I.free (by simp)
 exact I.step (g':=s.gens) (d':=s.drawn) (ch:=[]) (fun _ z=>nomatch z) (fun b o _ hb _ e n=>u.keep b o e n hb (by simp)) (fun b o _ hb _ e n=>u.slot b o e n hb (by simp)) (fun b o _ e n=>u.free b o e n (by simp)) (fun b o _ e=>u.there b o e (by simp)) u.tups u.frzs u.tbls (fun m' hm=>by
  obtain ⟨o',es',ep',ho',r'⟩:=hm
  rw [ho] at ho';cases ho'
  exact ⟨_,es',ep',hL,r'⟩) hok I.bare
theorem Inv.call {g':Array GenState}{t':Nat}{d':Drawn}{ch:List Addr}(I:Inv X pins σ H s)(u:Un (frs X.stack) ch H H' s.heap h')(hok:HOk X.prog X.w H' h')(hg:AllBare g')
  (hch:∀ b∈ch,(b∈X.ex∨X.s₀.heap.objs.size≤b)∧b≠X.env.locals∧(∀ x c,X.env.cells.lookup x=some c→c≠b)∧∀ p∈X.pn++pins,p.1≠b) :
  Inv X pins σ H' { s with heap:=h',gens:=g',drawn:=d',toks:=t' }:=by
 obtain ⟨m,⟨o,es,ep,ho,r⟩,_⟩:=id I.loc
 obtain ⟨sl,hL⟩:=u.any ho I.free fun z=>(hch _ z).2.1 rfl
 exact I.step (ch:=ch) hch (fun b o hL hb hc e n=>u.keep b o e n (fun z=>(List.mem_cons.mp (I.stkSub b z)).elim hL hb) hc) (fun b o _ _ hc e n=>u.any e n hc) (fun b o hc e n=>u.free b o e n hc) (fun b o hc e=>u.there b o e hc) u.tups u.frzs u.tbls (fun m' hm=>by
  obtain ⟨o',es',ep',ho',r'⟩:=hm
  rw [ho] at ho';cases ho'
  exact ⟨_,es',ep',hL,r'⟩) hok hg
theorem Inv.turned {t':Nat}{it:Addr}(I:Inv X pins σ H s)(k:∀ b o,b≠it→s.heap.get? b=some o→h'.get? b=some o)(hn:H it=none)(hL:it≠X.env.locals)
  (h1:it∈X.ex∨X.s₀.heap.objs.size≤it) (h2:∀ x c,X.env.cells.lookup x=some c→c≠it) (h3:∀ p∈X.pn++pins,p.1≠it):Inv X pins σ H { s with heap:=h',toks:=t' }:=by
 have nit:∀ b u,H b=some u→b≠it:=fun b u e z=>by rw [z,hn] at e;cases e
 refine I.step (g':=s.gens) (d':=s.drawn) (ch:=[it]) (fun b hb=>?_) (fun b o _ _ hc e _=>k b o (fun z=>hc (by simp [z])) e) (fun b o _ _ hc e _=>⟨o.slots,k b o (fun z=>hc (by simp [z])) e⟩) (fun _ _ _ _ n=>n)
  (fun b o hc e=>⟨o,k b o (fun z=>hc (by simp [z])) e⟩) (fun _ _ e=>e) (fun _ _ _ e=>e) (fun b ps e=>⟨#[],by rw [e];simp⟩) (fun m hm=>?_) (fun b u e=>?_) I.bare
 ·have e:b=it:=by simpa using hb
  subst e
  exact ⟨h1,hL,h2,h3⟩
 ·obtain ⟨o,es,ep,ho,r⟩:=hm
  exact ⟨o,es,ep,k _ o (Ne.symm hL) ho,r⟩
 ·refine (I.hok b u e).stay (fun c v hc q=>k c v ?_ q) (fun _ q=>q) fun _ _ q=>q
  rcases hc with z | z
  ·rw [z];exact nit b u e
  ·exact nit c _ z
theorem Inv.tok (I:Inv X pins σ H s)(t:Nat):Inv X pins σ H { s with toks:=t }:=I.un (h':=s.heap) (t':=t) Un.refl I.hok
theorem Inv.kept {t':Nat}(I:Inv X pins σ H s)(k:∀ b u,s.heap.get? b=some u→h'.get? b=some u):Inv X pins σ H { s with heap:=h',toks:=t' }:=I.un (Un.kept k) (I.hok.kept k)
theorem Inv.laid {a:Addr}{o:HO}{t':Nat}(I:Inv X pins σ H s)(k:∀ b u,s.heap.get? b=some u→h'.get? b=some u)(hp:s.heap.objs.size≤a)(new:dF X.prog X.w (upd H a o) h' a o) :
  Inv X pins σ (upd H a o) { s with heap:=h',toks:=t' }:=I.un (Un.laid k hp (I.hok.fresh hp)) (I.hok.laid k hp new)
theorem Inv.write {x e:Addr}{o:HO}{t':Nat}(I:Inv X pins σ H s)(mu:Mut (H x))(he:e=x∨H e=some (.own x))(k:∀ b u,b≠e→s.heap.get? b=some u→h'.get? b=some u)(heo:∃ u,h'.get? e=some u)
  (new:dF X.prog X.w (upd H x o) h' x o):Inv X pins σ (upd H x o) { s with heap:=h',toks:=t' }:=I.un (Un.write mu he k heo) (I.hok.write mu he k heo new)
theorem Inv.weak {σ':List (Option V)}(I:Inv X pins σ H s)(hl:σ'.length = σ.length)(w:∀ (i:Nat) v,σ'[i]?=some (some v)→σ[i]?=some (some v)):Inv X pins σ' H s:=
 ⟨I.ok,I.os,I.bare,I.base,let ⟨m,hn,hl'⟩:=I.loc;⟨m,hn,fun i x v e1 e2 e3=>hl' i x v e1 (w i v e2) e3⟩,I.cell,I.free,I.freeC,I.pin,I.hok,hl.trans I.len⟩
theorem Inv.pins_of {pins':List (Addr×Obj)}(I:Inv X pins σ H s)(h:∀ p∈pins',s.heap.get? p.1=some p.2∧H p.1=none∧p.1≠X.env.locals∧p.1∉X.fs∧∀ v,p.2.data≠.cell v):Inv X pins' σ H s:=
 ⟨I.ok,I.os,I.bare,I.base,I.loc,I.cell,I.free,I.freeC,fun p hp=>(List.mem_append.mp hp).elim (fun z=>I.pin p (List.mem_append_left _ z)) (h p),I.hok,I.len⟩
theorem wz {N:List Str}(hN:N.Nodup){i j:Nat}{x:Str}(a:N[i]?=some x)(b:N[j]?=some x):i=j:=by
 obtain ⟨h1,e1⟩:=List.getElem?_eq_some_iff.mp a
 obtain ⟨h2,e2⟩:=List.getElem?_eq_some_iff.mp b
 exact (List.getElem_inj hN).mp (e1.trans e2.symm)
theorem qO {M:Model}{A:Around}{E:Value→Shared→Prop}{i:Nat}{x:Str}{v:V}{u:Value}{Q:Unit→Shared→Prop}(I:Inv X pins σ H s)(hN:X.N.Nodup)(hi:X.N[i]?=some x)(hx:Loc X.env.scope x)(r:RelV v u)
  (h:∀ s',Inv X pins (σ.set i (some v)) H s'→(∃ a,Heap.SameBut a s.heap s'.heap∧(a=X.env.locals∨X.env.cells.lookup x=some a))→Q () s') (hf:X.fn x=true∨X.env.scope.names.lookup x=some .local:=by first | exact .inl rfl | exact .inr rfl | assumption):wpAny M A (storeName X.env x u) Q E s:=by
 obtain ⟨m,hn,hl⟩:=id I.loc
 have hcls:(X.env.scope.kind==.class||(X.env.scope.kind==.module&&X.env.locals != X.env.globals))=false:=by rw [I.ok.kind];rfl
 have hiσ : i < σ.length:=by rw [I.len];exact (List.getElem?_eq_some_iff.mp hi).1
 have cne:=I.cne
 have tracked:∀ {a:Addr} {h':Heap},(∃ o,s.heap.get? a=some o∧H a=none)→Heap.SameBut a s.heap h'→HOk X.prog X.w H h':=fun {a h'} ha hs b ob e=>by
  obtain ⟨_,_,hfree⟩:=ha
  refine (I.hok b ob e).stay (fun c w' hc q=>(hs.2 c ?_).trans q) (fun _ q=>q) fun _ _ q=>q
  rintro rfl
  rcases hc with rfl | hc
  ·rw [hfree] at e;cases e
  ·rw [hfree] at hc;cases hc
 rcases hx with hk | hk
 ·refine wpAny_storeName_local hk hn (fun h' hn' hs=>?_) hcls
  obtain ⟨oL,_,_,hoL,_⟩:=id hn
  refine h _ ⟨I.ok,I.os,I.bare,⟨fun b o e n hb hx=>?_,fun b o e n hb hx=>?_,I.base.free,fun b o e hx=>?_,I.base.tups,I.base.frzs,I.base.tbls⟩,⟨_,hn',fun j y v' e1 e2 e3=>?_⟩,fun y c e=>?_,I.free,I.freeC,fun p hp=>?_,tracked ⟨oL,hoL,I.free⟩ hs,by simpa using I.len⟩ ⟨_,hs,.inl rfl⟩
  ·exact (hs.2 b (Nat.ne_of_lt (Nat.lt_of_lt_of_le (Heap.lt_size e) I.ok.above))).trans (I.base.keep b o e n hb hx)
  ·obtain ⟨sl,e1⟩:=I.base.slot b o e n hb hx
   exact ⟨sl,(hs.2 b (Nat.ne_of_lt (Nat.lt_of_lt_of_le (Heap.lt_size e) I.ok.above))).trans e1⟩
  ·obtain ⟨o',e1⟩:=I.base.there b o e hx
   exact ⟨o',(hs.2 b (Nat.ne_of_lt (Nat.lt_of_lt_of_le (Heap.lt_size e) I.ok.above))).trans e1⟩
  ·by_cases hj:j=i
   ·subst hj
    rw [hi] at e1;cases e1
    rw [List.getElem?_set_self hiσ] at e2
    cases e2
    exact ⟨u,r,.inl ⟨hk,by simp⟩⟩
   ·rw [List.getElem?_set_ne (Ne.symm hj)] at e2
    obtain ⟨u',r',q⟩:=hl j y v' e1 e2 e3
    refine ⟨u',r',?_⟩
    rcases q with ⟨k,e⟩ | ⟨k,c,e,z⟩
    ·refine .inl ⟨k,?_⟩
     have:y≠x:=fun e=>hj (wz hN e1 (e ▸ hi))
     simp [this,e]
    ·exact .inr ⟨k,c,e,z.sameBut hs (cne y c e)⟩
  ·obtain ⟨w',z⟩:=I.cell y c e
   exact ⟨w',z.sameBut hs (cne y c e)⟩
  ·obtain ⟨e,n,ne,nf,d⟩:=I.pin p hp
   exact ⟨(hs.2 p.1 ne).trans e,n,ne,nf,d⟩
 ·have hfn:X.fn x=true:=by
   rcases hf with z | z
   ·exact z
   ·rw [z] at hk;cases hk
  obtain ⟨c,hc⟩:=I.ok.has x (.inl hk)
  obtain ⟨w',z⟩:=I.cell x c hc
  refine wpAny_storeName_cell I.ok.kind hk hc z (fun h' hc' hs=>?_)
  obtain ⟨oc,hoc,hocd⟩:=id z
  refine h { s with heap:=h' } ⟨I.ok,I.os,I.bare,⟨fun b o e n hb hx=>?_,fun b o e n hb hx=>?_,I.base.free,fun b o e hx=>?_,I.base.tups,I.base.frzs,I.base.tbls⟩,⟨m,hn.sameBut hs (Ne.symm (cne x c hc)),fun j y v' e1 e2 e3=>?_⟩,fun y c' e=>?_,I.free,I.freeC,fun p hp=>?_,tracked ⟨oc,hoc,I.freeC x c hc⟩ hs,by simpa using I.len⟩ ⟨c,hs,.inr hc⟩
  ·exact (hs.2 b (Nat.ne_of_lt (Nat.lt_of_lt_of_le (Heap.lt_size e) (I.ok.cab x c hfn hc)))).trans (I.base.keep b o e n hb hx)
  ·obtain ⟨sl,e1⟩:=I.base.slot b o e n hb hx
   exact ⟨sl,(hs.2 b (Nat.ne_of_lt (Nat.lt_of_lt_of_le (Heap.lt_size e) (I.ok.cab x c hfn hc)))).trans e1⟩
  ·obtain ⟨o',e1⟩:=I.base.there b o e hx
   exact ⟨o',(hs.2 b (Nat.ne_of_lt (Nat.lt_of_lt_of_le (Heap.lt_size e) (I.ok.cab x c hfn hc)))).trans e1⟩
  ·by_cases hj:j=i
   ·subst hj
    rw [hi] at e1;cases e1
    rw [List.getElem?_set_self hiσ] at e2
    cases e2
    exact ⟨u,r,.inr ⟨.inl hk,c,hc,hc'⟩⟩
   ·rw [List.getElem?_set_ne (Ne.symm hj)] at e2
    obtain ⟨u',r',q⟩:=hl j y v' e1 e2 e3
    refine ⟨u',r',?_⟩
    rcases q with q | ⟨k,c',e,z'⟩
    ·exact .inl q
    ·refine .inr ⟨k,c',e,z'.sameBut hs ?_⟩
     rintro rfl
     exact hj (wz hN e1 (I.ok.inj _ _ _ e hc ▸ hi))
  ·by_cases hcc:c'=c
   ·subst hcc;exact ⟨_,hc'⟩
   ·obtain ⟨w2,z2⟩:=I.cell y c' e
    exact ⟨w2,z2.sameBut hs hcc⟩
  ·obtain ⟨e,n,ne,nf,d⟩:=I.pin p hp
   refine ⟨(hs.2 p.1 ?_).trans e,n,ne,nf,d⟩
   intro q
   rw [q,hoc] at e
   have q':oc=p.2:=Option.some.inj e
   exact d w' (by rw [←q'];exact hocd)
theorem vX {M:Model}{A:Around}{E:Value→Shared→Prop}{i:Nat}{x:Str}{v:V}{u:Value}{Q:Unit→Shared→Prop}(I:Inv X pins σ H s)(hN:X.N.Nodup)(hi:X.N[i]?=some x)(hx:Loc X.env.scope x)(r:RelV v u)
  (h:∀ s',Inv X pins (σ.set i (some v)) H s'→Q () s') (hf:X.fn x=true∨X.env.scope.names.lookup x=some .local:=by first | exact .inl rfl | exact .inr rfl | assumption):wpAny M A (storeName X.env x u) Q E s:=
 qO I hN hi hx r (fun s' I' _=>h s' I') hf
theorem Inv.call' {s':Shared}{ch:List Addr}(I:Inv X pins σ H s)(ho:s'.os=s.os)(u:Un (frs X.stack) ch H H' s.heap s'.heap)(hok:HOk X.prog X.w H' s'.heap)(hg:AllBare s'.gens)
  (hch:∀ b∈ch,(b∈X.ex∨X.s₀.heap.objs.size≤b)∧b≠X.env.locals∧(∀ x c,X.env.cells.lookup x=some c→c≠b)∧∀ p∈X.pn++pins,p.1≠b):Inv X pins σ H' s':=by
 obtain ⟨h',g',d',t',o'⟩:=s'
 have e:o'=s.os:=ho
 subst e
 exact I.call (g':=g') (t':=t') (d':=d') u hok hg hch
end
abbrev XK:=Value→Option Addr→Hp→Prop
abbrev St:=List (Option V)
abbrev VK:=V→Hp→Prop
abbrev TE:=St→Hp→VK→Prop
abbrev TT:=St→Hp→(Bool→Hp→Prop)→Prop
abbrev TA:=St→Hp→(List V→Hp→Prop)→Prop
structure Ends where
 nx:St→Hp→Prop
 rt:VK
 bk:St→Hp→Prop:=fun _ _=>False
 ct:St→Hp→Prop:=fun _ _=>False
abbrev TS:=Ends→St→Hp→Prop
def EP (X:Cx)(pins:List (Addr×Obj))(σ : St)(Q:VK)(u:Value)(s':Shared):Prop:=∃ v H',Inv X pins σ H' s'∧RelV v u∧Q v H'
def TP (X:Cx)(pins:List (Addr×Obj))(σ : St)(Q:Bool→Hp→Prop)(b:Bool)(s':Shared):Prop:=∃ H',Inv X pins σ H' s'∧Q b H'
def AP (X:Cx)(pins:List (Addr×Obj))(σ : St)(Q:List V→Hp→Prop)(us:List Value)(s':Shared):Prop:=∃ vs H',Inv X pins σ H' s'∧Vals vs us∧Q vs H'
def SP (X:Cx)(pins:List (Addr×Obj))(D:Ends)(f:Flow)(s':Shared):Prop:=
 match f with
 | .next=>∃ σ' H',Inv X pins σ' H' s'∧D.nx σ' H'
 | .brk=>∃ σ' H',Inv X pins σ' H' s'∧D.bk σ' H'
 | .cont=>∃ σ' H',Inv X pins σ' H' s'∧D.ct σ' H'
 | .ret u=>∃ v σ' H',Inv X pins σ' H' s'∧RelV v u∧D.rt v H'
def PE (X:Cx)(e:Expr)(t:TE):Prop:=
 ∀ (pins:List (Addr×Obj)) (s:Shared) (σ : St) (H:Hp) (Q:VK),Inv X pins σ H s→t σ H Q→wpAny (model X.prog X.w) X.A (eval e X.env) (EP X pins σ Q) X.xe s
def PT (X:Cx)(e:Expr)(t:TT):Prop:=
 ∀ (pins:List (Addr×Obj)) (s:Shared) (σ : St) (H:Hp) (Q:Bool→Hp→Prop),Inv X pins σ H s→t σ H Q→wpAny (model X.prog X.w) X.A (isTrue e X.env (eval e X.env)) (TP X pins σ Q) X.xe s
def PW (X:Cx)(e:Expr)(t:TT):Prop:=
 ∀ (whole:Sem Value) (pins:List (Addr×Obj)) (s:Shared) (σ : St) (H:Hp) (Q:Bool→Hp→Prop),Inv X pins σ H s→t σ H Q→wpAny (model X.prog X.w) X.A (isTrue e X.env whole) (TP X pins σ Q) X.xe s
theorem PW.pt {X:Cx}{e:Expr}{t:TT}(h:PW X e t):PT X e t:=h _
def PA (X:Cx)(es:List Expr)(t:TA):Prop:=
 ∀ (pos:Pos) (pins:List (Addr×Obj)) (s:Shared) (σ : St) (H:Hp) (Q:List V→Hp→Prop),Inv X pins σ H s→t σ H Q→wpAny (model X.prog X.w) X.A (spliced (backTo pos (starEach es X.env))) (AP X pins σ Q) X.xe s
def PS (X:Cx)(st:Stmt)(t:TS):Prop:=
 ∀ (pins:List (Addr×Obj)) (s:Shared) (σ : St) (H:Hp) (D:Ends),Inv X pins σ H s→t D σ H→wpAny (model X.prog X.w) X.A (exec st X.env) (SP X pins D) X.xe s
def PSs (X:Cx)(st:List Stmt)(t:TS):Prop:=
 ∀ (pins:List (Addr×Obj)) (s:Shared) (σ : St) (H:Hp) (D:Ends),Inv X pins σ H s→t D σ H→wpAny (model X.prog X.w) X.A (execs st X.env) (SP X pins D) X.xe s
theorem thn {α : Type}{t:Sem α}{Q Q':α→Shared→Prop}{M:Model}{A:Around}{E:Value→Shared→Prop}{s:Shared}(h:wpAny M A t Q E s)(hQ:∀ a s,Q a s→Q' a s):wpAny M A t Q' E s:=wpAny_mono h hQ fun _ _ x=>x
end L2
namespace L2
open PySem PySem.Spec PyProof.Rows
section
variable {X:Cx}
def tVar (i:Nat):TE:=fun σ H Q=>∃ v,σ[i]?=some (some v)∧Q v H
def tC (v:V):TE:=fun _ H Q=>Q v H
theorem pe_var {i:Nat}{x:Str}{pos:Pos}(hN:X.N[i]?=some x)(hv:Vis X.env.scope x)(hd:(x==("__debug__" : Str))=false:=by decide)(hcd:(x==("__classdict__" : Str))=false:=by decide):PE X (.Name x pos) (tVar i):=by
 intro pins s σ H Q I h
 obtain ⟨v,e,h⟩:=h
 obtain ⟨m,hn,hl⟩:=I.loc
 obtain ⟨u,r,l⟩:=hl i x v hN e hv
 have fin:EP X pins σ Q u s:=⟨v,H,I,r,h⟩
 rcases l with ⟨hk,hm⟩ | ⟨hk,c,hc,hcell⟩
 ·exact wpAny_Name (wpAny_loadName_local I.ok.kind hk hn hm fin) hd
 ·rcases hk with hk | hk
  ·exact wpAny_Name (wpAny_loadName_cell I.ok.kind hk hc hcell fin) hd
  ·exact wpAny_Name (wpAny_loadName_free I.ok.kind hk hc hcell fin hcd) hd
theorem pe_int {i j pos}:PE X (.Constant (.int i) j pos) (tC (.int i)):=fun _ _ _ H _ I h=>wpAny_Constant_int ⟨.int i,H,I.tok _,⟨_,rfl⟩,h⟩
theorem pe_bl {b j pos}:PE X (.Constant (.bool b) j pos) (tC (.bl b)):=fun _ _ _ H _ I h=>Constant_bool ⟨.bl b,H,I,rfl,h⟩
def Gl (X:Cx)(x:Str):Prop:=X.env.kindOf x=some .globalImplicit
theorem ld_glob {E:Value→Shared→Prop}{pins:List (Addr×Obj)}{s:Shared}{σ : St}{H:Hp}{x:Str}{u:Value}{pos:Pos}{Q:Value→Shared→Prop}(I:Inv X pins σ H s)(hg:Gl X x)(hm:X.mg x=some u)(h:Q u s)
  (hd:(x==("__debug__" : Str))=false:=by decide):wpAny (model X.prog X.w) X.A (eval (.Name x pos) X.env) Q E s:=
 Calls.Name_function_global I.ok.kind hg (Calls.loadGlobal_global (by rw [I.ok.glob];exact I.mod.glob.keeps I.bk) hm h) hd
theorem jU {E:Value→Shared→Prop}{pins:List (Addr×Obj)}{s:Shared}{σ : St}{H:Hp}{x:Str}{u:Value}{pos:Pos}{Q:Value→Shared→Prop}(I:Inv X pins σ H s)(hg:Gl X x)(hm:X.mg x=none)(hv:bootBuiltins x=some u)(h:Q u s)
  (hn:x ≠ "__name__":=by decide) (hd:(x==("__debug__" : Str))=false:=by decide):wpAny (model X.prog X.w) X.A (eval (.Name x pos) X.env) Q E s:=by
 obtain ⟨mb,h1,h2⟩:=I.mod.blt
 exact Calls.Name_function_global I.ok.kind hg (Calls.loadGlobal_builtin (by rw [I.ok.glob];exact I.mod.glob.keeps I.bk) hm (by rw [I.ok.blt];exact h1.keeps I.bk) ((h2 x hn).trans hv) h) hd
theorem jJ {x:Str}{v:V}{u:Value}{pos:Pos}(hg:Gl X x)(hm:X.mg x=some u)(r:RelV v u)(hd:(x==("__debug__" : Str))=false:=by decide):PE X (.Name x pos) (tC v):=
 fun _ _ _ H _ I h=>ld_glob I hg hm ⟨v,H,I,r,h⟩ hd
variable {a b:Expr}{ta tb:TE}{pos:Pos}
variable {tA tB':TT}{rest:List Expr}
def tOr (t u:TT):TT:=fun σ H Q=>t σ H fun c H1=>if c=true then Q true H1 else u σ H1 Q
theorem pw_or1 (ha:PT X a tA):PW X (.BoolOp .Or [a] pos) tA:=by
 intro wh pins s σ H Q I h
 refine isTrue_or (thn (ha pins s σ H Q I h) fun c s1 e=>?_)
 cases c with
 | false=>exact isTrue_or_nil e
 | true=>exact e
theorem pw_or (ha:PT X a tA)(hb:PW X (.BoolOp .Or (b::rest) pos) tB'):PW X (.BoolOp .Or (a::b::rest) pos) (tOr tA tB'):=by
 intro wh pins s σ H Q I h
 refine isTrue_or (thn (ha pins s σ H _ I h) fun c s1 ⟨H1,I1,q1⟩=>?_)
 cases c with
 | true=>exact ⟨H1,I1,q1⟩
 | false=>exact hb wh pins s1 σ H1 Q I1 q1
def tIf (t:TT)(ta tb:TE):TE:=fun σ H Q=>t σ H fun c H1=>if c=true then ta σ H1 Q else tb σ H1 Q
theorem pe_ifExp {c:Expr}(hc:PT X c tA)(ha:PE X a ta)(hb:PE X b tb):PE X (.IfExp c a b pos) (tIf tA ta tb):=by
 intro pins s σ H Q I h
 refine wpAny_IfExp (thn (hc pins s σ H _ I h) fun d s1 ⟨H1,I1,q1⟩=>?_)
 cases d with
 | true=>exact ha pins s1 σ H1 Q I1 q1
 | false=>exact hb pins s1 σ H1 Q I1 q1
end
end L2
namespace L2
open PySem PySem.Spec PyProof.Rows
def SqL (K:PySem.W.Frag)(H:Hp)(a:Addr)(xs:List V):Prop:=
 Rd H a (.lst xs) ∨
  ∃ (o:Obj) (its:Array Value) (n:Nat),K.lookup a=some o∧o.cls=.type "list"∧o.dict=none∧o.data=.seq its n∧its.size≤sizeLine∧Vals xs its.toList
def SqT (K:PySem.W.Frag)(H:Hp)(a:Addr)(xs:List V):Prop:=
 Rd H a (.tup xs) ∨
  ∃ (o:Obj) (its:Array Value) (n:Nat),K.lookup a=some o∧o.cls=.type "tuple"∧o.data=.seq its n∧its.size≤sizeLine∧Vals xs its.toList∧o.dict=none
def absV:Value→Option V
 | .none=>some .non
 | .bool b=>some (.bl b)
 | .int i _=>some (.int i)
 | .str x _=>some (.str x)
 | .bytes b _=>some (.byt b)
 | .float b _=>some (.flt b)
 | .ref a=>some (.ref a)
 | .type n=>some (.ty n)
 | _=>none
theorem RelV.abs {x:V}{u:Value}(r:RelV x u):absV u=some x:=by
 cases x with
 | non=>cases r;rfl
 | bl _=>cases r;rfl
 | int _=>obtain ⟨t,rfl⟩:=r;rfl
 | str _=>obtain ⟨t,rfl⟩:=r;rfl
 | byt _=>obtain ⟨t,rfl⟩:=r;rfl
 | flt _=>obtain ⟨t,rfl⟩:=r;rfl
 | ref _=>cases r;rfl
 | ty _=>cases r;rfl
theorem RelV.inj {x y:V}{u:Value}(r:RelV x u)(q:RelV y u):x=y:=Option.some.inj (r.abs.symm.trans q.abs)
theorem Vals.inj:∀ {xs ys:List V} {us:List Value},Vals xs us→Vals ys us→xs=ys
 | _,_,_,.nil,.nil=>rfl
 | _,_,_,.cons r t,.cons r' t'=>by rw [r.inj r',Vals.inj t t']
section
variable {X:Cx}{pins:List (Addr×Obj)}{σ : St}{H:Hp}{s:Shared}{a:Addr}{xs ys:List V}
theorem SqL.of {K:PySem.W.Frag}(h:H a=some (.lst xs)):SqL K H a xs:=.inl (.inl h)
theorem SqT.of {K:PySem.W.Frag}(h:H a=some (.tup xs)):SqT K H a xs:=.inl (.inl h)
theorem Inv.list (I:Inv X pins σ H s)(h:SqL X.K H a xs):∃ its:List Value,Vals xs its∧PlainL s.heap a its.toArray∧xs.length≤sizeLine:=by
 rcases h with h | ⟨o,its,n,hk,hc,hd,hs,hz,r⟩
 ·obtain ⟨z,its,n,r,e⟩:=h.ok I.hok
  exact ⟨its,r,⟨_,n,e,rfl,rfl,rfl⟩,z⟩
 ·refine ⟨its.toList,r,⟨o,n,I.kIn a o hk,hc,hd,by simpa using hs⟩,?_⟩
  have e:=r.length
  simp only [Array.length_toList] at e
  omega
theorem Inv.tupO (I:Inv X pins σ H s)(h:SqT X.K H a xs):∃ its:List Value,Vals xs its∧TupO s.heap a its.toArray∧xs.length≤sizeLine:=by
 rcases h with h | ⟨o,its,n,hk,hc,hs,hz,r,hd⟩
 ·obtain ⟨z,its,r,p⟩:=h.ok I.hok
  exact ⟨its,r,p,z⟩
 ·refine ⟨its.toList,r,⟨o,I.kIn a o hk,hc,⟨n,by simpa using hs⟩,hd⟩,?_⟩
  have e:=r.length
  simp only [Array.length_toList] at e
  omega
theorem Inv.tuple (I:Inv X pins σ H s)(h:SqT X.K H a xs):∃ its:List Value,Vals xs its∧IsTup s.heap a its.toArray∧xs.length≤sizeLine:=let ⟨its,r,p,z⟩:=I.tupO h;⟨its,r,p.tup,z⟩
theorem Inv.list_inj (I:Inv X pins σ H s)(h:SqL X.K H a xs)(h':SqL X.K H a ys):xs=ys:=by
 obtain ⟨its,r,⟨o,n,e,_,_,d⟩,_⟩:=I.list h
 obtain ⟨its',r',⟨o',n',e',_,_,d'⟩,_⟩:=I.list h'
 rw [e] at e';cases e'
 rw [d] at d'
 injection d' with d1 _
 have:its=its':=by simpa using congrArg Array.toList d1
 subst this
 exact r.inj r'
theorem Inv.tuple_inj (I:Inv X pins σ H s)(h:SqT X.K H a xs)(h':SqT X.K H a ys):xs=ys:=by
 obtain ⟨its,r,⟨o,e,_,n,d⟩,_⟩:=I.tuple h
 obtain ⟨its',r',⟨o',e',_,n',d'⟩,_⟩:=I.tuple h'
 rw [e] at e';cases e'
 rw [d] at d'
 injection d' with d1 _
 have:its=its':=by simpa using congrArg Array.toList d1
 subst this
 exact r.inj r'
end
abbrev Cx.wish (X:Cx)(E:Value→Shared→Prop):Cx:={ X with xe:=E }
abbrev Cx.nox (X:Cx):Cx:=X.wish fun _ _=>False
theorem Cx.Ok.wish {X:Cx}(ok:X.Ok)(E:Value→Shared→Prop):(X.wish E).Ok:=
 ⟨ok.mod,ok.kind,ok.glob,ok.blt,ok.above,ok.inj,ok.has,ok.cab,ok.hd,ok.qt,ok.frames,ok.stk,ok.exf,ok.bs,ok.bsz,ok.noex,ok.exfs,ok.funs,ok.frf⟩
theorem Cx.Ok.unwish {X:Cx}{E:Value→Shared→Prop}(ok:(X.wish E).Ok):X.Ok:=
 ⟨ok.mod,ok.kind,ok.glob,ok.blt,ok.above,ok.inj,ok.has,ok.cab,ok.hd,ok.qt,ok.frames,ok.stk,ok.exf,ok.bs,ok.bsz,ok.noex,ok.exfs,ok.funs,ok.frf⟩
section
variable {X:Cx}{pins:List (Addr×Obj)}{σ : St}{H:Hp}{s:Shared}{E:Value→Shared→Prop}
theorem Inv.wish (I:Inv X pins σ H s)(E:Value→Shared→Prop):Inv (X.wish E) pins σ H s:=⟨I.ok.wish E,I.os,I.bare,I.base,I.loc,I.cell,I.free,I.freeC,I.pin,I.hok,I.len⟩
theorem Inv.unwish (I:Inv (X.wish E) pins σ H s):Inv X pins σ H s:=⟨I.ok.unwish,I.os,I.bare,I.base,I.loc,I.cell,I.free,I.freeC,I.pin,I.hok,I.len⟩
theorem SP.unwish {D:Ends}{f:Flow}{s':Shared}(h:SP (X.wish E) pins D f s'):SP X pins D f s':=by
 cases f with
 | next=>obtain ⟨σ',H',I,q⟩:=h;exact ⟨σ',H',I.unwish,q⟩
 | brk=>obtain ⟨σ',H',I,q⟩:=h;exact ⟨σ',H',I.unwish,q⟩
 | cont=>obtain ⟨σ',H',I,q⟩:=h;exact ⟨σ',H',I.unwish,q⟩
 | ret u=>obtain ⟨v,σ',H',I,r,q⟩:=h;exact ⟨v,σ',H',I.unwish,r,q⟩
theorem PSs.nox {st:List Stmt}{t:TS}(h:PSs X.nox st t):PSs X st t:=fun pins s σ H D I hw=>
 wpAny_mono (h pins s σ H D (I.wish _) hw) (fun _ _ q=>q.unwish) fun _ _ z=>False.elim z
end
section
variable {X:Cx}{st:Stmt}{rest:List Stmt}{t u:TS}{e:Expr}{te:TE}{pos:Pos}
def tNext:TS:=fun D σ H=>D.nx σ H
def tSeq (t u:TS):TS:=fun D σ H=>t { D with nx:=u D } σ H
theorem pss_nil:PSs X [] tNext:=fun _ _ σ H _ I h=>wpAny_execs_nil ⟨σ,H,I,h⟩
theorem pss_cons (h1:PS X st t)(h2:PSs X rest u):PSs X (st::rest) (tSeq t u):=by
 intro pins s σ H D I h
 refine wpAny_execs_cons (thn (h1 pins s σ H { D with nx:=u D } I h) fun f s1 q=>?_)
 cases f with
 | next=>
  obtain ⟨σ',H',I',q⟩:=q
  exact h2 pins s1 σ' H' D I' q
 | ret v=>exact q
 | brk=>exact q
 | cont=>exact q
theorem pss_one (h1:PS X st t):PSs X [st] t:=by
 intro pins s σ H D I h
 refine wpAny_execs_cons (thn (h1 pins s σ H D I h) fun f s1 q=>?_)
 cases f with
 | next=>exact wpAny_execs_nil q
 | ret v=>exact q
 | brk=>exact q
 | cont=>exact q
theorem Inv.quiet {pins:List (Addr×Obj)}{σ : St}{H:Hp}{s:Shared}(I:Inv X pins σ H s):interactive X.env=false:=by simp [interactive,I.ok.kind]
def tDrop (te:TE):TS:=fun D σ H=>te σ H fun _ H1=>D.nx σ H1
theorem ps_expr (he:PE X e te)(hs:swapsWith e none pos.line X.env=pure false:=by rfl):PS X (.Expr e pos) (tDrop te):=by
 intro pins s σ H D I h
 exact wpAny_Expr_any (thn (he pins s σ H _ I h) fun v s1 ⟨x,H1,I1,r1,q1⟩=>⟨σ,H1,I1,q1⟩) I.quiet hs
def tRet (te:TE):TS:=fun D σ H=>te σ H D.rt
theorem ps_ret (he:PE X e te):PS X (.Return (some e) pos) (tRet te):=by
 intro pins s σ H D I h
 exact wpAny_Return_some (thn (he pins s σ H _ I h) fun v s1 ⟨x,H1,I1,r1,q1⟩=>⟨x,σ,H1,I1,r1,q1⟩)
def tIfS (c:TT)(t u:TS):TS:=fun D σ H=>c σ H fun b H1=>if b=true then t D σ H1 else u D σ H1
theorem ps_if {c:Expr}{a b:List Stmt}{tc:TT}(hc:PT X c tc)(ha:PSs X a t)(hb:PSs X b u):PS X (.If c a b pos) (tIfS tc t u):=by
 intro pins s σ H D I h
 refine wpAny_If (thn (hc pins s σ H _ I h) fun d s1 ⟨H1,I1,q1⟩=>?_)
 cases d with
 | true=>exact ha pins s1 σ H1 D I1 q1
 | false=>exact hb pins s1 σ H1 D I1 q1
def tNever:TS:=fun _ _ _=>False
theorem ps_never:PS X st tNever:=fun _ _ _ _ _ _ h=>h.elim
end
abbrev TG:=V→St→Hp→(St→Hp→Prop)→Prop
abbrev TGs:=List V→St→Hp→(St→Hp→Prop)→Prop
def PG (X:Cx)(target:Expr)(t:TG):Prop:=
 ∀ (pins:List (Addr×Obj)) (s:Shared) (σ : St) (H:Hp) (v:V) (u:Value) (Q:St→Hp→Prop),Inv X pins σ H s→RelV v u→t v σ H Q →
  wpAny (model X.prog X.w) X.A (assign target X.env u) (fun _ s'=>∃ σ' H',Inv X pins σ' H' s'∧Q σ' H') X.xe s
def PGs (X:Cx)(ts:List Expr)(t:TGs):Prop:=
 ∀ (pins:List (Addr×Obj)) (s:Shared) (σ : St) (H:Hp) (vs:List V) (us:List Value) (Q:St→Hp→Prop),Inv X pins σ H s→Vals vs us→t vs σ H Q →
  wpAny (model X.prog X.w) X.A (assignInOrder ((assignEach ts X.env).map (·.2)) us) (fun _ s'=>∃ σ' H',Inv X pins σ' H' s'∧Q σ' H') X.xe s
abbrev TSet:=V→V→V→Hp→(Hp→Prop)→Prop
def PSet (X:Cx)(t:TSet):Prop:=
 ∀ (pins:List (Addr×Obj)) (s:Shared) (σ : St) (H:Hp) (o i v:V) (ov iv u:Value) (Q:Hp→Prop),Inv X pins σ H s→RelV o ov→RelV i iv→RelV v u→t o i v H Q →
  wpAny (model X.prog X.w) X.A (setItem ov iv u) (fun _ s'=>∃ H',Inv X pins σ H' s'∧Q H') X.xe s
section
variable {X:Cx}{pos:Pos}
def gName (i:Nat):TG:=fun v σ H Q=>Q (σ.set i (some v)) H
theorem aW {i:Nat}{x:Str}(hN:X.N.Nodup)(hi:X.N[i]?=some x)(hx:Loc X.env.scope x)(hf:X.fn x=true∨X.env.scope.names.lookup x=some .local:=by first | exact .inl rfl | exact .inr rfl | assumption):PG X (.Name x pos) (gName i):=by
 intro pins s σ H v u Q I r h
 exact wpAny_assign_Name (vX I hN hi hx r (fun s' I'=>⟨_,H,I',h⟩) hf)
def gNil:TGs:=fun vs σ H Q=>vs=[]∧Q σ H
def gCons (t:TG)(u:TGs):TGs:=fun vs σ H Q=>∃ v r,vs=v::r∧t v σ H fun σ' H'=>u r σ' H' Q
theorem zF:PGs X [] gNil:=by
 intro pins s σ H vs us Q I r h
 obtain ⟨e,h⟩:=h
 subst e
 cases r
 exact assignInOrder_nil ⟨σ,H,I,h⟩
theorem qI {e:Expr}{es:List Expr}{t:TG}{u:TGs}(h1:PG X e t)(h2:PGs X es u)
  (hs:(assignEach (e::es) X.env).map (·.2)=assign e X.env::(assignEach es X.env).map (·.2):=by rfl):PGs X (e::es) (gCons t u):=by
 intro pins s σ H vs us Q I r h
 obtain ⟨v,vr,e1,h⟩:=h
 subst e1
 cases r with
 | cons r rr=>
  rw [hs]
  refine assignInOrder_cons (thn (h1 pins s σ H _ _ _ I r h) fun _ s1 ⟨σ1,H1,I1,q1⟩=>?_)
  exact h2 pins s1 σ1 H1 _ _ Q I1 rr q1
def gTup (K:PySem.W.Frag)(n:Nat)(t:TGs):TG:=fun v σ H Q=>∃ a xs,v=.ref a∧SqT K H a xs∧xs.length=n∧t xs σ H Q
theorem pg_tup {es:List Expr}{k:Nat}{t:TGs}{n:Nat}(hc:X.calm=true)(h:PGs X es t)
  (hn:(assignEach es X.env).length=n:=by rfl) (hst:(assignEach es X.env).findIdx? (·.1)=none:=by rfl):PG X (.Tuple es k pos) (gTup X.K n t):=by
 intro pins s σ H v u Q I r hw
 obtain ⟨a,xs,e1,hq,hl,hw⟩:=hw
 subst e1
 cases r
 obtain ⟨its,rv,ht,hz⟩:=I.tuple hq
 refine assign_Tuple_tuple (I.ok.hd hc) ht (by simp [hn,←hl,rv.length]) hst fun h' hx=>?_
 have I1:Inv X pins σ H { s with heap:=h' }:=I.kept (t':=s.toks) fun b o e=>hx b o (Nat.ne_of_lt (Heap.lt_size e)) e
 exact h pins _ σ H xs _ Q I1 (by simpa using rv) hw
def gSub (to ti:TE)(t:TSet):TG:=fun v σ H Q=>to σ H fun o H1=>ti σ H1 fun i H2=>t o i v H2 fun H3=>Q σ H3
theorem pg_sub {o i:Expr}{to ti:TE}{t:TSet}(ho:PE X o to)(hi:PE X i ti)(hs:PSet X t)
  (ha:∀ v,assign (.Subscript o i pos) X.env v=(do
   let ov ←holding [v] (eval o X.env)
   let iv ←holding [v,ov] (eval i X.env)
   standAt pos
   holding [v,ov,iv] (setItem ov iv v)
   release [v,ov,iv] []):=by intro _;rfl):PG X (.Subscript o i pos) (gSub to ti t):=by
 intro pins s σ H v u Q I r h
 rw [ha]
 refine wpAny_bind (wpAny_holding (thn (ho pins s σ H _ I h) fun ov s1 ⟨x,H1,I1,r1,q1⟩=>?_))
 refine wpAny_bind (wpAny_holding (thn (hi pins s1 σ H1 _ I1 q1) fun iv s2 ⟨y,H2,I2,r2,q2⟩=>?_))
 refine wpAny_bind (wpAny_standAt (wpAny_bind (wpAny_holding (thn (hs pins s2 σ H2 x y v ov iv u _ I2 r1 r2 r q2) fun _ s3 ⟨H3,I3,q3⟩=>?_))))
 exact wpAny_release ⟨σ,H3,I3,q3⟩
def tAsg (te:TE)(g:TG):TS:=fun D σ H=>te σ H fun x H1=>g x σ H1 D.nx
theorem ps_asg {tg e:Expr}{te:TE}{g:TG}(he:PE X e te)(hg:PG X tg g)(hs:swapsWithSole [tg] e pos.line X.env=pure false:=by rfl)(hw:swappedStores [tg] e X.env=pure none:=by rfl)
  (h1:(assignEach [tg] X.env).map (·.2)=[assign tg X.env]:=by rfl):PS X (.Assign [tg] e pos) (tAsg te g):=by
 intro pins s σ H D I h
 refine wpAny_Assign_stores (thn (he pins s σ H _ I h) fun v s1 ⟨x,H1,I1,r1,q1⟩=>?_) hs hw
 rw [h1]
 exact thn (hg pins s1 σ H1 x v _ I1 r1 q1) fun _ s2 q=>q
theorem ps_set {i:Nat}{x:Str}{e:Expr}{te:TE}{pos':Pos}(hN:X.N.Nodup)(hi:X.N[i]?=some x)(hx:Loc X.env.scope x)(he:PE X e te)(hs:swapsWith e (some (.Name x pos')) pos.line X.env=pure false:=by rfl)(hf:X.fn x=true∨X.env.scope.names.lookup x=some .local:=by first | exact .inl rfl | exact .inr rfl | assumption) :
  PS X (.Assign [.Name x pos'] e pos) (tAsg te (gName i)):=by
 intro pins s σ H D I h
 refine wpAny_Assign_Name (thn (he pins s σ H _ I h) fun v s1 ⟨y,H1,I1,r1,q1⟩=>?_) hs
 exact vX I1 hN hi hx r1 (fun s2 I2=>⟨_,H1,I2,q1⟩) hf
end
section
variable {X:Cx}{pos:Pos}
end
theorem qF:entryFor table "proto.unchain" = some Builtin.«proto.unchain»:=entryFor_of_tree (by kernel_rfl)
def tR (A:Around)(h:Heap):Prop:=∀ v,A.handled=some v→∃ (a:Addr) (o:Obj) (vs:Array Value),v=.ref a∧h.get? a=some o∧o.data=.fields vs∧vs[2]?=some .none
theorem xT {A:Around}{P:Program}{w:World}{H:Hp}{h:Heap}(q:Quiet A H)(x:HOk P w H h):tR A h:=fun v e=>by
 obtain ⟨a,o,u,vs,h1,h2,h3,h4⟩:=q v e
 exact ⟨a,o,vs,h1,(x a _ h2).1,h3,h4⟩
theorem xU {α : Type}{prog:Program}{w:World}{A:Around}{E:Value→Shared→Prop}{s:Shared}{e:Addr}{oe:Obj}{ws:Array Value}{Q:α→Shared→Prop}(hq:tR A s.heap)(he:s.heap.get? e=some oe)(hd:oe.data=.fields ws)(hz:2<ws.size)(hne:∀ v,A.handled=some v→v≠.ref e)
  (h:∀ h',(∀ b,b≠e→h'.get? b=s.heap.get? b)→(∃ o',h'.get? e=some o'∧o'.cls=oe.cls)→E (.ref e) { s with heap:=h' }):wpAny (model prog w) A (raiseNew (.ref e):Sem α) Q E s:=by
 unfold raiseNew
 refine wpAny_bind (wpAny_handled ?_)
 cases hh:A.handled with
 | none=>
  dsimp only
  refine wpAny_bind (wpAny_pure (wpAny_throw ?_))
  exact h s.heap (fun _ _=>rfl) ⟨oe,he,rfl⟩
 | some v=>
  obtain ⟨a,o,vs,rfl,ho,hdo,h2⟩:=hq v hh
  dsimp only
  have ne:(Value.ref a != Value.ref e)=true:=by
   have:=hne _ hh
   simp only [bne_iff_ne,ne_eq]
   exact this
  rw [if_pos ne]
  refine wpAny_bind (wpAny_holding (wpAny_runValue (codeAny_builtin qF ?_)))
  unfold Builtin.«proto.unchain»
  dsimp only
  refine wpAny_bind (wpAny_field ho hdo h2 ?_)
  rw [if_pos (show (Value.none==Value.none)=true from rfl)]
  refine wpAny_bind (wpAny_pure (wpAny_pure ?_))
  dsimp only
  refine wpAny_bind ?_
  unfold updateField
  refine wpAny_bind (wpAny_load he ?_)
  rw [hd]
  dsimp only
  rw [if_pos hz]
  refine wpAny_update he (wpAny_throw ?_)
  have hd3:=Obj.data_mapFields hd (·.setIfInBounds 2 (Value.ref a))
  exact h _ (fun b hb=>Heap.get?_update_other _ _ (Ne.symm hb)) ⟨_,Heap.get?_update_self _ he (Obj.isFreed_of_fields hd3),Obj.cls_mapFields _ _⟩
theorem zT {prog:Program}{w:World}{A:Around}{E:Value→Shared→Prop}{s:Shared}{it:Addr}{x left step:Int}{Q:Option Value→Shared→Prop}(hh:tR A s.heap)(hit:IsRangeIter s.heap it x left step)(hleft:left≤0)
  (hQ:∀ h',Heap.ExtBut it s.heap h'→Q none { s with heap:=h' }):wpAny (model prog w) A (pyNext (.ref it)) Q E s:=by
 have hT:s.TypeIs (.ref it) "range_iterator":=⟨_,hit,rfl⟩
 unfold pyNext
 refine wpAny_bind (wpAny_attempt (wpAny_callSpecial?_slot (name:=Str.ofString "__next__") hT F.slot_range_iterator_next
  (wpAny_call_entry F.slot_range_iterator_next hT F.entry_range_iterator_next ?_ (F.args_range_iterator_next_1 _))))
 show wpAny _ _ (field (.ref it) 0 >>= _) _ _ s
 refine wpAny_bind (wpAny_field hit rfl (x:=rawInt x) rfl ?_)
 show wpAny _ _ (field (.ref it) 1 >>= _) _ _ s
 refine wpAny_bind (wpAny_field hit rfl (x:=rawInt left) rfl ?_)
 show wpAny _ _ (field (.ref it) 2 >>= _) _ _ s
 refine wpAny_bind (wpAny_field hit rfl (x:=rawInt step) rfl ?_)
 show wpAny _ _ (if left≤0 then _ else _) _ _ s
 rw [if_pos hleft]
 refine wpAny_bind (wpAny_rule ?_)
 refine wpAny_bind ?_
 show wpAny _ _ (newExc (.type "StopIteration") [] >>= _) _ _ _
 refine wpAny_bind ?_
 simp only [newExc,newTuple]
 refine wpAny_bind (wpAny_newObj_type ?_ (by size_fits))
 refine wpAny_bind (m:=firstArgMember _ _) (wpAny_of_eq (a:=Value.none) (by first | rfl | (simp only [firstArgMember];rfl)) ?_)
 refine wpAny_newObj_type ?_ (by size_fits)
 refine xU (A:=A.in1) (fun v e=>?_) (Heap.get?_push_size _ rfl) rfl (by simp;omega) (fun v e=>?_) fun h' h1 ⟨o',h2,h3⟩=>?_
 ·obtain ⟨a,o,vs,r1,r2,r3⟩:=hh v e
  exact ⟨a,o,vs,r1,Heap.get?_push_of_some _ (Heap.get?_push_of_some _ r2),r3⟩
 ·obtain ⟨a,o,vs,r1,r2,r3⟩:=hh v e
  rw [r1]
  intro q
  have q:a=_:=Value.ref.inj q
  have:=Heap.lt_size r2
  rw [q] at this
  exact absurd this (Nat.not_lt.mpr (by simp [Heap.push]))
 refine wpAny_bind (wpAny_isInstance (T := "StopIteration") (b:=true) ⟨_,h2,h3⟩ isSubtype_stop ?_)
 refine wpAny_pure (hQ _ fun b o hb e=>?_)
 rw [h1 b ?_]
 ·exact Heap.get?_push_of_some _ (Heap.get?_push_of_some _ e)
 ·have:=Heap.lt_size e
  exact Nat.ne_of_lt (Nat.lt_of_lt_of_le this (by simp [Heap.push]))
structure It where
 go:Nat→Hp→Prop
 yld:Nat→Hp→V→Hp→Prop
 stop:Nat→Hp→Prop
 cm:Bool
def xZ (X:Cx)(pins:List (Addr×Obj))(H:Hp)(b:Addr):Prop:=
 H b=none∧b≠X.env.locals∧b∉X.fs∧(b∈X.ex∨X.s₀.heap.objs.size≤b)∧(∀ x c,X.env.cells.lookup x=some c→c≠b)∧∀ p∈X.pn++pins,p.1≠b
theorem Inv.fpOk {X:Cx}{pins:List (Addr×Obj)}{σ : St}{H H':Hp}{s:Shared}{b:Addr}(I:Inv X pins σ H s)(hb:s.heap.objs.size≤b)(hn:H' b=none):xZ X pins H' b:=by
 refine ⟨hn,Nat.ne_of_gt (Nat.lt_of_lt_of_le I.lt hb),I.nofs hb,.inr (Nat.le_trans I.sz hb),fun x c e z=>?_,fun p hp z=>?_⟩
 ·obtain ⟨v,q⟩:=I.cell x c e
  exact absurd (Nat.lt_of_lt_of_le q.lt (by rw [z];exact hb)) (Nat.lt_irrefl _)
 ·exact absurd (Nat.lt_of_lt_of_le (Heap.lt_size (I.pin p hp).1) (by rw [z];exact hb)) (Nat.lt_irrefl _)
structure Turn (P:Program) (w:World) (K:PySem.W.Frag) (tg:Expr) (J:It) (fp:List Addr) (it:Addr) (tn:Nat→Heap→Prop):Prop where
 mem:it∈fp
 obj:∀ i h,tn i h→∀ b∈fp,∃ o,h.get? b=some o∧∀ v,o.data≠.cell v
 keep:∀ i h h',tn i h→(∀ b∈fp,∀ o,h.get? b=some o→h'.get? b=some o)→tn i h'
 item:∀ (X:Cx),X.prog=P→X.w=w→X.K=K→(J.cm=true→X.calm=true)→∀ (i:Nat) (pins:List (Addr×Obj)) (s:Shared) (σ : St) (H:Hp) (E:Value→Shared→Prop),Inv X pins σ H s→(∀ b∈fp,xZ X pins H b)→tn i s.heap→J.go i H →
  wpAny (model P w) X.A (pyNext (.ref it)) (fun r s1=>∃ u,r=some u ∧
   wpAny (model P w) X.A (letOwnedTupleGo tg (.ref it) u) (fun _ s2=>∃ x H',Inv X pins σ H' s2∧RelV x u∧J.yld i H x H'∧tn (i+1) s2.heap∧∀ b∈fp,H' b=none) E s1) E s
 done:∀ (X:Cx),X.prog=P→X.w=w→X.K=K→(J.cm=true→X.calm=true)→∀ (i:Nat) (pins:List (Addr×Obj)) (s:Shared) (σ : St) (H:Hp) (E:Value→Shared→Prop),Inv X pins σ H s→(∀ b∈fp,xZ X pins H b)→tn i s.heap→J.stop i H →
  wpAny (model P w) X.A (pyNext (.ref it)) (fun r s1=>r=none∧Inv X pins σ H s1) E s
 self:∀ (A:Around) (i:Nat) (s:Shared) (Q:Value→Shared→Prop) (E:Value→Shared→Prop),tn i s.heap→Q (.ref it) s→wpAny (model P w) A (pyIter (.ref it)) Q E s
abbrev TI:=St→Hp→(It→Hp→Prop)→Prop
def PIE (X:Cx)(pins:List (Addr×Obj))(σ : St)(tg:Expr)(R:It→Hp→Prop)(itv:Value)(s2:Shared):Prop:=
 ∃ (it:Addr) (fp:List Addr) (tn:Nat→Heap→Prop) (J:It) (H':Hp),itv=.ref it∧Inv X pins σ H' s2∧Turn X.prog X.w X.K tg J fp it tn∧tn 0 s2.heap∧(∀ b∈fp,xZ X pins H' b)∧R J H'
def PI (X:Cx)(tg iter:Expr)(wi:TI):Prop:=
 ∀ (pins:List (Addr×Obj)) (s:Shared) (σ : St) (H:Hp) (R:It→Hp→Prop),Inv X pins σ H s→wi σ H R →
  wpAny (model X.prog X.w) X.A (eval iter X.env) (fun v s1=>wpAny (model X.prog X.w) X.A (pyIter v) (PIE X pins σ tg R) X.xe s1) X.xe s
theorem go_of {M:Model}{A:Around}{E:Value→Shared→Prop}{s:Shared}{tg:Expr}{it:Addr}{u:Value}{o:Obj}{n:String}{vs:Array Value}{Q:Unit→Shared→Prop}(ho:s.heap.get? it=some o)(hc:o.cls=.type n)(hd:o.data=.fields vs)
    (hn:["enumerate", "zip", "dict_itemiterator", "dict_reverseitemiterator", "odict_iterator", "itertools.zip_longest", "itertools.pairwise"].contains n=false) (hQ:Q () s):wpAny M A (letOwnedTupleGo tg (.ref it) u) Q E s:=by
  unfold letOwnedTupleGo
  cases tg <;> first
    | exact wpAny_pure hQ
    | (cases u <;> first
        | exact wpAny_pure hQ
        | (refine wpAny_bind (wpAny_load ho ?_)
           rw [hc,hd]
           show wpAny M A (if (["enumerate", "zip", "dict_itemiterator", "dict_reverseitemiterator", "odict_iterator", "itertools.zip_longest", "itertools.pairwise"].contains n&&vs[0]?==some (rawInt _))=true then _ else _) Q E s
           rw [if_neg (by intro h;rw [hn,Bool.false_and] at h;cases h)]
           exact wpAny_pure hQ))
def Itl (K:PySem.W.Frag)(a:Addr):It:=
 ⟨fun i H=>∃ xs x,SqL K H a xs∧xs[i]?=some x,fun i H x H'=>H'=H∧∀ xs,SqL K H a xs→xs[i]?=some x,fun i H=>∃ xs,SqL K H a xs∧xs.length≤i,true⟩
def Itt (K:PySem.W.Frag)(a:Addr):It:=
 ⟨fun i H=>∃ xs x,SqT K H a xs∧xs[i]?=some x,fun i H x H'=>H'=H∧∀ xs,SqT K H a xs→xs[i]?=some x,fun i H=>∃ xs,SqT K H a xs∧xs.length≤i,true⟩
def Itr (lo:Int)(n:Nat):It:=⟨fun i _=>i<n,fun i H x H'=>H'=H∧x=.int (lo+i),fun i _=>n≤i,false⟩
theorem zA {P:Program}{w:World}{K:PySem.W.Frag}{tg:Expr}(a it:Addr):Turn P w K tg (Itl K a) [it] it (fun i h=>h.IsListIter it a i) where
 mem:=by simp
 obj:=fun i h st b hb=>by
  have e:b=it:=by simpa using hb
  subst e
  obtain ⟨o,e,c,d⟩:=st
  exact ⟨o,e,fun v z=>by rw [d] at z;cases z⟩
 keep:=fun i h h' st k=>st.at fun o e=>k it (by simp) o e
 item:=by
  intro X hP hw hK hc i pins s σ H E I hf st hg
  subst hP hw hK
  obtain ⟨xs,x,hq,hx⟩:=hg
  obtain ⟨its,rv,p,hz⟩:=I.list hq
  obtain ⟨u,hu,ru⟩:=rv.get hx
  obtain ⟨f0,f1,f2,f3,f4,f5⟩:=hf it (by simp)
  refine wpAny_pyNext_list_item st p.isList (x:=u) (by simpa using hu) fun h' st' sb=>?_
  have I1:Inv X pins σ H { s with heap:=h' }:=I.turned (t':=s.toks) (fun b o hb e=>(sb.2 b hb).trans e) f0 f1 f3 f4 f5
  obtain ⟨o,e,c,d⟩:=id st'
  exact ⟨u,rfl,go_of (s:={ s with heap:=h' }) e c d (by decide) ⟨x,H,I1,ru,⟨rfl,fun ys hy=>by rw [I.list_inj hy hq];exact hx⟩,st',fun b hb=>(hf b hb).1⟩⟩
 done:=by
  intro X hP hw hK hc i pins s σ H E I hf st hg
  subst hP hw hK
  obtain ⟨xs,hq,hx⟩:=hg
  obtain ⟨its,rv,p,hz⟩:=I.list hq
  obtain ⟨f0,f1,f2,f3,f4,f5⟩:=hf it (by simp)
  have hl:=rv.length
  exact wpAny_pyNext_list_end (I.ok.hd (hc rfl)) st p.isList (by simp;omega) fun h' eb=>⟨rfl,I.turned (t':=s.toks) (fun b o hb e=>eb b o hb e) f0 f1 f3 f4 f5⟩
 self:=fun _ _ _ _ _ st h=>wpAny_pyIter_listiter st h
theorem wY {P:Program}{w:World}{K:PySem.W.Frag}{tg:Expr}(a it:Addr):Turn P w K tg (Itt K a) [it] it (fun i h=>h.IsTupleIter it a i) where
 mem:=by simp
 obj:=fun i h st b hb=>by
  have e:b=it:=by simpa using hb
  subst e
  obtain ⟨o,e,c,d⟩:=st
  exact ⟨o,e,fun v z=>by rw [d] at z;cases z⟩
 keep:=fun i h h' st k=>st.at fun o e=>k it (by simp) o e
 item:=by
  intro X hP hw hK hc i pins s σ H E I hf st hg
  subst hP hw hK
  obtain ⟨xs,x,hq,hx⟩:=hg
  obtain ⟨its,rv,p,hz⟩:=I.tuple hq
  obtain ⟨u,hu,ru⟩:=rv.get hx
  obtain ⟨f0,f1,f2,f3,f4,f5⟩:=hf it (by simp)
  refine wpAny_pyNext_tuple_item st (show s.heap.IsTuple a its.toArray from p) (x:=u) (by simpa using hu) fun h' st' sb=>?_
  have I1:Inv X pins σ H { s with heap:=h' }:=I.turned (t':=s.toks) (fun b o hb e=>(sb.2 b hb).trans e) f0 f1 f3 f4 f5
  obtain ⟨o,e,c,d⟩:=id st'
  exact ⟨u,rfl,go_of (s:={ s with heap:=h' }) e c d (by decide) ⟨x,H,I1,ru,⟨rfl,fun ys hy=>by rw [I.tuple_inj hy hq];exact hx⟩,st',fun b hb=>(hf b hb).1⟩⟩
 done:=by
  intro X hP hw hK hc i pins s σ H E I hf st hg
  subst hP hw hK
  obtain ⟨xs,hq,hx⟩:=hg
  obtain ⟨its,rv,p,hz⟩:=I.tuple hq
  obtain ⟨f0,f1,f2,f3,f4,f5⟩:=hf it (by simp)
  have hl:=rv.length
  exact wpAny_pyNext_tuple_end (I.ok.hd (hc rfl)) st (show s.heap.IsTuple a its.toArray from p) (by simp;omega) fun h' eb=>⟨rfl,I.turned (t':=s.toks) (fun b o hb e=>eb b o hb e) f0 f1 f3 f4 f5⟩
 self:=fun _ _ _ _ _ st h=>wpAny_pyIter_tupleiter st h
theorem wX {P:Program}{w:World}{K:PySem.W.Frag}{tg:Expr}(it:Addr)(lo:Int)(n:Nat):Turn P w K tg (Itr lo n) [it] it (fun i h=>IsRangeIter h it (lo+(i:Nat)*1) ((n:Int) - (i:Nat)) 1) where
 mem:=by simp
 obj:=fun i h st b hb=>by
  have e:b=it:=by simpa using hb
  subst e
  exact ⟨_,st,fun v z=>by
   have z':Data.fields _=Data.cell v:=z
   cases z'⟩
 keep:=fun i h h' st k=>k it (by simp) _ st
 item:=by
  intro X hP hw hK hc i pins s σ H E I hf st hg
  subst hP hw hK
  obtain ⟨f0,f1,f2,f3,f4,f5⟩:=hf it (by simp)
  refine wpAny_pyNext_range_item st (by have:i<n:=hg;omega) fun h' st' kk=>?_
  have I1:Inv X pins σ H { s with heap:=h',toks:=s.toks+1 }:=I.turned (fun b o hb e=>(kk.2 b hb).trans e) f0 f1 f3 f4 f5
  have st2:IsRangeIter h' it (lo+((i+1:Nat):Int)*1) ((n:Int) - ((i+1:Nat):Int)) 1:=by
   have e1:lo+((i+1:Nat):Int)*1=lo+((i:Nat):Int)*1+1:=by omega
   have e2:(n:Int) - ((i+1:Nat):Int)=(n:Int) - ((i:Nat):Int) - 1:=by omega
   rw [e1,e2]
   exact st'
  refine ⟨_,rfl,go_of (s:={ s with heap:=h',toks:=s.toks+1 }) (n := "range_iterator") st' rfl rfl (by decide) ⟨.int (lo+i),H,I1,⟨s.toks,?_⟩,⟨rfl,rfl⟩,st2,fun b hb=>(hf b hb).1⟩⟩
  rw [Int.mul_one]
 done:=by
  intro X hP hw hK hc i pins s σ H E I hf st hg
  subst hP hw hK
  obtain ⟨f0,f1,f2,f3,f4,f5⟩:=hf it (by simp)
  exact zT (xT I.qt0 I.hok) st (by have:n≤i:=hg;omega) fun h' eb=>⟨rfl,I.turned (t':=s.toks) (fun b o hb e=>eb b o hb e) f0 f1 f3 f4 f5⟩
 self:=fun _ _ _ _ _ st h=>wpAny_pyIter_rangeiter st h
end L2
namespace L2
open PySem PySem.Spec PyProof.Rows
section
variable {X:Cx}{tg:Expr}
theorem range_it {pins:List (Addr×Obj)}{σ : St}{H:Hp}{s:Shared}{R:It→Hp→Prop}{E:Value→Shared→Prop}{lo hi:Int}{t u v:Tok}{tk:Nat}(I:Inv X pins σ H s)(h1:-(2^62)≤lo)(h2:lo<2^62)(h3:-(2^62)≤hi)(h4:hi<2^62)
  (q:R (Itr lo (hi - lo).toNat) H):wpAny (model X.prog X.w) X.A (pyIter (.ref s.heap.objs.size)) (PIE X pins σ tg R) E { s with heap:=s.heap.push { cls:=.type "range",data:=.fields #[.int lo t,.int hi u,.int 1 v] },toks:=tk }:=by
 refine wpAny_pyIter_range (IsRange.new ..) (small_one h1 h2 h3 h4) ?_
 have I1:Inv X pins σ H { s with heap:=s.heap.push { cls:=.type "range",data:=.fields #[.int lo t,.int hi u,.int 1 v] },toks:=tk }:=I.kept fun b o e=>Heap.get?_push_of_some _ e
 refine ⟨(s.heap.push { cls:=.type "range",data:=.fields #[.int lo t,.int hi u,.int 1 v] }).objs.size,[(s.heap.push { cls:=.type "range",data:=.fields #[.int lo t,.int hi u,.int 1 v] }).objs.size],_,_,H,rfl,
  I1.kept (t':=tk) fun b o e=>Heap.get?_push_of_some _ e,wX _ lo (hi - lo).toNat,?_,fun b hb=>?_,q⟩
 ·have e1:lo+((0:Nat):Int)*1=lo:=by simp
  have e2:(((hi - lo).toNat:Nat):Int) - ((0:Nat):Int)=Builtin.Range.rangeSize lo hi 1:=by rw [rangeSize_one];split <;> omega
  show IsRangeIter _ _ (lo+((0:Nat):Int)*1) ((((hi - lo).toNat:Nat):Int) - ((0:Nat):Int)) 1
  rw [e1,e2]
  exact Heap.get?_push_size _ rfl
 ·have e:b=(s.heap.push { cls:=.type "range",data:=.fields #[.int lo t,.int hi u,.int 1 v] }).objs.size:=by simpa using hb
  subst e
  exact I1.fpOk (Nat.le_refl _) (I1.hok.fresh (Nat.le_refl _))
def iRng1 (ta:TA):TI:=fun σ H R=>ta σ H fun vs H1=>∃ j:Int,vs=[.int j]∧-(2^62)≤j∧j<2^62∧R (Itr 0 j.toNat) H1
theorem Aa {a:Expr}{ta:TA}{p pos:Pos}(hg:Gl X "range")(hm:X.mg "range" = none)(ha:PA X [a] ta)(hs:starEach [a] X.env=[(false,eval a X.env)]:=by rfl):PI X tg (.Call (.Name "range" p) [a] [] pos) (iRng1 ta):=by
 intro pins s σ H R I h
 refine Call_ (jU I hg hm boot_range (PyProof.Rows.callWith_type1 (thn (ha pos pins s σ H _ I h) fun us s1 ⟨vs,H1,I1,r1,q1⟩=>?_) hs rfl))
 obtain ⟨j,e,q1,q2,q⟩:=q1
 subst e
 cases r1 with
 | cons r rr=>
  cases rr
  obtain ⟨t,rfl⟩:=r
  exact call_range_1 (range_it I1 (by omega) (by omega) q1 q2 (by simpa using q))
def tFor (wi:TI)(g:TG)(tb:TS):TS:=fun D σ H=>wi σ H fun J H1=>∃ W:Nat→Nat→St→Hp→Prop,(∃ m,W 0 m σ H1)∧∀ i m σ H,W i m σ H →
 (J.stop i H∧D.nx σ H)∨(J.go i H∧∃ N:St→Hp→Prop,(∀ σ' H',N σ' H'→∃ m',m'<m∧W (i+1) m' σ' H')∧∀ x H',J.yld i H x H'→g x σ H' fun σ2 H2=>tb { D with nx:=N,ct:=N,bk:=D.nx } σ2 H2)
def qY (fp:List Addr)(h:Heap):List (Addr×Obj):=fp.filterMap fun b=>(h.get? b).map fun o=>(b,o)
theorem gU {fp:List Addr}{h:Heap}{b:Addr}{o:Obj}(hb:b∈fp)(e:h.get? b=some o):(b,o)∈qY fp h:=List.mem_filterMap.mpr ⟨b,hb,by rw [e];rfl⟩
theorem yD {fp:List Addr}{h:Heap}{p:Addr×Obj}(hp:p∈qY fp h):p.1∈fp∧h.get? p.1=some p.2:=by
 obtain ⟨b,hb,e⟩:=List.mem_filterMap.mp hp
 cases q:h.get? b with
 | none=>rw [q] at e;cases e
 | some o=>
  rw [q] at e
  have e':(b,o)=p:=Option.some.inj e
  subst e'
  exact ⟨hb,q⟩
theorem Inv.pinned {pins:List (Addr×Obj)}{σ : St}{H:Hp}{s:Shared}{fp:List Addr}(I:Inv X pins σ H s)(hf:∀ b∈fp,xZ X pins H b)(ho:∀ b∈fp,∃ o,s.heap.get? b=some o∧∀ v,o.data≠.cell v):Inv X (pins++qY fp s.heap) σ H s:=
 I.pins_of fun p hp=>(List.mem_append.mp hp).elim (fun z=>I.pin p (List.mem_append_right _ z)) fun z=>by
  obtain ⟨hb,e⟩:=yD z
  obtain ⟨f0,f1,f2,_⟩:=hf p.1 hb
  obtain ⟨o,e',d⟩:=ho p.1 hb
  rw [e] at e';cases e'
  exact ⟨e,f0,f1,f2,d⟩
theorem Inv.unpinned {pins pl:List (Addr×Obj)}{σ : St}{H:Hp}{s:Shared}(I:Inv X (pins++pl) σ H s):Inv X pins σ H s:=I.pins_of fun p hp=>I.pin p (List.mem_append_right _ (List.mem_append_left _ hp))
theorem ps_for {iter:Expr}{body:List Stmt}{wi:TI}{g:TG}{tb:TS}{pos:Pos}(hp:PassesOwn (model X.prog X.w) X.A X.env X.xe)(hc:X.calm=true)(hi:PI X tg iter wi)(hg:PG X tg g)(hb:PSs X body tb)
  (hs:∀ x,foldedSetIterable iter X.env x=pure x:=by intro _;rfl):PS X (.For tg iter body [] pos) (tFor wi g tb):=by
 intro pins s σ H D I h
 refine wpAny_For (thn (hi pins s σ H _ I h) fun v s1 h1=>thn h1 fun itv s2 h2=>?_) hs
 obtain ⟨it,fp,tn,J,H2,e,I2,T,st2,f2,W,⟨m0,w0⟩,turn⟩:=h2
 subst e
 -- what stays true of the iterator's objects through the loop
 have stat:∀ {H':Hp},(∀ b∈fp,H' b=none)→∀ b∈fp,xZ X pins H' b:=fun hn b hb=>⟨hn b hb,(f2 b hb).2⟩
 refine codeAny_forLoop_any (fun n s'=>∃ i σ' H',Inv X pins σ' H' s'∧tn i s'.heap∧(∀ b∈fp,H' b=none)∧W i n σ' H') ?_ m0 ⟨0,σ,H2,I2,st2,fun b hb=>(f2 b hb).1,w0⟩
 rintro n s3 ⟨i,σ3,H3,I3,st3,fr3,w3⟩
 rcases turn i n σ3 H3 w3 with ⟨stop,qn⟩ | ⟨go,N,hN,step⟩
 ·refine wpAny_passesOwn hp (thn (T.done X rfl rfl rfl (fun _=>hc) i pins s3 σ3 H3 X.xe I3 (stat fr3) st3 stop) fun r s4 ⟨hr,I4⟩=>?_)
  subst hr
  exact wpAny_execs_nil ⟨σ3,H3,I4,qn⟩
 ·refine wpAny_passesOwn hp (thn (T.item X rfl rfl rfl (fun _=>hc) i pins s3 σ3 H3 X.xe I3 (stat fr3) st3 go) fun r s4 ⟨u,hr,h4⟩=>?_)
  subst hr
  refine wpAny_passesOwn hp (thn h4 fun _ s5 ⟨x,H5,I5,r5,y5,st5,fr5⟩=>?_)
  have I5':=I5.pinned (stat fr5) (T.obj _ _ st5)
  refine wpAny_passesOwn hp (thn (hg _ s5 σ3 H5 x u _ I5' r5 (step x H5 y5)) fun _ s6 ⟨σ6,H6,I6,q6⟩=>?_)
  refine wpAny_passesOwn hp (thn (hb _ s6 σ6 H6 _ I6 q6) fun f s7 q7=>?_)
  have again:∀ {σ7:St} {H7:Hp},Inv X (pins++qY fp s5.heap) σ7 H7 s7→N σ7 H7→∃ m,m<n∧∃ i σ' H',Inv X pins σ' H' s7∧tn i s7.heap∧(∀ b∈fp,H' b=none)∧W i m σ' H':=fun {σ7 H7} I7 n7=>by
   obtain ⟨m',hm,w7⟩:=hN σ7 H7 n7
   refine ⟨m',hm,i+1,σ7,H7,I7.unpinned,T.keep _ _ _ st5 fun b hb o e=>(I7.pin (b,o) (List.mem_append_right _ (List.mem_append_right _ (gU hb e)))).1,fun b hb=>?_,w7⟩
   obtain ⟨o,e,d⟩:=T.obj _ _ st5 b hb
   exact (I7.pin (b,o) (List.mem_append_right _ (List.mem_append_right _ (gU hb e)))).2.1
  cases f with
  | next=>obtain ⟨σ7,H7,I7,n7⟩:=q7;exact again I7 n7
  | cont=>obtain ⟨σ7,H7,I7,n7⟩:=q7;exact again I7 n7
  | brk=>obtain ⟨σ7,H7,I7,q7⟩:=q7;exact ⟨σ7,H7,I7.unpinned,q7⟩
  | ret v=>obtain ⟨x7,σ7,H7,I7,r7,q7⟩:=q7;exact ⟨x7,σ7,H7,I7.unpinned,r7,q7⟩
end
theorem jO {K:PySem.W.Frag}{a:Addr}{xs:List V}{g:TG}{tb:TS}{D:Ends}{σ : St}{H:Hp}(Pv:Nat→St→Hp→Prop)(h0:Pv 0 σ H)(hl:∀ i σ H,i≤xs.length→Pv i σ H→SqT K H a xs)
  (hs:∀ i x σ H,xs[i]?=some x→Pv i σ H→g x σ H fun σ2 H2=>tb { D with nx:=Pv (i+1),ct:=Pv (i+1),bk:=D.nx } σ2 H2) (hd:∀ σ H,Pv xs.length σ H→D.nx σ H) :
  ∃ W:Nat→Nat→St→Hp→Prop,(∃ m,W 0 m σ H)∧∀ i m σ H,W i m σ H →
   ((Itt K a).stop i H∧D.nx σ H)∨((Itt K a).go i H∧∃ N:St→Hp→Prop,(∀ σ' H',N σ' H'→∃ m',m'<m∧W (i+1) m' σ' H')∧∀ x H',(Itt K a).yld i H x H'→g x σ H' fun σ2 H2=>tb { D with nx:=N,ct:=N,bk:=D.nx } σ2 H2):=by
 refine ⟨fun i m σ H=>m=xs.length - i∧i≤xs.length∧Pv i σ H,⟨xs.length,by simp,Nat.zero_le _,h0⟩,?_⟩
 rintro i m σ H ⟨rfl,hi,p⟩
 have q:=hl i σ H hi p
 by_cases hlt:i<xs.length
 ·refine .inr ⟨⟨xs,xs[i],q,by simp [hlt]⟩,Pv (i+1),fun σ' H' p'=>⟨xs.length - (i+1),by omega,rfl,hlt,p'⟩,fun x H' y=>?_⟩
  obtain ⟨e,y⟩:=y
  subst e
  exact hs i x σ _ (y xs q) p
 ·have e:i=xs.length:=by omega
  subst e
  exact .inl ⟨⟨xs,q,Nat.le_refl _⟩,hd σ H p⟩
end L2
namespace L2
open PySem PySem.Spec PyProof.Rows
abbrev R2:=V→V→Hp→VK→Prop
def OpR (X:Cx)(f:Value→Value→Sem Value)(r:R2):Prop:=
 ∀ (pins:List (Addr×Obj)) (s:Shared) (σ : St) (H:Hp) (x y:V) (v u:Value) (Q:VK),Inv X pins σ H s→RelV x v→RelV y u→r x y H Q →
  wpAny (model X.prog X.w) X.A (f v u) (EP X pins σ Q) X.xe s
def UnR (X:Cx)(f:Value→Sem Value)(r:V→Hp→VK→Prop):Prop:=
 ∀ (pins:List (Addr×Obj)) (s:Shared) (σ : St) (H:Hp) (x:V) (v:Value) (Q:VK),Inv X pins σ H s→RelV x v→r x H Q →
  wpAny (model X.prog X.w) X.A (f v) (EP X pins σ Q) X.xe s
def jf (X:Cx)(f:Value)(r:List V→Hp→VK→Prop):Prop:=
 ∀ (pins:List (Addr×Obj)) (s:Shared) (σ : St) (H:Hp) (xs:List V) (us:List Value) (Q:VK),Inv X pins σ H s→Vals xs us→r xs H Q →
  wpAny (model X.prog X.w) X.A (call f us) (EP X pins σ Q) X.xe s
def TruR (X:Cx)(r:V→Hp→(Bool→Hp→Prop)→Prop):Prop:=
 ∀ (pins:List (Addr×Obj)) (s:Shared) (σ : St) (H:Hp) (x:V) (v:Value) (Q:Bool→Hp→Prop),Inv X pins σ H s→RelV x v→r x H Q →
  wpAny (model X.prog X.w) X.A (truthy v) (TP X pins σ Q) X.xe s
def tOp (r:R2)(ta tb:TE):TE:=fun σ H Q=>ta σ H fun x H1=>tb σ H1 fun y H2=>r x y H2 Q
def tUn (r:V→Hp→VK→Prop)(ta:TE):TE:=fun σ H Q=>ta σ H fun x H1=>r x H1 Q
def rI (C:Int→Int→Prop)(g:Int→Int→V):R2:=fun x y H Q=>∃ i j,x=.int i∧y=.int j∧C i j∧Q (g i j) H
def rI0 (g:Int→Int→V):R2:=fun x y H Q=>∃ i j,x=.int i∧y=.int j∧Q (g i j) H
def rU (g:Int→V):V→Hp→VK→Prop:=fun x H Q=>∃ i,x=.int i∧Q (g i) H
section
variable {X:Cx}{a b c:Expr}{ta tb tc:TE}{pos:Pos}
theorem binT (ha:PE X a ta)(hb:PE X b tb){pins:List (Addr×Obj)}{s:Shared}{σ : St}{H:Hp}{R:V→V→Hp→Prop}(I:Inv X pins σ H s)
  (h:ta σ H fun x H1=>tb σ H1 fun y H2=>R x y H2) {Q:Value→Shared→Prop} {f:Value→Value→Sem Value}
  (hf:∀ v u s2 x y H2,Inv X pins σ H2 s2→RelV x v→RelV y u→R x y H2→wpAny (model X.prog X.w) X.A (f v u) Q X.xe s2) :
  wpAny (model X.prog X.w) X.A (eval a X.env) (fun v s₁=>wpAny (model X.prog X.w) X.A (eval b X.env) (fun u s₂=>wpAny (model X.prog X.w) X.A (f v u) Q X.xe s₂) X.xe s₁) X.xe s:=by
 refine thn (ha pins s σ H _ I h) fun v s1 ⟨x,H1,I1,r1,q1⟩=>?_
 refine thn (hb pins s1 σ H1 _ I1 q1) fun u s2 ⟨y,H2,I2,r2,q2⟩=>?_
 exact hf v u s2 x y H2 I2 r1 r2 q2
theorem pe_op {op:Operator}{r:R2}(ho:OpR X (binaryOp op) r)(ha:PE X a ta)(hb:PE X b tb):PE X (.BinOp a op b pos) (tOp r ta tb):=by
 intro pins s σ H Q I h
 exact wpAny_BinOp (binT ha hb I h fun v u s2 x y H2 I2 rx ry q=>ho pins s2 σ H2 x y v u Q I2 rx ry q)
theorem pe_un {op:UnaryOp}{r:V→Hp→VK→Prop}(ho:UnR X (unaryOp op) r)(ha:PE X a ta):PE X (.UnaryOp op a pos) (tUn r ta):=by
 intro pins s σ H Q I h
 exact UnaryOp_ (thn (ha pins s σ H _ I h) fun v s1 ⟨x,H1,I1,r1,q1⟩=>ho pins s1 σ H1 x v Q I1 r1 q1)
theorem opI {f:Value→Value→Sem Value}{C:Int→Int→Prop}{g:Int→Int→Int}
  (rule:∀ (i j:Int) (t u:Tok) (s:Shared) (Q:Value→Shared→Prop) (E:Value→Shared→Prop),C i j→Q (.int (g i j) s.toks) { s with toks:=s.toks+1 }→wpAny (model X.prog X.w) X.A (f (.int i t) (.int j u)) Q E s) :
  OpR X f (rI C fun i j=>.int (g i j)):=by
 intro pins s σ H x y v u Q I rx ry h
 obtain ⟨i,j,rfl,rfl,hc,q⟩:=h
 obtain ⟨t,rfl⟩:=rx
 obtain ⟨t',rfl⟩:=ry
 exact rule i j t t' s _ _ hc ⟨.int (g i j),H,I.tok _,⟨_,rfl⟩,q⟩
theorem opI0 {f:Value→Value→Sem Value}{g:Int→Int→Int}
  (rule:∀ (i j:Int) (t u:Tok) (s:Shared) (Q:Value→Shared→Prop) (E:Value→Shared→Prop),Q (.int (g i j) s.toks) { s with toks:=s.toks+1 }→wpAny (model X.prog X.w) X.A (f (.int i t) (.int j u)) Q E s) :
  OpR X f (rI0 fun i j=>.int (g i j)):=by
 intro pins s σ H x y v u Q I rx ry h
 obtain ⟨i,j,rfl,rfl,q⟩:=h
 obtain ⟨t,rfl⟩:=rx
 obtain ⟨t',rfl⟩:=ry
 exact rule i j t t' s _ _ ⟨.int (g i j),H,I.tok _,⟨_,rfl⟩,q⟩
theorem opB0 {f:Value→Value→Sem Value}{g:Int→Int→Bool}
  (rule:∀ (i j:Int) (t u:Tok) (s:Shared) (Q:Value→Shared→Prop) (E:Value→Shared→Prop),Q (.bool (g i j)) s→wpAny (model X.prog X.w) X.A (f (.int i t) (.int j u)) Q E s) :
  OpR X f (rI0 fun i j=>.bl (g i j)):=by
 intro pins s σ H x y v u Q I rx ry h
 obtain ⟨i,j,rfl,rfl,q⟩:=h
 obtain ⟨t,rfl⟩:=rx
 obtain ⟨t',rfl⟩:=ry
 exact rule i j t t' s _ _ ⟨.bl (g i j),H,I,rfl,q⟩
def CPow (i j:Int):Prop:=0≤j∧j≤1000000∧i.natAbs<2^64
theorem op_add:OpR X (binaryOp .Add) (rI0 fun i j=>.int (i+j)):=opI0 fun _ _ _ _ _ _ _ q=>add_int q
theorem op_sub:OpR X (binaryOp .Sub) (rI0 fun i j=>.int (i - j)):=opI0 fun _ _ _ _ _ _ _ q=>sub_int q
theorem op_modN:OpR X (binaryOp .Mod) (rI (fun _ j=>j≠0) fun i j=>.int (i.fmod j)):=opI fun _ _ _ _ _ _ _ hc q=>mod_int' hc q
theorem op_pow:OpR X (binaryOp .Pow) (rI CPow fun i j=>.int (i^j.toNat)):=opI fun _ _ _ _ _ _ _ hc q=>pow_int_small hc.1 hc.2.1 hc.2.2 q
theorem unI {f:Value→Sem Value}{g:Int→Int}
  (rule:∀ (i:Int) (t:Tok) (s:Shared) (Q:Value→Shared→Prop) (E:Value→Shared→Prop),Q (.int (g i) s.toks) { s with toks:=s.toks+1 }→wpAny (model X.prog X.w) X.A (f (.int i t)) Q E s) :
  UnR X f (rU fun i=>.int (g i)):=by
 intro pins s σ H x v Q I rx h
 obtain ⟨i,rfl,q⟩:=h
 obtain ⟨t,rfl⟩:=rx
 exact rule i t s _ _ ⟨.int (g i),H,I.tok _,⟨_,rfl⟩,q⟩
theorem un_neg:UnR X (unaryOp .USub) (rU fun i=>.int (-i)):=unI fun _ _ _ _ _ q=>neg_int q
end
section
variable {X:Cx}{a b c:Expr}{ta tb tc:TE}{pos:Pos}
theorem fin_bl {pins:List (Addr×Obj)}{σ : St}{H:Hp}{s:Shared}{Q:VK}{k k':Bool}(I:Inv X pins σ H s)(q:Q (.bl k) H)(e:k=k'):EP X pins σ Q (.bool k') s:=by
 subst e
 exact ⟨.bl k,H,I,rfl,q⟩
theorem op_lt:OpR X (compareOp .Lt) (rI0 fun i j=>.bl (decide (i<j))):=opB0 fun _ _ _ _ _ _ _ q=>lt_int q
theorem op_gt:OpR X (compareOp .Gt) (rI0 fun i j=>.bl (decide (j<i))):=opB0 fun _ _ _ _ _ _ _ q=>gt_int q
theorem OpR.or {f:Value→Value→Sem Value}{r r':R2}(h:OpR X f r)(h':OpR X f r'):OpR X f (fun x y H Q=>r x y H Q∨r' x y H Q):=by
 intro pins s σ H x y v u Q I rx ry q
 rcases q with q | q
 ·exact h pins s σ H x y v u Q I rx ry q
 ·exact h' pins s σ H x y v u Q I rx ry q
theorem cY (b:Expr){op:CmpOp}(h:op≠.In:=by decide)(h2:op≠.NotIn:=by decide):behindInMarks op b=false:=by
 have e1:(op==CmpOp.In)=false:=by cases op <;> first | rfl | exact absurd rfl h
 have e2:(op==CmpOp.NotIn)=false:=by cases op <;> first | rfl | exact absurd rfl h2
 cases b <;> simp [behindInMarks,e1,e2]
theorem pe_cmpR {op:CmpOp}{r:R2}(ho:OpR X (compareOp op) r)(ha:PE X a ta)(hb:PE X b tb)(hm:behindInMarks op b=false):PE X (.Compare a [op] [b] pos) (tOp r ta tb):=by
 intro pins s σ H Q I h
 exact wpAny_Compare1 (binT ha hb I h fun v u s2 x y H2 I2 rx ry q=>ho pins s2 σ H2 x y v u Q I2 rx ry q) hm
def tTest (t:TE):TT:=fun σ H Q=>t σ H fun x H'=>∃ k,x=.bl k∧Q k H'
theorem pt_cmpR {op:CmpOp}{r:R2}(ho:OpR X (compareOp op) r)(ha:PE X a ta)(hb:PE X b tb)(hm:behindInMarks op b=false):PT X (.Compare a [op] [b] pos) (tTest (tOp r ta tb)):=by
 intro pins s σ H Q I h
 refine wpAny_isTrue_Compare1 (thn (ha pins s σ H _ I h) fun v s1 ⟨x,H1,I1,r1,q1⟩=>thn (hb pins s1 σ H1 _ I1 q1) fun u s2 ⟨y,H2,I2,r2,q2⟩=>
  thn (ho pins s2 σ H2 x y v u _ I2 r1 r2 q2) fun c s3 ⟨z,H3,I3,r3,k,e,q3⟩=>?_) hm
 subst e
 cases r3
 exact wpAny_truthy_bool ⟨H3,I3,q3⟩
def TruV (K:PySem.W.Frag)(x:V)(H:Hp)(k:Bool):Prop:=
 match x with
 | .non=>k=false
 | .bl b=>k=b
 | .int i=>k=(i != 0)
 | .str y=>y.length≤sizeLine∧k=((y.length:Int) != 0)
 | .byt y=>y.size≤sizeLine∧k=((y.size:Int) != 0)
 | .ref p=>(∃ xs,SqL K H p xs∧k = !xs.isEmpty)∨(∃ xs,SqT K H p xs∧k = !xs.isEmpty)∨∃ kvs,H p=some (.dK kvs)∧k = !kvs.isEmpty
 | _=>False
theorem xV {κ : Type}{kvs:List (κ×V)}{vs:List (κ×Value)}(r:KV kvs vs):(!vs.isEmpty) = !kvs.isEmpty:=by
 cases r <;> rfl
theorem nU {xs:List V}{its:List Value}(r:Vals xs its):(!its.toArray.isEmpty) = !xs.isEmpty:=by
 cases r <;> simp
theorem qL:(sizeLine:Nat)<2^63:=by rw [sizeLine_eq];decide
theorem tru_ok:TruR X (fun x H Q=>∃ k,TruV X.K x H k∧Q k H):=by
 intro pins s σ H x v Q I rx h
 obtain ⟨k,e,q⟩:=h
 have hl:=qL
 have hs:sizeLine=16777216:=sizeLine_eq
 cases x with
 | non=>
  cases rx
  have e':k=false:=e
  subst e'
  exact truthy_none ⟨H,I,q⟩
 | bl b=>
  cases rx
  have e':k=b:=e
  subst e'
  exact wpAny_truthy_bool ⟨H,I,q⟩
 | int i=>
  obtain ⟨t,rfl⟩:=rx
  have e':k=(i != 0):=e
  subst e'
  exact PySem.P.truthy_int ⟨H,I,q⟩
 | str y=>
  obtain ⟨t,rfl⟩:=rx
  obtain ⟨hy,e'⟩:y.length≤sizeLine∧k=((y.length:Int) != 0):=e
  subst e'
  exact PySem.P.truthy_str (by omega) ⟨H,I.tok _,q⟩
 | byt y=>
  obtain ⟨t,rfl⟩:=rx
  obtain ⟨hy,e'⟩:y.size≤sizeLine∧k=((y.size:Int) != 0):=e
  subst e'
  exact PySem.W.truthy_bytes (by omega) ⟨H,I.tok _,q⟩
 | ref p=>
  cases rx
  have e':(∃ xs,SqL X.K H p xs∧k = !xs.isEmpty)∨(∃ xs,SqT X.K H p xs∧k = !xs.isEmpty)∨∃ kvs,H p=some (.dK kvs)∧k = !kvs.isEmpty:=e
  rcases e' with ⟨xs,hx,e'⟩ | ⟨xs,hx,e'⟩ | ⟨kvs,hx,e'⟩
  ·subst e'
   obtain ⟨its,r,pl,hz⟩:=I.list hx
   have hlen:=r.length
   exact wpAny_truthy_list pl.isList (by simp only [List.size_toArray];omega) ⟨H,I.tok _,by rw [nU r];exact q⟩
  ·subst e'
   obtain ⟨its,r,pl,hz⟩:=I.tuple hx
   have hlen:=r.length
   exact truthy_tuple pl (by simp only [List.size_toArray];omega) ⟨H,I.tok _,by rw [nU r];exact q⟩
  ·subst e'
   obtain ⟨hz,hS,vs,r,m⟩:kvs.length≤sizeLine∧(p==sysModules)=false∧∃ vs,KV kvs vs∧s.heap.DictOf (dB X.prog X.w) p vs:=I.hok p _ hx
   have hlen:kvs.length=vs.length:=Paired.length r
   exact wpAny_truthy_dict hS m (by omega) ⟨H,I.tok _,by rw [xV r];exact q⟩
 | _=>exact (show False from e).elim
theorem pt_truth (ha:PE X a ta)(he:∀ whole,isTrue a X.env whole=(do let v ←whole;standAt a.pos;holding [v] (truthy v))) :
  PT X a (fun σ H Q=>ta σ H fun x H'=>∃ k,TruV X.K x H' k∧Q k H'):=by
 intro pins s σ H Q I h
 exact isTrue_plain (thn (ha pins s σ H _ I h) fun v s1 ⟨x,H1,I1,r1,q1⟩=>tru_ok pins s1 σ H1 x v Q I1 r1 q1) (he _)
theorem vals1 {x:V}{us:List Value}(r:Vals [x] us):∃ u,us=[u]∧RelV x u:=by
 cases r with
 | cons r1 r2=>cases r2;exact ⟨_,rfl,r1⟩
theorem vals2 {x y:V}{us:List Value}(r:Vals [x,y] us):∃ u w',us=[u,w']∧RelV x u∧RelV y w':=by
 cases r with
 | cons r1 r2=>
  cases r2 with
  | cons r3 r4=>cases r4;exact ⟨_,_,rfl,r1,r3⟩
end
end L2
namespace L2
open PySem PySem.Spec PyProof.Rows
structure ObjM (h:Heap) (x dx C:Addr) (mA:Str→Option Value):Prop where
 obj:h.get? x=some (PySem.W.instObj C dx)
 ns:h.Ns1 dx mA
 ne:dx≠x
theorem yu {h:Heap}{dx:Addr}{mA:Str→Option Value}(n:h.Ns1 dx mA):∃ od,h.get? dx=some od∧∀ name,PySem.W.lookIn name od=some (mA name):=by
 obtain ⟨o,es,ep,ho,hd,hk,_,hm⟩:=n
 refine ⟨o,ho,fun name=>?_⟩
 have e:=hm name
 unfold nsFind findBy at e
 rw [←Array.find?_toList] at e
 unfold PySem.W.lookIn
 rw [hd]
 dsimp only
 split
 ·rename_i y q
  rw [q] at e
  exact congrArg some e
 ·rename_i q
  rw [q] at e
  have a:es.toList.any (·.refKey)=false:=by
   rw [List.any_eq_false]
   intro y hy
   obtain ⟨z,t,hkey⟩:=hk y (Array.mem_toList_iff.mp hy)
   simp [DictEntry.refKey,hkey]
  have a':¬ es.toList.any (·.refKey)=true:=by rw [a];exact Bool.false_ne_true
  rw [if_neg a']
  exact congrArg some e
theorem ObjM.look {h:Heap}{x dx C:Addr}{mA:Str→Option Value}(I:ObjM h x dx C mA):∃ od,PySem.W.InstAt h x (PySem.W.instObj C dx) C (some od)∧∀ name,PySem.W.lookIn name od=some (mA name):=
 let ⟨od,ho,hl⟩:=yu I.ns
 ⟨od,⟨I.obj,rfl,rfl,ho⟩,hl⟩
section
variable {prog:Program}{w:World}{A:Around}{E:Value→Shared→Prop}{s:Shared}{K:PySem.W.Frag}{x dx C f:Addr}{mA:Str→Option Value}{name:Str}{v:Value}
theorem get_map {expr:Bool}{Q:Value→Shared→Prop}(X:K.In s.heap)(I:ObjM s.heap x dx C mA)(hg:PySem.W.plainGet K C name=true)(hh:PySem.W.hasDictIn K C=true)
  (ha:PySem.W.findIn K (.ref C) name=some none) (hv:mA name=some v) (hv':PySem.W.handedIn v=true) (h:Q v { s with toks:=s.toks+1 }) :
  wpAny (model prog w) A (getAttr (.ref x) name expr) Q E s:=by
 obtain ⟨od,J,hl⟩:=I.look
 exact PySem.W.get_value X J (PySem.W.plainGet_of hg).1 (PySem.W.findObj_own hh ha rfl (by rw [hl,hv])) hv' h
end
theorem RelO.some_of {v:V}{o:Option Value}(r:RelO (some v) o):∃ u,o=some u∧RelV v u:=by
 cases o with
 | none=>exact (show False from r).elim
 | some u=>exact ⟨u,rfl,r⟩
section
variable {P:Program}{w:World}{H H':Hp}{h h':Heap}{a C dx:Addr}{fs fs':List (Str×V)}
end
structure Cls (K:PySem.W.Frag) (C:Addr):Prop where
 pg:PySem.W.plainGet K C Str.empty=true
 hd:PySem.W.hasDictIn K C=true
 po:PySem.W.plainOver K C=true
 sa:PySem.W.findIn K (.ref C) "__setattr__" = some (some (.builtin "object.__setattr__"))
structure Con (K:PySem.W.Frag) (C:Addr) (f:Str) (v:V) (u:Value):Prop where
 at_:PySem.W.findIn K (.ref C) f=some (some u)
 rel:RelV v u
 get:PySem.W.specialIn K u "__get__" = some none
 cp:PySem.W.copiedNames.contains f=false
structure Meth (K:PySem.W.Frag) (C:Addr) (m:Str) (f:Addr):Prop where
 at_:PySem.W.findIn K (.ref C) m=some (some (.ref f))
 fn:PySem.W.isFn K (.ref f)=true
 kp:PySem.W.keepIn K (.ref f)=true
section
variable {X:Cx}{pins:List (Addr×Obj)}{σ : St}{H:Hp}{s:Shared}{a C dx:Addr}{fs:List (Str×V)}{f:Str}{v:V}{A:Around}{E:Value→Shared→Prop}
end
section
variable {X:Cx}{o e value:Expr}{f:Str}{pos pos' tpos:Pos}{ta tv:TE}
end
section
variable {X:Cx}{pins:List (Addr×Obj)}{σ : St}{H:Hp}{s:Shared}{A:Around}{E:Value→Shared→Prop}{Q:Value→Shared→Prop}{c:Value}{b:Bool}
inductive TyOf (K:PySem.W.Frag) (H:Hp):V→Value→Prop where
 | non:TyOf K H .non (.type "NoneType")
 | bl (x:Bool):TyOf K H (.bl x) (.type "bool")
 | int (i:Int):TyOf K H (.int i) (.type "int")
 | str (x:Str):TyOf K H (.str x) (.type "str")
 | flt (x:UInt64):TyOf K H (.flt x) (.type "float")
 | lst {a:Addr} {xs:List V} (e:H a=some (.lst xs)):TyOf K H (.ref a) (.type "list")
 | frz {a:Addr} {o:Obj} {xs:List V} (e:H a=some (.frz o (.lst xs))):TyOf K H (.ref a) (.type "list")
 | tup {a:Addr} {xs:List V} (e:H a=some (.tup xs)):TyOf K H (.ref a) (.type "tuple")
 | dK {a:Addr} {kvs:List (Key×V)} (e:H a=some (.dK kvs)):TyOf K H (.ref a) (.type "dict")
 | dT {a:Addr} {kvs:List (List Key×V)} (e:H a=some (.dT kvs)):TyOf K H (.ref a) (.type "dict")
 | ins {a C dx:Addr} {fs:List (Str×V)} (e:H a=some (.ins C dx fs)) (cl:Cls K C) (ha:PySem.W.findIn K (.ref C) "__class__" = some (some (.builtin "object.__class__")))
   (hn:PySem.W.specialIn K (.builtin "object.__class__") "__get__" = some (some (.builtin "getset_descriptor.__get__"))) (htk:PySem.W.takesIn K (.builtin "object.__class__")=some true)
   (hm:PySem.W.mroIn K C (.type "object")=some true):TyOf K H (.ref a) (.ref C)
end
end L2
namespace L2
open PySem PySem.Spec PyProof.Rows
structure mX (k:Nat) (A:Around):Prop where
 hd:9≤k→A.handled=none
 dp:A.depth+3*k+5<recursionLimit
 un:A.units+16*k+200<cLine
theorem mX.mono {j k:Nat}{A:Around}(r:mX k A)(h:j≤k):mX j A:=⟨fun z=>r.hd (Nat.le_trans z h),by have:=r.dp;omega,by have:=r.un;omega⟩
theorem mX.deeper {k:Nat}{A:Around}(r:mX (k+1) A)(env:Env):mX k (A.deeper env):=
 ⟨fun z=>r.hd (Nat.le_succ_of_le z),by have:=r.dp;show A.depth+1+3*k+5<_;omega,by have:=r.un;show A.units+3+16*k+200<_;omega⟩
theorem mX.calm {k:Nat}{A:Around}(r:mX k A)(h:9≤k):A.handled.isNone=true:=by rw [r.hd h];rfl
theorem mX.depth {k:Nat}{A:Around}(r:mX k A):A.depth<recursionLimit:=by have:=r.dp;omega
theorem mX.units {k:Nat}{A:Around}(r:mX k A):A.units+64<cLine:=by have:=r.un;omega
def tNil:TA:=fun _ H Q=>Q [] H
def tCons (ta:TE)(tr:TA):TA:=fun σ H Q=>ta σ H fun x H1=>tr σ H1 fun xs H2=>Q (x::xs) H2
section
variable {X:Cx}{e:Expr}{es:List Expr}{te:TE}{t:TA}{pos:Pos}
theorem pa_nil:PA X [] tNil:=fun _ _ _ _ H Q I h=>Calls.spliced_nil ⟨[],H,I,.nil,h⟩
theorem pa_cons (ha:PE X e te)(hr:PA X es t)(hs:starEach (e::es) X.env=(false,eval e X.env)::starEach es X.env:=by rfl):PA X (e::es) (tCons te t):=by
 intro pos pins s σ H Q I h
 rw [hs]
 show wpAny _ _ (spliced ((false,eval e X.env)::backTo pos (starEach es X.env))) _ _ s
 refine Calls.spliced_cons (thn (ha pins s σ H _ I h) fun u s1 ⟨x,H1,I1,r1,q1⟩=>?_)
 exact thn (hr pos pins s1 σ H1 _ I1 q1) fun us s2 ⟨xs,H2,I2,r2,q2⟩=>⟨x::xs,H2,I2,.cons r1 r2,q2⟩
def tTup (t:TA):TE:=fun σ H Q=>t σ H fun xs H1=>xs.length≤sizeLine∧∀ p,H1 p=none→Q (.ref p) (upd H1 p (.tup xs))
def tLst (t:TA):TE:=fun σ H Q=>t σ H fun xs H1=>xs.length≤sizeLine∧∀ p,H1 p=none→Q (.ref p) (upd H1 p (.lst xs))
theorem pe_tup {x1}(h:PA X es t):PE X (.Tuple es x1 pos) (tTup t):=by
 intro pins s σ H Q I hq
 refine wpAny_Tuple_spliced (thn (h pos pins s σ H _ I hq) fun us s1 ⟨xs,H1,I1,r,z,q⟩=>⟨by rw [←r.length];exact z,?_⟩)
 have hf:H1 s1.heap.objs.size=none:=I1.hok.fresh (Nat.le_refl _)
 refine ⟨.ref s1.heap.objs.size,upd H1 s1.heap.objs.size (.tup xs),I1.laid (t':=s1.toks) (fun b u e=>Heap.get?_push_of_some _ e) (Nat.le_refl _) ?_,rfl,q _ hf⟩
 exact ⟨z,us,r,⟨_,Heap.get?_push_size _ rfl,rfl,⟨_,rfl⟩,rfl⟩⟩
theorem pe_lst (h:PA X es t):PE X (.List es pos) (tLst t):=by
 intro pins s σ H Q I hq
 refine wpAny_List_spliced (thn (h pos pins s σ H _ I hq) fun us s1 ⟨xs,H1,I1,r,z,q⟩=>⟨by rw [←r.length];exact z,?_⟩)
 have hf:H1 s1.heap.objs.size=none:=I1.hok.fresh (Nat.le_refl _)
 refine ⟨.ref s1.heap.objs.size,upd H1 s1.heap.objs.size (.lst xs),I1.laid (t':=s1.toks) (fun b u e=>Heap.get?_push_of_some _ e) (Nat.le_refl _) ?_,rfl,q _ hf⟩
 exact ⟨z,us,0,r,Heap.get?_push_size _ rfl⟩
end
abbrev Sp:=List V→Hp→VK→XK→Prop
abbrev CXT:=List Env→Hp→Shared→XK→Value→Shared→Prop
structure Env0 (P:Program) (w:World) (K:PySem.W.Frag) (mg:Str→Option Value) (base:Heap) (A:Around) (outer:List Env) (s:Shared) (H:Hp):Prop where
 frames:A.frames=some outer
 mod:Mod K mg base
 bs:∀ b o,base.get? b=some o→s.heap.get? b=some o∧H b=none
 bsz:base.objs.size≤s.heap.objs.size
 funs:s.heap.FunFrames base outer
 frf:∀ b∈frs outer,H b=none
 hok:HOk P w H s.heap
 bare:AllBare s.gens
 qt:Quiet A H
def CE (outer:List Env)(P:Program)(w:World)(H:Hp)(s:Shared)(Q:VK)(u:Value)(s':Shared):Prop:=
 ∃ v H',s'.os=s.os∧AllBare s'.gens∧Un (frs outer) [] H H' s.heap s'.heap∧HOk P w H' s'.heap∧RelV v u∧Q v H'
def CR (CX:CXT)(outer:List Env)(P:Program)(w:World)(H:Hp)(s:Shared)(Q:VK)(E:XK)(r:Result)(s':Shared):Prop:=
 match r with
 | .ok (.ret u)=>CE outer P w H s Q u s'
 | .ok _=>False
 | .error e=>CX outer H s E e s'
structure fD (P:Program) (w:World) (K:PySem.W.Frag) (mg:Str→Option Value) (base:Heap) (CX:CXT) (k:Nat) (f:Addr) (fd:FuncData) (ps:List Str) (sp:Sp):Prop where
 len:∀ vs H Q E,sp vs H Q E→vs.length=ps.length
 run:∀ (A:Around) (outer:List Env) (s:Shared) (H:Hp) (args:Args) (us:List Value) (vs:List V) (Q:VK) (E:XK),mX k A→Env0 P w K mg base A outer s H→BindsTo s fd args (ps.zip us)→Vals vs us→sp vs H Q E →
  codeAny (model P w) A (.call (.ref f) args) (CR CX outer P w H s Q E) s
theorem fD.mono {P:Program}{w:World}{K:PySem.W.Frag}{mg:Str→Option Value}{base:Heap}{CX:CXT}{j k:Nat}{f:Addr}{fd:FuncData}{ps:List Str}{sp:Sp}(F:fD P w K mg base CX j f fd ps sp)(h:j≤k) :
  fD P w K mg base CX k f fd ps sp:=⟨F.len,fun A outer s H args us vs Q E hr=>F.run A outer s H args us vs Q E (hr.mono h)⟩
theorem fD.imp {P:Program}{w:World}{K:PySem.W.Frag}{mg:Str→Option Value}{base:Heap}{CX:CXT}{k:Nat}{f:Addr}{fd:FuncData}{ps:List Str}{sp sp':Sp}(F:fD P w K mg base CX k f fd ps sp)
  (h:∀ vs H Q E,sp' vs H Q E→sp vs H Q E):fD P w K mg base CX k f fd ps sp':=
 ⟨fun vs H Q E q=>F.len vs H Q E (h _ _ _ _ q),fun A outer s H args us vs Q E hr he hb hv hs=>F.run A outer s H args us vs Q E hr he hb hv (h _ _ _ _ hs)⟩
section
variable {X:Cx}{pins:List (Addr×Obj)}{σ : St}{H:Hp}{s s':Shared}
theorem Inv.env0 (I:Inv X pins σ H s):Env0 X.prog X.w X.K X.mg X.base X.A X.stack s H:=
 ⟨I.ok.frames,I.ok.mod,I.bs,Nat.le_trans I.ok.bsz I.sz,I.stack,I.stkFree,I.hok,I.bare,I.qt0⟩
theorem Inv.after {Q:VK}{u:Value}(I:Inv X pins σ H s)(h:CE X.stack X.prog X.w H s Q u s'):EP X pins σ Q u s':=by
 obtain ⟨v,H',os,bare,un,hok,r,q⟩:=h
 obtain ⟨hh,g,d,t,os'⟩:=s'
 obtain rfl:os'=s.os:=os
 exact ⟨v,H',I.call (h':=hh) (g':=g) (d':=d) (t':=t) (ch:=[]) un hok bare (fun b z=>absurd z (by simp)),r,q⟩
end
def tCall (sp:Sp)(dvs:List V)(E:XK)(t:TA):TE:=fun σ H Q=>t σ H fun vs H1=>sp (vs++dvs) H1 Q E
def Binds (K:PySem.W.Frag)(fd:FuncData)(ps:List Str)(ds:List Value):Prop:=
 ∀ (s:Shared) (us:List Value),K.In s.heap→(us++ds).length=ps.length→BindsTo s fd ⟨us,[]⟩ (ps.zip (us++ds))
theorem Binds.all {K:PySem.W.Frag}{fd:FuncData}{ps:List Str}(h:∀ us:List Value,us.length=ps.length→bindArgs fd ⟨us,[]⟩=pure (ps.zip us)):Binds K fd ps []:=fun s us _ hl=>by
 rw [List.append_nil] at hl ⊢
 exact .of_eq (h us hl)
def Passes (CX:CXT)(X:Cx)(E:XK):Prop:=∀ (pins:List (Addr×Obj)) (σ : St) (H:Hp) (s:Shared) (e:Value) (s':Shared),Inv X pins σ H s→CX X.stack H s E e s'→X.xe e s'
section
variable {X:Cx}{CX:CXT}{k:Nat}{f C:Addr}{fd:FuncData}{ps:List Str}{sp:Sp}{dvs:List V}{ds:List Value}{E:XK}{x m:Str}{p pos apos:Pos}{e o:Expr}{es:List Expr}{ta:TE}{t:TA}
theorem run_fn {pins:List (Addr×Obj)}{σ : St}{H:Hp}{s:Shared}{Q:VK}{us:List Value}{vs:List V}(F:fD X.prog X.w X.K X.mg X.base CX k f fd ps sp)(hr:mX k X.A)(hb:Binds X.K fd ps ds)(hd:Vals dvs ds)(hx:Passes CX X E)
  (I:Inv X pins σ H s) (r:Vals vs us) (h:sp (vs++dvs) H Q E):wpAny (model X.prog X.w) X.A (call (.ref f) us) (EP X pins σ Q) X.xe s:=by
 have r2:Vals (vs++dvs) (us++ds):=r.append hd
 have hl:(us++ds).length=ps.length:=by rw [←r2.length];exact F.len _ _ _ _ h
 refine wpAny_call (codeAny_mono (F.run X.A X.stack s H ⟨us,[]⟩ (us++ds) (vs++dvs) Q E hr I.env0 (hb s us I.kIn hl) r2 h) fun r s' hq=>?_)
 cases r with
 | error e=>exact hx pins σ H s e s' I hq
 | ok fl=>
  cases fl with
  | ret u=>exact I.after hq
  | next=>exact False.elim hq
  | brk=>exact False.elim hq
  | cont=>exact False.elim hq
theorem pe_call (F:fD X.prog X.w X.K X.mg X.base CX k f fd ps sp)(hr:mX k X.A)(hg:Gl X x)(hm:X.mg x=some (.ref f))(hk:PySem.W.keepIn X.K (.ref f)=true)(hb:Binds X.K fd ps ds)(hd:Vals dvs ds)(hx:Passes CX X E)
  (ha:PA X (e::es) t) (hdb:(x==("__debug__" : Str))=false:=by decide) (he:starEach (e::es) X.env=(false,eval e X.env)::starEach es X.env:=by rfl) (hpl:(backTo pos (starEach es X.env)).any (·.1)=false:=by rfl) :
  PE X (.Call (.Name x p) (e::es) [] pos) (tCall sp dvs E t):=by
 intro pins s σ H Q I h
 refine wpAny_Call_Name_kw (ld_glob I hg hm ?_ hdb)
 refine PySem.W.callWith_K (h₀:=X.base) I.ok.mod.kin hk (thn (ha pos pins s σ H _ I h) fun us s1 ⟨vs,H1,I1,r,q⟩=>⟨I1.kIn,?_⟩) he hpl
 exact run_fn F hr hb hd hx I1 r q
structure Mk (K:PySem.W.Frag) (C f:Addr):Prop where
 makes:PySem.W.makesIn K C=true
 init:PySem.W.findIn K (.ref C) "__init__" = some (some (.ref f))
 fn:PySem.W.isFn K (.ref f)=true
 kp:PySem.W.keepIn K (.ref C)=true
end
section
variable {X:Cx}{CX:CXT}{k:Nat}{f C:Addr}{fd:FuncData}{ps ks:List Str}{sp:Sp}{E:XK}{x m:Str}{p pos apos kpos:Pos}{e o:Expr}{es:List Expr}{kws:List Keyword}{te ta:TE}{t tk:TA}{nm:Option Str}
structure KBinds (K:PySem.W.Frag) (fd:FuncData) (ps ks:List Str) (g:List Value→List Value→List Value) (gV:List V→List V→List V):Prop where
 to:∀ (s:Shared) (us ws:List Value),K.In s.heap→(g us ws).length=ps.length→BindsTo s fd ⟨us,ks.zip ws⟩ (ps.zip (g us ws))
 rel:∀ {vs:List V} {us:List Value} {zs:List V} {ws:List Value},Vals vs us→Vals zs ws→Vals (gV vs zs) (g us ws)
variable {g:List Value→List Value→List Value}{gV:List V→List V→List V}
end
structure bC (N P:List Str) (sc:Scope):Prop where
 kind:sc.kind=.function
 co:sc.isCoroutine=false
 gen:sc.isGenerator=false
 nd:N.Nodup
 pre:N.take P.length=P
 par:∀ x∈P,sc.names.lookup x=some .local∨sc.names.lookup x=some .cell
 nofree:∀ y∈sc.names,y.2≠.free
theorem rB {kindOf:Str→Option NameKind}{x:Str}:∀ {binds:List (Str×Value)} {m:Str→Option Value},(∀ v,(x,v)∉binds)→bindL kindOf binds m x=m x
 | [],_,_=>rfl
 | (n,v)::r,m,h=>by
  unfold bindL
  rw [rB fun w hw=>h w (List.mem_cons_of_mem _ hw)]
  split
  ·have:x≠n:=by rintro rfl;exact h v List.mem_cons_self
   simp [this]
  ·rfl
theorem sE {kindOf:Str→Option NameKind}{x:Str}:∀ {binds:List (Str×Value)} {m:Str→Option Value},(∀ v,(x,v)∉binds)→bindC kindOf binds m x=m x
 | [],_,_=>rfl
 | (n,v)::r,m,h=>by
  unfold bindC
  rw [sE fun w hw=>h w (List.mem_cons_of_mem _ hw)]
  split
  ·rfl
  ·have:x≠n:=by rintro rfl;exact h v List.mem_cons_self
   simp [this]
theorem rM {kindOf:Str→Option NameKind}{x:Str}{v:Value}:∀ {P:List Str} {vs:List Value} {i:Nat} {m:Str→Option Value},P.Nodup→P[i]?=some x→vs[i]?=some v→kindOf x=some .local →
  bindL kindOf (P.zip vs) m x=some v
 | [],_,_,_,_,h,_,_=>by simp at h
 | _::_,[],_,_,_,_,h,_=>by simp at h
 | p::P,w::vs,0,m,nd,h1,h2,hk=>by
  simp at h1 h2;subst h1;subst h2
  show bindL kindOf ((p,w)::P.zip vs) m p=_
  unfold bindL
  rw [rB fun v hv=>(List.nodup_cons.mp nd).1 (List.of_mem_zip hv).1,if_pos hk]
  simp
 | p::P,w::vs,i+1,m,nd,h1,h2,hk=>by
  show bindL kindOf ((p,w)::P.zip vs) m x=_
  unfold bindL
  exact rM (i:=i) (List.nodup_cons.mp nd).2 (by simpa using h1) (by simpa using h2) hk
theorem sI {kindOf:Str→Option NameKind}{x:Str}{v:Value}:∀ {P:List Str} {vs:List Value} {i:Nat} {m:Str→Option Value},P.Nodup→P[i]?=some x→vs[i]?=some v→kindOf x≠some .local →
  bindC kindOf (P.zip vs) m x=some v
 | [],_,_,_,_,h,_,_=>by simp at h
 | _::_,[],_,_,_,_,h,_=>by simp at h
 | p::P,w::vs,0,m,nd,h1,h2,hk=>by
  simp at h1 h2;subst h1;subst h2
  show bindC kindOf ((p,w)::P.zip vs) m p=_
  unfold bindC
  rw [sE fun v hv=>(List.nodup_cons.mp nd).1 (List.of_mem_zip hv).1,if_neg hk]
  simp
 | p::P,w::vs,i+1,m,nd,h1,h2,hk=>by
  show bindC kindOf ((p,w)::P.zip vs) m x=_
  unfold bindC
  exact sI (i:=i) (List.nodup_cons.mp nd).2 (by simpa using h1) (by simpa using h2) hk
def start (N:List Str)(vs:List V):St:=vs.map some++List.replicate (N.length - vs.length) none
def cxOf (CX:CXT)(P:Program)(w:World)(K:PySem.W.Frag)(mg:Str→Option Value)(base:Heap)(N:List Str)(qual:Str)(scope:Scope)(f:Addr)(cd:Value)(A:Around)(outer:List Env)(s:Shared)(H:Hp)(E:XK):Cx where
 prog:=P
 w:=w
 K:=K
 mg:=mg
 base:=base
 A:=A.deeper (envOfC qual scope s.heap.objs.size f cd)
 N:=N
 s₀:=s
 H₀:=H
 env:=envOfC qual scope s.heap.objs.size f cd
 outer:=outer
 stack:=envOfC qual scope s.heap.objs.size f cd::outer
 ex:=[]
 calm:=A.handled.isNone
 fn:=fun _=>true
 pn:=[]
 xe:=fun e s'=>wpAny (model P w) (A.deeper (envOfC qual scope s.heap.objs.size f cd)) (leaving (envOfC qual scope s.heap.objs.size f cd) e) (fun _ s''=>CX outer H s E e s'') (fun e' s''=>CX outer H s E e' s'') s'
theorem wg {sc:Scope}{n:Nat}{x:Str}(h:sc.names.lookup x=some .cell):∃ c,(cellsFrom n sc.names []).lookup x=some c:=by
 have q:=PySem.W.cellsFrom_some sc.names n [] (.inl h)
 exact Option.isSome_iff_exists.mp q
theorem zP {CX:CXT}{P:Program}{w:World}{K:PySem.W.Frag}{mg:Str→Option Value}{base:Heap}{N ps:List Str}{qual:Str}{scope:Scope}{f:Addr}{cd:Value}{A:Around}{outer:List Env}{s s1:Shared}{H:Hp}{E:XK}{us:List Value}{vs:List V}
  (S:bC N ps scope) (e0:Env0 P w K mg base A outer s H) (hl:vs.length=ps.length) (r:Vals vs us)
  (x:InCallC s s.heap.objs.size (bindL (envOfC qual scope s.heap.objs.size f cd).kindOf (ps.zip us) fun _=>none) (cellsFrom (s.heap.objs.size+1) scope.names []) (bindC (envOfC qual scope s.heap.objs.size f cd).kindOf (ps.zip us) fun _=>none) s1) :
  Inv (cxOf CX P w K mg base N qual scope f cd A outer s H E) [] (start N vs) H s1:=by
 have hpl:ps.length≤N.length:=by have:=congrArg List.length S.pre;rw [List.length_take] at this;omega
 obtain ⟨h1,tk,rfl,hk⟩:=x.done
 have noA:∀ b:Addr,b∉(cxOf CX P w K mg base N qual scope f cd A outer s H E).ex:=fun b z=>absurd (show b∈([]:List Addr) from z) (by simp)
 refine ⟨⟨e0.mod,S.kind,rfl,rfl,Nat.le_refl _,fun y z c h1 h2=>?_,fun y hy=>?_,fun y c _ h=>?_,fun z=>Option.isNone_iff_eq_none.mp (show A.handled.isNone=true from z),e0.qt,Around.frames_deeper e0.frames,.inr ⟨rfl,rfl⟩,fun b z=>absurd z (noA b),e0.bs,e0.bsz,fun b _ _=>noA b,fun b z=>absurd z (noA b),e0.funs,e0.frf⟩,
  rfl,e0.bare,Un.kept hk,⟨_,x.toInCall.ns,fun i y v h1 h2 h3=>?_⟩,fun y c h=>⟨_,x.cell y c h⟩,e0.hok.fresh (Nat.le_refl _),fun y c h=>?_,fun p hp=>absurd (show p∈([]:List (Addr×Obj)) from hp) (by simp),e0.hok.kept hk,?_⟩
 ·exact name_of_addr x.apart (PySem.mem_of_lookup h1) (PySem.mem_of_lookup h2)
 ·have hy:scope.names.lookup y=some .cell∨scope.names.lookup y=some .free:=hy
  rcases hy with hy | hy
  ·exact wg hy
  ·exact absurd rfl (S.nofree _ (PySem.mem_of_lookup hy))
 ·exact Nat.le_of_lt (x.above y c (PySem.mem_of_lookup h))
 ·have hi:i<vs.length:=by
   unfold start at h2
   by_cases hi:i<vs.length
   ·exact hi
   ·rw [List.getElem?_append_right (by simpa using hi)] at h2
    rw [List.getElem?_replicate] at h2
    split at h2 <;> cases h2
  have ha:vs[i]?=some v:=by
   unfold start at h2
   rw [List.getElem?_append_left (by simpa using hi),List.getElem?_map] at h2
   cases e:vs[i]? with
   | none=>rw [e] at h2;cases h2
   | some a=>rw [e] at h2;cases h2;rfl
  obtain ⟨u,hu,rv⟩:=r.get ha
  have hp:ps[i]?=some y:=by
   rw [←S.pre,List.getElem?_take_of_lt (by omega)];exact h1
  have ndP:ps.Nodup:=by rw [←S.pre];exact S.nd.sublist (List.take_sublist _ _)
  refine ⟨u,rv,?_⟩
  rcases S.par y (List.mem_of_getElem? hp) with k | k
  ·exact .inl ⟨k,rM ndP hp hu k⟩
  ·obtain ⟨c,e⟩:=wg (n:=s.heap.objs.size+1) k
   refine .inr ⟨.inl k,c,e,?_⟩
   have q:=x.cell y c e
   rw [sI ndP hp hu (by show scope.names.lookup y≠_;rw [k];decide)] at q
   exact q
 ·exact e0.hok.fresh (Nat.le_of_lt (x.above y c (PySem.mem_of_lookup h)))
 ·unfold start
  show _=N.length
  rw [List.length_append,List.length_map,List.length_replicate]
  omega
theorem fn_of {CX:CXT}{P:Program}{w:World}{K:PySem.W.Frag}{mg:Str→Option Value}{base:Heap}{k:Nat}{f:Addr}{name qual:Str}{params:Arguments}{body:List Stmt}{scope:Scope}{dV kV doc pm cdv ct oc:Value}{an od:Option Addr}
  {osl:Array (Option Value)} {N ps:List Str} {sp:Sp} (lk:K.lookup f=some ⟨oc,od,.func (PySem.W.fnOf name qual params body scope dV kV doc pm an cdv ct),osl⟩) (hcd:PySem.W.codeIn K cdv qual=true) (S:bC N ps scope)
  (len:∀ vs H Q E,sp vs H Q E→vs.length=ps.length)
  (hbody:∀ (A:Around) (outer:List Env) (s:Shared) (H:Hp) (vs:List V) (Q:VK) (E:XK),mX k (A.deeper (envOfC qual scope s.heap.objs.size f cdv))→sp vs H Q E →
   ∃ t,PSs (cxOf CX P w K mg base N qual scope f cdv A outer s H E) body t∧t { nx:=fun _ H'=>Q .non H',rt:=Q } (start N vs) H) :
  fD P w K mg base CX (k+1) f (PySem.W.fnOf name qual params body scope dV kV doc pm an cdv ct) ps sp:=by
 refine ⟨len,fun A outer s H args us vs Q E hr e0 hb r hsp=>?_⟩
 have hl:=len _ _ _ _ hsp
 have KX:K.In s.heap:=e0.mod.kin.keeps fun b o e=>(e0.bs b o e).1
 have lim:s.heap.NoLimit:=e0.mod.nolimit.keeps fun b o e=>(e0.bs b o e).1
 have hkind:∀ y∈ps.zip us,scope.names.lookup y.1=some .local∨(scope.names.lookup y.1=some .cell∧((cellsFrom (s.heap.objs.size+1) scope.names []).lookup y.1).isSome=true):=fun ⟨n,v⟩ hy=>by
  rcases S.par n (List.of_mem_zip hy).1 with q | q
  ·exact .inl q
  ·exact .inr ⟨q,PySem.W.cellsFrom_some _ _ _ (.inl q)⟩
 refine codeAny_call_function hr.depth (KX _ _ lk) rfl S.co S.gen rfl (PySem.W.codeRec_of KX hcd) (hb _ _ _ _ ?_)
 refine wpAny_newFunctionEnv_cells S.kind hkind fun env he s1 x=>?_
 subst he
 refine ⟨lim.keeps x.toInCall.keep,codeAny_func ?_⟩
 obtain ⟨t,ht,hq⟩:=hbody A outer s H vs Q E (hr.deeper _) hsp
 have I:Inv (cxOf CX P w K mg base N qual scope f cdv A outer s H E) [] (start N vs) H s1:=zP S e0 hl r x
 refine wpAny_mono (ht [] s1 (start N vs) H _ I hq) (fun fl s' hs=>?_) fun e s' hs=>hs
 have fin:∀ {σ':St} {H':Hp} {v:V} {u:Value},Inv (cxOf CX P w K mg base N qual scope f cdv A outer s H E) [] σ' H' s'→RelV v u→Q v H'→CE outer P w H s Q u s':=
  fun {σ' H' v u} J rv q=>⟨v,H',J.os,J.bare,J.base,J.hok,rv,q⟩
 cases fl with
 | ret u=>
  obtain ⟨v,σ',H',J,rv,q⟩:=hs
  exact fin J rv q
 | next=>
  obtain ⟨σ',H',J,q⟩:=hs
  exact fin (v:=V.non) (u:=Value.none) J rfl q
 | brk=>
  obtain ⟨_,_,_,q⟩:=hs
  exact False.elim q
 | cont=>
  obtain ⟨_,_,_,q⟩:=hs
  exact False.elim q
end L2
namespace L2
open PySem PySem.Spec PyProof.Rows
section
variable {X:Cx}{x:Str}{p pos:Pos}{e:Expr}{es:List Expr}{t:TA}{id T:String}{r:List V→Hp→VK→Prop}
def tCB (r:List V→Hp→VK→Prop)(t:TA):TE:=fun σ H Q=>t σ H fun vs H1=>r vs H1 Q
theorem pe_callB (hc:jf X (.builtin id) r)(hg:Gl X x)(hm:X.mg x=none)(hv:bootBuiltins x=some (.builtin id))(ha:PA X (e::es) t)(hn:x ≠ "__name__":=by decide)(hdb:(x==("__debug__" : Str))=false:=by decide)
  (he:starEach (e::es) X.env=(false,eval e X.env)::starEach es X.env:=by rfl) (hpl:(backTo pos (starEach es X.env)).any (·.1)=false:=by rfl):PE X (.Call (.Name x p) (e::es) [] pos) (tCB r t):=by
 intro pins s σ H Q I h
 refine wpAny_Call_Name_kw (jU I hg hm hv ?_ hn hdb)
 exact PyProof.Rows.callWith_builtin1 (thn (ha pos pins s σ H _ I h) fun us s1 ⟨vs,H1,I1,r1,q1⟩=>hc pins s1 σ H1 vs us Q I1 r1 q1) he hpl
theorem pe_callTy (hc:jf X (.type T) r)(hg:Gl X x)(hm:X.mg x=none)(hv:bootBuiltins x=some (.type T))(ha:PA X (e::es) t)(hn:x ≠ "__name__":=by decide)(hdb:(x==("__debug__" : Str))=false:=by decide)
  (he:starEach (e::es) X.env=(false,eval e X.env)::starEach es X.env:=by rfl) (hpl:(backTo pos (starEach es X.env)).any (·.1)=false:=by rfl):PE X (.Call (.Name x p) (e::es) [] pos) (tCB r t):=by
 intro pins s σ H Q I h
 refine wpAny_Call_Name_kw (jU I hg hm hv ?_ hn hdb)
 exact PyProof.Rows.callWith_type1 (thn (ha pos pins s σ H _ I h) fun us s1 ⟨vs,H1,I1,r1,q1⟩=>hc pins s1 σ H1 vs us Q I1 r1 q1) he hpl
end
end L2
namespace HT
open PySem PyProof.Rows
section
open PySem.SeqAt
open PySem.AutoSeq1 (wpAny_loadPart')
open PySem.MeetsSeq PySem.MeetsSeq2 PySem.MeetsSeq3
end
section
variable {prog:Program}{w:World}{A:Around}{E:Value→Shared→Prop}{s:Shared}
theorem cat_tup {t b:Addr}{vs ws:List Value}{Q:Value→Shared→Prop}(ht:IsTup s.heap t vs.toArray)(hb:IsTup s.heap b ws.toArray)(hv:vs≠[])
  (h1:ws=[]→Q (.ref t) s) (h2:ws≠[]→Q (.ref s.heap.objs.size) { s with heap:=s.heap.push { cls:=.type "tuple",data:=.seq (vs++ws).toArray } })
  (hsz:vs.length+ws.length≤sizeLine):wpAny (model prog w) A (binaryOp .Add (.ref t) (.ref b)) Q E s:=by
 obtain ⟨⟨cls,dd,data,sl⟩,ho,hc,n,hd⟩:=id ht
 obtain ⟨⟨cls2,dd2,data2,sl2⟩,ho2,hc2,n2,hd2⟩:=id hb
 simp only at hc hd hc2 hd2
 subst hc hd hc2 hd2
 have e:vs.toArray++ws.toArray=(vs++ws).toArray:=by simp
 by_cases hw:ws=[]
 ·exact concat_meets ⟨_,ho,rfl⟩ ⟨_,ho2,rfl⟩ noFill_tuple_add seq_tuple_add PySem.F.slot_tuple_add PySem.F.entry_tuple_add (PySem.F.args_tuple_add_2 _ _)
   (tuple_addW1 t b vs.toArray ws.toArray n n2 dd dd2 sl sl2 (by simpa using hv) (by simp [hw])) ⟨ho,ho2,h1 hw⟩
 ·refine concat_meets ⟨_,ho,rfl⟩ ⟨_,ho2,rfl⟩ noFill_tuple_add seq_tuple_add PySem.F.slot_tuple_add PySem.F.entry_tuple_add (PySem.F.args_tuple_add_2 _ _)
   (tuple_addW2 t b vs.toArray ws.toArray n n2 dd dd2 sl sl2 (by simpa using hv) (by simpa using hw) (by rw [List.size_toArray,List.size_toArray];exact hsz)) ⟨ho,ho2,?_⟩
  rw [e]
  exact h2 hw
end
end HT
namespace L2
open PySem PySem.Spec PyProof.Rows
abbrev TO:=St→Hp→(Option Int→Hp→Prop)→Prop
theorem intsAre_of {ns:List Int}:∀ {us:List Value},Vals (ns.map V.int) us→IntsAre us ns:=by
 induction ns with
 | nil=>intro us r;rw [List.map_nil] at r;cases r;exact .nil
 | cons n ns ih=>
  intro us r
  rw [List.map_cons] at r
  cases r with
  | cons r1 r2=>
   obtain ⟨t,e⟩:=r1
   subst e
   exact .cons n t (ih r2)
section
variable {X:Cx}{e:Expr}{te:TE}{lo hi:Option Expr}{tl th:TO}{pos p2:Pos}
def rCatT (K:PySem.W.Frag):R2:=fun x y H Q=>∃ a b xs ys,x=.ref a∧y=.ref b∧SqT K H a xs∧SqT K H b ys∧xs≠[]∧xs.length+ys.length≤sizeLine ∧
 (ys=[]→Q (.ref a) H)∧(ys≠[]→∀ p,H p=none→Q (.ref p) (upd H p (.tup (xs++ys))))
theorem Vals.nil_iff {xs:List V}{us:List Value}(r:Vals xs us):us=[]↔xs=[]:=by
 cases r with
 | nil=>simp
 | cons _ _=>simp
theorem op_catT:OpR X (binaryOp .Add) (rCatT X.K):=by
 intro pins s σ H x y v u Q I rx ry h
 obtain ⟨a,b,xs,ys,rfl,rfl,ha,hb,hx,hz,q1,q2⟩:=h
 cases rx
 cases ry
 obtain ⟨its,r1,p1,_⟩:=I.tuple ha
 obtain ⟨its2,r2,p2,_⟩:=I.tuple hb
 refine HT.cat_tup p1 p2 (fun z=>hx (r1.nil_iff.mp z)) (fun z=>⟨.ref a,H,I,rfl,q1 (r2.nil_iff.mp z)⟩) (fun z=>?_) (by rw [←r1.length,←r2.length];exact hz)
 refine ⟨.ref s.heap.objs.size,_,I.laid (t':=s.toks) (o:=.tup (xs++ys)) (fun b ob q=>Heap.get?_push_of_some _ q) (Nat.le_refl _) ?_,rfl,q2 (fun w=>z (r2.nil_iff.mpr w)) _ (I.hok.fresh (Nat.le_refl _))⟩
 exact ⟨by rw [List.length_append];exact hz,_,r1.append r2,TupO.new _ _⟩
end
end L2
namespace L2
open PySem PySem.Spec PyProof.Rows
def ixN (n:Nat)(i:Int):Option Nat:=if 0≤i then (if i<n then some i.toNat else none) else if -(n:Int)≤i then some (i+n).toNat else none
def atI {α : Type}(xs:List α)(i:Int):Option α:=(ixN xs.length i).bind fun j=>xs[j]?
theorem ixN_seq {n:Nat}{i:Int}{j:Nat}(h:ixN n i=some j):seqIndex? i n=some j∧j<n∧-(n:Int)≤i∧i<n:=by
 unfold ixN at h
 by_cases h0:0≤i
 ·rw [if_pos h0] at h
  by_cases h1:i<n
  ·rw [if_pos h1] at h
   have e:i.toNat=j:=Option.some.inj h
   exact ⟨by rw [seqIndex_of h0 h1,e],by omega,by omega,h1⟩
  ·rw [if_neg h1] at h;cases h
 ·rw [if_neg h0] at h
  by_cases h1:-(n:Int)≤i
  ·rw [if_pos h1] at h
   have e:(i+n).toNat=j:=Option.some.inj h
   exact ⟨by rw [seqIndex_neg (by omega) h1,e],by omega,h1,by omega⟩
  ·rw [if_neg h1] at h;cases h
theorem uI {α : Type}{xs:List α}{i:Int}{v:α}(h:atI xs i=some v):∃ j,seqIndex? i xs.length=some j∧xs[j]?=some v∧j<xs.length∧-(xs.length:Int)≤i∧i<xs.length:=by
 unfold atI at h
 cases e:ixN xs.length i with
 | none=>rw [e] at h;cases h
 | some j=>
  rw [e] at h
  obtain ⟨h1,h2,h3,h4⟩:=ixN_seq e
  exact ⟨j,h1,h,h2,h3,h4⟩
theorem mD {α : Type}{xs:List α}{j:Nat}{v:α}(h:xs[j]?=some v):atI xs (j:Int)=some v:=by
 have hj:j<xs.length:=(List.getElem?_eq_some_iff.mp h).1
 have e:ixN xs.length (j:Int)=some j:=by
  unfold ixN
  rw [if_pos (by omega),if_pos (by omega)];simp
 unfold atI;rw [e];exact h
def yF (b:Expr):Prop:=∀ o i,subscripted b false o i=operate [o,i] (getItem o i)
def IxR (X:Cx)(r:R2):Prop:=
 ∀ (value slice:Expr) (pins:List (Addr×Obj)) (s:Shared) (σ : St) (H:Hp) (x y:V) (v u:Value) (Q:VK),Inv X pins σ H s→RelV x v→RelV y u→r x y H Q →
  subscripted slice false v u=operate [v,u] (getItem v u)→wpAny (model X.prog X.w) X.A (subscriptTail value slice v u) (EP X pins σ Q) X.xe s
def MtR (X:Cx)(id:String)(r:V→List V→Hp→VK→Prop):Prop:=
 ∀ (pins:List (Addr×Obj)) (s:Shared) (σ : St) (H:Hp) (x:V) (xs:List V) (v:Value) (us:List Value) (Q:VK),Inv X pins σ H s→RelV x v→Vals xs us→r x xs H Q →
  wpAny (model X.prog X.w) X.A (call (.builtin id) (v::us)) (EP X pins σ Q) X.xe s
section
variable {X:Cx}{a b:Expr}{ta tb:TE}{pos:Pos}
theorem IxR.or {r r':R2}(h:IxR X r)(h':IxR X r'):IxR X (fun x y H Q=>r x y H Q∨r' x y H Q):=by
 intro value slice pins s σ H x y v u Q I rx ry q hs
 rcases q with q | q
 ·exact h value slice pins s σ H x y v u Q I rx ry q hs
 ·exact h' value slice pins s σ H x y v u Q I rx ry q hs
theorem pe_ix {r:R2}(hr:IxR X r)(ha:PE X a ta)(hb:PE X b tb)(hs:yF b):PE X (.Subscript a b pos) (tOp r ta tb):=by
 intro pins s σ H Q I h
 exact Subscript_ (binT ha hb I h fun v u s2 x y H2 I2 rx ry q=>hr a b pins s2 σ H2 x y v u Q I2 rx ry q (hs _ _))
def rIxL (K:PySem.W.Frag):R2:=fun x y H Q=>∃ p xs i v,x=.ref p∧y=.int i∧SqL K H p xs∧atI xs i=some v∧Q v H
def rIxT (K:PySem.W.Frag):R2:=fun x y H Q=>∃ p xs i v,x=.ref p∧y=.int i∧SqT K H p xs∧atI xs i=some v∧Q v H
def rIxS:R2:=fun x y H Q=>∃ z i c,x=.str z∧y=.int i∧z.length≤sizeLine∧atI z.cps.toList i=some c∧Q (.str ⟨#[c]⟩) H
theorem ix_list:IxR X (rIxL X.K):=by
 intro value slice pins s σ H x y v u Q I rx ry h hs
 obtain ⟨p,xs,i,z,rfl,rfl,hq,he,q⟩:=h
 cases rx
 obtain ⟨t,rfl⟩:=ry
 obtain ⟨its,r,pl,hz⟩:=I.list hq
 obtain ⟨j,h1,h2,h3,h4,h5⟩:=uI he
 obtain ⟨w,ew,rw'⟩:=r.get h2
 have hl:=r.length
 have hn:=qL
 have fin:EP X pins σ Q w s:=⟨z,H,I,rw',q⟩
 by_cases h0:0≤i
 ·have hj:i.toNat=j:=by
   rw [seqIndex_of h0 h5] at h1
   exact Option.some.inj h1
  exact item_listR pl.isList h0 (by omega) (by rw [hj];simpa using ew) fin hs
 ·have hj:(i+(its.toArray.size:Int)).toNat=j:=by
   rw [seqIndex_neg (by omega) h4] at h1
   rw [List.size_toArray,←hl]
   exact Option.some.inj h1
  exact subscriptTail_builtinR (x:=w) pl.isList.typeIs slot_list_getitem.lookup
   (wpAny_getItem_list_neg (Q:=fun r s'=>r=w∧EP X pins σ Q r s') pl.isList (by omega) (by rw [List.size_toArray] <;> omega) (by omega) (by rw [hj];simpa using ew) ⟨rfl,fin⟩) hs
theorem ix_tup:IxR X (rIxT X.K):=by
 intro value slice pins s σ H x y v u Q I rx ry h hs
 obtain ⟨p,xs,i,z,rfl,rfl,hq,he,q⟩:=h
 cases rx
 obtain ⟨t,rfl⟩:=ry
 obtain ⟨its,r,pl,hz⟩:=I.tuple hq
 obtain ⟨j,h1,h2,h3,h4,h5⟩:=uI he
 obtain ⟨w,ew,rw'⟩:=r.get h2
 have hl:=r.length
 have hn:=qL
 have fin:EP X pins σ Q w s:=⟨z,H,I,rw',q⟩
 exact subscriptTail_builtinR (x:=w) pl.typeIs slot_tuple_getitem.lookup
  (getItem_tuple (j:=j) (Q:=fun r s'=>r=w∧EP X pins σ Q r s') pl (by omega) (by omega) (by rw [List.size_toArray,←hl];exact h1) (by simpa using ew) ⟨rfl,fin⟩) hs
theorem ix_str:IxR X rIxS:=by
 intro value slice pins s σ H x y v u Q I rx ry h hs
 obtain ⟨z,i,c,rfl,rfl,hz,he,q⟩:=h
 obtain ⟨t,rfl⟩:=rx
 obtain ⟨t',rfl⟩:=ry
 obtain ⟨j,h1,h2,h3,h4,h5⟩:=uI he
 have hl:z.cps.toList.length=z.length:=by simp [Str.length]
 rw [hl] at h1 h4 h5
 have hn:=qL
 exact tail_any (typeIs_str s z t) slot_str_getitem.lookup (getItem_str (c:=c) (by
  have e1:decide (i < -(2^63:Int))=false:=decide_eq_false (by omega)
  have e2:decide (i≥2^63)=false:=decide_eq_false (by omega)
  rw [e1,e2,Bool.or_false]) (by rw [h1];simpa using h2) ⟨.str ⟨#[c]⟩,H,I.tok _,⟨_,rfl⟩,q⟩) hs
def rIx (K:PySem.W.Frag):R2:=fun x y H Q=>rIxL K x y H Q∨rIxT K x y H Q∨rIxS x y H Q
theorem ix_seq:IxR X (rIx X.K):=ix_list.or (ix_tup.or ix_str)
def flatV:V→Bool
 | .non=>true
 | .bl _=>true
 | .int _=>true
 | .str _=>true
 | _=>false
def eqV:V→V→Bool
 | .non,.non=>true
 | .bl a,.bl b=>a==b
 | .bl a,.int b=>(if a then 1 else 0)==b
 | .int a,.bl b=>a==(if b then 1 else 0)
 | .int a,.int b=>a==b
 | .str a,.str b=>a==b
 | _,_=>false
theorem eqAt_V {A:Around}{s:Shared}{y x:V}{u v:Value}(ry:RelV y u)(rx:RelV x v)(fy:flatV y=true)(fx:flatV x=true):SeqAt.EqAt A s u v (eqV y x):=by
 cases y with
 | non=>
  cases ry
  cases x with
  | non=>cases rx;exact SeqAt.EqAt.same _
  | bl b=>cases rx;exact SeqAt.EqAt.none_bool b
  | int b=>obtain ⟨t,rfl⟩:=rx;exact SeqAt.EqAt.none_int b t
  | str b=>obtain ⟨t,rfl⟩:=rx;exact SeqAt.EqAt.none_str b t
  | _=>exact absurd (show false=true from fx) Bool.false_ne_true
 | bl a=>
  cases ry
  cases x with
  | non=>cases rx;exact SeqAt.EqAt.bool_none a
  | bl b=>cases rx;exact SeqAt.EqAt.bool_bool a b
  | int b=>obtain ⟨t,rfl⟩:=rx;exact SeqAt.EqAt.bool_int a b t
  | str b=>obtain ⟨t,rfl⟩:=rx;exact SeqAt.EqAt.bool_str a b t
  | _=>exact absurd (show false=true from fx) Bool.false_ne_true
 | int a=>
  obtain ⟨t',rfl⟩:=ry
  cases x with
  | non=>cases rx;exact SeqAt.EqAt.int_none a t'
  | bl b=>cases rx;exact SeqAt.EqAt.int_bool a t' b
  | int b=>obtain ⟨t,rfl⟩:=rx;exact SeqAt.EqAt.int_int a t' b t
  | str b=>obtain ⟨t,rfl⟩:=rx;exact SeqAt.EqAt.int_str a t' b t
  | _=>exact absurd (show false=true from fx) Bool.false_ne_true
 | str a=>
  obtain ⟨t',rfl⟩:=ry
  cases x with
  | non=>cases rx;exact SeqAt.EqAt.str_none a t'
  | bl b=>cases rx;exact SeqAt.EqAt.str_bool a t' b
  | int b=>obtain ⟨t,rfl⟩:=rx;exact SeqAt.EqAt.str_int a t' b t
  | str b=>obtain ⟨t,rfl⟩:=rx;exact SeqAt.EqAt.str_str a t' b t
  | _=>exact absurd (show false=true from fx) Bool.false_ne_true
 | _=>exact absurd (show false=true from fy) Bool.false_ne_true
theorem qT:jf X (.builtin "len") (fun xs H Q=>∃ p ys,xs=[.ref p]∧(SqL X.K H p ys∨SqT X.K H p ys)∧Q (.int ys.length) H):=by
 intro pins s σ H xs us Q I r h
 obtain ⟨p,ys,rfl,hq,q⟩:=h
 obtain ⟨u,rfl,rx⟩:=vals1 r
 cases rx
 have hn:=qL
 rcases hq with hq | hq
 ·obtain ⟨its,r',pl,hz⟩:=I.list hq
  have hlen:=r'.length
  exact Calls.call_len_list pl.isList (by simp only [List.size_toArray] <;> omega) ⟨.int ys.length,H,I.tok _,⟨s.toks+1,by rw [List.size_toArray,hlen]⟩,q⟩
 ·obtain ⟨its,r',pl,hz⟩:=I.tuple hq
  have hlen:=r'.length
  exact len_tuple pl (by simp only [List.size_toArray] <;> omega) ⟨.int ys.length,H,I.tok _,⟨s.toks+1,by rw [List.size_toArray,hlen]⟩,q⟩
theorem jf.or {f:Value}{r r':List V→Hp→VK→Prop}(h:jf X f r)(h':jf X f r'):jf X f (fun xs H Q=>r xs H Q∨r' xs H Q):=by
 intro pins s σ H xs us Q I rs q
 rcases q with q | q
 ·exact h pins s σ H xs us Q I rs q
 ·exact h' pins s σ H xs us Q I rs q
theorem qz:jf X (.type "tuple") (fun xs H Q=>∃ p ys,xs=[.ref p]∧((SqL X.K H p ys∧∀ l,H l=none→Q (.ref l) (upd H l (.tup ys)))∨(SqT X.K H p ys∧Q (.ref p) H))):=by
 intro pins s σ H xs us Q I r h
 obtain ⟨p,ys,rfl,h⟩:=h
 obtain ⟨u,rfl,rx⟩:=vals1 r
 cases rx
 rcases h with ⟨hq,q⟩ | ⟨hq,q⟩
 ·obtain ⟨its,r',pl,hz⟩:=I.list hq
  have hlen:=r'.length
  refine call_tuple_list pl.isList (fun h' kp=>?_) (by simp only [List.size_toArray] <;> omega)
  have I1:Inv X pins σ H { s with heap:=h' }:=I.kept (t':=s.toks) kp
  have I2:Inv X pins σ (upd H h'.objs.size (.tup ys)) { s with heap:=h'.push { cls:=.type "tuple",data:=.seq its.toArray } }:=
   I1.laid (t':=s.toks) (fun b o e=>Heap.get?_push_of_some _ e) (Nat.le_refl _) (show dF X.prog X.w _ _ _ (.tup ys) from ⟨hz,its,r',TupO.new _ _⟩)
  exact ⟨.ref h'.objs.size,_,I2,rfl,q _ (I1.hok.fresh (Nat.le_refl _))⟩
 ·obtain ⟨its,r',pl,hz⟩:=I.tuple hq
  exact call_tuple_same pl ⟨.ref p,H,I,rfl,q⟩
def tyV (K:PySem.W.Frag)(T:String)(x:V)(H:Hp):Prop:=match x with
 | .str _=>T = "str"
 | .int _=>T = "int"
 | .ref p=>(T = "list"∧∃ xs,SqL K H p xs)∨(T = "tuple"∧∃ o,K.lookup p=some o∧o.cls=.type "tuple"∧o.dict=none) ∨
   (T = "dict"∧((∃ kvs,H p=some (.dK kvs))∨∃ kvs,H p=some (.dT kvs)))∨(T = "set"∧∃ S n,H p=some (.set S n))
 | _=>False
theorem tyV_is {pins:List (Addr×Obj)}{σ : St}{H:Hp}{s:Shared}{T:String}{x:V}{v:Value}(I:Inv X pins σ H s)(r:RelV x v)(ty:tyV X.K T x H) :
  s.TypeIs v T∧∀ a,v=.ref a→∃ ob,s.heap.get? a=some ob∧ob.dict=none:=by
 cases x with
 | str z=>
  obtain ⟨t,rfl⟩:=r
  cases (show T = "str" from ty)
  exact ⟨typeIs_str s z t,fun _ e=>nomatch e⟩
 | int i=>
  obtain ⟨t,rfl⟩:=r
  cases (show T = "int" from ty)
  exact ⟨typeIs_int s i t,fun _ e=>nomatch e⟩
 | ref p=>
  cases r
  rcases ty with ⟨rfl,xs,hq⟩ | ⟨rfl,o,hk,hc,hd⟩ | ⟨rfl,hk⟩ | ⟨rfl,S,n,hk⟩
  ·obtain ⟨its,_,pl,_⟩:=I.list hq
   refine ⟨pl.isList.typeIs,fun a e=>?_⟩
   cases e
   obtain ⟨o,n,e,c,hd,_⟩:=pl
   exact ⟨o,e,hd⟩
  ·refine ⟨⟨o,I.kIn p o hk,hc⟩,fun a e=>?_⟩
   cases e
   exact ⟨o,I.kIn _ o hk,hd⟩
  ·have z:∃ o,s.heap.get? p=some o∧o.ExactDict:=by
    rcases hk with ⟨kvs,hk⟩ | ⟨kvs,hk⟩
    ·obtain ⟨_,_,_,_,o,_,_,e,ex,_⟩:=I.hok p _ hk
     exact ⟨o,e,ex⟩
    ·obtain ⟨_,_,_,_,o,_,_,e,ex,_⟩:=I.hok p _ hk
     exact ⟨o,e,ex⟩
   obtain ⟨o,e,ex⟩:=z
   refine ⟨⟨o,e,ex.1⟩,fun a e2=>?_⟩
   cases e2
   exact ⟨o,e,ex.2.1⟩
  ·obtain ⟨o,_,_,_,e,ex,_⟩:=I.hok p _ hk
   refine ⟨⟨o,e,ex.1⟩,fun a e2=>?_⟩
   cases e2
   exact ⟨o,e,ex.2.1⟩
 | _=>exact False.elim ty
def tBM0 (K:PySem.W.Frag)(T:String)(r:V→List V→Hp→VK→Prop)(to:TE):TE:=fun σ H Q=>to σ H fun x H1=>tyV K T x H1∧r x [] H1 Q
def tBM (K:PySem.W.Frag)(T:String)(r:V→List V→Hp→VK→Prop)(to:TE)(t:TA):TE:=fun σ H Q=>to σ H fun x H1=>tyV K T x H1∧t σ H1 fun xs H2=>r x xs H2 Q
variable {o e:Expr}{es:List Expr}{to:TE}{t:TA}{name:Str}{apos cpos:Pos}{T id:String}{r:V→List V→Hp→VK→Prop}
theorem pe_bm0 (pa:PlainAttrs T)(slot:Slot T name id)(hty:typeOf (.builtin id)=pure (.type "method_descriptor"))(hm:MtR X id r)(ho:PE X o to)
  (hbase:attributeBase o name X.env (eval o X.env)=eval o X.env:=by rfl) (hline:(apos.endLine==cpos.line)=true:=by rfl):PE X (.Call (.Attribute o name apos) [] [] cpos) (tBM0 X.K T r to):=by
 intro pins s σ H Q I h
 refine wpAny_Call_method0_late hbase hline (thn (ho pins s σ H _ I h) fun v s1 ⟨x,H1,I1,r1,ty,q1⟩=>?_)
 obtain ⟨h1,h2⟩:=tyV_is I1 r1 ty
 exact ⟨T,id,pa,slot,hty,h1,h2,Calls.callWith_builtin rfl (PySem.evalArgs_none (hm pins s1 σ H1 x [] v [] Q I1 r1 .nil q1))⟩
theorem pe_bm (pa:PlainAttrs T)(slot:Slot T name id)(hty:typeOf (.builtin id)=pure (.type "method_descriptor"))(hm:MtR X id r)(ho:PE X o to)(ha:PA X (e::es) t)
  (hbase:attributeBase o name X.env (eval o X.env)=eval o X.env:=by rfl)
  (hfew:((backTo cpos (starEach (e::es) X.env)).all (fun x=>!x.1)&&(backToKw cpos (keywordEach [] X.env)).all (fun x=>x.1.isSome)
   && decide ((e::es).length+([]:List Keyword).length+(if ([]:List Keyword).isEmpty then 0 else 1)<30))=true:=by rfl)
  (hline:(apos.endLine==cpos.line)=true:=by rfl) (hs:starEach (e::es) X.env=(false,eval e X.env)::starEach es X.env:=by rfl) (hplain:(backTo cpos (starEach es X.env)).any (·.1)=false:=by rfl) :
  PE X (.Call (.Attribute o name apos) (e::es) [] cpos) (tBM X.K T r to t):=by
 intro pins s σ H Q I h
 refine wpAny_Call_method_late hbase hfew hline rfl (thn (ho pins s σ H _ I h) fun v s1 ⟨x,H1,I1,r1,ty,q1⟩=>?_)
 obtain ⟨h1,h2⟩:=tyV_is I1 r1 ty
 refine ⟨T,id,pa,slot,hty,h1,h2,?_⟩
 have hA:=ha cpos pins s1 σ H1 _ I1 q1
 rw [hs] at hA ⊢
 refine Calls.callWith_builtin (by show (false||(backTo cpos (starEach es X.env)).any (·.1))=false;rw [hplain] <;> rfl) (Calls.evalArgs_plain ?_)
 exact thn hA fun us s2 ⟨vs,H2,I2,r2,q2⟩=>hm pins s2 σ H2 x vs v us Q I2 r1 r2 q2
/- xs.append(e), list.index on a module's tuple .. are MtR facts of 06m -/
end
end L2
namespace L2
open PySem PySem.Spec PyProof.Rows
def MtM (X:Cx)(id:String)(r:V→List V→Hp→VK→Prop):Prop:=
 ∀ (pins:List (Addr×Obj)) (s:Shared) (σ : St) (H:Hp) (x:V) (xs:List V) (v:Value) (us:List Value) (Q:VK),Inv X pins σ H s→RelV x v→Vals xs us→r x xs H Q →
  wpAny (model X.prog X.w) X.A (call (.builtin id) (v::us)) (EP X pins σ Q) X.xe s
theorem Vals.one:∀ {x:V} {us:List Value},Vals [x] us→∃ u,us=[u]∧RelV x u
 | _,_,.cons r .nil=>⟨_,rfl,r⟩
theorem Vals.zero:∀ {us:List Value},Vals [] us→us=[]
 | _,.nil=>rfl
section
variable {X:Cx}{pins:List (Addr×Obj)}{σ : St}{H:Hp}{s:Shared}{l b:Addr}{xs ys zs:List V}
theorem Inv.lset {its its':List Value}{n:Nat}{f:Array Value→Array Value}{t':Nat}(I:Inv X pins σ H s)(hH:H l=some (.lst xs))
  (e:s.heap.get? l=some { cls:=.type "list",data:=.seq its.toArray n }) (hf:f its.toArray=its'.toArray) (hv:Vals ys its') (hz:ys.length≤sizeLine) :
  Inv X pins σ (upd H l (.lst ys)) { s with heap:=s.heap.update l (Obj.mapSeq f),toks:=t' }:=by
 have q:=PySem.IsL.update e f
 rw [hf] at q
 refine I.write (x:=l) (e:=l) (by rw [hH];exact trivial) (.inl rfl) (fun b' u hb hu=>(Heap.get?_update_other s.heap (Obj.mapSeq f) (Ne.symm hb)).trans hu) ⟨_,q⟩ ?_
 exact ⟨hz,its',_,hv,q⟩
theorem Inv.lnew {its:List Value}{t':Nat}(I:Inv X pins σ H s)(hv:Vals ys its)(hz:ys.length≤sizeLine) :
  Inv X pins σ (upd H s.heap.objs.size (.lst ys)) { s with heap:=s.heap.push { cls:=.type "list",data:=.seq its.toArray },toks:=t' }:=
 I.laid (fun _ _ q=>Heap.get?_push_of_some _ q) (Nat.le_refl _) ⟨hz,its,0,hv,Heap.get?_push_size _ rfl⟩
theorem Inv.fresh (I:Inv X pins σ H s):H s.heap.objs.size=none:=I.hok.fresh (Nat.le_refl _)
theorem Inv.lstM (I:Inv X pins σ H s)(hH:H l=some (.lst xs)):xs.length≤sizeLine∧∃ (its:List Value) (n:Nat),Vals xs its∧xs.length=its.length∧s.heap.get? l=some { cls:=.type "list",data:=.seq its.toArray n }:=by
 obtain ⟨z,its,n,r,e⟩:=I.hok l _ hH
 exact ⟨z,its,n,r,r.length,e⟩
end
section
variable {X:Cx}
def rAppend:V→List V→Hp→VK→Prop:=fun x vs H Q=>∃ l xs y,x=.ref l∧vs=[y]∧H l=some (.lst xs)∧xs.length<sizeLine∧Q .non (upd H l (.lst (xs++[y])))
theorem qQ:MtM X "list.append" rAppend:=by
 intro pins s σ H x vs v us Q I rx rv h
 obtain ⟨l,xs,y,rfl,rfl,hH,hz,q⟩:=h
 cases rx
 obtain ⟨u,rfl,ru⟩:=rv.one
 obtain ⟨z,its,n,r,hl,e⟩:=I.lstM hH
 refine call_meets F.slot_list_append ⟨_,e,rfl⟩ F.entry_list_append (F.args_list_append_2 _ _) (PySem.list_append l its.toArray n u (by rw [List.size_toArray];omega)) ⟨e,?_⟩
 refine ⟨.non,_,I.lset (its':=its++[u]) hH e (by simp) (r.append (.cons ru .nil)) ?_,rfl,q⟩
 rw [List.length_append,List.length_singleton]
 omega
def rCat:R2:=fun x y H Q=>∃ l b xs zs,x=.ref l∧y=.ref b∧H l=some (.lst xs)∧H b=some (.lst zs)∧xs.length+zs.length≤sizeLine∧∀ p,H p=none→Q (.ref p) (upd H p (.lst (xs++zs)))
theorem op_cat:OpR X (binaryOp .Add) rCat:=by
 intro pins s σ H x y v u Q I rx ry h
 obtain ⟨l,b,xs,zs,rfl,rfl,hH,hB,hz,q⟩:=h
 cases rx
 cases ry
 obtain ⟨z,its,n,r,hl,e⟩:=I.lstM hH
 obtain ⟨z2,its2,n2,r2,hl2,e2⟩:=I.lstM hB
 refine PySem.P.add_list e e2 ?_ (by rw [List.size_toArray,List.size_toArray];omega)
 have ea:its.toArray++its2.toArray=(its++its2).toArray:=by simp
 rw [ea]
 exact ⟨.ref _,_,I.lnew (t':=s.toks) (r.append r2) (by rw [List.length_append];omega),rfl,q _ I.fresh⟩
end
section
variable {prog:Program}{w:World}{A:Around}{E:Value→Shared→Prop}{s:Shared}
end
section
variable {X:Cx}
end
end L2
namespace Att
open PySem PySem.W PySem.Calls PyProof.Rows
theorem lO {P:Params}{h:Heap}:∀ (ns:List Int) (vs:List Value),WellAll P h vs (ns.map WData.int)→IntsAre vs ns:=by
 intro ns
 induction ns with
 | nil=>
  intro vs w
  rw [List.map_nil] at w
  cases w
  exact .nil
 | cons n ns ih=>
  intro vs w
  rw [List.map_cons] at w
  cases w with
  | cons a b=>
   cases a
   exact .cons _ _ (ih _ b)
theorem zU {l:OpenLaw}{n:Nat}(hn:l.most=some n){P:Params}{h:Heap}{args:List WData}{vals:List Value}
  (hpre:l.row.toRowW.claim.pre args=true) (hwl:WellAll P h vals args) :
  ∃ a vs ns,vals=[Value.ref a]∧args=[WData.list (ns.map WData.int)]∧h.get? a=some { cls:=.type "list",data:=.seq vs.toArray }∧IntsAre vs ns∧ns.length≤n:=by
 have hsh:WShape.hasAll [] args [.list .int]=true:=(pre_splitW hpre).1
 have hc:l.pre.holds [] { args:=args }=true:=(pre_splitW hpre).2
 obtain ⟨d,r,rfl,h1,h2⟩:=hasAllW_cons hsh
 obtain rfl:=hasAllW_nil h2
 obtain ⟨xs,rfl,h3⟩:=hasW_list h1
 obtain ⟨ns,rfl⟩:=items_int h3
 have hlen:ns.length≤n:=by
  unfold OpenLaw.pre at hc
  have h4:(WTm.not (.lt (.lit (.int (n:Int))) (.len (.arg 0)))).holds [] { args:=[.list (ns.map .int)] }=true:=by
   have h4:=(holds_andW hc).1
   rw [hn] at h4
   exact h4
  have h5:=condW_of h4 (w_not (w_lt w_lit (w_len_list (w_arg rfl))))
  rw [List.length_map] at h5
  refine Nat.le_of_not_lt fun q=>?_
  have q':(n:Int)<((ns.length:Nat):Int):=by omega
  first
   | (rw [decide_eq_true q'] at h5;exact absurd h5 (by decide))
   | (simp at h5;omega)
 cases hwl with
 | cons w1 w2=>
  cases w2
  cases w1 with
  | list ho hall=>exact ⟨_,_,ns,rfl,rfl,ho,lO ns _ hall,hlen⟩
theorem z7 (l:OpenLaw)(args:List WData):l.row.toRowW.claim.post args (.bool true) args=true:=
 postW_of (r:=l.row.toRowW) (X:=(true==true))
  (show WShape.has [] (.bool true) .bool=true by first | rfl | decide | simp [WShape.has,WShape.arms,WShape.armsAll])
  (show (WTm.eq .res (.lit (.bool true))).value [] { args:=args,res:=some (.bool true),after:=args }=some (.bool (true==true)) from w_eq_bool (w_res rfl) w_lit) rfl
theorem ug {l:OpenLaw}{n:Nat}{q:Program}{loose:List Str}{XP:(Str→Option Value)→Heap→Prop}{YP:World→Heap→Prop}{d:DefRec}
  (hn:l.most=some n) (hdf:d.params.defaults=[])
  (call:∀ (w:World) (s₀ s₁ : Shared) (mg mb:Str→Option Value) (fa:Addr) (o:Obj) (pm cd doc:Value) (a:Addr) (vs:List Value) (ns:List Int),
   Ground q loose [] XP w s₀ mg mb s₁.heap→YP w s₁.heap →
   s₁.heap.get? fa=some o→o.data=.func (docDef d.name d.params d.body d.scope pm cd doc)→s₁.heap.CodeRec cd d.name→mg d.name=some (.ref fa) →
   s₁.heap.get? a=some { cls:=.type "list",data:=.seq vs.toArray }→IntsAre vs ns→ns.length≤n→s₁.gens = #[] →
   codeAny (model l.prog w) callerA (.call (.ref fa) ⟨[.ref a],[]⟩) (fun r s'=>r=.ok (.ret (.bool true))∧OldK s₁.heap s'.heap∧s'.os=s₁.os∧AllBare s'.gens) s₁) :
  WalkO q loose XP YP l.row.toRowW d [] (fun f vs=>PySem.call f vs):=by
 intro w s₀ s₁ mg mb G Y fa o pm cd doc dV kV ho hd hcd hD hmg hg args vals as hpre hlay hrd hwl hlo
 obtain rfl:dV=.none:=Dflts.none hD hdf
 obtain rfl:kV=.none:=Dflts.noKw hD
 obtain ⟨a,vs,ns,rfl,rfl,hobj,hints,hlen⟩:=zU hn hpre hwl
 refine enter_call (codeAny_mono (call w s₀ s₁ mg mb fa o pm cd doc a vs ns G Y ho (fd_plain hd) hcd hmg hobj hints hlen hg) fun r s' hq=>?_)
 obtain ⟨rfl,h2,h3,h4⟩:=hq
 exact ⟨.inl ⟨.bool true,.bool true,[],rfl,fun _=>rfl,.bool true,z7 l _,fun _=>⟨List.Pairwise.nil,fun _ hm=>(nomatch hm)⟩⟩,h2,h3,h4⟩
section
variable {prog:Program}{w:World}{A:Around}{E:Value→Shared→Prop}{s:Shared}{K:Frag}
def ledger (h:Heap)(L d:Addr):List (Addr×Obj):=(List.range h.objs.size).filterMap fun a=>if a=L∨a=d then none else (h.get? a).map fun o=>(a,o)
end
end Att
namespace L2
open PySem PySem.Spec PyProof.Rows
theorem rQ:∀ {vs:List Value} {ns:List Int},IntsAre vs ns→Vals (ns.map V.int) vs
 | _,_,.nil=>.nil
 | _,_,.cons n t h=>.cons ⟨t,rfl⟩ (rQ h)
def Only (H:Hp):Prop:=∀ b,H b=none∨∃ o xs,H b=some (.frz o (.lst xs))
theorem law_call {P:Program}{w:World}{K:PySem.W.Frag}{mg mb:Str→Option Value}{CX:CXT}{k:Nat}{fa a:Addr}{fd:FuncData}{x:Str}{sp:Sp}{s₁ : Shared}{vs:List Value}{ns:List Int}
  (KX:K.In s₁.heap) (hns:s₁.heap.Ns mainGlobals mg) (hb:s₁.heap.Ns builtinsNs mb) (hbb:∀ x:Str,x ≠ "__name__"→mb x=bootBuiltins x) (hlim:s₁.heap.NoLimit) (hg:s₁.gens = #[])
  (ha:s₁.heap.get? a=some { cls:=.type "list",data:=.seq vs.toArray }) (hi:IntsAre vs ns) (hl:ns.length≤sizeLine) (hr:mX k callerA)
  (F:∀ base:Heap,K.In base→base.Ns mainGlobals mg→fD P w K mg base CX k fa fd [x] sp) (hbind:∀ (s:Shared) (u:Value),BindsTo s fd ⟨[u],[]⟩ [(x,u)])
  (hsp:∀ H:Hp,Only H→SqL K H a (ns.map V.int)→sp [.ref a] H (fun v _=>v=.bl true) fun _ _ _=>False)
  (hCX:∀ H e s',CX [] H s₁ (fun _ _ _=>False) e s'→False) :
  codeAny (model P w) callerA (.call (.ref fa) ⟨[.ref a],[]⟩) (fun r s'=>r=.ok (.ret (.bool true))∧OldK s₁.heap s'.heap∧s'.os=s₁.os∧AllBare s'.gens) s₁:=by
 have rv:=rQ hi
 have lenV:=hi.length
 -- from an abstract heap in which nothing but the script may be tracked
 have core:∀ H:Hp,Only H→SqL K H a (ns.map V.int)→HOk P w H s₁.heap→(∀ b,H b≠none→b=a)→(H a≠none→K.lookup a=none) →
   codeAny (model P w) callerA (.call (.ref fa) ⟨[.ref a],[]⟩) (fun r s'=>r=.ok (.ret (.bool true))∧OldK s₁.heap s'.heap∧s'.os=s₁.os∧AllBare s'.gens) s₁:=by
  intro H hO hS hok hA hK
  have base_of:∀ {b:Addr} {o:Obj},s₁.heap.get? b=some o→H b=none→(hidT s₁.heap H).get? b=some o:=fun e n=>hidT_get e n
  have noA:∀ {b:Addr} {o:Obj} {es:Array DictEntry} {ep:Nat},s₁.heap.get? b=some o→o.data=.dict es ep→H b=none:=fun {b o es ep} e d=>by
   cases q:H b with
   | none=>rfl
   | some u=>
    have e':b=a:=hA b (by rw [q];simp)
    subst e'
    rw [ha] at e;cases e
    have d':Data.seq vs.toArray _=Data.dict es ep:=d
    cases d'
  have nsK:∀ {b:Addr} {m:Str→Option Value},s₁.heap.Ns b m→(hidT s₁.heap H).Ns b m:=fun {b m} ⟨o,es,ep,e,d,r⟩=>⟨o,es,ep,base_of e (noA e d),d,r⟩
  have hKb:K.In (hidT s₁.heap H):=fun b o e=>base_of (KX b o e) (by
   cases q:H b with
   | none=>rfl
   | some u=>
    have e':b=a:=hA b (by rw [q];simp)
    subst e'
    rw [hK (by rw [q];simp)] at e;cases e)
  have hM:Mod K mg (hidT s₁.heap H):=⟨hKb,nsK hns,⟨mb,nsK hb,hbb⟩,let ⟨mc,h1,h2⟩:=hlim;⟨mc,nsK h1,h2⟩⟩
  have e0:Env0 P w K mg (hidT s₁.heap H) callerA [] s₁ H:=⟨rfl,hM,fun b o e=>of_hidT e,Nat.le_of_eq (Ab _ _),trivial,fun b hb=>absurd (show b∈([]:List Addr) from hb) (by simp),hok,.of_eq hg,fun v e=>(nomatch e)⟩
  refine codeAny_mono ((F _ hKb (nsK hns)).run callerA [] s₁ H ⟨[.ref a],[]⟩ [.ref a] [.ref a] _ _ hr e0 (hbind s₁ (.ref a)) (.cons rfl .nil) (hsp H hO hS)) fun r s' h=>?_
  cases r with
  | error e=>exact (hCX H e s' h).elim
  | ok fl=>
   cases fl with
   | next=>exact False.elim h
   | brk=>exact False.elim h
   | cont=>exact False.elim h
   | ret u=>
    obtain ⟨v,H',os,bare,un,hok',r',q⟩:=h
    have q':v=.bl true:=q
    subst q'
    obtain rfl:u=Value.bool true:=r'
    refine ⟨rfl,OldK.of_keep fun b o e=>?_,os,bare⟩
    cases q:H b with
    | none=>exact un.keep b o e q (by intro z;exact absurd (show b∈([]:List Addr) from z) (by simp)) (by simp)
    | some u=>
     rcases hO b with z | ⟨ob,xs,z⟩
     ·rw [q] at z;cases z
     ·have z2:=un.frzs b ob _ z
      obtain ⟨e1,_⟩:=hok b _ z
      obtain ⟨e2,_⟩:=hok' b _ z2
      rw [e] at e1;cases e1
      exact e2
 cases hk:K.lookup a with
 | some o=>
  -- the script is one of the module's own objects
  have e:=KX a o hk
  rw [ha] at e
  cases e
  refine core (fun _=>none) (fun _=>.inl rfl) (.inr ⟨_,vs.toArray,_,hk,rfl,rfl,rfl,by rw [List.size_toArray,lenV];exact hl,by simpa using rv⟩) (fun b u z=>by have z':(none:Option HO)=some u:=z;cases z') (fun b z=>absurd rfl z) fun z=>absurd rfl z
 | none=>
  refine core (fun b=>if b=a then some (.frz { cls:=.type "list",data:=.seq vs.toArray } (.lst (ns.map V.int))) else none) (fun b=>?_) (.inl (.inr ⟨{ cls:=.type "list",data:=.seq vs.toArray },if_pos rfl⟩)) (fun b u z=>?_) (fun b z=>?_) fun _=>hk
  ·by_cases hb:b=a
   ·exact .inr ⟨_,_,if_pos hb⟩
   ·exact .inl (if_neg hb)
  ·by_cases hb:b=a
   ·have z':=(if_pos hb).symm.trans z
    cases z'
    subst hb
    exact ⟨ha,by rw [List.length_map];exact hl,vs,_,rv,ha⟩
   ·have z':=(if_neg hb).symm.trans z
    cases z'
  ·by_cases hb:b=a
   ·exact hb
   ·exact absurd (if_neg hb) z
end L2
namespace L2
open PySem PySem.Spec PyProof.Rows
theorem walk_of {l:PySem.W.OpenLaw}{n k:Nat}{q:Program}{loose:List Str}{XP:(Str→Option Value)→Heap→Prop}{YP:World→Heap→Prop}{d:DefRec}{K:Params→PySem.W.Frag}{CX:World→CXT}{sp:World→Sp}{x:Str}
  (hn:l.most=some n) (hn2:n≤sizeLine) (hdf:d.params.defaults=[]) (hr:mX k callerA)
  (hY:∀ (w:World) (h:Heap),YP w h→(K w.params).In h)
  (F:∀ (w:World) (mg:Str→Option Value) (fa:Addr) (h:Heap),(K w.params).In h→h.Ns mainGlobals mg→mg d.name=some (.ref fa) →
   ∃ fd:FuncData,(∀ (s:Shared) (u:Value),BindsTo s fd ⟨[u],[]⟩ [(x,u)]) ∧
    ∀ base:Heap,(K w.params).In base→base.Ns mainGlobals mg→fD l.prog w (K w.params) mg base (CX w) k fa fd [x] (sp w))
  (hsp:∀ (w:World) (H:Hp) (a:Addr) (ns:List Int),ns.length≤n→Only H→SqL (K w.params) H a (ns.map V.int)→sp w [.ref a] H (fun v _=>v=.bl true) fun _ _ _=>False)
  (hCX:∀ (w:World) (H:Hp) (s:Shared) (e:Value) (s':Shared),CX w [] H s (fun _ _ _=>False) e s'→False) :
  PySem.W.WalkO q loose XP YP l.row.toRowW d [] (fun f vs=>PySem.call f vs):=by
 refine Att.ug hn hdf fun w s₀ s₁ mg mb fa o pm cd doc a vs ns G Y ho hd hcd hmg hobj hints hlen hg=>?_
 have KX:=hY w _ Y
 obtain ⟨fd,hb,hF⟩:=F w mg fa _ KX G.T.g hmg
 exact law_call KX G.T.g G.T.b G.T.builtins G.T.nolimit hg hobj hints (Nat.le_trans hlen hn2) hr hF hb (fun H hO hS=>hsp w H a ns hlen hO hS) fun H e s'=>hCX w H s₁ e s'
end L2
/- THE LAST THEOREM (shape; LID, My.* are yours):
   My.Adr: a structure of the addresses that your layer names (classes,functions);My.Txt K t: a structure (Prop) of the equations over K;
   My.txt_mk:{K} {implicit addresses ..} (e1:nsIn K mainGlobals "law" = some (some (.ref f))) (e2:K.lookup f=some ⟨oc,od,.func (fnOf "law" "law" params body scope dV kV doc pm an cdv ct),sl⟩) (e3:codeIn K cdv "law" = true) .. : ∃ t,My.Txt K t
set_option maxRecDepth 100000 in
set_option maxHeartbeats 0 in
theorem PySem.Challenge.cw_LID_holds : PySem.Challenge.rw_LID.Holds := by
 w_on;o_law;k_head;(case hw=>w_witness2)
 k_fill
 refine L2.walk_of (l:=PySem.Challenge.rw_LID) (n:=63) (k:=40) (x := "script") (CX:=fun w=>..) (sp:=fun _=>My.sp_law) rfl (by decide) rfl ⟨rfl,by decide,by decide⟩ (fun w h Y=>PySem.W.kIn_of Y) ?F ?S ?C
 case F=>
  intro w mg fa h KX G hmg
  have T:∃ t,My.Txt (L2.KOf KX) t:=by
   dsimp only [L2.KOf]                          -- K must stand as «<heap const> w.params» for k_is
   refine' My.txt_mk ?e1 ?e2 ?e3 ..
   (case e1=>PySem.W.k_is)                    -- in the order: a name -> its address -> its object -> its parts
   (case e2=>PySem.W.k_is)
   ..
  obtain ⟨t,T⟩:=T
  have e0:=hmg.symm.trans (PySem.W.mg_of KX G T.law)
  cases e0                                       -- fa is the law's own address
  exact ⟨_,fun s u=>.of_eq rfl,fun base kb nb=>My.law_fn T kb nb⟩     -- if «.of_eq rfl» comes too early: refine' ⟨_,?b,fun base kb nb=>My.law_fn T kb nb⟩;exact fun s u=>.of_eq rfl
 case S=>exact fun w H a ns hl hO hS=>..
 case C=>exact ..
(the tactic k_is has no namespace: write k_is) -/
namespace L2
open PySem PySem.Spec PyProof.Rows
def lD (s:Stmt):Arguments:=match s with
 | .FunctionDef _ a _ _ _ _ _ _ _ _=>a
 | _=>{ posonlyargs:=[],args:=[],vararg:=none,kwonlyargs:=[],kw_defaults:=[],kwarg:=none,defaults:=[] }
def iC (s:Stmt):List Stmt:=match s with
 | .FunctionDef _ _ b _ _ _ _ _ _ _=>b
 | _=>[]
def aN (s:Stmt):Scope:=match s with
 | .FunctionDef _ _ _ _ _ _ sc _ _ _=>sc
 | _=>{ kind:=.function,names:=[],isGenerator:=false,isCoroutine:=false }
abbrev CX0:CXT:=fun _ _ _ _ _ _=>False
abbrev E0:XK:=fun _ _ _=>False
theorem pass0 {X:Cx}:Passes CX0 X E0:=fun _ _ _ _ _ _ _ h=>h.elim
structure Fun (K:PySem.W.Frag) (x qual:Str) (st:Stmt) (f:Addr) (fd:FuncData):Prop where
 ex:∃ (oc:Value) (od:Option Addr) (kV doc pm:Value) (an:Option Addr) (cdv ct:Value) (osl:Array (Option Value)),
  fd=PySem.W.fnOf x qual (lD st) (iC st) (aN st) .none kV doc pm an cdv ct∧K.lookup f=some ⟨oc,od,.func fd,osl⟩∧PySem.W.codeIn K cdv qual=true
 kp:PySem.W.keepIn K (.ref f)=true
section
variable {P:Program}{w:World}{K:PySem.W.Frag}{mg:Str→Option Value}{base:Heap}
theorem Fun.ok {x qual:Str}{st:Stmt}{f:Addr}{fd:FuncData}{N ps:List Str}{k:Nat}{sp:Sp}(F:Fun K x qual st f fd)(S:bC N ps (aN st))(len:∀ vs H Q E,sp vs H Q E→vs.length=ps.length)
  (hbody:∀ (cdv:Value) (A:Around) (outer:List Env) (s:Shared) (H:Hp) (vs:List V) (Q:VK) (E:XK),mX k (A.deeper (envOfC qual (aN st) s.heap.objs.size f cdv))→sp vs H Q E →
   ∃ t,PSs (cxOf CX0 P w K mg base N qual (aN st) f cdv A outer s H E).nox (iC st) t∧t { nx:=fun _ H'=>Q .non H',rt:=Q } (start N vs) H):fD P w K mg base CX0 (k+1) f fd ps sp:=by
 obtain ⟨oc,od,kV,doc,pm,an,cdv,ct,osl,rfl,lk,hcd⟩:=F.ex
 refine fn_of lk hcd S len fun A outer s H vs Q E hr hsp=>?_
 obtain ⟨t,h,q⟩:=hbody cdv A outer s H vs Q E hr hsp
 exact ⟨t,h.nox,q⟩
theorem Fun.binds {x qual:Str}{st:Stmt}{f:Addr}{fd:FuncData}{ps:List Str}(F:Fun K x qual st f fd)
  (h:∀ (kV doc pm:Value) (an:Option Addr) (cdv ct:Value) (us:List Value),us.length=ps.length→bindArgs (PySem.W.fnOf x qual (lD st) (iC st) (aN st) .none kV doc pm an cdv ct) ⟨us,[]⟩=pure (ps.zip us)):Binds K fd ps []:=by
 obtain ⟨oc,od,kV,doc,pm,an,cdv,ct,osl,rfl,lk,hcd⟩:=F.ex
 exact .all (h kV doc pm an cdv ct)
theorem bZ {x qual:Str}{st:Stmt}{f:Addr}{oc:Value}{od an:Option Addr}{osl:Array (Option Value)}{kV doc pm cdv ct:Value}(l:K.lookup f=some ⟨oc,od,.func (PySem.W.fnOf x qual (lD st) (iC st) (aN st) .none kV doc pm an cdv ct),osl⟩)
  (c:PySem.W.codeIn K cdv qual=true) (k:PySem.W.keepIn K (.ref f)=true):Fun K x qual st f (PySem.W.fnOf x qual (lD st) (iC st) (aN st) .none kV doc pm an cdv ct):=⟨⟨oc,od,kV,doc,pm,an,cdv,ct,osl,rfl,l,c⟩,k⟩
end
section
variable {X:Cx}
theorem pv (i:Nat){x:Str}{pos:Pos}(hN:X.N[i]?=some x:=by rfl)(hv:Vis X.env.scope x:=by first | exact Or.inl rfl | exact Or.inr (Or.inl rfl) | exact Or.inr (Or.inr rfl))(hd:(x==("__debug__" : Str))=false:=by decide)
  (hcd:(x==("__classdict__" : Str))=false:=by decide):PE X (.Name x pos) (tVar i):=pe_var hN hv hd hcd
end
end L2
namespace L2
open PySem PySem.Spec PyProof.Rows
end L2
namespace L2
open PySem PySem.Spec PyProof.Rows
def clGo (env:Env):List (Str×NameKind)→List (Str×Addr)→List (Str×Addr)
 | [],cs=>cs
 | (n,k)::r,cs=>clGo env r (if (k==NameKind.free)=true then (n,(env.cells.lookup n).getD 0)::cs else cs)
def clOf (scope:Scope)(env:Env):List (Str×Addr):=clGo env scope.names []
theorem oE {env:Env}{p:Str×Addr}:∀ (l:List (Str×NameKind)) (cs:List (Str×Addr)),p∈clGo env l cs→p∈cs∨((p.1,NameKind.free)∈l∧p.2=(env.cells.lookup p.1).getD 0)
 | [],cs,h=>.inl h
 | (n,k)::r,cs,h=>by
  rcases oE r _ h with h | ⟨h1,h2⟩
  ·by_cases hk:(k==NameKind.free)=true
   ·rw [if_pos hk] at h
    rcases List.mem_cons.mp h with rfl | h
    ·have e:k=NameKind.free:=by simpa using hk
     subst e
     exact .inr ⟨List.mem_cons_self,rfl⟩
    ·exact .inl h
   ·rw [if_neg hk] at h
    exact .inl h
  ·exact .inr ⟨List.mem_cons_of_mem _ h1,h2⟩
theorem wA {env:Env}{x:Str}:∀ (l:List (Str×NameKind)) (cs:List (Str×Addr)),((x,NameKind.free)∈l∨∃ c,(x,c)∈cs)→∃ c,(x,c)∈clGo env l cs
 | [],cs,h=>by
  rcases h with h | h
  ·exact absurd h (by simp)
  ·exact h
 | (n,k)::r,cs,h=>by
  refine wA r _ ?_
  rcases h with h | ⟨c,h⟩
  ·rcases List.mem_cons.mp h with e | h
   ·injection e with e1 e2
    subst e1;subst e2
    exact .inr ⟨_,by rw [if_pos (by rfl)];exact List.mem_cons_self⟩
   ·exact .inl h
  ·refine .inr ⟨c,?_⟩
   by_cases hk:(k==NameKind.free)=true
   ·rw [if_pos hk];exact List.mem_cons_of_mem _ h
   ·rw [if_neg hk];exact h
theorem fu {x:Str}{c:Addr}:∀ {l:List (Str×Addr)},(x,c)∈l→∃ c',l.lookup x=some c'
 | [],h=>absurd h (by simp)
 | (n,d)::r,h=>by
  by_cases e:x=n
  ·subst e
   exact ⟨d,by simp [List.lookup_cons]⟩
  ·rcases List.mem_cons.mp h with q | q
   ·injection q with q1 _
    exact absurd q1 e
   ·obtain ⟨c',h'⟩:=fu q
    refine ⟨c',?_⟩
    have e':(x==n)=false:=beq_eq_false_iff_ne.mpr e
    rw [List.lookup_cons,e']
    exact h'
theorem zm {scope:Scope}{env:Env}(h:∀ y∈scope.names,y.2=NameKind.free→∃ c,env.cells.lookup y.1=some c):closureFor scope env=pure (clOf scope env):=by
 unfold closureFor clOf
 have key:∀ (l:List (Str×NameKind)) (cs:List (Str×Addr)),(∀ y∈l,y.2=NameKind.free→∃ c,env.cells.lookup y.1=some c) →
   (forIn l cs (fun (x:Str×NameKind) (cs:List (Str×Addr))=>(if (x.2==NameKind.free)=true then cellOf env x.1 >>= fun c=>pure (ForInStep.yield ((x.1,c)::cs)) else pure (ForInStep.yield cs):Sem (ForInStep (List (Str×Addr))))))=pure (clGo env l cs):=by
  intro l
  induction l with
  | nil=>intro cs _;rfl
  | cons x r ih=>
   intro cs hl
   obtain ⟨n,k⟩:=x
   rw [List.forIn_cons]
   have hr:∀ y∈r,y.2=NameKind.free→∃ c,env.cells.lookup y.1=some c:=fun y hy=>hl y (List.mem_cons_of_mem _ hy)
   by_cases hk:(k==NameKind.free)=true
   ·obtain ⟨c,hc⟩:=hl (n,k) List.mem_cons_self (by simpa using hk)
    have hc':env.cells.lookup n=some c:=hc
    have e1:cellOf env n=pure c:=by unfold cellOf;rw [hc']
    simp only [hk,if_true,e1,pure_bind]
    rw [ih _ hr]
    simp only [clGo,hk,if_true,hc',Option.getD_some]
   ·simp only [hk,if_false,pure_bind,Bool.false_eq_true]
    rw [ih _ hr]
    simp only [clGo,hk,if_false,Bool.false_eq_true]
 have q:=key scope.names [] h
 simpa using q
theorem gA {y:Str}{c:Addr}:∀ {names:List (Str×NameKind)} {n:Nat} {acc:List (Str×Addr)},(y,c)∈cellsFrom n names acc↔(y,c)∈acc∨(y,c)∈cellsFrom n names []
 | [],n,acc=>by simp [cellsFrom]
 | (name,kind)::r,n,acc=>by
  unfold cellsFrom
  split
  ·rw [gA (acc:=(name,n)::acc),gA (acc:=[(name,n)])]
   simp only [List.mem_cons,List.not_mem_nil,or_false]
   exact ⟨fun h=>h.elim (fun h=>h.elim (fun h=>.inr (.inl h)) .inl) fun h=>.inr (.inr h),fun h=>h.elim (fun h=>.inl (.inr h)) fun h=>h.elim (fun h=>.inl (.inl h)) .inr⟩
  ·exact gA
theorem tQ {y:Str}{c:Addr}:∀ {names:List (Str×NameKind)} {n:Nat},(y,c)∈cellsFrom n names []→(y,NameKind.cell)∈names
 | [],n,h=>by simp [cellsFrom] at h
 | (name,kind)::r,n,h=>by
  unfold cellsFrom at h
  split at h
  ·rename_i hk
   rcases gA.mp h with q | q
   ·have hk':kind=.cell:=by simpa using hk
    simp only [List.mem_cons,List.not_mem_nil,or_false,Prod.mk.injEq] at q
    rw [q.1,hk']
    exact List.mem_cons_self
   ·exact List.mem_cons_of_mem _ (tQ q)
  ·exact List.mem_cons_of_mem _ (tQ h)
theorem cf_has {y:Str}:∀ {names:List (Str×NameKind)} {n:Nat},(y,NameKind.cell)∈names→∃ c,(y,c)∈cellsFrom n names []
 | [],n,h=>by simp at h
 | (name,kind)::r,n,h=>by
  unfold cellsFrom
  rcases List.mem_cons.mp h with q | q
  ·cases q
   rw [if_pos (by rfl)]
   exact ⟨n,gA.mpr (.inl List.mem_cons_self)⟩
  ·split
   ·obtain ⟨c,hc⟩:=cf_has (n:=n+1) q
    exact ⟨c,gA.mpr (.inr hc)⟩
   ·exact cf_has q
theorem cf_new {h:Heap}{names:List (Str×NameKind)}{y:Str}{c:Addr}(e:(y,c)∈cellsFrom h.objs.size names []):(pushCells h names).IsCell c none∧h.objs.size≤c:=
 (cellsFrom_ok names h h.objs.size [] ⟨fun _ _ z=>by simp at z,List.Pairwise.nil⟩ (Nat.le_refl _)).empty y c e
theorem cf_apart {n:Nat}{names:List (Str×NameKind)}{y z:Str}{c:Addr}(e:(y,c)∈cellsFrom n names [])(e':(z,c)∈cellsFrom n names []):y=z:=by
 have key:∀ (k:Nat),∃ h:Heap,h.objs.size=k:=fun k=>by
  induction k with
  | zero=>exact ⟨{ (default:Heap) with objs:=#[] },rfl⟩
  | succ k ih=>
   obtain ⟨h,e⟩:=ih
   exact ⟨h.push { cls:=.type "cell",data:=.cell none },by rw [Heap.size_push,e]⟩
 obtain ⟨h,rfl⟩:=key n
 exact name_of_addr (cellsFrom_ok names h h.objs.size [] ⟨fun _ _ z=>by simp at z,List.Pairwise.nil⟩ (Nat.le_refl _)).apart e e'
theorem yX {M:Model}{A:Around}{E:Value→Shared→Prop}{s:Shared}{scope:Scope}{globals:Addr}{closure:List (Str×Addr)}{qual:Str}{func:Option Addr}{code:Value}{ar:Env}{builtins:Addr}{Q:Env→Shared→Prop}
  (hQ:Q { scope:=scope,locals:=s.heap.objs.size,globals:=globals,cells:=cellsFrom (s.heap.objs.size+1) scope.names closure,qual:=qual,func:=func,code:=ar.code,frame:=ar.frame,builtins:=ar.builtins } { s with heap:=pushCells (s.heap.push { cls:=.type "dict",data:=.dict #[] }) scope.names }) :
  wpAny M A (newFunctionEnv scope globals closure [] qual func code (some ar) builtins) Q E s:=by
 simp only [newFunctionEnv,Option.isSome_some,if_true]
 refine wpAny_bind (wpAny_alloc ?_)
 refine wpAny_bind (wpAny_layCells _ (fun name kind cells=>by cases hkc:kind==NameKind.cell <;> simp [hkc]) _ _ _ _ ?_)
 rw [show ({ s with heap:=s.heap.push { cls:=.type "dict",data:=.dict #[] } }:Shared).heap.objs.size=s.heap.objs.size+1 from Heap.size_push ..]
 rw [List.forIn_nil]
 exact wpAny_bind (wpAny_pure (wpAny_pure hQ))
def blk (X:Cx)(scope:Scope)(N':List Str)(C:Addr)(s:Shared)(H:Hp)(ex:List Addr):Cx where
 prog:=X.prog
 w:=X.w
 K:=X.K
 mg:=X.mg
 base:=X.base
 A:=X.A
 N:=N'
 s₀:=s
 H₀:=H
 env:=compEnvC scope (cellsFrom (C+1) scope.names (clOf scope X.env)) C X.env
 outer:=X.stack
 stack:=X.stack
 ex:=ex
 fn:=fun y=>decide (scope.names.lookup y=some .cell)
 calm:=X.calm
 pn:=[]
 xe:=fun _ _=>False
structure iT (X:Cx) (scope:Scope) (x:List Str) (ix:List Nat):Prop where
 kind:scope.kind=.function
 own:∀ y∈x,scope.names.lookup y=some .local∨scope.names.lookup y=some .cell
 names:∀ y∈scope.names,scope.names.lookup y.1=some y.2
 free:∀ y∈scope.names,y.2=.free→X.env.scope.names.lookup y.1=some .cell∨X.env.scope.names.lookup y.1=some .free
 ixs:∀ i∈ix,scope.names.lookup (X.N.getD i "")=some .free
 nd:(x++ix.map fun i=>X.N.getD i "").Nodup
def wF:List Str→Bool
 | []=>true
 | x::r=>!(r.contains x)&&wF r
def blkB (sc:Scope)(N:List Str)(scope:Scope)(x:List Str)(ix:List Nat):Bool:=
 decide (scope.kind=.function)&&x.all (fun y=>decide (scope.names.lookup y=some .local)||decide (scope.names.lookup y=some .cell)) &&
 scope.names.all (fun y=>decide (scope.names.lookup y.1=some y.2)) &&
 scope.names.all (fun y=>!decide (y.2=.free)||decide (sc.names.lookup y.1=some .cell)||decide (sc.names.lookup y.1=some .free)) &&
 ix.all (fun i=>decide (scope.names.lookup (N.getD i "")=some .free))&&wF (x++ix.map fun i=>N.getD i "")
theorem sH:∀ {l:List Str},wF l=true→l.Nodup
 | [],_=>List.nodup_nil
 | x::r,h=>by
  unfold wF at h
  rw [Bool.and_eq_true] at h
  refine List.nodup_cons.mpr ⟨fun hm=>?_,sH h.2⟩
  have:r.contains x=true:=List.contains_iff_mem.mpr hm
  rw [this] at h
  exact absurd h.1 (by decide)
theorem dN {X:Cx}{scope:Scope}{x:List Str}{ix:List Nat}(h:blkB X.env.scope X.N scope x ix=true):iT X scope x ix:=by
 unfold blkB at h
 simp only [Bool.and_eq_true,List.all_eq_true,decide_eq_true_eq,Bool.or_eq_true,Bool.not_eq_true',decide_eq_false_iff_not] at h
 obtain ⟨⟨⟨⟨⟨h1,h3⟩,h4⟩,h5⟩,h6⟩,h7⟩:=h
 refine ⟨h1,fun y hy=>h3 y hy,fun y hy=>h4 y hy,fun y hy hk=>?_,fun i hi=>h6 i hi,sH h7⟩
 ·rcases h5 y hy with (q | q) | q
  ·exact absurd hk q
  ·exact .inl q
  ·exact .inr q
def blkσ (ix:List Nat)(σ : St):St:=ix.map fun i=>(σ[i]?).getD none
abbrev gq (X:Cx)(x:List Str)(ix:List Nat):List Str:=x++ix.map fun i=>X.N.getD i ""
theorem dX {scope:Scope}{env:Env}{x:Str}:∀ {names:List (Str×NameKind)} {k:NameKind},
  (names.map fun (p:Str×NameKind)=>if (p.2==NameKind.free&&env.scope.kind==.function&&env.kindOf p.1==some .cell)=true then (p.1,NameKind.cell) else (p.1,p.2)).lookup x=some k →
  names.lookup x=some k∨(k=.cell∧names.lookup x=some .free)
 | [],k,h=>by simp at h
 | (n,k')::r,k,h=>by
  rw [List.map_cons] at h
  cases hx:x==n with
  | true=>
   by_cases hc:(k'==NameKind.free&&env.scope.kind==.function&&env.kindOf n==some .cell)=true
   ·rw [if_pos hc] at h
    simp only [List.lookup_cons,hx] at h
    have hk:k'=.free:=by
     have:=(Bool.and_eq_true_iff.mp (Bool.and_eq_true_iff.mp hc).1).1
     simpa using this
    subst hk
    cases h
    exact .inr ⟨rfl,by simp [List.lookup_cons,hx]⟩
   ·rw [if_neg hc] at h
    simp only [List.lookup_cons,hx] at h
    cases h
    exact .inl (by simp [List.lookup_cons,hx])
  | false=>
   have h':(r.map fun (p:Str×NameKind)=>if (p.2==NameKind.free&&env.scope.kind==.function&&env.kindOf p.1==some .cell)=true then (p.1,NameKind.cell) else (p.1,p.2)).lookup x=some k:=by
    by_cases hc:(k'==NameKind.free&&env.scope.kind==.function&&env.kindOf n==some .cell)=true
    ·rw [if_pos hc] at h;simpa only [List.lookup_cons,hx] using h
    ·rw [if_neg hc] at h;simpa only [List.lookup_cons,hx] using h
   rcases dX (scope:=scope) (env:=env) h' with q | ⟨q1,q2⟩
   ·exact .inl (by simpa only [List.lookup_cons,hx] using q)
   ·exact .inr ⟨q1,by simpa only [List.lookup_cons,hx] using q2⟩
theorem j5 {env:Env}{x:Str}:∀ {names:List (Str×NameKind)},names.lookup x=some .free →
  (names.map fun (p:Str×NameKind)=>if (p.2==NameKind.free&&env.scope.kind==.function&&env.kindOf p.1==some .cell)=true then (p.1,NameKind.cell) else (p.1,p.2)).lookup x=some .cell ∨
  (names.map fun (p:Str×NameKind)=>if (p.2==NameKind.free&&env.scope.kind==.function&&env.kindOf p.1==some .cell)=true then (p.1,NameKind.cell) else (p.1,p.2)).lookup x=some .free
 | [],h=>by simp at h
 | (n,k')::r,h=>by
  rw [List.map_cons]
  cases hx:x==n with
  | true=>
   simp only [List.lookup_cons,hx] at h
   cases h
   by_cases hc:(NameKind.free==NameKind.free&&env.scope.kind==.function&&env.kindOf n==some .cell)=true
   ·rw [if_pos hc];exact .inl (by simp [List.lookup_cons,hx])
   ·rw [if_neg hc];exact .inr (by simp [List.lookup_cons,hx])
  | false=>
   have h':r.lookup x=some .free:=by simpa only [List.lookup_cons,hx] using h
   have ih:=j5 (env:=env) h'
   by_cases hc:(k'==NameKind.free&&env.scope.kind==.function&&env.kindOf n==some .cell)=true
   ·rw [if_pos hc];simpa only [List.lookup_cons,hx] using ih
   ·rw [if_neg hc];simpa only [List.lookup_cons,hx] using ih
theorem jY {env:Env}{x:Str}:∀ {names:List (Str×NameKind)},names.lookup x=some .cell →
  (names.map fun (p:Str×NameKind)=>if (p.2==NameKind.free&&env.scope.kind==.function&&env.kindOf p.1==some .cell)=true then (p.1,NameKind.cell) else (p.1,p.2)).lookup x=some .cell
 | [],h=>by simp at h
 | (n,k')::r,h=>by
  rw [List.map_cons]
  cases hx:x==n with
  | true=>
   simp only [List.lookup_cons,hx] at h
   cases h
   rw [if_neg (by simp)]
   simp [List.lookup_cons,hx]
  | false=>
   have ih:=jY (env:=env) (show r.lookup x=some .cell by simpa only [List.lookup_cons,hx] using h)
   split
   ·simpa only [List.lookup_cons,hx] using ih
   ·simpa only [List.lookup_cons,hx] using ih
section
variable {X:Cx}{pins:List (Addr×Obj)}{σ : St}{H:Hp}{s:Shared}{scope:Scope}{x:List Str}{ix:List Nat}{C:Addr}{fp:List Addr}
theorem zf (B:iT X scope x ix){y:Str}(hy:y∈x):Loc (relabel scope X.env) y∧(decide (scope.names.lookup y=some .cell)=true∨(relabel scope X.env).names.lookup y=some .local):=by
 rcases B.own y hy with q | q
 ·have:=lookup_relabel_local (env:=X.env) q
  exact ⟨.inl this,.inr this⟩
 ·exact ⟨.inr (jY (env:=X.env) q),.inl (decide_eq_true q)⟩
theorem pD (I:Inv X pins σ H s)(B:iT X scope x ix):∀ y∈scope.names,y.2=NameKind.free→∃ c,X.env.cells.lookup y.1=some c:=fun y hy hk=>I.ok.has y.1 (B.free y hy hk)
theorem cl_old (I:Inv X pins σ H s)(B:iT X scope x ix){y:Str}{c:Addr}(h:(y,c)∈clOf scope X.env):X.env.cells.lookup y=some c:=by
 rcases oE scope.names [] h with q | ⟨q1,q2⟩
 ·exact absurd q (by simp)
 ·obtain ⟨c',e⟩:=pD I B _ q1 rfl
  have e':X.env.cells.lookup y=some c':=e
  have q2':c=(X.env.cells.lookup y).getD 0:=q2
  rw [e',Option.getD_some] at q2'
  rw [e',q2']
theorem jW (I:Inv X pins σ H s)(B:iT X scope x ix){y:Str}{c:Addr}(h:(cellsFrom (C+1) scope.names (clOf scope X.env)).lookup y=some c):X.env.cells.lookup y=some c∨(y,c)∈cellsFrom (C+1) scope.names []:=
 (gA.mp (PySem.mem_of_lookup h)).imp_left (cl_old I B)
theorem cf_ge {n:Nat}{names:List (Str×NameKind)}{y:Str}{c:Addr}(e:(y,c)∈cellsFrom n names []):n≤c:=by
 have key:∀ (names:List (Str×NameKind)) (n:Nat),(y,c)∈cellsFrom n names []→n≤c:=by
  intro names
  induction names with
  | nil=>intro n h;simp [cellsFrom] at h
  | cons a r ih=>
   intro n h
   obtain ⟨name,kind⟩:=a
   unfold cellsFrom at h
   split at h
   ·rcases gA.mp h with q | q
    ·simp only [List.mem_cons,List.not_mem_nil,or_false,Prod.mk.injEq] at q
     exact Nat.le_of_eq q.2.symm
    ·exact Nat.le_trans (Nat.le_succ n) (ih (n+1) q)
   ·exact ih n h
 exact key names n e
theorem cl_free (B:iT X scope x ix){y:Str}{c:Addr}(hf:scope.names.lookup y=some .free)(h:(y,c)∈cellsFrom (C+1) scope.names []):False:=by
 have:=B.names _ (tQ h)
 simp only at this
 rw [hf] at this
 cases this
theorem uJ {y:Str}(h:scope.names.lookup y=some .free∨scope.names.lookup y=some .cell):∃ c,(cellsFrom (C+1) scope.names (clOf scope X.env)).lookup y=some c:=by
 rcases h with h | h
 ·obtain ⟨c,hc⟩:=wA (env:=X.env) scope.names [] (.inl (PySem.mem_of_lookup h))
  exact fu (gA.mpr (.inl hc))
 ·obtain ⟨c,hc⟩:=cf_has (n:=C+1) (PySem.mem_of_lookup h)
  exact fu (gA.mpr (.inr hc))
theorem blk_ok (I:Inv X pins σ H s)(B:iT X scope x ix)(hC:s.heap.objs.size≤C)(hf:∀ b∈fp,xZ X pins H b)(ho:∀ b∈fp,∃ o,s.heap.get? b=some o) :
  (blk X scope (gq X x ix) C s H fp).Ok where
 mod:=I.ok.mod
 kind:=B.kind
 glob:=I.ok.glob
 blt:=I.ok.blt
 above:=hC
 inj:=fun y z c h1 h2=>by
  have far:∀ {y z:Str},X.env.cells.lookup y=some c→(z,c)∈cellsFrom (C+1) scope.names []→False:=fun {y z} e q=>by
   obtain ⟨v,w⟩:=I.cell y c e
   exact absurd (Nat.lt_of_lt_of_le w.lt (Nat.le_trans (Nat.le_trans hC (Nat.le_succ C)) (cf_ge q))) (Nat.lt_irrefl _)
  rcases jW I B h1 with q1 | q1
  ·rcases jW I B h2 with q2 | q2
   ·exact I.ok.inj y z c q1 q2
   ·exact (far q1 q2).elim
  ·rcases jW I B h2 with q2 | q2
   ·exact (far q2 q1).elim
   ·exact cf_apart q1 q2
 has:=fun y hy=>by
  have hy':(relabel scope X.env).names.lookup y=some .cell∨(relabel scope X.env).names.lookup y=some .free:=hy
  rcases hy' with q | q
  ·rcases dX (scope:=scope) (env:=X.env) q with r | ⟨_,r⟩
   ·exact uJ (.inr r)
   ·exact uJ (.inl r)
  ·rcases dX (scope:=scope) (env:=X.env) q with r | ⟨r,_⟩
   ·exact uJ (.inl r)
   ·cases r
 cab:=fun y c hf h=>by
  have hf':scope.names.lookup y=some .cell:=of_decide_eq_true hf
  rcases gA.mp (PySem.mem_of_lookup h) with q | q
  ·rcases oE scope.names [] q with q | ⟨q1,_⟩
   ·exact absurd q (by simp)
   ·have:=B.names _ q1
    simp only at this
    rw [hf'] at this
    cases this
  ·exact Nat.le_trans (Nat.le_trans hC (Nat.le_succ C)) (cf_ge q)
 hd:=I.ok.hd
 qt:=I.qt0
 frames:=I.ok.frames
 stk:=.inl rfl
 exf:=fun b hb=>by
  obtain ⟨o,e⟩:=ho b hb
  refine ⟨Nat.ne_of_lt (Nat.lt_of_lt_of_le (Heap.lt_size e) hC),fun y c h=>?_⟩
  rcases jW I B h with q | q
  ·exact (hf b hb).2.2.2.2.1 y c q
  ·intro z
   rw [z] at q
   exact absurd (Nat.lt_of_lt_of_le (Heap.lt_size e) (Nat.le_trans (Nat.le_trans hC (Nat.le_succ C)) (cf_ge q))) (Nat.lt_irrefl _)
 bs:=I.bs
 bsz:=Nat.le_trans I.ok.bsz I.sz
 noex:=fun b o e hb=>by
  rcases (hf b hb).2.2.2.1 with q | q
  ·exact I.ok.noex b o e q
  ·exact absurd (Nat.lt_of_lt_of_le (Heap.lt_size e) (Nat.le_trans I.ok.bsz q)) (Nat.lt_irrefl _)
 exfs:=fun b hb z=>by
  obtain ⟨_,h1,h2,_⟩:=hf b hb
  rcases List.mem_cons.mp (I.stkSub b z) with e | e
  ·exact h1 e
  ·exact h2 e
 funs:=I.stack
 frf:=I.stkFree
theorem blk_inv {D:Addr}{h1:Heap}{tk:Nat}{m:Str→Option Value}(I:Inv X pins σ H s)(B:iT X scope x ix)(ok:(blk X scope (gq X x ix) C s H fp).Ok)
  (hD:D=s.heap.objs.size) (k:∀ b o,s.heap.get? b=some o→h1.get? b=some o) (hl:h1.get? D=some { cls:=.type "list",data:=.seq #[] }) (hns:h1.Ns C m) (hCD:C≠D) (hC:s.heap.objs.size≤C) (hce:∀ y c,(y,c)∈cellsFrom (C+1) scope.names []→h1.IsCell c none) :
  Inv (blk X scope (gq X x ix) C s H fp) [] (List.replicate x.length none++blkσ ix σ) (upd H D (.lst [])) { s with heap:=h1,toks:=tk } where
 ok:=ok
 os:=rfl
 bare:=I.bare
 base:=Un.laid k (by rw [hD];exact Nat.le_refl _) (I.hok.fresh (by rw [hD];exact Nat.le_refl _))
 loc:=by
  refine ⟨m,hns,fun i y v e1 e2 e3=>?_⟩
  by_cases hix:i<x.length
  ·rw [List.getElem?_append_left (by simpa using hix),List.getElem?_replicate,if_pos hix] at e2
   cases e2
  ·rw [List.getElem?_append_right (by simpa using hix),List.length_replicate] at e2
   have e1':(ix.map fun i=>X.N.getD i "")[i - x.length]?=some y:=by
    have z:(x++ix.map fun i=>X.N.getD i "")[i]?=some y:=e1
    rwa [List.getElem?_append_right (by simpa using hix)] at z
   generalize i - x.length=j at e1' e2
   unfold blkσ at e2
   rw [List.getElem?_map] at e1' e2
   cases hj:ix[j]? with
   | none=>rw [hj] at e2;cases e2
   | some i'=>
    rw [hj] at e1' e2
    simp only [Option.map_some,Option.some.injEq] at e1' e2
    have hi:σ[i']?=some (some v):=by
     cases q:σ[i']? with
     | none=>rw [q] at e2;cases e2
     | some z=>rw [q] at e2;exact congrArg some e2
    have hlt:i'<X.N.length:=by
     have:=(List.getElem?_eq_some_iff.mp hi).1
     rw [I.len] at this
     exact this
    have hn:X.N[i']?=some y:=by
     rw [List.getD_eq_getElem?_getD,List.getElem?_eq_getElem hlt,Option.getD_some] at e1'
     rw [List.getElem?_eq_getElem hlt,e1']
    have hfree:scope.names.lookup y=some .free:=by
     have:=B.ixs i' (List.mem_of_getElem? hj)
     rw [e1'] at this
     exact this
    have kx:=B.free _ (PySem.mem_of_lookup hfree) rfl
    have vis:Vis X.env.scope y:=by
     rcases kx with q | q
     ·exact .inr (.inl q)
     ·exact .inr (.inr q)
    obtain ⟨m',_,hl'⟩:=I.loc
    obtain ⟨u,r,lk⟩:=hl' i' y v hn hi vis
    refine ⟨u,r,?_⟩
    rcases lk with ⟨q,_⟩ | ⟨_,c,hc,hcell⟩
    ·have q':X.env.scope.names.lookup y=some .local:=q
     rcases kx with z | z <;> (rw [q'] at z;cases z)
    ·obtain ⟨c',hc'⟩:=uJ (X:=X) (C:=C) (.inl hfree)
     have e:=(jW I B hc').resolve_right fun z=>cl_free B hfree z
     rw [hc] at e
     cases e
     refine .inr ⟨j5 (env:=X.env) hfree,c,hc',?_⟩
     obtain ⟨o,ho,hd⟩:=hcell
     exact ⟨o,k c o ho,hd⟩
 cell:=fun y c h=>by
  rcases jW I B h with q | q
  ·obtain ⟨v,o,ho,hd⟩:=I.cell y c q
   exact ⟨v,o,k c o ho,hd⟩
  ·exact ⟨none,hce y c q⟩
 free:=by
  show upd H D (.lst []) C=none
  rw [aJ hCD]
  exact I.hok.fresh hC
 freeC:=fun y c h=>by
  show upd H D (.lst []) c=none
  rcases jW I B h with q | q
  ·obtain ⟨v,o,ho,hd⟩:=I.cell y c q
   rw [aJ (by rw [hD];exact Nat.ne_of_lt (Heap.lt_size ho))]
   exact I.freeC y c q
  ·have g:s.heap.objs.size<c:=Nat.lt_of_lt_of_le (Nat.lt_succ_of_le hC) (cf_ge q)
   rw [aJ (by rw [hD];exact Nat.ne_of_gt g)]
   exact I.hok.fresh (Nat.le_of_lt g)
 pin:=fun p hp=>absurd (show p∈([]:List (Addr×Obj)) from hp) (by simp)
 hok:=I.hok.laid k (by rw [hD];exact Nat.le_refl _) ⟨Nat.zero_le _,[],0,.nil,hl⟩
 len:=by
  show (List.replicate x.length none++blkσ ix σ).length=(gq X x ix).length
  simp [blkσ]
theorem yS {σ':St}{H':Hp}{s':Shared}{h':Heap}{p':List (Addr×Obj)}(I:Inv X pins σ H s)(hC:s.heap.objs.size≤C)(hf:∀ b∈fp,xZ X pins H b)(J:Inv (blk X scope (gq X x ix) C s H fp) p' σ' H' s')
  (hs:Heap.SameBut C s'.heap h'):Inv X pins σ H' { s' with heap:=h' }:=by
 have I1:Inv X pins σ H' s':=I.call' (ch:=fp) J.os J.base J.hok J.bare fun b hb=>⟨(hf b hb).2.2.2.1,(hf b hb).2.1,(hf b hb).2.2.2.2.1,(hf b hb).2.2.2.2.2⟩
 refine I1.turned (it:=C) (t':=s'.toks) (fun b o hb e=>(hs.2 b hb).trans e) J.free (Nat.ne_of_gt (Nat.lt_of_lt_of_le I.lt hC)) (.inr (Nat.le_trans I.sz hC)) (fun y c e z=>?_) (fun p hp z=>?_)
 ·obtain ⟨v,q⟩:=I.cell y c e
  exact absurd (Nat.lt_of_lt_of_le q.lt (by rw [z];exact hC)) (Nat.lt_irrefl _)
 ·exact absurd (Nat.lt_of_lt_of_le (Heap.lt_size (I.pin p hp).1) (by rw [z];exact hC)) (Nat.lt_irrefl _)
end
def PIfs (X:Cx)(ifs:List Expr)(t:TT):Prop:=
 ∀ (pins:List (Addr×Obj)) (s:Shared) (σ : St) (H:Hp) (Q:Bool→Hp→Prop),Inv X pins σ H s→t σ H Q →
  wpAny (model X.prog X.w) X.A (forIn ifs true fun c r=>if r=true then do let ok ←isTrue c X.env (eval c X.env);pure (ForInStep.yield ok) else pure (ForInStep.yield r)) (TP X pins σ Q) X.xe s
def tYes:TT:=fun _ H Q=>Q true H
theorem pif_nil {X:Cx}:PIfs X [] tYes:=fun _ _ _ H _ I h=>wpAny_pure ⟨H,I,h⟩
theorem pif_one {X:Cx}{c:Expr}{t:TT}(h:PT X c t):PIfs X [c] t:=fun pins s σ H Q I hq=>by
 rw [List.forIn_cons]
 refine wpAny_bind ?_
 rw [if_pos rfl]
 refine wpAny_bind (thn (h pins s σ H Q I hq) fun b s1 q=>wpAny_pure ?_)
 exact wpAny_pure q
def wLCat (n:Nat)(own:V→Hp→List V→Prop)(ix:List Nat)(tt:TT)(te:TE)(σ : St)(Q:VK)(J:It)(H1:Hp)(D:Addr):Prop:=∃ W:Nat→Nat→List V→Hp→Prop,(∃ m,W 0 m [] (upd H1 D (.lst [])))∧∀ i m ys H,W i m ys H→H D=some (.lst ys) →
 (J.stop i H∧Q (.ref D) H)∨(J.go i H∧ys.length<sizeLine∧∀ x H',J.yld i H x H'→∃ vs,own x H' vs∧vs.length=n∧tt (vs.map some++blkσ ix σ) H' fun b H2=>
  if b=true then te (vs.map some++blkσ ix σ) H2 (fun v H3=>H3 D=some (.lst ys)∧∃ m',m'<m∧W (i+1) m' (ys++[v]) (upd H3 D (.lst (ys++[v]))))
  else H2 D=some (.lst ys)∧∃ m',m'<m∧W (i+1) m' ys H2)
def wLC (n:Nat)(own:V→Hp→List V→Prop)(ix:List Nat)(tt:TT)(te:TE)(σ : St)(Q:VK)(J:It)(H1:Hp):Prop:=∀ D,H1 D=none→wLCat n own ix tt te σ Q J H1 D
def tLC (n:Nat)(own:V→Hp→List V→Prop)(ix:List Nat)(wi:TI)(tt:TT)(te:TE):TE:=fun σ H Q=>wi σ H fun J H1=>wLC n own ix tt te σ Q J H1
def gOwn (n:Nat)(own:V→Hp→List V→Prop):TG:=fun v σ H N=>∃ vs,own v H vs∧vs.length=n∧N (vs.map some++σ.drop n) H
theorem comp_loop {P:Program}{w:World}{A:Around}{R:Result→Shared→Prop}{s:Shared}{elt target iter:Expr}{ifs:List Expr}{scope:Scope}{pos:Pos}{it acc:Value}{env:Env}(Iv:Nat→Shared→Prop)
  (turn:∀ n s,Iv n s→wpAny (model P w) A (pyNext it) (fun r s₁=>match r with
   | none=>R (.ok .next) s₁
   | some v=>wpAny (model P w) A (letOwnedTupleGo target it v) (fun _ t₁=>wpAny (model P w) A (assign target env v) (fun _ s₂=>
     wpAny (model P w) A (forIn ifs true fun c r=>if r=true then do let ok ←isTrue c env (eval c env);pure (ForInStep.yield ok) else pure (ForInStep.yield r)) (fun ok s₃=>
      if ok=true then wpAny (model P w) A (eval elt env) (fun x s₄=>
       wpAny (model P w) A (call (.builtin "list.append") [acc,x]) (fun _ s₅=>∃ m,m<n∧Iv m s₅) (notedBy (model P w) A env fun e s'=>R (.error e) s') s₄) (notedBy (model P w) A env fun e s'=>R (.error e) s') s₃
      else ∃ m,m<n∧Iv m s₃) (notedBy (model P w) A env fun e s'=>R (.error e) s') s₂) (notedBy (model P w) A env fun e s'=>R (.error e) s') t₁) (notedBy (model P w) A env fun e s'=>R (.error e) s') s₁) (notedBy (model P w) A env fun e s'=>R (.error e) s') s)
  (n:Nat) (h:Iv n s):codeAny (model P w) A (.compLoop (.ListComp elt [⟨target,iter,ifs,0⟩] scope pos) 0 it acc env) R s:=by
 refine codeAny_loop rfl Iv (fun n s hI=>?_) n h
 show wpAny _ A ((compTurn (.ListComp elt [⟨target,iter,ifs,0⟩] scope pos) 0 it acc env).onRaise (fun x=>do noteFrame x env;theTreesLotGoes x)) _ _ s
 refine wpAny_noted ?_
 rw [compTurn_list]
 refine wpAny_bind (wpAny_standAt (wpAny_bind (wpAny_mono (turn n s hI) (fun r s₁ k₁=>?_) fun _ _ z=>z)))
 cases r with
 | none=>exact wpAny_pure k₁
 | some v=>
  refine wpAny_bind (wpAny_mono k₁ (fun _ t₁ k₂=>wpAny_bind (wpAny_mono k₂ (fun _ s₂ k₃=>wpAny_bind (wpAny_mono k₃ (fun ok s₃ k₄=>?_) fun _ _ z=>z)) fun _ _ z=>z)) fun _ _ z=>z)
  cases ok with
  | false=>exact wpAny_pure ⟨rfl,k₄⟩
  | true=>exact wpAny_bind (wpAny_bind (wpAny_mono k₄ (fun x s₄ k₅=>wpAny_bind (wpAny_mono k₅ (fun _ s₅ k₆=>wpAny_pure (wpAny_pure ⟨rfl,k₆⟩)) fun _ _ z=>z)) fun _ _ z=>z))
section
variable {X:Cx}{scope:Scope}{x:List Str}{ix:List Nat}{elt iter tg:Expr}{ifs:List Expr}{px pos:Pos}{wi:TI}{tt:TT}{te:TE}{own:V→Hp→List V→Prop}
theorem yt {pins:List (Addr×Obj)}{σ : St}{s₂ : Shared}{H2:Hp}{it:Addr}{fp:List Addr}{tn:Nat→Heap→Prop}{J:It}{Q:VK}{E:Value→Shared→Prop}{RR:Value→Addr→Result→Shared→Prop}
  (hc:J.cm=true→X.calm=true) (B:iT X scope x ix) (hg:∀ C s H fp,PG (blk X scope (gq X x ix) C s H fp) tg (gOwn x.length own)) (ht:∀ C s H fp,PIfs (blk X scope (gq X x ix) C s H fp) ifs tt) (he:∀ C s H fp,PE (blk X scope (gq X x ix) C s H fp) elt te)
  (I2:Inv X pins σ H2 s₂) (T:Turn X.prog X.w X.K tg J fp it tn) (st2:tn 0 s₂.heap) (f2:∀ b∈fp,xZ X pins H2 b) (hq:wLC x.length own ix tt te σ Q J H2)
  (hRR:∀ D C s' σ' H' p',s₂.heap.objs.size≤C→Inv (blk X scope (gq X x ix) C s₂ H2 fp) p' σ' H' s'→Q (.ref D) H'→RR (.ref D) C (.ok .next) s') :
  wpAny (model X.prog X.w) X.A (newList []) (fun acc s₃=>wpAny (model X.prog X.w) X.A (newFunctionEnv scope X.env.globals (clOf scope X.env) [] X.env.qual none .none (some X.env)) (fun cenv s₄=>
   codeAny (model X.prog X.w) X.A (.compStart (.ListComp elt [⟨tg,iter,ifs,0⟩] scope pos) 0 (.ref it) acc { cenv with scope:=relabel scope X.env }) (RR acc cenv.locals) s₄) E s₃) E s₂:=by
 refine wpAny_newObj_type (yX ?_)
 dsimp only
 generalize hH2:s₂.heap.push { cls:=.type "list",dict:=none,data:=.seq ([]:List Value).toArray }=HH
 generalize hh1:pushCells (HH.push { cls:=.type "dict",data:=.dict #[] }) scope.names=h₁
 have hns₁ : h₁.Ns HH.objs.size (fun _=>none):=by
  obtain ⟨o,es,ep,ho,r⟩:=Heap.Ns.new HH (.type "dict")
  exact ⟨o,es,ep,by rw [←hh1];exact pushCells_keeps _ _ _ _ ho,r⟩
 have hkeep:∀ b o,HH.get? b=some o→h₁.get? b=some o:=fun b o e=>by rw [←hh1];exact pushCells_keeps _ _ _ _ (Heap.get?_push_of_some _ e)
 have hce:∀ y c,(y,c)∈cellsFrom (HH.objs.size+1) scope.names []→h₁.IsCell c none:=fun y c e=>by
  rw [←hh1]
  exact (cf_new (h:=HH.push { cls:=.type "dict",data:=.dict #[] }) (by rw [Heap.size_push];exact e)).1
 have hC:HH.objs.size=s₂.heap.objs.size+1:=by rw [←hH2,Heap.size_push]
 have hDC:s₂.heap.objs.size≠HH.objs.size:=by rw [hC];exact Nat.ne_of_lt (Nat.lt_succ_self _)
 have hCle:s₂.heap.objs.size≤HH.objs.size:=by rw [hC];exact Nat.le_succ _
 have old:∀ b o,s₂.heap.get? b=some o→h₁.get? b=some o:=fun b o e=>hkeep b o (hH2 ▸ Heap.get?_push_of_some _ e)
 have hacc:h₁.get? s₂.heap.objs.size=some { cls:=.type "list",data:=.seq #[] }:=hkeep _ _ (hH2 ▸ Heap.get?_push_size _ rfl)
 have hob:∀ b∈fp,∃ o,s₂.heap.get? b=some o:=fun b hb=>let ⟨o,e,_⟩:=T.obj 0 _ st2 b hb;⟨o,e⟩
 have ok:=blk_ok (C:=HH.objs.size) I2 B hCle f2 hob
 obtain ⟨W,⟨m0,w0⟩,turn⟩:=hq s₂.heap.objs.size (I2.hok.fresh (Nat.le_refl _))
 -- the iterator's records, in the block
 have stat:∀ {H':Hp},(∀ b∈fp,H' b=none)→∀ b∈fp,xZ (blk X scope (gq X x ix) HH.objs.size s₂ H2 fp) [] H' b:=fun {H'} hn b hb=>by
  obtain ⟨o,e⟩:=hob b hb
  obtain ⟨_,g1,g2,g3,g4,g5⟩:=f2 b hb
  refine ⟨hn b hb,Nat.ne_of_lt (Nat.lt_of_lt_of_le (Heap.lt_size e) hCle),fun z=>?_,.inl hb,fun y c h=>?_,fun p hp=>absurd (show p∈([]:List (Addr×Obj)) from hp) (by simp)⟩
  ·rcases List.mem_cons.mp (I2.stkSub b z) with q | q
   ·exact g1 q
   ·exact g2 q
  ·rcases jW I2 B h with q | q
   ·exact g4 y c q
   ·intro z
    rw [z] at q
    exact absurd (Nat.lt_of_lt_of_le (Heap.lt_size e) (Nat.le_trans (Nat.le_trans hCle (Nat.le_succ _)) (cf_ge q))) (Nat.lt_irrefl _)
 have loop:∀ s₃ : Shared,s₃ = { s₂ with heap:=h₁ } →
   codeAny (model X.prog X.w) X.A (.compLoop (.ListComp elt [⟨tg,iter,ifs,0⟩] scope pos) 0 (.ref it) (.ref s₂.heap.objs.size) (compEnvC scope (cellsFrom (HH.objs.size+1) scope.names (clOf scope X.env)) HH.objs.size X.env))
    (RR (.ref s₂.heap.objs.size) HH.objs.size) s₃:=by
  rintro s₃ rfl
  have J0:=blk_inv (fp:=fp) (C:=HH.objs.size) (tk:=s₂.toks) I2 B ok rfl old hacc hns₁ (Ne.symm hDC) hCle hce
  have fr0:∀ b∈fp,upd H2 s₂.heap.objs.size (.lst []) b=none:=fun b hb=>by
   obtain ⟨o,e⟩:=hob b hb
   rw [aJ (Nat.ne_of_lt (Heap.lt_size e))]
   exact (f2 b hb).1
  refine comp_loop (fun k s'=>∃ i ys H',Inv (blk X scope (gq X x ix) HH.objs.size s₂ H2 fp) [] (List.replicate x.length none++blkσ ix σ) H' s'∧tn i s'.heap∧(∀ b∈fp,H' b=none)∧H' s₂.heap.objs.size=some (.lst ys)∧W i k ys H') ?_ m0
   ⟨0,[],_,J0,T.keep 0 _ _ st2 (fun b _ o e=>old b o e),fr0,bA,w0⟩
  rintro n s₄ ⟨i,ys,H4,I4,st4,fr4,hD4,w4⟩
  rcases turn i n ys H4 w4 hD4 with ⟨stop,qn⟩ | ⟨go,hz,step⟩
  ·refine thn (T.done (blk X scope (gq X x ix) HH.objs.size s₂ H2 fp) rfl rfl rfl hc i [] s₄ _ H4 _ I4 (stat fr4) st4 stop) fun r s5 ⟨hr,I5⟩=>?_
   subst hr
   exact hRR _ _ s5 _ H4 [] hCle I5 qn
  ·refine thn (T.item (blk X scope (gq X x ix) HH.objs.size s₂ H2 fp) rfl rfl rfl hc i [] s₄ _ H4 _ I4 (stat fr4) st4 go) fun r s5 ⟨u,hr,h5⟩=>?_
   subst hr
   refine wpAny_mono h5 (fun _ s6 ⟨xv,H6,I6,r6,y6,st6,fr6⟩=>?_) fun _ _ z=>z
   have I6':=I6.pinned (stat fr6) (T.obj _ _ st6)
   obtain ⟨vs,hov,hvl,q7⟩:=step xv H6 y6
   have fgt:∀ {σ9:St} {H9:Hp} {s9:Shared} {p9:List (Addr×Obj)},σ9.length=x.length→Inv (blk X scope (gq X x ix) HH.objs.size s₂ H2 fp) p9 (σ9++blkσ ix σ) H9 s9→Inv (blk X scope (gq X x ix) HH.objs.size s₂ H2 fp) p9 (List.replicate x.length none++blkσ ix σ) H9 s9:=fun {σ9 H9 s9 p9} hl I9=>
    I9.weak (by simp [hl]) fun k v e=>by
     by_cases hk:k<x.length
     ·rw [List.getElem?_append_left (by simpa using hk),List.getElem?_replicate,if_pos hk] at e
      cases e
     ·rw [List.getElem?_append_right (by simpa using hk),List.length_replicate] at e
      rw [List.getElem?_append_right (by rw [hl];omega),hl]
      exact e
   refine wpAny_mono (hg _ _ _ _ _ s6 _ H6 xv u (fun σ9 H9=>σ9=vs.map some++(List.replicate x.length (none:Option V)++blkσ ix σ).drop x.length∧H9=H6) I6' r6 ⟨vs,hov,hvl,rfl,rfl⟩) (fun _ s7 ⟨σ7,H7,I7,e7,e8⟩=>?_) fun _ _ z=>z.elim
   subst e7 e8
   rw [List.drop_left' (by simp)] at I7
   have hml:(vs.map some).length=x.length:=by rw [List.length_map];exact hvl
   refine wpAny_mono (ht _ _ _ _ _ s7 _ H7 _ I7 q7) (fun b s8 ⟨H8,I8,q8⟩=>?_) fun _ _ z=>z.elim
   have pinned:∀ {H9:Hp} {s9:Shared} {σ9:St},Inv (blk X scope (gq X x ix) HH.objs.size s₂ H2 fp) ([]++qY fp s6.heap) σ9 H9 s9→tn (i+1) s9.heap∧∀ b∈fp,H9 b=none:=fun {H9 s9 σ9} I9=>by
    refine ⟨T.keep _ _ _ st6 fun b hb o e=>(I9.pin (b,o) (List.mem_append_right _ (List.mem_append_right _ (gU hb e)))).1,fun b hb=>?_⟩
    obtain ⟨o,e,d⟩:=T.obj _ _ st6 b hb
    exact (I9.pin (b,o) (List.mem_append_right _ (List.mem_append_right _ (gU hb e)))).2.1
   cases b with
   | false=>
    rw [if_neg Bool.false_ne_true] at q8 ⊢
    obtain ⟨hD8,m',hm,w8⟩:=q8
    obtain ⟨t8,f8⟩:=pinned I8
    exact ⟨m',hm,i+1,ys,H8,fgt hml I8.unpinned,t8,f8,hD8,w8⟩
   | true=>
    rw [if_pos rfl] at q8 ⊢
    refine wpAny_mono (he _ _ _ _ _ s8 _ H8 _ I8 q8) (fun u9 s9 ⟨v9,H9,I9,r9,hD9,m',hm,w9⟩=>?_) fun _ _ z=>z.elim
    refine wpAny_mono (qQ (X:=blk X scope (gq X x ix) HH.objs.size s₂ H2 fp) _ s9 _ H9 (.ref s₂.heap.objs.size) [v9] _ [u9] (fun _ H'=>H'=upd H9 s₂.heap.objs.size (.lst (ys++[v9]))) I9 rfl (.cons r9 .nil) ⟨_,ys,v9,rfl,rfl,hD9,hz,rfl⟩) (fun _ s10 ⟨_,H10,I10,_,e10⟩=>?_) fun _ _ z=>z.elim
    subst e10
    obtain ⟨t10,f10⟩:=pinned I10
    exact ⟨m',hm,i+1,ys++[v9],_,fgt hml I10.unpinned,t10,f10,bA,w9⟩
 exact codeAny_compStart_list (loop _ rfl) (T.self _ 0 _ _ _ (T.keep 0 _ _ st2 (fun b _ o e=>old b o e)) (loop _ rfl))
theorem pe_lc (ix:List Nat)(hc:X.calm=true)(B:iT X scope x ix)(hg:∀ C s H fp,PG (blk X scope (gq X x ix) C s H fp) tg (gOwn x.length own))(hi:PI X tg iter wi)(ht:∀ C s H fp,PIfs (blk X scope (gq X x ix) C s H fp) ifs tt)(he:∀ C s H fp,PE (blk X scope (gq X x ix) C s H fp) elt te)
  (hs:∀ v,foldedSetIterable iter X.env v=pure v:=by intro _;rfl):PE X (.ListComp elt [⟨tg,iter,ifs,0⟩] scope pos) (tLC x.length own ix wi tt te):=by
 intro pins s σ H Q I h
 rw [eval_ListComp]
 refine wpAny_comprehension_free (use:=none) rfl hs (zm (pD I B)) B.kind (fun y hy hk=>by rw [B.names y hy,hk]) ?_
 refine thn (hi pins s σ H _ I h) fun v s1 h1=>thn h1 fun itv s2 h2=>?_
 obtain ⟨it,fp,tn,J,H2,e,I2,T,st2,f2,hq⟩:=h2
 subst e
 refine yt (RR:=fun acc C=>compPost (model X.prog X.w) X.A X.xe none (EP X pins σ Q) acc C) (fun _=>hc) B hg ht he I2 T st2 f2 hq fun D C s' σ' H' p' hC I' q'=>?_
 obtain ⟨m,hn,_⟩:=I'.loc
 exact ⟨m,hn,fun h' hs'=>⟨.ref D,H',yS I2 hC f2 I' hs',rfl,q'⟩⟩
theorem ps_lc (ix:List Nat){i:Nat}{y:Str}{py spos:Pos}(hN:X.N.Nodup)(hi':X.N[i]?=some y)(hy:Loc X.env.scope y)(hc:X.calm=true)(B:iT X scope x ix)(hg:∀ C s H fp,PG (blk X scope (gq X x ix) C s H fp) tg (gOwn x.length own))(hi:PI X tg iter wi)
  (ht:∀ C s H fp,PIfs (blk X scope (gq X x ix) C s H fp) ifs tt) (he:∀ C s H fp,PE (blk X scope (gq X x ix) C s H fp) elt te)
  (hsw:swapsWith (.ListComp elt [⟨tg,iter,ifs,0⟩] scope pos) (some (.Name y py)) spos.line X.env=pure true:=by rfl)
  (hf:X.fn y=true∨X.env.scope.names.lookup y=some .local:=by first | exact .inl rfl | exact .inr rfl | assumption)
  (hs:∀ v,foldedSetIterable iter X.env v=pure v:=by intro _;rfl):PS X (.Assign [.Name y py] (.ListComp elt [⟨tg,iter,ifs,0⟩] scope pos) spos) (tAsg (tLC x.length own ix wi tt te) (gName i)):=by
 intro pins s σ H D I h
 rw [exec_Assign_Name_used _ _ _ _ hsw]
 refine wpAny_bind (wpAny_standAt (wpAny_bind ?_))
 show wpAny _ X.A (do let _ ←comprehension (.ListComp elt [⟨tg,iter,ifs,0⟩] scope pos) scope X.env _ (newList []) false (eval iter X.env) (some (assign (.Name y py) X.env))) _ _ s
 refine wpAny_bind (wpAny_mono (wpAny_comprehension_free (use:=some (assign (.Name y py) X.env)) (Q:=fun _ s'=>SP X pins D .next s') rfl hs (zm (pD I B)) B.kind (fun y hy hk=>by rw [B.names y hy,hk]) ?_) (fun _ s' hq=>wpAny_pure (wpAny_pure hq)) fun _ _ e=>e)
 refine thn (hi pins s σ H _ I h) fun v s1 h1=>thn h1 fun itv s2 h2=>?_
 obtain ⟨it,fp,tn,J,H2,e,I2,T,st2,f2,hq⟩:=h2
 subst e
 refine yt (RR:=fun acc C=>compPost (model X.prog X.w) X.A X.xe (some (assign (.Name y py) X.env)) (fun _ s'=>SP X pins D .next s') acc C) (fun _=>hc) B hg ht he I2 T st2 f2 hq fun D' C s' σ' H' p' hC I' q'=>?_
 obtain ⟨m,hn,_⟩:=I'.loc
 have I3:Inv X pins σ H' s':=yS (h':=s'.heap) I2 hC f2 I' (.refl ..)
 show wpAny _ X.A (assign (.Name y py) X.env (.ref D')) _ _ s'
 have cneC:∀ z c,X.env.cells.lookup z=some c→c≠C:=fun z c e q=>by
  obtain ⟨v,w⟩:=I2.cell z c e
  exact absurd (Nat.lt_of_lt_of_le w.lt (by rw [q];exact hC)) (Nat.lt_irrefl _)
 have lneC:X.env.locals≠C:=Nat.ne_of_lt (Nat.lt_of_lt_of_le I2.lt hC)
 refine wpAny_assign_Name (qO (v:=.ref D') I3 hN hi' hy rfl (fun s'' I'' hsb=>?_) hf)
 obtain ⟨a,hsb,ha⟩:=hsb
 have haC:C≠a:=by
  rcases ha with rfl | ha
  ·exact Ne.symm lneC
  ·exact Ne.symm (cneC _ _ ha)
 refine ⟨m,hn.sameBut hsb haC,fun h' hs'=>⟨_,H',?_,q'⟩⟩
 refine I''.turned (it:=C) (t':=s''.toks) (fun b o hb e=>(hs'.2 b hb).trans e) I'.free (Ne.symm lneC) (.inr (Nat.le_trans I2.sz hC)) cneC (fun p hp z=>?_)
 exact absurd (Nat.lt_of_lt_of_le (Heap.lt_size (I2.pin p hp).1) (by rw [z];exact hC)) (Nat.lt_irrefl _)
end
end L2
namespace L2
open PySem PySem.Spec PyProof.Rows
def Sm (n:Nat)(i:Int):Prop:=i.natAbs<2^n
theorem Sm.bits {n:Nat}{i:Int}(h:Sm n i):Builtin.Int.intBits i≤n:=by
 unfold Builtin.Int.intBits
 by_cases e:i=0
 ·subst e;exact Nat.zero_le _
 ·have e':(i==0)=false:=beq_eq_false_iff_ne.mpr e
  rw [e']
  have h0:i.natAbs≠0:=by omega
  have:=(Nat.log2_lt h0).mpr h
  simp only [Bool.false_eq_true,if_false]
  omega
theorem Sm.mono {m n:Nat}{i:Int}(h:Sm m i)(hmn:m≤n):Sm n i:=Nat.lt_of_lt_of_le h (Nat.pow_le_pow_right (by decide) hmn)
theorem Sm.mul {m n:Nat}{i j:Int}(h:Sm m i)(h':Sm n j):Sm (m+n) (i*j):=by
 unfold Sm at *
 rw [Int.natAbs_mul,Nat.pow_add]
 by_cases e:j.natAbs=0
 ·rw [e,Nat.mul_zero]
  exact Nat.mul_pos (Nat.pow_pos (by decide)) (Nat.pow_pos (by decide))
 ·exact Nat.lt_of_lt_of_le (Nat.mul_lt_mul_of_pos_right h (Nat.pos_of_ne_zero e)) (Nat.mul_le_mul_left _ (Nat.le_of_lt h'))
theorem Sm.add {m n:Nat}{i j:Int}(h:Sm m i)(h':Sm n j):Sm (max m n+1) (i+j):=by
 have h1:=h.mono (Nat.le_max_left m n)
 have h2:=h'.mono (Nat.le_max_right m n)
 unfold Sm at *
 rw [Nat.pow_succ]
 omega
theorem Sm.neg {n:Nat}{i:Int}(h:Sm n i):Sm n (-i):=by unfold Sm at *;rw [Int.natAbs_neg];exact h
theorem Sm.sub {m n:Nat}{i j:Int}(h:Sm m i)(h':Sm n j):Sm (max m n+1) (i - j):=by
 rw [Int.sub_eq_add_neg];exact h.add h'.neg
theorem Sm.zero {n:Nat}:Sm n 0:=Nat.pow_pos (by decide)
theorem iM {n:Nat}{i:Int}(h1:-(2^n:Int)<i)(h2:i<(2^n:Int)):Sm n i:=by
 unfold Sm
 have e:((2^n:Nat):Int)=(2:Int)^n:=by simp
 omega
theorem Sm.le {n:Nat}{i j:Int}(h:Sm n i)(hj:j.natAbs≤i.natAbs):Sm n j:=Nat.lt_of_le_of_lt hj h
def rG (i j:Int):Prop:=∃ m n,m≤1000000∧n≤1000000∧Sm m i∧Sm n j
theorem rG.ok {i j:Int}(h:rG i j):IntMulOk i j:=by
 obtain ⟨m,n,hm,hn,h1,h2⟩:=h
 have e:(2:Nat)^20=1048576:=by decide
 exact .of_bits (by have:=h1.bits;omega) (by have:=h2.bits;omega)
def vC (_ j:Int):Prop:=j≠0∧∃ n,n≤8000∧Sm n j
theorem sm_log2 {n:Nat}{j:Int}(hn:n≤8000)(h:Sm n j):j.natAbs.log2<9000:=by
 by_cases e:j.natAbs=0
 ·rw [e];decide
 ·have:=(Nat.log2_lt e).mpr h
  omega
section
variable {X:Cx}
theorem op_mulB:OpR X (binaryOp .Mult) (rI rG fun i j=>.int (i*j)):=opI fun _ _ _ _ _ _ _ hc q=>mul_int q hc.ok
theorem zY:OpR X (binaryOp .FloorDiv) (rI vC fun i j=>.int (i.fdiv j)):=opI fun i j _ _ _ _ _ hc q=>by
 obtain ⟨h1,n,hn,h2⟩:=hc
 exact floordiv_int h1 q (.inl (PyProof.noPylong_of_log2 (sm_log2 hn h2)))
theorem rY:∀ {bs:List Bool} {its:List Value} {i:Nat} {v:Value},Vals (bs.map V.bl) its→its[i]?=some v→∃ b,bs[i]?=some b∧v=.bool b
 | [],_,_,_,.nil,e=>by simp at e
 | b::bs,_,0,_,.cons r _,e=>by simp at e;subst e;exact ⟨b,rfl,r⟩
 | _::bs,_,i+1,v,.cons _ t,e=>by
  obtain ⟨b,h1,h2⟩:=rY (i:=i) (v:=v) t (by simpa using e)
  exact ⟨b,by simpa using h1,h2⟩
end
end L2
namespace L2
open PySem PySem.Spec PyProof.Rows
inductive W where
 | non | bl (b:Bool) | int (i:Int) | str (x:Str) | ty (n:String) | tup (ws:List W) | lst (ws:List W) | loc (n:Nat) | kls (ws:List W) | exc (n:Str)
 /-- an exception with attributes -/
 | exa (n:Str) (ws:List W)
 /-- a def of the module, by its address and a number -/
 | fnv (f:Addr) (i:Nat)
inductive Cell where
 | lst (ws:List W) | obj (C:Addr) (fs:List (Str×W)) | dct (kvs:List (Key×W))
 /-- a dict whose keys are tuples of ints -/
 | dtt (kvs:List (List Int×W))
structure Gh where
 nx:Nat
 c:Nat→Option Cell
structure Mu where
 f:Nat→Option Addr
 hid:Addr→Prop
def KLst (K:PySem.W.Frag)(p:Addr)(xs:List V):Prop:=
 ∃ (o:Obj) (its:Array Value) (n:Nat),K.lookup p=some o∧o.cls=.type "list"∧o.dict=none∧o.data=.seq its n∧its.size≤sizeLine∧Vals xs its.toList
def Frz (H:Hp)(μ : Mu)(p:Addr)(xs:List V):Prop:=H p=some (.lst xs)∧(∀ n,μ.f n≠some p)∧¬ μ.hid p
def Frk (K:PySem.W.Frag)(H:Hp)(p:Addr)(xs:List V):Prop:=(∃ o,H p=some (.frz o (.lst xs)))∨KLst K p xs
theorem Frz.sq {K:PySem.W.Frag}{H:Hp}{μ : Mu}{p:Addr}{xs:List V}(h:Frz H μ p xs):SqL K H p xs:=.inl (.inl h.1)
theorem Frk.sq {K:PySem.W.Frag}{H:Hp}{p:Addr}{xs:List V}(h:Frk K H p xs):SqL K H p xs:=by
 rcases h with h | h
 ·exact .inl (.inr h)
 ·exact .inr h
def vmB:List Value:=[.type "ValueError",.type "Exception",.type "BaseException",.type "object"]
def xdIn (K:PySem.W.Frag)(C:Addr)(n:Str):Bool:=PySem.W.nsIn K mainGlobals n==some (some (.ref C))&&PySem.W.typeIn K (.ref C)==some (.type "type")&&match PySem.W.clsIn K C with
 | some cd=>cd.name==n&&cd.mro.contains (.type "BaseException")
 | none=>false
def xcIn (K:PySem.W.Frag)(C:Addr)(n:Str):Bool:=xdIn K C n&&(match PySem.W.clsIn K C with
 | some cd=>(match cd.mro with
  | [.ref C',.ref R,a,b,c,d]=>C'==C&&[a,b,c,d]==vmB&&PySem.W.nsIn K mainGlobals "EaselError"==some (some (.ref R))&&(PySem.W.clsIn K R).any (fun c=>c.name==("EaselError" : Str))
  | _=>false)
 | none=>false)&&PySem.W.findIn K (.ref C) "__getattribute__"==some (some (.builtin "BaseException.__getattribute__"))&&PySem.W.findIn K (.ref C) "__getattr__"==some none&&PySem.W.findIn K (.ref C) "__class__"==some (some (.builtin "object.__class__"))&&PySem.W.specialIn K (.builtin "object.__class__") "__get__"==some (some (.builtin "getset_descriptor.__get__"))
 && PySem.W.takesIn K (.builtin "object.__class__")==some true
def attN (n:Str):List Str:=if n = "Apart" then ["word", "places"] else ["at"]
def xaIn (K:PySem.W.Frag)(C:Addr)(n:Str):Bool:=xcIn K C n&&PySem.W.hasDictIn K C&&(attN n).all fun f=>PySem.W.findIn K (.ref C) f==some none
def Xoa (K:PySem.W.Frag)(o:Obj)(n:Str)(dd:Addr):Prop:=∃ C,o.cls=.ref C∧o.dict=some dd∧PySem.W.notCls o=true∧xaIn K C n=true
def Xob (K:PySem.W.Frag)(o:Obj)(n:Str):Prop:=∃ C,o.cls=.ref C∧o.dict=none∧PySem.W.notCls o=true∧xcIn K C n=true
mutual
def Rep (K:PySem.W.Frag)(H:Hp)(μ : Mu):W→V→Prop
 | .non,v=>v=.non
 | .bl b,v=>v=.bl b
 | .int i,v=>v=.int i
 | .str x,v=>v=.str x
 | .ty n,v=>v=.ty n
 | .tup ws,v=>∃ p xs,v=.ref p∧SqT K H p xs∧aL K H μ ws xs
 | .lst ws,v=>∃ p xs,v=.ref p∧Frz H μ p xs∧aL K H μ ws xs
 | .kls ws,v=>∃ p xs,v=.ref p∧Frk K H p xs∧aL K H μ ws xs
 | .loc n,v=>∃ p,v=.ref p∧μ.f n=some p
 | .exc n,v=>∃ p o u,v=.ref p∧H p=some (.frz o u)∧Xob K o n
 | .exa n ws,v=>∃ p o u dd ns xs,v=.ref p∧H p=some (.frz o u)∧Xoa K o n dd∧H dd=some (.xd (List.zip ns xs))∧ns=attN n∧ns.length=xs.length∧aL K H μ ws xs
 | .fnv f _,v=>v=.ref f
def aL (K:PySem.W.Frag)(H:Hp)(μ : Mu):List W→List V→Prop
 | [],xs=>xs=[]
 | w::ws,xs=>∃ v vs,xs=v::vs∧Rep K H μ w v∧aL K H μ ws vs
end
section
variable {K:PySem.W.Frag}{H H' H1 H2:Hp}{μ μ' μ1 μ2:Mu}{h h':Gh}{w:W}{ws:List W}{v:V}{xs:List V}
theorem aL.len:∀ {ws:List W} {xs:List V},aL K H μ ws xs→ws.length=xs.length
 | [],xs,h=>by
  have e:xs=[]:=by rw [aL] at h;exact h
  rw [e];rfl
 | w::ws,xs,h=>by
  rw [aL] at h
  obtain ⟨v,vs,e,_,h⟩:=h
  rw [e,List.length_cons,List.length_cons,aL.len h]
theorem aL.get:∀ {ws:List W} {xs:List V} {i:Nat} {w:W},aL K H μ ws xs→ws[i]?=some w→∃ v,xs[i]?=some v∧Rep K H μ w v
 | [],_,_,_,_,e=>by simp at e
 | a::ws,xs,0,w,h,e=>by
  rw [aL] at h
  obtain ⟨v,vs,e1,r,_⟩:=h
  simp at e;subst e;subst e1
  exact ⟨v,rfl,r⟩
 | a::ws,xs,i+1,w,h,e=>by
  rw [aL] at h
  obtain ⟨v,vs,e1,_,h⟩:=h
  subst e1
  obtain ⟨u,h1,h2⟩:=aL.get (i:=i) (w:=w) h (by simpa using e)
  exact ⟨u,by simpa using h1,h2⟩
theorem aL.nil:aL K H μ [] []:=by rw [aL]
theorem aL.cons (r:Rep K H μ w v)(h:aL K H μ ws xs):aL K H μ (w::ws) (v::xs):=by
 rw [aL];exact ⟨v,xs,rfl,r,h⟩
theorem aL.append:∀ {ws:List W} {xs:List V} {us:List W} {ys:List V},aL K H μ ws xs→aL K H μ us ys→aL K H μ (ws++us) (xs++ys)
 | [],xs,us,ys,h,g=>by
  rw [aL] at h;subst h;exact g
 | w::ws,xs,us,ys,h,g=>by
  rw [aL] at h
  obtain ⟨v,vs,e,r,h⟩:=h
  subst e
  exact aL.cons r (aL.append h g)
theorem aL.one (r:Rep K H μ w v):aL K H μ [w] [v]:=aL.cons r aL.nil
structure Ex0 (K:PySem.W.Frag) (H:Hp) (μ : Mu) (H':Hp) (μ':Mu):Prop where
 t:∀ p xs,SqT K H p xs→SqT K H' p xs
 l:∀ p xs,Frz H μ p xs→Frz H' μ' p xs
 k:∀ p xs,Frk K H p xs→Frk K H' p xs
 m:∀ n p,μ.f n=some p→μ'.f n=some p
 x:∀ p o u,H p=some (.frz o u)→H' p=some (.frz o u)
 y:∀ p fs,H p=some (.xd fs)→H' p=some (.xd fs)
structure Ex (K:PySem.W.Frag) (H:Hp) (μ : Mu) (H':Hp) (μ':Mu):Prop extends Ex0 K H μ H' μ' where
 o:∀ p u,μ.hid p→H p=some u→μ'.hid p∧H' p=some u
mutual
theorem Rep.ex (e:Ex0 K H μ H' μ'):∀ {w:W} {v:V},Rep K H μ w v→Rep K H' μ' w v
 | .non,_,h=>by rw [Rep] at h ⊢;exact h
 | .bl _,_,h=>by rw [Rep] at h ⊢;exact h
 | .int _,_,h=>by rw [Rep] at h ⊢;exact h
 | .str _,_,h=>by rw [Rep] at h ⊢;exact h
 | .ty _,_,h=>by rw [Rep] at h ⊢;exact h
 | .tup ws,_,h=>by
  rw [Rep] at h ⊢
  obtain ⟨p,xs,e1,hs,hr⟩:=h
  exact ⟨p,xs,e1,e.t _ _ hs,aL.ex e hr⟩
 | .lst ws,_,h=>by
  rw [Rep] at h ⊢
  obtain ⟨p,xs,e1,hs,hr⟩:=h
  exact ⟨p,xs,e1,e.l _ _ hs,aL.ex e hr⟩
 | .kls ws,_,h=>by
  rw [Rep] at h ⊢
  obtain ⟨p,xs,e1,hs,hr⟩:=h
  exact ⟨p,xs,e1,e.k _ _ hs,aL.ex e hr⟩
 | .loc n,_,h=>by
  rw [Rep] at h ⊢
  obtain ⟨p,e1,hm⟩:=h
  exact ⟨p,e1,e.m _ _ hm⟩
 | .exc n,_,h=>by
  rw [Rep] at h ⊢
  obtain ⟨p,o,u,e1,hm,hx⟩:=h
  exact ⟨p,o,u,e1,e.x _ _ _ hm,hx⟩
 | .exa n ws,_,h=>by
  rw [Rep] at h ⊢
  obtain ⟨p,o,u,dd,ns,xs,e1,hm,hx,hd,e2,e3,hr⟩:=h
  exact ⟨p,o,u,dd,ns,xs,e1,e.x _ _ _ hm,hx,e.y _ _ hd,e2,e3,aL.ex e hr⟩
 | .fnv _ _,_,h=>by rw [Rep] at h ⊢;exact h
theorem aL.ex (e:Ex0 K H μ H' μ'):∀ {ws:List W} {xs:List V},aL K H μ ws xs→aL K H' μ' ws xs
 | [],_,h=>by rw [aL] at h ⊢;exact h
 | w::ws,_,h=>by
  rw [aL] at h ⊢
  obtain ⟨v,vs,e1,r,h⟩:=h
  exact ⟨v,vs,e1,Rep.ex e r,aL.ex e h⟩
end
structure Ext (K:PySem.W.Frag) (H:Hp) (μ : Mu) (H':Hp) (μ':Mu):Prop where
 r:∀ w v,Rep K H μ w v→Rep K H' μ' w v
 o:∀ p u,μ.hid p→H p=some u→μ'.hid p∧H' p=some u
theorem Ext.refl:Ext K H μ H μ:=⟨fun _ _ h=>h,fun _ _ h g=>⟨h,g⟩⟩
theorem Ext.trans (a:Ext K H μ H1 μ1)(b:Ext K H1 μ1 H2 μ2):Ext K H μ H2 μ2:=
 ⟨fun w v h=>b.r w v (a.r w v h),fun p u h g=>let ⟨h1,g1⟩:=a.o p u h g;b.o p u h1 g1⟩
theorem Ex.ext (e:Ex K H μ H' μ'):Ext K H μ H' μ':=⟨fun _ _ h=>Rep.ex e.toEx0 h,e.o⟩
theorem Ext.s (e:Ext K H μ H' μ'):∀ {ws:List W} {xs:List V},aL K H μ ws xs→aL K H' μ' ws xs
 | [],_,h=>by rw [aL] at h ⊢;exact h
 | w::ws,_,h=>by
  rw [aL] at h ⊢
  obtain ⟨v,vs,e1,r,h⟩:=h
  exact ⟨v,vs,e1,e.r _ _ r,Ext.s e h⟩
def MutO:Option HO→Prop
 | some (.lst _)=>True
 | some (.dK _)=>True
 | some (.ins _ _ _)=>True
 | some (.ext _)=>True
 | _=>False
def mY {κ : Type}(K:PySem.W.Frag)(H:Hp)(μ : Mu):List (κ×W)→List (κ×V)→Prop:=Paired fun (p:κ×W) (q:κ×V)=>p.1=q.1∧Rep K H μ p.2 q.2
def entI (x:List Int×Addr×Value):DictEntry:=⟨reduceHash (Builtin.Tuple.tupleHashOf (x.1.map hashInt)),.ref x.2.1,x.2.2⟩
def sO (a:Addr)(xs:List (List Int×Addr×Value))(h:Heap):Prop:=xs.length≤sizeLine∧(a==sysModules)=false∧(xs.map (·.1)).Nodup∧∃ o es ep,h.get? a=some o∧o.ExactDict∧o.data=.dict es ep∧es.toList=xs.map entI
def nO (K:PySem.W.Frag)(H:Hp)(μ : Mu)(p:Addr):Cell→Prop
 | .lst ws=>∃ xs,H p=some (.lst xs)∧aL K H μ ws xs
 | .obj C fs=>∃ dx fvs,H p=some (.ins C dx fvs)∧mY K H μ fs fvs
 | .dct kvs=>∃ kvv,H p=some (.dK kvv)∧mY K H μ kvs kvv
 | .dtt kvs=>∃ xs vs,H p=some (.ext (sO p xs))∧kvs.map (·.1)=xs.map (·.1)∧Vals vs (xs.map (·.2.2))∧aL K H μ (kvs.map fun x=>W.tup (x.1.map W.int)) (xs.map fun x=>V.ref x.2.1)∧aL K H μ (kvs.map (·.2)) vs
structure Rel (K:PySem.W.Frag) (μ : Mu) (H:Hp) (h:Gh):Prop where
 inj:∀ m n p,μ.f m=some p→μ.f n=some p→m=n
 dom:∀ n p,μ.f n=some p→n<h.nx
 trk:∀ n p,μ.f n=some p→MutO (H p)
 cel:∀ n c,h.c n=some c→∃ p,μ.f n=some p∧nO K H μ p c
 hd:∀ p,μ.hid p→(∃ xs,H p=some (.lst xs))∧∀ n,μ.f n≠some p
theorem nO.ext {p:Addr}{c:Cell}(e:Ext K H μ H' μ')(hp:H' p=H p)(x:nO K H μ p c):nO K H' μ' p c:=by
 cases c with
 | lst ws=>obtain ⟨xs,a,b⟩:=x;exact ⟨xs,hp.trans a,e.s b⟩
 | obj C fs=>obtain ⟨dx,fvs,a,b⟩:=x;exact ⟨dx,fvs,hp.trans a,Paired.mapP b fun _ _ z=>⟨z.1,e.r _ _ z.2⟩⟩
 | dct kvs=>obtain ⟨kvv,a,b⟩:=x;exact ⟨kvv,hp.trans a,Paired.mapP b fun _ _ z=>⟨z.1,e.r _ _ z.2⟩⟩
 | dtt kvs=>obtain ⟨xs,vs,a,b,c,d,f⟩:=x;exact ⟨xs,vs,hp.trans a,b,c,e.s d,e.s f⟩
theorem Rd.laid {p q:Addr}{o u:HO}(hp:H p=none)(r:Rd H q u):Rd (upd H p o) q u:=by
 have ne:q≠p:=by
  rcases r with r | ⟨_,r⟩
  ·exact aM r hp
  ·exact aM r hp
 unfold Rd
 rw [aJ ne]
 exact r
theorem Ex.laid {p:Addr}{o:HO}(hp:H p=none):Ex K H μ (upd H p o) μ where
 t:=fun q xs h=>by
  rcases h with h | h
  ·exact .inl (h.laid hp)
  ·exact .inr h
 l:=fun q xs h=>⟨by rw [aJ (aM h.1 hp)];exact h.1,h.2⟩
 k:=fun q xs h=>by
  rcases h with ⟨o',h⟩ | h
  ·exact .inl ⟨o',by rw [aJ (aM h hp)];exact h⟩
  ·exact .inr h
 m:=fun _ _ h=>h
 x:=fun q o' u e=>by rw [aJ (aM e hp)];exact e
 y:=fun q fs e=>by rw [aJ (aM e hp)];exact e
 o:=fun q u z e=>⟨z,by rw [aJ (aM e hp)];exact e⟩
theorem Rel.laid {p:Addr}{o:HO}(R:Rel K μ H h)(hp:H p=none):Rel K μ (upd H p o) h where
 inj:=R.inj
 dom:=R.dom
 trk:=fun n q e=>by
  have:=R.trk n q e
  have ne:q≠p:=fun z=>by subst z;rw [hp] at this;exact this
  rw [aJ ne];exact this
 cel:=fun n c e=>by
  obtain ⟨q,e1,x⟩:=R.cel n c e
  have:=R.trk n q e1
  have ne:q≠p:=fun z=>by subst z;rw [hp] at this;exact this
  exact ⟨q,e1,x.ext (Ex.laid hp).ext (aJ ne)⟩
 hd:=fun q z=>by
  obtain ⟨⟨xs,e⟩,g⟩:=R.hd q z
  exact ⟨⟨xs,by rw [aJ (aM e hp)];exact e⟩,g⟩
theorem Rep.tupNew {p:Addr}(hp:H p=none)(r:aL K H μ ws xs):Rep K (upd H p (.tup xs)) μ (.tup ws) (.ref p):=by
 rw [Rep]
 exact ⟨p,xs,rfl,SqT.of bA,(Ex.laid hp).ext.s r⟩
theorem Rep.lstNew {p:Addr}(R:Rel K μ H h)(hp:H p=none)(r:aL K H μ ws xs):Rep K (upd H p (.lst xs)) μ (.lst ws) (.ref p):=by
 rw [Rep]
 refine ⟨p,xs,rfl,⟨bA,fun n e=>?_,fun z=>?_⟩,(Ex.laid hp).ext.s r⟩
 ·have:=R.trk n p e
  rw [hp] at this
  exact this
 ·obtain ⟨⟨xs,e⟩,_⟩:=R.hd p z
  rw [hp] at e
  cases e
def Mu.put (μ : Mu)(n:Nat)(p:Addr):Mu:=⟨fun m=>if m=n then some p else μ.f m,μ.hid⟩
theorem Mu.put_same {n:Nat}{p:Addr}:(μ.put n p).f n=some p:=by show (if n=n then some p else μ.f n)=_;rw [if_pos rfl]
theorem Mu.put_ne {m n:Nat}{p:Addr}(e:m≠n):(μ.put n p).f m = μ.f m:=by show (if m=n then some p else μ.f m)=_;rw [if_neg e]
def Gh.new (h:Gh)(c:Cell):Gh:=⟨h.nx+1,fun m=>if m=h.nx then some c else h.c m⟩
def Gh.set (h:Gh)(n:Nat)(c:Cell):Gh:=⟨h.nx,fun m=>if m=n then some c else h.c m⟩
theorem Rel.dead (R:Rel K μ H h){n:Nat}(hn:h.nx≤n):μ.f n=none:=by
 cases e:μ.f n with
 | none=>rfl
 | some p=>exact absurd (R.dom n p e) (by omega)
theorem Ex.newCell {p:Addr}{o:HO}(R:Rel K μ H h)(hp:H p=none):Ex K H μ (upd H p o) (μ.put h.nx p) where
 t:=fun q xs z=>(Ex.laid (μ:=μ) hp).t q xs z
 l:=fun q xs z=>by
  have nq:=aM z.1 hp
  refine ⟨by rw [aJ nq];exact z.1,fun n e=>?_,z.2.2⟩
  by_cases hn:n=h.nx
  ·subst hn
   rw [Mu.put_same] at e
   exact nq (Option.some.inj e).symm
  ·rw [Mu.put_ne hn] at e
   exact z.2.1 n e
 k:=fun q xs z=>(Ex.laid (μ:=μ) hp).k q xs z
 m:=fun n q e=>by
  have hn:n≠h.nx:=fun z=>by subst z;rw [R.dead (Nat.le_refl _)] at e;cases e
  rw [Mu.put_ne hn];exact e
 x:=fun q o' u e=>by rw [aJ (aM e hp)];exact e
 y:=fun q fs e=>by rw [aJ (aM e hp)];exact e
 o:=fun q u z e=>⟨z,by rw [aJ (aM e hp)];exact e⟩
theorem Rel.newCell {p:Addr}{o:HO}{c:Cell}(R:Rel K μ H h)(hp:H p=none)(mo:MutO (some o))(ck:nO K (upd H p o) (μ.put h.nx p) p c):Rel K (μ.put h.nx p) (upd H p o) (h.new c) where
 inj:=fun m n q em en=>by
  by_cases hm:m=h.nx
  ·by_cases hn:n=h.nx
   ·rw [hm,hn]
   ·rw [hm,Mu.put_same] at em
    rw [Mu.put_ne hn] at en
    have e:p=q:=Option.some.inj em
    subst e
    have:=R.trk n _ en
    rw [hp] at this
    exact this.elim
  ·rw [Mu.put_ne hm] at em
   by_cases hn:n=h.nx
   ·rw [hn,Mu.put_same] at en
    have e:p=q:=Option.some.inj en
    subst e
    have:=R.trk m _ em
    rw [hp] at this
    exact this.elim
   ·rw [Mu.put_ne hn] at en
    exact R.inj m n q em en
 dom:=fun n q e=>by
  show n<h.nx+1
  by_cases hn:n=h.nx
  ·omega
  ·rw [Mu.put_ne hn] at e
   have:=R.dom n q e
   omega
 trk:=fun n q e=>by
  by_cases hn:n=h.nx
  ·rw [hn,Mu.put_same] at e
   have e:p=q:=Option.some.inj e
   subst e
   rw [bA];exact mo
  ·rw [Mu.put_ne hn] at e
   have:=R.trk n q e
   have ne:q≠p:=fun z=>by subst z;rw [hp] at this;exact this
   rw [aJ ne];exact this
 cel:=fun n d e=>by
  have e:(if n=h.nx then some c else h.c n)=some d:=e
  by_cases hn:n=h.nx
  ·rw [if_pos hn] at e
   have e:c=d:=Option.some.inj e
   subst e
   exact ⟨p,by rw [hn,Mu.put_same],ck⟩
  ·rw [if_neg hn] at e
   obtain ⟨q,e1,x⟩:=R.cel n d e
   have:=R.trk n q e1
   have ne:q≠p:=fun z=>by subst z;rw [hp] at this;exact this
   exact ⟨q,by rw [Mu.put_ne hn];exact e1,x.ext (Ex.newCell R hp).ext (aJ ne)⟩
 hd:=fun q z=>by
  obtain ⟨⟨xs,e⟩,g⟩:=R.hd q z
  have ne:=aM e hp
  refine ⟨⟨xs,by rw [aJ ne];exact e⟩,fun n en=>?_⟩
  by_cases hn:n=h.nx
  ·rw [hn,Mu.put_same] at en
   exact ne (Option.some.inj en).symm
  ·rw [Mu.put_ne hn] at en
   exact g n en
theorem Rd.kept {p q:Addr}{o u:HO}(mo:MutO (H p))(r:Rd H q u)(hn:q≠p):Rd (upd H p o) q u:=by
 unfold Rd
 rw [aJ hn]
 exact r
theorem Ex.write {n:Nat}{p:Addr}{o:HO}(R:Rel K μ H h)(hn:μ.f n=some p):Ex K H μ (upd H p o) μ where
 t:=fun q xs z=>by
  rcases z with z | z
  ·refine .inl (z.kept (R.trk n p hn) fun e=>?_)
   subst e
   have:=R.trk n q hn
   rcases z with r | ⟨_,r⟩ <;> rw [r] at this <;> exact this
  ·exact .inr z
 l:=fun q xs z=>⟨by rw [aJ (fun e=>z.2.1 n (by rw [e];exact hn))];exact z.1,z.2⟩
 k:=fun q xs z=>by
  rcases z with ⟨o',z⟩ | z
  ·refine .inl ⟨o',?_⟩
   rw [aJ (fun e=>?_)]
   ·exact z
   ·subst e
    have:=R.trk n q hn
    rw [z] at this
    exact this
  ·exact .inr z
 m:=fun _ _ e=>e
 x:=fun q o' u e=>by
  rw [aJ (fun y=>?_)]
  ·exact e
  ·subst y
   have:=R.trk n q hn
   rw [e] at this
   exact this
 y:=fun q fs e=>by
  rw [aJ (fun y=>?_)]
  ·exact e
  ·subst y
   have:=R.trk n q hn
   rw [e] at this
   exact this
 o:=fun q u z e=>⟨z,by rw [aJ (fun y=>(R.hd q z).2 n (by rw [y];exact hn))];exact e⟩
theorem Rel.write {n:Nat}{p:Addr}{o:HO}{c:Cell}(R:Rel K μ H h)(hn:μ.f n=some p)(mo:MutO (some o))(ck:nO K (upd H p o) μ p c):Rel K μ (upd H p o) (h.set n c) where
 inj:=R.inj
 dom:=R.dom
 trk:=fun m q e=>by
  by_cases z:q=p
  ·subst z;rw [bA];exact mo
  ·rw [aJ z];exact R.trk m q e
 cel:=fun m d e=>by
  have e:(if m=n then some c else h.c m)=some d:=e
  by_cases hm:m=n
  ·rw [if_pos hm] at e
   have e:c=d:=Option.some.inj e
   subst e
   exact ⟨p,by rw [hm];exact hn,ck⟩
  ·rw [if_neg hm] at e
   obtain ⟨q,e1,x⟩:=R.cel m d e
   have ne:q≠p:=fun z=>by subst z;exact hm (R.inj m n q e1 hn)
   exact ⟨q,e1,x.ext (Ex.write R hn).ext (aJ ne)⟩
 hd:=fun q z=>by
  obtain ⟨⟨xs,e⟩,g⟩:=R.hd q z
  exact ⟨⟨xs,by rw [aJ (fun y=>g n (by rw [y];exact hn))];exact e⟩,g⟩
mutual
def Lo (k:Nat):W→Prop
 | .tup ws=>Los k ws
 | .lst ws=>Los k ws
 | .kls ws=>Los k ws
 | .exa _ ws=>Los k ws
 | .loc n=>n<k
 | _=>True
def Los (k:Nat):List W→Prop
 | []=>True
 | w::ws=>Lo k w∧Los k ws
end
mutual
theorem Rep.lo {k:Nat}(hd:∀ n p,μ.f n=some p→n<k):∀ {w:W} {v:V},Rep K H μ w v→Lo k w
 | .non,_,_=>by rw [Lo] <;> first | trivial | (intros;contradiction)
 | .bl _,_,_=>by rw [Lo] <;> first | trivial | (intros;contradiction)
 | .int _,_,_=>by rw [Lo] <;> first | trivial | (intros;contradiction)
 | .str _,_,_=>by rw [Lo] <;> first | trivial | (intros;contradiction)
 | .ty _,_,_=>by rw [Lo] <;> first | trivial | (intros;contradiction)
 | .exc _,_,_=>by rw [Lo] <;> first | trivial | (intros;contradiction)
 | .fnv _ _,_,_=>by rw [Lo] <;> first | trivial | (intros;contradiction)
 | .exa _ ws,_,h=>by
  rw [Rep] at h
  obtain ⟨_,_,_,_,_,_,_,_,_,_,_,_,hr⟩:=h
  rw [Lo]
  exact aL.lo hd hr
 | .tup ws,_,h=>by
  rw [Rep] at h
  obtain ⟨p,xs,_,_,hr⟩:=h
  rw [Lo]
  exact aL.lo hd hr
 | .lst ws,_,h=>by
  rw [Rep] at h
  obtain ⟨p,xs,_,_,hr⟩:=h
  rw [Lo]
  exact aL.lo hd hr
 | .kls ws,_,h=>by
  rw [Rep] at h
  obtain ⟨p,xs,_,_,hr⟩:=h
  rw [Lo]
  exact aL.lo hd hr
 | .loc n,_,h=>by
  rw [Rep] at h
  obtain ⟨p,_,hm⟩:=h
  rw [Lo]
  exact hd n p hm
theorem aL.lo {k:Nat}(hd:∀ n p,μ.f n=some p→n<k):∀ {ws:List W} {xs:List V},aL K H μ ws xs→Los k ws
 | [],_,_=>by rw [Los];trivial
 | w::ws,_,h=>by
  rw [aL] at h
  obtain ⟨v,vs,_,r,h⟩:=h
  rw [Los]
  exact ⟨Rep.lo hd r,aL.lo hd h⟩
end
def Mu.cut (μ : Mu)(k:Nat):Mu:=⟨fun n=>if n<k then μ.f n else none,μ.hid⟩
theorem Mu.cut_some {k n:Nat}{p:Addr}(e:(μ.cut k).f n=some p):n<k∧μ.f n=some p:=by
 have e:(if n<k then μ.f n else none)=some p:=e
 by_cases hn:n<k
 ·rw [if_pos hn] at e;exact ⟨hn,e⟩
 ·rw [if_neg hn] at e;cases e
mutual
theorem Rep.cut {k:Nat}:∀ {w:W} {v:V},Rep K H μ w v→Lo k w→Rep K H (μ.cut k) w v
 | .non,_,h,_=>by rw [Rep] at h ⊢;exact h
 | .bl _,_,h,_=>by rw [Rep] at h ⊢;exact h
 | .int _,_,h,_=>by rw [Rep] at h ⊢;exact h
 | .str _,_,h,_=>by rw [Rep] at h ⊢;exact h
 | .ty _,_,h,_=>by rw [Rep] at h ⊢;exact h
 | .exc _,_,h,_=>by rw [Rep] at h ⊢;exact h
 | .fnv _ _,_,h,_=>by rw [Rep] at h ⊢;exact h
 | .exa _ ws,_,h,l=>by
  rw [Rep] at h ⊢
  rw [Lo] at l
  obtain ⟨p,o,u,dd,ns,xs,e1,hm,hx,hd,e2,e3,hr⟩:=h
  exact ⟨p,o,u,dd,ns,xs,e1,hm,hx,hd,e2,e3,aL.cut hr l⟩
 | .tup ws,_,h,l=>by
  rw [Rep] at h ⊢
  rw [Lo] at l
  obtain ⟨p,xs,e1,hs,hr⟩:=h
  exact ⟨p,xs,e1,hs,aL.cut hr l⟩
 | .lst ws,_,h,l=>by
  rw [Rep] at h ⊢
  rw [Lo] at l
  obtain ⟨p,xs,e1,hs,hr⟩:=h
  exact ⟨p,xs,e1,⟨hs.1,fun n e=>hs.2.1 n (Mu.cut_some e).2,hs.2.2⟩,aL.cut hr l⟩
 | .kls ws,_,h,l=>by
  rw [Rep] at h ⊢
  rw [Lo] at l
  obtain ⟨p,xs,e1,hs,hr⟩:=h
  exact ⟨p,xs,e1,hs,aL.cut hr l⟩
 | .loc n,_,h,l=>by
  rw [Rep] at h ⊢
  rw [Lo] at l
  obtain ⟨p,e1,hm⟩:=h
  refine ⟨p,e1,?_⟩
  show (if n<k then μ.f n else none)=some p
  rw [if_pos l]
  exact hm
theorem aL.cut {k:Nat}:∀ {ws:List W} {xs:List V},aL K H μ ws xs→Los k ws→aL K H (μ.cut k) ws xs
 | [],_,h,_=>by rw [aL] at h ⊢;exact h
 | w::ws,_,h,l=>by
  rw [aL] at h ⊢
  rw [Los] at l
  obtain ⟨v,vs,e1,r,h⟩:=h
  exact ⟨v,vs,e1,Rep.cut r l.1,aL.cut h l.2⟩
end
end
end L2
namespace L2
open PySem PySem.Spec PyProof.Rows
section
variable {K:PySem.W.Frag}{H H' H1 H2:Hp}{μ μ' μ1 μ2:Mu}{h h':Gh}{w:W}{ws:List W}{v:V}{xs ys:List V}{p:Addr}
def Mu.hide (μ : Mu)(p:Addr):Mu:=⟨μ.f,fun q=>q=p∨μ.hid q⟩
def Mu.unhide (μ : Mu)(p:Addr):Mu:=⟨μ.f,fun q=>q≠p∧μ.hid q⟩
structure ExtX (p:Addr) (K:PySem.W.Frag) (H:Hp) (μ : Mu) (H':Hp) (μ':Mu):Prop where
 r:∀ w v,Rep K H μ w v→Rep K H' μ' w v
 o:∀ q u,q≠p→μ.hid q→H q=some u→μ'.hid q∧H' q=some u
theorem Ext.x (a:Ext K H μ H1 μ1)(hp:¬ μ.hid p)(b:ExtX p K H1 μ1 H2 μ2):Ext K H μ H2 μ2:=
 ⟨fun w v z=>b.r w v (a.r w v z),fun q u z e=>let ⟨z1,e1⟩:=a.o q u z e;b.o q u (fun y=>hp (by rw [←y];exact z)) z1 e1⟩
theorem Ext.hide {o:HO}(hp:H p=none):Ext K H μ (upd H p o) (μ.hide p):=Ex.ext {
 t:=fun q xs z=>(Ex.laid (μ:=μ) hp).t q xs z
 l:=fun q xs z=>by
  have nq:=aM z.1 hp
  refine ⟨by rw [aJ nq];exact z.1,z.2.1,fun y=>?_⟩
  rcases y with y | y
  ·exact nq y
  ·exact z.2.2 y
 k:=fun q xs z=>(Ex.laid (μ:=μ) hp).k q xs z
 m:=fun _ _ e=>e
 x:=fun q o' u e=>by rw [aJ (aM e hp)];exact e
 y:=fun q fs e=>by rw [aJ (aM e hp)];exact e
 o:=fun q u z e=>⟨.inr z,by rw [aJ (aM e hp)];exact e⟩ }
theorem Rel.nohid (R:Rel K μ H h)(hp:H p=none):¬ μ.hid p:=fun z=>by
 obtain ⟨⟨xs,e⟩,_⟩:=R.hd p z
 rw [hp] at e;cases e
theorem Rel.hide (R:Rel K μ H h)(hp:H p=none):Rel K (μ.hide p) (upd H p (.lst xs)) h where
 inj:=R.inj
 dom:=R.dom
 trk:=(R.laid hp).trk
 cel:=fun n c e=>by
  obtain ⟨q,e1,x⟩:=R.cel n c e
  have:=R.trk n q e1
  have ne:q≠p:=fun z=>by subst z;rw [hp] at this;exact this
  exact ⟨q,e1,x.ext (Ext.hide hp) (aJ ne)⟩
 hd:=fun q z=>by
  rcases z with z | z
  ·subst z
   refine ⟨⟨xs,bA⟩,fun n e=>?_⟩
   have:=R.trk n q e
   rw [hp] at this
   exact this
  ·exact (R.laid (o:=.lst xs) hp).hd q z
theorem Ex0.grow (R:Rel K μ H h)(hp:μ.hid p):Ex0 K H μ (upd H p (.lst ys)) μ where
 t:=fun q xs z=>by
  rcases z with z | z
  ·refine .inl ?_
   unfold Rd
   rw [aJ (fun y=>?_)]
   ·exact z
   ·subst y
    obtain ⟨⟨xs',e⟩,_⟩:=R.hd q hp
    rcases z with r | ⟨_,r⟩ <;> rw [e] at r <;> cases r
  ·exact .inr z
 l:=fun q xs z=>⟨by rw [aJ (fun y=>z.2.2 (by rw [y];exact hp))];exact z.1,z.2⟩
 k:=fun q xs z=>by
  rcases z with ⟨o',z⟩ | z
  ·refine .inl ⟨o',?_⟩
   rw [aJ (fun y=>?_)]
   ·exact z
   ·subst y
    obtain ⟨⟨xs',e⟩,_⟩:=R.hd q hp
    rw [e] at z
    cases z
  ·exact .inr z
 m:=fun _ _ e=>e
 x:=fun q o' u e=>by
  rw [aJ (fun y=>?_)]
  ·exact e
  ·subst y
   obtain ⟨⟨xs',e'⟩,_⟩:=R.hd q hp
   rw [e'] at e
   cases e
 y:=fun q fs e=>by
  rw [aJ (fun y=>?_)]
  ·exact e
  ·subst y
   obtain ⟨⟨xs',e'⟩,_⟩:=R.hd q hp
   rw [e'] at e
   cases e
theorem ExtX.grow (R:Rel K μ H h)(hp:μ.hid p):ExtX p K H μ (upd H p (.lst ys)) μ:=
 ⟨fun _ _ z=>Rep.ex (Ex0.grow R hp) z,fun q u ne z e=>⟨z,by rw [aJ ne];exact e⟩⟩
theorem Rel.grow (R:Rel K μ H h)(hp:μ.hid p):Rel K μ (upd H p (.lst ys)) h where
 inj:=R.inj
 dom:=R.dom
 trk:=fun n q e=>by
  have ne:q≠p:=fun z=>(R.hd p hp).2 n (by rw [←z];exact e)
  rw [aJ ne];exact R.trk n q e
 cel:=fun n c e=>by
  obtain ⟨q,e1,x⟩:=R.cel n c e
  have ne:q≠p:=fun z=>(R.hd p hp).2 n (by rw [←z];exact e1)
  refine ⟨q,e1,?_⟩
  cases c with
  | lst ws=>obtain ⟨xs,a,b⟩:=x;exact ⟨xs,(aJ ne).trans a,aL.ex (Ex0.grow R hp) b⟩
  | obj C fs=>obtain ⟨dx,fvs,a,b⟩:=x;exact ⟨dx,fvs,(aJ ne).trans a,Paired.mapP b fun _ _ z=>⟨z.1,Rep.ex (Ex0.grow R hp) z.2⟩⟩
  | dct kvs=>obtain ⟨kvv,a,b⟩:=x;exact ⟨kvv,(aJ ne).trans a,Paired.mapP b fun _ _ z=>⟨z.1,Rep.ex (Ex0.grow R hp) z.2⟩⟩
  | dtt kvs=>obtain ⟨xs,vs,a,b,c,d,f⟩:=x;exact ⟨xs,vs,(aJ ne).trans a,b,c,aL.ex (Ex0.grow R hp) d,aL.ex (Ex0.grow R hp) f⟩
 hd:=fun q z=>by
  by_cases e:q=p
  ·subst e;exact ⟨⟨ys,bA⟩,(R.hd q hp).2⟩
  ·rw [aJ e];exact R.hd q z
theorem Ex0.unhide:Ex0 K H μ H (μ.unhide p) where
 t:=fun _ _ z=>z
 l:=fun q xs z=>⟨z.1,z.2.1,fun y=>z.2.2 y.2⟩
 k:=fun _ _ z=>z
 m:=fun _ _ e=>e
 x:=fun _ _ _ e=>e
 y:=fun _ _ e=>e
theorem ExtX.unhide:ExtX p K H μ H (μ.unhide p):=⟨fun _ _ z=>Rep.ex Ex0.unhide z,fun q u ne z e=>⟨⟨ne,z⟩,e⟩⟩
theorem Rel.unhide (R:Rel K μ H h):Rel K (μ.unhide p) H h where
 inj:=R.inj
 dom:=R.dom
 trk:=R.trk
 cel:=fun n c e=>by
  obtain ⟨q,e1,x⟩:=R.cel n c e
  refine ⟨q,e1,?_⟩
  cases c with
  | lst ws=>obtain ⟨xs,a,b⟩:=x;exact ⟨xs,a,aL.ex Ex0.unhide b⟩
  | obj C fs=>obtain ⟨dx,fvs,a,b⟩:=x;exact ⟨dx,fvs,a,Paired.mapP b fun _ _ z=>⟨z.1,Rep.ex Ex0.unhide z.2⟩⟩
  | dct kvs=>obtain ⟨kvv,a,b⟩:=x;exact ⟨kvv,a,Paired.mapP b fun _ _ z=>⟨z.1,Rep.ex Ex0.unhide z.2⟩⟩
  | dtt kvs=>obtain ⟨xs,vs,a,b,c,d,f⟩:=x;exact ⟨xs,vs,a,b,c,aL.ex Ex0.unhide d,aL.ex Ex0.unhide f⟩
 hd:=fun q z=>R.hd q z.2
theorem Rep.built (R:Rel K μ H h)(hp:μ.hid p)(e:H p=some (.lst xs))(r:aL K H μ ws xs):Rep K H (μ.unhide p) (.lst ws) (.ref p):=by
 rw [Rep]
 exact ⟨p,xs,rfl,⟨e,(R.hd p hp).2,fun z=>z.1 rfl⟩,aL.ex Ex0.unhide r⟩
end
abbrev Sw:=List (Option W)
abbrev WK:=W→Gh→Prop
abbrev ME:=Sw→Gh→WK→Prop
abbrev MT:=Sw→Gh→(Bool→Gh→Prop)→Prop
abbrev MA:=Sw→Gh→(List W→Gh→Prop)→Prop
structure bI where
 nx:Sw→Gh→Prop
 rt:WK
 bk:Sw→Gh→Prop:=fun _ _=>False
 ct:Sw→Gh→Prop:=fun _ _=>False
abbrev MS:=bI→Sw→Gh→Prop
abbrev MG:=W→Sw→Gh→(Sw→Gh→Prop)→Prop
abbrev MGs:=List W→Sw→Gh→(Sw→Gh→Prop)→Prop
structure Xw where
 cls:Str
 fs:List (Str×W)
abbrev XWK:=Xw→Gh→Prop
abbrev MSp:=List W→Gh→WK→XWK→Prop
def EF:XWK:=fun _ _=>False
structure Slots (K:PySem.W.Frag) (H:Hp) (μ : Mu) (σw:Sw) (σ : St):Prop where
 len:σw.length = σ.length
 get:∀ (i:Nat) (w:W),σw[i]?=some (some w)→∃ v,σ[i]?=some (some v)∧Rep K H μ w v
def DQ (K:PySem.W.Frag)(H:Hp)(μ : Mu)(Q:WK):VK:=fun v H'=>∃ μ' w h',Ext K H μ H' μ'∧Rel K μ' H' h'∧Rep K H' μ' w v∧Q w h'
def DB (K:PySem.W.Frag)(H:Hp)(μ : Mu)(Q:Bool→Gh→Prop):Bool→Hp→Prop:=fun b H'=>∃ μ' h',Ext K H μ H' μ'∧Rel K μ' H' h'∧Q b h'
def DA (K:PySem.W.Frag)(H:Hp)(μ : Mu)(Q:List W→Gh→Prop):List V→Hp→Prop:=fun vs H'=>∃ μ' ws h',Ext K H μ H' μ'∧Rel K μ' H' h'∧aL K H' μ' ws vs∧Q ws h'
def DN (K:PySem.W.Frag)(H:Hp)(μ : Mu)(N:Sw→Gh→Prop):St→Hp→Prop:=fun σ' H'=>∃ μ' σw' h',Ext K H μ H' μ'∧Rel K μ' H' h'∧Slots K H' μ' σw' σ'∧N σw' h'
section
variable {K:PySem.W.Frag}{H H' H1 H2:Hp}{μ μ' μ1 μ2:Mu}{h h' h1:Gh}{w:W}{v:V}{σ : St}{σw:Sw}
theorem Slots.ext (S:Slots K H μ σw σ)(e:Ext K H μ H' μ'):Slots K H' μ' σw σ:=⟨S.len,fun i w q=>let ⟨v,a,b⟩:=S.get i w q;⟨v,a,e.r _ _ b⟩⟩
theorem Slots.set (S:Slots K H μ σw σ)(r:Rep K H μ w v)(i:Nat):Slots K H μ (σw.set i (some w)) (σ.set i (some v)):=by
 refine ⟨by rw [List.length_set,List.length_set,S.len],fun j u q=>?_⟩
 rw [List.getElem?_set] at q ⊢
 by_cases hij:i=j
 ·rw [if_pos hij] at q ⊢
  by_cases hl:i < σw.length
  ·rw [if_pos hl] at q
   rw [if_pos (by rw [←S.len];exact hl)]
   have e:w=u:=by injection q with q;injection q
   subst e
   exact ⟨v,rfl,r⟩
  ·rw [if_neg hl] at q;cases q
 ·rw [if_neg hij] at q ⊢
  exact S.get j u q
theorem DQ.trans {Q:WK}(e:Ext K H μ H1 μ1)(q:DQ K H1 μ1 Q v H'):DQ K H μ Q v H':=let ⟨μ',w,h',a,b⟩:=q;⟨μ',w,h',e.trans a,b⟩
theorem DB.trans {Q:Bool→Gh→Prop}{b:Bool}(e:Ext K H μ H1 μ1)(q:DB K H1 μ1 Q b H'):DB K H μ Q b H':=let ⟨μ',h',a,b⟩:=q;⟨μ',h',e.trans a,b⟩
theorem DN.trans {N:Sw→Gh→Prop}{σ':St}(e:Ext K H μ H1 μ1)(q:DN K H1 μ1 N σ' H'):DN K H μ N σ' H':=let ⟨μ',w,h',a,b⟩:=q;⟨μ',w,h',e.trans a,b⟩
end
def tD (K:PySem.W.Frag)(m:ME):TE:=fun σ H Q=>∃ μ h σw Qw,Rel K μ H h∧Slots K H μ σw σ∧m σw h Qw∧∀ v H',DQ K H μ Qw v H'→Q v H'
def tDT (K:PySem.W.Frag)(m:MT):TT:=fun σ H Q=>∃ μ h σw Qw,Rel K μ H h∧Slots K H μ σw σ∧m σw h Qw∧∀ b H',DB K H μ Qw b H'→Q b H'
def tDA (K:PySem.W.Frag)(m:MA):TA:=fun σ H Q=>∃ μ h σw Qw,Rel K μ H h∧Slots K H μ σw σ∧m σw h Qw∧∀ vs H',DA K H μ Qw vs H'→Q vs H'
def tDG (K:PySem.W.Frag)(g:MG):TG:=fun v σ H N=>∃ μ h σw w Nw,Rel K μ H h∧Slots K H μ σw σ∧Rep K H μ w v∧g w σw h Nw∧∀ σ' H',DN K H μ Nw σ' H'→N σ' H'
def tDGs (K:PySem.W.Frag)(g:MGs):TGs:=fun vs σ H N=>∃ μ h σw ws Nw,Rel K μ H h∧Slots K H μ σw σ∧aL K H μ ws vs∧g ws σw h Nw∧∀ σ' H',DN K H μ Nw σ' H'→N σ' H'
structure uX (K:PySem.W.Frag) (H:Hp) (μ : Mu) (Dw:bI) (D:Ends):Prop where
 nx:∀ σ' H',DN K H μ Dw.nx σ' H'→D.nx σ' H'
 rt:∀ v H',DQ K H μ Dw.rt v H'→D.rt v H'
 bk:∀ σ' H',DN K H μ Dw.bk σ' H'→D.bk σ' H'
 ct:∀ σ' H',DN K H μ Dw.ct σ' H'→D.ct σ' H'
def tDS (K:PySem.W.Frag)(m:MS):TS:=fun D σ H=>∃ μ h σw Dw,Rel K μ H h∧Slots K H μ σw σ∧m Dw σw h∧uX K H μ Dw D
theorem uX.trans {K:PySem.W.Frag}{H H1:Hp}{μ μ1:Mu}{Dw:bI}{D:Ends}(k:uX K H μ Dw D)(e:Ext K H μ H1 μ1):uX K H1 μ1 Dw D:=
 ⟨fun _ _ q=>k.nx _ _ (q.trans e),fun _ _ q=>k.rt _ _ (q.trans e),fun _ _ q=>k.bk _ _ (q.trans e),fun _ _ q=>k.ct _ _ (q.trans e)⟩
section
variable {X:Cx}{e:Expr}{es:List Expr}{st:Stmt}{sts:List Stmt}
theorem PE.of {t t':TE}(h:PE X e t)(k:∀ σ H Q,t' σ H Q→t σ H Q):PE X e t':=fun pins s σ H Q I q=>h pins s σ H Q I (k σ H Q q)
theorem PT.of {t t':TT}(h:PT X e t)(k:∀ σ H Q,t' σ H Q→t σ H Q):PT X e t':=fun pins s σ H Q I q=>h pins s σ H Q I (k σ H Q q)
theorem PW.of {t t':TT}(h:PW X e t)(k:∀ σ H Q,t' σ H Q→t σ H Q):PW X e t':=fun wh pins s σ H Q I q=>h wh pins s σ H Q I (k σ H Q q)
theorem PA.of {t t':TA}(h:PA X es t)(k:∀ σ H Q,t' σ H Q→t σ H Q):PA X es t':=fun pos pins s σ H Q I q=>h pos pins s σ H Q I (k σ H Q q)
theorem PG.of {t t':TG}(h:PG X e t)(k:∀ v σ H Q,t' v σ H Q→t v σ H Q):PG X e t':=fun pins s σ H v u Q I r q=>h pins s σ H v u Q I r (k v σ H Q q)
theorem PGs.of {t t':TGs}(h:PGs X es t)(k:∀ v σ H Q,t' v σ H Q→t v σ H Q):PGs X es t':=fun pins s σ H v u Q I r q=>h pins s σ H v u Q I r (k v σ H Q q)
theorem PS.of {t t':TS}(h:PS X st t)(k:∀ D σ H,t' D σ H→t D σ H):PS X st t':=fun pins s σ H D I q=>h pins s σ H D I (k D σ H q)
theorem PSs.of {t t':TS}(h:PSs X sts t)(k:∀ D σ H,t' D σ H→t D σ H):PSs X sts t':=fun pins s σ H D I q=>h pins s σ H D I (k D σ H q)
end
abbrev DE (X:Cx)(e:Expr)(m:ME):Prop:=PE X e (tD X.K m)
abbrev DT (X:Cx)(e:Expr)(m:MT):Prop:=PT X e (tDT X.K m)
abbrev DWt (X:Cx)(e:Expr)(m:MT):Prop:=PW X e (tDT X.K m)
abbrev DAs (X:Cx)(es:List Expr)(m:MA):Prop:=PA X es (tDA X.K m)
abbrev DG (X:Cx)(e:Expr)(m:MG):Prop:=PG X e (tDG X.K m)
abbrev DGss (X:Cx)(es:List Expr)(m:MGs):Prop:=PGs X es (tDGs X.K m)
abbrev DS (X:Cx)(st:Stmt)(m:MS):Prop:=PS X st (tDS X.K m)
abbrev DSs (X:Cx)(st:List Stmt)(m:MS):Prop:=PSs X st (tDS X.K m)
section
variable {X:Cx}{e a b c:Expr}{ma mb mc:ME}{pos:Pos}
def aD (i:Nat):ME:=fun σ h Q=>match σ[i]? with
 | some (some w)=>Q w h
 | _=>False
def mC (w:W):ME:=fun _ h Q=>Q w h
theorem dv (i:Nat)(he:PE X e (tVar i)):DE X e (aD i):=he.of fun σ H Q ⟨μ,h,σw,Qw,R,S,m,k⟩=>by
 unfold aD at m
 cases q:σw[i]? with
 | none=>rw [q] at m;exact m.elim
 | some o=>
  rw [q] at m
  cases o with
  | none=>exact m.elim
  | some w=>
   obtain ⟨v,h1,h2⟩:=S.get i w q
   exact ⟨v,h1,k _ _ ⟨μ,w,h,.refl,R,h2,m⟩⟩
theorem dc {w:W}{v:V}(he:PE X e (tC v))(r:∀ H μ,Rep X.K H μ w v):DE X e (mC w):=he.of fun σ H Q ⟨μ,h,σw,Qw,R,S,m,k⟩=>k _ _ ⟨μ,w,h,.refl,R,r H μ,m⟩
theorem aP {i:Int}{j pos}:DE X (.Constant (.int i) j pos) (mC (.int i)):=dc pe_int fun _ _=>by rw [Rep]
theorem d_bl {i:Bool}{j pos}:DE X (.Constant (.bool i) j pos) (mC (.bl i)):=dc pe_bl fun _ _=>by rw [Rep]
abbrev M2:=W→W→Gh→WK→Prop
def mOp (r:M2)(ma mb:ME):ME:=fun σ h Q=>ma σ h fun x h1=>mb σ h1 fun y h2=>r x y h2 Q
def Sim2 (K:PySem.W.Frag)(r:R2)(mr:M2):Prop:=∀ {H:Hp} {μ : Mu} {h:Gh} {x y:V} {wx wy:W} {Qw:WK} {Q:VK},Rel K μ H h→Rep K H μ wx x→Rep K H μ wy y→mr wx wy h Qw →
 (∀ v H',DQ K H μ Qw v H'→Q v H')→r x y H Q
theorem two {K:PySem.W.Frag}{σ : St}{H:Hp}{Q:VK}{mr:M2}{R2':V→V→Hp→Prop}(h:tD K (mOp mr ma mb) σ H Q)
  (k:∀ {H2:Hp} {μ2:Mu} {h2:Gh} {x y:V} {wx wy:W} {Qw:WK},Rel K μ2 H2 h2→Rep K H2 μ2 wx x→Rep K H2 μ2 wy y→mr wx wy h2 Qw→(∀ v H',DQ K H2 μ2 Qw v H'→Q v H')→R2' x y H2) :
  tD K ma σ H fun x H1=>tD K mb σ H1 fun y H2=>R2' x y H2:=by
 obtain ⟨μ,g,σw,Qw,R,S,m,q⟩:=h
 refine ⟨μ,g,σw,_,R,S,m,fun x H1 ⟨μ1,wx,h1,e1,R1,r1,m1⟩=>?_⟩
 refine ⟨μ1,h1,σw,_,R1,S.ext e1,m1,fun y H2 ⟨μ2,wy,h2,e2,R2,r2,m2⟩=>?_⟩
 exact k R2 (e2.r _ _ r1) r2 m2 fun v H' z=>q _ _ ((z.trans e2).trans e1)
def DOp (X:Cx)(f:Value→Value→Sem Value)(mr:M2):Prop:=∃ r,OpR X f r∧Sim2 X.K r mr
theorem bK {op:Operator}{mr:M2}(ho:DOp X (binaryOp op) mr)(ha:DE X a ma)(hb:DE X b mb):DE X (.BinOp a op b pos) (mOp mr ma mb):=by
 obtain ⟨r,o,s⟩:=ho
 exact (pe_op o ha hb).of fun σ H Q h=>two h fun R r1 r2 m k=>s R r1 r2 m k
theorem d_cmp {op:CmpOp}{mr:M2}(ho:DOp X (compareOp op) mr)(ha:DE X a ma)(hb:DE X b mb)(hm:behindInMarks op b=false):DE X (.Compare a [op] [b] pos) (mOp mr ma mb):=by
 obtain ⟨r,o,s⟩:=ho
 exact (pe_cmpR o ha hb hm).of fun σ H Q h=>two h fun R r1 r2 m k=>s R r1 r2 m k
def fZ (m:ME):MT:=fun σ h Q=>m σ h fun w h1=>match w with
 | .bl c=>Q c h1
 | _=>False
theorem test_of {K:PySem.W.Frag}{σ : St}{H:Hp}{m:ME}{Q:Bool→Hp→Prop}(h:tDT K (fZ m) σ H Q):tD K m σ H fun x H'=>∃ k,x=.bl k∧Q k H':=by
 obtain ⟨μ,g,σw,Qw,R,S,mm,q⟩:=h
 refine ⟨μ,g,σw,_,R,S,mm,fun v H' ⟨μ1,w,h1,e1,R1,r1,m1⟩=>?_⟩
 cases w with
 | bl c=>rw [Rep] at r1;exact ⟨c,r1,q _ _ ⟨μ1,h1,e1,R1,m1⟩⟩
 | _=>exact m1.elim
theorem fJ {op:CmpOp}{mr:M2}(ho:DOp X (compareOp op) mr)(ha:DE X a ma)(hb:DE X b mb)(hm:behindInMarks op b=false):DT X (.Compare a [op] [b] pos) (fZ (mOp mr ma mb)):=by
 obtain ⟨r,o,s⟩:=ho
 exact (pt_cmpR o ha hb hm).of fun σ H Q h=>two (test_of h) fun R r1 r2 m k=>s R r1 r2 m k
def by2 (c:Bool)(a b:Prop):Prop:=match c with
 | true=>a
 | false=>b
def br (c:Bool)(a b:Prop):Prop:=(c=true→a)∧(c=false→b)
theorem br_t {c:Bool}{a b:Prop}(e:c=true)(x:a):br c a b:=⟨fun _=>x,fun z=>by rw [e] at z;cases z⟩
theorem br_f {c:Bool}{a b:Prop}(e:c=false)(x:b):br c a b:=⟨fun z=>(by rw [e] at z;cases z),fun _=>x⟩
theorem br_d {c:Prop} [Decidable c] {a b:Prop} (x:c→a) (y:¬ c→b):br (decide c) a b:=⟨fun e=>x (of_decide_eq_true e),fun e=>y (of_decide_eq_false e)⟩
def mAnd (t u:MT):MT:=fun σ h Q=>t σ h fun c h1=>br c (u σ h1 Q) (Q false h1)
def mOr (t u:MT):MT:=fun σ h Q=>t σ h fun c h1=>br c (Q true h1) (u σ h1 Q)
def mNot (t:MT):MT:=fun σ h Q=>t σ h fun c h1=>Q (!c) h1
variable {tA tB':MT}{rest:List Expr}
theorem dw_or1 (ha:DT X a tA):DWt X (.BoolOp .Or [a] pos) tA:=pw_or1 ha
theorem dw_or (ha:DT X a tA)(hb:DWt X (.BoolOp .Or (b::rest) pos) tB'):DWt X (.BoolOp .Or (a::b::rest) pos) (mOr tA tB'):=(pw_or ha hb).of fun σ H Q ⟨μ,g,σw,Qw,R,S,m,q⟩=>by
 refine ⟨μ,g,σw,_,R,S,m,fun c H1 ⟨μ1,h1,e1,R1,m1⟩=>?_⟩
 cases c with
 | true=>
  rw [if_pos rfl]
  exact q _ _ ⟨μ1,h1,e1,R1,m1.1 rfl⟩
 | false=>
  rw [if_neg Bool.false_ne_true]
  exact ⟨μ1,h1,σw,_,R1,S.ext e1,m1.2 rfl,fun b H' z=>q _ _ (z.trans e1)⟩
def mAndV (a b:ME):ME:=fun σ h Q=>a σ h fun x h1=>match x with
 | .bl true=>b σ h1 Q
 | .bl false=>Q (.bl false) h1
 | _=>False
def mOrV (a b:ME):ME:=fun σ h Q=>a σ h fun x h1=>match x with
 | .bl false=>b σ h1 Q
 | .bl true=>Q (.bl true) h1
 | _=>False
def mNotV (a:ME):ME:=fun σ h Q=>a σ h fun x h1=>match x with
 | .bl c=>Q (.bl (!c)) h1
 | _=>False
def mIf (t:MT)(a b:ME):ME:=fun σ h Q=>t σ h fun c h1=>br c (a σ h1 Q) (b σ h1 Q)
theorem d_if (hc:DT X c tA)(ha:DE X a ma)(hb:DE X b mb):DE X (.IfExp c a b pos) (mIf tA ma mb):=(pe_ifExp hc ha hb).of fun σ H Q ⟨μ,g,σw,Qw,R,S,m,q⟩=>by
 refine ⟨μ,g,σw,_,R,S,m,fun c H1 ⟨μ1,h1,e1,R1,m1⟩=>?_⟩
 cases c with
 | true=>
  rw [if_pos rfl]
  exact ⟨μ1,h1,σw,_,R1,S.ext e1,m1.1 rfl,fun b H' z=>q _ _ (z.trans e1)⟩
 | false=>
  rw [if_neg Bool.false_ne_true]
  exact ⟨μ1,h1,σw,_,R1,S.ext e1,m1.2 rfl,fun b H' z=>q _ _ (z.trans e1)⟩
def mUn (r:W→Gh→WK→Prop)(a:ME):ME:=fun σ h Q=>a σ h fun x h1=>r x h1 Q
def mNeg:W→Gh→WK→Prop:=fun x h Q=>match x with
 | .int i=>Q (.int (-i)) h
 | _=>False
theorem d_neg (ha:DE X a ma):DE X (.UnaryOp .USub a pos) (mUn mNeg ma):=(pe_un un_neg ha).of fun σ H Q ⟨μ,g,σw,Qw,R,S,m,q⟩=>by
 refine ⟨μ,g,σw,_,R,S,m,fun v H1 ⟨μ1,w,h1,e1,R1,r1,m1⟩=>?_⟩
 cases w with
 | int i=>rw [Rep] at r1;exact ⟨i,r1,q _ _ ⟨μ1,.int (-i),h1,e1,R1,by rw [Rep],m1⟩⟩
 | _=>exact m1.elim
def bw:MA:=fun _ h Q=>Q [] h
def au (a:ME)(r:MA):MA:=fun σ h Q=>a σ h fun x h1=>r σ h1 fun xs h2=>Q (x::xs) h2
variable {es:List Expr}{mr:MA}
theorem aB:DAs X [] bw:=pa_nil.of fun σ H Q ⟨μ,g,σw,Qw,R,S,m,q⟩=>q _ _ ⟨μ,[],g,.refl,R,.nil,m⟩
theorem ak (ha:DE X e ma)(hr:DAs X es mr)(hs:starEach (e::es) X.env=(false,eval e X.env)::starEach es X.env:=by rfl):DAs X (e::es) (au ma mr):=(pa_cons ha hr hs).of fun σ H Q ⟨μ,g,σw,Qw,R,S,m,q⟩=>by
 refine ⟨μ,g,σw,_,R,S,m,fun v H1 ⟨μ1,w,h1,e1,R1,r1,m1⟩=>?_⟩
 refine ⟨μ1,h1,σw,_,R1,S.ext e1,m1,fun vs H2 ⟨μ2,ws,h2,e2,R2,r2,m2⟩=>?_⟩
 exact q _ _ ⟨μ2,w::ws,h2,e1.trans e2,R2,.cons (e2.r _ _ r1) r2,m2⟩
def iz (n:Nat)(P:Prop):Prop:=by2 (Nat.ble n 1000) P (n≤sizeLine∧P)
theorem iz.ok {n:Nat}{P:Prop}(h:iz n P):n≤sizeLine∧P:=by
 unfold iz at h
 cases e:Nat.ble n 1000 with
 | true=>rw [e] at h;exact ⟨Nat.le_trans (Nat.le_of_ble_eq_true e) (by decide),h⟩
 | false=>rw [e] at h;exact h
theorem iz.mk {n:Nat}{P:Prop}(hn:n≤sizeLine)(h:P):iz n P:=by
 unfold iz
 cases e:Nat.ble n 1000 with
 | true=>exact h
 | false=>exact ⟨hn,h⟩
def xW (t:MA):ME:=fun σ h Q=>t σ h fun ws h1=>iz ws.length (Q (.tup ws) h1)
def mLst (t:MA):ME:=fun σ h Q=>t σ h fun ws h1=>iz ws.length (Q (.lst ws) h1)
def ql (t:MA):ME:=fun σ h Q=>t σ h fun ws h1=>iz ws.length (Q (.loc h1.nx) (h1.new (.lst ws)))
theorem m7 {x1}(h:DAs X es mr):DE X (.Tuple es x1 pos) (xW mr):=(pe_tup h).of fun σ H Q ⟨μ,g,σw,Qw,R,S,m,q⟩=>
 ⟨μ,g,σw,_,R,S,m,fun vs H1 ⟨μ1,ws,h1,e1,R1,r1,sz⟩=>⟨by rw [←r1.len];exact sz.ok.1,fun p hp=>q _ _ ⟨μ1,.tup ws,h1,e1.trans (Ex.laid hp).ext,R1.laid hp,.tupNew hp r1,sz.ok.2⟩⟩⟩
theorem d_lst (h:DAs X es mr):DE X (.List es pos) (mLst mr):=(pe_lst h).of fun σ H Q ⟨μ,g,σw,Qw,R,S,m,q⟩=>
 ⟨μ,g,σw,_,R,S,m,fun vs H1 ⟨μ1,ws,h1,e1,R1,r1,sz⟩=>⟨by rw [←r1.len];exact sz.ok.1,fun p hp=>q _ _ ⟨μ1,.lst ws,h1,e1.trans (Ex.laid hp).ext,R1.laid hp,.lstNew R1 hp r1,sz.ok.2⟩⟩⟩
theorem newLst {K:PySem.W.Frag}{H:Hp}{μ : Mu}{h:Gh}{p:Addr}{ws:List W}{xs:List V}(R:Rel K μ H h)(hp:H p=none)(r:aL K H μ ws xs) :
  Rel K (μ.put h.nx p) (upd H p (.lst xs)) (h.new (.lst ws)):=R.newCell hp trivial ⟨xs,bA,(Ex.newCell R hp).ext.s r⟩
theorem rD (h:DAs X es mr):DE X (.List es pos) (ql mr):=(pe_lst h).of fun σ H Q ⟨μ,g,σw,Qw,R,S,m,q⟩=>
 ⟨μ,g,σw,_,R,S,m,fun vs H1 ⟨μ1,ws,h1,e1,R1,r1,sz⟩=>⟨by rw [←r1.len];exact sz.ok.1,fun p hp=>q _ _ ⟨μ1.put h1.nx p,.loc h1.nx,h1.new (.lst ws),e1.trans (Ex.newCell R1 hp).ext,newLst R1 hp r1,by rw [Rep];exact ⟨p,rfl,Mu.put_same⟩,sz.ok.2⟩⟩⟩
def lift (K:PySem.W.Frag)(ms:MSp):Sp:=fun vs H Q _=>∃ μ h ws Qw,Rel K μ H h∧aL K H μ ws vs∧ms ws h Qw EF∧∀ v H',DQ K H μ Qw v H'→Q v H'
def bB (ms:MSp)(E:XWK)(ma:MA):ME:=fun σ h Q=>ma σ h fun ws h1=>ms ws h1 Q E
theorem call_of {K:PySem.W.Frag}{σ : St}{H:Hp}{Q:VK}{E:XK}{ms:MSp}{ma:MA}(h:tD K (bB ms EF ma) σ H Q):tCall (lift K ms) [] E (tDA K ma) σ H Q:=by
 obtain ⟨μ,g,σw,Qw,R,S,m,q⟩:=h
 refine ⟨μ,g,σw,_,R,S,m,fun vs H1 ⟨μ1,ws,h1,e1,R1,r1,m1⟩=>?_⟩
 show lift K ms (vs++[]) H1 Q E
 rw [List.append_nil]
 exact ⟨μ1,h1,ws,Qw,R1,r1,m1,fun v H' z=>q _ _ (z.trans e1)⟩
theorem aR {k:Nat}{f:Addr}{fd:FuncData}{ps:List Str}{ms:MSp}{x:Str}{p:Pos}(F:fD X.prog X.w X.K X.mg X.base CX0 k f fd ps (lift X.K ms))(hr:mX k X.A)(hg:Gl X x)(hm:X.mg x=some (.ref f))(hk:PySem.W.keepIn X.K (.ref f)=true)
  (hb:Binds X.K fd ps []) (ha:DAs X (e::es) mr) (hdb:(x==("__debug__" : Str))=false:=by decide) (he:starEach (e::es) X.env=(false,eval e X.env)::starEach es X.env:=by rfl) (hpl:(backTo pos (starEach es X.env)).any (·.1)=false:=by rfl) :
  DE X (.Call (.Name x p) (e::es) [] pos) (bB ms EF mr):=(pe_call F hr hg hm hk hb .nil pass0 ha hdb he hpl).of fun _ _ _ h=>call_of h
def truW (h:Gh)(w:W):Option Bool:=match w with
 | .non=>some false
 | .bl b=>some b
 | .int i=>some (i != 0)
 | .tup ws=>some (!ws.isEmpty)
 | .lst ws=>some (!ws.isEmpty)
 | .kls ws=>some (!ws.isEmpty)
 | .loc n=>(match h.c n with
  | some (.lst ws)=>some (!ws.isEmpty)
  | _=>none)
 | _=>none
def mTru (m:ME):MT:=fun σ h Q=>m σ h fun w h1=>match truW h1 w with
 | some b=>Q b h1
 | none=>False
theorem aL.emp {K:PySem.W.Frag}{H:Hp}{μ : Mu}{ws:List W}{xs:List V}(r:aL K H μ ws xs):ws.isEmpty=xs.isEmpty:=by
 have:=r.len
 cases ws <;> cases xs <;> first | rfl | cases this
theorem yO (he:DE X e ma)(h:∀ whole,isTrue e X.env whole=(do let v ←whole;standAt e.pos;holding [v] (truthy v)):=by intro _;rfl):DT X e (mTru ma):=(pt_truth he h).of fun σ H Q ⟨μ,g,σw,Qw,R,S,m,q⟩=>by
 refine ⟨μ,g,σw,_,R,S,m,fun v H1 ⟨μ1,w,h1,e1,R1,r1,m1⟩=>?_⟩
 dsimp only at m1
 split at m1
 ·rename_i b eb
  refine ⟨b,?_,q _ _ ⟨μ1,h1,e1,R1,m1⟩⟩
  cases w with
  | non=>rw [Rep] at r1;subst r1;cases eb;rfl
  | bl c=>rw [Rep] at r1;subst r1;cases eb;rfl
  | int c=>rw [Rep] at r1;subst r1;cases eb;rfl
  | tup ws=>
   rw [Rep] at r1
   obtain ⟨p,xs,ev,hs,rs⟩:=r1
   subst ev
   cases eb
   exact .inr (.inl ⟨xs,hs,by rw [rs.emp]⟩)
  | lst ws=>
   rw [Rep] at r1
   obtain ⟨p,xs,ev,hs,rs⟩:=r1
   subst ev
   cases eb
   exact .inl ⟨xs,hs.sq,by rw [rs.emp]⟩
  | kls ws=>
   rw [Rep] at r1
   obtain ⟨p,xs,ev,hs,rs⟩:=r1
   subst ev
   cases eb
   exact .inl ⟨xs,hs.sq,by rw [rs.emp]⟩
  | loc n=>
   rw [Rep] at r1
   obtain ⟨p,ev,hm⟩:=r1
   subst ev
   unfold truW at eb
   dsimp only at eb
   cases ec:h1.c n with
   | none=>rw [ec] at eb;cases eb
   | some cl=>
    rw [ec] at eb
    cases cl with
    | lst ws=>
     cases eb
     obtain ⟨p',hm',xs,hx,rs⟩:=R1.cel n _ ec
     have ep:p'=p:=by rw [hm] at hm';exact (Option.some.inj hm').symm
     subst ep
     exact .inl ⟨xs,.of hx,by rw [rs.emp]⟩
    | _=>cases eb
  | _=>cases eb
 ·exact m1.elim
abbrev MC:=List W→Gh→WK→Prop
def mCB (r:MC)(ma:MA):ME:=fun σ h Q=>ma σ h fun ws h1=>r ws h1 Q
def SimC (K:PySem.W.Frag)(r:List V→Hp→VK→Prop)(mr:MC):Prop:=∀ {H:Hp} {μ : Mu} {h:Gh} {vs:List V} {ws:List W} {Qw:WK} {Q:VK},Rel K μ H h→aL K H μ ws vs→mr ws h Qw→(∀ v H',DQ K H μ Qw v H'→Q v H')→r vs H Q
def jE (X:Cx)(f:Value)(mr:MC):Prop:=∃ r,jf X f r∧SimC X.K r mr
theorem cb_of {K:PySem.W.Frag}{σ : St}{H:Hp}{Q:VK}{r:List V→Hp→VK→Prop}{mc:MC}{ma:MA}(s:SimC K r mc)(h:tD K (mCB mc ma) σ H Q):tCB r (tDA K ma) σ H Q:=by
 obtain ⟨μ,g,σw,Qw,R,S,m,q⟩:=h
 exact ⟨μ,g,σw,_,R,S,m,fun vs H1 ⟨μ1,ws,h1,e1,R1,r1,m1⟩=>s R1 r1 m1 fun v H' z=>q _ _ (z.trans e1)⟩
theorem fG {x:Str}{p:Pos}{id:String}{mc:MC}(hc:jE X (.builtin id) mc)(hg:Gl X x)(hm:X.mg x=none)(hv:bootBuiltins x=some (.builtin id))(ha:DAs X (e::es) mr)(hn:x ≠ "__name__":=by decide)(hdb:(x==("__debug__" : Str))=false:=by decide)
  (he:starEach (e::es) X.env=(false,eval e X.env)::starEach es X.env:=by rfl) (hpl:(backTo pos (starEach es X.env)).any (·.1)=false:=by rfl):DE X (.Call (.Name x p) (e::es) [] pos) (mCB mc mr):=by
 obtain ⟨r,c,s⟩:=hc
 exact (pe_callB c hg hm hv ha hn hdb he hpl).of fun _ _ _ h=>cb_of s h
theorem gK {x:Str}{p:Pos}{T:String}{mc:MC}(hc:jE X (.type T) mc)(hg:Gl X x)(hm:X.mg x=none)(hv:bootBuiltins x=some (.type T))(ha:DAs X (e::es) mr)(hn:x ≠ "__name__":=by decide)(hdb:(x==("__debug__" : Str))=false:=by decide)
  (he:starEach (e::es) X.env=(false,eval e X.env)::starEach es X.env:=by rfl) (hpl:(backTo pos (starEach es X.env)).any (·.1)=false:=by rfl):DE X (.Call (.Name x p) (e::es) [] pos) (mCB mc mr):=by
 obtain ⟨r,c,s⟩:=hc
 exact (pe_callTy c hg hm hv ha hn hdb he hpl).of fun _ _ _ h=>cb_of s h
end
end L2
namespace L2
open PySem PySem.Spec PyProof.Rows
section
variable {X:Cx}{e a b c tg:Expr}{ma mb mc:ME}{pos:Pos}{es:List Expr}
def nName (i:Nat):MG:=fun w σ h N=>N (σ.set i (some w)) h
theorem aZ {i:Nat}(hg:PG X e (gName i)):DG X e (nName i):=hg.of fun v σ H N ⟨μ,h,σw,w,Nw,R,S,r,m,k⟩=>k _ _ ⟨μ,σw.set i (some w),h,.refl,R,S.set r i,m⟩
def nNil:MGs:=fun ws σ h N=>match ws with
 | []=>N σ h
 | _=>False
def fQ (g:MG)(r:MGs):MGs:=fun ws σ h N=>match ws with
 | w::ws'=>g w σ h fun σ1 h1=>r ws' σ1 h1 N
 | []=>False
theorem eH:DGss X [] nNil:=zF.of fun vs σ H N ⟨μ,h,σw,ws,Nw,R,S,r,m,k⟩=>by
 cases ws with
 | nil=>rw [aL] at r;exact ⟨r,k _ _ ⟨μ,σw,h,.refl,R,S,m⟩⟩
 | cons w ws=>exact m.elim
theorem bD {g:MG}{u:MGs}(h1:DG X e g)(h2:DGss X es u)(hs:(assignEach (e::es) X.env).map (·.2)=assign e X.env::(assignEach es X.env).map (·.2):=by rfl):DGss X (e::es) (fQ g u):=(qI h1 h2 hs).of fun vs σ H N ⟨μ,h,σw,ws,Nw,R,S,r,m,k⟩=>by
 cases ws with
 | nil=>exact m.elim
 | cons w ws=>
  rw [aL] at r
  obtain ⟨v,vr,ev,r1,r2⟩:=r
  refine ⟨v,vr,ev,μ,h,σw,w,_,R,S,r1,m,fun σ1 H1 ⟨μ1,σw1,h1,e1,R1,S1,m1⟩=>?_⟩
  exact ⟨μ1,h1,σw1,ws,_,R1,S1,e1.s r2,m1,fun σ2 H2 z=>k _ _ (z.trans e1)⟩
def nTup (n:Nat)(g:MGs):MG:=fun w σ h N=>match w with
 | .tup ws=>by2 (Nat.beq ws.length n) (g ws σ h N) False
 | _=>False
abbrev MSet:=W→W→W→Gh→(Gh→Prop)→Prop
def yG (K:PySem.W.Frag)(t:TSet)(ms:MSet):Prop:=∀ {H:Hp} {μ : Mu} {h:Gh} {o i v:V} {wo wi w:W} {Nw:Gh→Prop} {N:Hp→Prop},Rel K μ H h→Rep K H μ wo o→Rep K H μ wi i→Rep K H μ w v→ms wo wi w h Nw →
 (∀ H',(∃ μ' h',Ext K H μ H' μ'∧Rel K μ' H' h'∧Nw h')→N H')→t o i v H N
def nSub (mo mi:ME)(ms:MSet):MG:=fun w σ h N=>mo σ h fun o h1=>mi σ h1 fun i h2=>ms o i w h2 fun h3=>N σ h3
theorem yV {o i:Expr}{mo mi:ME}{t:TSet}{ms:MSet}(ho:DE X o mo)(hi:DE X i mi)(hs:PSet X t)(hm:yG X.K t ms)
  (ha:∀ v,assign (.Subscript o i pos) X.env v=(do
   let ov ←holding [v] (eval o X.env)
   let iv ←holding [v,ov] (eval i X.env)
   standAt pos
   holding [v,ov,iv] (setItem ov iv v)
   release [v,ov,iv] []):=by intro _;rfl):DG X (.Subscript o i pos) (nSub mo mi ms):=
 (pg_sub ho hi hs ha).of fun v σ H N ⟨μ,h,σw,w,Nw,R,S,r,m,k⟩=>by
  refine ⟨μ,h,σw,_,R,S,m,fun o H1 ⟨μ1,wo,h1,e1,R1,r1,m1⟩=>?_⟩
  refine ⟨μ1,h1,σw,_,R1,S.ext e1,m1,fun i H2 ⟨μ2,wi,h2,e2,R2,r2,m2⟩=>?_⟩
  refine hm R2 (e2.r _ _ r1) r2 (e2.r _ _ (e1.r _ _ r)) m2 fun H3 ⟨μ3,h3,e3,R3,m3⟩=>?_
  exact k _ _ ⟨μ3,σw,h3,(e1.trans e2).trans e3,R3,S.ext ((e1.trans e2).trans e3),m3⟩
def sSetL:MSet:=fun o i w h N=>match o,i with
 | .loc n,.int k=>(match h.c n with
  | some (.lst ws)=>(match ixN ws.length k with
   | some j=>N (h.set n (.lst (ws.set j w)))
   | none=>False)
  | _=>False)
 | _,_=>False
theorem Rel.lstAt {K:PySem.W.Frag}{μ : Mu}{H:Hp}{h:Gh}{n:Nat}{ws:List W}(R:Rel K μ H h)(e:h.c n=some (.lst ws)):∃ p xs,μ.f n=some p∧H p=some (.lst xs)∧aL K H μ ws xs:=by
 obtain ⟨p,e1,xs,e2,r⟩:=R.cel n _ e
 exact ⟨p,xs,e1,e2,r⟩
variable {st:Stmt}{rest body:List Stmt}{m1 m2:MS}{t:MT}
def m9:MS:=fun D σ h=>D.nx σ h
def cg (m u:MS):MS:=fun D σ h=>m { D with nx:=u D } σ h
theorem eU:DSs X [] m9:=pss_nil.of fun D σ H ⟨μ,h,σw,Dw,R,S,m,k⟩=>k.nx _ _ ⟨μ,σw,h,.refl,R,S,m⟩
theorem aH (h1:DS X st m1):DSs X [st] m1:=pss_one h1
theorem aC (h1:DS X st m1)(h2:DSs X rest m2):DSs X (st::rest) (cg m1 m2):=(pss_cons h1 h2).of fun D σ H ⟨μ,h,σw,Dw,R,S,m,k⟩=>by
 refine ⟨μ,h,σw,_,R,S,m,?_,k.rt,k.bk,k.ct⟩
 intro σ' H' ⟨μ1,σw1,h1,e1,R1,S1,m1⟩
 exact ⟨μ1,h1,σw1,Dw,R1,S1,m1,k.trans e1⟩
def pO (m:ME):MS:=fun D σ h=>m σ h fun _ h1=>D.nx σ h1
theorem iU (he:DE X e ma)(hs:swapsWith e none pos.line X.env=pure false:=by rfl):DS X (.Expr e pos) (pO ma):=(ps_expr he hs).of fun D σ H ⟨μ,h,σw,Dw,R,S,m,k⟩=>
 ⟨μ,h,σw,_,R,S,m,fun v H1 ⟨μ1,w,h1,e1,R1,_,m1⟩=>k.nx _ _ ⟨μ1,σw,h1,e1,R1,S.ext e1,m1⟩⟩
def jV (m:ME):MS:=fun D σ h=>m σ h D.rt
theorem bJ (he:DE X e ma):DS X (.Return (some e) pos) (jV ma):=(ps_ret he).of fun D σ H ⟨μ,h,σw,Dw,R,S,m,k⟩=>⟨μ,h,σw,_,R,S,m,k.rt⟩
def mIfS (t:MT)(a b:MS):MS:=fun D σ h=>t σ h fun c h1=>br c (a D σ h1) (b D σ h1)
theorem nj {a b:List Stmt}(hc:DT X c t)(ha:DSs X a m1)(hb:DSs X b m2):DS X (.If c a b pos) (mIfS t m1 m2):=(ps_if hc ha hb).of fun D σ H ⟨μ,h,σw,Dw,R,S,m,k⟩=>by
 refine ⟨μ,h,σw,_,R,S,m,fun b H1 ⟨μ1,h1,e1,R1,q⟩=>?_⟩
 cases b with
 | true=>rw [if_pos rfl];exact ⟨μ1,h1,σw,Dw,R1,S.ext e1,q.1 rfl,k.trans e1⟩
 | false=>rw [if_neg Bool.false_ne_true];exact ⟨μ1,h1,σw,Dw,R1,S.ext e1,q.2 rfl,k.trans e1⟩
def rT (x:Str)(E:XWK):MS:=fun _ _ h=>E ⟨x,[]⟩ h
theorem pJ {x:Str}:DS X st (rT x EF):=ps_never.of fun _ _ _ ⟨_,_,_,_,_,_,m,_⟩=>m.elim
def cO (m:ME)(g:MG):MS:=fun D σ h=>m σ h fun w h1=>g w σ h1 D.nx
theorem asg_of {K:PySem.W.Frag}{σ : St}{H:Hp}{D:Ends}{m:ME}{g:MG}(q:tDS K (cO m g) D σ H):tAsg (tD K m) (tDG K g) D σ H:=by
 obtain ⟨μ,h,σw,Dw,R,S,m,k⟩:=q
 exact ⟨μ,h,σw,_,R,S,m,fun v H1 ⟨μ1,w,h1,e1,R1,r1,m1⟩=>⟨μ1,h1,σw,w,_,R1,S.ext e1,r1,m1,fun σ' H' z=>k.nx _ _ (z.trans e1)⟩⟩
theorem ds_asg {g:MG}(he:DE X e ma)(hg:DG X tg g)(hs:swapsWithSole [tg] e pos.line X.env=pure false:=by rfl)(hw:swappedStores [tg] e X.env=pure none:=by rfl)
  (h1:(assignEach [tg] X.env).map (·.2)=[assign tg X.env]:=by rfl):DS X (.Assign [tg] e pos) (cO ma g):=(ps_asg he hg hs hw h1).of fun _ _ _ q=>asg_of q
theorem set_of {K:PySem.W.Frag}{σ : St}{H:Hp}{D:Ends}{m:ME}{t:TE}{i:Nat}(ht:∀ σ H Q,tD K m σ H Q→t σ H Q)(q:tDS K (cO m (nName i)) D σ H):tAsg t (gName i) D σ H:=by
 obtain ⟨μ,h,σw,Dw,R,S,m,k⟩:=q
 exact ht _ _ _ ⟨μ,h,σw,_,R,S,m,fun v H1 ⟨μ1,w,h1,e1,R1,r1,m1⟩=>k.nx _ _ ⟨μ1,σw.set i (some w),h1,e1,R1,(S.ext e1).set r1 i,m1⟩⟩
theorem aU {i:Nat}{x:Str}{pos':Pos}(hN:X.N.Nodup)(hi:X.N[i]?=some x)(hx:Loc X.env.scope x)(he:DE X e ma)(hs:swapsWith e (some (.Name x pos')) pos.line X.env=pure false:=by rfl)
  (hf:X.fn x=true∨X.env.scope.names.lookup x=some .local:=by first | exact .inl rfl | exact .inr rfl | assumption) :
  DS X (.Assign [.Name x pos'] e pos) (cO ma (nName i)):=(ps_set hN hi hx he hs hf).of fun _ _ _ q=>set_of (fun _ _ _ z=>z) q
def mPar (i j:Nat)(ta:MA):MS:=fun D σ h=>ta σ h fun ws h1=>match ws with
 | [v,w]=>D.nx ((σ.set i (some v)).set j (some w)) h1
 | _=>False
structure Src where
 ws:List W
 cell:Option (Nat×List W)
def Src.chk (s:Src)(h:Gh):Prop:=match s.cell with
 | none=>True
 | some n=>h.c n.1=some (.lst n.2)
abbrev MI:=Sw→Gh→(Src→Gh→Prop)→Prop
def ItOk (K:PySem.W.Frag)(J:It)(src:Src)(H:Hp)(μ : Mu):Prop:=∀ {H2:Hp} {μ2:Mu} {h2:Gh} {i:Nat},Ext K H μ H2 μ2→Rel K μ2 H2 h2→src.chk h2 →
 (∀ w,src.ws[i]?=some w→J.go i H2∧∀ x H3,J.yld i H2 x H3→∃ μ3,Ext K H2 μ2 H3 μ3∧Rel K μ3 H3 h2∧Rep K H3 μ3 w x)∧(src.ws.length≤i→J.stop i H2)
def DI (K:PySem.W.Frag)(H:Hp)(μ : Mu)(Rw:Src→Gh→Prop):It→Hp→Prop:=fun J H'=>∃ μ' src h',Ext K H μ H' μ'∧Rel K μ' H' h'∧ItOk K J src H' μ'∧Rw src h'
def tDI (K:PySem.W.Frag)(mi:MI):TI:=fun σ H R=>∃ μ h σw Rw,Rel K μ H h∧Slots K H μ σw σ∧mi σw h Rw∧∀ J H',DI K H μ Rw J H'→R J H'
abbrev DIt (X:Cx)(tg iter:Expr)(mi:MI):Prop:=PI X tg iter (tDI X.K mi)
theorem PI.of {iter:Expr}{t t':TI}(h:PI X tg iter t)(k:∀ σ H R,t' σ H R→t σ H R):PI X tg iter t':=fun pins s σ H R I q=>h pins s σ H R I (k σ H R q)
def dR (h:Gh):W→Option (List W)
 | .lst ws=>some ws
 | .kls ws=>some ws
 | .loc n=>(match h.c n with
  | some (.lst ws)=>some ws
  | _=>none)
 | _=>none
def view (h:Gh):W→Option (List W)
 | .tup ws=>some ws
 | .lst ws=>some ws
 | .kls ws=>some ws
 | .loc n=>dR h (.loc n)
 | _=>none
def srcA (h:Gh):W→Option Src
 | .tup ws=>some ⟨ws,none⟩
 | .lst ws=>some ⟨ws,none⟩
 | .kls ws=>some ⟨ws,none⟩
 | .loc n=>(match h.c n with
  | some (.lst ws)=>some ⟨ws,some (n,ws)⟩
  | _=>none)
 | _=>none
theorem itl_frz {K:PySem.W.Frag}{H:Hp}{μ : Mu}{p:Addr}{ws:List W}(r:Rep K H μ (.lst ws) (.ref p)):ItOk K (Itl K p) ⟨ws,none⟩ H μ:=by
 intro H2 μ2 h2 i e R2 _
 have r2:=e.r _ _ r
 rw [Rep] at r2
 obtain ⟨q,xs,eq,hf,rs⟩:=r2
 cases eq
 refine ⟨fun w ew=>?_,fun hl=>⟨xs,hf.sq,by rw [←rs.len];exact hl⟩⟩
 obtain ⟨v,ev,rv⟩:=rs.get ew
 refine ⟨⟨xs,v,hf.sq,ev⟩,fun x H3 ⟨e3,y⟩=>?_⟩
 subst e3
 have:=y xs hf.sq
 rw [ev] at this
 cases this
 exact ⟨μ2,.refl,R2,rv⟩
theorem itl_kls {K:PySem.W.Frag}{H:Hp}{μ : Mu}{p:Addr}{ws:List W}(r:Rep K H μ (.kls ws) (.ref p)):ItOk K (Itl K p) ⟨ws,none⟩ H μ:=by
 intro H2 μ2 h2 i e R2 _
 have r2:=e.r _ _ r
 rw [Rep] at r2
 obtain ⟨q,xs,eq,hf,rs⟩:=r2
 cases eq
 refine ⟨fun w ew=>?_,fun hl=>⟨xs,hf.sq,by rw [←rs.len];exact hl⟩⟩
 obtain ⟨v,ev,rv⟩:=rs.get ew
 refine ⟨⟨xs,v,hf.sq,ev⟩,fun x H3 ⟨e3,y⟩=>?_⟩
 subst e3
 have:=y xs hf.sq
 rw [ev] at this
 cases this
 exact ⟨μ2,.refl,R2,rv⟩
theorem itl_cell {K:PySem.W.Frag}{H:Hp}{μ : Mu}{p:Addr}{n:Nat}{ws:List W}(r:Rep K H μ (.loc n) (.ref p)):ItOk K (Itl K p) ⟨ws,some (n,ws)⟩ H μ:=by
 intro H2 μ2 h2 i e R2 ck
 have r2:=e.r _ _ r
 rw [Rep] at r2
 obtain ⟨q,eq,hm⟩:=r2
 cases eq
 obtain ⟨p',xs,hm',hx,rs⟩:=R2.lstAt (show h2.c n=some (.lst ws) from ck)
 have ep:p'=p:=by rw [hm] at hm';exact (Option.some.inj hm').symm
 subst ep
 refine ⟨fun w ew=>?_,fun hl=>⟨xs,.of hx,by rw [←rs.len];exact hl⟩⟩
 obtain ⟨v,ev,rv⟩:=rs.get ew
 refine ⟨⟨xs,v,.of hx,ev⟩,fun x H3 ⟨e3,y⟩=>?_⟩
 subst e3
 have:=y xs (.of hx)
 rw [ev] at this
 cases this
 exact ⟨μ2,.refl,R2,rv⟩
theorem itt_tup {K:PySem.W.Frag}{H:Hp}{μ : Mu}{p:Addr}{ws:List W}(r:Rep K H μ (.tup ws) (.ref p)):ItOk K (Itt K p) ⟨ws,none⟩ H μ:=by
 intro H2 μ2 h2 i e R2 _
 have r2:=e.r _ _ r
 rw [Rep] at r2
 obtain ⟨q,xs,eq,hf,rs⟩:=r2
 cases eq
 refine ⟨fun w ew=>?_,fun hl=>⟨xs,hf,by rw [←rs.len];exact hl⟩⟩
 obtain ⟨v,ev,rv⟩:=rs.get ew
 refine ⟨⟨xs,v,hf,ev⟩,fun x H3 ⟨e3,y⟩=>?_⟩
 subst e3
 have:=y xs hf
 rw [ev] at this
 cases this
 exact ⟨μ2,.refl,R2,rv⟩
def iSeq (K:PySem.W.Frag)(tl:TE):TI:=fun σ H R=>tl σ H fun x H1=>(∃ a,x=.ref a∧(∃ xs,SqL K H1 a xs)∧R (Itl K a) H1)∨(∃ a,x=.ref a∧(∃ xs,SqT K H1 a xs)∧R (Itt K a) H1)
theorem pi_seq {l:Expr}{tl:TE}(hl:PE X l tl):PI X tg l (iSeq X.K tl):=by
 intro pins s σ H R I h
 refine thn (hl pins s σ H _ I h) fun v s1 ⟨x,H1,I1,r1,q1⟩=>?_
 rcases q1 with ⟨a,e,⟨xs,hq⟩,q⟩ | ⟨a,e,⟨xs,hq⟩,q⟩
 ·subst e
  cases r1
  obtain ⟨its,rv,p,hz⟩:=I1.list hq
  refine wpAny_pyIter_list p.isList ?_
  refine ⟨s1.heap.objs.size,[s1.heap.objs.size],_,_,H1,rfl,I1.kept (t':=s1.toks) fun b o e=>Heap.get?_push_of_some _ e,zA a _,⟨_,Heap.get?_push_size _ rfl,rfl,rfl⟩,fun b hb=>?_,q⟩
  have e:b=s1.heap.objs.size:=by simpa using hb
  subst e
  exact I1.fpOk (Nat.le_refl _) (I1.hok.fresh (Nat.le_refl _))
 ·subst e
  cases r1
  obtain ⟨its,rv,p,hz⟩:=I1.tuple hq
  refine wpAny_pyIter_tuple (show s1.heap.IsTuple a its.toArray from p) ?_
  refine ⟨s1.heap.objs.size,[s1.heap.objs.size],_,_,H1,rfl,I1.kept (t':=s1.toks) fun b o e=>Heap.get?_push_of_some _ e,wY a _,⟨_,Heap.get?_push_size _ rfl,rfl,rfl⟩,fun b hb=>?_,q⟩
  have e:b=s1.heap.objs.size:=by simpa using hb
  subst e
  exact I1.fpOk (Nat.le_refl _) (I1.hok.fresh (Nat.le_refl _))
def nIt (m:ME):MI:=fun σ h R=>m σ h fun w h1=>match srcA h1 w with
 | some s=>R s h1
 | none=>False
theorem dG {l:Expr}(hl:DE X l ma):DIt X tg l (nIt ma):=PI.of (pi_seq hl) fun σ H Q ⟨μ,h,σw,Rw,R,S,m,k⟩=>by
 refine ⟨μ,h,σw,_,R,S,m,fun v H1 ⟨μ1,w,h1,e1,R1,r1,m1⟩=>?_⟩
 cases w with
 | tup ws=>
  have r1':=r1
  rw [Rep] at r1
  obtain ⟨p,xs,ev,hs,_⟩:=r1
  subst ev
  exact .inr ⟨p,rfl,⟨xs,hs⟩,k _ _ ⟨μ1,⟨ws,none⟩,h1,e1,R1,itt_tup r1',m1⟩⟩
 | lst ws=>
  have r1':=r1
  rw [Rep] at r1
  obtain ⟨p,xs,ev,hs,_⟩:=r1
  subst ev
  exact .inl ⟨p,rfl,⟨xs,hs.sq⟩,k _ _ ⟨μ1,⟨ws,none⟩,h1,e1,R1,itl_frz r1',m1⟩⟩
 | kls ws=>
  have r1':=r1
  rw [Rep] at r1
  obtain ⟨p,xs,ev,hs,_⟩:=r1
  subst ev
  exact .inl ⟨p,rfl,⟨xs,hs.sq⟩,k _ _ ⟨μ1,⟨ws,none⟩,h1,e1,R1,itl_kls r1',m1⟩⟩
 | loc n=>
  have r1':=r1
  rw [Rep] at r1
  obtain ⟨p,ev,hm⟩:=r1
  subst ev
  unfold srcA at m1
  dsimp only at m1
  cases ec:h1.c n with
  | none=>rw [ec] at m1;exact m1.elim
  | some cl=>
   rw [ec] at m1
   cases cl with
   | lst ws=>
    obtain ⟨p',xs,hm',hx,rs⟩:=R1.lstAt ec
    have ep:p'=p:=by rw [hm] at hm';exact (Option.some.inj hm').symm
    subst ep
    exact .inl ⟨p',rfl,⟨xs,.of hx⟩,k _ _ ⟨μ1,⟨ws,some (n,ws)⟩,h1,e1,R1,itl_cell r1',m1⟩⟩
   | _=>exact m1.elim
 | _=>exact m1.elim
def v7 (lo:Int)(n:Nat):List W:=(List.range n).map fun (k:Nat)=>.int (lo+(k:Int))
theorem itr_ok {K:PySem.W.Frag}{H:Hp}{μ : Mu}{lo:Int}{n:Nat}:ItOk K (Itr lo n) ⟨v7 lo n,none⟩ H μ:=by
 intro H2 μ2 h2 i e R2 _
 refine ⟨fun w ew=>?_,fun hl=>?_⟩
 ·have hi:i<n:=by
   have:=(List.getElem?_eq_some_iff.mp ew).1
   simpa [v7] using this
  have ew':w=.int (lo+(i:Int)):=by
   unfold v7 at ew
   rw [List.getElem?_map,List.getElem?_range hi] at ew
   exact (Option.some.inj ew).symm
  subst ew'
  refine ⟨hi,fun x H3 ⟨e3,y⟩=>?_⟩
  subst e3
  exact ⟨μ2,.refl,R2,by rw [Rep];exact y⟩
 ·have:n≤i:=by simpa [v7] using hl
  exact this
def rgOk (j:Int)(P:Prop):Prop:=by2 (decide (-1000≤j)&&decide (j≤1000)) P ((-(2^62)≤j∧j<2^62)∧P)
theorem rgOk.ok {j:Int}{P:Prop}(h:rgOk j P):(-(2^62)≤j∧j<2^62)∧P:=by
 unfold rgOk at h
 cases e:(decide (-1000≤j)&&decide (j≤1000)) with
 | true=>
  rw [e] at h
  rw [Bool.and_eq_true,decide_eq_true_iff,decide_eq_true_iff] at e
  exact ⟨⟨by omega,by omega⟩,h⟩
 | false=>rw [e] at h;exact h
theorem rgOk.mk {j:Int}{P:Prop}(h1:-(2^62)≤j)(h2:j<2^62)(h:P):rgOk j P:=by
 unfold rgOk
 cases e:(decide (-1000≤j)&&decide (j≤1000)) with
 | true=>exact h
 | false=>exact ⟨⟨h1,h2⟩,h⟩
def j8 (ma:MA):MI:=fun σ h R=>ma σ h fun ws h1=>match ws with
 | [.int j]=>rgOk j (R ⟨v7 0 j.toNat,none⟩ h1)
 | _=>False
theorem cN {a:Expr}{mr:MA}{p pos:Pos}(hg:Gl X "range")(hm:X.mg "range" = none)(ha:DAs X [a] mr)(hs:starEach [a] X.env=[(false,eval a X.env)]:=by rfl):DIt X tg (.Call (.Name "range" p) [a] [] pos) (j8 mr):=
 PI.of (Aa hg hm ha hs) fun σ H Q ⟨μ,h,σw,Rw,R,S,m,k⟩=>by
  refine ⟨μ,h,σw,_,R,S,m,fun vs H1 ⟨μ1,ws,h1,e1,R1,r1,m1⟩=>?_⟩
  dsimp only at m1
  split at m1
  ·rename_i j
   rw [aL] at r1
   obtain ⟨v,vr,ev,ra,r1⟩:=r1
   rw [aL] at r1
   rw [Rep] at ra
   subst ev r1 ra
   exact ⟨j,rfl,m1.ok.1.1,m1.ok.1.2,k _ _ ⟨μ1,_,h1,e1,R1,itr_ok,m1.ok.2⟩⟩
  ·exact m1.elim
def Src.go (s:Src)(h:Gh)(P:Prop):Prop:=match s.cell with
 | none=>P
 | some n=>h.c n.1=some (.lst n.2)∧P
theorem Src.go_ok {s:Src}{h:Gh}{P:Prop}(x:s.go h P):s.chk h∧P:=by
 unfold Src.go at x
 unfold Src.chk
 cases e:s.cell with
 | none=>rw [e] at x;exact ⟨trivial,x⟩
 | some n=>rw [e] at x;exact x
def fW (s:Src)(g:MG)(b:MS)(D:bI):List W→Sw→Gh→Prop
 | [],σ,h=>s.go h (D.nx σ h)
 | w::r,σ,h=>s.go h (g w σ h fun σ1 h1=>b { D with nx:=fW s g b D r,ct:=fW s g b D r,bk:=D.nx } σ1 h1)
def mQ (mi:MI)(g:MG)(b:MS):MS:=fun D σ h=>mi σ h fun s h1=>fW s g b D s.ws σ h1
theorem cA {iter:Expr}{body:List Stmt}{mi:MI}{g:MG}{mb0:MS}{pos:Pos}(hp:PassesOwn (model X.prog X.w) X.A X.env X.xe)(hc:X.calm=true)(hi:DIt X tg iter mi)(hg:DG X tg g)(hb:DSs X body mb0)
  (hs:∀ x,foldedSetIterable iter X.env x=pure x:=by intro _;rfl):DS X (.For tg iter body [] pos) (mQ mi g mb0):=(ps_for hp hc hi hg hb hs).of fun D σ H ⟨μ,h,σw,Dw,R,S,m,k⟩=>by
 refine ⟨μ,h,σw,_,R,S,m,fun J H1 ⟨μ1,src,h1,e1,R1,ok,m1⟩=>?_⟩
 refine ⟨fun i n σ' H'=>n=src.ws.length - i∧i≤src.ws.length∧DN X.K H1 μ1 (fW src g mb0 Dw (src.ws.drop i)) σ' H',⟨src.ws.length,by simp,Nat.zero_le _,μ1,σw,h1,.refl,R1,S.ext e1,by rw [List.drop_zero];exact m1⟩,?_⟩
 rintro i n σ2 H2 ⟨hn,hle,μ2,σw2,h2,e2,R2,S2,m2⟩
 by_cases hlt:i<src.ws.length
 ·rw [List.drop_eq_getElem_cons hlt] at m2
  obtain ⟨ck,m2⟩:=Src.go_ok m2
  obtain ⟨hgo,hy⟩:=(ok e2 R2 ck).1 src.ws[i] (List.getElem?_eq_getElem hlt)
  refine .inr ⟨hgo,fun σ' H'=>DN X.K H2 μ2 (fW src g mb0 Dw (src.ws.drop (i+1))) σ' H',fun σ' H' z=>⟨src.ws.length - (i+1),by omega,rfl,hlt,z.trans e2⟩,fun x H3 y=>?_⟩
  obtain ⟨μ3,e3,R3,rx⟩:=hy x H3 y
  refine ⟨μ3,h2,σw2,src.ws[i],_,R3,S2.ext e3,rx,m2,fun σ4 H4 ⟨μ4,σw4,h4,e4,R4,S4,m4⟩=>?_⟩
  have e24:=e3.trans e4
  have e14:=(e1.trans e2).trans e24
  exact ⟨μ4,h4,σw4,_,R4,S4,m4,fun σ' H' z=>z.trans e24,fun v H' z=>k.rt _ _ (z.trans e14),fun σ' H' z=>k.nx _ _ (z.trans e14),fun σ' H' z=>z.trans e24⟩
 ·have ei:i=src.ws.length:=by omega
  subst ei
  rw [List.drop_length] at m2
  obtain ⟨ck,m2⟩:=Src.go_ok m2
  exact .inl ⟨(ok e2 R2 ck).2 (Nat.le_refl _),k.nx _ _ ⟨μ2,σw2,h2,e1.trans e2,R2,S2,m2⟩⟩
def lG (ix:List Nat)(σ : Sw):Sw:=ix.map fun i=>(σ[i]?).getD none
theorem Slots.blk {K:PySem.W.Frag}{H:Hp}{μ : Mu}{σw:Sw}{σ : St}{ix:List Nat}(S:Slots K H μ σw σ):∀ {ws:List W} {vs:List V},aL K H μ ws vs→Slots K H μ (ws.map some++lG ix σw) (vs.map some++blkσ ix σ):=by
 intro ws vs r
 have hl:=r.len
 refine ⟨by simp [lG,blkσ,hl],fun i u q=>?_⟩
 by_cases hi:i<ws.length
 ·rw [List.getElem?_append_left (by simpa using hi),List.getElem?_map] at q
  have q':ws[i]?=some u:=by
   cases e:ws[i]? with
   | none=>rw [e] at q;cases q
   | some a=>rw [e] at q;simpa using q
  obtain ⟨v,hv,rv⟩:=r.get q'
  refine ⟨v,?_,rv⟩
  rw [List.getElem?_append_left (by rw [List.length_map];omega),List.getElem?_map,hv]
  rfl
 ·rw [List.getElem?_append_right (by simpa using hi),List.length_map] at q
  rw [List.getElem?_append_right (by rw [List.length_map];omega),List.length_map,←hl]
  generalize i - ws.length=i at q ⊢
  unfold lG at q
  unfold blkσ
  rw [List.getElem?_map] at q ⊢
  cases e:ix[i]? with
  | none=>rw [e] at q;cases q
  | some j=>
   rw [e] at q
   cases e2:σw[j]? with
   | none=>simp [e2] at q
   | some o=>
    have eo:o=some u:=by simpa [e2] using q
    subst eo
    obtain ⟨v',h1,h2⟩:=S.get j u e2
    exact ⟨v',by simp [h1],h2⟩
def mYes:MT:=fun _ h Q=>Q true h
def ni (s:Src)(own:W→Option (List W))(ix:List Nat)(tt:MT)(te:ME)(σ : Sw)(Q:WK):List W→List W→Gh→Prop
 | [],acc,h=>s.go h (Q (.lst acc) h)
 | w::r,acc,h=>s.go h (match own w with
  | some vs=>tt (vs.map some++lG ix σ) h fun c h1=>by2 c (te (vs.map some++lG ix σ) h1 fun v h2=>ni s own ix tt te σ Q r (acc++[v]) h2) (ni s own ix tt te σ Q r acc h1)
  | none=>False)
def mLC (own:W→Option (List W))(ix:List Nat)(mi:MI)(tt:MT)(te:ME):ME:=fun σ h Q=>mi σ h fun s h1=>iz s.ws.length (ni s own ix tt te σ Q s.ws [] h1)
def OwnOk (K:PySem.W.Frag)(n:Nat)(own:V→Hp→List V→Prop)(ow:W→Option (List W)):Prop:=∀ {H:Hp} {μ : Mu} {w:W} {v:V} {ws:List W},Rep K H μ w v→ow w=some ws→∃ vs,own v H vs∧vs.length=n∧aL K H μ ws vs
def ow1 (w:W):Option (List W):=some [w]
def owT (n:Nat)(w:W):Option (List W):=match w with
 | .tup ws=>(match Nat.beq ws.length n with
  | true=>some ws
  | false=>none)
 | _=>none
def ov1:V→Hp→List V→Prop:=fun v _ vs=>vs=[v]
def ovT (K:PySem.W.Frag):V→Hp→List V→Prop:=fun v H vs=>∃ a,v=.ref a∧SqT K H a vs
theorem own_1 {K:PySem.W.Frag}:OwnOk K 1 ov1 ow1:=by
 intro H μ w v ws r e
 cases (show some [w]=some ws from e)
 exact ⟨[v],rfl,rfl,.one r⟩
theorem own_T {K:PySem.W.Frag}{n:Nat}:OwnOk K n (ovT K) (owT n):=by
 intro H μ w v ws r e
 cases w with
 | tup us=>
  unfold owT at e
  dsimp only at e
  cases en:Nat.beq us.length n with
  | false=>rw [en] at e;cases e
  | true=>
   rw [en] at e
   cases (show some us=some ws from e)
   rw [Rep] at r
   obtain ⟨p,xs,ev,hs,rs⟩:=r
   exact ⟨xs,⟨p,ev,hs⟩,by rw [←rs.len];exact Nat.eq_of_beq_eq_true en,rs⟩
 | _=>cases e
abbrev DIfs (X:Cx)(ifs:List Expr)(m:MT):Prop:=PIfs X ifs (tDT X.K m)
theorem mW:DIfs X [] mYes:=fun pins s σ H Q I ⟨μ,h,σw,Qw,R,S,m,k⟩=>pif_nil pins s σ H Q I (k _ _ ⟨μ,h,.refl,R,m⟩)
theorem zB (h:DT X c t):DIfs X [c] t:=pif_one h
theorem lc_of {K:PySem.W.Frag}{σ : St}{H:Hp}{Q:VK}{n:Nat}{own:V→Hp→List V→Prop}{ow:W→Option (List W)}{ix:List Nat}{mi:MI}{tt:MT}{te:ME}(oo:OwnOk K n own ow)(q:tD K (mLC ow ix mi tt te) σ H Q):tLC n own ix (tDI K mi) (tDT K tt) (tD K te) σ H Q:=by
 obtain ⟨μ,h,σw,Qw,R,S,m,k⟩:=q
 refine ⟨μ,h,σw,_,R,S,m,fun J H1 ⟨μ1,src,h1,e1,R1,ok,hz0⟩=>?_⟩
 obtain ⟨hz,m1⟩:=hz0.ok
 intro D hD
 have nD:=R1.nohid hD
 have hD1:Ext K H1 μ1 (upd H1 D (.lst [])) (μ1.hide D):=Ext.hide hD
 refine ⟨fun i n ys H'=>n=src.ws.length - i∧i≤src.ws.length∧ys.length≤i∧H' D=some (.lst ys)∧∃ μ' acc h',Ext K H1 μ1 H' μ'∧Rel K μ' H' h'∧μ'.hid D∧aL K H' μ' acc ys∧ni src ow ix tt te σw Qw (src.ws.drop i) acc h',
  ⟨src.ws.length,by simp,Nat.zero_le _,Nat.le_refl _,bA,μ1.hide D,[],h1,hD1,R1.hide hD,.inl rfl,.nil,by rw [List.drop_zero];exact m1⟩,?_⟩
 rintro i n' ys H2 ⟨hn,hle,hys,hH2,μ2,acc,h2,e2,R2,hid2,ra,m2⟩ _
 by_cases hlt:i<src.ws.length
 ·rw [List.drop_eq_getElem_cons hlt] at m2
  obtain ⟨ck,m2⟩:=Src.go_ok m2
  obtain ⟨hgo,hy⟩:=(ok e2 R2 ck).1 src.ws[i] (List.getElem?_eq_getElem hlt)
  refine .inr ⟨hgo,by omega,fun x H3 y=>?_⟩
  obtain ⟨μ3,e3,R3,rx⟩:=hy x H3 y
  have e13:=e2.trans e3
  cases eo:ow src.ws[i] with
  | none=>rw [eo] at m2;exact m2.elim
  | some us=>
   rw [eo] at m2
   obtain ⟨vs,hov,hvl,rvs⟩:=oo rx eo
   have S3:=(S.ext (e1.trans e13)).blk (ix:=ix) rvs
   refine ⟨vs,hov,hvl,μ3,h2,_,_,R3,S3,m2,fun b H4 ⟨μ4,h4,e4,R4,m4⟩=>?_⟩
   have e24:=e3.trans e4
   obtain ⟨hid4,hH4⟩:=e24.o D _ hid2 hH2
   cases b with
   | false=>
    dsimp only
    rw [if_neg Bool.false_ne_true]
    exact ⟨hH4,src.ws.length - (i+1),by omega,rfl,hlt,by omega,hH4,μ4,acc,h4,e2.trans e24,R4,hid4,e24.s ra,m4⟩
   | true=>
    dsimp only
    rw [if_pos rfl]
    refine ⟨μ4,h4,_,_,R4,S3.ext e4,m4,fun v H5 ⟨μ5,w5,h5,e5,R5,r5,m5⟩=>?_⟩
    have e25:=e24.trans e5
    obtain ⟨hid5,hH5⟩:=e25.o D _ hid2 hH2
    have g:=ExtX.grow (ys:=ys++[v]) R5 hid5
    have rs:aL K (upd H5 D (.lst (ys++[v]))) μ5 (acc++[w5]) (ys++[v]):=aL.ex (Ex0.grow R5 hid5) (aL.append (e25.s ra) (aL.one r5))
    exact ⟨hH5,src.ws.length - (i+1),by omega,rfl,hlt,by rw [List.length_append];simp;omega,bA,μ5,acc++[w5],h5,(e2.trans e25).x nD g,R5.grow hid5,hid5,rs,m5⟩
 ·have ei:i=src.ws.length:=by omega
  subst ei
  rw [List.drop_length] at m2
  obtain ⟨ck,m2⟩:=Src.go_ok m2
  exact .inl ⟨(ok e2 R2 ck).2 (Nat.le_refl _),k _ _ ⟨μ2.unhide D,.lst acc,h2,e1.trans (e2.x nD .unhide),R2.unhide,Rep.built R2 hid2 hH2 ra,m2⟩⟩
variable {scope:Scope}{x:Str}{xs:List Str}{ix:List Nat}{elt iter:Expr}{ifs:List Expr}{px:Pos}{mi:MI}{tt:MT}{te:ME}
theorem pgo_1 (B:iT X scope [x] ix)(C:Addr)(s:Shared)(H:Hp)(fp:List Addr):PG (blk X scope (gq X [x] ix) C s H fp) (.Name x px) (gOwn 1 ov1):=by
 obtain ⟨o1,o2⟩:=zf B (y:=x) (by simp)
 intro pins s' σ H' v u Q I r ⟨vs,hv,hl,q⟩
 cases hv
 refine aW (X:=blk X scope (gq X [x] ix) C s H fp) (i:=0) B.nd rfl o1 o2 pins s' σ H' v u Q I r ?_
 have hlen:σ.length=(gq X [x] ix).length:=I.len
 cases σ with
 | nil=>simp at hlen
 | cons o σ=>exact q
theorem pgo_2 {y:Str}{py pt:Pos}{kt:Nat}(hc:X.calm=true)(B:iT X scope [x,y] ix)(C:Addr)(s:Shared)(H:Hp)(fp:List Addr)
  (h1:∀ env,(assignEach [.Name x px,.Name y py] env).map (·.2)=assign (.Name x px) env::(assignEach [.Name y py] env).map (·.2):=by intro _;rfl)
  (h2:∀ env,(assignEach [.Name y py] env).map (·.2)=assign (.Name y py) env::(assignEach [] env).map (·.2):=by intro _;rfl)
  (h3:∀ env,(assignEach [.Name x px,.Name y py] env).length=2:=by intro _;rfl) (h4:∀ env,(assignEach [.Name x px,.Name y py] env).findIdx? (·.1)=none:=by intro _;rfl) :
  PG (blk X scope (gq X [x,y] ix) C s H fp) (.Tuple [.Name x px,.Name y py] kt pt) (gOwn 2 (ovT X.K)):=by
 obtain ⟨o1,u1⟩:=zf B (y:=x) (by simp)
 obtain ⟨o2,u2⟩:=zf B (y:=y) (by simp)
 intro pins s' σ H' v u Q I r ⟨vs,⟨a,ea,ha⟩,hl,q⟩
 have hlen:σ.length=(gq X [x,y] ix).length:=I.len
 refine pg_tup (X:=blk X scope (gq X [x,y] ix) C s H fp) (n:=2) hc (qI (aW (i:=0) B.nd rfl o1 u1) (qI (aW (i:=1) B.nd rfl o2 u2) zF (h2 _)) (h1 _)) (h3 _) (h4 _) pins s' σ H' v u Q I r ?_
 refine ⟨a,vs,ea,ha,hl,?_⟩
 match vs,hl,q with
 | [v1,v2],_,q=>
  match σ,hlen,q with
  | [],hlen,_=>simp at hlen
  | [_],hlen,_=>simp at hlen
  | _::_::σ,_,q=>exact ⟨v1,[v2],rfl,v2,[],rfl,rfl,q⟩
theorem d_lc {own:V→Hp→List V→Prop}{ow:W→Option (List W)}(ix:List Nat)(hc:X.calm=true)(B:iT X scope xs ix)(oo:OwnOk X.K xs.length own ow)(hg:∀ C s H fp,PG (blk X scope (gq X xs ix) C s H fp) tg (gOwn xs.length own))(hi:DIt X tg iter mi)
  (ht:∀ C s H fp,DIfs (blk X scope (gq X xs ix) C s H fp) ifs tt) (he:∀ C s H fp,DE (blk X scope (gq X xs ix) C s H fp) elt te)
  (hs:∀ v,foldedSetIterable iter X.env v=pure v:=by intro _;rfl):DE X (.ListComp elt [⟨tg,iter,ifs,0⟩] scope pos) (mLC ow ix mi tt te):=(pe_lc ix hc B hg hi ht he hs).of fun _ _ _ q=>lc_of oo q
theorem ds_lc {own:V→Hp→List V→Prop}{ow:W→Option (List W)}(ix:List Nat){i:Nat}{y:Str}{py spos:Pos}(hN:X.N.Nodup)(hi':X.N[i]?=some y)(hy:Loc X.env.scope y)(hc:X.calm=true)(B:iT X scope xs ix)(oo:OwnOk X.K xs.length own ow)
  (hg:∀ C s H fp,PG (blk X scope (gq X xs ix) C s H fp) tg (gOwn xs.length own)) (hi:DIt X tg iter mi)
  (ht:∀ C s H fp,DIfs (blk X scope (gq X xs ix) C s H fp) ifs tt) (he:∀ C s H fp,DE (blk X scope (gq X xs ix) C s H fp) elt te)
  (hsw:swapsWith (.ListComp elt [⟨tg,iter,ifs,0⟩] scope pos) (some (.Name y py)) spos.line X.env=pure true:=by rfl)
  (hf:X.fn y=true∨X.env.scope.names.lookup y=some .local:=by first | exact .inl rfl | exact .inr rfl | assumption)
  (hs:∀ v,foldedSetIterable iter X.env v=pure v:=by intro _;rfl):DS X (.Assign [.Name y py] (.ListComp elt [⟨tg,iter,ifs,0⟩] scope pos) spos) (cO (mLC ow ix mi tt te) (nName i)):=
 (ps_lc ix hN hi' hy hc B hg hi ht he hsw hf hs).of fun _ _ _ q=>set_of (fun _ _ _ z=>lc_of oo z) q
theorem cutF {κ : Type}{K:PySem.W.Frag}{H0 H:Hp}{μ0 μ : Mu}{k:Nat}(hd:∀ n p,μ0.f n=some p→n<k):∀ {fs:List (κ×W)} {f0 fv:List (κ×V)},mY K H0 μ0 fs f0→mY K H μ fs fv→mY K H (μ.cut k) fs fv
 | [],_,_,_,.nil=>.nil
 | _::_,_,_,.cons a b,.cons c d=>.cons ⟨c.1,Rep.cut c.2 (Rep.lo hd a.2)⟩ (cutF hd b d)
def rK (pure:Bool)(h:Gh)(w:W)(h':Gh)(Q:WK):Prop:=match pure with
 | false=>Q w h'
 | true=>(∀ n c,n<h.nx→h.c n=some c→h'.c n=some c)∧((Lo h.nx w∧Q w h)∨∃ n ws,w=.loc n∧h.nx≤n∧h'.c n=some (.lst ws)∧Los h.nx ws∧Q (.lst ws) h)
def mFn (n N:Nat)(pure:Bool)(body:XWK→MS):MSp:=fun ws h Q E=>by2 (Nat.beq ws.length n)
 (body E { nx:=fun _ h'=>rK pure h .non h' Q,rt:=fun w h'=>rK pure h w h' Q } (ws.map some++List.replicate (N - ws.length) none) h) False
theorem mFn_ok {n N:Nat}{pure:Bool}{body:XWK→MS}{ws:List W}{h:Gh}{Q:WK}{E:XWK}(x:mFn n N pure body ws h Q E):ws.length=n ∧
  body E { nx:=fun _ h'=>rK pure h .non h' Q,rt:=fun w h'=>rK pure h w h' Q } (ws.map some++List.replicate (N - ws.length) none) h:=by
 unfold mFn at x
 cases e:Nat.beq ws.length n with
 | true=>rw [e] at x;exact ⟨Nat.eq_of_beq_eq_true e,x⟩
 | false=>rw [e] at x;exact (show False from x).elim
theorem Rel.cut {K:PySem.W.Frag}{H H':Hp}{μ μ':Mu}{h h':Gh}(R:Rel K μ H h)(R':Rel K μ' H' h')(e:Ext K H μ H' μ')(hc:∀ n c,h.c n=some c→h'.c n=some c):Rel K (μ'.cut h.nx) H' h where
 inj:=fun m n p a b=>R'.inj m n p (Mu.cut_some a).2 (Mu.cut_some b).2
 dom:=fun n p a=>(Mu.cut_some a).1
 trk:=fun n p a=>R'.trk n p (Mu.cut_some a).2
 cel:=fun n c a=>by
  obtain ⟨p0,m0,x0⟩:=R.cel n c a
  obtain ⟨p,m,x⟩:=R'.cel n c (hc n c a)
  have hn:=R.dom n p0 m0
  refine ⟨p,by show (if n<h.nx then μ'.f n else none)=some p;rw [if_pos hn];exact m,?_⟩
  cases c with
  | lst ws=>
   obtain ⟨xs0,_,r0⟩:=x0
   obtain ⟨xs,hx,r⟩:=x
   exact ⟨xs,hx,aL.cut r (aL.lo R.dom r0)⟩
  | obj C fs=>
   obtain ⟨dx0,f0,_,r0⟩:=x0
   obtain ⟨dx,fv,hx,r⟩:=x
   exact ⟨dx,fv,hx,cutF R.dom r0 r⟩
  | dct kvs=>
   obtain ⟨f0,_,r0⟩:=x0
   obtain ⟨fv,hx,r⟩:=x
   exact ⟨fv,hx,cutF R.dom r0 r⟩
  | dtt kvs=>
   obtain ⟨_,_,_,_,_,d0,f0⟩:=x0
   obtain ⟨xs,vs,a,b,c,d,f⟩:=x
   exact ⟨xs,vs,a,b,c,aL.cut d (aL.lo R.dom d0),aL.cut f (aL.lo R.dom f0)⟩
 hd:=fun p z=>⟨(R'.hd p z).1,fun n a=>(R'.hd p z).2 n (Mu.cut_some a).2⟩
theorem Ext.cut {K:PySem.W.Frag}{H H':Hp}{μ μ':Mu}{h:Gh}(R:Rel K μ H h)(e:Ext K H μ H' μ'):Ext K H μ H' (μ'.cut h.nx):=
 ⟨fun w v r=>Rep.cut (e.r w v r) (Rep.lo R.dom r),fun p u z a=>e.o p u z a⟩
theorem exit_ok {K:PySem.W.Frag}{H H':Hp}{μ μ':Mu}{h h':Gh}{w:W}{v:V}{Q:WK}{pure:Bool}(R:Rel K μ H h)(e:Ext K H μ H' μ')(R':Rel K μ' H' h')(r:Rep K H' μ' w v)(x:rK pure h w h' Q):DQ K H μ Q v H':=by
 cases pure with
 | false=>exact ⟨μ',w,h',e,R',r,x⟩
 | true=>
  obtain ⟨hc0,⟨lo,q⟩ | ⟨n,ws,ew,hn,ec,lo,q⟩⟩:=x
  all_goals have hc:∀ n c,h.c n=some c→h'.c n=some c:=fun n c a=>hc0 n c (let ⟨p,m,_⟩:=R.cel n c a;R.dom n p m) a
  ·exact ⟨μ'.cut h.nx,w,h,e.cut R,R.cut R' e hc,Rep.cut r lo,q⟩
  ·subst ew
   refine ⟨μ'.cut h.nx,.lst ws,h,e.cut R,R.cut R' e hc,?_,q⟩
   rw [Rep] at r
   rw [Rep]
   obtain ⟨p,ev,hm⟩:=r
   obtain ⟨p',xs,hm',hx,rs⟩:=R'.lstAt ec
   have ep:p'=p:=by rw [hm] at hm';exact (Option.some.inj hm').symm
   subst ep
   refine ⟨p',xs,ev,⟨hx,fun m a=>?_,fun z=>(R'.hd p' z).2 n hm⟩,aL.cut rs lo⟩
   obtain ⟨a1,a2⟩:=Mu.cut_some a
   have:=R'.inj m n p' a2 hm
   omega
theorem uF {K:PySem.W.Frag}{H:Hp}{μ : Mu}{N:List Str}:∀ {ws:List W} {vs:List V},aL K H μ ws vs→Slots K H μ (ws.map some++List.replicate (N.length - ws.length) none) (start N vs):=by
 intro ws vs r
 have hl:=r.len
 refine ⟨by simp [start,hl],fun i w q=>?_⟩
 by_cases hi:i<ws.length
 ·rw [List.getElem?_append_left (by simpa using hi),List.getElem?_map] at q
  have q':ws[i]?=some w:=by
   cases e:ws[i]? with
   | none=>rw [e] at q;cases q
   | some a=>rw [e] at q;simpa using q
  obtain ⟨v,hv,rv⟩:=r.get q'
  refine ⟨v,?_,rv⟩
  unfold start
  rw [List.getElem?_append_left (by rw [List.length_map];omega),List.getElem?_map,hv]
  rfl
 ·rw [List.getElem?_append_right (by simpa using hi),List.getElem?_replicate] at q
  split at q <;> cases q
theorem nY {P:Program}{w:World}{K:PySem.W.Frag}{mg:Str→Option Value}{base:Heap}{x qual:Str}{st:Stmt}{f:Addr}{fd:FuncData}{N ps:List Str}{k:Nat}{pure:Bool}{body:XWK→MS}(F:Fun K x qual st f fd)(S:bC N ps (aN st))
  (hb:∀ (cdv:Value) (A:Around) (outer:List Env) (s:Shared) (H:Hp) (E:XK),mX k (A.deeper (envOfC qual (aN st) s.heap.objs.size f cdv)) →
   DSs (cxOf CX0 P w K mg base N qual (aN st) f cdv A outer s H E).nox (iC st) (body EF)):fD P w K mg base CX0 (k+1) f fd ps (lift K (mFn ps.length N.length pure body)):=by
 refine F.ok S (fun vs H Q E ⟨μ,h,ws,Qw,R,r,m,k⟩=>by rw [←r.len];exact (mFn_ok m).1) (fun cdv A outer s H vs Q E hr ⟨μ,h,ws,Qw,R,r,m0,k⟩=>?_)
 obtain ⟨hl,m⟩:=mFn_ok m0
 refine ⟨_,hb cdv A outer s H E hr,μ,h,_,_,R,uF r,m,?_,?_,?_,?_⟩
 ·rintro σ' H' ⟨μ1,σw1,h1,e1,R1,S1,m1⟩
  exact k _ _ (exit_ok (w:=.non) R e1 R1 (by rw [Rep]) m1)
 ·rintro v H' ⟨μ1,w1,h1,e1,R1,r1,m1⟩
  exact k _ _ (exit_ok R e1 R1 r1 m1)
 ·rintro σ' H' ⟨μ1,σw1,h1,e1,R1,S1,m1⟩
  exact m1.elim
 ·rintro σ' H' ⟨μ1,σw1,h1,e1,R1,S1,m1⟩
  exact m1.elim
end
end L2
namespace L2
open PySem PySem.Spec PyProof.Rows
section
variable {X:Cx}{K:PySem.W.Frag}
theorem DQ.int {H:Hp}{μ : Mu}{h:Gh}{i:Int}{Q:WK}(R:Rel K μ H h)(q:Q (.int i) h):DQ K H μ Q (.int i) H:=⟨μ,.int i,h,.refl,R,by rw [Rep],q⟩
theorem DQ.bl {H:Hp}{μ : Mu}{h:Gh}{i:Bool}{Q:WK}(R:Rel K μ H h)(q:Q (.bl i) h):DQ K H μ Q (.bl i) H:=⟨μ,.bl i,h,.refl,R,by rw [Rep],q⟩
def kI (C:Int→Int→Prop)(g:Int→Int→Int):M2:=fun x y h Q=>match x,y with
 | .int i,.int j=>C i j∧Q (.int (g i j)) h
 | _,_=>False
def kSub:M2:=fun x y h Q=>match x,y with
 | .int i,.int j=>Q (.int (i - j)) h
 | _,_=>False
theorem uD:DOp X (binaryOp .Sub) kSub:=⟨_,op_sub,by
 intro H μ h x y wx wy Qw Q R rx ry m k
 unfold kSub at m
 split at m
 ·rw [Rep] at rx ry
  exact ⟨_,_,rx,ry,k _ _ (.int R m)⟩
 ·exact m.elim⟩
def nR:M2:=fun x y h Q=>match x,y with
 | .int i,.int j=>rG i j∧Q (.int (i*j)) h
 | _,_=>False
theorem gG:DOp X (binaryOp .Mult) nR:=⟨_,op_mulB,by
 intro H μ h x y wx wy Qw Q R rx ry m k
 unfold nR at m
 split at m
 ·rw [Rep] at rx ry
  exact ⟨_,_,rx,ry,m.1,k _ _ (.int R m.2)⟩
 ·exact m.elim⟩
def yj:M2:=fun x y h Q=>match x,y with
 | .int i,.int j=>vC i j∧Q (.int (i.fdiv j)) h
 | _,_=>False
theorem pQ:DOp X (binaryOp .FloorDiv) yj:=⟨_,zY,by
 intro H μ h x y wx wy Qw Q R rx ry m k
 unfold yj at m
 split at m
 ·rw [Rep] at rx ry
  exact ⟨_,_,rx,ry,m.1,k _ _ (.int R m.2)⟩
 ·exact m.elim⟩
def m6:M2:=fun x y h Q=>match x,y with
 | .int i,.int j=>j≠0∧Q (.int (i.fmod j)) h
 | _,_=>False
theorem fV:DOp X (binaryOp .Mod) m6:=⟨_,op_modN,by
 intro H μ h x y wx wy Qw Q R rx ry m k
 unfold m6 at m
 split at m
 ·rw [Rep] at rx ry
  exact ⟨_,_,rx,ry,m.1,k _ _ (.int R m.2)⟩
 ·exact m.elim⟩
def kPow:M2:=fun x y h Q=>match x,y with
 | .int i,.int j=>CPow i j∧Q (.int (i^j.toNat)) h
 | _,_=>False
theorem uH:DOp X (binaryOp .Pow) kPow:=⟨_,op_pow,by
 intro H μ h x y wx wy Qw Q R rx ry m k
 unfold kPow at m
 split at m
 ·rw [Rep] at rx ry
  exact ⟨_,_,rx,ry,m.1,k _ _ (.int R m.2)⟩
 ·exact m.elim⟩
def kLt:M2:=fun x y h Q=>match x,y with
 | .int i,.int j=>Q (.bl (decide (i<j))) h
 | _,_=>False
theorem o_lt:DOp X (compareOp .Lt) kLt:=⟨_,op_lt,by
 intro H μ h x y wx wy Qw Q R rx ry m k
 unfold kLt at m
 split at m
 ·rw [Rep] at rx ry
  exact ⟨_,_,rx,ry,k _ _ (.bl R m)⟩
 ·exact m.elim⟩
def kGt:M2:=fun x y h Q=>match x,y with
 | .int i,.int j=>Q (.bl (decide (j<i))) h
 | _,_=>False
theorem o_gt:DOp X (compareOp .Gt) kGt:=⟨_,op_gt,by
 intro H μ h x y wx wy Qw Q R rx ry m k
 unfold kGt at m
 split at m
 ·rw [Rep] at rx ry
  exact ⟨_,_,rx,ry,k _ _ (.bl R m)⟩
 ·exact m.elim⟩
theorem aL.ne_nil {H:Hp}{μ : Mu}{ws:List W}{xs:List V}(r:aL K H μ ws xs):xs=[]↔ws=[]:=by
 have:=r.len
 constructor
 ·intro e;subst e;exact List.eq_nil_of_length_eq_zero this
 ·intro e;subst e;exact List.eq_nil_of_length_eq_zero this.symm
def kIx:M2:=fun x y h Q=>match y with
 | .int i=>(match view h x with
  | some ws=>(match atI ws i with
   | some w=>Q w h
   | none=>False)
  | none=>False)
 | _=>False
theorem aL.at {H:Hp}{μ : Mu}{ws:List W}{xs:List V}{i:Int}{w:W}(r:aL K H μ ws xs)(e:atI ws i=some w):∃ v,atI xs i=some v∧Rep K H μ w v:=by
 unfold atI at e ⊢
 rw [←r.len]
 cases q:ixN ws.length i with
 | none=>rw [q] at e;cases e
 | some j=>rw [q] at e;exact r.get e
theorem dM {H:Hp}{μ : Mu}{h:Gh}{w:W}{v:V}{ws:List W}(R:Rel K μ H h)(r:Rep K H μ w v)(e:dR h w=some ws):∃ p xs,v=.ref p∧SqL K H p xs∧aL K H μ ws xs:=by
 cases w with
 | lst us=>
  rw [Rep] at r
  obtain ⟨p,xs,ev,hs,rs⟩:=r
  cases (show some us=some ws from e)
  exact ⟨p,xs,ev,hs.sq,rs⟩
 | kls us=>
  rw [Rep] at r
  obtain ⟨p,xs,ev,hs,rs⟩:=r
  cases (show some us=some ws from e)
  exact ⟨p,xs,ev,hs.sq,rs⟩
 | loc n=>
  rw [Rep] at r
  obtain ⟨p,ev,hm⟩:=r
  unfold dR at e
  dsimp only at e
  cases ec:h.c n with
  | none=>rw [ec] at e;cases e
  | some cl=>
   rw [ec] at e
   cases cl with
   | lst us=>
    cases (show some us=some ws from e)
    obtain ⟨p',xs,hm',hx,rs⟩:=R.lstAt ec
    have ep:p'=p:=by rw [hm] at hm';exact (Option.some.inj hm').symm
    subst ep
    exact ⟨p',xs,ev,.of hx,rs⟩
   | _=>cases e
 | _=>cases e
theorem tW {H:Hp}{μ : Mu}{h:Gh}{w:W}{v:V}{ws:List W}(R:Rel K μ H h)(r:Rep K H μ w v)(e:view h w=some ws):∃ p xs,v=.ref p∧(SqL K H p xs∨SqT K H p xs)∧aL K H μ ws xs:=by
 cases w with
 | tup us=>
  rw [Rep] at r
  obtain ⟨p,xs,ev,hs,rs⟩:=r
  cases (show some us=some ws from e)
  exact ⟨p,xs,ev,.inr hs,rs⟩
 | lst us=>
  obtain ⟨p,xs,ev,hs,rs⟩:=dM (ws:=ws) R r e
  exact ⟨p,xs,ev,.inl hs,rs⟩
 | kls us=>
  obtain ⟨p,xs,ev,hs,rs⟩:=dM (ws:=ws) R r e
  exact ⟨p,xs,ev,.inl hs,rs⟩
 | loc n=>
  obtain ⟨p,xs,ev,hs,rs⟩:=dM (ws:=ws) R r e
  exact ⟨p,xs,ev,.inl hs,rs⟩
 | _=>cases e
theorem sim_ix:Sim2 K (rIx K) kIx:=by
 intro H μ h x y wx wy Qw Q R rx ry m k
 unfold kIx at m
 split at m
 ·rename_i i
  split at m
  ·rename_i ws ev
   split at m
   ·rename_i w ew
    obtain ⟨p,xs,ex,hs,rs⟩:=tW R rx ev
    obtain ⟨v,hv,rv⟩:=rs.at ew
    rw [Rep] at ry
    have fin:=k _ _ ⟨μ,w,h,.refl,R,rv,m⟩
    rcases hs with hs | hs
    ·exact .inl ⟨p,xs,i,v,ex,ry,hs,hv,fin⟩
    ·exact .inr (.inl ⟨p,xs,i,v,ex,ry,hs,hv,fin⟩)
   ·exact m.elim
  ·exact m.elim
 ·exact m.elim
theorem wI {a b:Expr}{ma mb:ME}{pos:Pos}(ha:DE X a ma)(hb:DE X b mb)(hs:yF b):DE X (.Subscript a b pos) (mOp kIx ma mb):=(pe_ix ix_seq ha hb hs).of fun σ H Q h=>two h fun R r1 r2 m k=>sim_ix R r1 r2 m k
abbrev MO:=Sw→Gh→(Option Int→Gh→Prop)→Prop
def mPart (m:ME):MO:=fun σ h Q=>m σ h fun w h1=>match w with
 | .int i=>Q (some i) h1
 | _=>False
def mSl (r:W→Option Int→Option Int→Gh→WK→Prop)(m:ME)(l u:MO):ME:=fun σ h Q=>m σ h fun x h1=>l σ h1 fun lo h2=>u σ h2 fun hi h3=>r x lo hi h3 Q
end
end L2
namespace L2
open PySem PySem.Spec PyProof.Rows
mutual
def eqW:W→W→Bool
 | .non,.non=>true
 | .bl a,.bl b=>a==b
 | .bl a,.int b=>(if a then 1 else 0)==b
 | .int a,.bl b=>a==(if b then 1 else 0)
 | .int a,.int b=>a==b
 | .str a,.str b=>a==b
 | .tup a,.tup b=>mZ a b
 | .lst a,.lst b=>mZ a b
 | _,_=>false
def mZ:List W→List W→Bool
 | [],[]=>true
 | a::as,b::bs=>eqW a b&&mZ as bs
 | _,_=>false
end
def plW:Nat→W→Bool
 | _,.non=>true
 | _,.bl _=>true
 | _,.int _=>true
 | _,.str _=>true
 | n+1,.tup ws=>ws.all (plW n)
 | n+1,.lst ws=>ws.all (plW n)
 | _,_=>false
mutual
def Dt (K:PySem.W.Frag)(H:Hp):W→V→Prop
 | .non,v=>v=.non
 | .bl b,v=>v=.bl b
 | .int i,v=>v=.int i
 | .str x,v=>v=.str x
 | .tup ws,v=>∃ p xs,v=.ref p∧SqT K H p xs∧Dts K H ws xs
 | .lst ws,v=>∃ p xs,v=.ref p∧SqL K H p xs∧Dts K H ws xs
 | .ty _,_=>False
 | .kls _,_=>False
 | .loc _,_=>False
 | .exc _,_=>False
 | .exa _ _,_=>False
 | .fnv _ _,_=>False
def Dts (K:PySem.W.Frag)(H:Hp):List W→List V→Prop
 | [],xs=>xs=[]
 | w::ws,xs=>∃ v vs,xs=v::vs∧Dt K H w v∧Dts K H ws vs
end
section
variable {X:Cx}{K:PySem.W.Frag}{H:Hp}{μ : Mu}{h:Gh}
theorem Dts.len:∀ {ws:List W} {xs:List V},Dts K H ws xs→ws.length=xs.length
 | [],xs,h=>by
  have e:xs=[]:=by rw [Dts] at h;exact h
  rw [e];rfl
 | w::ws,xs,h=>by
  rw [Dts] at h
  obtain ⟨v,vs,e,_,h⟩:=h
  rw [e,List.length_cons,List.length_cons,Dts.len h]
theorem Dts.get:∀ {ws:List W} {xs:List V} {i:Nat} {w:W},Dts K H ws xs→ws[i]?=some w→∃ v,xs[i]?=some v∧Dt K H w v
 | [],_,_,_,_,e=>by simp at e
 | a::ws,xs,0,w,h,e=>by
  rw [Dts] at h
  obtain ⟨v,vs,e1,r,_⟩:=h
  simp at e;subst e;subst e1
  exact ⟨v,rfl,r⟩
 | a::ws,xs,i+1,w,h,e=>by
  rw [Dts] at h
  obtain ⟨v,vs,e1,_,h⟩:=h
  subst e1
  obtain ⟨u,h1,h2⟩:=Dts.get (i:=i) (w:=w) h (by simpa using e)
  exact ⟨u,by simpa using h1,h2⟩
theorem uR {n:Nat}(one:∀ {w:W} {v:V},Rep K H μ w v→plW n w=true→Dt K H w v):∀ {ws:List W} {xs:List V},aL K H μ ws xs→ws.all (plW n)=true→Dts K H ws xs
 | [],_,h,_=>by rw [aL] at h;rw [Dts];exact h
 | w::ws,_,h,p=>by
  rw [aL] at h
  rw [Dts]
  obtain ⟨v,vs,e,r,h⟩:=h
  rw [List.all_cons,Bool.and_eq_true] at p
  exact ⟨v,vs,e,one r p.1,uR one h p.2⟩
theorem dt_of:∀ (n:Nat) {w:W} {v:V},Rep K H μ w v→plW n w=true→Dt K H w v:=by
 intro n
 induction n with
 | zero=>
  intro w v r p
  cases w with
  | non=>rw [Rep] at r;rw [Dt];exact r
  | bl _=>rw [Rep] at r;rw [Dt];exact r
  | int _=>rw [Rep] at r;rw [Dt];exact r
  | str _=>rw [Rep] at r;rw [Dt];exact r
  | _=>simp [plW] at p
 | succ n ih=>
  intro w v r p
  cases w with
  | non=>rw [Rep] at r;rw [Dt];exact r
  | bl _=>rw [Rep] at r;rw [Dt];exact r
  | int _=>rw [Rep] at r;rw [Dt];exact r
  | str _=>rw [Rep] at r;rw [Dt];exact r
  | tup ws=>
   rw [Rep] at r;rw [Dt]
   obtain ⟨p',xs,e,hs,rs⟩:=r
   exact ⟨p',xs,e,hs,uR ih rs (by simpa [plW] using p)⟩
  | lst ws=>
   rw [Rep] at r;rw [Dt]
   obtain ⟨p',xs,e,hs,rs⟩:=r
   exact ⟨p',xs,e,hs.sq,uR ih rs (by simpa [plW] using p)⟩
  | _=>simp [plW] at p
theorem ju:∀ {a b:List W},a.length≠b.length→mZ a b=false
 | [],[],h=>absurd rfl h
 | [],_::_,_=>by simp [mZ]
 | _::_,[],_=>by simp [mZ]
 | a::as,b::bs,h=>by
  rw [mZ,ju (a:=as) (b:=bs) (by simpa using h),Bool.and_false]
def eqJW (a b:List W)(j:Nat):Bool:=eqW (a.getD j .non) (b.getD j .non)
theorem iY:∀ {a b:List W},a.length=b.length→(List.range a.length).all (eqJW a b)=mZ a b
 | [],[],_=>by simp [mZ]
 | [],_::_,h=>by simp at h
 | _::_,[],h=>by simp at h
 | a::as,b::bs,h=>by
  rw [mZ,←iY (a:=as) (b:=bs) (by simpa using h),List.length_cons,List.range_succ_eq_map,List.all_cons,List.all_map]
  rfl
mutual
theorem oG {pins:List (Addr×Obj)}{s:Shared}{σ : St}(I:Inv X pins σ H s):∀ {w u:W} {v:V},Dt X.K H w v→Dt X.K H u v→eqW w u=true
 | .non,u,v,h,g=>by rw [Dt] at h;subst h;cases u <;> rw [Dt] at g <;> first | rfl | exact g.elim | (obtain ⟨_,_,g,_⟩:=g;cases g;done) | (cases g;done)
 | .bl b,u,v,h,g=>by rw [Dt] at h;subst h;cases u <;> rw [Dt] at g <;> first | (injection g with g;simp [eqW,g];done) | exact g.elim | (obtain ⟨_,_,g,_⟩:=g;cases g;done) | (cases g;done)
 | .int b,u,v,h,g=>by rw [Dt] at h;subst h;cases u <;> rw [Dt] at g <;> first | (injection g with g;simp [eqW,g];done) | exact g.elim | (obtain ⟨_,_,g,_⟩:=g;cases g;done) | (cases g;done)
 | .str b,u,v,h,g=>by rw [Dt] at h;subst h;cases u <;> rw [Dt] at g <;> first | (injection g with g;simp [eqW,g];done) | exact g.elim | (obtain ⟨_,_,g,_⟩:=g;cases g;done) | (cases g;done)
 | .tup ws,u,v,h,g=>by
  rw [Dt] at h
  obtain ⟨p,xs,e,hs,ds⟩:=h
  subst e
  cases u with
  | tup us=>
   rw [Dt] at g
   obtain ⟨p',xs',e',hs',ds'⟩:=g
   cases e'
   have:=I.tuple_inj hs hs'
   subst this
   rw [eqW]
   exact lC I ds ds'
  | lst us=>
   rw [Dt] at g
   obtain ⟨p',xs',e',hs',ds'⟩:=g
   cases e'
   obtain ⟨_,_,t,_⟩:=I.tuple hs
   obtain ⟨_,_,l,_⟩:=I.list hs'
   exact absurd rfl (SeqAt.ne_of_list_tuple l.isList (show s.heap.IsTuple _ _ from t))
  | ty _=>rw [Dt] at g;exact g.elim
  | loc _=>rw [Dt] at g;exact g.elim
  | kls _=>rw [Dt] at g;exact g.elim
  | _=>rw [Dt] at g;cases g
 | .lst ws,u,v,h,g=>by
  rw [Dt] at h
  obtain ⟨p,xs,e,hs,ds⟩:=h
  subst e
  cases u with
  | lst us=>
   rw [Dt] at g
   obtain ⟨p',xs',e',hs',ds'⟩:=g
   cases e'
   have:=I.list_inj hs hs'
   subst this
   rw [eqW]
   exact lC I ds ds'
  | tup us=>
   rw [Dt] at g
   obtain ⟨p',xs',e',hs',ds'⟩:=g
   cases e'
   obtain ⟨_,_,t,_⟩:=I.tuple hs'
   obtain ⟨_,_,l,_⟩:=I.list hs
   exact absurd rfl (SeqAt.ne_of_list_tuple l.isList (show s.heap.IsTuple _ _ from t))
  | ty _=>rw [Dt] at g;exact g.elim
  | loc _=>rw [Dt] at g;exact g.elim
  | kls _=>rw [Dt] at g;exact g.elim
  | _=>rw [Dt] at g;cases g
 | .ty _,_,_,h,_=>by rw [Dt] at h;exact h.elim
 | .loc _,_,_,h,_=>by rw [Dt] at h;exact h.elim
 | .exc _,_,_,h,_=>by rw [Dt] at h;exact h.elim
 | .exa _ _,_,_,h,_=>by rw [Dt] at h;exact h.elim
 | .kls _,_,_,h,_=>by rw [Dt] at h;exact h.elim
theorem lC {pins:List (Addr×Obj)}{s:Shared}{σ : St}(I:Inv X pins σ H s):∀ {ws us:List W} {vs:List V},Dts X.K H ws vs→Dts X.K H us vs→mZ ws us=true
 | [],us,vs,h,g=>by
  rw [Dts] at h;subst h
  cases us with
  | nil=>rfl
  | cons _ _=>rw [Dts] at g;obtain ⟨_,_,g,_⟩:=g;cases g
 | w::ws,us,vs,h,g=>by
  rw [Dts] at h
  obtain ⟨v,vs',e,h1,h2⟩:=h
  subst e
  cases us with
  | nil=>rw [Dts] at g;cases g
  | cons u us=>
   rw [Dts] at g
   obtain ⟨v',vs'',e',g1,g2⟩:=g
   cases e'
   rw [mZ,oG I h1 g1,lC I h2 g2]
   rfl
end
theorem in1_units {A:Around}:A.in1.units=A.units+1:=rfl
theorem qg {n:Nat}{ws:List W}(h:plW n (.tup ws)=true):∃ m,n=m+1∧ws.all (plW m)=true:=by
 cases n with
 | zero=>simp [plW] at h
 | succ m=>exact ⟨m,rfl,by simpa [plW] using h⟩
theorem lM {n:Nat}{ws:List W}(h:plW n (.lst ws)=true):∃ m,n=m+1∧ws.all (plW m)=true:=by
 cases n with
 | zero=>simp [plW] at h
 | succ m=>exact ⟨m,rfl,by simpa [plW] using h⟩
theorem gY {s:Shared}{A:Around}{n:Nat}{ws us:List W}{xs ys:List V}{its jts:List Value}(d1:Dts K H ws xs)(d2:Dts K H us ys)(p1:ws.all (plW n)=true)(p2:us.all (plW n)=true)(r1:Vals xs its)(r2:Vals ys jts)
  (one:∀ {w u:W} {v x:V} {a b:Value},Dt K H w v→Dt K H u x→plW n w=true→plW n u=true→RelV v a→RelV x b→SeqAt.EqAt A s a b (eqW w u)) :
  ∀ j (h1:j<its.toArray.size) (h2:j<jts.toArray.size),SeqAt.EqAt A s its.toArray[j] jts.toArray[j] (eqJW ws us j):=by
 intro j h1 h2
 have l1:j<ws.length:=by rw [d1.len,r1.length];simpa using h1
 have l2:j<us.length:=by rw [d2.len,r2.length];simpa using h2
 obtain ⟨v,ev,dv⟩:=d1.get (List.getElem?_eq_getElem l1)
 obtain ⟨x,ex,dx⟩:=d2.get (List.getElem?_eq_getElem l2)
 obtain ⟨a,ea,ra⟩:=r1.get ev
 obtain ⟨b,eb,rb⟩:=r2.get ex
 have ea':its.toArray[j]=a:=by simpa using (List.getElem?_eq_some_iff.mp ea).2
 have eb':jts.toArray[j]=b:=by simpa using (List.getElem?_eq_some_iff.mp eb).2
 have e:eqJW ws us j=eqW ws[j] us[j]:=by
  unfold eqJW
  rw [List.getD_eq_getElem?_getD,List.getD_eq_getElem?_getD,List.getElem?_eq_getElem l1,List.getElem?_eq_getElem l2]
  rfl
 rw [ea',eb',e]
 exact one dv dx (List.all_eq_true.mp p1 _ (List.getElem_mem l1)) (List.all_eq_true.mp p2 _ (List.getElem_mem l2)) ra rb
theorem size_of {ws:List W}{xs:List V}{its:List Value}(d:Dts K H ws xs)(r:Vals xs its):its.toArray.size=ws.length:=by
 rw [d.len,r.length];simp
theorem uw {ws us:List W}:((List.range (min ws.length us.length)).all (eqJW ws us)&&ws.length==us.length)=mZ ws us:=by
 by_cases e:ws.length=us.length
 ·rw [←e,Nat.min_self,iY e];simp
 ·rw [ju e]
  have e2:(ws.length==us.length)=false:=beq_eq_false_iff_ne.mpr e
  rw [e2,Bool.and_false]
inductive Kd (s:Shared):W→Value→Prop where
 | non:Kd s .non .none
 | bl (b:Bool):Kd s (.bl b) (.bool b)
 | int (i:Int) (t:Tok):Kd s (.int i) (.int i t)
 | str (x:Str) (t:Tok):Kd s (.str x) (.str x t)
 | tup (ws:List W) {p:Addr} {its:Array Value} (q:s.heap.IsTuple p its):Kd s (.tup ws) (.ref p)
 | lst (ws:List W) {p:Addr} {its:Array Value} (q:s.heap.IsList p its):Kd s (.lst ws) (.ref p)
theorem wJ {pins:List (Addr×Obj)}{s:Shared}{σ : St}(I:Inv X pins σ H s){w:W}{v:V}{a:Value}(d:Dt X.K H w v)(r:RelV v a):Kd s w a:=by
 cases w with
 | non=>rw [Dt] at d;subst d;cases r;exact .non
 | bl b=>rw [Dt] at d;subst d;cases r;exact .bl b
 | int b=>rw [Dt] at d;subst d;obtain ⟨t,rfl⟩:=r;exact .int b t
 | str b=>rw [Dt] at d;subst d;obtain ⟨t,rfl⟩:=r;exact .str b t
 | tup ws=>rw [Dt] at d;obtain ⟨p,xs,e,hs,_⟩:=d;subst e;cases r;obtain ⟨its,_,q,_⟩:=I.tuple hs;exact .tup ws q
 | lst ws=>rw [Dt] at d;obtain ⟨p,xs,e,hs,_⟩:=d;subst e;cases r;obtain ⟨its,_,q,_⟩:=I.list hs;exact .lst ws q.isList
 | _=>rw [Dt] at d;exact d.elim
def xr:W→W→Bool
 | .tup _,.tup _=>true
 | .lst _,.lst _=>true
 | _,_=>false
def flt2:W→W→Bool
 | .tup _,_=>false
 | .lst _,_=>false
 | _,.tup _=>false
 | _,.lst _=>false
 | _,_=>true
theorem eq_mix {s:Shared}{A:Around}{w u:W}{a b:Value}(hu:A.units<cLine)(k1:Kd s w a)(k2:Kd s u b)(h:xr w u=false)(f:flt2 w u=false):SeqAt.EqAt A s a b (eqW w u):=by
 cases k1 with
 | non=>
  cases k2 with
  | non=>cases f
  | bl _=>cases f
  | int _ _=>cases f
  | str _ _=>cases f
  | tup _ q3=>apply SeqAt.EqAt.none_tuple <;> assumption
  | lst _ q4=>apply SeqAt.EqAt.none_list <;> assumption
 | bl _=>
  cases k2 with
  | non=>cases f
  | bl _=>cases f
  | int _ _=>cases f
  | str _ _=>cases f
  | tup _ q3=>apply SeqAt.EqAt.bool_tuple <;> assumption
  | lst _ q4=>apply SeqAt.EqAt.bool_list <;> assumption
 | int _ _=>
  cases k2 with
  | non=>cases f
  | bl _=>cases f
  | int _ _=>cases f
  | str _ _=>cases f
  | tup _ q3=>apply SeqAt.EqAt.int_tuple <;> assumption
  | lst _ q4=>apply SeqAt.EqAt.int_list <;> assumption
 | str _ _=>
  cases k2 with
  | non=>cases f
  | bl _=>cases f
  | int _ _=>cases f
  | str _ _=>cases f
  | tup _ q3=>apply SeqAt.EqAt.str_tuple <;> assumption
  | lst _ q4=>apply SeqAt.EqAt.str_list <;> assumption
 | tup _ q1=>
  cases k2 with
  | non=>apply SeqAt.EqAt.tuple_none <;> assumption
  | bl _=>apply SeqAt.EqAt.tuple_bool <;> assumption
  | int _ _=>apply SeqAt.EqAt.tuple_int <;> assumption
  | str _ _=>apply SeqAt.EqAt.tuple_str <;> assumption
  | tup _ q3=>cases h
  | lst _ q4=>apply SeqAt.EqAt.tuple_list <;> assumption
 | lst _ q2=>
  cases k2 with
  | non=>apply SeqAt.EqAt.list_none <;> assumption
  | bl _=>apply SeqAt.EqAt.list_bool <;> assumption
  | int _ _=>apply SeqAt.EqAt.list_int <;> assumption
  | str _ _=>apply SeqAt.EqAt.list_str <;> assumption
  | tup _ q3=>apply SeqAt.EqAt.list_tuple <;> assumption
  | lst _ q4=>cases h
theorem rc_mix {s:Shared}{A:Around}{w u:W}{a b:Value}(hu:A.units<cLine)(k1:Kd s w a)(k2:Kd s u b)(h:xr w u=false):SeqAt.RcAt A s a b (eqW w u):=by
 cases k1 with
 | non=>
  cases k2 with
  | non=>apply SeqAt.RcAt.none_none <;> assumption
  | bl _=>apply SeqAt.RcAt.none_bool <;> assumption
  | int _ _=>apply SeqAt.RcAt.none_int <;> assumption
  | str _ _=>apply SeqAt.RcAt.none_str <;> assumption
  | tup _ q3=>apply SeqAt.RcAt.none_tuple <;> assumption
  | lst _ q4=>apply SeqAt.RcAt.none_list <;> assumption
 | bl _=>
  cases k2 with
  | non=>apply SeqAt.RcAt.bool_none <;> assumption
  | bl _=>apply SeqAt.RcAt.bool_bool <;> assumption
  | int _ _=>apply SeqAt.RcAt.bool_int <;> assumption
  | str _ _=>apply SeqAt.RcAt.bool_str <;> assumption
  | tup _ q3=>apply SeqAt.RcAt.bool_tuple <;> assumption
  | lst _ q4=>apply SeqAt.RcAt.bool_list <;> assumption
 | int _ _=>
  cases k2 with
  | non=>apply SeqAt.RcAt.int_none <;> assumption
  | bl _=>apply SeqAt.RcAt.int_bool <;> assumption
  | int _ _=>apply SeqAt.RcAt.int_int <;> assumption
  | str _ _=>apply SeqAt.RcAt.int_str <;> assumption
  | tup _ q3=>apply SeqAt.RcAt.int_tuple <;> assumption
  | lst _ q4=>apply SeqAt.RcAt.int_list <;> assumption
 | str _ _=>
  cases k2 with
  | non=>apply SeqAt.RcAt.str_none <;> assumption
  | bl _=>apply SeqAt.RcAt.str_bool <;> assumption
  | int _ _=>apply SeqAt.RcAt.str_int <;> assumption
  | str _ _=>apply SeqAt.RcAt.str_str <;> assumption
  | tup _ q3=>apply SeqAt.RcAt.str_tuple <;> assumption
  | lst _ q4=>apply SeqAt.RcAt.str_list <;> assumption
 | tup _ q1=>
  cases k2 with
  | non=>apply SeqAt.RcAt.tuple_none <;> assumption
  | bl _=>apply SeqAt.RcAt.tuple_bool <;> assumption
  | int _ _=>apply SeqAt.RcAt.tuple_int <;> assumption
  | str _ _=>apply SeqAt.RcAt.tuple_str <;> assumption
  | tup _ q3=>cases h
  | lst _ q4=>apply SeqAt.RcAt.tuple_list <;> assumption
 | lst _ q2=>
  cases k2 with
  | non=>apply SeqAt.RcAt.list_none <;> assumption
  | bl _=>apply SeqAt.RcAt.list_bool <;> assumption
  | int _ _=>apply SeqAt.RcAt.list_int <;> assumption
  | str _ _=>apply SeqAt.RcAt.list_str <;> assumption
  | tup _ q3=>apply SeqAt.RcAt.list_tuple <;> assumption
  | lst _ q4=>cases h
theorem ne_mix {s:Shared}{A:Around}{w u:W}{a b:Value}(hu:A.units<cLine)(k1:Kd s w a)(k2:Kd s u b)(h:xr w u=false):SeqAt.RcNeAt A s a b (!eqW w u):=by
 cases k1 with
 | non=>
  cases k2 with
  | non=>apply SeqAt.RcNeAt.none_none <;> assumption
  | bl _=>apply SeqAt.RcNeAt.none_bool <;> assumption
  | int _ _=>apply SeqAt.RcNeAt.none_int <;> assumption
  | str _ _=>apply SeqAt.RcNeAt.none_str <;> assumption
  | tup _ q3=>apply SeqAt.RcNeAt.none_tuple <;> assumption
  | lst _ q4=>apply SeqAt.RcNeAt.none_list <;> assumption
 | bl _=>
  cases k2 with
  | non=>apply SeqAt.RcNeAt.bool_none <;> assumption
  | bl _=>apply SeqAt.RcNeAt.bool_bool <;> assumption
  | int _ _=>apply SeqAt.RcNeAt.bool_int <;> assumption
  | str _ _=>apply SeqAt.RcNeAt.bool_str <;> assumption
  | tup _ q3=>apply SeqAt.RcNeAt.bool_tuple <;> assumption
  | lst _ q4=>apply SeqAt.RcNeAt.bool_list <;> assumption
 | int _ _=>
  cases k2 with
  | non=>apply SeqAt.RcNeAt.int_none <;> assumption
  | bl _=>apply SeqAt.RcNeAt.int_bool <;> assumption
  | int _ _=>apply SeqAt.RcNeAt.int_int <;> assumption
  | str _ _=>apply SeqAt.RcNeAt.int_str <;> assumption
  | tup _ q3=>apply SeqAt.RcNeAt.int_tuple <;> assumption
  | lst _ q4=>apply SeqAt.RcNeAt.int_list <;> assumption
 | str _ _=>
  cases k2 with
  | non=>apply SeqAt.RcNeAt.str_none <;> assumption
  | bl _=>apply SeqAt.RcNeAt.str_bool <;> assumption
  | int _ _=>apply SeqAt.RcNeAt.str_int <;> assumption
  | str _ _=>apply SeqAt.RcNeAt.str_str <;> assumption
  | tup _ q3=>apply SeqAt.RcNeAt.str_tuple <;> assumption
  | lst _ q4=>apply SeqAt.RcNeAt.str_list <;> assumption
 | tup _ q1=>
  cases k2 with
  | non=>apply SeqAt.RcNeAt.tuple_none <;> assumption
  | bl _=>apply SeqAt.RcNeAt.tuple_bool <;> assumption
  | int _ _=>apply SeqAt.RcNeAt.tuple_int <;> assumption
  | str _ _=>apply SeqAt.RcNeAt.tuple_str <;> assumption
  | tup _ q3=>cases h
  | lst _ q4=>apply SeqAt.RcNeAt.tuple_list <;> assumption
 | lst _ q2=>
  cases k2 with
  | non=>apply SeqAt.RcNeAt.list_none <;> assumption
  | bl _=>apply SeqAt.RcNeAt.list_bool <;> assumption
  | int _ _=>apply SeqAt.RcNeAt.list_int <;> assumption
  | str _ _=>apply SeqAt.RcNeAt.list_str <;> assumption
  | tup _ q3=>apply SeqAt.RcNeAt.list_tuple <;> assumption
  | lst _ q4=>cases h
theorem eqAtW {pins:List (Addr×Obj)}{s:Shared}{σ : St}(I:Inv X pins σ H s):∀ (n:Nat) {A:Around} {w u:W} {v x:V} {a b:Value},A.units+n<cLine→Dt X.K H w v→Dt X.K H u x→plW n w=true→plW n u=true→RelV v a→RelV x b→SeqAt.EqAt A s a b (eqW w u):=by
 intro n
 induction n with
 | zero=>
  intro A w u v x a b hu dw du pw pu ra rb
  cases w <;> first | (simp [plW] at pw;done) | skip
  all_goals cases u <;> first | (simp [plW] at pu;done) | (rw [Dt] at dw;rw [Dt] at du;subst dw;subst du;exact eqAt_V ra rb rfl rfl)
 | succ n ih=>
  intro A w u v x a b hu dw du pw pu ra rb
  have hu':A.units<cLine:=by omega
  have hu1:A.in1.units+n<cLine:=by rw [in1_units];omega
  by_cases h2:xr w u=true
  ·cases w <;> cases u <;> first | (cases h2;done) | skip
   ·rename_i ws us
    have dw0:=dw;have du0:=du
    rw [Dt] at dw;obtain ⟨p1,xs1,e1,hs1,ds1⟩:=dw;subst e1;cases ra;obtain ⟨its1,rv1,pl1,hz1⟩:=I.tuple hs1;have q1:s.heap.IsTuple p1 its1.toArray:=pl1
    rw [Dt] at du;obtain ⟨p2,xs2,e2,hs2,ds2⟩:=du;subst e2;cases rb;obtain ⟨its2,rv2,pl2,hz2⟩:=I.tuple hs2;have q2:s.heap.IsTuple p2 its2.toArray:=pl2
    have pw:ws.all (plW n)=true:=by simpa [plW] using pw
    have pu:us.all (plW n)=true:=by simpa [plW] using pu
    by_cases hp:p1=p2
    ·subst hp;rw [oG I dw0 du0];exact SeqAt.EqAt.same _
    ·refine SeqAt.EqAt.of_refs hp ?_
     have z:=SeqAt.RcAt.tuples q1 q2 hu' (gY ds1 ds2 pw pu rv1 rv2 (fun a b c d e f=>ih hu1 a b c d e f))
     rw [size_of ds1 rv1,size_of ds2 rv2,uw] at z
     rw [eqW];exact z
   ·rename_i ws us
    have dw0:=dw;have du0:=du
    rw [Dt] at dw;obtain ⟨p1,xs1,e1,hs1,ds1⟩:=dw;subst e1;cases ra;obtain ⟨its1,rv1,pl1,hz1⟩:=I.list hs1;have q1:=pl1.isList
    rw [Dt] at du;obtain ⟨p2,xs2,e2,hs2,ds2⟩:=du;subst e2;cases rb;obtain ⟨its2,rv2,pl2,hz2⟩:=I.list hs2;have q2:=pl2.isList
    have pw:ws.all (plW n)=true:=by simpa [plW] using pw
    have pu:us.all (plW n)=true:=by simpa [plW] using pu
    by_cases hp:p1=p2
    ·subst hp;rw [oG I dw0 du0];exact SeqAt.EqAt.same _
    ·refine SeqAt.EqAt.of_refs hp ?_
     rw [eqW]
     by_cases hl:ws.length=us.length
     ·have z:=SeqAt.RcAt.lists q1 q2 (by rw [size_of ds1 rv1,size_of ds2 rv2,hl]) hu' (gY ds1 ds2 pw pu rv1 rv2 (fun a b c d e f=>ih hu1 a b c d e f))
      rw [size_of ds1 rv1,iY hl] at z
      exact z
     ·rw [ju hl];exact SeqAt.RcAt.lists_lengths q1 q2 (by rw [size_of ds1 rv1,size_of ds2 rv2];simpa using hl) hu'
  ·by_cases hf:flt2 w u=true
   ·cases w <;> cases u <;> first | (cases hf;done) | (simp [plW] at pw;done) | (simp [plW] at pu;done) | (rw [Dt] at dw;rw [Dt] at du;subst dw;subst du;exact eqAt_V ra rb rfl rfl)
   ·exact eq_mix hu' (wJ I dw ra) (wJ I du rb) (by simpa using h2) (by simpa using hf)
theorem rcAtW {pins:List (Addr×Obj)}{s:Shared}{σ : St}(I:Inv X pins σ H s)(n:Nat){A:Around}{w u:W}{v x:V}{a b:Value}(hu:A.units+n<cLine)(dw:Dt X.K H w v)(du:Dt X.K H u x)(pw:plW n w=true)(pu:plW n u=true)(ra:RelV v a)(rb:RelV x b):SeqAt.RcAt A s a b (eqW w u):=by
 have hu':A.units<cLine:=by omega
 by_cases h2:xr w u=true
 ·cases w <;> cases u <;> first | (cases h2;done) | skip
  ·obtain ⟨m,hm,pw⟩:=qg pw
   subst hm
   obtain ⟨m',hm',pu⟩:=qg pu
   cases hm'
   have hu1:A.in1.units+m<cLine:=by rw [in1_units];omega
   rw [Dt] at dw;obtain ⟨p1,xs1,e1,hs1,ds1⟩:=dw;subst e1;cases ra;obtain ⟨its1,rv1,pl1,hz1⟩:=I.tuple hs1;have q1:s.heap.IsTuple p1 its1.toArray:=pl1
   rw [Dt] at du;obtain ⟨p2,xs2,e2,hs2,ds2⟩:=du;subst e2;cases rb;obtain ⟨its2,rv2,pl2,hz2⟩:=I.tuple hs2;have q2:s.heap.IsTuple p2 its2.toArray:=pl2
   rw [eqW]
   have z:=SeqAt.RcAt.tuples q1 q2 hu' (gY ds1 ds2 pw pu rv1 rv2 (fun a b c d e f=>eqAtW I m hu1 a b c d e f))
   rw [size_of ds1 rv1,size_of ds2 rv2,uw] at z
   exact z
  ·rename_i ws us
   obtain ⟨m,hm,pw⟩:=lM pw
   subst hm
   obtain ⟨m',hm',pu⟩:=lM pu
   cases hm'
   have hu1:A.in1.units+m<cLine:=by rw [in1_units];omega
   rw [Dt] at dw;obtain ⟨p1,xs1,e1,hs1,ds1⟩:=dw;subst e1;cases ra;obtain ⟨its1,rv1,pl1,hz1⟩:=I.list hs1;have q1:=pl1.isList
   rw [Dt] at du;obtain ⟨p2,xs2,e2,hs2,ds2⟩:=du;subst e2;cases rb;obtain ⟨its2,rv2,pl2,hz2⟩:=I.list hs2;have q2:=pl2.isList
   rw [eqW]
   by_cases hl:ws.length=us.length
   ·have z:=SeqAt.RcAt.lists q1 q2 (by rw [size_of ds1 rv1,size_of ds2 rv2,hl]) hu' (gY ds1 ds2 pw pu rv1 rv2 (fun a b c d e f=>eqAtW I m hu1 a b c d e f))
    rw [size_of ds1 rv1,iY hl] at z
    exact z
   ·rw [ju hl];exact SeqAt.RcAt.lists_lengths q1 q2 (by rw [size_of ds1 rv1,size_of ds2 rv2];simpa using hl) hu'
 ·exact rc_mix hu' (wJ I dw ra) (wJ I du rb) (by simpa using h2)
theorem rcNeAtW {pins:List (Addr×Obj)}{s:Shared}{σ : St}(I:Inv X pins σ H s)(n:Nat){A:Around}{w u:W}{v x:V}{a b:Value}(hu:A.units+n<cLine)(dw:Dt X.K H w v)(du:Dt X.K H u x)(pw:plW n w=true)(pu:plW n u=true)(ra:RelV v a)(rb:RelV x b):SeqAt.RcNeAt A s a b (!eqW w u):=by
 have hu':A.units<cLine:=by omega
 by_cases h2:xr w u=true
 ·cases w <;> cases u <;> first | (cases h2;done) | skip
  ·obtain ⟨m,hm,pw⟩:=qg pw
   subst hm
   obtain ⟨m',hm',pu⟩:=qg pu
   cases hm'
   have hu1:A.in1.units+m<cLine:=by rw [in1_units];omega
   rw [Dt] at dw;obtain ⟨p1,xs1,e1,hs1,ds1⟩:=dw;subst e1;cases ra;obtain ⟨its1,rv1,pl1,hz1⟩:=I.tuple hs1;have q1:s.heap.IsTuple p1 its1.toArray:=pl1
   rw [Dt] at du;obtain ⟨p2,xs2,e2,hs2,ds2⟩:=du;subst e2;cases rb;obtain ⟨its2,rv2,pl2,hz2⟩:=I.tuple hs2;have q2:s.heap.IsTuple p2 its2.toArray:=pl2
   rw [eqW]
   have z:=SeqAt.RcNeAt.tuples q1 q2 hu' (gY ds1 ds2 pw pu rv1 rv2 (fun a b c d e f=>eqAtW I m hu1 a b c d e f))
   rw [size_of ds1 rv1,size_of ds2 rv2,uw] at z
   exact z
  ·rename_i ws us
   obtain ⟨m,hm,pw⟩:=lM pw
   subst hm
   obtain ⟨m',hm',pu⟩:=lM pu
   cases hm'
   have hu1:A.in1.units+m<cLine:=by rw [in1_units];omega
   rw [Dt] at dw;obtain ⟨p1,xs1,e1,hs1,ds1⟩:=dw;subst e1;cases ra;obtain ⟨its1,rv1,pl1,hz1⟩:=I.list hs1;have q1:=pl1.isList
   rw [Dt] at du;obtain ⟨p2,xs2,e2,hs2,ds2⟩:=du;subst e2;cases rb;obtain ⟨its2,rv2,pl2,hz2⟩:=I.list hs2;have q2:=pl2.isList
   rw [eqW]
   by_cases hl:ws.length=us.length
   ·have z:=SeqAt.RcNeAt.lists q1 q2 (by rw [size_of ds1 rv1,size_of ds2 rv2,hl]) hu' (gY ds1 ds2 pw pu rv1 rv2 (fun a b c d e f=>eqAtW I m hu1 a b c d e f))
    rw [size_of ds1 rv1,iY hl] at z
    exact z
   ·rw [ju hl];exact SeqAt.RcNeAt.lists_lengths q1 q2 (by rw [size_of ds1 rv1,size_of ds2 rv2];simpa using hl) hu'
 ·exact ne_mix hu' (wJ I dw ra) (wJ I du rb) (by simpa using h2)
def datW (h:Gh):W→Option W
 | .loc n=>(match h.c n with
  | some (.lst ws)=>some (.lst ws)
  | _=>none)
 | w=>some w
theorem pH {w d:W}{v:V}{n:Nat}(R:Rel K μ H h)(r:Rep K H μ w v)(e:datW h w=some d)(p:plW n d=true):Dt K H d v:=by
 have other:datW h w=some w→Dt K H d v:=fun z=>by
  rw [z] at e;cases e;exact dt_of n r p
 cases w with
 | loc m=>
  unfold datW at e
  dsimp only at e
  cases ec:h.c m with
  | none=>rw [ec] at e;cases e
  | some cl=>
   rw [ec] at e
   cases cl with
   | lst us=>
    cases (show some (W.lst us)=some d from e)
    obtain ⟨p',xs,hm',hx,rs⟩:=R.lstAt ec
    rw [Rep] at r
    obtain ⟨q,ev,hm⟩:=r
    have ep:p'=q:=by rw [hm] at hm';exact (Option.some.inj hm').symm
    subst ep
    obtain ⟨k,rfl,p⟩:=lM p
    rw [Dt]
    exact ⟨p',xs,ev,.of hx,uR (dt_of k) rs p⟩
   | _=>cases e
 | _=>exact other rfl
def rEqD (K:PySem.W.Frag)(neg:Bool):R2:=fun x y H Q=>∃ w u,Dt K H w x∧Dt K H u y∧plW 30 w=true∧plW 30 u=true∧Q (.bl (if neg then !eqW w u else eqW w u)) H
theorem op_eqD (hu:X.A.units+30<cLine):OpR X (compareOp .Eq) (rEqD X.K false):=by
 intro pins s σ H x y v u Q I rx ry ⟨w,w',d1,d2,p1,p2,q⟩
 exact rcAtW I 30 hu d1 d2 p1 p2 rx ry X.prog X.w X.xe _ (fin_bl I q rfl)
theorem op_neD (hu:X.A.units+30<cLine):OpR X (compareOp .NotEq) (rEqD X.K true):=by
 intro pins s σ H x y v u Q I rx ry ⟨w,w',d1,d2,p1,p2,q⟩
 exact rcNeAtW I 30 hu d1 d2 p1 p2 rx ry X.prog X.w X.xe _ (fin_bl I q rfl)
def kEq:M2:=fun x y h Q=>match datW h x,datW h y with
 | some a,some b=>by2 (plW 30 a&&plW 30 b) (Q (.bl (eqW a b)) h) False
 | _,_=>False
def kNe:M2:=fun x y h Q=>match datW h x,datW h y with
 | some a,some b=>by2 (plW 30 a&&plW 30 b) (Q (.bl (!eqW a b)) h) False
 | _,_=>False
theorem o_eq (hu:X.A.units+30<cLine):DOp X (compareOp .Eq) kEq:=⟨_,op_eqD hu,by
 intro H μ h x y wx wy Qw Q R rx ry m k
 unfold kEq at m
 split at m
 ·rename_i a b ea eb
  cases hp:(plW 30 a&&plW 30 b) with
  | true=>
   rw [hp] at m
   rw [Bool.and_eq_true] at hp
   exact ⟨a,b,pH R rx ea hp.1,pH R ry eb hp.2,hp.1,hp.2,k _ _ (.bl R m)⟩
  | false=>rw [hp] at m;exact (show False from m).elim
 ·exact m.elim⟩
theorem o_ne (hu:X.A.units+30<cLine):DOp X (compareOp .NotEq) kNe:=⟨_,op_neD hu,by
 intro H μ h x y wx wy Qw Q R rx ry m k
 unfold kNe at m
 split at m
 ·rename_i a b ea eb
  cases hp:(plW 30 a&&plW 30 b) with
  | true=>
   rw [hp] at m
   rw [Bool.and_eq_true] at hp
   exact ⟨a,b,pH R rx ea hp.1,pH R ry eb hp.2,hp.1,hp.2,k _ _ (.bl R m)⟩
  | false=>rw [hp] at m;exact (show False from m).elim
 ·exact m.elim⟩
theorem oM {A:Around}{k:Nat}(hr:mX k A):A.units+30<cLine:=by have:=hr.units;omega
end
end L2
namespace L2
open PySem PySem.Spec PyProof.Rows
section
variable {X:Cx}{K:PySem.W.Frag}
theorem lH {H:Hp}{μ : Mu}{w:W}{vs:List V}(r:aL K H μ [w] vs):∃ v,vs=[v]∧Rep K H μ w v:=by
 rw [aL] at r
 obtain ⟨v,vr,ev,ra,r⟩:=r
 rw [aL] at r
 subst r
 exact ⟨v,ev,ra⟩
theorem reps2 {H:Hp}{μ : Mu}{w u:W}{vs:List V}(r:aL K H μ [w,u] vs):∃ v x,vs=[v,x]∧Rep K H μ w v∧Rep K H μ u x:=by
 rw [aL] at r
 obtain ⟨v,vr,ev,ra,r⟩:=r
 obtain ⟨x,e,rb⟩:=lH r
 subst e
 exact ⟨v,x,ev,ra,rb⟩
theorem rG.of {i j:Int}{m n:Nat}(hi:Sm m i)(hj:Sm n j)(hm:m≤1000000)(hn:n≤1000000):rG i j:=⟨m,n,hm,hn,hi,hj⟩
theorem Sm.lit {i:Int}(h:Nat.ble (i.natAbs+1) (2^64)=true):Sm 64 i:=by
 have:=Nat.le_of_ble_eq_true h
 unfold Sm
 omega
def kLen:MC:=fun ws h Q=>match ws with
 | [w]=>(match view h w with
  | some xs=>Q (.int (xs.length:Int)) h
  | none=>False)
 | _=>False
theorem wV:jE X (.builtin "len") kLen:=⟨_,qT,by
 intro H μ h vs ws Qw Q R r m k
 unfold kLen at m
 split at m
 ·split at m
  ·rename_i w _ xs ev
   obtain ⟨v,e,rv⟩:=lH r
   obtain ⟨p,ys,ex,hs,rs⟩:=tW R rv ev
   subst e ex
   exact ⟨p,ys,rfl,hs,by rw [←rs.len];exact k _ _ (.int R m)⟩
  ·exact m.elim
 ·exact m.elim⟩
def kAbs:MC:=fun ws h Q=>match ws with
 | [.int i]=>Q (.int (if i<0 then -i else i)) h
 | _=>False
def blsW:List W→Option (List Bool)
 | []=>some []
 | .bl b::ws=>(blsW ws).map (b::·)
 | _=>none
theorem yC {H:Hp}{μ : Mu}:∀ {ws:List W} {xs:List V} {bs:List Bool},aL K H μ ws xs→blsW ws=some bs→xs=bs.map V.bl
 | [],xs,bs,r,e=>by
  rw [aL] at r
  cases (show some []=some bs from e)
  exact r
 | w::ws,xs,bs,r,e=>by
  rw [aL] at r
  obtain ⟨v,vr,ev,ra,r⟩:=r
  cases w with
  | bl b=>
   rw [Rep] at ra
   rw [blsW] at e
   cases q:blsW ws with
   | none=>rw [q] at e;cases e
   | some cs=>
    rw [q] at e
    cases (show some (b::cs)=some bs from e)
    rw [ev,ra,yC r q]
    rfl
  | _=>cases e
def kAll:MC:=fun ws h Q=>match ws with
 | [w]=>(match dR h w with
  | some us=>(match blsW us with
   | some bs=>Q (.bl (bs.all id)) h
   | none=>False)
  | none=>False)
 | _=>False
def isiW (h:Gh)(w:W)(T:String):Option Bool:=match w with
 | .int _=>if T = "int" then some true else if T = "bool"∨T = "tuple"∨T = "list" then some false else none
 | .bl _=>if T = "int"∨T = "bool" then some true else if T = "tuple"∨T = "list" then some false else none
 | .str _=>if T = "int"∨T = "bool"∨T = "tuple"∨T = "list" then some false else none
 | .non=>if T = "int"∨T = "bool"∨T = "tuple"∨T = "list" then some false else none
 | .tup _=>if T = "tuple" then some true else if T = "int"∨T = "bool"∨T = "list" then some false else none
 | w=>(match dR h w with
  | some _=>if T = "list" then some true else if T = "int"∨T = "bool"∨T = "tuple" then some false else none
  | none=>none)
def kIsi:MC:=fun ws h Q=>match ws with
 | [w,.ty T]=>(match isiW h w T with
  | some b=>Q (.bl b) h
  | none=>False)
 | _=>False
def jq:MC:=fun ws h Q=>match ws with
 | [.tup us]=>Q (.tup us) h
 | [w]=>(match dR h w with
  | some us=>Q (.tup us) h
  | none=>False)
 | _=>False
theorem lZ:jE X (.type "tuple") jq:=⟨_,qz,by
 intro H μ h vs ws Qw Q R r m k
 unfold jq at m
 split at m
 ·obtain ⟨v,e,rv⟩:=lH r
  have rv':=rv
  rw [Rep] at rv
  obtain ⟨p,xs,ex,hs,rs⟩:=rv
  subst e ex
  exact ⟨p,xs,rfl,.inr ⟨hs,k _ _ ⟨μ,_,h,.refl,R,rv',m⟩⟩⟩
 ·split at m
  ·rename_i w _ _ us ev
   obtain ⟨v,e,rv⟩:=lH r
   obtain ⟨p,ys,ex,hs,rs⟩:=dM R rv ev
   subst e ex
   exact ⟨p,ys,rfl,.inl ⟨hs,fun l hl=>k _ _ ⟨μ,_,h,(Ex.laid hl).ext,R.laid hl,.tupNew hl rs,m⟩⟩⟩
  ·exact m.elim
 ·exact m.elim⟩
abbrev MM:=W→List W→Gh→WK→Prop
def SimM (K:PySem.W.Frag)(r:V→List V→Hp→VK→Prop)(mr:MM):Prop:=∀ {H:Hp} {μ : Mu} {h:Gh} {x:V} {vs:List V} {wx:W} {ws:List W} {Qw:WK} {Q:VK},Rel K μ H h→Rep K H μ wx x→aL K H μ ws vs→mr wx ws h Qw→(∀ v H',DQ K H μ Qw v H'→Q v H')→r x vs H Q
def xR (h:Gh)(w:W)(P:Prop):Prop:=match w with
 | .loc n=>(match h.c n with
  | some (.lst _)=>P
  | _=>False)
 | _=>False
theorem uQ {H:Hp}{μ : Mu}{h:Gh}{w:W}{v:V}{P:Prop}(R:Rel K μ H h)(r:Rep K H μ w v)(e:xR h w P):tyV K "list" v H∧P:=by
 unfold xR at e
 split at e
 ·split at e
  ·rename_i n _ ws ec
   rw [Rep] at r
   obtain ⟨p,ev,hm⟩:=r
   obtain ⟨p',xs,hm',hx,rs⟩:=R.lstAt ec
   have ep:p'=p:=by rw [hm] at hm';exact (Option.some.inj hm').symm
   subst ep ev
   exact ⟨.inl ⟨rfl,xs,.of hx⟩,e⟩
  ·exact e.elim
 ·exact e.elim
def mBMr (r:MM)(mo:ME)(ma:MA):ME:=fun σ h Q=>mo σ h fun x h1=>xR h1 x (ma σ h1 fun xs h2=>r x xs h2 Q)
variable {o e:Expr}{es:List Expr}{mo:ME}{ma:MA}{name:Str}{apos cpos:Pos}{id:String}{r:V→List V→Hp→VK→Prop}{mr:MM}
theorem d_bm (slot:Slot "list" name id)(hty:typeOf (.builtin id)=pure (.type "method_descriptor"))(hm:MtR X id r)(hs:SimM X.K r mr)(ho:DE X o mo)(ha:DAs X (e::es) ma)
  (hbase:attributeBase o name X.env (eval o X.env)=eval o X.env:=by rfl)
  (hfew:((backTo cpos (starEach (e::es) X.env)).all (fun x=>!x.1)&&(backToKw cpos (keywordEach [] X.env)).all (fun x=>x.1.isSome)
   && decide ((e::es).length+([]:List Keyword).length+(if ([]:List Keyword).isEmpty then 0 else 1)<30))=true:=by rfl)
  (hline:(apos.endLine==cpos.line)=true:=by rfl) (hst:starEach (e::es) X.env=(false,eval e X.env)::starEach es X.env:=by rfl) (hplain:(backTo cpos (starEach es X.env)).any (·.1)=false:=by rfl) :
  DE X (.Call (.Attribute o name apos) (e::es) [] cpos) (mBMr mr mo ma):=(pe_bm PySem.F.plainAttrs_list slot hty hm ho ha hbase hfew hline hst hplain).of fun σ H Q ⟨μ,h,σw,Qw,R,S,m,k⟩=>by
 refine ⟨μ,h,σw,_,R,S,m,fun v H1 ⟨μ1,w,h1,e1,R1,r1,il⟩=>⟨(uQ R1 r1 il).1,?_⟩⟩
 have m1:=(uQ R1 r1 il).2
 exact ⟨μ1,h1,σw,_,R1,S.ext e1,m1,fun vs H2 ⟨μ2,ws,h2,e2,R2,r2,m2⟩=>hs R2 (e2.r _ _ r1) r2 m2 fun v H' z=>k _ _ ((z.trans e2).trans e1)⟩
def cX:MM:=fun x ws h Q=>match x,ws with
 | .loc n,[w]=>(match h.c n with
  | some (.lst us)=>us.length<sizeLine∧Q .non (h.set n (.lst (us++[w])))
  | _=>False)
 | _,_=>False
theorem locAt {H:Hp}{μ : Mu}{h:Gh}{n:Nat}{v:V}{us:List W}(R:Rel K μ H h)(r:Rep K H μ (.loc n) v)(ec:h.c n=some (.lst us)):∃ p xs,v=.ref p∧μ.f n=some p∧H p=some (.lst xs)∧aL K H μ us xs:=by
 rw [Rep] at r
 obtain ⟨p,ev,hm⟩:=r
 obtain ⟨p',xs,hm',hx,rs⟩:=R.lstAt ec
 have ep:p'=p:=by rw [hm] at hm';exact (Option.some.inj hm').symm
 subst ep
 exact ⟨p',xs,ev,hm,hx,rs⟩
theorem DQ.wrote {H:Hp}{μ : Mu}{h:Gh}{n:Nat}{p:Addr}{us:List W}{xs:List V}{Q:WK}{w:W}{v:V}(R:Rel K μ H h)(hm:μ.f n=some p)(rs:aL K H μ us xs)(rw':Rep K H μ w v)(q:Q w (h.set n (.lst us))):DQ K H μ Q v (upd H p (.lst xs)):=
 ⟨μ,w,h.set n (.lst us),(Ex.write R hm).ext,R.write hm trivial ⟨xs,bA,(Ex.write R hm).ext.s rs⟩,(Ex.write R hm).ext.r _ _ rw',q⟩
theorem s_append:SimM K rAppend cX:=by
 intro H μ h x vs wx ws Qw Q R rx rs m k
 unfold cX at m
 split at m
 ·split at m
  ·rename_i n w _ us ec
   obtain ⟨p,xs,ex,hm,hx,r1⟩:=locAt R rx ec
   obtain ⟨v,ev,rv⟩:=lH rs
   exact ⟨p,xs,v,ex,ev,hx,by rw [←r1.len];exact m.1,k _ _ (.wrote R hm (r1.append (.one rv)) (by rw [Rep]) m.2)⟩
  ·exact m.elim
 ·exact m.elim
theorem gR (ho:DE X o mo)(ha:DAs X [e] ma)
  (hbase:attributeBase o "append" X.env (eval o X.env)=eval o X.env:=by rfl)
  (hfew:((backTo cpos (starEach [e] X.env)).all (fun x=>!x.1)&&(backToKw cpos (keywordEach [] X.env)).all (fun x=>x.1.isSome)
   && decide (([e]:List Expr).length+([]:List Keyword).length+(if ([]:List Keyword).isEmpty then 0 else 1)<30))=true:=by rfl)
  (hline:(apos.endLine==cpos.line)=true:=by rfl) (hst:starEach [e] X.env=(false,eval e X.env)::starEach [] X.env:=by rfl) (hplain:(backTo cpos (starEach [] X.env)).any (·.1)=false:=by rfl) :
  DE X (.Call (.Attribute o "append" apos) [e] [] cpos) (mBMr cX mo ma):=d_bm PySem.F.slot_list_append PySem.F.type_list_append qQ s_append ho ha hbase hfew hline hst hplain
end
end L2
namespace L2
open PySem PySem.Spec PyProof.Rows
section
variable {X:Cx}{K:PySem.W.Frag}
def isNon:W→Bool
 | .non=>true
 | _=>false
def kIs:M2:=fun x y h Q=>match x,y with
 | .bl c,.bl b=>Q (.bl (c==b)) h
 | w,.non=>Q (.bl (isNon w)) h
 | _,_=>False
def kIsnt:M2:=fun x y h Q=>match x,y with
 | .bl c,.bl b=>Q (.bl (!(c==b))) h
 | w,.non=>Q (.bl (!isNon w)) h
 | _,_=>False
theorem w6 (bs:List Bool):((List.range bs.length).any fun i=>(bs[i]?).getD true)=bs.any id:=by
 rw [Bool.eq_iff_iff,List.any_eq_true,List.any_eq_true]
 constructor
 ·rintro ⟨i,hi,e⟩
  have hi':=List.mem_range.mp hi
  exact ⟨bs[i],List.getElem_mem hi',by simpa [hi'] using e⟩
 ·rintro ⟨b,hb,e⟩
  obtain ⟨i,hi,rfl⟩:=List.mem_iff_getElem.mp hb
  exact ⟨i,List.mem_range.mpr hi,by simpa [hi] using e⟩
theorem zW (hc:X.calm=true):jf X (.builtin "any") (fun xs H Q=>∃ (p:Addr) (bs:List Bool),xs=[.ref p]∧SqL X.K H p (bs.map V.bl)∧Q (.bl (bs.any id)) H):=by
 intro pins s σ H xs us Q I r ⟨p,bs,e,hS,q⟩
 subst e
 obtain ⟨u,rfl,ru⟩:=vals1 r
 cases ru
 obtain ⟨its,rv,pl,hz⟩:=I.list hS
 have hlen:its.length=bs.length:=by rw [←rv.length,List.length_map]
 have hl:=pl.isList
 have hlt:p<s.heap.objs.size:=by obtain ⟨_,e,_⟩:=hl;exact Heap.lt_size e
 refine call_any_walk (wpAny_pyIter_list hl ?_)
 refine ⟨s.heap.objs.size,[s.heap.objs.size,p],[s.heap.objs.size],its.toArray.size,_,_,fun i=>(bs[i]?).getD true,rfl,Walks.list (A:=X.A.in1) (I.ok.hd hc) _ p (Nat.ne_of_lt hlt) its.toArray,
  ⟨⟨_,Heap.get?_push_size _ rfl,rfl,rfl⟩,hl.push _⟩,fun i v s' Q' E' hP hQ=>?_,fun h' tk hk=>?_⟩
 ·obtain ⟨b,e,rfl⟩:=rY rv (by simpa using hP)
  simp only [e,Option.getD_some] at hQ
  exact wpAny_truthy_bool hQ
 ·have e:((List.range its.toArray.size).any fun i=>(bs[i]?).getD true)=bs.any id:=by
   rw [List.size_toArray,hlen];exact w6 bs
  rw [e]
  refine ⟨.bl (bs.any id),H,I.kept (h':=h') (t':=tk) (fun b x e=>?_),rfl,q⟩
  exact hk b x (fun hm=>by rw [List.mem_singleton.mp hm] at e;exact Nat.lt_irrefl _ (Heap.lt_size e)) (Heap.get?_push_of_some _ e)
def kAny:MC:=fun ws h Q=>match ws with
 | [w]=>(match dR h w with
  | some us=>(match blsW us with
   | some bs=>Q (.bl (bs.any id)) h
   | none=>False)
  | none=>False)
 | _=>False
theorem c_any (hc:X.calm=true):jE X (.builtin "any") kAny:=⟨_,zW hc,by
 intro H μ h vs ws Qw Q R r m k
 unfold kAny at m
 split at m
 ·split at m
  ·split at m
   ·rename_i w _ us ev _ bs eb
    obtain ⟨v,e,rv⟩:=lH r
    obtain ⟨p,ys,ex,hs,rs⟩:=dM R rv ev
    subst e ex
    exact ⟨p,bs,rfl,by rw [←yC rs eb];exact hs,k _ _ (.bl R m)⟩
   ·exact m.elim
  ·exact m.elim
 ·exact m.elim⟩
theorem op_catT0:OpR X (binaryOp .Add) (fun x y H Q=>∃ a b ys,x=.ref a∧y=.ref b∧SqT X.K H a []∧SqT X.K H b ys∧Q (.ref b) H):=by
 intro pins s σ H x y v u Q I rx ry ⟨a,b,ys,ex,ey,ha,hb,q⟩
 subst ex ey
 cases rx
 cases ry
 obtain ⟨its,r1,p1,_⟩:=I.tuple ha
 obtain ⟨jts,r2,p2,_⟩:=I.tuple hb
 cases r1
 obtain ⟨⟨cls,dd,data,sl⟩,ho,hc,n,hd⟩:=id p1
 obtain ⟨⟨cls2,dd2,data2,sl2⟩,ho2,hc2,n2,hd2⟩:=id p2
 simp only at hc hd hc2 hd2
 subst hc hd hc2 hd2
 exact concat_meets ⟨_,ho,rfl⟩ ⟨_,ho2,rfl⟩ noFill_tuple_add seq_tuple_add PySem.F.slot_tuple_add PySem.F.entry_tuple_add (PySem.F.args_tuple_add_2 _ _)
  (tuple_addW0 a b _ _ n n2 dd dd2 sl sl2 (by simp)) ⟨ho,ho2,⟨.ref b,H,I,rfl,q⟩⟩
def trkL (h:Gh):W→Option (List W)
 | .lst ws=>some ws
 | .loc n=>(match h.c n with
  | some (.lst ws)=>some ws
  | _=>none)
 | _=>none
theorem yP {H:Hp}{μ : Mu}{h:Gh}{w:W}{v:V}{ws:List W}(R:Rel K μ H h)(r:Rep K H μ w v)(e:trkL h w=some ws):∃ p xs,v=.ref p∧H p=some (.lst xs)∧aL K H μ ws xs:=by
 cases w with
 | lst us=>
  rw [Rep] at r
  obtain ⟨p,xs,ev,hs,rs⟩:=r
  cases (show some us=some ws from e)
  exact ⟨p,xs,ev,hs.1,rs⟩
 | loc n=>
  unfold trkL at e
  dsimp only at e
  cases ec:h.c n with
  | none=>rw [ec] at e;cases e
  | some cl=>
   rw [ec] at e
   cases cl with
   | lst us=>
    cases (show some us=some ws from e)
    obtain ⟨p,xs,ev,_,hx,rs⟩:=locAt R r ec
    exact ⟨p,xs,ev,hx,rs⟩
   | _=>cases e
 | _=>cases e
def cU:M2:=fun x y h Q=>match x,y with
 | .int i,.int j=>Q (.int (i+j)) h
 | .tup [],.tup b=>Q (.tup b) h
 | .tup (a0::a),.tup b=>iz (a.length+1+b.length) (Q (.tup (a0::a++b)) h)
 | x,y=>(match trkL h x,trkL h y with
  | some a,some b=>iz (a.length+b.length) (Q (.lst (a++b)) h)
  | _,_=>False)
theorem cj:DOp X (binaryOp .Add) cU:=⟨_,(op_add.or (op_catT0.or op_catT)).or op_cat,by
 intro H μ h x y wx wy Qw Q R rx ry m k
 unfold cU at m
 split at m
 ·rw [Rep] at rx ry
  exact .inl (.inl ⟨_,_,rx,ry,k _ _ (.int R m)⟩)
 ·rename_i b
  have ry':=ry
  rw [Rep] at rx ry
  obtain ⟨p,xs,ex,hx,r1⟩:=rx
  obtain ⟨q,ys,ey,hy,r2⟩:=ry
  rw [aL] at r1
  subst r1
  rw [ey] at ry'
  exact .inl (.inr (.inl ⟨p,q,ys,ex,ey,hx,hy,k _ _ ⟨μ,_,h,.refl,R,ry',m⟩⟩))
 ·rename_i a0 a b
  have rx':=rx
  rw [Rep] at rx ry
  obtain ⟨p,xs,ex,hx,r1⟩:=rx
  obtain ⟨q,ys,ey,hy,r2⟩:=ry
  have sz:=m.ok.1
  refine .inl (.inr (.inr ⟨p,q,xs,ys,ex,ey,hx,hy,fun z=>(by have:=r1.ne_nil.mp z;cases this),by rw [←r1.len,←r2.len];exact sz,fun z=>?_,fun z l hl=>?_⟩))
  ·have eb:b=[]:=r2.ne_nil.mp z
   subst eb
   refine k _ _ ⟨μ,.tup (a0::a++[]),h,.refl,R,?_,m.ok.2⟩
   rw [List.append_nil,←ex]
   exact rx'
  ·exact k _ _ ⟨μ,_,h,(Ex.laid hl).ext,R.laid hl,.tupNew hl (r1.append r2),m.ok.2⟩
 ·split at m
  ·rename_i a b ea eb
   obtain ⟨p,xs,ex,hx,r1⟩:=yP R rx ea
   obtain ⟨q,ys,ey,hy,r2⟩:=yP R ry eb
   have sz:=m.ok.1
   exact .inr ⟨p,q,xs,ys,ex,ey,hx,hy,by rw [←r1.len,←r2.len];exact sz,fun l hl=>k _ _ ⟨μ,_,h,(Ex.laid hl).ext,R.laid hl,.lstNew R hl (r1.append r2),m.ok.2⟩⟩
  ·exact m.elim⟩
variable {o e:Expr}{mo:ME}{ma:MA}{apos cpos:Pos}
end
end L2
namespace L2
open PySem PySem.Spec PyProof.Rows
def spLaw (K:PySem.W.Frag):Sp:=fun vs H Q _=>∃ (a:Addr) (ns:List Int),vs=[.ref a]∧SqL K H a (ns.map V.int)∧Only H∧ns.length≤63∧∀ H',Q (.bl true) H'
def g0:Gh:=⟨0,fun _=>none⟩
def μ0:Mu:=⟨fun _=>none,fun _=>False⟩
theorem rel0 {K:PySem.W.Frag}{H:Hp}:Rel K μ0 H g0 where
 inj:=fun m n p h=>by cases (show (none:Option Addr)=some p from h)
 dom:=fun n p h=>by cases (show (none:Option Addr)=some p from h)
 trk:=fun n p h=>by cases (show (none:Option Addr)=some p from h)
 cel:=fun n c h=>by cases (show (none:Option Cell)=some c from h)
 hd:=fun p h=>False.elim h
theorem lB {K:PySem.W.Frag}{H:Hp}{μ : Mu}:∀ ns:List Int,aL K H μ (ns.map W.int) (ns.map V.int)
 | []=>.nil
 | n::ns=>.cons (by rw [Rep]) (lB ns)
theorem law_imp {P:Program}{w:World}{K:PySem.W.Frag}{mg:Str→Option Value}{base:Heap}{k:Nat}{f:Addr}{fd:FuncData}{ps:List Str}{ms:MSp}
  (hm:∀ ns:List Int,ns.length≤63→ms [.kls (ns.map W.int)] g0 (fun w _=>w=.bl true) EF) (F:fD P w K mg base CX0 k f fd ps (lift K ms)):fD P w K mg base CX0 k f fd ps (spLaw K):=
 F.imp fun vs H Q E ⟨a,ns,e,hS,hO,hl,q⟩=>by
  subst e
  refine ⟨μ0,g0,[.kls (ns.map W.int)],_,rel0,.one ?_,hm ns hl,fun v H' ⟨μ',w',h',_,_,r,e⟩=>?_⟩
  ·rw [Rep]
   refine ⟨a,ns.map V.int,rfl,?_,lB ns⟩
   rcases hS with (hS | hS) | hS
   ·rcases hO a with z | ⟨o,xs,z⟩ <;> rw [hS] at z <;> cases z
   ·exact .inl hS
   ·exact .inr hS
  ·subst e
   rw [Rep] at r
   subst r
   exact q H'
end L2
namespace L2
open PySem PySem.Spec PyProof.Rows
inductive Sk where
 | l | t
def Sk.sq (k:Sk)(h:Heap)(a:Addr)(its:Array Value):Prop:=match k with
 | .l=>h.IsList a its
 | .t=>h.IsTuple a its
def Sk.it (k:Sk)(h:Heap)(i a:Addr)(n:Nat):Prop:=match k with
 | .l=>h.IsListIter i a n
 | .t=>h.IsTupleIter i a n
def Sk.nm:Sk→String
 | .l => "list_iterator"
 | .t => "tuple_iterator"
section
variable {P:Program}{w:World}{A:Around}{E:Value→Shared→Prop}{s:Shared}{k k1 k2:Sk}
theorem Sk.it_at {h h':Heap}{i a:Addr}{n:Nat}(x:k.it h i a n)(e:∀ o,h.get? i=some o→h'.get? i=some o):k.it h' i a n:=by
 cases k with
 | l=>obtain ⟨o,ho,r⟩:=x;exact ⟨o,e o ho,r⟩
 | t=>obtain ⟨o,ho,r⟩:=x;exact ⟨o,e o ho,r⟩
theorem Sk.sq_at {h h':Heap}{a:Addr}{its:Array Value}(x:k.sq h a its)(e:∀ o,h.get? a=some o→h'.get? a=some o):k.sq h' a its:=by
 cases k with
 | l=>obtain ⟨o,ho,r⟩:=x;exact ⟨o,e o ho,r⟩
 | t=>obtain ⟨o,ho,r⟩:=x;exact ⟨o,e o ho,r⟩
theorem Sk.it_obj {h:Heap}{i a:Addr}{n:Nat}(x:k.it h i a n):∃ o,h.get? i=some o∧o.cls=.type k.nm∧o.data=.fields #[.ref a,.int n 0]:=by
 cases k with
 | l=>exact x
 | t=>exact x
theorem vG {it t:Addr}{i:Nat}{its:Array Value}{x:Value}{Q:Value→Shared→Prop}(hi:s.heap.IsTupleIter it t i)(ht:s.heap.IsTuple t its)(hx:its[i]?=some x)
  (q:∀ h',h'.IsTupleIter it t (i+1)→Heap.SameBut it s.heap h'→Q x { s with heap:=h' }):wpAny (model P w) A (Builtin.SmallTypes.nextOf (.ref it)) Q E s:=by
 obtain ⟨o,go,gc,gd⟩:=id hi
 obtain ⟨ol,gol,_,nl,gdl⟩:=ht
 unfold Builtin.SmallTypes.nextOf
 refine wpAny_bind (wpAny_callSpecial?_slot (name:=Str.ofString "__next__") hi.typeIs PySem.F.slot_tuple_iterator_next
  (wpAny_call_entry PySem.F.slot_tuple_iterator_next hi.typeIs PySem.F.entry_tuple_iterator_next ?_ (PySem.F.args_tuple_iterator_next_1 _)))
 show wpAny _ _ (field (.ref it) 0 >>= _) _ _ s
 refine wpAny_bind (wpAny_field go gd (x:=.ref t) rfl ?_)
 show wpAny _ _ (if (Value.ref t==Value.none)=true then _ else _) _ _ s
 rw [if_neg (by exact Bool.false_ne_true)]
 show wpAny _ _ (field (.ref it) 1 >>= _) _ _ s
 refine wpAny_bind (wpAny_field go gd (x:=.int i 0) rfl ?_)
 show wpAny _ _ (seqItems? (.ref t) >>= _) _ _ s
 refine wpAny_bind (wpAny_seqItems gol gdl ?_)
 simp only [Int.toNat_natCast,hx]
 refine wpAny_bind (wpAny_setField go gd (by simp) (wpAny_pure ⟨x,rfl,wpAny_pure (q _ ?_ (Heap.SameBut.update ..))⟩))
 exact ⟨_,Heap.get?_update_self _ go (Obj.isFreed_of_fields (Obj.data_mapFields gd _)),(Obj.cls_mapFields ..).trans gc,by rw [Obj.data_mapFields gd];simp [rawInt]⟩
theorem fY {it t:Addr}{i:Nat}{its:Array Value}{Q:Value→Shared→Prop}(hh:A.handled=none)(hi:s.heap.IsTupleIter it t i)(ht:s.heap.IsTuple t its)(hx:its[i]?=none)
  (q:∀ h' e,Heap.ExtBut it s.heap h'→(∃ o,h'.get? e=some o∧o.cls=.type "StopIteration")→E (.ref e) { s with heap:=h' }):wpAny (model P w) A (Builtin.SmallTypes.nextOf (.ref it)) Q E s:=by
 obtain ⟨o,go,gc,gd⟩:=id hi
 obtain ⟨ol,gol,_,nl,gdl⟩:=ht
 unfold Builtin.SmallTypes.nextOf
 refine wpAny_bind (wpAny_callSpecial?_slot (name:=Str.ofString "__next__") hi.typeIs PySem.F.slot_tuple_iterator_next
  (wpAny_call_entry PySem.F.slot_tuple_iterator_next hi.typeIs PySem.F.entry_tuple_iterator_next ?_ (PySem.F.args_tuple_iterator_next_1 _)))
 show wpAny _ _ (field (.ref it) 0 >>= _) _ _ s
 refine wpAny_bind (wpAny_field go gd (x:=.ref t) rfl ?_)
 show wpAny _ _ (if (Value.ref t==Value.none)=true then _ else _) _ _ s
 rw [if_neg (by exact Bool.false_ne_true)]
 show wpAny _ _ (field (.ref it) 1 >>= _) _ _ s
 refine wpAny_bind (wpAny_field go gd (x:=.int i 0) rfl ?_)
 show wpAny _ _ (seqItems? (.ref t) >>= _) _ _ s
 refine wpAny_bind (wpAny_seqItems gol gdl ?_)
 simp only [Int.toNat_natCast,hx]
 refine wpAny_bind (wpAny_rule (wpAny_bind (wpAny_setField go gd (by simp) ?_)))
 show wpAny _ _ (newExc (.type "StopIteration") [] >>= _) _ _ _
 refine wpAny_bind ?_
 simp only [newExc,newTuple]
 refine wpAny_bind (wpAny_newObj_type ?_ (by size_fits))
 refine wpAny_bind (m:=firstArgMember _ _) (wpAny_of_eq (a:=Value.none) (by first | rfl | (simp only [firstArgMember];rfl)) ?_)
 refine wpAny_newObj_type ?_ (by size_fits)
 simp only [raiseNew]
 refine wpAny_bind (wpAny_handled ?_)
 first | rw [show A.in1.handled=none from hh] | rw [hh]
 refine wpAny_bind (wpAny_pure (wpAny_throw ?_))
 exact q _ _ (((Heap.SameBut.update ..).extBut.push _).push _) ⟨_,Heap.get?_push_size _ rfl,rfl⟩
theorem Sk.next {it a:Addr}{i:Nat}{its:Array Value}{x:Value}{Q:Value→Shared→Prop}(hi:k.it s.heap it a i)(hs:k.sq s.heap a its)(hx:its[i]?=some x)
  (q:∀ h',k.it h' it a (i+1)→Heap.SameBut it s.heap h'→Q x { s with heap:=h' }):wpAny (model P w) A (Builtin.SmallTypes.nextOf (.ref it)) Q E s:=by
 cases k with
 | l=>exact wpAny_nextOf_list_item hi hs hx q
 | t=>exact vG hi hs hx q
theorem Sk.stop {it a:Addr}{i:Nat}{its:Array Value}{Q:Value→Shared→Prop}(hh:A.handled=none)(hi:k.it s.heap it a i)(hs:k.sq s.heap a its)(hx:its[i]?=none)
  (q:∀ h' e,Heap.ExtBut it s.heap h'→(∃ o,h'.get? e=some o∧o.cls=.type "StopIteration")→E (.ref e) { s with heap:=h' }):wpAny (model P w) A (Builtin.SmallTypes.nextOf (.ref it)) Q E s:=by
 cases k with
 | l=>exact wpAny_nextOf_list_end hh hi hs hx q
 | t=>exact fY hh hi hs hx q
theorem Sk.iter {a:Addr}{its:Array Value}{Q:Value→Shared→Prop}(hs:k.sq s.heap a its)
  (q:Q (.ref s.heap.objs.size) { s with heap:=s.heap.push { cls:=.type k.nm,data:=.fields #[.ref a,.int 0 0] } }):wpAny (model P w) A (pyIter (.ref a)) Q E s:=by
 cases k with
 | l=>exact wpAny_pyIter_list hs q
 | t=>exact wpAny_pyIter_tuple hs q
structure Zap (z TI TO i1 i2:Addr):Prop where
 a1:TI≠z
 a2:TO≠z
 a3:i1≠z
 a4:i2≠z
 a5:TI≠TO
 a6:TI≠i1
 a7:TI≠i2
 a8:TO≠i1
 a9:TO≠i2
 b1:i1≠i2
structure Off (a z TO i1 i2:Addr):Prop where
 z:a≠z
 o:a≠TO
 i:a≠i1
 j:a≠i2
theorem zip_item {z TI TO i1 i2 l1 l2:Addr}{n1 n2:Nat}{xs ys:Array Value}{x y a b:Value}{Q:Option Value→Shared→Prop}(D:Zap z TI TO i1 i2)(o1:Off l1 z TO i1 i2)(o2:Off l2 z TO i1 i2)
  (gz:IsZip s.heap z TI TO .none) (gI:IsPair s.heap TI (.ref i1) (.ref i2)) (gO:IsPair s.heap TO a b) (g1:k1.it s.heap i1 l1 n1) (g2:k2.it s.heap i2 l2 n2) (gx:k1.sq s.heap l1 xs) (gy:k2.sq s.heap l2 ys)
  (hx:xs[n1]?=some x) (hy:ys[n2]?=some y)
  (q:∀ h',IsZip h' z TI TO (rawInt s.heap.objs.size)→IsPair h' TO x y→k1.it h' i1 l1 (n1+1)→k2.it h' i2 l2 (n2+1)→IsPair h' s.heap.objs.size x y→h'.objs.size=s.heap.objs.size+1 →
   (∀ c o,c≠z→c≠TO→c≠i1→c≠i2→s.heap.get? c=some o→h'.get? c=some o)→Q (some (.ref s.heap.objs.size)) { s with heap:=h' }) :
  wpAny (model P w) A (pyNext (.ref z)) Q E s:=by
 have gT:s.TypeIs (.ref z) "zip":=⟨_,gz,rfl⟩
 unfold pyNext
 refine wpAny_bind (wpAny_attempt (wpAny_callSpecial?_slot (name:=Str.ofString "__next__") gT PySem.F.slot_zip_next (wpAny_call_entry PySem.F.slot_zip_next gT PySem.F.entry_zip_next ?_ (PySem.F.args_zip_next_1 _))))
 show wpAny _ _ (field (.ref z) 2 >>= _) _ _ _
 refine wpAny_bind (wpAny_field gz rfl (x:=.bool false) rfl ?_)
 show wpAny _ _ (field (.ref z) 3 >>= _) _ _ _
 refine wpAny_bind (wpAny_field gz rfl (x:=.ref TI) rfl ?_)
 refine wpAny_bind (wpAny_seqItems gI rfl ?_)
 show wpAny _ _ (Builtin.SmallTypes.ownedTupleIsFree (.ref z) >>= _) _ _ _
 refine wpAny_bind ?_
 unfold Builtin.SmallTypes.ownedTupleIsFree
 refine wpAny_bind (wpAny_field gz rfl (x:=.none) rfl (wpAny_pure ?_))
 simp only [if_true]
 refine wpAny_bind (wpAny_rule ?_)
 refine wpAny_bind (wpAny_field gz rfl (x:=.ref TO) rfl ?_)
 refine wpAny_bind (wpAny_setField_rec gz (by simp) fun h₁ z₁ s₁=>?_)
 replace z₁ : IsZip h₁ z TI TO .ellipsis:=z₁
 refine wpAny_bind ?_
 simp only [List.zipIdx_cons,List.zipIdx_nil,List.forIn_cons,List.forIn_nil]
 -- the first one
 refine wpAny_bind (wpAny_bind (wpAny_onRaise ?_))
 show wpAny _ _ (Builtin.SmallTypes.nextOf (.ref i1) >>= _) _ _ _
 refine wpAny_bind (Sk.next (k:=k1) (s:={ s with heap:=h₁ }) (Sk.it_at g1 fun o e=>s₁.extBut _ o D.a3 e) (Sk.sq_at gx fun o e=>s₁.extBut _ o o1.z e) hx fun h₂ g1₂ s₂=>wpAny_pure ?_)
 have gO₂ : IsPair h₂ TO a b:=s₂.extBut _ _ D.a8 (s₁.extBut _ _ D.a2 gO)
 refine wpAny_bind (wpAny_seqItems gO₂ rfl ?_)
 refine wpAny_bind (wpAny_updateSeq_pair gO₂ fun h₃ gO₃ s₃=>?_)
 replace gO₃ : IsPair h₃ TO x b:=gO₃
 refine wpAny_bind (wpAny_letGo (wpAny_pure ?_))
 -- the second one
 refine wpAny_bind (wpAny_bind (wpAny_onRaise ?_))
 show wpAny _ _ (Builtin.SmallTypes.nextOf (.ref i2) >>= _) _ _ _
 refine wpAny_bind (Sk.next (k:=k2) (s:={ s with heap:=h₃ }) (Sk.it_at g2 fun o e=>s₃.extBut _ o D.a9.symm (s₂.extBut _ o D.b1.symm (s₁.extBut _ o D.a4 e)))
  (Sk.sq_at gy fun o e=>s₃.extBut _ o o2.o (s₂.extBut _ o o2.i (s₁.extBut _ o o2.z e))) hy fun h₄ g2₄ s₄=>wpAny_pure ?_)
 have gO₄ : IsPair h₄ TO x b:=s₄.extBut _ _ D.a9 gO₃
 refine wpAny_bind (wpAny_seqItems gO₄ rfl ?_)
 refine wpAny_bind (wpAny_updateSeq_pair gO₄ fun h₅ gO₅ s₅=>?_)
 replace gO₅ : IsPair h₅ TO x y:=gO₅
 refine wpAny_bind (wpAny_letGo (wpAny_pure (wpAny_pure ?_)))
 -- the pair is handed out
 refine wpAny_bind (wpAny_seqItems gO₅ rfl ?_)
 refine wpAny_bind (wpAny_newTuple ?_)
 have size:h₅.objs.size=s.heap.objs.size:=by rw [s₅.1,s₄.1,s₃.1,s₂.1,s₁.1]
 have z₅ : IsZip h₅ z TI TO .ellipsis:=s₅.extBut _ _ D.a2.symm (s₄.extBut _ _ D.a4.symm (s₃.extBut _ _ D.a2.symm (s₂.extBut _ _ D.a3.symm z₁)))
 have all₅ : ∀ c o,c≠z→c≠TO→c≠i1→c≠i2→s.heap.get? c=some o→h₅.get? c=some o:=fun c o c1 c2 c3 c4 e=>s₅.extBut _ _ c2 (s₄.extBut _ _ c4 (s₃.extBut _ _ c2 (s₂.extBut _ _ c3 (s₁.extBut _ _ c1 e))))
 have g1₅ : k1.it h₅ i1 l1 (n1+1):=Sk.it_at g1₂ fun o e=>s₅.extBut _ o D.a8.symm (s₄.extBut _ o D.b1 (s₃.extBut _ o D.a8.symm e))
 have g2₅ : k2.it h₅ i2 l2 (n2+1):=Sk.it_at g2₄ fun o e=>s₅.extBut _ o D.a9.symm e
 have zlt:z<h₅.objs.size:=Heap.lt_size z₅
 show wpAny _ _ (Builtin.SmallTypes.ownedTupleHandOut (.ref z) (.ref h₅.objs.size) >>= _) _ _ _
 refine wpAny_bind ?_
 unfold Builtin.SmallTypes.ownedTupleHandOut
 have z₆ : IsZip (h₅.push { cls:=.type "tuple",data:=.seq #[x,y] }) z TI TO .ellipsis:=Heap.get?_push_of_some _ z₅
 refine wpAny_bind (wpAny_setField_rec z₆ (by simp) fun h₇ z₇ s₇=>?_)
 replace z₇ : IsZip h₇ z TI TO (rawInt h₅.objs.size):=z₇
 refine wpAny_setField_rec z₇ (by simp) fun h₈ z₈ s₈=>?_
 replace z₈ : IsZip h₈ z TI TO (rawInt h₅.objs.size):=z₈
 have up:∀ c o,c≠z→h₅.get? c=some o→h₈.get? c=some o:=fun c o c1 e=>s₈.extBut _ _ c1 (s₇.extBut _ _ c1 (Heap.get?_push_of_some _ e))
 have T₈ : IsPair h₈ h₅.objs.size x y:=s₈.extBut _ _ (Nat.ne_of_gt zlt) (s₇.extBut _ _ (Nat.ne_of_gt zlt) (Heap.get?_push_size _ rfl))
 have size8:h₈.objs.size=h₅.objs.size+1:=by rw [s₈.1,s₇.1,Heap.size_push]
 rw [size] at z₈ T₈ size8
 refine wpAny_pure ⟨_,rfl,wpAny_pure ?_⟩
 show Q (some (.ref h₅.objs.size)) _
 rw [size]
 exact q h₈ z₈ (up _ _ D.a2 gO₅) (Sk.it_at g1₅ fun o e=>up _ o D.a3 e) (Sk.it_at g2₅ fun o e=>up _ o D.a4 e) T₈ size8 fun c o c1 c2 c3 c4 e=>up c o c1 (all₅ c o c1 c2 c3 c4 e)
theorem zip_stop {z TI TO i1 i2 l1 l2:Addr}{n1 n2:Nat}{xs ys:Array Value}{a b:Value}{Q:Option Value→Shared→Prop}(hh:A.handled=none)(D:Zap z TI TO i1 i2)(o1:Off l1 z TO i1 i2)(o2:Off l2 z TO i1 i2)
  (gz:IsZip s.heap z TI TO .none) (gI:IsPair s.heap TI (.ref i1) (.ref i2)) (gO:IsPair s.heap TO a b) (g1:k1.it s.heap i1 l1 n1) (g2:k2.it s.heap i2 l2 n2) (gx:k1.sq s.heap l1 xs) (gy:k2.sq s.heap l2 ys)
  (hend:xs[n1]?=none∨ys[n2]?=none)
  (q:∀ h',(∀ c o,c≠z→c≠TO→c≠i1→c≠i2→s.heap.get? c=some o→h'.get? c=some o)→Q none { s with heap:=h' }):wpAny (model P w) A (pyNext (.ref z)) Q E s:=by
 have gT:s.TypeIs (.ref z) "zip":=⟨_,gz,rfl⟩
 have fin:∀ (h':Heap) (e:Addr),(∀ c o,c≠z→c≠TO→c≠i1→c≠i2→s.heap.get? c=some o→h'.get? c=some o)→(∃ o,h'.get? e=some o∧o.cls=.type "StopIteration") →
   wpAny (model P w) A (do if ←isInstance (.ref e) (.type "StopIteration") then pure none else throw (.ref e)) Q E { s with heap:=h' }:=fun h' e all ⟨o,ho,hc⟩=>
  wpAny_bind (wpAny_isInstance (T := "StopIteration") (b:=true) ⟨o,ho,hc⟩ isSubtype_stop (wpAny_pure (q _ all)))
 unfold pyNext
 refine wpAny_bind (wpAny_attempt (wpAny_callSpecial?_slot (name:=Str.ofString "__next__") gT PySem.F.slot_zip_next (wpAny_call_entry PySem.F.slot_zip_next gT PySem.F.entry_zip_next ?_ (PySem.F.args_zip_next_1 _))))
 show wpAny _ _ (field (.ref z) 2 >>= _) _ _ _
 refine wpAny_bind (wpAny_field gz rfl (x:=.bool false) rfl ?_)
 show wpAny _ _ (field (.ref z) 3 >>= _) _ _ _
 refine wpAny_bind (wpAny_field gz rfl (x:=.ref TI) rfl ?_)
 refine wpAny_bind (wpAny_seqItems gI rfl ?_)
 show wpAny _ _ (Builtin.SmallTypes.ownedTupleIsFree (.ref z) >>= _) _ _ _
 refine wpAny_bind ?_
 unfold Builtin.SmallTypes.ownedTupleIsFree
 refine wpAny_bind (wpAny_field gz rfl (x:=.none) rfl (wpAny_pure ?_))
 simp only [if_true]
 refine wpAny_bind (wpAny_rule ?_)
 refine wpAny_bind (wpAny_field gz rfl (x:=.ref TO) rfl ?_)
 refine wpAny_bind (wpAny_setField_rec gz (by simp) fun h₁ z₁ s₁=>?_)
 replace z₁ : IsZip h₁ z TI TO .ellipsis:=z₁
 refine wpAny_bind ?_
 simp only [List.zipIdx_cons,List.zipIdx_nil,List.forIn_cons,List.forIn_nil]
 refine wpAny_bind (wpAny_bind (wpAny_onRaise ?_))
 show wpAny _ _ (Builtin.SmallTypes.nextOf (.ref i1) >>= _) _ _ _
 have g1₁ : k1.it h₁ i1 l1 n1:=Sk.it_at g1 fun o e=>s₁.extBut _ o D.a3 e
 have gx₁ : k1.sq h₁ l1 xs:=Sk.sq_at gx fun o e=>s₁.extBut _ o o1.z e
 cases hx:xs[n1]? with
 | none=>
  refine wpAny_bind (Sk.stop (k:=k1) (s:={ s with heap:=h₁ }) hh g1₁ gx₁ hx fun h₂ e s₂ he=>?_)
  obtain ⟨oe,hoe,hce⟩:=he
  have z₂ : IsZip h₂ z TI TO .ellipsis:=s₂ _ _ D.a3.symm z₁
  have ez:e≠z:=fun y=>by subst y;rw [z₂] at hoe;cases hoe;simp at hce
  refine wpAny_setField_rec z₂ (by simp) fun h₃ _ s₃=>fin h₃ e (fun c o c1 _ c3 _ y=>s₃.extBut _ _ c1 (s₂ _ _ c3 (s₁.extBut _ _ c1 y))) ⟨oe,s₃.extBut _ _ ez hoe,hce⟩
 | some x=>
  have hy:ys[n2]?=none:=by
   rcases hend with h | h
   ·rw [hx] at h;cases h
   ·exact h
  refine wpAny_bind (Sk.next (k:=k1) (s:={ s with heap:=h₁ }) g1₁ gx₁ hx fun h₂ g1₂ s₂=>wpAny_pure ?_)
  have gO₂ : IsPair h₂ TO a b:=s₂.extBut _ _ D.a8 (s₁.extBut _ _ D.a2 gO)
  refine wpAny_bind (wpAny_seqItems gO₂ rfl ?_)
  refine wpAny_bind (wpAny_updateSeq_pair gO₂ fun h₃ gO₃ s₃=>?_)
  refine wpAny_bind (wpAny_letGo (wpAny_pure ?_))
  refine wpAny_bind (wpAny_bind (wpAny_onRaise ?_))
  show wpAny _ _ (Builtin.SmallTypes.nextOf (.ref i2) >>= _) _ _ _
  refine wpAny_bind (Sk.stop (k:=k2) (s:={ s with heap:=h₃ }) hh (Sk.it_at g2 fun o e=>s₃.extBut _ o D.a9.symm (s₂.extBut _ o D.b1.symm (s₁.extBut _ o D.a4 e)))
   (Sk.sq_at gy fun o e=>s₃.extBut _ o o2.o (s₂.extBut _ o o2.i (s₁.extBut _ o o2.z e))) hy fun h₄ e s₄ he=>?_)
  obtain ⟨oe,hoe,hce⟩:=he
  have z₄ : IsZip h₄ z TI TO .ellipsis:=s₄ _ _ D.a4.symm (s₃.extBut _ _ D.a2.symm (s₂.extBut _ _ D.a3.symm z₁))
  have ez:e≠z:=fun y=>by subst y;rw [z₄] at hoe;cases hoe;simp at hce
  refine wpAny_setField_rec z₄ (by simp) fun h₅ _ s₅=>fin h₅ e (fun c o c1 c2 c3 c4 y=>s₅.extBut _ _ c1 (s₄ _ _ c4 (s₃.extBut _ _ c2 (s₂.extBut _ _ c3 (s₁.extBut _ _ c1 y))))) ⟨oe,s₅.extBut _ _ ez hoe,hce⟩
abbrev zh1 (k1:Sk)(h:Heap)(l1:Addr):Heap:=h.push { cls:=.type k1.nm,data:=.fields #[.ref l1,.int 0 0] }
abbrev zh2 (k1 k2:Sk)(h:Heap)(l1 l2:Addr):Heap:=(zh1 k1 h l1).push { cls:=.type k2.nm,data:=.fields #[.ref l2,.int 0 0] }
abbrev zh3 (k1 k2:Sk)(h:Heap)(l1 l2:Addr):Heap:=(zh2 k1 k2 h l1 l2).push { cls:=.type "tuple",data:=.seq #[.ref h.objs.size,.ref (zh1 k1 h l1).objs.size] }
abbrev zh4 (k1 k2:Sk)(h:Heap)(l1 l2:Addr):Heap:=(zh3 k1 k2 h l1 l2).push { cls:=.type "tuple",data:=.seq #[.none,.none] }
abbrev zh5 (k1 k2:Sk)(h:Heap)(l1 l2:Addr):Heap:=(zh4 k1 k2 h l1 l2).push { cls:=.type "zip",data:=.fields #[.none,.bool false,.bool false,.ref (zh2 k1 k2 h l1 l2).objs.size,.ref (zh3 k1 k2 h l1 l2).objs.size] }
theorem zip_new (l1 l2:Addr)(xs ys:Array Value):Meets (Builtin.«zip.__new__» ⟨[.type "zip",.ref l1,.ref l2],[]⟩) (fun _ R s=>k1.sq s.heap l1 xs∧k2.sq s.heap l2 ys ∧
   R (.ok (.ret (.ref (zh4 k1 k2 s.heap l1 l2).objs.size))) { s with heap:=zh5 k1 k2 s.heap l1 l2 }):=
 .of_wp fun prog w A R s h=>by
  obtain ⟨hp,g,d,tk,os⟩:=s;obtain ⟨gl1,gl2,h⟩:=h
  have hsub:=sub_zip
  have L1:k1.sq (Shared.heap ⟨hp,g,d,tk,os⟩) l1 xs:=gl1
  have L2':k2.sq (Shared.heap ⟨hp.push { cls:=.type k1.nm,data:=.fields #[.ref l1,.int 0 0] },g,d,tk,os⟩) l2 ys:=Sk.sq_at gl2 fun o e=>Heap.get?_push_of_some _ e
  wp_walk using Sk.iter L1,Sk.iter L2'
  exact ⟨_,rfl,h⟩
theorem call_zip {l1 l2:Addr}{xs ys:Array Value}{Q:Value→Shared→Prop}(gl1:k1.sq s.heap l1 xs)(gl2:k2.sq s.heap l2 ys)
  (q:∀ h',IsZip h' (s.heap.objs.size+4) (s.heap.objs.size+2) (s.heap.objs.size+3) .none→IsPair h' (s.heap.objs.size+2) (.ref s.heap.objs.size) (.ref (s.heap.objs.size+1)) →
   IsPair h' (s.heap.objs.size+3) .none .none→k1.it h' s.heap.objs.size l1 0→k2.it h' (s.heap.objs.size+1) l2 0→h'.objs.size=s.heap.objs.size+5 →
   (∀ c o,s.heap.get? c=some o→h'.get? c=some o)→Q (.ref (s.heap.objs.size+4)) { s with heap:=h' }):wpAny (model P w) A (call (.type "zip") [.ref l1,.ref l2]) Q E s:=by
 refine callType_new PySem.F.called_zip (by decide) (PySem.F.typeCall_zip_2 _ _) (PySem.F.newCall_zip_2 _ _) (fun obj=>PySem.F.args_object_init_3 obj _ _) PySem.F.entry_zip_new (zip_new (k1:=k1) (k2:=k2) l1 l2 xs ys) ⟨gl1,gl2,?_⟩
 have e1:(zh1 k1 s.heap l1).objs.size=s.heap.objs.size+1:=Heap.size_push ..
 have e2:(zh2 k1 k2 s.heap l1 l2).objs.size=s.heap.objs.size+2:=by rw [Heap.size_push,e1]
 have e3:(zh3 k1 k2 s.heap l1 l2).objs.size=s.heap.objs.size+3:=by rw [Heap.size_push,e2]
 have e4:(zh4 k1 k2 s.heap l1 l2).objs.size=s.heap.objs.size+4:=by rw [Heap.size_push,e3]
 have e5:(zh5 k1 k2 s.heap l1 l2).objs.size=s.heap.objs.size+5:=by rw [Heap.size_push,e4]
 have f5:(zh5 k1 k2 s.heap l1 l2).get? (zh4 k1 k2 s.heap l1 l2).objs.size=some _:=Heap.get?_push_size _ rfl
 have f4:(zh5 k1 k2 s.heap l1 l2).get? (zh3 k1 k2 s.heap l1 l2).objs.size=some _:=Heap.get?_push_of_some _ (Heap.get?_push_size _ rfl)
 have f3:(zh5 k1 k2 s.heap l1 l2).get? (zh2 k1 k2 s.heap l1 l2).objs.size=some _:=Heap.get?_push_of_some _ (Heap.get?_push_of_some _ (Heap.get?_push_size _ rfl))
 have f2:(zh5 k1 k2 s.heap l1 l2).get? (zh1 k1 s.heap l1).objs.size=some _:=Heap.get?_push_of_some _ (Heap.get?_push_of_some _ (Heap.get?_push_of_some _ (Heap.get?_push_size _ rfl)))
 have f1:(zh5 k1 k2 s.heap l1 l2).get? s.heap.objs.size=some _:=Heap.get?_push_of_some _ (Heap.get?_push_of_some _ (Heap.get?_push_of_some _ (Heap.get?_push_of_some _ (Heap.get?_push_size _ rfl))))
 show _∧_
 rw [e2,e3,e4] at f5
 rw [e1,e2] at f3
 rw [e3] at f4
 rw [e1] at f2
 rw [e4]
 refine ⟨⟨_,f5,rfl⟩,q _ f5 f3 f4 ?_ ?_ e5 fun c o x=>Heap.get?_push_of_some _ (Heap.get?_push_of_some _ (Heap.get?_push_of_some _ (Heap.get?_push_of_some _ (Heap.get?_push_of_some _ x))))⟩
 ·cases k1 with
  | l=>exact ⟨_,f1,rfl,rfl⟩
  | t=>exact ⟨_,f1,rfl,rfl⟩
 ·cases k2 with
  | l=>exact ⟨_,f2,rfl,rfl⟩
  | t=>exact ⟨_,f2,rfl,rfl⟩
end
end L2
namespace L2
open PySem PySem.Spec PyProof.Rows
section
variable {X:Cx}{pins:List (Addr×Obj)}{σ : St}{H:Hp}{s:Shared}{h':Heap}
theorem Inv.turnedL {t':Nat}{ch:List Addr}(I:Inv X pins σ H s)(k:∀ b o,b∉ch→s.heap.get? b=some o→h'.get? b=some o)(hf:∀ b∈ch,xZ X pins H b):Inv X pins σ H { s with heap:=h',toks:=t' }:=by
 have nit:∀ b u,H b=some u→b∉ch:=fun b u e z=>by rw [(hf b z).1] at e;cases e
 refine I.step (g':=s.gens) (d':=s.drawn) (ch:=ch) (fun b hb=>?_) (fun b o _ _ hc e _=>k b o hc e) (fun b o _ _ hc e _=>⟨o.slots,k b o hc e⟩) (fun _ _ _ _ n=>n)
  (fun b o hc e=>⟨o,k b o hc e⟩) (fun _ _ e=>e) (fun _ _ _ e=>e) (fun b ps e=>⟨#[],by rw [e];simp⟩) (fun m hm=>?_) (fun b u e=>?_) I.bare
 ·obtain ⟨_,f1,_,f3,f4,f5⟩:=hf b hb
  exact ⟨f3,f1,f4,f5⟩
 ·obtain ⟨o,es,ep,ho,r⟩:=hm
  exact ⟨o,es,ep,k _ o (fun z=>(hf _ z).2.1 rfl) ho,r⟩
 ·refine (I.hok b u e).stay (fun c v hc q=>k c v ?_ q) (fun _ q=>q) fun _ _ q=>q
  rcases hc with z | z
  ·rw [z];exact nit b u e
  ·exact nit c _ z
end
def Sk.v (k:Sk)(K:PySem.W.Frag)(H:Hp)(a:Addr)(xs:List V):Prop:=match k with
 | .l=>SqL K H a xs
 | .t=>SqT K H a xs
theorem Inv.sk {X:Cx}{pins:List (Addr×Obj)}{σ : St}{H:Hp}{s:Shared}{k:Sk}{a:Addr}{xs:List V}(I:Inv X pins σ H s)(h:k.v X.K H a xs):∃ its:List Value,Vals xs its∧k.sq s.heap a its.toArray:=by
 cases k with
 | l=>obtain ⟨its,r,p,_⟩:=I.list h;exact ⟨its,r,p.isList⟩
 | t=>obtain ⟨its,r,p,_⟩:=I.tuple h;exact ⟨its,r,p⟩
theorem Inv.sk_inj {X:Cx}{pins:List (Addr×Obj)}{σ : St}{H:Hp}{s:Shared}{k:Sk}{a:Addr}{xs ys:List V}(I:Inv X pins σ H s)(h:k.v X.K H a xs)(g:k.v X.K H a ys):xs=ys:=by
 cases k with
 | l=>exact I.list_inj h g
 | t=>exact I.tuple_inj h g
def Itz (K:PySem.W.Frag)(k1 k2:Sk)(l1 l2:Addr):It:=
  ⟨fun i H=>∃ xs ys x y,k1.v K H l1 xs∧k2.v K H l2 ys∧xs[i]?=some x∧ys[i]?=some y,
   fun i H v H'=>∃ p x y,H p=none∧v=.ref p∧H'=upd H p (.tup [x,y])∧(∀ xs,k1.v K H l1 xs→xs[i]?=some x)∧∀ ys,k2.v K H l2 ys→ys[i]?=some y,
   fun i H=>∃ xs ys,k1.v K H l1 xs∧k2.v K H l2 ys∧(xs.length≤i∨ys.length≤i),true⟩
def zipSt (k1 k2:Sk)(z TI TO i1 i2 l1 l2:Addr)(n:Nat)(h:Heap):Prop:=IsZip h z TI TO .none∧IsPair h TI (.ref i1) (.ref i2)∧(∃ a b,IsPair h TO a b)∧k1.it h i1 l1 n∧k2.it h i2 l2 n
theorem turn_zip {P:Program}{w:World}{K:PySem.W.Frag}{elts:List Expr}{kt:Nat}{pos:Pos}{k1 k2:Sk}{z TI TO i1 i2 l1 l2:Addr}(D:Zap z TI TO i1 i2)(o1:Off l1 z TO i1 i2)(o2:Off l2 z TO i1 i2) :
  Turn P w K (.Tuple elts kt pos) (Itz K k1 k2 l1 l2) [z,TI,TO,i1,i2] z (zipSt k1 k2 z TI TO i1 i2 l1 l2) where
 mem:=by simp
 obj:=fun i h st b hb=>by
  obtain ⟨gz,gI,⟨a,b',gO⟩,g1,g2⟩:=st
  simp only [List.mem_cons,List.not_mem_nil,or_false] at hb
  rcases hb with rfl | rfl | rfl | rfl | rfl
  ·exact ⟨_,gz,fun v y=>by cases y⟩
  ·exact ⟨_,gI,fun v y=>by cases y⟩
  ·exact ⟨_,gO,fun v y=>by cases y⟩
  ·obtain ⟨o,e,_,d⟩:=Sk.it_obj g1;exact ⟨o,e,fun v y=>by rw [d] at y;cases y⟩
  ·obtain ⟨o,e,_,d⟩:=Sk.it_obj g2;exact ⟨o,e,fun v y=>by rw [d] at y;cases y⟩
 keep:=fun i h h' st k=>by
  obtain ⟨gz,gI,⟨a,b,gO⟩,g1,g2⟩:=st
  exact ⟨k z (by simp) _ gz,k TI (by simp) _ gI,⟨a,b,k TO (by simp) _ gO⟩,Sk.it_at g1 fun o e=>k i1 (by simp) o e,Sk.it_at g2 fun o e=>k i2 (by simp) o e⟩
 item:=by
  intro X hP hw hK hc i pins s σ H E I hf st hg
  subst hP hw hK
  obtain ⟨gz,gI,⟨a,b,gO⟩,g1,g2⟩:=st
  obtain ⟨xs,ys,x,y,hx,hy,ex,ey⟩:=hg
  obtain ⟨its,r1,p1⟩:=I.sk hx
  obtain ⟨jts,r2,p2⟩:=I.sk hy
  obtain ⟨u,hu,ru⟩:=r1.get ex
  obtain ⟨v,hv,rv⟩:=r2.get ey
  refine zip_item D o1 o2 gz gI gO g1 g2 p1 p2 (x:=u) (y:=v) (by simpa using hu) (by simpa using hv) fun h1 z1 O1 g1' g2' T1 size1 all1=>⟨_,rfl,?_⟩
  have pz:s.heap.objs.size≠z:=Nat.ne_of_gt (Heap.lt_size gz)
  have lt:∀ b∈[z,TI,TO,i1,i2],s.heap.objs.size≠b:=fun b hb=>by
   simp only [List.mem_cons,List.not_mem_nil,or_false] at hb
   rcases hb with rfl | rfl | rfl | rfl | rfl
   ·exact pz
   ·exact Nat.ne_of_gt (Heap.lt_size gI)
   ·exact Nat.ne_of_gt (Heap.lt_size gO)
   ·obtain ⟨o,e,_⟩:=Sk.it_obj g1;exact Nat.ne_of_gt (Heap.lt_size e)
   ·obtain ⟨o,e,_⟩:=Sk.it_obj g2;exact Nat.ne_of_gt (Heap.lt_size e)
  have all:∀ c o,c∉[z,TI,TO,i1,i2]→s.heap.get? c=some o→h1.get? c=some o:=fun c o hc e=>
   all1 c o (fun q=>hc (by simp [q])) (fun q=>hc (by simp [q])) (fun q=>hc (by simp [q])) (fun q=>hc (by simp [q])) e
  refine wpAny_letOwnedTupleGo_zip (s:={ s with heap:=h1 }) z1 fun h2 z2 sb=>?_
  have fr:H s.heap.objs.size=none:=I.hok.fresh (Nat.le_refl _)
  have I1:Inv X pins σ (upd H s.heap.objs.size (.tup [x,y])) { s with heap:=s.heap.push { cls:=.type "tuple",data:=.seq #[u,v] } }:=
   I.laid (t':=s.toks) (fun b o e=>Heap.get?_push_of_some _ e) (Nat.le_refl _) ⟨(by show 2≤sizeLine;decide),[u,v],.cons ru (.cons rv .nil),⟨_,Heap.get?_push_size _ rfl,rfl,⟨_,rfl⟩,rfl⟩⟩
  have hf1:∀ b∈[z,TI,TO,i1,i2],xZ X pins (upd H s.heap.objs.size (.tup [x,y])) b:=fun b hb=>⟨by rw [aJ (Ne.symm (lt b hb))];exact (hf b hb).1,(hf b hb).2⟩
  have I2:Inv X pins σ (upd H s.heap.objs.size (.tup [x,y])) { s with heap:=h2 }:=by
   refine Inv.turnedL (s:={ s with heap:=s.heap.push { cls:=.type "tuple",data:=.seq #[u,v] } }) (h':=h2) (t':=s.toks) (ch:=[z,TI,TO,i1,i2]) I1 (fun b o hb e=>?_) hf1
   have bz:b≠z:=fun q=>hb (by simp [q])
   rcases Heap.get?_push_cases e with ⟨rfl,rfl⟩ | e'
   ·exact sb.extBut _ _ bz T1
   ·exact sb.extBut _ _ bz (all b o hb e')
  refine ⟨.ref s.heap.objs.size,_,I2,rfl,⟨s.heap.objs.size,x,y,fr,rfl,rfl,fun xs' q=>by rw [I.sk_inj q hx];exact ex,fun ys' q=>by rw [I.sk_inj q hy];exact ey⟩,?_,fun b hb=>(hf1 b hb).1⟩
  exact ⟨z2,sb.extBut _ _ D.a1 (all1 _ _ D.a1 D.a5 D.a6 D.a7 gI),⟨u,v,sb.extBut _ _ D.a2 O1⟩,Sk.it_at g1' fun o e=>sb.extBut _ o D.a3 e,Sk.it_at g2' fun o e=>sb.extBut _ o D.a4 e⟩
 done:=by
  intro X hP hw hK hc i pins s σ H E I hf st hg
  subst hP hw hK
  obtain ⟨gz,gI,⟨a,b,gO⟩,g1,g2⟩:=st
  obtain ⟨xs,ys,hx,hy,hend⟩:=hg
  obtain ⟨its,r1,p1⟩:=I.sk hx
  obtain ⟨jts,r2,p2⟩:=I.sk hy
  have l1:=r1.length
  have l2:=r2.length
  refine zip_stop (I.ok.hd (hc rfl)) D o1 o2 gz gI gO g1 g2 p1 p2 (hend.imp (fun q=>by simp;omega) fun q=>by simp;omega) fun h1 all1=>⟨rfl,I.turnedL (t':=s.toks) (ch:=[z,TI,TO,i1,i2]) (fun c o hc e=>?_) hf⟩
  exact all1 c o (fun q=>hc (by simp [q])) (fun q=>hc (by simp [q])) (fun q=>hc (by simp [q])) (fun q=>hc (by simp [q])) e
 self:=fun _ _ _ _ _ st h=>wpAny_pyIter_zip st.1 h
section
variable {X:Cx}{K:PySem.W.Frag}
def sqk (K:PySem.W.Frag)(H:Hp)(x:V)(k:Sk)(a:Addr):Prop:=x=.ref a∧∃ xs,k.v K H a xs
def iZip (K:PySem.W.Frag)(ta:TA):TI:=fun σ H R=>ta σ H fun vs H1=>∃ x y k1 k2 a b,vs=[x,y]∧sqk K H1 x k1 a∧sqk K H1 y k2 b∧R (Itz K k1 k2 a b) H1
theorem Sk.sq_lt {k:Sk}{h:Heap}{a:Addr}{its:Array Value}(x:k.sq h a its):a<h.objs.size:=by
 cases k with
 | l=>obtain ⟨o,e,_⟩:=x;exact Heap.lt_size e
 | t=>obtain ⟨o,e,_⟩:=x;exact Heap.lt_size e
theorem iI {a b:Nat}(h:a≠b):(show Addr from a)≠(show Addr from b):=h
theorem zap_of (n:Nat):Zap (n+4) (n+2) (n+3) n (n+1) where
 a1:=iI (show n+2≠n+4 by omega)
 a2:=iI (show n+3≠n+4 by omega)
 a3:=iI (show n≠n+4 by omega)
 a4:=iI (show n+1≠n+4 by omega)
 a5:=iI (show n+2≠n+3 by omega)
 a6:=iI (show n+2≠n by omega)
 a7:=iI (show n+2≠n+1 by omega)
 a8:=iI (show n+3≠n by omega)
 a9:=iI (show n+3≠n+1 by omega)
 b1:=iI (show n≠n+1 by omega)
theorem off_of {a n:Nat}(h:a<n):Off a (n+4) (n+3) n (n+1) where
 z:=iI (show a≠n+4 by omega)
 o:=iI (show a≠n+3 by omega)
 i:=iI (show a≠n by omega)
 j:=iI (show a≠n+1 by omega)
theorem ge_of {n c:Nat}(h:c∈([n+4,n+2,n+3,n,n+1]:List Nat)):n≤c:=by
 simp only [List.mem_cons,List.not_mem_nil,or_false] at h
 omega
theorem pi_zip {e1 e2:Expr}{ta:TA}{p pos tpos:Pos}{elts:List Expr}{kt:Nat}(hg:Gl X "zip")(hm:X.mg "zip" = none)(ha:PA X [e1,e2] ta)
  (hs:starEach [e1,e2] X.env=(false,eval e1 X.env)::starEach [e2] X.env:=by rfl) (hpl:(backTo pos (starEach [e2] X.env)).any (·.1)=false:=by rfl) :
  PI X (.Tuple elts kt tpos) (.Call (.Name "zip" p) [e1,e2] [] pos) (iZip X.K ta):=by
 intro pins s σ H R I h
 refine wpAny_Call_Name_kw (jU I hg hm boot_zip ?_ (by decide) (by decide))
 refine PyProof.Rows.callWith_type1 (thn (ha pos pins s σ H _ I h) fun us s1 ⟨vs,H1,I1,r1,q1⟩=>?_) hs hpl
 obtain ⟨x,y,k1,k2,a,b,ev,⟨ex,xs,hx⟩,⟨ey,ys,hy⟩,q⟩:=q1
 subst ev ex ey
 obtain ⟨u1,u2,eu,ru1,ru2⟩:=vals2 r1
 subst eu
 cases ru1
 cases ru2
 obtain ⟨its,r1,p1⟩:=I1.sk hx
 obtain ⟨jts,r2,p2⟩:=I1.sk hy
 have la:=Sk.sq_lt p1
 have lb:=Sk.sq_lt p2
 refine call_zip p1 p2 fun h' gz gI gO g1 g2 size all=>?_
 refine wpAny_pyIter_zip gz ?_
 have I2:Inv X pins σ H1 { s1 with heap:=h' }:=I1.kept (t':=s1.toks) all
 generalize hn:s1.heap.objs.size=n at gz gI gO g1 g2 size la lb ⊢
 refine ⟨n+4,[n+4,n+2,n+3,n,n+1],_,_,H1,rfl,I2,turn_zip (zap_of n) (off_of la) (off_of lb),⟨gz,gI,⟨_,_,gO⟩,g1,g2⟩,fun c hc=>?_,q⟩
 have hc':n≤c:=ge_of hc
 exact I1.fpOk (by rw [hn];exact hc') (I1.hok.fresh (by rw [hn];exact hc'))
def kZ:List W→List W→List W
 | a::as,b::bs=>.tup [a,b]::kZ as bs
 | _,_=>[]
theorem pI:∀ {as bs:List W} {i:Nat} {w:W},(kZ as bs)[i]?=some w→∃ a b,as[i]?=some a∧bs[i]?=some b∧w=.tup [a,b]
 | [],_,_,_,e=>by simp [kZ] at e
 | _::_,[],_,_,e=>by simp [kZ] at e
 | a::as,b::bs,0,w,e=>by
  have e:some (W.tup [a,b])=some w:=e
  exact ⟨a,b,rfl,rfl,(Option.some.inj e).symm⟩
 | a::as,b::bs,i+1,w,e=>by
  obtain ⟨x,y,h1,h2,h3⟩:=pI (as:=as) (bs:=bs) (i:=i) (w:=w) (by simpa [kZ] using e)
  exact ⟨x,y,by simpa using h1,by simpa using h2,h3⟩
theorem pC:∀ {as bs:List W},(kZ as bs).length=min as.length bs.length
 | [],bs=>by simp [kZ]
 | _::_,[]=>by simp [kZ]
 | a::as,b::bs=>by rw [kZ,List.length_cons,pC,List.length_cons,List.length_cons];omega
def mJ:W→Option (List W)
 | .tup ws=>some ws
 | .lst ws=>some ws
 | .kls ws=>some ws
 | _=>none
theorem vd {H:Hp}{μ : Mu}{w:W}{v:V}{ws:List W}(r:Rep K H μ w v)(e:mJ w=some ws):∃ k a,v=.ref a∧∀ {H2:Hp} {μ2:Mu},Ext K H μ H2 μ2→∃ xs,Sk.v k K H2 a xs∧aL K H2 μ2 ws xs:=by
 cases w with
 | tup us=>
  cases (show some us=some ws from e)
  have r0:=r
  rw [Rep] at r
  obtain ⟨p,xs,ev,hs,rs⟩:=r
  subst ev
  refine ⟨.t,p,rfl,fun {H2 μ2} x=>?_⟩
  have r2:=x.r _ _ r0
  rw [Rep] at r2
  obtain ⟨q,ys,ev,hs,rs⟩:=r2
  cases ev
  exact ⟨ys,hs,rs⟩
 | lst us=>
  cases (show some us=some ws from e)
  have r0:=r
  rw [Rep] at r
  obtain ⟨p,xs,ev,hs,rs⟩:=r
  subst ev
  refine ⟨.l,p,rfl,fun {H2 μ2} x=>?_⟩
  have r2:=x.r _ _ r0
  rw [Rep] at r2
  obtain ⟨q,ys,ev,hs,rs⟩:=r2
  cases ev
  exact ⟨ys,hs.sq,rs⟩
 | kls us=>
  cases (show some us=some ws from e)
  have r0:=r
  rw [Rep] at r
  obtain ⟨p,xs,ev,hs,rs⟩:=r
  subst ev
  refine ⟨.l,p,rfl,fun {H2 μ2} x=>?_⟩
  have r2:=x.r _ _ r0
  rw [Rep] at r2
  obtain ⟨q,ys,ev,hs,rs⟩:=r2
  cases ev
  exact ⟨ys,hs.sq,rs⟩
 | _=>cases e
def zipS (h:Gh)(x y:W):Option Src:=match mJ x,mJ y with
 | some as,some bs=>some ⟨kZ as bs,none⟩
 | none,some bs=>(match x with
  | .loc n=>(match h.c n with
   | some (.lst as)=>some ⟨kZ as bs,some (n,as)⟩
   | _=>none)
  | _=>none)
 | _,_=>none
theorem stay_at {H:Hp}{μ : Mu}{h:Gh}{w:W}{v:V}{ws:List W}{o:Option (Nat×List W)}(R:Rel K μ H h)(r:Rep K H μ w v)(e:(mJ w=some ws∧o=none)∨∃ n,w=.loc n∧h.c n=some (.lst ws)∧o=some (n,ws)) :
  ∃ k a,v=.ref a∧∀ {H2:Hp} {μ2:Mu} {h2:Gh},Ext K H μ H2 μ2→Rel K μ2 H2 h2→Src.chk ⟨ws,o⟩ h2→∃ xs,Sk.v k K H2 a xs∧aL K H2 μ2 ws xs:=by
 rcases e with ⟨e,rfl⟩ | ⟨n,rfl,ec,rfl⟩
 ·obtain ⟨k,a,ev,f⟩:=vd r e
  exact ⟨k,a,ev,fun x _ _=>f x⟩
 ·have r0:=r
  rw [Rep] at r
  obtain ⟨p,ev,hm⟩:=r
  subst ev
  refine ⟨.l,p,rfl,fun {H2 μ2 h2} x R2 ck=>?_⟩
  have r2:=x.r _ _ r0
  rw [Rep] at r2
  obtain ⟨q,eq,hm2⟩:=r2
  cases eq
  obtain ⟨p',xs,hm',hx,rs⟩:=R2.lstAt (show h2.c n=some (.lst ws) from ck)
  have ep:p'=p:=by rw [hm2] at hm';exact (Option.some.inj hm').symm
  subst ep
  exact ⟨xs,.of hx,rs⟩
theorem zipS_ok {h:Gh}{x y:W}{s:Src}(e:zipS h x y=some s):∃ as bs o,s=⟨kZ as bs,o⟩∧((mJ x=some as∧o=none)∨∃ n,x=.loc n∧h.c n=some (.lst as)∧o=some (n,as))∧mJ y=some bs:=by
 unfold zipS at e
 split at e
 ·rename_i as bs ea eb
  exact ⟨as,bs,none,(Option.some.inj e).symm,.inl ⟨ea,rfl⟩,eb⟩
 ·rename_i bs ea eb
  split at e
  ·split at e
   ·rename_i n _ as ec
    exact ⟨as,bs,_,(Option.some.inj e).symm,.inr ⟨n,rfl,ec,rfl⟩,eb⟩
   ·cases e
  ·cases e
 ·cases e
def nZip (ma:MA):MI:=fun σ h R=>ma σ h fun ws h1=>match ws with
 | [x,y]=>(match zipS h1 x y with
  | some s=>R s h1
  | none=>False)
 | _=>False
theorem di_zip {e1 e2:Expr}{mr:MA}{p pos tpos:Pos}{elts:List Expr}{kt:Nat}(hg:Gl X "zip")(hm:X.mg "zip" = none)(ha:DAs X [e1,e2] mr)
  (hs:starEach [e1,e2] X.env=(false,eval e1 X.env)::starEach [e2] X.env:=by rfl) (hpl:(backTo pos (starEach [e2] X.env)).any (·.1)=false:=by rfl) :
  DIt X (.Tuple elts kt tpos) (.Call (.Name "zip" p) [e1,e2] [] pos) (nZip mr):=PI.of (pi_zip hg hm ha hs hpl) fun σ H Q ⟨μ,h,σw,Rw,R,S,m,k⟩=>by
 refine ⟨μ,h,σw,_,R,S,m,fun vs H1 ⟨μ1,ws,h1,e1,R1,r1,m1⟩=>?_⟩
 dsimp only at m1
 split at m1
 ·split at m1
  ·rename_i x y _ s es
   obtain ⟨as,bs,o,rfl,ea,eb⟩:=zipS_ok es
   obtain ⟨v,u,ev,rv,ru⟩:=reps2 r1
   obtain ⟨ka,a,e3,fa⟩:=stay_at R1 rv ea
   obtain ⟨kb,b,e4,fb⟩:=vd ru eb
   have ck1:Src.chk ⟨as,o⟩ h1:=by
    rcases ea with ⟨_,rfl⟩ | ⟨n,_,ec,rfl⟩
    ·exact trivial
    ·exact ec
   obtain ⟨xs,hxs,_⟩:=fa .refl R1 ck1
   obtain ⟨ys,hys,_⟩:=fb .refl
   refine ⟨v,u,ka,kb,a,b,ev,⟨e3,xs,hxs⟩,⟨e4,ys,hys⟩,k _ _ ⟨μ1,⟨kZ as bs,o⟩,h1,e1,R1,?_,m1⟩⟩
   intro H2 μ2 h2 i e2 R2 ck
   obtain ⟨xs2,hxs2,rxs⟩:=fa e2 R2 ck
   obtain ⟨ys2,hys2,rys⟩:=fb e2
   refine ⟨fun w ew=>?_,fun hl=>⟨xs2,ys2,hxs2,hys2,?_⟩⟩
   ·obtain ⟨p1,p2,ep1,ep2,rfl⟩:=pI ew
    obtain ⟨q1,eq1,rq1⟩:=rxs.get ep1
    obtain ⟨q2,eq2,rq2⟩:=rys.get ep2
    refine ⟨⟨xs2,ys2,q1,q2,hxs2,hys2,eq1,eq2⟩,fun x' H3 ⟨pa,x1,x2,hp,ex',eH3,f1,f2⟩=>?_⟩
    have g1:=f1 xs2 hxs2
    have g2:=f2 ys2 hys2
    rw [eq1] at g1
    rw [eq2] at g2
    cases g1
    cases g2
    subst ex' eH3
    exact ⟨μ2,(Ex.laid hp).ext,R2.laid hp,.tupNew hp (.cons rq1 (.one rq2))⟩
   ·have l1:=rxs.len
    have l2:=rys.len
    have:min as.length bs.length≤i:=by rw [←pC];exact hl
    omega
  ·exact m1.elim
 ·exact m1.elim
end
end L2
namespace L2
open PySem PySem.Spec PyProof.Rows
section
variable {X:Cx}{K:PySem.W.Frag}
theorem ints_at:∀ {ns:List Int} {its:List Value} {i:Nat} {v:Value},Vals (ns.map V.int) its→its[i]?=some v→∃ t,v=.int (ns.getD i 0) t
 | [],_,_,_,.nil,e=>by simp at e
 | n::ns,_,0,_,.cons r _,e=>by
  simp at e
  subst e
  exact r
 | _::ns,_,i+1,v,.cons _ t,e=>by
  obtain ⟨t',h⟩:=ints_at (i:=i) (v:=v) t (by simpa using e)
  exact ⟨t',by simpa using h⟩
def oA:List W→Option (List Int)
 | []=>some []
 | .int i::ws=>(oA ws).map (i::·)
 | _=>none
theorem vK {H:Hp}{μ : Mu}:∀ {ws:List W} {xs:List V} {ns:List Int},aL K H μ ws xs→oA ws=some ns→xs=ns.map V.int
 | [],xs,ns,r,e=>by
  rw [aL] at r
  cases (show some []=some ns from e)
  exact r
 | w::ws,xs,ns,r,e=>by
  rw [aL] at r
  obtain ⟨v,vr,ev,ra,r⟩:=r
  cases w with
  | int b=>
   rw [Rep] at ra
   rw [oA] at e
   cases q:oA ws with
   | none=>rw [q] at e;cases e
   | some cs=>
    rw [q] at e
    cases (show some (b::cs)=some ns from e)
    rw [ev,ra,vK r q]
    rfl
  | _=>cases e
def kSum:MC:=fun ws h Q=>match ws with
 | [w]=>(match dR h w with
  | some us=>(match oA us with
   | some ns=>Q (.int ns.sum) h
   | none=>False)
  | none=>False)
 | _=>False
end
end L2
namespace L2
open PySem PySem.Spec PyProof.Rows
end L2
namespace L2
open PySem PySem.Spec PyProof.Rows
section
variable {P:Program}{w:World}{A:Around}{E:Value→Shared→Prop}{s:Shared}
end
end L2
namespace L2
open PySem PySem.Spec PyProof.Rows
section
variable {X:Cx}{K:PySem.W.Frag}
end
end L2
namespace L2
open PySem PySem.Spec PyProof.Rows
section
variable {X:Cx}
def mPar3 (i j k:Nat)(ta:MA):MS:=fun D σ h=>ta σ h fun ws h1=>match ws with
 | [a,b,c]=>D.nx (((σ.set i (some a)).set j (some b)).set k (some c)) h1
 | _=>False
end
end L2
namespace L2
open PySem PySem.Spec PyProof.Rows
section
variable {X:Cx}{K:PySem.W.Frag}
end
end L2
namespace L2
open PySem PySem.Spec PyProof.Rows
theorem repI {K:PySem.W.Frag}{H:Hp}{μ : Mu}{i:Int}:Rep K H μ (.int i) (.int i):=by rw [Rep]
end L2
namespace L2
open PySem PySem.Spec PyProof.Rows
section
variable {prog:Program}{w:World}{A:Around}{E:Value→Shared→Prop}{s:Shared}
theorem rC {it t:Addr}{items:Array Value}(hne:t≠it):∀ (n i:Nat) (s:Shared) (Q:List Value→Shared→Prop),s.heap.IsListIter it t i→s.heap.IsList t items→i+n≤items.size →
  (∀ h',h'.IsListIter it t (i+n)→Heap.SameBut it s.heap h'→Q ((items.toList.drop i).take n) { s with heap:=h' })→wpAny (model prog w) A (draw (.ref it) n) Q E s
 | 0,i,s,Q,hit,_,_,hQ=>by
  show wpAny _ _ (pure []) Q E s
  exact wpAny_pure (by simpa using hQ s.heap hit (Heap.SameBut.refl ..))
 | n+1,i,s,Q,hit,ht,hle,hQ=>by
  have hlt:i<items.size:=by omega
  show wpAny _ _ (pyNext (.ref it) >>= _) Q E s
  refine wpAny_bind (wpAny_pyNext_list_item hit ht (x:=items[i]) (by simp [hlt]) fun h1 hit1 hs1=>?_)
  refine wpAny_bind (wpAny_holding (rC hne n (i+1) _ _ hit1 (ht.at fun o e=>hs1.extBut _ o hne e) (by omega) fun h2 hit2 hs2=>wpAny_pure ?_))
  have hd:items.toList.drop i=items[i]::items.toList.drop (i+1):=by simp [List.drop_eq_getElem_cons,hlt]
  have:=hQ h2 (by rw [show i+(n+1)=i+1+n by omega];exact hit2) (hs1.trans hs2)
  rw [hd,List.take_succ_cons] at this
  exact this
theorem j9 {t:Addr}{items:Array Value}{Q:List Value→Shared→Prop}(hh:A.handled=none)(ht:s.heap.IsList t items)
  (hQ:∀ h',Heap.ExtBut s.heap.objs.size s.heap h'→Q items.toList { s with heap:=h' }):wpAny (model prog w) A (unpackItems (.ref t) items.size none) Q E s:=by
 have hlt:t≠s.heap.objs.size:=by obtain ⟨o,ho,_⟩:=ht;exact Nat.ne_of_lt (Heap.lt_size ho)
 unfold unpackItems
 refine wpAny_bind ?_
 ·unfold notIterableAtAll
  refine wpAny_bind (wpAny_specialOf ht.typeIs slot_list_iter.lookup ?_)
  refine wpAny_pure ?_
  simp only [Bool.false_eq_true,if_false]
  refine wpAny_bind (wpAny_holding (wpAny_pyIter_list ht ?_))
  refine wpAny_bind (wpAny_holding (rC hlt items.size 0 _ _ ⟨_,Heap.get?_push_size _ rfl,rfl,rfl⟩ (ht.at fun o e=>Heap.get?_push_of_some _ e) (by omega) fun h1 hit1 hs1=>?_))
  have hall:List.take items.size (List.drop 0 items.toList)=items.toList:=by
   rw [List.drop_zero];exact List.take_of_length_le (by simp)
  rw [hall]
  rw [if_neg (by simp)]
  have ht1:h1.IsList t items:=ht.at fun o e=>hs1.extBut _ o hlt (Heap.get?_push_of_some _ e)
  refine wpAny_bind (wpAny_holding (wpAny_pyNext_list_end hh hit1 ht1 (by simp) fun h2 he2=>?_))
  simp only [Option.isSome_none,Bool.false_eq_true,if_false]
  refine wpAny_pure (hQ h2 fun b o hb e=>he2 b o hb (hs1.extBut b o hb (Heap.get?_push_of_some _ e)))
theorem jC {env:Env}{elts:List Expr}{x1}{pos:Pos}{t:Addr}{items:Array Value}{Q:Unit→Shared→Prop}(hh:A.handled=none)(ht:s.heap.IsList t items)
  (hn:(assignEach elts env).length=items.size) (hstar:(assignEach elts env).findIdx? (·.1)=none)
  (h:∀ h',Heap.ExtBut s.heap.objs.size s.heap h'→wpAny (model prog w) A (assignInOrder ((assignEach elts env).map (·.2)) items.toList) Q E { s with heap:=h' }) :
  wpAny (model prog w) A (assign (.Tuple elts x1 pos) env (.ref t)) Q E s:=by
 rw [assign_Tuple]
 refine wpAny_bind (wpAny_standAt ?_)
 unfold unpack
 rw [hn,hstar]
 exact wpAny_bind (wpAny_holding (j9 hh ht h))
end
section
variable {X:Cx}{pos:Pos}
def gTup2 (K:PySem.W.Frag)(n:Nat)(t:TGs):TG:=fun v σ H Q=>∃ a xs,v=.ref a∧(SqT K H a xs∨SqL K H a xs)∧xs.length=n∧t xs σ H Q
theorem pg_tup2 {es:List Expr}{k:Nat}{t:TGs}{n:Nat}(hc:X.calm=true)(h:PGs X es t)
  (hn:(assignEach es X.env).length=n:=by rfl) (hst:(assignEach es X.env).findIdx? (·.1)=none:=by rfl):PG X (.Tuple es k pos) (gTup2 X.K n t):=by
 intro pins s σ H v u Q I r hw
 obtain ⟨a,xs,e1,hq,hl,hw⟩:=hw
 subst e1
 cases r
 rcases hq with hq | hq
 ·obtain ⟨its,rv,ht,hz⟩:=I.tuple hq
  refine assign_Tuple_tuple (I.ok.hd hc) ht (by simp [hn,←hl,rv.length]) hst fun h' hx=>?_
  have I1:Inv X pins σ H { s with heap:=h' }:=I.kept (t':=s.toks) fun b o e=>hx b o (Nat.ne_of_lt (Heap.lt_size e)) e
  exact h pins _ σ H xs _ Q I1 (by simpa using rv) hw
 ·obtain ⟨its,rv,ht,hz⟩:=I.list hq
  refine jC (I.ok.hd hc) ht.isList (by simp [hn,←hl,rv.length]) hst fun h' hx=>?_
  have I1:Inv X pins σ H { s with heap:=h' }:=I.kept (t':=s.toks) fun b o e=>hx b o (Nat.ne_of_lt (Heap.lt_size e)) e
  exact h pins _ σ H xs _ Q I1 (by simpa using rv) hw
def jL (n:Nat)(g:MGs):MG:=fun w σ h N=>match w with
 | .tup ws=>by2 (Nat.beq ws.length n) (g ws σ h N) False
 | .lst ws=>by2 (Nat.beq ws.length n) (g ws σ h N) False
 | .loc j=>(match h.c j with
  | some (.lst ws)=>by2 (Nat.beq ws.length n) (g ws σ h N) False
  | _=>False)
 | _=>False
theorem eX {es:List Expr}{k:Nat}{g:MGs}{n:Nat}(hc:X.calm=true)(h:DGss X es g)(hn:(assignEach es X.env).length=n:=by rfl)(hst:(assignEach es X.env).findIdx? (·.1)=none:=by rfl):DG X (.Tuple es k pos) (jL n g):=
 (pg_tup2 (n:=n) hc h hn hst).of fun v σ H N ⟨μ,h,σw,w,Nw,R,S,r,m,k⟩=>by
  cases w with
  | tup ws=>
   rw [Rep] at r
   obtain ⟨p,xs,e1,hs,hr⟩:=r
   have m:by2 (Nat.beq ws.length n) (g ws σw h Nw) False:=m
   cases en:Nat.beq ws.length n with
   | true=>rw [en] at m;exact ⟨p,xs,e1,.inl hs,by rw [←hr.len];exact Nat.eq_of_beq_eq_true en,μ,h,σw,ws,Nw,R,S,hr,m,k⟩
   | false=>rw [en] at m;exact (show False from m).elim
  | lst ws=>
   rw [Rep] at r
   obtain ⟨p,xs,e1,hs,hr⟩:=r
   have m:by2 (Nat.beq ws.length n) (g ws σw h Nw) False:=m
   cases en:Nat.beq ws.length n with
   | true=>rw [en] at m;exact ⟨p,xs,e1,.inr hs.sq,by rw [←hr.len];exact Nat.eq_of_beq_eq_true en,μ,h,σw,ws,Nw,R,S,hr,m,k⟩
   | false=>rw [en] at m;exact (show False from m).elim
  | loc j=>
   have m:(match h.c j with
    | some (.lst ws)=>by2 (Nat.beq ws.length n) (g ws σw h Nw) False
    | _=>False):=m
   split at m
   ·rename_i ws ec
    obtain ⟨p,xs,e1,hs,hr⟩:=dM R r (show dR h (.loc j)=some ws by simp only [dR,ec])
    cases en:Nat.beq ws.length n with
    | true=>rw [en] at m;exact ⟨p,xs,e1,.inr hs,by rw [←hr.len];exact Nat.eq_of_beq_eq_true en,μ,h,σw,ws,Nw,R,S,hr,m,k⟩
    | false=>rw [en] at m;exact (show False from m).elim
   ·exact m.elim
  | _=>exact m.elim
end
end L2
namespace L2
open PySem PySem.Spec PyProof.Rows
section
variable {K:PySem.W.Frag}{H:Hp}{μ : Mu}{h:Gh}{p:Addr}{ws:List W}{xs:List V}
end
def thaw (Q:WK):WK:=fun w h=>match w with
 | .lst ws=>Q (.loc h.nx) (h.new (.lst ws))
 | _=>False
def mLCM (own:W→Option (List W))(ix:List Nat)(mi:MI)(tt:MT)(te:ME):ME:=fun σ h Q=>mLC own ix mi tt te σ h (thaw Q)
section
variable {X:Cx}{tg iter elt:Expr}{ifs:List Expr}{pos:Pos}{scope:Scope}{xs:List Str}{mi:MI}{tt:MT}{te:ME}
end
end L2
namespace L2
open PySem PySem.Spec PyProof.Rows
def isStar:Expr→Bool
 | .Starred _ _=>true
 | _=>false
theorem aj {e:Expr}{es:List Expr}{env:Env}(h:isStar e=false):starEach (e::es) env=(false,eval e env)::starEach es env:=by
 cases e <;> first | rfl | cases h
theorem jj {e:Expr}{env:Env}(h:isStar e=false):starEach [e] env=[(false,eval e env)]:=(aj h).trans rfl
def noStar:List Expr→Bool
 | []=>true
 | e::r=>!isStar e&&noStar r
theorem aA {pos:Pos}{env:Env}:∀ {es:List Expr},noStar es=true→(backTo pos (starEach es env)).any (·.1)=false
 | [],_=>rfl
 | e::r,h=>by
  rw [noStar,Bool.and_eq_true,Bool.not_eq_true'] at h
  rw [aj h.1]
  show (false||(backTo pos (starEach r env)).any (·.1))=false
  rw [aA h.2]
  rfl
theorem wK {cpos:Pos}{e:Expr}{env:Env}(h:isStar e=false):((backTo cpos (starEach [e] env)).all (fun x=>!x.1)&&(backToKw cpos (keywordEach [] env)).all (fun x=>x.1.isSome)
   && decide (([e]:List Expr).length+([]:List Keyword).length+(if ([]:List Keyword).isEmpty then 0 else 1)<30))=true:=by
 rw [jj h];rfl
end L2
namespace L2
open PySem PySem.Spec PyProof.Rows
section
variable {prog:Program}{w:World}{A:Around}{E:Value→Shared→Prop}{s:Shared}
end
section
variable {X:Cx}
end
end L2
namespace L2
open PySem PySem.Spec PyProof.Rows
section
variable {X:Cx}
def kInt:MC:=fun ws h Q=>match ws with
 | [.int i]=>Q (.int i) h
 | [.bl b]=>Q (.int (if b then 1 else 0)) h
 | _=>False
theorem n8 {K:PySem.W.Frag}{H:Hp}{μ : Mu}:∀ {ns:List Int} {xs:List V},aL K H μ (ns.map W.int) xs→xs=ns.map V.int
 | [],xs,r=>by rw [List.map_nil,aL] at r;exact r
 | n::ns,xs,r=>by
  rw [List.map_cons,aL] at r
  obtain ⟨v,vs,e,rv,r⟩:=r
  rw [Rep] at rv
  rw [e,rv,n8 r];rfl
end
end L2
namespace L2
open PySem PySem.Spec PyProof.Rows
section
variable {X:Cx}
end
end L2
namespace L2
open PySem PySem.Spec PyProof.Rows
section
variable {X:Cx}
def rBits:V→List V→Hp→VK→Prop:=fun x vs H Q=>∃ i:Int,x=.int i∧vs=[]∧Q (.int (Builtin.Int.intBits i:Nat)) H
theorem mt_bits:MtR X "int.bit_length" rBits:=by
 intro pins s σ H x vs v us Q I rx rv h
 obtain ⟨i,rfl,rfl,q⟩:=h
 obtain ⟨t,rfl⟩:=rx
 have hus:=rv.zero
 subst hus
 exact call_int_bit_length ⟨.int (Builtin.Int.intBits i:Nat),H,I.tok _,⟨_,rfl⟩,q⟩
def mBits (mo:ME):ME:=fun σ h Q=>mo σ h fun x h1=>match x with
 | .int i=>Q (.int (Builtin.Int.intBits i:Nat)) h1
 | _=>False
theorem d_bits {o:Expr}{mo:ME}{apos cpos:Pos}(ho:DE X o mo)(hbase:attributeBase o "bit_length" X.env (eval o X.env)=eval o X.env:=by rfl)(hline:(apos.endLine==cpos.line)=true:=by rfl) :
  DE X (.Call (.Attribute o "bit_length" apos) [] [] cpos) (mBits mo):=(pe_bm0 PySem.F.plainAttrs_int slot_int_bit_length type_int_bit_length mt_bits ho hbase hline).of fun σ H Q ⟨μ,h,σw,Qw,R,S,m,k⟩=>by
 refine ⟨μ,h,σw,_,R,S,m,fun v H1 ⟨μ1,w,h1,e1,R1,r1,m1⟩=>?_⟩
 cases w with
 | int i=>
  rw [Rep] at r1
  subst r1
  have z:DQ X.K H1 μ1 Qw (.int (Builtin.Int.intBits i:Nat)) H1:=.int R1 m1
  exact ⟨rfl,i,rfl,rfl,k _ _ (z.trans e1)⟩
 | _=>exact (show False from m1).elim
end
end L2
namespace L2
open PySem PySem.Spec PyProof.Rows
def XO (h:Heap)(P:Addr→Prop)(e C:Addr)(od:Option Addr):Prop:=P e∧∃ (oe:Obj) (vs:Array Value),h.get? e=some oe∧oe.cls=.ref C∧oe.dict=od∧oe.data=.fields vs∧vs.size≤1000∧vs[2]?=some .none ∧
 (vs[1]?=some .none∨∃ (T:Addr) (oT:Obj) (ts:Array Value),vs[1]?=some (.ref T)∧T≠e∧P T∧h.get? T=some oT∧oT.data=.fields ts∧3<ts.size)
def XN (h:Heap)(P:Addr→Prop)(e C:Addr)(od:Option Addr):Prop:=P e∧∃ (oe:Obj) (vs:Array Value),h.get? e=some oe∧oe.cls=.ref C∧oe.dict=od∧oe.data=.fields vs∧vs.size≤1000∧vs[2]?=some .none ∧
 ∃ (T:Addr) (oT:Obj) (ts:Array Value),vs[1]?=some (.ref T)∧T≠e∧P T∧h.get? T=some oT∧oT.data=.fields ts∧3<ts.size
structure Stp (P:Addr→Prop) (fs:List Addr) (h h':Heap):Prop where
 keep:∀ b o,¬ P b→b∉fs→h.get? b=some o→h'.get? b=some o
 slot:∀ b o,¬ P b→h.get? b=some o→∃ sl,h'.get? b=some { o with slots:=sl }
 there:∀ b o,h.get? b=some o→∃ o',h'.get? b=some o'
section
variable {M:Model}{A:Around}{E:Value→Shared→Prop}{s:Shared}{P:Addr→Prop}{e C:Addr}{od:Option Addr}
end
end L2
namespace L2
open PySem PySem.Spec PyProof.Rows
section
variable {X:Cx}{pins:List (Addr×Obj)}{σ : St}{H H':Hp}{s s':Shared}{b e C:Addr}{od:Option Addr}
structure New (X:Cx) (pins:List (Addr×Obj)) (H:Hp) (b:Addr):Prop where
 h:H b=none
 s:b∈X.ex∨X.s₀.heap.get? b=none
 l:b≠X.env.locals
 c:∀ x c,X.env.cells.lookup x=some c→c≠b
 p:∀ p∈X.pn++pins,p.1≠b
 f:b∉X.fs
structure FX (X:Cx) (pins:List (Addr×Obj)) (σ : St) (H:Hp) (s:Shared) (e C:Addr) (od:Option Addr):Prop where
 inv:Inv X pins σ H s
 xo:XO s.heap (New X pins H) e C od
structure FN (X:Cx) (pins:List (Addr×Obj)) (σ : St) (H:Hp) (s:Shared) (e C:Addr) (od:Option Addr):Prop where
 inv:Inv X pins σ H s
 xn:XN s.heap (New X pins H) e C od
end
section
variable {X:Cx}{pins:List (Addr×Obj)}{σ : St}{H:Hp}{s:Shared}{C:Addr}{x:Str}{np cpos pos:Pos}{e:Expr}{es:List Expr}{t:TA}
end
end L2
namespace L2
open PySem PySem.Spec PyProof.Rows
section
variable {X:Cx}{Γ : St→Prop}{e c:Expr}{es:List Expr}{mr:MA}{pos:Pos}{st:Stmt}{rest:List Stmt}
end
end L2
namespace L2
open PySem PySem.Spec PyProof.Rows
section
variable {X:Cx}{pins pins':List (Addr×Obj)}{σ : St}{H:Hp}{s:Shared}{xe:Value→Shared→Prop}{a C:Addr}{o:Obj}{u:HO}
end
end L2
namespace L2
open PySem PySem.Spec PyProof.Rows
section
variable {prog:Program}{w:World}{A:Around}{E:Value→Shared→Prop}{s:Shared}{K:PySem.W.Frag}{x D:Addr}{ox:Obj}
end
def isX (n d:Str):Bool:=n==d||d == "EaselError"
section
variable {K:PySem.W.Frag}{C D:Addr}{n d:Str}
def CsOk (K:PySem.W.Frag)(v:V)(f:Str→Bool):Prop:=∀ (u:Value),RelV v u→∀ (C:Addr) (n:Str),xcIn K C n=true→PySem.W.kitOne K (.ref C) u=some (f n)
end
end L2
namespace L2
open PySem PySem.Spec PyProof.Rows
def bI.lost (D:bI):bI:={ D with nx:=fun σ h=>D.nx (σ.map fun _=>none) h,bk:=fun σ h=>D.bk (σ.map fun _=>none) h,ct:=fun σ h=>D.ct (σ.map fun _=>none) h }
def excW (x:Xw):W:=match x.fs with
 | []=>.exc x.cls
 | f::fs=>.exa x.cls ((f::fs).map (·.2))
def mTry (i:Nat)(d:Str)(mb:XWK→MS)(mh:MS):MS:=fun D σ h=>mb (fun x h'=>by2 (isX x.cls d) (mh D.lost (σ.set i (some (excW x))) h') False) D σ h
section
variable {X:Cx}{body:List Stmt}{b₀ : Stmt}{suite:List Stmt}{y d:Str}{np hpos pos:Pos}{i:Nat}{D:Addr}{mb:XWK→MS}{mh:MS}
end
end L2
namespace L2
open PySem PySem.Spec PyProof.Rows
section
variable {X:Cx}{a:Expr}{ma:ME}{pos p:Pos}
def mIsX (f:Str→Bool)(m:ME):ME:=fun σ h Q=>m σ h fun w h1=>match w with
 | .exc n=>Q (.bl (f n)) h1
 | .exa n _=>Q (.bl (f n)) h1
 | _=>False
inductive PCs (X:Cx):List Expr→List V→(Str→Bool)→Prop
 | nil:PCs X [] [] (fun _=>false)
 | cons {e:Expr} {es:List Expr} {v:V} {vs:List V} {f g:Str→Bool}:PE X e (tC v)→CsOk X.K v f→PCs X es vs g→starEach (e::es) X.env=(false,eval e X.env)::starEach es X.env→PCs X (e::es) (v::vs) (fun n=>f n||g n)
end
section
variable {X:Cx}{tg elt:Expr}{ifs:List Expr}{scope:Scope}{xs:List Str}{tt:MT}{te:ME}{pos p ppos:Pos}
end
end L2
namespace L2
open PySem PySem.Spec PyProof.Rows
section
variable {prog:Program}{w:World}{A:Around}{E:Value→Shared→Prop}{s:Shared}
end
section
variable {X:Cx}
end
end L2
namespace L2
open PySem PySem.Spec PyProof.Rows
section
variable {X:Cx}{K:PySem.W.Frag}{o e:Expr}{mo:ME}{ma:MA}{apos cpos:Pos}
variable {H:Hp}{pins:List (Addr×Obj)}{s:Shared}{σ : St}
mutual
theorem Dt_uniq (I:Inv X pins σ H s):∀ {w u:W} {v:V},Dt X.K H w v→Dt X.K H u v→w=u
 | .non,u,v,h,g=>by rw [Dt] at h;subst h;cases u <;> rw [Dt] at g <;> first | rfl | exact g.elim | (obtain ⟨_,_,g,_⟩:=g;cases g;done) | (cases g;done)
 | .bl b,u,v,h,g=>by rw [Dt] at h;subst h;cases u <;> rw [Dt] at g <;> first | (injection g with g;rw [g];done) | exact g.elim | (obtain ⟨_,_,g,_⟩:=g;cases g;done) | (cases g;done)
 | .int b,u,v,h,g=>by rw [Dt] at h;subst h;cases u <;> rw [Dt] at g <;> first | (injection g with g;rw [g];done) | exact g.elim | (obtain ⟨_,_,g,_⟩:=g;cases g;done) | (cases g;done)
 | .str b,u,v,h,g=>by rw [Dt] at h;subst h;cases u <;> rw [Dt] at g <;> first | (injection g with g;rw [g];done) | exact g.elim | (obtain ⟨_,_,g,_⟩:=g;cases g;done) | (cases g;done)
 | .tup ws,u,v,h,g=>by
  rw [Dt] at h
  obtain ⟨p,xs,e,hs,ds⟩:=h
  subst e
  cases u with
  | tup us=>
   rw [Dt] at g
   obtain ⟨p',xs',e',hs',ds'⟩:=g
   cases e'
   have:=I.tuple_inj hs hs'
   subst this
   rw [pR I ds ds']
  | lst us=>
   rw [Dt] at g
   obtain ⟨p',xs',e',hs',ds'⟩:=g
   cases e'
   obtain ⟨_,_,t,_⟩:=I.tuple hs
   obtain ⟨_,_,l,_⟩:=I.list hs'
   exact absurd rfl (SeqAt.ne_of_list_tuple l.isList (show s.heap.IsTuple _ _ from t))
  | ty _=>rw [Dt] at g;exact g.elim
  | loc _=>rw [Dt] at g;exact g.elim
  | kls _=>rw [Dt] at g;exact g.elim
  | exc _=>rw [Dt] at g;exact g.elim
  | exa _ _=>rw [Dt] at g;exact g.elim
  | _=>rw [Dt] at g;cases g
 | .lst ws,u,v,h,g=>by
  rw [Dt] at h
  obtain ⟨p,xs,e,hs,ds⟩:=h
  subst e
  cases u with
  | lst us=>
   rw [Dt] at g
   obtain ⟨p',xs',e',hs',ds'⟩:=g
   cases e'
   have:=I.list_inj hs hs'
   subst this
   rw [pR I ds ds']
  | tup us=>
   rw [Dt] at g
   obtain ⟨p',xs',e',hs',ds'⟩:=g
   cases e'
   obtain ⟨_,_,t,_⟩:=I.tuple hs'
   obtain ⟨_,_,l,_⟩:=I.list hs
   exact absurd rfl (SeqAt.ne_of_list_tuple l.isList (show s.heap.IsTuple _ _ from t))
  | ty _=>rw [Dt] at g;exact g.elim
  | loc _=>rw [Dt] at g;exact g.elim
  | kls _=>rw [Dt] at g;exact g.elim
  | exc _=>rw [Dt] at g;exact g.elim
  | exa _ _=>rw [Dt] at g;exact g.elim
  | _=>rw [Dt] at g;cases g
 | .ty _,_,_,h,_=>by rw [Dt] at h;exact h.elim
 | .kls _,_,_,h,_=>by rw [Dt] at h;exact h.elim
 | .loc _,_,_,h,_=>by rw [Dt] at h;exact h.elim
 | .exc _,_,_,h,_=>by rw [Dt] at h;exact h.elim
 | .exa _ _,_,_,h,_=>by rw [Dt] at h;exact h.elim
theorem pR (I:Inv X pins σ H s):∀ {ws us:List W} {vs:List V},Dts X.K H ws vs→Dts X.K H us vs→ws=us
 | [],us,vs,h,g=>by
  have e:vs=[]:=by rw [Dts] at h;exact h
  subst e
  cases us with
  | nil=>rfl
  | cons u us=>rw [Dts] at g;obtain ⟨_,_,e,_⟩:=g;cases e
 | w::ws,us,vs,h,g=>by
  rw [Dts] at h
  obtain ⟨v,vs',e,d,ds⟩:=h
  subst e
  cases us with
  | nil=>
   have e:v::vs'=[]:=by rw [Dts] at g;exact g
   cases e
  | cons u us=>
   rw [Dts] at g
   obtain ⟨v2,vs2,e2,d2,ds2⟩:=g
   cases e2
   rw [Dt_uniq I d d2,pR I ds ds2]
end
end
section
variable {X:Cx}{elt iter tg:Expr}{ifs:List Expr}{scope:Scope}{pos:Pos}{xs:List Str}{mi:MI}{tt:MT}{te:ME}
end
end L2
namespace L2
open PySem PySem.Spec PyProof.Rows
section
variable {X:Cx}{Γ : St→Prop}{e:Expr}{es:List Expr}{pos:Pos}
variable {mr:XWK→MA}
end
end L2
namespace L2
open PySem PySem.Spec PyProof.Rows
section
variable {X:Cx}{K:PySem.W.Frag}{H:Hp}{pins:List (Addr×Obj)}{s:Shared}{σ : St}
end
end L2
namespace L2
open PySem PySem.Spec PyProof.Rows
section
variable {X:Cx}{K:PySem.W.Frag}{H:Hp}{μ : Mu}{h:Gh}
end
end L2
namespace L2
open PySem PySem.Spec PyProof.Rows
section
variable {X:Cx}{K:PySem.W.Frag}{o e e':Expr}{mo:ME}{ma:MA}{apos cpos:Pos}
theorem few_2 {cpos:Pos}{e e':Expr}{env:Env}(h:isStar e=false)(h':isStar e'=false):((backTo cpos (starEach [e,e'] env)).all (fun x=>!x.1)&&(backToKw cpos (keywordEach [] env)).all (fun x=>x.1.isSome)
   && decide (([e,e']:List Expr).length+([]:List Keyword).length+(if ([]:List Keyword).isEmpty then 0 else 1)<30))=true:=by
 rw [aj h,aj h']
 rfl
end
end L2
namespace L2
open PySem PySem.Spec PyProof.Rows
def plL (m:Nat):List Nat:=(List.range 8).filter fun j=>m.testBit j
def rk (m j:Nat):Nat:=((List.range j).filter fun i=>m.testBit i).length
def pq (h:Int):Nat→Nat×Nat
 | 0=>(SetTable.bits h % 8,SetTable.bits h)
 | n+1=>SetTable.leap 7 (pq h n).1 (pq h n).2
def pb (h:Int)(n:Nat):SetTable.Probe:=⟨(pq h n).1,0,(pq h n).1,(pq h n).2,none⟩
theorem pq_lt (h:Int):∀ n,(pq h n).1<8
 | 0=>Nat.mod_lt _ (by decide)
 | n+1=>Nat.mod_lt _ (by decide)
theorem pq_pert (h:Int):∀ n,(pq h n).2=SetTable.bits h / 32^n
 | 0=>by simp [pq]
 | n+1=>by
  show (pq h n).2 / 32=_
  rw [pq_pert h n,Nat.div_div_eq_div_mul,Nat.pow_succ]
theorem pq_zero (h:Int)(n:Nat)(hn:13≤n):(pq h n).2=0:=by
 rw [pq_pert]
 apply Nat.div_eq_of_lt
 have h1:SetTable.bits h<2^64:=by
  unfold SetTable.bits
  have a:=Int.emod_lt_of_pos h (show (0:Int)<2^64 by decide)
  have b:=Int.emod_nonneg h (show (2^64:Int)≠0 by decide)
  omega
 have h2:32^13≤32^n:=Nat.pow_le_pow_right (by decide) hn
 have h3:(2:Nat)^64<32^13:=by decide
 omega
def lcg:Nat→Nat→Nat
 | i,0=>i
 | i,k+1=>(lcg i k*5+1) % 8
theorem pq_lcg (h:Int):∀ k,(pq h (13+k)).1=lcg (pq h 13).1 k
 | 0=>rfl
 | k+1=>by
  show ((pq h (13+k)).1*5+1+(pq h (13+k)).2 / 32) % (7+1)=_
  rw [pq_zero h _ (by omega),pq_lcg h k]
  rfl
theorem lcg_all:∀ i:Fin 8,∀ j:Fin 8,∃ k:Fin 8,lcg i k=j.val:=by decide +kernel
theorem pq_all (h:Int){j:Nat}(hj:j<8):∃ n,n<21∧(pq h n).1=j:=by
 obtain ⟨k,e⟩:=lcg_all ⟨(pq h 13).1,pq_lt h 13⟩ ⟨j,hj⟩
 exact ⟨13+k.val,by omega,by rw [pq_lcg];exact e⟩
theorem least {P:Nat→Bool}:∀ (B:Nat),(∃ n,n<B∧P n=true)→∃ N,N<B∧P N=true∧∀ n,n<N→P n=false
 | 0,⟨n,h,_⟩=>absurd h (Nat.not_lt_zero _)
 | B+1,⟨n,h,e⟩=>by
  by_cases q:∃ n,n<B∧P n=true
  ·obtain ⟨N,a,b,c⟩:=least B q
   exact ⟨N,by omega,b,c⟩
  ·refine ⟨n,h,e,fun i hi=>?_⟩
   cases r:P i with
   | false=>rfl
   | true=>exact absurd ⟨i,by omega,r⟩ q
theorem road {m:Nat}(h:Int)(hf:∃ j,j<8∧m.testBit j=false):∃ N,N<21∧m.testBit (pq h N).1=false∧∀ n,n<N→m.testBit (pq h n).1=true:=by
 obtain ⟨j,hj,e⟩:=hf
 obtain ⟨n,hn,en⟩:=pq_all h hj
 obtain ⟨N,a,b,c⟩:=least (P:=fun n=>!m.testBit (pq h n).1) 21 ⟨n,hn,by simp [en,e]⟩
 exact ⟨N,a,by simpa using b,fun n hn=>by simpa using c n hn⟩
end L2
namespace L2
open PySem PySem.Spec PyProof.Rows
section
variable {prog:Program}{w:World}{A:Around}{E:Value→Shared→Prop}{s:Shared}{m:Nat}{ka:Nat→List Int}{ad:Nat→Addr}{t:SetTable}{a b:Addr}{k:List Int}
abbrev TK (prog:Program)(w:World)(h:Heap)(k:List Int)(a:Addr):Prop:=IsTupleKey (intKind prog w) h k a
def hT (prog:Program)(w:World)(k:List Int):Int:=tupleKeyHash (intKind prog w) k
def elL (prog:Program)(w:World)(m:Nat)(ka:Nat→List Int)(ad:Nat→Addr):List (Int×Value):=(plL m).map fun j=>(hT prog w (ka j),Value.ref (ad j))
structure TTab (prog:Program) (w:World) (h:Heap) (m:Nat) (ka:Nat→List Int) (ad:Nat→Addr) (t:SetTable):Prop where
 mask:t.mask=7
 place:t.place=(plL m).toArray
 dum:t.dummies = #[]
 m8:m<256
 few:(plL m).length≤4
 key:∀ j,j∈plL m→TK prog w h (ka j) (ad j)
 way:∀ j,j∈plL m→∃ n,(pq (hT prog w (ka j)) n).1=j∧∀ i,i<n→m.testBit (pq (hT prog w (ka j)) i).1=true
def setO (es:Array (Int×Value))(ep:Nat)(t:SetTable):Obj:={ cls:=.type "set",dict:=none,data:=.set es ep t }
def TupSet (prog:Program)(w:World)(h:Heap)(a:Addr)(m:Nat)(ka:Nat→List Int)(ad:Nat→Addr):Prop:=∃ ep t,h.get? a=some (setO (elL prog w m ka ad).toArray ep t)∧TTab prog w h m ka ad t
end
end L2
namespace L2
open PySem PySem.Spec PyProof.Rows
section
variable {prog:Program}{w:World}{A:Around}{E:Value→Shared→Prop}{R:Result→Shared→Prop}
structure Bears (prog:Program) (w:World) (z:Nat) (h:Heap) (S:Addr) (seen:List (List Int)) (m:Nat) (ka:Nat→List Int) (ad:Nat→Addr):Prop where
 set:TupSet prog w h S m ka ad
 low:∀ j,j∈plL m→ad j<z
 mem:∀ k,k∈seen↔∃ j,j∈plL m∧ka j=k
 len:(plL m).length=seen.length
end
end L2
namespace L2
open PySem PySem.Spec PyProof.Rows
section
variable {prog:Program}{w:World}{A:Around}{E:Value→Shared→Prop}{s:Shared}
end
end L2
namespace L2
open PySem PySem.Spec PyProof.Rows
section
variable {X:Cx}{K:PySem.W.Frag}
theorem vH {prog:Program}{w:World}:∀ {k:List Int} {us:List Value},Vals (k.map V.int) us→ItemsAre (intKind prog w) k us
 | [],_,.nil=>.nil
 | i::k,_,.cons r t=>by
  obtain ⟨tk,rfl⟩:=r
  exact .cons (intKind_is _ _ _ _) (vH t)
end
end L2
namespace L2
open PySem PySem.Spec PyProof.Rows
section
variable {X:Cx}{K:PySem.W.Frag}
end
end L2
namespace L2
open PySem PySem.Spec PyProof.Rows
section
variable {κ : Type} [DecidableEq κ]
def Ac (kvs:List (κ×V))(k:κ):Option V:=(kvs.find? fun kv=>decide (kv.1=k)).map (·.2)
def putK (kvs:List (κ×V))(k:κ)(v:V):List (κ×V):=
 if (kvs.any fun kv=>decide (kv.1=k))=true then kvs.map (fun kv=>if kv.1=k then (kv.1,v) else kv) else kvs++[(k,v)]
theorem vY {p:κ×V}{r:List (κ×V)}{k:κ}(e:p.1=k):Ac (p::r) k=some p.2:=by simp [Ac,List.find?_cons,e]
theorem vm {p:κ×V}{r:List (κ×V)}{k:κ}(e:¬ p.1=k):Ac (p::r) k=Ac r k:=by simp [Ac,List.find?_cons,e]
theorem uo (kvs:List (κ×V))(k:κ)(v:V):(putK kvs k v).length≤kvs.length+1:=by
 unfold putK
 split
 ·rw [List.length_map];omega
 ·rw [List.length_append,List.length_cons,List.length_nil];omega
theorem RelO.getD {o:Option V}{u:Option Value}{d:V}{d':Value}(r:RelO o u)(rd:RelV d d'):RelV (o.getD d) (u.getD d'):=by
 cases o with
 | none=>cases u with
  | none=>exact rd
  | some _=>exact (show False from r).elim
 | some _=>cases u with
  | none=>exact (show False from r).elim
  | some _=>exact r
theorem KV.val {kvs:List (κ×V)}{vs:List (κ×Value)}(r:KV kvs vs)(k:κ):RelO (Ac kvs k) (valueAt vs k):=by
 unfold KV at r
 induction r with
 | nil=>exact True.intro
 | @cons p q ps qs h t ih=>
  obtain ⟨h1,h2⟩:=h
  by_cases e:p.1=k
  ·have e':q.1=k:=h1.symm.trans e
   have b:valueAt (q::qs) k=some q.2:=by simp [valueAt,List.find?_cons,e']
   rw [vY e,b];exact h2
  ·have e':¬ q.1=k:=fun z=>e (h1.trans z)
   have b:valueAt (q::qs) k=valueAt qs k:=by simp [valueAt,List.find?_cons,e']
   rw [vm e,b];exact ih
theorem KV.any {kvs:List (κ×V)}{vs:List (κ×Value)}(r:KV kvs vs)(k:κ):(kvs.any fun kv=>decide (kv.1=k))=vs.any fun kv=>decide (kv.1=k):=by
 unfold KV at r
 induction r with
 | nil=>rfl
 | cons h t ih=>rw [List.any_cons,List.any_cons,ih,h.1]
theorem KV.repl {kvs:List (κ×V)}{vs:List (κ×Value)}(r:KV kvs vs)(k:κ){y:V}{u:Value}(ry:RelV y u) :
  KV (kvs.map fun kv=>if kv.1=k then (kv.1,y) else kv) (vs.map fun kv=>if kv.1=k then (kv.1,u) else kv):=by
 unfold KV at r ⊢
 induction r with
 | nil=>exact .nil
 | @cons p q ps qs h t ih=>
  rw [List.map_cons,List.map_cons]
  refine .cons ?_ ih
  obtain ⟨h1,h2⟩:=h
  by_cases e:p.1=k
  ·rw [if_pos e,if_pos (h1.symm.trans e)];exact ⟨h1,ry⟩
  ·rw [if_neg e,if_neg (fun z=>e (h1.trans z))];exact ⟨h1,h2⟩
theorem KV.put {kvs:List (κ×V)}{vs:List (κ×Value)}(r:KV kvs vs)(k:κ){y:V}{u:Value}(ry:RelV y u):KV (putK kvs k y) (stored vs k u):=by
 unfold putK stored
 rw [r.any k]
 by_cases e:(vs.any fun kv=>decide (kv.1=k))=true
 ·rw [if_pos e,if_pos e];exact r.repl k ry
 ·rw [if_neg e,if_neg e];exact Paired.snoc r ⟨rfl,ry⟩
theorem KV.length {kvs:List (κ×V)}{vs:List (κ×Value)}(r:KV kvs vs):kvs.length=vs.length:=Paired.length r
end
theorem kV_is {P:Program}{w:World}{k:Key}{u:Value}(r:RelV (kV k) u):(dB P w).is k u=true:=by
 cases k with
 | inl i=>obtain ⟨t,e⟩:=(show ∃ t,u=Value.int i t from r);subst e;exact uh P w i t
 | inr x=>obtain ⟨t,e⟩:=(show ∃ t,u=Value.str x t from r);subst e;exact tG P w x t
section
variable {P:Program}{w:World}{H:Hp}{h:Heap}{a:Addr}
theorem rd_of {u:HO}(ok:HOk P w H h)(e:Rd H a u):dF P w H h a u:=e.ok ok
theorem dk_rd {kvs:List (Key×V)}(ok:HOk P w H h)(e:Rd H a (.dK kvs)):kvs.length≤sizeLine∧(a==sysModules)=false∧∃ vs,KV kvs vs∧h.DictOf (dB P w) a vs:=
 show dF P w H h a (.dK kvs) from rd_of ok e
theorem dk_of {kvs:List (Key×V)}(ok:HOk P w H h)(e:H a=some (.dK kvs)):kvs.length≤sizeLine∧(a==sysModules)=false∧∃ vs,KV kvs vs∧h.DictOf (dB P w) a vs:=dk_rd ok (.inl e)
end
section
variable {X:Cx}{pins:List (Addr×Obj)}{σ : St}{H:Hp}{s:Shared}{a:Addr}{y v:V}{u r:Value}{o:Option V}{A:Around}{E:Value→Shared→Prop}
theorem Inv.big (I:Inv X pins σ H s):sysModules<s.heap.objs.size:=by
 have h:mainGlobals<s.heap.objs.size:=(I.mod.glob.keeps I.bk).lt
 exact Nat.lt_trans (by decide) h
theorem zX {h':Heap}{t':Nat}{ob:HO}(I:Inv X pins σ H s)(mu:Mut (H a))(hs:Heap.SameBut a s.heap h')(he:∃ q,h'.get? a=some q)(new:dF X.prog X.w (upd H a ob) h' a ob) :
  Inv X pins σ (upd H a ob) { s with heap:=h',toks:=t' }:=
 I.write (x:=a) (e:=a) mu (.inl rfl) (fun b q hb z=>(hs.2 b hb).trans z) he new
theorem dk_new {P:Program}{w:World}{H':Hp}{h':Heap}{kvs:List (Key×V)}{vs:List (Key×Value)}(z:kvs.length≤sizeLine)(hd:(a==sysModules)=false)(rel:KV kvs vs)(dd:h'.DictOf (dB P w) a vs) :
  dF P w H' h' a (.dK kvs):=⟨z,hd,vs,rel,dd⟩
end
section
variable {X:Cx}{pins:List (Addr×Obj)}{σ : St}{H:Hp}{s:Shared}{a:Addr}{kvs:List (Key×V)}{k:Key}{u:Value}{A:Around}{E:Value→Shared→Prop}
end
def NoSl (i:Expr):Prop:=∀ ov iv,subscripted i false ov iv=operate [ov,iv] (getItem ov iv)
theorem subD_of {prog:Program}{w:World}{A:Around}{E:Value→Shared→Prop}{s:Shared}{env:Env}{value slice:Expr}{pos:Pos}{T id:String}{Q:Value→Shared→Prop}
  (hl:typeLookup (.type T) "__getitem__" = pure (some (.builtin id))) (hs:NoSl slice)
  (h:wpAny (model prog w) A (eval value env) (fun o s₁=>wpAny (model prog w) A (eval slice env) (fun i s₂=>s₂.TypeIs o T∧wpAny (model prog w) A (getItem o i) Q E s₂) E s₁) E s) :
  wpAny (model prog w) A (eval (.Subscript value slice pos) env) Q E s:=by
 refine Subscript_ (wpAny_mono h (fun o s₁ h₁=>wpAny_mono h₁ (fun i s₂ h₂=>?_) fun _ _ x=>x) fun _ _ x=>x)
 obtain ⟨hT,h₂⟩:=h₂
 unfold subscriptTail
 refine wpAny_bind ?_
 rw [getitemInPython_of_ne hT.not_modules]
 refine wpAny_bind (wpAny_specialOf hT hl ?_)
 have fin:wpAny (model prog w) A (subscripted slice false o i) (fun r s₃=>wpAny (model prog w) A (letTemporaryGo value o r >>= fun _=>pure r) Q E s₃) E s₂:=by
  rw [hs o i]
  exact wpAny_operating (wpAny_mono h₂ (fun r s₃ h₃=>wpAny_bind (wpAny_letTemporaryGo (wpAny_pure h₃))) fun _ _ x=>x)
 first
  | exact wpAny_pure (wpAny_bind fin)
  | exact wpAny_bind (wpAny_pure (wpAny_bind fin))
  | exact wpAny_bind fin
section
variable {X:Cx}{o i e value:Expr}{pos pos' tpos:Pos}{td ty tv:TE}
end
theorem dk_empty {P:Program}{w:World}{H:Hp}(h:Heap)(hb:sysModules<h.objs.size):dF P w H (h.push { cls:=.type "dict",data:=.dict #[] }) h.objs.size (.dK []):=
 ⟨Nat.zero_le _,beq_eq_false_iff_ne.mpr (Ne.symm (Nat.ne_of_lt hb)),[],.nil,Heap.DictOf.new h⟩
theorem uP {P:Program}{w:World}{H:Hp}(h:Heap)(hb:sysModules<h.objs.size):dF P w H (h.push { cls:=.type "dict",data:=.dict #[] }) h.objs.size (.dT []):=
 ⟨Nat.zero_le _,beq_eq_false_iff_ne.mpr (Ne.symm (Nat.ne_of_lt hb)),[],.nil,_,#[],0,Heap.get?_push_size _ rfl,⟨rfl,rfl,rfl⟩,rfl,rfl,List.nodup_nil⟩
def tDNewK:TE:=fun _ H Q=>∀ p,H p=none→Q (.ref p) (upd H p (.dK []))
section
variable {X:Cx}{pos:Pos}
theorem pe_dnewK:PE X (.Dict [] [] pos) tDNewK:=fun pins s σ H Q I h=>
 wpAny_Dict_empty ⟨.ref s.heap.objs.size,_,I.laid (a:=s.heap.objs.size) (o:=.dK []) (t':=s.toks) (fun _ _ q=>Heap.get?_push_of_some _ q) (Nat.le_refl _) (dk_empty s.heap I.big),rfl,h _ (I.hok.fresh (Nat.le_refl _))⟩
end
end L2
namespace L2
open PySem PySem.Spec PyProof.Rows
def wKey:W→Option Key
 | .int i=>some (.inl i)
 | .str x=>some (.inr x)
 | _=>none
def nZ (kvs:List (Key×W))(k:Key):Option W:=(kvs.find? fun kv=>decide (kv.1=k)).map (·.2)
def putW (kvs:List (Key×W))(k:Key)(w:W):List (Key×W):=
 if (kvs.any fun kv=>decide (kv.1=k))=true then kvs.map (fun kv=>if kv.1=k then (kv.1,w) else kv) else kvs++[(k,w)]
section
variable {K:PySem.W.Frag}{H:Hp}{μ : Mu}{kvs:List (Key×W)}{kvv:List (Key×V)}{k:Key}{w:W}{v:V}
theorem oF (r:Rep K H μ w v)(e:wKey w=some k):v=kV k:=by
 cases w with
 | int i=>rw [Rep] at r;cases e;exact r
 | str x=>rw [Rep] at r;cases e;exact r
 | _=>cases e
theorem mY.val (r:mY K H μ kvs kvv)(e:nZ kvs k=some w):∃ v,Ac kvv k=some v∧Rep K H μ w v:=by
 unfold mY at r
 induction r with
 | nil=>cases e
 | @cons p q ps qs h t ih=>
  by_cases z:p.1=k
  ·have e1:nZ (p::ps) k=some p.2:=by simp [nZ,List.find?_cons,z]
   rw [e1] at e
   cases e
   exact ⟨q.2,vY (h.1.symm.trans z),h.2⟩
  ·have e1:nZ (p::ps) k=nZ ps k:=by simp [nZ,List.find?_cons,z]
   rw [e1] at e
   obtain ⟨v,a,b⟩:=ih e
   exact ⟨v,by rw [vm (fun y=>z (h.1.trans y))];exact a,b⟩
theorem mY.any (r:mY K H μ kvs kvv)(k:Key):(kvs.any fun kv=>decide (kv.1=k))=(kvv.any fun kv=>decide (kv.1=k)):=by
 unfold mY at r
 induction r with
 | nil=>rfl
 | @cons p q ps qs h t ih=>rw [List.any_cons,List.any_cons,ih,h.1]
theorem mY.repl (r:mY K H μ kvs kvv)(rv:Rep K H μ w v)(k:Key):mY K H μ (kvs.map fun kv=>if kv.1=k then (kv.1,w) else kv) (kvv.map fun kv=>if kv.1=k then (kv.1,v) else kv):=by
 unfold mY at r ⊢
 induction r with
 | nil=>exact .nil
 | @cons p q ps qs h t ih=>
  rw [List.map_cons,List.map_cons]
  refine .cons ?_ ih
  by_cases z:p.1=k
  ·rw [if_pos z,if_pos (h.1.symm.trans z)];exact ⟨h.1,rv⟩
  ·rw [if_neg z,if_neg (fun y=>z (h.1.trans y))];exact h
theorem mY.put (r:mY K H μ kvs kvv)(rv:Rep K H μ w v)(k:Key):mY K H μ (putW kvs k w) (putK kvv k v):=by
 unfold putW putK
 rw [←r.any k]
 by_cases e:(kvs.any fun kv=>decide (kv.1=k))=true
 ·rw [if_pos e,if_pos e];exact r.repl rv k
 ·rw [if_neg e,if_neg e];exact Paired.snoc r ⟨rfl,rv⟩
theorem Rel.dctAt {h:Gh}{n:Nat}(R:Rel K μ H h)(e:h.c n=some (.dct kvs)):∃ p kvv,μ.f n=some p∧H p=some (.dK kvv)∧mY K H μ kvs kvv:=by
 obtain ⟨p,e1,xs,e2,r⟩:=R.cel n _ e
 exact ⟨p,xs,e1,e2,r⟩
end
section
variable {X:Cx}{a b:Expr}{ma mb:ME}{pos:Pos}
def kDIx:M2:=fun x y h Q=>match x,wKey y with
 | .loc n,some k=>(match h.c n with
  | some (.dct kvs)=>(match nZ kvs k with
   | some w=>Q w h
   | none=>False)
  | _=>False)
 | _,_=>False
def rSetD:TSet:=fun o i v H N=>∃ a kvs k,o=.ref a∧H a=some (.dK kvs)∧i=kV k∧kvs.length<sizeLine∧N (upd H a (.dK (putK kvs k v)))
theorem set_dict:PSet X rSetD:=by
 intro pins s σ H o i v ov iv u Q I ro ri rv ⟨a,kvs,k,eo,e,ei,l,q⟩
 subst eo ei
 obtain rfl:ov=Value.ref a:=ro
 obtain ⟨z,hd,vs,rel,dd⟩:=dk_of I.hok e
 have hz:vs.length≤sizeLine:=by rw [←rel.length];exact z
 have hl:(putK kvs k v).length≤sizeLine:=by have:=uo kvs k v;omega
 refine wpAny_setItem_pairs (hsz:=hz) (kV_is ri) dd fun h' dd' hs=>⟨_,?_,q⟩
 have he:∃ q,h'.get? a=some q:=let ⟨q,_,_,hq,_⟩:=dd';⟨q,hq⟩
 exact zX I (by rw [e];exact True.intro) hs he (dk_new hl hd (rel.put k rv) dd')
def sSetD:MSet:=fun o i w h N=>match o,wKey i with
 | .loc n,some k=>(match h.c n with
  | some (.dct kvs)=>iz (kvs.length+1) (N (h.set n (.dct (putW kvs k w))))
  | _=>False)
 | _,_=>False
theorem sim_setD {K:PySem.W.Frag}:yG K rSetD sSetD:=by
 intro H μ h o i v wo wi w Nw N R ro ri r m k
 unfold sSetD at m
 split at m
 ·rename_i n kk e
  split at m
  ·rename_i kvs ec
   obtain ⟨p,kvv,hp,hx,rf⟩:=R.dctAt ec
   rw [Rep] at ro
   obtain ⟨p',e1,hp'⟩:=ro
   have ep:p'=p:=by rw [hp] at hp';exact (Option.some.inj hp').symm
   subst ep
   refine ⟨p',kvv,kk,e1,hx,oF ri e,?_,k _ ⟨μ,_,(Ex.write R hp).ext,R.write (c:=.dct (putW kvs kk w)) hp trivial ⟨_,bA,?_⟩,m.ok.2⟩⟩
   ·have:=m.ok.1
    rw [Paired.length rf] at this
    omega
   ·refine mY.put ?_ ((Ex.write R hp).ext.r _ _ r) kk
    exact Paired.mapP rf fun _ _ z=>⟨z.1,(Ex.write R hp).ext.r _ _ z.2⟩
  ·exact m.elim
 ·exact m.elim
inductive DDs (X:Cx):List (Option Expr)→List Expr→List (Key×ME)→Prop
 | nil:DDs X [] [] []
 | cons {x:Str} {j pos} {v:Expr} {m:ME} {ks:List (Option Expr)} {vs:List Expr} {r:List (Key×ME)} (h:DE X v m) (t:DDs X ks vs r):DDs X (some (.Constant (.str x) j pos)::ks) (v::vs) ((.inr x,m)::r)
end
inductive TabE (w:World) (K:PySem.W.Frag):List DictEntry→List (Key×W)→Prop
 | nil:TabE w K [] []
 | cons {x:Str} {t} {v:V} {u:Value} {d:W} {es:List DictEntry} {tbl:List (Key×W)} (r:RelV v u) (q:∀ H μ,Rep K H μ d v) (h:TabE w K es tbl):TabE w K (⟨PyData.keyHash w.params x,.str x t,u⟩::es) ((.inr x,d)::tbl)
section
variable {X:Cx}{b:Expr}{mb:ME}{pos p:Pos}{x:Str}{a:Addr}{tbl:List (Key×W)}
end
end L2
namespace L2
open PySem PySem.Spec PyProof.Rows
section
variable {X:Cx}{pos p p':Pos}{x:Str}{a:Addr}{tbl:List (Key×W)}
end
end L2
namespace L2
open PySem PySem.Spec PyProof.Rows
section
variable {X:Cx}
end
end L2
namespace L2
open PySem PySem.Spec PyProof.Rows
section
variable {X:Cx}{K:PySem.W.Frag}{H:Hp}{μ : Mu}{h:Gh}
end
end L2
namespace L2
open PySem PySem.Spec PyProof.Rows
section
variable {X:Cx}{a b c:Expr}{ma mb mc:ME}{pos:Pos}
end
end L2
namespace L2
open PySem PySem.Spec PyProof.Rows
section
variable {K:PySem.W.Frag}{H:Hp}{μ : Mu}{fs:List (Str×W)}{fvs:List (Str×V)}{f:Str}{w:W}{v:V}
end
section
variable {X:Cx}{e o value:Expr}{es:List Expr}{ma mo mv:ME}{mr:MA}{f:Str}{C:Addr}{pos pos' apos:Pos}
end
end L2
namespace L2
open PySem PySem.Spec PyProof.Rows
section
variable {prog:Program}{w:World}{A:Around}{E:Value→Shared→Prop}{s:Shared}
theorem lri_len:typeLookup (.type "list_reverseiterator") "__len__" = pure none:=by rw [typeLookup_type,builtinLookup_eq_fast];kernel_rfl
theorem lri_hint:typeLookup (.type "list_reverseiterator") "__length_hint__" = pure (some (.builtin "list_reverseiterator.__length_hint__")):=by rw [typeLookup_type,builtinLookup_eq_fast];kernel_rfl
theorem hint_rev {r:Addr}{Q:Bool→Shared→Prop}(hT:s.TypeIs (.ref r) "list_reverseiterator")(h:Q false s):wpAny (model prog w) A (Builtin.List.listLengthHint (.ref r)) Q E s:=by
 unfold Builtin.List.listLengthHint
 refine wpAny_bind (wpAny_specialOf hT lri_len ?_)
 dsimp only
 refine wpAny_ite_split (fun hab=>absurd hab (by decide)) (fun _=>?_)
 refine wpAny_ite_split (fun hab=>absurd hab (by decide)) (fun _=>?_)
 refine wpAny_bind (wpAny_specialOf hT lri_hint ?_)
 generalize hid:("list_reverseiterator.__length_hint__" : String)=id0
 wp_delta
 rw [show splitId id0=some ("list_reverseiterator", "__length_hint__") from by subst hid;decide +kernel]
 subst hid
 refine wpAny_bind (wpAny_isInstance (T := "list_reverseiterator") (b:=true) hT (by rw [isSubtype_type];kernel_rfl) ?_)
 refine wpAny_ite_split (fun hab=>absurd hab (by decide)) (fun _=>?_)
 refine wpAny_ite_split (fun _=>?_) (fun hab=>absurd (by decide +kernel) hab)
 refine wpAny_ite_split (fun hab=>absurd hab (by decide +kernel)) (fun _=>?_)
 exact wpAny_pure h
theorem wU {R:Result→Shared→Prop}{r l:Addr}{items:Array Value}(hh:A.handled=none)(hit:s.heap.IsRevIter r l ((items.size:Int) - 1))(hl:s.heap.IsList l items)(hne:l≠r)(S:Addr)(hSr:S≠r)(hSl:S≠l)(res:Value)(c₀ : Nat)(hS:s.heap.get? S=some { cls:=.type "list",data:=.seq #[] c₀ })
  (hR:∀ h' tk acc' c',(∀ b o,b≠S→b≠r→s.heap.get? b=some o→h'.get? b=some o)→h'.get? S=some { cls:=.type "list",dict:=none,data:=.seq acc' c',slots:=#[] }→ItemsOf (fun i v=>items[items.size - 1 - i]?=some v) acc' items.size→R (.ok (.ret res)) { s with heap:=h',toks:=tk }) (hn:items.size≤sizeLine) :
  wpAny (model prog w) A.in1 (Builtin.List.listExtendWith (.ref S) (.ref r) res)
   (fun fin s'=>match fin with | .done f=>R (.ok f) s' | .again c'=>c'.quiet=true∧codeAny (model prog w) A c' R s') (fun e s'=>R (.error e) s') s:=by
 have hSf:S∉[r,l]:=by simp only [List.mem_cons,List.not_mem_nil,or_false,not_or];exact ⟨hSr,hSl⟩
 have W:=Walks.listRev (prog:=prog) (w:=w) (A:=A.in1) hh r l hne items
 have st:(fun (i:Nat) (h:Heap)=>i≤items.size∧h.IsRevIter r l ((items.size:Int) - 1 - (i:Int))∧h.IsList l items) 0 s.heap:=⟨Nat.zero_le _,by simpa using hit,hl⟩
 have key:∀ (h:Heap) (c₁ tk:Nat),(fun (i:Nat) (h:Heap)=>i≤items.size∧h.IsRevIter r l ((items.size:Int) - 1 - (i:Int))∧h.IsList l items) 0 h→(∀ b o,b≠S→s.heap.get? b=some o→h.get? b=some o) →
   h.get? S=some { cls:=.type "list",data:=.seq #[] c₁ }→codeAny (model prog w) A (.builtin "list.extend.loop" ⟨[.ref S,.ref r,res],[]⟩) R { s with heap:=h,toks:=tk }:=by
  intro h c₁ tk hst hk hS₁
  refine codeAny_extend_loopS W.toS hn S hSf res items.size 0 _ #[] c₁ rfl (Nat.zero_le _) hst hS₁ (ItemsOf.nil _) fun s' acc' c' hm hS' hacc=>?_
  rw [Moved.eq_with hm]
  refine hR s'.heap s'.toks acc' c' (fun b o hb hr e=>hm.heap b o (fun hmem=>?_) (hk b o hb e)) hS' hacc
  rcases List.mem_cons.mp hmem with e' | hmem
  ·exact hb e'
  ·exact hr (List.mem_singleton.mp hmem)
 unfold Builtin.List.listExtendWith
 refine wpAny_bind (wpAny_typeOf (T := "list_reverseiterator") hit.typeIs ?_)
 have h1:Builtin.List.listSameRef (.ref S) (.ref r)=false:=by simp [Builtin.List.listSameRef,hSr]
 have n1:(Value.type "list_reverseiterator"==Value.type "list")=false:=by decide +kernel
 have n2:(Value.type "list_reverseiterator"==Value.type "tuple")=false:=by decide +kernel
 simp only [h1,n1,n2,Bool.or_false,Bool.false_eq_true,if_false]
 refine wpAny_bind (wpAny_pyIter_revIter hit ?_)
 refine wpAny_bind (wpAny_holding (hint_rev hit.typeIs ?_))
 refine wpAny_ite_split (fun _=>?_) (fun _=>wpAny_pure ⟨plainId_quiet PySem.F.plain_extend_loop _,key _ c₀ _ st (fun b o _ e=>e) hS⟩)
 refine wpAny_bind (wpAny_rule ?_)
 refine wpAny_bind ?_
 show wpAny _ _ (updateSeq S (·.push .none) >>= fun _=>updateSeq S (·.pop)) _ _ _
 refine wpAny_bind (wpAny_updateSeq hS rfl ?_)
 have hS₂:=Heap.get?_update_self (Obj.mapSeq (·.push Value.none)) hS rfl
 refine wpAny_updateSeq (hz:=by seq_fits) hS₂ rfl ?_
 have hS₃:=Heap.get?_update_self (Obj.mapSeq (·.pop)) hS₂ rfl
 refine wpAny_pure ⟨plainId_quiet PySem.F.plain_extend_loop _,key _ _ _ ?_ (fun b o hb e=>?_) hS₃⟩
 ·refine W.frame 0 _ _ st fun b hb o e=>?_
  have hbS:b≠S:=fun h=>hSf (h ▸ hb)
  exact (Heap.get?_update_other _ _ (Ne.symm hbS)).trans ((Heap.get?_update_other _ _ (Ne.symm hbS)).trans e)
 ·exact (Heap.get?_update_other _ _ (Ne.symm hb)).trans ((Heap.get?_update_other _ _ (Ne.symm hb)).trans e)
end
theorem vals_rev:∀ {xs:List V} {us:List Value},Vals xs us→Vals xs.reverse us.reverse:=by
 intro xs us r
 induction r with
 | nil=>exact .nil
 | cons h t ih=>
  rw [List.reverse_cons,List.reverse_cons]
  exact Vals.append ih (.cons h .nil)
theorem vD {K:PySem.W.Frag}{H:Hp}{μ : Mu}:∀ {ws:List W} {vs:List V},aL K H μ ws vs→aL K H μ ws.reverse vs.reverse
 | [],vs,r=>by rw [aL] at r;subst r;exact aL.nil
 | w::ws,vs,r=>by
  rw [aL] at r
  obtain ⟨v,vs',e,rv,r⟩:=r
  subst e
  rw [List.reverse_cons,List.reverse_cons]
  exact aL.append (vD r) (aL.cons rv aL.nil)
section
variable {X:Cx}
end
section
variable {X:Cx}{e:Expr}{me:ME}{x:Str}{a:Addr}{tbl:List (Key×W)}{p pos:Pos}
end
end L2
namespace L2
open PySem PySem.Spec PyProof.Rows
section
variable {X:Cx}{Γ : St→Prop}{C:Addr}{o e:Expr}{es:List Expr}{mo:ME}{mr:MA}{pos apos:Pos}
end
end L2
namespace L2
open PySem PySem.Spec PyProof.Rows
def tU (kvs:List (List Int×W))(k:List Int):Option W:=(kvs.find? fun x=>decide (x.1=k)).map (·.2)
def putT (kvs:List (List Int×W))(k:List Int)(w:W):List (List Int×W):=if (tU kvs k).isSome then kvs.map (fun x=>if x.1=k then (x.1,w) else x) else kvs++[(k,w)]
section
variable {X:Cx}{pins:List (Addr×Obj)}{σ : St}{H:Hp}{s:Shared}{K:PySem.W.Frag}{μ : Mu}
def xJ (K:PySem.W.Frag)(H:Hp)(xs:List (List Int×Addr×Value)):Prop:=∀ x∈xs,SqT K H x.2.1 (x.1.map V.int)
theorem nQ {b:Addr}{k:List Int}(I:Inv X pins σ H s)(hb:SqT X.K H b (k.map V.int)):(tupleKind (intKind X.prog X.w)).is s.heap k b:=by
 obtain ⟨its2,r2,⟨o,ho,hcl,n,hd⟩,_⟩:=I.tuple hb
 exact ⟨o,_,_,ho,hcl,hd,vH r2⟩
theorem pB {a:Addr}{xs:List (List Int×Addr×Value)}(I:Inv X pins σ H s)(e:H a=some (.ext (sO a xs)))(hk:xJ X.K H xs):xs.length≤sizeLine∧(a==sysModules)=false∧s.heap.DictOfH (tupleKind (intKind X.prog X.w)) a xs:=by
 obtain ⟨⟨z,y,nd,o,es,ep,h1,h2,h3,h4⟩,_⟩:=I.hok a _ e
 exact ⟨z,y,o,es,ep,h1,h2,h3,h4,fun x hx=>nQ I (hk x hx),nd⟩
theorem uf {P:Program}{w:World}{H':Hp}{a:Addr}{xs:List (List Int×Addr×Value)}{h:Heap}(z:xs.length≤sizeLine)(y:(a==sysModules)=false)(d:h.DictOfH (tupleKind (intKind P w)) a xs):dF P w H' h a (.ext (sO a xs)):=by
 obtain ⟨o,es,ep,h1,h2,h3,h4,_,h5⟩:=d
 exact ⟨⟨z,y,h5,o,es,ep,h1,h2,h3,h4⟩,⟨o,h1⟩,fun g1 g2 ⟨z,y,nd,o,es,ep,a1,a2,a3,a4⟩ k=>⟨z,y,nd,o,es,ep,k o a1,a2,a3,a4⟩⟩
theorem at_cons {x:List Int×Addr×Value}{xs:List (List Int×Addr×Value)}{k:List Int}:atKey (x::xs) k=if x.1=k then some x.2 else atKey xs k:=by
 unfold atKey
 rw [List.find?_cons]
 by_cases e:x.1=k
 ·rw [if_pos e];simp [e]
 ·rw [if_neg e];simp [e]
theorem vZ {x:List Int×W}{kvs:List (List Int×W)}{k:List Int}:tU (x::kvs) k=if x.1=k then some x.2 else tU kvs k:=by
 unfold tU
 rw [List.find?_cons]
 by_cases e:x.1=k
 ·rw [if_pos e];simp [e]
 ·rw [if_neg e];simp [e]
theorem mz:∀ {kvs:List (List Int×W)} {xs:List (List Int×Addr×Value)} {vs:List V},kvs.map (·.1)=xs.map (·.1)→Vals vs (xs.map (·.2.2))→aL K H μ (kvs.map (·.2)) vs→∀ k:List Int,
  (∀ w,tU kvs k=some w→∃ p v,atKey xs k=some p∧RelV v p.2∧Rep K H μ w v)∧(tU kvs k).isSome=(atKey xs k).isSome
 | [],[],_,_,_,_,k=>⟨fun w e=>by simp [tU] at e,rfl⟩
 | [],_::_,_,e,_,_,_=>by simp at e
 | _::_,[],_,e,_,_,_=>by simp at e
 | x::kvs,y::xs,vs,e,hv,hr,k=>by
  rw [List.map_cons,List.map_cons] at e
  obtain ⟨e1,e2⟩:=List.cons.inj e
  rw [List.map_cons,aL] at hr
  obtain ⟨v,vs',rfl,r1,r2⟩:=hr
  rw [List.map_cons] at hv
  cases hv with
  | cons a b=>
   obtain ⟨i1,i2⟩:=mz e2 b r2 k
   rw [vZ,at_cons,e1]
   by_cases z:y.1=k
   ·rw [if_pos z,if_pos z]
    exact ⟨fun w ew=>by cases ew;exact ⟨_,v,rfl,a,r1⟩,rfl⟩
   ·rw [if_neg z,if_neg z]
    exact ⟨i1,i2⟩
theorem Rel.dttAt {h:Gh}{n:Nat}{kvs:List (List Int×W)}(R:Rel K μ H h)(e:h.c n=some (.dtt kvs)):∃ p xs vs,μ.f n=some p∧H p=some (.ext (sO p xs))∧kvs.map (·.1)=xs.map (·.1)∧Vals vs (xs.map (·.2.2))∧aL K H μ (kvs.map fun x=>W.tup (x.1.map W.int)) (xs.map fun x=>V.ref x.2.1)∧aL K H μ (kvs.map (·.2)) vs:=by
 obtain ⟨p,e1,xs,vs,a,b,c,d,f⟩:=R.cel n _ e
 exact ⟨p,xs,vs,e1,a,b,c,d,f⟩
theorem wu:∀ {k:List Int} {vs:List V},aL K H μ (k.map W.int) vs→vs=k.map V.int
 | [],_,h=>by rw [List.map_nil,aL] at h;exact h
 | i::k,_,h=>by
  rw [List.map_cons,aL] at h
  obtain ⟨v,vs,rfl,r,t⟩:=h
  rw [Rep] at r
  rw [r,wu t]
  rfl
theorem rep_key {k:List Int}{b:Addr}(r:Rep K H μ (.tup (k.map .int)) (.ref b)):SqT K H b (k.map V.int):=by
 rw [Rep] at r
 obtain ⟨p,xs,e,hs,hr⟩:=r
 cases e
 rw [wu hr] at hs
 exact hs
theorem d9:∀ {kvs:List (List Int×W)} {xs:List (List Int×Addr×Value)},kvs.map (·.1)=xs.map (·.1)→aL K H μ (kvs.map fun x=>W.tup (x.1.map W.int)) (xs.map fun x=>V.ref x.2.1)→xJ K H xs
 | [],[],_,_=>fun x hx=>nomatch hx
 | [],_::_,e,_=>by simp at e
 | _::_,[],e,_=>by simp at e
 | x::kvs,y::xs,e,hr=>by
  rw [List.map_cons,List.map_cons] at e
  obtain ⟨e1,e2⟩:=List.cons.inj e
  rw [List.map_cons,List.map_cons,aL] at hr
  obtain ⟨v,vs',ev,r1,r2⟩:=hr
  obtain ⟨rfl,rfl⟩:=List.cons.inj ev
  intro z hz
  rcases List.mem_cons.mp hz with rfl | hz
  ·rw [e1] at r1
   exact rep_key r1
  ·exact d9 e2 r2 z hz
end
section
variable {X:Cx}{a b o i:Expr}{ma mb:ME}{td ty:TE}{pos:Pos}
def tKey:W→Option (List Int)
 | .tup ws=>oA ws
 | _=>none
def zj:M2:=fun x y h Q=>match x,tKey y with
 | .loc n,some k=>(match h.c n with
  | some (.dtt kvs)=>(match tU kvs k with
   | some w=>Q w h
   | none=>False)
  | _=>False)
 | _,_=>False
theorem pe_dgetT (hu:X.A.units+30<cLine)(ho:PE X o td)(hi:PE X i ty)(hs:NoSl i):PE X (.Subscript o i pos) (fun σ H Q=>td σ H fun x H1=>ty σ H1 fun y H2=>∃ a xs k b p v,x=.ref a∧H2 a=some (.ext (sO a xs))∧xJ X.K H2 xs∧y=.ref b∧SqT X.K H2 b (k.map V.int)∧atKey xs k=some p∧RelV v p.2∧Q v H2):=by
 intro pins s σ H Q I h
 refine subD_of PySem.F.slot_dict_getitem.lookup hs (thn (ho pins s σ H _ I h) fun u s1 ⟨x,H1,I1,rx,q1⟩=>thn (hi pins s1 σ H1 _ I1 q1) fun iv s2 ⟨y,H2,I2,ry,a,xs,k,b,p,v,ex,e,hk,ey,hb,l,rv,q2⟩=>?_)
 subst ex ey
 obtain rfl:u=Value.ref a:=rx
 obtain rfl:iv=Value.ref b:=ry
 obtain ⟨z,hd,dd⟩:=pB I2 e hk
 exact ⟨dd.typeIs,wpAny_getItem_heap (tupleKind_room_in1 (by omega)) (nQ I2 hb) dd l ⟨v,H2,I2.tok _,rv,q2⟩⟩
theorem jl {K:PySem.W.Frag}{H:Hp}{μ : Mu}{y:W}{v:V}{k:List Int}(r:Rep K H μ y v)(e:tKey y=some k):∃ b,v=.ref b∧SqT K H b (k.map V.int):=by
 unfold tKey at e
 split at e
 ·rw [Rep] at r
  obtain ⟨p,xs,e1,hs,hr⟩:=r
  rw [vK hr e] at hs
  exact ⟨p,e1,hs⟩
 ·cases e
theorem d_tix (hu:X.A.units+30<cLine)(ha:DE X a ma)(hb:DE X b mb)(hs:NoSl b):DE X (.Subscript a b pos) (mOp zj ma mb):=(pe_dgetT hu ha hb hs).of fun σ H Q h=>two h fun {H2 μ2 h2 x y wx wy Qw} R r1 r2 m k=>by
 unfold zj at m
 split at m
 ·rename_i n kk e
  split at m
  ·rename_i kvs ec
   split at m
   ·rename_i w ev
    obtain ⟨p,xs,vs,hp,hx,e1,e2,r3,r4⟩:=R.dttAt ec
    rw [Rep] at r1
    obtain ⟨p',ex,hp'⟩:=r1
    have ep:p'=p:=by rw [hp] at hp';exact (Option.some.inj hp').symm
    subst ep
    obtain ⟨b',eb,hb'⟩:=jl r2 e
    obtain ⟨q,v,h3,h4,h5⟩:=(mz e1 e2 r4 kk).1 w ev
    exact ⟨p',xs,kk,b',q,v,ex,hx,d9 e1 r3,eb,hb',h3,h4,k _ _ ⟨μ2,w,h2,.refl,R,h5,m⟩⟩
   ·exact m.elim
  ·exact m.elim
 ·exact m.elim
theorem rA {k:List Int}{v:Value}:∀ {xs:List (List Int×Addr×Value)},(xs.map (putAt k v)).map (·.1)=xs.map (·.1)
 | []=>rfl
 | x::xs=>by
  rw [List.map_cons,List.map_cons,List.map_cons,rA]
  congr 1
  unfold putAt
  by_cases e:x.1=k
  ·rw [if_pos e]
  ·rw [if_neg e]
theorem rP {k:List Int}{v:Value}:∀ {xs:List (List Int×Addr×Value)},(xs.map (putAt k v)).map (fun x=>V.ref x.2.1)=xs.map (fun x=>V.ref x.2.1)
 | []=>rfl
 | x::xs=>by
  rw [List.map_cons,List.map_cons,List.map_cons,rP]
  congr 1
  unfold putAt
  by_cases e:x.1=k
  ·rw [if_pos e]
  ·rw [if_neg e]
def rSetT (K:PySem.W.Frag):TSet:=fun o i v H N=>∃ a xs k b,o=.ref a∧H a=some (.ext (sO a xs))∧xJ K H xs∧i=.ref b∧SqT K H b (k.map V.int)∧xs.length<sizeLine∧∀ u,RelV v u→N (upd H a (.ext (sO a (storedH xs k b u))))
theorem xH {xs:List (List Int×Addr×Value)}{k:List Int}{b:Addr}{u:Value}:(storedH xs k b u).length≤xs.length+1:=by
 unfold storedH
 split
 ·rw [List.length_map];omega
 ·rw [List.length_append];exact Nat.le_refl _
theorem rZ (hu:X.A.units+30<cLine):PSet X (rSetT X.K):=by
 intro pins s σ H o i v ov iv u Q I ro ri rv ⟨a,xs,k,b,eo,e,hk,ei,hb,l,q⟩
 subst eo ei
 obtain rfl:ov=Value.ref a:=ro
 obtain rfl:iv=Value.ref b:=ri
 obtain ⟨z,hd,dd⟩:=pB I e hk
 refine wpAny_setItem_heap (hsz:=z) (tupleKind_room_in1 (by omega)) (nQ I hb) dd fun h' dd' hs=>⟨_,?_,q u rv⟩
 have he:∃ q,h'.get? a=some q:=let ⟨q,_,_,hq,_⟩:=dd';⟨q,hq⟩
 exact zX I (by rw [e];exact True.intro) hs he (uf (by have:=xH (xs:=xs) (k:=k) (b:=b) (u:=u);omega) hd dd')
def mNewT:ME:=fun _ h Q=>Q (.loc h.nx) (h.new (.dtt []))
theorem pe_dnewT2:PE X (.Dict [] [] pos) (fun _ H Q=>∀ p,H p=none→Q (.ref p) (upd H p (.ext (sO p [])))):=fun pins s σ H Q I h=>
 wpAny_Dict_empty ⟨.ref s.heap.objs.size,_,I.laid (a:=s.heap.objs.size) (o:=.ext (sO s.heap.objs.size [])) (t':=s.toks) (fun _ _ q=>Heap.get?_push_of_some _ q) (Nat.le_refl _) (by
  obtain ⟨_,y,_⟩:=uP (P:=X.prog) (w:=X.w) (H:=H) s.heap I.big
  exact uf (P:=X.prog) (w:=X.w) (Nat.zero_le _) y ⟨_,#[],0,Heap.get?_push_size _ rfl,⟨rfl,rfl,rfl⟩,rfl,rfl,(fun x hx=>absurd hx List.not_mem_nil),List.nodup_nil⟩),rfl,h _ (I.hok.fresh (Nat.le_refl _))⟩
theorem d_newT:DE X (.Dict [] [] pos) mNewT:=pe_dnewT2.of fun σ H Q ⟨μ,g,σw,Qw,R,S,m,q⟩ p hp=>by
 have R1:Rel X.K (μ.put g.nx p) (upd H p (.ext (sO p []))) (g.new (.dtt [])):=R.newCell hp trivial ⟨[],[],bA,rfl,.nil,by rw [List.map_nil,List.map_nil,aL],by rw [List.map_nil,aL]⟩
 exact q _ _ ⟨_,.loc g.nx,_,(Ex.newCell R hp).ext,R1,by rw [Rep];exact ⟨p,rfl,Mu.put_same⟩,m⟩
def wL:MSet:=fun o i w h N=>match o,tKey i with
 | .loc n,some k=>(match h.c n with
  | some (.dtt kvs)=>iz (kvs.length+1) (N (h.set n (.dtt (putT kvs k w))))
  | _=>False)
 | _,_=>False
theorem zZ {K:PySem.W.Frag}{H:Hp}{μ : Mu}{k:List Int}{w:W}{v:V}{u:Value}(rv:RelV v u)(r:Rep K H μ w v):∀ {kvs:List (List Int×W)} {xs:List (List Int×Addr×Value)} {vs:List V},kvs.map (·.1)=xs.map (·.1)→Vals vs (xs.map (·.2.2))→aL K H μ (kvs.map (·.2)) vs →
  ∃ vs',Vals vs' ((xs.map (putAt k u)).map (·.2.2))∧aL K H μ ((kvs.map (fun x=>if x.1=k then (x.1,w) else x)).map (·.2)) vs'
 | [],[],_,_,_,_=>⟨[],.nil,by rw [List.map_nil,List.map_nil,aL]⟩
 | [],_::_,_,e,_,_=>by simp at e
 | _::_,[],_,e,_,_=>by simp at e
 | x::kvs,y::xs,vs,e,hv,hr=>by
  rw [List.map_cons,List.map_cons] at e
  obtain ⟨e1,e2⟩:=List.cons.inj e
  rw [List.map_cons,aL] at hr
  obtain ⟨v1,vs',rfl,r1,r2⟩:=hr
  rw [List.map_cons] at hv
  cases hv with
  | cons a b=>
   obtain ⟨vs2,i1,i2⟩:=zZ rv r e2 b r2
   by_cases z:y.1=k
   ·refine ⟨v::vs2,?_,?_⟩
    ·rw [List.map_cons,List.map_cons]
     refine .cons ?_ i1
     unfold putAt
     rw [if_pos z]
     exact rv
    ·rw [List.map_cons,List.map_cons,aL]
     refine ⟨v,vs2,rfl,?_,i2⟩
     rw [if_pos (e1.trans z)]
     exact r
   ·refine ⟨v1::vs2,?_,?_⟩
    ·rw [List.map_cons,List.map_cons]
     refine .cons ?_ i1
     unfold putAt
     rw [if_neg z]
     exact a
    ·rw [List.map_cons,List.map_cons,aL]
     refine ⟨v1,vs2,rfl,?_,i2⟩
     rw [if_neg (fun q=>z (e1.symm.trans q))]
     exact r1
theorem zO {k:List Int}{w:W}:∀ {kvs:List (List Int×W)},(kvs.map (fun x=>if x.1=k then (x.1,w) else x)).map (·.1)=kvs.map (·.1)
 | []=>rfl
 | x::kvs=>by
  rw [List.map_cons,List.map_cons,List.map_cons,zO]
  congr 1
  by_cases e:x.1=k
  ·rw [if_pos e]
  ·rw [if_neg e]
theorem put_key {k:List Int}{w:W}:∀ {kvs:List (List Int×W)},(kvs.map (fun x=>if x.1=k then (x.1,w) else x)).map (fun x=>W.tup (x.1.map W.int))=kvs.map (fun x=>W.tup (x.1.map W.int))
 | []=>rfl
 | x::kvs=>by
  rw [List.map_cons,List.map_cons,List.map_cons,put_key]
  congr 1
  by_cases e:x.1=k
  ·rw [if_pos e]
  ·rw [if_neg e]
theorem aL.snoc {K:PySem.W.Frag}{H:Hp}{μ : Mu}{w:W}{v:V}(r:Rep K H μ w v):∀ {ws:List W} {vs:List V},aL K H μ ws vs→aL K H μ (ws++[w]) (vs++[v])
 | [],_,h=>by
  rw [aL] at h
  rw [h,List.nil_append,List.nil_append,aL]
  exact ⟨v,[],rfl,r,by rw [aL]⟩
 | a::ws,_,h=>by
  rw [aL] at h
  obtain ⟨b,bs,rfl,h1,h2⟩:=h
  rw [List.cons_append,List.cons_append,aL]
  exact ⟨b,bs++[v],rfl,h1,aL.snoc r h2⟩
theorem lg {K:PySem.W.Frag}{H:Hp}{μ : Mu}:∀ k:List Int,aL K H μ (k.map W.int) (k.map V.int)
 | []=>by rw [List.map_nil,List.map_nil,aL]
 | i::k=>by
  rw [List.map_cons,List.map_cons,aL]
  exact ⟨_,_,rfl,by rw [Rep],lg k⟩
theorem uW {K:PySem.W.Frag}:yG K (rSetT K) wL:=by
 intro H μ h o i v wo wi w Nw N R ro ri r m k
 unfold wL at m
 split at m
 ·rename_i n kk e
  split at m
  ·rename_i kvs ec
   obtain ⟨p,xs,vs,hp,hx,e1,e2,r3,r4⟩:=R.dttAt ec
   rw [Rep] at ro
   obtain ⟨p',ex,hp'⟩:=ro
   have ep:p'=p:=by rw [hp] at hp';exact (Option.some.inj hp').symm
   subst ep
   obtain ⟨b,eb,hb⟩:=jl ri e
   have hlen:kvs.length=xs.length:=by have:=congrArg List.length e1;rwa [List.length_map,List.length_map] at this
   have we:=fun (o:HO)=>(Ex.write (o:=o) R hp).ext
   have rk:Rep K H μ (.tup (kk.map W.int)) (.ref b):=by rw [Rep];exact ⟨b,_,rfl,hb,lg kk⟩
   refine ⟨p',xs,kk,b,ex,hx,d9 e1 r3,eb,hb,by have:=m.ok.1;omega,fun u ru=>k _ ⟨μ,_,we _,R.write (c:=.dtt (putT kvs kk w)) hp trivial ?_,m.ok.2⟩⟩
   have hs:=(mz e1 e2 r4 kk).2
   cases ea:atKey xs kk with
   | some q=>
    rw [ea] at hs
    obtain ⟨vs',i1,i2⟩:=zZ (k:=kk) ru r e1 e2 r4
    rw [storedH_old ea]
    unfold putT
    rw [if_pos (show (tU kvs kk).isSome=true from hs)]
    exact ⟨_,vs',bA,zO.trans (e1.trans rA.symm),i1,by rw [put_key,rP];exact (we _).s r3,(we _).s i2⟩
   | none=>
    rw [ea] at hs
    rw [storedH_new ea]
    unfold putT
    rw [if_neg (show ¬ (tU kvs kk).isSome=true from by rw [hs];decide)]
    refine ⟨_,vs++[v],bA,?_,?_,?_,?_⟩
    ·rw [List.map_append,List.map_append,e1];rfl
    ·rw [List.map_append];exact Vals.append e2 (.cons ru .nil)
    ·rw [List.map_append,List.map_append];exact (we _).s (aL.snoc rk r3)
    ·rw [List.map_append];exact (we _).s (aL.snoc r r4)
  ·exact m.elim
 ·exact m.elim
end
section
variable {prog:Program}{w:World}{A:Around}{E:Value→Shared→Prop}{s:Shared}
end
section
variable {X:Cx}
end
end L2
namespace L2
open PySem PySem.Spec PyProof.Rows
def ps (h:Int):Nat→Nat×Nat
 | 0=>(SetTable.bits h % 32,SetTable.bits h)
 | n+1=>SetTable.leap 31 (ps h n).1 (ps h n).2
def liv (o:Array (Option Nat)):List (Nat×Nat):=(List.range 32).filterMap fun j=>(o.getD j none).map (j,·)
structure Lay (o:Array (Option Nat)) (k:Nat):Prop where
 sz:o.size=32
 len:(liv o).length=k
 low:∀ p,p∈liv o→p.2<k
section
variable {prog:Program}{w:World}{A:Around}{E:Value→Shared→Prop}{s:Shared}{a:Addr}
end
end L2
namespace L2
open PySem PySem.Spec PyProof.Rows
section
variable {prog:Program}{w:World}{A:Around}{E:Value→Shared→Prop}{s:Shared}{m:Nat}{ka:Nat→List Int}{ad:Nat→Addr}{t:SetTable}{a b:Addr}{k:List Int}
end
end L2
namespace L2
open PySem PySem.Spec PyProof.Rows
section
variable {prog:Program}{w:World}{A:Around}{E:Value→Shared→Prop}{R:Result→Shared→Prop}
end
end L2
namespace L2
open PySem PySem.Spec PyProof.Rows
section
variable {prog:Program}{w:World}{A:Around}{E:Value→Shared→Prop}{s:Shared}
end
end L2
namespace L2
open PySem PySem.Spec PyProof.Rows
section
variable {X:Cx}{K:PySem.W.Frag}
end
end L2
namespace L2
open PySem PySem.Spec PyProof.Rows
section
variable {X:Cx}{K:PySem.W.Frag}{o e:Expr}{mo:ME}{apos cpos:Pos}
end
end L2
namespace L2
open PySem PySem.Spec PyProof.Rows
section
variable {prog:Program}{w:World}{A:Around}{s:Shared}{K:PySem.W.Frag}{x C:Addr}{R:Result→Shared→Prop}
end
end L2
namespace L2
open PySem PySem.Spec PyProof.Rows
section
variable {prog:Program}{w:World}{A:Around}{E:Value→Shared→Prop}{s:Shared}{K:PySem.W.Frag}{x dx C f:Addr}{mA:Str→Option Value}{name:Str}{v:Value}
end
section
variable {prog:Program}{w:World}{A:Around}{E:Value→Shared→Prop}{s:Shared}{K:PySem.W.Frag}{x D:Addr}{ox:Obj}
end
end L2
namespace L2
open PySem PySem.Spec PyProof.Rows
section
variable {prog:Program}{w:World}{A:Around}{E:Value→Shared→Prop}{h:Heap}{g:Array GenState}{d:Drawn}{t:Nat}{os:OsState}
variable {nm q:Str}{C N:Addr}{bs bm bmB:List Value}{hdct:Bool}{sn:List Str}{sub:List Value}{ab:Bool}{col:Option Bool}{dd:Option Addr}{k0 k1 k2 k3 k5:Option Value}{B newId initId:String}{K:PySem.W.Frag}{f:Addr}
end
end L2
namespace L2
open PySem PySem.Spec PyProof.Rows
section
variable {prog:Program}{w:World}{M:Model}{A:Around}{E:Value→Shared→Prop}{s:Shared}{env:Env}{K:PySem.W.Frag}{f:Addr}
variable {nm q:Str}{C N:Addr}{bs bm bmB:List Value}{hdct:Bool}{sn:List Str}{sub:List Value}{ab:Bool}{col:Option Bool}{dd:Option Addr}{k0 k1 k2 k3 k5:Option Value}{B newId initId:String}
end
end L2
namespace L2
open PySem PySem.Spec PyProof.Rows
section
variable {X:Cx}{o value:Expr}{f:Str}{C:Addr}{pos pos':Pos}{ta tv:TE}
end
section
variable {X:Cx}{pins:List (Addr×Obj)}{σ : St}{H:Hp}{s:Shared}{e:Addr}
end
end L2
namespace L2
open PySem PySem.Spec PyProof.Rows
section
variable {X:Cx}{pins:List (Addr×Obj)}{σ : St}{H:Hp}{s:Shared}{C fi:Addr}{x f:Str}{np cpos pos:Pos}{e:Expr}{t:TA}{k:Nat}{fd:FuncData}{ps:List Str}
end
section
variable {X:Cx}{Γ : St→Prop}{e:Expr}{pos:Pos}{ma:ME}
end
section
variable {X:Cx}{e:Expr}{f:Str}{pos:Pos}{ma:ME}
end
end L2
namespace L2
open PySem PySem.Spec PyProof.Rows
section
variable {X:Cx}
end
end L2
namespace L2
open PySem PySem.Spec PyProof.Rows
section
variable {X:Cx}{Γ : St→Prop}{tg:Expr}
end
end L2
namespace L2
open PySem PySem.Spec PyProof.Rows
section
variable {X:Cx}{K:PySem.W.Frag}
def enW:Nat→List W→List W
 | _,[]=>[]
 | i,a::as=>.tup [.int (i:Int),a]::enW (i+1) as
theorem tL:∀ {as:List W} {j i:Nat} {w:W},(enW j as)[i]?=some w→∃ a,as[i]?=some a∧w=.tup [.int ((j+i:Nat):Int),a]
 | [],_,_,_,e=>by simp [enW] at e
 | a::as,j,0,w,e=>by
  have e:some (W.tup [.int (j:Int),a])=some w:=e
  exact ⟨a,rfl,(Option.some.inj e).symm⟩
 | a::as,j,i+1,w,e=>by
  obtain ⟨x,h1,h2⟩:=tL (as:=as) (j:=j+1) (i:=i) (w:=w) (by simpa [enW] using e)
  exact ⟨x,by simpa using h1,by rw [h2,show j+1+i=j+(i+1) by omega]⟩
theorem qw:∀ {as:List W} {j:Nat},(enW j as).length=as.length
 | [],_=>rfl
 | a::as,j=>by rw [enW,List.length_cons,qw,List.length_cons]
end
end L2
namespace L2
open PySem PySem.Spec PyProof.Rows
section
variable {X:Cx}{mr:MA}{pos p:Pos}{e:Expr}{es:List Expr}{k:Nat}{fs:List (Addr×MSp)}
inductive VFs (X:Cx) (k:Nat):List (Addr×MSp)→Prop
 | nil:VFs X k []
 | cons {f:Addr} {fd:FuncData} {ps:List Str} {ms:MSp} {fs:List (Addr×MSp)} (F:fD X.prog X.w X.K X.mg X.base CX0 k f fd ps (lift X.K ms)) (hk:PySem.W.keepIn X.K (.ref f)=true) (hb:Binds X.K fd ps []) (r:VFs X k fs):VFs X k ((f,ms)::fs)
end
end L2
namespace L2
open PySem PySem.Spec PyProof.Rows
def Cmp (P:Program)(w:World)(A:Around)(s:Shared)(kd:SortKind)(rk:Value→Nat)(good:Value→Prop):Prop:=
 ∀ (E:Value→Shared→Prop) (Q:Bool→Shared→Prop) (x y:Value),good x→good y→Q (decide (rk x<rk y)) s→wpAny (model P w) A (keyLt' kd x y) Q E s
section
variable {P:Program}{w:World}{A:Around}{E:Value→Shared→Prop}{s:Shared}{kd:SortKind}{rk:Value→Nat}{good:Value→Prop}
def Rk (rk:Value→Nat)(a:Array Keyed)(i:Nat):Nat:=match a[i]? with
 | some p=>rk p.1
 | none=>0
def aX (rk:Value→Nat)(a:Array Keyed)(i j:Nat):Prop:=∀ p q,i≤p→p<q→q<j→Rk rk a p<Rk rk a q
structure Keys (rk:Value→Nat) (good:Value→Prop) (a:Array Keyed):Prop where
 good:∀ p∈a.toList,good p.1
 nd:(a.toList.map fun p=>rk p.1).Nodup
theorem uz {a b:Array Keyed}{i j:Nat}(h:a[i]?=b[j]?):Rk rk a i=Rk rk b j:=by unfold Rk;rw [h]
theorem Keys.perm {a b:Array Keyed}(h:Keys rk good a)(p:b.Perm a):Keys rk good b:=by
 have pl:=Array.perm_iff_toList_perm.mp p
 exact ⟨fun x hx=>h.good x (pl.mem_iff.mp hx),(pl.map _).nodup_iff.mpr h.nd⟩
theorem Keys.ne {a:Array Keyed}(h:Keys rk good a){i j:Nat}(hi:i<a.size)(hj:j<a.size)(e:Rk rk a i=Rk rk a j):i=j:=by
 have e1:∀ k (hk:k<a.size),Rk rk a k=rk (a.toList[k]'(by simpa using hk)).1:=fun k hk=>by
  unfold Rk
  rw [Array.getElem?_eq_getElem hk]
  rfl
 rw [e1 i hi,e1 j hj] at e
 refine (List.getElem_inj h.nd).mp (?_:(a.toList.map fun p=>rk p.1)[i]'(by simpa using hi)=(a.toList.map fun p=>rk p.1)[j]'(by simpa using hj))
 simpa using e
structure SOk (kd:SortKind) (rk:Value→Nat) (good:Value→Prop) (st:SortSt):Prop where
 kind:kindOf st=kd
 failed:failedOf st=none
 keys:Keys rk good (arrOf st)
theorem SOk.arr {st:SortSt}(h:SOk kd rk good st){b:Array Keyed}(p:b.Perm (arrOf st)):SOk kd rk good (setArr st b):=⟨h.kind,h.failed,h.keys.perm p⟩
theorem bL {a:Array Keyed}{i:Nat}{st:SortSt}{Q:Keyed→SortSt→Prop}(hi:i<a.size)(q:Q a[i] st):wpS (model P w) A E s (elem' a i) Q st:=by
 rw [elem'_eq,Array.getElem?_eq_getElem hi]
 exact wpS_pure q
theorem w_lt (C:Cmp P w A s kd rk good){x y:Keyed}{st:SortSt}{Q:Option Bool→SortSt→Prop}(hk:kindOf st=kd)(hx:good x.1)(hy:good y.1)(q:Q (some (decide (rk x.1<rk y.1))) st):wpS (model P w) A E s (lt' x y) Q st:=by
 rw [lt'_eq]
 refine wpS_bind (wpS_get ?_)
 rw [hk]
 exact wpS_bind (wpS_lift (wpAny_attempt (C _ _ _ _ hx hy ⟨rfl,wpS_pure q⟩)))
theorem cT {a:Array Keyed}{i:Nat}(hi:i<a.size):Rk rk a i=rk a[i].1:=by
 unfold Rk
 rw [Array.getElem?_eq_getElem hi]
theorem nG (C:Cmp P w A s kd rk good){i j:Nat}{st:SortSt}{Q:Option Bool→SortSt→Prop}(ok:SOk kd rk good st)(hi:i<(arrOf st).size)(hj:j<(arrOf st).size)(q:Q (some (decide (Rk rk (arrOf st) i<Rk rk (arrOf st) j))) st):wpS (model P w) A E s (ltAt' i j) Q st:=by
 rw [ltAt'_eq]
 refine wpS_bind (wpS_get (wpS_bind (bL hi (wpS_bind (bL hj (w_lt C ok.kind ?_ ?_ ?_))))))
 ·exact ok.keys.good _ (by simp)
 ·exact ok.keys.good _ (by simp)
 ·rw [←cT (rk:=rk) hi,←cT (rk:=rk) hj]
  exact q
structure Within (a b:Array Keyed) (lo hi:Nat):Prop where
 perm:b.Perm a
 out:∀ k,k<lo∨hi≤k→b[k]?=a[k]?
theorem Within.size {a b:Array Keyed}{lo hi:Nat}(h:Within a b lo hi):b.size=a.size:=h.perm.size_eq
theorem Within.refl (a:Array Keyed)(lo hi:Nat):Within a a lo hi:=⟨Array.Perm.refl _,fun _ _=>rfl⟩
theorem Within.trans {a b c:Array Keyed}{lo hi:Nat}(h:Within a b lo hi)(g:Within b c lo hi):Within a c lo hi:=⟨g.perm.trans h.perm,fun k hk=>(g.out k hk).trans (h.out k hk)⟩
theorem Within.wide {a b:Array Keyed}{lo hi lo' hi':Nat}(h:Within a b lo hi)(h1:lo'≤lo)(h2:hi≤hi'):Within a b lo' hi':=⟨h.perm,fun k hk=>h.out k (by omega)⟩
theorem iQ (st:SortSt):setArr st (arrOf st)=st:=by cases st;rfl
theorem lQ {a:Array Keyed}{lo n:Nat}(h:aX rk a lo (lo+n))(h1:1≤n)(g:Rk rk a (lo+n - 1)<Rk rk a (lo+n)):aX rk a lo (lo+n+1):=fun p q h2 h3 h4=>by
 by_cases c:q<lo+n
 ·exact h p q h2 h3 c
 ·have e:q=lo+n:=by omega
  subst e
  by_cases c2:p=lo+n - 1
  ·rw [c2];exact g
  ·exact Nat.lt_trans (h p (lo+n - 1) h2 (by omega) (by omega)) g
theorem w_count (C:Cmp P w A s kd rk good){lo nrem:Nat}{st:SortSt}{Q:Option Nat→SortSt→Prop}(ok:SOk kd rk good st)(h1:1≤nrem)(hz:lo+nrem≤(arrOf st).size)
  (q:∀ (n:Nat) (b:Array Keyed),1≤n→n≤nrem→Within (arrOf st) b lo (lo+nrem)→aX rk b lo (lo+n)→(aX rk (arrOf st) lo (lo+nrem)→n=nrem∧b=arrOf st)→Q (some n) (setArr st b)) :
  wpS (model P w) A E s (countRun' lo nrem) Q st:=by
 rw [countRun'_eq]
 have ne:∀ {i j:Nat},i<(arrOf st).size→j<(arrOf st).size→i≠j→Rk rk (arrOf st) i≠Rk rk (arrOf st) j:=fun hi hj c e=>c (ok.keys.ne hi hj e)
 refine wpS_bind (wpS_mono (wpS_forRange
  (I:=fun x c st'=>st'=st∧c=(none,x)∧aX rk (arrOf st) lo (lo+x)∧x≤nrem)
  (Q:=fun c st'=>st'=st∧∃ n,c=(none,n)∧1≤n∧n≤nrem∧aX rk (arrOf st) lo (lo+n)∧(n=nrem∨Rk rk (arrOf st) (lo+n)<Rk rk (arrOf st) (lo+n - 1))) ?_ ?_ ⟨rfl,rfl,fun p q a b c=>by omega,h1⟩) ?_)
 ·rintro x c st' hx1 hx2 ⟨rfl,rfl,hr,_⟩
  dsimp only
  refine wpS_bind (nG C ok (by omega) (by omega) ?_)
  by_cases c:Rk rk (arrOf st') (lo+x)<Rk rk (arrOf st') (lo+x - 1)
  ·rw [decide_eq_true c]
   exact wpS_pure ⟨rfl,x,rfl,hx1,by omega,hr,.inr c⟩
  ·rw [decide_eq_false c]
   have:=ne (i:=lo+x) (j:=lo+x - 1) (by omega) (by omega) (by omega)
   exact wpS_pure ⟨rfl,rfl,lQ hr hx1 (by omega),by omega⟩
 ·rintro c st' ⟨rfl,rfl,hr,hx⟩
  have e:max 1 nrem=nrem:=by omega
  rw [e] at hr ⊢
  exact ⟨rfl,nrem,rfl,h1,Nat.le_refl _,hr,.inl rfl⟩
 ·rintro c st' ⟨rfl,n,rfl,n1,n2,hr,hd⟩
  dsimp only
  by_cases en:n=nrem
  ·subst en
   simp only [beq_self_eq_true,if_true]
   have:=q n (arrOf st') n1 (Nat.le_refl _) (.refl _ _ _) hr fun _=>⟨rfl,rfl⟩
   rw [iQ] at this
   exact wpS_pure this
  ·have hd:=hd.resolve_left en
   have not:¬ aX rk (arrOf st') lo (lo+nrem):=fun r=>by
    have:=r (lo+n - 1) (lo+n) (by omega) (by omega) (by omega)
    omega
   rw [if_neg (by simpa using en)]
   by_cases c1:n>1
   ·rw [if_pos c1]
    have hrise:=hr lo (lo+n - 1) (Nat.le_refl _) (by omega) (by omega)
    refine wpS_bind (nG C ok (by omega) (by omega) ?_)
    rw [decide_eq_true hrise]
    have:=q n (arrOf st') n1 n2 (.refl _ _ _) hr fun r=>absurd r not
    rw [iQ] at this
    exact wpS_pure this
   ·rw [if_neg c1]
    have e1:n=1:=by omega
    subst e1
    refine wpS_bind (wpS_lift (wpAny_rule ⟨rfl,?_⟩))
    refine wpS_bind (wpS_mono (wpS_forRange
     (I:=fun x c st2=>st2=st'∧c=(none,x,0)∧(∀ u v,lo≤u→u<v→v<lo+x→Rk rk (arrOf st') v<Rk rk (arrOf st') u)∧x≤nrem)
     (Q:=fun c st2=>st2=st'∧∃ m,c=(none,m,0)∧2≤m∧m≤nrem∧∀ u v,lo≤u→u<v→v<lo+m→Rk rk (arrOf st') v<Rk rk (arrOf st') u) ?_ ?_ ⟨rfl,rfl,fun u v h2 h3 h4=>?_,by omega⟩) ?_)
    ·rintro x c st2 hx1 hx2 ⟨rfl,rfl,hf,_⟩
     dsimp only
     refine wpS_bind (nG C ok (by omega) (by omega) ?_)
     by_cases c:Rk rk (arrOf st2) (lo+x)<Rk rk (arrOf st2) (lo+x - 1)
     ·rw [decide_eq_true c]
      refine wpS_pure ⟨rfl,rfl,fun u v h2 h3 h4=>?_,by omega⟩
      by_cases c2:v<lo+x
      ·exact hf u v h2 h3 c2
      ·have ev:v=lo+x:=by omega
       subst ev
       by_cases c3:u=lo+x - 1
       ·rw [c3];exact c
       ·exact Nat.lt_trans c (hf u (lo+x - 1) h2 (by omega) (by omega))
     ·rw [decide_eq_false c]
      have:=ne (i:=lo+x) (j:=lo+x - 1) (by omega) (by omega) (by omega)
      refine wpS_bind (nG C ok (by omega) (by omega) ?_)
      rw [decide_eq_true (show Rk rk (arrOf st2) (lo+x - 1)<Rk rk (arrOf st2) (lo+x) by omega)]
      exact wpS_pure ⟨rfl,x,rfl,by omega,by omega,hf⟩
    ·rintro c st2 ⟨rfl,rfl,hf,hx⟩
     have e:max (1+1) nrem=nrem:=by omega
     rw [e] at hf ⊢
     exact ⟨rfl,nrem,rfl,by omega,Nat.le_refl _,hf⟩
    ·have eu:u=lo+1 - 1:=by omega
     have ev:v=lo+1:=by omega
     rw [eu,ev]
     exact hd
    ·rintro c st2 ⟨rfl,m,rfl,m1,m2,hf⟩
     dsimp only
     rw [if_neg (Nat.lt_irrefl 0)]
     refine wpS_bind (wpS_reverse ?_)
     have hb:∀ k,Rk rk (mirror (arrOf st2) lo (lo+m) ((lo+m - lo) / 2)) k=if lo≤k∧k<lo+m then Rk rk (arrOf st2) (lo+(lo+m) - 1 - k) else Rk rk (arrOf st2) k:=fun k=>by
      have e:=getElem?_mirror_all (xs:=arrOf st2) (i:=lo) (j:=lo+m) (by omega) k
      split
      ·rename_i c;rw [if_pos c] at e;exact uz e
      ·rename_i c;rw [if_neg c] at e;exact uz e
     have hw:Within (arrOf st2) (mirror (arrOf st2) lo (lo+m) ((lo+m - lo) / 2)) lo (lo+nrem):=⟨mirror_perm _ _ _ _,fun k hk=>by
      rw [getElem?_mirror_all (by omega),if_neg (by omega)]⟩
     have hrb:aX rk (mirror (arrOf st2) lo (lo+m) ((lo+m - lo) / 2)) lo (lo+m):=fun u v h2 h3 h4=>by
      rw [hb,hb,if_pos (by omega),if_pos (by omega)]
      exact hf _ _ (by omega) (by omega) (by omega)
     generalize mirror (arrOf st2) lo (lo+m) ((lo+m - lo) / 2)=b at hb hw hrb
     have ok2:SOk kd rk good (setArr st2 b):=ok.arr hw.perm
     have hz2:(arrOf (setArr st2 b)).size=(arrOf st2).size:=hw.size
     refine wpS_bind (wpS_mono (wpS_forRange
      (I:=fun x c st3=>st3=setArr st2 b∧c=(none,x)∧aX rk b lo (lo+x)∧x≤nrem)
      (Q:=fun c st3=>st3=setArr st2 b∧∃ n,c=(none,n)∧1≤n∧n≤nrem∧aX rk b lo (lo+n)) ?_ ?_ ⟨rfl,rfl,hrb,m2⟩) ?_)
     ·rintro x c st3 hx1 hx2 ⟨rfl,rfl,hr3,_⟩
      dsimp only
      refine wpS_bind (nG C ok2 (by omega) (by omega) ?_)
      by_cases c:Rk rk (arrOf (setArr st2 b)) (lo+x)<Rk rk (arrOf (setArr st2 b)) (lo+x - 1)
      ·rw [decide_eq_true c]
       exact wpS_pure ⟨rfl,x,rfl,by omega,by omega,hr3⟩
      ·rw [decide_eq_false c]
       have:Rk rk b (lo+x)≠Rk rk b (lo+x - 1):=fun e=>absurd (ok2.keys.ne (i:=lo+x) (j:=lo+x - 1) (by omega) (by omega) e) (by omega)
       have c:¬ Rk rk b (lo+x)<Rk rk b (lo+x - 1):=c
       exact wpS_pure ⟨rfl,rfl,lQ hr3 (by omega) (by omega),by omega⟩
     ·rintro c st3 ⟨rfl,rfl,hr3,hx⟩
      have e:max m nrem=nrem:=by omega
      rw [e] at hr3 ⊢
      exact ⟨rfl,nrem,rfl,h1,Nat.le_refl _,hr3⟩
     ·rintro c st3 ⟨rfl,n,rfl,n1,n2,hr3⟩
      exact wpS_pure (q n b n1 n2 hw hr3 fun r=>absurd r not)
end
end L2
namespace L2
open PySem PySem.Spec PyProof.Rows
section
variable {P:Program}{w:World}{A:Around}{E:Value→Shared→Prop}{s:Shared}{kd:SortKind}{rk:Value→Nat}{good:Value→Prop}
theorem w_bins (C:Cmp P w A s kd rk good){lo n ok':Nat}{st:SortSt}{Q:Bool→SortSt→Prop}(ok:SOk kd rk good st)(h1:1≤ok')(hn:ok'≤n)(hz:lo+n≤(arrOf st).size)(hr:aX rk (arrOf st) lo (lo+ok'))
  (q:∀ b,Within (arrOf st) b lo (lo+n)→aX rk b lo (lo+n)→Q true (setArr st b)):wpS (model P w) A E s (binarySort' lo n ok') Q st:=by
 rw [binarySort'_eq]
 refine wpS_bind (wpS_mono (wpS_forRange
  (I:=fun x c st'=>c=(none,())∧∃ b,st'=setArr st b∧Within (arrOf st) b lo (lo+n)∧aX rk b lo (lo+x)∧x≤n)
  (Q:=fun c st'=>c=(none,())∧∃ b,st'=setArr st b∧Within (arrOf st) b lo (lo+n)∧aX rk b lo (lo+n)) ?_ ?_ ⟨rfl,arrOf st,(iQ st).symm,.refl _ _ _,by rw [Nat.max_eq_left h1];exact hr,by omega⟩) ?_)
 ·rintro x c st' hx1 hx2 ⟨rfl,b,rfl,hw,hb,_⟩
  have okb:SOk kd rk good (setArr st b):=ok.arr hw.perm
  have zb:(arrOf (setArr st b)).size=(arrOf st).size:=hw.size
  have zb':b.size=(arrOf st).size:=hw.size
  have ne:∀ {i j:Nat},i<b.size→j<b.size→i≠j→Rk rk b i≠Rk rk b j:=fun hi hj c e=>c (okb.keys.ne hi hj e)
  refine wpS_bind (wpS_mono (wpS_forRange
   (I:=fun y c st2=>st2=setArr st b∧∃ l r,c=(none,l,r)∧l≤r∧r≤x∧r - l≤x - y∧(∀ p,lo≤p→p<lo+l→Rk rk b p<Rk rk b (lo+x))∧∀ p,lo+r≤p→p<lo+x→Rk rk b (lo+x)<Rk rk b p)
   (Q:=fun c st2=>st2=setArr st b∧∃ l,c=(none,l,l)∧l≤x∧(∀ p,lo≤p→p<lo+l→Rk rk b p<Rk rk b (lo+x))∧∀ p,lo+l≤p→p<lo+x→Rk rk b (lo+x)<Rk rk b p) ?_ ?_ ⟨rfl,0,x,rfl,Nat.zero_le _,Nat.le_refl _,by omega,fun p h2 h3=>by omega,fun p h2 h3=>by omega⟩) ?_)
  ·rintro y c st2 hy1 hy2 ⟨rfl,l,r,rfl,a1,a2,a3,a4,a5⟩
   dsimp only
   by_cases c:l≥r
   ·rw [if_pos c]
    have e:l=r:=by omega
    subst e
    exact wpS_pure ⟨rfl,l,rfl,a2,a4,a5⟩
   ·rw [if_neg c]
    refine wpS_bind (nG C okb (by omega) (by omega) ?_)
    by_cases c2:Rk rk (arrOf (setArr st b)) (lo+x)<Rk rk (arrOf (setArr st b)) (lo+(l+r) / 2)
    ·rw [decide_eq_true c2]
     refine wpS_pure ⟨rfl,l,(l+r) / 2,rfl,by omega,by omega,by omega,a4,fun p h2 h3=>?_⟩
     have c2:Rk rk b (lo+x)<Rk rk b (lo+(l+r) / 2):=c2
     by_cases c3:p=lo+(l+r) / 2
     ·rw [c3];exact c2
     ·exact Nat.lt_trans c2 (hb _ p (by omega) (by omega) (by omega))
    ·rw [decide_eq_false c2]
     have c2:¬ Rk rk b (lo+x)<Rk rk b (lo+(l+r) / 2):=c2
     have:=ne (i:=lo+x) (j:=lo+(l+r) / 2) (by omega) (by omega) (by omega)
     refine wpS_pure ⟨rfl,(l+r) / 2+1,r,rfl,by omega,by omega,by omega,fun p h2 h3=>?_,a5⟩
     by_cases c3:p=lo+(l+r) / 2
     ·rw [c3];omega
     ·have:=hb p (lo+(l+r) / 2) (by omega) (by omega) (by omega)
      omega
  ·rintro c st2 ⟨rfl,l,r,rfl,a1,a2,a3,a4,a5⟩
   have e:l=r:=by omega
   subst e
   exact ⟨rfl,l,rfl,a2,a4,a5⟩
  ·rintro c st2 ⟨rfl,l,rfl,a2,a4,a5⟩
   dsimp only
   rw [moveDown'_eq]
   refine wpS_bind (wpS_modify ?_)
   have hbu:∀ k,(bubble b (lo+x) (lo+x - (lo+l)))[k]?=if k=lo+l then b[lo+x]? else if lo+l<k∧k≤lo+x then b[k - 1]? else b[k]?:=fun k=>by
    have:=getElem?_bubble (xs:=b) (src:=lo+x) (by omega) (lo+x - (lo+l)) (by omega) k
    rw [show lo+x - (lo+x - (lo+l))=lo+l by omega] at this
    exact this
   have hR:∀ k,Rk rk (bubble b (lo+x) (lo+x - (lo+l))) k=if k=lo+l then Rk rk b (lo+x) else if lo+l<k∧k≤lo+x then Rk rk b (k - 1) else Rk rk b k:=fun k=>by
    have e:=hbu k
    split
    ·rename_i c;rw [if_pos c] at e;exact uz e
    ·rename_i c
     rw [if_neg c] at e
     split
     ·rename_i c2;rw [if_pos c2] at e;exact uz e
     ·rename_i c2;rw [if_neg c2] at e;exact uz e
   refine wpS_pure ⟨rfl,bubble b (lo+x) (lo+x - (lo+l)),rfl,hw.trans ⟨bubble_perm _ _ _,fun k hk=>?_⟩,fun u v h2 h3 h4=>?_,by omega⟩
   ·rw [hbu,if_neg (by omega),if_neg (by omega)]
   ·rw [hR,hR]
    by_cases c1:u=lo+l
    ·rw [if_pos c1]
     by_cases c2:v=lo+l
     ·omega
     ·rw [if_neg c2,if_pos (by omega)]
      exact a5 _ (by omega) (by omega)
    ·rw [if_neg c1]
     by_cases c3:lo+l<u∧u≤lo+x
     ·rw [if_pos c3,if_neg (by omega),if_pos (by omega)]
      exact hb _ _ (by omega) (by omega) (by omega)
     ·rw [if_neg c3]
      by_cases c2:v=lo+l
      ·rw [if_pos c2]
       exact a4 _ (by omega) (by omega)
      ·rw [if_neg c2]
       by_cases c4:lo+l<v∧v≤lo+x
       ·rw [if_pos c4]
        by_cases c5:u=v - 1
        ·omega
        ·exact hb _ _ (by omega) (by omega) (by omega)
       ·rw [if_neg c4]
        exact hb _ _ (by omega) (by omega) (by omega)
 ·rintro c st' ⟨rfl,b,rfl,hw,hb,hx⟩
  rw [show max (max ok' 1) n=n by omega] at hb
  exact ⟨rfl,b,rfl,hw,hb⟩
 ·rintro c st' ⟨rfl,b,rfl,hw,hb⟩
  exact wpS_pure (q b hw hb)
end
end L2
namespace L2
open PySem PySem.Spec PyProof.Rows
section
variable {P:Program}{w:World}{A:Around}{E:Value→Shared→Prop}{s:Shared}{kd:SortKind}{rk:Value→Nat}{good:Value→Prop}
end
end L2
namespace L2
open PySem PySem.Spec PyProof.Rows
def yc (h:Heap)(d:Addr)(es:Array DictEntry)(ep:Nat):Prop:=∃ o,h.get? d=some o∧o.ExactDict∧o.data=.dict es ep
theorem yc.of {h h':Heap}{d:Addr}{es:Array DictEntry}{ep:Nat}(x:yc h d es ep)(e:∀ o,h.get? d=some o→h'.get? d=some o):yc h' d es ep:=by
 obtain ⟨o,g,r⟩:=x
 exact ⟨o,e o g,r⟩
theorem yc.ty {s:Shared}{d:Addr}{es:Array DictEntry}{ep:Nat}(x:yc s.heap d es ep):s.TypeIs (.ref d) "dict":=by
 obtain ⟨o,g,r,_⟩:=x
 exact ⟨o,g,r.1⟩
section
variable {P:Program}{w:World}{A:Around}{E:Value→Shared→Prop}{s:Shared}{d it:Addr}{es:Array DictEntry}{ep i:Nat}
theorem iter_raw {Q:Value→Shared→Prop}(nd:(d==sysModules)=false)(x:yc s.heap d es ep)
  (q:Q (.ref s.heap.objs.size) { s with heap:=s.heap.push { cls:=.type "dict_keyiterator",data:=.fields #[.ref d,.int 0 0,.int es.size 0,.int ep 0] } }):wpAny (model P w) A (pyIter (.ref d)) Q E s:=by
 have gT:=x.ty
 obtain ⟨o,g,gc,gd⟩:=x
 refine wpAny_pyIter_slot gT F.slot_dict_iter (wpAny_call_entry F.slot_dict_iter gT F.entry_dict_iter ?_ (F.args_dict_iter_1 _))
 unfold Builtin.«dict.__iter__» Builtin.Dict.dictSlotNone
 refine wpAny_bind (wpAny_bind (wpAny_notOrdered_dict gT ?_))
 show wpAny _ _ (pure (Value.ref d)) _ _ s
 refine wpAny_pure ?_
 show wpAny _ _ (Builtin.Dict.showsAll d >>= _) _ _ s
 unfold Builtin.Dict.showsAll
 rw [nd,if_neg Bool.false_ne_true]
 refine wpAny_bind (wpAny_pure (wpAny_bind (wpAny_dictEntries g gd (wpAny_bind (wpAny_dictEpoch g gd ?_)))))
 refine wpAny_bind (wpAny_newObj_type (wpAny_pure ⟨_,rfl, "dict_keyiterator",_,⟨_,Heap.get?_push_size _ rfl,rfl⟩,F.slot_dict_keyiterator_next.lookup,?_⟩))
 simpa [rawInt] using q
theorem next_raw {Q:Option Value→Shared→Prop}(gi:s.heap.IsKeyIter it d i es.size ep)(x:yc s.heap d es ep)(hi:i<es.size)
  (q:∀ h',h'.IsKeyIter it d (i+1) es.size ep→Heap.SameBut it s.heap h'→Q (some es[i].key) { s with heap:=h' }):wpAny (model P w) A (pyNext (.ref it)) Q E s:=by
 obtain ⟨u,gu,gc,gd⟩:=id gi
 obtain ⟨o,g,_,ge⟩:=x
 unfold pyNext
 refine wpAny_bind (wpAny_attempt (wpAny_callSpecial?_slot (name:=Str.ofString "__next__") gi.typeIs F.slot_dict_keyiterator_next (wpAny_call_entry F.slot_dict_keyiterator_next gi.typeIs F.entry_dict_keyiterator_next ?_ (F.args_dict_keyiterator_next_1 _))))
 refine wpAny_bind (wpAny_pure (wpAny_bind (wpAny_bind ?_)))
 first
  | refine wpAny_bind (wpAny_typeNameOfWhole_keyiter gi.typeIs (wpAny_pure ?_))
  | refine wpAny_bind (wpAny_typeNameOf_keyiter gi.typeIs (wpAny_pure ?_))
 refine wpAny_bind (wpAny_fieldsOf gu gd ?_)
 have ow:Builtin.Dict_items.ownsTuple "dict_keyiterator" = false:=by decide
 simp only [ow,Bool.false_eq_true,if_false]
 show wpAny _ _ (if (Value.ref d==Value.none)=true then _ else _) _ _ s
 rw [if_neg (by exact Bool.false_ne_true)]
 refine wpAny_bind (wpAny_pure (wpAny_bind (wpAny_dictEntries g ge ?_)))
 rw [if_neg (by simp)]
 refine wpAny_bind (wpAny_pure (wpAny_bind (wpAny_dictEpoch g ge ?_)))
 rw [if_neg (by simp)]
 refine wpAny_pure ?_
 simp only [show ¬ ((i:Int)<0) from by omega,if_false,Int.toNat_natCast,Array.getElem?_eq_getElem hi]
 refine wpAny_bind ?_
 first
  | refine wpAny_bind (wpAny_typeNameOfWhole_keyiter gi.typeIs (wpAny_pure ?_))
  | refine wpAny_bind (wpAny_typeNameOf_keyiter gi.typeIs (wpAny_pure ?_))
 refine wpAny_bind (wpAny_isOneOf_keyiter gi.typeIs ?_)
 show wpAny _ _ (setField (.ref it) 1 (rawInt ((i:Int)+1)) >>= _) _ _ s
 refine wpAny_bind (wpAny_setField gu gd (by simp) ?_)
 have g2:(s.heap.update it (Obj.mapFields (·.setIfInBounds 1 (rawInt ((i:Int)+1))))).IsKeyIter it d (i+1) es.size ep:=by
  refine ⟨_,Heap.get?_update_self _ gu (Obj.isFreed_of_fields (Obj.data_mapFields gd _)),(Obj.cls_mapFields ..).trans gc,?_⟩
  rw [Obj.data_mapFields gd]
  simp [rawInt]
 refine wpAny_bind (wpAny_holding (wpAny_bind (wpAny_isOneOf_keyiter (s:={ s with heap:=s.heap.update it (Obj.mapFields (·.setIfInBounds 1 (rawInt ((i:Int)+1)))) }) g2.typeIs ?_)))
 show wpAny _ _ (pure es[i].key) _ _ _
 exact wpAny_pure (wpAny_pure ⟨_,rfl,wpAny_pure (q _ g2 (Heap.SameBut.update ..))⟩)
theorem stop_raw {Q:Option Value→Shared→Prop}(hh:A.handled=none)(gi:s.heap.IsKeyIter it d es.size es.size ep)(x:yc s.heap d es ep)(q:∀ h',Heap.ExtBut it s.heap h'→Q none { s with heap:=h' }):wpAny (model P w) A (pyNext (.ref it)) Q E s:=by
 obtain ⟨u,gu,gc,gd⟩:=id gi
 obtain ⟨o,g,_,ge⟩:=x
 unfold pyNext
 refine wpAny_bind (wpAny_attempt (wpAny_callSpecial?_slot (name:=Str.ofString "__next__") gi.typeIs F.slot_dict_keyiterator_next (wpAny_call_entry F.slot_dict_keyiterator_next gi.typeIs F.entry_dict_keyiterator_next ?_ (F.args_dict_keyiterator_next_1 _))))
 refine wpAny_bind (wpAny_pure (wpAny_bind (wpAny_bind ?_)))
 first
  | refine wpAny_bind (wpAny_typeNameOfWhole_keyiter gi.typeIs (wpAny_pure ?_))
  | refine wpAny_bind (wpAny_typeNameOf_keyiter gi.typeIs (wpAny_pure ?_))
 refine wpAny_bind (wpAny_fieldsOf gu gd ?_)
 have ow:Builtin.Dict_items.ownsTuple "dict_keyiterator" = false:=by decide
 simp only [ow,Bool.false_eq_true,if_false]
 show wpAny _ _ (if (Value.ref d==Value.none)=true then _ else _) _ _ s
 rw [if_neg (by exact Bool.false_ne_true)]
 refine wpAny_bind (wpAny_pure (wpAny_bind (wpAny_dictEntries g ge ?_)))
 rw [if_neg (by simp)]
 refine wpAny_bind (wpAny_pure (wpAny_bind (wpAny_dictEpoch g ge ?_)))
 rw [if_neg (by simp)]
 refine wpAny_pure ?_
 simp only [show ¬ ((es.size:Int)<0) from by omega,if_false,Int.toNat_natCast,Array.getElem?_eq_none (Nat.le_refl es.size)]
 refine wpAny_bind ?_
 first
  | refine wpAny_bind (wpAny_typeNameOfWhole_keyiter gi.typeIs (wpAny_pure ?_))
  | refine wpAny_bind (wpAny_typeNameOf_keyiter gi.typeIs (wpAny_pure ?_))
 show wpAny _ _ (setField (.ref it) 0 .none >>= _) _ _ s
 refine wpAny_bind (wpAny_setField gu gd (by simp) ?_)
 show wpAny _ _ (newExc (.type "StopIteration") [] >>= _) _ _ _
 refine wpAny_bind ?_
 simp only [newExc,newTuple]
 refine wpAny_bind (wpAny_newObj_type ?_ (by size_fits))
 refine wpAny_bind (m:=firstArgMember _ _) (wpAny_of_eq (a:=Value.none) (by first | rfl | (simp only [firstArgMember];rfl)) ?_)
 refine wpAny_newObj_type ?_ (by size_fits)
 simp only [raiseNew]
 refine wpAny_bind (wpAny_handled ?_)
 rw [show A.in1.handled=none from hh]
 refine wpAny_bind (wpAny_pure (wpAny_throw ?_))
 refine wpAny_bind (wpAny_isInstance (b:=true) (T := "StopIteration") ⟨_,Heap.get?_push_size _ rfl,rfl⟩ isSubtype_stop ?_)
 exact wpAny_pure (q _ (((Heap.SameBut.update ..).extBut.push _).push _))
theorem walks_raw (hh:A.handled=none)(I d:Addr)(ne:d≠I)(es:Array DictEntry)(ep:Nat) :
  Walks P w A I [I,d] [I] es.size (fun i v=>∃ h:i<es.size,v=es[i].key) (fun i h=>h.IsKeyIter I d i es.size ep∧yc h d es ep) where
 sub:=fun b hb=>by simp at hb;simp [hb]
 frame:=fun i h h' st k=>⟨by obtain ⟨⟨o,g,r⟩,_⟩:=st;exact ⟨o,k I (by simp) o g,r⟩,st.2.of fun o e=>k d (by simp) o e⟩
 item:=fun i s Q E hi st q=>next_raw st.1 st.2 hi fun h' g sb=>q _ h' s.toks ⟨hi,rfl⟩ ⟨g,st.2.of fun o e=>sb.extBut d o ne e⟩ fun b o hb e=>sb.extBut b o (fun z=>hb (by simp [z])) e
 done:=fun s Q E st q=>stop_raw hh st.1 st.2 fun h' eb=>q h' s.toks fun b o hb e=>eb b o (fun z=>hb (by simp [z])) e
 self:=fun _ _ _ _ st q=>wpAny_pyIter_keyiter st.1 q
theorem src_raw (nd:(d==sysModules)=false):PySem.W.KdlSrc P w "dict" d d es.size (fun i v=>∃ h:i<es.size,v=es[i].key) (fun h=>yc h d es ep) where
 type:=fun _ x=>x.ty
 there:=fun _ x=>by obtain ⟨o,g,_⟩:=x;exact ⟨Heap.lt_size g,Heap.lt_size g⟩
 keep:=fun _ _ x k=>x.of fun o e=>k d (.inl rfl) o e
 notList:=by decide
 notTuple:=by decide
 hint:=fun _ _ _ _ x q=>PySem.W.kdl_hint_dict x.ty q
 iter:=fun _ s hh x=>by
  have lt:d<s.heap.objs.size:=by obtain ⟨o,g,_⟩:=x;exact Heap.lt_size g
  exact ⟨_,_,fun _ _ q=>iter_raw nd x q,walks_raw hh _ d (Nat.ne_of_lt lt) es ep,⟨_,Heap.get?_push_size _ rfl,rfl,rfl⟩,x.of fun o e=>Heap.get?_push_of_some _ e⟩
theorem lR {Q:List Value→Shared→Prop}(hh:A.handled=none)(nd:(d==sysModules)=false)(x:yc s.heap d es ep)(hz:es.size≤sizeLine)
  (q:∀ h' tk,(∀ b o,s.heap.get? b=some o→h'.get? b=some o)→s.heap.objs.size<h'.objs.size→Q (es.toList.map (·.key)) { s with heap:=h',toks:=tk }):wpAny (model P w) A (collect (.ref d)) Q E s:=by
 have lt:d<s.heap.objs.size:=by obtain ⟨o,g,_⟩:=x;exact Heap.lt_size g
 unfold collect
 refine wpAny_bind (wpAny_runValue (codeAny_builtin F.entry_proto_collect ?_))
 rw [Around.under_plainId F.plain_proto_collect _]
 show wpAny _ A.in1 (newList [] >>= fun l=>again (.builtin "list.__iadd__" ⟨[l,.ref d],[]⟩)) _ _ s
 refine wpAny_bind (wpAny_newObj_type (wpAny_pure ⟨plainId_quiet F.plain_list_iadd _,codeAny_builtin F.entry_list_iadd ?_⟩))
 rw [Around.under_plainId F.plain_list_iadd _]
 have g0:(s.heap.push { cls:=.type "list",data:=.seq ([]:List Value).toArray }).get? s.heap.objs.size=some { cls:=.type "list",data:=.seq ([]:List Value).toArray }:=Heap.get?_push_size _ rfl
 show wpAny _ A.in1 (Builtin.List.listExtendWith (.ref s.heap.objs.size) (.ref d) (.ref s.heap.objs.size)) _ _ _
 have fin:∀ (f:Flow) (s':Shared),(f=.ret (.ref s.heap.objs.size)∧∃ h' tk acc c,s' = { s with heap:=h',toks:=tk }∧(∀ b o,b≠s.heap.objs.size→(s.heap.push { cls:=.type "list",data:=.seq ([]:List Value).toArray }).get? b=some o→h'.get? b=some o)∧h'.get? s.heap.objs.size=some { cls:=.type "list",dict:=none,data:=.seq acc c,slots:=#[] }∧ItemsOf (fun i v=>∃ h:i<es.size,v=es[i].key) acc es.size) →
   ∃ v,f=.ret v∧wpAny (model P w) A (match v with
    | Value.ref a=>do
     let u ←load a
     match u.data with
     | Data.seq xs _=>pure xs.toList
     | _=>unsupported "internal:collect"
    | _=>unsupported "internal:collect") Q E s':=by
  rintro f s' ⟨rfl,h',tk,acc,c,rfl,k,e,it⟩
  refine ⟨_,rfl,?_⟩
  show wpAny _ A (load s.heap.objs.size >>= _) _ _ _
  refine wpAny_bind (wpAny_load e ?_)
  have ea:acc.toList=es.toList.map (·.key):=by
   refine List.ext_getElem? fun j=>?_
   rw [List.getElem?_map,Array.getElem?_toList,Array.getElem?_toList]
   by_cases hj:j<es.size
   ·have hj':j<acc.size:=by rw [it.1];exact hj
    obtain ⟨_,ev⟩:=it.2 j acc[j] (Array.getElem?_eq_getElem hj')
    rw [Array.getElem?_eq_getElem hj',Array.getElem?_eq_getElem hj,ev]
    rfl
   ·rw [Array.getElem?_eq_none (by rw [it.1];omega),Array.getElem?_eq_none (by omega)]
    rfl
  refine wpAny_pure ?_
  rw [ea]
  exact q h' tk (fun b o g=>k b o (Nat.ne_of_lt (Heap.lt_size g)) (Heap.get?_push_of_some _ g)) (Heap.lt_size e)
 refine wpAny_mono (PySem.W.kdl_extend (s:={ s with heap:=s.heap.push { cls:=.type "list",data:=.seq ([]:List Value).toArray } }) (R:=fun r s'=>match r with
  | .ok f=>f=.ret (.ref s.heap.objs.size)∧∃ h' tk acc c,s' = { s with heap:=h',toks:=tk }∧(∀ b o,b≠s.heap.objs.size→(s.heap.push { cls:=.type "list",data:=.seq ([]:List Value).toArray }).get? b=some o→h'.get? b=some o)∧h'.get? s.heap.objs.size=some { cls:=.type "list",dict:=none,data:=.seq acc c,slots:=#[] }∧ItemsOf (fun i v=>∃ h:i<es.size,v=es[i].key) acc es.size
  | .error _=>False) (src_raw (es:=es) (ep:=ep) nd) hh (x.of fun o e=>Heap.get?_push_of_some _ e) s.heap.objs.size (Nat.ne_of_gt lt) (Nat.ne_of_gt lt) _ 0 g0 (fun h' tk acc c k e it=>⟨rfl,h',tk,acc,c,rfl,k,e,it⟩) hz) (fun r s' hr=>?_) fun e s' hr=>hr.elim
 cases r with
 | done f=>
  obtain ⟨v,rfl,q'⟩:=fin f s' hr
  exact q'
 | again c=>
  refine ⟨hr.1,codeAny_mono hr.2 fun r s' hr=>?_⟩
  cases r with
  | error e=>exact hr.elim
  | ok f=>
   obtain ⟨v,rfl,q'⟩:=fin f s' hr
   exact q'
end
end L2
namespace L2
open PySem PySem.Spec PyProof.Rows
def gal:Bool→Keyed→Array Keyed→Nat→Nat→Nat→StateT SortSt Sem (Option Nat):=sortPriv% PySem.Builtin.gallop
section
variable {P:Program}{w:World}{A:Around}{E:Value→Shared→Prop}{s:Shared}{kd:SortKind}{rk:Value→Nat}{good:Value→Prop}
def Bey (rk:Value→Nat)(left:Bool)(key:Keyed)(a:Array Keyed)(i:Nat):Bool:=if left then decide (Rk rk a i<rk key.1) else !decide (rk key.1<Rk rk a i)
def beyM (left:Bool)(key:Keyed)(a:Array Keyed)(base i:Nat):StateT SortSt Sem (Option Bool):=elem' a (base+i) >>= fun x=>if left=true then lt' x key else lt' key x >>= fun r=>pure (r.map (! ·))
theorem zQ (C:Cmp P w A s kd rk good){left:Bool}{key:Keyed}{a:Array Keyed}{base i:Nat}{st:SortSt}{Q:Option Bool→SortSt→Prop}(hk:kindOf st=kd)(ka:∀ p∈a.toList,good p.1)(kg:good key.1)(hi:base+i<a.size)(q:Q (some (Bey rk left key a (base+i))) st):wpS (model P w) A E s (beyM left key a base i) Q st:=by
 refine wpS_bind (bL hi ?_)
 have gi:good a[base+i].1:=ka _ (by simp)
 unfold Bey at q
 rw [cT hi] at q
 cases left with
 | true=>exact w_lt C hk gi kg q
 | false=>exact wpS_bind (w_lt C hk kg gi (wpS_pure q))
set_option maxHeartbeats 1000000 in
theorem yg (C:Cmp P w A s kd rk good){left:Bool}{key:Keyed}{a:Array Keyed}{base n hint:Nat}{st:SortSt}{Q:Option Nat→SortSt→Prop}(hk:kindOf st=kd)(ka:∀ p∈a.toList,good p.1)(kg:good key.1)(hz:base+n≤a.size)(hh:hint<n)
  (mono:∀ i j,i≤j→j<n→Bey rk left key a (base+j)=true→Bey rk left key a (base+i)=true)
  (q:∀ m,m≤n→(∀ i,i<m→Bey rk left key a (base+i)=true)→(∀ i,m≤i→i<n→Bey rk left key a (base+i)=false)→Q (some m) st):wpS (model P w) A E s (gal left key a base n hint) Q st:=by
 have anti:∀ i j,i≤j→j<n→Bey rk left key a (base+i)=false→Bey rk left key a (base+j)=false:=fun i j h1 h2 h3=>by
  cases e:Bey rk left key a (base+j) with
  | false=>rfl
  | true=>rw [mono i j h1 h2 e] at h3;cases h3
 refine wpS_bind (zQ C hk ka kg (by omega) ?_)
 dsimp only
 cases hB:Bey rk left key a (base+hint) with
 | true=>
  rw [if_pos rfl]
  refine wpS_bind (wpS_mono (wpS_forRange
   (I:=fun x c st'=>st'=st∧∃ l o,c=(none,l,o)∧l<o∧x<o∧hint+l<n∧Bey rk left key a (base+(hint+l))=true)
   (Q:=fun c st'=>st'=st∧∃ l o,c=(none,l,o)∧l<o∧hint+l<n∧Bey rk left key a (base+(hint+l))=true∧(n - hint≤o∨Bey rk left key a (base+(hint+o))=false)) ?_ ?_ ⟨rfl,0,1,rfl,by decide,by decide,by omega,hB⟩) ?_)
  ·rintro x c st' _ hx ⟨rfl,l,o,rfl,a1,a2,a3,a4⟩
   dsimp only
   by_cases c:o≥n - hint
   ·rw [if_pos c]
    exact wpS_pure ⟨rfl,l,o,rfl,a1,a3,a4,.inl c⟩
   ·rw [if_neg c]
    refine wpS_bind (zQ C hk ka kg (by omega) ?_)
    cases hm:Bey rk left key a (base+(hint+o)) with
    | true=>exact wpS_pure ⟨rfl,o,2*o+1,rfl,by omega,by omega,by omega,hm⟩
    | false=>exact wpS_pure ⟨rfl,l,o,rfl,a1,a3,a4,.inr hm⟩
  ·rintro c st' ⟨rfl,l,o,rfl,a1,a2,a3,a4⟩
   exact ⟨rfl,l,o,rfl,a1,a3,a4,.inl (by omega)⟩
  ·rintro c st' ⟨rfl,l,o,rfl,a1,a3,a4,a5⟩
   dsimp only
   have b1:hint+l+1≤hint+min o (n - hint):=by omega
   have b2:hint+min o (n - hint)≤n:=by omega
   have b3:∀ i,i<hint+l+1→Bey rk left key a (base+i)=true:=fun i hi=>mono i (hint+l) (by omega) a3 a4
   have b4:∀ i,hint+min o (n - hint)≤i→i<n→Bey rk left key a (base+i)=false:=fun i h1 h2=>by
    rcases a5 with c | c
    ·omega
    ·exact anti (hint+o) i (by omega) h2 c
   refine wpS_bind (wpS_mono (wpS_forRange
     (I:=fun x c st2=>st2=st'∧∃ l r,c=(none,l,r)∧l≤r∧r≤n∧r - l≤n - x∧(∀ i,i<l→Bey rk left key a (base+i)=true)∧∀ i,r≤i→i<n→Bey rk left key a (base+i)=false)
     (Q:=fun c st2=>st2=st'∧∃ m,c=(none,m,m)∧m≤n∧(∀ i,i<m→Bey rk left key a (base+i)=true)∧∀ i,m≤i→i<n→Bey rk left key a (base+i)=false) ?_ ?_ ⟨rfl,_,_,rfl,b1,b2,(Nat.le_trans (Nat.sub_le _ _) b2:_≤n - 0),b3,b4⟩) ?_)
   ·rintro x c st2 _ hx ⟨rfl,l,r,rfl,a1,a2,a3,a4,a5⟩
    dsimp only
    by_cases c:l≥r
    ·rw [if_pos c]
     have e:l=r:=by omega
     subst e
     exact wpS_pure ⟨rfl,l,rfl,a2,a4,a5⟩
    ·rw [if_neg c]
     refine wpS_bind (zQ C hk ka kg (by omega) ?_)
     cases hm:Bey rk left key a (base+(l+(r - l) / 2)) with
     | true=>exact wpS_pure ⟨rfl,l+(r - l) / 2+1,r,rfl,by omega,a2,by omega,fun i hi=>mono i (l+(r - l) / 2) (by omega) (by omega) hm,a5⟩
     | false=>exact wpS_pure ⟨rfl,l,l+(r - l) / 2,rfl,by omega,by omega,by omega,a4,fun i h2 h3=>anti (l+(r - l) / 2) i h2 h3 hm⟩
   ·rintro c st2 ⟨rfl,l,r,rfl,a1,a2,a3,a4,a5⟩
    have e:l=r:=by omega
    subst e
    exact ⟨rfl,l,rfl,a2,a4,a5⟩
   ·rintro c st2 ⟨rfl,m,rfl,a1,a2,a3⟩
    exact wpS_pure (q m a1 a2 a3)
 | false=>
  rw [if_neg Bool.false_ne_true]
  refine wpS_bind (wpS_mono (wpS_forRange
   (I:=fun x c st'=>st'=st∧∃ l o,c=(none,l,o)∧l<o∧x<o∧l≤hint∧Bey rk left key a (base+(hint - l))=false)
   (Q:=fun c st'=>st'=st∧∃ l o,c=(none,l,o)∧l<o∧l≤hint∧Bey rk left key a (base+(hint - l))=false∧(hint+1≤o∨Bey rk left key a (base+(hint - o))=true)) ?_ ?_ ⟨rfl,0,1,rfl,by decide,by decide,by omega,hB⟩) ?_)
  ·rintro x c st' _ hx ⟨rfl,l,o,rfl,a1,a2,a3,a4⟩
   dsimp only
   by_cases c:o≥hint+1
   ·rw [if_pos c]
    exact wpS_pure ⟨rfl,l,o,rfl,a1,a3,a4,.inl c⟩
   ·rw [if_neg c]
    refine wpS_bind (zQ C hk ka kg (by omega) ?_)
    cases hm:Bey rk left key a (base+(hint - o)) with
    | true=>exact wpS_pure ⟨rfl,l,o,rfl,a1,a3,a4,.inr hm⟩
    | false=>exact wpS_pure ⟨rfl,o,2*o+1,rfl,by omega,by omega,by omega,hm⟩
  ·rintro c st' ⟨rfl,l,o,rfl,a1,a2,a3,a4⟩
   exact ⟨rfl,l,o,rfl,a1,a3,a4,.inl (by omega)⟩
  ·rintro c st' ⟨rfl,l,o,rfl,a1,a3,a4,a5⟩
   dsimp only
   have b1:hint+1 - min o (hint+1)≤hint - l:=by omega
   have b2:hint - l≤n:=by omega
   have b3:∀ i,i<hint+1 - min o (hint+1)→Bey rk left key a (base+i)=true:=fun i hi=>by
    rcases a5 with c | c
    ·omega
    ·exact mono i (hint - o) (by omega) (by omega) c
   have b4:∀ i,hint - l≤i→i<n→Bey rk left key a (base+i)=false:=fun i h1 h2=>anti (hint - l) i h1 h2 a4
   refine wpS_bind (wpS_mono (wpS_forRange
     (I:=fun x c st2=>st2=st'∧∃ l r,c=(none,l,r)∧l≤r∧r≤n∧r - l≤n - x∧(∀ i,i<l→Bey rk left key a (base+i)=true)∧∀ i,r≤i→i<n→Bey rk left key a (base+i)=false)
     (Q:=fun c st2=>st2=st'∧∃ m,c=(none,m,m)∧m≤n∧(∀ i,i<m→Bey rk left key a (base+i)=true)∧∀ i,m≤i→i<n→Bey rk left key a (base+i)=false) ?_ ?_ ⟨rfl,_,_,rfl,b1,b2,(Nat.le_trans (Nat.sub_le _ _) b2:_≤n - 0),b3,b4⟩) ?_)
   ·rintro x c st2 _ hx ⟨rfl,l,r,rfl,a1,a2,a3,a4,a5⟩
    dsimp only
    by_cases c:l≥r
    ·rw [if_pos c]
     have e:l=r:=by omega
     subst e
     exact wpS_pure ⟨rfl,l,rfl,a2,a4,a5⟩
    ·rw [if_neg c]
     refine wpS_bind (zQ C hk ka kg (by omega) ?_)
     cases hm:Bey rk left key a (base+(l+(r - l) / 2)) with
     | true=>exact wpS_pure ⟨rfl,l+(r - l) / 2+1,r,rfl,by omega,a2,by omega,fun i hi=>mono i (l+(r - l) / 2) (by omega) (by omega) hm,a5⟩
     | false=>exact wpS_pure ⟨rfl,l,l+(r - l) / 2,rfl,by omega,by omega,by omega,a4,fun i h2 h3=>anti (l+(r - l) / 2) i h2 h3 hm⟩
   ·rintro c st2 ⟨rfl,l,r,rfl,a1,a2,a3,a4,a5⟩
    have e:l=r:=by omega
    subst e
    exact ⟨rfl,l,rfl,a2,a4,a5⟩
   ·rintro c st2 ⟨rfl,m,rfl,a1,a2,a3⟩
    exact wpS_pure (q m a1 a2 a3)
end
end L2
namespace L2
open PySem PySem.Spec PyProof.Rows
def mLo:Array Keyed→Array Keyed→StateT SortSt Sem (Array Keyed):=sortPriv% PySem.Builtin.mergeLo
def mHi:Array Keyed→Array Keyed→StateT SortSt Sem (Array Keyed):=sortPriv% PySem.Builtin.mergeHi
def setMg:Nat→StateT SortSt Sem Unit:=sortPriv% PySem.Builtin.setMinGallop
section
variable {rk:Value→Nat}
def SL (rk:Value→Nat)(l:List Keyed):Prop:=l.Pairwise fun x y=>rk x.1<rk y.1
def Be (rk:Value→Nat)(xs ys:List Keyed):Prop:=∀ x∈xs,∀ y∈ys,rk x.1<rk y.1
def ML (rk:Value→Nat)(A B out al bl:List Keyed):Prop:=∃ a1 b1,A=a1++al∧B=b1++bl∧out.Perm (a1++b1)∧SL rk out∧Be rk out al∧Be rk out bl
def Mrg (rk:Value→Nat)(A B r:List Keyed):Prop:=r.Perm (A++B)∧SL rk r
theorem ML.swap {A B out al bl:List Keyed}(h:ML rk A B out al bl):ML rk B A out bl al:=by
 obtain ⟨a1,b1,e1,e2,p,s,q1,q2⟩:=h
 exact ⟨b1,a1,e2,e1,p.trans List.perm_append_comm,s,q2,q1⟩
theorem ML.a {A B out xs al bl:List Keyed}(sa:SL rk A)(h:ML rk A B out (xs++al) bl)(hx:Be rk xs bl):ML rk A B (out++xs) al bl:=by
 obtain ⟨a1,b1,e1,e2,p,s,q1,q2⟩:=h
 have sx:SL rk (xs++al):=by
  unfold SL at sa
  rw [e1,List.pairwise_append] at sa
  exact sa.2.1
 unfold SL at sx
 rw [List.pairwise_append] at sx
 refine ⟨a1++xs,b1,by rw [e1,List.append_assoc],e2,?_,?_,?_,?_⟩
 ·refine (p.append_right xs).trans ?_
  rw [List.append_assoc,List.append_assoc]
  exact List.Perm.append_left _ List.perm_append_comm
 ·unfold SL
  rw [List.pairwise_append]
  exact ⟨s,sx.1,fun x hx y hy=>q1 x hx y (List.mem_append_left _ hy)⟩
 ·intro x hx y hy
  rcases List.mem_append.mp hx with hx | hx
  ·exact q1 x hx y (List.mem_append_right _ hy)
  ·exact sx.2.2 x hx y hy
 ·intro x hx' y hy
  rcases List.mem_append.mp hx' with hx' | hx'
  ·exact q2 x hx' y hy
  ·exact hx x hx' y hy
theorem ML.b {A B out xs al bl:List Keyed}(sb:SL rk B)(h:ML rk A B out al (xs++bl))(hx:Be rk xs al):ML rk A B (out++xs) al bl:=(h.swap.a sb hx).swap
theorem ML.fin {A B out al:List Keyed}(sa:SL rk A)(h:ML rk A B out al []):Mrg rk A B (out++al):=by
 have h:ML rk A B out (al++[]) []:=by rw [List.append_nil];exact h
 obtain ⟨a1,b1,e1,e2,p,s,_⟩:=h.a sa fun _ _ _ h=>(nomatch h)
 rw [List.append_nil] at e1 e2
 rw [e1,e2]
 exact ⟨p,s⟩
theorem ML.fin2 {A B out al bl:List Keyed}(sa:SL rk A)(sb:SL rk B)(h:ML rk A B out al bl)(hx:Be rk bl al):Mrg rk A B (out++bl++al):=by
 have h:ML rk A B out al (bl++[]):=by rw [List.append_nil];exact h
 exact (h.b sb hx).fin sa
end
section
variable {P:Program}{w:World}{A:Around}{E:Value→Shared→Prop}{s:Shared}{kd:SortKind}{rk:Value→Nat}{good:Value→Prop}
def dh (st st':SortSt):Prop:=arrOf st'=arrOf st∧kindOf st'=kindOf st∧failedOf st'=failedOf st∧pendingOf st'=pendingOf st
theorem dh.refl (st:SortSt):dh st st:=⟨rfl,rfl,rfl,rfl⟩
theorem dh.trans {a b c:SortSt}(h:dh a b)(g:dh b c):dh a c:=⟨g.1.trans h.1,g.2.1.trans h.2.1,g.2.2.1.trans h.2.2.1,g.2.2.2.trans h.2.2.2⟩
theorem pF {g:Nat}{st:SortSt}{Q:Unit→SortSt→Prop}(q:∀ st',dh st st'→Q () st'):wpS (model P w) A E s (setMg g) Q st:=wpS_modify (q _ (by cases st;exact ⟨rfl,rfl,rfl,rfl⟩))
structure Two (rk:Value→Nat) (good:Value→Prop) (a b:Array Keyed):Prop where
 sa:SL rk a.toList
 sb:SL rk b.toList
 ga:∀ p∈a.toList,good p.1
 gb:∀ p∈b.toList,good p.1
 ne:∀ x∈a.toList,∀ y∈b.toList,rk x.1≠rk y.1
theorem dropA {a:Array Keyed}{i:Nat}(h:i<a.size):a.toList.drop i=a[i]::a.toList.drop (i+1):=by
 rw [List.drop_eq_getElem_cons (by simpa using h)]
 simp
theorem extA (a:Array Keyed)(i k:Nat)(h:i+k≤a.size):a.toList.drop i=(a.extract i (i+k)).toList++a.toList.drop (i+k):=by
 rw [Array.toList_extract]
 have e:i+k - i=k:=by omega
 simp only [List.extract_eq_drop_take,e]
 rw [←List.drop_drop,List.take_append_drop]
theorem pL (a:Array Keyed)(i:Nat):(a.extract i a.size).toList=a.toList.drop i:=by
 rw [Array.toList_extract,List.extract_eq_drop_take,List.take_of_length_le (by simp)]
theorem ext_get {a:Array Keyed}{i k:Nat}{x:Keyed}(h:i+k≤a.size)(hx:x∈(a.extract i (i+k)).toList):∃ j,j<k∧∃ hj:i+j<a.size,x=a[i+j]:=by
 obtain ⟨j,hj,e⟩:=Array.mem_iff_getElem.mp (Array.mem_def.mpr hx)
 have hj':j<k:=by simp at hj;omega
 exact ⟨j,hj',by omega,by rw [←e];simp⟩
theorem eY {a:Array Keyed}{i:Nat}{x:Keyed}(hx:x∈a.toList.drop i):∃ j,i≤j∧∃ hj:j<a.size,x=a[j]:=by
 obtain ⟨k,hk,e⟩:=List.mem_iff_getElem.mp hx
 rw [List.length_drop] at hk
 refine ⟨i+k,by omega,by simp at hk;omega,?_⟩
 rw [←e,List.getElem_drop]
 simp
theorem SL.lt {a:Array Keyed}(h:SL rk a.toList){i j:Nat}(hij:i<j)(hj:j<a.size):rk (a[i]'(by omega)).1<rk a[j].1:=by
 have:=List.pairwise_iff_getElem.mp h i j (by simp;omega) (by simpa using hj) hij
 simpa using this
theorem SL.le {a:Array Keyed}(h:SL rk a.toList){i j:Nat}(hij:i≤j)(hj:j<a.size):rk (a[i]'(by omega)).1≤rk a[j].1:=by
 rcases Nat.lt_or_ge i j with c | c
 ·exact Nat.le_of_lt (h.lt c hj)
 ·have:i=j:=by omega
  subst this
  exact Nat.le_refl _
structure LI (rk:Value→Nat) (a b out:Array Keyed) (ia ib:Nat):Prop where
 ml:ML rk a.toList b.toList out.toList (a.toList.drop ia) (b.toList.drop ib)
 ia:ia+1<a.size
 ib:ib<b.size
def yd (rk:Value→Nat)(a b:Array Keyed):Prop:=∀ (h:0<a.size),∀ y∈b.toList,rk y.1<rk (a[a.size - 1]).1
theorem iV (out:Array Keyed)(x:Keyed):(out.push x).toList=out.toList++[x]:=by simp
theorem ml_pa {a b out:Array Keyed}{ia ib:Nat}(T:Two rk good a b)(h:ML rk a.toList b.toList out.toList (a.toList.drop ia) (b.toList.drop ib))(hi:ia<a.size)(hx:∀ y∈b.toList.drop ib,rk a[ia].1<rk y.1):ML rk a.toList b.toList (out.push a[ia]).toList (a.toList.drop (ia+1)) (b.toList.drop ib):=by
 rw [iV]
 refine ML.a T.sa (xs:=[a[ia]]) ?_ fun x h y hy=>?_
 ·rw [List.singleton_append,←dropA hi];exact h
 ·rw [List.mem_singleton.mp h];exact hx y hy
theorem ml_pb {a b out:Array Keyed}{ia ib:Nat}(T:Two rk good a b)(h:ML rk a.toList b.toList out.toList (a.toList.drop ia) (b.toList.drop ib))(hi:ib<b.size)(hx:∀ y∈a.toList.drop ia,rk b[ib].1<rk y.1):ML rk a.toList b.toList (out.push b[ib]).toList (a.toList.drop ia) (b.toList.drop (ib+1)):=by
 rw [iV]
 refine ML.b T.sb (xs:=[b[ib]]) ?_ fun x h y hy=>?_
 ·rw [List.singleton_append,←dropA hi];exact h
 ·rw [List.mem_singleton.mp h];exact hx y hy
theorem ml_xa {a b out:Array Keyed}{ia ib k:Nat}(T:Two rk good a b)(h:ML rk a.toList b.toList out.toList (a.toList.drop ia) (b.toList.drop ib))(hi:ia+k≤a.size)(hx:Be rk (a.extract ia (ia+k)).toList (b.toList.drop ib)):ML rk a.toList b.toList (out++a.extract ia (ia+k)).toList (a.toList.drop (ia+k)) (b.toList.drop ib):=by
 rw [Array.toList_append]
 refine ML.a T.sa ?_ hx
 rw [←extA a ia k hi];exact h
theorem ml_xb {a b out:Array Keyed}{ia ib k:Nat}(T:Two rk good a b)(h:ML rk a.toList b.toList out.toList (a.toList.drop ia) (b.toList.drop ib))(hi:ib+k≤b.size)(hx:Be rk (b.extract ib (ib+k)).toList (a.toList.drop ia)):ML rk a.toList b.toList (out++b.extract ib (ib+k)).toList (a.toList.drop ia) (b.toList.drop (ib+k)):=by
 rw [Array.toList_append]
 refine ML.b T.sb ?_ hx
 rw [←extA b ib k hi];exact h
theorem lW {a b out:Array Keyed}{ia ib:Nat}(T:Two rk good a b)(h:ML rk a.toList b.toList out.toList (a.toList.drop ia) (b.toList.drop ib))(e:ib=b.size):Mrg rk a.toList b.toList (out++a.extract ia a.size++b.extract ib b.size).toList:=by
 have eb:b.toList.drop ib=[]:=by rw [e];simp
 rw [Array.toList_append,Array.toList_append,pL,pL,eb,List.append_nil]
 rw [eb] at h
 exact h.fin T.sa
theorem qp {a b out:Array Keyed}{ia ib:Nat}(T:Two rk good a b)(hL:yd rk a b)(h:ML rk a.toList b.toList out.toList (a.toList.drop ia) (b.toList.drop ib))(e:ia+1=a.size):Mrg rk a.toList b.toList (out++b.extract ib b.size++a.extract ia a.size).toList:=by
 rw [Array.toList_append,Array.toList_append,pL,pL]
 refine h.fin2 T.sa T.sb fun x hx y hy=>?_
 rw [dropA (by omega)] at hy
 have hn:a.toList.drop (ia+1)=[]:=by rw [e];simp
 rw [hn,List.mem_singleton] at hy
 rw [hy]
 have:=hL (by omega) x (List.mem_of_mem_drop hx)
 have ei:a.size - 1=ia:=by omega
 simpa only [ei] using this
theorem iJ {α : Type}{c:Prop} [Decidable c] {m1 m2:StateT SortSt Sem α} {Q:α→SortSt→Prop} {st:SortSt} (h1:wpS (model P w) A E s m1 Q st) (h2:wpS (model P w) A E s m2 Q st):wpS (model P w) A E s (if c then m1 else m2) Q st:=by
 split
 ·exact h1
 ·exact h2
theorem tH {key:Keyed}{a:Array Keyed}{i:Nat}(hi:i<a.size):Bey rk true key a i=decide (rk a[i].1<rk key.1):=by unfold Bey;rw [if_pos rfl,cT hi]
theorem tu {key:Keyed}{a:Array Keyed}{i:Nat}(hi:i<a.size):Bey rk false key a i = !decide (rk key.1<rk a[i].1):=by unfold Bey;rw [if_neg Bool.false_ne_true,cT hi]
theorem bG {a:Array Keyed}{i:Nat}(h:i<a.size):a[i]∈a.toList:=by simp
theorem ifT {α : Type}{c:Prop} [Decidable c] {m1 m2:StateT SortSt Sem α} {Q:α→SortSt→Prop} {st:SortSt} (h:c) (x:wpS (model P w) A E s m1 Q st):wpS (model P w) A E s (if c then m1 else m2) Q st:=by rw [if_pos h];exact x
theorem ifF {α : Type}{c:Prop} [Decidable c] {m1 m2:StateT SortSt Sem α} {Q:α→SortSt→Prop} {st:SortSt} (h:¬ c) (x:wpS (model P w) A E s m2 Q st):wpS (model P w) A E s (if c then m1 else m2) Q st:=by rw [if_neg h];exact x
theorem w_st3 {α : Type}{a b out:Array Keyed}{ia ib:Nat}{c:Prop} [Decidable c] {E1 E2 E3:Keyed→StateT SortSt Sem α} {Q:α→SortSt→Prop} {st:SortSt} (T:Two rk good a b) (hL:yd rk a b) (h:ML rk a.toList b.toList out.toList (a.toList.drop ia) (b.toList.drop ib)) (h1:ia+1<a.size) (h2:ib<b.size)
  (hx:∀ y∈b.toList.drop ib,rk (a[ia]'(by omega)).1<rk y.1)
  (q1:∀ x,Mrg rk a.toList b.toList (out.push x++b.extract ib b.size++a.extract (ia+1) a.size).toList→wpS (model P w) A E s (E1 x) Q st)
  (q2:∀ x,LI rk a b (out.push x) (ia+1) ib→wpS (model P w) A E s (E2 x) Q st) (q3:∀ x,LI rk a b (out.push x) (ia+1) ib→wpS (model P w) A E s (E3 x) Q st) :
  wpS (model P w) A E s (elem' a ia >>= fun x=>if (ia+1+1==a.size)=true then E1 x else if c then E2 x else E3 x) Q st:=by
 refine wpS_bind (bL (by omega) ?_)
 have m:=ml_pa T h (by omega) hx
 by_cases e:ia+1+1=a.size
 ·exact ifT (by simpa using e) (q1 _ (qp T hL m e))
 ·refine ifF (by simpa using e) ?_
  have li:LI rk a b (out.push (a[ia]'(by omega))) (ia+1) ib:=⟨m,by omega,h2⟩
  exact iJ (q2 _ li) (q3 _ li)
set_option maxHeartbeats 1000000 in
theorem w_st2 (C:Cmp P w A s kd rk good){α : Type}{a b out:Array Keyed}{ia ib:Nat}{D1:Keyed→StateT SortSt Sem α}{K:Keyed→Keyed→Option Nat→StateT SortSt Sem α}{Q:α→SortSt→Prop}{st:SortSt}(T:Two rk good a b)(h:ML rk a.toList b.toList out.toList (a.toList.drop ia) (b.toList.drop ib))(h1:ia+1<a.size)(h2:ib<b.size)(hk:kindOf st=kd)
  (hx:∀ y∈a.toList.drop ia,rk b[ib].1<rk y.1)
  (q1:∀ y,Mrg rk a.toList b.toList (out.push y++a.extract ia a.size++b.extract (ib+1) b.size).toList→wpS (model P w) A E s (D1 y) Q st)
  (q2:∀ x y k,ib+1<b.size→ib+1+k≤b.size→ML rk a.toList b.toList (out.push y++b.extract (ib+1) (ib+1+k)).toList (a.toList.drop ia) (b.toList.drop (ib+1+k))→(∀ z∈b.toList.drop (ib+1+k),rk (a[ia]'(by omega)).1<rk z.1)→wpS (model P w) A E s (K y x (some k)) Q st) :
  wpS (model P w) A E s (elem' b ib >>= fun y=>if (ib+1==b.size)=true then D1 y else elem' a ia >>= fun x=>gal true x b (ib+1) (b.size - (ib+1)) 0 >>= K y x) Q st:=by
 refine wpS_bind (bL h2 ?_)
 have m:=ml_pb T h h2 hx
 by_cases c:ib+1=b.size
 ·exact ifT (by simpa using c) (q1 _ (lW T m c))
 ·refine ifF (by simpa using c) ?_
  have ha:ia<a.size:=by omega
  refine wpS_bind (bL ha ?_)
  refine wpS_bind (yg C hk T.gb (T.ga _ (bG ha)) (by omega) (by omega) (fun i j h3 h4 h5=>?_) fun k hk1 hk2 hk3=>?_)
  ·rw [tH (by omega)] at h5 ⊢
   have:=T.sb.le (i:=ib+1+i) (j:=ib+1+j) (by omega) (by omega)
   simp at h5 ⊢
   omega
  ·refine q2 _ _ k (by omega) (by omega) (ml_xb (k:=k) T m (by omega) fun x hx y hy=>?_) fun y hy=>?_
   ·obtain ⟨j,h3,h4,rfl⟩:=ext_get (by omega) hx
    obtain ⟨i,h5,h6,rfl⟩:=eY hy
    have:=hk2 j h3
    rw [tH (by omega)] at this
    have:=T.sa.le h5 h6
    simp at *
    omega
   ·obtain ⟨j,h3,h4,rfl⟩:=eY hy
    have:=hk3 (j - (ib+1)) (by omega) (by omega)
    rw [tH (by omega)] at this
    have ej:ib+1+(j - (ib+1))=j:=by omega
    simp only [ej] at this
    have ne:=T.ne _ (bG ha) _ (bG h4)
    simp at this
    omega
set_option maxHeartbeats 1000000 in
theorem w_st1 (C:Cmp P w A s kd rk good){α : Type}{a b out:Array Keyed}{ia ib g:Nat}{K:Keyed→Option Nat→StateT SortSt Sem α}{Q:α→SortSt→Prop}{st:SortSt}(T:Two rk good a b)(hL:yd rk a b)(li:LI rk a b out ia ib)(hk:kindOf st=kd)
  (q:∀ y k st',dh st st'→ia+k<a.size→ML rk a.toList b.toList (out++a.extract ia (ia+k)).toList (a.toList.drop (ia+k)) (b.toList.drop ib)→(∀ z∈a.toList.drop (ia+k),rk (b[ib]'li.ib).1<rk z.1)→wpS (model P w) A E s (K y (some k)) Q st') :
  wpS (model P w) A E s (setMg g >>= fun _=>elem' b ib >>= fun y=>gal false y a ia (a.size - ia) 0 >>= K y) Q st:=by
 obtain ⟨h,h1,h2⟩:=li
 refine wpS_bind (pF fun st1 s1=>?_)
 refine wpS_bind (bL h2 ?_)
 refine wpS_bind (yg C (s1.2.1.trans hk) T.ga (T.gb _ (bG h2)) (by omega) (by omega) (fun i j h3 h4 h5=>?_) fun k q1 q2 q3=>?_)
 ·rw [tu (by omega)] at h5 ⊢
  have:=T.sa.le (i:=ia+i) (j:=ia+j) (by omega) (by omega)
  simp at h5 ⊢
  omega
 ·have lk:ia+k<a.size:=by
   refine Decidable.byContradiction fun z=>?_
   have:=q2 (a.size - 1 - ia) (by omega)
   rw [tu (by omega)] at this
   have ej:ia+(a.size - 1 - ia)=a.size - 1:=by omega
   simp only [ej] at this
   have:=hL (by omega) _ (bG h2)
   simp at *
   omega
  refine q _ k st1 s1 lk (ml_xa (k:=k) T h (by omega) fun x hx y hy=>?_) fun y hy=>?_
  ·obtain ⟨j,h3,h4,rfl⟩:=ext_get (by omega) hx
   obtain ⟨i,h5,h6,rfl⟩:=eY hy
   have:=q2 j h3
   rw [tu (by omega)] at this
   have:=T.sb.le h5 h6
   have:=T.ne _ (bG h4) _ (bG h2)
   simp at *
   omega
  ·obtain ⟨j,h3,h4,rfl⟩:=eY hy
   have:=q3 (j - ia) (by omega) (by omega)
   rw [tu (by omega)] at this
   have ej:ia+(j - ia)=j:=by omega
   simp only [ej] at this
   simpa using this
theorem ext_nil (out a:Array Keyed)(i:Nat):out++a.extract i (i+0)=out:=by simp [Nat.min_le_left]
set_option maxHeartbeats 2000000 in
theorem w_mLo (C:Cmp P w A s kd rk good){a b:Array Keyed}{st:SortSt}{Q:Array Keyed→SortSt→Prop}(T:Two rk good a b)(hL:yd rk a b)(ha:0<a.size)(hb:0<b.size)(hf:rk b[0].1<rk a[0].1)(hk:kindOf st=kd)
  (q:∀ r st',Mrg rk a.toList b.toList r.toList→dh st st'→Q r st'):wpS (model P w) A E s (mLo a b) Q st:=by
 refine wpS_bind (wpS_lift (wpAny_rule ⟨rfl,?_⟩))
 refine wpS_bind (bL hb ?_)
 have m0:ML rk a.toList b.toList (#[b[0]]:Array Keyed).toList (a.toList.drop 0) (b.toList.drop 1):=by
  have m:ML rk a.toList b.toList (#[]:Array Keyed).toList (a.toList.drop 0) (b.toList.drop 0):=⟨[],[],rfl,rfl,.nil,.nil,fun _ h=>(nomatch h),fun _ h=>(nomatch h)⟩
  exact ml_pb T m hb fun y hy=>by
   obtain ⟨j,_,h4,rfl⟩:=eY hy
   exact Nat.lt_of_lt_of_le hf (T.sa.le (Nat.zero_le _) h4)
 by_cases c1:1=b.size
 ·rw [if_pos (by simpa using c1)]
  exact wpS_pure (q _ _ (lW T m0 c1) (.refl _))
 rw [if_neg (by simpa using c1)]
 by_cases c2:0+1=a.size
 ·rw [if_pos (by simpa using c2)]
  exact wpS_pure (q _ _ (qp T hL m0 c2) (.refl _))
 rw [if_neg (by simpa using c2)]
 refine wpS_bind (wpS_get ?_)
 dsimp only
 refine wpS_bind (wpS_mono (wpS_forRange
  (I:=fun x c st'=>dh st st'∧∃ out ia ib mg,c=(none,out,ia,ib,mg)∧LI rk a b out ia ib∧1+x≤ia+ib)
  (Q:=fun c st'=>dh st st'∧∃ r rest,c=(some r,rest)∧Mrg rk a.toList b.toList r.toList) ?_ ?_ ⟨.refl _,_,0,1,_,rfl,⟨m0,by omega,by omega⟩,by omega⟩) ?_)
 ·rintro x c st' _ hx ⟨sm,out,ia,ib,mg,rfl,li,hp⟩
  dsimp only
  refine wpS_bind (wpS_mono (wpS_forRange
   (I:=fun y c st2=>dh st st2∧∃ out ia ib ac bc,c=(none,out,ia,ib,ac,bc)∧LI rk a b out ia ib∧1+x+y≤ia+ib)
   (Q:=fun c st2=>dh st st2∧((∃ r rest,c=(some r,rest)∧Mrg rk a.toList b.toList r.toList)∨∃ out ia ib ac bc,c=(none,out,ia,ib,ac,bc)∧LI rk a b out ia ib∧2+x≤ia+ib)) ?_ ?_ ⟨sm,out,ia,ib,0,0,rfl,li,by omega⟩) ?_)
  ·rintro y c st2 _ hy ⟨sm2,out,ia,ib,ac,bc,rfl,⟨m,h1,h2⟩,hp2⟩
   dsimp only
   have hia:ia<a.size:=by omega
   refine wpS_bind (bL h2 (wpS_bind (bL hia (wpS_bind (w_lt C (sm2.2.1.trans hk) (T.gb _ (bG h2)) (T.ga _ (bG hia)) ?_)))))
   dsimp only
   by_cases cb:rk b[ib].1<rk a[ia].1
   ·rw [if_pos (by simpa using cb)]
    refine wpS_bind (bL h2 ?_)
    have m2:=ml_pb T m h2 fun y hy=>by
     obtain ⟨j,h3,h4,rfl⟩:=eY hy
     exact Nat.lt_of_lt_of_le cb (T.sa.le h3 h4)
    by_cases e:ib+1=b.size
    ·rw [if_pos (by simpa using e)]
     exact wpS_pure ⟨sm2,.inl ⟨_,_,rfl,lW T m2 e⟩⟩
    ·rw [if_neg (by simpa using e)]
     have li2:LI rk a b (out.push b[ib]) ia (ib+1):=⟨m2,h1,by omega⟩
     split
     ·exact wpS_pure ⟨sm2,.inr ⟨_,_,_,_,_,rfl,li2,by omega⟩⟩
     ·exact wpS_pure ⟨sm2,_,_,_,_,_,rfl,li2,by omega⟩
   ·rw [if_neg (by simpa using cb)]
    refine wpS_bind (bL hia ?_)
    have m2:=ml_pa T m hia fun y hy=>by
     obtain ⟨j,h3,h4,rfl⟩:=eY hy
     have:=T.sb.le h3 h4
     have:=T.ne _ (bG hia) _ (bG h2)
     omega
    by_cases e:ia+1+1=a.size
    ·rw [if_pos (by simpa using e)]
     exact wpS_pure ⟨sm2,.inl ⟨_,_,rfl,qp T hL m2 e⟩⟩
    ·rw [if_neg (by simpa using e)]
     have li2:LI rk a b (out.push a[ia]) (ia+1) ib:=⟨m2,by omega,h2⟩
     split
     ·exact wpS_pure ⟨sm2,.inr ⟨_,_,_,_,_,rfl,li2,by omega⟩⟩
     ·exact wpS_pure ⟨sm2,_,_,_,_,_,rfl,li2,by omega⟩
  ·rintro c st2 ⟨sm2,out,ia,ib,ac,bc,rfl,li2,hp2⟩
   exact ⟨sm2,.inr ⟨_,_,_,_,_,rfl,li2,by omega⟩⟩
  ·rintro c st2 ⟨sm2,(⟨r,rest,rfl,hr⟩ | ⟨out,ia,ib,ac,bc,rfl,li2,hp2⟩)⟩
   ·exact wpS_pure ⟨sm2,_,_,rfl,hr⟩
   ·dsimp only
    refine wpS_bind (wpS_lift (wpAny_rule ⟨rfl,?_⟩))
    refine wpS_bind (wpS_mono (wpS_forRange
     (I:=fun y c st3=>dh st st3∧∃ out ia ib mg ac bc,c=(none,out,ia,ib,mg,ac,bc)∧LI rk a b out ia ib∧2+x≤ia+ib)
     (Q:=fun c st3=>dh st st3∧((∃ r rest,c=(some r,rest)∧Mrg rk a.toList b.toList r.toList)∨∃ out ia ib mg ac bc,c=(none,out,ia,ib,mg,ac,bc)∧LI rk a b out ia ib∧2+x≤ia+ib)) ?_ ?_ ⟨sm2,out,ia,ib,mg+1,ac,bc,rfl,li2,hp2⟩) ?_)
    ·rintro y c st3 _ hy ⟨sm3,out,ia,ib,mg,ac,bc,rfl,li3,hp3⟩
     refine iJ ?_ ?_ <;> refine w_st1 (out:=out) (ia:=ia) (ib:=ib) C T hL li3 (sm3.2.1.trans hk) fun y k st4 s4 lk m4 lo=>?_
     all_goals
      have sm4:=sm3.trans s4
      by_cases k0:k>0
      ·refine ifT k0 ?_
       by_cases e1:ia+k+1=a.size
       ·exact ifT (by simpa using e1) (wpS_pure ⟨sm4,.inl ⟨_,_,rfl,qp T hL m4 e1⟩⟩)
       ·refine ifF (by simpa using e1) (ifF (by simp;omega) ?_)
        refine w_st2 (out:=out++a.extract ia (ia+k)) (ia:=ia+k) (ib:=ib) C T m4 (by omega) li3.ib (sm4.2.1.trans hk) lo (fun y h=>wpS_pure ⟨sm4,.inl ⟨_,_,rfl,h⟩⟩) fun x' y' j j1 j2 m5 lo2=>?_
        by_cases j0:j>0
        ·refine ifT j0 ?_
         by_cases e2:ib+1+j=b.size
         ·exact ifT (by simpa using e2) (wpS_pure ⟨sm4,.inl ⟨_,_,rfl,lW T m5 e2⟩⟩)
         ·refine ifF (by simpa using e2) ?_
          exact w_st3 (ia:=ia+k) (ib:=ib+1+j) T hL m5 (by omega) (by omega) lo2 (fun x' h=>wpS_pure ⟨sm4,.inl ⟨_,_,rfl,h⟩⟩) (fun x' h=>wpS_pure ⟨sm4,.inr ⟨_,_,_,_,_,_,rfl,h,(show 2+x≤ia+k+1+(ib+1+j) by omega)⟩⟩) fun x' h=>wpS_pure ⟨sm4,_,_,_,_,_,_,rfl,h,(show 2+x≤ia+k+1+(ib+1+j) by omega)⟩
        ·refine ifF j0 ?_
         have z:j=0:=by omega
         subst z
         rw [ext_nil] at m5
         exact w_st3 (ia:=ia+k) (ib:=ib+1) T hL m5 (by omega) (by omega) lo2 (fun x' h=>wpS_pure ⟨sm4,.inl ⟨_,_,rfl,h⟩⟩) (fun x' h=>wpS_pure ⟨sm4,.inr ⟨_,_,_,_,_,_,rfl,h,(show 2+x≤ia+k+1+(ib+1) by omega)⟩⟩) fun x' h=>wpS_pure ⟨sm4,_,_,_,_,_,_,rfl,h,(show 2+x≤ia+k+1+(ib+1) by omega)⟩
      ·refine ifF k0 ?_
       have z:k=0:=by omega
       subst z
       rw [ext_nil] at m4
       refine w_st2 (out:=out) (ia:=ia) (ib:=ib) C T m4 li3.ia li3.ib (sm4.2.1.trans hk) lo (fun y h=>wpS_pure ⟨sm4,.inl ⟨_,_,rfl,h⟩⟩) fun x' y' j j1 j2 m5 lo2=>?_
       by_cases j0:j>0
       ·refine ifT j0 ?_
        by_cases e2:ib+1+j=b.size
        ·exact ifT (by simpa using e2) (wpS_pure ⟨sm4,.inl ⟨_,_,rfl,lW T m5 e2⟩⟩)
        ·refine ifF (by simpa using e2) ?_
         exact w_st3 (ia:=ia) (ib:=ib+1+j) T hL m5 li3.ia (by omega) lo2 (fun x' h=>wpS_pure ⟨sm4,.inl ⟨_,_,rfl,h⟩⟩) (fun x' h=>wpS_pure ⟨sm4,.inr ⟨_,_,_,_,_,_,rfl,h,(show 2+x≤ia+1+(ib+1+j) by omega)⟩⟩) fun x' h=>wpS_pure ⟨sm4,_,_,_,_,_,_,rfl,h,(show 2+x≤ia+1+(ib+1+j) by omega)⟩
       ·refine ifF j0 ?_
        have z:j=0:=by omega
        subst z
        rw [ext_nil] at m5
        exact w_st3 (ia:=ia) (ib:=ib+1) T hL m5 li3.ia (by omega) lo2 (fun x' h=>wpS_pure ⟨sm4,.inl ⟨_,_,rfl,h⟩⟩) (fun x' h=>wpS_pure ⟨sm4,.inr ⟨_,_,_,_,_,_,rfl,h,(show 2+x≤ia+1+(ib+1) by omega)⟩⟩) fun x' h=>wpS_pure ⟨sm4,_,_,_,_,_,_,rfl,h,(show 2+x≤ia+1+(ib+1) by omega)⟩
    ·rintro c st3 ⟨sm3,out,ia,ib,mg,ac,bc,rfl,li3,hp3⟩
     exact ⟨sm3,.inr ⟨_,_,_,_,_,_,rfl,li3,hp3⟩⟩
    ·rintro c st3 ⟨sm3,(⟨r,rest,rfl,hr⟩ | ⟨out,ia,ib,mg,ac,bc,rfl,li3,hp3⟩)⟩
     ·exact wpS_pure ⟨sm3,_,_,rfl,hr⟩
     ·dsimp only
      refine wpS_bind (pF fun st4 s4=>wpS_pure ⟨sm3.trans s4,_,_,_,_,rfl,li3,by omega⟩)
 ·rintro c st' ⟨sm,out,ia,ib,mg,rfl,⟨_,h1,h2⟩,hp⟩
  omega
 ·rintro c st' ⟨sm,r,rest,rfl,hr⟩
  exact wpS_pure (q r st' hr sm)
end
end L2
namespace L2
open PySem PySem.Spec PyProof.Rows
section
variable {rk:Value→Nat}
def MH (rk:Value→Nat)(A B o ah bh:List Keyed):Prop:=∃ a2 b2,A=ah++a2∧B=bh++b2∧o.Perm (a2++b2)∧SL rk o∧Be rk ah o∧Be rk bh o
theorem MH.swap {A B o ah bh:List Keyed}(h:MH rk A B o ah bh):MH rk B A o bh ah:=by
 obtain ⟨a1,b1,e1,e2,p,s,q1,q2⟩:=h
 exact ⟨b1,a1,e2,e1,p.trans List.perm_append_comm,s,q2,q1⟩
theorem MH.a {A B o xs ah bh:List Keyed}(sa:SL rk A)(h:MH rk A B o (ah++xs) bh)(hx:Be rk bh xs):MH rk A B (xs++o) ah bh:=by
 obtain ⟨a2,b2,e1,e2,p,s,q1,q2⟩:=h
 have sx:SL rk (ah++xs):=by
  unfold SL at sa
  rw [e1,List.pairwise_append] at sa
  exact sa.1
 unfold SL at sx
 rw [List.pairwise_append] at sx
 refine ⟨xs++a2,b2,by rw [e1,List.append_assoc],e2,?_,?_,?_,?_⟩
 ·rw [List.append_assoc]
  exact p.append_left xs
 ·unfold SL
  rw [List.pairwise_append]
  exact ⟨sx.2.1,s,fun x hx y hy=>q1 x (List.mem_append_right _ hx) y hy⟩
 ·intro x hx y hy
  rcases List.mem_append.mp hy with hy | hy
  ·exact sx.2.2 x hx y hy
  ·exact q1 x (List.mem_append_left _ hx) y hy
 ·intro x hx' y hy
  rcases List.mem_append.mp hy with hy | hy
  ·exact hx x hx' y hy
  ·exact q2 x hx' y hy
theorem MH.b {A B o xs ah bh:List Keyed}(sb:SL rk B)(h:MH rk A B o ah (bh++xs))(hx:Be rk ah xs):MH rk A B (xs++o) ah bh:=(h.swap.a sb hx).swap
theorem MH.fin {A B o bh:List Keyed}(sb:SL rk B)(h:MH rk A B o [] bh):Mrg rk A B (bh++o):=by
 have h:MH rk A B o [] ([]++bh):=h
 obtain ⟨a2,b2,e1,e2,p,s,_⟩:=h.b sb fun _ h=>(nomatch h)
 rw [List.nil_append] at e1 e2
 rw [e1,e2]
 exact ⟨p,s⟩
theorem MH.fin2 {A B o ah bh:List Keyed}(sa:SL rk A)(sb:SL rk B)(h:MH rk A B o ah bh)(hx:Be rk bh ah):Mrg rk A B (bh++ah++o):=by
 have h:MH rk A B o ([]++ah) bh:=h
 rw [List.append_assoc]
 exact (h.a sa hx).fin sb
end
section
variable {P:Program}{w:World}{A:Around}{E:Value→Shared→Prop}{s:Shared}{kd:SortKind}{rk:Value→Nat}{good:Value→Prop}
theorem takeA {a:Array Keyed}{i:Nat}(h:i<a.size):a.toList.take (i+1)=a.toList.take i++[a[i]]:=by
 rw [List.take_succ,List.getElem?_eq_getElem (by simpa using h)]
 simp
theorem extT (a:Array Keyed){i n:Nat}(h:i≤n):a.toList.take n=a.toList.take i++(a.extract i n).toList:=by
 rw [Array.toList_extract,List.extract_eq_drop_take]
 have e:n=i+(n - i):=by omega
 conv=>lhs;rw [e,List.take_add]
theorem pX (a:Array Keyed)(n:Nat):(a.extract 0 n).toList=a.toList.take n:=by
 rw [Array.toList_extract,List.extract_eq_drop_take]
 simp
theorem eV {a:Array Keyed}{n:Nat}{x:Keyed}(hx:x∈a.toList.take n):∃ j,j<n∧∃ hj:j<a.size,x=a[j]:=by
 obtain ⟨k,hk,e⟩:=List.mem_iff_getElem.mp hx
 rw [List.length_take] at hk
 simp at hk
 refine ⟨k,by omega,by omega,?_⟩
 rw [←e,List.getElem_take]
 simp
theorem bW {a:Array Keyed}{i n:Nat}{x:Keyed}(h:n≤a.size)(hx:x∈(a.extract i n).toList):∃ j,i≤j∧j<n∧∃ hj:j<a.size,x=a[j]:=by
 obtain ⟨j,hj,e⟩:=Array.mem_iff_getElem.mp (Array.mem_def.mpr hx)
 have hj':i+j<n:=by simp at hj;omega
 exact ⟨i+j,by omega,hj',by omega,by rw [←e];simp⟩
def u6 (rk:Value→Nat)(a b:Array Keyed):Prop:=∀ (h:0<b.size),∀ x∈a.toList,rk b[0].1<rk x.1
structure HI (rk:Value→Nat) (a b out:Array Keyed) (na nb:Nat):Prop where
 mh:MH rk a.toList b.toList out.toList.reverse (a.toList.take na) (b.toList.take nb)
 pa:0<na
 pb:1<nb
 la:na≤a.size
 lb:nb≤b.size
theorem mh_pa {a b out:Array Keyed}{na nb:Nat}(T:Two rk good a b)(h:MH rk a.toList b.toList out.toList.reverse (a.toList.take na) (b.toList.take nb))(h0:0<na)(hi:na≤a.size)(hx:∀ y∈b.toList.take nb,rk y.1<rk (a[na - 1]'(by omega)).1):MH rk a.toList b.toList (out.push (a[na - 1]'(by omega))).toList.reverse (a.toList.take (na - 1)) (b.toList.take nb):=by
 rw [iV,List.reverse_append]
 refine MH.a T.sa (xs:=[a[na - 1]'(by omega)]) ?_ fun x hx' y hy=>?_
 ·have e:=takeA (a:=a) (i:=na - 1) (by omega)
  have e1:na - 1+1=na:=by omega
  rw [e1] at e
  rw [←e]
  exact h
 ·rw [List.mem_singleton.mp hy];exact hx x hx'
theorem mh_pb {a b out:Array Keyed}{na nb:Nat}(T:Two rk good a b)(h:MH rk a.toList b.toList out.toList.reverse (a.toList.take na) (b.toList.take nb))(h0:0<nb)(hi:nb≤b.size)(hx:∀ y∈a.toList.take na,rk y.1<rk (b[nb - 1]'(by omega)).1):MH rk a.toList b.toList (out.push (b[nb - 1]'(by omega))).toList.reverse (a.toList.take na) (b.toList.take (nb - 1)):=by
 rw [iV,List.reverse_append]
 refine MH.b T.sb (xs:=[b[nb - 1]'(by omega)]) ?_ fun x hx' y hy=>?_
 ·have e:=takeA (a:=b) (i:=nb - 1) (by omega)
  have e1:nb - 1+1=nb:=by omega
  rw [e1] at e
  rw [←e]
  exact h
 ·rw [List.mem_singleton.mp hy];exact hx x hx'
theorem Ae (out xs:Array Keyed):(out++xs.reverse).toList.reverse=xs.toList++out.toList.reverse:=by simp
theorem mh_xa {a b out:Array Keyed}{na nb m:Nat}(T:Two rk good a b)(h:MH rk a.toList b.toList out.toList.reverse (a.toList.take na) (b.toList.take nb))(hi:m≤na)(hx:Be rk (b.toList.take nb) (a.extract m na).toList):MH rk a.toList b.toList (out++(a.extract m na).reverse).toList.reverse (a.toList.take m) (b.toList.take nb):=by
 rw [Ae]
 refine MH.a T.sa ?_ hx
 rw [←extT a hi]
 exact h
theorem mh_xb {a b out:Array Keyed}{na nb m:Nat}(T:Two rk good a b)(h:MH rk a.toList b.toList out.toList.reverse (a.toList.take na) (b.toList.take nb))(hi:m≤nb)(hx:Be rk (a.toList.take na) (b.extract m nb).toList):MH rk a.toList b.toList (out++(b.extract m nb).reverse).toList.reverse (a.toList.take na) (b.toList.take m):=by
 rw [Ae]
 refine MH.b T.sb ?_ hx
 rw [←extT b hi]
 exact h
theorem pY {a b out:Array Keyed}{na nb:Nat}(T:Two rk good a b)(h:MH rk a.toList b.toList out.toList.reverse (a.toList.take na) (b.toList.take nb))(e:na=0):Mrg rk a.toList b.toList (a.extract 0 na++b.extract 0 nb++out.reverse).toList:=by
 subst e
 rw [Array.toList_append,Array.toList_append,pX,pX,List.take_zero,List.nil_append,Array.toList_reverse]
 rw [List.take_zero] at h
 exact h.fin T.sb
theorem jh {a b out:Array Keyed}{na nb:Nat}(T:Two rk good a b)(hF:u6 rk a b)(hb:0<b.size)(h:MH rk a.toList b.toList out.toList.reverse (a.toList.take na) (b.toList.take nb))(e:nb=1):Mrg rk a.toList b.toList (b.extract 0 nb++a.extract 0 na++out.reverse).toList:=by
 rw [Array.toList_append,Array.toList_append,pX,pX,Array.toList_reverse]
 refine h.fin2 T.sa T.sb fun x hx y hy=>?_
 obtain ⟨j,h1,h2,rfl⟩:=eV hx
 have z:j=0:=by omega
 subst z
 exact hF hb y (List.mem_of_mem_take hy)
theorem w_ht3 {α : Type}{a b out:Array Keyed}{na nb:Nat}{c:Prop} [Decidable c] {E1 E2 E3:Keyed→StateT SortSt Sem α} {Q:α→SortSt→Prop} {st:SortSt} (T:Two rk good a b) (h:MH rk a.toList b.toList out.toList.reverse (a.toList.take na) (b.toList.take nb)) (h1:0<na) (h2:1<nb) (h3:na≤a.size) (h4:nb≤b.size)
  (hx:∀ y∈b.toList.take nb,rk y.1<rk (a[na - 1]'(by omega)).1)
  (q1:∀ x,Mrg rk a.toList b.toList (a.extract 0 (na - 1)++b.extract 0 nb++(out.push x).reverse).toList→wpS (model P w) A E s (E1 x) Q st)
  (q2:∀ x,HI rk a b (out.push x) (na - 1) nb→wpS (model P w) A E s (E2 x) Q st) (q3:∀ x,HI rk a b (out.push x) (na - 1) nb→wpS (model P w) A E s (E3 x) Q st) :
  wpS (model P w) A E s (elem' a (na - 1) >>= fun x=>if (na - 1==0)=true then E1 x else if c then E2 x else E3 x) Q st:=by
 refine wpS_bind (bL (by omega) ?_)
 have m:=mh_pa T h h1 h3 hx
 by_cases e:na - 1=0
 ·exact ifT (by simpa using e) (q1 _ (pY T m e))
 ·refine ifF (by simpa using e) ?_
  have li:HI rk a b (out.push (a[na - 1]'(by omega))) (na - 1) nb:=⟨m,by omega,h2,by omega,h4⟩
  exact iJ (q2 _ li) (q3 _ li)
set_option maxHeartbeats 1000000 in
theorem w_ht2 (C:Cmp P w A s kd rk good){α : Type}{a b out:Array Keyed}{na nb:Nat}{D1:Keyed→StateT SortSt Sem α}{K:Keyed→Keyed→Option Nat→StateT SortSt Sem α}{Q:α→SortSt→Prop}{st:SortSt}(T:Two rk good a b)(hF:u6 rk a b)(h:MH rk a.toList b.toList out.toList.reverse (a.toList.take na) (b.toList.take nb))(h1:0<na)(h2:1<nb)(h3:na≤a.size)(h4:nb≤b.size)(hk:kindOf st=kd)
  (hx:∀ y∈a.toList.take na,rk y.1<rk (b[nb - 1]'(by omega)).1)
  (q1:∀ y,Mrg rk a.toList b.toList (b.extract 0 (nb - 1)++a.extract 0 na++(out.push y).reverse).toList→wpS (model P w) A E s (D1 y) Q st)
  (q2:∀ x y m,1<nb - 1→0<m→m≤nb - 1→MH rk a.toList b.toList (out.push y++(b.extract m (nb - 1)).reverse).toList.reverse (a.toList.take na) (b.toList.take m)→(∀ z∈b.toList.take m,rk z.1<rk (a[na - 1]'(by omega)).1)→wpS (model P w) A E s (K y x (some m)) Q st) :
  wpS (model P w) A E s (elem' b (nb - 1) >>= fun y=>if (nb - 1==1)=true then D1 y else elem' a (na - 1) >>= fun x=>gal true x b 0 (nb - 1) (nb - 1 - 1) >>= K y x) Q st:=by
 refine wpS_bind (bL (by omega) ?_)
 have m:=mh_pb T h (by omega) h4 hx
 by_cases c:nb - 1=1
 ·exact ifT (by simpa using c) (q1 _ (jh T hF (by omega) m c))
 ·refine ifF (by simpa using c) ?_
  have ha:na - 1<a.size:=by omega
  refine wpS_bind (bL ha ?_)
  refine wpS_bind (yg C hk T.gb (T.ga _ (bG ha)) (by omega) (by omega) (fun i j h5 h6 h7=>?_) fun k k1 k2 k3=>?_)
  ·rw [tH (by omega)] at h7 ⊢
   have:=T.sb.le (i:=0+i) (j:=0+j) (by omega) (by omega)
   simp at h7 this ⊢
   omega
  ·have kp:0<k:=by
    refine Decidable.byContradiction fun z=>?_
    have:=k3 0 (by omega) (by omega)
    rw [tH (by omega)] at this
    have:=hF (by omega) _ (bG ha)
    simp at *
    omega
   refine q2 _ _ k (by omega) kp k1 (mh_xb T m k1 fun x hx y hy=>?_) fun y hy=>?_
   ·obtain ⟨j,j1,j2,rfl⟩:=eV hx
    obtain ⟨i,i1,i2,i3,rfl⟩:=bW (by omega) hy
    have:=k3 i i1 (by omega)
    rw [tH (by omega)] at this
    have:=T.sa.le (i:=j) (j:=na - 1) (by omega) ha
    have:=T.ne _ (bG ha) _ (bG i3)
    simp at *
    omega
   ·obtain ⟨j,j1,j2,rfl⟩:=eV hy
    have:=k2 j j1
    rw [tH (by omega)] at this
    simpa using this
set_option maxHeartbeats 1000000 in
theorem w_ht1 (C:Cmp P w A s kd rk good){α : Type}{a b out:Array Keyed}{na nb g:Nat}{K:Keyed→Option Nat→StateT SortSt Sem α}{Q:α→SortSt→Prop}{st:SortSt}(T:Two rk good a b)(li:HI rk a b out na nb)(hk:kindOf st=kd)
  (q:∀ y m st',dh st st'→m≤na→MH rk a.toList b.toList (out++(a.extract m na).reverse).toList.reverse (a.toList.take m) (b.toList.take nb)→(∀ z∈a.toList.take m,rk z.1<rk (b[nb - 1]'(by have:=li.lb;have:=li.pb;omega)).1)→wpS (model P w) A E s (K y (some m)) Q st') :
  wpS (model P w) A E s (setMg g >>= fun _=>elem' b (nb - 1) >>= fun y=>gal false y a 0 na (na - 1) >>= K y) Q st:=by
 obtain ⟨h,h1,h2,h3,h4⟩:=li
 have hb:nb - 1<b.size:=by omega
 refine wpS_bind (pF fun st1 s1=>?_)
 refine wpS_bind (bL hb ?_)
 refine wpS_bind (yg C (s1.2.1.trans hk) T.ga (T.gb _ (bG hb)) (by omega) (by omega) (fun i j h5 h6 h7=>?_) fun k k1 k2 k3=>?_)
 ·rw [tu (by omega)] at h7 ⊢
  have:=T.sa.le (i:=0+i) (j:=0+j) (by omega) (by omega)
  simp at h7 this ⊢
  omega
 ·refine q _ k st1 s1 k1 (mh_xa T h k1 fun x hx y hy=>?_) fun y hy=>?_
  ·obtain ⟨j,j1,j2,rfl⟩:=eV hx
   obtain ⟨i,i1,i2,i3,rfl⟩:=bW h3 hy
   have:=k3 i i1 i2
   rw [tu (by omega)] at this
   have:=T.sb.le (i:=j) (j:=nb - 1) (by omega) hb
   simp at *
   omega
  ·obtain ⟨j,j1,j2,rfl⟩:=eV hy
   have:=k2 j j1
   rw [tu (by omega)] at this
   have:=T.ne _ (bG j2) _ (bG hb)
   simp at *
   omega
theorem o9 (out a:Array Keyed)(n:Nat):out++(a.extract n n).reverse=out:=by simp [Nat.min_le_left]
set_option maxHeartbeats 2000000 in
theorem w_mHi (C:Cmp P w A s kd rk good){a b:Array Keyed}{st:SortSt}{Q:Array Keyed→SortSt→Prop}(T:Two rk good a b)(hL:yd rk a b)(hF:u6 rk a b)(ha:0<a.size)(hb:0<b.size)(hk:kindOf st=kd)
  (q:∀ r st',Mrg rk a.toList b.toList r.toList→dh st st'→Q r st'):wpS (model P w) A E s (mHi a b) Q st:=by
 refine wpS_bind (wpS_lift (wpAny_rule ⟨rfl,?_⟩))
 refine wpS_bind (bL (show a.size - 1<a.size by omega) ?_)
 have m0:MH rk a.toList b.toList (#[a[a.size - 1]]:Array Keyed).toList.reverse (a.toList.take (a.size - 1)) (b.toList.take b.size):=by
  have m:MH rk a.toList b.toList (#[]:Array Keyed).toList.reverse (a.toList.take a.size) (b.toList.take b.size):=⟨[],[],by rw [List.append_nil,List.take_of_length_le (by simp)],by rw [List.append_nil,List.take_of_length_le (by simp)],.nil,.nil,fun _ _ _ h=>(nomatch h),fun _ _ _ h=>(nomatch h)⟩
  exact mh_pa T m ha (Nat.le_refl _) fun y hy=>hL ha y (List.mem_of_mem_take hy)
 by_cases c1:a.size - 1=0
 ·exact ifT (by simpa using c1) (wpS_pure (q _ _ (pY T m0 c1) (.refl _)))
 refine ifF (by simpa using c1) ?_
 by_cases c2:b.size=1
 ·exact ifT (by simpa using c2) (wpS_pure (q _ _ (jh T hF hb m0 c2) (.refl _)))
 refine ifF (by simpa using c2) ?_
 refine wpS_bind (wpS_get ?_)
 dsimp only
 refine wpS_bind (wpS_mono (wpS_forRange
  (I:=fun x c st'=>dh st st'∧∃ na nb out mg,c=(none,na,nb,out,mg)∧HI rk a b out na nb∧na+nb+1+x≤a.size+b.size)
  (Q:=fun c st'=>dh st st'∧∃ r rest,c=(some r,rest)∧Mrg rk a.toList b.toList r.toList) ?_ ?_ ⟨.refl _,_,_,_,_,rfl,⟨m0,by omega,by omega,by omega,by omega⟩,by omega⟩) ?_)
 ·rintro x c st' _ hx ⟨sm,na,nb,out,mg,rfl,li,hp⟩
  dsimp only
  refine wpS_bind (wpS_mono (wpS_forRange
   (I:=fun y c st2=>dh st st2∧∃ na nb out ac bc,c=(none,na,nb,out,ac,bc)∧HI rk a b out na nb∧na+nb+1+x+y≤a.size+b.size)
   (Q:=fun c st2=>dh st st2∧((∃ r rest,c=(some r,rest)∧Mrg rk a.toList b.toList r.toList)∨∃ na nb out ac bc,c=(none,na,nb,out,ac,bc)∧HI rk a b out na nb∧na+nb+2+x≤a.size+b.size)) ?_ ?_ ⟨sm,na,nb,out,0,0,rfl,li,by omega⟩) ?_)
  ·rintro y c st2 _ hy ⟨sm2,na,nb,out,ac,bc,rfl,⟨m,h1,h2,h3,h4⟩,hp2⟩
   dsimp only
   have hia:na - 1<a.size:=by omega
   have hib:nb - 1<b.size:=by omega
   refine wpS_bind (bL hib (wpS_bind (bL hia (wpS_bind (w_lt C (sm2.2.1.trans hk) (T.gb _ (bG hib)) (T.ga _ (bG hia)) ?_)))))
   dsimp only
   by_cases cb:rk b[nb - 1].1<rk a[na - 1].1
   ·refine ifT (by simpa using cb) ?_
    refine wpS_bind (bL hia ?_)
    have m2:=mh_pa T m h1 h3 fun y hy=>by
     obtain ⟨j,j1,j2,rfl⟩:=eV hy
     exact Nat.lt_of_le_of_lt (T.sb.le (by omega) hib) cb
    by_cases e:na - 1=0
    ·exact ifT (by simpa using e) (wpS_pure ⟨sm2,.inl ⟨_,_,rfl,pY T m2 e⟩⟩)
    ·refine ifF (by simpa using e) ?_
     have li2:HI rk a b (out.push a[na - 1]) (na - 1) nb:=⟨m2,by omega,h2,by omega,h4⟩
     exact iJ (wpS_pure ⟨sm2,.inr ⟨_,_,_,_,_,rfl,li2,by omega⟩⟩) (wpS_pure ⟨sm2,_,_,_,_,_,rfl,li2,by omega⟩)
   ·refine ifF (by simpa using cb) ?_
    refine wpS_bind (bL hib ?_)
    have m2:=mh_pb T m (by omega) h4 fun y hy=>by
     obtain ⟨j,j1,j2,rfl⟩:=eV hy
     have:=T.sa.le (i:=j) (j:=na - 1) (by omega) hia
     have:=T.ne _ (bG hia) _ (bG hib)
     omega
    by_cases e:nb - 1=1
    ·exact ifT (by simpa using e) (wpS_pure ⟨sm2,.inl ⟨_,_,rfl,jh T hF hb m2 e⟩⟩)
    ·refine ifF (by simpa using e) ?_
     have li2:HI rk a b (out.push b[nb - 1]) na (nb - 1):=⟨m2,h1,by omega,h3,by omega⟩
     exact iJ (wpS_pure ⟨sm2,.inr ⟨_,_,_,_,_,rfl,li2,by omega⟩⟩) (wpS_pure ⟨sm2,_,_,_,_,_,rfl,li2,by omega⟩)
  ·rintro c st2 ⟨sm2,na,nb,out,ac,bc,rfl,li2,hp2⟩
   exact ⟨sm2,.inr ⟨_,_,_,_,_,rfl,li2,by omega⟩⟩
  ·rintro c st2 ⟨sm2,(⟨r,rest,rfl,hr⟩ | ⟨na,nb,out,ac,bc,rfl,li2,hp2⟩)⟩
   ·exact wpS_pure ⟨sm2,_,_,rfl,hr⟩
   ·dsimp only
    refine wpS_bind (wpS_lift (wpAny_rule ⟨rfl,?_⟩))
    refine wpS_bind (wpS_mono (wpS_forRange
     (I:=fun y c st3=>dh st st3∧∃ na nb out mg ac bc,c=(none,na,nb,out,mg,ac,bc)∧HI rk a b out na nb∧na+nb+2+x≤a.size+b.size)
     (Q:=fun c st3=>dh st st3∧((∃ r rest,c=(some r,rest)∧Mrg rk a.toList b.toList r.toList)∨∃ na nb out mg ac bc,c=(none,na,nb,out,mg,ac,bc)∧HI rk a b out na nb∧na+nb+2+x≤a.size+b.size)) ?_ ?_ ⟨sm2,na,nb,out,mg+1,ac,bc,rfl,li2,hp2⟩) ?_)
    ·rintro y c st3 _ hy ⟨sm3,na,nb,out,mg,ac,bc,rfl,li3,hp3⟩
     have pb:=li3.pb
     have pa:=li3.pa
     have la:=li3.la
     have lb:=li3.lb
     refine iJ ?_ ?_ <;> refine w_ht1 (out:=out) (na:=na) (nb:=nb) C T li3 (sm3.2.1.trans hk) fun y' m st4 s4 lk m4 lo=>?_
     all_goals
      have sm4:=sm3.trans s4
      by_cases k0:na - m>0
      ·refine ifT k0 ?_
       by_cases e1:m=0
       ·exact ifT (by simpa using e1) (wpS_pure ⟨sm4,.inl ⟨_,_,rfl,pY T m4 e1⟩⟩)
       ·refine ifF (by simpa using e1) ?_
        refine w_ht2 (out:=out++(a.extract m na).reverse) (na:=m) (nb:=nb) C T hF m4 (by omega) pb (by omega) lb (sm4.2.1.trans hk) lo (fun y h=>wpS_pure ⟨sm4,.inl ⟨_,_,rfl,h⟩⟩) fun x' y' j j1 jp j2 m5 lo2=>?_
        by_cases j0:nb - 1 - j>0
        ·refine ifT j0 ?_
         by_cases e2:j=1
         ·exact ifT (by simpa using e2) (wpS_pure ⟨sm4,.inl ⟨_,_,rfl,jh T hF hb m5 e2⟩⟩)
         ·refine ifF (by simpa using e2) (ifF (by simp;omega) ?_)
          exact w_ht3 (na:=m) (nb:=j) T m5 (by omega) (by omega) (by omega) (by omega) lo2 (fun x' h=>wpS_pure ⟨sm4,.inl ⟨_,_,rfl,h⟩⟩) (fun x' h=>wpS_pure ⟨sm4,.inr ⟨_,_,_,_,_,_,rfl,h,(show m - 1+j+2+x≤a.size+b.size by omega)⟩⟩) fun x' h=>wpS_pure ⟨sm4,_,_,_,_,_,_,rfl,h,(show m - 1+j+2+x≤a.size+b.size by omega)⟩
        ·refine ifF j0 ?_
         have z:j=nb - 1:=by omega
         subst z
         rw [o9] at m5
         exact w_ht3 (na:=m) (nb:=nb - 1) T m5 (by omega) (by omega) (by omega) (by omega) lo2 (fun x' h=>wpS_pure ⟨sm4,.inl ⟨_,_,rfl,h⟩⟩) (fun x' h=>wpS_pure ⟨sm4,.inr ⟨_,_,_,_,_,_,rfl,h,(show m - 1+(nb - 1)+2+x≤a.size+b.size by omega)⟩⟩) fun x' h=>wpS_pure ⟨sm4,_,_,_,_,_,_,rfl,h,(show m - 1+(nb - 1)+2+x≤a.size+b.size by omega)⟩
      ·refine ifF k0 ?_
       have z:m=na:=by omega
       subst z
       rw [o9] at m4
       refine w_ht2 (out:=out) (na:=m) (nb:=nb) C T hF m4 pa pb la lb (sm4.2.1.trans hk) lo (fun y h=>wpS_pure ⟨sm4,.inl ⟨_,_,rfl,h⟩⟩) fun x' y' j j1 jp j2 m5 lo2=>?_
       by_cases j0:nb - 1 - j>0
       ·refine ifT j0 ?_
        by_cases e2:j=1
        ·exact ifT (by simpa using e2) (wpS_pure ⟨sm4,.inl ⟨_,_,rfl,jh T hF hb m5 e2⟩⟩)
        ·refine ifF (by simpa using e2) (ifF (by simp;omega) ?_)
         exact w_ht3 (na:=m) (nb:=j) T m5 pa (by omega) la (by omega) lo2 (fun x' h=>wpS_pure ⟨sm4,.inl ⟨_,_,rfl,h⟩⟩) (fun x' h=>wpS_pure ⟨sm4,.inr ⟨_,_,_,_,_,_,rfl,h,(show m - 1+j+2+x≤a.size+b.size by omega)⟩⟩) fun x' h=>wpS_pure ⟨sm4,_,_,_,_,_,_,rfl,h,(show m - 1+j+2+x≤a.size+b.size by omega)⟩
       ·refine ifF j0 ?_
        have z:j=nb - 1:=by omega
        subst z
        rw [o9] at m5
        exact w_ht3 (na:=m) (nb:=nb - 1) T m5 pa (by omega) la (by omega) lo2 (fun x' h=>wpS_pure ⟨sm4,.inl ⟨_,_,rfl,h⟩⟩) (fun x' h=>wpS_pure ⟨sm4,.inr ⟨_,_,_,_,_,_,rfl,h,(show m - 1+(nb - 1)+2+x≤a.size+b.size by omega)⟩⟩) fun x' h=>wpS_pure ⟨sm4,_,_,_,_,_,_,rfl,h,(show m - 1+(nb - 1)+2+x≤a.size+b.size by omega)⟩
    ·rintro c st3 ⟨sm3,na,nb,out,mg,ac,bc,rfl,li3,hp3⟩
     exact ⟨sm3,.inr ⟨_,_,_,_,_,_,rfl,li3,hp3⟩⟩
    ·rintro c st3 ⟨sm3,(⟨r,rest,rfl,hr⟩ | ⟨na,nb,out,mg,ac,bc,rfl,li3,hp3⟩)⟩
     ·exact wpS_pure ⟨sm3,_,_,rfl,hr⟩
     ·dsimp only
      refine wpS_bind (pF fun st4 s4=>wpS_pure ⟨sm3.trans s4,_,_,_,_,rfl,li3,by omega⟩)
 ·rintro c st' ⟨sm,na,nb,out,mg,rfl,⟨_,h1,h2,_,_⟩,hp⟩
  omega
 ·rintro c st' ⟨sm,r,rest,rfl,hr⟩
  exact wpS_pure (q r st' hr sm)
end
end L2
namespace L2
open PySem PySem.Spec PyProof.Rows
def mAt:Nat→StateT SortSt Sem Bool:=sortPriv% PySem.Builtin.mergeAt
section
variable {P:Program}{w:World}{A:Around}{E:Value→Shared→Prop}{s:Shared}{kd:SortKind}{rk:Value→Nat}{good:Value→Prop}
theorem wpS_setS {st st2:SortSt}{Q:PUnit→SortSt→Prop}(h:Q ⟨⟩ st2):wpS (model P w) A E s (set st2:StateT SortSt Sem PUnit) Q st:=wpS_modify (f:=fun _=>st2) h
theorem uY (s0:Nat):∀ (m:List Keyed) (j0:Nat) (arr:Array Keyed),s0+j0+m.length≤arr.size→((m.zipIdx j0).foldl (fun a (p:Keyed×Nat)=>a.setIfInBounds (s0+p.2) p.1) arr).toList=arr.toList.take (s0+j0)++m++arr.toList.drop (s0+j0+m.length)
 | [],j0,arr,h=>by simp
 | p::m,j0,arr,h=>by
  rw [List.length_cons] at h
  rw [List.zipIdx_cons,List.foldl_cons,uY s0 m (j0+1) _ (by rw [Array.size_setIfInBounds];omega)]
  dsimp only
  have e1:(arr.setIfInBounds (s0+j0) p).toList=arr.toList.set (s0+j0) p:=by simp
  have e2:s0+(j0+1)=s0+j0+1:=by omega
  rw [e1,e2,List.take_succ,List.getElem?_set_self (by simp;omega),List.take_set_of_le (Nat.le_refl _),List.drop_set_of_lt (by omega)]
  have e3:s0+j0+1+m.length=s0+j0+(p::m).length:=by rw [List.length_cons];omega
  rw [e3]
  simp
theorem jt {a:Array Keyed}{i j:Nat}(hj:j≤a.size)(h:aX rk a i j):SL rk (a.extract i j).toList:=by
 unfold SL
 rw [List.pairwise_iff_getElem]
 intro p q hp hq hpq
 have lp:(a.extract i j).toList.length=j - i:=by simp;omega
 have hq':q<j - i:=by rw [←lp];exact hq
 have:=h (i+p) (i+q) (by omega) (by omega) (by omega)
 rw [cT (by omega),cT (by omega)] at this
 simpa using this
theorem yN {a:Array Keyed}{i j:Nat}{l1 l2 l:List Keyed}(e:a.toList=l1++l++l2)(e1:l1.length=i)(e2:l.length=j - i)(h:SL rk l):aX rk a i j:=by
 intro p q h1 h2 h3
 have hl:∀ k (hk:k<l.length),Rk rk a (i+k)=rk (l[k]).1:=fun k hk=>by
  unfold Rk
  have:a[i+k]?=some l[k]:=by
   rw [←Array.getElem?_toList,e,List.append_assoc,List.getElem?_append_right (by omega),List.getElem?_append_left (by omega)]
   have ek:i+k - l1.length=k:=by omega
   rw [ek,List.getElem?_eq_getElem hk]
  rw [this]
 have hp:=hl (p - i) (by omega)
 have hq:=hl (q - i) (by omega)
 have ep:i+(p - i)=p:=by omega
 have eq:i+(q - i)=q:=by omega
 rw [ep] at hp
 rw [eq] at hq
 rw [hp,hq]
 exact List.pairwise_iff_getElem.mp h _ _ (by omega) (by omega) (by omega)
theorem pU (a:Array Keyed){i j:Nat}(h:i≤j)(hj:j≤a.size):a.toList.drop i=(a.extract i j).toList++a.toList.drop j:=by
 have:=extA a i (j - i) (by omega)
 have e:i+(j - i)=j:=by omega
 rw [e] at this
 exact this
theorem jB (a:Array Keyed){i j:Nat}(hj:j≤a.size):(a.extract i j).toList.length=j - i:=by simp;omega
structure Runs (rk:Value→Nat) (a:Array Keyed) (sa k sb n' e:Nat):Prop where
 h1:sa+k≤sb
 h2:sb+n'≤e
 h3:e≤a.size
 r1:aX rk a sa sb
 r2:aX rk a sb e
 lo:∀ p,sa≤p→p<sa+k→Rk rk a p<Rk rk a sb
 hi:∀ p,sb+n'≤p→p<e→Rk rk a (sb - 1)<Rk rk a p
theorem aX.le {a:Array Keyed}{i j p q:Nat}(h:aX rk a i j)(h1:i≤p)(h2:p≤q)(h3:q<j):Rk rk a p≤Rk rk a q:=by
 rcases Nat.lt_or_ge p q with c | c
 ·exact Nat.le_of_lt (h p q h1 c h3)
 ·have:p=q:=by omega
  subst this
  exact Nat.le_refl _
theorem mid_same {α : Type}{t m1 m2 d:List α}(hl:m1.length=m2.length){q:Nat}(hq:q<t.length∨t.length+m1.length≤q):(t++m1++d)[q]?=(t++m2++d)[q]?:=by
 rcases hq with hq | hq
 ·rw [List.append_assoc,List.append_assoc,List.getElem?_append_left hq,List.getElem?_append_left hq]
 ·rw [List.getElem?_append_right (by rw [List.length_append];exact hq),List.getElem?_append_right (by rw [List.length_append,←hl];exact hq),List.length_append,List.length_append,hl]
set_option maxHeartbeats 1000000 in
theorem merged_ok {a W:Array Keyed}{sa k sb n' e:Nat}{m:List Keyed}(R:Runs rk a sa k sb n' e)(hx:sa+k<sb)(M:Mrg rk (a.extract (sa+k) sb).toList (a.extract sb (sb+n')).toList m)(eW:W.toList=a.toList.take (sa+k)++m++a.toList.drop (sb+n')):Within a W sa e∧aX rk W sa e:=by
 obtain ⟨h1,h2,h3,r1,r2,lo,hi⟩:=R
 have ea:a.toList=a.toList.take (sa+k)++((a.extract (sa+k) sb).toList++(a.extract sb (sb+n')).toList)++a.toList.drop (sb+n'):=by
  rw [List.append_assoc,List.append_assoc,←pU a (by omega) (by omega),←pU a h1 (by omega),List.take_append_drop]
 have lm:m.length=((a.extract (sa+k) sb).toList++(a.extract sb (sb+n')).toList).length:=M.1.length_eq
 have lt:(a.toList.take (sa+k)).length=sa+k:=by rw [List.length_take];simp;omega
 have lx:((a.extract (sa+k) sb).toList++(a.extract sb (sb+n')).toList).length=sb+n' - (sa+k):=by rw [List.length_append,jB a (by omega),jB a (by omega)];omega
 refine ⟨⟨?_,fun q hq=>?_⟩,?_⟩
 ·rw [Array.perm_iff_toList_perm,eW]
  conv=>rhs;rw [ea]
  exact ((M.1.append_left _).append_right _)
 ·rw [←Array.getElem?_toList,←Array.getElem?_toList,eW]
  conv=>rhs;rw [ea]
  exact mid_same lm (by rw [lt,lm,lx];omega)
 ·have et:a.toList.take (sa+k)=a.toList.take sa++(a.extract sa (sa+k)).toList:=extT a (by omega)
  have ed:a.toList.drop (sb+n')=(a.extract (sb+n') e).toList++a.toList.drop e:=pU a h2 h3
  have em:∀ z∈m,(∃ p,sa+k≤p∧p<sb∧rk z.1=Rk rk a p)∨∃ p,sb≤p∧p<sb+n'∧rk z.1=Rk rk a p:=fun z hz=>by
   rcases List.mem_append.mp (M.1.mem_iff.mp hz) with hz | hz
   ·obtain ⟨p,p1,p2,p3,rfl⟩:=bW (by omega) hz
    exact .inl ⟨p,p1,p2,(cT p3).symm⟩
   ·obtain ⟨p,p1,p2,p3,rfl⟩:=bW (by omega) hz
    exact .inr ⟨p,p1,p2,(cT p3).symm⟩
  have ep:∀ z∈(a.extract sa (sa+k)).toList,∃ p,sa≤p∧p<sa+k∧rk z.1=Rk rk a p:=fun z hz=>by
   obtain ⟨p,p1,p2,p3,rfl⟩:=bW (by omega) hz
   exact ⟨p,p1,p2,(cT p3).symm⟩
  have eq:∀ z∈(a.extract (sb+n') e).toList,∃ p,sb+n'≤p∧p<e∧rk z.1=Rk rk a p:=fun z hz=>by
   obtain ⟨p,p1,p2,p3,rfl⟩:=bW h3 hz
   exact ⟨p,p1,p2,(cT p3).symm⟩
  have sp:SL rk (a.extract sa (sa+k)).toList:=jt (by omega) fun p q q1 q2 q3=>r1 p q q1 q2 (by omega)
  have sq:SL rk (a.extract (sb+n') e).toList:=jt h3 fun p q q1 q2 q3=>r2 p q (by omega) q2 q3
  refine yN (l1:=a.toList.take sa) (l:=(a.extract sa (sa+k)).toList++m++(a.extract (sb+n') e).toList) (l2:=a.toList.drop e) (by rw [eW,et,ed];simp only [List.append_assoc]) (by rw [List.length_take];simp;omega) ?_ ?_
  ·rw [List.length_append,List.length_append,lm,lx,jB a (by omega),jB a h3]
   omega
  ·unfold SL at *
   rw [List.pairwise_append,List.pairwise_append]
   refine ⟨⟨sp,M.2,fun u hu v hv=>?_⟩,sq,fun u hu v hv=>?_⟩
   ·obtain ⟨p,p1,p2,e1⟩:=ep u hu
    rw [e1]
    have l1:=lo p p1 p2
    rcases em v hv with ⟨q,q1,q2,e2⟩ | ⟨q,q1,q2,e2⟩ <;> rw [e2]
    ·exact r1 p q p1 (by omega) q2
    ·exact Nat.lt_of_lt_of_le l1 (r2.le (Nat.le_refl _) q1 (by omega))
   ·obtain ⟨q,q1,q2,e2⟩:=eq v hv
    rw [e2]
    rcases List.mem_append.mp hu with hu | hu
    ·obtain ⟨p,p1,p2,e1⟩:=ep u hu
     rw [e1]
     exact Nat.lt_of_lt_of_le (lo p p1 p2) (r2.le (Nat.le_refl _) (by omega) q2)
    ·rcases em u hu with ⟨p,p1,p2,e1⟩ | ⟨p,p1,p2,e1⟩ <;> rw [e1]
     ·exact Nat.lt_of_le_of_lt (r1.le (by omega) (by omega) (by omega)) (hi q q1 q2)
     ·exact r2 p q p1 (by omega) q2
set_option maxHeartbeats 1000000 in
theorem w_mAt (C:Cmp P w A s kd rk good){i:Nat}{st:SortSt}{Q:Bool→SortSt→Prop}{sa na p sb nb p2:Nat}(ok:SOk kd rk good st)(e1:(pendingOf st)[i]?=some (sa,na,p))(e2:(pendingOf st)[i+1]?=some (sb,nb,p2))(hb:sb=sa+na)(h1:0<na)(h2:0<nb)(hz:sb+nb≤(arrOf st).size)(r1:aX rk (arrOf st) sa sb)(r2:aX rk (arrOf st) sb (sb+nb))
  (q:∀ st',SOk kd rk good st'→Within (arrOf st) (arrOf st') sa (sb+nb)→aX rk (arrOf st') sa (sb+nb)→pendingOf st'=((pendingOf st).setIfInBounds i (sa,na+nb,p)).eraseIdxIfInBounds (i+1)→Q true st'):wpS (model P w) A E s (mAt i) Q st:=by
 refine wpS_bind (wpS_get ?_)
 simp only [e1,e2]
 refine wpS_bind (wpS_setS ?_)
 have hsb:sb<(arrOf st).size:=by omega
 have gd:∀ x∈(arrOf st).toList,good x.1:=ok.keys.good
 refine wpS_bind (bL (a:=arrOf st) hsb ?_)
 refine wpS_bind (yg (a:=arrOf st) C ok.kind gd (gd _ (bG hsb)) (by omega) (by omega) (fun x y h5 h6 h7=>?_) fun k k1 k2 k3=>?_)
 ·unfold Bey at h7 ⊢
  have:=r1.le (p:=sa+x) (q:=sa+y) (by omega) (by omega) (by omega)
  simp at h7 ⊢
  omega
 have key:rk (arrOf st)[sb].1=Rk rk (arrOf st) sb:=(cT hsb).symm
 have lo:∀ p,sa≤p→p<sa+k→Rk rk (arrOf st) p<Rk rk (arrOf st) sb:=fun p p1 p3=>by
  have:=k2 (p - sa) (by omega)
  have ep:sa+(p - sa)=p:=by omega
  unfold Bey at this
  rw [ep,key] at this
  have ne:Rk rk (arrOf st) p≠Rk rk (arrOf st) sb:=fun z=>by have:=ok.keys.ne (by omega) hsb z;omega
  simp at this
  omega
 have up:∀ p,sa+k≤p→p<sb→Rk rk (arrOf st) sb<Rk rk (arrOf st) p:=fun p p1 p3=>by
  have:=k3 (p - sa) (by omega) (by omega)
  have ep:sa+(p - sa)=p:=by omega
  unfold Bey at this
  rw [ep,key] at this
  simpa using this
 by_cases c:na - k=0
 ·refine ifT (by simpa using c) (wpS_pure (q _ ⟨ok.kind,ok.failed,ok.keys⟩ (Within.refl _ _ _) (fun p q p1 p3 p4=>?_) rfl))
  show Rk rk (arrOf st) p<Rk rk (arrOf st) q
  by_cases c1:q<sb
  ·exact r1 p q p1 p3 c1
  ·by_cases c2:sb≤p
   ·exact r2 p q c2 p3 p4
   ·exact Nat.lt_of_lt_of_le (lo p p1 (by omega)) (r2.le (Nat.le_refl _) (by omega) p4)
 refine ifF (by simpa using c) ?_
 have hl:sa+k+(na - k) - 1<(arrOf st).size:=by omega
 have el:sa+k+(na - k) - 1=sb - 1:=by omega
 refine wpS_bind (bL (a:=arrOf st) hl ?_)
 have key2:rk ((arrOf st)[sa+k+(na - k) - 1]'hl).1=Rk rk (arrOf st) (sb - 1):=by rw [←cT (rk:=rk) hl,el]
 refine wpS_bind (yg (a:=arrOf st) C ok.kind gd (gd _ (bG hl)) (by omega) (by omega) (fun x y h5 h6 h7=>?_) fun n' n1 n2 n3=>?_)
 ·unfold Bey at h7 ⊢
  have:=r2.le (p:=sb+x) (q:=sb+y) (by omega) (by omega) (by omega)
  simp at h7 ⊢
  omega
 have be:∀ p,sb≤p→p<sb+n'→Rk rk (arrOf st) p<Rk rk (arrOf st) (sb - 1):=fun p p1 p3=>by
  have:=n2 (p - sb) (by omega)
  have ep:sb+(p - sb)=p:=by omega
  unfold Bey at this
  rw [ep,key2] at this
  simpa using this
 have hi:∀ p,sb+n'≤p→p<sb+nb→Rk rk (arrOf st) (sb - 1)<Rk rk (arrOf st) p:=fun p p1 p3=>by
  have:=n3 (p - sb) (by omega) (by omega)
  have ep:sb+(p - sb)=p:=by omega
  unfold Bey at this
  rw [ep,key2] at this
  have ne:Rk rk (arrOf st) p≠Rk rk (arrOf st) (sb - 1):=fun z=>by have:=ok.keys.ne (by omega) (by omega) z;omega
  simp at this
  omega
 have np:0<n':=by
  refine Decidable.byContradiction fun z=>?_
  have:=hi sb (by omega) (by omega)
  have:=up (sb - 1) (by omega) (by omega)
  omega
 refine ifF (by simp;omega) ?_
 have zx:((arrOf st).extract (sa+k) sb).size=sb - (sa+k):=by simp;omega
 have zy:((arrOf st).extract sb (sb+n')).size=n':=by simp;omega
 have T:Two rk good ((arrOf st).extract (sa+k) sb) ((arrOf st).extract sb (sb+n')):=⟨jt (by omega) fun p q p1 p3 p4=>r1 p q (by omega) p3 p4,jt (by omega) fun p q p1 p3 p4=>r2 p q p1 p3 (by omega),fun x hx=>by
   obtain ⟨p,_,_,p3,rfl⟩:=bW (by omega) hx
   exact gd _ (bG p3),fun x hx=>by
   obtain ⟨p,_,_,p3,rfl⟩:=bW (by omega) hx
   exact gd _ (bG p3),fun x hx y hy e=>by
   obtain ⟨p,p1,p3,p4,rfl⟩:=bW (by omega) hx
   obtain ⟨q,q1,q3,q4,rfl⟩:=bW (by omega) hy
   rw [←cT (rk:=rk) p4,←cT (rk:=rk) q4] at e
   have:=ok.keys.ne p4 q4 e
   omega⟩
 have hL:yd rk ((arrOf st).extract (sa+k) sb) ((arrOf st).extract sb (sb+n')):=fun h z hz=>by
  obtain ⟨p,p1,p3,p4,rfl⟩:=bW (by omega) hz
  have:=be p p1 p3
  rw [cT p4,cT (by omega)] at this
  have ex:sa+k+(((arrOf st).extract (sa+k) sb).size - 1)=sb - 1:=by omega
  simpa only [Array.getElem_extract,ex] using this
 have hF:u6 rk ((arrOf st).extract (sa+k) sb) ((arrOf st).extract sb (sb+n')):=fun h z hz=>by
  obtain ⟨p,p1,p3,p4,rfl⟩:=bW (by omega) hz
  have:=up p p1 p3
  rw [cT p4,cT hsb] at this
  simpa only [Array.getElem_extract,Nat.add_zero] using this
 have fin:∀ (m:Array Keyed) (st2:SortSt),Mrg rk ((arrOf st).extract (sa+k) sb).toList ((arrOf st).extract sb (sb+n')).toList m.toList→arrOf st2=arrOf st→Within (arrOf st) (m.toList.zipIdx.foldl (fun a (p:Keyed×Nat)=>a.setIfInBounds (sa+k+p.2) p.1) (arrOf st2)) sa (sb+nb)∧aX rk (m.toList.zipIdx.foldl (fun a (p:Keyed×Nat)=>a.setIfInBounds (sa+k+p.2) p.1) (arrOf st2)) sa (sb+nb):=fun m st2 M ea=>by
  have lm:m.toList.length=sb+n' - (sa+k):=by rw [M.1.length_eq,List.length_append,jB _ (by omega),jB _ (by omega)];omega
  rw [ea]
  refine merged_ok ⟨by omega,by omega,hz,r1,r2,lo,hi⟩ (by omega) M ?_
  rw [uY (sa+k) m.toList 0 (arrOf st) (by omega),Nat.add_zero]
  have e:sa+k+m.toList.length=sb+n':=by omega
  rw [e]
 have hx0:0<((arrOf st).extract (sa+k) sb).size:=by omega
 have hy0:0<((arrOf st).extract sb (sb+n')).size:=by omega
 refine iJ (wpS_bind (w_mLo C T hL hx0 hy0 (hF hy0 _ (bG hx0)) ok.kind fun m st2 M sm=>?_)) (wpS_bind (w_mHi C T hL hF hx0 hy0 ok.kind fun m st2 M sm=>?_))
 all_goals
  obtain ⟨f1,f2⟩:=fin m st2 M sm.1
  have fl:failedOf st2=none:=sm.2.2.1.trans ok.failed
  refine wpS_bind (wpS_modify (wpS_bind (wpS_get (wpS_pure ?_))))
  show Q (failedOf st2).isNone _
  rw [fl]
  exact q _ ⟨sm.2.1.trans ok.kind,fl,ok.keys.perm f1.perm⟩ f1 f2 sm.2.2.2
end
end L2
namespace L2
open PySem PySem.Spec PyProof.Rows
section
variable {P:Program}{w:World}{A:Around}{E:Value→Shared→Prop}{s:Shared}{kd:SortKind}{rk:Value→Nat}{good:Value→Prop}
def Cont (rk:Value→Nat)(a:Array Keyed):List (Nat×Nat×Nat)→Nat→Nat→Prop
 | [],i,j=>i=j
 | (s,n,_)::r,i,j=>s=i∧0<n∧aX rk a i (i+n)∧Cont rk a r (i+n) j
theorem pN {a:Array Keyed}:∀ {ps:List (Nat×Nat×Nat)} {i j:Nat},Cont rk a ps i j→i+ps.length≤j
 | [],i,j,h=>by have h:i=j:=h;simp;omega
 | (s,n,p)::r,i,j,h=>by
  obtain ⟨_,h1,_,h2⟩:=h
  have:=pN h2
  simp
  omega
theorem jk {a:Array Keyed}:∀ {ps qs:List (Nat×Nat×Nat)} {i j:Nat},Cont rk a (ps++qs) i j↔∃ k,Cont rk a ps i k∧Cont rk a qs k j
 | [],qs,i,j=>⟨fun h=>⟨i,rfl,h⟩,fun ⟨k,e,h⟩=>by have e:i=k:=e;rw [e];exact h⟩
 | (s,n,p)::r,qs,i,j=>by
  constructor
  ·rintro ⟨h1,h2,h3,h4⟩
   obtain ⟨k,a1,a2⟩:=jk.mp h4
   exact ⟨k,⟨h1,h2,h3,a1⟩,a2⟩
  ·rintro ⟨k,⟨h1,h2,h3,h4⟩,h5⟩
   exact ⟨h1,h2,h3,jk.mpr ⟨k,h4,h5⟩⟩
theorem mV {a b:Array Keyed}{lo hi i j:Nat}(W:Within a b lo hi)(h:aX rk a i j)(o:j≤lo∨hi≤i):aX rk b i j:=fun p q h1 h2 h3=>by
 rw [uz (W.out p (by omega)),uz (W.out q (by omega))]
 exact h p q h1 h2 h3
theorem dD {a b:Array Keyed}{lo hi:Nat}(W:Within a b lo hi):∀ {ps:List (Nat×Nat×Nat)} {i j:Nat},Cont rk a ps i j→(j≤lo∨hi≤i)→Cont rk b ps i j
 | [],i,j,h,_=>h
 | (s,n,p)::r,i,j,⟨h1,h2,h3,h4⟩,o=>⟨h1,h2,mV W h3 (by have:=pN h4;omega),dD W h4 (by omega)⟩
theorem qH {a:Array Keyed}{f:Nat×Nat×Nat→Nat×Nat×Nat}(hf:∀ x,(f x).1=x.1∧(f x).2.1=x.2.1):∀ {ps:List (Nat×Nat×Nat)} {k i j:Nat},Cont rk a ps i j→Cont rk a (ps.modify k f) i j
 | [],k,i,j,h=>by simpa using h
 | (s,n,p)::r,0,i,j,⟨h1,h2,h3,h4⟩=>by
  obtain ⟨e1,e2⟩:=hf (s,n,p)
  have e:f (s,n,p)=(s,n,(f (s,n,p)).2.2):=by
   rw [Prod.ext_iff,Prod.ext_iff]
   exact ⟨e1,e2,rfl⟩
  show Cont rk a (f (s,n,p)::r) i j
  rw [e]
  exact ⟨h1,h2,h3,h4⟩
 | (s,n,p)::r,k+1,i,j,⟨h1,h2,h3,h4⟩=>⟨h1,h2,h3,qH hf h4⟩
theorem split2 {α : Type}{l:List α}{i:Nat}(h:i+1<l.length):l=l.take i++l[i]::l[i+1]::l.drop (i+2):=by
 rw [←List.drop_eq_getElem_cons h,←List.drop_eq_getElem_cons (by omega),List.take_append_drop]
structure JI (kd:SortKind) (rk:Value→Nat) (good:Value→Prop) (a0:Array Keyed) (lo:Nat) (st:SortSt):Prop where
 ok:SOk kd rk good st
 perm:(arrOf st).Perm a0
 cont:Cont rk (arrOf st) (pendingOf st).toList 0 lo
set_option maxHeartbeats 1000000 in
theorem vL (C:Cmp P w A s kd rk good){i lo:Nat}{st:SortSt}{a0:Array Keyed}{Q:Bool→SortSt→Prop}(J:JI kd rk good a0 lo st)(hl:lo≤a0.size)(hi:i+1<(pendingOf st).size)
  (q:∀ st',JI kd rk good a0 lo st'→Within (arrOf st) (arrOf st') 0 lo→(pendingOf st').size+1=(pendingOf st).size→Q true st'):wpS (model P w) A E s (mAt i) Q st:=by
 obtain ⟨ok,pm,ct⟩:=J
 have hi':i+1<(pendingOf st).toList.length:=by simpa using hi
 have es:=split2 hi'
 obtain ⟨sa,na,p,hx⟩:∃ sa na p,(pendingOf st).toList[i]=(sa,na,p):=⟨_,_,_,rfl⟩
 obtain ⟨sb,nb,p2,hy⟩:∃ sb nb p2,(pendingOf st).toList[i+1]=(sb,nb,p2):=⟨_,_,_,rfl⟩
 rw [hx,hy] at es
 have ct2:=ct
 rw [es] at ct2
 obtain ⟨k,c1,e1,n1,r1,e2,n2,r2,c2⟩:=jk.mp ct2
 subst e1 e2
 have hz:=pN c2
 have hs:=pm.size_eq
 refine w_mAt C ok (sa:=sa) (na:=na) (p:=p) (sb:=sa+na) (nb:=nb) (p2:=p2) ?_ ?_ rfl n1 n2 (by omega) r1 r2 fun st' ok' W R e=>?_
 ·rw [←Array.getElem?_toList,List.getElem?_eq_getElem (by omega),hx]
 ·rw [←Array.getElem?_toList,List.getElem?_eq_getElem hi',hy]
 have lt:((pendingOf st).toList.take i).length=i:=by rw [List.length_take];omega
 have el:(pendingOf st').toList=(pendingOf st).toList.take i++(sa,na+nb,p)::(pendingOf st).toList.drop (i+2):=by
  rw [e,Array.toList_eraseIdxIfInBounds,Array.toList_setIfInBounds]
  conv=>lhs;rw [es]
  rw [List.set_append_right _ _ (by omega),lt,Nat.sub_self,List.set_cons_zero,List.eraseIdx_append_of_length_le (by omega),lt]
  have:i+1 - i=1:=by omega
  rw [this]
  rfl
 refine q st' ⟨ok',W.perm.trans pm,?_⟩ (W.wide (Nat.zero_le _) (by omega)) ?_
 ·rw [el]
  refine jk.mpr ⟨sa,dD W c1 (.inl (Nat.le_refl _)),rfl,by omega,?_,?_⟩
  ·rw [←Nat.add_assoc];exact R
  ·rw [←Nat.add_assoc];exact dD W c2 (.inr (Nat.le_refl _))
 ·have l1:=congrArg List.length el
  have l2:=congrArg List.length es
  simp only [List.length_append,List.length_cons,Array.length_toList] at l1 l2
  omega
theorem ite_pred {c:Prop} [Decidable c] (i:Nat):(if c then i - 1 else i)≤i:=by split <;> omega
theorem jy {st:SortSt}{pd:Array (Nat×Nat×Nat)}(ok:SOk kd rk good st):SOk kd rk good (setPending st pd):=⟨ok.kind,ok.failed,ok.keys⟩
set_option maxHeartbeats 2000000 in
theorem w_runs (C:Cmp P w A s kd rk good){st:SortSt}{Q:Unit→SortSt→Prop}(ok:SOk kd rk good st)(hp:pendingOf st = #[])(h2:2≤(arrOf st).size)
  (q:∀ st',(arrOf st').Perm (arrOf st)→failedOf st'=none→aX rk (arrOf st') 0 (arrOf st).size→Q () st'):wpS (model P w) A E s sortRuns' Q st:=by
 rw [sortRuns'_eq]
 refine wpS_bind (wpS_get ?_)
 dsimp only
 obtain ⟨a0,ea0⟩:∃ a0,arrOf st=a0:=⟨_,rfl⟩
 have J0:JI kd rk good a0 0 st:=⟨ok,by rw [ea0],by rw [hp];rfl⟩
 rw [ea0] at h2 q ⊢
 generalize hn:a0.size=N at *
 generalize hmr:minRun' N N 0=mr at *
 refine wpS_bind (wpS_mono (wpS_forRange
  (I:=fun x c st'=>∃ lo,c=(none,lo)∧JI kd rk good a0 lo st'∧lo≤N∧x≤lo)
  (Q:=fun c st'=>c=(none,N)∧JI kd rk good a0 N st') ?_ ?_ ⟨0,rfl,J0,Nat.zero_le _,Nat.le_refl _⟩) ?_)
 ·rintro x c st' _ hx ⟨lo,rfl,J,hlo,hxl⟩
  dsimp only
  by_cases c0:lo≥N
  ·have e:lo=N:=by omega
   subst e
   exact ifT c0 (wpS_pure ⟨rfl,J⟩)
  refine ifF c0 ?_
  have hsz:(arrOf st').size=N:=by rw [J.perm.size_eq,hn]
  refine wpS_bind (w_count C J.ok (by omega) (by omega) fun n b n1 n2 hw hr _=>?_)
  dsimp only
  have ok2:SOk kd rk good (setArr st' b):=J.ok.arr hw.perm
  have fin:∀ (m:Nat) (st2:SortSt),SOk kd rk good st2→(arrOf st2).Perm a0→Cont rk (arrOf st2) (pendingOf st2).toList 0 lo→aX rk (arrOf st2) lo (lo+m)→0<m→lo+m≤N→JI kd rk good a0 (lo+m) (setPending st2 ((pendingOf st2).push (lo,m,0))):=fun m st2 o2 p2 c2 r2 m0 m1=>by
   refine ⟨jy o2,p2,?_⟩
   show Cont rk (arrOf st2) ((pendingOf st2).push (lo,m,0)).toList 0 (lo+m)
   rw [Array.toList_push]
   exact jk.mpr ⟨lo,c2,rfl,m0,r2,rfl⟩
  have back:∀ (m pw:Nat) (st2:SortSt),JI kd rk good a0 lo st2→aX rk (arrOf st2) lo (lo+m)→0<m→lo+m≤N→wpS (model P w) A E s (forIn [0:N] ((none:Option Unit),()) fun _ _=>do
     let p:=pendingOf (←get)
     match (if p.size>1 then p[p.size - 2]? else none) with
     | some (_,_,older)=>if older≤pw then pure (ForInStep.done ((none:Option Unit),())) else do
       let r ←mAt (p.size - 2)
       if (!r)=true then pure (ForInStep.done (some (),())) else pure (ForInStep.yield ((none:Option Unit),()))
     | x=>pure (ForInStep.done ((none:Option Unit),())))
    (fun c st3=>c=(none,())∧JI kd rk good a0 lo st3∧aX rk (arrOf st3) lo (lo+m)) st2:=fun m pw st2 J2 R2 m0 m1=>by
   refine wpS_forRange (I:=fun _ c st3=>c=(none,())∧JI kd rk good a0 lo st3∧aX rk (arrOf st3) lo (lo+m)) ?_ (fun c st3 h=>h) ⟨rfl,J2,R2⟩
   rintro y c st3 _ hy ⟨rfl,J3,R3⟩
   refine wpS_bind (wpS_get ?_)
   dsimp only
   by_cases hs:(pendingOf st3).size>1
   ·rw [if_pos hs]
    obtain ⟨a1,a2,a3,ex⟩:∃ a1 a2 a3,(pendingOf st3)[(pendingOf st3).size - 2]?=some (a1,a2,a3):=⟨_,_,_,Array.getElem?_eq_getElem (by omega)⟩
    rw [ex]
    dsimp only
    by_cases c3:a3≤pw
    ·exact ifT c3 (wpS_pure ⟨rfl,J3,R3⟩)
    ·refine ifF c3 (wpS_bind (vL C J3 (by omega) (by omega) fun st4 J4 W4 _=>?_))
     exact ifF (by simp) (wpS_pure ⟨rfl,J4,mV W4 R3 (.inr (Nat.le_refl _))⟩)
   ·rw [if_neg hs]
    exact wpS_pure ⟨rfl,J3,R3⟩
  by_cases c:n<mr
  ·refine ifT c (wpS_bind (wpS_lift (wpAny_rule ⟨rfl,?_⟩)))
   refine wpS_bind (w_bins C ok2 n1 (show n≤min (N - lo) mr by omega) (by show lo+min (N - lo) mr≤b.size;rw [hw.size];omega) hr fun b2 hw2 hr2=>?_)
   refine ifF (by simp) ?_
   have W:Within (arrOf st') b2 lo (lo+(N - lo)):=hw.trans (hw2.wide (Nat.le_refl _) (by omega))
   have J2:JI kd rk good a0 lo (setArr (setArr st' b) b2):=⟨ok2.arr hw2.perm,W.perm.trans J.perm,dD W J.cont (.inl (Nat.le_refl _))⟩
   refine wpS_bind (wpS_get ?_)
   cases hbk:(pendingOf (setArr (setArr st' b) b2)).back? with
   | none=>exact wpS_bind (wpS_modify (wpS_pure ⟨_,rfl,fin (min (N - lo) mr) _ J2.ok J2.perm J2.cont hr2 (by omega) (by omega),by omega,by omega⟩))
   | some t=>
    obtain ⟨s1,l1,p1⟩:=t
    dsimp only
    refine wpS_bind (wpS_mono (back (min (N - lo) mr) _ _ J2 hr2 (by omega) (by omega)) ?_)
    rintro c st3 ⟨rfl,J3,R3⟩
    dsimp only
    refine wpS_bind (wpS_modify (wpS_bind (wpS_modify (wpS_pure ⟨_,rfl,fin (min (N - lo) mr) (setPending st3 _) (jy J3.ok) J3.perm ?_ R3 (by omega) (by omega),by omega,by omega⟩))))
    show Cont rk (arrOf st3) ((pendingOf st3).modify _ _).toList 0 lo
    rw [Array.toList_modify]
    refine @qH rk (arrOf st3) _ ?_ _ _ _ _ J3.cont
    exact fun _=>⟨rfl,rfl⟩
  ·refine ifF c ?_
   have J2:JI kd rk good a0 lo (setArr st' b):=⟨ok2,hw.perm.trans J.perm,dD hw J.cont (.inl (Nat.le_refl _))⟩
   refine wpS_bind (wpS_get ?_)
   cases hbk:(pendingOf (setArr st' b)).back? with
   | none=>exact wpS_bind (wpS_modify (wpS_pure ⟨_,rfl,fin n _ J2.ok J2.perm J2.cont hr (by omega) (by omega),by omega,by omega⟩))
   | some t=>
    obtain ⟨s1,l1,p1⟩:=t
    dsimp only
    refine wpS_bind (wpS_mono (back n _ _ J2 hr (by omega) (by omega)) ?_)
    rintro c st3 ⟨rfl,J3,R3⟩
    dsimp only
    refine wpS_bind (wpS_modify (wpS_bind (wpS_modify (wpS_pure ⟨_,rfl,fin n (setPending st3 _) (jy J3.ok) J3.perm ?_ R3 (by omega) (by omega),by omega,by omega⟩))))
    show Cont rk (arrOf st3) ((pendingOf st3).modify _ _).toList 0 lo
    rw [Array.toList_modify]
    refine @qH rk (arrOf st3) _ ?_ _ _ _ _ J3.cont
    exact fun _=>⟨rfl,rfl⟩
 ·rintro c st' ⟨lo,rfl,J,hlo,hxl⟩
  have e:lo=N:=by omega
  subst e
  exact ⟨rfl,J⟩
 ·rintro c st' ⟨rfl,J⟩
  dsimp only
  refine wpS_bind (wpS_mono (wpS_forRange
   (I:=fun x c st2=>c=(none,())∧JI kd rk good a0 N st2∧(pendingOf st2).size+x≤N) (Q:=fun c st2=>c=(none,())∧JI kd rk good a0 N st2∧(pendingOf st2).size≤1) ?_ ?_ ⟨rfl,J,?_⟩) ?_)
  ·rintro x c st2 _ hx ⟨rfl,J2,hl⟩
   refine wpS_bind (wpS_get ?_)
   by_cases c1:(pendingOf st2).size≤1
   ·exact ifT c1 (wpS_pure ⟨rfl,J2,c1⟩)
   ·refine ifF c1 (wpS_bind (vL C J2 (by omega) ?_ fun st4 J4 _ e4=>ifF (by simp) (wpS_pure ⟨rfl,J4,by omega⟩)))
    exact Nat.lt_of_le_of_lt (Nat.add_le_add_right (ite_pred _) 1) (by omega)
  ·rintro c st2 ⟨rfl,J2,hl⟩
   exact ⟨rfl,J2,by omega⟩
  ·have:=pN J.cont
   simp at this
   omega
  ·rintro c st2 ⟨rfl,J2,hl⟩
   refine wpS_pure (q _ J2.perm J2.ok.failed ?_)
   have ct:=J2.cont
   match hl2:(pendingOf st2).toList,ct with
   | [],ct=>
    have ct:0=N:=ct
    omega
   | [(s1,l1,p1)],⟨_,_,r,e⟩=>
    have e:0+l1=N:=e
    rw [e] at r
    exact r
   | _::_::_,_=>
    have:=congrArg List.length hl2
    simp at this
    omega
end
end L2
namespace L2
open PySem PySem.Spec PyProof.Rows
def cmpL:List Int→List Int→Option Bool
 | a::k,b::l=>if a=b then cmpL k l else some (decide (a<b))
 | _,_=>none
theorem cmpL_lt:∀ k l:List Int,(match cmpL k l with | some r=>r | none=>decide (k.length<l.length))=decide (k<l)
 | [],[]=>by simp [cmpL]
 | [],b::l=>by simp [cmpL]
 | a::k,[]=>by simp [cmpL]
 | a::k,b::l=>by
  unfold cmpL
  by_cases e:a=b
  ·subst e
   rw [if_pos rfl]
   have:=cmpL_lt k l
   simp only [List.length_cons,Nat.add_lt_add_iff_right]
   rw [this]
   exact decide_eq_decide.mpr (by rw [List.cons_lt_cons_iff];simp [Int.lt_irrefl])
  ·rw [if_neg e]
   exact decide_eq_decide.mpr (by rw [List.cons_lt_cons_iff];simp [e])
section
variable {P:Program}{w:World}{A:Around}{E:Value→Shared→Prop}{s:Shared}
def fP (h:Heap)(v:Value)(k:List Int):Prop:=∃ a o its n,v=.ref a∧h.get? a=some o∧o.cls=.type "tuple"∧o.data=.seq its n∧Vals (k.map V.int) its.toList
theorem lt_false {a b:Int}{t u:Tok}{Q:Bool→Shared→Prop}(h:Q (decide (a<b)) s):wpAny (model P w) A (oneLt' false (.int a t) (.int b u)) Q E s:=by
 rw [oneLt'_eq]
 simp only [Bool.false_eq_true,if_false]
 exact wpAny_bind (wpAny_richCompare_same (typeIs_int s a t) (typeIs_int s b u) slot_int_lt (call_int_lt ⟨by simp,wpAny_truthy_bool h⟩))
theorem lt_loop {f:(Value×Value)×Nat→Option Bool×Unit→Sem (ForInStep (Option Bool×Unit))}
  (hf:∀ (a b:Int) (t u:Tok) (i:Nat) (R:ForInStep (Option Bool×Unit)→Shared→Prop),R (if a=b then .yield (none,()) else .done (some (decide (a<b)),())) s→wpAny (model P w) A (f ((.int a t,.int b u),i) (none,())) R E s) :
  ∀ {k l:List Int} {ps qs:List Value} {j:Nat},Vals (k.map V.int) ps→Vals (l.map V.int) qs→∀ {R:Option Bool×Unit→Shared→Prop},R (cmpL k l,()) s→wpAny (model P w) A (forIn ((ps.zip qs).zipIdx j) (none,()) f) R E s
 | [],l,ps,qs,j,hp,hq,R,q=>by
  cases hp
  rw [List.zip_nil_left,List.zipIdx_nil,List.forIn_nil]
  exact wpAny_pure q
 | a::k,[],ps,qs,j,hp,hq,R,q=>by
  cases hq
  rw [List.zip_nil_right,List.zipIdx_nil,List.forIn_nil]
  exact wpAny_pure q
 | a::k,b::l,ps,qs,j,hp,hq,R,q=>by
  cases hp with
  | cons r1 hp=>
   cases hq with
   | cons r2 hq=>
    obtain ⟨t,rfl⟩:=r1
    obtain ⟨u,rfl⟩:=r2
    rw [List.zip_cons_cons,List.zipIdx_cons,List.forIn_cons]
    refine wpAny_bind (hf a b t u j _ ?_)
    unfold cmpL at q
    by_cases e:a=b
    ·rw [if_pos e] at q ⊢
     exact lt_loop hf hp hq q
    ·rw [if_neg e] at q ⊢
     exact wpAny_pure q
theorem lt_tup {fo:Bool}{x y:Value}{k l:List Int}{Q:Bool→Shared→Prop}(hx:fP s.heap x k)(hy:fP s.heap y l)(q:Q (decide (k<l)) s):wpAny (model P w) A (keyLt' (tuples' fo) x y) Q E s:=by
 obtain ⟨a,o,its,n,rfl,ga,_,da,va⟩:=hx
 obtain ⟨b,u,jts,m,rfl,gb,_,db,vb⟩:=hy
 refine wpAny_bind (listItems_at ga da (wpAny_bind (listItems_at gb db (wpAny_bind (lt_loop (fun c d t u i R hR=>?_) va vb ?_)))))
 ·dsimp only
  refine wpAny_bind (wpAny_eqBool_int ?_)
  by_cases e:c=d
  ·rw [if_pos e] at hR
   rw [show (c==d)=true by simpa using e]
   exact wpAny_pure hR
  ·rw [if_neg e] at hR
   rw [show (c==d)=false by simpa using e]
   refine wpAny_bind ?_
   cases hb:(fo&&i==0) with
   | true=>exact oneLt_int (wpAny_pure hR)
   | false=>exact lt_false (wpAny_pure hR)
 ·have e:=cmpL_lt k l
  have la:its.size=k.length:=by have:=va.length;simpa using this.symm
  have lb:jts.size=l.length:=by have:=vb.length;simpa using this.symm
  rw [←e] at q
  dsimp only
  cases c:cmpL k l with
  | some r=>rw [c] at q;exact wpAny_pure q
  | none=>rw [c] at q;rw [la,lb];exact wpAny_pure q
theorem first_tup {x:Value}{i:Int}{k:List Int}{Q:Option Value→Shared→Prop}(hx:fP s.heap x (i::k))(q:∀ t,Q (some (.int i t)) s):wpAny (model P w) A (firstOfTuple' x) Q E s:=by
 obtain ⟨a,o,its,n,rfl,ga,ca,da,va⟩:=hx
 refine wpAny_bind (wpAny_typeOf (T := "tuple") ⟨o,ga,ca⟩ ?_)
 rw [if_neg (by decide)]
 refine wpAny_bind (listItems_at ga da ?_)
 obtain ⟨xs⟩:=its
 cases va with
 | cons r _=>
  obtain ⟨t,rfl⟩:=r
  exact wpAny_pure (q t)
theorem nC:∀ {vs:List Value} {ks:List (List Int)} {Q:List (Option Value)→Shared→Prop},Paired (fun k v=>fP s.heap v k) ks vs→(∀ k∈ks,k≠[])→(∀ us:List Value,us.length=vs.length→(∀ u∈us,∃ i t,u=.int i t)→Q (us.map some) s)→wpAny (model P w) A (vs.mapM firstOfTuple') Q E s
 | [],_,Q,h,_,q=>by
  cases h
  exact wpAny_pure (q [] rfl fun _ h=>nomatch h)
 | v::vs,ks,Q,h,hn,q=>by
  cases h with
  | @cons k _ ks' _ r h=>
   rw [List.mapM_cons]
   obtain ⟨i,k',rfl⟩:∃ i k',k=i::k':=List.exists_cons_of_ne_nil (hn k List.mem_cons_self)
   refine wpAny_bind (first_tup r fun t=>wpAny_bind ?_)
   refine nC h (fun k hk=>hn k (List.mem_cons_of_mem _ hk)) fun us hl hu=>wpAny_pure ?_
   refine q (.int i t::us) (by simp [hl]) fun u hm=>?_
   rcases List.mem_cons.mp hm with rfl | hm
   ·exact ⟨i,t,rfl⟩
   ·exact hu u hm
theorem rR:∀ {us:List Value} {Q:List Value→Shared→Prop},(∀ u∈us,∃ i t,u=Value.int i t)→Q (us.map fun _=>.type "int") s→wpAny (model P w) A (us.mapM typeOf) Q E s
 | [],Q,_,q=>wpAny_pure q
 | u::us,Q,h,q=>by
  rw [List.mapM_cons]
  obtain ⟨i,t,rfl⟩:=h u List.mem_cons_self
  exact wpAny_bind (wpAny_typeOf (typeIs_int s i t) (wpAny_bind (rR (fun v hv=>h v (List.mem_cons_of_mem _ hv)) (wpAny_pure q))))
theorem kind_tup {vs:List Value}{ks:List (List Int)}{Q:SortKind→Shared→Prop}(h:Paired (fun k v=>fP s.heap v k) ks vs)(hn:∀ k∈ks,k≠[])(h1:1≤vs.length)(q:Q (tuples' true) s):wpAny (model P w) A (keyKind' vs.toArray) Q E s:=by
 rw [keyKind'_eq,List.mapM_toArray]
 refine wpAny_bind (wpAny_map ?_)
 refine nC h hn fun us hl hu=>?_
 rw [if_pos (by simp)]
 refine wpAny_bind (wpAny_rule (wpAny_bind ?_))
 have ef:(us.map some).toArray.filterMap id=us.toArray:=by
  rw [List.filterMap_toArray]
  simp
 rw [ef,oneTypeOnly'_eq,List.mapM_toArray]
 refine wpAny_bind (wpAny_map (rR hu ?_))
 obtain ⟨u,us',rfl⟩:∃ u us',us=u::us':=List.exists_cons_of_ne_nil fun e=>by rw [e] at hl;simp at hl;omega
 show wpAny _ _ (pure (if _ then some (Value.type "int") else none)) _ _ s
 rw [if_pos (by simp)]
 exact wpAny_pure (wpAny_pure q)
end
section
variable {P:Program}{w:World}{A:Around}{E:Value→Shared→Prop}{s:Shared}
def rankOf (ks:List (List Int))(k:List Int):Nat:=ks.countP fun l=>decide (l<k)
theorem sX {k l:List Int}(h:k<l):∀ ks:List (List Int),rankOf ks k≤rankOf ks l∧(k∈ks→rankOf ks k<rankOf ks l)
 | []=>⟨Nat.le_refl _,fun h=>nomatch h⟩
 | a::as=>by
  obtain ⟨i1,i2⟩:=sX h as
  unfold rankOf at *
  rw [List.countP_cons,List.countP_cons]
  by_cases c:a<k
  ·have c2:a<l:=List.lt_trans c h
   rw [if_pos (decide_eq_true c),if_pos (decide_eq_true c2)]
   refine ⟨by omega,fun hm=>?_⟩
   rcases List.mem_cons.mp hm with e | hm
   ·exact absurd c (by rw [e];exact List.lt_irrefl a)
   ·have:=i2 hm
    omega
  ·rw [if_neg (by simpa using c)]
   refine ⟨by split <;> omega,fun hm=>?_⟩
   rcases List.mem_cons.mp hm with e | hm
   ·subst e
    rw [if_pos (decide_eq_true h)]
    omega
   ·have:=i2 hm
    split <;> omega
theorem pP {ks:List (List Int)}{k l:List Int}(hk:k∈ks):rankOf ks k<rankOf ks l↔k<l:=by
 refine ⟨fun h=>?_,fun h=>(sX h ks).2 hk⟩
 refine Decidable.byContradiction fun c=>?_
 have c:l≤k:=List.not_lt.mp c
 by_cases e:l=k
 ·subst e;exact absurd h (Nat.lt_irrefl _)
 ·have c2:l<k:=Decidable.byContradiction fun c3=>e (List.le_antisymm c (List.not_lt.mp c3))
  exact absurd h (Nat.not_lt.mpr (sX c2 ks).1)
theorem fP.fn {h:Heap}{v:Value}{k l:List Int}(x:fP h v k)(y:fP h v l):k=l:=by
 obtain ⟨a,o,its,n,rfl,ga,_,da,va⟩:=x
 obtain ⟨b,u,jts,m,e,gb,_,db,vb⟩:=y
 cases e
 rw [ga] at gb
 cases gb
 rw [da] at db
 cases db
 have go:∀ {k l:List Int} {xs:List Value},Vals (k.map V.int) xs→Vals (l.map V.int) xs→k=l:=by
  intro k
  induction k with
  | nil=>
   intro l xs h1 h2
   cases h1
   cases l with
   | nil=>rfl
   | cons b l=>cases h2
  | cons a k ih=>
   intro l xs h1 h2
   cases h1 with
   | cons r1 h1=>
    cases l with
    | nil=>cases h2
    | cons b l=>
     cases h2 with
     | cons r2 h2=>
      obtain ⟨t,e1⟩:=r1
      obtain ⟨u,e2⟩:=r2
      rw [e1] at e2
      cases e2
      rw [ih h1 h2]
 exact go va vb
theorem fP.of {h h':Heap}{v:Value}{k:List Int}(x:fP h v k)(e:∀ b o,v=.ref b→o.cls=.type "tuple"→h.get? b=some o→h'.get? b=some o):fP h' v k:=by
 obtain ⟨a,o,its,n,rfl,ga,ca,r⟩:=x
 exact ⟨a,o,its,n,rfl,e a o rfl ca ga,ca,r⟩
open Classical in
noncomputable def rkV (h:Heap)(ks:List (List Int))(v:Value):Nat:=if e:∃ k,fP h v k then rankOf ks e.choose else 0
theorem qP {h:Heap}{ks:List (List Int)}{v:Value}{k:List Int}(x:fP h v k):rkV h ks v=rankOf ks k:=by
 unfold rkV
 have e:∃ k,fP h v k:=⟨k,x⟩
 rw [dif_pos e,e.choose_spec.fn x]
theorem cmp_tup {fo:Bool}{ks:List (List Int)}:Cmp P w A s (tuples' fo) (rkV s.heap ks) (fun v=>∃ k∈ks,fP s.heap v k):=fun E Q x y ⟨k,hk,hx⟩ ⟨l,hl,hy⟩ q=>by
 refine lt_tup hx hy ?_
 rw [qP hx,qP hy] at q
 rw [←decide_eq_decide.mpr (pP (ks:=ks) (l:=l) hk)]
 exact q
open Classical in
noncomputable def keyV (h:Heap)(v:Value):List Int:=if e:∃ k,fP h v k then e.choose else []
theorem oY {h:Heap}{v:Value}{k:List Int}(x:fP h v k):keyV h v=k:=by
 unfold keyV
 have e:∃ k,fP h v k:=⟨k,x⟩
 rw [dif_pos e,e.choose_spec.fn x]
theorem keys_map {h:Heap}:∀ {ks:List (List Int)} {vs:List Value},Paired (fun k v=>fP h v k) ks vs→ks=vs.map (keyV h)∧∀ v∈vs,∃ k∈ks,fP h v k
 | [],_,p=>by cases p;exact ⟨rfl,fun _ h=>nomatch h⟩
 | k::ks,_,p=>by
  cases p with
  | cons r p=>
   obtain ⟨e,g⟩:=keys_map p
   refine ⟨by rw [List.map_cons,oY r,←e],fun v hv=>?_⟩
   rcases List.mem_cons.mp hv with rfl | hv
   ·exact ⟨k,List.mem_cons_self,r⟩
   ·obtain ⟨l,hl,x⟩:=g v hv
    exact ⟨l,List.mem_cons_of_mem _ hl,x⟩
theorem nH {h:Heap}:∀ {vs:List Value},(∀ v∈vs,∃ k,fP h v k)→Paired (fun k v=>fP h v k) (vs.map (keyV h)) vs
 | [],_=>.nil
 | v::vs,g=>by
  obtain ⟨k,x⟩:=g v List.mem_cons_self
  exact .cons (by rw [oY x];exact x) (nH fun u hu=>g u (List.mem_cons_of_mem _ hu))
theorem out_ok {h:Heap}{ks:List (List Int)}{vs:List Value}{b:Array Keyed}(p:Paired (fun k v=>fP h v k) ks vs)(hp:b.Perm (pairsOf vs))(hr:aX (rkV h ks) b 0 vs.length) :
  ∃ ks',Paired (fun k v=>fP h v k) ks' (b.map (·.2)).toList∧ks'.Perm ks∧ks'.Pairwise (· < ·)∧(b.map (·.2)).toList.Perm vs:=by
 obtain ⟨ek,g⟩:=keys_map p
 have hl:=Array.perm_iff_toList_perm.mp hp
 have ep:(pairsOf vs).toList=vs.map fun v=>(v,v):=by
  have z:∀ l:List Value,l.zip l=l.map fun v=>(v,v):=fun l=>by
   induction l with
   | nil=>rfl
   | cons a l ih=>rw [List.zip_cons_cons,ih];rfl
  unfold pairsOf
  rw [Array.toList_zip]
  exact z vs
 rw [ep] at hl
 have same:∀ x∈b.toList,x.1=x.2∧x.2∈vs:=fun x hx=>by
  obtain ⟨v,hv,rfl⟩:=List.mem_map.mp (hl.mem_iff.mp hx)
  exact ⟨rfl,hv⟩
 have eo:(b.map (·.2)).toList=b.toList.map (·.2):=by simp
 have po:(b.toList.map (·.2)).Perm vs:=by
  have:=hl.map (·.2)
  rw [List.map_map] at this
  simpa [Function.comp_def] using this
 rw [eo]
 refine ⟨(b.toList.map (·.2)).map (keyV h),nH fun v hv=>?_,?_,?_,po⟩
 ·obtain ⟨k,_,x⟩:=g v (po.mem_iff.mp hv)
  exact ⟨k,x⟩
 ·rw [ek]
  exact po.map _
 ·rw [List.map_map,List.pairwise_map,List.pairwise_iff_getElem]
  intro i j hi hj hij
  have hb:b.toList.length=vs.length:=by have:=po.length_eq;simpa using this
  have hi':i<b.size:=by simpa using hi
  have hj':j<b.size:=by simpa using hj
  have:=hr i j (Nat.zero_le _) hij (by rw [←hb];exact hj)
  rw [cT hi',cT hj'] at this
  have e1:=same b[i] (by simp)
  have e2:=same b[j] (by simp)
  obtain ⟨k,hk,x⟩:=g b[i].2 e1.2
  obtain ⟨l,_,y⟩:=g b[j].2 e2.2
  rw [e1.1,e2.1,qP x,qP y,pP hk] at this
  show keyV h b.toList[i].2<keyV h b.toList[j].2
  rw [Array.getElem_toList,Array.getElem_toList,oY x,oY y]
  exact this
theorem d8 {α β : Type}{F G:α→β→Prop}:∀ {as:List α} {bs:List β},Paired F as bs→(∀ a b,b∈bs→F a b→G a b)→Paired G as bs
 | [],_,h,_=>by cases h;exact .nil
 | a::as,_,h,g=>by
  cases h with
  | cons r h=>exact .cons (g _ _ List.mem_cons_self r) (d8 h fun a b hb=>g a b (List.mem_cons_of_mem _ hb))
theorem rk_map {h:Heap}{KS:List (List Int)}:∀ {ks:List (List Int)} {vs:List Value},Paired (fun k v=>fP h v k) ks vs→vs.map (rkV h KS)=ks.map (rankOf KS)
 | [],_,p=>by cases p;rfl
 | k::ks,_,p=>by
  cases p with
  | cons r p=>rw [List.map_cons,List.map_cons,qP r,rk_map p]
theorem rank_nd {ks:List (List Int)}(nd:ks.Nodup):(ks.map (rankOf ks)).Nodup:=by
 unfold List.Nodup
 rw [List.pairwise_map]
 refine List.Pairwise.imp_of_mem (fun {k l} hk hl ne e=>ne ?_) nd
 have n1:¬ k<l:=fun c=>by have:=(pP hk).mpr c;omega
 have n2:¬ l<k:=fun c=>by have:=(pP hl).mpr c;omega
 exact List.le_antisymm (List.not_lt.mp n2) (List.not_lt.mp n1)
theorem pairs_rk {h:Heap}{KS ks:List (List Int)}{vs:List Value}(p:Paired (fun k v=>fP h v k) ks vs):((pairsOf vs).toList.map fun x=>rkV h KS x.1)=ks.map (rankOf KS):=by
 have ep:(pairsOf vs).toList.map (·.1)=vs:=by
  unfold pairsOf
  rw [Array.toList_zip,List.map_fst_zip (Nat.le_refl _)]
 rw [←rk_map p,←ep,List.map_map,ep]
 rfl
theorem sort_tups {a:Addr}{vs:List Value}{ks:List (List Int)}{n:Nat}{R:Fin→Shared→Prop}(ho:s.heap.get? a=some (seqObj "list" vs.toArray n))(p:Paired (fun k v=>fP s.heap v k) ks vs)
  (hne:2≤vs.length→∀ k∈ks,k≠[]) (nd:ks.Nodup) (hz:vs.length≤sizeLine)
  (q:∀ (out:Array Value) (ks':List (List Int)),Paired (fun k v=>fP s.heap v k) ks' out.toList→ks'.Perm ks→ks'.Pairwise (· < ·)→out.toList.Perm vs→R (.done (.ret .none)) { s with heap:=sortedHeap s.heap a vs out }) :
  wpAny (model P w) A (Builtin.«list.sort» ⟨[.ref a],[]⟩) R E s:=by
 have la:a<s.heap.objs.size:=Heap.lt_size ho
 rw [list_sort_plain]
 refine wpAny_bind (listItems_at ho rfl (wpAny_bind (listUpdate_at ho rfl ?_ (by simpa using hz) (Nat.zero_le _))))
 obtain ⟨e1,h1⟩:∃ e1,(s.heap.update a (Obj.mapSeq fun _=>#[])).get? a=some (seqObj "list" #[] e1):=⟨_,get?_update_seq ho (fun _=>#[])⟩
 refine wpAny_bind (seqEpoch_at h1 rfl (wpAny_bind (wpAny_newTuple (wpAny_bind (wpAny_newList (wpAny_holding ?_))))))
 have h6:(((s.heap.update a (Obj.mapSeq fun _=>#[])).push (seqObj "tuple" vs.toArray 0)).push (seqObj "list" #[] 0)).get? a=some (seqObj "list" #[] e1):=Heap.get?_push_of_some _ (Heap.get?_push_of_some _ h1)
 have keep:∀ b o,o.cls=.type "tuple"→s.heap.get? b=some o→(((s.heap.update a (Obj.mapSeq fun _=>#[])).push (seqObj "tuple" vs.toArray 0)).push (seqObj "list" #[] 0)).get? b=some o:=fun b o hc hb=>by
  have ne:b≠a:=fun e=>by rw [e,ho] at hb;cases hb;simp at hc
  exact Heap.get?_push_of_some _ (Heap.get?_push_of_some _ ((Heap.get?_update_other _ _ (Ne.symm ne)).trans hb))
 have back:∀ {v:Value} {k:List Int},(∃ l,fP s.heap v l)→fP (((s.heap.update a (Obj.mapSeq fun _=>#[])).push (seqObj "tuple" vs.toArray 0)).push (seqObj "list" #[] 0)) v k→fP s.heap v k:=fun {v k} ⟨l,x⟩ y=>by
  have:=(x.of fun b o _ hc hb=>keep b o hc hb).fn y
  exact this ▸ x
 have p6:Paired (fun k v=>fP (((s.heap.update a (Obj.mapSeq fun _=>#[])).push (seqObj "tuple" vs.toArray 0)).push (seqObj "list" #[] 0)) v k) ks vs:=d8 p fun k v _ x=>x.of fun b o _ hc hb=>keep b o hc hb
 have lk:ks.length=vs.length:=p.length
 show wpAny (model P w) A _ R E { s with heap:=((s.heap.update a (Obj.mapSeq fun _=>#[])).push (seqObj "tuple" vs.toArray 0)).push (seqObj "list" #[] 0) }
 dsimp only
 have size:vs.toArray.size=vs.length:=by simp
 have fin:∀ b:Array Keyed,b.Perm (pairsOf vs)→aX (rkV (((s.heap.update a (Obj.mapSeq fun _=>#[])).push (seqObj "tuple" vs.toArray 0)).push (seqObj "list" #[] 0)) ks) b 0 vs.length→R (.done (.ret .none)) { s with heap:=sortedHeap s.heap a vs (b.map (·.2)) }:=fun b hp hr=>by
  obtain ⟨ks',g1,g2,g3,g4⟩:=out_ok p6 hp hr
  refine q _ ks' (d8 g1 fun k v hv x=>back ?_ x) g2 g3 g4
  obtain ⟨l,_,y⟩:=(keys_map p).2 v (g4.mem_iff.mp hv)
  exact ⟨l,y⟩
 by_cases h2:vs.toArray.size<2
 ·rw [if_pos h2,if_pos h2]
  refine wpAny_bind (wpAny_pure ?_)
  rw [StateT.run_pure]
  refine wpAny_bind (wpAny_pure ?_)
  dsimp only
  refine wpAny_bind (seqEpoch_at h6 rfl (wpAny_bind (listUpdate_at h6 rfl ?_ (hsz2:=?_))))
  ·simp only [bne_self_eq_false,Bool.false_eq_true,if_false]
   refine wpAny_pure (fin (vs.toArray.zip vs.toArray) (Array.Perm.refl _) fun u v _ h3 h4=>?_)
   omega
  ·rw [Array.size_map]
   show (pairsOf vs).size≤_
   rw [pairsOf_size]
   omega
 ·rw [if_neg h2,if_neg h2]
  refine wpAny_bind (kind_tup p6 (hne (by omega)) (by omega) (wpAny_bind ?_))
  have kk:=keys_map p6
  have ep:(pairsOf vs).toList.map (·.1)=vs:=by
   unfold pairsOf
   rw [Array.toList_zip,List.map_fst_zip (Nat.le_refl _)]
  have ok:SOk (tuples' true) (rkV (((s.heap.update a (Obj.mapSeq fun _=>#[])).push (seqObj "tuple" vs.toArray 0)).push (seqObj "list" #[] 0)) ks) (fun v=>∃ k∈ks,fP (((s.heap.update a (Obj.mapSeq fun _=>#[])).push (seqObj "tuple" vs.toArray 0)).push (seqObj "list" #[] 0)) v k) (SortSt.mk' (tuples' true) (pairsOf vs) #[] 7 none):=⟨rfl,rfl,⟨fun x hx=>kk.2 x.1 (by rw [←ep];exact List.mem_map.mpr ⟨x,hx,rfl⟩),by
   rw [pairs_rk p6]
   exact rank_nd nd⟩⟩
  have zp:(pairsOf vs).size=vs.length:=pairsOf_size _
  refine wpAny_mono (w_runs (s:={ s with heap:=((s.heap.update a (Obj.mapSeq fun _=>#[])).push (seqObj "tuple" vs.toArray 0)).push (seqObj "list" #[] 0) }) (Q:=fun _ st'=>(arrOf st').Perm (pairsOf vs)∧failedOf st'=none∧aX (rkV (((s.heap.update a (Obj.mapSeq fun _=>#[])).push (seqObj "tuple" vs.toArray 0)).push (seqObj "list" #[] 0)) ks) (arrOf st') 0 vs.length) cmp_tup ok rfl (by show 2≤(pairsOf vs).size;omega) fun st' g1 g2 g3=>⟨g1,g2,by rw [←zp];exact g3⟩) (fun r s' hr=>?_) fun _ _ e=>e
  ·obtain ⟨r1,st'⟩:=r
   obtain ⟨rfl,g1,g2,g3⟩:=hr
   dsimp only
   refine wpAny_bind (seqEpoch_at h6 rfl (wpAny_bind (listUpdate_at h6 rfl ?_ (hsz2:=?_))))
   ·rw [g2]
    simp only [bne_self_eq_false,Bool.false_eq_true,if_false]
    exact wpAny_pure (fin _ g1 g3)
   ·rw [Array.size_map,g1.size_eq,zp]
    omega
theorem wZ {d:Addr}{es:Array DictEntry}{ep:Nat}{ks:List (List Int)}{Q:Value→Shared→Prop}(hh:A.handled=none)(nd0:(d==sysModules)=false)(x:yc s.heap d es ep)(hz:es.size≤sizeLine)
  (p:Paired (fun k v=>fP s.heap v k) ks (es.toList.map (·.key))) (hne:2≤ks.length→∀ k∈ks,k≠[]) (nd:ks.Nodup)
  (q:∀ (h':Heap) (tk:Nat) (l:Addr) (out:Array Value) (ks':List (List Int)) (c:Nat),(∀ b o,s.heap.get? b=some o→h'.get? b=some o)→s.heap.objs.size≤l→h'.get? l=some (seqObj "list" out c)→Paired (fun k v=>fP s.heap v k) ks' out.toList→ks'.Perm ks→ks'.Pairwise (· < ·)→out.toList.Perm (es.toList.map (·.key))→Q (.ref l) { s with heap:=h',toks:=tk }) :
  wpAny (model P w) A (call (.builtin "sorted") [.ref d]) Q E s:=by
 have lk:ks.length=(es.toList.map (·.key)).length:=p.length
 have le:(es.toList.map (·.key)).length=es.size:=by simp
 refine Calls.call_function_entry kind_sorted plain_sorted entry_sorted (args_sorted1 _) ?_
 unfold Builtin.«sorted»
 refine wpAny_bind (m:=checkCount "sorted" 1 1 _) (wpAny_pure ?_)
 refine wpAny_bind (lR hh nd0 x hz fun h1 tk k1 lt1=>wpAny_bind (wpAny_newList ?_))
 have ho:(h1.push (seqObj "list" (es.toList.map (·.key)).toArray 0)).get? h1.objs.size=some (seqObj "list" (es.toList.map (·.key)).toArray 0):=Heap.get?_push_size _ rfl
 have sz:s.heap.objs.size≤h1.objs.size:=Nat.le_of_lt lt1
 have k2:∀ b o,s.heap.get? b=some o→(h1.push (seqObj "list" (es.toList.map (·.key)).toArray 0)).get? b=some o:=fun b o hb=>Heap.get?_push_of_some _ (k1 b o hb)
 have p2:Paired (fun k v=>fP (h1.push (seqObj "list" (es.toList.map (·.key)).toArray 0)) v k) ks (es.toList.map (·.key)):=d8 p fun k v _ y=>y.of fun b o _ _ hb=>k2 b o hb
 show wpAny _ _ _ _ _ { s with heap:=h1.push (seqObj "list" (es.toList.map (·.key)).toArray 0),toks:=tk }
 refine wpAny_bind (wpAny_holding (wpAny_call_entry slot_list_sort ⟨_,ho,rfl⟩ entry_list_sort (sort_tups (s:={ s with heap:=h1.push (seqObj "list" (es.toList.map (·.key)).toArray 0),toks:=tk }) ho p2 (fun h=>hne (by omega)) nd (by rw [le];exact hz) fun out ks' g1 g2 g3 g4=>⟨_,rfl,wpAny_pure ⟨_,rfl,?_⟩⟩) (args_list_sort _)))
 obtain ⟨c,e⟩:=sortedHeap_at (a:=h1.objs.size) (vs:=es.toList.map (·.key)) (out:=out) ho
 refine q _ tk _ out ks' c (fun b o hb=>?_) sz e ?_ g2 g3 g4
 ·have lt:=Heap.lt_size (k1 b o hb)
  rw [sortedHeap_old (Nat.ne_of_lt lt) (Nat.lt_of_lt_of_le lt (by rw [size_push'];exact Nat.le_succ _))]
  exact k2 b o hb
 ·refine d8 g1 fun k v hv y=>?_
  obtain ⟨l,_,z⟩:=(keys_map p).2 v (g4.mem_iff.mp hv)
  have:=(z.of fun b o _ _ hb=>k2 b o hb).fn y
  exact this ▸ z
end
end L2
namespace L2
open PySem PySem.Spec PyProof.Rows
theorem perm_map {α β : Type}{f:α→β}{l l':List β}(h:l'.Perm l):∀ {xs:List α},l=xs.map f→∃ ys:List α,ys.Perm xs∧l'=ys.map f:=by
 induction h with
 | nil=>
  intro xs e
  cases xs with
  | nil=>exact ⟨[],.refl _,rfl⟩
  | cons x xs=>simp at e
 | cons a h ih=>
  intro xs e
  cases xs with
  | nil=>simp at e
  | cons x xs=>
   rw [List.map_cons] at e
   obtain ⟨e1,e2⟩:=List.cons.inj e
   obtain ⟨ys,p,e3⟩:=ih e2
   exact ⟨x::ys,p.cons x,by rw [List.map_cons,←e1,←e3]⟩
 | swap a b l=>
  intro xs e
  match xs with
  | []=>simp at e
  | [x]=>simp at e
  | x::y::xs=>
   rw [List.map_cons,List.map_cons] at e
   obtain ⟨e1,e2⟩:=List.cons.inj e
   obtain ⟨e2,e3⟩:=List.cons.inj e2
   exact ⟨y::x::xs,.swap x y xs,by rw [List.map_cons,List.map_cons,←e1,←e2,←e3]⟩
 | trans h1 h2 i1 i2=>
  intro xs e
  obtain ⟨ys,p,e1⟩:=i2 e
  obtain ⟨zs,p2,e2⟩:=i1 e1
  exact ⟨zs,p2.trans p,e2⟩
section
variable {X:Cx}{K:PySem.W.Frag}
theorem tupI_of {pins:List (Addr×Obj)}{σ : St}{H:Hp}{s:Shared}{b:Addr}{k:List Int}(I:Inv X pins σ H s)(h:SqT X.K H b (k.map V.int)):fP s.heap (.ref b) k:=by
 obtain ⟨its,r,⟨o,ho,hc,n,hd⟩,_⟩:=I.tuple h
 exact ⟨b,o,its.toArray,n,rfl,ho,hc,hd,by simpa using r⟩
def oJ (ks:List (List Int)):Prop:=2≤ks.length→∀ k∈ks,k≠[]
theorem wW (hc:X.calm=true):jf X (.builtin "sorted") (fun vs H Q=>∃ a xs,vs=[.ref a]∧H a=some (.ext (sO a xs))∧xJ X.K H xs∧oJ (xs.map (·.1)) ∧
  ∀ ys:List (List Int×Addr×Value),ys.Perm xs→(ys.map (·.1)).Pairwise (· < ·)→∀ l,H l=none→Q (.ref l) (upd H l (.lst (ys.map fun y=>V.ref y.2.1)))):=by
 intro pins s σ H vs us Q I r ⟨a,xs,ev,hx,hk,c1,q⟩
 subst ev
 obtain ⟨u,rfl,ru⟩:=vals1 r
 cases ru
 obtain ⟨⟨z,y,nd,o,es,ep,g1,g2,g3,g4⟩,_⟩:=I.hok a _ hx
 have ek:es.toList.map (·.key)=xs.map fun x=>Value.ref x.2.1:=by
  rw [g4,List.map_map]
  rfl
 have p:∀ zs:List (List Int×Addr×Value),(∀ x∈zs,x∈xs)→Paired (fun k v=>fP s.heap v k) (zs.map (·.1)) (zs.map fun x=>Value.ref x.2.1):=fun zs hz=>by
  induction zs with
  | nil=>exact .nil
  | cons x zs ih=>exact .cons (tupI_of I (hk x (hz x List.mem_cons_self))) (ih fun y hy=>hz y (List.mem_cons_of_mem _ hy))
 have le:es.size=xs.length:=by rw [←Array.length_toList,g4,List.length_map]
 refine wZ (I.ok.hd hc) y ⟨o,g1,g2,g3⟩ (by rw [le];exact z) (ks:=xs.map (·.1)) (by rw [ek];exact p xs fun _ h=>h) (show 2≤(xs.map (·.1)).length→∀ k∈xs.map (·.1),k≠[] from c1) nd fun h' tk l out ks' c keep hl e pr pm pw po=>?_
 rw [ek] at po
 obtain ⟨ys,py,eo⟩:=perm_map po rfl
 have hy:=p ys fun x hx=>py.mem_iff.mp hx
 have eks:ks'=ys.map (·.1):=by
  rw [eo] at pr
  exact (keys_map pr).1.trans (keys_map hy).1.symm
 rw [eks] at pw
 refine ⟨.ref l,_,I.laid (t':=tk) keep hl (show dF X.prog X.w _ h' _ (.lst (ys.map fun y=>V.ref y.2.1)) from ⟨by rw [List.length_map,py.length_eq];exact z,out.toList,c,?_,by simpa using e⟩),rfl,q ys py pw l (I.hok.fresh hl)⟩
 rw [eo]
 clear eo pr eks pw hy py po
 induction ys with
 | nil=>exact .nil
 | cons y ys ih=>exact .cons rfl ih
def qJ:MC:=fun ws h Q=>match ws with
 | [.loc n]=>(match h.c n with
  | some (.dtt kvs)=>oJ (kvs.map (·.1))∧∀ ks:List (List Int),ks.Perm (kvs.map (·.1))→ks.Pairwise (· < ·)→Q (.lst (ks.map fun k=>.tup (k.map .int))) h
  | _=>False)
 | _=>False
theorem z6 (hc:X.calm=true):jE X (.builtin "sorted") qJ:=⟨_,wW hc,by
 intro H μ h vs ws Qw Q R r m k
 unfold qJ at m
 split at m
 ·rename_i n
  split at m
  ·rename_i kvs ec
   obtain ⟨p,xs,vs',hp,hx,e1,e2,r3,r4⟩:=R.dttAt ec
   obtain ⟨v,rfl,r1⟩:=lH r
   rw [Rep] at r1
   obtain ⟨p',rfl,hp'⟩:=r1
   have ep:p'=p:=by rw [hp] at hp';exact (Option.some.inj hp').symm
   subst ep
   obtain ⟨m1,m2⟩:=m
   rw [e1] at m1 m2
   refine ⟨p',xs,rfl,hx,d9 e1 r3,m1,fun ys py pw l hl=>?_⟩
   refine k _ _ ⟨μ,_,h,(Ex.laid hl).ext,R.laid hl,?_,m2 (ys.map (·.1)) (py.map _) pw⟩
   refine .lstNew R hl ?_
   have kk:=d9 e1 r3
   have go:∀ zs:List (List Int×Addr×Value),(∀ z∈zs,z∈xs)→aL X.K H μ ((zs.map (·.1)).map fun k=>W.tup (k.map .int)) (zs.map fun y=>V.ref y.2.1):=fun zs hz=>by
    induction zs with
    | nil=>exact .nil
    | cons z zs ih=>
     refine aL.cons ?_ (ih fun y hy=>hz y (List.mem_cons_of_mem _ hy))
     rw [Rep]
     exact ⟨z.2.1,z.1.map V.int,rfl,kk z (hz z List.mem_cons_self),lB _⟩
   exact go ys fun z hz=>py.mem_iff.mp hz
  ·exact m.elim
 ·exact m.elim⟩
end
section
variable {X:Cx}{o e1 e2:Expr}{mo:ME}{ma:MA}{apos cpos:Pos}
def zc:MM:=fun x ws h Q=>match x,ws with
 | .loc n,[y,z]=>(match h.c n,tKey y with
  | some (.dtt kvs),some k=>Q ((tU kvs k).getD z) h
  | _,_=>False)
 | _,_=>False
def isDtt (h:Gh)(x:W)(P:Prop):Prop:=match x with
 | .loc n=>(match h.c n with
  | some (.dtt _)=>P
  | _=>False)
 | _=>False
def mBMd (r:MM)(mo:ME)(ma:MA):ME:=fun σ h Q=>mo σ h fun x h1=>isDtt h1 x (ma σ h1 fun xs h2=>r x xs h2 Q)
theorem d_getT (hu:X.A.units+30<cLine)(ho:DE X o mo)(ha:DAs X [e1,e2] ma)
  (hbase:attributeBase o "get" X.env (eval o X.env)=eval o X.env:=by rfl)
  (hfew:((backTo cpos (starEach [e1,e2] X.env)).all (fun x=>!x.1)&&(backToKw cpos (keywordEach [] X.env)).all (fun x=>x.1.isSome)
   && decide (([e1,e2]:List Expr).length+([]:List Keyword).length+(if ([]:List Keyword).isEmpty then 0 else 1)<30))=true:=by rfl)
  (hline:(apos.endLine==cpos.line)=true:=by rfl) (hst:starEach [e1,e2] X.env=(false,eval e1 X.env)::starEach [e2] X.env:=by rfl) (hplain:(backTo cpos (starEach [e2] X.env)).any (·.1)=false:=by rfl) :
  DE X (.Call (.Attribute o "get" apos) [e1,e2] [] cpos) (mBMd zc mo ma):=by
 intro pins s σ H Q I ⟨μ,h,σw,Qw,R,S,m,k⟩
 refine wpAny_Call_method_late hbase hfew hline rfl (thn (ho pins s σ H _ I ⟨μ,h,σw,_,R,S,m,fun _ _ z=>z⟩) fun u s1 ⟨x,H1,I1,rx,μ1,wx,h1,e1',R1,r1,il⟩=>?_)
 unfold isDtt at il
 dsimp only at il
 split at il
 ·rename_i n
  split at il
  ·rename_i kv0 ec0
   have r0:=r1
   rw [Rep] at r1
   obtain ⟨a,rfl,ha'⟩:=r1
   obtain rfl:u=Value.ref a:=rx
   obtain ⟨p,xs,vs,hp,hx,_⟩:=R1.dttAt ec0
   have ep:p=a:=by rw [ha'] at hp;exact (Option.some.inj hp).symm
   subst ep
   obtain ⟨⟨z,y,nd,ob,es,epo,g1,g2,g3,g4⟩,_⟩:=I1.hok p _ hx
   refine ⟨"dict", "dict.get",PySem.F.plainAttrs_dict,PySem.F.slot_dict_get,PySem.F.type_dict_get,⟨ob,g1,g2.1⟩,fun b e=>by cases e;exact ⟨ob,g1,g2.2.1⟩,?_⟩
   have hA:=ha cpos pins s1 σ H1 _ I1 ⟨μ1,h1,σw,_,R1,S.ext e1',il,fun _ _ z=>z⟩
   rw [hst] at hA ⊢
   refine Calls.callWith_builtin (by show (false||(backTo cpos (starEach [e2] X.env)).any (·.1))=false;rw [hplain] <;> rfl) (Calls.evalArgs_plain ?_)
   refine thn hA fun us s2 ⟨ys,H2,I2,r2,μ2,ws,h2,e2',R2,rs,m2⟩=>?_
   unfold zc at m2
   dsimp only at m2
   split at m2
   ·rename_i n' y' z' e3
    cases e3
    split at m2
    ·rename_i kvs kk ec ek
     obtain ⟨v1,v2,rfl,ry,rz⟩:=reps2 rs
     obtain ⟨b,rfl,hb⟩:=jl ry ek
     obtain ⟨u1,u2,rfl,ru1,ru2⟩:=vals2 r2
     cases ru1
     obtain ⟨p2,xs2,vs2,hp2,hx2,q1,q2,q3,q4⟩:=R2.dttAt ec
     have r0':=e2'.r _ _ r0
     rw [Rep] at r0'
     obtain ⟨a2,ea,ha2⟩:=r0'
     cases ea
     have ep2:p2=p:=by rw [ha2] at hp2;exact (Option.some.inj hp2).symm
     subst ep2
     obtain ⟨_,hd2,dd⟩:=pB I2 hx2 (d9 q1 q3)
     obtain ⟨t1,t2⟩:=mz q1 q2 q4 kk
     refine call_meetsIn PySem.F.slot_dict_get dd.typeIs PySem.F.entry_dict_get (PySem.F.args_dict_get_3 _ _ _) (meetsH_dict_get_default (tupleKind (intKind X.prog X.w)) p2 b hd2 u2) ⟨tupleKind_room_in1 (by omega),kk,xs2,nQ I2 hb,dd,?_⟩
     cases ev:tU kvs kk with
     | some wv=>
      rw [ev] at m2
      obtain ⟨pp,v,a1,a2,a3⟩:=t1 wv ev
      rw [a1]
      exact ⟨v,H2,I2.tok _,a2,k _ _ ⟨μ2,wv,h2,e1'.trans e2',R2,a3,m2⟩⟩
     | none=>
      rw [ev] at m2 t2
      have a1:atKey xs2 kk=none:=by
       cases e:atKey xs2 kk with
       | none=>rfl
       | some _=>rw [e] at t2;cases t2
      rw [a1]
      exact ⟨v2,H2,I2.tok _,ru2,k _ _ ⟨μ2,z',h2,e1'.trans e2',R2,rz,m2⟩⟩
    ·exact m2.elim
   ·exact m2.elim
  ·exact il.elim
 ·exact il.elim
end
end L2
namespace L2
open PySem PySem.Spec PyProof.Rows
section
variable {X:Cx}{K:PySem.W.Frag}
variable {o e:Expr}{mo:ME}{ma:MA}{apos cpos:Pos}
end
end L2
namespace L2
open PySem PySem.Spec PyProof.Rows
section
variable {prog:Program}{w:World}{A:Around}{R:Result→Shared→Prop}{E:Value→Shared→Prop}{L I:Addr}{ns:List Int}{its:List Value}
theorem yK (a d:Value):argsOk "max" ⟨[a],[("default",d)]⟩:=by unfold argsOk;kernel_rfl
def Gr (ns:List Int)(j:Nat)(b:Int):Prop:=b∈ns∧∀ k,k<j→ns.getD k 0≤b
theorem zu {d:Value}(hh:A.handled=none)(hne:L≠I)(rv:Vals (ns.map V.int) its)(S:Addr)(hS1:S≠I)(hS2:S≠L) :
  ∀ (k j:Nat) (s:Shared) (c:Nat) (old:Array Value),ns.length - j=k→j≤ns.length→s.heap.IsListIter I L j→s.heap.IsList L its.toArray →
  (j=0∧old = #[]∨∃ b t,Gr ns j b∧old = #[.int b t,.int b t]) →
  s.heap.get? S=some { cls:=.type "list",dict:=none,data:=.seq old c,slots:=#[] } →
  (∀ v h' tk,(ns=[]∧v=d∨∃ b t,Gr ns ns.length b∧v=.int b t)→(∀ b o,b≠I→b≠S→s.heap.get? b=some o→h'.get? b=some o)→R (.ok (.ret v)) { s with heap:=h',toks:=tk }) →
  codeAny (model prog w) A (.builtin "max.loop" ⟨[.ref I,.none,.ref S],[("default",d)]⟩) R s:=by
 have hlen:its.length=ns.length:=by rw [←rv.length,List.length_map]
 have hname:(toString "max"++toString ".loop" : String) = "max.loop":=by decide
 have W:=Walks.list (prog:=prog) (w:=w) (A:=A.in1) hh I L hne its.toArray
 intro k
 induction k with
 | zero=>
  intro j s c old hk hj i1 i2 ho hS hR
  have ej:j=ns.length:=by omega
  refine codeAny_builtin F.entry_max_loop ?_
  rw [Around.under_plainId F.plain_max_loop _]
  show wpAny _ A.in1 (seqItems? (.ref S) >>= _) _ _ s
  refine wpAny_bind (wpAny_seqItems hS rfl ?_)
  show wpAny _ A.in1 (tryCatch (pyNext (.ref I)) _ >>= _) _ _ s
  refine wpAny_bind (wpAny_tryCatch (W.done s _ _ ⟨by rw [List.size_toArray,hlen,←ej];exact i1,i2⟩ fun h' tk hk'=>?_))
  rcases ho with ⟨z,rfl⟩ | ⟨b,t,hb,rfl⟩
  ·have en:ns=[]:=List.length_eq_zero_iff.mp (by omega)
   show wpAny _ A.in1 (rule _ >>= _) _ _ _
   refine wpAny_bind (wpAny_rule (wpAny_pure ?_))
   exact hR d h' tk (.inl ⟨en,rfl⟩) fun b o h1 h2 e=>hk' b o (by simpa using h1) e
  ·have hS':=hk' S _ (by simpa using hS1) hS
   show wpAny _ A.in1 (updateSeq S (fun _=>#[]) >>= _) _ _ _
   refine wpAny_bind ?_
   refine wpAny_updateSeq hS' rfl (wpAny_bind (wpAny_letGo (wpAny_pure ?_)))
   exact hR _ _ tk (.inr ⟨b,t,ej ▸ hb,rfl⟩) fun b o h1 h2 e=>(Heap.get?_update_other _ _ (Ne.symm h2)).trans (hk' b o (by simpa using h1) e)
 | succ k ih=>
  intro j s c old hk hj i1 i2 ho hS hR
  have hlt:j<ns.length:=by omega
  refine codeAny_builtin F.entry_max_loop ?_
  rw [Around.under_plainId F.plain_max_loop _]
  show wpAny _ A.in1 (seqItems? (.ref S) >>= _) _ _ s
  refine wpAny_bind (wpAny_seqItems hS rfl ?_)
  show wpAny _ A.in1 (tryCatch (pyNext (.ref I)) _ >>= _) _ _ s
  refine wpAny_bind (wpAny_tryCatch (W.item j s _ _ (by rw [List.size_toArray,hlen];exact hlt) ⟨i1,i2⟩ fun v h' tk hP hst' hk'=>?_))
  obtain ⟨u,ev⟩:=ints_at (i:=j) (v:=v) rv (by simpa using hP)
  have hS':=hk' S _ (by simpa using hS1) hS
  have hm:ns.getD j 0∈ns:=by rw [List.getD_eq_getElem?_getD,List.getElem?_eq_getElem hlt];exact List.getElem_mem _
  have go:∀ (h1:Heap) (c':Nat) (b:Int) (t:Tok),Gr ns (j+1) b→h1.get? S=some { cls:=.type "list",dict:=none,data:=.seq #[.int b t,.int b t] c',slots:=#[] } →
    (∀ b o,b≠S→h'.get? b=some o→h1.get? b=some o) →
    codeAny (model prog w) A (.builtin "max.loop" ⟨[.ref I,.none,.ref S],[("default",d)]⟩) R { s with heap:=h1,toks:=tk }:=fun h1 c' b t hb h3 h4=>by
   have st:=W.frame _ _ h1 hst' fun b hb o e=>h4 b o (fun z=>by
    subst z
    rcases List.mem_cons.mp hb with q | q
    ·exact hS1 q
    ·exact hS2 (by simpa using q)) e
   exact ih (j+1) _ c' _ (by omega) hlt st.1 st.2 (.inr ⟨b,t,hb,rfl⟩) h3 fun v h2 tk2 hv hk2=>hR v h2 tk2 hv fun b o n1 n2 e=>hk2 b o n1 n2 (h4 b o n2 (hk' b o (by simpa using n1) e))
  rcases ho with ⟨z,rfl⟩ | ⟨b,t,hb,rfl⟩
  ·show wpAny _ A.in1 (updateSeq S (fun _=>#[v,v]) >>= _) _ _ _
   refine wpAny_bind ?_
   refine wpAny_updateSeq hS' rfl ?_
   rw [hname]
   subst ev
   refine wpAny_pure ⟨plainId_quiet F.plain_max_loop _,go _ _ _ _ ⟨hm,fun k hk=>?_⟩ (Heap.get?_update_self _ hS' rfl) fun b o n e=>(Heap.get?_update_other _ _ (Ne.symm n)).trans e⟩
   have:k=j:=by omega
   rw [this]
   exact Int.le_refl _
  ·subst ev
   show wpAny _ A.in1 (tryCatch (holding [_,_] (richCompare .Gt _ _ >>= _)) _ >>= _) _ _ _
   refine wpAny_bind (wpAny_tryCatch (wpAny_holding (wpAny_bind (CmpOf.ints_gt (P:=fun i v=>∃ t,v=.int (if i=0 then ns.getD j 0 else b) t) (fun i=>if i=0 then ns.getD j 0 else b) (fun _ _ h=>h) 0 1 _ _ _ _ _ ⟨u,rfl⟩ ⟨t,rfl⟩ ?_))))
   refine wpAny_bind (wpAny_holding (wpAny_truthy_bool ?_))
   refine wpAny_bind (wpAny_letGo (wpAny_pure ?_))
   by_cases q:ns.getD j 0>b
   ·rw [if_pos (by simpa using q)]
    refine wpAny_bind ?_
    refine wpAny_updateSeq hS' rfl (wpAny_bind (wpAny_letGo ?_))
    rw [hname]
    refine wpAny_pure ⟨plainId_quiet F.plain_max_loop _,go _ _ _ _ ⟨hm,fun k hk=>?_⟩ (Heap.get?_update_self _ hS' rfl) fun b o n e=>(Heap.get?_update_other _ _ (Ne.symm n)).trans e⟩
    by_cases h:k<j
    ·have:=hb.2 k h;omega
    ·have:k=j:=by omega
     rw [this]
     exact Int.le_refl _
   ·rw [if_neg (by simpa using q)]
    refine wpAny_bind (wpAny_letGo ?_)
    rw [hname]
    refine wpAny_pure ⟨plainId_quiet F.plain_max_loop _,go h' c b t ⟨hb.1,fun k hk=>?_⟩ hS' fun b o n e=>e⟩
    by_cases h:k<j
    ·exact hb.2 k h
    ·have:k=j:=by omega
     rw [this]
     omega
theorem call_maxD {s:Shared}{d:Value}{Q:Value→Shared→Prop}(hh:A.handled=none)(rv:Vals (ns.map V.int) its)(hl:s.heap.IsList L its.toArray)
  (hQ:∀ v h' tk,(ns=[]∧v=d∨∃ b t,Gr ns ns.length b∧v=.int b t)→(∀ b o,s.heap.get? b=some o→h'.get? b=some o)→Q v { s with heap:=h',toks:=tk }) :
  wpAny (model prog w) A (call (.builtin "max") [.ref L] [("default",d)]) Q E s:=by
 have hname:(toString "max"++toString ".loop" : String) = "max.loop":=by decide
 have hlt:L<s.heap.objs.size:=by obtain ⟨_,e,_⟩:=hl;exact Heap.lt_size e
 refine wpAny_call (codeAny_call_builtin F.plain_max F.entry_max ?_)
 simp only [checkBuiltinCall,F.kind_max]
 have hc:wpAny (model prog w) A.in1 (Builtin.«max» ⟨[.ref L],[("default",d)]⟩) (fun fin s'=>match fin with
   | .done f=>(match (Except.ok f:Result) with | .ok (.ret v)=>Q v s' | .ok _=>False | .error e=>E e s')
   | .again c'=>c'.quiet=true∧codeAny (model prog w) A c' (fun r s'=>match r with | .ok (.ret v)=>Q v s' | .ok _=>False | .error e=>E e s') s') E s:=by
  show wpAny _ A.in1 (Builtin.Builtins.bindParams "max" ["key", "default"] 0 ⟨[],[("default",d)]⟩ >>= _) _ _ s
  refine wpAny_bind (wpAny_of_eq (show Builtin.Builtins.bindParams "max" ["key", "default"] 0 ⟨[],[("default",d)]⟩=pure [none,some d] from rfl) ?_)
  refine wpAny_bind (wpAny_pure ?_)
  refine wpAny_bind (wpAny_pyIter_list hl ?_)
  refine wpAny_bind (wpAny_newObj_type ?_)
  rw [hname]
  have n1:(s.heap.push { cls:=.type "list_iterator",data:=.fields #[.ref L,.int 0 0] }).objs.size=s.heap.objs.size+1:=Heap.size_push ..
  refine wpAny_pure ⟨plainId_quiet F.plain_max_loop _,zu hh (Nat.ne_of_lt hlt) rv _ (Ne.symm (Nat.ne_of_lt (by rw [n1];exact Nat.lt_succ_self _))) (Ne.symm (Nat.ne_of_lt (by rw [n1];exact Nat.lt_succ_of_lt hlt))) _ 0 _ 0 #[] rfl (Nat.zero_le _) ?_ ?_ (.inl ⟨rfl,rfl⟩) (Heap.get?_push_size _ rfl) fun v h' tk hv hk=>?_⟩
  ·exact ⟨_,Heap.get?_push_of_some _ (Heap.get?_push_size _ rfl),rfl,rfl⟩
  ·exact (hl.push _).push _
  ·exact hQ v h' tk hv fun b o e=>hk b o (Nat.ne_of_lt (Heap.lt_size e)) (Nat.ne_of_lt (by rw [n1];exact Nat.lt_succ_of_lt (Heap.lt_size e))) (Heap.get?_push_of_some _ (Heap.get?_push_of_some _ e))
 cases hsig:Manifest.signature? "max" with
 | none=>exact wpAny_pure hc
 | some sig=>
  have h2:Bind.checkArgs "max" sig ⟨[.ref L],[("default",d)]⟩=pure ():=by have:=yK (.ref L) d;simpa only [argsOk,hsig] using this
  simp only [h2]
  exact wpAny_pure hc
end
section
variable {X:Cx}
def rMaxD (X:Cx):List V→Hp→VK→Prop:=fun xs H Q=>∃ (p:Addr) (ns:List Int),xs=[.ref p]∧SqL X.K H p (ns.map V.int)∧∀ M,(ns=[]∧M=0∨M∈ns∧∀ a,a∈ns→a≤M)→Q (.int M) H
theorem pe_maxD {x:Str}{p pos cp kp:Pos}{e:Expr}{j:Nat}{t:TA}(hc:X.calm=true)(hg:Gl X x)(hm:X.mg x=none)(hv:bootBuiltins x=some (.builtin "max"))(ha:PA X [e] t)
  (hn:x ≠ "__name__":=by decide) (hdb:(x==("__debug__" : Str))=false:=by decide)
  (he:starEach [e] X.env=(false,eval e X.env)::starEach [] X.env:=by rfl):PE X (.Call (.Name x p) [e] [⟨some "default",.Constant (.int 0) j cp,kp⟩] pos) (tCB (rMaxD X) t):=by
 intro pins s σ H Q I h
 refine wpAny_Call_Name_kw (jU I hg hm hv ?_ hn hdb)
 refine callWith_kw (thn (ha pos pins s σ H _ I h) fun us s1 ⟨vs,H1,I1,r1,q1⟩=>?_) (by rw [he];rfl) (by rw [he];rfl)
 refine kws_cons (wpAny_Constant_int (kws_nil ?_))
 obtain ⟨q,ns,e1,hS,hq⟩:=q1
 subst e1
 obtain ⟨u,rfl,ru⟩:=vals1 r1
 cases ru
 have I2:=I1.tok (s1.toks+1)
 obtain ⟨its,rv,pl,hz⟩:=I2.list hS
 refine call_maxD (I2.ok.hd hc) rv pl.isList fun v h' tk hv hk=>?_
 rcases hv with ⟨en,rfl⟩ | ⟨b,t,hb,rfl⟩
 ·exact ⟨.int 0,H1,I2.kept (h':=h') (t':=tk) hk,⟨_,rfl⟩,hq _ (.inl ⟨en,rfl⟩)⟩
 ·refine ⟨.int b,H1,I2.kept (h':=h') (t':=tk) hk,⟨_,rfl⟩,hq _ (.inr ⟨hb.1,fun a ha=>?_⟩)⟩
  obtain ⟨k,hk,e⟩:=List.mem_iff_getElem.mp ha
  have:=hb.2 k hk
  rw [List.getD_eq_getElem?_getD,List.getElem?_eq_getElem hk] at this
  rw [←e]
  exact this
def kMaxD:MC:=fun ws h Q=>match ws with
 | [w]=>(match dR h w with
  | some us=>∃ ns:List Int,us=ns.map W.int∧∀ M,(ns=[]∧M=0∨M∈ns∧∀ a,a∈ns→a≤M)→Q (.int M) h
  | none=>False)
 | _=>False
theorem s_maxD:SimC X.K (rMaxD X) kMaxD:=by
 intro H μ h vs ws Qw Q R r m k
 unfold kMaxD at m
 split at m
 ·split at m
  ·rename_i w us ev
   obtain ⟨v,e,rv⟩:=lH r
   obtain ⟨p,ys,ex,hs,rs⟩:=dM R rv ev
   obtain ⟨ns,eu,m⟩:=m
   subst e ex
   rw [eu] at rs
   have:=n8 rs
   subst this
   exact ⟨p,ns,rfl,hs,fun M hM=>k _ _ (.int R (m M hM))⟩
  ·exact m.elim
 ·exact m.elim
theorem d_maxD {x:Str}{p pos cp kp:Pos}{e:Expr}{j:Nat}{ma:MA}(hc:X.calm=true)(hg:Gl X x)(hm:X.mg x=none)(hv:bootBuiltins x=some (.builtin "max"))(ha:DAs X [e] ma)
  (hn:x ≠ "__name__":=by decide) (hdb:(x==("__debug__" : Str))=false:=by decide)
  (he:starEach [e] X.env=(false,eval e X.env)::starEach [] X.env:=by rfl):DE X (.Call (.Name x p) [e] [⟨some "default",.Constant (.int 0) j cp,kp⟩] pos) (mCB kMaxD ma):=
 (pe_maxD hc hg hm hv ha hn hdb he).of fun _ _ _ h=>cb_of s_maxD h
end
end L2
namespace L2
open PySem PySem.Spec PyProof.Rows
section
open AutoSeq1 (wpAny_loadPart')
set_option maxRecDepth 100000
set_option maxHeartbeats 1000000 in
theorem tE (l:Addr)(items:Array Value)(n:Nat)(dct:Option Addr)(sl:Array (Option Value)) :
  Meets (Builtin.«enumerate.__new__» ⟨[.type "enumerate",.ref l],[]⟩) (fun _ R s=>s.heap.get? l=some { cls:=.type "tuple",dict:=dct,data:=.seq items n,slots:=sl } ∧
   R (.ok (.ret (.ref (s.heap.push { cls:=.type "tuple_iterator",data:=.fields #[.ref l,.int 0 0] }).objs.size)))
    { s with heap:=(s.heap.push { cls:=.type "tuple_iterator",data:=.fields #[.ref l,.int 0 0] }).push { cls:=.type "enumerate",data:=.fields #[.none,.bool false,.ref s.heap.objs.size,rawInt 0,.none,.none] } }):=
 .of_wp fun prog w A R s h=>by
  obtain ⟨hp,g,d,tk,os⟩:=s
  obtain ⟨hl,h⟩:=h
  have hsub:=sub_enumerate
  have hL:Heap.IsTuple (Shared.heap ⟨hp,g,d,tk,os⟩) l items:=⟨_,hl,rfl,n,rfl⟩
  wp_walk using wpAny_loadPart' hl
  refine wpAny_stack_any fun st=>wpAny_pure ?_
  split
  ·rename_i c _ _ _ _ _
   cases (c==Value.type "enumerate")
   ·wp_walk using wpAny_loadPart' hl,wpAny_pyIter_tuple hL
    exact ⟨_,rfl,h⟩
   ·wp_walk using wpAny_loadPart' hl,wpAny_pyIter_tuple hL
    exact ⟨_,rfl,h⟩
  ·wp_walk using wpAny_loadPart' hl,wpAny_pyIter_tuple hL
   exact ⟨_,rfl,h⟩
end
section
variable {prog:Program}{w:World}{A:Around}{E:Value→Shared→Prop}{s:Shared}
theorem wM {l:Addr}{items:Array Value}{Q:Value→Shared→Prop}(hL:s.heap.IsTuple l items)
  (h:∀ h',IsEnum h' (s.heap.objs.size+1) s.heap.objs.size 0 .none→h'.IsTupleIter s.heap.objs.size l 0→h'.objs.size=s.heap.objs.size+2 →
   (∀ b o,s.heap.get? b=some o→h'.get? b=some o)→Q (.ref (s.heap.objs.size+1)) { s with heap:=h' }) :
  wpAny (model prog w) A (call (.type "enumerate") [.ref l]) Q E s:=by
 obtain ⟨⟨c,dct,dt,sl⟩,hl,hc,n,hd⟩:=hL
 replace hc:c=.type "tuple":=hc
 replace hd:dt=.seq items n:=hd
 subst hc hd
 refine callType_new F.called_enumerate (by decide) (F.typeCall_enumerate_1 _) (F.newCall_enumerate_1 _) (fun obj=>F.args_object_init_2 obj _) F.entry_enumerate_new
  (tE l items n dct sl) ⟨hl,?_⟩
 have hz:(s.heap.push { cls:=.type "tuple_iterator",data:=.fields #[.ref l,.int 0 0] }).objs.size=s.heap.objs.size+1:=Heap.size_push ..
 show _∧_
 rw [hz]
 have he:IsEnum ((s.heap.push { cls:=.type "tuple_iterator",data:=.fields #[.ref l,.int 0 0] }).push
   { cls:=.type "enumerate",data:=.fields #[.none,.bool false,.ref s.heap.objs.size,rawInt 0,.none,.none] }) (s.heap.objs.size+1) s.heap.objs.size 0 .none:=by
  have:=Heap.get?_push_size (s.heap.push { cls:=.type "tuple_iterator",data:=.fields #[.ref l,.int 0 0] })
   (o:={ cls:=.type "enumerate",data:=.fields #[.none,.bool false,.ref s.heap.objs.size,rawInt 0,.none,.none] }) rfl
  rw [hz] at this
  exact this
 exact ⟨⟨_,he,rfl⟩,h _ he ⟨_,Heap.get?_push_of_some _ (Heap.get?_push_size _ rfl),rfl,rfl⟩ (by rw [Heap.size_push,hz]) fun b o y=>Heap.get?_push_of_some _ (Heap.get?_push_of_some _ y)⟩
theorem yx {e it l:Addr}{i:Nat}{k:Int}{items:Array Value}{old:Value}{Q:Option Value→Shared→Prop}(hh:A.handled=none)
  (he:IsEnum s.heap e it k old) (hit:s.heap.IsTupleIter it l i) (hl:s.heap.IsTuple l items) (hx:items[i]?=none)
  (hQ:∀ h',Heap.ExtBut it s.heap h'→Q none { s with heap:=h' }):wpAny (model prog w) A (pyNext (.ref e)) Q E s:=by
 have hT:s.TypeIs (.ref e) "enumerate":=⟨_,he,rfl⟩
 unfold pyNext
 refine wpAny_bind (wpAny_attempt (wpAny_callSpecial?_slot (name:=Str.ofString "__next__") hT F.slot_enumerate_next
  (wpAny_call_entry F.slot_enumerate_next hT F.entry_enumerate_next ?_ (F.args_enumerate_next_1 _))))
 show wpAny _ _ (field (.ref e) 2 >>= _) _ _ _
 refine wpAny_bind (wpAny_field he rfl (x:=.ref it) rfl ?_)
 refine wpAny_bind (fY hh hit hl hx fun h' x he' hx'=>?_)
 obtain ⟨o,ho,hc⟩:=hx'
 refine wpAny_bind (wpAny_isInstance (T := "StopIteration") (b:=true) ⟨o,ho,hc⟩ isSubtype_stop ?_)
 exact wpAny_pure (hQ _ he')
theorem drawsT (hh:A.handled=none)(it l:Addr)(hne:l≠it)(items:Array Value) :
  Draws prog w A it [it,l] items.size (fun i x=>items[i]?=some x) (fun i h=>h.IsTupleIter it l i∧h.IsTuple l items) where
 live:=fun _ _ st=>by obtain ⟨⟨o,e,_⟩,_⟩:=st;exact ⟨o,e⟩
 frame:=fun _ _ _ st hk=>by
  obtain ⟨⟨o,e,r⟩,⟨o2,e2,r2⟩⟩:=st
  exact ⟨⟨o,hk it (by simp) o e,r⟩,⟨o2,hk l (by simp) o2 e2,r2⟩⟩
 item:=fun i s Q E hi st hQ=>vG st.1 st.2 (x:=items[i]) (by simp [hi]) fun h' hit' sb=>by
  refine hQ _ h' s.toks (by simp [hi]) ⟨hit',?_⟩ sb
  obtain ⟨o,e,r⟩:=st.2
  exact ⟨o,sb.extBut _ o hne e,r⟩
 done:=fun s Q E st hE=>fY hh st.1 st.2 (by simp) hE
end
def IteT (K:PySem.W.Frag)(l:Addr):It:=
  ⟨fun i H=>∃ xs x,SqT K H l xs∧xs[i]?=some x,
   fun i H v H'=>∃ p x,H p=none∧v=.ref p∧H'=upd H p (.tup [.int (i:Int),x])∧∀ xs,SqT K H l xs→xs[i]?=some x,
   fun i H=>∃ xs,SqT K H l xs∧xs.length≤i,true⟩
def enStT (e it l:Addr)(n:Nat)(h:Heap):Prop:=(∃ old,IsEnum h e it (n:Int) old)∧h.IsTupleIter it l n
theorem xP {P:Program}{w:World}{K:PySem.W.Frag}{elts:List Expr}{kt:Nat}{pos:Pos}{e it l:Addr}(ne:e≠it):Turn P w K (.Tuple elts kt pos) (IteT K l) [e,it] e (enStT e it l) where
 mem:=by simp
 obj:=fun i h st b hb=>by
  obtain ⟨⟨old,ge⟩,o,gi,_,d⟩:=st
  simp only [List.mem_cons,List.not_mem_nil,or_false] at hb
  rcases hb with rfl | rfl
  ·exact ⟨_,ge,fun v y=>by cases y⟩
  ·exact ⟨o,gi,fun v y=>by rw [d] at y;cases y⟩
 keep:=fun i h h' st k=>⟨⟨_,k e (by simp) _ st.1.choose_spec⟩,st.2.at fun o q=>k it (by simp) o q⟩
 item:=by
  intro X hP hw hK hc i pins s σ H E I hf st hg
  subst hP hw hK
  obtain ⟨⟨old,ge⟩,gi⟩:=st
  obtain ⟨xs,x,hx,ex⟩:=hg
  obtain ⟨its,r,pl,hz⟩:=I.tuple hx
  obtain ⟨u,hu,ru⟩:=r.get ex
  have li:l≠it:=fun q=>by
   obtain ⟨o1,g1,c1,_⟩:=pl
   obtain ⟨o2,g2,c2,_⟩:=gi
   rw [q,g2] at g1
   cases g1
   rw [c2] at c1
   injection c1 with z
   exact absurd z (by decide)
  have le:e≠l:=fun q=>by
   obtain ⟨o1,g1,c1,_⟩:=pl
   have g2:s.heap.get? e=some _:=ge
   rw [q,g1] at g2
   cases g2
   injection c1 with z
   exact absurd z (by decide)
  refine wpAny_pyNext_enum_itemD (drawsT (A:=X.A.in1) (I.ok.hd (hc rfl)) it l li its.toArray) ge ⟨gi,pl⟩ (by have:=(List.getElem?_eq_some_iff.mp hu).1;simpa using this) ne (by simp [ne,le]) fun y h1 tk hy go gi1 T1 size1 all1=>⟨_,rfl,?_⟩
  have:y=u:=by
   have hy:its[i]?=some y:=by simpa using hy
   rw [hu] at hy
   exact (Option.some.inj hy).symm
  subst this
  have pe:s.heap.objs.size≠e:=Nat.ne_of_gt (Heap.lt_size ge)
  have pi:s.heap.objs.size≠it:=by obtain ⟨o,q,_⟩:=gi;exact Nat.ne_of_gt (Heap.lt_size q)
  refine wpAny_letOwnedTupleGo_enum (s:={ s with heap:=h1,toks:=tk+1 }) go fun h2 ge2 sb=>?_
  have fr:H s.heap.objs.size=none:=I.hok.fresh (Nat.le_refl _)
  have I1:Inv X pins σ (upd H s.heap.objs.size (.tup [.int (i:Int),x])) { s with heap:=s.heap.push { cls:=.type "tuple",data:=.seq #[.int (i:Int) tk,y] },toks:=tk+1 }:=
   I.laid (t':=tk+1) (fun b o q=>Heap.get?_push_of_some _ q) (Nat.le_refl _) ⟨(by show 2≤sizeLine;decide),[.int (i:Int) tk,y],.cons ⟨_,rfl⟩ (.cons ru .nil),⟨_,Heap.get?_push_size _ rfl,rfl,⟨_,rfl⟩,rfl⟩⟩
  have lt:∀ b∈[e,it],s.heap.objs.size≠b:=fun b hb=>by
   simp only [List.mem_cons,List.not_mem_nil,or_false] at hb
   rcases hb with rfl | rfl
   ·exact pe
   ·exact pi
  have hf1:∀ b∈[e,it],xZ X pins (upd H s.heap.objs.size (.tup [.int (i:Int),x])) b:=fun b hb=>⟨by rw [aJ (Ne.symm (lt b hb))];exact (hf b hb).1,(hf b hb).2⟩
  have I2:Inv X pins σ (upd H s.heap.objs.size (.tup [.int (i:Int),x])) { s with heap:=h2,toks:=tk+1 }:=by
   refine Inv.turnedL (s:={ s with heap:=s.heap.push { cls:=.type "tuple",data:=.seq #[.int (i:Int) tk,y] },toks:=tk+1 }) (h':=h2) (t':=tk+1) (ch:=[e,it]) I1 (fun b o hb q=>?_) hf1
   have be:b≠e:=fun q=>hb (by simp [q])
   rcases Heap.get?_push_cases q with ⟨rfl,rfl⟩ | q'
   ·exact sb.extBut _ _ be T1
   ·exact sb.extBut _ _ be (all1 b o be (fun q=>hb (by simp [q])) q')
  refine ⟨.ref s.heap.objs.size,_,I2,rfl,⟨s.heap.objs.size,x,fr,rfl,rfl,fun xs' q=>by rw [I.tuple_inj q hx];exact ex⟩,?_,fun b hb=>(hf1 b hb).1⟩
  exact ⟨⟨_,by rw [Int.natCast_add];exact ge2⟩,gi1.1.at fun o q=>sb.extBut _ o (Ne.symm ne) q⟩
 done:=by
  intro X hP hw hK hc i pins s σ H E I hf st hg
  subst hP hw hK
  obtain ⟨⟨old,ge⟩,gi⟩:=st
  obtain ⟨xs,hx,hl⟩:=hg
  obtain ⟨its,r,pl,hz⟩:=I.tuple hx
  have hn:=r.length
  refine yx (I.ok.hd (hc rfl)) ge gi pl (by simp;omega) fun h1 eb=>⟨rfl,I.turnedL (t':=s.toks) (ch:=[e,it]) (fun b o hb q=>eb b o (fun z=>hb (by simp [z])) q) hf⟩
 self:=fun _ _ _ _ _ st h=>wpAny_pyIter_enum st.1.choose_spec h
section
variable {X:Cx}{K:PySem.W.Frag}
def iEnumT (K:PySem.W.Frag)(ta:TA):TI:=fun σ H R=>ta σ H fun vs H1=>∃ a xs,vs=[.ref a]∧SqT K H1 a xs∧R (IteT K a) H1
theorem pi_enumT {e1:Expr}{ta:TA}{p pos tpos:Pos}{elts:List Expr}{kt:Nat}(hg:Gl X "enumerate")(hm:X.mg "enumerate" = none)(ha:PA X [e1] ta)
  (hs:starEach [e1] X.env=(false,eval e1 X.env)::starEach [] X.env:=by rfl) (hpl:(backTo pos (starEach [] X.env)).any (·.1)=false:=by rfl) :
  PI X (.Tuple elts kt tpos) (.Call (.Name "enumerate" p) [e1] [] pos) (iEnumT X.K ta):=by
 intro pins s σ H R I h
 refine wpAny_Call_Name_kw (jU I hg hm boot_enumerate ?_ (by decide) (by decide))
 refine PyProof.Rows.callWith_type1 (thn (ha pos pins s σ H _ I h) fun us s1 ⟨vs,H1,I1,r1,q1⟩=>?_) hs hpl
 obtain ⟨a,xs,ev,hx,q⟩:=q1
 subst ev
 obtain ⟨u1,eu,ru1⟩:=vals1 r1
 subst eu
 cases ru1
 obtain ⟨its,r,pl,hz⟩:=I1.tuple hx
 refine wM pl fun h' ge gi size all=>?_
 refine wpAny_pyIter_enum (s:={ s1 with heap:=h' }) ge ?_
 have I2:Inv X pins σ H1 { s1 with heap:=h' }:=I1.kept (t':=s1.toks) all
 generalize hn:s1.heap.objs.size=n at ge gi size ⊢
 refine ⟨n+1,[n+1,n],_,_,H1,rfl,I2,xP (iI (show n+1≠n by omega)),⟨⟨_,ge⟩,gi⟩,fun c hc=>?_,q⟩
 have hc':n≤c:=by
  have h:c∈([n+1,n]:List Nat):=hc
  simp only [List.mem_cons,List.not_mem_nil,or_false] at h
  rcases h with h | h
  ·exact h ▸ Nat.le_succ n
  ·exact h ▸ Nat.le_refl n
 exact I1.fpOk (by rw [hn];exact hc') (I1.hok.fresh (by rw [hn];exact hc'))
def za (ma:MA):MI:=fun σ h R=>ma σ h fun ws h1=>match ws with
 | [.tup as]=>R ⟨enW 0 as,none⟩ h1
 | _=>False
theorem di_enumT {e1:Expr}{mr:MA}{p pos tpos:Pos}{elts:List Expr}{kt:Nat}(hg:Gl X "enumerate")(hm:X.mg "enumerate" = none)(ha:DAs X [e1] mr)
  (hs:starEach [e1] X.env=(false,eval e1 X.env)::starEach [] X.env:=by rfl) (hpl:(backTo pos (starEach [] X.env)).any (·.1)=false:=by rfl) :
  DIt X (.Tuple elts kt tpos) (.Call (.Name "enumerate" p) [e1] [] pos) (za mr):=PI.of (pi_enumT hg hm ha hs hpl) fun σ H Q ⟨μ,h,σw,Rw,R,S,m,k⟩=>by
 refine ⟨μ,h,σw,_,R,S,m,fun vs H1 ⟨μ1,ws,h1,e1,R1,r1,m1⟩=>?_⟩
 dsimp only at m1
 split at m1
 ·rename_i as
  obtain ⟨v,ev,rv⟩:=lH r1
  have rv0:=rv
  rw [Rep] at rv
  obtain ⟨a,xs,ea,hxs,rs⟩:=rv
  subst ea
  refine ⟨a,xs,ev,hxs,k _ _ ⟨μ1,⟨enW 0 as,none⟩,h1,e1,R1,?_,m1⟩⟩
  intro H2 μ2 h2 i e2 R2 ck
  have r2:=e2.r _ _ rv0
  rw [Rep] at r2
  obtain ⟨a2,xs2,ea2,hxs2,rxs⟩:=r2
  cases ea2
  refine ⟨fun w ew=>?_,fun hl=>⟨xs2,hxs2,?_⟩⟩
  ·obtain ⟨p1,ep1,rfl⟩:=tL ew
   obtain ⟨q1,eq1,rq1⟩:=rxs.get ep1
   refine ⟨⟨xs2,q1,hxs2,eq1⟩,fun x' H3 ⟨pa,x1,hp,ex',eH3,f1⟩=>?_⟩
   have g1:=f1 xs2 hxs2
   rw [eq1] at g1
   cases g1
   subst ex' eH3
   rw [Nat.zero_add]
   exact ⟨μ2,(Ex.laid hp).ext,R2.laid hp,.tupNew hp (.cons (by rw [Rep]) (.one rq1))⟩
  ·have l1:=rxs.len
   have:as.length≤i:=by rw [←qw (as:=as) (j:=0)];exact hl
   omega
 ·exact m1.elim
end
end L2
namespace L2
open PySem PySem.Spec PyProof.Rows
section
variable {prog:Program}{w:World}{A:Around}{R:Result→Shared→Prop}{L I:Addr}{its:List Value}
end
section
variable {X:Cx}{K:PySem.W.Frag}
end
end L2
namespace L2
open PySem PySem.Spec PyProof.Rows
section
variable {X:Cx}{K:PySem.W.Frag}
def zipC (h:Gh)(x y:W):Option Src:=match mJ x,y with
 | some as,.loc n=>(match h.c n with
  | some (.lst bs)=>some ⟨kZ as bs,some (n,bs)⟩
  | _=>none)
 | _,_=>none
end
end L2
namespace L2
open PySem PySem.Spec PyProof.Rows
section
variable {X:Cx}
end
end L2
namespace L2
open PySem PySem.Spec PyProof.Rows
section
variable {prog:Program}{w:World}{A:Around}{E:Value→Shared→Prop}{s:Shared}
theorem lK:typeLookup (.type "tuple") "keys" = pure none:=by rw [typeLookup_type,builtinLookup_eq_fast];kernel_rfl
theorem nA:typeLookup (.type "list") "keys" = pure none:=by rw [typeLookup_type,builtinLookup_eq_fast];kernel_rfl
set_option maxRecDepth 100000 in
theorem xM {a:Addr}{o:Obj}{xs:Array Value}{k:Nat}{Q:Option Value→Shared→Prop}(hx:s.heap.get? a=some o)(hc:o.cls=.type "tuple")(hdat:o.data=.seq xs k)(hd:o.dict=none)(hA:A.handled=none)
  (h:∀ h' tk,(∀ b ob,s.heap.get? b=some ob→h'.get? b=some ob)→Q none { s with heap:=h',toks:=tk }):wpAny (model prog w) A (getAttr? (.ref a) "keys") Q E s:=by
 obtain ⟨c,dct,dat,sl⟩:=o
 simp only at hc hdat hd
 subst hc hdat hd
 obtain ⟨hp,g,d,tk,os⟩:=s
 have hT:∀ tk',(⟨hp,g,d,tk',os⟩:Shared).TypeIs (.ref a) "tuple":=fun _=>⟨_,hx,rfl⟩
 have f1:=sub_AttributeError
 have f3:=F.slot_tuple_getattribute.lookup
 have f4:=F.slot_tuple_getattribute.bind (.ref a)
 have f5:=am_tuple_getattr_none
 unfold getAttr? getAttrBy? getAttrBy
 repeat (any_goals (first | assumption | exact hT _ | ((with_reducible show wpAny _ _ (call (Value.builtin "tuple.__getattribute__") _ _) _ _ _);refine call_meets F.slot_tuple_getattribute (hT _) am_entry_tuple_getattribute (F.args_tuple_getattribute_2 _ _) (meets_getattribute_miss_tuple a xs k sl "keys" _ lK (by decide) (by size_fits)) ⟨hx,hA,fun h' tk' e hx'=>?_⟩) | wp_step))
 obtain ⟨t',u',he⟩:=hx'.there
 show wpAny _ _ (getattributeRaised _ _ _ _ _ _ _) _ _ _
 unfold getattributeRaised
 repeat (any_goals (first | assumption | wp_step))
 exact h _ _ hx'.keeps
set_option maxRecDepth 100000 in
theorem xY {a:Addr}{o:Obj}{xs:Array Value}{k:Nat}{Q:Option Value→Shared→Prop}(hx:s.heap.get? a=some o)(hc:o.cls=.type "list")(hdat:o.data=.seq xs k)(hd:o.dict=none)(hA:A.handled=none)
  (h:∀ h' tk,(∀ b ob,s.heap.get? b=some ob→h'.get? b=some ob)→Q none { s with heap:=h',toks:=tk }):wpAny (model prog w) A (getAttr? (.ref a) "keys") Q E s:=by
 obtain ⟨c,dct,dat,sl⟩:=o
 simp only at hc hdat hd
 subst hc hdat hd
 obtain ⟨hp,g,d,tk,os⟩:=s
 have hT:∀ tk',(⟨hp,g,d,tk',os⟩:Shared).TypeIs (.ref a) "list":=fun _=>⟨_,hx,rfl⟩
 have f1:=sub_AttributeError
 have f3:=F.slot_list_getattribute.lookup
 have f4:=F.slot_list_getattribute.bind (.ref a)
 have f5:=am_list_getattr_none
 unfold getAttr? getAttrBy? getAttrBy
 repeat (any_goals (first | assumption | exact hT _ | ((with_reducible show wpAny _ _ (call (Value.builtin "list.__getattribute__") _ _) _ _ _);refine call_meets F.slot_list_getattribute (hT _) am_entry_list_getattribute (F.args_list_getattribute_2 _ _) (meets_getattribute_miss_list a xs k sl "keys" _ nA (by decide) (by size_fits)) ⟨hx,hA,fun h' tk' e hx'=>?_⟩) | wp_step))
 obtain ⟨t',u',he⟩:=hx'.there
 show wpAny _ _ (getattributeRaised _ _ _ _ _ _ _) _ _ _
 unfold getattributeRaised
 repeat (any_goals (first | assumption | wp_step))
 exact h _ _ hx'.keeps
theorem rH:entryFor table "dict.update.loop" = some Builtin.«dict.update.loop»:=entryFor_of_tree (by kernel_rfl)
theorem gH:plainId "dict.update.loop" = true:=by decide +kernel
abbrev tkd (prog:Program)(w:World):=tupleKind (intKind prog w)
theorem is_mono {h h':Heap}{k:List Int}{a:Addr}(x:(tkd prog w).is h k a)(m:∀ b o,h.get? b=some o→h'.get? b=some o):(tkd prog w).is h' k a:=by
 obtain ⟨o,its,n,ho,r⟩:=x
 exact ⟨o,its,n,m _ _ ho,r⟩
theorem nM {h0 h h':Heap}{d:Addr}{xs:List (List Int×Addr×Value)}(x:Heap.DictOfH (tkd prog w) h d xs)(hd:∀ o,h.get? d=some o→h'.get? d=some o)(hk:∀ y∈xs,(tkd prog w).is h' y.1 y.2.1):Heap.DictOfH (tkd prog w) h' d xs:=by
 obtain ⟨o,es,ep,e1,e2,e3,e4,_,e6⟩:=x
 exact ⟨o,es,ep,hd o e1,e2,e3,e4,hk,e6⟩
theorem z8 {R:Result→Shared→Prop}{I d:Addr}{items:Array Value}{fp:List Addr}{St:Nat→Heap→Prop}(W:Walks prog w A.in1 I fp [I] items.size (fun i v=>items[i]?=some v) St)(hdf:d∉fp)(hu:A.in1.units<cLine)(h0:Heap)(hd0:h0.get? d=none)(hI0:h0.get? I=none)
  {ps:List (List Int×Addr×Value)} (hp:items.size=ps.length) (hk:∀ (j:Nat) (p:List Int×Addr×Value),ps[j]?=some p→∃ q,items[j]?=some (.ref q)∧IsTup h0 q #[.ref p.2.1,p.2.2]∧(tkd prog w).is h0 p.1 p.2.1) (nd:(ps.map (·.1)).Nodup) (hz:ps.length≤sizeLine) :
  ∀ (k j:Nat) (s:Shared) (t:Tok),ps.length - j=k→j≤ps.length→St j s.heap→Heap.DictOfH (tkd prog w) s.heap d (ps.take j)→(∀ b o,h0.get? b=some o→s.heap.get? b=some o) →
  (∀ h' tk,Heap.DictOfH (tkd prog w) h' d ps→(∀ b o,h0.get? b=some o→h'.get? b=some o)→R (.ok (.ret .none)) { s with heap:=h',toks:=tk }) →
  codeAny (model prog w) A (.builtin "dict.update.loop" ⟨[.ref d,.ref I,.int (j:Int) t,.none],[]⟩) R s:=by
 have dI:d≠I:=fun e=>hdf (W.sub d (by rw [e];simp))
 have keys:∀ (j:Nat) (h':Heap),(∀ b o,h0.get? b=some o→h'.get? b=some o)→∀ y∈ps.take j,(tkd prog w).is h' y.1 y.2.1:=fun j h' m y hy=>by
  obtain ⟨i,hi,e⟩:=List.mem_iff_getElem.mp (List.mem_of_mem_take hy)
  obtain ⟨q,_,_,hq⟩:=hk i y (by rw [←e];exact List.getElem?_eq_getElem hi)
  exact is_mono hq m
 intro k
 induction k with
 | zero=>
  intro j s t hkj hj st hm h00 hR
  have ej:j=ps.length:=by omega
  refine codeAny_builtin rH ?_
  rw [Around.under_plainId gH _]
  show wpAny _ A.in1 (pyNext (.ref I) >>= _) _ _ s
  refine wpAny_bind (W.done s _ _ (by rw [hp,←ej];exact st) fun h' tk hk'=>?_)
  have m:∀ b o,h0.get? b=some o→h'.get? b=some o:=fun b o e=>hk' b o (by intro z;rw [List.mem_singleton.mp z,hI0] at e;cases e) (h00 b o e)
  have hm':Heap.DictOfH (tkd prog w) h' d ps:=by
   rw [ej,List.take_length] at hm
   refine nM (h0:=h0) hm (fun o e=>hk' d o (by simpa using dI) e) fun y hy=>keys ps.length h' m y (by rw [List.take_length];exact hy)
  exact wpAny_bind (wpAny_pure (wpAny_pure (hR h' tk hm' m)))
 | succ k ih=>
  intro j s t hkj hj st hm h00 hR
  have hlt:j<ps.length:=by omega
  have ep:ps[j]?=some ps[j]:=List.getElem?_eq_getElem hlt
  generalize ps[j]=p at ep
  obtain ⟨q,eq,hq,hkey⟩:=hk j p ep
  refine codeAny_builtin rH ?_
  rw [Around.under_plainId gH _]
  show wpAny _ A.in1 (pyNext (.ref I) >>= _) _ _ s
  refine wpAny_bind (W.item j s _ _ (by rw [hp];exact hlt) st fun v h' tk hP st' hk'=>?_)
  have ev:v=.ref q:=by rw [eq] at hP;exact (Option.some.inj hP).symm
  subst ev
  have m:∀ b o,h0.get? b=some o→h'.get? b=some o:=fun b o e=>hk' b o (by intro z;rw [List.mem_singleton.mp z,hI0] at e;cases e) (h00 b o e)
  have hm':Heap.DictOfH (tkd prog w) h' d (ps.take j):=nM (h0:=h0) hm (fun o e=>hk' d o (by simpa using dI) e) (keys j h' m)
  obtain ⟨oq,goq,cq,nq,dq⟩:=hq
  have goq':=m _ _ goq
  refine wpAny_bind (wpAny_holding (wpAny_bind (wpAny_tryCatch ?_)))
  unfold Builtin.Dict.pairItems
  refine wpAny_bind (wpAny_typeOf (T := "tuple") ⟨oq,goq',cq⟩ ?_)
  rw [if_pos (by decide)]
  refine wpAny_bind (wpAny_seqItems goq' dq (wpAny_pure ?_))
  show wpAny _ _ (holding [_,_] (dictSet d _ _)) _ _ _
  have hno:atKey (ps.take j) p.1=none:=by
   unfold atKey
   rw [Option.map_eq_none_iff,List.find?_eq_none]
   intro y hy
   have hn:p.1∉(ps.take j).map (·.1):=by
    have e1:ps=ps.take j++p::ps.drop (j+1):=by
     conv=>lhs;rw [←List.take_append_drop j ps]
     congr 1
     rw [List.drop_eq_getElem_cons hlt]
     congr 1
     rw [List.getElem?_eq_getElem hlt] at ep
     exact Option.some.inj ep
    rw [e1,List.map_append,List.nodup_append] at nd
    intro z
    exact nd.2.2 _ z p.1 (by simp) rfl
   intro z
   exact hn (List.mem_map.mpr ⟨y,hy,by simpa using z⟩)
  refine wpAny_holding (wpAny_dictSet_heap (hsz:=by rw [List.length_take];omega) hu (is_mono hkey m) hm' fun h2 hd2 hs2=>?_)
  rw [storedH_new hno] at hd2
  have et:ps.take j++[(p.1,p.2.1,p.2.2)]=ps.take (j+1):=by rw [List.take_succ,ep];rfl
  rw [et] at hd2
  have keep2:∀ b o,b≠d→h'.get? b=some o→h2.get? b=some o:=fun b o hb e=>hs2.extBut b o hb e
  refine wpAny_pure ⟨plainId_quiet gH _,?_⟩
  have ej:((j:Int)+1)=((j+1:Nat):Int):=by omega
  show codeAny _ _ (.builtin "dict.update.loop" ⟨[.ref d,.ref I,.int ((j:Int)+1) 0,.none],[]⟩) _ _
  rw [ej]
  refine ih (j+1) _ 0 (by omega) hlt (W.frame _ _ _ st' fun b hb o e=>keep2 b o (fun z=>hdf (z ▸ hb)) e) hd2 (fun b o e=>keep2 b o (fun z=>by rw [z,hd0] at e;cases e) (m b o e)) fun h3 tk3 d3 m3=>hR h3 tk3 d3 m3
theorem qx {T:Addr}{items:Array Value}{Q:Value→Shared→Prop}(hh:A.handled=none)(hu:A.units+30<cLine)
  (src:(∃ o n,s.heap.get? T=some o∧o.cls=.type "tuple"∧o.data=.seq items n∧o.dict=none)∨(∃ o n,s.heap.get? T=some o∧o.cls=.type "list"∧o.data=.seq items n∧o.dict=none))
  {ps:List (List Int×Addr×Value)} (hp:items.size=ps.length) (hk:∀ (j:Nat) (p:List Int×Addr×Value),ps[j]?=some p→∃ q,items[j]?=some (.ref q)∧IsTup s.heap q #[.ref p.2.1,p.2.2]∧(tkd prog w).is s.heap p.1 p.2.1) (nd:(ps.map (·.1)).Nodup) (hz:ps.length≤sizeLine)
  (h:∀ h' tk,Heap.DictOfH (tkd prog w) h' s.heap.objs.size ps→(∀ b o,s.heap.get? b=some o→h'.get? b=some o)→Q (.ref s.heap.objs.size) { s with heap:=h',toks:=tk }) :
  wpAny (model prog w) A (call (.type "dict") [.ref T]) Q E s:=by
 have hhA:A.in1.in1.handled=none:=hh
 have hu2:A.in1.in1.units<cLine:=by
  have:A.in1.in1.units=A.units+1+1:=rfl
  omega
 have hT0:T<s.heap.objs.size:=by
  rcases src with ⟨o,_,e,_⟩ | ⟨o,_,e,_⟩ <;> exact Heap.lt_size e
 refine callType_codes (Q₁:=fun obj s₁=>obj=.ref s.heap.objs.size∧s₁ = { s with heap:=s.heap.push { cls:=.type "dict",data:=.dict #[] } }) F.kt_called_dict (F.kt_typeCall_dict_1 _) F.entry_dict_init (kt_code_dict_new _ ⟨rfl,rfl⟩) ?_
 rintro obj s₁ ⟨rfl,rfl⟩
 have hTd:({ s with heap:=s.heap.push { cls:=.type "dict",data:=.dict #[] } }:Shared).TypeIs (.ref s.heap.objs.size) "dict":=⟨_,Heap.get?_push_size _ rfl,rfl⟩
 refine ⟨hTd,F.args_dict_init_2 _ _,?_⟩
 unfold Builtin.«dict.__init__»
 refine wpAny_bind ?_
 unfold Builtin.Dict.selfAndRest
 refine wpAny_bind (wpAny_notOrdered_dict hTd ?_)
 show wpAny _ _ (pure (s.heap.objs.size,[Value.ref T])) _ _ _
 refine wpAny_pure ?_
 show wpAny _ _ (Builtin.Dict.updateFrom "dict.__init__" s.heap.objs.size (.ref T) [] .none) _ _ _
 unfold Builtin.Dict.updateFrom
 have loop:∀ (h1:Heap) (tk1:Nat),(∀ b ob,(s.heap.push { cls:=.type "dict",data:=.dict #[] }).get? b=some ob→h1.get? b=some ob)→∀ (h2:Heap) (fp:List Addr) (St:Nat→Heap→Prop),h1.objs.size∉([s.heap.objs.size]:List Addr)→(∀ b ob,h1.get? b=some ob→h2.get? b=some ob)→s.heap.objs.size∉fp→Walks prog w A.in1.in1 h1.objs.size fp [h1.objs.size] items.size (fun i v=>items[i]?=some v) St→St 0 h2 →
   codeAny (model prog w) A.in1 (.builtin "dict.update.loop" ⟨[.ref s.heap.objs.size,.ref h1.objs.size,rawInt 0,.none],[]⟩) (wants (fun r s₂=>r=.none∧Q (.ref s.heap.objs.size) s₂) E) { s with heap:=h2,toks:=tk1 }:=by
  intro h1 tk1 m1 h2 fp St hne m2 hfp W st
  have hd1:=m1 _ _ (Heap.get?_push_size s.heap (o:={ cls:=.type "dict",data:=.dict #[] }) rfl)
  refine z8 (A:=A.in1) W hfp hu2 s.heap (Heap.get?_none_of_le (Nat.le_refl _)) (Heap.get?_none_of_le (Nat.le_of_lt (Heap.lt_size hd1))) hp hk nd hz ps.length 0 _ _ rfl (Nat.zero_le _) st ?_ (fun b o e=>m2 b o (m1 b o (Heap.get?_push_of_some _ e))) fun h' tk d m=>⟨rfl,h h' tk d m⟩
  exact ⟨_,#[],0,m2 _ _ hd1,⟨rfl,rfl,rfl⟩,rfl,rfl,(fun x hx=>absurd hx List.not_mem_nil),List.nodup_nil⟩
 rcases src with ⟨o,n,g1,g2,g3,g4⟩ | ⟨o,n,g1,g2,g3,g4⟩
 ·have g1':(s.heap.push { cls:=.type "dict",data:=.dict #[] }).get? T=some o:=Heap.get?_push_of_some _ g1
  refine wpAny_bind (wpAny_typeOf (T := "tuple") ⟨o,g1',g2⟩ ?_)
  rw [if_pos (by decide)]
  refine wpAny_bind (xM g1' g2 g3 g4 hhA fun h1 tk1 m1=>?_)
  rw [if_pos (show (none:Option Value).isNone=true from rfl)]
  refine wpAny_bind (wpAny_rule ?_)
  have hT:h1.IsTuple T items:=⟨o,m1 _ _ g1',g2,n,g3⟩
  refine wpAny_bind (wpAny_pyIter_tuple hT ?_)
  have hlt:T<h1.objs.size:=Heap.lt_size (m1 _ _ g1')
  have hd1:=Heap.lt_size (m1 _ _ (Heap.get?_push_size s.heap (o:={ cls:=.type "dict",data:=.dict #[] }) rfl))
  refine wpAny_pure ⟨plainId_quiet gH _,?_⟩
  exact loop h1 tk1 m1 _ _ _ (by simpa using Nat.ne_of_gt hd1) (fun b ob e=>Heap.get?_push_of_some _ e) (by simp only [List.mem_cons,List.not_mem_nil,or_false,not_or];exact ⟨Nat.ne_of_lt hd1,Nat.ne_of_gt hT0⟩) (Walks.tuple hhA _ T (Nat.ne_of_lt hlt) items) ⟨⟨_,Heap.get?_push_size _ rfl,rfl,rfl⟩,hT.push _⟩
 ·have g1':(s.heap.push { cls:=.type "dict",data:=.dict #[] }).get? T=some o:=Heap.get?_push_of_some _ g1
  refine wpAny_bind (wpAny_typeOf (T := "list") ⟨o,g1',g2⟩ ?_)
  rw [if_pos (by decide)]
  refine wpAny_bind (xY g1' g2 g3 g4 hhA fun h1 tk1 m1=>?_)
  rw [if_pos (show (none:Option Value).isNone=true from rfl)]
  refine wpAny_bind (wpAny_rule ?_)
  have hT:h1.IsList T items:=⟨o,m1 _ _ g1',g2,n,g3⟩
  refine wpAny_bind (wpAny_pyIter_list hT ?_)
  have hlt:T<h1.objs.size:=Heap.lt_size (m1 _ _ g1')
  have hd1:=Heap.lt_size (m1 _ _ (Heap.get?_push_size s.heap (o:={ cls:=.type "dict",data:=.dict #[] }) rfl))
  refine wpAny_pure ⟨plainId_quiet gH _,?_⟩
  exact loop h1 tk1 m1 _ _ _ (by simpa using Nat.ne_of_gt hd1) (fun b ob e=>Heap.get?_push_of_some _ e) (by simp only [List.mem_cons,List.not_mem_nil,or_false,not_or];exact ⟨Nat.ne_of_lt hd1,Nat.ne_of_gt hT0⟩) (Walks.list hhA _ T (Nat.ne_of_lt hlt) items) ⟨⟨_,Heap.get?_push_size _ rfl,rfl,rfl⟩,hT.push _⟩
end
section
variable {X:Cx}{K:PySem.W.Frag}
abbrev PairV (K:PySem.W.Frag)(H:Hp)(y:V)(p:List Int×Addr×V):Prop:=∃ q,y=V.ref q∧SqT K H q [.ref p.2.1,p.2.2]∧SqT K H p.2.1 (p.1.map V.int)
theorem rm {pins:List (Addr×Obj)}{σ : St}{H:Hp}{s:Shared}(I:Inv X pins σ H s):∀ {ys:List V} {ps:List (List Int×Addr×V)} {its:List Value},Vals ys its→Paired (PairV X.K H) ys ps →
  ∃ xs:List (List Int×Addr×Value),xs.map (·.1)=ps.map (·.1)∧xs.map (·.2.1)=ps.map (·.2.1)∧Vals (ps.map (·.2.2)) (xs.map (·.2.2))∧∀ (j:Nat) (p:List Int×Addr×Value),xs[j]?=some p→∃ q,its[j]?=some (.ref q)∧IsTup s.heap q #[.ref p.2.1,p.2.2]∧(tkd X.prog X.w).is s.heap p.1 p.2.1
 | _,_,_,.nil,.nil=>⟨[],rfl,rfl,.nil,fun j p e=>by simp at e⟩
 | _,_,_,.cons r rv,.cons (b:=p) hp pp=>by
  obtain ⟨xs,a1,a2,a3,a4⟩:=rm I rv pp
  obtain ⟨q,rfl,h1,h2⟩:=hp
  cases r
  obtain ⟨js,r2,ht,_⟩:=I.tuple h1
  cases r2 with
  | cons r3 r4=>
   cases r4 with
   | cons r5 r6=>
    cases r6
    cases r3
    rename_i v
    refine ⟨(p.1,p.2.1,v)::xs,by simp [a1],by simp [a2],.cons r5 a3,fun j z e=>?_⟩
    cases j with
    | zero=>
     simp at e
     subst e
     exact ⟨q,rfl,ht,nQ I h2⟩
    | succ j=>
     obtain ⟨q',b1,b2⟩:=a4 j z (by simpa using e)
     exact ⟨q',by simpa using b1,b2⟩
theorem xO (hc:X.calm=true)(hu:X.A.units+30<cLine):jf X (.type "dict") (fun vs H Q=>∃ (T:Addr) (ys:List V) (ps:List (List Int×Addr×V)),vs=[.ref T]∧(SqL X.K H T ys∨SqT X.K H T ys)∧Paired (PairV X.K H) ys ps∧(ps.map (·.1)).Nodup ∧
  ∀ d,H d=none→∀ xs:List (List Int×Addr×Value),xs.map (·.1)=ps.map (·.1)→xs.map (·.2.1)=ps.map (·.2.1)→Vals (ps.map (·.2.2)) (xs.map (·.2.2))→Q (.ref d) (upd H d (.ext (sO d xs)))):=by
 intro pins s σ H vs us Q I r ⟨T,ys,ps,ev,hS,pp,nd,q⟩
 subst ev
 obtain ⟨u,rfl,ru⟩:=vals1 r
 cases ru
 have key:∀ its:List Value,Vals ys its→ys.length≤sizeLine→((∃ o n,s.heap.get? T=some o∧o.cls=.type "tuple"∧o.data=.seq its.toArray n∧o.dict=none)∨(∃ o n,s.heap.get? T=some o∧o.cls=.type "list"∧o.data=.seq its.toArray n∧o.dict=none))→wpAny (model X.prog X.w) X.A (call (.type "dict") [.ref T]) (EP X pins σ Q) X.xe s:=fun its rv hz src=>by
  obtain ⟨xs,a1,a2,a3,a4⟩:=rm I rv pp
  have e1:ys.length=its.length:=rv.length
  have e2:ys.length=ps.length:=Paired.length pp
  have e3:xs.length=ps.length:=by have:=congrArg List.length a1;simpa using this
  refine qx (I.ok.hd hc) hu src (ps:=xs) (by rw [List.size_toArray];omega) (fun j p e=>by
   obtain ⟨q,b1,b2⟩:=a4 j p e
   exact ⟨q,by rw [List.getElem?_toArray];exact b1,b2⟩) (by rw [a1];exact nd) (by omega) fun h' tk d m=>?_
  have y:(s.heap.objs.size==sysModules)=false:=(uP (P:=X.prog) (w:=X.w) (H:=H) s.heap I.big).2.1
  exact ⟨.ref s.heap.objs.size,_,I.laid (a:=s.heap.objs.size) (o:=.ext (sO s.heap.objs.size xs)) (t':=tk) m (Nat.le_refl _) (uf (P:=X.prog) (w:=X.w) (by omega) y d),rfl,q _ (I.hok.fresh (Nat.le_refl _)) xs a1 a2 a3⟩
 rcases hS with hS | hS
 ·obtain ⟨its,rv,⟨o,n,g1,g2,g3,g4⟩,hz⟩:=I.list hS
  exact key its rv hz (.inr ⟨o,n,g1,g2,g4,g3⟩)
 ·obtain ⟨its,rv,⟨o,g1,g2,⟨n,g3⟩,g4⟩,hz⟩:=I.tupO hS
  exact key its rv hz (.inl ⟨o,n,g1,g2,g3,g4⟩)
def jZ:List W→Option (List (List Int×W))
 | []=>some []
 | .tup [k,v]::r=>(match tKey k with
  | some ks=>(jZ r).map ((ks,v)::·)
  | none=>none)
 | _=>none
theorem rO {H:Hp}{μ : Mu}:∀ {us:List W} {ys:List V} {ps:List (List Int×W)},aL K H μ us ys→jZ us=some ps→∃ qs:List (List Int×Addr×V),Paired (PairV K H) ys qs∧qs.map (·.1)=ps.map (·.1)∧aL K H μ (ps.map fun x=>W.tup (x.1.map W.int)) (qs.map fun x=>V.ref x.2.1)∧aL K H μ (ps.map (·.2)) (qs.map (·.2.2))
 | [],ys,ps,r,e=>by
  rw [aL] at r
  cases e
  subst r
  exact ⟨[],.nil,rfl,by rw [List.map_nil,List.map_nil,aL],by rw [List.map_nil,List.map_nil,aL]⟩
 | w::us,ys,ps,r,e=>by
  rw [aL] at r
  obtain ⟨y,yr,rfl,ra,r⟩:=r
  unfold jZ at e
  split at e
  ·rename_i h;cases h
  ·rename_i k v us' h
   cases h
   split at e
   ·rename_i ks ek
    cases q:jZ us with
    | none=>rw [q] at e;cases e
    | some cs=>
     rw [q] at e
     cases (show some ((ks,v)::cs)=some ps from e)
     obtain ⟨qs,p1,p2,p3,p4⟩:=rO r q
     rw [Rep] at ra
     obtain ⟨b,zs,rfl,hb,rz⟩:=ra
     obtain ⟨z1,z2,rfl,rk,rw'⟩:=reps2 rz
     obtain ⟨kb,rfl,hkb⟩:=jl rk ek
     refine ⟨(ks,kb,z2)::qs,.cons ⟨b,rfl,hb,hkb⟩ p1,by simp [p2],?_,?_⟩
     ·rw [List.map_cons,List.map_cons,aL]
      exact ⟨_,_,rfl,by rw [Rep];exact ⟨kb,_,rfl,hkb,lg ks⟩,p3⟩
     ·rw [List.map_cons,List.map_cons,aL]
      exact ⟨_,_,rfl,rw',p4⟩
   ·cases e
  ·cases e
def vB:MC:=fun ws h Q=>match ws with
 | [w]=>(match view h w with
  | some us=>(match jZ us with
   | some ps=>(ps.map (·.1)).Nodup∧Q (.loc h.nx) (h.new (.dtt ps))
   | none=>False)
  | none=>False)
 | _=>False
theorem c_dictT (hc:X.calm=true)(hu:X.A.units+30<cLine):jE X (.type "dict") vB:=⟨_,xO hc hu,by
 intro H μ h vs ws Qw Q R r m k
 unfold vB at m
 split at m
 ·split at m
  ·split at m
   ·rename_i w _ us ev _ ps ek
    obtain ⟨v,e,rv⟩:=lH r
    obtain ⟨p,ys,ex,hs,rs⟩:=tW R rv ev
    obtain ⟨qs,p1,p2,p3,p4⟩:=rO rs ek
    subst e ex
    refine ⟨p,ys,qs,rfl,hs,p1,by rw [p2];exact m.1,fun d hd xs a1 a2 a3=>?_⟩
    have xt:=(Ex.newCell (o:=.ext (sO d xs)) R hd).ext
    have e3:(xs.map fun x=>V.ref x.2.1)=qs.map fun x=>V.ref x.2.1:=by
     have:(xs.map (·.2.1)).map V.ref=(qs.map (·.2.1)).map V.ref:=by rw [a2]
     rw [List.map_map,List.map_map] at this
     exact this
    have R1:Rel X.K (μ.put h.nx d) (upd H d (.ext (sO d xs))) (h.new (.dtt ps)):=R.newCell hd trivial ⟨xs,qs.map (·.2.2),bA,(by rw [a1,p2]),a3,by rw [e3];exact xt.s p3,xt.s p4⟩
    exact k _ _ ⟨_,.loc h.nx,_,xt,R1,by rw [Rep];exact ⟨d,rfl,Mu.put_same⟩,m.2⟩
   ·exact m.elim
  ·exact m.elim
 ·exact m.elim⟩
end
end L2
namespace L2
open PySem PySem.Spec PyProof.Rows
section
variable {prog:Program}{w:World}{A:Around}{E:Value→Shared→Prop}{s:Shared}{r l:Addr}{items:Array Value}
theorem uG {Q:List Value→Shared→Prop}(hh:A.handled=none)(hit:s.heap.IsRevIter r l ((items.size:Int) - 1))(hl:s.heap.IsList l items)(hne:l≠r)(hn:items.size≤sizeLine)
  (hQ:∀ (h':Heap) (tk:Nat) (acc':Array Value),s.heap.objs.size<h'.objs.size→(∀ b o,b≠r→s.heap.get? b=some o→h'.get? b=some o)→ItemsOf (fun i v=>items[items.size - 1 - i]?=some v) acc' items.size→Q acc'.toList { s with heap:=h',toks:=tk }):wpAny (model prog w) A (collect (.ref r)) Q E s:=by
 have lr:r<s.heap.objs.size:=by obtain ⟨_,e,_⟩:=hit;exact Heap.lt_size e
 have ll:l<s.heap.objs.size:=by obtain ⟨_,e,_⟩:=hl;exact Heap.lt_size e
 unfold collect
 refine wpAny_bind (wpAny_runValue (codeAny_builtin F.entry_proto_collect ?_))
 rw [Around.under_plainId F.plain_proto_collect _]
 show wpAny _ A.in1 (newList [] >>= fun l=>again (.builtin "list.__iadd__" ⟨[l,.ref r],[]⟩)) _ _ s
 refine wpAny_bind (wpAny_newObj_type ?_)
 refine wpAny_pure ⟨plainId_quiet F.plain_list_iadd _,codeAny_builtin F.entry_list_iadd ?_⟩
 rw [Around.under_plainId F.plain_list_iadd _]
 show wpAny _ A.in1 (Builtin.List.listExtendWith (.ref s.heap.objs.size) (.ref r) (.ref s.heap.objs.size)) _ _ _
 have hS₁ : (s.heap.push { cls:=.type "list",data:=.seq ([]:List Value).toArray }).get? s.heap.objs.size=some { cls:=.type "list",data:=.seq #[] 0 }:=Heap.get?_push_size _ rfl
 refine wU (A:=A) (R:=fun (r:Result) s'=>match r with
  | .ok (.ret v)=>wpAny (model prog w) A (match v with
   | .ref a=>do
    match (←load a).data with
    | .seq xs _=>pure xs.toList
    | _=>unsupported "internal:collect"
   | _=>unsupported "internal:collect") Q E s'
  | .ok _=>False
  | .error e=>E e s') (s:={ s with heap:=s.heap.push { cls:=.type "list",data:=.seq ([]:List Value).toArray } }) hh (hit.at fun o e=>Heap.get?_push_of_some _ e) (hl.at fun o e=>Heap.get?_push_of_some _ e) hne _ (Nat.ne_of_gt lr) (Nat.ne_of_gt ll) _ _ hS₁ (fun h' tk acc' c' hk hS' hacc=>?_) hn
 show wpAny _ A (load s.heap.objs.size >>= _) _ _ _
 refine wpAny_bind (wpAny_load hS' ?_)
 exact wpAny_pure (hQ h' tk acc' (Heap.lt_size hS') (fun b o hb e=>hk b o (Nat.ne_of_lt (Heap.lt_size e)) hb (Heap.get?_push_of_some _ e)) hacc)
theorem sV {Q₁ : Value→Shared→Prop}(hh:A.handled=none)(hit:s.heap.IsRevIter r l ((items.size:Int) - 1))(hl:s.heap.IsList l items)(hne:l≠r)(hn:items.size≤sizeLine)
  (h:∀ (h':Heap) (tk:Nat) (acc':Array Value),s.heap.objs.size<h'.objs.size→(∀ b o,b≠r→s.heap.get? b=some o→h'.get? b=some o)→ItemsOf (fun i v=>items[items.size - 1 - i]?=some v) acc' items.size→Q₁ (.ref h'.objs.size) { s with heap:=h'.push { cls:=.type "tuple",data:=.seq acc' },toks:=tk }) :
  codeAny (model prog w) A (.call (.builtin "tuple.__new__") ⟨[.type "tuple",.ref r],[]⟩) (wants Q₁ E) s:=by
 refine codeAny_of_tree ?_
 show wpAny _ A.in1 (do checkBuiltinCall "tuple.__new__" ⟨[.type "tuple",.ref r],[]⟩;again (.builtin "tuple.__new__" ⟨[.type "tuple",.ref r],[]⟩)) _ _ s
 refine wpAny_bind (wpAny_of_eq (F.newCall_tuple_1 _) (wpAny_pure ⟨plainId_quiet F.plain_tuple_new _,codeAny_builtin F.entry_tuple_new ?_⟩))
 rw [Around.under_plainId F.plain_tuple_new _]
 have hsub:=sub_tuple_self
 have hinit:=init_tuple_lookup
 have hmh:=madeHere_tuple
 have hTI:=hit.typeIs
 have hhA:A.in1.handled=none:=hh
 wp_walk using wpAny_typeOf hTI,uG hhA hit hl hne hn
 intro h' tk acc hs hm hacc
 show wpAny _ _ (Builtin.Tuple.tupleExact acc.toList.toArray >>= fun v=>ret v) _ _ _
 unfold Builtin.Tuple.tupleExact
 refine wpAny_bind (wpAny_newObj_type ?_ (by show acc.toList.toArray.size≤sizeLine;simp only [Array.toArray_toList];rw [hacc.1];exact hn))
 refine wpAny_pure ?_
 have e:acc.toList.toArray=acc:=by simp
 rw [e]
 exact h h' tk acc hs hm hacc
theorem tY {Q:Value→Shared→Prop}(hh:A.handled=none)(hit:s.heap.IsRevIter r l ((items.size:Int) - 1))(hl:s.heap.IsList l items)(hne:l≠r)(hn:items.size≤sizeLine)
  (h:∀ (h':Heap) (tk:Nat) (acc':Array Value),s.heap.objs.size<h'.objs.size→(∀ b o,b≠r→s.heap.get? b=some o→h'.get? b=some o)→ItemsOf (fun i v=>items[items.size - 1 - i]?=some v) acc' items.size→Q (.ref h'.objs.size) { s with heap:=h'.push { cls:=.type "tuple",data:=.seq acc' },toks:=tk }) :
  wpAny (model prog w) A (call (.type "tuple") [.ref r]) Q E s:=by
 refine callType_codes (Q₁:=fun obj s₁=>s₁.TypeIs obj "tuple"∧Q obj s₁) F.called_tuple (F.typeCall_tuple_1 _) F.entry_object_init
  (sV (A:=A.in1) hh hit hl hne hn fun h' tk acc hs hm hacc=>⟨⟨_,Heap.get?_push_size _ rfl,rfl⟩,h h' tk acc hs hm hacc⟩) fun obj s₁ h₁=>?_
 exact ⟨h₁.1,F.args_object_init_2 obj _,object_init_meets F.called_tuple.init.lookup F.called_tuple.made (by decide) prog w A.in1 _ s₁ ⟨h₁.1,rfl,h₁.2⟩⟩
end
section
variable {X:Cx}
def uc (me:ME):ME:=fun σ h Q=>me σ h fun x h1=>match dR h1 x with
 | some us=>Q (.tup us.reverse) h1
 | none=>False
theorem d_tupRev {e1:Expr}{me:ME}{p p' pos pos':Pos}(hc:X.calm=true)(hl:Gl X "tuple")(hlm:X.mg "tuple" = none)(hr:Gl X "reversed")(hrm:X.mg "reversed" = none)(he:DE X e1 me)
  (h1:starEach [.Call (.Name "reversed" p') [e1] [] pos'] X.env=(false,eval (.Call (.Name "reversed" p') [e1] [] pos') X.env)::starEach [] X.env:=by rfl) (hp1:(backTo pos (starEach [] X.env)).any (·.1)=false:=by rfl)
  (h2:starEach [e1] X.env=(false,eval e1 X.env)::starEach [] X.env:=by rfl) (hp2:(backTo pos' (starEach [] X.env)).any (·.1)=false:=by rfl) :
  DE X (.Call (.Name "tuple" p) [.Call (.Name "reversed" p') [e1] [] pos'] [] pos) (uc me):=by
 intro pins s σ H Q I ⟨μ,g,σw,Qw,R,S,m,q⟩
 refine wpAny_Call_Name_kw (jU I hl hlm boot_tuple ?_ (by decide) (by decide))
 refine PyProof.Rows.callWith_type1 ?_ h1 hp1
 rw [h1]
 show wpAny _ _ (spliced ((false,eval _ X.env)::backTo pos (starEach [] X.env))) _ _ s
 refine Calls.spliced_cons ?_
 refine wpAny_Call_Name_kw (jU I hr hrm boot_reversed ?_ (by decide) (by decide))
 refine PyProof.Rows.callWith_type1 ?_ h2 hp2
 rw [h2]
 show wpAny _ _ (spliced ((false,eval e1 X.env)::backTo pos' (starEach [] X.env))) _ _ s
 refine Calls.spliced_cons (thn (he pins s σ H _ I ⟨μ,g,σw,_,R,S,m,fun v H1 z=>z⟩) fun u s1 ⟨x,H1,I1,rx,μ1,wx,g1,x1,R1,r1,m1⟩=>?_)
 refine Calls.spliced_nil ?_
 dsimp only at m1
 split at m1
 ·rename_i us ev
  obtain ⟨a,xs,ex,hs,rs⟩:=dM R1 r1 ev
  subst ex
  obtain rfl:u=Value.ref a:=rx
  obtain ⟨its,r,pl,hz⟩:=I1.list hs
  have hlen:=r.length
  refine call_reversed_list pl.isList ?_
  refine Calls.spliced_nil ?_
  have la:a<s1.heap.objs.size:=by obtain ⟨_,e,_⟩:=pl.isList;exact Heap.lt_size e
  have gi:(s1.heap.push (revObj a ((its.toArray.size:Int) - 1))).IsRevIter s1.heap.objs.size a ((its.toArray.size:Int) - 1):=⟨_,Heap.get?_push_size _ rfl,rfl,rfl⟩
  refine tY (I1.ok.hd hc) gi (pl.isList.at fun o e=>Heap.get?_push_of_some _ e) (Nat.ne_of_lt la) (by rw [List.size_toArray,←hlen];exact hz) fun h' tk acc' hsz kp it=>?_
  have ea:acc'.toList=its.reverse:=by
   refine List.ext_getElem? fun j=>?_
   by_cases hj:j<its.length
   ·have hj':j<acc'.toList.length:=by rw [Array.length_toList,it.1,List.size_toArray];exact hj
    have h3:=it.2 j (acc'.toList[j]) (by rw [←Array.getElem?_toList];exact List.getElem?_eq_getElem hj')
    rw [List.getElem?_eq_getElem hj',List.getElem?_reverse hj,←h3,List.size_toArray]
    simp
   ·rw [List.getElem?_eq_none (by rw [Array.length_toList,it.1,List.size_toArray];omega),List.getElem?_eq_none (by rw [List.length_reverse];omega)]
  have kp':∀ b o,s1.heap.get? b=some o→h'.get? b=some o:=fun b o eb=>kp b o (Nat.ne_of_lt (Heap.lt_size eb)) (Heap.get?_push_of_some _ eb)
  have hge:s1.heap.objs.size≤h'.objs.size:=by
   have:(s1.heap.push (revObj a ((its.toArray.size:Int) - 1))).objs.size=s1.heap.objs.size+1:=Heap.size_push _ _
   rw [this] at hsz
   omega
  have hf:H1 h'.objs.size=none:=I1.hok.fresh hge
  refine ⟨.ref h'.objs.size,_,I1.laid (a:=h'.objs.size) (o:=.tup xs.reverse) (t':=tk) (fun b o eb=>Heap.get?_push_of_some _ (kp' b o eb)) hge (show dF X.prog X.w _ _ _ (.tup xs.reverse) from ⟨by rw [List.length_reverse];exact hz,acc'.toList,by rw [ea];exact vals_rev r,by simpa using TupO.new h' acc'⟩),rfl,?_⟩
  exact q _ _ ⟨μ1,.tup us.reverse,g1,x1.trans (Ex.laid hf).ext,R1.laid hf,.tupNew hf (vD rs),m1⟩
 ·exact m1.elim
end
end L2
namespace L2
open PySem PySem.Spec PyProof.Rows
section
variable {P:Program}{w:World}{A:Around}{E:Value→Shared→Prop}{s:Shared}
def jA (ks:List Int)(i:Int):Nat:=(ks.filter fun j=>decide (j<i)).length
theorem qd {k l:Int}(h:k<l):∀ ks:List Int,jA ks k≤jA ks l∧(k∈ks→jA ks k<jA ks l)
 | []=>⟨Nat.le_refl _,fun h=>nomatch h⟩
 | a::ks=>by
  obtain ⟨i1,i2⟩:=qd h ks
  unfold jA at *
  rw [List.filter_cons,List.filter_cons]
  by_cases c1:a<k
  ·rw [if_pos (by simpa using c1),if_pos (by simpa using Int.lt_trans c1 h),List.length_cons,List.length_cons]
   refine ⟨by omega,fun m=>?_⟩
   rcases List.mem_cons.mp m with rfl | m
   ·exact absurd c1 (Int.lt_irrefl _)
   ·have:=i2 m;omega
  ·rw [if_neg (by simpa using c1)]
   by_cases c2:a<l
   ·rw [if_pos (by simpa using c2),List.length_cons]
    exact ⟨by omega,fun _=>by omega⟩
   ·rw [if_neg (by simpa using c2)]
    refine ⟨i1,fun m=>?_⟩
    rcases List.mem_cons.mp m with rfl | m
    ·exact absurd h c2
    ·exact i2 m
theorem kY {ks:List Int}{k l:Int}(hk:k∈ks):jA ks k<jA ks l↔k<l:=by
 constructor
 ·intro h
  rcases Int.lt_trichotomy k l with c | c | c
  ·exact c
  ·rw [c] at h;exact absurd h (Nat.lt_irrefl _)
  ·have:=(qd c ks).1;omega
 ·intro h
  exact (qd h ks).2 hk
def rkI (ks:List Int):Value→Nat
 | .int i _=>jA ks i
 | _=>0
def numV:Value→Int
 | .int i _=>i
 | _=>0
theorem cmp_int {ks:List Int}:Cmp P w A s oneType' (rkI ks) (fun v=>∃ k∈ks,∃ t,v=.int k t):=by
 rintro E Q x y ⟨k,hk,t,rfl⟩ ⟨l,hl,u,rfl⟩ q
 rw [keyLt'_oneType]
 refine oneLt_int ?_
 rw [←decide_eq_decide.mpr (kY (ks:=ks) (l:=l) hk)]
 exact q
theorem pA:∀ {ks:List Int} {vs:List Value},Vals (ks.map V.int) vs→vs.map numV=ks∧∀ v∈vs,∃ k∈ks,∃ t,v=.int k t
 | [],_,h=>by cases h;exact ⟨rfl,fun _ h=>nomatch h⟩
 | k::ks,_,h=>by
  cases h with
  | cons r h=>
   obtain ⟨t,rfl⟩:=r
   obtain ⟨e,g⟩:=pA h
   refine ⟨by rw [List.map_cons,e];rfl,fun v hv=>?_⟩
   rcases List.mem_cons.mp hv with rfl | hv
   ·exact ⟨k,List.mem_cons_self,t,rfl⟩
   ·obtain ⟨l,hl,x⟩:=g v hv
    exact ⟨l,List.mem_cons_of_mem _ hl,x⟩
theorem rE:∀ {vs:List Value},(∀ v∈vs,∃ k t,v=Value.int k t)→Vals ((vs.map numV).map V.int) vs
 | [],_=>.nil
 | v::vs,h=>by
  obtain ⟨k,t,rfl⟩:=h v List.mem_cons_self
  exact .cons ⟨t,rfl⟩ (rE fun u hu=>h u (List.mem_cons_of_mem _ hu))
theorem out_int {ks:List Int}{vs:List Value}{b:Array Keyed}(p:Vals (ks.map V.int) vs)(hp:b.Perm (pairsOf vs))(hr:aX (rkI ks) b 0 vs.length) :
  ∃ ks':List Int,Vals (ks'.map V.int) (b.map (·.2)).toList∧ks'.Perm ks∧ks'.Pairwise (· < ·)∧(b.map (·.2)).toList.Perm vs:=by
 obtain ⟨ek,g⟩:=pA p
 have hl:=Array.perm_iff_toList_perm.mp hp
 have ep:(pairsOf vs).toList=vs.map fun v=>(v,v):=by
  have z:∀ l:List Value,l.zip l=l.map fun v=>(v,v):=fun l=>by
   induction l with
   | nil=>rfl
   | cons a l ih=>rw [List.zip_cons_cons,ih];rfl
  unfold pairsOf
  rw [Array.toList_zip]
  exact z vs
 rw [ep] at hl
 have same:∀ x∈b.toList,x.1=x.2∧x.2∈vs:=fun x hx=>by
  obtain ⟨v,hv,rfl⟩:=List.mem_map.mp (hl.mem_iff.mp hx)
  exact ⟨rfl,hv⟩
 have eo:(b.map (·.2)).toList=b.toList.map (·.2):=by simp
 have po:(b.toList.map (·.2)).Perm vs:=by
  have:=hl.map (·.2)
  rw [List.map_map] at this
  simpa [Function.comp_def] using this
 rw [eo]
 refine ⟨(b.toList.map (·.2)).map numV,rE fun v hv=>?_,?_,?_,po⟩
 ·obtain ⟨k,_,t,x⟩:=g v (po.mem_iff.mp hv)
  exact ⟨k,t,x⟩
 ·rw [←ek]
  exact po.map _
 ·rw [List.map_map,List.pairwise_map,List.pairwise_iff_getElem]
  intro i j hi hj hij
  have hb:b.toList.length=vs.length:=by have:=po.length_eq;simpa using this
  have hi':i<b.size:=by simpa using hi
  have hj':j<b.size:=by simpa using hj
  have:=hr i j (Nat.zero_le _) hij (by rw [←hb];exact hj)
  rw [cT hi',cT hj'] at this
  have e1:=same b[i] (by simp)
  have e2:=same b[j] (by simp)
  obtain ⟨k,hk,t,x⟩:=g b[i].2 e1.2
  obtain ⟨l,_,u,y⟩:=g b[j].2 e2.2
  rw [e1.1,e2.1,x,y] at this
  have this:jA ks k<jA ks l:=this
  rw [kY hk] at this
  show numV b.toList[i].2<numV b.toList[j].2
  rw [Array.getElem_toList,Array.getElem_toList,x,y]
  exact this
theorem rkI_map {KS:List Int}:∀ {ks:List Int} {vs:List Value},Vals (ks.map V.int) vs→vs.map (rkI KS)=ks.map (jA KS)
 | [],_,p=>by cases p;rfl
 | k::ks,_,p=>by
  cases p with
  | cons r p=>
   obtain ⟨t,rfl⟩:=r
   rw [List.map_cons,List.map_cons,rkI_map p]
   rfl
theorem rankI_nd {ks:List Int}(nd:ks.Nodup):(ks.map (jA ks)).Nodup:=by
 unfold List.Nodup
 rw [List.pairwise_map]
 refine List.Pairwise.imp_of_mem (fun {k l} hk hl ne e=>ne ?_) nd
 have n1:¬ k<l:=fun c=>by have:=(kY hk).mpr c;omega
 have n2:¬ l<k:=fun c=>by have:=(kY hl).mpr c;omega
 omega
theorem zV {KS ks:List Int}{vs:List Value}(p:Vals (ks.map V.int) vs):((pairsOf vs).toList.map fun x=>rkI KS x.1)=ks.map (jA KS):=by
 have ep:(pairsOf vs).toList.map (·.1)=vs:=by
  unfold pairsOf
  rw [Array.toList_zip,List.map_fst_zip (Nat.le_refl _)]
 rw [←rkI_map p,←ep,List.map_map,ep]
 rfl
theorem xq {a:Addr}{vs:List Value}{ks:List Int}{n:Nat}{R:Fin→Shared→Prop}(ho:s.heap.get? a=some (seqObj "list" vs.toArray n))(p:Vals (ks.map V.int) vs)(nd:ks.Nodup)(hz:vs.length≤sizeLine)
  (q:∀ (out:Array Value) (ks':List Int),Vals (ks'.map V.int) out.toList→ks'.Perm ks→ks'.Pairwise (· < ·)→out.toList.Perm vs→R (.done (.ret .none)) { s with heap:=sortedHeap s.heap a vs out }) :
  wpAny (model P w) A (Builtin.«list.sort» ⟨[.ref a],[]⟩) R E s:=by
 have la:a<s.heap.objs.size:=Heap.lt_size ho
 rw [list_sort_plain]
 refine wpAny_bind (listItems_at ho rfl (wpAny_bind (listUpdate_at ho rfl ?_ (by simpa using hz) (Nat.zero_le _))))
 obtain ⟨e1,h1⟩:∃ e1,(s.heap.update a (Obj.mapSeq fun _=>#[])).get? a=some (seqObj "list" #[] e1):=⟨_,get?_update_seq ho (fun _=>#[])⟩
 refine wpAny_bind (seqEpoch_at h1 rfl (wpAny_bind (wpAny_newTuple (wpAny_bind (wpAny_newList (wpAny_holding ?_))))))
 have h6:(((s.heap.update a (Obj.mapSeq fun _=>#[])).push (seqObj "tuple" vs.toArray 0)).push (seqObj "list" #[] 0)).get? a=some (seqObj "list" #[] e1):=Heap.get?_push_of_some _ (Heap.get?_push_of_some _ h1)
 have lk:ks.length=vs.length:=by have:=p.length;simpa using this
 show wpAny (model P w) A _ R E { s with heap:=((s.heap.update a (Obj.mapSeq fun _=>#[])).push (seqObj "tuple" vs.toArray 0)).push (seqObj "list" #[] 0) }
 dsimp only
 have size:vs.toArray.size=vs.length:=by simp
 have fin:∀ b:Array Keyed,b.Perm (pairsOf vs)→aX (rkI ks) b 0 vs.length→R (.done (.ret .none)) { s with heap:=sortedHeap s.heap a vs (b.map (·.2)) }:=fun b hp hr=>by
  obtain ⟨ks',g1,g2,g3,g4⟩:=out_int p hp hr
  exact q _ ks' g1 g2 g3 g4
 by_cases h2:vs.toArray.size<2
 ·rw [if_pos h2,if_pos h2]
  refine wpAny_bind (wpAny_pure ?_)
  rw [StateT.run_pure]
  refine wpAny_bind (wpAny_pure ?_)
  dsimp only
  refine wpAny_bind (seqEpoch_at h6 rfl (wpAny_bind (listUpdate_at h6 rfl ?_ (hsz2:=?_))))
  ·simp only [bne_self_eq_false,Bool.false_eq_true,if_false]
   refine wpAny_pure (fin (vs.toArray.zip vs.toArray) (Array.Perm.refl _) fun u v _ h3 h4=>?_)
   omega
  ·rw [Array.size_map]
   show (pairsOf vs).size≤_
   rw [pairsOf_size]
   omega
 ·rw [if_neg h2,if_neg h2]
  have kd:keyKind' vs.toArray=pure oneType':=by
   match vs,p,size,h2 with
   | [],_,_,h2=>exact absurd (by simp) h2
   | [_],_,_,h2=>exact absurd (by simp) h2
   | v1::v2::vs,p,_,_=>exact keyKind_ints (intsAre_of p)
  refine wpAny_bind (wpAny_of_eq kd (wpAny_bind ?_))
  have kk:=pA p
  have ep:(pairsOf vs).toList.map (·.1)=vs:=by
   unfold pairsOf
   rw [Array.toList_zip,List.map_fst_zip (Nat.le_refl _)]
  have ok:SOk oneType' (rkI ks) (fun v=>∃ k∈ks,∃ t,v=.int k t) (SortSt.mk' oneType' (pairsOf vs) #[] 7 none):=⟨rfl,rfl,⟨fun x hx=>kk.2 x.1 (by rw [←ep];exact List.mem_map.mpr ⟨x,hx,rfl⟩),by
   rw [zV p]
   exact rankI_nd nd⟩⟩
  have zp:(pairsOf vs).size=vs.length:=pairsOf_size _
  refine wpAny_mono (w_runs (s:={ s with heap:=((s.heap.update a (Obj.mapSeq fun _=>#[])).push (seqObj "tuple" vs.toArray 0)).push (seqObj "list" #[] 0) }) (Q:=fun _ st'=>(arrOf st').Perm (pairsOf vs)∧failedOf st'=none∧aX (rkI ks) (arrOf st') 0 vs.length) cmp_int ok rfl (by show 2≤(pairsOf vs).size;omega) fun st' g1 g2 g3=>⟨g1,g2,by rw [←zp];exact g3⟩) (fun r s' hr=>?_) fun _ _ e=>e
  ·obtain ⟨r1,st'⟩:=r
   obtain ⟨rfl,g1,g2,g3⟩:=hr
   dsimp only
   refine wpAny_bind (seqEpoch_at h6 rfl (wpAny_bind (listUpdate_at h6 rfl ?_ (hsz2:=?_))))
   ·rw [g2]
    simp only [bne_self_eq_false,Bool.false_eq_true,if_false]
    exact wpAny_pure (fin _ g1 g3)
   ·rw [Array.size_map,g1.size_eq,zp]
    omega
theorem tM {d:Addr}{es:Array DictEntry}{ep:Nat}{ks:List Int}{Q:Value→Shared→Prop}(hh:A.handled=none)(nd0:(d==sysModules)=false)(x:yc s.heap d es ep)(hz:es.size≤sizeLine)
  (p:Vals (ks.map V.int) (es.toList.map (·.key))) (nd:ks.Nodup)
  (q:∀ (h':Heap) (tk:Nat) (l:Addr) (out:Array Value) (ks':List Int) (c:Nat),(∀ b o,s.heap.get? b=some o→h'.get? b=some o)→s.heap.objs.size≤l→h'.get? l=some (seqObj "list" out c)→Vals (ks'.map V.int) out.toList→ks'.Perm ks→ks'.Pairwise (· < ·)→Q (.ref l) { s with heap:=h',toks:=tk }) :
  wpAny (model P w) A (call (.builtin "sorted") [.ref d]) Q E s:=by
 have le:(es.toList.map (·.key)).length=es.size:=by simp
 refine Calls.call_function_entry kind_sorted plain_sorted entry_sorted (args_sorted1 _) ?_
 unfold Builtin.«sorted»
 refine wpAny_bind (m:=checkCount "sorted" 1 1 _) (wpAny_pure ?_)
 refine wpAny_bind (lR hh nd0 x hz fun h1 tk k1 lt1=>wpAny_bind (wpAny_newList ?_))
 have ho:(h1.push (seqObj "list" (es.toList.map (·.key)).toArray 0)).get? h1.objs.size=some (seqObj "list" (es.toList.map (·.key)).toArray 0):=Heap.get?_push_size _ rfl
 have sz:s.heap.objs.size≤h1.objs.size:=Nat.le_of_lt lt1
 have k2:∀ b o,s.heap.get? b=some o→(h1.push (seqObj "list" (es.toList.map (·.key)).toArray 0)).get? b=some o:=fun b o hb=>Heap.get?_push_of_some _ (k1 b o hb)
 show wpAny _ _ _ _ _ { s with heap:=h1.push (seqObj "list" (es.toList.map (·.key)).toArray 0),toks:=tk }
 refine wpAny_bind (wpAny_holding (wpAny_call_entry slot_list_sort ⟨_,ho,rfl⟩ entry_list_sort (xq (s:={ s with heap:=h1.push (seqObj "list" (es.toList.map (·.key)).toArray 0),toks:=tk }) ho p nd (by rw [le];exact hz) fun out ks' g1 g2 g3 g4=>⟨_,rfl,wpAny_pure ⟨_,rfl,?_⟩⟩) (args_list_sort _)))
 obtain ⟨c,e⟩:=sortedHeap_at (a:=h1.objs.size) (vs:=es.toList.map (·.key)) (out:=out) ho
 refine q _ tk _ out ks' c (fun b o hb=>?_) sz e g1 g2 g3
 have lt:=Heap.lt_size (k1 b o hb)
 rw [sortedHeap_old (Nat.ne_of_lt lt) (Nat.lt_of_lt_of_le lt (by rw [size_push'];exact Nat.le_succ _))]
 exact k2 b o hb
end
section
variable {X:Cx}{K:PySem.W.Frag}
def wR {β : Type}(kvs:List (Key×β))(ks:List Int):Prop:=kvs.map (·.1)=ks.map Sum.inl
theorem uM {ks:List Int}:∀ {kvs:List (Key×V)} {vs:List (Key×Value)} {ks:List Int},KV kvs vs→wR kvs ks→vs.map (·.1)=ks.map Sum.inl
 | [],_,ks,.nil,e=>by
  have:ks=[]:=by cases ks with
   | nil=>rfl
   | cons a l=>simp [wR] at e
  subst this
  rfl
 | x::kvs,_,ks,.cons r t,e=>by
  cases ks with
  | nil=>simp [wR] at e
  | cons k ks=>
   unfold wR at e
   rw [List.map_cons,List.map_cons] at e
   obtain ⟨e1,e2⟩:=List.cons.inj e
   rw [List.map_cons,List.map_cons,uM (ks:=ks) t e2,←r.1,e1]
theorem rF:∀ {es:List DictEntry} {vs:List (Key×Value)} {ks:List Int},PySem.Pairs (dB X.prog X.w) es vs→vs.map (·.1)=ks.map Sum.inl→Vals (ks.map V.int) (es.map (·.key))∧es.length=vs.length
 | _,_,ks,.nil,e=>by
  have:ks=[]:=by cases ks with
   | nil=>rfl
   | cons a l=>simp at e
  subst this
  exact ⟨.nil,rfl⟩
 | _,_,ks,.cons h1 h2 t,e=>by
  cases ks with
  | nil=>simp at e
  | cons k ks=>
   rw [List.map_cons,List.map_cons] at e
   obtain ⟨e1,e2⟩:=List.cons.inj e
   obtain ⟨i1,i2⟩:=rF (ks:=ks) t e2
   refine ⟨.cons ?_ i1,by rw [List.length_cons,List.length_cons,i2]⟩
   rcases bF h1 with ⟨i,u,q1,q2⟩ | ⟨x,u,q1,q2⟩
   ·rw [e1] at q1
    injection q1 with q1
    exact ⟨u,by rw [q1];exact q2⟩
   ·rw [e1] at q1
    exact nomatch q1
theorem xQ (hc:X.calm=true):jf X (.builtin "sorted") (fun vs H Q=>∃ a kvs ks,vs=[.ref a]∧H a=some (.dK kvs)∧wR kvs ks ∧
  ∀ js:List Int,js.Perm ks→js.Pairwise (· < ·)→∀ l,H l=none→Q (.ref l) (upd H l (.lst (js.map V.int)))):=by
 intro pins s σ H vs us Q I r ⟨a,kvs,ks,ev,hx,hi,q⟩
 subst ev
 obtain ⟨u,rfl,ru⟩:=vals1 r
 cases ru
 obtain ⟨z,y,vs,rel,dd⟩:=dk_of I.hok hx
 have hl:kvs.length=vs.length:=Paired.length rel
 have kk:=uM (ks:=ks) rel hi
 obtain ⟨o,es,ep,g1,g2,g3,_,g4,g5⟩:=dd
 obtain ⟨p1,p2⟩:=rF (X:=X) g4 kk
 have pk:Vals (ks.map V.int) (es.toList.map (·.key))∧ks.Nodup∧es.size=vs.length:=by
  refine ⟨p1,?_,by rw [←p2,Array.length_toList]⟩
  rw [kk] at g5
  exact (List.pairwise_map.mp g5).imp fun h e=>h (by rw [e])
 refine tM (I.ok.hd hc) y ⟨o,g1,g2,g3⟩ (by rw [pk.2.2];omega) pk.1 pk.2.1 fun h' tk l out ks' c keep hl' e pr pm pw=>?_
 have l1:ks'.length=out.toList.length:=by have:=pr.length;simpa using this
 have l2:=pm.length_eq
 have l3:ks.length=vs.length:=by have:=congrArg List.length kk;simpa using this.symm
 exact ⟨.ref l,_,I.laid (t':=tk) keep hl' (show dF X.prog X.w _ h' _ (.lst (ks'.map V.int)) from ⟨by rw [List.length_map];omega,out.toList,c,pr,by simpa using e⟩),rfl,q ks' pm pw l (I.hok.fresh hl')⟩
def kSortI:MC:=fun ws h Q=>match ws with
 | [.loc n]=>(match h.c n with
  | some (.dct kvs)=>∃ ks:List Int,wR kvs ks∧∀ js:List Int,js.Perm ks→js.Pairwise (· < ·)→Q (.lst (js.map .int)) h
  | _=>False)
 | _=>False
theorem wH {H:Hp}{μ : Mu}:∀ {kvs:List (Key×W)} {kvv:List (Key×V)} {ks:List Int},mY K H μ kvs kvv→wR kvs ks→wR kvv ks
 | [],_,ks,.nil,e=>e
 | x::kvs,_,ks,.cons r t,e=>by
  cases ks with
  | nil=>simp [wR] at e
  | cons k ks=>
   unfold wR at e ⊢
   rw [List.map_cons,List.map_cons] at e
   obtain ⟨e1,e2⟩:=List.cons.inj e
   have:=wH (ks:=ks) t e2
   unfold wR at this
   rw [List.map_cons,List.map_cons,this,←r.1,e1]
theorem c_sortI (hc:X.calm=true):jE X (.builtin "sorted") kSortI:=⟨_,xQ hc,by
 intro H μ h vs ws Qw Q R r m k
 unfold kSortI at m
 split at m
 ·rename_i n
  split at m
  ·rename_i kvs ec
   obtain ⟨p,kvv,hp,hx,rf⟩:=R.dctAt ec
   obtain ⟨v,rfl,r1⟩:=lH r
   rw [Rep] at r1
   obtain ⟨p',rfl,hp'⟩:=r1
   have ep:p'=p:=by rw [hp] at hp';exact (Option.some.inj hp').symm
   subst ep
   obtain ⟨ks,m1,m2⟩:=m
   refine ⟨p',kvv,ks,rfl,hx,wH rf m1,fun js pj sj l hl=>?_⟩
   exact k _ _ ⟨μ,_,h,(Ex.laid hl).ext,R.laid hl,.lstNew R hl (lg js),m2 js pj sj⟩
  ·exact m.elim
 ·exact m.elim⟩
def mNewD:ME:=fun _ h Q=>Q (.loc h.nx) (h.new (.dct []))
theorem d_newD {pos:Pos}:DE X (.Dict [] [] pos) mNewD:=pe_dnewK.of fun σ H Q ⟨μ,g,σw,Qw,R,S,m,q⟩ p hp=>by
 have R1:Rel X.K (μ.put g.nx p) (upd H p (.dK [])) (g.new (.dct [])):=R.newCell hp trivial ⟨[],bA,.nil⟩
 exact q _ _ ⟨_,.loc g.nx,_,(Ex.newCell R hp).ext,R1,by rw [Rep];exact ⟨p,rfl,Mu.put_same⟩,m⟩
end
section
variable {X:Cx}{o e1 e2:Expr}{mo:ME}{ma:MA}{apos cpos:Pos}
def kGetD:MM:=fun x ws h Q=>match x,ws with
 | .loc n,[y,z]=>(match h.c n,wKey y with
  | some (.dct kvs),some k=>Q ((nZ kvs k).getD z) h
  | _,_=>False)
 | _,_=>False
def zH (h:Gh)(x:W)(P:Prop):Prop:=match x with
 | .loc n=>(match h.c n with
  | some (.dct _)=>P
  | _=>False)
 | _=>False
def mBMe (r:MM)(mo:ME)(ma:MA):ME:=fun σ h Q=>mo σ h fun x h1=>zH h1 x (ma σ h1 fun xs h2=>r x xs h2 Q)
theorem vh {K:PySem.W.Frag}{H:Hp}{μ : Mu}{k:Key}:∀ {kvs:List (Key×W)} {kvv:List (Key×V)},mY K H μ kvs kvv→(∀ w,nZ kvs k=some w→∃ v,Ac kvv k=some v∧Rep K H μ w v)∧(nZ kvs k=none→Ac kvv k=none)
 | [],_,.nil=>⟨fun w e=>by simp [nZ] at e,fun _=>rfl⟩
 | x::kvs,y::_,.cons r t=>by
  obtain ⟨i1,i2⟩:=vh (k:=k) t
  unfold nZ Ac at *
  rw [List.find?_cons,List.find?_cons]
  by_cases c:x.1=k
  ·have c2:y.1=k:=r.1.symm.trans c
   rw [decide_eq_true c]
   simp only [c2,decide_true]
   exact ⟨fun w e=>by cases e;exact ⟨_,rfl,r.2⟩,fun e=>by cases e⟩
  ·have c2:¬ y.1=k:=fun e=>c (r.1.trans e)
   rw [decide_eq_false c]
   simp only [c2,decide_false]
   exact ⟨i1,i2⟩
theorem d_getD (hu:X.A.units+30<cLine)(ho:DE X o mo)(ha:DAs X [e1,e2] ma)
  (hbase:attributeBase o "get" X.env (eval o X.env)=eval o X.env:=by rfl)
  (hfew:((backTo cpos (starEach [e1,e2] X.env)).all (fun x=>!x.1)&&(backToKw cpos (keywordEach [] X.env)).all (fun x=>x.1.isSome)
   && decide (([e1,e2]:List Expr).length+([]:List Keyword).length+(if ([]:List Keyword).isEmpty then 0 else 1)<30))=true:=by rfl)
  (hline:(apos.endLine==cpos.line)=true:=by rfl) (hst:starEach [e1,e2] X.env=(false,eval e1 X.env)::starEach [e2] X.env:=by rfl) (hplain:(backTo cpos (starEach [e2] X.env)).any (·.1)=false:=by rfl) :
  DE X (.Call (.Attribute o "get" apos) [e1,e2] [] cpos) (mBMe kGetD mo ma):=by
 intro pins s σ H Q I ⟨μ,h,σw,Qw,R,S,m,k⟩
 refine wpAny_Call_method_late hbase hfew hline rfl (thn (ho pins s σ H _ I ⟨μ,h,σw,_,R,S,m,fun _ _ z=>z⟩) fun u s1 ⟨x,H1,I1,rx,μ1,wx,h1,e1',R1,r1,il⟩=>?_)
 unfold zH at il
 dsimp only at il
 split at il
 ·rename_i n
  split at il
  ·rename_i kv0 ec0
   have r0:=r1
   rw [Rep] at r1
   obtain ⟨a,rfl,ha'⟩:=r1
   obtain rfl:u=Value.ref a:=rx
   obtain ⟨p,kvv,hp,hx,_⟩:=R1.dctAt ec0
   have ep:p=a:=by rw [ha'] at hp;exact (Option.some.inj hp).symm
   subst ep
   obtain ⟨z,y,vs0,rel0,dd0⟩:=dk_of I1.hok hx
   obtain ⟨ob,es,epo,g1,g2,_⟩:=id dd0
   refine ⟨"dict", "dict.get",PySem.F.plainAttrs_dict,PySem.F.slot_dict_get,PySem.F.type_dict_get,⟨ob,g1,g2.1⟩,fun b e=>by cases e;exact ⟨ob,g1,g2.2.1⟩,?_⟩
   have hA:=ha cpos pins s1 σ H1 _ I1 ⟨μ1,h1,σw,_,R1,S.ext e1',il,fun _ _ z=>z⟩
   rw [hst] at hA ⊢
   refine Calls.callWith_builtin (by show (false||(backTo cpos (starEach [e2] X.env)).any (·.1))=false;rw [hplain] <;> rfl) (Calls.evalArgs_plain ?_)
   refine thn hA fun us s2 ⟨ys,H2,I2,r2,μ2,ws,h2,e2',R2,rs,m2⟩=>?_
   unfold kGetD at m2
   dsimp only at m2
   split at m2
   ·rename_i n' y' z' e3
    cases e3
    split at m2
    ·rename_i kvs kk ec ek
     obtain ⟨v1,v2,rfl,ry,rz⟩:=reps2 rs
     have ev1:=oF ry ek
     subst ev1
     obtain ⟨u1,u2,rfl,ru1,ru2⟩:=vals2 r2
     obtain ⟨p2,kvv2,hp2,hx2,rf2⟩:=R2.dctAt ec
     have r0':=e2'.r _ _ r0
     rw [Rep] at r0'
     obtain ⟨a2,ea,ha2⟩:=r0'
     cases ea
     have ep2:p2=p:=by rw [ha2] at hp2;exact (Option.some.inj hp2).symm
     subst ep2
     obtain ⟨z2,hd2,vs2,rel2,dd⟩:=dk_of I2.hok hx2
     obtain ⟨t1,t2⟩:=vh (k:=kk) rf2
     refine call_meetsIn PySem.F.slot_dict_get dd.typeIs PySem.F.entry_dict_get (PySem.F.args_dict_get_3 _ _ _) (meets_dict_get_default (dB X.prog X.w) p2 (kV_is ru1) hd2 u2) ⟨_,dd.mapOf,?_⟩
     have hv:=(rel2.val kk).getD ru2
     cases ev:nZ kvs kk with
     | some wv=>
      rw [ev] at m2
      obtain ⟨v,a1,a3⟩:=t1 wv ev
      rw [a1] at hv
      exact ⟨v,H2,I2.tok _,hv,k _ _ ⟨μ2,wv,h2,e1'.trans e2',R2,a3,m2⟩⟩
     | none=>
      rw [ev] at m2
      rw [t2 ev] at hv
      exact ⟨v2,H2,I2.tok _,hv,k _ _ ⟨μ2,z',h2,e1'.trans e2',R2,rz,m2⟩⟩
    ·exact m2.elim
   ·exact m2.elim
  ·exact il.elim
 ·exact il.elim
end
end L2
namespace L2
open PySem PySem.Spec PyProof.Rows
section
variable {prog:Program}{w:World}{A:Around}{R:Result→Shared→Prop}{E:Value→Shared→Prop}{L I:Addr}{ns:List Int}{its:List Value}
end
section
variable {X:Cx}
end
end L2
namespace L2
open PySem PySem.Spec PyProof.Rows
section
variable {X:Cx}{a b o i:Expr}{ma mb:ME}{td ty:TE}{pos:Pos}
theorem jE.or {f:Value}{m1 m2:MC}(h1:jE X f m1)(h2:jE X f m2):jE X f (fun ws h Q=>m1 ws h Q∨m2 ws h Q):=by
 obtain ⟨r1,c1,s1⟩:=h1
 obtain ⟨r2,c2,s2⟩:=h2
 refine ⟨_,jf.or c1 c2,?_⟩
 intro H μ h vs ws Qw Q R r m k
 rcases m with m | m
 ·exact .inl (s1 R r m k)
 ·exact .inr (s2 R r m k)
def vJ:MC:=fun ws h Q=>qJ ws h Q∨kSortI ws h Q
theorem c_sortX (hc:X.calm=true):jE X (.builtin "sorted") vJ:=(z6 hc).or (c_sortI hc)
def kXIx:M2:=fun x y h Q=>zj x y h Q∨kDIx x y h Q
theorem pe_dgetX (hu:X.A.units+30<cLine)(ho:PE X o td)(hi:PE X i ty)(hs:NoSl i):PE X (.Subscript o i pos) (fun σ H Q=>td σ H fun x H1=>ty σ H1 fun y H2=>(∃ a xs k b p v,x=.ref a∧H2 a=some (.ext (sO a xs))∧xJ X.K H2 xs∧y=.ref b∧SqT X.K H2 b (k.map V.int)∧atKey xs k=some p∧RelV v p.2∧Q v H2)∨∃ a kvs k v,x=.ref a∧Rd H2 a (.dK kvs)∧y=kV k∧Ac kvs k=some v∧Q v H2):=by
 intro pins s σ H Q I h
 refine subD_of PySem.F.slot_dict_getitem.lookup hs (thn (ho pins s σ H _ I h) fun u s1 ⟨x,H1,I1,rx,q1⟩=>thn (hi pins s1 σ H1 _ I1 q1) fun iv s2 ⟨y,H2,I2,ry,q2⟩=>?_)
 rcases q2 with ⟨a,xs,k,b,p,v,ex,e,hk,ey,hb,l,rv,q2⟩ | ⟨a,kvs,k,v,ex,e,ey,l,q2⟩
 ·subst ex ey
  obtain rfl:u=Value.ref a:=rx
  obtain rfl:iv=Value.ref b:=ry
  obtain ⟨z,hd,dd⟩:=pB I2 e hk
  exact ⟨dd.typeIs,wpAny_getItem_heap (tupleKind_room_in1 (by omega)) (nQ I2 hb) dd l ⟨v,H2,I2.tok _,rv,q2⟩⟩
 ·subst ex ey
  obtain rfl:u=Value.ref a:=rx
  obtain ⟨z,hd,vs,rel,dd⟩:=dk_rd I2.hok e
  obtain ⟨w',hw,rw'⟩:=RelO.some_of (v:=v) (o:=valueAt vs k) (by rw [←l];exact rel.val k)
  exact ⟨dd.typeIs,wpAny_getItem_of (kV_is ry) dd.mapOf hw ⟨v,H2,I2.tok _,rw',q2⟩⟩
theorem d_xix (hu:X.A.units+30<cLine)(ha:DE X a ma)(hb:DE X b mb)(hs:NoSl b):DE X (.Subscript a b pos) (mOp kXIx ma mb):=(pe_dgetX hu ha hb hs).of fun σ H Q h=>two h fun {H2 μ2 h2 x y wx wy Qw} R r1 r2 m k=>by
 rcases m with m | m
 ·unfold zj at m
  split at m
  ·rename_i n kk e
   split at m
   ·rename_i kvs ec
    split at m
    ·rename_i w ev
     obtain ⟨p,xs,vs,hp,hx,e1,e2,r3,r4⟩:=R.dttAt ec
     rw [Rep] at r1
     obtain ⟨p',ex,hp'⟩:=r1
     have ep:p'=p:=by rw [hp] at hp';exact (Option.some.inj hp').symm
     subst ep
     obtain ⟨b',eb,hb'⟩:=jl r2 e
     obtain ⟨q,v,h3,h4,h5⟩:=(mz e1 e2 r4 kk).1 w ev
     exact .inl ⟨p',xs,kk,b',q,v,ex,hx,d9 e1 r3,eb,hb',h3,h4,k _ _ ⟨μ2,w,h2,.refl,R,h5,m⟩⟩
    ·exact m.elim
   ·exact m.elim
  ·exact m.elim
 ·unfold kDIx at m
  split at m
  ·rename_i n kk e
   split at m
   ·rename_i kvs ec
    split at m
    ·rename_i w ev
     obtain ⟨p,kvv,hp,hx,rf⟩:=R.dctAt ec
     rw [Rep] at r1
     obtain ⟨p',e1,hp'⟩:=r1
     have ep:p'=p:=by rw [hp] at hp';exact (Option.some.inj hp').symm
     subst ep
     obtain ⟨v,e2,rv⟩:=rf.val ev
     exact .inr ⟨p',kvv,kk,v,e1,.inl hx,oF r2 e,e2,k _ _ ⟨μ2,w,h2,.refl,R,rv,m⟩⟩
    ·exact m.elim
   ·exact m.elim
  ·exact m.elim
end
end L2
namespace My
set_option maxHeartbeats 4000000
open PySem L2 PyProof.Rows
def top (i:Nat):Stmt:=PySem.Challenge.pw_easelroom_k54_worths_go_along.main.body.getD i (.Pass ⟨0,0,0,0⟩)
abbrev cu:Stmt:=top 8
theorem fK:bC ["totals", "terms"] ["totals"] (aN cu):=⟨rfl,rfl,rfl,by decide +kernel,rfl,by decide +kernel,by decide +kernel⟩
abbrev dH:Stmt:=top 9
theorem jr:bC ["one", "other", "factor", "totals", "powers", "number"] ["one", "other", "factor"] (aN dH):=⟨rfl,rfl,rfl,by decide +kernel,rfl,by decide +kernel,by decide +kernel⟩
abbrev vf:Stmt:=top 10
theorem sc_plus:bC ["one", "other"] ["one", "other"] (aN vf):=⟨rfl,rfl,rfl,by decide +kernel,rfl,by decide +kernel,by decide +kernel⟩
abbrev oV:Stmt:=top 11
theorem wC:bC ["one", "other"] ["one", "other"] (aN oV):=⟨rfl,rfl,rfl,by decide +kernel,rfl,by decide +kernel,by decide +kernel⟩
abbrev kW:Stmt:=top 12
theorem qU:bC ["powers", "key", "power"] ["powers"] (aN kW):=⟨rfl,rfl,rfl,by decide +kernel,rfl,by decide +kernel,by decide +kernel⟩
abbrev gZ:Stmt:=top 13
theorem lJ:bC ["key", "letters", "powers", "taken"] ["key", "letters"] (aN gZ):=⟨rfl,rfl,rfl,by decide +kernel,rfl,by decide +kernel,by decide +kernel⟩
abbrev cL:Stmt:=top 14
theorem gw:bC ["one"] ["one"] (aN cL):=⟨rfl,rfl,rfl,by decide +kernel,rfl,by decide +kernel,by decide +kernel⟩
abbrev cJ:Stmt:=top 15
theorem gn:bC ["one", "powers", "number"] ["one"] (aN cJ):=⟨rfl,rfl,rfl,by decide +kernel,rfl,by decide +kernel,by decide +kernel⟩
abbrev pW:Stmt:=top 16
theorem wD:bC ["one", "other", "totals", "others", "key", "number", "other_key", "other_number", "place", "letters", "product", "unpacked_terms"] ["one", "other"] (aN pW):=⟨rfl,rfl,rfl,by decide +kernel,rfl,by decide +kernel,by decide +kernel⟩
abbrev cG:Stmt:=top 18
theorem gC:bC ["number", "greatest", "found", "taken"] ["number", "greatest"] (aN cG):=⟨rfl,rfl,rfl,by decide +kernel,rfl,by decide +kernel,by decide +kernel⟩
abbrev lA:Stmt:=top 19
theorem qM:bC ["one", "letter"] ["one", "letter"] (aN lA):=⟨rfl,rfl,rfl,by decide +kernel,rfl,by decide +kernel,by decide +kernel⟩
abbrev gJ:Stmt:=top 20
theorem lY:bC ["one", "numbers", "tables", "total", "powers", "number", "product", "power", "table"] ["one", "numbers"] (aN gJ):=⟨rfl,rfl,rfl,by decide +kernel,rfl,by decide +kernel,by decide +kernel⟩
abbrev kh:Stmt:=top 22
theorem sG:bC ["_law_script", "_law_k"] ["_law_script", "_law_k"] (aN kh):=⟨rfl,rfl,rfl,by decide +kernel,rfl,by decide +kernel,by decide +kernel⟩
abbrev ji:Stmt:=top 23
theorem nP:bC ["_law_script", "_law_k", "_law_many", "_law_left", "_law_free", "_law_seed", "_law_found", "_law_j", "_law_near"] ["_law_script", "_law_k", "_law_many"] (aN ji):=⟨rfl,rfl,rfl,by decide +kernel,rfl,by decide +kernel,by decide +kernel⟩
abbrev gM:Stmt:=top 24
theorem lF:bC ["_law_x"] ["_law_x"] (aN gM):=⟨rfl,rfl,rfl,by decide +kernel,rfl,by decide +kernel,by decide +kernel⟩
abbrev gQ:Stmt:=top 25
theorem mK:bC ["_law_x", "_law_letters", "_law_most", "_law_found", "_law_k"] ["_law_x", "_law_letters", "_law_most"] (aN gQ):=⟨rfl,rfl,rfl,by decide +kernel,rfl,by decide +kernel,by decide +kernel⟩
abbrev eE:Stmt:=top 26
theorem jR:bC ["_law_found"] ["_law_found"] (aN eE):=⟨rfl,rfl,rfl,by decide +kernel,rfl,by decide +kernel,by decide +kernel⟩
abbrev oN:Stmt:=top 27
theorem vo:bC ["_law_script", "_law_k", "_law_letters", "_law_many", "_law_most", "_law_found", "_law_j", "_law_x"] ["_law_script", "_law_k", "_law_letters", "_law_many", "_law_most"] (aN oN):=⟨rfl,rfl,rfl,by decide +kernel,rfl,by decide +kernel,by decide +kernel⟩
abbrev jm:Stmt:=top 28
theorem nJ:bC ["_law_one", "_law_numbers", "_law_found", "_law_powers_here", "_law_number_here", "_law_k", "_law_again"] ["_law_one", "_law_numbers"] (aN jm):=⟨rfl,rfl,rfl,by decide +kernel,rfl,by decide +kernel,by decide +kernel⟩
abbrev s_law:Stmt:=top 29
theorem sc_law:bC ["_law_script", "_law_letters", "_law_one", "_law_other", "_law_third", "_law_numbers", "_law_k", "_law_y", "_law_here", "_law_there", "_law_some", "_law_due", "_law_both"] ["_law_script"] (aN s_law):=⟨rfl,rfl,rfl,by decide +kernel,rfl,by decide +kernel,by decide +kernel⟩
def cF (E:XWK):MS:=
  (jV (aD 1))
def bM:MSp:=mFn 1 2 false fun E=>
  (cg (cO (mCB jq (au (mLC ow1 [0] (nIt (mCB vJ (au (aD 0) bw))) (fZ (mOp kNe (mOp kXIx (aD 1) (aD 0)) (mC (.int 0)))) (xW (au (aD 0) (au (mOp kXIx (aD 1) (aD 0)) bw)))) bw)) (nName 1))
  (cg (mIfS (fZ (mOp kGt (mCB kLen (au (aD 1) bw)) (mC (.int 600)))) (rT "TooMuch" E) m9)
  (cF E)))
def bH:MSp:=bM
def iB (c_sum_of_totals:MSp)(E:XWK):MS:=
  (jV (bB c_sum_of_totals E (au (aD 3) bw)))
def gB (c_sum_of_totals:MSp):MSp:=mFn 3 6 true fun E=>
  (cg (cO (mCB vB (au (aD 0) bw)) (nName 3))
  (cg (mQ (nIt (aD 1)) (jL 2 (fQ (nName 4) (fQ (nName 5) nNil))) (cO (mOp cU (mBMd zc (aD 3) (au (aD 4) (au (mC (.int 0)) bw))) (mOp nR (aD 2) (aD 5))) (nSub (aD 3) (aD 4) wL)))
  (iB c_sum_of_totals E)))
def bO:MSp:=gB bH
def r_plus (c_with_times:MSp):MSp:=mFn 2 2 false fun E=>
  (jV (bB c_with_times E (au (aD 0) (au (aD 1) (au (mC (.int 1)) bw)))))
def ou:MSp:=r_plus bO
def uy (c_with_times:MSp):MSp:=mFn 2 2 false fun E=>
  (jV (bB c_with_times E (au (aD 0) (au (aD 1) (au (mUn mNeg (mC (.int 1))) bw)))))
def mL:MSp:=uy bO
def n6 (E:XWK):MS:=
  (jV (aD 1))
def qG:MSp:=mFn 1 3 false fun E=>
  (cg (cO (mC (.int 0)) (nName 1))
  (cg (mQ (nIt (aD 0)) (nName 2) (cO (mOp cU (mOp nR (aD 1) (mC (.int 65536))) (aD 2)) (nName 1)))
  (n6 E)))
def kj:MSp:=qG
def jQ (E:XWK):MS:=
  (jV (uc (aD 2)))
def jz:MSp:=mFn 2 4 true fun E=>
  (cg (cO (ql bw) (nName 2))
  (cg (mQ (j8 (au (aD 1) bw)) (nName 3) (cg (pO (mBMr cX (aD 2) (au (mOp m6 (aD 0) (mC (.int 65536))) bw)))
  (cO (mOp yj (aD 0) (mC (.int 65536))) (nName 0))))
  (jQ E)))
def gW:MSp:=jz
def dY (c_packed:MSp):MSp:=mFn 1 1 false fun E=>
  (jV (mLC (owT 2) [] (nIt (aD 0)) mYes (xW (au (bB c_packed E (au (aD 0) bw)) (au (aD 1) bw)))))
def bU:MSp:=dY kj
def dZ:MSp:=mFn 1 3 false fun E=>
  (mQ (nIt (aD 0)) (jL 2 (fQ (nName 1) (fQ (nName 2) nNil))) (mIfS (mTru (mCB kAny (au (mLC ow1 [] (nIt (aD 1)) mYes (mOp kGt (aD 0) (mC (.int 60)))) bw))) (rT "TooMuch" E) m9))
def cH:MSp:=dZ
def qW (c_sum_of_totals c_unpacked c_packed_terms c_check_powers:MSp)(E:XWK):MS:=
  (cg (cO (mIf (mTru (aD 0)) (mCB kLen (au (mOp kIx (mOp kIx (aD 0) (mC (.int 0))) (mC (.int 0))) bw)) (mC (.int 0))) (nName 9))
  (cg (cO (bB c_sum_of_totals E (au (aD 2) bw)) (nName 10))
  (cg (cO (mCB jq (au (mLC (owT 2) [9] (nIt (aD 10)) mYes (xW (au (bB c_unpacked E (au (aD 0) (au (aD 2) bw))) (au (aD 1) bw)))) bw)) (nName 11))
  (cg (pO (bB c_check_powers E (au (aD 11) bw)))
  (jV (aD 11))))))
def qX (c_sum_of_totals c_unpacked c_packed_terms c_check_powers:MSp)(E:XWK):MS:=
  (cg (cO mNewD (nName 2))
  (cg (cO (bB c_packed_terms E (au (aD 1) bw)) (nName 3))
  (cg (mQ (nIt (bB c_packed_terms E (au (aD 0) bw))) (jL 2 (fQ (nName 4) (fQ (nName 5) nNil))) (mQ (nIt (aD 3)) (jL 2 (fQ (nName 6) (fQ (nName 7) nNil))) (cg (cO (mOp cU (aD 4) (aD 6)) (nName 8))
  (cO (mOp cU (mBMe kGetD (aD 2) (au (aD 8) (au (mC (.int 0)) bw))) (mOp nR (aD 5) (aD 7))) (nSub (aD 2) (aD 8) sSetD)))))
  (qW c_sum_of_totals c_unpacked c_packed_terms c_check_powers E))))
def sY (c_sum_of_totals c_unpacked c_packed_terms c_check_powers:MSp):MSp:=mFn 2 12 false fun E=>
  (cg (mIfS (fZ (mOp kGt (mOp nR (mCB kLen (au (aD 0) bw)) (mCB kLen (au (aD 1) bw))) (mC (.int 20000)))) (rT "TooMuch" E) m9)
  (qX c_sum_of_totals c_unpacked c_packed_terms c_check_powers E))
def cZ:MSp:=sY bH gW bU cH
def fM (E:XWK):MS:=
  (jV (aD 2))
def dO:MSp:=mFn 2 4 true fun E=>
  (cg (cO (ql (au (mC (.int 1)) bw)) (nName 2))
  (cg (mQ (j8 (au (aD 1) bw)) (nName 3) (pO (mBMr cX (aD 2) (au (mOp nR (mOp kIx (aD 2) (aD 3)) (aD 0)) bw))))
  (fM E)))
def cI:MSp:=dO
def qy:MSp:=mFn 2 2 false fun E=>
  (jV (mCB kMaxD (au (mLC (owT 2) [1] (nIt (aD 0)) mYes (mOp kIx (aD 0) (aD 2))) bw)))
def lq:MSp:=qy
def j6 (c_powers_up_to c_height:MSp)(E:XWK):MS:=
  (jV (aD 3))
def jx (c_powers_up_to c_height:MSp):MSp:=mFn 2 9 false fun E=>
  (cg (cO (mLC (owT 2) [0] (za (au (aD 1) bw)) mYes (bB c_powers_up_to E (au (aD 1) (au (bB c_height E (au (aD 2) (au (aD 0) bw))) bw)))) (nName 2))
  (cg (cO (mC (.int 0)) (nName 3))
  (cg (mQ (nIt (aD 0)) (jL 2 (fQ (nName 4) (fQ (nName 5) nNil))) (cg (cO (aD 5) (nName 6))
  (cg (mQ (nZip (au (aD 4) (au (aD 2) bw))) (jL 2 (fQ (nName 7) (fQ (nName 8) nNil))) (cO (mOp nR (aD 6) (mOp kIx (aD 8) (aD 7))) (nName 6)))
  (cO (mOp cU (aD 3) (aD 6)) (nName 3)))))
  (j6 c_powers_up_to c_height E))))
def bQ:MSp:=jx cI lq
def wO (E:XWK):MS:=
  (jV (mC (.int 0)))
def uT:MSp:=mFn 2 2 false fun E=>
  (cg (mIfS (fZ (mOp kLt (aD 1) (mCB kLen (au (aD 0) bw)))) (jV (mOp kIx (aD 0) (aD 1))) m9)
  (wO E))
def cQ:MSp:=uT
def tZ (c_l_cell:MSp)(E:XWK):MS:=
  (jV (aD 6))
def qN (c_l_cell:MSp):MSp:=mFn 3 9 true fun E=>
  (cg (cO (bB c_l_cell E (au (aD 0) (au (aD 1) bw))) (nName 3))
  (cg (cO (mOp kGt (mBits (aD 3)) (mOp nR (mC (.int 107)) (aD 2))) (nName 4))
  (cg (cO (mOp m6 (mOp cU (mOp cU (aD 3) (mOp nR (mC (.int 7919)) (aD 1))) (mC (.int 11))) (mC (.int 4294967291))) (nName 5))
  (cg (cO (ql bw) (nName 6))
  (cg (mQ (j8 (au (aD 2) bw)) (nName 7) (mIfS (mTru (aD 4)) (cg (pO (mBMr cX (aD 6) (au (mOp m6 (aD 3) (mOp kPow (mC (.int 10)) (mC (.int 32)))) bw)))
  (cO (mOp yj (aD 3) (mOp kPow (mC (.int 10)) (mC (.int 32)))) (nName 3))) (cg (cO (mOp m6 (mOp cU (mOp cU (mOp nR (aD 5) (mC (.int 69069))) (mC (.int 362437))) (mOp nR (aD 7) (aD 7))) (mC (.int 4294967291))) (nName 5))
  (cg (cO (mOp m6 (mOp nR (aD 5) (mOp cU (mOp cU (mOp yj (aD 5) (mC (.int 4096))) (aD 7)) (mC (.int 1)))) (mC (.int 999999999989))) (nName 8))
  (pO (mBMr cX (aD 6) (au (mOp m6 (mOp nR (mOp nR (aD 8) (mOp cU (aD 8) (mC (.int 7)))) (mOp cU (aD 5) (mC (.int 1)))) (mOp kPow (mC (.int 10)) (mC (.int 32)))) bw)))))))
  (tZ c_l_cell E))))))
def dj:MSp:=qN cQ
def jF:MSp:=mFn 1 1 false fun E=>
  (jV (mOp kIx (mLst (au (mOp kSub (mOp m6 (mOp yj (aD 0) (mC (.int 3))) (mC (.int 7))) (mC (.int 3))) (au (mOp kSub (mOp m6 (mOp yj (aD 0) (mC (.int 3))) (mC (.int 201))) (mC (.int 100))) (au (mOp kSub (mOp m6 (mOp yj (aD 0) (mC (.int 3))) (mOp nR (mC (.int 2)) (mOp kPow (mC (.int 10)) (mC (.int 30))))) (mOp kPow (mC (.int 10)) (mC (.int 30)))) bw)))) (mOp m6 (aD 0) (mC (.int 3)))))
def iu:MSp:=jF
def j4 (E:XWK):MS:=
  (jV (mCB jq (au (aD 3) bw)))
def jG:MSp:=mFn 3 5 true fun E=>
  (cg (cO (ql bw) (nName 3))
  (cg (mQ (j8 (au (aD 1) bw)) (nName 4) (cg (pO (mBMr cX (aD 3) (au (mOp m6 (aD 0) (mOp cU (aD 2) (mC (.int 1)))) bw)))
  (cO (mOp yj (aD 0) (mOp cU (aD 2) (mC (.int 1)))) (nName 0))))
  (j4 E)))
def iw:MSp:=jG
def iD:MSp:=mFn 1 1 false fun E=>
  (jV (mCB jq (au (mLC ow1 [0] (nIt (mCB qJ (au (aD 0) bw))) (fZ (mOp kNe (mOp zj (aD 1) (aD 0)) (mC (.int 0)))) (xW (au (aD 0) (au (mOp zj (aD 1) (aD 0)) bw)))) bw)))
def fC:MSp:=iD
def rW (c_l_draws c_l_number c_l_powers c_l_ordered:MSp)(E:XWK):MS:=
  (jV (bB c_l_ordered E (au (aD 5) bw)))
def ur (c_l_draws c_l_number c_l_powers c_l_ordered:MSp):MSp:=mFn 5 8 false fun E=>
  (cg (cO mNewT (nName 5))
  (cg (mQ (j8 (au (aD 3) bw)) (nName 6) (cg (cO (bB c_l_draws E (au (aD 0) (au (mOp cU (aD 1) (aD 6)) (au (mC (.int 2)) bw)))) (nName 7))
  (cO (bB c_l_number E (au (mOp kIx (aD 7) (mC (.int 1))) bw)) (nSub (aD 5) (bB c_l_powers E (au (mOp kIx (aD 7) (mC (.int 0))) (au (aD 2) (au (aD 4) bw)))) wL))))
  (rW c_l_draws c_l_number c_l_powers c_l_ordered E)))
def jH:MSp:=ur dj iu iw fC
def mG (E:XWK):MS:=
  (jV (aD 2))
def lU:MSp:=mFn 2 7 false fun E=>
  (cg (cO (mC (.int 0)) (nName 2))
  (cg (mQ (nIt (aD 0)) (jL 2 (fQ (nName 3) (fQ (nName 4) nNil))) (cg (mQ (j8 (au (mCB kLen (au (aD 3) bw)) bw)) (nName 5) (mQ (j8 (au (mOp kIx (aD 3) (aD 5)) bw)) (nName 6) (cO (mOp nR (aD 4) (mOp kIx (aD 1) (aD 5))) (nName 4))))
  (cO (mOp cU (aD 2) (aD 4)) (nName 2))))
  (mG E)))
def cW:MSp:=lU
def vW (c_plus c_minus c_times c_worth_at c_l_cell c_l_draws c_l_sum c_l_worth:MSp)(E:XWK):MS:=
  (jV (mOp kEq (bB c_times E (au (aD 4) (au (bB c_plus E (au (aD 2) (au (aD 3) bw))) bw))) (bB c_plus E (au (bB c_times E (au (aD 4) (au (aD 2) bw))) (au (bB c_times E (au (aD 4) (au (aD 3) bw))) bw)))))
def vV (c_plus c_minus c_times c_worth_at c_l_cell c_l_draws c_l_sum c_l_worth:MSp)(E:XWK):MS:=
  (cg (mIfS (fZ (mOp kNe (bB c_times E (au (aD 12) (au (aD 4) bw))) (bB c_times E (au (aD 2) (au (bB c_times E (au (aD 3) (au (aD 4) bw))) bw))))) (jV (mC (.bl false))) m9)
  (vW c_plus c_minus c_times c_worth_at c_l_cell c_l_draws c_l_sum c_l_worth E))
def v8 (c_plus c_minus c_times c_worth_at c_l_cell c_l_draws c_l_sum c_l_worth:MSp)(E:XWK):MS:=
  (cg (mIfS (mOr (fZ (mOp kNe (bB c_worth_at E (au (bB c_minus E (au (aD 2) (au (aD 3) bw))) (au (aD 5) bw))) (mOp kSub (aD 8) (aD 9)))) (fZ (mOp kNe (bB c_worth_at E (au (bB c_minus E (au (aD 3) (au (aD 2) bw))) (au (aD 5) bw))) (mOp kSub (aD 9) (aD 8))))) (jV (mC (.bl false))) m9)
  (vV c_plus c_minus c_times c_worth_at c_l_cell c_l_draws c_l_sum c_l_worth E))
def qC (c_plus c_minus c_times c_worth_at c_l_cell c_l_draws c_l_sum c_l_worth:MSp)(E:XWK):MS:=
  (cg (cO (bB c_times E (au (aD 2) (au (aD 3) bw))) (nName 12))
  (cg (mIfS (mOr (fZ (mOp kNe (bB c_worth_at E (au (bB c_plus E (au (aD 2) (au (aD 3) bw))) (au (aD 5) bw))) (mOp cU (aD 8) (aD 9)))) (fZ (mOp kNe (bB c_worth_at E (au (aD 12) (au (aD 5) bw))) (mOp nR (aD 8) (aD 9))))) (jV (mC (.bl false))) m9)
  (v8 c_plus c_minus c_times c_worth_at c_l_cell c_l_draws c_l_sum c_l_worth E)))
def tV (c_plus c_minus c_times c_worth_at c_l_cell c_l_draws c_l_sum c_l_worth:MSp)(E:XWK):MS:=
  (cg (cO (mCB jq (au (aD 5) bw)) (nName 5))
  (cg (cO (bB c_l_worth E (au (aD 2) (au (aD 5) bw))) (nName 8))
  (cg (cO (bB c_l_worth E (au (aD 3) (au (aD 5) bw))) (nName 9))
  (cg (mQ (nIt (mLst (au (xW (au (aD 2) (au (aD 8) bw))) (au (xW (au (aD 3) (au (aD 9) bw))) (au (xW (au (aD 4) (au (bB c_l_worth E (au (aD 4) (au (aD 5) bw))) bw))) bw))))) (jL 2 (fQ (nName 10) (fQ (nName 11) nNil))) (mIfS (fZ (mOp kNe (bB c_worth_at E (au (aD 10) (au (aD 5) bw))) (aD 11))) (jV (mC (.bl false))) m9))
  (qC c_plus c_minus c_times c_worth_at c_l_cell c_l_draws c_l_sum c_l_worth E)))))
def r_law (c_plus c_minus c_times c_worth_at c_l_cell c_l_draws c_l_sum c_l_worth:MSp):MSp:=mFn 1 13 false fun E=>
  (cg (cO (mOp m6 (bB c_l_cell E (au (aD 0) (au (mC (.int 0)) bw))) (mC (.int 9))) (nName 1))
  (cg (cO (bB c_l_sum E (au (aD 0) (au (mC (.int 12)) (au (aD 1) (au (mOp m6 (bB c_l_cell E (au (aD 0) (au (mC (.int 1)) bw))) (mC (.int 9))) (au (mC (.int 3)) bw)))))) (nName 2))
  (cg (cO (bB c_l_sum E (au (aD 0) (au (mC (.int 20)) (au (aD 1) (au (mOp m6 (bB c_l_cell E (au (aD 0) (au (mC (.int 2)) bw))) (mC (.int 9))) (au (mC (.int 3)) bw)))))) (nName 3))
  (cg (cO (bB c_l_sum E (au (aD 0) (au (mC (.int 28)) (au (aD 1) (au (mOp m6 (bB c_l_cell E (au (aD 0) (au (mC (.int 3)) bw))) (mC (.int 9))) (au (mC (.int 3)) bw)))))) (nName 4))
  (cg (cO (ql bw) (nName 5))
  (cg (mQ (j8 (au (aD 1) bw)) (nName 6) (cg (cO (mOp kIx (bB c_l_draws E (au (aD 0) (au (mOp cU (mC (.int 4)) (aD 6)) (au (mC (.int 1)) bw)))) (mC (.int 0))) (nName 7))
  (pO (mBMr cX (aD 5) (au (mOp kIx (mLst (au (mOp kSub (mOp m6 (mOp yj (aD 7) (mC (.int 2))) (mC (.int 21))) (mC (.int 10))) (au (mOp kSub (mOp m6 (mOp yj (aD 7) (mC (.int 2))) (mOp nR (mC (.int 2)) (mOp kPow (mC (.int 10)) (mC (.int 10))))) (mOp kPow (mC (.int 10)) (mC (.int 10)))) bw))) (mOp m6 (aD 7) (mC (.int 2)))) bw)))))
  (tV c_plus c_minus c_times c_worth_at c_l_cell c_l_draws c_l_sum c_l_worth E)))))))
def m_law:MSp:=r_law ou mL cZ bQ cQ dj jH cW
structure Ad where
 f_sum_of_totals:Addr
 d_sum_of_totals:FuncData
 f_with_times:Addr
 d_with_times:FuncData
 f_plus:Addr
 d_plus:FuncData
 f_minus:Addr
 d_minus:FuncData
 f_packed:Addr
 d_packed:FuncData
 f_unpacked:Addr
 d_unpacked:FuncData
 f_packed_terms:Addr
 d_packed_terms:FuncData
 f_check_powers:Addr
 d_check_powers:FuncData
 f_times:Addr
 d_times:FuncData
 f_powers_up_to:Addr
 d_powers_up_to:FuncData
 f_height:Addr
 d_height:FuncData
 f_worth_at:Addr
 d_worth_at:FuncData
 f_l_cell:Addr
 d_l_cell:FuncData
 f_l_draws:Addr
 d_l_draws:FuncData
 f_l_number:Addr
 d_l_number:FuncData
 f_l_powers:Addr
 d_l_powers:FuncData
 f_l_ordered:Addr
 d_l_ordered:FuncData
 f_l_sum:Addr
 d_l_sum:FuncData
 f_l_worth:Addr
 d_l_worth:FuncData
 f_law:Addr
 d_law:FuncData
 a_MOST_TERMS:Tok
 a_MOST_POWER:Tok
 a_MOST_PAIRS:Tok
 a_FIELD:Tok
structure Txt (K:PySem.W.Frag) (mg:Str→Option Value) (t:Ad):Prop where
 F_sum_of_totals:Fun K "sum_of_totals" "sum_of_totals" cu t.f_sum_of_totals t.d_sum_of_totals
 bH:mg "sum_of_totals" = some (.ref t.f_sum_of_totals)
 b_sum_of_totals:Binds K t.d_sum_of_totals ["totals"] []
 F_with_times:Fun K "with_times" "with_times" dH t.f_with_times t.d_with_times
 bO:mg "with_times" = some (.ref t.f_with_times)
 b_with_times:Binds K t.d_with_times ["one", "other", "factor"] []
 F_plus:Fun K "plus" "plus" vf t.f_plus t.d_plus
 ou:mg "plus" = some (.ref t.f_plus)
 b_plus:Binds K t.d_plus ["one", "other"] []
 F_minus:Fun K "minus" "minus" oV t.f_minus t.d_minus
 mL:mg "minus" = some (.ref t.f_minus)
 b_minus:Binds K t.d_minus ["one", "other"] []
 F_packed:Fun K "packed" "packed" kW t.f_packed t.d_packed
 kj:mg "packed" = some (.ref t.f_packed)
 b_packed:Binds K t.d_packed ["powers"] []
 F_unpacked:Fun K "unpacked" "unpacked" gZ t.f_unpacked t.d_unpacked
 gW:mg "unpacked" = some (.ref t.f_unpacked)
 b_unpacked:Binds K t.d_unpacked ["key", "letters"] []
 F_packed_terms:Fun K "packed_terms" "packed_terms" cL t.f_packed_terms t.d_packed_terms
 bU:mg "packed_terms" = some (.ref t.f_packed_terms)
 b_packed_terms:Binds K t.d_packed_terms ["one"] []
 F_check_powers:Fun K "check_powers" "check_powers" cJ t.f_check_powers t.d_check_powers
 cH:mg "check_powers" = some (.ref t.f_check_powers)
 b_check_powers:Binds K t.d_check_powers ["one"] []
 F_times:Fun K "times" "times" pW t.f_times t.d_times
 cZ:mg "times" = some (.ref t.f_times)
 b_times:Binds K t.d_times ["one", "other"] []
 F_powers_up_to:Fun K "powers_up_to" "powers_up_to" cG t.f_powers_up_to t.d_powers_up_to
 cI:mg "powers_up_to" = some (.ref t.f_powers_up_to)
 b_powers_up_to:Binds K t.d_powers_up_to ["number", "greatest"] []
 F_height:Fun K "height" "height" lA t.f_height t.d_height
 lq:mg "height" = some (.ref t.f_height)
 b_height:Binds K t.d_height ["one", "letter"] []
 F_worth_at:Fun K "worth_at" "worth_at" gJ t.f_worth_at t.d_worth_at
 bQ:mg "worth_at" = some (.ref t.f_worth_at)
 b_worth_at:Binds K t.d_worth_at ["one", "numbers"] []
 F_l_cell:Fun K "_law_cell" "_law_cell" kh t.f_l_cell t.d_l_cell
 cQ:mg "_law_cell" = some (.ref t.f_l_cell)
 b_l_cell:Binds K t.d_l_cell ["_law_script", "_law_k"] []
 F_l_draws:Fun K "_law_draws" "_law_draws" ji t.f_l_draws t.d_l_draws
 dj:mg "_law_draws" = some (.ref t.f_l_draws)
 b_l_draws:Binds K t.d_l_draws ["_law_script", "_law_k", "_law_many"] []
 F_l_number:Fun K "_law_number" "_law_number" gM t.f_l_number t.d_l_number
 iu:mg "_law_number" = some (.ref t.f_l_number)
 b_l_number:Binds K t.d_l_number ["_law_x"] []
 F_l_powers:Fun K "_law_powers" "_law_powers" gQ t.f_l_powers t.d_l_powers
 iw:mg "_law_powers" = some (.ref t.f_l_powers)
 b_l_powers:Binds K t.d_l_powers ["_law_x", "_law_letters", "_law_most"] []
 F_l_ordered:Fun K "_law_ordered" "_law_ordered" eE t.f_l_ordered t.d_l_ordered
 fC:mg "_law_ordered" = some (.ref t.f_l_ordered)
 b_l_ordered:Binds K t.d_l_ordered ["_law_found"] []
 F_l_sum:Fun K "_law_sum" "_law_sum" oN t.f_l_sum t.d_l_sum
 jH:mg "_law_sum" = some (.ref t.f_l_sum)
 b_l_sum:Binds K t.d_l_sum ["_law_script", "_law_k", "_law_letters", "_law_many", "_law_most"] []
 F_l_worth:Fun K "_law_worth" "_law_worth" jm t.f_l_worth t.d_l_worth
 cW:mg "_law_worth" = some (.ref t.f_l_worth)
 b_l_worth:Binds K t.d_l_worth ["_law_one", "_law_numbers"] []
 F_law:Fun K "law" "law" s_law t.f_law t.d_law
 m_law:mg "law" = some (.ref t.f_law)
 b_law:Binds K t.d_law ["_law_script"] []
 z_any:mg "any" = none
 z_dict:mg "dict" = none
 z_enumerate:mg "enumerate" = none
 z_len:mg "len" = none
 z_max:mg "max" = none
 z_range:mg "range" = none
 z_reversed:mg "reversed" = none
 z_sorted:mg "sorted" = none
 z_tuple:mg "tuple" = none
 z_zip:mg "zip" = none
 g_MOST_TERMS:mg "MOST_TERMS" = some (.int 600 t.a_MOST_TERMS)
 g_MOST_POWER:mg "MOST_POWER" = some (.int 60 t.a_MOST_POWER)
 g_MOST_PAIRS:mg "MOST_PAIRS" = some (.int 20000 t.a_MOST_PAIRS)
 g_FIELD:mg "FIELD" = some (.int 65536 t.a_FIELD)
section
variable {P:Program}{w:World}{K:PySem.W.Frag}{mg:Str→Option Value}{base:Heap}{t:Ad}
theorem fL (T:Txt K mg t):fD P w K mg base CX0 10 t.f_sum_of_totals t.d_sum_of_totals ["totals"] (lift K bH):=by
 have nd:=fK.nd
 refine nY (k:=9) T.F_sum_of_totals fK fun cdv A outer s H E hr=>?_
 have hc:=hr.calm (by decide)
 refine aC ?_ ?_
 ·exact (aU (i:=1) nd (by rfl) (by exact Or.inl rfl) (gK lZ (by rfl) (by exact T.z_tuple) boot_tuple (ak (d_lc [0] hc (dN (by rfl)) own_1 (pgo_1 (dN (by rfl))) (dG (fG (c_sortX hc) (by rfl) (by exact T.z_sorted) PyProof.Rows.boot_sorted (ak (dv 0 (pv 0)) aB (aj (by rfl))) (by decide) (by decide) (aj (by rfl)) (aA (by rfl)))) (fun _ _ _ _=>(zB (fJ (o_ne (oM hr)) (d_xix (oM hr) (dv 1 (pv 1)) (dv 0 (pv 0)) (by intro _ _;rfl)) aP (cY _)))) (fun _ _ _ _=>(m7 (ak (dv 0 (pv 0)) (ak (d_xix (oM hr) (dv 1 (pv 1)) (dv 0 (pv 0)) (by intro _ _;rfl)) aB (aj (by rfl))) (aj (by rfl)))))) aB (aj (by rfl))) (by decide) (by decide) (aj (by rfl)) (aA (by rfl))))
 refine aC ?_ ?_
 ·exact (nj (fJ o_gt (fG wV (by rfl) (by exact T.z_len) PySem.boot_len (ak (dv 1 (pv 1)) aB (aj (by rfl))) (by decide) (by decide) (aj (by rfl)) (aA (by rfl))) (dc (v:=.int 600) (jJ (by rfl) T.g_MOST_TERMS ⟨_,rfl⟩) (fun _ _=>repI)) (cY _)) (aH pJ) eU)
 refine aH ?_
 exact (bJ (dv 1 (pv 1)))
theorem jc (T:Txt K mg t):fD P w K mg base CX0 11 t.f_with_times t.d_with_times ["one", "other", "factor"] (lift K bO):=by
 have nd:=jr.nd
 refine nY (k:=10) T.F_with_times jr fun cdv A outer s H E hr=>?_
 have hc:=hr.calm (by decide)
 refine aC ?_ ?_
 ·exact (aU (i:=3) nd (by rfl) (by exact Or.inl rfl) (gK (c_dictT hc (oM hr)) (by rfl) (by exact T.z_dict) boot_dict (ak (dv 0 (pv 0)) aB (aj (by rfl))) (by decide) (by decide) (aj (by rfl)) (aA (by rfl))))
 refine aC ?_ ?_
 ·exact (cA PassesOwn.never hc (dG (dv 1 (pv 1))) (eX hc (bD (aZ (aW (i:=4) nd (by rfl) (by exact Or.inl rfl))) (bD (aZ (aW (i:=5) nd (by rfl) (by exact Or.inl rfl))) eH))) (aH (ds_asg (bK cj (d_getT (oM hr) (dv 3 (pv 3)) (ak (dv 4 (pv 4)) (ak aP aB (aj (by rfl))) (aj (by rfl))) (by rfl) (few_2 (by rfl) (by rfl)) (by rfl) (aj (by rfl)) (aA (by rfl))) (bK gG (dv 2 (pv 2)) (dv 5 (pv 5)))) (yV (dv 3 (pv 3)) (dv 4 (pv 4)) (rZ (oM hr)) uW))))
 refine aH ?_
 exact (bJ (aR ((fL T).mono (by decide)) hr (by rfl) (by exact T.bH) (by exact T.F_sum_of_totals.kp) (by exact T.b_sum_of_totals) (ak (dv 3 (pv 3)) aB (aj (by rfl))) (by decide) (aj (by rfl)) (aA (by rfl))))
theorem uE (T:Txt K mg t):fD P w K mg base CX0 12 t.f_plus t.d_plus ["one", "other"] (lift K ou):=by
 have nd:=sc_plus.nd
 refine nY (k:=11) T.F_plus sc_plus fun cdv A outer s H E hr=>?_
 have hc:=hr.calm (by decide)
 refine aH ?_
 exact (bJ (aR ((jc T).mono (by decide)) hr (by rfl) (by exact T.bO) (by exact T.F_with_times.kp) (by exact T.b_with_times) (ak (dv 0 (pv 0)) (ak (dv 1 (pv 1)) (ak aP aB (aj (by rfl))) (aj (by rfl))) (aj (by rfl))) (by decide) (aj (by rfl)) (aA (by rfl))))
theorem u5 (T:Txt K mg t):fD P w K mg base CX0 12 t.f_minus t.d_minus ["one", "other"] (lift K mL):=by
 have nd:=wC.nd
 refine nY (k:=11) T.F_minus wC fun cdv A outer s H E hr=>?_
 have hc:=hr.calm (by decide)
 refine aH ?_
 exact (bJ (aR ((jc T).mono (by decide)) hr (by rfl) (by exact T.bO) (by exact T.F_with_times.kp) (by exact T.b_with_times) (ak (dv 0 (pv 0)) (ak (dv 1 (pv 1)) (ak (d_neg aP) aB (aj (by rfl))) (aj (by rfl))) (aj (by rfl))) (by decide) (aj (by rfl)) (aA (by rfl))))
theorem ok_packed (T:Txt K mg t):fD P w K mg base CX0 10 t.f_packed t.d_packed ["powers"] (lift K kj):=by
 have nd:=qU.nd
 refine nY (k:=9) T.F_packed qU fun cdv A outer s H E hr=>?_
 have hc:=hr.calm (by decide)
 refine aC ?_ ?_
 ·exact (aU (i:=1) nd (by rfl) (by exact Or.inl rfl) aP)
 refine aC ?_ ?_
 ·exact (cA PassesOwn.never hc (dG (dv 0 (pv 0))) (aZ (aW (i:=2) nd (by rfl) (by exact Or.inl rfl))) (aH (aU (i:=1) nd (by rfl) (by exact Or.inl rfl) (bK cj (bK gG (dv 1 (pv 1)) (dc (v:=.int 65536) (jJ (by rfl) T.g_FIELD ⟨_,rfl⟩) (fun _ _=>repI))) (dv 2 (pv 2))))))
 refine aH ?_
 exact (bJ (dv 1 (pv 1)))
theorem ud (T:Txt K mg t):fD P w K mg base CX0 10 t.f_unpacked t.d_unpacked ["key", "letters"] (lift K gW):=by
 have nd:=lJ.nd
 refine nY (k:=9) T.F_unpacked lJ fun cdv A outer s H E hr=>?_
 have hc:=hr.calm (by decide)
 refine aC ?_ ?_
 ·exact (aU (i:=2) nd (by rfl) (by exact Or.inl rfl) (rD aB))
 refine aC ?_ ?_
 ·exact (cA PassesOwn.never hc (cN (by rfl) (by exact T.z_range) (ak (dv 1 (pv 1)) aB (aj (by rfl))) (jj (by rfl))) (aZ (aW (i:=3) nd (by rfl) (by exact Or.inl rfl))) (aC (iU (gR (dv 2 (pv 2)) (ak (bK fV (dv 0 (pv 0)) (dc (v:=.int 65536) (jJ (by rfl) T.g_FIELD ⟨_,rfl⟩) (fun _ _=>repI))) aB (aj (by rfl))) (by rfl) (wK (by rfl)) (by rfl) (aj (by rfl)) (by rfl)))
  (aH (aU (i:=0) nd (by rfl) (by exact Or.inl rfl) (bK pQ (dv 0 (pv 0)) (dc (v:=.int 65536) (jJ (by rfl) T.g_FIELD ⟨_,rfl⟩) (fun _ _=>repI)))))))
 refine aH ?_
 exact (bJ (d_tupRev hc (by rfl) (by exact T.z_tuple) (by rfl) (by exact T.z_reversed) (dv 2 (pv 2)) (aj (by rfl)) (aA (by rfl)) (aj (by rfl)) (aA (by rfl))))
theorem gj (T:Txt K mg t):fD P w K mg base CX0 11 t.f_packed_terms t.d_packed_terms ["one"] (lift K bU):=by
 have nd:=gw.nd
 refine nY (k:=10) T.F_packed_terms gw fun cdv A outer s H E hr=>?_
 have hc:=hr.calm (by decide)
 refine aH ?_
 exact (bJ (d_lc [] hc (dN (by rfl)) own_T (pgo_2 hc (dN (by rfl))) (dG (dv 0 (pv 0))) (fun _ _ _ _=>mW) (fun _ _ _ _=>(m7 (ak (aR ((ok_packed T).mono (by decide)) hr (by rfl) (by exact T.kj) (by exact T.F_packed.kp) (by exact T.b_packed) (ak (dv 0 (pv 0)) aB (aj (by rfl))) (by decide) (aj (by rfl)) (aA (by rfl))) (ak (dv 1 (pv 1)) aB (aj (by rfl))) (aj (by rfl)))))))
theorem mH (T:Txt K mg t):fD P w K mg base CX0 10 t.f_check_powers t.d_check_powers ["one"] (lift K cH):=by
 have nd:=gn.nd
 refine nY (k:=9) T.F_check_powers gn fun cdv A outer s H E hr=>?_
 have hc:=hr.calm (by decide)
 refine aH ?_
 exact (cA PassesOwn.never hc (dG (dv 0 (pv 0))) (eX hc (bD (aZ (aW (i:=1) nd (by rfl) (by exact Or.inl rfl))) (bD (aZ (aW (i:=2) nd (by rfl) (by exact Or.inl rfl))) eH))) (aH (nj (yO (fG (c_any hc) (by rfl) (by exact T.z_any) boot_any (ak (d_lc [] hc (dN (by rfl)) own_1 (pgo_1 (dN (by rfl))) (dG (dv 1 (pv 1))) (fun _ _ _ _=>mW) (fun _ _ _ _=>(d_cmp o_gt (dv 0 (pv 0)) (dc (v:=.int 60) (jJ (by rfl) T.g_MOST_POWER ⟨_,rfl⟩) (fun _ _=>repI)) (cY _)))) aB (aj (by rfl))) (by decide) (by decide) (aj (by rfl)) (aA (by rfl)))) (aH pJ) eU)))
theorem eF (T:Txt K mg t):fD P w K mg base CX0 12 t.f_times t.d_times ["one", "other"] (lift K cZ):=by
 have nd:=wD.nd
 refine nY (k:=11) T.F_times wD fun cdv A outer s H E hr=>?_
 have hc:=hr.calm (by decide)
 refine aC ?_ ?_
 ·exact (nj (fJ o_gt (bK gG (fG wV (by rfl) (by exact T.z_len) PySem.boot_len (ak (dv 0 (pv 0)) aB (aj (by rfl))) (by decide) (by decide) (aj (by rfl)) (aA (by rfl))) (fG wV (by rfl) (by exact T.z_len) PySem.boot_len (ak (dv 1 (pv 1)) aB (aj (by rfl))) (by decide) (by decide) (aj (by rfl)) (aA (by rfl)))) (dc (v:=.int 20000) (jJ (by rfl) T.g_MOST_PAIRS ⟨_,rfl⟩) (fun _ _=>repI)) (cY _)) (aH pJ) eU)
 refine aC ?_ ?_
 ·first
  | (with_reducible exact (aU (hs:=by with_unfolding_all rfl) (hf:=by with_unfolding_all first | exact .inl rfl | exact .inr rfl) (i:=2) (by with_unfolding_all exact nd) (by with_unfolding_all rfl) (by with_unfolding_all exact Or.inl rfl) d_newD))
  | (exact (aU (i:=2) nd (by rfl) (by exact Or.inl rfl) d_newD))
 refine aC ?_ ?_
 ·exact (aU (i:=3) nd (by rfl) (by exact Or.inl rfl) (aR ((gj T).mono (by decide)) hr (by rfl) (by exact T.bU) (by exact T.F_packed_terms.kp) (by exact T.b_packed_terms) (ak (dv 1 (pv 1)) aB (aj (by rfl))) (by decide) (aj (by rfl)) (aA (by rfl))))
 refine aC ?_ ?_
 ·exact (cA PassesOwn.never hc (dG (aR ((gj T).mono (by decide)) hr (by rfl) (by exact T.bU) (by exact T.F_packed_terms.kp) (by exact T.b_packed_terms) (ak (dv 0 (pv 0)) aB (aj (by rfl))) (by decide) (aj (by rfl)) (aA (by rfl)))) (eX hc (bD (aZ (aW (i:=4) nd (by rfl) (by exact Or.inl rfl))) (bD (aZ (aW (i:=5) nd (by rfl) (by exact Or.inl rfl))) eH))) (aH (cA PassesOwn.never hc (dG (dv 3 (pv 3))) (eX hc (bD (aZ (aW (i:=6) nd (by rfl) (by exact Or.inl rfl))) (bD (aZ (aW (i:=7) nd (by rfl) (by exact Or.inl rfl))) eH))) (aC (aU (i:=8) nd (by rfl) (by exact Or.inl rfl) (bK cj (dv 4 (pv 4)) (dv 6 (pv 6))))
  (aH (ds_asg (bK cj (d_getD (oM hr) (dv 2 (pv 2)) (ak (dv 8 (pv 8)) (ak aP aB (aj (by rfl))) (aj (by rfl))) (by rfl) (few_2 (by rfl) (by rfl)) (by rfl) (aj (by rfl)) (aA (by rfl))) (bK gG (dv 5 (pv 5)) (dv 7 (pv 7)))) (yV (dv 2 (pv 2)) (dv 8 (pv 8)) set_dict sim_setD)))))))
 refine aC ?_ ?_
 ·exact (aU (i:=9) nd (by rfl) (by exact Or.inr rfl) (d_if (yO (dv 0 (pv 0))) (fG wV (by rfl) (by exact T.z_len) PySem.boot_len (ak (wI (wI (dv 0 (pv 0)) aP (by intro _ _;rfl)) aP (by intro _ _;rfl)) aB (aj (by rfl))) (by decide) (by decide) (aj (by rfl)) (aA (by rfl))) aP))
 refine aC ?_ ?_
 ·exact (aU (i:=10) nd (by rfl) (by exact Or.inl rfl) (aR ((fL T).mono (by decide)) hr (by rfl) (by exact T.bH) (by exact T.F_sum_of_totals.kp) (by exact T.b_sum_of_totals) (ak (dv 2 (pv 2)) aB (aj (by rfl))) (by decide) (aj (by rfl)) (aA (by rfl))))
 refine aC ?_ ?_
 ·exact (aU (i:=11) nd (by rfl) (by exact Or.inl rfl) (gK lZ (by rfl) (by exact T.z_tuple) boot_tuple (ak (d_lc [9] hc (dN (by rfl)) own_T (pgo_2 hc (dN (by rfl))) (dG (dv 10 (pv 10))) (fun _ _ _ _=>mW) (fun _ _ _ _=>(m7 (ak (aR ((ud T).mono (by decide)) hr (by rfl) (by exact T.gW) (by exact T.F_unpacked.kp) (by exact T.b_unpacked) (ak (dv 0 (pv 0)) (ak (dv 2 (pv 2)) aB (aj (by rfl))) (aj (by rfl))) (by decide) (aj (by rfl)) (aA (by rfl))) (ak (dv 1 (pv 1)) aB (aj (by rfl))) (aj (by rfl)))))) aB (aj (by rfl))) (by decide) (by decide) (aj (by rfl)) (aA (by rfl))))
 refine aC ?_ ?_
 ·exact (iU (aR ((mH T).mono (by decide)) hr (by rfl) (by exact T.cH) (by exact T.F_check_powers.kp) (by exact T.b_check_powers) (ak (dv 11 (pv 11)) aB (aj (by rfl))) (by decide) (aj (by rfl)) (aA (by rfl))))
 refine aH ?_
 exact (bJ (dv 11 (pv 11)))
theorem mO (T:Txt K mg t):fD P w K mg base CX0 10 t.f_powers_up_to t.d_powers_up_to ["number", "greatest"] (lift K cI):=by
 have nd:=gC.nd
 refine nY (k:=9) T.F_powers_up_to gC fun cdv A outer s H E hr=>?_
 have hc:=hr.calm (by decide)
 refine aC ?_ ?_
 ·exact (aU (i:=2) nd (by rfl) (by exact Or.inl rfl) (rD (ak aP aB (aj (by rfl)))))
 refine aC ?_ ?_
 ·exact (cA PassesOwn.never hc (cN (by rfl) (by exact T.z_range) (ak (dv 1 (pv 1)) aB (aj (by rfl))) (jj (by rfl))) (aZ (aW (i:=3) nd (by rfl) (by exact Or.inl rfl))) (aH (iU (gR (dv 2 (pv 2)) (ak (bK gG (wI (dv 2 (pv 2)) (dv 3 (pv 3)) (by intro _ _;rfl)) (dv 0 (pv 0))) aB (aj (by rfl))) (by rfl) (wK (by rfl)) (by rfl) (aj (by rfl)) (by rfl)))))
 refine aH ?_
 exact (bJ (dv 2 (pv 2)))
theorem ok_height (T:Txt K mg t):fD P w K mg base CX0 10 t.f_height t.d_height ["one", "letter"] (lift K lq):=by
 have nd:=qM.nd
 refine nY (k:=9) T.F_height qM fun cdv A outer s H E hr=>?_
 have hc:=hr.calm (by decide)
 refine aH ?_
 exact (bJ (d_maxD hc (by rfl) (by exact T.z_max) boot_max (ak (d_lc [1] hc (dN (by rfl)) own_T (pgo_2 hc (dN (by rfl))) (dG (dv 0 (pv 0))) (fun _ _ _ _=>mW) (fun _ _ _ _=>(wI (dv 0 (pv 0)) (dv 2 (pv 2)) (by intro _ _;rfl)))) aB (aj (by rfl))) (by decide) (by decide) (aj (by rfl))))
theorem cC (T:Txt K mg t):fD P w K mg base CX0 11 t.f_worth_at t.d_worth_at ["one", "numbers"] (lift K bQ):=by
 have nd:=lY.nd
 refine nY (k:=10) T.F_worth_at lY fun cdv A outer s H E hr=>?_
 have hc:=hr.calm (by decide)
 refine aC ?_ ?_
 ·exact (ds_lc [0] (i:=2) nd (by rfl) (by exact Or.inl rfl) hc (dN (by rfl)) own_T (pgo_2 hc (dN (by rfl))) (di_enumT (by rfl) (by exact T.z_enumerate) (ak (dv 1 (pv 1)) aB (aj (by rfl))) (aj (by rfl)) (aA (by rfl))) (fun _ _ _ _=>mW) (fun _ _ _ _=>(aR ((mO T).mono (by decide)) hr (by rfl) (by exact T.cI) (by exact T.F_powers_up_to.kp) (by exact T.b_powers_up_to) (ak (dv 1 (pv 1)) (ak (aR ((ok_height T).mono (by decide)) hr (by rfl) (by exact T.lq) (by exact T.F_height.kp) (by exact T.b_height) (ak (dv 2 (pv 2)) (ak (dv 0 (pv 0)) aB (aj (by rfl))) (aj (by rfl))) (by decide) (aj (by rfl)) (aA (by rfl))) aB (aj (by rfl))) (aj (by rfl))) (by decide) (aj (by rfl)) (aA (by rfl)))))
 refine aC ?_ ?_
 ·exact (aU (i:=3) nd (by rfl) (by exact Or.inl rfl) aP)
 refine aC ?_ ?_
 ·exact (cA PassesOwn.never hc (dG (dv 0 (pv 0))) (eX hc (bD (aZ (aW (i:=4) nd (by rfl) (by exact Or.inl rfl))) (bD (aZ (aW (i:=5) nd (by rfl) (by exact Or.inl rfl))) eH))) (aC (aU (i:=6) nd (by rfl) (by exact Or.inl rfl) (dv 5 (pv 5)))
  (aC (cA PassesOwn.never hc (di_zip (by rfl) (by exact T.z_zip) (ak (dv 4 (pv 4)) (ak (dv 2 (pv 2)) aB (aj (by rfl))) (aj (by rfl))) (aj (by rfl)) (aA (by rfl))) (eX hc (bD (aZ (aW (i:=7) nd (by rfl) (by exact Or.inl rfl))) (bD (aZ (aW (i:=8) nd (by rfl) (by exact Or.inl rfl))) eH))) (aH (aU (i:=6) nd (by rfl) (by exact Or.inl rfl) (bK gG (dv 6 (pv 6)) (wI (dv 8 (pv 8)) (dv 7 (pv 7)) (by intro _ _;rfl))))))
  (aH (aU (i:=3) nd (by rfl) (by exact Or.inl rfl) (bK cj (dv 3 (pv 3)) (dv 6 (pv 6))))))))
 refine aH ?_
 exact (bJ (dv 3 (pv 3)))
theorem gF (T:Txt K mg t):fD P w K mg base CX0 10 t.f_l_cell t.d_l_cell ["_law_script", "_law_k"] (lift K cQ):=by
 have nd:=sG.nd
 refine nY (k:=9) T.F_l_cell sG fun cdv A outer s H E hr=>?_
 have hc:=hr.calm (by decide)
 refine aC ?_ ?_
 ·exact (nj (fJ o_lt (dv 1 (pv 1)) (fG wV (by rfl) (by exact T.z_len) PySem.boot_len (ak (dv 0 (pv 0)) aB (aj (by rfl))) (by decide) (by decide) (aj (by rfl)) (aA (by rfl))) (cY _)) (aH (bJ (wI (dv 0 (pv 0)) (dv 1 (pv 1)) (by intro _ _;rfl)))) eU)
 refine aH ?_
 exact (bJ aP)
theorem oh (T:Txt K mg t):fD P w K mg base CX0 11 t.f_l_draws t.d_l_draws ["_law_script", "_law_k", "_law_many"] (lift K dj):=by
 have nd:=nP.nd
 refine nY (k:=10) T.F_l_draws nP fun cdv A outer s H E hr=>?_
 have hc:=hr.calm (by decide)
 refine aC ?_ ?_
 ·exact (aU (i:=3) nd (by rfl) (by exact Or.inl rfl) (aR ((gF T).mono (by decide)) hr (by rfl) (by exact T.cQ) (by exact T.F_l_cell.kp) (by exact T.b_l_cell) (ak (dv 0 (pv 0)) (ak (dv 1 (pv 1)) aB (aj (by rfl))) (aj (by rfl))) (by decide) (aj (by rfl)) (aA (by rfl))))
 refine aC ?_ ?_
 ·exact (aU (i:=4) nd (by rfl) (by exact Or.inl rfl) (d_cmp o_gt (d_bits (dv 3 (pv 3))) (bK gG aP (dv 2 (pv 2))) (cY _)))
 refine aC ?_ ?_
 ·exact (aU (i:=5) nd (by rfl) (by exact Or.inl rfl) (bK fV (bK cj (bK cj (dv 3 (pv 3)) (bK gG aP (dv 1 (pv 1)))) aP) aP))
 refine aC ?_ ?_
 ·exact (aU (i:=6) nd (by rfl) (by exact Or.inl rfl) (rD aB))
 refine aC ?_ ?_
 ·exact (cA PassesOwn.never hc (cN (by rfl) (by exact T.z_range) (ak (dv 2 (pv 2)) aB (aj (by rfl))) (jj (by rfl))) (aZ (aW (i:=7) nd (by rfl) (by exact Or.inl rfl))) (aH (nj (yO (dv 4 (pv 4))) (aC (iU (gR (dv 6 (pv 6)) (ak (bK fV (dv 3 (pv 3)) (bK uH aP aP)) aB (aj (by rfl))) (by rfl) (wK (by rfl)) (by rfl) (aj (by rfl)) (by rfl)))
  (aH (aU (i:=3) nd (by rfl) (by exact Or.inl rfl) (bK pQ (dv 3 (pv 3)) (bK uH aP aP))))) (aC (aU (i:=5) nd (by rfl) (by exact Or.inl rfl) (bK fV (bK cj (bK cj (bK gG (dv 5 (pv 5)) aP) aP) (bK gG (dv 7 (pv 7)) (dv 7 (pv 7)))) aP))
  (aC (aU (i:=8) nd (by rfl) (by exact Or.inl rfl) (bK fV (bK gG (dv 5 (pv 5)) (bK cj (bK cj (bK pQ (dv 5 (pv 5)) aP) (dv 7 (pv 7))) aP)) aP))
  (aH (iU (gR (dv 6 (pv 6)) (ak (bK fV (bK gG (bK gG (dv 8 (pv 8)) (bK cj (dv 8 (pv 8)) aP)) (bK cj (dv 5 (pv 5)) aP)) (bK uH aP aP)) aB (aj (by rfl))) (by rfl) (wK (by rfl)) (by rfl) (aj (by rfl)) (by rfl)))))))))
 refine aH ?_
 exact (bJ (dv 6 (pv 6)))
theorem uq (T:Txt K mg t):fD P w K mg base CX0 10 t.f_l_number t.d_l_number ["_law_x"] (lift K iu):=by
 have nd:=lF.nd
 refine nY (k:=9) T.F_l_number lF fun cdv A outer s H E hr=>?_
 have hc:=hr.calm (by decide)
 refine aH ?_
 exact (bJ (wI (d_lst (ak (bK uD (bK fV (bK pQ (dv 0 (pv 0)) aP) aP) aP) (ak (bK uD (bK fV (bK pQ (dv 0 (pv 0)) aP) aP) aP) (ak (bK uD (bK fV (bK pQ (dv 0 (pv 0)) aP) (bK gG aP (bK uH aP aP))) (bK uH aP aP)) aB (aj (by rfl))) (aj (by rfl))) (aj (by rfl)))) (bK fV (dv 0 (pv 0)) aP) (by intro _ _;rfl)))
theorem tB (T:Txt K mg t):fD P w K mg base CX0 10 t.f_l_powers t.d_l_powers ["_law_x", "_law_letters", "_law_most"] (lift K iw):=by
 have nd:=mK.nd
 refine nY (k:=9) T.F_l_powers mK fun cdv A outer s H E hr=>?_
 have hc:=hr.calm (by decide)
 refine aC ?_ ?_
 ·exact (aU (i:=3) nd (by rfl) (by exact Or.inl rfl) (rD aB))
 refine aC ?_ ?_
 ·exact (cA PassesOwn.never hc (cN (by rfl) (by exact T.z_range) (ak (dv 1 (pv 1)) aB (aj (by rfl))) (jj (by rfl))) (aZ (aW (i:=4) nd (by rfl) (by exact Or.inl rfl))) (aC (iU (gR (dv 3 (pv 3)) (ak (bK fV (dv 0 (pv 0)) (bK cj (dv 2 (pv 2)) aP)) aB (aj (by rfl))) (by rfl) (wK (by rfl)) (by rfl) (aj (by rfl)) (by rfl)))
  (aH (aU (i:=0) nd (by rfl) (by exact Or.inl rfl) (bK pQ (dv 0 (pv 0)) (bK cj (dv 2 (pv 2)) aP))))))
 refine aH ?_
 exact (bJ (gK lZ (by rfl) (by exact T.z_tuple) boot_tuple (ak (dv 3 (pv 3)) aB (aj (by rfl))) (by decide) (by decide) (aj (by rfl)) (aA (by rfl))))
theorem qR (T:Txt K mg t):fD P w K mg base CX0 10 t.f_l_ordered t.d_l_ordered ["_law_found"] (lift K fC):=by
 have nd:=jR.nd
 refine nY (k:=9) T.F_l_ordered jR fun cdv A outer s H E hr=>?_
 have hc:=hr.calm (by decide)
 refine aH ?_
 exact (bJ (gK lZ (by rfl) (by exact T.z_tuple) boot_tuple (ak (d_lc [0] hc (dN (by rfl)) own_1 (pgo_1 (dN (by rfl))) (dG (fG (z6 hc) (by rfl) (by exact T.z_sorted) PyProof.Rows.boot_sorted (ak (dv 0 (pv 0)) aB (aj (by rfl))) (by decide) (by decide) (aj (by rfl)) (aA (by rfl)))) (fun _ _ _ _=>(zB (fJ (o_ne (oM hr)) (d_tix (oM hr) (dv 1 (pv 1)) (dv 0 (pv 0)) (by intro _ _;rfl)) aP (cY _)))) (fun _ _ _ _=>(m7 (ak (dv 0 (pv 0)) (ak (d_tix (oM hr) (dv 1 (pv 1)) (dv 0 (pv 0)) (by intro _ _;rfl)) aB (aj (by rfl))) (aj (by rfl)))))) aB (aj (by rfl))) (by decide) (by decide) (aj (by rfl)) (aA (by rfl))))
theorem p8 (T:Txt K mg t):fD P w K mg base CX0 12 t.f_l_sum t.d_l_sum ["_law_script", "_law_k", "_law_letters", "_law_many", "_law_most"] (lift K jH):=by
 have nd:=vo.nd
 refine nY (k:=11) T.F_l_sum vo fun cdv A outer s H E hr=>?_
 have hc:=hr.calm (by decide)
 refine aC ?_ ?_
 ·first
  | (with_reducible exact (aU (hs:=by with_unfolding_all rfl) (hf:=by with_unfolding_all first | exact .inl rfl | exact .inr rfl) (i:=5) (by with_unfolding_all exact nd) (by with_unfolding_all rfl) (by with_unfolding_all exact Or.inl rfl) d_newT))
  | (exact (aU (i:=5) nd (by rfl) (by exact Or.inl rfl) d_newT))
 refine aC ?_ ?_
 ·exact (cA PassesOwn.never hc (cN (by rfl) (by exact T.z_range) (ak (dv 3 (pv 3)) aB (aj (by rfl))) (jj (by rfl))) (aZ (aW (i:=6) nd (by rfl) (by exact Or.inl rfl))) (aC (aU (i:=7) nd (by rfl) (by exact Or.inl rfl) (aR ((oh T).mono (by decide)) hr (by rfl) (by exact T.dj) (by exact T.F_l_draws.kp) (by exact T.b_l_draws) (ak (dv 0 (pv 0)) (ak (bK cj (dv 1 (pv 1)) (dv 6 (pv 6))) (ak aP aB (aj (by rfl))) (aj (by rfl))) (aj (by rfl))) (by decide) (aj (by rfl)) (aA (by rfl))))
  (aH (ds_asg (aR ((uq T).mono (by decide)) hr (by rfl) (by exact T.iu) (by exact T.F_l_number.kp) (by exact T.b_l_number) (ak (wI (dv 7 (pv 7)) aP (by intro _ _;rfl)) aB (aj (by rfl))) (by decide) (aj (by rfl)) (aA (by rfl))) (yV (dv 5 (pv 5)) (aR ((tB T).mono (by decide)) hr (by rfl) (by exact T.iw) (by exact T.F_l_powers.kp) (by exact T.b_l_powers) (ak (wI (dv 7 (pv 7)) aP (by intro _ _;rfl)) (ak (dv 2 (pv 2)) (ak (dv 4 (pv 4)) aB (aj (by rfl))) (aj (by rfl))) (aj (by rfl))) (by decide) (aj (by rfl)) (aA (by rfl))) (rZ (oM hr)) uW)))))
 refine aH ?_
 exact (bJ (aR ((qR T).mono (by decide)) hr (by rfl) (by exact T.fC) (by exact T.F_l_ordered.kp) (by exact T.b_l_ordered) (ak (dv 5 (pv 5)) aB (aj (by rfl))) (by decide) (aj (by rfl)) (aA (by rfl))))
theorem gP (T:Txt K mg t):fD P w K mg base CX0 10 t.f_l_worth t.d_l_worth ["_law_one", "_law_numbers"] (lift K cW):=by
 have nd:=nJ.nd
 refine nY (k:=9) T.F_l_worth nJ fun cdv A outer s H E hr=>?_
 have hc:=hr.calm (by decide)
 refine aC ?_ ?_
 ·exact (aU (i:=2) nd (by rfl) (by exact Or.inl rfl) aP)
 refine aC ?_ ?_
 ·exact (cA PassesOwn.never hc (dG (dv 0 (pv 0))) (eX hc (bD (aZ (aW (i:=3) nd (by rfl) (by exact Or.inl rfl))) (bD (aZ (aW (i:=4) nd (by rfl) (by exact Or.inl rfl))) eH))) (aC (cA PassesOwn.never hc (cN (by rfl) (by exact T.z_range) (ak (fG wV (by rfl) (by exact T.z_len) PySem.boot_len (ak (dv 3 (pv 3)) aB (aj (by rfl))) (by decide) (by decide) (aj (by rfl)) (aA (by rfl))) aB (aj (by rfl))) (jj (by rfl))) (aZ (aW (i:=5) nd (by rfl) (by exact Or.inl rfl))) (aH (cA PassesOwn.never hc (cN (by rfl) (by exact T.z_range) (ak (wI (dv 3 (pv 3)) (dv 5 (pv 5)) (by intro _ _;rfl)) aB (aj (by rfl))) (jj (by rfl))) (aZ (aW (i:=6) nd (by rfl) (by exact Or.inl rfl))) (aH (aU (i:=4) nd (by rfl) (by exact Or.inl rfl) (bK gG (dv 4 (pv 4)) (wI (dv 1 (pv 1)) (dv 5 (pv 5)) (by intro _ _;rfl))))))))
  (aH (aU (i:=2) nd (by rfl) (by exact Or.inl rfl) (bK cj (dv 2 (pv 2)) (dv 4 (pv 4)))))))
 refine aH ?_
 exact (bJ (dv 2 (pv 2)))
theorem ok_law (T:Txt K mg t):fD P w K mg base CX0 13 t.f_law t.d_law ["_law_script"] (lift K m_law):=by
 have nd:=sc_law.nd
 refine nY (k:=12) T.F_law sc_law fun cdv A outer s H E hr=>?_
 have hc:=hr.calm (by decide)
 refine aC ?_ ?_
 ·exact (aU (i:=1) nd (by rfl) (by exact Or.inl rfl) (bK fV (aR ((gF T).mono (by decide)) hr (by rfl) (by exact T.cQ) (by exact T.F_l_cell.kp) (by exact T.b_l_cell) (ak (dv 0 (pv 0)) (ak aP aB (aj (by rfl))) (aj (by rfl))) (by decide) (aj (by rfl)) (aA (by rfl))) aP))
 refine aC ?_ ?_
 ·exact (aU (i:=2) nd (by rfl) (by exact Or.inl rfl) (aR ((p8 T).mono (by decide)) hr (by rfl) (by exact T.jH) (by exact T.F_l_sum.kp) (by exact T.b_l_sum) (ak (dv 0 (pv 0)) (ak aP (ak (dv 1 (pv 1)) (ak (bK fV (aR ((gF T).mono (by decide)) hr (by rfl) (by exact T.cQ) (by exact T.F_l_cell.kp) (by exact T.b_l_cell) (ak (dv 0 (pv 0)) (ak aP aB (aj (by rfl))) (aj (by rfl))) (by decide) (aj (by rfl)) (aA (by rfl))) aP) (ak aP aB (aj (by rfl))) (aj (by rfl))) (aj (by rfl))) (aj (by rfl))) (aj (by rfl))) (by decide) (aj (by rfl)) (aA (by rfl))))
 refine aC ?_ ?_
 ·exact (aU (i:=3) nd (by rfl) (by exact Or.inl rfl) (aR ((p8 T).mono (by decide)) hr (by rfl) (by exact T.jH) (by exact T.F_l_sum.kp) (by exact T.b_l_sum) (ak (dv 0 (pv 0)) (ak aP (ak (dv 1 (pv 1)) (ak (bK fV (aR ((gF T).mono (by decide)) hr (by rfl) (by exact T.cQ) (by exact T.F_l_cell.kp) (by exact T.b_l_cell) (ak (dv 0 (pv 0)) (ak aP aB (aj (by rfl))) (aj (by rfl))) (by decide) (aj (by rfl)) (aA (by rfl))) aP) (ak aP aB (aj (by rfl))) (aj (by rfl))) (aj (by rfl))) (aj (by rfl))) (aj (by rfl))) (by decide) (aj (by rfl)) (aA (by rfl))))
 refine aC ?_ ?_
 ·exact (aU (i:=4) nd (by rfl) (by exact Or.inl rfl) (aR ((p8 T).mono (by decide)) hr (by rfl) (by exact T.jH) (by exact T.F_l_sum.kp) (by exact T.b_l_sum) (ak (dv 0 (pv 0)) (ak aP (ak (dv 1 (pv 1)) (ak (bK fV (aR ((gF T).mono (by decide)) hr (by rfl) (by exact T.cQ) (by exact T.F_l_cell.kp) (by exact T.b_l_cell) (ak (dv 0 (pv 0)) (ak aP aB (aj (by rfl))) (aj (by rfl))) (by decide) (aj (by rfl)) (aA (by rfl))) aP) (ak aP aB (aj (by rfl))) (aj (by rfl))) (aj (by rfl))) (aj (by rfl))) (aj (by rfl))) (by decide) (aj (by rfl)) (aA (by rfl))))
 refine aC ?_ ?_
 ·exact (aU (i:=5) nd (by rfl) (by exact Or.inl rfl) (rD aB))
 refine aC ?_ ?_
 ·exact (cA PassesOwn.never hc (cN (by rfl) (by exact T.z_range) (ak (dv 1 (pv 1)) aB (aj (by rfl))) (jj (by rfl))) (aZ (aW (i:=6) nd (by rfl) (by exact Or.inl rfl))) (aC (aU (i:=7) nd (by rfl) (by exact Or.inl rfl) (wI (aR ((oh T).mono (by decide)) hr (by rfl) (by exact T.dj) (by exact T.F_l_draws.kp) (by exact T.b_l_draws) (ak (dv 0 (pv 0)) (ak (bK cj aP (dv 6 (pv 6))) (ak aP aB (aj (by rfl))) (aj (by rfl))) (aj (by rfl))) (by decide) (aj (by rfl)) (aA (by rfl))) aP (by intro _ _;rfl)))
  (aH (iU (gR (dv 5 (pv 5)) (ak (wI (d_lst (ak (bK uD (bK fV (bK pQ (dv 7 (pv 7)) aP) aP) aP) (ak (bK uD (bK fV (bK pQ (dv 7 (pv 7)) aP) (bK gG aP (bK uH aP aP))) (bK uH aP aP)) aB (aj (by rfl))) (aj (by rfl)))) (bK fV (dv 7 (pv 7)) aP) (by intro _ _;rfl)) aB (aj (by rfl))) (by rfl) (wK (by rfl)) (by rfl) (aj (by rfl)) (by rfl))))))
 refine aC ?_ ?_
 ·exact (aU (i:=5) nd (by rfl) (by exact Or.inl rfl) (gK lZ (by rfl) (by exact T.z_tuple) boot_tuple (ak (dv 5 (pv 5)) aB (aj (by rfl))) (by decide) (by decide) (aj (by rfl)) (aA (by rfl))))
 refine aC ?_ ?_
 ·exact (aU (i:=8) nd (by rfl) (by exact Or.inl rfl) (aR ((gP T).mono (by decide)) hr (by rfl) (by exact T.cW) (by exact T.F_l_worth.kp) (by exact T.b_l_worth) (ak (dv 2 (pv 2)) (ak (dv 5 (pv 5)) aB (aj (by rfl))) (aj (by rfl))) (by decide) (aj (by rfl)) (aA (by rfl))))
 refine aC ?_ ?_
 ·exact (aU (i:=9) nd (by rfl) (by exact Or.inl rfl) (aR ((gP T).mono (by decide)) hr (by rfl) (by exact T.cW) (by exact T.F_l_worth.kp) (by exact T.b_l_worth) (ak (dv 3 (pv 3)) (ak (dv 5 (pv 5)) aB (aj (by rfl))) (aj (by rfl))) (by decide) (aj (by rfl)) (aA (by rfl))))
 refine aC ?_ ?_
 ·first
  | (with_reducible exact (cA (hs:=by with_unfolding_all (intro _;rfl)) (by with_unfolding_all exact PassesOwn.never) (by with_unfolding_all exact hc) (dG (d_lst (ak (m7 (ak (dv 2 (by with_unfolding_all exact pv 2)) (ak (dv 8 (by with_unfolding_all exact pv 8)) aB (aj (by with_unfolding_all rfl))) (aj (by with_unfolding_all rfl)))) (ak (m7 (ak (dv 3 (by with_unfolding_all exact pv 3)) (ak (dv 9 (by with_unfolding_all exact pv 9)) aB (aj (by with_unfolding_all rfl))) (aj (by with_unfolding_all rfl)))) (ak (m7 (ak (dv 4 (by with_unfolding_all exact pv 4)) (ak (aR (k:=12) (by with_unfolding_all exact (gP T).mono (by decide)) (by with_unfolding_all exact hr) (by with_unfolding_all rfl) (by with_unfolding_all exact T.cW) (by with_unfolding_all exact T.F_l_worth.kp) (by with_unfolding_all exact T.b_l_worth) (ak (dv 4 (by with_unfolding_all exact pv 4)) (ak (dv 5 (by with_unfolding_all exact pv 5)) aB (aj (by with_unfolding_all rfl))) (aj (by with_unfolding_all rfl))) (by decide) (aj (by with_unfolding_all rfl)) (aA (by with_unfolding_all rfl))) aB (aj (by with_unfolding_all rfl))) (aj (by with_unfolding_all rfl)))) aB (aj (by with_unfolding_all rfl))) (aj (by with_unfolding_all rfl))) (aj (by with_unfolding_all rfl))))) (eX (hn:=by with_unfolding_all rfl) (hst:=by with_unfolding_all rfl) (by with_unfolding_all exact hc) (bD (hs:=by with_unfolding_all rfl) (aZ (aW (i:=10) (by with_unfolding_all exact nd) (by with_unfolding_all rfl) (by with_unfolding_all exact Or.inl rfl))) (bD (hs:=by with_unfolding_all rfl) (aZ (aW (i:=11) (by with_unfolding_all exact nd) (by with_unfolding_all rfl) (by with_unfolding_all exact Or.inl rfl))) eH))) (aH (nj (fJ (o_ne (by with_unfolding_all exact oM hr)) (aR (k:=12) (by with_unfolding_all exact (cC T).mono (by decide)) (by with_unfolding_all exact hr) (by with_unfolding_all rfl) (by with_unfolding_all exact T.bQ) (by with_unfolding_all exact T.F_worth_at.kp) (by with_unfolding_all exact T.b_worth_at) (ak (dv 10 (by with_unfolding_all exact pv 10)) (ak (dv 5 (by with_unfolding_all exact pv 5)) aB (aj (by with_unfolding_all rfl))) (aj (by with_unfolding_all rfl))) (by decide) (aj (by with_unfolding_all rfl)) (aA (by with_unfolding_all rfl))) (dv 11 (by with_unfolding_all exact pv 11)) (by with_unfolding_all exact cY _)) (aH (bJ d_bl)) eU))))
  | (exact (cA PassesOwn.never hc (dG (d_lst (ak (m7 (ak (dv 2 (pv 2)) (ak (dv 8 (pv 8)) aB (aj (by rfl))) (aj (by rfl)))) (ak (m7 (ak (dv 3 (pv 3)) (ak (dv 9 (pv 9)) aB (aj (by rfl))) (aj (by rfl)))) (ak (m7 (ak (dv 4 (pv 4)) (ak (aR ((gP T).mono (by decide)) hr (by rfl) (by exact T.cW) (by exact T.F_l_worth.kp) (by exact T.b_l_worth) (ak (dv 4 (pv 4)) (ak (dv 5 (pv 5)) aB (aj (by rfl))) (aj (by rfl))) (by decide) (aj (by rfl)) (aA (by rfl))) aB (aj (by rfl))) (aj (by rfl)))) aB (aj (by rfl))) (aj (by rfl))) (aj (by rfl))))) (eX hc (bD (aZ (aW (i:=10) nd (by rfl) (by exact Or.inl rfl))) (bD (aZ (aW (i:=11) nd (by rfl) (by exact Or.inl rfl))) eH))) (aH (nj (fJ (o_ne (oM hr)) (aR ((cC T).mono (by decide)) hr (by rfl) (by exact T.bQ) (by exact T.F_worth_at.kp) (by exact T.b_worth_at) (ak (dv 10 (pv 10)) (ak (dv 5 (pv 5)) aB (aj (by rfl))) (aj (by rfl))) (by decide) (aj (by rfl)) (aA (by rfl))) (dv 11 (pv 11)) (cY _)) (aH (bJ d_bl)) eU))))
 refine aC ?_ ?_
 ·exact (aU (i:=12) nd (by rfl) (by exact Or.inl rfl) (aR ((eF T).mono (by decide)) hr (by rfl) (by exact T.cZ) (by exact T.F_times.kp) (by exact T.b_times) (ak (dv 2 (pv 2)) (ak (dv 3 (pv 3)) aB (aj (by rfl))) (aj (by rfl))) (by decide) (aj (by rfl)) (aA (by rfl))))
 refine aC ?_ ?_
 ·exact (nj (dw_or (fJ (o_ne (oM hr)) (aR ((cC T).mono (by decide)) hr (by rfl) (by exact T.bQ) (by exact T.F_worth_at.kp) (by exact T.b_worth_at) (ak (aR ((uE T).mono (by decide)) hr (by rfl) (by exact T.ou) (by exact T.F_plus.kp) (by exact T.b_plus) (ak (dv 2 (pv 2)) (ak (dv 3 (pv 3)) aB (aj (by rfl))) (aj (by rfl))) (by decide) (aj (by rfl)) (aA (by rfl))) (ak (dv 5 (pv 5)) aB (aj (by rfl))) (aj (by rfl))) (by decide) (aj (by rfl)) (aA (by rfl))) (bK cj (dv 8 (pv 8)) (dv 9 (pv 9))) (cY _)) (dw_or1 (fJ (o_ne (oM hr)) (aR ((cC T).mono (by decide)) hr (by rfl) (by exact T.bQ) (by exact T.F_worth_at.kp) (by exact T.b_worth_at) (ak (dv 12 (pv 12)) (ak (dv 5 (pv 5)) aB (aj (by rfl))) (aj (by rfl))) (by decide) (aj (by rfl)) (aA (by rfl))) (bK gG (dv 8 (pv 8)) (dv 9 (pv 9))) (cY _)))).pt (aH (bJ d_bl)) eU)
 refine aC ?_ ?_
 ·exact (nj (dw_or (fJ (o_ne (oM hr)) (aR ((cC T).mono (by decide)) hr (by rfl) (by exact T.bQ) (by exact T.F_worth_at.kp) (by exact T.b_worth_at) (ak (aR ((u5 T).mono (by decide)) hr (by rfl) (by exact T.mL) (by exact T.F_minus.kp) (by exact T.b_minus) (ak (dv 2 (pv 2)) (ak (dv 3 (pv 3)) aB (aj (by rfl))) (aj (by rfl))) (by decide) (aj (by rfl)) (aA (by rfl))) (ak (dv 5 (pv 5)) aB (aj (by rfl))) (aj (by rfl))) (by decide) (aj (by rfl)) (aA (by rfl))) (bK uD (dv 8 (pv 8)) (dv 9 (pv 9))) (cY _)) (dw_or1 (fJ (o_ne (oM hr)) (aR ((cC T).mono (by decide)) hr (by rfl) (by exact T.bQ) (by exact T.F_worth_at.kp) (by exact T.b_worth_at) (ak (aR ((u5 T).mono (by decide)) hr (by rfl) (by exact T.mL) (by exact T.F_minus.kp) (by exact T.b_minus) (ak (dv 3 (pv 3)) (ak (dv 2 (pv 2)) aB (aj (by rfl))) (aj (by rfl))) (by decide) (aj (by rfl)) (aA (by rfl))) (ak (dv 5 (pv 5)) aB (aj (by rfl))) (aj (by rfl))) (by decide) (aj (by rfl)) (aA (by rfl))) (bK uD (dv 9 (pv 9)) (dv 8 (pv 8))) (cY _)))).pt (aH (bJ d_bl)) eU)
 refine aC ?_ ?_
 ·exact (nj (fJ (o_ne (oM hr)) (aR ((eF T).mono (by decide)) hr (by rfl) (by exact T.cZ) (by exact T.F_times.kp) (by exact T.b_times) (ak (dv 12 (pv 12)) (ak (dv 4 (pv 4)) aB (aj (by rfl))) (aj (by rfl))) (by decide) (aj (by rfl)) (aA (by rfl))) (aR ((eF T).mono (by decide)) hr (by rfl) (by exact T.cZ) (by exact T.F_times.kp) (by exact T.b_times) (ak (dv 2 (pv 2)) (ak (aR ((eF T).mono (by decide)) hr (by rfl) (by exact T.cZ) (by exact T.F_times.kp) (by exact T.b_times) (ak (dv 3 (pv 3)) (ak (dv 4 (pv 4)) aB (aj (by rfl))) (aj (by rfl))) (by decide) (aj (by rfl)) (aA (by rfl))) aB (aj (by rfl))) (aj (by rfl))) (by decide) (aj (by rfl)) (aA (by rfl))) (cY _)) (aH (bJ d_bl)) eU)
 refine aH ?_
 exact (bJ (d_cmp (o_eq (oM hr)) (aR ((eF T).mono (by decide)) hr (by rfl) (by exact T.cZ) (by exact T.F_times.kp) (by exact T.b_times) (ak (dv 4 (pv 4)) (ak (aR ((uE T).mono (by decide)) hr (by rfl) (by exact T.ou) (by exact T.F_plus.kp) (by exact T.b_plus) (ak (dv 2 (pv 2)) (ak (dv 3 (pv 3)) aB (aj (by rfl))) (aj (by rfl))) (by decide) (aj (by rfl)) (aA (by rfl))) aB (aj (by rfl))) (aj (by rfl))) (by decide) (aj (by rfl)) (aA (by rfl))) (aR ((uE T).mono (by decide)) hr (by rfl) (by exact T.ou) (by exact T.F_plus.kp) (by exact T.b_plus) (ak (aR ((eF T).mono (by decide)) hr (by rfl) (by exact T.cZ) (by exact T.F_times.kp) (by exact T.b_times) (ak (dv 4 (pv 4)) (ak (dv 2 (pv 2)) aB (aj (by rfl))) (aj (by rfl))) (by decide) (aj (by rfl)) (aA (by rfl))) (ak (aR ((eF T).mono (by decide)) hr (by rfl) (by exact T.cZ) (by exact T.F_times.kp) (by exact T.b_times) (ak (dv 4 (pv 4)) (ak (dv 3 (pv 3)) aB (aj (by rfl))) (aj (by rfl))) (by decide) (aj (by rfl)) (aA (by rfl))) aB (aj (by rfl))) (aj (by rfl))) (by decide) (aj (by rfl)) (aA (by rfl))) (cY _)))
end
def fO (x:Str)(s:Stmt)(oc:Value)(od:Option Addr)(kV dc pm:Value)(an:Option Addr)(cd ct:Value)(sl:Array (Option Value)):Option Obj:=some ⟨oc,od,.func (PySem.W.fnOf x x (lD s) (iC s) (aN s) .none kV dc pm an cd ct),sl⟩
def sR (f:Addr):Option (Option Value):=some (some (.ref f))
open PySem.W (nsIn codeIn keepIn) in
theorem all_mk {l:PySem.W.OpenLaw}{w:World}{K:PySem.W.Frag}{h:Heap}{mg:Str→Option Value}{fa:Addr}(hlaw:∀ ns:List Int,ns.length≤63→m_law [.kls (ns.map W.int)] g0 (fun w _=>w=.bl true) EF)(X:K.In h)(G:h.Ns mainGlobals mg)(hfa:mg "law" = some (.ref fa))
  {f0 f1 f2 f3 f4 f5 f6 f7 f8 f9 f10 f11 f12 f13 f14 f15 f16 f17 f18 f19:Addr} {od0 an0 od1 an1 od2 an2 od3 an3 od4 an4 od5 an5 od6 an6 od7 an7 od8 an8 od9 an9 od10 an10 od11 an11 od12 an12 od13 an13 od14 an14 od15 an15 od16 an16 od17 an17 od18 an18 od19 an19:Option Addr} {sl0 sl1 sl2 sl3 sl4 sl5 sl6 sl7 sl8 sl9 sl10 sl11 sl12 sl13 sl14 sl15 sl16 sl17 sl18 sl19:Array (Option Value)} {oc0 kV0 dc0 pm0 cd0 ct0 oc1 kV1 dc1 pm1 cd1 ct1 oc2 kV2 dc2 pm2 cd2 ct2 oc3 kV3 dc3 pm3 cd3 ct3 oc4 kV4 dc4 pm4 cd4 ct4 oc5 kV5 dc5 pm5 cd5 ct5 oc6 kV6 dc6 pm6 cd6 ct6 oc7 kV7 dc7 pm7 cd7 ct7 oc8 kV8 dc8 pm8 cd8 ct8 oc9 kV9 dc9 pm9 cd9 ct9 oc10 kV10 dc10 pm10 cd10 ct10 oc11 kV11 dc11 pm11 cd11 ct11 oc12 kV12 dc12 pm12 cd12 ct12 oc13 kV13 dc13 pm13 cd13 ct13 oc14 kV14 dc14 pm14 cd14 ct14 oc15 kV15 dc15 pm15 cd15 ct15 oc16 kV16 dc16 pm16 cd16 ct16 oc17 kV17 dc17 pm17 cd17 ct17 oc18 kV18 dc18 pm18 cd18 ct18 oc19 kV19 dc19 pm19 cd19 ct19:Value}
  {n_MOST_TERMS:Tok}
  {n_MOST_POWER:Tok}
  {n_MOST_PAIRS:Tok}
  {n_FIELD:Tok}
  (a0:nsIn K mainGlobals "sum_of_totals" = sR f0) (l0:K.lookup f0=fO "sum_of_totals" cu oc0 od0 kV0 dc0 pm0 an0 cd0 ct0 sl0) (c0:codeIn K cd0 "sum_of_totals" = true) (k0:keepIn K (.ref f0)=true)
  (a1:nsIn K mainGlobals "with_times" = sR f1) (l1:K.lookup f1=fO "with_times" dH oc1 od1 kV1 dc1 pm1 an1 cd1 ct1 sl1) (c1:codeIn K cd1 "with_times" = true) (k1:keepIn K (.ref f1)=true)
  (a2:nsIn K mainGlobals "plus" = sR f2) (l2:K.lookup f2=fO "plus" vf oc2 od2 kV2 dc2 pm2 an2 cd2 ct2 sl2) (c2:codeIn K cd2 "plus" = true) (k2:keepIn K (.ref f2)=true)
  (a3:nsIn K mainGlobals "minus" = sR f3) (l3:K.lookup f3=fO "minus" oV oc3 od3 kV3 dc3 pm3 an3 cd3 ct3 sl3) (c3:codeIn K cd3 "minus" = true) (k3:keepIn K (.ref f3)=true)
  (a4:nsIn K mainGlobals "packed" = sR f4) (l4:K.lookup f4=fO "packed" kW oc4 od4 kV4 dc4 pm4 an4 cd4 ct4 sl4) (c4:codeIn K cd4 "packed" = true) (k4:keepIn K (.ref f4)=true)
  (a5:nsIn K mainGlobals "unpacked" = sR f5) (l5:K.lookup f5=fO "unpacked" gZ oc5 od5 kV5 dc5 pm5 an5 cd5 ct5 sl5) (c5:codeIn K cd5 "unpacked" = true) (k5:keepIn K (.ref f5)=true)
  (a6:nsIn K mainGlobals "packed_terms" = sR f6) (l6:K.lookup f6=fO "packed_terms" cL oc6 od6 kV6 dc6 pm6 an6 cd6 ct6 sl6) (c6:codeIn K cd6 "packed_terms" = true) (k6:keepIn K (.ref f6)=true)
  (a7:nsIn K mainGlobals "check_powers" = sR f7) (l7:K.lookup f7=fO "check_powers" cJ oc7 od7 kV7 dc7 pm7 an7 cd7 ct7 sl7) (c7:codeIn K cd7 "check_powers" = true) (k7:keepIn K (.ref f7)=true)
  (a8:nsIn K mainGlobals "times" = sR f8) (l8:K.lookup f8=fO "times" pW oc8 od8 kV8 dc8 pm8 an8 cd8 ct8 sl8) (c8:codeIn K cd8 "times" = true) (k8:keepIn K (.ref f8)=true)
  (a9:nsIn K mainGlobals "powers_up_to" = sR f9) (l9:K.lookup f9=fO "powers_up_to" cG oc9 od9 kV9 dc9 pm9 an9 cd9 ct9 sl9) (c9:codeIn K cd9 "powers_up_to" = true) (k9:keepIn K (.ref f9)=true)
  (a10:nsIn K mainGlobals "height" = sR f10) (l10:K.lookup f10=fO "height" lA oc10 od10 kV10 dc10 pm10 an10 cd10 ct10 sl10) (c10:codeIn K cd10 "height" = true) (k10:keepIn K (.ref f10)=true)
  (a11:nsIn K mainGlobals "worth_at" = sR f11) (l11:K.lookup f11=fO "worth_at" gJ oc11 od11 kV11 dc11 pm11 an11 cd11 ct11 sl11) (c11:codeIn K cd11 "worth_at" = true) (k11:keepIn K (.ref f11)=true)
  (a12:nsIn K mainGlobals "_law_cell" = sR f12) (l12:K.lookup f12=fO "_law_cell" kh oc12 od12 kV12 dc12 pm12 an12 cd12 ct12 sl12) (c12:codeIn K cd12 "_law_cell" = true) (k12:keepIn K (.ref f12)=true)
  (a13:nsIn K mainGlobals "_law_draws" = sR f13) (l13:K.lookup f13=fO "_law_draws" ji oc13 od13 kV13 dc13 pm13 an13 cd13 ct13 sl13) (c13:codeIn K cd13 "_law_draws" = true) (k13:keepIn K (.ref f13)=true)
  (a14:nsIn K mainGlobals "_law_number" = sR f14) (l14:K.lookup f14=fO "_law_number" gM oc14 od14 kV14 dc14 pm14 an14 cd14 ct14 sl14) (c14:codeIn K cd14 "_law_number" = true) (k14:keepIn K (.ref f14)=true)
  (a15:nsIn K mainGlobals "_law_powers" = sR f15) (l15:K.lookup f15=fO "_law_powers" gQ oc15 od15 kV15 dc15 pm15 an15 cd15 ct15 sl15) (c15:codeIn K cd15 "_law_powers" = true) (k15:keepIn K (.ref f15)=true)
  (a16:nsIn K mainGlobals "_law_ordered" = sR f16) (l16:K.lookup f16=fO "_law_ordered" eE oc16 od16 kV16 dc16 pm16 an16 cd16 ct16 sl16) (c16:codeIn K cd16 "_law_ordered" = true) (k16:keepIn K (.ref f16)=true)
  (a17:nsIn K mainGlobals "_law_sum" = sR f17) (l17:K.lookup f17=fO "_law_sum" oN oc17 od17 kV17 dc17 pm17 an17 cd17 ct17 sl17) (c17:codeIn K cd17 "_law_sum" = true) (k17:keepIn K (.ref f17)=true)
  (a18:nsIn K mainGlobals "_law_worth" = sR f18) (l18:K.lookup f18=fO "_law_worth" jm oc18 od18 kV18 dc18 pm18 an18 cd18 ct18 sl18) (c18:codeIn K cd18 "_law_worth" = true) (k18:keepIn K (.ref f18)=true)
  (a19:nsIn K mainGlobals "law" = sR f19) (l19:K.lookup f19=fO "law" s_law oc19 od19 kV19 dc19 pm19 an19 cd19 ct19 sl19) (c19:codeIn K cd19 "law" = true) (k19:keepIn K (.ref f19)=true)
  (z_any:PySem.W.nsIn K mainGlobals "any" = some none)
  (z_dict:PySem.W.nsIn K mainGlobals "dict" = some none)
  (z_enumerate:PySem.W.nsIn K mainGlobals "enumerate" = some none)
  (z_len:PySem.W.nsIn K mainGlobals "len" = some none)
  (z_max:PySem.W.nsIn K mainGlobals "max" = some none)
  (z_range:PySem.W.nsIn K mainGlobals "range" = some none)
  (z_reversed:PySem.W.nsIn K mainGlobals "reversed" = some none)
  (z_sorted:PySem.W.nsIn K mainGlobals "sorted" = some none)
  (z_tuple:PySem.W.nsIn K mainGlobals "tuple" = some none)
  (z_zip:PySem.W.nsIn K mainGlobals "zip" = some none)
  (gk_MOST_TERMS:PySem.W.nsIn K mainGlobals "MOST_TERMS" = some (some (.int 600 n_MOST_TERMS)))
  (gk_MOST_POWER:PySem.W.nsIn K mainGlobals "MOST_POWER" = some (some (.int 60 n_MOST_POWER)))
  (gk_MOST_PAIRS:PySem.W.nsIn K mainGlobals "MOST_PAIRS" = some (some (.int 20000 n_MOST_PAIRS)))
  (gk_FIELD:PySem.W.nsIn K mainGlobals "FIELD" = some (some (.int 65536 n_FIELD)))
  : ∃ fd:FuncData,(∀ (s:Shared) (v:Value),BindsTo s fd ⟨[v],[]⟩ [("_law_script",v)])∧∀ base:Heap,K.In base→base.Ns mainGlobals mg→fD l.prog w K mg base CX0 13 fa fd ["_law_script"] (spLaw K):=by
 have e:=hfa.symm.trans (PySem.W.mg_of X G a19)
 cases e
 have F0:=bZ (st:=cu) l0 c0 k0
 have b0:=F0.binds (ps:=["totals"]) fun _ _ _ _ _ _ us hl=>match us,hl with | [_],_=>rfl
 have F1:=bZ (st:=dH) l1 c1 k1
 have b1:=F1.binds (ps:=["one", "other", "factor"]) fun _ _ _ _ _ _ us hl=>match us,hl with | [_,_,_],_=>rfl
 have F2:=bZ (st:=vf) l2 c2 k2
 have b2:=F2.binds (ps:=["one", "other"]) fun _ _ _ _ _ _ us hl=>match us,hl with | [_,_],_=>rfl
 have F3:=bZ (st:=oV) l3 c3 k3
 have b3:=F3.binds (ps:=["one", "other"]) fun _ _ _ _ _ _ us hl=>match us,hl with | [_,_],_=>rfl
 have F4:=bZ (st:=kW) l4 c4 k4
 have b4:=F4.binds (ps:=["powers"]) fun _ _ _ _ _ _ us hl=>match us,hl with | [_],_=>rfl
 have F5:=bZ (st:=gZ) l5 c5 k5
 have b5:=F5.binds (ps:=["key", "letters"]) fun _ _ _ _ _ _ us hl=>match us,hl with | [_,_],_=>rfl
 have F6:=bZ (st:=cL) l6 c6 k6
 have b6:=F6.binds (ps:=["one"]) fun _ _ _ _ _ _ us hl=>match us,hl with | [_],_=>rfl
 have F7:=bZ (st:=cJ) l7 c7 k7
 have b7:=F7.binds (ps:=["one"]) fun _ _ _ _ _ _ us hl=>match us,hl with | [_],_=>rfl
 have F8:=bZ (st:=pW) l8 c8 k8
 have b8:=F8.binds (ps:=["one", "other"]) fun _ _ _ _ _ _ us hl=>match us,hl with | [_,_],_=>rfl
 have F9:=bZ (st:=cG) l9 c9 k9
 have b9:=F9.binds (ps:=["number", "greatest"]) fun _ _ _ _ _ _ us hl=>match us,hl with | [_,_],_=>rfl
 have F10:=bZ (st:=lA) l10 c10 k10
 have b10:=F10.binds (ps:=["one", "letter"]) fun _ _ _ _ _ _ us hl=>match us,hl with | [_,_],_=>rfl
 have F11:=bZ (st:=gJ) l11 c11 k11
 have b11:=F11.binds (ps:=["one", "numbers"]) fun _ _ _ _ _ _ us hl=>match us,hl with | [_,_],_=>rfl
 have F12:=bZ (st:=kh) l12 c12 k12
 have b12:=F12.binds (ps:=["_law_script", "_law_k"]) fun _ _ _ _ _ _ us hl=>match us,hl with | [_,_],_=>rfl
 have F13:=bZ (st:=ji) l13 c13 k13
 have b13:=F13.binds (ps:=["_law_script", "_law_k", "_law_many"]) fun _ _ _ _ _ _ us hl=>match us,hl with | [_,_,_],_=>rfl
 have F14:=bZ (st:=gM) l14 c14 k14
 have b14:=F14.binds (ps:=["_law_x"]) fun _ _ _ _ _ _ us hl=>match us,hl with | [_],_=>rfl
 have F15:=bZ (st:=gQ) l15 c15 k15
 have b15:=F15.binds (ps:=["_law_x", "_law_letters", "_law_most"]) fun _ _ _ _ _ _ us hl=>match us,hl with | [_,_,_],_=>rfl
 have F16:=bZ (st:=eE) l16 c16 k16
 have b16:=F16.binds (ps:=["_law_found"]) fun _ _ _ _ _ _ us hl=>match us,hl with | [_],_=>rfl
 have F17:=bZ (st:=oN) l17 c17 k17
 have b17:=F17.binds (ps:=["_law_script", "_law_k", "_law_letters", "_law_many", "_law_most"]) fun _ _ _ _ _ _ us hl=>match us,hl with | [_,_,_,_,_],_=>rfl
 have F18:=bZ (st:=jm) l18 c18 k18
 have b18:=F18.binds (ps:=["_law_one", "_law_numbers"]) fun _ _ _ _ _ _ us hl=>match us,hl with | [_,_],_=>rfl
 have F19:=bZ (st:=s_law) l19 c19 k19
 have b19:=F19.binds (ps:=["_law_script"]) fun _ _ _ _ _ _ us hl=>match us,hl with | [_],_=>rfl
 have T:Txt K mg ⟨f0,_,f1,_,f2,_,f3,_,f4,_,f5,_,f6,_,f7,_,f8,_,f9,_,f10,_,f11,_,f12,_,f13,_,f14,_,f15,_,f16,_,f17,_,f18,_,fa,_,n_MOST_TERMS,n_MOST_POWER,n_MOST_PAIRS,n_FIELD⟩:=⟨F0,PySem.W.mg_of X G a0,b0,F1,PySem.W.mg_of X G a1,b1,F2,PySem.W.mg_of X G a2,b2,F3,PySem.W.mg_of X G a3,b3,F4,PySem.W.mg_of X G a4,b4,F5,PySem.W.mg_of X G a5,b5,F6,PySem.W.mg_of X G a6,b6,F7,PySem.W.mg_of X G a7,b7,F8,PySem.W.mg_of X G a8,b8,F9,PySem.W.mg_of X G a9,b9,F10,PySem.W.mg_of X G a10,b10,F11,PySem.W.mg_of X G a11,b11,F12,PySem.W.mg_of X G a12,b12,F13,PySem.W.mg_of X G a13,b13,F14,PySem.W.mg_of X G a14,b14,F15,PySem.W.mg_of X G a15,b15,F16,PySem.W.mg_of X G a16,b16,F17,PySem.W.mg_of X G a17,b17,F18,PySem.W.mg_of X G a18,b18,F19,PySem.W.mg_of X G a19,b19,PySem.W.mg_none_of X G z_any,PySem.W.mg_none_of X G z_dict,PySem.W.mg_none_of X G z_enumerate,PySem.W.mg_none_of X G z_len,PySem.W.mg_none_of X G z_max,PySem.W.mg_none_of X G z_range,PySem.W.mg_none_of X G z_reversed,PySem.W.mg_none_of X G z_sorted,PySem.W.mg_none_of X G z_tuple,PySem.W.mg_none_of X G z_zip,PySem.W.mg_of X G gk_MOST_TERMS,PySem.W.mg_of X G gk_MOST_POWER,PySem.W.mg_of X G gk_MOST_PAIRS,PySem.W.mg_of X G gk_FIELD⟩
 exact ⟨_,fun s v=>.of_eq rfl,fun base _ _=>law_imp hlaw (ok_law T)⟩
theorem walk {l:PySem.W.OpenLaw}{q:Program}{loose:List Str}{XP:(Str→Option Value)→Heap→Prop}{YP:World→Heap→Prop}{d:DefRec}{K:Params→PySem.W.Frag}(hn:l.most=some 63)(hdf:d.params.defaults=[])
  (hY:∀ (w:World) (h:Heap),YP w h→(K w.params).In h)
  (F:∀ (w:World) (mg:Str→Option Value) (fa:Addr) (h:Heap),(K w.params).In h→h.Ns mainGlobals mg→mg d.name=some (.ref fa) →
   ∃ fd:FuncData,(∀ (s:Shared) (u:Value),BindsTo s fd ⟨[u],[]⟩ [("_law_script",u)])∧∀ base:Heap,(K w.params).In base→base.Ns mainGlobals mg→fD l.prog w (K w.params) mg base CX0 13 fa fd ["_law_script"] (spLaw (K w.params))) :
  PySem.W.WalkO q loose XP YP l.row.toRowW d [] (fun f vs=>PySem.call f vs):=
 L2.walk_of (n:=63) (k:=13) (x := "_law_script") (CX:=fun _=>CX0) (sp:=fun w=>spLaw (K w.params)) hn (by decide) hdf ⟨fun _=>rfl,by decide,by decide⟩ hY F (fun _ _ a ns hl hO hS=>⟨a,ns,rfl,hS,hO,hl,fun _=>rfl⟩) fun _ _ _ _ _ z=>z
local macro_rules | `(tactic| trivial) => `(tactic| with_reducible exact Sm.lit (by decide))
local macro_rules | `(tactic| trivial) => `(tactic| with_reducible exact Sm.zero)
local macro_rules | `(tactic| trivial) => `(tactic| with_reducible exact Sm.neg (by trivial))
local macro_rules | `(tactic| trivial) => `(tactic| with_reducible exact Sm.sub (by trivial) (by trivial))
local macro_rules | `(tactic| trivial) => `(tactic| with_reducible exact Sm.add (by trivial) (by trivial))
local macro_rules | `(tactic| trivial) => `(tactic| with_reducible exact Sm.mul (by trivial) (by trivial))
local macro_rules | `(tactic| trivial) => `(tactic| with_reducible assumption)
theorem set_c (h:Gh)(n:Nat)(c:Cell):(h.set n c).c n=some c:=by show (if n=n then some c else h.c n)=some c;rw [if_pos rfl]
theorem vN {h:Gh}{n m:Nat}{c:Cell}(e:m≠n):(h.set n c).c m=h.c m:=by show (if m=n then some c else h.c m)=_;rw [if_neg e]
theorem new_c (h:Gh)(c:Cell):(h.new c).c h.nx=some c:=by show (if h.nx=h.nx then some c else h.c h.nx)=some c;rw [if_pos rfl]
theorem rN {h:Gh}{m:Nat}{c:Cell}(e:m≠h.nx):(h.new c).c m=h.c m:=by show (if m=h.nx then some c else h.c m)=_;rw [if_neg e]
theorem view_loc {h:Gh}{n:Nat}{ws:List W}(e:h.c n=some (.lst ws)):view h (.loc n)=some ws:=by simp only [view,dR,e]
theorem uL {a b:Int}(h:0<b):a.fmod b=a % b:=Int.fmod_eq_emod_of_nonneg a (Int.le_of_lt h)
theorem oH {a b:Int}(h:0<b):a.fdiv b=a / b:=Int.fdiv_eq_ediv_of_nonneg a (Int.le_of_lt h)
theorem by2_t {A B:Prop}{c:Bool}(e:c=true)(h:A):by2 c A B:=by subst e;exact h
theorem by2_d {c:Prop} [Decidable c] {A B:Prop} (h1:c→A) (h2:¬ c→B):by2 (decide c) A B:=by
 by_cases h:c
 ·rw [decide_eq_true h];exact h1 h
 ·rw [decide_eq_false h];exact h2 h
theorem cP {ws ws0:List W}{g:MG}{b:MS}{D:bI}(I:Nat→Sw→Gh→Prop)
  (step:∀ (i:Nat) (w:W) (σ : Sw) (h:Gh) (N:Sw→Gh→Prop),(∀ σ' h',I (i+1) σ' h'→N σ' h')→ws[i]?=some w→I i σ h→g w σ h fun σ1 h1=>b { D with nx:=N,ct:=N,bk:=D.nx } σ1 h1)
  (fin:∀ σ h,I ws.length σ h→D.nx σ h):∀ {σ : Sw} {h:Gh},I 0 σ h→fW ⟨ws0,none⟩ g b D ws σ h:=by
 induction ws generalizing I with
 | nil=>intro σ h h0;exact fin σ h h0
 | cons w ws ih=>
  intro σ h h0
  refine step 0 w σ h _ (fun σ' h' q=>?_) rfl h0
  exact ih (fun i=>I (i+1)) (fun i w σ h N hN e hi=>step (i+1) w σ h N hN (by simpa using e) hi) (fun σ h q=>fin σ h q) q
theorem jX {ws ws0:List W}{own:W→Option (List W)}{ix:List Nat}{tt:MT}{te:ME}{σ : Sw}{Q:WK}(I:Nat→List W→Gh→Prop)
  (step:∀ (i:Nat) (w:W) (acc:List W) (h:Gh) (N:List W→Gh→Prop),(∀ acc' h',I (i+1) acc' h'→N acc' h')→ws[i]?=some w→I i acc h →
   ∃ vs,own w=some vs∧tt (vs.map some++lG ix σ) h fun c h1=>by2 c (te (vs.map some++lG ix σ) h1 fun v h2=>N (acc++[v]) h2) (N acc h1))
  (fin:∀ acc h,I ws.length acc h→Q (.lst acc) h):∀ {acc:List W} {h:Gh},I 0 acc h→ni ⟨ws0,none⟩ own ix tt te σ Q ws acc h:=by
 induction ws generalizing I with
 | nil=>intro acc h h0;exact fin acc h h0
 | cons w ws ih=>
  intro acc h h0
  obtain ⟨vs,ev,q⟩:=step 0 w acc h _ (fun acc' h' q=>ih (fun i=>I (i+1)) (fun i w acc h N hN e hi=>step (i+1) w acc h N hN (by simpa using e) hi) (fun acc h q=>fin acc h q) q) rfl h0
  show (match own w with
   | some vs=>_
   | none=>False)
  rw [ev]
  exact q
theorem rngW_get {lo:Int}{n i:Nat}{w:W}(e:(v7 lo n)[i]?=some w):i<n∧w=.int (lo+(i:Int)):=by
 have hi:i<n:=by
  have:=(List.getElem?_eq_some_iff.mp e).1
  simpa [v7] using this
 unfold v7 at e
 rw [List.getElem?_map,List.getElem?_range hi] at e
 exact ⟨hi,(Option.some.inj e).symm⟩
theorem rngW_len {lo:Int}{n:Nat}:(v7 lo n).length=n:=by simp [v7]
theorem jD {ma:MA}{j:Int}{g:MG}{b:MS}{D:bI}{σ : Sw}{h:Gh}(hm:∀ R,ma σ h R=R [.int j] h)(h1:-(2^62)≤j)(h2:j<2^62)(I:Nat→Sw→Gh→Prop)
  (step:∀ (i:Nat) (σ : Sw) (h:Gh) (N:Sw→Gh→Prop),(∀ σ' h',I (i+1) σ' h'→N σ' h')→i<j.toNat→I i σ h→g (.int (i:Int)) σ h fun σ1 h1=>b { D with nx:=N,ct:=N,bk:=D.nx } σ1 h1)
  (fin:∀ σ h,I j.toNat σ h→D.nx σ h) (h0:I 0 σ h):mQ (j8 ma) g b D σ h:=by
 unfold mQ j8
 rw [hm]
 refine rgOk.mk h1 h2 ?_
 refine cP I (fun i w σ h N hN e hi=>?_) (fun σ h q=>fin σ h (by rw [rngW_len] at q;exact q)) h0
 obtain ⟨hlt,rfl⟩:=rngW_get e
 rw [Int.zero_add]
 exact step i σ h N hN hlt hi
theorem atI_ints {ns:List Int}{k:Int}(h0:0≤k)(h1:k<((ns.map W.int).length:Int)):atI (ns.map W.int) k=some (.int (ns.getD k.toNat 0)):=by
 have hk:k.toNat<ns.length:=by rw [List.length_map] at h1;omega
 have e:(ns.map W.int)[k.toNat]?=some (.int (ns.getD k.toNat 0)):=by
  rw [List.getElem?_map,List.getElem?_eq_getElem hk,List.getD_eq_getElem?_getD,List.getElem?_eq_getElem hk];rfl
 have:=mD e
 rwa [show ((k.toNat:Nat):Int)=k by omega] at this
theorem ints_get {ns:List Int}{i:Nat}{w:W}(e:(ns.map W.int)[i]?=some w):∃ n,ns[i]?=some n∧w=.int n:=by
 rw [List.getElem?_map] at e
 cases q:ns[i]? with
 | none=>rw [q] at e;cases e
 | some n=>rw [q] at e;exact ⟨n,rfl,(Option.some.inj e).symm⟩
theorem lE (a b:Int):eqW (.int a) (.int b)=(a==b):=by rw [eqW]
abbrev Tr:=Int×Int×Int
def tl (t:Tr):List Int:=[t.1,t.2.1,t.2.2]
def tw (t:Tr):W:=.tup [.int t.1,.int t.2.1,.int t.2.2]
def sc (k:Int)(t:Tr):Tr:=(t.1*k,t.2.1*k,t.2.2*k)
def crs (p q:Tr):Tr:=(p.2.1*q.2.2 - p.2.2*q.2.1,p.2.2*q.1 - p.1*q.2.2,p.1*q.2.1 - p.2.1*q.1)
def dt3 (p q:Tr):Int:=p.1*q.1+p.2.1*q.2.1+p.2.2*q.2.2
theorem ray {p q:Tr}(hp:p≠(0,0,0))(h:crs p q=(0,0,0)):∃ s t:Int,s≠0∧sc s q=sc t p:=by
 obtain ⟨a,b,c⟩:=p
 obtain ⟨x,y,z⟩:=q
 have h1:b*z - c*y=0:=congrArg (·.1) h
 have h2:c*x - a*z=0:=congrArg (·.2.1) h
 have h3:a*y - b*x=0:=congrArg (·.2.2) h
 by_cases ha:a=0
 ·by_cases hb:b=0
  ·by_cases hc:c=0
   ·exact absurd (by rw [ha,hb,hc]) hp
   ·refine ⟨c,z,hc,?_⟩
    simp only [sc]
    refine Prod.ext ?_ (Prod.ext ?_ ?_) <;> simp only <;> grind
  ·refine ⟨b,y,hb,?_⟩
   simp only [sc]
   refine Prod.ext ?_ (Prod.ext ?_ ?_) <;> simp only <;> grind
 ·refine ⟨a,x,ha,?_⟩
  simp only [sc]
  refine Prod.ext ?_ (Prod.ext ?_ ?_) <;> simp only <;> grind
theorem flat {n p q r:Tr}(hn:n≠(0,0,0))(hp:dt3 n p=0)(hq:dt3 n q=0)(hr:dt3 n r=0):dt3 (crs p q) r=0:=by
 obtain ⟨n1,n2,n3⟩:=n
 obtain ⟨p1,p2,p3⟩:=p
 obtain ⟨q1,q2,q3⟩:=q
 obtain ⟨r1,r2,r3⟩:=r
 simp only [dt3,crs] at *
 generalize hd:(p2*q3 - p3*q2)*r1+(p3*q1 - p1*q3)*r2+(p1*q2 - p2*q1)*r3=d
 have e1:n1*d=0:=by grind
 have e2:n2*d=0:=by grind
 have e3:n3*d=0:=by grind
 by_cases h:d=0
 ·exact h
 ·have f:∀ x:Int,x*d=0→x=0:=fun x e=>by
   rcases Int.mul_eq_zero.mp e with e | e
   ·exact e
   ·exact absurd e h
  exact absurd (by rw [f _ e1,f _ e2,f _ e3]) hn
theorem eq_tw (p q:Tr):eqW (tw p) (tw q)=decide (p=q):=by
 obtain ⟨a,b,c⟩:=p
 obtain ⟨x,y,z⟩:=q
 unfold tw
 rw [eqW,mZ,mZ,mZ,mZ,lE,lE,lE]
 by_cases ha:a=x <;> by_cases hb:b=y <;> by_cases hc:c=z <;> simp [ha,hb,hc]
theorem mj {h:Gh}{n:Nat}{ws:List W}(e:h.c n=some (.lst ws)):dR h (.loc n)=some ws:=by simp only [dR,e]
theorem yJ:∀ bs:List Bool,blsW (bs.map W.bl)=some bs
 | []=>rfl
 | b::bs=>by rw [List.map_cons,blsW,yJ bs];rfl
theorem app_ok {h:Gh}{n:Nat}{us:List W}{w:W}{Q:WK}(e:h.c n=some (.lst us))(hz:us.length<sizeLine)(k:Q .non (h.set n (.lst (us++[w])))):cX (.loc n) [w] h Q:=by
 show (match h.c n with
  | some (Cell.lst us)=>_
  | _=>False)
 rw [e]
 exact ⟨hz,k⟩
theorem c32:(10:Int)^(32:Int).toNat=100000000000000000000000000000000:=by decide
theorem c30:(10:Int)^(30:Int).toNat=1000000000000000000000000000000:=by decide
theorem c9:(10:Int)^(9:Int).toNat=1000000000:=by decide
def sZ (c:MSp):Prop:=∀ {h:Gh} {ns:List Int} {k:Int} {Q:WK} {E:XWK},0≤k→Q (.int (ns.getD k.toNat 0)) h→c [.kls (ns.map .int),.int k] h Q E
theorem w_cell:sZ uT:=by
 intro h ns k Q E h0 q
 show br (decide (k<((ns.map W.int).length:Int))) _ _
 refine br_d (fun hk=>?_) (fun hk=>?_)
 ·conv=>whnf
  rw [atI_ints h0 hk]
  exact q
 ·have e:ns.getD k.toNat 0=0:=by
   rw [List.getD_eq_getElem?_getD,List.getElem?_eq_none (by rw [List.length_map] at hk;omega)];rfl
  rw [e] at q
  exact q
theorem cB (a:Int){b:Int}(h:0<b):0≤a.fmod b∧a.fmod b<b:=by
 rw [uL h];exact ⟨Int.emod_nonneg _ (by omega),Int.emod_lt_of_pos _ h⟩
def qD (c:MSp):Prop:=∀ {h:Gh} {ns:List Int} {k many:Int} {Q:WK} {E:XWK},0≤k→k≤1000→0≤many→many≤1000 →
 (∀ xs:List Int,(xs.length:Int)=many→Q (.lst (xs.map .int)) h)→c [.kls (ns.map .int),.int k,.int many] h Q E
theorem w_draws {cl:MSp}(hcl:sZ cl):qD (qN cl):=by
 intro h ns k many Q E k0 k1 m0 m1 q
 show cl [.kls (ns.map .int),.int k] h _ _
 refine hcl k0 ?_
 generalize ns.getD k.toNat 0=left
 have p62:(2:Int)^62=4611686018427387904:=by decide
 refine And.intro (.of (m:=64) (n:=10) (.lit rfl) (iM (by omega) (by omega)) (by decide) (by decide)) ?_
 refine And.intro (.of (m:=64) (n:=10) (.lit rfl) (iM (by omega) (by omega)) (by decide) (by decide)) ?_
 refine And.intro (show (4294967291:Int)≠0 by decide) ?_
 generalize decide (107*many<(Builtin.Int.intBits left:Nat))=free
 obtain ⟨s0,s1⟩:=cB (left+7919*k+11) (b:=4294967291) (by decide)
 generalize (left+7919*k+11).fmod 4294967291=seed at *
 dsimp only [nName,cg,cO,ql,bw]
 refine iz.mk (by decide) ?_
 have f32:(10:Int)^(32:Int).toNat≠0:=by rw [c32];decide
 have s32:Sm 8000 ((10:Int)^(32:Int).toNat):=by rw [c32];unfold Sm;decide +kernel
 refine jD (j:=many) (fun _=>rfl) (by omega) (by omega) (fun i σ h'=>∃ (xs:List Int) (left seed:Int) (o7 o8:Option W),xs.length=i∧0≤seed∧seed<4294967291∧h'.c h.nx=some (.lst (xs.map .int))∧(∀ n,n≠h.nx→h'.c n=h.c n) ∧
  σ = [some (.kls (ns.map .int)),some (.int k),some (.int many),some (.int left),some (.bl free),some (.int seed),some (.loc h.nx),o7,o8]) ?_ ?_ ⟨[],left,seed,none,none,rfl,s0,s1,new_c _ _,fun n hn=>rN hn,rfl⟩
 ·rintro i σ h' N hN hi ⟨xs,left,seed,o7,o8,hl,s0,s1,hc,ho,rfl⟩
  have hi:(i:Int)<many:=by omega
  have sz:(xs.map W.int).length<sizeLine:=by rw [List.length_map,hl];exact Nat.lt_of_lt_of_le (show i<1000 by omega) (by decide)
  have app:∀ (x:Int) (left' seed':Int) (o7 o8:Option W),0≤seed'→seed'<4294967291→N [some (.kls (ns.map .int)),some (.int k),some (.int many),some (.int left'),some (.bl free),some (.int seed'),some (.loc h.nx),o7,o8] (h'.set h.nx (.lst (xs.map .int++[.int x]))):=by
   intro x left' seed' o7 o8 h0 h1
   refine hN _ _ ⟨xs++[x],left',seed',o7,o8,by simp [hl],h0,h1,by rw [set_c];simp,fun n hn=>by rw [vN hn];exact ho n hn,rfl⟩
  refine ⟨fun _=>?_,fun _=>?_⟩
  ·show (match h'.c h.nx with
    | some (Cell.lst us)=>_
    | _=>False)
   rw [hc]
   refine And.intro ⟨by decide,by decide,by decide⟩ (And.intro f32 ?_)
   show (match h'.c h.nx with
    | some (Cell.lst us)=>_
    | _=>False)
   rw [hc]
   refine And.intro sz ?_
   refine And.intro ⟨by decide,by decide,by decide⟩ (And.intro ⟨f32,8000,by decide,s32⟩ ?_)
   exact app _ _ _ _ _ s0 s1
  ·refine And.intro (.of (m:=32) (n:=64) (iM (by omega) (by omega)) (.lit rfl) (by decide) (by decide)) ?_
   refine And.intro (.of (m:=10) (n:=10) (iM (by omega) (by omega)) (iM (by omega) (by omega)) (by decide) (by decide)) ?_
   refine And.intro (show (4294967291:Int)≠0 by decide) ?_
   obtain ⟨t0,t1⟩:=cB (seed*69069+362437+(i:Int)*(i:Int)) (b:=4294967291) (by decide)
   generalize (seed*69069+362437+(i:Int)*(i:Int)).fmod 4294967291=sd at *
   refine And.intro ⟨by decide,64,by decide,.lit rfl⟩ ?_
   have d0:0≤sd.fdiv 4096:=by rw [oH (by decide)];omega
   have d1:sd.fdiv 4096<4294967291:=by rw [oH (by decide)];omega
   refine And.intro (.of (m:=32) (n:=40) (iM (by omega) (by omega)) (iM (by omega) (by omega)) (by decide) (by decide)) ?_
   refine And.intro (show (999999999989:Int)≠0 by decide) ?_
   obtain ⟨n0,n1⟩:=cB (sd*(sd.fdiv 4096+(i:Int)+1)) (b:=999999999989) (by decide)
   generalize (sd*(sd.fdiv 4096+(i:Int)+1)).fmod 999999999989=nr at *
   show (match h'.c h.nx with
    | some (Cell.lst us)=>_
    | _=>False)
   rw [hc]
   have sn:Sm 41 nr:=iM (by omega) (by omega)
   have sn7:Sm 41 (nr+7):=iM (by omega) (by omega)
   refine And.intro (.of sn sn7 (by decide) (by decide)) ?_
   refine And.intro (.of (n:=33) (sn.mul sn7) (iM (by omega) (by omega)) (by decide) (by decide)) ?_
   refine And.intro ⟨by decide,by decide,by decide⟩ (And.intro f32 ?_)
   show (match h'.c h.nx with
    | some (Cell.lst us)=>_
    | _=>False)
   rw [hc]
   exact And.intro sz (app _ _ _ _ _ t0 t1)
 ·rintro σ h' ⟨xs,left,seed,o7,o8,hl,s0,s1,hc,ho,rfl⟩
  refine ⟨fun n c hn e=>by rw [ho n (by omega)];exact e,.inr ⟨h.nx,_,rfl,Nat.le_refl _,hc,?_,q xs (by omega)⟩⟩
  have:∀ ys:List Int,Los h.nx (ys.map W.int):=fun ys=>by
   induction ys with
   | nil=>exact trivial
   | cons y ys ih=>exact ⟨trivial,ih⟩
  exact this xs
def tK (Q:Bool→Gh→Prop):WK:=fun w h=>match w with
 | .bl c=>Q c h
 | _=>False
def uK (Q:Bool→Gh→Prop):WK:=fun w h=>match truW h w with
 | some b=>Q b h
 | none=>False
def aK (b:ME)(σ : Sw)(Q:WK):WK:=fun x h=>match x with
 | .bl true=>b σ h Q
 | .bl false=>Q (.bl false) h
 | _=>False
def oK (b:ME)(σ : Sw)(Q:WK):WK:=fun x h=>match x with
 | .bl false=>b σ h Q
 | .bl true=>Q (.bl true) h
 | _=>False
def nK (Q:WK):WK:=fun x h=>match x with
 | .bl c=>Q (.bl (!c)) h
 | _=>False
def iK (R:Src→Gh→Prop):WK:=fun w h=>match srcA h w with
 | some s=>R s h
 | none=>False
def xK (f:Str→Bool)(Q:WK):WK:=fun w h=>match w with
 | .exc n=>Q (.bl (f n)) h
 | .exa n _=>Q (.bl (f n)) h
 | _=>False
def pK (Q:Option Int→Gh→Prop):WK:=fun w h=>match w with
 | .int i=>Q (some i) h
 | _=>False
def forK (g:MG)(b:MS)(D:bI)(σ : Sw):Src→Gh→Prop:=fun s h=>fW s g b D s.ws σ h
def lcK (own:W→Option (List W))(ix:List Nat)(tt:MT)(te:ME)(σ : Sw)(Q:WK):Src→Gh→Prop:=fun s h=>iz s.ws.length (ni s own ix tt te σ Q s.ws [] h)
def rgK (R:Src→Gh→Prop):List W→Gh→Prop:=fun ws h=>match ws with
 | [.int j]=>rgOk j (R ⟨v7 0 j.toNat,none⟩ h)
 | _=>False
def zpK (R:Src→Gh→Prop):List W→Gh→Prop:=fun ws h=>match ws with
 | [x,y]=>(match zipS h x y with
  | some s=>R s h
  | none=>False)
 | _=>False
theorem aO {m u:MS}{D:bI}{σ : Sw}{h:Gh}(x:m { D with nx:=u D } σ h):cg m u D σ h:=x
theorem bY {N b c:Sw→Gh→Prop}{r:WK}{σ : Sw}{h:Gh}(x:N σ h):bI.nx ⟨N,r,b,c⟩ σ h:=x
theorem bk_s {N b c:Sw→Gh→Prop}{r:WK}{σ : Sw}{h:Gh}(x:b σ h):bI.bk ⟨N,r,b,c⟩ σ h:=x
theorem ct_s {N b c:Sw→Gh→Prop}{r:WK}{σ : Sw}{h:Gh}(x:c σ h):bI.ct ⟨N,r,b,c⟩ σ h:=x
theorem yh {N b c:Sw→Gh→Prop}{r:WK}{w:W}{h:Gh}(x:r w h):bI.rt ⟨N,r,b,c⟩ w h:=x
theorem lost_rt {D:bI}{w:W}{h:Gh}(x:D.rt w h):bI.rt (bI.lost D) w h:=x
theorem lost_nx {D:bI}{σ : Sw}{h:Gh}(x:D.nx (σ.map fun _=>none) h):bI.nx (bI.lost D) σ h:=x
theorem eZ {D:bI}{σ : Sw}{h:Gh}(x:D.nx σ h):m9 D σ h:=x
theorem aY {m:ME}{g:MG}{D:bI}{σ : Sw}{h:Gh}(x:m σ h fun w h1=>g w σ h1 D.nx):cO m g D σ h:=x
theorem jN {m:ME}{D:bI}{σ : Sw}{h:Gh}(x:m σ h fun _ h1=>D.nx σ h1):pO m D σ h:=x
theorem cM {m:ME}{D:bI}{σ : Sw}{h:Gh}(x:m σ h D.rt):jV m D σ h:=x
theorem iZ {c:Str}{E:XWK}{D:bI}{σ : Sw}{h:Gh}(x:E ⟨c,[]⟩ h):rT c E D σ h:=x
theorem je {t:MT}{a b:MS}{D:bI}{σ : Sw}{h:Gh}(x:t σ h fun c h1=>br c (a D σ h1) (b D σ h1)):mIfS t a b D σ h:=x
theorem mIf_s {t:MT}{a b:ME}{Q:WK}{σ : Sw}{h:Gh}(x:t σ h fun c h1=>br c (a σ h1 Q) (b σ h1 Q)):mIf t a b σ h Q:=x
theorem mTry_s {i:Nat}{d:Str}{mb:XWK→MS}{mh:MS}{D:bI}{σ : Sw}{h:Gh}(x:mb (fun x h'=>by2 (isX x.cls d) (mh D.lost (σ.set i (some (excW x))) h') False) D σ h):mTry i d mb mh D σ h:=x
theorem eN {n:Nat}{g:MGs}{w:W}{ws:List W}{σ : Sw}{h:Gh}{N:Sw→Gh→Prop}(e:w=.tup ws)(b:Nat.beq ws.length n=true)(x:g ws σ h N):jL n g w σ h N:=by
 subst e
 unfold jL
 dsimp only
 rw [b]
 exact x
theorem nTup2_l {n:Nat}{g:MGs}{w:W}{ws:List W}{σ : Sw}{h:Gh}{N:Sw→Gh→Prop}(e:w=.lst ws)(b:Nat.beq ws.length n=true)(x:g ws σ h N):jL n g w σ h N:=by
 subst e
 unfold jL
 dsimp only
 rw [b]
 exact x
theorem nTup_s {n:Nat}{g:MGs}{w:W}{ws:List W}{σ : Sw}{h:Gh}{N:Sw→Gh→Prop}(e:w=.tup ws)(b:Nat.beq ws.length n=true)(x:g ws σ h N):nTup n g w σ h N:=by
 subst e
 unfold nTup
 dsimp only
 rw [b]
 exact x
theorem bN {g:MG}{r:MGs}{w:W}{ws:List W}{σ : Sw}{h:Gh}{N:Sw→Gh→Prop}(x:g w σ h fun σ1 h1=>r ws σ1 h1 N):fQ g r (w::ws) σ h N:=x
theorem iW {σ : Sw}{h:Gh}{N:Sw→Gh→Prop}(x:N σ h):nNil [] σ h N:=x
theorem aq {i:Nat}{w:W}{σ : Sw}{h:Gh}{Q:WK}(e:σ[i]?=some (some w))(x:Q w h):aD i σ h Q:=by
 unfold aD
 rw [e]
 exact x
theorem d7 {w:W}{σ : Sw}{h:Gh}{Q:WK}(x:Q w h):mC w σ h Q:=x
theorem aV {r:M2}{ma mb:ME}{σ : Sw}{h:Gh}{Q:WK}(x:ma σ h fun a h1=>mb σ h1 fun b h2=>r a b h2 Q):mOp r ma mb σ h Q:=x
theorem mUn_s {r:W→Gh→WK→Prop}{ma:ME}{σ : Sw}{h:Gh}{Q:WK}(x:ma σ h fun a h1=>r a h1 Q):mUn r ma σ h Q:=x
theorem mNeg_s {i:Int}{h:Gh}{Q:WK}(x:Q (.int (-i)) h):mNeg (.int i) h Q:=x
theorem ao {a:ME}{r:MA}{σ : Sw}{h:Gh}{Q:List W→Gh→Prop}(x:a σ h fun w h1=>r σ h1 fun ws h2=>Q (w::ws) h2):au a r σ h Q:=x
theorem aG {σ : Sw}{h:Gh}{Q:List W→Gh→Prop}(x:Q [] h):bw σ h Q:=x
theorem dJ {n:Nat}{P:Prop}(e:Nat.ble n 1000=true)(x:P):iz n P:=by
 unfold iz
 rw [e]
 exact x
theorem jg {t:MA}{σ : Sw}{h:Gh}{Q:WK}(x:t σ h fun ws h1=>iz ws.length (Q (.tup ws) h1)):xW t σ h Q:=x
theorem yQ {t:MA}{σ : Sw}{h:Gh}{Q:WK}(x:t σ h fun ws h1=>iz ws.length (Q (.lst ws) h1)):mLst t σ h Q:=x
theorem aQ {c:MSp}{E:XWK}{ma:MA}{σ : Sw}{h:Gh}{Q:WK}(x:ma σ h fun ws h1=>c ws h1 Q E):bB c E ma σ h Q:=x
theorem fj {r:MC}{ma:MA}{σ : Sw}{h:Gh}{Q:WK}(x:ma σ h fun ws h1=>r ws h1 Q):mCB r ma σ h Q:=x
theorem cD {m:ME}{σ : Sw}{h:Gh}{Q:Bool→Gh→Prop}(x:m σ h (tK Q)):fZ m σ h Q:=x
theorem wQ {c:Bool}{h:Gh}{Q:Bool→Gh→Prop}(x:Q c h):tK Q (.bl c) h:=x
theorem uO {m:ME}{σ : Sw}{h:Gh}{Q:Bool→Gh→Prop}(x:m σ h (uK Q)):mTru m σ h Q:=x
theorem uK_s {w:W}{b:Bool}{h:Gh}{Q:Bool→Gh→Prop}(e:truW h w=some b)(x:Q b h):uK Q w h:=by
 unfold uK
 rw [e]
 exact x
theorem mNot_s {t:MT}{σ : Sw}{h:Gh}{Q:Bool→Gh→Prop}(x:t σ h fun c h1=>Q (!c) h1):mNot t σ h Q:=x
theorem mAnd_s {t u:MT}{σ : Sw}{h:Gh}{Q:Bool→Gh→Prop}(x:t σ h fun c h1=>br c (u σ h1 Q) (Q false h1)):mAnd t u σ h Q:=x
theorem mOr_s {t u:MT}{σ : Sw}{h:Gh}{Q:Bool→Gh→Prop}(x:t σ h fun c h1=>br c (Q true h1) (u σ h1 Q)):mOr t u σ h Q:=x
theorem nT {σ : Sw}{h:Gh}{Q:Bool→Gh→Prop}(x:Q true h):mYes σ h Q:=x
theorem mAndV_s {a b:ME}{σ : Sw}{h:Gh}{Q:WK}(x:a σ h (aK b σ Q)):mAndV a b σ h Q:=x
theorem mOrV_s {a b:ME}{σ : Sw}{h:Gh}{Q:WK}(x:a σ h (oK b σ Q)):mOrV a b σ h Q:=x
theorem mNotV_s {a:ME}{σ : Sw}{h:Gh}{Q:WK}(x:a σ h (nK Q)):mNotV a σ h Q:=x
theorem aK_s {b:ME}{σ : Sw}{h:Gh}{Q:WK}{c:Bool}(x:br c (b σ h Q) (Q (.bl false) h)):aK b σ Q (.bl c) h:=by
 cases c with
 | true=>exact x.1 rfl
 | false=>exact x.2 rfl
theorem oK_s {b:ME}{σ : Sw}{h:Gh}{Q:WK}{c:Bool}(x:br c (Q (.bl true) h) (b σ h Q)):oK b σ Q (.bl c) h:=by
 cases c with
 | true=>exact x.1 rfl
 | false=>exact x.2 rfl
theorem nK_s {h:Gh}{Q:WK}{c:Bool}(x:Q (.bl (!c)) h):nK Q (.bl c) h:=x
theorem mIsX_s {f:Str→Bool}{m:ME}{σ : Sw}{h:Gh}{Q:WK}(x:m σ h (xK f Q)):mIsX f m σ h Q:=x
theorem xK_s {f:Str→Bool}{n:Str}{h:Gh}{Q:WK}(x:Q (.bl (f n)) h):xK f Q (.exc n) h:=x
theorem br_ts {a b:Prop}(x:a):br true a b:=br_t rfl x
theorem br_fs {a b:Prop}(x:b):br false a b:=br_f rfl x
theorem br_nts {a b:Prop}(x:b):br (!true) a b:=br_fs x
theorem br_nfs {a b:Prop}(x:a):br (!false) a b:=br_ts x
theorem nW {a b:Prop}(x:a):by2 true a b:=x
theorem by2_fs {a b:Prop}(x:b):by2 false a b:=x
theorem nF {i j:Int}{h:Gh}{Q:WK}(x:Q (.int (i - j)) h):kSub (.int i) (.int j) h Q:=x
theorem fB {i j:Int}{h:Gh}{Q:WK}(x:Q (.int (i+j)) h):cU (.int i) (.int j) h Q:=x
theorem gk {i j:Int}{h:Gh}{Q:WK}(c:rG i j)(x:Q (.int (i*j)) h):nR (.int i) (.int j) h Q:=⟨c,x⟩
theorem lX {i j:Int}{h:Gh}{Q:WK}(c:vC i j)(x:Q (.int (i.fdiv j)) h):yj (.int i) (.int j) h Q:=⟨c,x⟩
theorem gD {i j:Int}{h:Gh}{Q:WK}(c:j≠0)(x:Q (.int (i.fmod j)) h):m6 (.int i) (.int j) h Q:=⟨c,x⟩
theorem kLt_s {i j:Int}{h:Gh}{Q:WK}(x:Q (.bl (decide (i<j))) h):kLt (.int i) (.int j) h Q:=x
theorem yp {i j:Int}{h:Gh}{Q:WK}(x:Q (.bl (decide (i>j))) h):kGt (.int i) (.int j) h Q:=x
theorem kEq_i {i j:Int}{h:Gh}{Q:WK}(x:Q (.bl (decide (i=j))) h):kEq (.int i) (.int j) h Q:=by
 have e:eqW (.int i) (.int j)=decide (i=j):=lE i j
 show Q (.bl (eqW (.int i) (.int j))) h
 rw [e]
 exact x
theorem oU {i j:Int}{h:Gh}{Q:WK}(x:Q (.bl (decide (i≠j))) h):kNe (.int i) (.int j) h Q:=by
 have e:(!eqW (.int i) (.int j))=decide (i≠j):=by rw [lE];by_cases z:i=j <;> simp [z]
 show Q (.bl (!eqW (.int i) (.int j))) h
 rw [e]
 exact x
theorem kEq_b {i j:Bool}{h:Gh}{Q:WK}(x:Q (.bl (decide (i=j))) h):kEq (.bl i) (.bl j) h Q:=by
 have e:eqW (.bl i) (.bl j)=decide (i=j):=by rw [eqW];cases i <;> cases j <;> rfl
 show Q (.bl (eqW (.bl i) (.bl j))) h
 rw [e]
 exact x
theorem kNe_b {i j:Bool}{h:Gh}{Q:WK}(x:Q (.bl (decide (i≠j))) h):kNe (.bl i) (.bl j) h Q:=by
 have e:(!eqW (.bl i) (.bl j))=decide (i≠j):=by rw [eqW];cases i <;> cases j <;> rfl
 show Q (.bl (!eqW (.bl i) (.bl j))) h
 rw [e]
 exact x
theorem kEq_t {p q:Tr}{h:Gh}{Q:WK}(x:Q (.bl (decide (p=q))) h):kEq (tw p) (tw q) h Q:=by
 show Q (.bl (eqW (tw p) (tw q))) h
 rw [eq_tw]
 exact x
theorem kNe_t {p q:Tr}{h:Gh}{Q:WK}(x:Q (.bl (decide (p≠q))) h):kNe (tw p) (tw q) h Q:=by
 have e:(!eqW (tw p) (tw q))=decide (p≠q):=by rw [eq_tw];by_cases z:p=q <;> simp [z]
 show Q (.bl (!eqW (tw p) (tw q))) h
 rw [e]
 exact x
theorem kEq_0 {p:Tr}{a b c:Int}{h:Gh}{Q:WK}(x:Q (.bl (decide (p=(a,b,c)))) h):kEq (tw p) (.tup [.int a,.int b,.int c]) h Q:=kEq_t (q:=(a,b,c)) x
theorem kNe_0 {p:Tr}{a b c:Int}{h:Gh}{Q:WK}(x:Q (.bl (decide (p≠(a,b,c)))) h):kNe (tw p) (.tup [.int a,.int b,.int c]) h Q:=kNe_t (q:=(a,b,c)) x
theorem jd {x w:W}{i:Int}{ws:List W}{h:Gh}{Q:WK}(e:view h x=some ws)(a:atI ws i=some w)(k:Q w h):kIx x (.int i) h Q:=by
 unfold kIx
 dsimp only
 rw [e]
 dsimp only
 rw [a]
 exact k
theorem kIsi_s {w:W}{T:String}{b:Bool}{h:Gh}{Q:WK}(e:isiW h w T=some b)(x:Q (.bl b) h):kIsi [w,.ty T] h Q:=by
 unfold kIsi
 dsimp only
 rw [e]
 exact x
theorem mU {w:W}{xs:List W}{h:Gh}{Q:WK}(e:view h w=some xs)(x:Q (.int (xs.length:Int)) h):kLen [w] h Q:=by
 unfold kLen
 dsimp only
 rw [e]
 exact x
theorem kE {us:List W}{h:Gh}{Q:WK}(x:Q (.tup us) h):jq [.lst us] h Q:=x
theorem kAny_s {w:W}{us:List W}{bs:List Bool}{h:Gh}{Q:WK}(e:dR h w=some us)(b:blsW us=some bs)(x:Q (.bl (bs.any id)) h):kAny [w] h Q:=by
 unfold kAny
 dsimp only
 rw [e]
 dsimp only
 rw [b]
 exact x
theorem kAll_s {w:W}{us:List W}{bs:List Bool}{h:Gh}{Q:WK}(e:dR h w=some us)(b:blsW us=some bs)(x:Q (.bl (bs.all id)) h):kAll [w] h Q:=by
 unfold kAll
 dsimp only
 rw [e]
 dsimp only
 rw [b]
 exact x
theorem kSum_s {w:W}{us:List W}{ns:List Int}{h:Gh}{Q:WK}(e:dR h w=some us)(b:oA us=some ns)(x:Q (.int ns.sum) h):kSum [w] h Q:=by
 unfold kSum
 dsimp only
 rw [e]
 dsimp only
 rw [b]
 exact x
theorem kAbs_s {i:Int}{h:Gh}{Q:WK}(x:Q (.int (if i<0 then -i else i)) h):kAbs [.int i] h Q:=x
theorem kInt_b {b:Bool}{h:Gh}{Q:WK}(x:Q (.int (if b then 1 else 0)) h):kInt [.bl b] h Q:=x
theorem jT {mi:MI}{g:MG}{b:MS}{D:bI}{σ : Sw}{h:Gh}(x:mi σ h (forK g b D σ)):mQ mi g b D σ h:=x
theorem jP {ws:List W}{o:Option (Nat×List W)}{g:MG}{b:MS}{D:bI}{σ : Sw}{h:Gh}(x:fW ⟨ws,o⟩ g b D ws σ h):forK g b D σ ⟨ws,o⟩ h:=x
theorem mForL_n {ws:List W}{g:MG}{b:MS}{D:bI}{σ : Sw}{h:Gh}(x:D.nx σ h):fW ⟨ws,none⟩ g b D [] σ h:=x
theorem mForL_c {ws r:List W}{w:W}{g:MG}{b:MS}{D:bI}{σ : Sw}{h:Gh}(x:g w σ h fun σ1 h1=>b { D with nx:=fW ⟨ws,none⟩ g b D r,ct:=fW ⟨ws,none⟩ g b D r,bk:=D.nx } σ1 h1):fW ⟨ws,none⟩ g b D (w::r) σ h:=x
theorem j7 {m:ME}{R:Src→Gh→Prop}{σ : Sw}{h:Gh}(x:m σ h (iK R)):nIt m σ h R:=x
theorem xG {w:W}{ws:List W}{o:Option (Nat×List W)}{h:Gh}{R:Src→Gh→Prop}(e:srcA h w=some ⟨ws,o⟩)(x:R ⟨ws,o⟩ h):iK R w h:=by
 unfold iK
 rw [e]
 exact x
theorem sW {ma:MA}{R:Src→Gh→Prop}{σ : Sw}{h:Gh}(x:ma σ h (rgK R)):j8 ma σ h R:=x
theorem rgK_3 {R:Src→Gh→Prop}{h:Gh}(x:R ⟨[.int 0,.int 1,.int 2],none⟩ h):rgK R [.int 3] h:=x
theorem rgK_2 {R:Src→Gh→Prop}{h:Gh}(x:R ⟨[.int 0,.int 1],none⟩ h):rgK R [.int 2] h:=x
theorem nZip_s {ma:MA}{R:Src→Gh→Prop}{σ : Sw}{h:Gh}(x:ma σ h (zpK R)):nZip ma σ h R:=x
theorem zpK_s {a b:W}{as bs:List W}{zs:List W}{R:Src→Gh→Prop}{h:Gh}(e:mJ a=some as)(e':mJ b=some bs)(z:kZ as bs=zs)(x:R ⟨zs,none⟩ h):zpK R [a,b] h:=by
 subst z
 have es:zipS h a b=some ⟨kZ as bs,none⟩:=by unfold zipS;rw [e,e']
 unfold zpK
 dsimp only
 rw [es]
 exact x
theorem zpK_c {n:Nat}{b:W}{as bs:List W}{zs:List W}{R:Src→Gh→Prop}{h:Gh}(e:h.c n=some (.lst as))(e':mJ b=some bs)(z:kZ as bs=zs)(x:R ⟨zs,some (n,as)⟩ h):zpK R [.loc n,b] h:=by
 subst z
 have es:zipS h (.loc n) b=some ⟨kZ as bs,some (n,as)⟩:=by unfold zipS;rw [e'];dsimp only [mJ];rw [e]
 unfold zpK
 dsimp only
 rw [es]
 exact x
theorem zip0 {bs:List W}:kZ [] bs=[]:=by cases bs <;> rfl
theorem zip1 {a:W}{as:List W}:kZ (a::as) []=[]:=rfl
theorem zipC {a b:W}{as bs l:List W}(e:kZ as bs=l):kZ (a::as) (b::bs)=.tup [a,b]::l:=by rw [kZ,e]
theorem pZ {own:W→Option (List W)}{ix:List Nat}{mi:MI}{tt:MT}{te:ME}{σ : Sw}{h:Gh}{Q:WK}(x:mi σ h (lcK own ix tt te σ Q)):mLC own ix mi tt te σ h Q:=x
theorem lcK_s {ws:List W}{o:Option (Nat×List W)}{own:W→Option (List W)}{ix:List Nat}{tt:MT}{te:ME}{σ : Sw}{h:Gh}{Q:WK}(e:Nat.ble ws.length 1000=true)(x:ni ⟨ws,o⟩ own ix tt te σ Q ws [] h):lcK own ix tt te σ Q ⟨ws,o⟩ h:=dJ e x
theorem mLCL_n {ws acc:List W}{own:W→Option (List W)}{ix:List Nat}{tt:MT}{te:ME}{σ : Sw}{h:Gh}{Q:WK}(x:Q (.lst acc) h):ni ⟨ws,none⟩ own ix tt te σ Q [] acc h:=x
theorem mLCL_c {ws r acc vs:List W}{w:W}{own:W→Option (List W)}{ix:List Nat}{tt:MT}{te:ME}{σ : Sw}{h:Gh}{Q:WK}(e:own w=some vs)(x:tt (vs.map some++lG ix σ) h fun c h1=>by2 c (te (vs.map some++lG ix σ) h1 fun v h2=>ni ⟨ws,none⟩ own ix tt te σ Q r (acc++[v]) h2) (ni ⟨ws,none⟩ own ix tt te σ Q r acc h1)):ni ⟨ws,none⟩ own ix tt te σ Q (w::r) acc h:=by
 unfold ni
 show match own w with
  | some vs=>tt (vs.map some++lG ix σ) h fun c h1=>by2 c (te (vs.map some++lG ix σ) h1 fun v h2=>ni ⟨ws,none⟩ own ix tt te σ Q r (acc++[v]) h2) (ni ⟨ws,none⟩ own ix tt te σ Q r acc h1)
  | none=>False
 rw [e]
 exact x
theorem mFn_s {n N:Nat}{body:XWK→MS}{ws:List W}{h:Gh}{Q:WK}{E:XWK}(hl:Nat.beq ws.length n=true)(x:body E { nx:=fun _ h'=>Q .non h',rt:=Q } (ws.map some++List.replicate (N - ws.length) none) h):mFn n N false body ws h Q E:=by
 unfold mFn
 rw [hl]
 exact x
theorem mSl_s {r:W→Option Int→Option Int→Gh→WK→Prop}{m:ME}{l u:MO}{σ : Sw}{h:Gh}{Q:WK}(x:m σ h fun a h1=>l σ h1 fun lo h2=>u σ h2 fun hi h3=>r a lo hi h3 Q):mSl r m l u σ h Q:=x
theorem mPart_s {m:ME}{σ : Sw}{h:Gh}{Q:Option Int→Gh→Prop}(x:m σ h (pK Q)):mPart m σ h Q:=x
theorem pK_s {i:Int}{h:Gh}{Q:Option Int→Gh→Prop}(x:Q (some i) h):pK Q (.int i) h:=x
def p3K (i j k:Nat)(D:bI)(σ : Sw):List W→Gh→Prop:=fun ws h=>match ws with
 | [x,y,z]=>D.nx (((σ.set i (some x)).set j (some y)).set k (some z)) h
 | _=>False
theorem mPar3_s {i j k:Nat}{ta:MA}{D:bI}{σ : Sw}{h:Gh}(x:ta σ h (p3K i j k D σ)):mPar3 i j k ta D σ h:=x
theorem br_len {xs:List W}{n:Int}{a b:Prop}(e:decide ((xs.length:Int)≠n)=false)(x:b):br (decide ((xs.length:Int)≠n)) a b:=br_f e x
theorem br_nall {bs:List Bool}{a b:Prop}(e:bs.all id=true)(x:b):br (!(bs.all id)) a b:=br_f (by rw [e];rfl) x
theorem by2_x {n d:Str}{a b:Prop}(e:isX n d=true)(x:a):by2 (isX n d) a b:=by2_t e x
theorem br_xt {n d:Str}{a b:Prop}(e:isX n d=true)(x:a):br (isX n d) a b:=br_t e x
theorem br_xf {n d:Str}{a b:Prop}(e:isX n d=false)(x:b):br (isX n d) a b:=br_f e x
theorem setZ {α : Type}{a x:α}{l:List α}:(a::l).set 0 x=x::l:=rfl
theorem setS {α : Type}{a x:α}{l l':List α}{n:Nat}(e:l.set n x=l'):(a::l).set (n+1) x=a::l':=by rw [List.set_cons_succ,e]
theorem aF {i:Nat}{w:W}{σ σ':Sw}{h:Gh}{N:Sw→Gh→Prop}(e:σ.set i (some w) = σ')(x:N σ' h):nName i w σ h N:=by
 subst e
 exact x
theorem p3K_v {i j k:Nat}{D:bI}{σ σ1 σ2 σ3:Sw}{h:Gh}{x y z:W}(e1:σ.set i (some x) = σ1)(e2:σ1.set j (some y) = σ2)(e3:σ2.set k (some z) = σ3)(q:D.nx σ3 h):p3K i j k D σ [x,y,z] h:=by
 subst e1 e2 e3
 exact q
def ini (ws:List W)(n:Nat):Sw:=ws.map some++List.replicate (n - ws.length) none
theorem ini0:ini [] 0=[]:=rfl
theorem iniN {n:Nat}{l:Sw}(e:ini [] n=l):ini [] (n+1)=none::l:=by
 subst e
 rfl
theorem iniW {n:Nat}{w:W}{ws:List W}{l:Sw}(e:ini ws n=l):ini (w::ws) (n+1)=some w::l:=by
 subst e
 unfold ini
 rw [List.length_cons,Nat.add_sub_add_right]
 rfl
theorem iG {n N:Nat}{body:XWK→MS}{ws:List W}{σ : Sw}{h:Gh}{Q:WK}{E:XWK}(hl:Nat.beq ws.length n=true)(e:ini ws N = σ)(x:body E { nx:=fun _ h'=>Q .non h',rt:=Q } σ h):mFn n N false body ws h Q E:=by
 subst e
 exact mFn_s hl x
theorem by2_h {i:Nat}{n d:Str}{fs:List (Str×W)}{mh:MS}{D:bI}{σ σ':Sw}{h:Gh}(e:isX n d=true)(s:σ.set i (some (excW ⟨n,fs⟩)) = σ')(x:mh D σ' h):by2 (isX (Xw.mk n fs).cls d) (mh D (σ.set i (some (excW (Xw.mk n fs)))) h) False:=by
 subst s
 exact by2_t e x
theorem mLCM_s {own:W→Option (List W)}{ix:List Nat}{mi:MI}{tt:MT}{te:ME}{σ : Sw}{h:Gh}{Q:WK}(x:mLC own ix mi tt te σ h (thaw Q)):mLCM own ix mi tt te σ h Q:=x
theorem nSub_s {mo mi:ME}{ms:MSet}{w:W}{σ : Sw}{h:Gh}{N:Sw→Gh→Prop}(x:mo σ h fun o h1=>mi σ h1 fun i h2=>ms o i w h2 fun h3=>N σ h3):nSub mo mi ms w σ h N:=x
theorem mForL_cc {ws r us:List W}{n:Nat}{w:W}{g:MG}{b:MS}{D:bI}{σ : Sw}{h:Gh}(e:h.c n=some (.lst us))(x:g w σ h fun σ1 h1=>b { D with nx:=fW ⟨ws,some (n,us)⟩ g b D r,ct:=fW ⟨ws,some (n,us)⟩ g b D r,bk:=D.nx } σ1 h1):fW ⟨ws,some (n,us)⟩ g b D (w::r) σ h:=⟨e,x⟩
theorem mForL_cn {ws us:List W}{n:Nat}{g:MG}{b:MS}{D:bI}{σ : Sw}{h:Gh}(e:h.c n=some (.lst us))(x:D.nx σ h):fW ⟨ws,some (n,us)⟩ g b D [] σ h:=⟨e,x⟩
theorem mLCL_cn {ws us acc:List W}{n:Nat}{own:W→Option (List W)}{ix:List Nat}{tt:MT}{te:ME}{σ : Sw}{h:Gh}{Q:WK}(e:h.c n=some (.lst us))(x:Q (.lst acc) h):ni ⟨ws,some (n,us)⟩ own ix tt te σ Q [] acc h:=⟨e,x⟩
theorem mLCL_cc {ws us r acc vs:List W}{n:Nat}{w:W}{own:W→Option (List W)}{ix:List Nat}{tt:MT}{te:ME}{σ : Sw}{h:Gh}{Q:WK}(ec:h.c n=some (.lst us))(e:own w=some vs)(x:tt (vs.map some++lG ix σ) h fun c h1=>by2 c (te (vs.map some++lG ix σ) h1 fun v h2=>ni ⟨ws,some (n,us)⟩ own ix tt te σ Q r (acc++[v]) h2) (ni ⟨ws,some (n,us)⟩ own ix tt te σ Q r acc h1)):ni ⟨ws,some (n,us)⟩ own ix tt te σ Q (w::r) acc h:=by
 unfold ni
 refine ⟨ec,?_⟩
 show match own w with
  | some vs=>tt (vs.map some++lG ix σ) h fun c h1=>by2 c (te (vs.map some++lG ix σ) h1 fun v h2=>ni ⟨ws,some (n,us)⟩ own ix tt te σ Q r (acc++[v]) h2) (ni ⟨ws,some (n,us)⟩ own ix tt te σ Q r acc h1)
  | none=>False
 rw [e]
 exact x
theorem iK_c {n:Nat}{ws:List W}{h:Gh}{R:Src→Gh→Prop}(e:h.c n=some (.lst ws))(x:R ⟨ws,some (n,ws)⟩ h):iK R (.loc n) h:=xG (by simp only [srcA,e]) x
theorem kIx_c {n:Nat}{w:W}{i:Int}{ws:List W}{h:Gh}{Q:WK}(e:h.c n=some (.lst ws))(a:atI ws i=some w)(k:Q w h):kIx (.loc n) (.int i) h Q:=jd (view_loc e) a k
theorem rJ {n N:Nat}{body:XWK→MS}{ws:List W}{σ : Sw}{h:Gh}{Q:WK}{E:XWK}(hl:Nat.beq ws.length n=true)(e:ini ws N = σ)(x:body E { nx:=fun _ h'=>rK true h .non h' Q,rt:=fun w h'=>rK true h w h' Q } σ h):mFn n N true body ws h Q E:=by
 subst e
 unfold mFn
 rw [hl]
 exact x
theorem kAddA_l {a b:List W}{h:Gh}{Q:WK}(e:Nat.ble (a.length+b.length) 1000=true)(x:Q (.lst (a++b)) h):cU (.lst a) (.lst b) h Q:=dJ e x
theorem kIs_b {a b:Bool}{h:Gh}{Q:WK}(x:Q (.bl (a==b)) h):kIs (.bl a) (.bl b) h Q:=x
theorem kIsnt_b {a b:Bool}{h:Gh}{Q:WK}(x:Q (.bl (!(a==b))) h):kIsnt (.bl a) (.bl b) h Q:=x
theorem kEq_s {a b:Str}{h:Gh}{Q:WK}(x:Q (.bl (decide (a=b))) h):kEq (.str a) (.str b) h Q:=by
 have e:eqW (.str a) (.str b)=decide (a=b):=by rw [eqW];by_cases z:a=b <;> simp [z]
 show Q (.bl (eqW (.str a) (.str b))) h
 rw [e]
 exact x
theorem kNe_s {a b:Str}{h:Gh}{Q:WK}(x:Q (.bl (decide (a≠b))) h):kNe (.str a) (.str b) h Q:=by
 have e:(!eqW (.str a) (.str b))=decide (a≠b):=by rw [eqW];by_cases z:a=b <;> simp [z]
 show Q (.bl (!eqW (.str a) (.str b))) h
 rw [e]
 exact x
theorem br_any {bs:List Bool}{a b:Prop}(e:bs.any id=false)(x:b):br (bs.any id) a b:=br_f e x
local macro_rules | `(tactic| rfl') => `(tactic| repeat (first
 | with_reducible refine aO ?_ | with_reducible refine aY ?_ | with_reducible refine aQ ?_ | with_reducible refine ao ?_ | with_reducible refine aG ?_
 | ((with_reducible apply aq);exact rfl) | with_reducible refine d7 ?_ | with_reducible refine aV ?_ | with_reducible refine aF (by repeat (first | with_reducible exact setZ | with_reducible apply setS)) ?_ | with_reducible refine lost_rt ?_ | with_reducible refine lost_nx ?_ | with_reducible refine bY ?_ | with_reducible refine yh ?_ | with_reducible refine bk_s ?_ | with_reducible refine ct_s ?_
 | with_reducible refine je ?_ | with_reducible refine mIf_s ?_ | with_reducible refine cM ?_ | with_reducible refine jN ?_ | with_reducible refine eZ ?_ | with_reducible refine mTry_s ?_ | with_reducible refine iZ ?_
 | with_reducible refine cD ?_ | with_reducible refine wQ ?_ | with_reducible refine uO ?_ | ((with_reducible apply uK_s);exact rfl) | with_reducible refine mNot_s ?_ | with_reducible refine mAnd_s ?_ | with_reducible refine mOr_s ?_ | with_reducible refine nT ?_
 | with_reducible refine mAndV_s ?_ | with_reducible refine mOrV_s ?_ | with_reducible refine mNotV_s ?_ | with_reducible refine aK_s ?_ | with_reducible refine oK_s ?_ | with_reducible refine nK_s ?_ | with_reducible refine mIsX_s ?_ | with_reducible refine xK_s ?_
 | with_reducible refine br_ts ?_ | with_reducible refine br_fs ?_ | with_reducible refine br_nts ?_ | with_reducible refine br_nfs ?_ | with_reducible refine nW ?_ | with_reducible refine by2_fs ?_
 | with_reducible refine jg ?_ | with_reducible refine yQ ?_ | ((with_reducible apply dJ);exact rfl) | with_reducible refine fj ?_ | with_reducible refine mUn_s ?_ | with_reducible refine mNeg_s ?_
 | ((with_reducible apply eN);exact rfl;exact rfl) | ((with_reducible apply nTup2_l);exact rfl;exact rfl) | ((with_reducible apply nTup_s);exact rfl;exact rfl) | with_reducible refine bN ?_ | with_reducible refine iW ?_
 | with_reducible refine nF ?_ | with_reducible refine fB ?_ | ((with_reducible apply gk);exact rG.of (by trivial) (by trivial) (by omega) (by omega)) | with_reducible refine kLt_s ?_ | with_reducible refine yp ?_
 | with_reducible refine kEq_i ?_ | with_reducible refine oU ?_ | with_reducible refine kEq_b ?_ | with_reducible refine kNe_b ?_ | with_reducible refine kEq_t ?_ | with_reducible refine kNe_t ?_ | with_reducible refine kEq_0 ?_ | with_reducible refine kNe_0 ?_
 | ((with_reducible apply jd);exact rfl;exact rfl) | ((with_reducible apply kIsi_s);exact rfl) | ((with_reducible apply mU);exact rfl) | with_reducible refine kE ?_ | ((with_reducible apply kAny_s);exact rfl;exact rfl) | ((with_reducible apply kAll_s);exact rfl;exact rfl) | ((with_reducible apply kSum_s);exact rfl;exact rfl) | with_reducible refine kInt_b ?_ | with_reducible refine kAbs_s ?_
 | with_reducible refine jT ?_ | with_reducible refine jP ?_ | with_reducible refine mForL_n ?_ | with_reducible refine mForL_c ?_ | with_reducible refine j7 ?_ | ((with_reducible apply xG);exact rfl) | with_reducible refine sW ?_ | with_reducible refine rgK_3 ?_ | with_reducible refine rgK_2 ?_ | with_reducible refine nZip_s ?_ | ((with_reducible apply zpK_s);exact rfl;exact rfl;(repeat (first | with_reducible exact zip0 | with_reducible exact zip1 | with_reducible apply zipC)))
 | with_reducible refine pZ ?_ | ((with_reducible apply lcK_s);exact rfl) | with_reducible refine mLCL_n ?_ | ((with_reducible apply mLCL_c);exact rfl) | ((with_reducible apply iG);exact rfl;repeat (first | with_reducible exact ini0 | with_reducible apply iniW | with_reducible apply iniN)) | with_reducible refine mSl_s ?_ | with_reducible refine mPart_s ?_ | with_reducible refine pK_s ?_ | with_reducible refine mPar3_s ?_ | with_reducible refine p3K_v (by repeat (first | with_reducible exact setZ | with_reducible apply setS)) (by repeat (first | with_reducible exact setZ | with_reducible apply setS)) (by repeat (first | with_reducible exact setZ | with_reducible apply setS)) ?_ | ((with_reducible apply br_len);exact rfl) | ((with_reducible apply br_nall);exact rfl) | ((with_reducible apply by2_h);decide +kernel;(repeat (first | with_reducible exact setZ | with_reducible apply setS))) | ((with_reducible apply by2_x);decide +kernel) | ((with_reducible apply br_xt);decide +kernel) | ((with_reducible apply br_xf);decide +kernel) | with_reducible refine mLCM_s ?_ | with_reducible refine nSub_s ?_ | ((with_reducible apply iK_c);(with_reducible assumption)) | ((with_reducible apply mForL_cc);(with_reducible assumption)) | ((with_reducible apply mForL_cn);(with_reducible assumption)) | ((with_reducible apply mLCL_cn);(with_reducible assumption)) | ((with_reducible apply mLCL_cc);(with_reducible assumption);exact rfl) | ((with_reducible apply kIx_c);(with_reducible assumption);exact rfl) | ((with_reducible apply zpK_c);(with_reducible assumption);exact rfl;(repeat (first | with_reducible exact zip0 | with_reducible exact zip1 | with_reducible apply zipC))) | ((with_reducible apply rJ);exact rfl;(repeat (first | with_reducible exact ini0 | with_reducible apply iniW | with_reducible apply iniN))) | ((with_reducible apply kAddA_l);exact rfl) | with_reducible refine kIs_b ?_ | with_reducible refine kIsnt_b ?_ | with_reducible refine kEq_s ?_ | with_reducible refine kNe_s ?_ | ((with_reducible apply br_any);decide +kernel)))
theorem vg {r:MM}{mo:ME}{ma:MA}{σ : Sw}{h:Gh}{Q:WK}(x:mo σ h fun x h1=>xR h1 x (ma σ h1 fun xs h2=>r x xs h2 Q)):mBMr r mo ma σ h Q:=x
theorem oZ {n:Nat}{us:List W}{h:Gh}{P:Prop}(e:h.c n=some (.lst us))(p:P):xR h (.loc n) P:=by
 simp only [xR,e]
 exact p
theorem pG {ma:MA}{ws:List W}{σ : Sw}{h:Gh}{Q:WK}(hm:∀ R,ma σ h R=R ws h)(hz:Nat.ble ws.length 1000=true)(x:∀ g:Gh,g.c h.nx=some (.lst ws)→(∀ n,n≠h.nx→g.c n=h.c n)→g.nx=h.nx+1→Q (.loc h.nx) g):ql ma σ h Q:=by
 unfold ql
 rw [hm]
 exact dJ hz (x _ (new_c _ _) (fun _ e=>rN e) rfl)
theorem app_g {h:Gh}{n:Nat}{us:List W}{w:W}{Q:WK}(e:h.c n=some (.lst us))(hz:us.length≤1000)(k:∀ g:Gh,g.c n=some (.lst (us++[w]))→(∀ m,m≠n→g.c m=h.c m)→g.nx=h.nx→Q .non g):cX (.loc n) [w] h Q:=
 app_ok e (Nat.lt_of_le_of_lt hz (by decide)) (k _ (set_c _ _ _) (fun _ e=>vN e) rfl)
def rng (a m:Nat):List Nat:=List.range' a (m - a)
theorem mem_rng {a m x:Nat}:x∈rng a m↔a≤x∧x<m:=by
 unfold rng
 rw [List.mem_range'_1]
 omega
theorem rngW_rng (a m:Nat):v7 (a:Int) ((m:Int) - (a:Int)).toNat=(rng a m).map fun x:Nat=>W.int (x:Int):=by
 unfold v7 rng
 rw [List.range'_eq_map_range,List.map_map,show ((m:Int) - (a:Int)).toNat=m - a by omega]
 refine List.map_congr_left fun x _=>?_
 simp
theorem yW (m:Nat):v7 0 ((m:Nat):Int).toNat=(rng 0 m).map fun x:Nat=>W.int (x:Int):=by
 have:=rngW_rng 0 m
 rw [show ((m:Int) - ((0:Nat):Int)).toNat=((m:Nat):Int).toNat by omega] at this
 exact this
theorem rgK_s {R:Src→Gh→Prop}{h:Gh}{m:Nat}(h2:m≤1000)(x:R ⟨(rng 0 m).map fun x:Nat=>W.int (x:Int),none⟩ h):rgK R [.int (m:Int)] h:=by
 rw [←yW] at x
 exact rgOk.mk (by omega) (by omega) x
def nxt (l:List Nat):Nat:=match l.getLast? with
 | none=>0
 | some x=>x+1
def grow (m:Nat)(l:List Nat):List (List Nat):=(rng (nxt l) m).map fun p=>l++[p]
theorem rng_get {a m i x:Nat}(e:(rng a m)[i]?=some x):x=a+i∧x<m:=by
 have hx:=mem_rng.mp (List.mem_of_getElem? e)
 unfold rng at e
 have hl:=(List.getElem?_eq_some_iff.mp e).1
 rw [List.length_range'] at hl
 rw [List.getElem?_eq_getElem (by rw [List.length_range'];exact hl),List.getElem_range'] at e
 have:=Option.some.inj e
 omega
abbrev Tm:=List Int×Int
def tmW (t:Tm):W:=.tup [.tup (t.1.map .int),.int t.2]
def smW (ts:List Tm):W:=.tup (ts.map tmW)
def Ge (h h':Gh):Prop:=h.nx≤h'.nx∧∀ n,n<h.nx→h'.c n=h.c n
def Pw (ps:List Int):Prop:=∀ p∈ps,0≤p∧p≤60
def WF (L m:Nat)(ts:List Tm):Prop:=∀ t∈ts,t.1.length=L∧t.2≠0∧Sm m t.2∧Pw t.1
theorem vA {i j:Int}{h:Gh}{Q:WK}(c:CPow i j)(x:Q (.int (i^j.toNat)) h):kPow (.int i) (.int j) h Q:=⟨c,x⟩
def PowX (c0:MSp):Prop:=∀ {h:Gh} {x:Int} {L mo:Nat} {Q:WK} {E:XWK},L≤8→mo≤60→(∀ ps:List Int,ps.length=L→Pw ps→(∀ p∈ps,p≤(mo:Int))→Q (.tup (ps.map .int)) h)→c0 [.int x,.int (L:Int),.int (mo:Int)] h Q E
theorem lV (n:Nat):∀ l:List Int,Los n (l.map .int)
 | []=>by simp [Los]
 | x::l=>by rw [List.map_cons,Los];exact ⟨by simp [Lo],lV n l⟩
theorem w_powers:PowX jG:=by
 intro h x L mo Q E hL hmo q
 unfold jG
 refine rJ rfl (σ:=[some (.int x),some (.int (L:Int)),some (.int (mo:Int)),none,none]) rfl ?_
 refine aO (aY (pG (ws:=[]) (fun R=>rfl) rfl fun g eg og xg=>?_))
 refine aF (σ':=[some (.int x),some (.int (L:Int)),some (.int (mo:Int)),some (.loc h.nx),none]) rfl (bY (aO ?_))
 refine jD (j:=(L:Int)) (fun _=>rfl) (by omega) (by omega) (fun i σ h'=>∃ (y:Int) (ps:List Int) (s4:Option W),σ = [some (.int y),some (.int (L:Int)),some (.int (mo:Int)),some (.loc h.nx),s4]∧ps.length=i∧(∀ p∈ps,0≤p∧p≤(mo:Int))∧h'.c h.nx=some (.lst (ps.map .int))∧∀ n,n≠h.nx→h'.c n=h.c n) ?_ ?_ ⟨x,[],none,rfl,rfl,fun _ h=>(nomatch h),eg,og⟩
 ·rintro i σ h' N hN hi ⟨y,ps,s4,rfl,e1,e0,e2,e3⟩
  refine aF (σ':=[some (.int y),some (.int (L:Int)),some (.int (mo:Int)),some (.loc h.nx),some (.int (i:Int))]) rfl ?_
  refine aO (jN (vg (aq rfl (oZ e2 ?_))))
  rfl'
  refine gD (by omega) ?_
  rfl'
  refine app_g e2 (by rw [List.length_map];omega) fun g2 a1 a2 a3=>?_
  rfl'
  refine lX ⟨by omega,64,by decide,(iM (n:=20) (by omega) (by omega)).mono (by decide)⟩ ?_
  rfl'
  obtain ⟨b0,b1⟩:=cB y (b:=(mo:Int)+1) (by omega)
  exact hN _ _ ⟨_,ps++[y.fmod ((mo:Int)+1)],_,rfl,by simp [e1],fun p hp=>by
   rcases List.mem_append.mp hp with hp | hp
   ·exact e0 p hp
   ·rw [List.mem_singleton.mp hp];omega,by rw [a1];simp,fun n hn=>by rw [a2 n hn];exact e3 n hn⟩
 ·rintro σ h' ⟨y,ps,s4,rfl,e1,e0,e2,e3⟩
  unfold j4
  refine bY (cM (fj (ao (aq rfl (aG ?_)))))
  show (match dR h' (.loc h.nx) with
   | some us=>_
   | none=>False)
  rw [mj e2]
  exact ⟨fun n c hn ec=>by rw [e3 n (by omega)];exact ec,.inl ⟨by rw [Lo];exact lV _ _,q ps (by omega) (fun p hp=>⟨(e0 p hp).1,Int.le_trans (e0 p hp).2 (by omega)⟩) fun p hp=>(e0 p hp).2⟩⟩
def LNumX (c0:MSp):Prop:=∀ {h:Gh} {x:Int} {Q:WK} {E:XWK},(∀ n:Int,Sm 101 n→Q (.int n) h)→c0 [.int x] h Q E
theorem zE:LNumX jF:=by
 intro h x Q E q
 have b1:=cB (x.fdiv 3) (b:=7) (by decide)
 have b2:=cB (x.fdiv 3) (b:=201) (by decide)
 have b3:=cB (x.fdiv 3) (b:=2*(10:Int)^(30:Int).toNat) (by decide)
 have c3:=cB x (b:=3) (by decide)
 have q1:=q ((x.fdiv 3).fmod 7 - 3) (iM (by omega) (by omega))
 have q2:=q ((x.fdiv 3).fmod 201 - 100) (iM (by omega) (by omega))
 have q3:=q ((x.fdiv 3).fmod (2*(10:Int)^(30:Int).toNat) - (10:Int)^(30:Int).toNat) (by
  rw [c30] at b3 ⊢
  exact Sm.le (i:=1000000000000000000000000000000) (by unfold Sm;decide +kernel) (by omega))
 have dv:vC x 3:=⟨by decide,64,by decide,.lit rfl⟩
 unfold jF
 rfl'
 refine lX dv ?_
 rfl'
 refine gD (by decide) ?_
 rfl'
 refine lX dv ?_
 rfl'
 refine gD (by decide) ?_
 rfl'
 refine lX dv ?_
 rfl'
 refine vA ⟨by decide,by decide,by decide⟩ ?_
 have t0:(10:Int)^(30:Int).toNat≠0:=by rw [c30];decide
 have t1:Sm 8000 ((10:Int)^(30:Int).toNat):=by rw [c30];unfold Sm;decide +kernel
 generalize hT:(10:Int)^(30:Int).toNat=T at *
 refine gk (.of (m:=64) (n:=8000) (.lit rfl) t1 (by decide) (by decide)) ?_
 refine gD (fun e=>t0 (by omega)) ?_
 refine aV (d7 (d7 (vA ⟨by decide,by decide,by decide⟩ ?_)))
 rw [hT]
 refine nF ?_
 rfl'
 refine gD (by decide) ?_
 have:x.fmod 3=0∨x.fmod 3=1∨x.fmod 3=2:=by omega
 rcases this with e | e | e <;> rw [e]
 ·exact jd rfl rfl q1
 ·exact jd rfl rfl q2
 ·exact jd rfl rfl q3
def kvW (ts:List Tm):List (List Int×W):=ts.map fun t=>(t.1,.int t.2)
def oR (ts:List Tm)(k:List Int)(n:Int):List Tm:=if ts.any (fun t=>decide (t.1=k)) then ts.map (fun t=>if t.1=k then (t.1,n) else t) else ts++[(k,n)]
theorem vP:∀ (ts:List Tm) (k:List Int),tU (kvW ts) k=((ts.find? fun t=>decide (t.1=k)).map fun t=>W.int t.2)
 | [],k=>rfl
 | t::ts,k=>by
  show tU ((t.1,.int t.2)::kvW ts) k=_
  rw [vZ,List.find?_cons,vP ts k]
  by_cases e:t.1=k
  ·simp [e]
  ·simp [e]
theorem put_kv (ts:List Tm)(k:List Int)(n:Int):putT (kvW ts) k (.int n)=kvW (oR ts k n):=by
 have e:(tU (kvW ts) k).isSome=ts.any fun t=>decide (t.1=k):=by
  rw [vP,Option.isSome_map,Bool.eq_iff_iff,List.find?_isSome,List.any_eq_true]
 unfold putT oR
 rw [e]
 by_cases c:(ts.any fun t=>decide (t.1=k))=true
 ·rw [if_pos c,if_pos c]
  unfold kvW
  rw [List.map_map,List.map_map]
  refine List.map_congr_left fun t _=>?_
  simp only [Function.comp]
  by_cases e:t.1=k
  ·rw [if_pos e,if_pos e]
  ·rw [if_neg e,if_neg e]
 ·rw [if_neg c,if_neg c]
  simp [kvW]
theorem put_in {ts:List Tm}{k:List Int}{n:Int}{t:Tm}(h:t∈oR ts k n):t∈ts∨t=(k,n):=by
 unfold oR at h
 split at h
 ·obtain ⟨u,hu,rfl⟩:=List.mem_map.mp h
  by_cases e:u.1=k
  ·rw [if_pos e,e];exact .inr rfl
  ·rw [if_neg e];exact .inl hu
 ·rcases List.mem_append.mp h with h | h
  ·exact .inl h
  ·exact .inr (List.mem_singleton.mp h)
theorem tO (ts:List Tm)(k:List Int)(n:Int):(oR ts k n).length≤ts.length+1:=by
 unfold oR
 split
 ·rw [List.length_map];omega
 ·simp
theorem u0 (k:List Int):tKey (.tup (k.map .int))=some k:=by
 show oA (k.map .int)=some k
 induction k with
 | nil=>rfl
 | cons a k ih=>rw [List.map_cons];simp [oA,ih]
theorem setT_g {h:Gh}{n:Nat}{ts:List Tm}{k:List Int}{x:Int}{N:Gh→Prop}(e:h.c n=some (.dtt (kvW ts)))(hz:ts.length≤990)(q:∀ g:Gh,g.c n=some (.dtt (kvW (oR ts k x)))→(∀ m,m≠n→g.c m=h.c m)→g.nx=h.nx→N g):wL (.loc n) (.tup (k.map .int)) (.int x) h N:=by
 unfold wL
 rw [u0]
 dsimp only
 rw [e]
 dsimp only
 refine iz.mk (Nat.le_trans (m:=1000) (by unfold kvW;rw [List.length_map];omega) (by decide)) ?_
 rw [put_kv]
 exact q _ (set_c _ _ _) (fun _ e=>vN e) rfl
theorem tix_g {h:Gh}{n:Nat}{ts:List Tm}{t:Tm}{k:List Int}{Q:WK}(e:h.c n=some (.dtt (kvW ts)))(f:(ts.find? fun t=>decide (t.1=k))=some t)(q:Q (.int t.2) h):zj (.loc n) (.tup (k.map .int)) h Q:=by
 unfold zj
 rw [u0]
 dsimp only
 rw [e]
 dsimp only
 rw [vP,f]
 exact q
theorem mNewT_g {σ : Sw}{h:Gh}{Q:WK}(x:∀ g:Gh,g.c h.nx=some (.dtt (kvW []))→(∀ n,n≠h.nx→g.c n=h.c n)→g.nx=h.nx+1→Q (.loc h.nx) g):mNewT σ h Q:=x _ (new_c _ _) (fun _ e=>rN e) rfl
theorem vI (ts:List Tm)(k:List Int)(n:Int)(nd:(ts.map (·.1)).Nodup):((oR ts k n).map (·.1)).Nodup:=by
 unfold oR
 split
 ·rw [List.map_map]
  have e:(((·.1):Tm→List Int) ∘ fun t:Tm=>if t.1=k then (t.1,n) else t)=(·.1):=by
   funext t
   simp only [Function.comp]
   split <;> rfl
  rw [e]
  exact nd
 ·rename_i c
  rw [List.map_append,List.nodup_append]
  refine ⟨nd,by simp,fun a ha b hb e=>c ?_⟩
  simp only [List.map_cons,List.map_nil,List.mem_singleton] at hb
  obtain ⟨t,ht,e2⟩:=List.mem_map.mp ha
  rw [List.any_eq_true]
  exact ⟨t,ht,by simp [e2,e,hb]⟩
def getM (ts:List Tm)(k:List Int):Int:=((ts.find? fun t=>decide (t.1=k)).map (·.2)).getD 0
def wN (ts:List Tm)(k:List Int)(v:Int):List Tm:=oR ts k (getM ts k+v)
def iy (ts:List Tm)(ks:List (List Int)):List Tm:=(ks.map fun k=>(k,getM ts k)).filter fun t=>decide (t.2≠0)
def lin (f:List Int→Int)(ts:List Tm):Int:=(ts.map fun t=>f t.1*t.2).sum
theorem bR (t:Tm)(ts:List Tm)(k:List Int):getM (t::ts) k=if t.1=k then t.2 else getM ts k:=by
 unfold getM
 rw [List.find?_cons]
 by_cases e:t.1=k
 ·rw [if_pos e,decide_eq_true e];rfl
 ·rw [if_neg e,decide_eq_false e]
theorem getM_app (ts us:List Tm)(k:List Int):getM (ts++us) k=if k∈ts.map (·.1) then getM ts k else getM us k:=by
 induction ts with
 | nil=>simp
 | cons t ts ih=>
  rw [List.cons_append,bR,bR,ih,List.map_cons]
  by_cases e:t.1=k
  ·rw [if_pos e,if_pos e,if_pos (by simp [e])]
  ·rw [if_neg e,if_neg e]
   by_cases m:k∈ts.map (·.1)
   ·rw [if_pos m,if_pos (List.mem_cons_of_mem _ m)]
   ·rw [if_neg m,if_neg (fun q=>by rcases List.mem_cons.mp q with q | q;exact e q.symm;exact m q)]
theorem getM_none {ts:List Tm}{k:List Int}(h:k∉ts.map (·.1)):getM ts k=0:=by
 induction ts with
 | nil=>rfl
 | cons t ts ih=>
  rw [List.map_cons] at h
  rw [bR,if_neg (fun e=>h (by simp [e])),ih fun m=>h (List.mem_cons_of_mem _ m)]
theorem oO {ts:List Tm}{t:Tm}(nd:(ts.map (·.1)).Nodup)(h:t∈ts):getM ts t.1=t.2:=by
 induction ts with
 | nil=>cases h
 | cons u ts ih=>
  rw [List.map_cons,List.nodup_cons] at nd
  rw [bR]
  rcases List.mem_cons.mp h with rfl | h
  ·rw [if_pos rfl]
  ·rw [if_neg (fun e=>nd.1 (by rw [e];exact List.mem_map.mpr ⟨t,h,rfl⟩)),ih nd.2 h]
theorem yw (ts:List Tm)(k:List Int):(ts.any fun t=>decide (t.1=k))=decide (k∈ts.map (·.1)):=by
 rw [Bool.eq_iff_iff,List.any_eq_true,decide_eq_true_iff,List.mem_map]
 constructor
 ·rintro ⟨t,ht,e⟩;exact ⟨t,ht,by simpa using e⟩
 ·rintro ⟨t,ht,e⟩;exact ⟨t,ht,by simpa using e⟩
theorem get_map (ts:List Tm)(k r:List Int)(n:Int):getM (ts.map fun t=>if t.1=k then (t.1,n) else t) r=if r=k∧k∈ts.map (·.1) then n else getM ts r:=by
 induction ts with
 | nil=>simp [getM]
 | cons t ts ih=>
  rw [List.map_cons,bR,ih,bR,List.map_cons]
  by_cases e:t.1=k
  ·rw [if_pos e]
   dsimp only
   by_cases q:t.1=r
   ·rw [if_pos q,if_pos ⟨by rw [←q,e],by simp [e]⟩]
   ·rw [if_neg q,if_neg q,if_neg (fun z=>q (by rw [e,z.1])),if_neg (fun z=>q (by rw [e,z.1]))]
  ·rw [if_neg e]
   by_cases q:t.1=r
   ·rw [if_pos q,if_pos q,if_neg (fun z=>e (by rw [q,z.1]))]
   ·rw [if_neg q,if_neg q]
    by_cases m:r=k∧k∈ts.map (·.1)
    ·rw [if_pos m,if_pos ⟨m.1,List.mem_cons_of_mem _ m.2⟩]
    ·rw [if_neg m,if_neg (fun z=>m ⟨z.1,by rcases List.mem_cons.mp z.2 with y | y;exact absurd y.symm e;exact y⟩)]
theorem sU {ts:List Tm}{k:List Int}(n:Int)(h:k∈ts.map (·.1)):oR ts k n=ts.map fun t=>if t.1=k then (t.1,n) else t:=by
 unfold oR
 rw [yw,if_pos (by simpa using h)]
theorem oX {ts:List Tm}{k:List Int}(n:Int)(h:k∉ts.map (·.1)):oR ts k n=ts++[(k,n)]:=by
 unfold oR
 rw [yw,if_neg (by simpa using h)]
theorem put_get (ts:List Tm)(k r:List Int)(n:Int):getM (oR ts k n) r=if r=k then n else getM ts r:=by
 by_cases h:k∈ts.map (·.1)
 ·rw [sU n h,get_map]
  by_cases q:r=k
  ·rw [if_pos q,if_pos ⟨q,h⟩]
  ·rw [if_neg q,if_neg (fun z=>q z.1)]
 ·rw [oX n h,getM_app]
  by_cases q:r=k
  ·rw [if_pos q,q,if_neg h,bR,if_pos rfl]
  ·rw [if_neg q]
   by_cases m:r∈ts.map (·.1)
   ·rw [if_pos m]
   ·rw [if_neg m,bR,if_neg (Ne.symm q),getM_none m]
    rfl
theorem getM_add (ts:List Tm)(k r:List Int)(v:Int):getM (wN ts k v) r=getM ts r+if r=k then v else 0:=by
 unfold wN
 rw [put_get]
 by_cases q:r=k
 ·rw [if_pos q,if_pos q,q]
 ·rw [if_neg q,if_neg q,Int.add_zero]
theorem keys_map (ts:List Tm)(k:List Int)(n:Int):(ts.map fun t=>if t.1=k then (t.1,n) else t).map (·.1)=ts.map (·.1):=by
 rw [List.map_map]
 refine List.map_congr_left fun t _=>?_
 simp only [Function.comp]
 split <;> rfl
theorem qu (ts:List Tm)(k:List Int)(v:Int):(wN ts k v).map (·.1)=if k∈ts.map (·.1) then ts.map (·.1) else ts.map (·.1)++[k]:=by
 unfold wN
 by_cases h:k∈ts.map (·.1)
 ·rw [sU _ h,keys_map,if_pos h]
 ·rw [oX _ h,if_neg h,List.map_append]
  rfl
theorem sy {ts:List Tm}{k:List Int}{v:Int}(nd:(ts.map (·.1)).Nodup):((wN ts k v).map (·.1)).Nodup:=vI ts k _ nd
theorem bf (f:List Int→Int)(t:Tm)(ts:List Tm):lin f (t::ts)=f t.1*t.2+lin f ts:=by unfold lin;simp
theorem iH (f:List Int→Int)(ts us:List Tm):lin f (ts++us)=lin f ts+lin f us:=by unfold lin;simp
theorem yH {f:List Int→Int}{k:List Int}{n:Int}:∀ {ts:List Tm},(ts.map (·.1)).Nodup→k∈ts.map (·.1)→lin f (ts.map fun t=>if t.1=k then (t.1,n) else t)=lin f ts+f k*(n - getM ts k)
 | t::ts,nd,h=>by
  rw [List.map_cons,List.nodup_cons] at nd
  rw [List.map_cons,bf,bf,bR]
  by_cases e:t.1=k
  ·have no:k∉ts.map (·.1):=e ▸ nd.1
   have em:(ts.map fun t=>if t.1=k then (t.1,n) else t)=ts:=by
    refine (List.map_congr_left fun u hu=>?_).trans (List.map_id _)
    rw [if_neg (fun q=>no (by rw [←q];exact List.mem_map.mpr ⟨u,hu,rfl⟩))]
    rfl
   rw [if_pos e,if_pos e,em]
   dsimp only
   rw [e]
   grind
  ·rw [if_neg e,if_neg e,yH nd.2 (by rcases List.mem_cons.mp h with q | q;exact absurd q.symm e;exact q)]
   omega
theorem lin_add {f:List Int→Int}{ts:List Tm}{k:List Int}{v:Int}(nd:(ts.map (·.1)).Nodup):lin f (wN ts k v)=lin f ts+f k*v:=by
 unfold wN
 by_cases h:k∈ts.map (·.1)
 ·rw [sU _ h,yH nd h]
  grind
 ·rw [oX _ h,iH,getM_none h]
  unfold lin
  simp
theorem perm_sum {a b:List Int}(p:a.Perm b):a.sum=b.sum:=by
 induction p with
 | nil=>rfl
 | cons x _ ih=>simp only [List.sum_cons,ih]
 | swap x y l=>simp only [List.sum_cons];omega
 | trans _ _ ih1 ih2=>exact ih1.trans ih2
theorem jK (f:List Int→Int):∀ ts:List Tm,lin f (ts.filter fun t=>decide (t.2≠0))=lin f ts
 | []=>rfl
 | t::ts=>by
  rw [List.filter_cons]
  by_cases e:t.2=0
  ·rw [if_neg (by simp [e]),jK f ts,bf,e]
   omega
  ·rw [if_pos (by simp [e]),bf,bf,jK f ts]
theorem lin_ord {f:List Int→Int}{D:List Tm}{ks:List (List Int)}(nd:(D.map (·.1)).Nodup)(p:ks.Perm (D.map (·.1))):lin f (iy D ks)=lin f D:=by
 unfold iy
 rw [jK]
 unfold lin
 rw [List.map_map,perm_sum (p.map _),List.map_map]
 congr 1
 refine List.map_congr_left fun t ht=>?_
 simp only [Function.comp]
 rw [oO nd ht]
theorem uU:∀ {ks js:List (List Int)},ks.Perm js→ks.Pairwise (· < ·)→js.Pairwise (· < ·)→ks=js
 | [],js,p,_,_=>p.symm.eq_nil.symm
 | a::ks,[],p,_,_=>p.eq_nil
 | a::ks,b::js,p,h1,h2=>by
  have e:a=b:=by
   have ma:a∈b::js:=p.mem_iff.mp (List.mem_cons_self ..)
   have mb:b∈a::ks:=p.mem_iff.mpr (List.mem_cons_self ..)
   rcases List.mem_cons.mp ma with e | ma
   ·exact e
   ·rcases List.mem_cons.mp mb with e | mb
    ·exact e.symm
    ·exact absurd (List.lt_trans ((List.pairwise_cons.mp h1).1 b mb) ((List.pairwise_cons.mp h2).1 a ma)) (List.lt_irrefl _)
  subst e
  rw [uU (List.Perm.cons_inv p) (List.pairwise_cons.mp h1).2 (List.pairwise_cons.mp h2).2]
theorem ord_in {D:List Tm}{ks:List (List Int)}{u:Tm}(nd:(D.map (·.1)).Nodup)(p:∀ k∈ks,k∈D.map (·.1))(h:u∈iy D ks):u∈D∧u.2≠0:=by
 unfold iy at h
 obtain ⟨h1,h2⟩:=List.mem_filter.mp h
 obtain ⟨k,hk,rfl⟩:=List.mem_map.mp h1
 obtain ⟨t,ht,rfl⟩:=List.mem_map.mp (p k hk)
 rw [oO nd ht] at h2 ⊢
 exact ⟨ht,by simpa using h2⟩
theorem zK (D:List Tm)(ks:List (List Int)):(iy D ks).length≤ks.length:=by
 unfold iy
 exact Nat.le_trans (List.length_filter_le _ _) (by rw [List.length_map];exact Nat.le_refl _)
theorem p7 {D:List Tm}{ks:List (List Int)}(h:ks.Pairwise (· < ·)):((iy D ks).map (·.1)).Pairwise (· < ·):=by
 unfold iy
 rw [List.pairwise_map]
 refine List.Pairwise.filter _ ?_
 rw [List.pairwise_map]
 exact h
theorem bT {ks:List (List Int)}(h:ks.Pairwise (· < ·)):ks.Nodup:=by
 unfold List.Nodup
 refine h.imp fun {a b} h e=>?_
 rw [e] at h
 exact List.lt_irrefl _ h
def fr (l:Nat)(x:Int)(r k:List Int):Int:=if r=k.set l 0 then x^(k.getD l 0).toNat else 0
theorem snoc_ind {α : Type}{P:List α→Prop}(h0:P [])(h1:∀ ts t,P ts→P (ts++[t]))(ts:List α):P ts:=by
 have:∀ us:List α,P us.reverse:=fun us=>by
  induction us with
  | nil=>exact h0
  | cons a us ih=>rw [List.reverse_cons];exact h1 _ _ ih
 have:=this ts.reverse
 rwa [List.reverse_reverse] at this
theorem uN {h:Gh}{n:Nat}{ts:List Tm}{k:List Int}{Q:WK}(e:h.c n=some (.dtt (kvW ts)))(m:k∈ts.map (·.1))(q:Q (.int (getM ts k)) h):zj (.loc n) (.tup (k.map .int)) h Q:=by
 cases f:ts.find? fun t=>decide (t.1=k) with
 | none=>
  obtain ⟨t,ht,e⟩:=List.mem_map.mp m
  exact absurd (List.find?_eq_none.mp f t ht) (by simp [e])
 | some t=>
  have eg:getM ts k=t.2:=by unfold getM;rw [f];rfl
  rw [eg] at q
  exact tix_g e f q
theorem lc_ord {h:Gh}{n:Nat}{ts:List Tm}{σ : Sw}{Q:WK}(hv:σ[0]?=some (some (.loc n)))(ec:h.c n=some (.dtt (kvW ts)))(hz:ts.length≤1000)(hs:oJ (ts.map (·.1)))
  (q:∀ ks:List (List Int),ks.Perm (ts.map (·.1))→ks.Pairwise (· < ·)→Q (.lst ((iy ts ks).map tmW)) h) :
  mLC ow1 [0] (nIt (mCB qJ (au (aD 0) bw))) (fZ (mOp kNe (mOp zj (aD 1) (aD 0)) (mC (.int 0)))) (xW (au (aD 0) (au (mOp zj (aD 1) (aD 0)) bw))) σ h Q:=by
 have eb:lG [0] σ = [some (.loc n)]:=by unfold lG;rw [List.map_cons,hv];rfl
 refine pZ (j7 (fj (ao (aq hv (aG ?_)))))
 show (match h.c n with
  | some (.dtt kvs)=>oJ (kvs.map (·.1))∧∀ ks:List (List Int),ks.Perm (kvs.map (·.1))→ks.Pairwise (· < ·)→_
  | _=>False)
 rw [ec]
 have ek:(kvW ts).map (·.1)=ts.map (·.1):=by unfold kvW;rw [List.map_map];rfl
 refine ⟨by rw [ek];exact hs,fun ks pk sk=>?_⟩
 rw [ek] at pk
 have q:=q ks pk sk
 have lk:ks.length=ts.length:=by rw [pk.length_eq,List.length_map]
 refine xG (ws:=ks.map fun k=>.tup (k.map .int)) (o:=none) rfl (iz.mk (Nat.le_trans (m:=1000) (by rw [List.length_map];omega) (by decide)) ?_)
 refine jX (fun i acc h'=>h'=h∧acc=(iy ts (ks.take i)).map tmW) ?_ ?_ ⟨rfl,rfl⟩
 ·rintro i w acc h' N hN e ⟨rfl,rfl⟩
  rw [List.getElem?_map] at e
  cases qe:ks[i]? with
  | none=>rw [qe] at e;cases e
  | some k=>
   rw [qe] at e
   cases e
   have mk:=pk.mem_iff.mp (List.mem_of_getElem? qe)
   refine ⟨[.tup (k.map .int)],rfl,?_⟩
   rw [eb]
   have eo:iy ts (ks.take (i+1))=iy ts (ks.take i)++([(k,getM ts k)].filter fun t:Tm=>decide (t.2≠0)):=by
    unfold iy
    rw [List.take_succ,qe,List.map_append,List.filter_append]
    rfl
   refine cD (aV (aV (aq rfl (aq rfl (uN ec mk (d7 (oU (wQ ?_))))))))
   refine by2_d (fun ne=>?_) fun ne=>?_
   ·refine jg (ao (aq rfl (ao (aV (aq rfl (aq rfl (uN ec mk (aG (dJ rfl ?_)))))))))
    refine hN _ _ ⟨rfl,?_⟩
    rw [eo,List.filter_cons,if_pos (by simpa using ne),List.map_append]
    rfl
   ·refine hN _ _ ⟨rfl,?_⟩
    rw [eo,List.filter_cons,if_neg (by simpa using ne)]
    simp
 ·rintro acc h' ⟨rfl,rfl⟩
  rw [List.length_map,List.take_length]
  exact q
def OrdX (c0:MSp):Prop:=∀ {h:Gh} {n:Nat} {ts:List Tm} {Q:WK} {E:XWK},h.c n=some (.dtt (kvW ts))→ts.length≤600→oJ (ts.map (·.1))→(∀ ks:List (List Int),ks.Perm (ts.map (·.1))→ks.Pairwise (· < ·)→Q (smW (iy ts ks)) h)→c0 [.loc n] h Q E
theorem zq:OrdX iD:=by
 intro h n ts Q E ec hz hs q
 unfold iD
 refine iG rfl (σ:=[some (.loc n)]) rfl (cM (fj (ao (lc_ord rfl ec (by omega) hs fun ks pk sk=>aG (yh (q ks pk sk))))))
theorem wj {L:Nat}{ts:List Tm}(nd:(ts.map (·.1)).Nodup)(hL:∀ t∈ts,t.1.length=L):oJ (ts.map (·.1)):=by
 intro h2 k hk e
 obtain ⟨t,ht,e1⟩:=List.mem_map.mp hk
 have L0:L=0:=by rw [←hL t ht,e1,e];rfl
 have all:∀ k∈ts.map (·.1),k=[]:=fun k hk=>by
  obtain ⟨u,hu,e2⟩:=List.mem_map.mp hk
  rw [←e2]
  exact List.eq_nil_of_length_eq_zero (by rw [hL u hu,L0])
 generalize ts.map (·.1)=ks at nd h2 all
 match ks,nd,h2,all with
 | a::b::r,nd,_,all=>
  have ea:=all a (by simp)
  have eb:=all b (by simp)
  rw [ea,eb] at nd
  simp at nd
 | [_],_,h2,_=>simp at h2
 | [],_,h2,_=>simp at h2
def SumX (c0:MSp):Prop:=∀ {h:Gh} {ns:List Int} {k:Int} {L m mo:Nat} {Q:WK} {E:XWK},0≤k→k≤900→L≤8→m≤60→mo≤60→(∀ (us:List Tm) (h':Gh),WF L 101 us→us.length≤m→(us.map (·.1)).Pairwise (· < ·)→(∀ t∈us,∀ p∈t.1,p≤(mo:Int))→Ge h h'→Q (smW us) h')→c0 [.kls (ns.map .int),.int k,.int (L:Int),.int (m:Int),.int (mo:Int)] h Q E
theorem w_sum {dr nu pw od:MSp}(hdr:qD dr)(hnu:LNumX nu)(hpw:PowX pw)(hod:OrdX od):SumX (ur dr nu pw od):=by
 intro h ns k L m mo Q E k0 k1 hL hm hmo q
 unfold ur
 refine iG rfl (σ:=[some (.kls (ns.map .int)),some (.int k),some (.int (L:Int)),some (.int (m:Int)),some (.int (mo:Int)),none,none,none]) rfl ?_
 refine aO (aY (mNewT_g fun g eg og xg=>?_))
 refine aF (σ':=[some (.kls (ns.map .int)),some (.int k),some (.int (L:Int)),some (.int (m:Int)),some (.int (mo:Int)),some (.loc h.nx),none,none]) rfl (bY (aO ?_))
 refine jD (j:=(m:Int)) (fun _=>rfl) (by omega) (by omega) (fun i σ h'=>∃ (ts:List Tm) (s6 s7:Option W),σ = [some (.kls (ns.map .int)),some (.int k),some (.int (L:Int)),some (.int (m:Int)),some (.int (mo:Int)),some (.loc h.nx),s6,s7]∧h'.c h.nx=some (.dtt (kvW ts))∧ts.length≤i∧(ts.map (·.1)).Nodup∧(∀ t∈ts,t.1.length=L∧Sm 101 t.2∧Pw t.1∧∀ p∈t.1,p≤(mo:Int))∧h'.nx=h.nx+1∧∀ n,n≠h.nx→h'.c n=h.c n) ?_ ?_ ⟨[],none,none,rfl,eg,Nat.le_refl _,List.nodup_nil,fun _ h=>(nomatch h),xg,og⟩
 ·rintro i σ h' N hN hi ⟨ts,s6,s7,rfl,a1,a2,a3,a4,a5,a6⟩
  refine aF (σ':=[some (.kls (ns.map .int)),some (.int k),some (.int (L:Int)),some (.int (m:Int)),some (.int (mo:Int)),some (.loc h.nx),some (.int (i:Int)),s7]) rfl ?_
  rfl'
  refine hdr (ns:=ns) (k:=k+(i:Int)) (many:=2) (by omega) (by omega) (by decide) (by decide) fun xs hx=>?_
  match xs,hx with
  | [a,b],_=>
   rfl'
   refine hnu fun n sn=>?_
   rfl'
   refine hpw hL hmo fun ps lp pw pm=>?_
   refine setT_g a1 (by omega) fun g2 b1 b2 b3=>?_
   refine bY (hN _ _ ⟨oR ts ps n,_,_,rfl,b1,by have:=tO ts ps n;omega,vI ts ps n a3,fun t ht=>?_,by rw [b3];exact a5,fun n hn=>by rw [b2 n hn];exact a6 n hn⟩)
   rcases put_in ht with ht | ht
   ·exact a4 t ht
   ·rw [ht];exact ⟨lp,sn,pw,pm⟩
 ·rintro σ h' ⟨ts,s6,s7,rfl,a1,a2,a3,a4,a5,a6⟩
  unfold rW
  rfl'
  refine hod a1 (by omega) (wj (L:=L) a3 fun t ht=>(a4 t ht).1) fun ks pk sk=>?_
  have hu:=fun u hm=>ord_in (u:=u) a3 (fun k hk=>pk.mem_iff.mp hk) hm
  have lu:=zK ts ks
  rw [pk.length_eq,List.length_map] at lu
  exact q _ h' (fun u hm=>⟨(a4 u (hu u hm).1).1,(hu u hm).2,(a4 u (hu u hm).1).2.1,(a4 u (hu u hm).1).2.2.1⟩) (by omega) (p7 sk) (fun u hm=>(a4 u (hu u hm).1).2.2.2) ⟨by omega,fun n hn=>a6 n (by omega)⟩
def Pv (ps:List Int):Prop:=∀ p∈ps,0≤p∧p≤61
theorem get_g {h:Gh}{n:Nat}{ts:List Tm}{k:List Int}{Q:WK}(e:h.c n=some (.dtt (kvW ts)))(q:Q (.int (getM ts k)) h):zc (.loc n) [.tup (k.map .int),.int 0] h Q:=by
 unfold zc
 dsimp only
 rw [e,u0]
 dsimp only
 rw [vP]
 have:(((ts.find? fun t=>decide (t.1=k)).map fun t=>W.int t.2).getD (.int 0))=.int (getM ts k):=by
  unfold getM
  cases ts.find? fun t=>decide (t.1=k) <;> rfl
 rw [this]
 exact q
theorem isDtt_c {n:Nat}{kvs:List (List Int×W)}{h:Gh}{P:Prop}(e:h.c n=some (.dtt kvs))(p:P):isDtt h (.loc n) P:=by
 unfold isDtt
 dsimp only
 rw [e]
 exact p
theorem mBMd_s {r:MM}{mo:ME}{ma:MA}{σ : Sw}{h:Gh}{Q:WK}(x:mo σ h fun x h1=>isDtt h1 x (ma σ h1 fun xs h2=>r x xs h2 Q)):mBMd r mo ma σ h Q:=x
theorem lo_tm (n:Nat)(t:Tm):Lo n (tmW t):=by
 unfold tmW
 simp only [Lo,Los]
 exact ⟨lV _ _,trivial,trivial⟩
theorem lo_tms (n:Nat):∀ ts:List Tm,Los n (ts.map tmW)
 | []=>by simp [Los]
 | t::ts=>by rw [List.map_cons,Los];exact ⟨lo_tm n t,lo_tms n ts⟩
theorem lo_sm (n:Nat)(ts:List Tm):Lo n (smW ts):=by unfold smW;rw [Lo];exact lo_tms n ts
theorem yE:∀ l:List Int,mZ (l.map .int) (l.map .int)=true
 | []=>rfl
 | a::l=>by rw [List.map_cons,mZ,yE l,eqW];simp
theorem eq_tm (t:Tm):eqW (tmW t) (tmW t)=true:=by
 unfold tmW
 simp only [eqW,mZ,yE,beq_self_eq_true,Bool.and_self]
theorem eq_tms:∀ s:List Tm,mZ (s.map tmW) (s.map tmW)=true
 | []=>rfl
 | t::s=>by rw [List.map_cons,mZ,eq_tms s,eq_tm];rfl
theorem pl_tm (n:Nat)(t:Tm):plW (n+3) (tmW t)=true:=by simp [tmW,plW]
theorem pl_sm (n:Nat)(s:List Tm):plW (n+4) (smW s)=true:=by
 unfold smW
 rw [plW,List.all_eq_true]
 intro w hw
 obtain ⟨t,_,rfl⟩:=List.mem_map.mp hw
 exact pl_tm n t
theorem eq_sm (s:List Tm):eqW (smW s) (smW s)=true:=by
 unfold smW
 rw [eqW,eq_tms]
theorem ne_same {s:List Tm}{h:Gh}{Q:WK}(k:Q (.bl false) h):kNe (smW s) (smW s) h Q:=by
 show by2 (plW 30 (smW s)&&plW 30 (smW s)) (Q (.bl (!eqW (smW s) (smW s))) h) False
 rw [pl_sm 26,eq_sm]
 exact k
theorem eq_same {s:List Tm}{h:Gh}{Q:WK}(k:Q (.bl true) h):kEq (smW s) (smW s) h Q:=by
 show by2 (plW 30 (smW s)&&plW 30 (smW s)) (Q (.bl (eqW (smW s) (smW s))) h) False
 rw [pl_sm 26,eq_sm]
 exact k
def pack (k:List Int):Int:=k.foldl (fun a p=>a*65536+p) 0
def Kb (L:Nat)(k:List Int):Prop:=k.length=L∧∀ p∈k,0≤p∧p≤100
theorem bV (k:List Int)(p:Int):pack (k++[p])=pack k*65536+p:=by unfold pack;rw [List.foldl_append];rfl
theorem mR {L:Nat}{k:List Int}{p:Int}(h:Kb (L+1) (k++[p])):Kb L k∧0≤p∧p≤100:=by
 refine ⟨⟨by have:=h.1;simp at this;omega,fun q hq=>h.2 q (List.mem_append_left _ hq)⟩,h.2 p (by simp)⟩
theorem iR {L:Nat}{k:List Int}(h:k.length=L+1):∃ (a:List Int) (p:Int),k=a++[p]:=by
 refine ⟨k.dropLast,k.getLast (by intro e;rw [e] at h;simp at h),?_⟩
 exact (List.dropLast_concat_getLast _).symm
theorem jo:∀ {L:Nat} {k l:List Int},Kb L k→Kb L l→pack k=pack l→k=l
 | 0,k,l,h1,h2,_=>by rw [List.eq_nil_of_length_eq_zero h1.1,List.eq_nil_of_length_eq_zero h2.1]
 | L+1,k,l,h1,h2,e=>by
  obtain ⟨a,p,rfl⟩:=iR h1.1
  obtain ⟨b,q,rfl⟩:=iR h2.1
  obtain ⟨ha,p0,p1⟩:=mR h1
  obtain ⟨hb,q0,q1⟩:=mR h2
  rw [bV,bV] at e
  have e1:pack a=pack b:=by omega
  have e2:p=q:=by omega
  rw [jo ha hb e1,e2]
theorem lt_snoc:∀ {a b:List Int} {p q:Int},a.length=b.length→(a++[p]<b++[q]↔a<b∨a=b∧p<q)
 | [],[],p,q,_=>by simp [List.cons_lt_cons_iff]
 | [],_::_,_,_,h=>by simp at h
 | _::_,[],_,_,h=>by simp at h
 | x::a,y::b,p,q,h=>by
  have ih:=lt_snoc (a:=a) (b:=b) (p:=p) (q:=q) (by simpa using h)
  rw [List.cons_append,List.cons_append,List.cons_lt_cons_iff,List.cons_lt_cons_iff,ih]
  constructor
  ·rintro (h | ⟨h1,h2 | ⟨h2,h3⟩⟩)
   ·exact .inl (.inl h)
   ·exact .inl (.inr ⟨h1,h2⟩)
   ·exact .inr ⟨by rw [h1,h2],h3⟩
  ·rintro ((h | ⟨h1,h2⟩) | ⟨h1,h2⟩)
   ·exact .inl h
   ·exact .inr ⟨h1,.inl h2⟩
   ·obtain ⟨e1,e2⟩:=List.cons.inj h1
    exact .inr ⟨e1,.inr ⟨e2,h2⟩⟩
theorem zM:∀ {L:Nat} {k l:List Int},Kb L k→Kb L l→(k<l↔pack k<pack l)
 | 0,k,l,h1,h2=>by
  rw [List.eq_nil_of_length_eq_zero h1.1,List.eq_nil_of_length_eq_zero h2.1]
  constructor
  ·intro h;exact absurd h (List.lt_irrefl _)
  ·intro h;exact absurd h (Int.lt_irrefl _)
 | L+1,k,l,h1,h2=>by
  obtain ⟨a,p,rfl⟩:=iR h1.1
  obtain ⟨b,q,rfl⟩:=iR h2.1
  obtain ⟨ha,p0,p1⟩:=mR h1
  obtain ⟨hb,q0,q1⟩:=mR h2
  have ih:=zM ha hb
  rw [lt_snoc (by rw [ha.1,hb.1]),bV,bV]
  constructor
  ·rintro (h | ⟨h,h'⟩)
   ·have:=ih.mp h;omega
   ·rw [h];omega
  ·intro h
   rcases Int.lt_trichotomy (pack a) (pack b) with c | c | c
   ·exact .inl (ih.mpr c)
   ·exact .inr ⟨jo ha hb c,by omega⟩
   ·omega
def cR (k l:List Int):List Int:=List.zipWith (· + ·) k l
theorem vM {k l:List Int}(h:k.length=l.length):(cR k l).length=k.length:=by unfold cR;rw [List.length_zipWith,h,Nat.min_self]
theorem qK:∀ {k l:List Int} {p q:Int},k.length=l.length→cR (k++[p]) (l++[q])=cR k l++[p+q]
 | [],[],p,q,_=>rfl
 | [],_::_,_,_,h=>by simp at h
 | _::_,[],_,_,h=>by simp at h
 | x::a,y::b,p,q,h=>by
  show (x+y)::cR (a++[p]) (b++[q])=(x+y)::(cR a b++[p+q])
  rw [qK (by simpa using h)]
theorem vR:∀ {L:Nat} {k l:List Int},k.length=L→l.length=L→pack (cR k l)=pack k+pack l
 | 0,k,l,h1,h2=>by rw [List.eq_nil_of_length_eq_zero h1,List.eq_nil_of_length_eq_zero h2];rfl
 | L+1,k,l,h1,h2=>by
  obtain ⟨a,p,rfl⟩:=iR h1
  obtain ⟨b,q,rfl⟩:=iR h2
  have la:a.length=L:=by simpa using h1
  have lb:b.length=L:=by simpa using h2
  rw [qK (by rw [la,lb]),bV,bV,bV,vR la lb]
  omega
theorem qm:∀ {k l:List Int} {p:Int},p∈cR k l→∃ a∈k,∃ b∈l,p=a+b
 | [],_,_,h=>by simp [cR] at h
 | _::_,[],_,h=>by simp [cR] at h
 | a::k,b::l,p,h=>by
  have h:p∈(a+b)::cR k l:=h
  rcases List.mem_cons.mp h with rfl | h
  ·exact ⟨a,by simp,b,by simp,rfl⟩
  ·obtain ⟨x,hx,y,hy,e⟩:=qm h
   exact ⟨x,List.mem_cons_of_mem _ hx,y,List.mem_cons_of_mem _ hy,e⟩
theorem sS:∀ {L:Nat} {k:List Int},Kb L k→0≤pack k∧(pack k).natAbs<2^(16*L)
 | 0,k,h=>by rw [List.eq_nil_of_length_eq_zero h.1];exact ⟨Int.le_refl _,by decide⟩
 | L+1,k,h=>by
  obtain ⟨a,p,rfl⟩:=iR h.1
  obtain ⟨ha,p0,p1⟩:=mR h
  obtain ⟨i0,i1⟩:=sS ha
  rw [bV,Nat.mul_succ,Nat.pow_add]
  generalize 2^(16*L)=A at *
  have:(2:Nat)^16=65536:=rfl
  rw [this]
  omega
def mulR (k:List Int)(n:Int)(vs:List Tm)(D:List Tm):List Tm:=vs.foldl (fun D s=>wN D (cR k s.1) (n*s.2)) D
def fU (us vs:List Tm):List Tm:=us.foldl (fun D t=>mulR t.1 t.2 vs D) []
theorem dz (k:List Int)(n:Int)(vs D:List Tm)(s:Tm):mulR k n (vs++[s]) D=wN (mulR k n vs D) (cR k s.1) (n*s.2):=by unfold mulR;rw [List.foldl_append];rfl
theorem cV (us vs:List Tm)(t:Tm):fU (us++[t]) vs=mulR t.1 t.2 vs (fU us vs):=by unfold fU;rw [List.foldl_append];rfl
theorem zG {k:List Int}{n:Int}{vs D:List Tm}(h:(D.map (·.1)).Nodup):((mulR k n vs D).map (·.1)).Nodup:=by
 refine snoc_ind (P:=fun vs=>((mulR k n vs D).map (·.1)).Nodup) h (fun vs t ih=>?_) vs
 rw [dz]
 exact sy ih
theorem dU (us vs:List Tm):((fU us vs).map (·.1)).Nodup:=by
 refine snoc_ind (P:=fun us=>((fU us vs).map (·.1)).Nodup) List.nodup_nil (fun us t ih=>?_) us
 rw [cV]
 exact zG ih
theorem vp (k:List Int)(n:Int)(vs D:List Tm):(mulR k n vs D).length≤D.length+vs.length:=by
 refine snoc_ind (P:=fun vs=>(mulR k n vs D).length≤D.length+vs.length) (Nat.le_refl _) (fun vs t ih=>?_) vs
 rw [dz,List.length_append,List.length_singleton]
 exact Nat.le_trans (tO ..) (by omega)
theorem qb (us vs:List Tm):(fU us vs).length≤us.length*vs.length:=by
 refine snoc_ind (P:=fun us=>(fU us vs).length≤us.length*vs.length) (Nat.zero_le _) (fun us t ih=>?_) us
 rw [cV,List.length_append,List.length_singleton,Nat.add_mul,Nat.one_mul]
 exact Nat.le_trans (vp ..) (by omega)
def dl (r k:List Int):Int:=if k=r then 1 else 0
theorem mulR_get (k:List Int)(n:Int)(r:List Int)(D vs:List Tm):getM (mulR k n vs D) r=getM D r+n*lin (fun l=>dl r (cR k l)) vs:=by
 refine snoc_ind (P:=fun vs=>getM (mulR k n vs D) r=getM D r+n*lin (fun l=>dl r (cR k l)) vs) (by show getM D r=getM D r+n*0;omega) (fun vs t ih=>?_) vs
 rw [dz,getM_add,iH,ih]
 show _=_+n*(_+lin (fun l=>dl r (cR k l)) [t])
 rw [bf]
 show _=_+n*(_+(dl r (cR k t.1)*t.2+0))
 unfold dl
 by_cases c:cR k t.1=r
 ·rw [if_pos c.symm,if_pos c];grind
 ·rw [if_neg (Ne.symm c),if_neg c];grind
theorem g8 (r:List Int)(us vs:List Tm):getM (fU us vs) r=lin (fun k=>lin (fun l=>dl r (cR k l)) vs) us:=by
 refine snoc_ind (P:=fun us=>getM (fU us vs) r=lin (fun k=>lin (fun l=>dl r (cR k l)) vs) us) rfl (fun us t ih=>?_) us
 rw [cV,mulR_get,ih,iH,bf]
 show _=_+(_+0)
 rw [Int.add_zero,Int.mul_comm]
theorem uZ (f g:List Int→Int):∀ us:List Tm,lin (fun k=>f k+g k) us=lin f us+lin g us
 | []=>rfl
 | t::us=>by rw [bf,bf,bf,uZ f g us];grind
theorem mF (f:List Int→Int)(c:Int):∀ us:List Tm,lin (fun k=>f k*c) us=lin f us*c
 | []=>by show (0:Int)=0*c;omega
 | t::us=>by rw [bf,bf,mF f c us];grind
def jw (D rs:List Tm):Prop:=∃ ks:List (List Int),ks.Perm (D.map (·.1))∧ks.Pairwise (· < ·)∧rs=iy D ks
theorem zN (D:List Tm)(ks:List (List Int)):iy D ks=(ks.filter fun k=>decide (getM D k≠0)).map fun k=>(k,getM D k):=by
 unfold iy
 rw [List.filter_map]
 rfl
theorem jw.same {D F rs qs:List Tm}(e:∀ r,getM D r=getM F r)(a:jw D rs)(b:jw F qs):rs=qs:=by
 obtain ⟨ks,pk,sk,rfl⟩:=a
 obtain ⟨js,pj,sj,rfl⟩:=b
 rw [zN,zN]
 have key:(ks.filter fun k=>decide (getM D k≠0))=js.filter fun k=>decide (getM F k≠0):=by
  refine uU ?_ (sk.filter _) (sj.filter _)
  refine (List.perm_ext_iff_of_nodup ((bT sk).filter _) ((bT sj).filter _)).mpr fun r=>?_
  rw [List.mem_filter,List.mem_filter,decide_eq_true_iff,decide_eq_true_iff,e r]
  constructor
  ·rintro ⟨_,nz⟩
   exact ⟨pj.mem_iff.mpr (Decidable.byContradiction fun no=>nz (getM_none no)),nz⟩
  ·rintro ⟨_,nz⟩
   exact ⟨pk.mem_iff.mpr (Decidable.byContradiction fun no=>nz (by rw [←e r];exact getM_none no)),nz⟩
 rw [key]
 exact List.map_congr_left fun k _=>by rw [e k]
def Ms (L:Nat)(us:List Tm):Prop:=us.length≤210∧(us.map (·.1)).Pairwise (· < ·)∧∀ t∈us,t.1.length=L∧t.2≠0∧Sm 300 t.2∧∀ p∈t.1,0≤p∧p≤40
theorem yZ {L:Nat}{k l:List Int}(hk:k.length=L∧∀ p∈k,0≤p∧p≤40)(hl:l.length=L∧∀ p∈l,0≤p∧p≤40):Kb L (cR k l):=by
 refine ⟨by rw [vM (by rw [hk.1,hl.1]),hk.1],fun p hp=>?_⟩
 obtain ⟨a,ha,b,hb,rfl⟩:=qm hp
 have:=hk.2 a ha
 have:=hl.2 b hb
 omega
theorem zJ {L:Nat}{t:Tm}{vs D:List Tm}(ht:t.1.length=L∧∀ p∈t.1,0≤p∧p≤40)(hv:∀ t∈vs,t.1.length=L∧∀ p∈t.1,0≤p∧p≤40)(hD:∀ k∈D.map (·.1),Kb L k):∀ k∈(mulR t.1 t.2 vs D).map (·.1),Kb L k:=by
 revert hv
 refine snoc_ind (P:=fun vs=>(∀ t∈vs,t.1.length=L∧∀ p∈t.1,0≤p∧p≤40)→∀ k∈(mulR t.1 t.2 vs D).map (·.1),Kb L k) (fun _=>hD) (fun vs s ih hv k hk=>?_) vs
 rw [dz,qu] at hk
 have hk:k∈(mulR t.1 t.2 vs D).map (·.1)∨k=cR t.1 s.1:=by
  split at hk
  ·exact .inl hk
  ·rcases List.mem_append.mp hk with hk | hk
   ·exact .inl hk
   ·exact .inr (List.mem_singleton.mp hk)
 rcases hk with hk | rfl
 ·exact ih (fun u hu=>hv u (List.mem_append_left _ hu)) k hk
 ·exact yZ ht (hv s (by simp))
theorem qZ {L:Nat}{us vs:List Tm}(hu:∀ t∈us,t.1.length=L∧∀ p∈t.1,0≤p∧p≤40)(hv:∀ t∈vs,t.1.length=L∧∀ p∈t.1,0≤p∧p≤40):∀ k∈(fU us vs).map (·.1),Kb L k:=by
 revert hu
 refine snoc_ind (P:=fun us=>(∀ t∈us,t.1.length=L∧∀ p∈t.1,0≤p∧p≤40)→∀ k∈(fU us vs).map (·.1),Kb L k) (fun _ k hk=>by simp [fU] at hk) (fun us t ih hu=>?_) us
 rw [cV]
 exact zJ (hu t (by simp)) hv (ih fun u h=>hu u (List.mem_append_left _ h))
def ikv (D:List Tm):List (Key×W):=D.map fun t=>(.inl (pack t.1),.int t.2)
theorem yM {L:Nat}{D:List Tm}{k:List Int}(hD:∀ j∈D.map (·.1),Kb L j)(hk:Kb L k):nZ (ikv D) (.inl (pack k))=((D.find? fun t=>decide (t.1=k)).map fun t=>W.int t.2):=by
 unfold nZ ikv
 induction D with
 | nil=>rfl
 | cons t D ih=>
  have ih:=ih fun j hj=>hD j (by rw [List.map_cons];exact List.mem_cons_of_mem _ hj)
  rw [List.map_cons,List.find?_cons,List.find?_cons]
  by_cases c:t.1=k
  ·rw [decide_eq_true c,decide_eq_true (by rw [c])]
   rfl
  ·rw [decide_eq_false c,decide_eq_false (fun e=>c (jo (hD t.1 (by simp)) hk (Sum.inl.inj e)))]
   exact ih
theorem ikv_get {L:Nat}{D:List Tm}{k:List Int}(hD:∀ j∈D.map (·.1),Kb L j)(hk:Kb L k):(nZ (ikv D) (.inl (pack k))).getD (.int 0)=.int (getM D k):=by
 rw [yM hD hk]
 unfold getM
 cases D.find? fun t=>decide (t.1=k) <;> rfl
theorem ikv_put {L:Nat}{D:List Tm}{k:List Int}{n:Int}(hD:∀ j∈D.map (·.1),Kb L j)(hk:Kb L k):putW (ikv D) (.inl (pack k)) (.int n)=ikv (oR D k n):=by
 have ea:((ikv D).any fun kv=>decide (kv.1=Sum.inl (pack k)))=D.any fun t=>decide (t.1=k):=by
  unfold ikv
  rw [List.any_map,Bool.eq_iff_iff,List.any_eq_true,List.any_eq_true]
  constructor
  ·rintro ⟨t,ht,e⟩
   simp only [Function.comp,decide_eq_true_iff] at e
   exact ⟨t,ht,decide_eq_true (jo (hD t.1 (List.mem_map.mpr ⟨t,ht,rfl⟩)) hk (Sum.inl.inj e))⟩
  ·rintro ⟨t,ht,e⟩
   rw [decide_eq_true_iff] at e
   exact ⟨t,ht,by simp [e]⟩
 unfold putW oR
 rw [ea]
 by_cases c:(D.any fun t=>decide (t.1=k))=true
 ·rw [if_pos c,if_pos c]
  unfold ikv
  rw [List.map_map,List.map_map]
  refine List.map_congr_left fun t ht=>?_
  simp only [Function.comp]
  by_cases e:t.1=k
  ·rw [if_pos e,if_pos (by rw [e])]
  ·rw [if_neg e,if_neg (fun z=>e (jo (hD t.1 (List.mem_map.mpr ⟨t,ht,rfl⟩)) hk (Sum.inl.inj z)))]
 ·rw [if_neg c,if_neg c]
  simp [ikv]
theorem zL:∀ {ks js:List Int},ks.Perm js→ks.Pairwise (· < ·)→js.Pairwise (· < ·)→ks=js
 | [],js,p,_,_=>p.symm.eq_nil.symm
 | a::ks,[],p,_,_=>p.eq_nil
 | a::ks,b::js,p,h1,h2=>by
  have e:a=b:=by
   have ma:a∈b::js:=p.mem_iff.mp (List.mem_cons_self ..)
   have mb:b∈a::ks:=p.mem_iff.mpr (List.mem_cons_self ..)
   rcases List.mem_cons.mp ma with e | ma
   ·exact e
   ·rcases List.mem_cons.mp mb with e | mb
    ·exact e.symm
    ·have:=(List.pairwise_cons.mp h1).1 b mb
     have:=(List.pairwise_cons.mp h2).1 a ma
     omega
  subst e
  rw [zL (List.Perm.cons_inv p) (List.pairwise_cons.mp h1).2 (List.pairwise_cons.mp h2).2]
def insK (a:List Int):List (List Int)→List (List Int)
 | []=>[a]
 | b::l=>if a<b then a::b::l else b::insK a l
theorem lN (a:List Int):∀ l,(insK a l).Perm (a::l)
 | []=>.refl _
 | b::l=>by
  unfold insK
  split
  ·exact .refl _
  ·exact (List.Perm.cons b (lN a l)).trans (List.Perm.swap a b l)
theorem wG {a:List Int}:∀ {l:List (List Int)},l.Pairwise (· < ·)→a∉l→(insK a l).Pairwise (· < ·)
 | [],_,_=>by simp [insK]
 | b::l,h,n=>by
  rw [List.pairwise_cons] at h
  unfold insK
  split
  ·rename_i c
   rw [List.pairwise_cons]
   refine ⟨fun x hx=>?_,List.pairwise_cons.mpr h⟩
   rcases List.mem_cons.mp hx with rfl | hx
   ·exact c
   ·exact List.lt_trans c (h.1 x hx)
  ·rename_i c
   rw [List.pairwise_cons]
   refine ⟨fun x hx=>?_,wG h.2 fun m=>n (List.mem_cons_of_mem _ m)⟩
   rcases List.mem_cons.mp ((lN a l).mem_iff.mp hx) with rfl | hx
   ·rcases List.le_iff_lt_or_eq.mp (List.not_lt.mp c) with h | h
    ·exact h
    ·exact absurd (by rw [h];exact List.mem_cons_self ..) n
   ·exact h.1 x hx
theorem sortK:∀ (l:List (List Int)),l.Nodup→∃ ks:List (List Int),ks.Perm l∧ks.Pairwise (· < ·)
 | [],_=>⟨[],.refl _,.nil⟩
 | a::l,nd=>by
  rw [List.nodup_cons] at nd
  obtain ⟨ks,p,s⟩:=sortK l nd.2
  exact ⟨insK a ks,(lN a ks).trans (p.cons a),wG s fun m=>nd.1 (p.mem_iff.mp m)⟩
def PkX (c0:MSp):Prop:=∀ {h:Gh} {k:List Int} {L:Nat} {Q:WK} {E:XWK},Kb L k→L≤8→Q (.int (pack k)) h→c0 [.tup (k.map .int)] h Q E
theorem jO {ws:List W}{i:Nat}{g:MG}{b:MS}{D:bI}{σ : Sw}{h:Gh}(hv:σ[i]?=some (some (.tup ws)))(x:fW ⟨ws,none⟩ g b D ws σ h):mQ (nIt (aD i)) g b D σ h:=jT (j7 (aq hv (xG rfl (jP x))))
theorem kb_take {L:Nat}{k:List Int}(h:Kb L k)(i:Nat):Kb (min i L) (k.take i):=⟨by rw [List.length_take,h.1],fun p hp=>h.2 p (List.mem_of_mem_take hp)⟩
theorem w_pack:PkX qG:=by
 intro h k L Q E hk hL q
 unfold qG
 refine iG rfl (σ:=[some (.tup (k.map .int)),none,none]) rfl (aO (aY (d7 ?_)))
 refine aF (σ':=[some (.tup (k.map .int)),some (.int 0),none]) rfl (bY (aO ?_))
 refine jO (ws:=k.map .int) rfl ?_
 refine cP (fun i σ h'=>h'=h∧∃ s2:Option W,σ = [some (.tup (k.map .int)),some (.int (pack (k.take i))),s2]) ?_ ?_ ⟨rfl,none,rfl⟩
 ·rintro i w σ h' N hN e ⟨rfl,s2,rfl⟩
  obtain ⟨p,ep,rfl⟩:=ints_get e
  have sp:=(sS (kb_take hk i)).2
  have s1:Sm 128 (pack (k.take i)):=Nat.lt_of_lt_of_le sp (Nat.pow_le_pow_right (by decide) (by omega))
  refine aF (σ':=[some (.tup (k.map .int)),some (.int (pack (k.take i))),some (.int p)]) rfl ?_
  refine aY (aV (aV (aq rfl (d7 (gk (.of s1 (n:=64) (.lit rfl) (by decide) (by decide)) (aq rfl (fB ?_)))))))
  refine aF (σ':=[some (.tup (k.map .int)),some (.int (pack (k.take (i+1)))),some (.int p)]) ?_ (bY (hN _ _ ⟨rfl,_,rfl⟩))
  rw [List.take_succ,ep]
  show _=[some (W.tup (k.map .int)),some (.int (pack (k.take i++[p]))),some (.int p)]
  rw [bV]
  rfl
 ·rintro σ h' ⟨rfl,s2,rfl⟩
  rw [List.length_map,List.take_length]
  unfold n6
  exact bY (cM (aq rfl (yh q)))
def UnX (c0:MSp):Prop:=∀ {h:Gh} {k:List Int} {L:Nat} {Q:WK} {E:XWK},Kb L k→L≤8→Q (.tup (k.map .int)) h→c0 [.int (pack k),.int (L:Int)] h Q E
theorem unp_step {L i:Nat}{k:List Int}(h:Kb L k)(hi:i<L):(pack (k.take (L - i))).fmod 65536=k.getD (L - 1 - i) 0∧(pack (k.take (L - i))).fdiv 65536=pack (k.take (L - (i+1))):=by
 have lk:=h.1
 have e1:L - i=(L - 1 - i)+1:=by omega
 have e2:L - (i+1)=L - 1 - i:=by omega
 have ek:k[L - 1 - i]?=some (k[L - 1 - i]'(by omega)):=List.getElem?_eq_getElem (by omega)
 have hb:=h.2 (k[L - 1 - i]'(by omega)) (List.getElem_mem (by omega))
 rw [e2,e1,List.take_succ,ek]
 show (pack (k.take (L - 1 - i)++[k[L - 1 - i]'(by omega)])).fmod 65536=_∧(pack (k.take (L - 1 - i)++[k[L - 1 - i]'(by omega)])).fdiv 65536=_
 rw [bV,List.getD_eq_getElem?_getD,ek]
 have:=(sS (kb_take h (L - 1 - i))).1
 rw [uL (by decide),oH (by decide)]
 constructor
 ·show _=k[L - 1 - i]'(by omega)
  omega
 ·omega
theorem rev_t {n:Nat}{us:List W}{i:Nat}{σ : Sw}{h:Gh}{Q:WK}(hv:σ[i]?=some (some (.loc n)))(e:h.c n=some (.lst us))(x:Q (.tup us.reverse) h):uc (aD i) σ h Q:=by
 refine aq hv ?_
 show (match dR h (.loc n) with
  | some us=>Q (.tup us.reverse) h
  | none=>False)
 rw [mj e]
 exact x
def dg (k:List Int)(L i:Nat):List Int:=(List.range i).map fun j=>k.getD (L - 1 - j) 0
theorem dg_rev {k:List Int}{L:Nat}(h:k.length=L):(dg k L L).reverse=k:=by
 have ll:(dg k L L).length=L:=by unfold dg;simp
 refine List.ext_getElem (by rw [List.length_reverse,ll,h]) fun j h1 h2=>?_
 rw [List.getElem_reverse]
 simp only [dg,List.getElem_map,List.getElem_range,List.length_map,List.length_range]
 have:L - 1 - (L - 1 - j)=j:=by omega
 rw [this,List.getD_eq_getElem?_getD,List.getElem?_eq_getElem h2]
 rfl
set_option maxHeartbeats 1000000 in
theorem w_unp:UnX jz:=by
 intro h k L Q E hk hL q
 unfold jz
 refine rJ rfl (σ:=[some (.int (pack k)),some (.int L),none,none]) rfl ?_
 refine aO (aY (pG (ws:=[]) (fun R=>rfl) rfl fun g eg og xg=>?_))
 refine aF (σ':=[some (.int (pack k)),some (.int L),some (.loc h.nx),none]) rfl (bY (aO ?_))
 refine jD (j:=(L:Int)) (fun _=>rfl) (by omega) (by omega) (fun i σ h'=>i≤L∧∃ s3:Option W,σ = [some (.int (pack (k.take (L - i)))),some (.int L),some (.loc h.nx),s3]∧h'.c h.nx=some (.lst ((dg k L i).map .int))∧∀ n,n≠h.nx→h'.c n=h.c n) ?_ ?_ ⟨Nat.zero_le _,none,by rw [Nat.sub_zero,List.take_of_length_le (by rw [hk.1];exact Nat.le_refl _)],eg,og⟩
 ·rintro i σ h' N hN hi ⟨_,s3,rfl,e2,o2⟩
  have hi:i<L:=by omega
  obtain ⟨u1,u2⟩:=unp_step hk hi
  refine aF (σ':=[some (.int (pack (k.take (L - i)))),some (.int L),some (.loc h.nx),some (.int i)]) rfl ?_
  refine aO (jN (vg (aq rfl (oZ e2 (ao (aV (aq rfl (d7 (gD (by decide) (aG ?_))))))))))
  refine app_g e2 (by rw [List.length_map];unfold dg;simp;omega) fun g2 a1 a2 a3=>bY ?_
  refine aY (aV (aq rfl (d7 (lX ⟨by decide,64,by decide,.lit rfl⟩ ?_))))
  rw [u2]
  refine aF (σ':=[some (.int (pack (k.take (L - (i+1))))),some (.int L),some (.loc h.nx),some (.int i)]) rfl (bY (hN _ _ ⟨by omega,_,rfl,?_,fun n hn=>by rw [a2 n hn];exact o2 n hn⟩))
  rw [a1,u1]
  unfold dg
  rw [List.range_succ,List.map_append,List.map_append]
  rfl
 ·rintro σ h' ⟨_,s3,rfl,e2,o2⟩
  have eL:(L:Int).toNat=L:=by omega
  rw [eL] at e2
  unfold jQ
  refine bY (cM (rev_t rfl e2 ?_))
  rw [←List.map_reverse,dg_rev hk.1]
  exact ⟨fun n c hn ec=>by rw [o2 n (by omega)];exact ec,.inl ⟨by rw [Lo];exact lV _ _,q⟩⟩
def ptW (t:Tm):W:=.tup [.int (pack t.1),.int t.2]
def PtX (c0:MSp):Prop:=∀ {h:Gh} {us:List Tm} {L:Nat} {Q:WK} {E:XWK},(∀ t∈us,Kb L t.1)→us.length≤1000→L≤8→Q (.lst (us.map ptW)) h→c0 [smW us] h Q E
theorem w_pt {pk:MSp}(hpk:PkX pk):PtX (dY pk):=by
 intro h us L Q E hu hz hL q
 unfold dY
 refine iG rfl (σ:=[some (smW us)]) rfl (cM (pZ (j7 (aq rfl (xG (ws:=us.map tmW) (o:=none) rfl (iz.mk (Nat.le_trans (m:=1000) (by rw [List.length_map];exact hz) (by decide)) ?_))))))
 refine jX (fun i acc g=>g=h∧acc=(us.take i).map ptW) ?_ ?_ ⟨rfl,rfl⟩
 ·rintro i w acc g N hN e ⟨rfl,rfl⟩
  rw [List.getElem?_map] at e
  cases qe:us[i]? with
  | none=>rw [qe] at e;cases e
  | some t=>
   rw [qe] at e
   cases e
   refine ⟨[.tup (t.1.map .int),.int t.2],rfl,nT (nW (jg (ao (aQ (ao (aq rfl (aG ?_)))))))⟩
   refine hpk (hu t (List.mem_of_getElem? qe)) hL (ao (aq rfl (aG (dJ rfl (hN _ _ ⟨rfl,?_⟩)))))
   rw [List.take_succ,qe,List.map_append]
   rfl
 ·rintro acc g ⟨rfl,rfl⟩
  rw [List.length_map,List.take_length]
  exact yh q
theorem kDIx_g {L:Nat}{h:Gh}{n:Nat}{D:List Tm}{k:List Int}{Q:WK}(e:h.c n=some (.dct (ikv D)))(hD:∀ j∈D.map (·.1),Kb L j)(m:k∈D.map (·.1))(q:Q (.int (getM D k)) h):kDIx (.loc n) (.int (pack k)) h Q:=by
 show (match h.c n with
  | some (.dct kvs)=>(match nZ kvs (.inl (pack k)) with
   | some w=>Q w h
   | none=>False)
  | _=>False)
 rw [e]
 show (match nZ (ikv D) (.inl (pack k)) with
  | some w=>Q w h
  | none=>False)
 rw [yM hD (hD k m)]
 cases f:D.find? fun t=>decide (t.1=k) with
 | none=>
  obtain ⟨t,ht,e⟩:=List.mem_map.mp m
  exact absurd (List.find?_eq_none.mp f t ht) (by simp [e])
 | some t=>
  have eg:getM D k=t.2:=by unfold getM;rw [f];rfl
  rw [eg] at q
  exact q
def itW (t:Tm):W:=.tup [.int (pack t.1),.int t.2]
def SotI (c0:MSp):Prop:=∀ {h:Gh} {n:Nat} {D:List Tm} {L:Nat} {Q:WK} {E:XWK},h.c n=some (.dct (ikv D))→(∀ j∈D.map (·.1),Kb L j)→(D.map (·.1)).Nodup→D.length≤30000→(∀ rs,jw D rs→(rs.length≤600→Q (.tup (rs.map itW)) h)∧(600<rs.length→E ⟨"TooMuch",[]⟩ h))→c0 [.loc n] h Q E
def Hi60 (rs:List Tm):Prop:=∃ t∈rs,∃ p∈t.1,60<p
instance (rs:List Tm):Decidable (Hi60 rs):=by unfold Hi60;infer_instance
def CpX (c0:MSp):Prop:=∀ {h:Gh} {rs:List Tm} {L:Nat} {Q:WK} {E:XWK},(∀ t∈rs,t.1.length=L)→L≤8→rs.length≤600→(¬ Hi60 rs→Q .non h)→(Hi60 rs→E ⟨"TooMuch",[]⟩ h)→c0 [smW rs] h Q E
theorem w_cp:CpX dZ:=by
 intro h rs L Q E hl hL hz q1 q2
 unfold dZ
 refine iG rfl (σ:=[some (smW rs),none,none]) rfl ?_
 refine jO (ws:=rs.map tmW) rfl ?_
 refine cP (fun i σ h'=>h'=h∧(∀ t∈rs.take i,∀ p∈t.1,¬ 60<p)∧∃ s1 s2:Option W,σ = [some (smW rs),s1,s2]) ?_ ?_ ⟨rfl,fun _ h=>by simp at h,none,none,rfl⟩
 ·rintro i w σ h' N hN e ⟨rfl,lo,s1,s2,rfl⟩
  rw [List.getElem?_map] at e
  cases qe:rs[i]? with
  | none=>rw [qe] at e;cases e
  | some t=>
   rw [qe] at e
   cases e
   have mt:=List.mem_of_getElem? qe
   have lt:=hl t mt
   refine eN rfl rfl (bN (aF (σ':=[some (smW rs),some (.tup (t.1.map .int)),s2]) rfl (bN (aF (σ':=[some (smW rs),some (.tup (t.1.map .int)),some (.int t.2)]) rfl (iW ?_)))))
   refine je (uO (fj (ao (pZ (j7 (aq rfl (xG (ws:=t.1.map .int) (o:=none) rfl (iz.mk (Nat.le_trans (m:=1000) (by rw [List.length_map];omega) (by decide)) ?_))))))))
   refine jX (fun j acc g=>g=h'∧acc=((t.1.take j).map fun p=>decide (p>60)).map .bl) ?_ ?_ ⟨rfl,rfl⟩
   ·rintro j w acc g N' hN' e' ⟨rfl,rfl⟩
    obtain ⟨p,ep,rfl⟩:=ints_get e'
    refine ⟨[.int p],rfl,nT (nW (aV (aq rfl (d7 (yp (hN' _ _ ⟨rfl,?_⟩))))))⟩
    rw [List.take_succ,ep]
    simp
   ·rintro acc g ⟨rfl,rfl⟩
    rw [List.length_map,List.take_length]
    refine aG (kAny_s (us:=(t.1.map fun p=>decide (p>60)).map .bl) (bs:=t.1.map fun p=>decide (p>60)) rfl (yJ _) (uK_s rfl ?_))
    have ea:(t.1.map fun p=>decide (p>60)).any id=decide (∃ p∈t.1,60<p):=by
     rw [Bool.eq_iff_iff,List.any_map,List.any_eq_true,decide_eq_true_iff]
     constructor
     ·rintro ⟨p,hp,e⟩;exact ⟨p,hp,by simpa using e⟩
     ·rintro ⟨p,hp,e⟩;exact ⟨p,hp,by simpa using e⟩
    rw [ea]
    refine br_d (fun c=>iZ (q2 ⟨t,mt,c⟩)) fun c=>eZ (hN _ _ ⟨rfl,fun u hu p hp h60=>?_,_,_,rfl⟩)
    rw [List.take_succ,qe] at hu
    rcases List.mem_append.mp hu with hu | hu
    ·exact lo u hu p hp h60
    ·have:u=t:=by simpa using hu
     exact c ⟨p,by rw [←this];exact hp,h60⟩
 ·rintro σ h' ⟨rfl,lo,s1,s2,rfl⟩
  rw [List.length_map,List.take_length] at lo
  exact bY (q1 fun ⟨t,ht,p,hp,h60⟩=>lo t ht p hp h60)
def Over (us vs rs:List Tm):Prop:=20000<us.length*vs.length∨600<rs.length∨Hi60 rs
def TimX (c0:MSp):Prop:=∀ {h:Gh} {us vs:List Tm} {L:Nat} {Q:WK} {E:XWK},Ms L us→Ms L vs→L≤8→(∀ rs (h':Gh),jw (fU us vs) rs→Ge h h'→(¬ Over us vs rs→Q (smW rs) h')∧(Over us vs rs→E ⟨"TooMuch",[]⟩ h'))→c0 [smW us,smW vs] h Q E
theorem setD_g {L:Nat}{h:Gh}{n:Nat}{D:List Tm}{k:List Int}{x:Int}{N:Gh→Prop}(e:h.c n=some (.dct (ikv D)))(hD:∀ j∈D.map (·.1),Kb L j)(hk:Kb L k)(hz:D.length≤30000)(q:∀ g:Gh,g.c n=some (.dct (ikv (oR D k x)))→(∀ m,m≠n→g.c m=h.c m)→g.nx=h.nx→N g):sSetD (.loc n) (.int (pack k)) (.int x) h N:=by
 show (match h.c n with
  | some (.dct kvs)=>iz (kvs.length+1) (N (h.set n (.dct (putW kvs (.inl (pack k)) (.int x)))))
  | _=>False)
 rw [e]
 refine iz.mk (Nat.le_trans (m:=30001) (by unfold ikv;rw [List.length_map];omega) (by decide)) ?_
 rw [ikv_put hD hk]
 exact q _ (set_c _ _ _) (fun _ e=>vN e) rfl
theorem getD_g {L:Nat}{h:Gh}{n:Nat}{D:List Tm}{k:List Int}{Q:WK}(e:h.c n=some (.dct (ikv D)))(hD:∀ j∈D.map (·.1),Kb L j)(hk:Kb L k)(q:Q (.int (getM D k)) h):kGetD (.loc n) [.int (pack k),.int 0] h Q:=by
 show (match h.c n,(some (Sum.inl (pack k)):Option Key) with
  | some (.dct kvs),some k=>Q ((nZ kvs k).getD (.int 0)) h
  | _,_=>False)
 rw [e]
 show Q ((nZ (ikv D) (.inl (pack k))).getD (.int 0)) h
 rw [ikv_get hD hk]
 exact q
theorem isDct_c {n:Nat}{kvs:List (Key×W)}{h:Gh}{P:Prop}(e:h.c n=some (.dct kvs))(p:P):zH h (.loc n) P:=by
 unfold zH
 dsimp only
 rw [e]
 exact p
theorem mBMe_s {r:MM}{mo:ME}{ma:MA}{σ : Sw}{h:Gh}{Q:WK}(x:mo σ h fun x h1=>zH h1 x (ma σ h1 fun xs h2=>r x xs h2 Q)):mBMe r mo ma σ h Q:=x
theorem mNewD_g {σ : Sw}{h:Gh}{Q:WK}(x:∀ g:Gh,g.c h.nx=some (.dct (ikv []))→(∀ n,n≠h.nx→g.c n=h.c n)→g.nx=h.nx+1→Q (.loc h.nx) g):mNewD σ h Q:=x _ (new_c _ _) (fun _ e=>rN e) rfl
theorem take_mulD {us vs:List Tm}{i:Nat}{t:Tm}(e:us[i]?=some t):fU (us.take (i+1)) vs=mulR t.1 t.2 vs (fU (us.take i) vs):=by
 rw [List.take_succ,e]
 exact cV ..
theorem yR {k:List Int}{n:Int}{vs D:List Tm}{i:Nat}{s:Tm}(e:vs[i]?=some s):mulR k n (vs.take (i+1)) D=wN (mulR k n (vs.take i) D) (cR k s.1) (n*s.2):=by
 rw [List.take_succ,e]
 exact dz ..
theorem Ms.kb {L:Nat}{us:List Tm}(h:Ms L us):∀ t∈us,t.1.length=L∧∀ p∈t.1,0≤p∧p≤40:=fun t ht=>⟨(h.2.2 t ht).1,(h.2.2 t ht).2.2.2⟩
theorem jw.facts {L:Nat}{D rs:List Tm}(hD:∀ k∈D.map (·.1),Kb L k)(nd:(D.map (·.1)).Nodup)(a:jw D rs):(∀ t∈rs,Kb L t.1∧t.2≠0)∧(rs.map (·.1)).Pairwise (· < ·):=by
 obtain ⟨ks,pk,sk,rfl⟩:=a
 refine ⟨fun t ht=>?_,p7 sk⟩
 have:=ord_in nd (fun k hk=>pk.mem_iff.mp hk) ht
 exact ⟨hD t.1 (List.mem_map.mpr ⟨t,this.1,rfl⟩),this.2⟩
theorem for_lstv {ws:List W}{i:Nat}{g:MG}{b:MS}{D:bI}{σ : Sw}{h:Gh}(hv:σ[i]?=some (some (.lst ws)))(x:fW ⟨ws,none⟩ g b D ws σ h):mQ (nIt (aD i)) g b D σ h:=jT (j7 (aq hv (xG rfl (jP x))))
theorem atI_hd {w:W}{l:List W}:atI (w::l) 0=some w:=by
 unfold atI ixN
 simp
theorem lets {L:Nat}{us:List Tm}{σ : Sw}{h:Gh}{Q:WK}(hv:σ[0]?=some (some (smW us)))(hl:∀ t∈us,t.1.length=L)(q:∀ l:Nat,(us≠[]→l=L)→Q (.int l) h) :
  mIf (mTru (aD 0)) (mCB kLen (au (mOp kIx (mOp kIx (aD 0) (mC (.int 0))) (mC (.int 0))) bw)) (mC (.int 0)) σ h Q:=by
 cases us with
 | nil=>exact mIf_s (uO (aq hv (uK_s (b:=false) rfl (br_fs (d7 (q 0 fun n=>absurd rfl n))))))
 | cons t us=>
  refine mIf_s (uO (aq hv (uK_s (b:=true) rfl (br_ts (fj (ao (aV (aV (aq hv (d7 (jd (ws:=(t::us).map tmW) rfl (w:=tmW t) (by rw [List.map_cons];exact atI_hd) (d7 (jd (ws:=[.tup (t.1.map .int),.int t.2]) rfl (w:=.tup (t.1.map .int)) atI_hd (aG (mU (xs:=t.1.map .int) rfl ?_)))))))))))))))
  rw [List.length_map]
  exact q _ fun _=>hl t (by simp)
theorem unps {L l:Nat}{rs:List Tm}{un:MSp}{E0:XWK}(hun:UnX un){σ : Sw}{h:Gh}{Q:WK}(hv:σ[10]?=some (some (.tup (rs.map itW))))(hv9:σ[9]?=some (some (.int l)))(hr:∀ t∈rs,Kb L t.1)(hl:rs≠[]→l=L)(hL:L≤8)(hz:rs.length≤600)(q:Q (.lst (rs.map tmW)) h) :
  mLC (owT 2) [9] (nIt (aD 10)) mYes (xW (au (bB un E0 (au (aD 0) (au (aD 2) bw))) (au (aD 1) bw))) σ h Q:=by
 have eb:lG [9] σ = [some (.int l)]:=by unfold lG;rw [List.map_cons,hv9];rfl
 refine pZ (j7 (aq hv (xG (ws:=rs.map itW) (o:=none) rfl (iz.mk (Nat.le_trans (m:=1000) (by rw [List.length_map];omega) (by decide)) ?_))))
 refine jX (fun i acc g=>g=h∧acc=(rs.take i).map tmW) ?_ ?_ ⟨rfl,rfl⟩
 ·rintro i w acc g N hN e ⟨rfl,rfl⟩
  rw [List.getElem?_map] at e
  cases qe:rs[i]? with
  | none=>rw [qe] at e;cases e
  | some t=>
   rw [qe] at e
   cases e
   have mt:=List.mem_of_getElem? qe
   have el:=hl (List.ne_nil_of_mem mt)
   subst el
   refine ⟨[.int (pack t.1),.int t.2],rfl,?_⟩
   rw [eb]
   refine nT (nW (jg (ao (aQ (ao (aq rfl (ao (aq rfl (aG ?_)))))))))
   refine hun (hr t mt) hL (ao (aq rfl (aG (dJ rfl (hN _ _ ⟨rfl,?_⟩)))))
   rw [List.take_succ,qe,List.map_append]
   rfl
 ·rintro acc g ⟨rfl,rfl⟩
  rw [List.length_map,List.take_length]
  exact q
abbrev ht (us vs:List Tm)(h:Gh)(r:Sw):Sw:=some (smW us)::some (smW vs)::some (.loc h.nx)::some (.lst (vs.map ptW))::r
set_option maxHeartbeats 2000000 in
theorem w_times {so un pt cp:MSp}(hso:SotI so)(hun:UnX un)(hpt:PtX pt)(hcp:CpX cp):TimX (sY so un pt cp):=by
 intro h us vs L Q E hu hv hL q
 have lu:=hu.1
 have lv:=hv.1
 have ku:=hu.kb
 have kv:=hv.kb
 have kbu:∀ t∈us,Kb L t.1:=fun t ht=>⟨(ku t ht).1,fun p hp=>by have:=(ku t ht).2 p hp;omega⟩
 have kbv:∀ t∈vs,Kb L t.1:=fun t ht=>⟨(kv t ht).1,fun p hp=>by have:=(kv t ht).2 p hp;omega⟩
 have kD:=qZ ku kv
 obtain ⟨ks,pk,sk⟩:=sortK _ (dU us vs)
 have hO:jw (fU us vs) (iy (fU us vs) ks):=⟨ks,pk,sk,rfl⟩
 unfold sY
 refine iG rfl (σ:=[some (smW us),some (smW vs),none,none,none,none,none,none,none,none,none,none]) rfl ?_
 refine aO (je (cD (aV (aV (fj (ao (aq rfl (aG (mU (xs:=us.map tmW) rfl (fj (ao (aq rfl (aG (mU (xs:=vs.map tmW) rfl ?_))))))))))))))
 rw [List.length_map,List.length_map]
 refine gk (.of (n:=8) (m:=8) (by unfold Sm;show (us.length:Int).natAbs<256;omega) (by unfold Sm;show (vs.length:Int).natAbs<256;omega) (by decide) (by decide)) (d7 (yp (wQ ?_)))
 have em:(us.length:Int)*(vs.length:Int)=((us.length*vs.length:Nat):Int):=by rw [Int.natCast_mul]
 rw [em]
 generalize ez:us.length*vs.length=z
 refine br_d (fun c=>iZ ((q _ h hO ⟨Nat.le_refl _,fun _ _=>rfl⟩).2 (.inl (by omega)))) fun c=>eZ (bY ?_)
 have hz:us.length*vs.length≤20000:=by omega
 unfold qX
 refine aO (aY (mNewD_g fun g eg og xg=>?_))
 refine aF (σ':=[some (smW us),some (smW vs),some (.loc h.nx),none,none,none,none,none,none,none,none,none]) rfl (bY ?_)
 refine aO (aY (aQ (ao (aq rfl (aG (hpt kbv (by omega) hL ?_))))))
 refine aF (σ':=ht us vs h [none,none,none,none,none,none,none,none]) rfl (bY ?_)
 refine aO (jT (j7 (aQ (ao (aq rfl (aG (hpt kbu (by omega) hL (xG (ws:=us.map ptW) (o:=none) rfl (jP ?_)))))))))
 refine cP (fun i σ h'=>∃ s4 s5 s6 s7 s8:Option W,σ = ht us vs h [s4,s5,s6,s7,s8,none,none,none]∧h'.c h.nx=some (.dct (ikv (fU (us.take i) vs)))∧h'.nx=h.nx+1∧∀ n,n≠h.nx→h'.c n=h.c n) ?_ ?_ ⟨none,none,none,none,none,rfl,eg,xg,og⟩
 ·rintro i w σ h' N hN e ⟨s4,s5,s6,s7,s8,rfl,e2,x2,o2⟩
  rw [List.getElem?_map] at e
  cases qe:us[i]? with
  | none=>rw [qe] at e;cases e
  | some t=>
   rw [qe] at e
   cases e
   have mt:=List.mem_of_getElem? qe
   have zi:(us.take i).length*vs.length≤20000:=Nat.le_trans (Nat.mul_le_mul_right _ (by rw [List.length_take];omega)) hz
   have ldi:=Nat.le_trans (qb (us.take i) vs) zi
   have kDi:∀ k∈(fU (us.take i) vs).map (·.1),Kb L k:=qZ (fun u hu=>ku u (List.mem_of_mem_take hu)) kv
   refine eN rfl rfl (bN (aF (σ':=ht us vs h [some (.int (pack t.1)),s5,s6,s7,s8,none,none,none]) rfl (bN (aF (σ':=ht us vs h [some (.int (pack t.1)),some (.int t.2),s6,s7,s8,none,none,none]) rfl (iW ?_)))))
   refine for_lstv (ws:=vs.map ptW) rfl ?_
   refine cP (fun j σ h'=>∃ s6 s7 s8:Option W,σ = ht us vs h [some (.int (pack t.1)),some (.int t.2),s6,s7,s8,none,none,none]∧h'.c h.nx=some (.dct (ikv (mulR t.1 t.2 (vs.take j) (fU (us.take i) vs))))∧h'.nx=h.nx+1∧∀ n,n≠h.nx→h'.c n=h.c n) ?_ ?_ ⟨s6,s7,s8,rfl,e2,x2,o2⟩
   ·rintro j w σ h2 N2 hN2 e' ⟨s6,s7,s8,rfl,e3,x3,o3⟩
    rw [List.getElem?_map] at e'
    cases qf:vs[j]? with
    | none=>rw [qf] at e';cases e'
    | some s=>
     rw [qf] at e'
     cases e'
     have ms:=List.mem_of_getElem? qf
     have kDj:=zJ (t:=t) (vs:=vs.take j) (ku t mt) (fun u hu=>kv u (List.mem_of_mem_take hu)) kDi
     have kz:=yZ (ku t mt) (kv s ms)
     have lj:=vp t.1 t.2 (vs.take j) (fU (us.take i) vs)
     rw [List.length_take] at lj
     refine eN rfl rfl (bN (aF (σ':=ht us vs h [some (.int (pack t.1)),some (.int t.2),some (.int (pack s.1)),s7,s8,none,none,none]) rfl (bN (aF (σ':=ht us vs h [some (.int (pack t.1)),some (.int t.2),some (.int (pack s.1)),some (.int s.2),s8,none,none,none]) rfl (iW ?_)))))
     refine aO (aY (aV (aq rfl (aq rfl (fB ?_)))))
     rw [←vR (ku t mt).1 (kv s ms).1]
     refine aF (σ':=ht us vs h [some (.int (pack t.1)),some (.int t.2),some (.int (pack s.1)),some (.int s.2),some (.int (pack (cR t.1 s.1))),none,none,none]) rfl (bY ?_)
     refine aY (aV (mBMe_s (aq rfl (isDct_c e3 (ao (aq rfl (ao (d7 (aG (getD_g e3 kDj kz ?_))))))))))
     refine aV (aq rfl (aq rfl (gk (.of (hu.2.2 t mt).2.2.1 (hv.2.2 s ms).2.2.1 (by decide) (by decide)) (fB (nSub_s (aq rfl (aq rfl ?_)))))))
     refine setD_g e3 kDj kz (by omega) fun g2 a1 a2 a3=>bY (hN2 _ _ ⟨_,_,_,rfl,?_,by omega,fun n hn=>by rw [a2 n hn];exact o3 n hn⟩)
     rw [yR qf]
     exact a1
   ·rintro σ h2 ⟨s6,s7,s8,rfl,e3,x3,o3⟩
    rw [List.length_map,List.take_length] at e3
    refine bY (hN _ _ ⟨_,_,_,_,_,rfl,?_,x3,o3⟩)
    rw [take_mulD qe]
    exact e3
 ·rintro σ h' ⟨s4,s5,s6,s7,s8,rfl,e2,x2,o2⟩
  rw [List.length_map,List.take_length] at e2
  have ge:Ge h h':=⟨by omega,fun n hn=>o2 n (by omega)⟩
  refine bY ?_
  unfold qW
  refine aO (aY (lets (L:=L) rfl (fun t ht=>(ku t ht).1) fun l el=>?_))
  refine aF (σ':=ht us vs h [s4,s5,s6,s7,s8,some (.int l),none,none]) rfl (bY ?_)
  refine aO (aY (aQ (ao (aq rfl (aG ?_)))))
  refine hso e2 kD (dU us vs) (Nat.le_trans (qb us vs) (by omega)) fun rs hr=>?_
  obtain ⟨q1,q2⟩:=q rs h' hr ge
  have fr:=(hr.facts kD (dU us vs)).1
  refine ⟨fun l6=>?_,fun l6=>q2 (.inr (.inl l6))⟩
  have hne:rs≠[]→l=L:=fun n=>el fun eu=>n (by
   subst eu
   obtain ⟨ks,pk,sk,rfl⟩:=hr
   have:ks=[]:=pk.eq_nil
   rw [this]
   rfl)
  refine aF (σ':=ht us vs h [s4,s5,s6,s7,s8,some (.int l),some (.tup (rs.map itW)),none]) rfl (bY ?_)
  refine aO (aY (fj (ao (unps hun rfl rfl (fun t ht=>(fr t ht).1) hne hL l6 (aG (kE ?_))))))
  refine aF (σ':=ht us vs h [s4,s5,s6,s7,s8,some (.int l),some (.tup (rs.map itW)),some (smW rs)]) rfl (bY ?_)
  refine aO (jN (aQ (ao (aq rfl (aG ?_)))))
  refine hcp (fun t ht=>(fr t ht).1.1) hL l6 (fun lo=>bY (cM (aq rfl (yh (q1 fun o=>?_))))) fun hi=>q2 (.inr (.inr hi))
  rcases o with o | o | o
  ·omega
  ·omega
  ·exact lo o
def uV (x:Int)(G:Nat):List Int:=(List.range (G+1)).map fun k=>x^k
def mo (ps xs:List Int):Nat→Int
 | 0=>1
 | i+1=>mo ps xs i*(xs.getD i 0)^(ps.getD i 0).toNat
def wo (ts:List Tm)(xs:List Int)(L:Nat):Nat→Int
 | 0=>0
 | i+1=>wo ts xs L i+(ts.getD i ([],0)).2*mo (ts.getD i ([],0)).1 xs L
def Bd (xs:List Int):Prop:=∀ x∈xs,Sm 34 x
theorem ux {x:Int}(k:Nat)(h:Sm 34 x):(x^k).natAbs≤2^(34*k):=by
 rw [Int.natAbs_pow,Nat.pow_mul]
 exact Nat.pow_le_pow_left (Nat.le_of_lt h) k
theorem Bd.get {xs:List Int}(h:Bd xs)(i:Nat):Sm 34 (xs.getD i 0):=by
 rw [List.getD_eq_getElem?_getD]
 cases e:xs[i]? with
 | none=>exact (by unfold Sm;decide:Sm 34 0)
 | some x=>exact h x (List.mem_of_getElem? e)
theorem Pw.get {ps:List Int}(h:Pw ps)(i:Nat):0≤ps.getD i 0∧ps.getD i 0≤60:=by
 rw [List.getD_eq_getElem?_getD]
 cases e:ps[i]? with
 | none=>exact (by decide:(0:Int)≤0∧(0:Int)≤60)
 | some x=>exact h x (List.mem_of_getElem? e)
theorem wk {x p:Int}(h:Sm 34 x)(h1:p≤60):(x^p.toNat).natAbs≤2^2040:=
 Nat.le_trans (ux _ h) (Nat.pow_le_pow_right (by decide) (by omega))
theorem mo_bd {ps xs:List Int}(hx:Bd xs)(hp:Pw ps):∀ i,(mo ps xs i).natAbs≤2^(2040*i)
 | 0=>by simp [mo]
 | i+1=>by
  rw [mo,Int.natAbs_mul,Nat.mul_succ,Nat.pow_add]
  exact Nat.mul_le_mul (mo_bd hx hp i) (wk (hx.get i) (hp.get i).2)
theorem tX {m k:Nat}{a b:Int}(h:Sm m a)(hb:b.natAbs≤2^k):Sm (m+k) (a*b):=by
 unfold Sm at *
 rw [Int.natAbs_mul,Nat.pow_add]
 exact Nat.mul_lt_mul_of_lt_of_le h hb (Nat.pow_pos (by decide))
theorem sm_le4 {k:Nat}{b:Int}(hb:b.natAbs≤2^k):Sm (k+1) b:=by
 unfold Sm
 exact Nat.lt_of_le_of_lt hb (Nat.pow_lt_pow_right (by decide) (Nat.lt_succ_self _))
theorem vO {x:Int}{G k:Nat}(h:k≤G):((uV x G).map W.int)[k]?=some (.int (x^k)):=by
 unfold uV
 rw [List.getElem?_map,List.getElem?_map,List.getElem?_range (by omega)]
 rfl
theorem pws_len4 (x:Int)(G:Nat):(uV x G).length=G+1:=by unfold uV;simp
theorem z9 (x:Int)(G:Nat):uV x (G+1)=uV x G++[x^G*x]:=by
 unfold uV
 rw [List.range_succ,List.map_append,List.map_singleton,Int.pow_succ]
def PupX4 (c0:MSp):Prop:=∀ {h:Gh} {x:Int} {G:Nat} {Q:WK} {E:XWK},Sm 34 x→G≤60→Q (.lst ((uV x G).map .int)) h→c0 [.int x,.int (G:Int)] h Q E
theorem w_pup4:PupX4 dO:=by
 intro h x G Q E sx hG q
 unfold dO
 refine rJ rfl (σ:=[some (.int x),some (.int (G:Int)),none,none]) rfl ?_
 refine aO (aY (pG (ws:=[.int 1]) (fun R=>rfl) rfl fun g eg og xg=>?_))
 refine aF (σ':=[some (.int x),some (.int (G:Int)),some (.loc h.nx),none]) rfl (bY (aO ?_))
 refine jD (j:=(G:Int)) (fun _=>rfl) (by omega) (by omega) (fun i σ h'=>∃ (s3:Option W),σ = [some (.int x),some (.int (G:Int)),some (.loc h.nx),s3]∧h'.c h.nx=some (.lst ((uV x i).map .int))∧∀ n,n≠h.nx→h'.c n=h.c n) ?_ ?_ ⟨none,rfl,by rw [eg];simp [uV,List.range_succ],og⟩
 ·rintro i σ h' N hN hi ⟨s3,rfl,e2,e3⟩
  refine aF (σ':=[some (.int x),some (.int (G:Int)),some (.loc h.nx),some (.int (i:Int))]) rfl ?_
  refine jN (vg (aq rfl (oZ e2 ?_)))
  refine ao (aV (aV (aq rfl (aq rfl (kIx_c e2 (mD (vO (Nat.le_refl i))) ?_)))))
  refine aq rfl (gk (.of (sm_le4 (ux i sx)) sx (by omega) (by decide)) (aG ?_))
  refine app_g e2 (by rw [List.length_map,pws_len4];omega) fun g2 a1 a2 a3=>bY (hN _ _ ⟨_,rfl,?_,fun n hn=>by rw [a2 n hn];exact e3 n hn⟩)
  rw [a1,z9,List.map_append]
  rfl
 ·rintro σ h' ⟨s3,rfl,e2,e3⟩
  unfold fM
  have eG:(G:Int).toNat=G:=by omega
  rw [eG] at e2
  refine bY (cM (aq rfl ?_))
  exact ⟨fun n c hn ec=>by rw [e3 n (by omega)];exact ec,.inr ⟨h.nx,_,rfl,Nat.le_refl _,e2,lV _ _,q⟩⟩
def TsX4 (L:Nat)(ts:List Tm):Prop:=ts.length≤600∧∀ t∈ts,t.1.length=L∧Sm 300 t.2∧Pw t.1
def HtX4 (c0:MSp):Prop:=∀ {h:Gh} {ts:List Tm} {L l:Nat} {Q:WK} {E:XWK},TsX4 L ts→l<L→(∀ M:Nat,M≤60→(∀ t∈ts,t.1.getD l 0≤(M:Int))→Q (.int (M:Int)) h)→c0 [smW ts,.int (l:Int)] h Q E
theorem w_height4:HtX4 qy:=by
 intro h ts L l Q E wf hl q
 unfold qy
 refine iG rfl (σ:=[some (smW ts),some (.int (l:Int))]) rfl (cM (fj (ao ?_)))
 refine pZ (j7 (aq rfl (xG (ws:=ts.map tmW) (o:=none) rfl (iz.mk (Nat.le_trans (m:=1000) (by rw [List.length_map];have:=wf.1;omega) (by decide)) ?_))))
 refine jX (fun i acc g=>g=h∧acc=((ts.take i).map fun t=>t.1.getD l 0).map .int) ?_ ?_ ⟨rfl,rfl⟩
 ·rintro i w acc g N hN e ⟨rfl,rfl⟩
  rw [List.getElem?_map] at e
  cases qe:ts[i]? with
  | none=>rw [qe] at e;cases e
  | some t=>
   rw [qe] at e
   cases e
   obtain ⟨w1,_,_⟩:=wf.2 t (List.mem_of_getElem? qe)
   refine ⟨[.tup (t.1.map .int),.int t.2],rfl,nT (nW (aV (aq rfl (aq rfl ?_))))⟩
   refine jd (ws:=t.1.map .int) (w:=.int (t.1.getD l 0)) rfl (mD ?_) (hN _ _ ⟨rfl,?_⟩)
   ·rw [List.getElem?_map,List.getD_eq_getElem?_getD,List.getElem?_eq_getElem (by omega)];rfl
   ·rw [List.take_succ,qe]
    simp
 ·rintro acc g ⟨rfl,rfl⟩
  rw [List.length_map,List.take_length]
  refine aG ⟨_,rfl,fun M hM=>?_⟩
  rcases hM with ⟨z,rfl⟩ | ⟨hm,ha⟩
  ·have:ts=[]:=List.map_eq_nil_iff.mp z
   subst this
   exact yh (q 0 (by decide) fun _ h=>(nomatch h))
  ·obtain ⟨t,ht,rfl⟩:=List.mem_map.mp hm
   obtain ⟨b0,b1⟩:=(wf.2 t ht).2.2.get l
   obtain ⟨k,ek⟩:=Int.eq_ofNat_of_zero_le b0
   rw [ek] at b1 ha ⊢
   exact yh (q k (by omega) fun u hu=>ha _ (List.mem_map.mpr ⟨u,hu,rfl⟩))
theorem nEnumT_s {ma:MA}{R:Src→Gh→Prop}{σ : Sw}{h:Gh} (x:ma σ h fun ws h1=>match ws with
 | [.tup as]=>R ⟨enW 0 as,none⟩ h1
 | _=>False):za ma σ h R:=x
def WtX4 (c0:MSp):Prop:=∀ {h:Gh} {ts:List Tm} {xs:List Int} {L:Nat} {Q:WK} {E:XWK},L≤8→TsX4 L ts→xs.length=L→Bd xs→Q (.int (wo ts xs L ts.length)) h→c0 [smW ts,.tup (xs.map .int)] h Q E
def Tb (ts:List Tm)(xs:List Int)(acc:List W):Prop:=∀ k,k<acc.length→∃ G:Nat,acc[k]?=some (.lst ((uV (xs.getD k 0) G).map .int))∧∀ t∈ts,t.1.getD k 0≤(G:Int)
theorem xX {pu ht:MSp}(hpu:PupX4 pu)(hht:HtX4 ht):WtX4 (jx pu ht):=by
 intro h ts xs L Q E hL wf hx bx q
 have lx:(xs.map W.int).length=L:=by rw [List.length_map];exact hx
 unfold jx
 refine iG rfl (σ:=[some (smW ts),some (.tup (xs.map .int)),none,none,none,none,none,none,none]) rfl (aO (aY (pZ (nEnumT_s (ao (aq rfl (aG ?_)))))))
 show iz _ _
 refine iz.mk (Nat.le_trans (m:=1000) (by rw [qw,lx];omega) (by decide)) ?_
 refine jX (fun i acc g=>g=h∧acc.length=i∧Tb ts xs acc) ?_ ?_ ⟨rfl,rfl,fun k hk=>absurd hk (Nat.not_lt_zero _)⟩
 ·rintro i w acc g N hN e ⟨rfl,a1,a2⟩
  obtain ⟨a,ea,rfl⟩:=tL e
  have hi:i<L:=by have:=(List.getElem?_eq_some_iff.mp ea).1;omega
  rw [List.getElem?_map,List.getElem?_eq_getElem (by omega)] at ea
  have eg:xs.getD i 0=xs[i]'(by omega):=by rw [List.getD_eq_getElem?_getD,List.getElem?_eq_getElem (by omega)];rfl
  cases ea
  rw [←eg,Nat.zero_add]
  refine ⟨[.int (i:Int),.int (xs.getD i 0)],rfl,nT (nW (aQ (ao (aq rfl (ao (aQ (ao (aq rfl (ao (aq rfl (aG ?_)))))))))))⟩
  refine hht wf hi fun M hM hb=>aG (hpu (bx.get i) hM (hN _ _ ⟨rfl,by simp [a1],fun k hk=>?_⟩))
  by_cases c:k<acc.length
  ·obtain ⟨G,g1,g2⟩:=a2 k c
   exact ⟨G,by rw [List.getElem?_append_left c];exact g1,g2⟩
  ·have:k=i:=by simp at hk;omega
   subst this
   refine ⟨M,?_,hb⟩
   rw [List.getElem?_append_right (by omega),a1]
   simp
 ·rintro tb g ⟨rfl,a1,a2⟩
  rw [qw,lx] at a1
  refine aF (σ':=[some (smW ts),some (.tup (xs.map .int)),some (.lst tb),none,none,none,none,none,none]) rfl (bY (aO (aY (d7 ?_))))
  refine aF (σ':=[some (smW ts),some (.tup (xs.map .int)),some (.lst tb),some (.int 0),none,none,none,none,none]) rfl (bY (aO ?_))
  refine jO (ws:=ts.map tmW) rfl ?_
  refine cP (fun i σ h'=>h'=g∧∃ s4 s5 s6 s7 s8:Option W,σ = [some (smW ts),some (.tup (xs.map .int)),some (.lst tb),some (.int (wo ts xs L i)),s4,s5,s6,s7,s8]) ?_ ?_ ⟨rfl,none,none,none,none,none,rfl⟩
  ·rintro i w σ h' N hN e ⟨rfl,s4,s5,s6,s7,s8,rfl⟩
   rw [List.getElem?_map] at e
   cases qe:ts[i]? with
   | none=>rw [qe] at e;cases e
   | some t=>
    rw [qe] at e
    cases e
    have mt:=List.mem_of_getElem? qe
    obtain ⟨w1,w2,w3⟩:=wf.2 t mt
    have et:ts.getD i ([],0)=t:=by rw [List.getD_eq_getElem?_getD,qe];rfl
    refine eN rfl rfl (bN (aF (σ':=[some (smW ts),some (.tup (xs.map .int)),some (.lst tb),some (.int (wo ts xs L i)),some (.tup (t.1.map .int)),s5,s6,s7,s8]) rfl (bN (aF (σ':=[some (smW ts),some (.tup (xs.map .int)),some (.lst tb),some (.int (wo ts xs L i)),some (.tup (t.1.map .int)),some (.int t.2),s6,s7,s8]) rfl (iW ?_)))))
    refine aO (aY (aq rfl (aF (σ':=[some (smW ts),some (.tup (xs.map .int)),some (.lst tb),some (.int (wo ts xs L i)),some (.tup (t.1.map .int)),some (.int t.2),some (.int t.2),s7,s8]) rfl (bY (aO (jT (nZip_s (ao (aq rfl (ao (aq rfl (aG ?_))))))))))))
    refine zpK_s (as:=t.1.map .int) (bs:=tb) rfl rfl rfl (jP ?_)
    have lz:(kZ (t.1.map W.int) tb).length=L:=by rw [pC,List.length_map];omega
    refine cP (fun j σ h1=>h1=h'∧∃ s7 s8:Option W,σ = [some (smW ts),some (.tup (xs.map .int)),some (.lst tb),some (.int (wo ts xs L i)),some (.tup (t.1.map .int)),some (.int t.2),some (.int (t.2*mo t.1 xs j)),s7,s8]) ?_ ?_ ⟨rfl,s7,s8,by rw [mo,Int.mul_one]⟩
    ·rintro j w σ h1 N' hN' e' ⟨rfl,s7,s8,rfl⟩
     obtain ⟨a,b,ea,eb,rfl⟩:=pI e'
     have hj:j<L:=by have:=(List.getElem?_eq_some_iff.mp eb).1;omega
     obtain ⟨G,g1,g2⟩:=a2 j (by omega)
     rw [eb] at g1
     cases g1
     rw [List.getElem?_map,List.getElem?_eq_getElem (by omega)] at ea
     have eg:t.1.getD j 0=t.1[j]'(by omega):=by rw [List.getD_eq_getElem?_getD,List.getElem?_eq_getElem (by omega)];rfl
     cases ea
     rw [←eg]
     obtain ⟨b0,b1⟩:=w3.get j
     have b2:=g2 t mt
     have en:t.1.getD j 0=(((t.1.getD j 0).toNat:Nat):Int):=by omega
     refine eN rfl rfl (bN (aF (σ':=[some (smW ts),some (.tup (xs.map .int)),some (.lst tb),some (.int (wo ts xs L i)),some (.tup (t.1.map .int)),some (.int t.2),some (.int (t.2*mo t.1 xs j)),some (.int (t.1.getD j 0)),s8]) rfl (bN (aF (σ':=[some (smW ts),some (.tup (xs.map .int)),some (.lst tb),some (.int (wo ts xs L i)),some (.tup (t.1.map .int)),some (.int t.2),some (.int (t.2*mo t.1 xs j)),some (.int (t.1.getD j 0)),some (.lst ((uV (xs.getD j 0) G).map .int))]) rfl (iW ?_)))))
     refine aY (aV (aq rfl (aV (aq rfl (aq rfl ?_)))))
     refine jd (ws:=(uV (xs.getD j 0) G).map .int) (w:=.int (xs.getD j 0^(t.1.getD j 0).toNat)) rfl (by rw [en];exact mD (by rw [Int.toNat_natCast];exact vO (by omega))) ?_
     refine gk (.of (tX w2 (mo_bd bx w3 j)) (sm_le4 (wk (bx.get j) b1)) (by omega) (by decide)) ?_
     refine aF (σ':=[some (smW ts),some (.tup (xs.map .int)),some (.lst tb),some (.int (wo ts xs L i)),some (.tup (t.1.map .int)),some (.int t.2),some (.int (t.2*mo t.1 xs (j+1))),some (.int (t.1.getD j 0)),some (.lst ((uV (xs.getD j 0) G).map .int))]) (by rw [mo,←Int.mul_assoc];rfl) (bY (hN' _ _ ⟨rfl,_,_,rfl⟩))
    ·rintro σ h1 ⟨rfl,s7,s8,rfl⟩
     rw [lz]
     refine bY (aY (aV (aq rfl (aq rfl (fB ?_)))))
     refine aF (σ':=[some (smW ts),some (.tup (xs.map .int)),some (.lst tb),some (.int (wo ts xs L (i+1))),some (.tup (t.1.map .int)),some (.int t.2),some (.int (t.2*mo t.1 xs L)),s7,s8]) (by rw [wo,et];rfl) (bY (hN _ _ ⟨rfl,_,_,_,_,_,rfl⟩))
  ·rintro σ h' ⟨rfl,s4,s5,s6,s7,s8,rfl⟩
   rw [List.length_map]
   unfold j6
   exact bY (cM (aq rfl (yh q)))
theorem rngl4:∀ n:Nat,((rng 0 n).map fun x:Nat=>W.int (x:Int)).length=n:=fun n=>by unfold rng;rw [List.length_map,List.length_range'];omega
theorem vQ {ps:List Int}{k:Nat}(h:k<ps.length):atI (ps.map W.int) (k:Int)=some (.int (ps.getD k 0)):=
 mD (by rw [List.getElem?_map,List.getD_eq_getElem?_getD,List.getElem?_eq_getElem h];rfl)
theorem w_lworth:WtX4 lU:=by
 intro h ts xs L Q E hL wf hx bx q
 unfold lU
 refine iG rfl (σ:=[some (smW ts),some (.tup (xs.map .int)),none,none,none,none,none]) rfl (aO (aY (d7 ?_)))
 refine aF (σ':=[some (smW ts),some (.tup (xs.map .int)),some (.int 0),none,none,none,none]) rfl (bY (aO ?_))
 refine jO (ws:=ts.map tmW) rfl ?_
 refine cP (fun i σ h'=>h'=h∧∃ s3 s4 s5 s6:Option W,σ = [some (smW ts),some (.tup (xs.map .int)),some (.int (wo ts xs L i)),s3,s4,s5,s6]) ?_ ?_ ⟨rfl,none,none,none,none,rfl⟩
 ·rintro i w σ h' N hN e ⟨rfl,s3,s4,s5,s6,rfl⟩
  rw [List.getElem?_map] at e
  cases qe:ts[i]? with
  | none=>rw [qe] at e;cases e
  | some t=>
   rw [qe] at e
   cases e
   have mt:=List.mem_of_getElem? qe
   obtain ⟨w1,w2,w3⟩:=wf.2 t mt
   have et:ts.getD i ([],0)=t:=by rw [List.getD_eq_getElem?_getD,qe];rfl
   refine eN rfl rfl (bN (aF (σ':=[some (smW ts),some (.tup (xs.map .int)),some (.int (wo ts xs L i)),some (.tup (t.1.map .int)),s4,s5,s6]) rfl (bN (aF (σ':=[some (smW ts),some (.tup (xs.map .int)),some (.int (wo ts xs L i)),some (.tup (t.1.map .int)),some (.int t.2),s5,s6]) rfl (iW ?_)))))
   refine aO (jT (sW (ao (fj (ao (aq rfl (aG (mU (xs:=t.1.map .int) rfl (aG ?_)))))))))
   rw [List.length_map,w1]
   refine rgK_s (by omega) (jP ?_)
   refine cP (fun j σ h1=>h1=h'∧∃ s5 s6:Option W,σ = [some (smW ts),some (.tup (xs.map .int)),some (.int (wo ts xs L i)),some (.tup (t.1.map .int)),some (.int (t.2*mo t.1 xs j)),s5,s6]) ?_ ?_ ⟨rfl,s5,s6,by rw [mo,Int.mul_one]⟩
   ·rintro j w σ h1 N' hN' e' ⟨rfl,s5,s6,rfl⟩
    rw [List.getElem?_map] at e'
    cases qj:(rng 0 L)[j]? with
    | none=>rw [qj] at e';cases e'
    | some j'=>
     rw [qj] at e'
     cases e'
     obtain ⟨ej,hj⟩:=rng_get qj
     rw [Nat.zero_add] at ej
     subst ej
     obtain ⟨b0,b1⟩:=w3.get j'
     have en:t.1.getD j' 0=(((t.1.getD j' 0).toNat:Nat):Int):=by omega
     refine aF (σ':=[some (smW ts),some (.tup (xs.map .int)),some (.int (wo ts xs L i)),some (.tup (t.1.map .int)),some (.int (t.2*mo t.1 xs j')),some (.int (j':Int)),s6]) rfl ?_
     refine jT (sW (ao (aV (aq rfl (aq rfl (jd (ws:=t.1.map .int) rfl (vQ (by omega)) (aG ?_)))))))
     rw [en]
     refine rgK_s (by omega) (jP ?_)
     refine cP (fun a σ h2=>h2=h1∧a≤60∧∃ s6:Option W,σ = [some (smW ts),some (.tup (xs.map .int)),some (.int (wo ts xs L i)),some (.tup (t.1.map .int)),some (.int (t.2*mo t.1 xs j'*xs.getD j' 0^a)),some (.int (j':Int)),s6]) ?_ ?_ ⟨rfl,Nat.zero_le _,s6,by rw [Int.pow_zero,Int.mul_one]⟩
     ·rintro a w σ h2 N2 hN2 e2 ⟨rfl,a0,s6,rfl⟩
      have ha:a<(t.1.getD j' 0).toNat:=by have:=(List.getElem?_eq_some_iff.mp e2).1;rw [rngl4] at this;exact this
      refine aF (σ':=[some (smW ts),some (.tup (xs.map .int)),some (.int (wo ts xs L i)),some (.tup (t.1.map .int)),some (.int (t.2*mo t.1 xs j'*xs.getD j' 0^a)),some (.int (j':Int)),some w]) rfl ?_
      refine aY (aV (aq rfl (aV (aq rfl (aq rfl (jd (ws:=xs.map .int) rfl (vQ (by omega)) ?_))))))
      refine gk (.of (tX (tX w2 (mo_bd bx w3 j')) (ux a (bx.get j'))) (bx.get j') (by omega) (by decide)) ?_
      exact aF (σ':=[some (smW ts),some (.tup (xs.map .int)),some (.int (wo ts xs L i)),some (.tup (t.1.map .int)),some (.int (t.2*mo t.1 xs j'*xs.getD j' 0^(a+1))),some (.int (j':Int)),some w]) (by rw [Int.pow_succ,←Int.mul_assoc];rfl) (bY (hN2 _ _ ⟨rfl,by omega,_,rfl⟩))
     ·rintro σ h2 ⟨rfl,a0,s6,rfl⟩
      rw [rngl4]
      exact bY (hN' _ _ ⟨rfl,some (.int (j':Int)),s6,by rw [mo,Int.mul_assoc]⟩)
   ·rintro σ h1 ⟨rfl,s5,s6,rfl⟩
    rw [rngl4]
    refine bY (aY (aV (aq rfl (aq rfl (fB ?_)))))
    exact aF (σ':=[some (smW ts),some (.tup (xs.map .int)),some (.int (wo ts xs L (i+1))),some (.tup (t.1.map .int)),some (.int (t.2*mo t.1 xs L)),s5,s6]) (by rw [wo,et];rfl) (bY (hN _ _ ⟨rfl,_,_,_,_,rfl⟩))
 ·rintro σ h' ⟨rfl,s3,s4,s5,s6,rfl⟩
  rw [List.length_map]
  unfold mG
  exact bY (cM (aq rfl (yh q)))
theorem vq:∀ us:List Tm,jZ (us.map tmW)=some (kvW us)
 | []=>rfl
 | t::us=>by
  show (match tKey (.tup (t.1.map W.int)) with
   | some ks=>(jZ (us.map tmW)).map ((ks,W.int t.2)::·)
   | none=>none)=_
  rw [u0,vq us]
  rfl
theorem dict_s {us:List Tm}{h:Gh}{Q:WK}(nd:(us.map (·.1)).Nodup)(x:∀ g:Gh,g.c h.nx=some (.dtt (kvW us))→(∀ n,n≠h.nx→g.c n=h.c n)→g.nx=h.nx+1→Q (.loc h.nx) g):vB [smW us] h Q:=by
 show (match jZ (us.map tmW) with
  | some ps=>(ps.map (·.1)).Nodup∧Q (.loc h.nx) (h.new (.dtt ps))
  | none=>False)
 rw [vq]
 refine ⟨?_,x _ (new_c _ _) (fun _ e=>rN e) rfl⟩
 have:(kvW us).map (·.1)=us.map (·.1):=by unfold kvW;rw [List.map_map];rfl
 rw [this]
 exact nd
theorem exit_t {h h':Gh}{us:List Tm}{Q:WK}(keep:∀ n,n<h.nx→h'.c n=h.c n)(q:Q (smW us) h):rK true h (smW us) h' Q:=
 ⟨fun n c hn ec=>by rw [keep n hn];exact ec,.inl ⟨lo_sm _ _,q⟩⟩
def kJ (f:Int)(us vs:List Tm):List Tm:=vs.foldl (fun D t=>wN D t.1 (f*t.2)) us
theorem fX (f:Int)(us vs:List Tm)(t:Tm):kJ f us (vs++[t])=wN (kJ f us vs) t.1 (f*t.2):=by unfold kJ;rw [List.foldl_append];rfl
theorem dW {f:Int}{us vs:List Tm}(h:(us.map (·.1)).Nodup):((kJ f us vs).map (·.1)).Nodup:=by
 refine snoc_ind (P:=fun vs=>((kJ f us vs).map (·.1)).Nodup) h (fun vs t ih=>?_) vs
 rw [fX]
 exact sy ih
theorem kO (f:Int)(us vs:List Tm):(kJ f us vs).length≤us.length+vs.length:=by
 refine snoc_ind (P:=fun vs=>(kJ f us vs).length≤us.length+vs.length) (Nat.le_refl _) (fun vs t ih=>?_) vs
 rw [fX,List.length_append,List.length_singleton]
 exact Nat.le_trans (tO ..) (by omega)
theorem sJ {f:Int}{us vs:List Tm}:∀ k∈(kJ f us vs).map (·.1),k∈us.map (·.1)∨k∈vs.map (·.1):=by
 refine snoc_ind (P:=fun vs=>∀ k∈(kJ f us vs).map (·.1),k∈us.map (·.1)∨k∈vs.map (·.1)) (fun k h=>.inl h) (fun vs t ih k hk=>?_) vs
 rw [fX,qu] at hk
 rw [List.map_append,List.mem_append]
 have hk:k∈(kJ f us vs).map (·.1)∨k=t.1:=by
  split at hk
  ·exact .inl hk
  ·rcases List.mem_append.mp hk with hk | hk
   ·exact .inl hk
   ·exact .inr (List.mem_singleton.mp hk)
 rcases hk with hk | hk
 ·rcases ih k hk with h | h
  ·exact .inl h
  ·exact .inr (.inl h)
 ·exact .inr (.inr (by simp [hk]))
def Ls (L:Nat)(us:List Tm):Prop:=us.length≤400∧(us.map (·.1)).Pairwise (· < ·)∧∀ t∈us,t.1.length=L∧t.2≠0∧Sm 300 t.2
theorem addD_L {L:Nat}{f:Int}{us vs:List Tm}(hu:Ls L us)(hv:Ls L vs):∀ t∈kJ f us vs,t.1.length=L:=fun t ht=>by
 rcases sJ t.1 (List.mem_map.mpr ⟨t,ht,rfl⟩) with h | h
 ·obtain ⟨u,h1,h2⟩:=List.mem_map.mp h;rw [←h2];exact (hu.2.2 u h1).1
 ·obtain ⟨u,h1,h2⟩:=List.mem_map.mp h;rw [←h2];exact (hv.2.2 u h1).1
def SotX (c0:MSp):Prop:=∀ {h:Gh} {n:Nat} {ts:List Tm} {Q:WK} {E:XWK},h.c n=some (.dtt (kvW ts))→ts.length≤1000→oJ (ts.map (·.1))→(∀ ks:List (List Int),ks.Perm (ts.map (·.1))→ks.Pairwise (· < ·)→((iy ts ks).length≤600→Q (smW (iy ts ks)) h)∧(600<(iy ts ks).length→E ⟨"TooMuch",[]⟩ h))→c0 [.loc n] h Q E
theorem lc_ordIX {L:Nat}{h:Gh}{n:Nat}{D:List Tm}{σ : Sw}{Q:WK}(hv:σ[0]?=some (some (.loc n)))(ec:h.c n=some (.dct (ikv D)))(hD:∀ j∈D.map (·.1),Kb L j)(nd:(D.map (·.1)).Nodup)(hz:D.length≤30000)
  (q:∀ rs,jw D rs→Q (.lst (rs.map itW)) h) :
  mLC ow1 [0] (nIt (mCB vJ (au (aD 0) bw))) (fZ (mOp kNe (mOp kXIx (aD 1) (aD 0)) (mC (.int 0)))) (xW (au (aD 0) (au (mOp kXIx (aD 1) (aD 0)) bw))) σ h Q:=by
 have eb:lG [0] σ = [some (.loc n)]:=by unfold lG;rw [List.map_cons,hv];rfl
 refine pZ (j7 (fj (ao (aq hv (aG (Or.inr ?_))))))
 show (match h.c n with
  | some (.dct kvs)=>∃ ks:List Int,wR kvs ks∧∀ js:List Int,js.Perm ks→js.Pairwise (· < ·)→_
  | _=>False)
 rw [ec]
 refine ⟨(D.map (·.1)).map pack,by unfold wR ikv;rw [List.map_map,List.map_map,List.map_map];rfl,fun js pj sj=>?_⟩
 obtain ⟨ks,pk,sk⟩:=sortK (D.map (·.1)) nd
 have ej:js=ks.map pack:=by
  refine zL (pj.trans (pk.map pack).symm) sj ?_
  rw [List.pairwise_map]
  exact List.Pairwise.imp_of_mem (fun {a b} ha hb h=>(zM (hD a (pk.mem_iff.mp ha)) (hD b (pk.mem_iff.mp hb))).mp h) sk
 subst ej
 have q:=q _ ⟨ks,pk,sk,rfl⟩
 have lk:ks.length=D.length:=by rw [pk.length_eq,List.length_map]
 refine xG (ws:=(ks.map pack).map .int) (o:=none) rfl (iz.mk (Nat.le_trans (m:=30000) (by rw [List.length_map,List.length_map];omega) (by decide)) ?_)
 refine jX (fun i acc h'=>h'=h∧acc=(iy D (ks.take i)).map itW) ?_ ?_ ⟨rfl,rfl⟩
 ·rintro i w acc h' N hN e ⟨rfl,rfl⟩
  rw [List.map_map,List.getElem?_map] at e
  cases qe:ks[i]? with
  | none=>rw [qe] at e;cases e
  | some k=>
   rw [qe] at e
   cases e
   have mk:=pk.mem_iff.mp (List.mem_of_getElem? qe)
   refine ⟨[.int (pack k)],rfl,?_⟩
   rw [eb]
   have eo:iy D (ks.take (i+1))=iy D (ks.take i)++([(k,getM D k)].filter fun t:Tm=>decide (t.2≠0)):=by
    unfold iy
    rw [List.take_succ,qe,List.map_append,List.filter_append]
    rfl
   refine cD (aV (aV (aq rfl (aq rfl (Or.inr (kDIx_g ec hD mk (d7 (oU (wQ ?_)))))))))
   refine by2_d (fun ne=>?_) fun ne=>?_
   ·refine jg (ao (aq rfl (ao (aV (aq rfl (aq rfl (Or.inr (kDIx_g ec hD mk (aG (dJ rfl ?_))))))))))
    refine hN _ _ ⟨rfl,?_⟩
    rw [eo,List.filter_cons,if_pos (by simpa using ne),List.map_append]
    rfl
   ·refine hN _ _ ⟨rfl,?_⟩
    rw [eo,List.filter_cons,if_neg (by simpa using ne)]
    simp
 ·rintro acc h' ⟨rfl,rfl⟩
  rw [List.length_map,List.length_map,List.take_length]
  exact q
theorem w_sotIX:SotI bM:=by
 intro h n D L Q E ec hD nd hz q
 unfold bM
 refine iG rfl (σ:=[some (.loc n),none]) rfl (aO (aY (fj (ao (lc_ordIX rfl ec hD nd hz fun rs hr=>aG (kE ?_))))))
 obtain ⟨q1,q2⟩:=q rs hr
 refine aF (σ':=[some (.loc n),some (.tup (rs.map itW))]) rfl (bY (aO (je (cD (aV (fj (ao (aq rfl (aG (mU (xs:=rs.map itW) rfl ?_))))))))))
 rw [List.length_map]
 refine d7 (yp (wQ (br_d (fun c=>iZ (q2 (by omega))) fun c=>eZ (bY ?_))))
 unfold cF
 exact cM (aq rfl (yh (q1 (by omega))))
theorem lc_ordTX {h:Gh}{n:Nat}{ts:List Tm}{σ : Sw}{Q:WK}(hv:σ[0]?=some (some (.loc n)))(ec:h.c n=some (.dtt (kvW ts)))(hz:ts.length≤1000)(hs:oJ (ts.map (·.1)))
  (q:∀ ks:List (List Int),ks.Perm (ts.map (·.1))→ks.Pairwise (· < ·)→Q (.lst ((iy ts ks).map tmW)) h) :
  mLC ow1 [0] (nIt (mCB vJ (au (aD 0) bw))) (fZ (mOp kNe (mOp kXIx (aD 1) (aD 0)) (mC (.int 0)))) (xW (au (aD 0) (au (mOp kXIx (aD 1) (aD 0)) bw))) σ h Q:=by
 have eb:lG [0] σ = [some (.loc n)]:=by unfold lG;rw [List.map_cons,hv];rfl
 refine pZ (j7 (fj (ao (aq hv (aG (Or.inl ?_))))))
 show (match h.c n with
  | some (.dtt kvs)=>oJ (kvs.map (·.1))∧∀ ks:List (List Int),ks.Perm (kvs.map (·.1))→ks.Pairwise (· < ·)→_
  | _=>False)
 rw [ec]
 have ek:(kvW ts).map (·.1)=ts.map (·.1):=by unfold kvW;rw [List.map_map];rfl
 refine ⟨by rw [ek];exact hs,fun ks pk sk=>?_⟩
 rw [ek] at pk
 have q:=q ks pk sk
 have lk:ks.length=ts.length:=by rw [pk.length_eq,List.length_map]
 refine xG (ws:=ks.map fun k=>.tup (k.map .int)) (o:=none) rfl (iz.mk (Nat.le_trans (m:=1000) (by rw [List.length_map];omega) (by decide)) ?_)
 refine jX (fun i acc h'=>h'=h∧acc=(iy ts (ks.take i)).map tmW) ?_ ?_ ⟨rfl,rfl⟩
 ·rintro i w acc h' N hN e ⟨rfl,rfl⟩
  rw [List.getElem?_map] at e
  cases qe:ks[i]? with
  | none=>rw [qe] at e;cases e
  | some k=>
   rw [qe] at e
   cases e
   have mk:=pk.mem_iff.mp (List.mem_of_getElem? qe)
   refine ⟨[.tup (k.map .int)],rfl,?_⟩
   rw [eb]
   have eo:iy ts (ks.take (i+1))=iy ts (ks.take i)++([(k,getM ts k)].filter fun t:Tm=>decide (t.2≠0)):=by
    unfold iy
    rw [List.take_succ,qe,List.map_append,List.filter_append]
    rfl
   refine cD (aV (aV (aq rfl (aq rfl (Or.inl (uN ec mk (d7 (oU (wQ ?_)))))))))
   refine by2_d (fun ne=>?_) fun ne=>?_
   ·refine jg (ao (aq rfl (ao (aV (aq rfl (aq rfl (Or.inl (uN ec mk (aG (dJ rfl ?_))))))))))
    refine hN _ _ ⟨rfl,?_⟩
    rw [eo,List.filter_cons,if_pos (by simpa using ne),List.map_append]
    rfl
   ·refine hN _ _ ⟨rfl,?_⟩
    rw [eo,List.filter_cons,if_neg (by simpa using ne)]
    simp
 ·rintro acc h' ⟨rfl,rfl⟩
  rw [List.length_map,List.take_length]
  exact q
theorem w_sotX:SotX bM:=by
 intro h n ts Q E ec hz hs q
 unfold bM
 refine iG rfl (σ:=[some (.loc n),none]) rfl (aO (aY (fj (ao (lc_ordTX rfl ec hz hs fun ks pk sk=>aG (kE ?_))))))
 obtain ⟨q1,q2⟩:=q ks pk sk
 refine aF (σ':=[some (.loc n),some (smW (iy ts ks))]) rfl (bY (aO (je (cD (aV (fj (ao (aq rfl (aG (mU (xs:=(iy ts ks).map tmW) rfl ?_))))))))))
 rw [List.length_map]
 refine d7 (yp (wQ (br_d (fun c=>iZ (q2 (by omega))) fun c=>eZ (bY ?_))))
 unfold cF
 exact cM (aq rfl (yh (q1 (by omega))))
def AddS (f:Int)(us vs rs:List Tm):Prop:=∃ ks:List (List Int),ks.Perm ((kJ f us vs).map (·.1))∧ks.Pairwise (· < ·)∧rs=iy (kJ f us vs) ks
def WhX (c0:MSp):Prop:=∀ {h:Gh} {us vs:List Tm} {f:Int} {L:Nat} {Q:WK} {E:XWK},Ls L us→Ls L vs→Sm 64 f→(∀ rs,AddS f us vs rs→(rs.length≤600→Q (smW rs) h)∧(600<rs.length→∀ h':Gh,E ⟨"TooMuch",[]⟩ h'))→c0 [smW us,smW vs,.int f] h Q E
theorem zR {f:Int}{us vs:List Tm}{i:Nat}{t:Tm}(e:vs[i]?=some t):kJ f us (vs.take (i+1))=wN (kJ f us (vs.take i)) t.1 (f*t.2):=by
 rw [List.take_succ,e]
 exact fX ..
set_option maxHeartbeats 1000000 in
theorem w_wt {so:MSp}(hso:SotX so):WhX (gB so):=by
 intro h us vs f L Q E hu hv sf q
 have lu:=hu.1
 have lv:=hv.1
 unfold gB
 refine rJ rfl (σ:=[some (smW us),some (smW vs),some (.int f),none,none,none]) rfl (aO (aY (fj (ao (aq rfl (aG (dict_s (bT hu.2.1) fun g eg og xg=>?_)))))))
 refine aF (σ':=[some (smW us),some (smW vs),some (.int f),some (.loc h.nx),none,none]) rfl (bY (aO ?_))
 refine jO (ws:=vs.map tmW) rfl ?_
 refine cP (fun i σ h'=>∃ s4 s5:Option W,σ = [some (smW us),some (smW vs),some (.int f),some (.loc h.nx),s4,s5]∧h'.c h.nx=some (.dtt (kvW (kJ f us (vs.take i))))∧∀ n,n≠h.nx→h'.c n=h.c n) ?_ ?_ ⟨none,none,rfl,eg,og⟩
 ·rintro i w σ h' N hN e ⟨s4,s5,rfl,e2,o2⟩
  rw [List.getElem?_map] at e
  cases qe:vs[i]? with
  | none=>rw [qe] at e;cases e
  | some t=>
   rw [qe] at e
   cases e
   have ld:=kO f us (vs.take i)
   rw [List.length_take] at ld
   refine eN rfl rfl (bN (aF (σ':=[some (smW us),some (smW vs),some (.int f),some (.loc h.nx),some (.tup (t.1.map .int)),s5]) rfl (bN (aF (σ':=[some (smW us),some (smW vs),some (.int f),some (.loc h.nx),some (.tup (t.1.map .int)),some (.int t.2)]) rfl (iW ?_)))))
   refine aY (aV (mBMd_s (aq rfl (isDtt_c e2 (ao (aq rfl (ao (d7 (aG (get_g e2 ?_))))))))))
   refine aV (aq rfl (aq rfl (gk (.of sf (hv.2.2 t (List.mem_of_getElem? qe)).2.2 (by decide) (by decide)) (fB (nSub_s (aq rfl (aq rfl ?_)))))))
   refine setT_g e2 (by omega) fun g2 a1 a2 a3=>bY (hN _ _ ⟨_,_,rfl,?_,fun n hn=>by rw [a2 n hn];exact o2 n hn⟩)
   rw [zR qe]
   exact a1
 ·rintro σ h' ⟨s4,s5,rfl,e2,o2⟩
  rw [List.length_map,List.take_length] at e2
  unfold iB
  refine bY (cM (aQ (ao (aq rfl (aG ?_)))))
  refine hso e2 (Nat.le_trans (kO f us vs) (by omega)) (wj (L:=L) (dW (bT hu.2.1)) (addD_L hu hv)) fun ks pk sk=>?_
  obtain ⟨q1,q2⟩:=q _ ⟨ks,pk,sk,rfl⟩
  exact ⟨fun l=>exit_t (fun n hn=>o2 n (by omega)) (q1 l),fun l=>q2 l h'⟩
def PlX (f:Int)(c0:MSp):Prop:=∀ {h:Gh} {us vs:List Tm} {L:Nat} {Q:WK} {E:XWK},Ls L us→Ls L vs→(∀ rs,AddS f us vs rs→(rs.length≤600→Q (smW rs) h)∧(600<rs.length→∀ h':Gh,E ⟨"TooMuch",[]⟩ h'))→c0 [smW us,smW vs] h Q E
theorem w_plus {wt:MSp}(hwt:WhX wt):PlX 1 (r_plus wt):=by
 intro h us vs L Q E hu hv q
 unfold r_plus
 exact iG rfl (σ:=[some (smW us),some (smW vs)]) rfl (cM (aQ (ao (aq rfl (ao (aq rfl (ao (d7 (aG (hwt hu hv (.lit rfl) q))))))))))
theorem w_minus {wt:MSp}(hwt:WhX wt):PlX (-1) (uy wt):=by
 intro h us vs L Q E hu hv q
 unfold uy
 exact iG rfl (σ:=[some (smW us),some (smW vs)]) rfl (cM (aQ (ao (aq rfl (ao (aq rfl (ao (mUn_s (d7 (mNeg_s (aG (hwt hu hv (.lit rfl) q))))))))))))
theorem fH {f g:List Int→Int}:∀ {us:List Tm},(∀ t∈us,f t.1=g t.1)→lin f us=lin g us
 | [],_=>rfl
 | t::us,h=>by rw [bf,bf,h t (by simp),fH fun u hu=>h u (List.mem_cons_of_mem _ hu)]
theorem eO {r:List Int}:∀ {vs:List Tm},(vs.map (·.1)).Nodup→lin (dl r) vs=getM vs r
 | [],_=>rfl
 | t::vs,nd=>by
  rw [List.map_cons,List.nodup_cons] at nd
  rw [bf,bR,eO nd.2]
  unfold dl
  by_cases c:t.1=r
  ·rw [if_pos c,if_pos c,getM_none (c ▸ nd.1)]
   omega
  ·rw [if_neg c,if_neg c]
   omega
theorem mulR_lin {g:List Int→Int}{k:List Int}{n:Int}{D:List Tm}(nd:(D.map (·.1)).Nodup)(vs:List Tm):lin g (mulR k n vs D)=lin g D+n*lin (fun l=>g (cR k l)) vs:=by
 refine snoc_ind (P:=fun vs=>lin g (mulR k n vs D)=lin g D+n*lin (fun l=>g (cR k l)) vs) (by show lin g D=lin g D+n*0;omega) (fun vs t ih=>?_) vs
 rw [dz,lin_add (zG nd),ih,iH,bf]
 show _=_+n*(_+(g (cR k t.1)*t.2+0))
 grind
theorem oW (g:List Int→Int)(us vs:List Tm):lin g (fU us vs)=lin (fun k=>lin (fun l=>g (cR k l)) vs) us:=by
 refine snoc_ind (P:=fun us=>lin g (fU us vs)=lin (fun k=>lin (fun l=>g (cR k l)) vs) us) rfl (fun us t ih=>?_) us
 rw [cV,mulR_lin (dU us vs),ih,iH,bf]
 show _=_+(_+0)
 rw [Int.add_zero,Int.mul_comm]
theorem lin_mul {g:List Int→Int}{us vs:List Tm}(hg:∀ t∈us,∀ s∈vs,g (cR t.1 s.1)=g t.1*g s.1):lin g (fU us vs)=lin g us*lin g vs:=by
 rw [oW,←mF]
 refine fH fun t ht=>?_
 rw [Int.mul_comm,←mF]
 refine fH fun s hs=>?_
 rw [hg t ht s hs,Int.mul_comm]
theorem jM {g:List Int→Int}{f:Int}{us:List Tm}(nd:(us.map (·.1)).Nodup)(vs:List Tm):lin g (kJ f us vs)=lin g us+f*lin g vs:=by
 refine snoc_ind (P:=fun vs=>lin g (kJ f us vs)=lin g us+f*lin g vs) (by show lin g us=lin g us+f*0;omega) (fun vs t ih=>?_) vs
 rw [fX,lin_add (dW nd),ih,iH,bf]
 show _=_+f*(_+(g t.1*t.2+0))
 grind
theorem jw.lin {D rs:List Tm}(nd:(D.map (·.1)).Nodup)(a:jw D rs)(g:List Int→Int):lin g rs=lin g D:=by
 obtain ⟨ks,pk,_,rfl⟩:=a
 exact lin_ord nd pk
theorem jw.nd {D rs:List Tm}(a:jw D rs):(rs.map (·.1)).Nodup:=by
 obtain ⟨ks,_,sk,rfl⟩:=a
 exact bT (p7 sk)
theorem jw.get {D rs:List Tm}(nd:(D.map (·.1)).Nodup)(a:jw D rs)(r:List Int):getM rs r=getM D r:=by
 rw [←eO a.nd,a.lin nd,eO nd]
theorem vU:∀ (k l m:List Int),cR (cR k l) m=cR k (cR l m)
 | [],_,_=>rfl
 | _::_,[],_=>rfl
 | _::_,_::_,[]=>rfl
 | a::k,b::l,c::m=>by
  show (a+b+c)::cR (cR k l) m=(a+(b+c))::cR k (cR l m)
  rw [vU k l m,Int.add_assoc]
theorem mul_ass {us vs ws p q:List Tm}(a:jw (fU us vs) p)(b:jw (fU vs ws) q)(r:List Int):getM (fU p ws) r=getM (fU us q) r:=by
 rw [g8,g8,a.lin (dU _ _),oW]
 refine fH fun t _=>?_
 rw [b.lin (dU _ _),oW]
 refine fH fun s _=>fH fun z _=>?_
 rw [vU]
theorem mul_dis {us vs ws p a b:List Tm}(nu:(us.map (·.1)).Nodup)(hp:jw (kJ 1 us vs) p)(ha:jw (fU ws us) a)(hb:jw (fU ws vs) b)(r:List Int):getM (fU ws p) r=getM (kJ 1 a b) r:=by
 have e:lin (dl r) (kJ 1 a b)=lin (dl r) a+1*lin (dl r) b:=jM ha.nd b
 rw [eO (dW ha.nd),eO ha.nd,eO hb.nd,ha.get (dU _ _),hb.get (dU _ _),g8,g8] at e
 rw [e,g8,Int.one_mul,←uZ]
 refine fH fun t _=>?_
 rw [hp.lin (dW nu),jM nu,Int.one_mul]
theorem wo_take {ts:List Tm}{xs:List Int}{L:Nat}:∀ i,i≤ts.length→wo ts xs L i=lin (fun k=>mo k xs L) (ts.take i)
 | 0,_=>rfl
 | i+1,h=>by
  have e:ts[i]?=some (ts[i]'(by omega)):=List.getElem?_eq_getElem _
  rw [wo,wo_take i (by omega),List.take_succ,e,List.getD_eq_getElem?_getD,e]
  show _=lin _ (ts.take i++[ts[i]'(by omega)])
  rw [iH,bf]
  show _=_+(_+0)
  rw [Int.add_zero,Int.mul_comm]
  rfl
theorem wo_lin {ts:List Tm}{xs:List Int}{L:Nat}:wo ts xs L ts.length=lin (fun k=>mo k xs L) ts:=by
 rw [wo_take _ (Nat.le_refl _),List.take_length]
theorem yU:∀ {k l:List Int} {i:Nat},k.length=l.length→(cR k l).getD i 0=k.getD i 0+l.getD i 0
 | [],[],_,_=>rfl
 | [],_::_,_,h=>by simp at h
 | _::_,[],_,h=>by simp at h
 | a::k,b::l,0,_=>rfl
 | a::k,b::l,i+1,h=>by
  show (cR k l).getD i 0=k.getD i 0+l.getD i 0
  exact yU (by simpa using h)
theorem yq {k l xs:List Int}(hl:k.length=l.length)(hk:∀ i,0≤k.getD i 0)(hm:∀ i,0≤l.getD i 0):∀ i,mo (cR k l) xs i=mo k xs i*mo l xs i
 | 0=>rfl
 | i+1=>by
  rw [mo,mo,mo,yq hl hk hm i,yU hl,Int.toNat_add (hk i) (hm i),Int.pow_add]
  grind
theorem yI {f:List Int→Int}{B C:Nat}(hf:∀ k,(f k).natAbs≤B):∀ {us:List Tm},(∀ t∈us,t.2.natAbs≤C)→(lin f us).natAbs≤us.length*(B*C)
 | [],_=>Nat.zero_le _
 | t::us,h=>by
  rw [bf,List.length_cons,Nat.succ_mul,Nat.add_comm]
  refine Nat.le_trans (Int.natAbs_add_le _ _) (Nat.add_le_add ?_ (yI hf fun u hu=>h u (List.mem_cons_of_mem _ hu)))
  rw [Int.natAbs_mul]
  exact Nat.mul_le_mul (hf _) (h t (by simp))
theorem mulR_mem {k:List Int}{n:Int}{D:List Tm}(vs:List Tm):∀ x∈(mulR k n vs D).map (·.1),x∈D.map (·.1)∨∃ s∈vs,x=cR k s.1:=by
 refine snoc_ind (P:=fun vs=>∀ x∈(mulR k n vs D).map (·.1),x∈D.map (·.1)∨∃ s∈vs,x=cR k s.1) (fun _ h=>.inl h) (fun vs s ih x hx=>?_) vs
 rw [dz,qu] at hx
 have hx:x∈(mulR k n vs D).map (·.1)∨x=cR k s.1:=by
  split at hx
  ·exact .inl hx
  ·rcases List.mem_append.mp hx with hx | hx
   ·exact .inl hx
   ·exact .inr (List.mem_singleton.mp hx)
 rcases hx with hx | hx
 ·rcases ih x hx with h | ⟨u,hu,e⟩
  ·exact .inl h
  ·exact .inr ⟨u,List.mem_append_left _ hu,e⟩
 ·exact .inr ⟨s,by simp,hx⟩
theorem mulD_mem (us vs:List Tm):∀ x∈(fU us vs).map (·.1),∃ t∈us,∃ s∈vs,x=cR t.1 s.1:=by
 refine snoc_ind (P:=fun us=>∀ x∈(fU us vs).map (·.1),∃ t∈us,∃ s∈vs,x=cR t.1 s.1) (fun x h=>by simp [fU] at h) (fun us t ih x hx=>?_) us
 rw [cV] at hx
 rcases mulR_mem vs x hx with h | ⟨s,hs,e⟩
 ·obtain ⟨u,hu,s,hs,e⟩:=ih x h
  exact ⟨u,List.mem_append_left _ hu,s,hs,e⟩
 ·exact ⟨t,by simp,s,hs,e⟩
def Mb (L b p n:Nat)(us:List Tm):Prop:=us.length≤n∧(us.map (·.1)).Pairwise (· < ·)∧∀ t∈us,t.1.length=L∧t.2≠0∧Sm b t.2∧∀ q∈t.1,0≤q∧q≤(p:Int)
theorem Mb.mono {L b p n b' p' n':Nat}{us:List Tm}(h:Mb L b p n us)(hb:b≤b')(hp:p≤p')(hn:n≤n'):Mb L b' p' n' us:=
 ⟨by have:=h.1;omega,h.2.1,fun t ht=>⟨(h.2.2 t ht).1,(h.2.2 t ht).2.1,(h.2.2 t ht).2.2.1.mono hb,fun q hq=>by have:=(h.2.2 t ht).2.2.2 q hq;omega⟩⟩
theorem Mb.ms {L:Nat}{us:List Tm}(h:Mb L 300 30 64 us):Ms L us:=⟨by have:=h.1;omega,h.2.1,fun t ht=>⟨(h.2.2 t ht).1,(h.2.2 t ht).2.1,(h.2.2 t ht).2.2.1,fun q hq=>by have:=(h.2.2 t ht).2.2.2 q hq;omega⟩⟩
theorem Mb.ls {L:Nat}{us:List Tm}(h:Mb L 300 30 64 us):Ls L us:=⟨by have:=h.1;omega,h.2.1,fun t ht=>⟨(h.2.2 t ht).1,(h.2.2 t ht).2.1,(h.2.2 t ht).2.2.1⟩⟩
theorem Mb.ts {L:Nat}{us:List Tm}(h:Mb L 300 30 64 us):TsX4 L us:=⟨by have:=h.1;omega,fun t ht=>⟨(h.2.2 t ht).1,(h.2.2 t ht).2.2.1,fun q hq=>by have:=(h.2.2 t ht).2.2.2 q hq;omega⟩⟩
theorem Mb.nn {L b p n:Nat}{us:List Tm}(h:Mb L b p n us){t:Tm}(ht:t∈us)(i:Nat):0≤t.1.getD i 0:=by
 rw [List.getD_eq_getElem?_getD]
 cases e:t.1[i]? with
 | none=>exact Int.le_refl _
 | some x=>exact ((h.2.2 t ht).2.2.2 x (List.mem_of_getElem? e)).1
theorem jw.mem {D rs:List Tm}(nd:(D.map (·.1)).Nodup)(a:jw D rs):rs.length≤D.length∧(rs.map (·.1)).Pairwise (· < ·)∧∀ t∈rs,t.1∈D.map (·.1)∧t.2≠0∧t.2=getM D t.1:=by
 obtain ⟨ks,pk,sk,rfl⟩:=a
 have lo:=zK D ks
 rw [pk.length_eq,List.length_map] at lo
 refine ⟨lo,p7 sk,fun t ht=>?_⟩
 have:=ord_in nd (fun k hk=>pk.mem_iff.mp hk) ht
 exact ⟨List.mem_map.mpr ⟨t,this.1,rfl⟩,this.2,(oO nd this.1).symm⟩
theorem q9 {L b c p q n m:Nat}{us vs rs:List Tm}(hu:Mb L b p n us)(hv:Mb L c q m vs)(hn:n≤64)(hm:m≤64)(a:jw (fU us vs) rs):Mb L (b+c+13) (p+q) (n*m) rs:=by
 obtain ⟨h1,h2,h3⟩:=a.mem (dU us vs)
 have lm:=Nat.le_trans (Nat.le_trans h1 (qb us vs)) (Nat.mul_le_mul hu.1 hv.1)
 refine ⟨lm,h2,fun t ht=>?_⟩
 obtain ⟨k1,k2,k3⟩:=h3 t ht
 obtain ⟨x,hx,s,hs,e⟩:=mulD_mem us vs _ k1
 refine ⟨by rw [e,vM (by rw [(hu.2.2 x hx).1,(hv.2.2 s hs).1]),(hu.2.2 x hx).1],k2,?_,fun z hz=>?_⟩
 ·rw [k3,g8]
  have d1:∀ k l,(dl t.1 (cR k l)).natAbs≤1:=fun k l=>by unfold dl;split <;> decide
  have i1:∀ k,(lin (fun l=>dl t.1 (cR k l)) vs).natAbs≤64*2^c:=fun k=>Nat.le_trans (yI (B:=1) (C:=2^c) (fun l=>d1 k l) fun s hs=>Nat.le_of_lt (hv.2.2 s hs).2.2.1) (by rw [Nat.one_mul];exact Nat.mul_le_mul_right _ (Nat.le_trans hv.1 hm))
  have i2:=yI (C:=2^b) i1 fun s hs=>Nat.le_of_lt (hu.2.2 s hs).2.2.1
  unfold Sm
  refine Nat.lt_of_le_of_lt i2 (Nat.lt_of_le_of_lt (Nat.mul_le_mul_right _ (Nat.le_trans hu.1 hn)) ?_)
  rw [Nat.pow_add,Nat.pow_add]
  have p1:0<2^b:=Nat.pow_pos (by decide)
  have p2:0<2^c:=Nat.pow_pos (by decide)
  have p3:0<2^b*2^c:=Nat.mul_pos p1 p2
  have e:64*(64*2^c*2^b)=4096*(2^b*2^c):=by
   rw [Nat.mul_assoc 64,←Nat.mul_assoc 64 64,Nat.mul_comm (2^c)]
  rw [e]
  have e2:(2:Nat)^13=8192:=by decide
  rw [e2]
  omega
 ·rw [e] at hz
  obtain ⟨y,hy,w,hw,rfl⟩:=qm hz
  have:=(hu.2.2 x hx).2.2.2 y hy
  have:=(hv.2.2 s hs).2.2.2 w hw
  omega
theorem get_bd {us:List Tm}{b:Nat}(h:∀ t∈us,Sm b t.2)(r:List Int):Sm b (getM us r):=by
 unfold getM
 cases e:us.find? fun t=>decide (t.1=r) with
 | none=>exact Nat.pow_pos (by decide)
 | some t=>exact h t (List.mem_of_find?_eq_some e)
theorem wB {L b p n:Nat}{f:Int}{us vs rs:List Tm}(hu:Mb L b p n us)(hv:Mb L b p n vs)(hf:f=1∨f = -1)(a:jw (kJ f us vs) rs):Mb L (b+1) p (n+n) rs:=by
 have nu:=bT hu.2.1
 obtain ⟨h1,h2,h3⟩:=a.mem (dW nu)
 have lm:=Nat.le_trans (Nat.le_trans h1 (kO f us vs)) (Nat.add_le_add hu.1 hv.1)
 refine ⟨lm,h2,fun t ht=>?_⟩
 obtain ⟨k1,k2,k3⟩:=h3 t ht
 have kk:t.1.length=L∧∀ q∈t.1,0≤q∧q≤(p:Int):=by
  rcases sJ t.1 k1 with h | h
  ·obtain ⟨u,hu2,e⟩:=List.mem_map.mp h
   rw [←e]
   exact ⟨(hu.2.2 u hu2).1,(hu.2.2 u hu2).2.2.2⟩
  ·obtain ⟨u,hu2,e⟩:=List.mem_map.mp h
   rw [←e]
   exact ⟨(hv.2.2 u hu2).1,(hv.2.2 u hu2).2.2.2⟩
 refine ⟨kk.1,k2,?_,kk.2⟩
 have e:getM (kJ f us vs) t.1=getM us t.1+f*getM vs t.1:=by rw [←eO (dW nu),jM nu,eO nu,eO (bT hv.2.1)]
 have b1:=get_bd (fun u h=>(hu.2.2 u h).2.2.1) t.1
 have b2:=get_bd (fun u h=>(hv.2.2 u h).2.2.1) t.1
 rw [k3,e]
 unfold Sm at *
 rw [Nat.pow_succ]
 rcases hf with rfl | rfl <;> omega
theorem not_over {L b c p q n m:Nat}{us vs rs:List Tm}(hu:Mb L b p n us)(hv:Mb L c q m vs)(hn:n≤64)(hm:m≤64)(hnm:n*m≤600)(hp:p+q≤60)(a:jw (fU us vs) rs):¬ Over us vs rs:=fun o=>by
 have mb:=q9 hu hv hn hm a
 rcases o with o | o | ⟨t,ht,z,hz,h60⟩
 ·have:=Nat.mul_le_mul hu.1 hv.1
  omega
 ·have:=mb.1
  omega
 ·have:=(mb.2.2 t ht).2.2.2 z hz
  omega
theorem tup_c {n:Nat}{us:List W}{h:Gh}{Q:WK}(e:h.c n=some (.lst us))(x:Q (.tup us) h):jq [.loc n] h Q:=by
 show (match dR h (.loc n) with
  | some us=>Q (.tup us) h
  | none=>False)
 rw [mj e]
 exact x
theorem c10:(10:Int)^(10:Int).toNat=10000000000:=by decide
theorem kIxy {a b x:Int}{h:Gh}{Q:WK}(sa:Sm 34 a)(sb:Sm 34 b)(q:∀ z,Sm 34 z→Q (.int z) h):kIx (.lst [.int a,.int b]) (.int (x.fmod 2)) h Q:=by
 have c3:=cB x (b:=2) (by decide)
 have:x.fmod 2=0∨x.fmod 2=1:=by omega
 rcases this with e | e <;> rw [e]
 ·exact jd rfl rfl (q a sa)
 ·exact jd rfl rfl (q b sb)
abbrev In (L:Nat)(us:List Tm):Prop:=Mb L 101 3 8 us
abbrev wl (xs:List Int)(L:Nat)(us:List Tm):Int:=lin (fun k=>mo k xs L) us
theorem lin_sm {L:Nat}{xs:List Int}{us:List Tm}(h:In L us)(bx:Bd xs)(hL:L≤8):Sm 20000 (wl xs L us):=by
 have f:∀ t∈us,(mo t.1 xs L*t.2).natAbs≤2^17000:=fun t ht=>by
  have pw:Pw t.1:=fun q hq=>by have:=(h.2.2 t ht).2.2.2 q hq;omega
  have b1:=mo_bd bx pw L
  have b2:=(h.2.2 t ht).2.2.1
  rw [Int.natAbs_mul]
  refine Nat.le_trans (Nat.mul_le_mul b1 (Nat.le_of_lt b2)) ?_
  rw [←Nat.pow_add]
  exact Nat.pow_le_pow_right (by decide) (by omega)
 have g:∀ us:List Tm,(∀ t∈us,(mo t.1 xs L*t.2).natAbs≤2^17000)→(wl xs L us).natAbs≤us.length*2^17000:=fun us=>by
  induction us with
  | nil=>intro _;exact Nat.zero_le _
  | cons t us ih=>
   intro f
   show (lin _ (t::us)).natAbs≤_
   rw [bf,List.length_cons,Nat.succ_mul,Nat.add_comm]
   exact Nat.le_trans (Int.natAbs_add_le _ _) (Nat.add_le_add (f t (by simp)) (ih fun u hu=>f u (List.mem_cons_of_mem _ hu)))
 have:=Nat.le_trans (g us f) (Nat.mul_le_mul_right _ h.1)
 unfold Sm
 refine Nat.lt_of_le_of_lt this ?_
 rw [show (8:Nat)=2^3 from rfl,←Nat.pow_add]
 exact Nat.pow_lt_pow_right (by decide) (by decide)
theorem In.b {L:Nat}{us:List Tm}(h:In L us):Mb L 300 30 64 us:=Mb.mono h (by decide) (by decide) (by decide)
section
variable {pl mi ti wa ce dr su lw:MSp}(hpl:PlX 1 pl)(hmi:PlX (-1) mi)(hti:TimX ti)(hwa:WtX4 wa)(hce:sZ ce)(hdr:qD dr)(hsu:SumX su)(hlw:WtX4 lw)
include hpl hmi hti hwa hce hdr hsu hlw
theorem pls {L:Nat}{us vs:List Tm}{h:Gh}{Q:WK}{E:XWK}{f:Int}{c0:MSp}(hc:PlX f c0)(hu:Mb L 300 30 64 us)(hv:Mb L 300 30 64 vs)(q:∀ rs,jw (kJ f us vs) rs→Q (smW rs) h):c0 [smW us,smW vs] h Q E:=by
 refine hc hu.ls hv.ls fun rs a=>⟨fun _=>q rs a,fun l=>?_⟩
 have:=(jw.mem (dW (bT hu.2.1)) a).1
 have:=kO f us vs
 have:=hu.1
 have:=hv.1
 omega
theorem tms {L b c p q n m:Nat}{us vs:List Tm}{h:Gh}{Q:WK}{E:XWK}(hL:L≤8)(hu:Mb L b p n us)(hv:Mb L c q m vs)(hb:b≤300)(hc:c≤300)(hn:n≤64)(hm:m≤64)(hnm:n*m≤600)(hp:p≤30)(hq:q≤30)(k:∀ rs h',jw (fU us vs) rs→Q (smW rs) h'):ti [smW us,smW vs] h Q E:=
 hti (hu.mono hb hp hn).ms (hv.mono hc hq hm).ms hL fun rs h' a _=>⟨fun _=>k rs h' a,fun o=>absurd o (not_over hu hv hn hm hnm (by omega) a)⟩
theorem wls {L:Nat}{us:List Tm}{xs:List Int}{h:Gh}{Q:WK}{E:XWK}{c0:MSp}(hc:WtX4 c0)(hL:L≤8)(hu:Mb L 300 30 64 us)(lx:xs.length=L)(bx:Bd xs)(k:Q (.int (wl xs L us)) h):c0 [smW us,.tup (xs.map .int)] h Q E:=
 hc hL hu.ts lx bx (by rw [wo_lin];exact k)
theorem w_10 {ns xs:List Int}{L:Nat}{us vs ws:List Tm}{s6 s7 s10 s11:Option W}{h:Gh}(hL:L≤8)(hu:In L us)(hv:In L vs)(hw:In L ws)(lx:xs.length=L)(bx:Bd xs) :
  qC pl mi ti wa ce dr su lw EF { nx:=fun _ h'=>(fun w _=>w=W.bl true:WK) W.non h',rt:=fun w _=>w=W.bl true } [some (.kls (ns.map .int)),some (.int L),some (smW us),some (smW vs),some (smW ws),some (.tup (xs.map .int)),s6,s7,some (.int (wl xs L us)),some (.int (wl xs L vs)),s10,s11,none] h:=by
 have nu:=bT hu.2.1
 have nv:=bT hv.2.1
 unfold qC
 refine aO (aY (aQ (ao (aq rfl (ao (aq rfl (aG ?_)))))))
 refine tms hpl hmi hti hwa hce hdr hsu hlw hL hu hv (by decide) (by decide) (by decide) (by decide) (by decide) (by decide) (by decide) fun ps h1 ap=>?_
 have mp:Mb L 215 6 64 ps:=(q9 hu hv (by decide) (by decide) ap).mono (by decide) (by decide) (by decide)
 refine aF (σ':=[some (.kls (ns.map .int)),some (.int L),some (smW us),some (smW vs),some (smW ws),some (.tup (xs.map .int)),s6,s7,some (.int (wl xs L us)),some (.int (wl xs L vs)),s10,s11,some (smW ps)]) rfl (bY ?_)
 refine aO (je (mOr_s (cD (aV (aQ (ao (aQ (ao (aq rfl (ao (aq rfl (aG ?_))))))))))))
 refine pls hpl hmi hti hwa hce hdr hsu hlw hpl hu.b hv.b fun rs ar=>?_
 have mr:Mb L 102 3 16 rs:=wB hu hv (.inl rfl) ar
 refine ao (aq rfl (aG (wls hpl hmi hti hwa hce hdr hsu hlw hwa hL (mr.mono (by decide) (by decide) (by decide)) lx bx ?_)))
 refine aV (aq rfl (aq rfl (fB (oU (wQ (br_f ?_ ?_))))))
 ·show decide (lin _ rs≠_)=false
  rw [ar.lin (dW nu),jM nu,Int.one_mul]
  simp
 refine cD (aV (aQ (ao (aq rfl (ao (aq rfl (aG ?_)))))))
 refine wls hpl hmi hti hwa hce hdr hsu hlw hwa hL (mp.mono (by decide) (by decide) (by decide)) lx bx ?_
 refine aV (aq rfl (aq rfl (gk (.of (lin_sm hu bx hL) (lin_sm hv bx hL) (by decide) (by decide)) (oU (wQ (br_f ?_ ?_))))))
 ·show decide (lin _ ps≠_)=false
  rw [ap.lin (dU us vs),lin_mul fun t ht s hs=>yq (by rw [(hu.2.2 t ht).1,(hv.2.2 s hs).1]) (hu.nn ht) (hv.nn hs) L]
  simp
 refine eZ (bY ?_)
 unfold v8
 refine aO (je (mOr_s (cD (aV (aQ (ao (aQ (ao (aq rfl (ao (aq rfl (aG ?_))))))))))))
 refine pls hpl hmi hti hwa hce hdr hsu hlw hmi hu.b hv.b fun r2 a2=>?_
 have m2:Mb L 102 3 16 r2:=wB hu hv (.inr rfl) a2
 refine ao (aq rfl (aG (wls hpl hmi hti hwa hce hdr hsu hlw hwa hL (m2.mono (by decide) (by decide) (by decide)) lx bx ?_)))
 refine aV (aq rfl (aq rfl (nF (oU (wQ (br_f ?_ ?_))))))
 ·show decide (lin _ r2≠lin _ us - lin _ vs)=false
  rw [a2.lin (dW nu),jM nu]
  rw [decide_eq_false]
  intro c
  omega
 refine cD (aV (aQ (ao (aQ (ao (aq rfl (ao (aq rfl (aG ?_)))))))))
 refine pls hpl hmi hti hwa hce hdr hsu hlw hmi hv.b hu.b fun r3 a3=>?_
 have m3:Mb L 102 3 16 r3:=wB hv hu (.inr rfl) a3
 refine ao (aq rfl (aG (wls hpl hmi hti hwa hce hdr hsu hlw hwa hL (m3.mono (by decide) (by decide) (by decide)) lx bx ?_)))
 refine aV (aq rfl (aq rfl (nF (oU (wQ (br_f ?_ ?_))))))
 ·show decide (lin _ r3≠lin _ vs - lin _ us)=false
  rw [a3.lin (dW nv),jM nv]
  rw [decide_eq_false]
  intro c
  omega
 refine eZ (bY ?_)
 unfold vV
 refine aO (je (cD (aV (aQ (ao (aq rfl (ao (aq rfl (aG ?_)))))))))
 refine tms hpl hmi hti hwa hce hdr hsu hlw hL mp hw (by decide) (by decide) (by decide) (by decide) (by decide) (by decide) (by decide) fun q1 h2 b1=>?_
 refine aQ (ao (aq rfl (ao (aQ (ao (aq rfl (ao (aq rfl (aG ?_)))))))))
 refine tms hpl hmi hti hwa hce hdr hsu hlw hL hv hw (by decide) (by decide) (by decide) (by decide) (by decide) (by decide) (by decide) fun q2 h3 b2=>?_
 have mq:Mb L 215 6 64 q2:=(q9 hv hw (by decide) (by decide) b2).mono (by decide) (by decide) (by decide)
 refine aG (tms hpl hmi hti hwa hce hdr hsu hlw hL hu mq (by decide) (by decide) (by decide) (by decide) (by decide) (by decide) (by decide) fun q3 h4 b3=>?_)
 rw [b1.same (mul_ass ap b2) b3]
 refine ne_same (wQ (br_fs (eZ (bY ?_))))
 unfold vW
 refine cM (aV (aQ (ao (aq rfl (ao (aQ (ao (aq rfl (ao (aq rfl (aG ?_)))))))))))
 refine pls hpl hmi hti hwa hce hdr hsu hlw hpl hu.b hv.b fun p1 d1=>?_
 have mp1:Mb L 102 3 16 p1:=wB hu hv (.inl rfl) d1
 refine aG (tms hpl hmi hti hwa hce hdr hsu hlw hL hw mp1 (by decide) (by decide) (by decide) (by decide) (by decide) (by decide) (by decide) fun z1 h5 d2=>?_)
 refine aQ (ao (aQ (ao (aq rfl (ao (aq rfl (aG ?_)))))))
 refine tms hpl hmi hti hwa hce hdr hsu hlw hL hw hu (by decide) (by decide) (by decide) (by decide) (by decide) (by decide) (by decide) fun z2 h6 d3=>?_
 have mz2:Mb L 300 30 64 z2:=(q9 hw hu (by decide) (by decide) d3).mono (by decide) (by decide) (by decide)
 refine ao (aQ (ao (aq rfl (ao (aq rfl (aG ?_))))))
 refine tms hpl hmi hti hwa hce hdr hsu hlw hL hw hv (by decide) (by decide) (by decide) (by decide) (by decide) (by decide) (by decide) fun z3 h7 d4=>?_
 have mz3:Mb L 300 30 64 z3:=(q9 hw hv (by decide) (by decide) d4).mono (by decide) (by decide) (by decide)
 refine aG (pls hpl hmi hti hwa hce hdr hsu hlw hpl mz2 mz3 fun z4 d5=>?_)
 rw [d2.same (mul_dis nu d1 d3 d4) d5]
 exact eq_same (yh rfl)
theorem w_6 {ns xs:List Int}{L n:Nat}{us vs ws:List Tm}{s6 s7:Option W}{h:Gh}(hL:L≤8)(hu:In L us)(hv:In L vs)(hw:In L ws)(lx:xs.length=L)(bx:Bd xs)(ec:h.c n=some (.lst (xs.map .int))) :
  tV pl mi ti wa ce dr su lw EF { nx:=fun _ h'=>(fun w _=>w=W.bl true:WK) W.non h',rt:=fun w _=>w=W.bl true } [some (.kls (ns.map .int)),some (.int L),some (smW us),some (smW vs),some (smW ws),some (.loc n),s6,s7,none,none,none,none,none] h:=by
 unfold tV
 refine aO (aY (fj (ao (aq rfl (aG (tup_c ec ?_))))))
 refine aF (σ':=[some (.kls (ns.map .int)),some (.int L),some (smW us),some (smW vs),some (smW ws),some (.tup (xs.map .int)),s6,s7,none,none,none,none,none]) rfl (bY (aO (aY (aQ (ao (aq rfl (ao (aq rfl (aG ?_)))))))))
 refine wls hpl hmi hti hwa hce hdr hsu hlw hlw hL hu.b lx bx ?_
 refine aF (σ':=[some (.kls (ns.map .int)),some (.int L),some (smW us),some (smW vs),some (smW ws),some (.tup (xs.map .int)),s6,s7,some (.int (wl xs L us)),none,none,none,none]) rfl (bY (aO (aY (aQ (ao (aq rfl (ao (aq rfl (aG ?_)))))))))
 refine wls hpl hmi hti hwa hce hdr hsu hlw hlw hL hv.b lx bx ?_
 refine aF (σ':=[some (.kls (ns.map .int)),some (.int L),some (smW us),some (smW vs),some (smW ws),some (.tup (xs.map .int)),s6,s7,some (.int (wl xs L us)),some (.int (wl xs L vs)),none,none,none]) rfl (bY (aO (jT (j7 (yQ ?_)))))
 refine ao (jg (ao (aq rfl (ao (aq rfl (aG (dJ rfl ?_)))))))
 refine ao (jg (ao (aq rfl (ao (aq rfl (aG (dJ rfl ?_)))))))
 refine ao (jg (ao (aq rfl (ao (aQ (ao (aq rfl (ao (aq rfl (aG ?_))))))))))
 refine wls hpl hmi hti hwa hce hdr hsu hlw hlw hL hw.b lx bx (aG (dJ rfl (aG (dJ rfl ?_))))
 have pr:∀ (i:Nat) (w:W),([.tup [smW us,.int (wl xs L us)],.tup [smW vs,.int (wl xs L vs)],.tup [smW ws,.int (wl xs L ws)]]:List W)[i]?=some w→∃ as,w=.tup [smW as,.int (wl xs L as)]∧In L as:=fun i w e=>by
  have hi:=(List.getElem?_eq_some_iff.mp e).1
  simp only [List.length_cons,List.length_nil] at hi
  match i,hi with
  | 0,_=>cases e;exact ⟨us,rfl,hu⟩
  | 1,_=>cases e;exact ⟨vs,rfl,hv⟩
  | 2,_=>cases e;exact ⟨ws,rfl,hw⟩
 refine xG (ws:=[.tup [smW us,.int (wl xs L us)],.tup [smW vs,.int (wl xs L vs)],.tup [smW ws,.int (wl xs L ws)]]) (o:=none) rfl (jP ?_)
 refine cP (fun i σ h'=>∃ s10 s11:Option W,σ = [some (.kls (ns.map .int)),some (.int L),some (smW us),some (smW vs),some (smW ws),some (.tup (xs.map .int)),s6,s7,some (.int (wl xs L us)),some (.int (wl xs L vs)),s10,s11,none]) ?_ ?_ ⟨none,none,rfl⟩
 ·rintro i w σ h' N hN e ⟨s10,s11,rfl⟩
  obtain ⟨as,rfl,ha⟩:=pr i w e
  refine eN rfl rfl (bN (aF (σ':=[some (.kls (ns.map .int)),some (.int L),some (smW us),some (smW vs),some (smW ws),some (.tup (xs.map .int)),s6,s7,some (.int (wl xs L us)),some (.int (wl xs L vs)),some (smW as),s11,none]) rfl (bN (aF (σ':=[some (.kls (ns.map .int)),some (.int L),some (smW us),some (smW vs),some (smW ws),some (.tup (xs.map .int)),s6,s7,some (.int (wl xs L us)),some (.int (wl xs L vs)),some (smW as),some (.int (wl xs L as)),none]) rfl (iW ?_)))))
  refine je (cD (aV (aQ (ao (aq rfl (ao (aq rfl (aG ?_))))))))
  exact wls hpl hmi hti hwa hce hdr hsu hlw hwa hL ha.b lx bx (aq rfl (oU (wQ (br_f (by simp) (eZ (hN _ _ ⟨_,_,rfl⟩))))))
 ·rintro σ h' ⟨s10,s11,rfl⟩
  exact bY (w_10 hpl hmi hti hwa hce hdr hsu hlw hL hu hv hw lx bx)
theorem in_of {L m:Nat}{us:List Tm}(hm:m≤8)(wf:WF L 101 us)(lu:us.length≤m)(su:(us.map (·.1)).Pairwise (· < ·))(pm:∀ t∈us,∀ p∈t.1,p≤((3:Nat):Int)):In L us:=
 ⟨by omega,su,fun t ht=>⟨(wf t ht).1,(wf t ht).2.1,(wf t ht).2.2.1,fun p hp=>⟨((wf t ht).2.2.2 p hp).1,pm t ht p hp⟩⟩⟩
theorem w_law (ns:List Int){h:Gh}:r_law pl mi ti wa ce dr su lw [.kls (ns.map .int)] h (fun w _=>w=.bl true) EF:=by
 unfold r_law
 refine iG rfl (σ:=[some (.kls (ns.map .int)),none,none,none,none,none,none,none,none,none,none,none,none]) rfl (aO (aY (aV (aQ (ao (aq rfl (ao (d7 (aG ?_)))))))))
 refine hce (by decide) (d7 (gD (by decide) ?_))
 obtain ⟨c0,c1⟩:=cB (ns.getD (0:Int).toNat 0) (b:=9) (by decide)
 obtain ⟨L,eL⟩:=Int.eq_ofNat_of_zero_le c0
 rw [eL] at c1 ⊢
 have hL:L≤8:=by omega
 have dsum:∀ {k j:Int} {s1:Sw} {h1:Gh} {Q:WK},0≤k→k≤900→0≤j→s1[0]?=some (some (.kls (ns.map .int)))→s1[1]?=some (some (.int (L:Int)))→(∀ us h',In L us→Q (smW us) h') →
   bB su EF (au (aD 0) (au (mC (.int k)) (au (aD 1) (au (mOp m6 (bB ce EF (au (aD 0) (au (mC (.int j)) bw))) (mC (.int 9))) (au (mC (.int 3)) bw))))) s1 h1 Q:=fun {k j s1 h1 Q} k0 k1 j0 v0 v1 q=>by
  refine aQ (ao (aq v0 (ao (d7 (ao (aq v1 (ao (aV ?_))))))))
  refine aQ (ao (aq v0 (ao (d7 (aG (hce j0 (d7 (gD (by decide) (ao (d7 (aG ?_)))))))))))
  obtain ⟨d0,d1⟩:=cB (ns.getD j.toNat 0) (b:=9) (by decide)
  obtain ⟨m,em⟩:=Int.eq_ofNat_of_zero_le d0
  rw [em] at d1 ⊢
  exact hsu (mo:=3) k0 k1 hL (by omega) (by decide) fun us h1 wf lu su1 pm g1=>q us h1 (in_of hpl hmi hti hwa hce hdr hsu hlw (m:=m) (by omega) wf lu su1 pm)
 refine aF (σ':=[some (.kls (ns.map .int)),some (.int L),none,none,none,none,none,none,none,none,none,none,none]) rfl (bY (aO (aY (dsum (by decide) (by decide) (by decide) rfl rfl fun us h1 hu=>?_))))
 refine aF (σ':=[some (.kls (ns.map .int)),some (.int L),some (smW us),none,none,none,none,none,none,none,none,none,none]) rfl (bY (aO (aY (dsum (by decide) (by decide) (by decide) rfl rfl fun vs h2 hv=>?_))))
 refine aF (σ':=[some (.kls (ns.map .int)),some (.int L),some (smW us),some (smW vs),none,none,none,none,none,none,none,none,none]) rfl (bY (aO (aY (dsum (by decide) (by decide) (by decide) rfl rfl fun ws h3 hw=>?_))))
 refine aF (σ':=[some (.kls (ns.map .int)),some (.int L),some (smW us),some (smW vs),some (smW ws),none,none,none,none,none,none,none,none]) rfl (bY (aO (aY (pG (ws:=[]) (fun R=>rfl) rfl fun g eg og xg=>?_))))
 refine aF (σ':=[some (.kls (ns.map .int)),some (.int L),some (smW us),some (smW vs),some (smW ws),some (.loc h3.nx),none,none,none,none,none,none,none]) rfl (bY (aO ?_))
 refine jD (j:=(L:Int)) (fun _=>rfl) (by omega) (by omega) (fun i σ k=>∃ (zs:List Int) (s6 s7:Option W),σ = [some (.kls (ns.map .int)),some (.int L),some (smW us),some (smW vs),some (smW ws),some (.loc h3.nx),s6,s7,none,none,none,none,none]∧zs.length=i∧Bd zs∧k.c h3.nx=some (.lst (zs.map .int))) ?_ ?_ ⟨[],none,none,rfl,rfl,fun _ h=>(nomatch h),eg⟩
 ·rintro i σ k N hN hi ⟨zs,s6,s7,rfl,e0,e1,e2⟩
  refine aF (σ':=[some (.kls (ns.map .int)),some (.int L),some (smW us),some (smW vs),some (smW ws),some (.loc h3.nx),some (.int (i:Int)),s7,none,none,none,none,none]) rfl (aO (aY (aV (aQ (ao (aq rfl (ao (aV (d7 (aq rfl (fB (ao (d7 (aG ?_))))))))))))))
  refine hdr (by omega) (by omega) (by decide) (by decide) fun ys hy=>?_
  match ys,hy with
  | [y],_=>
   refine d7 (jd (ws:=[.int y]) rfl rfl (aF (σ':=[some (.kls (ns.map .int)),some (.int L),some (smW us),some (smW vs),some (smW ws),some (.loc h3.nx),some (.int (i:Int)),some (.int y),none,none,none,none,none]) rfl (bY (jN (vg (aq rfl (oZ e2 ?_)))))))
   refine ao (aV (yQ (ao ?_)))
   refine aV (aV (aV (aq rfl (d7 (lX ⟨by decide,64,by decide,.lit rfl⟩ (d7 (gD (by decide) (d7 (nF (ao ?_))))))))))
   refine aV (aV (aV (aq rfl (d7 (lX ⟨by decide,64,by decide,.lit rfl⟩ (aV (d7 (aV (d7 (d7 (vA ⟨by decide,by decide,by decide⟩ ?_)))))))))))
   rw [c10]
   refine gk (.of (m:=64) (n:=64) (.lit rfl) (.lit rfl) (by decide) (by decide)) (gD (by decide) ?_)
   refine aV (d7 (d7 (vA ⟨by decide,by decide,by decide⟩ ?_)))
   rw [c10]
   refine nF (aG (dJ rfl ?_))
   have b1:=cB (y.fdiv 2) (b:=21) (by decide)
   have b2:=cB (y.fdiv 2) (b:=2*10000000000) (by decide)
   refine aV (aq rfl (d7 (gD (by decide) (kIxy (iM (by omega) (by omega)) (iM (by omega) (by omega)) fun z hz=>?_))))
   refine aG (app_g e2 (by rw [List.length_map];omega) fun g2 a1 a2 a3=>bY (hN _ _ ⟨zs++[z],_,_,rfl,by simp [e0],fun u hu=>?_,by rw [a1,List.map_append];rfl⟩))
   rcases List.mem_append.mp hu with hu | hu
   ·exact e1 u hu
   ·rw [List.mem_singleton.mp hu];exact hz
 ·rintro σ k ⟨zs,s6,s7,rfl,e0,e1,e2⟩
  exact bY (w_6 hpl hmi hti hwa hce hdr hsu hlw hL hu hv hw (by omega) e1 e2)
end
theorem law_ok (ns:List Int)(_:ns.length≤63):m_law [.kls (ns.map W.int)] g0 (fun w _=>w=.bl true) EF:=by
 have dr:qD dj:=w_draws w_cell
 have wt:WhX bO:=w_wt w_sotX
 have ti:TimX cZ:=w_times w_sotIX w_unp (w_pt w_pack) w_cp
 exact w_law (w_plus wt) (w_minus wt) ti (xX w_pup4 w_height4) w_cell dr (w_sum dr zE w_powers zq) w_lworth ns
end My
def PySem.W.Fast.tw3232880056128688986:Unit:=()
def PySem.W.Fast.tw11013817751509918834:Unit:=()
def PySem.W.Fast.tw8623414156808726015:Unit:=()
def PySem.W.Fast.tw9204777161998042352:Unit:=()
def PySem.W.Fast.tw2888340599549006704:Unit:=()
def PySem.W.Fast.tw3258891876773734278:Unit:=()
def PySem.W.Fast.tw7676020013738706571:Unit:=()
def PySem.W.Fast.tw1337627665886932334:Unit:=()
def PySem.W.Fast.tw321530031849966956:Unit:=()
def PySem.W.Fast.tw2032970412952981601:Unit:=()
def PySem.W.Fast.tw5755663664830903210:Unit:=()
def PySem.W.Fast.tw5609645285608112746:Unit:=()
def PySem.W.Fast.tw7708296656438964616:Unit:=()
def PySem.W.Fast.tw7709889485486452848:Unit:=()
def PySem.W.Fast.tw14279388734197637164:Unit:=()
def PySem.W.Fast.tw13220002971359112777:Unit:=()
open PySem PySem.W PyProof.Rows
set_option maxRecDepth 100000 in
set_option maxHeartbeats 0 in
theorem PySem.Challenge.cw_easelroom_k54_worths_go_along_holds : PySem.Challenge.rw_easelroom_k54_worths_go_along.Holds := by
 w_on;o_law;k_head;(case hw=>w_witness2)
 k_fill
 refine My.walk (l:=PySem.Challenge.rw_easelroom_k54_worths_go_along) rfl rfl (fun w h Y=>PySem.W.kIn_of Y) ?F
 case F=>
  intro w mg fa h KX G hmg
  refine' My.all_mk My.law_ok KX G hmg ?a0 ?l0 ?c0 ?k0 ?a1 ?l1 ?c1 ?k1 ?a2 ?l2 ?c2 ?k2 ?a3 ?l3 ?c3 ?k3 ?a4 ?l4 ?c4 ?k4 ?a5 ?l5 ?c5 ?k5 ?a6 ?l6 ?c6 ?k6 ?a7 ?l7 ?c7 ?k7 ?a8 ?l8 ?c8 ?k8 ?a9 ?l9 ?c9 ?k9 ?a10 ?l10 ?c10 ?k10 ?a11 ?l11 ?c11 ?k11 ?a12 ?l12 ?c12 ?k12 ?a13 ?l13 ?c13 ?k13 ?a14 ?l14 ?c14 ?k14 ?a15 ?l15 ?c15 ?k15 ?a16 ?l16 ?c16 ?k16 ?a17 ?l17 ?c17 ?k17 ?a18 ?l18 ?c18 ?k18 ?a19 ?l19 ?c19 ?k19 ?z_any ?z_dict ?z_enumerate ?z_len ?z_max ?z_range ?z_reversed ?z_sorted ?z_tuple ?z_zip ?gk_MOST_TERMS ?gk_MOST_POWER ?gk_MOST_PAIRS ?gk_FIELD
  (case a0 | l0 | c0 | k0 | a1 | l1 | c1 | k1 | a2 | l2 | c2 | k2 | a3 | l3 | c3 | k3 | a4 | l4 | c4 | k4 | a5 | l5 | c5 | k5 | a6 | l6 | c6 | k6 | a7 | l7 | c7 | k7 | a8 | l8 | c8 | k8 | a9 | l9 | c9 | k9=>k_is)
  (case a10 | l10 | c10 | k10 | a11 | l11 | c11 | k11 | a12 | l12 | c12 | k12 | a13 | l13 | c13 | k13 | a14 | l14 | c14 | k14 | a15 | l15 | c15 | k15 | a16 | l16 | c16 | k16 | a17 | l17 | c17 | k17 | a18 | l18 | c18 | k18 | a19 | l19 | c19 | k19=>k_is)
  (case z_any | z_dict | z_enumerate | z_len | z_max | z_range | z_reversed | z_sorted | z_tuple | z_zip | gk_MOST_TERMS | gk_MOST_POWER | gk_MOST_PAIRS | gk_FIELD=>k_is)
